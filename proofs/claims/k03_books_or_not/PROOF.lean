import PyProof.Rows.All
import Wide.All
import OpenK.AllK
import Wide.FinOn
import Lean
import PyProof.EqAt
import PyProof.EqKinds
import PyProof.TupleCall
import PyProof.NeKinds
import KE.KIsAll
import PyProof.ExcArgsOwn
import PySem.SetOps
import PyProof.TupleKey
import PyProof.SetKind
import PyProof.IsRules
import PyProof.Rows.SetFrom
import PyProof.Rows.SortShellK
import PyProof.DictKinds
import PyProof.FactsAll.tuple_2
import PyProof.SetRoads
import PyProof.AutoListH
import KE.RegKIsAll
import KE.RegKTryMore
import PySem.Challenge.RW_nohalfway_k03_books_or_not
set_option Elab.async false
set_option linter.all false
set_option maxRecDepth 100000
namespace L2
open PySem PySem.Spec PyProof.Rows
noncomputable abbrev Key := Sum Int Str
noncomputable def keyIs : Key → Value → Bool
  | .inl k, v => Value.isInt k v
  | .inr x, v => Value.isStrOf x v
noncomputable def keyH (w : World) : Key → Int
  | .inl k => hashInt k
  | .inr x => hashStr w x
theorem keyIs_shape : ∀ {k : Key} {v : Value}, keyIs k v = true → (∃ i t, k = Sum.inl i ∧ v = Value.int i t) ∨ (∃ x t, k = Sum.inr x ∧ v = Value.str x t)
  | .inl i, v, h => by
    obtain ⟨t, e⟩ := Value.isInt_shape (k := i) (v := v) h
    exact .inl ⟨i, t, rfl, e⟩
  | .inr x, v, h => by
    obtain ⟨t, e⟩ := Value.isStrOf_shape (x := x) (v := v) h
    exact .inr ⟨x, t, rfl, e⟩
theorem keyIs_int (i : Int) (t : Tok) : keyIs (.inl i) (.int i t) = true := by simp [keyIs, Value.isInt]
theorem keyIs_str (x : Str) (t : Tok) : keyIs (.inr x) (.str x t) = true := by simp [keyIs, Value.isStrOf]
theorem key_ll (a b : Int) : decide ((Sum.inl a : Key) = Sum.inl b) = (a == b) := by
  by_cases e : a = b
  · subst e; simp
  · have h : ¬ (Sum.inl a : Key) = Sum.inl b := fun q => e (Sum.inl.inj q)
    rw [decide_eq_false h]
    exact (beq_eq_false_iff_ne.mpr e).symm
theorem key_rr (a b : Str) : decide ((Sum.inr a : Key) = Sum.inr b) = decide (a = b) := by
  by_cases e : a = b
  · subst e; simp
  · have h : ¬ (Sum.inr a : Key) = Sum.inr b := fun q => e (Sum.inr.inj q)
    rw [decide_eq_false h, decide_eq_false e]
theorem key_lr (a : Int) (b : Str) : decide ((Sum.inl a : Key) = Sum.inr b) = false := decide_eq_false (fun q => nomatch q)
theorem key_rl (a : Str) (b : Int) : decide ((Sum.inr a : Key) = Sum.inl b) = false := decide_eq_false (fun q => nomatch q)
noncomputable def mixKind (prog : Program) (w : World) : PySem.KeyKind prog w Key where
  is := keyIs
  hash := keyH w
  inj := fun v a b ha hb => by
    rcases keyIs_shape ha with ⟨i, t, rfl, rfl⟩ | ⟨x, t, rfl, rfl⟩
    · rcases keyIs_shape hb with ⟨j, u, rfl, e⟩ | ⟨y, u, rfl, e⟩
      · injection e with e1 _; rw [e1]
      · exact nomatch e
    · rcases keyIs_shape hb with ⟨j, u, rfl, e⟩ | ⟨y, u, rfl, e⟩
      · exact nomatch e
      · injection e with e1 _; rw [e1]
  byValue := fun k v h => by
    rcases keyIs_shape h with ⟨i, t, rfl, rfl⟩ | ⟨x, t, rfl, rfl⟩ <;> rfl
  pyHash := fun hv h => by
    rcases keyIs_shape hv with ⟨i, t, rfl, rfl⟩ | ⟨x, t, rfl, rfl⟩
    · exact wpAny_pyHash_int h
    · exact wpAny_pyHash_str h
  eqBool := fun hu hv h => by
    rcases keyIs_shape hu with ⟨i, t, rfl, rfl⟩ | ⟨x, t, rfl, rfl⟩
    · rcases keyIs_shape hv with ⟨j, u, rfl, rfl⟩ | ⟨y, u, rfl, rfl⟩
      · rw [key_ll] at h; exact wpAny_eqBool_int h
      · rw [key_lr] at h; exact SeqAt.EqAt.int_str i t y u _ _ _ _ h
    · rcases keyIs_shape hv with ⟨j, u, rfl, rfl⟩ | ⟨y, u, rfl, rfl⟩
      · rw [key_rl] at h; exact SeqAt.EqAt.str_int x t j u _ _ _ _ h
      · rw [key_rr] at h; exact wpAny_eqBool_str h
  «strs» := fun k x t v h => by
    rcases keyIs_shape h with ⟨i, u, rfl, e⟩ | ⟨y, u, rfl, e⟩
    · exact nomatch e
    · injection e with e1 _
      subst e1
      cases v <;> rfl
theorem mixKind_int (prog : Program) (w : World) (i : Int) (t : Tok) : (mixKind prog w).is (.inl i) (.int i t) = true := keyIs_int i t
theorem mixKind_str (prog : Program) (w : World) (x : Str) (t : Tok) : (mixKind prog w).is (.inr x) (.str x t) = true := keyIs_str x t
end L2
namespace L2
open PySem PySem.Spec PyProof.Rows
inductive V where
  | non | bl (b : Bool) | int (i : Int) | str (x : Str) | byt (b : Array UInt8) | flt (b : UInt64) | ref (a : Addr) | ty (n : String)
  deriving DecidableEq
noncomputable def RelV : V → Value → Prop
  | .non, u => u = Value.none
  | .bl b, u => u = Value.bool b
  | .int i, u => ∃ t, u = Value.int i t
  | .str x, u => ∃ t, u = Value.str x t
  | .byt b, u => ∃ t, u = Value.bytes b t
  | .flt b, u => ∃ t, u = Value.float b t
  | .ref a, u => u = Value.ref a
  | .ty n, u => u = Value.type n
noncomputable abbrev Vals : List V → List Value → Prop := Paired RelV
theorem Vals.length {xs : List V} {us : List Value} (r : Vals xs us) : xs.length = us.length := Paired.length r
theorem Vals.get : ∀ {xs : List V} {us : List Value} {i : Nat} {x : V}, Vals xs us → xs[i]? = some x → ∃ u, us[i]? = some u ∧ RelV x u
  | _, _, _, _, .nil, e => by simp at e
  | _, _, 0, _, .cons r _, e => by simp at e; subst e; exact ⟨_, rfl, r⟩
  | _, _, i + 1, x, .cons _ t, e => by
    obtain ⟨u, h1, h2⟩ := Vals.get (i := i) (x := x) t (by simpa using e)
    exact ⟨u, by simpa using h1, h2⟩
theorem Vals.set {x : V} {u : Value} (r : RelV x u) : ∀ {xs : List V} {us : List Value} (i : Nat), Vals xs us → Vals (xs.set i x) (us.set i u)
  | _, _, _, .nil => .nil
  | _, _, 0, .cons _ t => .cons r t
  | _, _, i + 1, .cons q t => .cons q (Vals.set r i t)
theorem Vals.append : ∀ {xs ys : List V} {us ws : List Value}, Vals xs us → Vals ys ws → Vals (xs ++ ys) (us ++ ws)
  | _, _, _, _, .nil, s => s
  | _, _, _, _, .cons r t, s => .cons r (Vals.append t s)
theorem Vals.take : ∀ {xs : List V} {us : List Value} (n : Nat), Vals xs us → Vals (xs.take n) (us.take n)
  | _, _, 0, _ => .nil
  | _, _, _ + 1, .nil => .nil
  | _, _, n + 1, .cons r t => .cons r (Vals.take n t)
theorem Vals.drop : ∀ {xs : List V} {us : List Value} (n : Nat), Vals xs us → Vals (xs.drop n) (us.drop n)
  | _, _, 0, r => r
  | _, _, _ + 1, .nil => .nil
  | _, _, n + 1, .cons _ t => Vals.drop n t
noncomputable def RelO : Option V → Option Value → Prop
  | some v, some u => RelV v u
  | none, none => True
  | _, _ => False
noncomputable def KV {κ : Type} : List (κ × V) → List (κ × Value) → Prop := Paired fun (p : κ × V) (q : κ × Value) => p.1 = q.1 ∧ RelV p.2 q.2
noncomputable def kV : Key → V
  | .inl i => .int i
  | .inr x => .str x
inductive HO where
  | lst (xs : List V)
  | tup (xs : List V)
  | dK (kvs : List (Key × V)) | dT (kvs : List (List Key × V))
  | set (S : Int → Bool) (n : Nat)
  | ins (C dx : Addr) (fs : List (Str × V))
  | own (x : Addr)
  | xd (fs : List (Str × V))
  | met (f x : Addr)
  | rng (lo hi : Int)
  | frz (o : Obj) (u : HO)
  | tbl (ps : Array Value)
  | ext (φ : Heap → Prop)
noncomputable abbrev Hp := Addr → Option HO
noncomputable def upd (H : Hp) (a : Addr) (o : HO) : Hp := fun b => if b = a then some o else H b
theorem upd_same {H : Hp} {a : Addr} {o : HO} : upd H a o a = some o := by unfold upd; rw [if_pos rfl]
theorem upd_ne {H : Hp} {a b : Addr} {o : HO} (h : b ≠ a) : upd H a o b = H b := by unfold upd; rw [if_neg h]
theorem ne_of {H : Hp} {a b : Addr} {o u : HO} (h : H a = some o) (h' : H b = some u) (d : o ≠ u) : a ≠ b := by
  intro e; subst e; rw [h] at h'; exact d (Option.some.inj h')
theorem ne_of_none {H : Hp} {a b : Addr} {o : HO} (h : H a = some o) (h' : H b = none) : a ≠ b := by
  intro e; subst e; rw [h] at h'; cases h'
section
variable (P : Program) (w : World)
noncomputable def ObjOk (H : Hp) (h : Heap) (a : Addr) : HO → Prop
  | .lst xs => xs.length ≤ sizeLine ∧ ∃ (its : List Value) (n : Nat), Vals xs its ∧ h.get? a = some { cls := .type "list", data := .seq its.toArray n }
  | .tup xs => xs.length ≤ sizeLine ∧ ∃ its : List Value, Vals xs its ∧ IsTup h a its.toArray
  | .dK kvs => kvs.length ≤ sizeLine ∧ (a == sysModules) = false ∧ ∃ vs, KV kvs vs ∧ h.DictOf (mixKind P w) a vs
  | .dT kvs => kvs.length ≤ sizeLine ∧ (a == sysModules) = false ∧ ∃ xs : List (List Key × Addr × Value),
      Paired (fun (p : List Key × V) (q : List Key × Addr × Value) => p.1 = q.1 ∧ H q.2.1 = some (.tup (p.1.map kV)) ∧ RelV p.2 q.2.2) kvs xs ∧
      ∃ o es ep, h.get? a = some o ∧ o.ExactDict ∧ o.data = .dict es ep ∧ es.toList = xs.map (entryOfKey (tupleKind (mixKind P w))) ∧ (xs.map (·.1)).Nodup
  | .set S n => h.SetOf (intKind P w) a S n
  | .ins C dx fs => H dx = some (.own a) ∧ fs.length ≤ 1000 ∧ dx ≠ a ∧ h.get? a = some (PySem.W.instObj C dx) ∧
      ∃ mA, h.Ns1 dx mA ∧ (∀ f, RelO (fs.lookup f) (mA f)) ∧ PySem.Within mA (fs.map (·.1))
  | .own _ => ∃ o, h.get? a = some o
  | .xd fs => ∃ mA, h.Ns1 a mA ∧ ∀ f, RelO (fs.lookup f) (mA f)
  | .rng lo hi => ∃ t u v, h.get? a = some { cls := .type "range", data := .fields #[.int lo t, .int hi u, .int 1 v] }
  | .frz o u => h.get? a = some o ∧ ObjOk H h a u
  | .tbl ps => h.get? a = some { cls := .none, data := .fields ps }
  | .met f x => h.get? a = some (PySem.W.methodObj (.ref f) (.ref x))
  | .ext φ => φ h ∧ (∃ o, h.get? a = some o) ∧ ∀ h1 h2 : Heap, φ h1 → (∀ o, h1.get? a = some o → h2.get? a = some o) → φ h2
noncomputable def HOk (H : Hp) (h : Heap) : Prop := ∀ a o, H a = some o → ObjOk P w H h a o
end
section
variable {P : Program} {w : World} {H H' : Hp} {h h' : Heap} {a : Addr} {o : HO}
theorem ObjOk.lt (x : ObjOk P w H h a o) : a < h.objs.size := by
  cases o with
  | lst xs => obtain ⟨_, _, _, _, e⟩ := x; exact Heap.lt_size e
  | tup xs => obtain ⟨_, _, _, p⟩ := x; exact p.lt
  | dK kvs => obtain ⟨_, _, _, _, o, _, _, e, _⟩ := x; exact Heap.lt_size e
  | dT kvs => obtain ⟨_, _, _, _, o, _, _, e, _⟩ := x; exact Heap.lt_size e
  | set S n => obtain ⟨o, _, _, _, e, _⟩ := x; exact Heap.lt_size e
  | ins C dx fs => obtain ⟨_, _, _, e, _⟩ := x; exact Heap.lt_size e
  | own y => obtain ⟨_, e⟩ := x; exact Heap.lt_size e
  | xd fs => obtain ⟨_, ⟨_, _, _, e, _⟩, _⟩ := x; exact Heap.lt_size e
  | rng lo hi => obtain ⟨_, _, _, e⟩ := x; exact Heap.lt_size e
  | frz ob u => obtain ⟨e, _⟩ := x; exact Heap.lt_size e
  | tbl ps => exact Heap.lt_size (show h.get? a = some _ from x)
  | met f y => exact Heap.lt_size (show h.get? a = some _ from x)
  | ext φ => obtain ⟨_, ⟨_, e⟩, _⟩ := x; exact Heap.lt_size e
theorem Paired.mapP {α β : Type} {F G : α → β → Prop} : ∀ {l₁ : List α} {l₂ : List β}, Paired F l₁ l₂ → (∀ a b, F a b → G a b) → Paired G l₁ l₂
  | _, _, .nil, _ => .nil
  | _, _, .cons r t, f => .cons (f _ _ r) (Paired.mapP t f)
theorem ObjOk.stay (x : ObjOk P w H h a o) (k : ∀ b u, (b = a ∨ H b = some (.own a)) → h.get? b = some u → h'.get? b = some u)
    (ho : ∀ b, H b = some (.own a) → H' b = some (.own a)) (ht : ∀ b xs, H b = some (.tup xs) → H' b = some (.tup xs)) : ObjOk P w H' h' a o := by
  induction o with
  | lst xs => obtain ⟨z, its, n, r, e⟩ := x; exact ⟨z, its, n, r, k _ _ (.inl rfl) e⟩
  | tup xs => obtain ⟨z, its, r, ob, e, c⟩ := x; exact ⟨z, its, r, ob, k _ _ (.inl rfl) e, c⟩
  | dK kvs => obtain ⟨z, y, vs, r, ob, es, ep, e, c⟩ := x; exact ⟨z, y, vs, r, ob, es, ep, k _ _ (.inl rfl) e, c⟩
  | dT kvs =>
    obtain ⟨z, y, xs, r, ob, es, ep, e, c⟩ := x
    exact ⟨z, y, xs, Paired.mapP r fun p q z => ⟨z.1, ht _ _ z.2.1, z.2.2⟩, ob, es, ep, k _ _ (.inl rfl) e, c⟩
  | set S n => obtain ⟨ob, es, ep, t, e, c⟩ := x; exact ⟨ob, es, ep, t, k _ _ (.inl rfl) e, c⟩
  | ins C dx fs =>
    obtain ⟨d, z, ne, e, mA, ⟨od, es, ep, e2, c⟩, r⟩ := x
    exact ⟨ho _ d, z, ne, k _ _ (.inl rfl) e, mA, ⟨od, es, ep, k _ _ (.inr d) e2, c⟩, r⟩
  | own y => obtain ⟨ob, e⟩ := x; exact ⟨ob, k _ _ (.inl rfl) e⟩
  | xd fs => obtain ⟨mA, ⟨od, es, ep, e, c⟩, r⟩ := x; exact ⟨mA, ⟨od, es, ep, k _ _ (.inl rfl) e, c⟩, r⟩
  | rng lo hi => obtain ⟨t, u, v, e⟩ := x; exact ⟨t, u, v, k _ _ (.inl rfl) e⟩
  | frz ob u ih => obtain ⟨e, q⟩ := x; exact ⟨k _ _ (.inl rfl) e, ih q⟩
  | tbl ps =>
    have e : h.get? a = some { cls := .none, data := .fields ps } := x
    show h'.get? a = some { cls := .none, data := .fields ps }
    exact k a _ (.inl rfl) e
  | met f y =>
    have e : h.get? a = some (PySem.W.methodObj (.ref f) (.ref y)) := x
    show h'.get? a = some (PySem.W.methodObj (.ref f) (.ref y))
    exact k a _ (.inl rfl) e
  | ext φ => obtain ⟨p, ⟨o, e⟩, st⟩ := x; exact ⟨st _ _ p fun o q => k _ _ (.inl rfl) q, ⟨o, k _ _ (.inl rfl) e⟩, st⟩
theorem HOk.lt (x : HOk P w H h) (e : H a = some o) : a < h.objs.size := (x a o e).lt
theorem HOk.fresh (x : HOk P w H h) (e : h.objs.size ≤ a) : H a = none := by
  cases q : H a with
  | none => rfl
  | some u => exact absurd (Nat.lt_of_lt_of_le (x.lt q) e) (Nat.lt_irrefl _)
theorem HOk.kept (x : HOk P w H h) (k : ∀ b u, h.get? b = some u → h'.get? b = some u) : HOk P w H h' := fun a o e =>
  (x a o e).stay (fun b u _ q => k b u q) (fun _ q => q) fun _ _ q => q
theorem HOk.laid (x : HOk P w H h) (k : ∀ b u, h.get? b = some u → h'.get? b = some u) (hp : h.objs.size ≤ a) (new : ObjOk P w (upd H a o) h' a o) : HOk P w (upd H a o) h' := fun b u e => by
  have hn := x.fresh hp
  by_cases hb : b = a
  · subst hb; rw [upd_same] at e; cases e; exact new
  · rw [upd_ne hb] at e
    exact (x b u e).stay (fun c v _ q => k c v q) (fun c q => by rw [upd_ne (ne_of_none q hn)]; exact q) fun c xs q => by rw [upd_ne (ne_of_none q hn)]; exact q
end
noncomputable def Rd (H : Hp) (a : Addr) (u : HO) : Prop := H a = some u ∨ ∃ o, H a = some (.frz o u)
theorem Rd.of {H : Hp} {a : Addr} {u : HO} (h : H a = some u) : Rd H a u := .inl h
theorem Rd.ok {P : Program} {w : World} {H : Hp} {h : Heap} {a : Addr} {u : HO} (r : Rd H a u) (x : HOk P w H h) : ObjOk P w H h a u := by
  rcases r with r | ⟨o, r⟩
  · exact x a u r
  · obtain ⟨_, q⟩ := x a _ r
    exact q
noncomputable def Mut : Option HO → Prop
  | some (.lst _) => True
  | some (.dK _) => True
  | some (.dT _) => True
  | some (.set _ _) => True
  | some (.ins _ _ _) => True
  | some (.ext _) => True
  | _ => False
section
variable {P : Program} {w : World} {H : Hp} {h h' : Heap} {x e : Addr} {o' : HO}
theorem HOk.write (ok : HOk P w H h) (mu : Mut (H x)) (he : e = x ∨ H e = some (.own x)) (k : ∀ b u, b ≠ e → h.get? b = some u → h'.get? b = some u) (heo : ∃ u, h'.get? e = some u)
    (new : ObjOk P w (upd H x o') h' x o') : HOk P w (upd H x o') h' := fun b u q => by
  have nown : ∀ c y, H c = some (.own y) → c ≠ x := fun c y r z => by subst z; rw [r] at mu; exact mu
  have ntup : ∀ c xs, H c = some (.tup xs) → c ≠ x := fun c xs r z => by subst z; rw [r] at mu; exact mu
  by_cases hb : b = x
  · subst hb; rw [upd_same] at q; cases q; exact new
  · rw [upd_ne hb] at q
    by_cases hbe : b = e
    · have q' : H b = some (.own x) := by
        rcases he with z | z
        · exact absurd (hbe.trans z) hb
        · rw [hbe]; exact z
      rw [q] at q'; cases q'
      obtain ⟨v, hv⟩ := heo
      exact ⟨v, by rw [hbe]; exact hv⟩
    · refine (ok b u q).stay (fun c v hc r => k c v ?_ r) (fun c r => by rw [upd_ne (nown c b r)]; exact r) fun c xs r => by rw [upd_ne (ntup c xs r)]; exact r
      rcases hc with rfl | hc
      · exact hbe
      · rintro rfl
        rcases he with z | z
        · exact nown c b hc z
        · rw [hc] at z; cases z; exact hb rfl
end
structure Un (fs ex : List Addr) (H H' : Hp) (h h' : Heap) : Prop where
  keep : ∀ b o, h.get? b = some o → H b = none → b ∉ fs → b ∉ ex → h'.get? b = some o
  slot : ∀ b o, h.get? b = some o → H b = none → b ∈ fs → b ∉ ex → ∃ sl, h'.get? b = some { o with slots := sl }
  free : ∀ b o, h.get? b = some o → H b = none → b ∉ ex → H' b = none
  there : ∀ b o, h.get? b = some o → b ∉ ex → ∃ o', h'.get? b = some o'
  tups : ∀ b xs, H b = some (.tup xs) → H' b = some (.tup xs)
  frzs : ∀ b o u, H b = some (.frz o u) → H' b = some (.frz o u)
  tbls : ∀ b ps, H b = some (.tbl ps) → ∃ more, H' b = some (.tbl (ps ++ more))
section
variable {fs fs' ex ex' : List Addr} {H H1 H2 : Hp} {h h1 h2 h' : Heap} {a x e : Addr} {o : HO}
theorem Un.any (u : Un fs ex H H1 h h1) {b : Addr} {ob : Obj} (q : h.get? b = some ob) (n : H b = none) (hx : b ∉ ex) : ∃ sl, h1.get? b = some { ob with slots := sl } := by
  by_cases hb : b ∈ fs
  · exact u.slot b ob q n hb hx
  · exact ⟨ob.slots, u.keep b ob q n hb hx⟩
theorem Un.trans (a : Un fs ex H H1 h h1) (b : Un fs ex H1 H2 h1 h2) : Un fs ex H H2 h h2 where
  keep := fun c ob q n hc hx => b.keep c ob (a.keep c ob q n hc hx) (a.free c ob q n hx) hc hx
  slot := fun c ob q n hc hx => by
    obtain ⟨sl, e1⟩ := a.slot c ob q n hc hx
    obtain ⟨sl', e2⟩ := b.slot c _ e1 (a.free c ob q n hx) hc hx
    exact ⟨sl', e2⟩
  free := fun c ob q n hx => by
    obtain ⟨o', e1⟩ := a.there c ob q hx
    exact b.free c o' e1 (a.free c ob q n hx) hx
  there := fun c ob q hx => by
    obtain ⟨o', e1⟩ := a.there c ob q hx
    exact b.there c o' e1 hx
  tups := fun c xs q => b.tups c xs (a.tups c xs q)
  frzs := fun c ob xs q => b.frzs c ob xs (a.frzs c ob xs q)
  tbls := fun c ps q => by
    obtain ⟨m1, e1⟩ := a.tbls c ps q
    obtain ⟨m2, e2⟩ := b.tbls c _ e1
    exact ⟨m1 ++ m2, by rw [e2, Array.append_assoc]⟩
theorem Un.kept (k : ∀ b u, h.get? b = some u → h'.get? b = some u) : Un fs ex H H h h' :=
  ⟨fun b ob q _ _ _ => k b ob q, fun b ob q _ _ _ => ⟨ob.slots, k b ob q⟩, fun _ _ _ n _ => n, fun b ob q _ => ⟨ob, k b ob q⟩, fun _ _ q => q, fun _ _ _ q => q, fun _ ps q => ⟨#[], by rw [q]; simp⟩⟩
theorem Un.refl : Un fs ex H H h h := Un.kept fun _ _ q => q
theorem Un.laid (k : ∀ b u, h.get? b = some u → h'.get? b = some u) (hp : h.objs.size ≤ a) (hn : H a = none) : Un fs ex H (upd H a o) h h' where
  keep := fun b u q _ _ _ => k b u q
  slot := fun b u q _ _ _ => ⟨u.slots, k b u q⟩
  free := fun b u q n _ => by rw [upd_ne (Nat.ne_of_lt (Nat.lt_of_lt_of_le (Heap.lt_size q) hp))]; exact n
  there := fun b u q _ => ⟨u, k b u q⟩
  tups := fun b xs q => by rw [upd_ne (ne_of_none q hn)]; exact q
  frzs := fun b u xs q => by rw [upd_ne (ne_of_none q hn)]; exact q
  tbls := fun b ps q => ⟨#[], by rw [upd_ne (ne_of_none q hn), q]; simp⟩
theorem Un.write (mu : Mut (H x)) (he : e = x ∨ H e = some (.own x)) (k : ∀ b u, b ≠ e → h.get? b = some u → h'.get? b = some u) (heo : ∃ u, h'.get? e = some u) : Un fs ex H (upd H x o) h h' := by
  have hx : ∀ b, H b = none → b ≠ x := fun b n z => by subst z; rw [n] at mu; exact mu
  have hb : ∀ b, H b = none → b ≠ e := fun b n z => by
    subst z
    rcases he with r | r
    · exact hx b n r
    · rw [n] at r; cases r
  have hm : ∀ b u, H b = some u → ¬ Mut (some u) → b ≠ x := fun b u q nm z => by subst z; rw [q] at mu; exact nm mu
  refine ⟨fun b u q n _ _ => k b u (hb b n) q, fun b u q n _ _ => ⟨u.slots, k b u (hb b n) q⟩, fun b u q n _ => by rw [upd_ne (hx b n)]; exact n, fun b u q _ => ?_,
    fun b xs q => by rw [upd_ne (hm b _ q fun z => z)]; exact q, fun b u xs q => by rw [upd_ne (hm b _ q fun z => z)]; exact q, fun b ps q => ⟨#[], by rw [upd_ne (hm b _ q fun z => z), q]; simp⟩⟩
  by_cases hbe : b = e
  · subst hbe; exact heo
  · exact ⟨u, k b u hbe q⟩
end
noncomputable def trk (h : Heap) (H : Hp) : List Addr := (List.range h.objs.size).filter fun a => (H a).isSome
noncomputable def hidT (h : Heap) (H : Hp) : Heap := PySem.W.hideAll h (trk h H)
theorem hidT_size (h : Heap) (H : Hp) : (hidT h H).objs.size = h.objs.size := PySem.W.hideAll_size _ _
theorem hidT_get {h : Heap} {H : Hp} {b : Addr} {o : Obj} (e : h.get? b = some o) (n : H b = none) : (hidT h H).get? b = some o :=
  PySem.W.hideAll_get _ e fun hm => by
    have q : (H b).isSome = true := (List.mem_filter.mp hm).2
    rw [n] at q; simp at q
theorem of_hidT {h : Heap} {H : Hp} {b : Addr} {o : Obj} (e : (hidT h H).get? b = some o) : h.get? b = some o ∧ H b = none := by
  have e' : h.get? b = some o := PySem.W.of_hideAll (trk h H) e
  refine ⟨e', ?_⟩
  cases q : H b with
  | none => rfl
  | some x =>
    have hm : b ∈ trk h H := List.mem_filter.mpr ⟨List.mem_range.mpr (Heap.lt_size e'), by simp [q]⟩
    have z : (hidT h H).get? b = none := PySem.W.hideAll_none (trk h H) hm
    rw [z] at e; cases e
noncomputable def allNews (g h : Heap) (L : Addr) : List (Addr × Obj) := (List.range h.objs.size).filterMap fun a => if a = L ∨ (g.get? a).isSome = true then none else (h.get? a).map fun o => (a, o)
noncomputable def rest (g h : Heap) (L d : Addr) : List (Addr × Obj) := (allNews g h L).filter fun p => decide (p.1 ≠ d)
end L2
namespace L2
open PySem PySem.Spec PyProof.Rows
structure Mod (K : PySem.W.Frag) (mg : Str → Option Value) (base : Heap) : Prop where
  kin : K.In base
  glob : base.Ns mainGlobals mg
  blt : ∃ mb, base.Ns builtinsNs mb ∧ ∀ x : Str, x ≠ "__name__" → mb x = bootBuiltins x
  nolimit : base.NoLimit
structure Cx where
  prog : Program
  w : World
  K : PySem.W.Frag
  mg : Str → Option Value
  base : Heap
  A : Around
  N : List Str
  s₀ : Shared
  H₀ : Hp
  env : Env
  outer : List Env
  stack : List Env
  ex : List Addr
  fn : Str → Bool
  calm : Bool
  pn : List (Addr × Obj)
  xe : Value → Shared → Prop
noncomputable def frs (l : List Env) : List Addr := l.filterMap (·.frame)
noncomputable abbrev Cx.fs (X : Cx) : List Addr := frs X.outer
noncomputable def Vis (sc : Scope) (x : Str) : Prop := sc.names.lookup x = some .local ∨ sc.names.lookup x = some .cell ∨ sc.names.lookup x = some .free
noncomputable def Loc (sc : Scope) (x : Str) : Prop := sc.names.lookup x = some .local ∨ sc.names.lookup x = some .cell
noncomputable def Look (env : Env) (h : Heap) (m : Str → Option Value) (x : Str) (u : Value) : Prop :=
  (env.kindOf x = some .local ∧ m x = some u) ∨ ((env.kindOf x = some .cell ∨ env.kindOf x = some .free) ∧ ∃ c, env.cells.lookup x = some c ∧ h.IsCell c (some u))
structure Cx.Ok (X : Cx) : Prop where
  mod : Mod X.K X.mg X.base
  kind : X.env.scope.kind = .function
  glob : X.env.globals = mainGlobals
  blt : X.env.builtins = builtinsNs
  above : X.s₀.heap.objs.size ≤ X.env.locals
  inj : ∀ x y c, X.env.cells.lookup x = some c → X.env.cells.lookup y = some c → x = y
  has : ∀ x, (X.env.kindOf x = some .cell ∨ X.env.kindOf x = some .free) → ∃ c, X.env.cells.lookup x = some c
  cab : ∀ x c, X.fn x = true → X.env.cells.lookup x = some c → X.s₀.heap.objs.size ≤ c
  hd : X.calm = true → X.A.handled = none
  frames : X.A.frames = some X.stack
  stk : X.stack = X.outer ∨ (X.stack = X.env :: X.outer ∧ X.env.frame = some X.env.locals)
  exf : ∀ b ∈ X.ex, b ≠ X.env.locals ∧ ∀ x c, X.env.cells.lookup x = some c → c ≠ b
  bs : ∀ b o, X.base.get? b = some o → X.s₀.heap.get? b = some o ∧ X.H₀ b = none
  bsz : X.base.objs.size ≤ X.s₀.heap.objs.size
  noex : ∀ b o, X.base.get? b = some o → b ∉ X.ex
  exfs : ∀ b ∈ X.ex, b ∉ X.fs
  funs : X.s₀.heap.FunFrames X.base X.outer
  frf : ∀ b ∈ X.fs, X.H₀ b = none
structure Inv (X : Cx) (pins : List (Addr × Obj)) (σ : List (Option V)) (H : Hp) (s : Shared) : Prop where
  ok : X.Ok
  os : s.os = X.s₀.os
  bare : AllBare s.gens
  base : Un X.fs X.ex X.H₀ H X.s₀.heap s.heap
  loc : ∃ m, s.heap.Ns X.env.locals m ∧ ∀ (i : Nat) (x : Str) (v : V), X.N[i]? = some x → σ[i]? = some (some v) → Vis X.env.scope x → ∃ u, RelV v u ∧ Look X.env s.heap m x u
  cell : ∀ x c, X.env.cells.lookup x = some c → ∃ v, s.heap.IsCell c v
  free : H X.env.locals = none
  freeC : ∀ x c, X.env.cells.lookup x = some c → H c = none
  pin : ∀ p ∈ X.pn ++ pins, s.heap.get? p.1 = some p.2 ∧ H p.1 = none ∧ p.1 ≠ X.env.locals ∧ p.1 ∉ X.fs ∧ ∀ v, p.2.data ≠ .cell v
  hok : HOk X.prog X.w H s.heap
  len : σ.length = X.N.length
section
variable {X : Cx} {pins : List (Addr × Obj)} {σ : List (Option V)} {H H' : Hp} {s : Shared} {h' : Heap}
theorem Cx.Ok.nofr (ok : X.Ok) {b : Addr} {o : Obj} (e : X.base.get? b = some o) : b ∉ X.fs := fun hb => by
  have := (ok.funs.mem hb).1
  rw [e] at this; cases this
theorem Inv.bs (I : Inv X pins σ H s) : ∀ b o, X.base.get? b = some o → s.heap.get? b = some o ∧ H b = none := fun b o e =>
  ⟨I.base.keep b o (I.ok.bs b o e).1 (I.ok.bs b o e).2 (I.ok.nofr e) (I.ok.noex b o e), I.base.free b o (I.ok.bs b o e).1 (I.ok.bs b o e).2 (I.ok.noex b o e)⟩
theorem Inv.bk (I : Inv X pins σ H s) : ∀ b o, X.base.get? b = some o → s.heap.get? b = some o := fun b o e => (I.bs b o e).1
theorem Inv.mod (I : Inv X pins σ H s) : Mod X.K X.mg X.base := I.ok.mod
theorem Inv.kIn (I : Inv X pins σ H s) : X.K.In s.heap := I.ok.mod.kin.keeps I.bk
theorem Inv.lt (I : Inv X pins σ H s) : X.env.locals < s.heap.objs.size := let ⟨_, hn, _⟩ := I.loc; hn.lt
theorem Inv.sz (I : Inv X pins σ H s) : X.s₀.heap.objs.size ≤ s.heap.objs.size := Nat.le_trans I.ok.above (Nat.le_of_lt I.lt)
theorem Inv.nofs (I : Inv X pins σ H s) {a : Addr} (h : s.heap.objs.size ≤ a) : a ∉ X.fs := fun hb => by
  obtain ⟨_, o, ho, _⟩ := I.ok.funs.mem hb
  exact absurd (Nat.lt_of_lt_of_le (Heap.lt_size ho) (Nat.le_trans I.sz h)) (Nat.lt_irrefl _)
theorem Inv.cne (I : Inv X pins σ H s) : ∀ x c, X.env.cells.lookup x = some c → c ≠ X.env.locals := fun x c e z => by
  obtain ⟨v, o, ho, hd⟩ := I.cell x c e
  obtain ⟨m, ⟨o', es, ep, ho', hd', _⟩, _⟩ := I.loc
  rw [z, ho'] at ho; cases ho; rw [hd'] at hd; cases hd
theorem Inv.funs (I : Inv X pins σ H s) : s.heap.FunFrames X.base X.outer := by
  have all : ∀ (l : List Env), (∀ b ∈ frs l, b ∈ X.fs) → X.s₀.heap.FunFrames X.base l → s.heap.FunFrames X.base l := by
    intro l
    induction l with
    | nil => intro _ _; trivial
    | cons env r ih =>
      intro hs hl
      obtain ⟨hk, ⟨L, o, hf, hn, ho, hd⟩, hr⟩ := hl
      have hL : L ∈ X.fs := hs L (by unfold frs; rw [List.filterMap_cons, hf]; exact List.mem_cons_self)
      obtain ⟨sl, e⟩ := I.base.slot L o ho (I.ok.frf L hL) hL fun z => I.ok.exfs L z hL
      exact ⟨hk, ⟨L, _, hf, hn, e, hd⟩, ih (fun b hb => hs b (by unfold frs; rw [List.filterMap_cons, hf]; exact List.mem_cons_of_mem _ hb)) hr⟩
  exact all X.outer (fun _ hb => hb) I.ok.funs
theorem Inv.stack (I : Inv X pins σ H s) : s.heap.FunFrames X.base X.stack := by
  rcases I.ok.stk with e | ⟨e, hf⟩
  · rw [e]; exact I.funs
  · rw [e]
    obtain ⟨m, hn, _⟩ := I.loc
    refine .cons (by rw [I.ok.kind]; decide) hf hn ?_ I.funs
    exact Heap.get?_none_of_le (Nat.le_trans I.ok.bsz I.ok.above)
theorem Inv.stkSub (I : Inv X pins σ H s) : ∀ b ∈ frs X.stack, b ∈ X.env.locals :: X.fs := fun b hb => by
  rcases I.ok.stk with e | ⟨e, hf⟩
  · rw [e] at hb; exact List.mem_cons_of_mem _ hb
  · rw [e] at hb
    unfold frs at hb
    rw [List.filterMap_cons, hf] at hb
    exact hb
theorem Inv.stkFree (I : Inv X pins σ H s) : ∀ b ∈ frs X.stack, H b = none := fun b hb => by
  rcases List.mem_cons.mp (I.stkSub b hb) with e | hb
  · rw [e]; exact I.free
  · obtain ⟨_, o, ho, _⟩ := I.ok.funs.mem hb
    exact I.base.free b o ho (I.ok.frf b hb) fun z => I.ok.exfs b z hb
theorem Inv.step {g' : Array GenState} {t' : Nat} {d' : Drawn} {ch : List Addr} (I : Inv X pins σ H s)
    (hch : ∀ b ∈ ch, (b ∈ X.ex ∨ X.s₀.heap.objs.size ≤ b) ∧ b ≠ X.env.locals ∧ (∀ x c, X.env.cells.lookup x = some c → c ≠ b) ∧ ∀ p ∈ X.pn ++ pins, p.1 ≠ b)
    (keep : ∀ b o, b ≠ X.env.locals → b ∉ X.fs → b ∉ ch → s.heap.get? b = some o → H b = none → h'.get? b = some o)
    (slot : ∀ b o, b ≠ X.env.locals → b ∈ X.fs → b ∉ ch → s.heap.get? b = some o → H b = none → ∃ sl, h'.get? b = some { o with slots := sl }) (free : ∀ b o, b ∉ ch → s.heap.get? b = some o → H b = none → H' b = none)
    (there : ∀ b o, b ∉ ch → s.heap.get? b = some o → ∃ o', h'.get? b = some o')
    (tups : ∀ b xs, H b = some (.tup xs) → H' b = some (.tup xs)) (frzs : ∀ b o u, H b = some (.frz o u) → H' b = some (.frz o u)) (tbls : ∀ b ps, H b = some (.tbl ps) → ∃ more, H' b = some (.tbl (ps ++ more)))
    (ns : ∀ m, s.heap.Ns X.env.locals m → h'.Ns X.env.locals m) (hok : HOk X.prog X.w H' h') (hg : AllBare g') :
    Inv X pins σ H' { s with heap := h', gens := g', drawn := d', toks := t' } := by
  have neL : ∀ b o, X.s₀.heap.get? b = some o → b ≠ X.env.locals := fun b o e => Nat.ne_of_lt (Nat.lt_of_lt_of_le (Heap.lt_size e) I.ok.above)
  have neC : ∀ b o, X.s₀.heap.get? b = some o → b ∉ X.ex → b ∉ ch := fun b o e hx hb => by
    rcases (hch b hb).1 with z | z
    · exact hx z
    · exact absurd (Nat.lt_of_lt_of_le (Heap.lt_size e) z) (Nat.lt_irrefl _)
  have cellK : ∀ x c, X.env.cells.lookup x = some c → ∀ v, s.heap.IsCell c v → h'.IsCell c v := fun x c e v ⟨o, ho, hd⟩ => by
    have nch : c ∉ ch := fun z => (hch c z).2.2.1 x c e rfl
    by_cases hc : c ∈ X.fs
    · obtain ⟨sl, q⟩ := slot c o (I.cne x c e) hc nch ho (I.freeC x c e)
      exact ⟨_, q, hd⟩
    · exact ⟨o, keep c o (I.cne x c e) hc nch ho (I.freeC x c e), hd⟩
  refine ⟨I.ok, I.os, hg, ⟨fun b o e n hb hx => ?_, fun b o e n hb hx => ?_, fun b o e n hx => ?_, fun b o e hx => ?_, fun b xs e => tups b xs (I.base.tups b xs e), fun b o xs e => frzs b o xs (I.base.frzs b o xs e), fun b ps e => ?_⟩, ?_, fun x c e => ?_, ?_, fun x c e => ?_, fun p hp => ?_, hok, I.len⟩
  · exact keep b o (neL b o e) hb (neC b o e hx) (I.base.keep b o e n hb hx) (I.base.free b o e n hx)
  · obtain ⟨sl, e1⟩ := I.base.slot b o e n hb hx
    obtain ⟨sl', e2⟩ := slot b _ (neL b o e) hb (neC b o e hx) e1 (I.base.free b o e n hx)
    exact ⟨sl', e2⟩
  · obtain ⟨o', e1⟩ := I.base.there b o e hx
    exact free b o' (neC b o e hx) e1 (I.base.free b o e n hx)
  · obtain ⟨o', e1⟩ := I.base.there b o e hx
    exact there b o' (neC b o e hx) e1
  · obtain ⟨m1, e1⟩ := I.base.tbls b ps e
    obtain ⟨m2, e2⟩ := tbls b _ e1
    exact ⟨m1 ++ m2, by rw [e2, Array.append_assoc]⟩
  · obtain ⟨m, hn, hl⟩ := I.loc
    refine ⟨m, ns m hn, fun i x v e1 e2 e3 => ?_⟩
    obtain ⟨u, r, l⟩ := hl i x v e1 e2 e3
    refine ⟨u, r, ?_⟩
    rcases l with l | ⟨k, c, e, z⟩
    · exact .inl l
    · exact .inr ⟨k, c, e, cellK x c e _ z⟩
  · obtain ⟨v, z⟩ := I.cell x c e
    exact ⟨v, cellK x c e v z⟩
  · obtain ⟨m, ⟨o, _, _, ho, _⟩, _⟩ := I.loc
    exact free _ o (fun z => (hch _ z).2.1 rfl) ho I.free
  · obtain ⟨v, o, ho, hd⟩ := I.cell x c e
    exact free c o (fun z => (hch c z).2.2.1 x c e rfl) ho (I.freeC x c e)
  · obtain ⟨e, n, ne, nf, d⟩ := I.pin p hp
    have nch : p.1 ∉ ch := fun z => (hch p.1 z).2.2.2 p hp rfl
    exact ⟨keep p.1 p.2 ne nf nch e n, free p.1 p.2 nch e n, ne, nf, d⟩
theorem Inv.un {t' : Nat} (I : Inv X pins σ H s) (u : Un X.fs [] H H' s.heap h') (hok : HOk X.prog X.w H' h') : Inv X pins σ H' { s with heap := h', toks := t' } := by
  obtain ⟨m, ⟨o, es, ep, ho, r⟩, _⟩ := id I.loc
  obtain ⟨sl, hL⟩ := u.any ho I.free (by simp)
  exact I.step (g' := s.gens) (d' := s.drawn) (ch := []) (fun _ z => nomatch z) (fun b o _ hb _ e n => u.keep b o e n hb (by simp)) (fun b o _ hb _ e n => u.slot b o e n hb (by simp)) (fun b o _ e n => u.free b o e n (by simp)) (fun b o _ e => u.there b o e (by simp)) u.tups u.frzs u.tbls (fun m' hm => by
    obtain ⟨o', es', ep', ho', r'⟩ := hm
    rw [ho] at ho'; cases ho'
    exact ⟨_, es', ep', hL, r'⟩) hok I.bare
theorem Inv.call {g' : Array GenState} {t' : Nat} {d' : Drawn} {ch : List Addr} (I : Inv X pins σ H s) (u : Un (frs X.stack) ch H H' s.heap h') (hok : HOk X.prog X.w H' h') (hg : AllBare g')
    (hch : ∀ b ∈ ch, (b ∈ X.ex ∨ X.s₀.heap.objs.size ≤ b) ∧ b ≠ X.env.locals ∧ (∀ x c, X.env.cells.lookup x = some c → c ≠ b) ∧ ∀ p ∈ X.pn ++ pins, p.1 ≠ b) :
    Inv X pins σ H' { s with heap := h', gens := g', drawn := d', toks := t' } := by
  obtain ⟨m, ⟨o, es, ep, ho, r⟩, _⟩ := id I.loc
  obtain ⟨sl, hL⟩ := u.any ho I.free fun z => (hch _ z).2.1 rfl
  exact I.step (ch := ch) hch (fun b o hL hb hc e n => u.keep b o e n (fun z => (List.mem_cons.mp (I.stkSub b z)).elim hL hb) hc) (fun b o _ _ hc e n => u.any e n hc) (fun b o hc e n => u.free b o e n hc) (fun b o hc e => u.there b o e hc) u.tups u.frzs u.tbls (fun m' hm => by
    obtain ⟨o', es', ep', ho', r'⟩ := hm
    rw [ho] at ho'; cases ho'
    exact ⟨_, es', ep', hL, r'⟩) hok hg
theorem Inv.turned {t' : Nat} {it : Addr} (I : Inv X pins σ H s) (k : ∀ b o, b ≠ it → s.heap.get? b = some o → h'.get? b = some o) (hn : H it = none) (hL : it ≠ X.env.locals)
    (h1 : it ∈ X.ex ∨ X.s₀.heap.objs.size ≤ it) (h2 : ∀ x c, X.env.cells.lookup x = some c → c ≠ it) (h3 : ∀ p ∈ X.pn ++ pins, p.1 ≠ it) : Inv X pins σ H { s with heap := h', toks := t' } := by
  have nit : ∀ b u, H b = some u → b ≠ it := fun b u e z => by rw [z, hn] at e; cases e
  refine I.step (g' := s.gens) (d' := s.drawn) (ch := [it]) (fun b hb => ?_) (fun b o _ _ hc e _ => k b o (fun z => hc (by simp [z])) e) (fun b o _ _ hc e _ => ⟨o.slots, k b o (fun z => hc (by simp [z])) e⟩) (fun _ _ _ _ n => n)
    (fun b o hc e => ⟨o, k b o (fun z => hc (by simp [z])) e⟩) (fun _ _ e => e) (fun _ _ _ e => e) (fun b ps e => ⟨#[], by rw [e]; simp⟩) (fun m hm => ?_) (fun b u e => ?_) I.bare
  · have e : b = it := by simpa using hb
    subst e
    exact ⟨h1, hL, h2, h3⟩
  · obtain ⟨o, es, ep, ho, r⟩ := hm
    exact ⟨o, es, ep, k _ o (Ne.symm hL) ho, r⟩
  · refine (I.hok b u e).stay (fun c v hc q => k c v ?_ q) (fun _ q => q) fun _ _ q => q
    rcases hc with z | z
    · rw [z]; exact nit b u e
    · exact nit c _ z
theorem Inv.tok (I : Inv X pins σ H s) (t : Nat) : Inv X pins σ H { s with toks := t } := I.un (h' := s.heap) (t' := t) Un.refl I.hok
theorem Inv.kept {t' : Nat} (I : Inv X pins σ H s) (k : ∀ b u, s.heap.get? b = some u → h'.get? b = some u) : Inv X pins σ H { s with heap := h', toks := t' } := I.un (Un.kept k) (I.hok.kept k)
theorem Inv.laid {a : Addr} {o : HO} {t' : Nat} (I : Inv X pins σ H s) (k : ∀ b u, s.heap.get? b = some u → h'.get? b = some u) (hp : s.heap.objs.size ≤ a) (new : ObjOk X.prog X.w (upd H a o) h' a o) :
    Inv X pins σ (upd H a o) { s with heap := h', toks := t' } := I.un (Un.laid k hp (I.hok.fresh hp)) (I.hok.laid k hp new)
theorem Inv.write {x e : Addr} {o : HO} {t' : Nat} (I : Inv X pins σ H s) (mu : Mut (H x)) (he : e = x ∨ H e = some (.own x)) (k : ∀ b u, b ≠ e → s.heap.get? b = some u → h'.get? b = some u) (heo : ∃ u, h'.get? e = some u)
    (new : ObjOk X.prog X.w (upd H x o) h' x o) : Inv X pins σ (upd H x o) { s with heap := h', toks := t' } := I.un (Un.write mu he k heo) (I.hok.write mu he k heo new)
theorem Inv.pins_of {pins' : List (Addr × Obj)} (I : Inv X pins σ H s) (h : ∀ p ∈ pins', s.heap.get? p.1 = some p.2 ∧ H p.1 = none ∧ p.1 ≠ X.env.locals ∧ p.1 ∉ X.fs ∧ ∀ v, p.2.data ≠ .cell v) : Inv X pins' σ H s :=
  ⟨I.ok, I.os, I.bare, I.base, I.loc, I.cell, I.free, I.freeC, fun p hp => (List.mem_append.mp hp).elim (fun z => I.pin p (List.mem_append_left _ z)) (h p), I.hok, I.len⟩
theorem nodup_ix {N : List Str} (hN : N.Nodup) {i j : Nat} {x : Str} (a : N[i]? = some x) (b : N[j]? = some x) : i = j := by
  obtain ⟨h1, e1⟩ := List.getElem?_eq_some_iff.mp a
  obtain ⟨h2, e2⟩ := List.getElem?_eq_some_iff.mp b
  exact (List.getElem_inj hN).mp (e1.trans e2.symm)
theorem store_ok2 {M : Model} {A : Around} {E : Value → Shared → Prop} {i : Nat} {x : Str} {v : V} {u : Value} {Q : Unit → Shared → Prop} (I : Inv X pins σ H s) (hN : X.N.Nodup) (hi : X.N[i]? = some x) (hx : Loc X.env.scope x) (r : RelV v u)
    (h : ∀ s', Inv X pins (σ.set i (some v)) H s' → (∃ a, Heap.SameBut a s.heap s'.heap ∧ (a = X.env.locals ∨ X.env.cells.lookup x = some a)) → Q () s') (hf : X.fn x = true ∨ X.env.scope.names.lookup x = some .local := by first | exact .inl rfl | exact .inr rfl | assumption) : wpAny M A (storeName X.env x u) Q E s := by
  obtain ⟨m, hn, hl⟩ := id I.loc
  have hcls : (X.env.scope.kind == .class || (X.env.scope.kind == .module && X.env.locals != X.env.globals)) = false := by rw [I.ok.kind]; rfl
  have hiσ : i < σ.length := by rw [I.len]; exact (List.getElem?_eq_some_iff.mp hi).1
  have cne := I.cne
  have tracked : ∀ {a : Addr} {h' : Heap}, (∃ o, s.heap.get? a = some o ∧ H a = none) → Heap.SameBut a s.heap h' → HOk X.prog X.w H h' := fun {a h'} ha hs b ob e => by
    obtain ⟨_, _, hfree⟩ := ha
    refine (I.hok b ob e).stay (fun c w' hc q => (hs.2 c ?_).trans q) (fun _ q => q) fun _ _ q => q
    rintro rfl
    rcases hc with rfl | hc
    · rw [hfree] at e; cases e
    · rw [hfree] at hc; cases hc
  rcases hx with hk | hk
  · refine wpAny_storeName_local hk hn (fun h' hn' hs => ?_) hcls
    obtain ⟨oL, _, _, hoL, _⟩ := id hn
    refine h _ ⟨I.ok, I.os, I.bare, ⟨fun b o e n hb hx => ?_, fun b o e n hb hx => ?_, I.base.free, fun b o e hx => ?_, I.base.tups, I.base.frzs, I.base.tbls⟩, ⟨_, hn', fun j y v' e1 e2 e3 => ?_⟩, fun y c e => ?_, I.free, I.freeC, fun p hp => ?_, tracked ⟨oL, hoL, I.free⟩ hs, by simpa using I.len⟩ ⟨_, hs, .inl rfl⟩
    · exact (hs.2 b (Nat.ne_of_lt (Nat.lt_of_lt_of_le (Heap.lt_size e) I.ok.above))).trans (I.base.keep b o e n hb hx)
    · obtain ⟨sl, e1⟩ := I.base.slot b o e n hb hx
      exact ⟨sl, (hs.2 b (Nat.ne_of_lt (Nat.lt_of_lt_of_le (Heap.lt_size e) I.ok.above))).trans e1⟩
    · obtain ⟨o', e1⟩ := I.base.there b o e hx
      exact ⟨o', (hs.2 b (Nat.ne_of_lt (Nat.lt_of_lt_of_le (Heap.lt_size e) I.ok.above))).trans e1⟩
    · by_cases hj : j = i
      · subst hj
        rw [hi] at e1; cases e1
        rw [List.getElem?_set_self hiσ] at e2
        cases e2
        exact ⟨u, r, .inl ⟨hk, by simp⟩⟩
      · rw [List.getElem?_set_ne (Ne.symm hj)] at e2
        obtain ⟨u', r', q⟩ := hl j y v' e1 e2 e3
        refine ⟨u', r', ?_⟩
        rcases q with ⟨k, e⟩ | ⟨k, c, e, z⟩
        · refine .inl ⟨k, ?_⟩
          have : y ≠ x := fun e => hj (nodup_ix hN e1 (e ▸ hi))
          simp [this, e]
        · exact .inr ⟨k, c, e, z.sameBut hs (cne y c e)⟩
    · obtain ⟨w', z⟩ := I.cell y c e
      exact ⟨w', z.sameBut hs (cne y c e)⟩
    · obtain ⟨e, n, ne, nf, d⟩ := I.pin p hp
      exact ⟨(hs.2 p.1 ne).trans e, n, ne, nf, d⟩
  · have hfn : X.fn x = true := by
      rcases hf with z | z
      · exact z
      · rw [z] at hk; cases hk
    obtain ⟨c, hc⟩ := I.ok.has x (.inl hk)
    obtain ⟨w', z⟩ := I.cell x c hc
    refine wpAny_storeName_cell I.ok.kind hk hc z (fun h' hc' hs => ?_)
    obtain ⟨oc, hoc, hocd⟩ := id z
    refine h { s with heap := h' } ⟨I.ok, I.os, I.bare, ⟨fun b o e n hb hx => ?_, fun b o e n hb hx => ?_, I.base.free, fun b o e hx => ?_, I.base.tups, I.base.frzs, I.base.tbls⟩, ⟨m, hn.sameBut hs (Ne.symm (cne x c hc)), fun j y v' e1 e2 e3 => ?_⟩, fun y c' e => ?_, I.free, I.freeC, fun p hp => ?_, tracked ⟨oc, hoc, I.freeC x c hc⟩ hs, by simpa using I.len⟩ ⟨c, hs, .inr hc⟩
    · exact (hs.2 b (Nat.ne_of_lt (Nat.lt_of_lt_of_le (Heap.lt_size e) (I.ok.cab x c hfn hc)))).trans (I.base.keep b o e n hb hx)
    · obtain ⟨sl, e1⟩ := I.base.slot b o e n hb hx
      exact ⟨sl, (hs.2 b (Nat.ne_of_lt (Nat.lt_of_lt_of_le (Heap.lt_size e) (I.ok.cab x c hfn hc)))).trans e1⟩
    · obtain ⟨o', e1⟩ := I.base.there b o e hx
      exact ⟨o', (hs.2 b (Nat.ne_of_lt (Nat.lt_of_lt_of_le (Heap.lt_size e) (I.ok.cab x c hfn hc)))).trans e1⟩
    · by_cases hj : j = i
      · subst hj
        rw [hi] at e1; cases e1
        rw [List.getElem?_set_self hiσ] at e2
        cases e2
        exact ⟨u, r, .inr ⟨.inl hk, c, hc, hc'⟩⟩
      · rw [List.getElem?_set_ne (Ne.symm hj)] at e2
        obtain ⟨u', r', q⟩ := hl j y v' e1 e2 e3
        refine ⟨u', r', ?_⟩
        rcases q with q | ⟨k, c', e, z'⟩
        · exact .inl q
        · refine .inr ⟨k, c', e, z'.sameBut hs ?_⟩
          rintro rfl
          exact hj (nodup_ix hN e1 (I.ok.inj _ _ _ e hc ▸ hi))
    · by_cases hcc : c' = c
      · subst hcc; exact ⟨_, hc'⟩
      · obtain ⟨w2, z2⟩ := I.cell y c' e
        exact ⟨w2, z2.sameBut hs hcc⟩
    · obtain ⟨e, n, ne, nf, d⟩ := I.pin p hp
      refine ⟨(hs.2 p.1 ?_).trans e, n, ne, nf, d⟩
      intro q
      rw [q, hoc] at e
      have q' : oc = p.2 := Option.some.inj e
      exact d w' (by rw [← q']; exact hocd)
theorem store_ok {M : Model} {A : Around} {E : Value → Shared → Prop} {i : Nat} {x : Str} {v : V} {u : Value} {Q : Unit → Shared → Prop} (I : Inv X pins σ H s) (hN : X.N.Nodup) (hi : X.N[i]? = some x) (hx : Loc X.env.scope x) (r : RelV v u)
    (h : ∀ s', Inv X pins (σ.set i (some v)) H s' → Q () s') (hf : X.fn x = true ∨ X.env.scope.names.lookup x = some .local := by first | exact .inl rfl | exact .inr rfl | assumption) : wpAny M A (storeName X.env x u) Q E s :=
  store_ok2 I hN hi hx r (fun s' I' _ => h s' I') hf
theorem Inv.call' {s' : Shared} {ch : List Addr} (I : Inv X pins σ H s) (ho : s'.os = s.os) (u : Un (frs X.stack) ch H H' s.heap s'.heap) (hok : HOk X.prog X.w H' s'.heap) (hg : AllBare s'.gens)
    (hch : ∀ b ∈ ch, (b ∈ X.ex ∨ X.s₀.heap.objs.size ≤ b) ∧ b ≠ X.env.locals ∧ (∀ x c, X.env.cells.lookup x = some c → c ≠ b) ∧ ∀ p ∈ X.pn ++ pins, p.1 ≠ b) : Inv X pins σ H' s' := by
  obtain ⟨h', g', d', t', o'⟩ := s'
  have e : o' = s.os := ho
  subst e
  exact I.call (g' := g') (t' := t') (d' := d') u hok hg hch
end
noncomputable abbrev XK := Value → Option Addr → Hp → Prop
noncomputable abbrev St := List (Option V)
noncomputable abbrev VK := V → Hp → Prop
noncomputable abbrev TE := St → Hp → VK → Prop
noncomputable abbrev TT := St → Hp → (Bool → Hp → Prop) → Prop
noncomputable abbrev TA := St → Hp → (List V → Hp → Prop) → Prop
structure Ends where
  nx : St → Hp → Prop
  rt : VK
  bk : St → Hp → Prop := fun _ _ => False
  ct : St → Hp → Prop := fun _ _ => False
noncomputable abbrev TS := Ends → St → Hp → Prop
noncomputable def EP (X : Cx) (pins : List (Addr × Obj)) (σ : St) (Q : VK) (u : Value) (s' : Shared) : Prop := ∃ v H', Inv X pins σ H' s' ∧ RelV v u ∧ Q v H'
noncomputable def TP (X : Cx) (pins : List (Addr × Obj)) (σ : St) (Q : Bool → Hp → Prop) (b : Bool) (s' : Shared) : Prop := ∃ H', Inv X pins σ H' s' ∧ Q b H'
noncomputable def AP (X : Cx) (pins : List (Addr × Obj)) (σ : St) (Q : List V → Hp → Prop) (us : List Value) (s' : Shared) : Prop := ∃ vs H', Inv X pins σ H' s' ∧ Vals vs us ∧ Q vs H'
noncomputable def SP (X : Cx) (pins : List (Addr × Obj)) (D : Ends) (f : Flow) (s' : Shared) : Prop :=
  match f with
  | .next => ∃ σ' H', Inv X pins σ' H' s' ∧ D.nx σ' H'
  | .brk => ∃ σ' H', Inv X pins σ' H' s' ∧ D.bk σ' H'
  | .cont => ∃ σ' H', Inv X pins σ' H' s' ∧ D.ct σ' H'
  | .ret u => ∃ v σ' H', Inv X pins σ' H' s' ∧ RelV v u ∧ D.rt v H'
noncomputable def PE (X : Cx) (e : Expr) (t : TE) : Prop :=
  ∀ (pins : List (Addr × Obj)) (s : Shared) (σ : St) (H : Hp) (Q : VK), Inv X pins σ H s → t σ H Q → wpAny (model X.prog X.w) X.A (eval e X.env) (EP X pins σ Q) X.xe s
noncomputable def PT (X : Cx) (e : Expr) (t : TT) : Prop :=
  ∀ (pins : List (Addr × Obj)) (s : Shared) (σ : St) (H : Hp) (Q : Bool → Hp → Prop), Inv X pins σ H s → t σ H Q → wpAny (model X.prog X.w) X.A (isTrue e X.env (eval e X.env)) (TP X pins σ Q) X.xe s
noncomputable def PW (X : Cx) (e : Expr) (t : TT) : Prop :=
  ∀ (whole : Sem Value) (pins : List (Addr × Obj)) (s : Shared) (σ : St) (H : Hp) (Q : Bool → Hp → Prop), Inv X pins σ H s → t σ H Q → wpAny (model X.prog X.w) X.A (isTrue e X.env whole) (TP X pins σ Q) X.xe s
theorem PW.pt {X : Cx} {e : Expr} {t : TT} (h : PW X e t) : PT X e t := h _
noncomputable def PA (X : Cx) (es : List Expr) (t : TA) : Prop :=
  ∀ (pos : Pos) (pins : List (Addr × Obj)) (s : Shared) (σ : St) (H : Hp) (Q : List V → Hp → Prop), Inv X pins σ H s → t σ H Q → wpAny (model X.prog X.w) X.A (spliced (backTo pos (starEach es X.env))) (AP X pins σ Q) X.xe s
noncomputable def PS (X : Cx) (st : Stmt) (t : TS) : Prop :=
  ∀ (pins : List (Addr × Obj)) (s : Shared) (σ : St) (H : Hp) (D : Ends), Inv X pins σ H s → t D σ H → wpAny (model X.prog X.w) X.A (exec st X.env) (SP X pins D) X.xe s
noncomputable def PSs (X : Cx) (st : List Stmt) (t : TS) : Prop :=
  ∀ (pins : List (Addr × Obj)) (s : Shared) (σ : St) (H : Hp) (D : Ends), Inv X pins σ H s → t D σ H → wpAny (model X.prog X.w) X.A (execs st X.env) (SP X pins D) X.xe s
theorem thn {α : Type} {t : Sem α} {Q Q' : α → Shared → Prop} {M : Model} {A : Around} {E : Value → Shared → Prop} {s : Shared} (h : wpAny M A t Q E s) (hQ : ∀ a s, Q a s → Q' a s) : wpAny M A t Q' E s := wpAny_mono h hQ fun _ _ x => x
end L2
namespace L2
open PySem PySem.Spec PyProof.Rows
section
variable {X : Cx}
theorem bin {a b : Expr} {ta tb : TE} (ha : PE X a ta) (hb : PE X b tb) {pins : List (Addr × Obj)} {s : Shared} {σ : St} {H : Hp} {R : V → V → Hp → Prop} (I : Inv X pins σ H s) (h : ta σ H fun x H1 => tb σ H1 fun y H2 => R x y H2)
    {α : Type} {Q : α → Shared → Prop} {f : Value → Value → Sem α}
    (hf : ∀ v u s2 x y H2, Inv X pins σ H2 s2 → RelV x v → RelV y u → R x y H2 → wpAny (model X.prog X.w) X.A (f v u) Q X.xe s2) :
    wpAny (model X.prog X.w) X.A (eval a X.env) (fun v s₁ => wpAny (model X.prog X.w) X.A (eval b X.env) (fun u s₂ => wpAny (model X.prog X.w) X.A (f v u) Q X.xe s₂) X.xe s₁) X.xe s := by
  refine thn (ha pins s σ H _ I h) fun v s1 ⟨x, H1, I1, r1, q1⟩ => ?_
  refine thn (hb pins s1 σ H1 _ I1 q1) fun u s2 ⟨y, H2, I2, r2, q2⟩ => ?_
  exact hf v u s2 x y H2 I2 r1 r2 q2
noncomputable def tVar (i : Nat) : TE := fun σ H Q => ∃ v, σ[i]? = some (some v) ∧ Q v H
noncomputable def tC (v : V) : TE := fun _ H Q => Q v H
theorem pe_var {i : Nat} {x : Str} {pos : Pos} (hN : X.N[i]? = some x) (hv : Vis X.env.scope x) (hd : (x == ("__debug__" : Str)) = false := by decide) (hcd : (x == ("__classdict__" : Str)) = false := by decide) : PE X (.Name x pos) (tVar i) := by
  intro pins s σ H Q I h
  obtain ⟨v, e, h⟩ := h
  obtain ⟨m, hn, hl⟩ := I.loc
  obtain ⟨u, r, l⟩ := hl i x v hN e hv
  have fin : EP X pins σ Q u s := ⟨v, H, I, r, h⟩
  rcases l with ⟨hk, hm⟩ | ⟨hk, c, hc, hcell⟩
  · exact wpAny_Name (wpAny_loadName_local I.ok.kind hk hn hm fin) hd
  · rcases hk with hk | hk
    · exact wpAny_Name (wpAny_loadName_cell I.ok.kind hk hc hcell fin) hd
    · exact wpAny_Name (wpAny_loadName_free I.ok.kind hk hc hcell fin hcd) hd
theorem pe_int {i j pos} : PE X (.Constant (.int i) j pos) (tC (.int i)) := fun _ _ _ H _ I h => wpAny_Constant_int ⟨.int i, H, I.tok _, ⟨_, rfl⟩, h⟩
theorem pe_bl {b j pos} : PE X (.Constant (.bool b) j pos) (tC (.bl b)) := fun _ _ _ H _ I h => Constant_bool ⟨.bl b, H, I, rfl, h⟩
theorem pe_non {j pos} : PE X (.Constant .none j pos) (tC .non) := fun _ _ _ H _ I h => Constant_none ⟨.non, H, I, rfl, h⟩
theorem pe_str {x j pos} : PE X (.Constant (.str x) j pos) (tC (.str x)) := fun _ _ _ H _ I h => Calls.Constant_str ⟨.str x, H, I.tok _, ⟨_, rfl⟩, h⟩
noncomputable def Gl (X : Cx) (x : Str) : Prop := X.env.kindOf x = some .globalImplicit
theorem ld_glob {E : Value → Shared → Prop} {pins : List (Addr × Obj)} {s : Shared} {σ : St} {H : Hp} {x : Str} {u : Value} {pos : Pos} {Q : Value → Shared → Prop} (I : Inv X pins σ H s) (hg : Gl X x) (hm : X.mg x = some u) (h : Q u s)
    (hd : (x == ("__debug__" : Str)) = false := by decide) : wpAny (model X.prog X.w) X.A (eval (.Name x pos) X.env) Q E s :=
  Calls.Name_function_global I.ok.kind hg (Calls.loadGlobal_global (by rw [I.ok.glob]; exact I.mod.glob.keeps I.bk) hm h) hd
theorem ld_blt {E : Value → Shared → Prop} {pins : List (Addr × Obj)} {s : Shared} {σ : St} {H : Hp} {x : Str} {u : Value} {pos : Pos} {Q : Value → Shared → Prop} (I : Inv X pins σ H s) (hg : Gl X x) (hm : X.mg x = none) (hv : bootBuiltins x = some u) (h : Q u s)
    (hn : x ≠ "__name__" := by decide) (hd : (x == ("__debug__" : Str)) = false := by decide) : wpAny (model X.prog X.w) X.A (eval (.Name x pos) X.env) Q E s := by
  obtain ⟨mb, h1, h2⟩ := I.mod.blt
  exact Calls.Name_function_global I.ok.kind hg (Calls.loadGlobal_builtin (by rw [I.ok.glob]; exact I.mod.glob.keeps I.bk) hm (by rw [I.ok.blt]; exact h1.keeps I.bk) ((h2 x hn).trans hv) h) hd
theorem pe_glob {x : Str} {v : V} {u : Value} {pos : Pos} (hg : Gl X x) (hm : X.mg x = some u) (r : RelV v u) (hd : (x == ("__debug__" : Str)) = false := by decide) : PE X (.Name x pos) (tC v) :=
  fun _ _ _ H _ I h => ld_glob I hg hm ⟨v, H, I, r, h⟩ hd
theorem pe_bltn {x : Str} {v : V} {u : Value} {pos : Pos} (hg : Gl X x) (hm : X.mg x = none) (hv : bootBuiltins x = some u) (r : RelV v u) (hn : x ≠ "__name__" := by decide) (hd : (x == ("__debug__" : Str)) = false := by decide) : PE X (.Name x pos) (tC v) :=
  fun _ _ _ H _ I h => ld_blt I hg hm hv ⟨v, H, I, r, h⟩ hn hd
variable {a b : Expr} {ta tb : TE} {pos : Pos}
noncomputable def PC (X : Cx) (op : CmpOp) (a b : Expr) (t : TE) : Prop :=
  ∀ (pins : List (Addr × Obj)) (s : Shared) (σ : St) (H : Hp) (Q : VK), Inv X pins σ H s → t σ H Q →
    wpAny (model X.prog X.w) X.A (eval a X.env) (fun v s₁ => wpAny (model X.prog X.w) X.A (eval b X.env) (fun u s₂ => wpAny (model X.prog X.w) X.A (compareOp op v u) (EP X pins σ Q) X.xe s₂) X.xe s₁) X.xe s
theorem nobehind (b : Expr) {op : CmpOp} (h : op ≠ .In) (h2 : op ≠ .NotIn) : behindInMarks op b = false := by
  have e1 : (op == CmpOp.In) = false := by cases op <;> first | rfl | exact absurd rfl h
  have e2 : (op == CmpOp.NotIn) = false := by cases op <;> first | rfl | exact absurd rfl h2
  cases b <;> simp [behindInMarks, e1, e2]
noncomputable def tB (t : TE) : TT := fun σ H Q => t σ H fun x H1 => ∃ c, x = .bl c ∧ Q c H1
theorem pe_cmp {op : CmpOp} {t : TE} (h : PC X op a b t) (h1 : behindInMarks op b = false := by first | exact nobehind _ (by decide) (by decide) | rfl) : PE X (.Compare a [op] [b] pos) t := fun pins s σ H Q I hw => wpAny_Compare1 (h pins s σ H Q I hw) h1
theorem pt_cmp {op : CmpOp} {t : TE} (h : PC X op a b t) (h1 : behindInMarks op b = false := by first | exact nobehind _ (by decide) (by decide) | rfl) : PT X (.Compare a [op] [b] pos) (tB t) := by
  intro pins s σ H Q I hw
  refine wpAny_isTrue_Compare1 (thn (h pins s σ H _ I hw) fun v s1 h1 => thn h1 fun u s2 h2 => thn h2 fun c s3 ⟨x, H1, I1, r1, q1⟩ => ?_) h1
  obtain ⟨d, rfl, q⟩ := q1
  cases r1
  exact wpAny_truthy_bool ⟨H1, I1, q⟩
theorem pt_val {e : Expr} {t : TE} (h : PE X e t) (he : ∀ whole, isTrue e X.env whole = (do let v ← whole; standAt e.pos; holding [v] (truthy v)) := by intro _; rfl) : PT X e (tB t) := by
  intro pins s σ H Q I hw
  refine isTrue_plain (thn (h pins s σ H _ I hw) fun v s1 ⟨x, H1, I1, r1, q1⟩ => ?_) (he _)
  obtain ⟨d, rfl, q⟩ := q1
  cases r1
  exact wpAny_truthy_bool ⟨H1, I1, q⟩
variable {tA tB' : TT} {rest : List Expr}
noncomputable def tOr (t u : TT) : TT := fun σ H Q => t σ H fun c H1 => if c = true then Q true H1 else u σ H1 Q
noncomputable def tNot (t : TT) : TT := fun σ H Q => t σ H fun c H1 => Q (!c) H1
theorem pw_or1 (ha : PT X a tA) : PW X (.BoolOp .Or [a] pos) tA := by
  intro wh pins s σ H Q I h
  refine isTrue_or (thn (ha pins s σ H Q I h) fun c s1 e => ?_)
  cases c with
  | false => exact isTrue_or_nil e
  | true => exact e
theorem pw_or (ha : PT X a tA) (hb : PW X (.BoolOp .Or (b :: rest) pos) tB') : PW X (.BoolOp .Or (a :: b :: rest) pos) (tOr tA tB') := by
  intro wh pins s σ H Q I h
  refine isTrue_or (thn (ha pins s σ H _ I h) fun c s1 ⟨H1, I1, q1⟩ => ?_)
  cases c with
  | true => exact ⟨H1, I1, q1⟩
  | false => exact hb wh pins s1 σ H1 Q I1 q1
theorem pt_not (ha : PT X a tA) : PT X (.UnaryOp .Not a pos) (tNot tA) := by
  intro pins s σ H Q I h
  exact isTrue_not (ha pins s σ H (fun c H1 => Q (!c) H1) I h)
noncomputable def tAndV (ta tb : TE) : TE := fun σ H Q => ta σ H fun x H1 => ∃ c, x = .bl c ∧ if c = true then tb σ H1 Q else Q (.bl false) H1
noncomputable def tOrV (ta tb : TE) : TE := fun σ H Q => ta σ H fun x H1 => ∃ c, x = .bl c ∧ if c = true then Q (.bl true) H1 else tb σ H1 Q
noncomputable def tNotV (ta : TE) : TE := fun σ H Q => ta σ H fun x H1 => ∃ c, x = .bl c ∧ Q (.bl (!c)) H1
theorem pe_one {op} {t : TE} (h : PE X a t) : PE X (.BoolOp op [a] pos) t := fun pins s σ H Q I hw => BoolOp_one (h pins s σ H Q I hw)
theorem pe_and (ha : PE X a ta) (hb : PE X (.BoolOp .And (b :: rest) pos) tb) : PE X (.BoolOp .And (a :: b :: rest) pos) (tAndV ta tb) := by
  intro pins s σ H Q I h
  refine BoolOp_and (thn (ha pins s σ H _ I h) fun v s1 ⟨x, H1, I1, r1, q1⟩ => ?_)
  obtain ⟨c, rfl, q1⟩ := q1
  cases r1
  refine wpAny_truthy_bool ?_
  cases c with
  | true => exact hb pins s1 σ H1 Q I1 q1
  | false => exact ⟨.bl false, H1, I1, rfl, q1⟩
theorem pe_or (ha : PE X a ta) (hb : PE X (.BoolOp .Or (b :: rest) pos) tb) : PE X (.BoolOp .Or (a :: b :: rest) pos) (tOrV ta tb) := by
  intro pins s σ H Q I h
  refine BoolOp_or (thn (ha pins s σ H _ I h) fun v s1 ⟨x, H1, I1, r1, q1⟩ => ?_)
  obtain ⟨c, rfl, q1⟩ := q1
  cases r1
  refine wpAny_truthy_bool ?_
  cases c with
  | false => exact hb pins s1 σ H1 Q I1 q1
  | true => exact ⟨.bl true, H1, I1, rfl, q1⟩
theorem pe_not (ha : PE X a ta) : PE X (.UnaryOp .Not a pos) (tNotV ta) := by
  intro pins s σ H Q I h
  refine UnaryOp_ (thn (ha pins s σ H _ I h) fun v s1 ⟨x, H1, I1, r1, q1⟩ => ?_)
  obtain ⟨c, rfl, q1⟩ := q1
  cases r1
  exact not_of (wpAny_truthy_bool ⟨.bl (!c), H1, I1, rfl, q1⟩)
noncomputable def tIf (t : TT) (ta tb : TE) : TE := fun σ H Q => t σ H fun c H1 => if c = true then ta σ H1 Q else tb σ H1 Q
theorem pe_ifExp {c : Expr} (hc : PT X c tA) (ha : PE X a ta) (hb : PE X b tb) : PE X (.IfExp c a b pos) (tIf tA ta tb) := by
  intro pins s σ H Q I h
  refine wpAny_IfExp (thn (hc pins s σ H _ I h) fun d s1 ⟨H1, I1, q1⟩ => ?_)
  cases d with
  | true => exact ha pins s1 σ H1 Q I1 q1
  | false => exact hb pins s1 σ H1 Q I1 q1
end
end L2
namespace L2
open PySem PySem.Spec PyProof.Rows
noncomputable def SqL (K : PySem.W.Frag) (H : Hp) (a : Addr) (xs : List V) : Prop :=
  Rd H a (.lst xs) ∨
    ∃ (o : Obj) (its : Array Value) (n : Nat), K.lookup a = some o ∧ o.cls = .type "list" ∧ o.dict = none ∧ o.data = .seq its n ∧ its.size ≤ sizeLine ∧ Vals xs its.toList
noncomputable def SqT (K : PySem.W.Frag) (H : Hp) (a : Addr) (xs : List V) : Prop :=
  Rd H a (.tup xs) ∨
    ∃ (o : Obj) (its : Array Value) (n : Nat), K.lookup a = some o ∧ o.cls = .type "tuple" ∧ o.data = .seq its n ∧ its.size ≤ sizeLine ∧ Vals xs its.toList
noncomputable def absV : Value → Option V
  | .none => some .non
  | .bool b => some (.bl b)
  | .int i _ => some (.int i)
  | .str x _ => some (.str x)
  | .bytes b _ => some (.byt b)
  | .float b _ => some (.flt b)
  | .ref a => some (.ref a)
  | .type n => some (.ty n)
  | _ => none
theorem RelV.abs {x : V} {u : Value} (r : RelV x u) : absV u = some x := by
  cases x with
  | non => cases r; rfl
  | bl _ => cases r; rfl
  | int _ => obtain ⟨t, rfl⟩ := r; rfl
  | str _ => obtain ⟨t, rfl⟩ := r; rfl
  | byt _ => obtain ⟨t, rfl⟩ := r; rfl
  | flt _ => obtain ⟨t, rfl⟩ := r; rfl
  | ref _ => cases r; rfl
  | ty _ => cases r; rfl
theorem RelV.inj {x y : V} {u : Value} (r : RelV x u) (q : RelV y u) : x = y := Option.some.inj (r.abs.symm.trans q.abs)
theorem Vals.inj : ∀ {xs ys : List V} {us : List Value}, Vals xs us → Vals ys us → xs = ys
  | _, _, _, .nil, .nil => rfl
  | _, _, _, .cons r t, .cons r' t' => by rw [r.inj r', Vals.inj t t']
section
variable {X : Cx} {pins : List (Addr × Obj)} {σ : St} {H : Hp} {s : Shared} {a : Addr} {xs ys : List V}
theorem SqL.of {K : PySem.W.Frag} (h : H a = some (.lst xs)) : SqL K H a xs := .inl (.inl h)
theorem SqT.of {K : PySem.W.Frag} (h : H a = some (.tup xs)) : SqT K H a xs := .inl (.inl h)
theorem Inv.list (I : Inv X pins σ H s) (h : SqL X.K H a xs) : ∃ its : List Value, Vals xs its ∧ PlainL s.heap a its.toArray ∧ xs.length ≤ sizeLine := by
  rcases h with h | ⟨o, its, n, hk, hc, hd, hs, hz, r⟩
  · obtain ⟨z, its, n, r, e⟩ := h.ok I.hok
    exact ⟨its, r, ⟨_, n, e, rfl, rfl, rfl⟩, z⟩
  · refine ⟨its.toList, r, ⟨o, n, I.kIn a o hk, hc, hd, by simpa using hs⟩, ?_⟩
    have e := r.length
    simp only [Array.length_toList] at e
    omega
theorem Inv.tuple (I : Inv X pins σ H s) (h : SqT X.K H a xs) : ∃ its : List Value, Vals xs its ∧ IsTup s.heap a its.toArray ∧ xs.length ≤ sizeLine := by
  rcases h with h | ⟨o, its, n, hk, hc, hs, hz, r⟩
  · obtain ⟨z, its, r, p⟩ := h.ok I.hok
    exact ⟨its, r, p, z⟩
  · refine ⟨its.toList, r, ⟨o, I.kIn a o hk, hc, n, by simpa using hs⟩, ?_⟩
    have e := r.length
    simp only [Array.length_toList] at e
    omega
theorem Inv.list_inj (I : Inv X pins σ H s) (h : SqL X.K H a xs) (h' : SqL X.K H a ys) : xs = ys := by
  obtain ⟨its, r, ⟨o, n, e, _, _, d⟩, _⟩ := I.list h
  obtain ⟨its', r', ⟨o', n', e', _, _, d'⟩, _⟩ := I.list h'
  rw [e] at e'; cases e'
  rw [d] at d'
  injection d' with d1 _
  have : its = its' := by simpa using congrArg Array.toList d1
  subst this
  exact r.inj r'
theorem Inv.tuple_inj (I : Inv X pins σ H s) (h : SqT X.K H a xs) (h' : SqT X.K H a ys) : xs = ys := by
  obtain ⟨its, r, ⟨o, e, _, n, d⟩, _⟩ := I.tuple h
  obtain ⟨its', r', ⟨o', e', _, n', d'⟩, _⟩ := I.tuple h'
  rw [e] at e'; cases e'
  rw [d] at d'
  injection d' with d1 _
  have : its = its' := by simpa using congrArg Array.toList d1
  subst this
  exact r.inj r'
end
noncomputable abbrev Cx.wish (X : Cx) (E : Value → Shared → Prop) : Cx := { X with xe := E }
noncomputable abbrev Cx.nox (X : Cx) : Cx := X.wish fun _ _ => False
theorem Cx.Ok.wish {X : Cx} (ok : X.Ok) (E : Value → Shared → Prop) : (X.wish E).Ok :=
  ⟨ok.mod, ok.kind, ok.glob, ok.blt, ok.above, ok.inj, ok.has, ok.cab, ok.hd, ok.frames, ok.stk, ok.exf, ok.bs, ok.bsz, ok.noex, ok.exfs, ok.funs, ok.frf⟩
theorem Cx.Ok.unwish {X : Cx} {E : Value → Shared → Prop} (ok : (X.wish E).Ok) : X.Ok :=
  ⟨ok.mod, ok.kind, ok.glob, ok.blt, ok.above, ok.inj, ok.has, ok.cab, ok.hd, ok.frames, ok.stk, ok.exf, ok.bs, ok.bsz, ok.noex, ok.exfs, ok.funs, ok.frf⟩
section
variable {X : Cx} {pins : List (Addr × Obj)} {σ : St} {H : Hp} {s : Shared} {E : Value → Shared → Prop}
theorem Inv.wish (I : Inv X pins σ H s) (E : Value → Shared → Prop) : Inv (X.wish E) pins σ H s := ⟨I.ok.wish E, I.os, I.bare, I.base, I.loc, I.cell, I.free, I.freeC, I.pin, I.hok, I.len⟩
theorem Inv.unwish (I : Inv (X.wish E) pins σ H s) : Inv X pins σ H s := ⟨I.ok.unwish, I.os, I.bare, I.base, I.loc, I.cell, I.free, I.freeC, I.pin, I.hok, I.len⟩
theorem SP.unwish {D : Ends} {f : Flow} {s' : Shared} (h : SP (X.wish E) pins D f s') : SP X pins D f s' := by
  cases f with
  | next => obtain ⟨σ', H', I, q⟩ := h; exact ⟨σ', H', I.unwish, q⟩
  | brk => obtain ⟨σ', H', I, q⟩ := h; exact ⟨σ', H', I.unwish, q⟩
  | cont => obtain ⟨σ', H', I, q⟩ := h; exact ⟨σ', H', I.unwish, q⟩
  | ret u => obtain ⟨v, σ', H', I, r, q⟩ := h; exact ⟨v, σ', H', I.unwish, r, q⟩
theorem PSs.nox {st : List Stmt} {t : TS} (h : PSs X.nox st t) : PSs X st t := fun pins s σ H D I hw =>
  wpAny_mono (h pins s σ H D (I.wish _) hw) (fun _ _ q => q.unwish) fun _ _ z => False.elim z
end
section
variable {X : Cx} {st : Stmt} {rest : List Stmt} {t u : TS} {e : Expr} {te : TE} {pos : Pos}
noncomputable def tNext : TS := fun D σ H => D.nx σ H
noncomputable def tSeq (t u : TS) : TS := fun D σ H => t { D with nx := u D } σ H
theorem pss_nil : PSs X [] tNext := fun _ _ σ H _ I h => wpAny_execs_nil ⟨σ, H, I, h⟩
theorem pss_cons (h1 : PS X st t) (h2 : PSs X rest u) : PSs X (st :: rest) (tSeq t u) := by
  intro pins s σ H D I h
  refine wpAny_execs_cons (thn (h1 pins s σ H { D with nx := u D } I h) fun f s1 q => ?_)
  cases f with
  | next =>
    obtain ⟨σ', H', I', q⟩ := q
    exact h2 pins s1 σ' H' D I' q
  | ret v => exact q
  | brk => exact q
  | cont => exact q
theorem pss_one (h1 : PS X st t) : PSs X [st] t := by
  intro pins s σ H D I h
  refine wpAny_execs_cons (thn (h1 pins s σ H D I h) fun f s1 q => ?_)
  cases f with
  | next => exact wpAny_execs_nil q
  | ret v => exact q
  | brk => exact q
  | cont => exact q
theorem Inv.quiet {pins : List (Addr × Obj)} {σ : St} {H : Hp} {s : Shared} (I : Inv X pins σ H s) : interactive X.env = false := by simp [interactive, I.ok.kind]
noncomputable def tDrop (te : TE) : TS := fun D σ H => te σ H fun _ H1 => D.nx σ H1
theorem ps_expr (he : PE X e te) (hs : swapsWith e none pos.line X.env = pure false := by rfl) : PS X (.Expr e pos) (tDrop te) := by
  intro pins s σ H D I h
  exact wpAny_Expr_any (thn (he pins s σ H _ I h) fun v s1 ⟨x, H1, I1, r1, q1⟩ => ⟨σ, H1, I1, q1⟩) I.quiet hs
noncomputable def tRet (te : TE) : TS := fun D σ H => te σ H D.rt
theorem ps_ret (he : PE X e te) : PS X (.Return (some e) pos) (tRet te) := by
  intro pins s σ H D I h
  exact wpAny_Return_some (thn (he pins s σ H _ I h) fun v s1 ⟨x, H1, I1, r1, q1⟩ => ⟨x, σ, H1, I1, r1, q1⟩)
noncomputable def tIfS (c : TT) (t u : TS) : TS := fun D σ H => c σ H fun b H1 => if b = true then t D σ H1 else u D σ H1
theorem ps_if {c : Expr} {a b : List Stmt} {tc : TT} (hc : PT X c tc) (ha : PSs X a t) (hb : PSs X b u) : PS X (.If c a b pos) (tIfS tc t u) := by
  intro pins s σ H D I h
  refine wpAny_If (thn (hc pins s σ H _ I h) fun d s1 ⟨H1, I1, q1⟩ => ?_)
  cases d with
  | true => exact ha pins s1 σ H1 D I1 q1
  | false => exact hb pins s1 σ H1 D I1 q1
noncomputable def tNever : TS := fun _ _ _ => False
theorem ps_never : PS X st tNever := fun _ _ _ _ _ _ h => h.elim
end
noncomputable abbrev TG := V → St → Hp → (St → Hp → Prop) → Prop
noncomputable abbrev TGs := List V → St → Hp → (St → Hp → Prop) → Prop
noncomputable def PG (X : Cx) (target : Expr) (t : TG) : Prop :=
  ∀ (pins : List (Addr × Obj)) (s : Shared) (σ : St) (H : Hp) (v : V) (u : Value) (Q : St → Hp → Prop), Inv X pins σ H s → RelV v u → t v σ H Q →
    wpAny (model X.prog X.w) X.A (assign target X.env u) (fun _ s' => ∃ σ' H', Inv X pins σ' H' s' ∧ Q σ' H') X.xe s
noncomputable def PGs (X : Cx) (ts : List Expr) (t : TGs) : Prop :=
  ∀ (pins : List (Addr × Obj)) (s : Shared) (σ : St) (H : Hp) (vs : List V) (us : List Value) (Q : St → Hp → Prop), Inv X pins σ H s → Vals vs us → t vs σ H Q →
    wpAny (model X.prog X.w) X.A (assignInOrder ((assignEach ts X.env).map (·.2)) us) (fun _ s' => ∃ σ' H', Inv X pins σ' H' s' ∧ Q σ' H') X.xe s
noncomputable abbrev TSet := V → V → V → Hp → (Hp → Prop) → Prop
noncomputable def PSet (X : Cx) (t : TSet) : Prop :=
  ∀ (pins : List (Addr × Obj)) (s : Shared) (σ : St) (H : Hp) (o i v : V) (ov iv u : Value) (Q : Hp → Prop), Inv X pins σ H s → RelV o ov → RelV i iv → RelV v u → t o i v H Q →
    wpAny (model X.prog X.w) X.A (setItem ov iv u) (fun _ s' => ∃ H', Inv X pins σ H' s' ∧ Q H') X.xe s
section
variable {X : Cx} {pos : Pos}
noncomputable def gName (i : Nat) : TG := fun v σ H Q => Q (σ.set i (some v)) H
theorem pg_name {i : Nat} {x : Str} (hN : X.N.Nodup) (hi : X.N[i]? = some x) (hx : Loc X.env.scope x) (hf : X.fn x = true ∨ X.env.scope.names.lookup x = some .local := by first | exact .inl rfl | exact .inr rfl | assumption) : PG X (.Name x pos) (gName i) := by
  intro pins s σ H v u Q I r h
  exact wpAny_assign_Name (store_ok I hN hi hx r (fun s' I' => ⟨_, H, I', h⟩) hf)
noncomputable def gNil : TGs := fun vs σ H Q => vs = [] ∧ Q σ H
noncomputable def gCons (t : TG) (u : TGs) : TGs := fun vs σ H Q => ∃ v r, vs = v :: r ∧ t v σ H fun σ' H' => u r σ' H' Q
theorem pgs_nil : PGs X [] gNil := by
  intro pins s σ H vs us Q I r h
  obtain ⟨e, h⟩ := h
  subst e
  cases r
  exact assignInOrder_nil ⟨σ, H, I, h⟩
theorem pgs_cons {e : Expr} {es : List Expr} {t : TG} {u : TGs} (h1 : PG X e t) (h2 : PGs X es u)
    (hs : (assignEach (e :: es) X.env).map (·.2) = assign e X.env :: (assignEach es X.env).map (·.2) := by rfl) : PGs X (e :: es) (gCons t u) := by
  intro pins s σ H vs us Q I r h
  obtain ⟨v, vr, e1, h⟩ := h
  subst e1
  cases r with
  | cons r rr =>
    rw [hs]
    refine assignInOrder_cons (thn (h1 pins s σ H _ _ _ I r h) fun _ s1 ⟨σ1, H1, I1, q1⟩ => ?_)
    exact h2 pins s1 σ1 H1 _ _ Q I1 rr q1
noncomputable def gTup (K : PySem.W.Frag) (n : Nat) (t : TGs) : TG := fun v σ H Q => ∃ a xs, v = .ref a ∧ SqT K H a xs ∧ xs.length = n ∧ t xs σ H Q
theorem pg_tup {es : List Expr} {k : Nat} {t : TGs} {n : Nat} (hc : X.calm = true) (h : PGs X es t)
    (hn : (assignEach es X.env).length = n := by rfl) (hst : (assignEach es X.env).findIdx? (·.1) = none := by rfl) : PG X (.Tuple es k pos) (gTup X.K n t) := by
  intro pins s σ H v u Q I r hw
  obtain ⟨a, xs, e1, hq, hl, hw⟩ := hw
  subst e1
  cases r
  obtain ⟨its, rv, ht, hz⟩ := I.tuple hq
  refine assign_Tuple_tuple (I.ok.hd hc) ht (by simp [hn, ← hl, rv.length]) hst fun h' hx => ?_
  have I1 : Inv X pins σ H { s with heap := h' } := I.kept (t' := s.toks) fun b o e => hx b o (Nat.ne_of_lt (Heap.lt_size e)) e
  exact h pins _ σ H xs _ Q I1 (by simpa using rv) hw
noncomputable def gSub (to ti : TE) (t : TSet) : TG := fun v σ H Q => to σ H fun o H1 => ti σ H1 fun i H2 => t o i v H2 fun H3 => Q σ H3
theorem pg_sub {o i : Expr} {to ti : TE} {t : TSet} (ho : PE X o to) (hi : PE X i ti) (hs : PSet X t)
    (ha : ∀ v, assign (.Subscript o i pos) X.env v = (do
      let ov ← holding [v] (eval o X.env)
      let iv ← holding [v, ov] (eval i X.env)
      standAt pos
      holding [v, ov, iv] (setItem ov iv v)
      release [v, ov, iv] []) := by intro _; rfl) : PG X (.Subscript o i pos) (gSub to ti t) := by
  intro pins s σ H v u Q I r h
  rw [ha]
  refine wpAny_bind (wpAny_holding (thn (ho pins s σ H _ I h) fun ov s1 ⟨x, H1, I1, r1, q1⟩ => ?_))
  refine wpAny_bind (wpAny_holding (thn (hi pins s1 σ H1 _ I1 q1) fun iv s2 ⟨y, H2, I2, r2, q2⟩ => ?_))
  refine wpAny_bind (wpAny_standAt (wpAny_bind (wpAny_holding (thn (hs pins s2 σ H2 x y v ov iv u _ I2 r1 r2 r q2) fun _ s3 ⟨H3, I3, q3⟩ => ?_))))
  exact wpAny_release ⟨σ, H3, I3, q3⟩
noncomputable def tAsg (te : TE) (g : TG) : TS := fun D σ H => te σ H fun x H1 => g x σ H1 D.nx
theorem ps_asg {tg e : Expr} {te : TE} {g : TG} (he : PE X e te) (hg : PG X tg g) (hs : swapsWithSole [tg] e pos.line X.env = pure false := by rfl) (hw : swappedStores [tg] e X.env = pure none := by rfl)
    (h1 : (assignEach [tg] X.env).map (·.2) = [assign tg X.env] := by rfl) : PS X (.Assign [tg] e pos) (tAsg te g) := by
  intro pins s σ H D I h
  refine wpAny_Assign_stores (thn (he pins s σ H _ I h) fun v s1 ⟨x, H1, I1, r1, q1⟩ => ?_) hs hw
  rw [h1]
  exact thn (hg pins s1 σ H1 x v _ I1 r1 q1) fun _ s2 q => q
theorem ps_set {i : Nat} {x : Str} {e : Expr} {te : TE} {pos' : Pos} (hN : X.N.Nodup) (hi : X.N[i]? = some x) (hx : Loc X.env.scope x) (he : PE X e te) (hs : swapsWith e (some (.Name x pos')) pos.line X.env = pure false := by rfl) (hf : X.fn x = true ∨ X.env.scope.names.lookup x = some .local := by first | exact .inl rfl | exact .inr rfl | assumption) :
    PS X (.Assign [.Name x pos'] e pos) (tAsg te (gName i)) := by
  intro pins s σ H D I h
  refine wpAny_Assign_Name (thn (he pins s σ H _ I h) fun v s1 ⟨y, H1, I1, r1, q1⟩ => ?_) hs
  exact store_ok I1 hN hi hx r1 (fun s2 I2 => ⟨_, H1, I2, q1⟩) hf
end
section
variable {X : Cx} {pos : Pos}
end
structure It where
  go : Nat → Hp → Prop
  yld : Nat → Hp → V → Hp → Prop
  stop : Nat → Hp → Prop
noncomputable def FpOk (X : Cx) (pins : List (Addr × Obj)) (H : Hp) (b : Addr) : Prop :=
  H b = none ∧ b ≠ X.env.locals ∧ b ∉ X.fs ∧ (b ∈ X.ex ∨ X.s₀.heap.objs.size ≤ b) ∧ (∀ x c, X.env.cells.lookup x = some c → c ≠ b) ∧ ∀ p ∈ X.pn ++ pins, p.1 ≠ b
theorem Inv.fpOk {X : Cx} {pins : List (Addr × Obj)} {σ : St} {H H' : Hp} {s : Shared} {b : Addr} (I : Inv X pins σ H s) (hb : s.heap.objs.size ≤ b) (hn : H' b = none) : FpOk X pins H' b := by
  refine ⟨hn, Nat.ne_of_gt (Nat.lt_of_lt_of_le I.lt hb), I.nofs hb, .inr (Nat.le_trans I.sz hb), fun x c e z => ?_, fun p hp z => ?_⟩
  · obtain ⟨v, q⟩ := I.cell x c e
    exact absurd (Nat.lt_of_lt_of_le q.lt (by rw [z]; exact hb)) (Nat.lt_irrefl _)
  · exact absurd (Nat.lt_of_lt_of_le (Heap.lt_size (I.pin p hp).1) (by rw [z]; exact hb)) (Nat.lt_irrefl _)
structure Turn (P : Program) (w : World) (K : PySem.W.Frag) (tg : Expr) (J : It) (fp : List Addr) (it : Addr) (tn : Nat → Heap → Prop) : Prop where
  mem : it ∈ fp
  obj : ∀ i h, tn i h → ∀ b ∈ fp, ∃ o, h.get? b = some o ∧ ∀ v, o.data ≠ .cell v
  keep : ∀ i h h', tn i h → (∀ b ∈ fp, ∀ o, h.get? b = some o → h'.get? b = some o) → tn i h'
  item : ∀ (X : Cx), X.prog = P → X.w = w → X.K = K → X.calm = true → ∀ (i : Nat) (pins : List (Addr × Obj)) (s : Shared) (σ : St) (H : Hp) (E : Value → Shared → Prop), Inv X pins σ H s → (∀ b ∈ fp, FpOk X pins H b) → tn i s.heap → J.go i H →
    wpAny (model P w) X.A (pyNext (.ref it)) (fun r s1 => ∃ u, r = some u ∧
      wpAny (model P w) X.A (letOwnedTupleGo tg (.ref it) u) (fun _ s2 => ∃ x H', Inv X pins σ H' s2 ∧ RelV x u ∧ J.yld i H x H' ∧ tn (i + 1) s2.heap ∧ ∀ b ∈ fp, H' b = none) E s1) E s
  done : ∀ (X : Cx), X.prog = P → X.w = w → X.K = K → X.calm = true → ∀ (i : Nat) (pins : List (Addr × Obj)) (s : Shared) (σ : St) (H : Hp) (E : Value → Shared → Prop), Inv X pins σ H s → (∀ b ∈ fp, FpOk X pins H b) → tn i s.heap → J.stop i H →
    wpAny (model P w) X.A (pyNext (.ref it)) (fun r s1 => r = none ∧ Inv X pins σ H s1) E s
  self : ∀ (A : Around) (i : Nat) (s : Shared) (Q : Value → Shared → Prop) (E : Value → Shared → Prop), tn i s.heap → Q (.ref it) s → wpAny (model P w) A (pyIter (.ref it)) Q E s
noncomputable abbrev TI := St → Hp → (It → Hp → Prop) → Prop
noncomputable def PIE (X : Cx) (pins : List (Addr × Obj)) (σ : St) (tg : Expr) (R : It → Hp → Prop) (itv : Value) (s2 : Shared) : Prop :=
  ∃ (it : Addr) (fp : List Addr) (tn : Nat → Heap → Prop) (J : It) (H' : Hp), itv = .ref it ∧ Inv X pins σ H' s2 ∧ Turn X.prog X.w X.K tg J fp it tn ∧ tn 0 s2.heap ∧ (∀ b ∈ fp, FpOk X pins H' b) ∧ R J H'
noncomputable def PI (X : Cx) (tg iter : Expr) (wi : TI) : Prop :=
  ∀ (pins : List (Addr × Obj)) (s : Shared) (σ : St) (H : Hp) (R : It → Hp → Prop), Inv X pins σ H s → wi σ H R →
    wpAny (model X.prog X.w) X.A (eval iter X.env) (fun v s1 => wpAny (model X.prog X.w) X.A (pyIter v) (PIE X pins σ tg R) X.xe s1) X.xe s
theorem go_of {M : Model} {A : Around} {E : Value → Shared → Prop} {s : Shared} {tg : Expr} {it : Addr} {u : Value} {o : Obj} {n : String} {vs : Array Value} {Q : Unit → Shared → Prop} (ho : s.heap.get? it = some o) (hc : o.cls = .type n) (hd : o.data = .fields vs)
    (hn : ["enumerate", "zip", "dict_itemiterator", "dict_reverseitemiterator", "odict_iterator", "itertools.zip_longest", "itertools.pairwise"].contains n = false) (hQ : Q () s) : wpAny M A (letOwnedTupleGo tg (.ref it) u) Q E s := by
  unfold letOwnedTupleGo
  cases tg <;> first
    | exact wpAny_pure hQ
    | (cases u <;> first
        | exact wpAny_pure hQ
        | (refine wpAny_bind (wpAny_load ho ?_)
           rw [hc, hd]
           show wpAny M A (if (["enumerate", "zip", "dict_itemiterator", "dict_reverseitemiterator", "odict_iterator", "itertools.zip_longest", "itertools.pairwise"].contains n && vs[0]? == some (rawInt _)) = true then _ else _) Q E s
           rw [if_neg (by intro h; rw [hn, Bool.false_and] at h; cases h)]
           exact wpAny_pure hQ))
noncomputable def Itl (K : PySem.W.Frag) (a : Addr) : It :=
  ⟨fun i H => ∃ xs x, SqL K H a xs ∧ xs[i]? = some x, fun i H x H' => H' = H ∧ ∀ xs, SqL K H a xs → xs[i]? = some x, fun i H => ∃ xs, SqL K H a xs ∧ xs.length ≤ i⟩
noncomputable def Itt (K : PySem.W.Frag) (a : Addr) : It :=
  ⟨fun i H => ∃ xs x, SqT K H a xs ∧ xs[i]? = some x, fun i H x H' => H' = H ∧ ∀ xs, SqT K H a xs → xs[i]? = some x, fun i H => ∃ xs, SqT K H a xs ∧ xs.length ≤ i⟩
noncomputable def Itr (lo : Int) (n : Nat) : It := ⟨fun i _ => i < n, fun i H x H' => H' = H ∧ x = .int (lo + i), fun i _ => n ≤ i⟩
theorem turn_list {P : Program} {w : World} {K : PySem.W.Frag} {tg : Expr} (a it : Addr) : Turn P w K tg (Itl K a) [it] it (fun i h => h.IsListIter it a i) where
  mem := by simp
  obj := fun i h st b hb => by
    have e : b = it := by simpa using hb
    subst e
    obtain ⟨o, e, c, d⟩ := st
    exact ⟨o, e, fun v z => by rw [d] at z; cases z⟩
  keep := fun i h h' st k => st.at fun o e => k it (by simp) o e
  item := by
    intro X hP hw hK hc i pins s σ H E I hf st hg
    subst hP hw hK
    obtain ⟨xs, x, hq, hx⟩ := hg
    obtain ⟨its, rv, p, hz⟩ := I.list hq
    obtain ⟨u, hu, ru⟩ := rv.get hx
    obtain ⟨f0, f1, f2, f3, f4, f5⟩ := hf it (by simp)
    refine wpAny_pyNext_list_item st p.isList (x := u) (by simpa using hu) fun h' st' sb => ?_
    have I1 : Inv X pins σ H { s with heap := h' } := I.turned (t' := s.toks) (fun b o hb e => (sb.2 b hb).trans e) f0 f1 f3 f4 f5
    obtain ⟨o, e, c, d⟩ := id st'
    exact ⟨u, rfl, go_of (s := { s with heap := h' }) e c d (by decide) ⟨x, H, I1, ru, ⟨rfl, fun ys hy => by rw [I.list_inj hy hq]; exact hx⟩, st', fun b hb => (hf b hb).1⟩⟩
  done := by
    intro X hP hw hK hc i pins s σ H E I hf st hg
    subst hP hw hK
    obtain ⟨xs, hq, hx⟩ := hg
    obtain ⟨its, rv, p, hz⟩ := I.list hq
    obtain ⟨f0, f1, f2, f3, f4, f5⟩ := hf it (by simp)
    have hl := rv.length
    exact wpAny_pyNext_list_end (I.ok.hd hc) st p.isList (by simp; omega) fun h' eb => ⟨rfl, I.turned (t' := s.toks) (fun b o hb e => eb b o hb e) f0 f1 f3 f4 f5⟩
  self := fun _ _ _ _ _ st h => wpAny_pyIter_listiter st h
theorem turn_tuple {P : Program} {w : World} {K : PySem.W.Frag} {tg : Expr} (a it : Addr) : Turn P w K tg (Itt K a) [it] it (fun i h => h.IsTupleIter it a i) where
  mem := by simp
  obj := fun i h st b hb => by
    have e : b = it := by simpa using hb
    subst e
    obtain ⟨o, e, c, d⟩ := st
    exact ⟨o, e, fun v z => by rw [d] at z; cases z⟩
  keep := fun i h h' st k => st.at fun o e => k it (by simp) o e
  item := by
    intro X hP hw hK hc i pins s σ H E I hf st hg
    subst hP hw hK
    obtain ⟨xs, x, hq, hx⟩ := hg
    obtain ⟨its, rv, p, hz⟩ := I.tuple hq
    obtain ⟨u, hu, ru⟩ := rv.get hx
    obtain ⟨f0, f1, f2, f3, f4, f5⟩ := hf it (by simp)
    refine wpAny_pyNext_tuple_item st (show s.heap.IsTuple a its.toArray from p) (x := u) (by simpa using hu) fun h' st' sb => ?_
    have I1 : Inv X pins σ H { s with heap := h' } := I.turned (t' := s.toks) (fun b o hb e => (sb.2 b hb).trans e) f0 f1 f3 f4 f5
    obtain ⟨o, e, c, d⟩ := id st'
    exact ⟨u, rfl, go_of (s := { s with heap := h' }) e c d (by decide) ⟨x, H, I1, ru, ⟨rfl, fun ys hy => by rw [I.tuple_inj hy hq]; exact hx⟩, st', fun b hb => (hf b hb).1⟩⟩
  done := by
    intro X hP hw hK hc i pins s σ H E I hf st hg
    subst hP hw hK
    obtain ⟨xs, hq, hx⟩ := hg
    obtain ⟨its, rv, p, hz⟩ := I.tuple hq
    obtain ⟨f0, f1, f2, f3, f4, f5⟩ := hf it (by simp)
    have hl := rv.length
    exact wpAny_pyNext_tuple_end (I.ok.hd hc) st (show s.heap.IsTuple a its.toArray from p) (by simp; omega) fun h' eb => ⟨rfl, I.turned (t' := s.toks) (fun b o hb e => eb b o hb e) f0 f1 f3 f4 f5⟩
  self := fun _ _ _ _ _ st h => wpAny_pyIter_tupleiter st h
theorem turn_range {P : Program} {w : World} {K : PySem.W.Frag} {tg : Expr} (it : Addr) (lo : Int) (n : Nat) : Turn P w K tg (Itr lo n) [it] it (fun i h => IsRangeIter h it (lo + (i : Nat) * 1) ((n : Int) - (i : Nat)) 1) where
  mem := by simp
  obj := fun i h st b hb => by
    have e : b = it := by simpa using hb
    subst e
    exact ⟨_, st, fun v z => by
      have z' : Data.fields _ = Data.cell v := z
      cases z'⟩
  keep := fun i h h' st k => k it (by simp) _ st
  item := by
    intro X hP hw hK hc i pins s σ H E I hf st hg
    subst hP hw hK
    obtain ⟨f0, f1, f2, f3, f4, f5⟩ := hf it (by simp)
    have W := Walks.range (prog := X.prog) (w := X.w) (I.ok.hd hc) it lo 1 n
    refine W.item i s _ _ hg st fun v h' tk hv st' kk => ?_
    obtain ⟨t, rfl⟩ := hv
    have I1 : Inv X pins σ H { s with heap := h', toks := tk } := I.turned (fun b o hb e => kk b o (by simpa using hb) e) f0 f1 f3 f4 f5
    refine ⟨_, rfl, go_of (s := { s with heap := h', toks := tk }) (n := "range_iterator") st' rfl rfl (by decide) ⟨.int (lo + i), H, I1, ⟨t, ?_⟩, ⟨rfl, rfl⟩, st', fun b hb => (hf b hb).1⟩⟩
    rw [Int.mul_one]
  done := by
    intro X hP hw hK hc i pins s σ H E I hf st hg
    subst hP hw hK
    obtain ⟨f0, f1, f2, f3, f4, f5⟩ := hf it (by simp)
    exact wpAny_pyNext_range_end (I.ok.hd hc) st (by have : n ≤ i := hg; omega) fun h' eb => ⟨rfl, I.turned (t' := s.toks) (fun b o hb e => eb b o hb e) f0 f1 f3 f4 f5⟩
  self := fun _ _ _ _ _ st h => wpAny_pyIter_rangeiter st h
end L2
namespace L2
open PySem PySem.Spec PyProof.Rows
section
variable {X : Cx} {tg : Expr}
noncomputable def iList (K : PySem.W.Frag) (tl : TE) : TI := fun σ H R => tl σ H fun x H1 => ∃ a, x = .ref a ∧ (∃ xs, SqL K H1 a xs) ∧ R (Itl K a) H1
noncomputable def iTup (K : PySem.W.Frag) (tl : TE) : TI := fun σ H R => tl σ H fun x H1 => ∃ a, x = .ref a ∧ (∃ xs, SqT K H1 a xs) ∧ R (Itt K a) H1
theorem pi_list {l : Expr} {tl : TE} (hl : PE X l tl) : PI X tg l (iList X.K tl) := by
  intro pins s σ H R I h
  refine thn (hl pins s σ H _ I h) fun v s1 ⟨x, H1, I1, r1, q1⟩ => ?_
  obtain ⟨a, e, ⟨xs, hq⟩, q⟩ := q1
  subst e
  cases r1
  obtain ⟨its, rv, p, hz⟩ := I1.list hq
  refine wpAny_pyIter_list p.isList ?_
  refine ⟨s1.heap.objs.size, [s1.heap.objs.size], _, _, H1, rfl, I1.kept (t' := s1.toks) fun b o e => Heap.get?_push_of_some _ e, turn_list a _, ⟨_, Heap.get?_push_size _ rfl, rfl, rfl⟩, fun b hb => ?_, q⟩
  have e : b = s1.heap.objs.size := by simpa using hb
  subst e
  exact I1.fpOk (Nat.le_refl _) (I1.hok.fresh (Nat.le_refl _))
theorem pi_tup {l : Expr} {tl : TE} (hl : PE X l tl) : PI X tg l (iTup X.K tl) := by
  intro pins s σ H R I h
  refine thn (hl pins s σ H _ I h) fun v s1 ⟨x, H1, I1, r1, q1⟩ => ?_
  obtain ⟨a, e, ⟨xs, hq⟩, q⟩ := q1
  subst e
  cases r1
  obtain ⟨its, rv, p, hz⟩ := I1.tuple hq
  refine wpAny_pyIter_tuple (show s1.heap.IsTuple a its.toArray from p) ?_
  refine ⟨s1.heap.objs.size, [s1.heap.objs.size], _, _, H1, rfl, I1.kept (t' := s1.toks) fun b o e => Heap.get?_push_of_some _ e, turn_tuple a _, ⟨_, Heap.get?_push_size _ rfl, rfl, rfl⟩, fun b hb => ?_, q⟩
  have e : b = s1.heap.objs.size := by simpa using hb
  subst e
  exact I1.fpOk (Nat.le_refl _) (I1.hok.fresh (Nat.le_refl _))
theorem range_it {pins : List (Addr × Obj)} {σ : St} {H : Hp} {s : Shared} {R : It → Hp → Prop} {E : Value → Shared → Prop} {lo hi : Int} {t u v : Tok} {tk : Nat} (I : Inv X pins σ H s) (h1 : -(2 ^ 62) ≤ lo) (h2 : lo < 2 ^ 62) (h3 : -(2 ^ 62) ≤ hi) (h4 : hi < 2 ^ 62)
    (q : R (Itr lo (hi - lo).toNat) H) : wpAny (model X.prog X.w) X.A (pyIter (.ref s.heap.objs.size)) (PIE X pins σ tg R) E { s with heap := s.heap.push { cls := .type "range", data := .fields #[.int lo t, .int hi u, .int 1 v] }, toks := tk } := by
  refine wpAny_pyIter_range (IsRange.new ..) (small_one h1 h2 h3 h4) ?_
  have I1 : Inv X pins σ H { s with heap := s.heap.push { cls := .type "range", data := .fields #[.int lo t, .int hi u, .int 1 v] }, toks := tk } := I.kept fun b o e => Heap.get?_push_of_some _ e
  refine ⟨(s.heap.push { cls := .type "range", data := .fields #[.int lo t, .int hi u, .int 1 v] }).objs.size, [(s.heap.push { cls := .type "range", data := .fields #[.int lo t, .int hi u, .int 1 v] }).objs.size], _, _, H, rfl,
    I1.kept (t' := tk) fun b o e => Heap.get?_push_of_some _ e, turn_range _ lo (hi - lo).toNat, ?_, fun b hb => ?_, q⟩
  · have e1 : lo + ((0 : Nat) : Int) * 1 = lo := by simp
    have e2 : (((hi - lo).toNat : Nat) : Int) - ((0 : Nat) : Int) = Builtin.Range.rangeSize lo hi 1 := by rw [rangeSize_one]; split <;> omega
    show IsRangeIter _ _ (lo + ((0 : Nat) : Int) * 1) ((((hi - lo).toNat : Nat) : Int) - ((0 : Nat) : Int)) 1
    rw [e1, e2]
    exact Heap.get?_push_size _ rfl
  · have e : b = (s.heap.push { cls := .type "range", data := .fields #[.int lo t, .int hi u, .int 1 v] }).objs.size := by simpa using hb
    subst e
    exact I1.fpOk (Nat.le_refl _) (I1.hok.fresh (Nat.le_refl _))
noncomputable def iRng1 (ta : TA) : TI := fun σ H R => ta σ H fun vs H1 => ∃ j : Int, vs = [.int j] ∧ -(2 ^ 62) ≤ j ∧ j < 2 ^ 62 ∧ R (Itr 0 j.toNat) H1
theorem pi_range1 {a : Expr} {ta : TA} {p pos : Pos} (hg : Gl X "range") (hm : X.mg "range" = none) (ha : PA X [a] ta) (hs : starEach [a] X.env = [(false, eval a X.env)] := by rfl) : PI X tg (.Call (.Name "range" p) [a] [] pos) (iRng1 ta) := by
  intro pins s σ H R I h
  refine Call_ (ld_blt I hg hm boot_range (PyProof.Rows.callWith_type1 (thn (ha pos pins s σ H _ I h) fun us s1 ⟨vs, H1, I1, r1, q1⟩ => ?_) hs rfl))
  obtain ⟨j, e, q1, q2, q⟩ := q1
  subst e
  cases r1 with
  | cons r rr =>
    cases rr
    obtain ⟨t, rfl⟩ := r
    exact call_range_1 (range_it I1 (by omega) (by omega) q1 q2 (by simpa using q))
noncomputable def tFor (wi : TI) (g : TG) (tb : TS) : TS := fun D σ H => wi σ H fun J H1 => ∃ W : Nat → Nat → St → Hp → Prop, (∃ m, W 0 m σ H1) ∧ ∀ i m σ H, W i m σ H →
  (J.stop i H ∧ D.nx σ H) ∨ (J.go i H ∧ ∃ N : St → Hp → Prop, (∀ σ' H', N σ' H' → ∃ m', m' < m ∧ W (i + 1) m' σ' H') ∧ ∀ x H', J.yld i H x H' → g x σ H' fun σ2 H2 => tb { D with nx := N, ct := N, bk := D.nx } σ2 H2)
noncomputable def pinsAt (fp : List Addr) (h : Heap) : List (Addr × Obj) := fp.filterMap fun b => (h.get? b).map fun o => (b, o)
theorem mem_pinsAt {fp : List Addr} {h : Heap} {b : Addr} {o : Obj} (hb : b ∈ fp) (e : h.get? b = some o) : (b, o) ∈ pinsAt fp h := List.mem_filterMap.mpr ⟨b, hb, by rw [e]; rfl⟩
theorem of_pinsAt {fp : List Addr} {h : Heap} {p : Addr × Obj} (hp : p ∈ pinsAt fp h) : p.1 ∈ fp ∧ h.get? p.1 = some p.2 := by
  obtain ⟨b, hb, e⟩ := List.mem_filterMap.mp hp
  cases q : h.get? b with
  | none => rw [q] at e; cases e
  | some o =>
    rw [q] at e
    have e' : (b, o) = p := Option.some.inj e
    subst e'
    exact ⟨hb, q⟩
theorem Inv.pinned {pins : List (Addr × Obj)} {σ : St} {H : Hp} {s : Shared} {fp : List Addr} (I : Inv X pins σ H s) (hf : ∀ b ∈ fp, FpOk X pins H b) (ho : ∀ b ∈ fp, ∃ o, s.heap.get? b = some o ∧ ∀ v, o.data ≠ .cell v) : Inv X (pins ++ pinsAt fp s.heap) σ H s :=
  I.pins_of fun p hp => (List.mem_append.mp hp).elim (fun z => I.pin p (List.mem_append_right _ z)) fun z => by
    obtain ⟨hb, e⟩ := of_pinsAt z
    obtain ⟨f0, f1, f2, _⟩ := hf p.1 hb
    obtain ⟨o, e', d⟩ := ho p.1 hb
    rw [e] at e'; cases e'
    exact ⟨e, f0, f1, f2, d⟩
theorem Inv.unpinned {pins pl : List (Addr × Obj)} {σ : St} {H : Hp} {s : Shared} (I : Inv X (pins ++ pl) σ H s) : Inv X pins σ H s := I.pins_of fun p hp => I.pin p (List.mem_append_right _ (List.mem_append_left _ hp))
theorem ps_for {iter : Expr} {body : List Stmt} {wi : TI} {g : TG} {tb : TS} {pos : Pos} (hp : PassesOwn (model X.prog X.w) X.A X.env X.xe) (hc : X.calm = true) (hi : PI X tg iter wi) (hg : PG X tg g) (hb : PSs X body tb)
    (hs : ∀ x, foldedSetIterable iter X.env x = pure x := by intro _; rfl) : PS X (.For tg iter body [] pos) (tFor wi g tb) := by
  intro pins s σ H D I h
  refine wpAny_For (thn (hi pins s σ H _ I h) fun v s1 h1 => thn h1 fun itv s2 h2 => ?_) hs
  obtain ⟨it, fp, tn, J, H2, e, I2, T, st2, f2, W, ⟨m0, w0⟩, turn⟩ := h2
  subst e
  -- what stays true of the iterator's objects through the loop
  have stat : ∀ {H' : Hp}, (∀ b ∈ fp, H' b = none) → ∀ b ∈ fp, FpOk X pins H' b := fun hn b hb => ⟨hn b hb, (f2 b hb).2⟩
  refine codeAny_forLoop_any (fun n s' => ∃ i σ' H', Inv X pins σ' H' s' ∧ tn i s'.heap ∧ (∀ b ∈ fp, H' b = none) ∧ W i n σ' H') ?_ m0 ⟨0, σ, H2, I2, st2, fun b hb => (f2 b hb).1, w0⟩
  rintro n s3 ⟨i, σ3, H3, I3, st3, fr3, w3⟩
  rcases turn i n σ3 H3 w3 with ⟨stop, qn⟩ | ⟨go, N, hN, step⟩
  · refine wpAny_passesOwn hp (thn (T.done X rfl rfl rfl hc i pins s3 σ3 H3 X.xe I3 (stat fr3) st3 stop) fun r s4 ⟨hr, I4⟩ => ?_)
    subst hr
    exact wpAny_execs_nil ⟨σ3, H3, I4, qn⟩
  · refine wpAny_passesOwn hp (thn (T.item X rfl rfl rfl hc i pins s3 σ3 H3 X.xe I3 (stat fr3) st3 go) fun r s4 ⟨u, hr, h4⟩ => ?_)
    subst hr
    refine wpAny_passesOwn hp (thn h4 fun _ s5 ⟨x, H5, I5, r5, y5, st5, fr5⟩ => ?_)
    have I5' := I5.pinned (stat fr5) (T.obj _ _ st5)
    refine wpAny_passesOwn hp (thn (hg _ s5 σ3 H5 x u _ I5' r5 (step x H5 y5)) fun _ s6 ⟨σ6, H6, I6, q6⟩ => ?_)
    refine wpAny_passesOwn hp (thn (hb _ s6 σ6 H6 _ I6 q6) fun f s7 q7 => ?_)
    have again : ∀ {σ7 : St} {H7 : Hp}, Inv X (pins ++ pinsAt fp s5.heap) σ7 H7 s7 → N σ7 H7 → ∃ m, m < n ∧ ∃ i σ' H', Inv X pins σ' H' s7 ∧ tn i s7.heap ∧ (∀ b ∈ fp, H' b = none) ∧ W i m σ' H' := fun {σ7 H7} I7 n7 => by
      obtain ⟨m', hm, w7⟩ := hN σ7 H7 n7
      refine ⟨m', hm, i + 1, σ7, H7, I7.unpinned, T.keep _ _ _ st5 fun b hb o e => (I7.pin (b, o) (List.mem_append_right _ (List.mem_append_right _ (mem_pinsAt hb e)))).1, fun b hb => ?_, w7⟩
      obtain ⟨o, e, d⟩ := T.obj _ _ st5 b hb
      exact (I7.pin (b, o) (List.mem_append_right _ (List.mem_append_right _ (mem_pinsAt hb e)))).2.1
    cases f with
    | next => obtain ⟨σ7, H7, I7, n7⟩ := q7; exact again I7 n7
    | cont => obtain ⟨σ7, H7, I7, n7⟩ := q7; exact again I7 n7
    | brk => obtain ⟨σ7, H7, I7, q7⟩ := q7; exact ⟨σ7, H7, I7.unpinned, q7⟩
    | ret v => obtain ⟨x7, σ7, H7, I7, r7, q7⟩ := q7; exact ⟨x7, σ7, H7, I7.unpinned, r7, q7⟩
end
end L2
namespace L2
open PySem PySem.Spec PyProof.Rows
noncomputable abbrev R2 := V → V → Hp → VK → Prop
noncomputable def OpR (X : Cx) (f : Value → Value → Sem Value) (r : R2) : Prop :=
  ∀ (pins : List (Addr × Obj)) (s : Shared) (σ : St) (H : Hp) (x y : V) (v u : Value) (Q : VK), Inv X pins σ H s → RelV x v → RelV y u → r x y H Q →
    wpAny (model X.prog X.w) X.A (f v u) (EP X pins σ Q) X.xe s
noncomputable def UnR (X : Cx) (f : Value → Sem Value) (r : V → Hp → VK → Prop) : Prop :=
  ∀ (pins : List (Addr × Obj)) (s : Shared) (σ : St) (H : Hp) (x : V) (v : Value) (Q : VK), Inv X pins σ H s → RelV x v → r x H Q →
    wpAny (model X.prog X.w) X.A (f v) (EP X pins σ Q) X.xe s
noncomputable def CallR (X : Cx) (f : Value) (r : List V → Hp → VK → Prop) : Prop :=
  ∀ (pins : List (Addr × Obj)) (s : Shared) (σ : St) (H : Hp) (xs : List V) (us : List Value) (Q : VK), Inv X pins σ H s → Vals xs us → r xs H Q →
    wpAny (model X.prog X.w) X.A (call f us) (EP X pins σ Q) X.xe s
noncomputable def TruR (X : Cx) (r : V → Hp → (Bool → Hp → Prop) → Prop) : Prop :=
  ∀ (pins : List (Addr × Obj)) (s : Shared) (σ : St) (H : Hp) (x : V) (v : Value) (Q : Bool → Hp → Prop), Inv X pins σ H s → RelV x v → r x H Q →
    wpAny (model X.prog X.w) X.A (truthy v) (TP X pins σ Q) X.xe s
noncomputable def tOp (r : R2) (ta tb : TE) : TE := fun σ H Q => ta σ H fun x H1 => tb σ H1 fun y H2 => r x y H2 Q
noncomputable def tUn (r : V → Hp → VK → Prop) (ta : TE) : TE := fun σ H Q => ta σ H fun x H1 => r x H1 Q
noncomputable def rI (C : Int → Int → Prop) (g : Int → Int → V) : R2 := fun x y H Q => ∃ i j, x = .int i ∧ y = .int j ∧ C i j ∧ Q (g i j) H
noncomputable def rI0 (g : Int → Int → V) : R2 := fun x y H Q => ∃ i j, x = .int i ∧ y = .int j ∧ Q (g i j) H
noncomputable def rU (g : Int → V) : V → Hp → VK → Prop := fun x H Q => ∃ i, x = .int i ∧ Q (g i) H
section
variable {X : Cx} {a b c : Expr} {ta tb tc : TE} {pos : Pos}
theorem binT (ha : PE X a ta) (hb : PE X b tb) {pins : List (Addr × Obj)} {s : Shared} {σ : St} {H : Hp} {R : V → V → Hp → Prop} (I : Inv X pins σ H s)
    (h : ta σ H fun x H1 => tb σ H1 fun y H2 => R x y H2) {Q : Value → Shared → Prop} {f : Value → Value → Sem Value}
    (hf : ∀ v u s2 x y H2, Inv X pins σ H2 s2 → RelV x v → RelV y u → R x y H2 → wpAny (model X.prog X.w) X.A (f v u) Q X.xe s2) :
    wpAny (model X.prog X.w) X.A (eval a X.env) (fun v s₁ => wpAny (model X.prog X.w) X.A (eval b X.env) (fun u s₂ => wpAny (model X.prog X.w) X.A (f v u) Q X.xe s₂) X.xe s₁) X.xe s := by
  refine thn (ha pins s σ H _ I h) fun v s1 ⟨x, H1, I1, r1, q1⟩ => ?_
  refine thn (hb pins s1 σ H1 _ I1 q1) fun u s2 ⟨y, H2, I2, r2, q2⟩ => ?_
  exact hf v u s2 x y H2 I2 r1 r2 q2
theorem pe_op {op : Operator} {r : R2} (ho : OpR X (binaryOp op) r) (ha : PE X a ta) (hb : PE X b tb) : PE X (.BinOp a op b pos) (tOp r ta tb) := by
  intro pins s σ H Q I h
  exact wpAny_BinOp (binT ha hb I h fun v u s2 x y H2 I2 rx ry q => ho pins s2 σ H2 x y v u Q I2 rx ry q)
theorem pe_un {op : UnaryOp} {r : V → Hp → VK → Prop} (ho : UnR X (unaryOp op) r) (ha : PE X a ta) : PE X (.UnaryOp op a pos) (tUn r ta) := by
  intro pins s σ H Q I h
  exact UnaryOp_ (thn (ha pins s σ H _ I h) fun v s1 ⟨x, H1, I1, r1, q1⟩ => ho pins s1 σ H1 x v Q I1 r1 q1)
theorem opI {f : Value → Value → Sem Value} {C : Int → Int → Prop} {g : Int → Int → Int}
    (rule : ∀ (i j : Int) (t u : Tok) (s : Shared) (Q : Value → Shared → Prop) (E : Value → Shared → Prop), C i j → Q (.int (g i j) s.toks) { s with toks := s.toks + 1 } → wpAny (model X.prog X.w) X.A (f (.int i t) (.int j u)) Q E s) :
    OpR X f (rI C fun i j => .int (g i j)) := by
  intro pins s σ H x y v u Q I rx ry h
  obtain ⟨i, j, rfl, rfl, hc, q⟩ := h
  obtain ⟨t, rfl⟩ := rx
  obtain ⟨t', rfl⟩ := ry
  exact rule i j t t' s _ _ hc ⟨.int (g i j), H, I.tok _, ⟨_, rfl⟩, q⟩
theorem opI0 {f : Value → Value → Sem Value} {g : Int → Int → Int}
    (rule : ∀ (i j : Int) (t u : Tok) (s : Shared) (Q : Value → Shared → Prop) (E : Value → Shared → Prop), Q (.int (g i j) s.toks) { s with toks := s.toks + 1 } → wpAny (model X.prog X.w) X.A (f (.int i t) (.int j u)) Q E s) :
    OpR X f (rI0 fun i j => .int (g i j)) := by
  intro pins s σ H x y v u Q I rx ry h
  obtain ⟨i, j, rfl, rfl, q⟩ := h
  obtain ⟨t, rfl⟩ := rx
  obtain ⟨t', rfl⟩ := ry
  exact rule i j t t' s _ _ ⟨.int (g i j), H, I.tok _, ⟨_, rfl⟩, q⟩
theorem opB0 {f : Value → Value → Sem Value} {g : Int → Int → Bool}
    (rule : ∀ (i j : Int) (t u : Tok) (s : Shared) (Q : Value → Shared → Prop) (E : Value → Shared → Prop), Q (.bool (g i j)) s → wpAny (model X.prog X.w) X.A (f (.int i t) (.int j u)) Q E s) :
    OpR X f (rI0 fun i j => .bl (g i j)) := by
  intro pins s σ H x y v u Q I rx ry h
  obtain ⟨i, j, rfl, rfl, q⟩ := h
  obtain ⟨t, rfl⟩ := rx
  obtain ⟨t', rfl⟩ := ry
  exact rule i j t t' s _ _ ⟨.bl (g i j), H, I, rfl, q⟩
noncomputable def CDiv (i j : Int) : Prop := 0 < j ∧ j < 1073741824
noncomputable def CPow (i j : Int) : Prop := 0 ≤ j ∧ j ≤ 1000000 ∧ i.natAbs < 2 ^ 64
noncomputable def CMul (i j : Int) : Prop := (-(2 ^ 64) < i ∧ i < 2 ^ 64) ∨ (-(2 ^ 64) < j ∧ j < 2 ^ 64)
theorem CMul.ok {i j : Int} (h : CMul i j) : IntMulOk i j := by
  rcases h with ⟨h1, h2⟩ | ⟨h1, h2⟩
  · exact .of_left (intBits_le_64 h1 h2)
  · exact .of_right (intBits_le_64 h1 h2)
theorem op_add : OpR X (binaryOp .Add) (rI0 fun i j => .int (i + j)) := opI0 fun _ _ _ _ _ _ _ q => add_int q
theorem op_sub : OpR X (binaryOp .Sub) (rI0 fun i j => .int (i - j)) := opI0 fun _ _ _ _ _ _ _ q => sub_int q
theorem op_mul : OpR X (binaryOp .Mult) (rI CMul fun i j => .int (i * j)) := opI fun _ _ _ _ _ _ _ hc q => mul_int q hc.ok
theorem op_fdiv : OpR X (binaryOp .FloorDiv) (rI CDiv fun i j => .int (i / j)) := opI fun i j _ _ _ _ _ hc q => by
  have h1 : (0 : Int) < j := hc.1
  have h2 : j < 1073741824 := hc.2
  exact floordiv_int (by omega) (by rw [Int.fdiv_eq_ediv_of_nonneg i (by omega)]; exact q) (.inl (PyProof.noPylong_small (by omega)))
theorem op_mod : OpR X (binaryOp .Mod) (rI (fun _ j => 0 < j) fun i j => .int (i % j)) := opI fun i j _ _ _ _ _ hc q => by
  have h1 : (0 : Int) < j := hc
  exact mod_int' (by omega) (by rw [Int.fmod_eq_emod_of_nonneg i (by omega)]; exact q)
theorem op_pow : OpR X (binaryOp .Pow) (rI CPow fun i j => .int (i ^ j.toNat)) := opI fun _ _ _ _ _ _ _ hc q => pow_int_small hc.1 hc.2.1 hc.2.2 q
theorem unI {f : Value → Sem Value} {g : Int → Int}
    (rule : ∀ (i : Int) (t : Tok) (s : Shared) (Q : Value → Shared → Prop) (E : Value → Shared → Prop), Q (.int (g i) s.toks) { s with toks := s.toks + 1 } → wpAny (model X.prog X.w) X.A (f (.int i t)) Q E s) :
    UnR X f (rU fun i => .int (g i)) := by
  intro pins s σ H x v Q I rx h
  obtain ⟨i, rfl, q⟩ := h
  obtain ⟨t, rfl⟩ := rx
  exact rule i t s _ _ ⟨.int (g i), H, I.tok _, ⟨_, rfl⟩, q⟩
theorem un_neg : UnR X (unaryOp .USub) (rU fun i => .int (-i)) := unI fun _ _ _ _ _ q => neg_int q
end
section
variable {X : Cx} {a b c : Expr} {ta tb tc : TE} {pos : Pos}
theorem fin_bl {pins : List (Addr × Obj)} {σ : St} {H : Hp} {s : Shared} {Q : VK} {k k' : Bool} (I : Inv X pins σ H s) (q : Q (.bl k) H) (e : k = k') : EP X pins σ Q (.bool k') s := by
  subst e
  exact ⟨.bl k, H, I, rfl, q⟩
theorem op_lt : OpR X (compareOp .Lt) (rI0 fun i j => .bl (decide (i < j))) := opB0 fun _ _ _ _ _ _ _ q => lt_int q
theorem op_le : OpR X (compareOp .LtE) (rI0 fun i j => .bl (decide (i ≤ j))) := opB0 fun _ _ _ _ _ _ _ q => le_int q
theorem op_gt : OpR X (compareOp .Gt) (rI0 fun i j => .bl (decide (j < i))) := opB0 fun _ _ _ _ _ _ _ q => gt_int q
theorem op_isN : OpR X (compareOp .Is) (fun x y H Q => y = .non ∧ Q (.bl (decide (x = .non))) H) := by
  intro pins s σ H x y v u Q I rx ry h
  obtain ⟨rfl, q⟩ := h
  cases ry
  refine is_none_gen (fin_bl I q ?_)
  cases x <;> first
    | (cases rx; rfl)
    | (obtain ⟨t, rfl⟩ := rx; rfl)
theorem OpR.or {f : Value → Value → Sem Value} {r r' : R2} (h : OpR X f r) (h' : OpR X f r') : OpR X f (fun x y H Q => r x y H Q ∨ r' x y H Q) := by
  intro pins s σ H x y v u Q I rx ry q
  rcases q with q | q
  · exact h pins s σ H x y v u Q I rx ry q
  · exact h' pins s σ H x y v u Q I rx ry q
theorem nomark (b : Expr) {op : CmpOp} (h : op ≠ .In := by decide) (h2 : op ≠ .NotIn := by decide) : behindInMarks op b = false := by
  have e1 : (op == CmpOp.In) = false := by cases op <;> first | rfl | exact absurd rfl h
  have e2 : (op == CmpOp.NotIn) = false := by cases op <;> first | rfl | exact absurd rfl h2
  cases b <;> simp [behindInMarks, e1, e2]
theorem pe_cmpR {op : CmpOp} {r : R2} (ho : OpR X (compareOp op) r) (ha : PE X a ta) (hb : PE X b tb) (hm : behindInMarks op b = false) : PE X (.Compare a [op] [b] pos) (tOp r ta tb) := by
  intro pins s σ H Q I h
  exact wpAny_Compare1 (binT ha hb I h fun v u s2 x y H2 I2 rx ry q => ho pins s2 σ H2 x y v u Q I2 rx ry q) hm
noncomputable def tTest (t : TE) : TT := fun σ H Q => t σ H fun x H' => ∃ k, x = .bl k ∧ Q k H'
theorem pt_cmpR {op : CmpOp} {r : R2} (ho : OpR X (compareOp op) r) (ha : PE X a ta) (hb : PE X b tb) (hm : behindInMarks op b = false) : PT X (.Compare a [op] [b] pos) (tTest (tOp r ta tb)) := by
  intro pins s σ H Q I h
  refine wpAny_isTrue_Compare1 (thn (ha pins s σ H _ I h) fun v s1 ⟨x, H1, I1, r1, q1⟩ => thn (hb pins s1 σ H1 _ I1 q1) fun u s2 ⟨y, H2, I2, r2, q2⟩ =>
    thn (ho pins s2 σ H2 x y v u _ I2 r1 r2 q2) fun c s3 ⟨z, H3, I3, r3, k, e, q3⟩ => ?_) hm
  subst e
  cases r3
  exact wpAny_truthy_bool ⟨H3, I3, q3⟩
noncomputable def tChain (r r' : R2) (ta tb tc : TE) : TE := fun σ H Q => ta σ H fun x H1 => tb σ H1 fun y H2 => r x y H2 fun z H3 => ∃ k, z = .bl k ∧
  (if k = true then tc σ H3 fun w' H4 => r' y w' H4 Q else Q (.bl false) H3)
theorem pe_chain {op op' : CmpOp} {r r' : R2} (ho : OpR X (compareOp op) r) (ho' : OpR X (compareOp op') r') (ha : PE X a ta) (hb : PE X b tb) (hc : PE X c tc)
    (hm : lastMarks [op, op'] [b, c] = false := by with_unfolding_all rfl) : PE X (.Compare a [op, op'] [b, c] pos) (tChain r r' ta tb tc) := by
  intro pins s σ H Q I h
  refine Compare_chain (thn (ha pins s σ H _ I h) fun v s1 ⟨x, H1, I1, r1, q1⟩ => chain_link (thn (hb pins s1 σ H1 _ I1 q1) fun u s2 ⟨y, H2, I2, r2, q2⟩ =>
    thn (ho pins s2 σ H2 x y v u _ I2 r1 r2 q2) fun d s3 ⟨z, H3, I3, r3, k, e, q3⟩ => ?_)) hm
  subst e
  cases r3
  refine wpAny_truthy_bool ?_
  cases k with
  | false => exact ite_ff ⟨.bl false, H3, I3, rfl, q3⟩
  | true => exact ite_tt (chain_last (thn (hc pins s3 σ H3 _ I3 q3) fun w' s4 ⟨z', H4, I4, r4, q4⟩ => ho' pins s4 σ H4 y z' u w' Q I4 r2 r4 q4))
theorem pt_chain {op op' : CmpOp} {r r' : R2} (ho : OpR X (compareOp op) r) (ho' : OpR X (compareOp op') r') (ha : PE X a ta) (hb : PE X b tb) (hc : PE X c tc)
    (hm : lastMarks [op, op'] [b, c] = false := by with_unfolding_all rfl) : PT X (.Compare a [op, op'] [b, c] pos) (tTest (tChain r r' ta tb tc)) := by
  intro pins s σ H Q I h
  refine isTrue_chain (thn (ha pins s σ H _ I h) fun v s1 ⟨x, H1, I1, r1, q1⟩ => test_link (thn (hb pins s1 σ H1 _ I1 q1) fun u s2 ⟨y, H2, I2, r2, q2⟩ =>
    thn (ho pins s2 σ H2 x y v u _ I2 r1 r2 q2) fun d s3 ⟨z, H3, I3, r3, k, e, q3⟩ => ?_)) hm
  subst e
  cases r3
  refine wpAny_truthy_bool ?_
  cases k with
  | false =>
    obtain ⟨k', e', q'⟩ := q3
    cases e'
    exact ite_ff ⟨H3, I3, q'⟩
  | true =>
    refine ite_tt (test_last (thn (hc pins s3 σ H3 _ I3 q3) fun w' s4 ⟨z', H4, I4, r4, q4⟩ => thn (ho' pins s4 σ H4 y z' u w' _ I4 r2 r4 q4) fun d' s5 ⟨z2, H5, I5, r5, k2, e2, q5⟩ => ?_))
    subst e2
    cases r5
    exact wpAny_truthy_bool ⟨H5, I5, q5⟩
noncomputable def TruV (K : PySem.W.Frag) (x : V) (H : Hp) (k : Bool) : Prop :=
  match x with
  | .non => k = false
  | .bl b => k = b
  | .int i => k = (i != 0)
  | .str y => y.length ≤ sizeLine ∧ k = ((y.length : Int) != 0)
  | .byt y => y.size ≤ sizeLine ∧ k = ((y.size : Int) != 0)
  | .ref p => (∃ xs, SqL K H p xs ∧ k = !xs.isEmpty) ∨ (∃ xs, SqT K H p xs ∧ k = !xs.isEmpty) ∨ ∃ kvs, H p = some (.dK kvs) ∧ k = !kvs.isEmpty
  | _ => False
theorem isEmpty_kv {κ : Type} {kvs : List (κ × V)} {vs : List (κ × Value)} (r : KV kvs vs) : (!vs.isEmpty) = !kvs.isEmpty := by
  cases r <;> rfl
theorem isEmpty_of {xs : List V} {its : List Value} (r : Vals xs its) : (!its.toArray.isEmpty) = !xs.isEmpty := by
  cases r <;> simp
theorem line63 : (sizeLine : Nat) < 2 ^ 63 := by rw [sizeLine_eq]; decide
theorem tru_ok : TruR X (fun x H Q => ∃ k, TruV X.K x H k ∧ Q k H) := by
  intro pins s σ H x v Q I rx h
  obtain ⟨k, e, q⟩ := h
  have hl := line63
  have hs : sizeLine = 16777216 := sizeLine_eq
  cases x with
  | non =>
    cases rx
    have e' : k = false := e
    subst e'
    exact truthy_none ⟨H, I, q⟩
  | bl b =>
    cases rx
    have e' : k = b := e
    subst e'
    exact wpAny_truthy_bool ⟨H, I, q⟩
  | int i =>
    obtain ⟨t, rfl⟩ := rx
    have e' : k = (i != 0) := e
    subst e'
    exact PySem.P.truthy_int ⟨H, I, q⟩
  | str y =>
    obtain ⟨t, rfl⟩ := rx
    obtain ⟨hy, e'⟩ : y.length ≤ sizeLine ∧ k = ((y.length : Int) != 0) := e
    subst e'
    exact PySem.P.truthy_str (by omega) ⟨H, I.tok _, q⟩
  | byt y =>
    obtain ⟨t, rfl⟩ := rx
    obtain ⟨hy, e'⟩ : y.size ≤ sizeLine ∧ k = ((y.size : Int) != 0) := e
    subst e'
    exact PySem.W.truthy_bytes (by omega) ⟨H, I.tok _, q⟩
  | ref p =>
    cases rx
    have e' : (∃ xs, SqL X.K H p xs ∧ k = !xs.isEmpty) ∨ (∃ xs, SqT X.K H p xs ∧ k = !xs.isEmpty) ∨ ∃ kvs, H p = some (.dK kvs) ∧ k = !kvs.isEmpty := e
    rcases e' with ⟨xs, hx, e'⟩ | ⟨xs, hx, e'⟩ | ⟨kvs, hx, e'⟩
    · subst e'
      obtain ⟨its, r, pl, hz⟩ := I.list hx
      have hlen := r.length
      exact wpAny_truthy_list pl.isList (by simp only [List.size_toArray]; omega) ⟨H, I.tok _, by rw [isEmpty_of r]; exact q⟩
    · subst e'
      obtain ⟨its, r, pl, hz⟩ := I.tuple hx
      have hlen := r.length
      exact truthy_tuple pl (by simp only [List.size_toArray]; omega) ⟨H, I.tok _, by rw [isEmpty_of r]; exact q⟩
    · subst e'
      obtain ⟨hz, hS, vs, r, m⟩ : kvs.length ≤ sizeLine ∧ (p == sysModules) = false ∧ ∃ vs, KV kvs vs ∧ s.heap.DictOf (mixKind X.prog X.w) p vs := I.hok p _ hx
      have hlen : kvs.length = vs.length := Paired.length r
      exact wpAny_truthy_dict hS m (by omega) ⟨H, I.tok _, by rw [isEmpty_kv r]; exact q⟩
  | _ => exact (show False from e).elim
theorem op_add_str : OpR X (binaryOp .Add) (fun x y H Q => ∃ i j, x = .str i ∧ y = .str j ∧ i.length + j.length ≤ sizeLine ∧ Q (.str (i ++ j)) H) := by
  intro pins s σ H x y v u Q I rx ry h
  obtain ⟨i, j, rfl, rfl, hz, q⟩ := h
  obtain ⟨t, rfl⟩ := rx
  obtain ⟨t', rfl⟩ := ry
  exact add_str (fun t' tk => ⟨.str (i ++ j), H, I.tok _, ⟨_, rfl⟩, q⟩) hz
theorem vals1 {x : V} {us : List Value} (r : Vals [x] us) : ∃ u, us = [u] ∧ RelV x u := by
  cases r with
  | cons r1 r2 => cases r2; exact ⟨_, rfl, r1⟩
theorem vals2 {x y : V} {us : List Value} (r : Vals [x, y] us) : ∃ u w', us = [u, w'] ∧ RelV x u ∧ RelV y w' := by
  cases r with
  | cons r1 r2 =>
    cases r2 with
    | cons r3 r4 => cases r4; exact ⟨_, _, rfl, r1, r3⟩
theorem call_int1 : CallR X (.type "int") (fun xs H Q => (∃ i, xs = [.int i] ∧ Q (.int i) H) ∨ ∃ k, xs = [.bl k] ∧ Q (.int (if k then 1 else 0)) H) := by
  intro pins s σ H xs us Q I r h
  rcases h with ⟨i, rfl, q⟩ | ⟨k, rfl, q⟩
  · obtain ⟨u, rfl, t, rfl⟩ := vals1 r
    exact call_int_int ⟨.int i, H, I, ⟨_, rfl⟩, q⟩
  · obtain ⟨u, rfl, r1⟩ := vals1 r
    cases r1
    exact call_int_bool ⟨.int (if k then 1 else 0), H, I.tok _, ⟨_, rfl⟩, q⟩
noncomputable def LenV (K : PySem.W.Frag) (x : V) (H : Hp) (n : Nat) : Prop :=
  match x with
  | .str y => y.length ≤ sizeLine ∧ n = y.length
  | .byt y => y.size ≤ sizeLine ∧ n = y.size
  | .ref p => (∃ xs, SqL K H p xs ∧ n = xs.length) ∨ ∃ xs, SqT K H p xs ∧ n = xs.length
  | _ => False
theorem call_len : CallR X (.builtin "len") (fun xs H Q => ∃ x n, xs = [x] ∧ LenV X.K x H n ∧ Q (.int n) H) := by
  intro pins s σ H xs us Q I r h
  obtain ⟨x, n, rfl, e, q⟩ := h
  obtain ⟨u, rfl, rx⟩ := vals1 r
  have hl := line63
  have hs : sizeLine = 16777216 := sizeLine_eq
  cases x with
  | str y =>
    obtain ⟨t, rfl⟩ := rx
    obtain ⟨hy, e'⟩ : y.length ≤ sizeLine ∧ n = y.length := e
    subst e'
    exact len_str (by omega) ⟨.int _, H, I.tok _, ⟨_, rfl⟩, q⟩
  | byt y =>
    obtain ⟨t, rfl⟩ := rx
    obtain ⟨hy, e'⟩ : y.size ≤ sizeLine ∧ n = y.size := e
    subst e'
    exact PySem.W.len_bytes (by omega) ⟨.int _, H, I.tok _, ⟨_, rfl⟩, q⟩
  | ref p =>
    cases rx
    have e' : (∃ xs, SqL X.K H p xs ∧ n = xs.length) ∨ ∃ xs, SqT X.K H p xs ∧ n = xs.length := e
    rcases e' with ⟨xs, hx, e'⟩ | ⟨xs, hx, e'⟩
    · subst e'
      obtain ⟨its, r', pl, hz⟩ := I.list hx
      have hlen := r'.length
      exact Calls.call_len_list pl.isList (by simp only [List.size_toArray]; omega) ⟨.int xs.length, H, I.tok _, ⟨_, by simp only [List.size_toArray]; rw [hlen]⟩, q⟩
    · subst e'
      obtain ⟨its, r', pl, hz⟩ := I.tuple hx
      have hlen := r'.length
      exact len_tuple pl (by simp only [List.size_toArray]; omega) ⟨.int xs.length, H, I.tok _, ⟨_, by simp only [List.size_toArray]; rw [hlen]⟩, q⟩
  | _ => exact (show False from e).elim
end
end L2
namespace L2
open PySem PySem.Spec PyProof.Rows
structure ObjM (h : Heap) (x dx C : Addr) (mA : Str → Option Value) : Prop where
  obj : h.get? x = some (PySem.W.instObj C dx)
  ns : h.Ns1 dx mA
  ne : dx ≠ x
theorem lookIn_ns {h : Heap} {dx : Addr} {mA : Str → Option Value} (n : h.Ns1 dx mA) : ∃ od, h.get? dx = some od ∧ ∀ name, PySem.W.lookIn name od = some (mA name) := by
  obtain ⟨o, es, ep, ho, hd, hk, _, hm⟩ := n
  refine ⟨o, ho, fun name => ?_⟩
  have e := hm name
  unfold nsFind findBy at e
  rw [← Array.find?_toList] at e
  unfold PySem.W.lookIn
  rw [hd]
  dsimp only
  split
  · rename_i y q
    rw [q] at e
    exact congrArg some e
  · rename_i q
    rw [q] at e
    have a : es.toList.any (·.refKey) = false := by
      rw [List.any_eq_false]
      intro y hy
      obtain ⟨z, t, hkey⟩ := hk y (Array.mem_toList_iff.mp hy)
      simp [DictEntry.refKey, hkey]
    have a' : ¬ es.toList.any (·.refKey) = true := by rw [a]; exact Bool.false_ne_true
    rw [if_neg a']
    exact congrArg some e
theorem ObjM.look {h : Heap} {x dx C : Addr} {mA : Str → Option Value} (I : ObjM h x dx C mA) : ∃ od, PySem.W.InstAt h x (PySem.W.instObj C dx) C (some od) ∧ ∀ name, PySem.W.lookIn name od = some (mA name) :=
  let ⟨od, ho, hl⟩ := lookIn_ns I.ns
  ⟨od, ⟨I.obj, rfl, rfl, ho⟩, hl⟩
section
variable {prog : Program} {w : World} {A : Around} {E : Value → Shared → Prop} {s : Shared} {K : PySem.W.Frag} {x dx C f : Addr} {mA : Str → Option Value} {name : Str} {v : Value}
theorem get_map {expr : Bool} {Q : Value → Shared → Prop} (X : K.In s.heap) (I : ObjM s.heap x dx C mA) (hg : PySem.W.plainGet K C name = true) (hh : PySem.W.hasDictIn K C = true)
    (ha : PySem.W.findIn K (.ref C) name = some none) (hv : mA name = some v) (hv' : PySem.W.handedIn v = true) (h : Q v { s with toks := s.toks + 1 }) :
    wpAny (model prog w) A (getAttr (.ref x) name expr) Q E s := by
  obtain ⟨od, J, hl⟩ := I.look
  exact PySem.W.get_value X J (PySem.W.plainGet_of hg).1 (PySem.W.findObj_own hh ha rfl (by rw [hl, hv])) hv' h
theorem get_meth {pl : Sem Bool} {Q : Value × List Value → Shared → Prop} (X : K.In s.heap) (I : ObjM s.heap x dx C mA) (hg : PySem.W.plainGet K C name = true)
    (hf : PySem.W.findIn K (.ref C) name = some (some (.ref f))) (ht : PySem.W.isFn K (.ref f) = true) (hv : mA name = none) (h : Q (.ref f, [.ref x]) s) :
    wpAny (model prog w) A (getMethod (.ref x) name pl) Q E s := by
  obtain ⟨od, J, hl⟩ := I.look
  exact PySem.W.method_fn X J (PySem.W.plainGet_of hg).1 (PySem.W.plainGet_of hg).2 hf (beq_iff_eq.mp ht) (by show (PySem.W.lookIn name od).map (·.isSome) = some false; rw [hl, hv]; rfl) h
theorem set_map {ns : List Str} {Q : Unit → Shared → Prop} (X : K.In s.heap) (I : ObjM s.heap x dx C mA)
    (hs : PySem.W.findIn K (.ref C) "__setattr__" = some (some (.builtin "object.__setattr__"))) (hp : PySem.W.plainOver K C = true) (ht : PySem.W.takerIn K C name = some none) (hh : PySem.W.hasDictIn K C = true)
    (hw : PySem.Within mA ns) (hsz : ns.length ≤ sizeLine)
    (h : ∀ h', ObjM h' x dx C (fun y => if y = name then some v else mA y) → Heap.SameBut dx s.heap h' → Q () { s with heap := h', toks := s.toks + 2 }) :
    wpAny (model prog w) A (setAttr (.ref x) name v) Q E s := by
  obtain ⟨od, J, hl⟩ := I.look
  refine PySem.W.set_plain X J hs (PySem.W.osa_open (s := { s with toks := s.toks + 1 }) (r := none) X J hp ht fun b => ?_)
  obtain ⟨cd, hc, hd'⟩ := PySem.W.any_some hh
  have hx : s.heap.get? x = some ⟨.ref C, some dx, .plain, #[]⟩ := I.obj
  refine wpAny_bind (wpAny_pure (wpAny_bind (wpAny_bind (wpAny_loadPart hx (wpAny_bind (PySem.W.Looks.here (s := { s with toks := s.toks + 1 }) (PySem.W.looks_clsIn X hc) ?_))))))
  rw [hd']
  refine wpAny_pure (a := some dx) (wpAny_bind (wpAny_pure (wpAny_bind ?_)))
  refine wpAny_nsSet1 (s := { s with toks := s.toks + 1 }) I.ns fun h' hn2 hs2 => ?_
  obtain ⟨oD, esD, epD, hoD, hdD, hcD⟩ := hn2.count (PySem.Within.cons name v hw)
  refine wpAny_bind (wpAny_lookBehind hoD (by rw [hdD]; exact pastItsLine_dict (Nat.le_trans hcD (by rw [List.length_cons]; omega))) ?_)
  exact wpAny_pure (h _ ⟨(hs2.2 _ (Ne.symm I.ne)).trans I.obj, hn2, I.ne⟩ hs2)
theorem make_map {R : Result → Shared → Prop} {vs : List Value} {kw : List (Str × Value)} (X : K.In s.heap) (hm : PySem.W.makesIn K C = true)
    (hi : PySem.W.findIn K (.ref C) "__init__" = some (some (.ref f))) (hf : PySem.W.typeIn K (.ref f) = some (.type "function"))
    (h : codeAny (model prog w) (A.under (.builtin "type.__call__" ⟨.ref C :: vs, kw⟩)) (.call (.ref f) ⟨.ref (s.heap.objs.size + 1) :: vs, kw⟩) (PySem.W.InitBack (s.heap.objs.size + 1) R)
      { s with heap := (s.heap.push PySem.W.emptyDict).push (PySem.W.instObj C s.heap.objs.size) }) :
    codeAny (model prog w) A (.call (.ref C) ⟨vs, kw⟩) R s := by
  obtain ⟨hh, g, d, t, os⟩ := s
  exact PySem.W.make_core (PySem.W.makes_of X hm) (PySem.W.looks_findIn X hi) (fun self => PySem.W.bind_fn X self hf) (.inl rfl) h
end
noncomputable def putF (f : Str) (v : V) : List (Str × V) → List (Str × V)
  | [] => [(f, v)]
  | (g, x) :: r => if g = f then (g, v) :: r else (g, x) :: putF f v r
theorem lookup_putF (f g : Str) (v : V) : ∀ fs : List (Str × V), (putF f v fs).lookup g = if g = f then some v else fs.lookup g
  | [] => by
    show List.lookup g [(f, v)] = _
    by_cases h : g = f
    · have hb : (g == f) = true := beq_iff_eq.mpr h
      simp only [List.lookup, hb, if_pos h]
    · have hb : (g == f) = false := beq_eq_false_iff_ne.mpr h
      simp only [List.lookup, hb, if_neg h]
  | (k, x) :: r => by
    have ih := lookup_putF f g v r
    rw [show putF f v ((k, x) :: r) = (if k = f then (k, v) :: r else (k, x) :: putF f v r) from rfl]
    by_cases hk : k = f
    · rw [if_pos hk]
      by_cases h : g = k
      · have hb : (g == k) = true := beq_iff_eq.mpr h
        simp only [List.lookup, hb, if_pos (h.trans hk)]
      · have hb : (g == k) = false := beq_eq_false_iff_ne.mpr h
        simp only [List.lookup, hb, if_neg (fun e : g = f => h (e.trans hk.symm))]
    · rw [if_neg hk]
      by_cases h : g = k
      · have hb : (g == k) = true := beq_iff_eq.mpr h
        simp only [List.lookup, hb, if_neg (fun e : g = f => hk (h.symm.trans e))]
      · have hb : (g == k) = false := beq_eq_false_iff_ne.mpr h
        simp only [List.lookup, hb]
        exact ih
theorem keys_putF (f : Str) (v : V) : ∀ fs : List (Str × V), f ∈ (putF f v fs).map (·.1) ∧ ∀ g, g ∈ fs.map (·.1) → g ∈ (putF f v fs).map (·.1)
  | [] => ⟨by simp [putF], fun g h => by simp at h⟩
  | (k, x) :: r => by
    obtain ⟨i1, i2⟩ := keys_putF f v r
    rw [show putF f v ((k, x) :: r) = (if k = f then (k, v) :: r else (k, x) :: putF f v r) from rfl]
    by_cases hk : k = f
    · rw [if_pos hk]
      subst hk
      exact ⟨by simp, fun g h => by simpa using h⟩
    · rw [if_neg hk]
      refine ⟨?_, fun g h => ?_⟩
      · rw [List.map_cons]
        exact List.mem_cons_of_mem _ i1
      · rw [List.map_cons] at h ⊢
        rcases List.mem_cons.mp h with e | e
        · exact List.mem_cons.mpr (.inl e)
        · exact List.mem_cons_of_mem _ (i2 g e)
theorem length_putF (f : Str) (v : V) : ∀ fs : List (Str × V), (putF f v fs).length ≤ fs.length + 1
  | [] => by simp [putF]
  | (k, x) :: r => by
    have ih := length_putF f v r
    rw [show putF f v ((k, x) :: r) = (if k = f then (k, v) :: r else (k, x) :: putF f v r) from rfl]
    by_cases hk : k = f
    · rw [if_pos hk, List.length_cons, List.length_cons]; omega
    · rw [if_neg hk, List.length_cons, List.length_cons]; omega
theorem RelO.some_of {v : V} {o : Option Value} (r : RelO (some v) o) : ∃ u, o = some u ∧ RelV v u := by
  cases o with
  | none => exact (show False from r).elim
  | some u => exact ⟨u, rfl, r⟩
theorem RelO.none_of {o : Option Value} (r : RelO none o) : o = none := by
  cases o with
  | none => rfl
  | some u => exact (show False from r).elim
theorem handed_of {v : V} {u : Value} (r : RelV v u) : PySem.W.handedIn u = true := by
  cases v with
  | non => cases (show u = Value.none from r); rfl
  | bl b => cases (show u = Value.bool b from r); rfl
  | int i => obtain ⟨t, e⟩ := (show ∃ t, u = Value.int i t from r); cases e; rfl
  | str x => obtain ⟨t, e⟩ := (show ∃ t, u = Value.str x t from r); cases e; rfl
  | byt b => obtain ⟨t, e⟩ := (show ∃ t, u = Value.bytes b t from r); cases e; rfl
  | flt b => obtain ⟨t, e⟩ := (show ∃ t, u = Value.float b t from r); cases e; rfl
  | ref a => cases (show u = Value.ref a from r); rfl
  | ty n => cases (show u = Value.type n from r); rfl
section
variable {P : Program} {w : World} {H H' : Hp} {h h' : Heap} {a C dx : Addr} {fs fs' : List (Str × V)}
theorem ins_get (hok : HOk P w H h) (e : H a = some (.ins C dx fs)) : ∃ mA, ObjM h a dx C mA ∧ (∀ f, RelO (fs.lookup f) (mA f)) ∧ PySem.Within mA (fs.map (·.1)) ∧ fs.length ≤ 1000 ∧ H dx = some (.own a) := by
  obtain ⟨d, z, ne, ob, mA, n, r, q⟩ := (show ObjOk P w H h a (.ins C dx fs) from hok a _ e)
  exact ⟨mA, ⟨ob, n, ne⟩, r, q, z, d⟩
end
structure Cls (K : PySem.W.Frag) (C : Addr) : Prop where
  pg : PySem.W.plainGet K C Str.empty = true
  hd : PySem.W.hasDictIn K C = true
  po : PySem.W.plainOver K C = true
  sa : PySem.W.findIn K (.ref C) "__setattr__" = some (some (.builtin "object.__setattr__"))
theorem Cls.get {K : PySem.W.Frag} {C : Addr} (c : Cls K C) (f : Str) : PySem.W.plainGet K C f = true := c.pg
noncomputable def NoAttr (K : PySem.W.Frag) (C : Addr) (f : Str) : Prop := PySem.W.findIn K (.ref C) f = some none
theorem NoAttr.taker {K : PySem.W.Frag} {C : Addr} {f : Str} (n : NoAttr K C f) : PySem.W.takerIn K C f = some none := by
  unfold PySem.W.takerIn
  rw [show PySem.W.findIn K (.ref C) f = some none from n]
  rfl
structure Meth (K : PySem.W.Frag) (C : Addr) (m : Str) (f : Addr) : Prop where
  at_ : PySem.W.findIn K (.ref C) m = some (some (.ref f))
  fn : PySem.W.isFn K (.ref f) = true
  kp : PySem.W.keepIn K (.ref f) = true
section
variable {X : Cx} {pins : List (Addr × Obj)} {σ : St} {H : Hp} {s : Shared} {a C dx : Addr} {fs : List (Str × V)} {f : Str} {v : V} {A : Around} {E : Value → Shared → Prop}
theorem getattr_ok {b : Bool} {Q : Value → Shared → Prop} (I : Inv X pins σ H s) (e : H a = some (.ins C dx fs)) (c : Cls X.K C) (n : NoAttr X.K C f) (l : fs.lookup f = some v)
    (h : ∀ u s', Inv X pins σ H s' → RelV v u → Q u s') : wpAny (model X.prog X.w) A (getAttr (.ref a) f b) Q E s := by
  obtain ⟨mA, O, r, _, _, _⟩ := ins_get I.hok e
  obtain ⟨u, hu, ru⟩ := RelO.some_of (v := v) (o := mA f) (by rw [← l]; exact r f)
  exact get_map I.kIn O (c.get f) c.hd n hu (handed_of ru) (h u _ (I.tok _) ru)
theorem getmeth_ok {m : Str} {g : Addr} {pl : Sem Bool} {Q : Value × List Value → Shared → Prop} (I : Inv X pins σ H s) (e : H a = some (.ins C dx fs)) (c : Cls X.K C) (k : Meth X.K C m g) (l : fs.lookup m = none)
    (h : Q (.ref g, [.ref a]) s) : wpAny (model X.prog X.w) A (getMethod (.ref a) m pl) Q E s := by
  obtain ⟨mA, O, r, _, _, _⟩ := ins_get I.hok e
  have hn : mA m = none := RelO.none_of (by rw [← l]; exact r m)
  exact get_meth I.kIn O (c.get m) k.at_ k.fn hn h
theorem setattr_ok {y : V} {u : Value} {Q : Unit → Shared → Prop} (I : Inv X pins σ H s) (e : H a = some (.ins C dx fs)) (c : Cls X.K C) (n : NoAttr X.K C f) (hl : fs.length < 1000) (ry : RelV y u)
    (h : ∀ s', Inv X pins σ (upd H a (.ins C dx (putF f y fs))) s' → Q () s') : wpAny (model X.prog X.w) A (setAttr (.ref a) f u) Q E s := by
  obtain ⟨mA, O, r, wi, _, ho⟩ := ins_get I.hok e
  have hz : (fs.map (·.1)).length ≤ sizeLine := by rw [List.length_map, sizeLine_eq]; omega
  refine set_map I.kIn O c.sa c.po n.taker c.hd wi hz fun h' O' sb => h _ ?_
  have hd : ∃ o, h'.get? dx = some o := let ⟨o, _, _, e', _⟩ := O'.ns; ⟨o, e'⟩
  refine I.write (x := a) (e := dx) (by rw [e]; exact True.intro) (.inr ho) (fun b q hb z => (sb.2 b hb).trans z) hd ?_
  refine ⟨by rw [upd_ne O.ne]; exact ho, ?_, O.ne, O'.obj, _, O'.ns, fun g => ?_, fun g hg => ?_⟩
  · have := length_putF f y fs; omega
  · show RelO ((putF f y fs).lookup g) (if g = f then some u else mA g)
    rw [lookup_putF]
    by_cases q : g = f
    · rw [if_pos q, if_pos q]; exact ry
    · rw [if_neg q, if_neg q]; exact r g
  · by_cases q : g = f
    · rw [q]; exact (keys_putF f y fs).1
    · refine (keys_putF f y fs).2 g (wi g fun z => hg ?_)
      show (if g = f then some u else mA g) = none
      rw [if_neg q]; exact z
theorem Inv.made (I : Inv X pins σ H s) : Inv X pins σ (upd (upd H s.heap.objs.size (.own (s.heap.objs.size + 1))) (s.heap.objs.size + 1) (.ins C s.heap.objs.size []))
    { s with heap := (s.heap.push PySem.W.emptyDict).push (PySem.W.instObj C s.heap.objs.size) } := by
  have e1 : (s.heap.push PySem.W.emptyDict).get? s.heap.objs.size = some PySem.W.emptyDict := Heap.get?_push_size s.heap rfl
  have e2 : ((s.heap.push PySem.W.emptyDict).push (PySem.W.instObj C s.heap.objs.size)).get? (s.heap.objs.size + 1) = some (PySem.W.instObj C s.heap.objs.size) := by
    have := Heap.get?_push_size (s.heap.push PySem.W.emptyDict) (o := PySem.W.instObj C s.heap.objs.size) rfl
    rwa [Heap.size_push] at this
  have e3 : (s.heap.push PySem.W.emptyDict).Ns s.heap.objs.size (fun _ => none) := ⟨PySem.W.emptyDict, #[], _, e1, rfl, (fun e he => absurd he (by simp)), fun _ => rfl⟩
  have I1 := I.laid (a := s.heap.objs.size) (o := .own (s.heap.objs.size + 1)) (h' := s.heap.push PySem.W.emptyDict) (t' := s.toks) (fun b u q => Heap.get?_push_of_some _ q) (Nat.le_refl _) ⟨_, e1⟩
  refine I1.laid (a := s.heap.objs.size + 1) (o := .ins C s.heap.objs.size []) (t' := s.toks) (fun b u q => Heap.get?_push_of_some _ q) (Nat.le_of_eq (Heap.size_push _ _)) ?_
  have ne : s.heap.objs.size ≠ s.heap.objs.size + 1 := Nat.ne_of_lt (Nat.lt_succ_self _)
  refine ⟨by rw [upd_ne ne, upd_same], Nat.zero_le _, ne, e2, fun _ => none, (Heap.Ns1.of_empty e3).at fun o q => Heap.get?_push_of_some _ q, fun _ => True.intro, fun y hy => absurd rfl hy⟩
theorem attr_of {prog : Program} {w : World} {env : Env} {e : Expr} {f : Str} {pos : Pos} {s : Shared} {Q : Value → Shared → Prop} (hb : attributeBase e f env (eval e env) = eval e env)
    (h : wpAny (model prog w) A (eval e env) (fun o s₁ => wpAny (model prog w) A (getAttr o f true) Q E s₁) E s) : wpAny (model prog w) A (eval (.Attribute e f pos) env) Q E s :=
  Attribute_any_ h (by rw [arm_eval_Attribute, hb])
end
noncomputable def tFld (K : PySem.W.Frag) (ta : TE) (f : Str) : TE := fun σ H Q => ta σ H fun x H1 => ∃ a C dx fs v, x = .ref a ∧ H1 a = some (.ins C dx fs) ∧ Cls K C ∧ NoAttr K C f ∧ fs.lookup f = some v ∧ Q v H1
noncomputable def sFld (K : PySem.W.Frag) (ta tv : TE) (f : Str) : TS := fun D σ H => tv σ H fun y H1 => ta σ H1 fun x H2 => ∃ a C dx fs, x = .ref a ∧ H2 a = some (.ins C dx fs) ∧ Cls K C ∧ NoAttr K C f ∧ fs.length < 1000 ∧
  D.nx σ (upd H2 a (.ins C dx (putF f y fs)))
section
variable {X : Cx} {o e value : Expr} {f : Str} {pos pos' tpos : Pos} {ta tv : TE}
theorem pe_fld (he : PE X e ta) (hb : attributeBase e f X.env (eval e X.env) = eval e X.env) : PE X (.Attribute e f pos) (tFld X.K ta f) := by
  intro pins s σ H Q I h
  refine attr_of hb (thn (he pins s σ H _ I h) fun u s1 ⟨x, H1, I1, rx, a, C, dx, fs, v, ex, ea, c, n, l, q⟩ => ?_)
  subst ex
  obtain rfl : u = Value.ref a := rx
  exact getattr_ok I1 ea c n l fun u' s2 I2 ru => ⟨v, H1, I2, ru, q⟩
theorem ps_fld (ha : PE X o ta) (hv : PE X value tv) (hs : swapsWith value (some (.Attribute o f pos')) pos.line X.env = pure false) : PS X (.Assign [.Attribute o f pos'] value pos) (sFld X.K ta tv f) := by
  intro pins s σ H D I h
  refine plainObj_wpAny_Assign_Attribute (thn (hv pins s σ H _ I h) fun u s1 ⟨y, H1, I1, ry, q⟩ => thn (ha pins s1 σ H1 _ I1 q) fun ov s2 ⟨x, H2, I2, rx, a, C, dx, fs, ex, ea, c, n, l, q2⟩ => ?_) hs
  subst ex
  obtain rfl : ov = Value.ref a := rx
  exact setattr_ok I2 ea c n l ry fun s3 I3 => ⟨σ, _, I3, q2⟩
theorem methcall_of {pl : Sem Bool} {m : Str} {apos : Pos} {args : List Expr} {pins : List (Addr × Obj)} {s : Shared} {σ : St} {H : Hp} {Q : Value → Shared → Prop} {te : TE} (he : PE X e te) (I : Inv X pins σ H s)
    (h : te σ H fun x H1 => ∃ a C dx fs g, x = .ref a ∧ H1 a = some (.ins C dx fs) ∧ Cls X.K C ∧ Meth X.K C m g ∧ fs.lookup m = none ∧
      ∀ s1, Inv X pins σ H1 s1 → wpAny (model X.prog X.w) X.A (callWith pos (.ref g) [.ref a] (backTo pos (starEach args X.env)) (backToKw pos (keywordEach [] X.env))) Q X.xe s1)
    (ht : eval (.Call (.Attribute e m apos) args [] pos) X.env = (do
      let ov ← eval e X.env
      standAt apos.atName
      let (f, first) ← holding [ov] (getMethod ov m pl)
      callWith pos f first (backTo pos (starEach args X.env)) (backToKw pos (keywordEach [] X.env)))) :
    wpAny (model X.prog X.w) X.A (eval (.Call (.Attribute e m apos) args [] pos) X.env) Q X.xe s := by
  refine PySem.W.methodCall_KW (pl := pl) (thn (he pins s σ H _ I h) fun u s1 ⟨x, H1, I1, rx, a, C, dx, fs, g, ex, ea, c, k, l, q⟩ => ?_) ht
  subst ex
  obtain rfl : u = Value.ref a := rx
  exact getmeth_ok I1 ea c k l (q s1 I1)
end
section
variable {X : Cx} {pins : List (Addr × Obj)} {σ : St} {H : Hp} {s : Shared} {A : Around} {E : Value → Shared → Prop} {Q : Value → Shared → Prop} {c : Value} {b : Bool}
end
end L2
namespace L2
open PySem PySem.Spec PyProof.Rows
structure Room (k : Nat) (A : Around) : Prop where
  hd : A.handled = none
  dp : A.depth + 3 * k + 5 < recursionLimit
  un : A.units + 16 * k + 200 < cLine
theorem Room.mono {j k : Nat} {A : Around} (r : Room k A) (h : j ≤ k) : Room j A := ⟨r.hd, by have := r.dp; omega, by have := r.un; omega⟩
theorem Room.deeper {k : Nat} {A : Around} (r : Room (k + 1) A) (env : Env) : Room k (A.deeper env) :=
  ⟨r.hd, by have := r.dp; show A.depth + 1 + 3 * k + 5 < _; omega, by have := r.un; show A.units + 3 + 16 * k + 200 < _; omega⟩
theorem make_depth {A : Around} {C : Addr} {us : List Value} {kw : List (Str × Value)} : (A.under (.builtin "type.__call__" ⟨.ref C :: us, kw⟩)).depth = A.depth + 1 := by
  first | rfl | simp [Around.under, Code.weight, Code.isCreation, Code.isGuard, Code.isCaller, Code.frames, Code.isFrame, guardIds]
theorem make_units {A : Around} {C : Addr} {us : List Value} {kw : List (Str × Value)} : (A.under (.builtin "type.__call__" ⟨.ref C :: us, kw⟩)).units = A.units + 1 := by
  first | rfl | simp [Around.under, Code.cUnits, Code.frames, Code.isFrame]
theorem Room.make {k : Nat} {A : Around} (r : Room (k + 1) A) (C : Addr) (us : List Value) (kw : List (Str × Value)) : Room k (A.under (.builtin "type.__call__" ⟨.ref C :: us, kw⟩)) :=
  ⟨r.hd, by have := r.dp; rw [make_depth]; omega, by have := r.un; rw [make_units]; omega⟩
theorem Room.depth {k : Nat} {A : Around} (r : Room k A) : A.depth < recursionLimit := by have := r.dp; omega
theorem Room.units {k : Nat} {A : Around} (r : Room k A) : A.units + 64 < cLine := by have := r.un; omega
noncomputable def tNil : TA := fun _ H Q => Q [] H
noncomputable def tCons (ta : TE) (tr : TA) : TA := fun σ H Q => ta σ H fun x H1 => tr σ H1 fun xs H2 => Q (x :: xs) H2
section
variable {X : Cx} {e : Expr} {es : List Expr} {te : TE} {t : TA} {pos : Pos}
theorem pa_nil : PA X [] tNil := fun _ _ _ _ H Q I h => Calls.spliced_nil ⟨[], H, I, .nil, h⟩
theorem pa_cons (ha : PE X e te) (hr : PA X es t) (hs : starEach (e :: es) X.env = (false, eval e X.env) :: starEach es X.env := by rfl) : PA X (e :: es) (tCons te t) := by
  intro pos pins s σ H Q I h
  rw [hs]
  show wpAny _ _ (spliced ((false, eval e X.env) :: backTo pos (starEach es X.env))) _ _ s
  refine Calls.spliced_cons (thn (ha pins s σ H _ I h) fun u s1 ⟨x, H1, I1, r1, q1⟩ => ?_)
  exact thn (hr pos pins s1 σ H1 _ I1 q1) fun us s2 ⟨xs, H2, I2, r2, q2⟩ => ⟨x :: xs, H2, I2, .cons r1 r2, q2⟩
noncomputable def tTup (t : TA) : TE := fun σ H Q => t σ H fun xs H1 => xs.length ≤ sizeLine ∧ ∀ p, H1 p = none → Q (.ref p) (upd H1 p (.tup xs))
noncomputable def tLst (t : TA) : TE := fun σ H Q => t σ H fun xs H1 => xs.length ≤ sizeLine ∧ ∀ p, H1 p = none → Q (.ref p) (upd H1 p (.lst xs))
theorem pe_tup {x1} (h : PA X es t) : PE X (.Tuple es x1 pos) (tTup t) := by
  intro pins s σ H Q I hq
  refine wpAny_Tuple_spliced (thn (h pos pins s σ H _ I hq) fun us s1 ⟨xs, H1, I1, r, z, q⟩ => ⟨by rw [← r.length]; exact z, ?_⟩)
  have hf : H1 s1.heap.objs.size = none := I1.hok.fresh (Nat.le_refl _)
  refine ⟨.ref s1.heap.objs.size, upd H1 s1.heap.objs.size (.tup xs), I1.laid (t' := s1.toks) (fun b u e => Heap.get?_push_of_some _ e) (Nat.le_refl _) ?_, rfl, q _ hf⟩
  exact ⟨z, us, r, ⟨_, Heap.get?_push_size _ rfl, rfl, _, rfl⟩⟩
theorem pe_lst (h : PA X es t) : PE X (.List es pos) (tLst t) := by
  intro pins s σ H Q I hq
  refine wpAny_List_spliced (thn (h pos pins s σ H _ I hq) fun us s1 ⟨xs, H1, I1, r, z, q⟩ => ⟨by rw [← r.length]; exact z, ?_⟩)
  have hf : H1 s1.heap.objs.size = none := I1.hok.fresh (Nat.le_refl _)
  refine ⟨.ref s1.heap.objs.size, upd H1 s1.heap.objs.size (.lst xs), I1.laid (t' := s1.toks) (fun b u e => Heap.get?_push_of_some _ e) (Nat.le_refl _) ?_, rfl, q _ hf⟩
  exact ⟨z, us, 0, r, Heap.get?_push_size _ rfl⟩
end
noncomputable abbrev Sp := List V → Hp → VK → XK → Prop
noncomputable abbrev CXT := List Env → Hp → Shared → XK → Value → Shared → Prop
structure Env0 (P : Program) (w : World) (K : PySem.W.Frag) (mg : Str → Option Value) (base : Heap) (A : Around) (outer : List Env) (s : Shared) (H : Hp) : Prop where
  frames : A.frames = some outer
  mod : Mod K mg base
  bs : ∀ b o, base.get? b = some o → s.heap.get? b = some o ∧ H b = none
  bsz : base.objs.size ≤ s.heap.objs.size
  funs : s.heap.FunFrames base outer
  frf : ∀ b ∈ frs outer, H b = none
  hok : HOk P w H s.heap
  bare : AllBare s.gens
noncomputable def CE (outer : List Env) (P : Program) (w : World) (H : Hp) (s : Shared) (Q : VK) (u : Value) (s' : Shared) : Prop :=
  ∃ v H', s'.os = s.os ∧ AllBare s'.gens ∧ Un (frs outer) [] H H' s.heap s'.heap ∧ HOk P w H' s'.heap ∧ RelV v u ∧ Q v H'
noncomputable def CR (CX : CXT) (outer : List Env) (P : Program) (w : World) (H : Hp) (s : Shared) (Q : VK) (E : XK) (r : Result) (s' : Shared) : Prop :=
  match r with
  | .ok (.ret u) => CE outer P w H s Q u s'
  | .ok _ => False
  | .error e => CX outer H s E e s'
structure FnOk (P : Program) (w : World) (K : PySem.W.Frag) (mg : Str → Option Value) (base : Heap) (CX : CXT) (k : Nat) (f : Addr) (fd : FuncData) (ps : List Str) (sp : Sp) : Prop where
  len : ∀ vs H Q E, sp vs H Q E → vs.length = ps.length
  run : ∀ (A : Around) (outer : List Env) (s : Shared) (H : Hp) (args : Args) (us : List Value) (vs : List V) (Q : VK) (E : XK), Room k A → Env0 P w K mg base A outer s H → BindsTo s fd args (ps.zip us) → Vals vs us → sp vs H Q E →
    codeAny (model P w) A (.call (.ref f) args) (CR CX outer P w H s Q E) s
theorem Env0.make {P : Program} {w : World} {K : PySem.W.Frag} {mg : Str → Option Value} {base : Heap} {A : Around} {outer : List Env} {s : Shared} {H : Hp} (e : Env0 P w K mg base A outer s H) (C : Addr) (us : List Value) (kw : List (Str × Value)) :
    Env0 P w K mg base (A.under (.builtin "type.__call__" ⟨.ref C :: us, kw⟩)) outer s H := ⟨by first | exact e.frames | (simpa [Around.under, Code.envs, Code.isFrame, pushEnvs] using e.frames), e.mod, e.bs, e.bsz, e.funs, e.frf, e.hok, e.bare⟩
section
variable {X : Cx} {pins : List (Addr × Obj)} {σ : St} {H : Hp} {s s' : Shared}
theorem Inv.env0 (I : Inv X pins σ H s) : Env0 X.prog X.w X.K X.mg X.base X.A X.stack s H :=
  ⟨I.ok.frames, I.ok.mod, I.bs, Nat.le_trans I.ok.bsz I.sz, I.stack, I.stkFree, I.hok, I.bare⟩
theorem Inv.after {Q : VK} {u : Value} (I : Inv X pins σ H s) (h : CE X.stack X.prog X.w H s Q u s') : EP X pins σ Q u s' := by
  obtain ⟨v, H', os, bare, un, hok, r, q⟩ := h
  obtain ⟨hh, g, d, t, os'⟩ := s'
  obtain rfl : os' = s.os := os
  exact ⟨v, H', I.call (h' := hh) (g' := g) (d' := d) (t' := t) (ch := []) un hok bare (fun b z => absurd z (by simp)), r, q⟩
end
noncomputable def tCall (sp : Sp) (dvs : List V) (E : XK) (t : TA) : TE := fun σ H Q => t σ H fun vs H1 => sp (vs ++ dvs) H1 Q E
noncomputable def tMeth (C : Addr) (m : Str) (sp : Sp) (dvs : List V) (E : XK) (ta : TE) (t : TA) : TE := fun σ H Q => ta σ H fun x H1 => ∃ a dx fs, x = .ref a ∧ H1 a = some (.ins C dx fs) ∧ fs.lookup m = none ∧
  t σ H1 fun vs H2 => sp (x :: (vs ++ dvs)) H2 Q E
noncomputable def tMake (C : Addr) (sp : Sp) (dvs : List V) (E : XK) (t : TA) : TE := fun σ H Q => t σ H fun vs H1 => ∀ x dx, H1 x = none → H1 dx = none → dx ≠ x →
  sp (.ref x :: (vs ++ dvs)) (upd (upd H1 dx (.own x)) x (.ins C dx [])) (fun v H2 => v = .non ∧ Q (.ref x) H2) E
noncomputable def Binds (K : PySem.W.Frag) (fd : FuncData) (ps : List Str) (ds : List Value) : Prop :=
  ∀ (s : Shared) (us : List Value), K.In s.heap → (us ++ ds).length = ps.length → BindsTo s fd ⟨us, []⟩ (ps.zip (us ++ ds))
theorem Binds.all {K : PySem.W.Frag} {fd : FuncData} {ps : List Str} (h : ∀ us : List Value, us.length = ps.length → bindArgs fd ⟨us, []⟩ = pure (ps.zip us)) : Binds K fd ps [] := fun s us _ hl => by
  rw [List.append_nil] at hl ⊢
  exact .of_eq (h us hl)
noncomputable def Passes (CX : CXT) (X : Cx) (E : XK) : Prop := ∀ (pins : List (Addr × Obj)) (σ : St) (H : Hp) (s : Shared) (e : Value) (s' : Shared), Inv X pins σ H s → CX X.stack H s E e s' → X.xe e s'
section
variable {X : Cx} {CX : CXT} {k : Nat} {f C : Addr} {fd : FuncData} {ps : List Str} {sp : Sp} {dvs : List V} {ds : List Value} {E : XK} {x m : Str} {p pos apos : Pos} {e o : Expr} {es : List Expr} {ta : TE} {t : TA}
theorem run_fn {pins : List (Addr × Obj)} {σ : St} {H : Hp} {s : Shared} {Q : VK} {us : List Value} {vs : List V} (F : FnOk X.prog X.w X.K X.mg X.base CX k f fd ps sp) (hr : Room k X.A) (hb : Binds X.K fd ps ds) (hd : Vals dvs ds) (hx : Passes CX X E)
    (I : Inv X pins σ H s) (r : Vals vs us) (h : sp (vs ++ dvs) H Q E) : wpAny (model X.prog X.w) X.A (call (.ref f) us) (EP X pins σ Q) X.xe s := by
  have r2 : Vals (vs ++ dvs) (us ++ ds) := r.append hd
  have hl : (us ++ ds).length = ps.length := by rw [← r2.length]; exact F.len _ _ _ _ h
  refine wpAny_call (codeAny_mono (F.run X.A X.stack s H ⟨us, []⟩ (us ++ ds) (vs ++ dvs) Q E hr I.env0 (hb s us I.kIn hl) r2 h) fun r s' hq => ?_)
  cases r with
  | error e => exact hx pins σ H s e s' I hq
  | ok fl =>
    cases fl with
    | ret u => exact I.after hq
    | next => exact False.elim hq
    | brk => exact False.elim hq
    | cont => exact False.elim hq
theorem pe_call (F : FnOk X.prog X.w X.K X.mg X.base CX k f fd ps sp) (hr : Room k X.A) (hg : Gl X x) (hm : X.mg x = some (.ref f)) (hk : PySem.W.keepIn X.K (.ref f) = true) (hb : Binds X.K fd ps ds) (hd : Vals dvs ds) (hx : Passes CX X E)
    (ha : PA X (e :: es) t) (hdb : (x == ("__debug__" : Str)) = false := by decide) (he : starEach (e :: es) X.env = (false, eval e X.env) :: starEach es X.env := by rfl) (hpl : (backTo pos (starEach es X.env)).any (·.1) = false := by rfl) :
    PE X (.Call (.Name x p) (e :: es) [] pos) (tCall sp dvs E t) := by
  intro pins s σ H Q I h
  refine wpAny_Call_Name_kw (ld_glob I hg hm ?_ hdb)
  refine PySem.W.callWith_K (h₀ := X.base) I.ok.mod.kin hk (thn (ha pos pins s σ H _ I h) fun us s1 ⟨vs, H1, I1, r, q⟩ => ⟨I1.kIn, ?_⟩) he hpl
  exact run_fn F hr hb hd hx I1 r q
theorem pe_meth {pl : Sem Bool} (he : PE X o ta) (c : Cls X.K C) (hm : Meth X.K C m f) (F : FnOk X.prog X.w X.K X.mg X.base CX k f fd ps sp) (hr : Room k X.A) (hb : Binds X.K fd ps ds) (hd : Vals dvs ds) (hx : Passes CX X E) (ha : PA X (e :: es) t)
    (hst : starEach (e :: es) X.env = (false, eval e X.env) :: starEach es X.env := by rfl) (hpl : (backTo pos (starEach es X.env)).any (·.1) = false := by rfl)
    (ht : eval (.Call (.Attribute o m apos) (e :: es) [] pos) X.env = (do
      let ov ← eval o X.env
      standAt apos.atName
      let (f, first) ← holding [ov] (getMethod ov m pl)
      callWith pos f first (backTo pos (starEach (e :: es) X.env)) (backToKw pos (keywordEach [] X.env))) := by rfl) :
    PE X (.Call (.Attribute o m apos) (e :: es) [] pos) (tMeth C m sp dvs E ta t) := by
  intro pins s σ H Q I h
  refine PySem.W.methodCall_KW (pl := pl) (thn (he pins s σ H _ I h) fun u s1 ⟨x, H1, I1, rx, a, dx, fs, ex, ea, l, q⟩ => ?_) ht
  subst ex
  obtain rfl : u = Value.ref a := rx
  refine getmeth_ok I1 ea c hm l ?_
  refine PySem.W.callWith_K (first := [.ref a]) (h₀ := X.base) I.ok.mod.kin hm.kp (thn (ha pos pins s1 σ H1 _ I1 q) fun us s2 ⟨vs, H2, I2, r, q2⟩ => ⟨I2.kIn, ?_⟩) hst hpl
  exact run_fn (us := .ref a :: us) (vs := .ref a :: vs) F hr hb hd hx I2 (.cons rfl r) q2
structure Mk (K : PySem.W.Frag) (C f : Addr) : Prop where
  makes : PySem.W.makesIn K C = true
  init : PySem.W.findIn K (.ref C) "__init__" = some (some (.ref f))
  fn : PySem.W.isFn K (.ref f) = true
  kp : PySem.W.keepIn K (.ref C) = true
theorem run_make {pins : List (Addr × Obj)} {σ : St} {H : Hp} {s : Shared} {Q : VK} {us : List Value} {vs : List V} (M : Mk X.K C f) (F : FnOk X.prog X.w X.K X.mg X.base CX k f fd ps sp) (hr : Room (k + 1) X.A) (hb : Binds X.K fd ps ds) (hd : Vals dvs ds)
    (hx : Passes CX X E) (I : Inv X pins σ H s) (r : Vals vs us)
    (h : ∀ x dx, H x = none → H dx = none → dx ≠ x → sp (.ref x :: (vs ++ dvs)) (upd (upd H dx (.own x)) x (.ins C dx [])) (fun v H2 => v = .non ∧ Q (.ref x) H2) E) :
    wpAny (model X.prog X.w) X.A (call (.ref C) us) (EP X pins σ Q) X.xe s := by
  have hq := h (s.heap.objs.size + 1) s.heap.objs.size (I.hok.fresh (Nat.le_succ _)) (I.hok.fresh (Nat.le_refl _)) (Nat.ne_of_lt (Nat.lt_succ_self _))
  have I2 := Inv.made (C := C) I
  have r2 : Vals (V.ref (s.heap.objs.size + 1) :: (vs ++ dvs)) (Value.ref (s.heap.objs.size + 1) :: (us ++ ds)) := .cons rfl (r.append hd)
  have hl : (Value.ref (s.heap.objs.size + 1) :: us ++ ds).length = ps.length := by
    have e := r2.length
    rw [F.len _ _ _ _ hq] at e
    exact e.symm
  refine wpAny_call (make_map (f := f) I.kIn M.makes M.init (beq_iff_eq.mp M.fn) (codeAny_mono (F.run _ X.stack _ _ ⟨Value.ref (s.heap.objs.size + 1) :: us, []⟩ (Value.ref (s.heap.objs.size + 1) :: (us ++ ds)) _ _ E (hr.make C us [])
    (I2.env0.make C us []) (hb _ (Value.ref (s.heap.objs.size + 1) :: us) I2.kIn hl) r2 hq) fun r s' hq' => ?_))
  cases r with
  | error e => exact hx pins σ _ _ e s' I2 hq'
  | ok fl =>
    cases fl with
    | ret u =>
      obtain ⟨v, H', I3, rv, ev, q3⟩ := I2.after hq'
      subst ev
      exact ⟨rv, ⟨V.ref (s.heap.objs.size + 1), H', I3, rfl, q3⟩⟩
    | next => exact False.elim hq'
    | brk => exact False.elim hq'
    | cont => exact False.elim hq'
theorem pe_make (M : Mk X.K C f) (F : FnOk X.prog X.w X.K X.mg X.base CX k f fd ps sp) (hr : Room (k + 1) X.A) (hg : Gl X x) (hm : X.mg x = some (.ref C)) (hb : Binds X.K fd ps ds) (hd : Vals dvs ds) (hx : Passes CX X E)
    (ha : PA X (e :: es) t) (hdb : (x == ("__debug__" : Str)) = false := by decide) (he : starEach (e :: es) X.env = (false, eval e X.env) :: starEach es X.env := by rfl) (hpl : (backTo pos (starEach es X.env)).any (·.1) = false := by rfl) :
    PE X (.Call (.Name x p) (e :: es) [] pos) (tMake C sp dvs E t) := by
  intro pins s σ H Q I h
  refine wpAny_Call_Name_kw (ld_glob I hg hm ?_ hdb)
  refine PySem.W.callWith_K (h₀ := X.base) I.ok.mod.kin M.kp (thn (ha pos pins s σ H _ I h) fun us s1 ⟨vs, H1, I1, r, q⟩ => ⟨I1.kIn, ?_⟩) he hpl
  exact run_make M F hr hb hd hx I1 r q
end
section
variable {X : Cx} {CX : CXT} {k : Nat} {f C : Addr} {fd : FuncData} {ps ks : List Str} {sp : Sp} {E : XK} {x m : Str} {p pos apos kpos : Pos} {e o : Expr} {es : List Expr} {kws : List Keyword} {te ta : TE} {t tk : TA} {nm : Option Str}
variable {g : List Value → List Value → List Value} {gV : List V → List V → List V}
end
structure FnScope (N P : List Str) (sc : Scope) : Prop where
  kind : sc.kind = .function
  co : sc.isCoroutine = false
  gen : sc.isGenerator = false
  nd : N.Nodup
  pre : N.take P.length = P
  par : ∀ x ∈ P, sc.names.lookup x = some .local ∨ sc.names.lookup x = some .cell
  nofree : ∀ y ∈ sc.names, y.2 ≠ .free
theorem bindL_out {kindOf : Str → Option NameKind} {x : Str} : ∀ {binds : List (Str × Value)} {m : Str → Option Value}, (∀ v, (x, v) ∉ binds) → bindL kindOf binds m x = m x
  | [], _, _ => rfl
  | (n, v) :: r, m, h => by
    unfold bindL
    rw [bindL_out fun w hw => h w (List.mem_cons_of_mem _ hw)]
    split
    · have : x ≠ n := by rintro rfl; exact h v List.mem_cons_self
      simp [this]
    · rfl
theorem bindC_out {kindOf : Str → Option NameKind} {x : Str} : ∀ {binds : List (Str × Value)} {m : Str → Option Value}, (∀ v, (x, v) ∉ binds) → bindC kindOf binds m x = m x
  | [], _, _ => rfl
  | (n, v) :: r, m, h => by
    unfold bindC
    rw [bindC_out fun w hw => h w (List.mem_cons_of_mem _ hw)]
    split
    · rfl
    · have : x ≠ n := by rintro rfl; exact h v List.mem_cons_self
      simp [this]
theorem bindL_get {kindOf : Str → Option NameKind} {x : Str} {v : Value} : ∀ {P : List Str} {vs : List Value} {i : Nat} {m : Str → Option Value}, P.Nodup → P[i]? = some x → vs[i]? = some v → kindOf x = some .local →
    bindL kindOf (P.zip vs) m x = some v
  | [], _, _, _, _, h, _, _ => by simp at h
  | _ :: _, [], _, _, _, _, h, _ => by simp at h
  | p :: P, w :: vs, 0, m, nd, h1, h2, hk => by
    simp at h1 h2; subst h1; subst h2
    show bindL kindOf ((p, w) :: P.zip vs) m p = _
    unfold bindL
    rw [bindL_out fun v hv => (List.nodup_cons.mp nd).1 (List.of_mem_zip hv).1, if_pos hk]
    simp
  | p :: P, w :: vs, i + 1, m, nd, h1, h2, hk => by
    show bindL kindOf ((p, w) :: P.zip vs) m x = _
    unfold bindL
    exact bindL_get (i := i) (List.nodup_cons.mp nd).2 (by simpa using h1) (by simpa using h2) hk
theorem bindC_get {kindOf : Str → Option NameKind} {x : Str} {v : Value} : ∀ {P : List Str} {vs : List Value} {i : Nat} {m : Str → Option Value}, P.Nodup → P[i]? = some x → vs[i]? = some v → kindOf x ≠ some .local →
    bindC kindOf (P.zip vs) m x = some v
  | [], _, _, _, _, h, _, _ => by simp at h
  | _ :: _, [], _, _, _, _, h, _ => by simp at h
  | p :: P, w :: vs, 0, m, nd, h1, h2, hk => by
    simp at h1 h2; subst h1; subst h2
    show bindC kindOf ((p, w) :: P.zip vs) m p = _
    unfold bindC
    rw [bindC_out fun v hv => (List.nodup_cons.mp nd).1 (List.of_mem_zip hv).1, if_neg hk]
    simp
  | p :: P, w :: vs, i + 1, m, nd, h1, h2, hk => by
    show bindC kindOf ((p, w) :: P.zip vs) m x = _
    unfold bindC
    exact bindC_get (i := i) (List.nodup_cons.mp nd).2 (by simpa using h1) (by simpa using h2) hk
noncomputable def start (N : List Str) (vs : List V) : St := vs.map some ++ List.replicate (N.length - vs.length) none
noncomputable def cxOf (CX : CXT) (P : Program) (w : World) (K : PySem.W.Frag) (mg : Str → Option Value) (base : Heap) (N : List Str) (qual : Str) (scope : Scope) (f : Addr) (cd : Value) (A : Around) (outer : List Env) (s : Shared) (H : Hp) (E : XK) : Cx where
  prog := P
  w := w
  K := K
  mg := mg
  base := base
  A := A.deeper (envOfC qual scope s.heap.objs.size f cd)
  N := N
  s₀ := s
  H₀ := H
  env := envOfC qual scope s.heap.objs.size f cd
  outer := outer
  stack := envOfC qual scope s.heap.objs.size f cd :: outer
  ex := []
  calm := true
  fn := fun _ => true
  pn := []
  xe := fun e s' => wpAny (model P w) (A.deeper (envOfC qual scope s.heap.objs.size f cd)) (leaving (envOfC qual scope s.heap.objs.size f cd) e) (fun _ s'' => CX outer H s E e s'') (fun e' s'' => CX outer H s E e' s'') s'
theorem cell_has {sc : Scope} {n : Nat} {x : Str} (h : sc.names.lookup x = some .cell) : ∃ c, (cellsFrom n sc.names []).lookup x = some c := by
  have q := PySem.W.cellsFrom_some sc.names n [] (.inl h)
  exact Option.isSome_iff_exists.mp q
theorem inv_start {CX : CXT} {P : Program} {w : World} {K : PySem.W.Frag} {mg : Str → Option Value} {base : Heap} {N ps : List Str} {qual : Str} {scope : Scope} {f : Addr} {cd : Value} {A : Around} {outer : List Env} {s s1 : Shared} {H : Hp} {E : XK} {us : List Value} {vs : List V}
    (S : FnScope N ps scope) (hd : A.handled = none) (e0 : Env0 P w K mg base A outer s H) (hl : vs.length = ps.length) (r : Vals vs us)
    (x : InCallC s s.heap.objs.size (bindL (envOfC qual scope s.heap.objs.size f cd).kindOf (ps.zip us) fun _ => none) (cellsFrom (s.heap.objs.size + 1) scope.names []) (bindC (envOfC qual scope s.heap.objs.size f cd).kindOf (ps.zip us) fun _ => none) s1) :
    Inv (cxOf CX P w K mg base N qual scope f cd A outer s H E) [] (start N vs) H s1 := by
  have hpl : ps.length ≤ N.length := by have := congrArg List.length S.pre; rw [List.length_take] at this; omega
  obtain ⟨h1, tk, rfl, hk⟩ := x.done
  have noA : ∀ b : Addr, b ∉ (cxOf CX P w K mg base N qual scope f cd A outer s H E).ex := fun b z => absurd (show b ∈ ([] : List Addr) from z) (by simp)
  refine ⟨⟨e0.mod, S.kind, rfl, rfl, Nat.le_refl _, fun y z c h1 h2 => ?_, fun y hy => ?_, fun y c _ h => ?_, fun _ => hd, Around.frames_deeper e0.frames, .inr ⟨rfl, rfl⟩, fun b z => absurd z (noA b), e0.bs, e0.bsz, fun b _ _ => noA b, fun b z => absurd z (noA b), e0.funs, e0.frf⟩,
    rfl, e0.bare, Un.kept hk, ⟨_, x.toInCall.ns, fun i y v h1 h2 h3 => ?_⟩, fun y c h => ⟨_, x.cell y c h⟩, e0.hok.fresh (Nat.le_refl _), fun y c h => ?_, fun p hp => absurd (show p ∈ ([] : List (Addr × Obj)) from hp) (by simp), e0.hok.kept hk, ?_⟩
  · exact name_of_addr x.apart (PySem.mem_of_lookup h1) (PySem.mem_of_lookup h2)
  · have hy : scope.names.lookup y = some .cell ∨ scope.names.lookup y = some .free := hy
    rcases hy with hy | hy
    · exact cell_has hy
    · exact absurd rfl (S.nofree _ (PySem.mem_of_lookup hy))
  · exact Nat.le_of_lt (x.above y c (PySem.mem_of_lookup h))
  · have hi : i < vs.length := by
      unfold start at h2
      by_cases hi : i < vs.length
      · exact hi
      · rw [List.getElem?_append_right (by simpa using hi)] at h2
        rw [List.getElem?_replicate] at h2
        split at h2 <;> cases h2
    have ha : vs[i]? = some v := by
      unfold start at h2
      rw [List.getElem?_append_left (by simpa using hi), List.getElem?_map] at h2
      cases e : vs[i]? with
      | none => rw [e] at h2; cases h2
      | some a => rw [e] at h2; cases h2; rfl
    obtain ⟨u, hu, rv⟩ := r.get ha
    have hp : ps[i]? = some y := by
      rw [← S.pre, List.getElem?_take_of_lt (by omega)]; exact h1
    have ndP : ps.Nodup := by rw [← S.pre]; exact S.nd.sublist (List.take_sublist _ _)
    refine ⟨u, rv, ?_⟩
    rcases S.par y (List.mem_of_getElem? hp) with k | k
    · exact .inl ⟨k, bindL_get ndP hp hu k⟩
    · obtain ⟨c, e⟩ := cell_has (n := s.heap.objs.size + 1) k
      refine .inr ⟨.inl k, c, e, ?_⟩
      have q := x.cell y c e
      rw [bindC_get ndP hp hu (by show scope.names.lookup y ≠ _; rw [k]; decide)] at q
      exact q
  · exact e0.hok.fresh (Nat.le_of_lt (x.above y c (PySem.mem_of_lookup h)))
  · unfold start
    show _ = N.length
    rw [List.length_append, List.length_map, List.length_replicate]
    omega
theorem fn_of {CX : CXT} {P : Program} {w : World} {K : PySem.W.Frag} {mg : Str → Option Value} {base : Heap} {k : Nat} {f : Addr} {name qual : Str} {params : Arguments} {body : List Stmt} {scope : Scope} {dV kV doc pm cdv ct oc : Value} {an od : Option Addr}
    {osl : Array (Option Value)} {N ps : List Str} {sp : Sp} (lk : K.lookup f = some ⟨oc, od, .func (PySem.W.fnOf name qual params body scope dV kV doc pm an cdv ct), osl⟩) (hcd : PySem.W.codeIn K cdv qual = true) (S : FnScope N ps scope)
    (len : ∀ vs H Q E, sp vs H Q E → vs.length = ps.length)
    (hbody : ∀ (A : Around) (outer : List Env) (s : Shared) (H : Hp) (vs : List V) (Q : VK) (E : XK), Room k (A.deeper (envOfC qual scope s.heap.objs.size f cdv)) → sp vs H Q E →
      ∃ t, PSs (cxOf CX P w K mg base N qual scope f cdv A outer s H E) body t ∧ t { nx := fun _ H' => Q .non H', rt := Q } (start N vs) H) :
    FnOk P w K mg base CX (k + 1) f (PySem.W.fnOf name qual params body scope dV kV doc pm an cdv ct) ps sp := by
  refine ⟨len, fun A outer s H args us vs Q E hr e0 hb r hsp => ?_⟩
  have hl := len _ _ _ _ hsp
  have KX : K.In s.heap := e0.mod.kin.keeps fun b o e => (e0.bs b o e).1
  have lim : s.heap.NoLimit := e0.mod.nolimit.keeps fun b o e => (e0.bs b o e).1
  have hkind : ∀ y ∈ ps.zip us, scope.names.lookup y.1 = some .local ∨ (scope.names.lookup y.1 = some .cell ∧ ((cellsFrom (s.heap.objs.size + 1) scope.names []).lookup y.1).isSome = true) := fun ⟨n, v⟩ hy => by
    rcases S.par n (List.of_mem_zip hy).1 with q | q
    · exact .inl q
    · exact .inr ⟨q, PySem.W.cellsFrom_some _ _ _ (.inl q)⟩
  refine codeAny_call_function hr.depth (KX _ _ lk) rfl S.co S.gen rfl (PySem.W.codeRec_of KX hcd) (hb _ _ _ _ ?_)
  refine wpAny_newFunctionEnv_cells S.kind hkind fun env he s1 x => ?_
  subst he
  refine ⟨lim.keeps x.toInCall.keep, codeAny_func ?_⟩
  obtain ⟨t, ht, hq⟩ := hbody A outer s H vs Q E (hr.deeper _) hsp
  have I : Inv (cxOf CX P w K mg base N qual scope f cdv A outer s H E) [] (start N vs) H s1 := inv_start S hr.hd e0 hl r x
  refine wpAny_mono (ht [] s1 (start N vs) H _ I hq) (fun fl s' hs => ?_) fun e s' hs => hs
  have fin : ∀ {σ' : St} {H' : Hp} {v : V} {u : Value}, Inv (cxOf CX P w K mg base N qual scope f cdv A outer s H E) [] σ' H' s' → RelV v u → Q v H' → CE outer P w H s Q u s' :=
    fun {σ' H' v u} J rv q => ⟨v, H', J.os, J.bare, J.base, J.hok, rv, q⟩
  cases fl with
  | ret u =>
    obtain ⟨v, σ', H', J, rv, q⟩ := hs
    exact fin J rv q
  | next =>
    obtain ⟨σ', H', J, q⟩ := hs
    exact fin (v := V.non) (u := Value.none) J rfl q
  | brk =>
    obtain ⟨_, _, _, q⟩ := hs
    exact False.elim q
  | cont =>
    obtain ⟨_, _, _, q⟩ := hs
    exact False.elim q
end L2
namespace L2
open PySem PySem.Spec PyProof.Rows
section
variable {X : Cx} {x : Str} {p pos : Pos} {e : Expr} {es : List Expr} {t : TA} {id T : String} {r : List V → Hp → VK → Prop}
noncomputable def tCB (r : List V → Hp → VK → Prop) (t : TA) : TE := fun σ H Q => t σ H fun vs H1 => r vs H1 Q
theorem pe_callB (hc : CallR X (.builtin id) r) (hg : Gl X x) (hm : X.mg x = none) (hv : bootBuiltins x = some (.builtin id)) (ha : PA X (e :: es) t) (hn : x ≠ "__name__" := by decide) (hdb : (x == ("__debug__" : Str)) = false := by decide)
    (he : starEach (e :: es) X.env = (false, eval e X.env) :: starEach es X.env := by rfl) (hpl : (backTo pos (starEach es X.env)).any (·.1) = false := by rfl) : PE X (.Call (.Name x p) (e :: es) [] pos) (tCB r t) := by
  intro pins s σ H Q I h
  refine wpAny_Call_Name_kw (ld_blt I hg hm hv ?_ hn hdb)
  exact PyProof.Rows.callWith_builtin1 (thn (ha pos pins s σ H _ I h) fun us s1 ⟨vs, H1, I1, r1, q1⟩ => hc pins s1 σ H1 vs us Q I1 r1 q1) he hpl
theorem pe_callTy (hc : CallR X (.type T) r) (hg : Gl X x) (hm : X.mg x = none) (hv : bootBuiltins x = some (.type T)) (ha : PA X (e :: es) t) (hn : x ≠ "__name__" := by decide) (hdb : (x == ("__debug__" : Str)) = false := by decide)
    (he : starEach (e :: es) X.env = (false, eval e X.env) :: starEach es X.env := by rfl) (hpl : (backTo pos (starEach es X.env)).any (·.1) = false := by rfl) : PE X (.Call (.Name x p) (e :: es) [] pos) (tCB r t) := by
  intro pins s σ H Q I h
  refine wpAny_Call_Name_kw (ld_blt I hg hm hv ?_ hn hdb)
  exact PyProof.Rows.callWith_type1 (thn (ha pos pins s σ H _ I h) fun us s1 ⟨vs, H1, I1, r1, q1⟩ => hc pins s1 σ H1 vs us Q I1 r1 q1) he hpl
end
end L2
namespace HT
open PySem PyProof.Rows
section
open PySem.SeqAt
open PySem.AutoSeq1 (wpAny_loadPart')
open PySem.MeetsSeq PySem.MeetsSeq2 PySem.MeetsSeq3
end
section
variable {prog : Program} {w : World} {A : Around} {E : Value → Shared → Prop} {s : Shared}
theorem cat_tup {t b : Addr} {vs ws : List Value} {Q : Value → Shared → Prop} (ht : IsTup s.heap t vs.toArray) (hb : IsTup s.heap b ws.toArray) (hv : vs ≠ [])
    (h1 : ws = [] → Q (.ref t) s) (h2 : ws ≠ [] → Q (.ref s.heap.objs.size) { s with heap := s.heap.push { cls := .type "tuple", data := .seq (vs ++ ws).toArray } })
    (hsz : vs.length + ws.length ≤ sizeLine) : wpAny (model prog w) A (binaryOp .Add (.ref t) (.ref b)) Q E s := by
  obtain ⟨⟨cls, dd, data, sl⟩, ho, hc, n, hd⟩ := id ht
  obtain ⟨⟨cls2, dd2, data2, sl2⟩, ho2, hc2, n2, hd2⟩ := id hb
  simp only at hc hd hc2 hd2
  subst hc hd hc2 hd2
  have e : vs.toArray ++ ws.toArray = (vs ++ ws).toArray := by simp
  by_cases hw : ws = []
  · exact concat_meets ⟨_, ho, rfl⟩ ⟨_, ho2, rfl⟩ noFill_tuple_add seq_tuple_add PySem.F.slot_tuple_add PySem.F.entry_tuple_add (PySem.F.args_tuple_add_2 _ _)
      (tuple_addW1 t b vs.toArray ws.toArray n n2 dd dd2 sl sl2 (by simpa using hv) (by simp [hw])) ⟨ho, ho2, h1 hw⟩
  · refine concat_meets ⟨_, ho, rfl⟩ ⟨_, ho2, rfl⟩ noFill_tuple_add seq_tuple_add PySem.F.slot_tuple_add PySem.F.entry_tuple_add (PySem.F.args_tuple_add_2 _ _)
      (tuple_addW2 t b vs.toArray ws.toArray n n2 dd dd2 sl sl2 (by simpa using hv) (by simpa using hw) (by rw [List.size_toArray, List.size_toArray]; exact hsz)) ⟨ho, ho2, ?_⟩
    rw [e]
    exact h2 hw
noncomputable def sIx (n d : Nat) : Option Int → Nat
  | none => d
  | some v => if v < 0 then (v + (n : Int)).toNat else min v.toNat n
theorem sIx_none (n d : Nat) : sIx n d none = d := rfl
theorem sIx_nat (n d k : Nat) : sIx n d (some (k : Int)) = min k n := by
  show (if (k : Int) < 0 then ((k : Int) + (n : Int)).toNat else min (k : Int).toNat n) = min k n
  rw [if_neg (by omega), Int.toNat_natCast]
theorem sIx_le (n d : Nat) (hd : d ≤ n) (o : Option Int) : sIx n d o ≤ n := by
  cases o with
  | none => exact hd
  | some v =>
    show (if v < 0 then (v + (n : Int)).toNat else min v.toNat n) ≤ n
    by_cases hv : v < 0
    · rw [if_pos hv]; omega
    · rw [if_neg hv]; exact Nat.min_le_right _ _
theorem clip_eq (v : Int) (n d : Nat) : (if v < 0 then max (v + (n : Int)) 0 else min v (n : Int)) = ((sIx n d (some v) : Nat) : Int) := by
  show (if v < 0 then max (v + (n : Int)) 0 else min v (n : Int)) = (((if v < 0 then (v + (n : Int)).toNat else min v.toNat n) : Nat) : Int)
  by_cases hv : v < 0
  · simp only [if_pos hv]; omega
  · simp only [if_neg hv]; omega
theorem adjust_gen (lo hi : Option Int) (n : Nat) : Builtin.Slice.sliceAdjust lo hi 1 (n : Int) = (((sIx n 0 lo : Nat) : Int), ((sIx n n hi : Nat) : Int)) := by
  have h1 : ¬ ((1 : Int) < 0) := by omega
  unfold Builtin.Slice.sliceAdjust
  simp only [h1, if_false]
  refine Prod.ext ?_ ?_
  · cases lo with
    | none => rfl
    | some v => exact clip_eq v n 0
  · cases hi with
    | none => rfl
    | some v => exact clip_eq v n n
theorem places_gen (i j : Nat) : Builtin.Slice.slicePlaces (i : Int) (j : Int) 1 = j - i := by
  unfold Builtin.Slice.slicePlaces
  have h1 : (1 : Int) > 0 := by omega
  simp only [h1, if_true, Int.ediv_one]
  split <;> omega
theorem slicePart_ {v : Value} {o : Option Int} {Q : Option Int → Shared → Prop} (p : IsPart v o) (h : Q o s) : wpAny (model prog w) A (Builtin.Slice.slicePartIndex v) Q E s := by
  cases p with
  | none => exact slicePart_none h
  | int i t => exact slicePart_int h
theorem sliceApplied_gen {sl : Addr} {vl vu : Value} {lo hi : Option Int} {n : Nat} {Q : Int × Int × Nat → Shared → Prop} (hs : s.heap.IsSliceOf sl vl vu .none) (pl : IsPart vl lo) (pu : IsPart vu hi)
    (h : Q (((sIx n 0 lo : Nat) : Int), 1, sIx n n hi - sIx n 0 lo) s) : wpAny (model prog w) A (Builtin.Slice.sliceApplied (.ref sl) (pure (n : Int))) Q E s := by
  obtain ⟨os, hos, hcs, hds⟩ := id hs
  unfold Builtin.Slice.sliceApplied Builtin.Slice.sliceFields
  refine wpAny_bind (wpAny_bind (wpAny_field hos hds (x := vl) rfl (wpAny_bind (wpAny_field hos hds (x := vu) rfl (wpAny_bind (wpAny_field hos hds (x := .none) rfl (wpAny_pure ?_)))))))
  refine wpAny_bind (slicePart_none ?_)
  show wpAny _ _ (if ((1 : Int) == 0) = true then _ else _) _ _ s
  rw [if_neg (by decide)]
  refine wpAny_bind (slicePart_ pl (wpAny_bind (slicePart_ pu (wpAny_bind (wpAny_pure ?_)))))
  show wpAny _ _ (match Builtin.Slice.sliceAdjust lo hi 1 (n : Int) with | (lo, hi) => pure (lo, (1 : Int), Builtin.Slice.slicePlaces lo hi 1)) _ _ s
  rw [adjust_gen lo hi n]
  show wpAny _ _ (pure (((sIx n 0 lo : Nat) : Int), (1 : Int), Builtin.Slice.slicePlaces ((sIx n 0 lo : Nat) : Int) ((sIx n n hi : Nat) : Int) 1)) _ _ s
  rw [places_gen]
  exact wpAny_pure h
theorem pick_gen (xs : Array Value) (i k : Nat) : ((List.range k).filterMap fun (m : Nat) => xs[((i : Int) + (m : Int) * 1).toNat]?).toArray = ((xs.toList.drop i).take k).toArray := by
  have e : (fun (m : Nat) => xs[((i : Int) + (m : Int) * 1).toNat]?) = fun m => xs[i + m]? := by
    funext m
    have : ((i : Int) + (m : Int) * 1).toNat = i + m := by omega
    rw [this]
  rw [e]
  have := pick_run xs i k
  rw [List.filterMap_map] at this
  have e2 : ((fun x => xs[x]?) ∘ fun x => i + x) = fun m => xs[i + m]? := rfl
  rw [e2] at this
  rw [this]
theorem getItem_tuple_cut {t sl : Addr} {items : Array Value} {vl vu : Value} {lo hi : Option Int} {Q : Value → Shared → Prop} (ht : IsTup s.heap t items) (hs : s.heap.IsSliceOf sl vl vu .none) (pl : IsPart vl lo) (pu : IsPart vu hi)
    (hw : ¬ (sIx items.size 0 lo = 0 ∧ sIx items.size items.size hi = items.size))
    (h : Q (.ref s.heap.objs.size) { s with heap := s.heap.push { cls := .type "tuple", data := .seq ((items.toList.drop (sIx items.size 0 lo)).take (sIx items.size items.size hi - sIx items.size 0 lo)).toArray } })
    (hsz : items.size ≤ sizeLine) : wpAny (model prog w) A (getItem (.ref t) (.ref sl)) Q E s := by
  have htake : sizeOk (.seq ((items.toList.drop (sIx items.size 0 lo)).take (sIx items.size items.size hi - sIx items.size 0 lo)).toArray) := by
    show ((items.toList.drop (sIx items.size 0 lo)).take (sIx items.size items.size hi - sIx items.size 0 lo)).toArray.size ≤ sizeLine
    rw [List.size_toArray, List.length_take, List.length_drop, Array.length_toList]
    omega
  have hj : sIx items.size items.size hi ≤ items.size := sIx_le _ _ (Nat.le_refl _) hi
  obtain ⟨os, hos, hcs, hds⟩ := id hs
  have hTs : s.TypeIs (.ref sl) "slice" := ⟨os, hos, hcs⟩
  unfold getItem
  try with_reducible refine wpAny_holding ?_
  first | refine wpAny_bind (wpAny_pure ?_) | skip
  refine wpAny_bind (wpAny_sequenceKey ht.typeIs (by decide) ?_)
  refine wpAny_bind (wpAny_callSpecial?_slot (name := Str.ofString "__getitem__") ht.typeIs PyProof.Rows.slot_tuple_getitem
    (wpAny_call_entry PyProof.Rows.slot_tuple_getitem ht.typeIs entry_tuple_getitem ?_ (args_tuple_getitem _ _)))
  show wpAny _ _ (Builtin.Tuple.tupleItemsOf (.ref t) >>= _) _ _ s
  refine wpAny_bind (tupleItemsOf_ ht ?_)
  refine wpAny_bind (wpAny_typeOf hTs ?_)
  rw [if_pos (by decide)]
  refine wpAny_bind (sliceApplied_gen hs pl pu ?_)
  have hno : ¬ ((((sIx items.size 0 lo : Nat) : Int) == 0 && (1 : Int) == 1 && (sIx items.size items.size hi - sIx items.size 0 lo) == items.size) = true) := by
    intro q
    rw [Bool.and_eq_true, Bool.and_eq_true] at q
    have q1 : ((sIx items.size 0 lo : Nat) : Int) = 0 := eq_of_beq q.1.1
    have q2 : sIx items.size items.size hi - sIx items.size 0 lo = items.size := eq_of_beq q.2
    exact hw ⟨by omega, by omega⟩
  show wpAny _ _ (if (((sIx items.size 0 lo : Nat) : Int) == 0 && (1 : Int) == 1 && (sIx items.size items.size hi - sIx items.size 0 lo) == items.size) = true then _ else _) _ _ s
  rw [if_neg hno, pick_gen]
  first
    | exact wpAny_bind (m := Builtin.Tuple.tupleExact _) (wpAny_newObj_type (wpAny_pure ⟨_, rfl, wpAny_pure h⟩) htake)
    | exact wpAny_bind (m := Builtin.Tuple.tupleExact _) (wpAny_newObj_type (wpAny_bind (wpAny_pure (wpAny_pure ⟨_, rfl, wpAny_pure h⟩))) htake)
    | exact wpAny_bind (wpAny_bind (m := Builtin.Tuple.tupleExact _) (wpAny_newObj_type (wpAny_pure (wpAny_pure ⟨_, rfl, wpAny_pure h⟩)) htake))
    | exact wpAny_bind (wpAny_bind (m := Builtin.Tuple.tupleExact _) (wpAny_newObj_type (wpAny_pure ⟨_, rfl, wpAny_pure h⟩) htake))
end
end HT
namespace L2
open PySem PySem.Spec PyProof.Rows
noncomputable abbrev TO := St → Hp → (Option Int → Hp → Prop) → Prop
noncomputable def PO (X : Cx) (e : Option Expr) (t : TO) : Prop :=
  ∀ (pins : List (Addr × Obj)) (s : Shared) (σ : St) (H : Hp) (Q : Option Int → Hp → Prop), Inv X pins σ H s → t σ H Q →
    wpAny (model X.prog X.w) X.A (evalPart e X.env) (fun u s' => ∃ o H', Inv X pins σ H' s' ∧ IsPart u o ∧ Q o H') X.xe s
noncomputable def tNoPart : TO := fun _ H Q => Q none H
noncomputable def tPart (t : TE) : TO := fun σ H Q => t σ H fun x H1 => ∃ i, x = .int i ∧ Q (some i) H1
section
variable {X : Cx} {e : Expr} {te : TE} {lo hi : Option Expr} {tl th : TO} {pos p2 : Pos}
theorem po_none : PO X none tNoPart := by
  intro pins s σ H Q I h
  rw [evalPart_none]
  exact wpAny_pure ⟨none, H, I, .none, h⟩
theorem po_some (h : PE X e te) : PO X (some e) (tPart te) := by
  intro pins s σ H Q I hw
  rw [evalPart_some]
  refine thn (h pins s σ H _ I hw) fun u s1 ⟨x, H1, I1, r1, q1⟩ => ?_
  obtain ⟨i, rfl, q⟩ := q1
  obtain ⟨t, rfl⟩ := r1
  exact ⟨some i, H1, I1, .int i t, q⟩
noncomputable def SlR (X : Cx) (r : V → Option Int → Option Int → Hp → VK → Prop) : Prop :=
  ∀ (pins : List (Addr × Obj)) (s : Shared) (σ : St) (H : Hp) (x : V) (v vl vu : Value) (lo hi : Option Int) (sl : Addr) (Q : VK), Inv X pins σ H s → RelV x v → s.heap.IsSliceOf sl vl vu .none → IsPart vl lo → IsPart vu hi → r x lo hi H Q →
    ∃ T id, typeLookup (.type T) "__getitem__" = pure (some (.builtin id)) ∧ s.TypeIs v T ∧ wpAny (model X.prog X.w) X.A (getItem v (.ref sl)) (EP X pins σ Q) X.xe s
theorem SlR.or {r r' : V → Option Int → Option Int → Hp → VK → Prop} (h : SlR X r) (h' : SlR X r') : SlR X (fun x lo hi H Q => r x lo hi H Q ∨ r' x lo hi H Q) := by
  intro pins s σ H x v vl vu lo hi sl Q I rx hs pl pu q
  rcases q with q | q
  · exact h pins s σ H x v vl vu lo hi sl Q I rx hs pl pu q
  · exact h' pins s σ H x v vl vu lo hi sl Q I rx hs pl pu q
noncomputable def tSl (r : V → Option Int → Option Int → Hp → VK → Prop) (te : TE) (tl th : TO) : TE := fun σ H Q => te σ H fun x H1 => tl σ H1 fun l H2 => th σ H2 fun u H3 => r x l u H3 Q
theorem pe_slice {r : V → Option Int → Option Int → Hp → VK → Prop} (hr : SlR X r) (he : PE X e te) (hl : PO X lo tl) (hu : PO X hi th) : PE X (.Subscript e (.Slice lo hi none p2) pos) (tSl r te tl th) := by
  intro pins s σ H Q I h
  refine Subscript_ (thn (he pins s σ H _ I h) fun v s1 ⟨x, H1, I1, r1, q1⟩ => ?_)
  refine wpAny_Slice (thn (hl pins s1 σ H1 _ I1 q1) fun vl s2 ⟨l, H2, I2, pl, q2⟩ => thn (hu pins s2 σ H2 _ I2 q2) fun vu s3 ⟨u, H3, I3, pu, q3⟩ => ?_)
  rw [evalPart_none]
  refine wpAny_pure ?_
  have I4 : Inv X pins σ H3 { s3 with heap := s3.heap.push { cls := .type "slice", data := .fields #[vl, vu, .none] } } := I3.kept (t' := s3.toks) fun b ob q => Heap.get?_push_of_some _ q
  obtain ⟨T, id, hT, ht, hg⟩ := hr pins { s3 with heap := s3.heap.push { cls := .type "slice", data := .fields #[vl, vu, .none] } } σ H3 x v vl vu l u s3.heap.objs.size Q I4 r1 (Heap.IsSliceOf.new ..) pl pu q3
  show wpAny (model X.prog X.w) X.A (subscriptTail e (.Slice lo hi none p2) v (.ref s3.heap.objs.size)) (EP X pins σ Q) X.xe { s3 with heap := s3.heap.push { cls := .type "slice", data := .fields #[vl, vu, .none] } }
  exact tail_any (ops := [.ref s3.heap.objs.size, v]) ht hT hg (by with_unfolding_all rfl)
noncomputable def cutV (xs : List V) (lo hi : Option Int) : List V := (xs.drop (HT.sIx xs.length 0 lo)).take (HT.sIx xs.length xs.length hi - HT.sIx xs.length 0 lo)
theorem cutV_length (xs : List V) (lo hi : Option Int) : (cutV xs lo hi).length ≤ xs.length := by
  unfold cutV
  rw [List.length_take, List.length_drop]
  omega
noncomputable def rSlT (K : PySem.W.Frag) : V → Option Int → Option Int → Hp → VK → Prop := fun x lo hi H Q => ∃ a xs, x = .ref a ∧ SqT K H a xs ∧
  ¬ (HT.sIx xs.length 0 lo = 0 ∧ HT.sIx xs.length xs.length hi = xs.length) ∧ ∀ p, H p = none → Q (.ref p) (upd H p (.tup (cutV xs lo hi)))
theorem sl_tup : SlR X (rSlT X.K) := by
  intro pins s σ H x v vl vu lo hi sl Q I rx hs pl pu h
  obtain ⟨a, xs, rfl, hx, hw, q⟩ := h
  cases rx
  obtain ⟨its, r, ht, hz⟩ := I.tuple hx
  have hlen : its.toArray.size = xs.length := by rw [List.size_toArray]; exact r.length.symm
  refine ⟨"tuple", _, PyProof.Rows.slot_tuple_getitem.lookup, ht.typeIs, ?_⟩
  refine HT.getItem_tuple_cut ht hs pl pu (by rw [hlen]; exact hw) ?_ (by rw [hlen]; exact hz)
  rw [hlen]
  refine ⟨.ref s.heap.objs.size, _, I.laid (t' := s.toks) (o := .tup (cutV xs lo hi)) (fun b ob q => Heap.get?_push_of_some _ q) (Nat.le_refl _) ?_, rfl, q _ (I.hok.fresh (Nat.le_refl _))⟩
  exact ⟨Nat.le_trans (cutV_length xs lo hi) hz, _, (r.drop (HT.sIx xs.length 0 lo)).take (HT.sIx xs.length xs.length hi - HT.sIx xs.length 0 lo), IsTup.new _ _⟩
noncomputable def rCatT (K : PySem.W.Frag) : R2 := fun x y H Q => ∃ a b xs ys, x = .ref a ∧ y = .ref b ∧ SqT K H a xs ∧ SqT K H b ys ∧ xs ≠ [] ∧ xs.length + ys.length ≤ sizeLine ∧
  (ys = [] → Q (.ref a) H) ∧ (ys ≠ [] → ∀ p, H p = none → Q (.ref p) (upd H p (.tup (xs ++ ys))))
theorem Vals.nil_iff {xs : List V} {us : List Value} (r : Vals xs us) : us = [] ↔ xs = [] := by
  cases r with
  | nil => simp
  | cons _ _ => simp
theorem op_catT : OpR X (binaryOp .Add) (rCatT X.K) := by
  intro pins s σ H x y v u Q I rx ry h
  obtain ⟨a, b, xs, ys, rfl, rfl, ha, hb, hx, hz, q1, q2⟩ := h
  cases rx
  cases ry
  obtain ⟨its, r1, p1, _⟩ := I.tuple ha
  obtain ⟨its2, r2, p2, _⟩ := I.tuple hb
  refine HT.cat_tup p1 p2 (fun z => hx (r1.nil_iff.mp z)) (fun z => ⟨.ref a, H, I, rfl, q1 (r2.nil_iff.mp z)⟩) (fun z => ?_) (by rw [← r1.length, ← r2.length]; exact hz)
  refine ⟨.ref s.heap.objs.size, _, I.laid (t' := s.toks) (o := .tup (xs ++ ys)) (fun b ob q => Heap.get?_push_of_some _ q) (Nat.le_refl _) ?_, rfl, q2 (fun w => z (r2.nil_iff.mpr w)) _ (I.hok.fresh (Nat.le_refl _))⟩
  exact ⟨by rw [List.length_append]; exact hz, _, r1.append r2, IsTup.new _ _⟩
end
end L2
namespace L2
open PySem PySem.Spec PyProof.Rows
noncomputable def ixN (n : Nat) (i : Int) : Option Nat := if 0 ≤ i then (if i < n then some i.toNat else none) else if -(n : Int) ≤ i then some (i + n).toNat else none
noncomputable def atI {α : Type} (xs : List α) (i : Int) : Option α := (ixN xs.length i).bind fun j => xs[j]?
theorem ixN_seq {n : Nat} {i : Int} {j : Nat} (h : ixN n i = some j) : seqIndex? i n = some j ∧ j < n ∧ -(n : Int) ≤ i ∧ i < n := by
  unfold ixN at h
  by_cases h0 : 0 ≤ i
  · rw [if_pos h0] at h
    by_cases h1 : i < n
    · rw [if_pos h1] at h
      have e : i.toNat = j := Option.some.inj h
      exact ⟨by rw [seqIndex_of h0 h1, e], by omega, by omega, h1⟩
    · rw [if_neg h1] at h; cases h
  · rw [if_neg h0] at h
    by_cases h1 : -(n : Int) ≤ i
    · rw [if_pos h1] at h
      have e : (i + n).toNat = j := Option.some.inj h
      exact ⟨by rw [seqIndex_neg (by omega) h1, e], by omega, h1, by omega⟩
    · rw [if_neg h1] at h; cases h
theorem atI_get {α : Type} {xs : List α} {i : Int} {v : α} (h : atI xs i = some v) : ∃ j, seqIndex? i xs.length = some j ∧ xs[j]? = some v ∧ j < xs.length ∧ -(xs.length : Int) ≤ i ∧ i < xs.length := by
  unfold atI at h
  cases e : ixN xs.length i with
  | none => rw [e] at h; cases h
  | some j =>
    rw [e] at h
    obtain ⟨h1, h2, h3, h4⟩ := ixN_seq e
    exact ⟨j, h1, h, h2, h3, h4⟩
noncomputable def PlainIx (b : Expr) : Prop := ∀ o i, subscripted b false o i = operate [o, i] (getItem o i)
noncomputable def IxR (X : Cx) (r : R2) : Prop :=
  ∀ (value slice : Expr) (pins : List (Addr × Obj)) (s : Shared) (σ : St) (H : Hp) (x y : V) (v u : Value) (Q : VK), Inv X pins σ H s → RelV x v → RelV y u → r x y H Q →
    subscripted slice false v u = operate [v, u] (getItem v u) → wpAny (model X.prog X.w) X.A (subscriptTail value slice v u) (EP X pins σ Q) X.xe s
noncomputable def MtR (X : Cx) (id : String) (r : V → List V → Hp → VK → Prop) : Prop :=
  ∀ (pins : List (Addr × Obj)) (s : Shared) (σ : St) (H : Hp) (x : V) (xs : List V) (v : Value) (us : List Value) (Q : VK), Inv X pins σ H s → RelV x v → Vals xs us → r x xs H Q →
    wpAny (model X.prog X.w) X.A (call (.builtin id) (v :: us)) (EP X pins σ Q) X.xe s
section
variable {X : Cx} {a b : Expr} {ta tb : TE} {pos : Pos}
theorem IxR.or {r r' : R2} (h : IxR X r) (h' : IxR X r') : IxR X (fun x y H Q => r x y H Q ∨ r' x y H Q) := by
  intro value slice pins s σ H x y v u Q I rx ry q hs
  rcases q with q | q
  · exact h value slice pins s σ H x y v u Q I rx ry q hs
  · exact h' value slice pins s σ H x y v u Q I rx ry q hs
theorem pe_ix {r : R2} (hr : IxR X r) (ha : PE X a ta) (hb : PE X b tb) (hs : PlainIx b) : PE X (.Subscript a b pos) (tOp r ta tb) := by
  intro pins s σ H Q I h
  exact Subscript_ (binT ha hb I h fun v u s2 x y H2 I2 rx ry q => hr a b pins s2 σ H2 x y v u Q I2 rx ry q (hs _ _))
noncomputable def rIxL (K : PySem.W.Frag) : R2 := fun x y H Q => ∃ p xs i v, x = .ref p ∧ y = .int i ∧ SqL K H p xs ∧ atI xs i = some v ∧ Q v H
noncomputable def rIxT (K : PySem.W.Frag) : R2 := fun x y H Q => ∃ p xs i v, x = .ref p ∧ y = .int i ∧ SqT K H p xs ∧ atI xs i = some v ∧ Q v H
noncomputable def rIxS : R2 := fun x y H Q => ∃ z i c, x = .str z ∧ y = .int i ∧ z.length ≤ sizeLine ∧ atI z.cps.toList i = some c ∧ Q (.str ⟨#[c]⟩) H
theorem ix_list : IxR X (rIxL X.K) := by
  intro value slice pins s σ H x y v u Q I rx ry h hs
  obtain ⟨p, xs, i, z, rfl, rfl, hq, he, q⟩ := h
  cases rx
  obtain ⟨t, rfl⟩ := ry
  obtain ⟨its, r, pl, hz⟩ := I.list hq
  obtain ⟨j, h1, h2, h3, h4, h5⟩ := atI_get he
  obtain ⟨w, ew, rw'⟩ := r.get h2
  have hl := r.length
  have hn := line63
  have fin : EP X pins σ Q w s := ⟨z, H, I, rw', q⟩
  by_cases h0 : 0 ≤ i
  · have hj : i.toNat = j := by
      rw [seqIndex_of h0 h5] at h1
      exact Option.some.inj h1
    exact item_listR pl.isList h0 (by omega) (by rw [hj]; simpa using ew) fin hs
  · have hj : (i + (its.toArray.size : Int)).toNat = j := by
      rw [seqIndex_neg (by omega) h4] at h1
      rw [List.size_toArray, ← hl]
      exact Option.some.inj h1
    exact subscriptTail_builtinR (x := w) pl.isList.typeIs slot_list_getitem.lookup
      (wpAny_getItem_list_neg (Q := fun r s' => r = w ∧ EP X pins σ Q r s') pl.isList (by omega) (by rw [List.size_toArray] <;> omega) (by omega) (by rw [hj]; simpa using ew) ⟨rfl, fin⟩) hs
theorem ix_tup : IxR X (rIxT X.K) := by
  intro value slice pins s σ H x y v u Q I rx ry h hs
  obtain ⟨p, xs, i, z, rfl, rfl, hq, he, q⟩ := h
  cases rx
  obtain ⟨t, rfl⟩ := ry
  obtain ⟨its, r, pl, hz⟩ := I.tuple hq
  obtain ⟨j, h1, h2, h3, h4, h5⟩ := atI_get he
  obtain ⟨w, ew, rw'⟩ := r.get h2
  have hl := r.length
  have hn := line63
  have fin : EP X pins σ Q w s := ⟨z, H, I, rw', q⟩
  exact subscriptTail_builtinR (x := w) pl.typeIs slot_tuple_getitem.lookup
    (getItem_tuple (j := j) (Q := fun r s' => r = w ∧ EP X pins σ Q r s') pl (by omega) (by omega) (by rw [List.size_toArray, ← hl]; exact h1) (by simpa using ew) ⟨rfl, fin⟩) hs
theorem ix_str : IxR X rIxS := by
  intro value slice pins s σ H x y v u Q I rx ry h hs
  obtain ⟨z, i, c, rfl, rfl, hz, he, q⟩ := h
  obtain ⟨t, rfl⟩ := rx
  obtain ⟨t', rfl⟩ := ry
  obtain ⟨j, h1, h2, h3, h4, h5⟩ := atI_get he
  have hl : z.cps.toList.length = z.length := by simp [Str.length]
  rw [hl] at h1 h4 h5
  have hn := line63
  exact tail_any (typeIs_str s z t) slot_str_getitem.lookup (getItem_str (c := c) (by
    have e1 : decide (i < -(2 ^ 63 : Int)) = false := decide_eq_false (by omega)
    have e2 : decide (i ≥ 2 ^ 63) = false := decide_eq_false (by omega)
    rw [e1, e2, Bool.or_false]) (by rw [h1]; simpa using h2) ⟨.str ⟨#[c]⟩, H, I.tok _, ⟨_, rfl⟩, q⟩) hs
noncomputable def rIx (K : PySem.W.Frag) : R2 := fun x y H Q => rIxL K x y H Q ∨ rIxT K x y H Q ∨ rIxS x y H Q
theorem ix_seq : IxR X (rIx X.K) := ix_list.or (ix_tup.or ix_str)
theorem mapSeq_set (its : List Value) (n j : Nat) (u : Value) : Obj.mapSeq (·.setIfInBounds j u) { cls := .type "list", data := .seq its.toArray n } = { cls := .type "list", data := .seq (its.set j u).toArray n } := by
  simp [Obj.mapSeq]
theorem Inv.lst {pins : List (Addr × Obj)} {σ : St} {H : Hp} {s : Shared} {p : Addr} {xs : List V} (I : Inv X pins σ H s) (h : H p = some (.lst xs)) :
    ∃ (its : List Value) (n : Nat), Vals xs its ∧ s.heap.get? p = some { cls := .type "list", data := .seq its.toArray n } ∧ xs.length ≤ sizeLine := by
  obtain ⟨z, its, n, r, e⟩ := I.hok p _ h
  exact ⟨its, n, r, e, z⟩
theorem Inv.lstUpd {pins : List (Addr × Obj)} {σ : St} {H : Hp} {s : Shared} {p : Addr} {xs ys : List V} {its its' : List Value} {n n' : Nat} {f : Obj → Obj} (I : Inv X pins σ H s) (h : H p = some (.lst xs))
    (ho : s.heap.get? p = some { cls := .type "list", data := .seq its.toArray n }) (hf : f { cls := .type "list", data := .seq its.toArray n } = { cls := .type "list", data := .seq its'.toArray n' }) (r : Vals ys its') (hz : ys.length ≤ sizeLine) (t : Nat) :
    Inv X pins σ (upd H p (.lst ys)) { s with heap := s.heap.update p f, toks := t } := by
  have e : (s.heap.update p f).get? p = some { cls := .type "list", data := .seq its'.toArray n' } := by
    rw [Heap.get?_update_self f ho (by rw [hf] <;> rfl), hf]
  refine I.write (x := p) (e := p) (by rw [h]; trivial) (.inl rfl) (fun b u hb q => (Heap.get?_update_other _ _ (Ne.symm hb)).trans q) ⟨_, e⟩ ?_
  exact ⟨hz, its', n', r, e⟩
noncomputable def rSetL : V → V → V → Hp → (Hp → Prop) → Prop := fun o i v H Q => ∃ p xs k j, o = .ref p ∧ i = .int k ∧ H p = some (.lst xs) ∧ ixN xs.length k = some j ∧ Q (upd H p (.lst (xs.set j v)))
theorem set_list : PSet X rSetL := by
  intro pins s σ H o i v ov iv u Q I ro ri rv h
  obtain ⟨p, xs, k, j, rfl, rfl, hp, hj, q⟩ := h
  cases ro
  obtain ⟨t, rfl⟩ := ri
  obtain ⟨its, n, r, ho, hz⟩ := I.lst hp
  obtain ⟨h1, h2, h3, h4⟩ := ixN_seq hj
  have hl := r.length
  have hn := line63
  have I' : Inv X pins σ (upd H p (.lst (xs.set j v))) { s with heap := s.heap.update p (Obj.mapSeq (·.setIfInBounds j u)) } :=
    I.lstUpd hp ho (mapSeq_set its n j u) (r.set rv j) (by rw [List.length_set]; exact hz) s.toks
  by_cases h0 : 0 ≤ k
  · have hk : k.toNat = j := by
      rw [seqIndex_of h0 h4] at h1
      exact Option.some.inj h1
    exact PySem.W.ki_setAt ho h0 (by omega) (by rw [List.size_toArray, ← hl]; exact h4) (by rw [hk]; exact ⟨_, I', q⟩)
  · have hk : (k + (its.toArray.size : Int)).toNat = j := by
      rw [seqIndex_neg (by omega) h3] at h1
      rw [List.size_toArray, ← hl]
      exact Option.some.inj h1
    exact PySem.W.ki_setBack ho (by omega) (by rw [List.size_toArray, ← hl]; exact h3) (by omega) (by rw [hk]; exact ⟨_, I', q⟩)
theorem slice_bounds (lo hi : Option Int) (n : Nat) : (sliceBounds lo hi none n).1 = ((HT.sIx n 0 lo : Nat) : Int) ∧ (sliceBounds lo hi none n).2.1 = ((HT.sIx n n hi : Nat) : Int) ∧ (sliceBounds lo hi none n).2.2 = 1 := by
  refine ⟨?_, ?_, rfl⟩
  · cases lo with
    | none => simp [sliceBounds, HT.sIx]
    | some i =>
      simp only [sliceBounds, HT.sIx, Option.getD_none, show (1 : Int) > 0 by decide, if_true]
      by_cases h : i < 0
      · simp only [h, if_true] <;> omega
      · simp only [h, if_false] <;> omega
  · cases hi with
    | none => simp [sliceBounds, HT.sIx]
    | some i =>
      simp only [sliceBounds, HT.sIx, Option.getD_none, show (1 : Int) > 0 by decide, if_true]
      by_cases h : i < 0
      · simp only [h, if_true] <;> omega
      · simp only [h, if_false] <;> omega
theorem slicePick_cut (its : List Value) (lo hi : Option Int) : slicePick its.toArray lo hi none = ((its.drop (HT.sIx its.length 0 lo)).take (HT.sIx its.length its.length hi - HT.sIx its.length 0 lo)).toArray := by
  obtain ⟨h1, h2, h3⟩ := slice_bounds lo hi its.toArray.size
  unfold slicePick
  rw [h1, h2, h3]
  simp only [sliceRange_one, pick_run, List.size_toArray] <;> rfl
noncomputable def rSlL (K : PySem.W.Frag) : V → Option Int → Option Int → Hp → VK → Prop := fun x lo hi H Q => ∃ a xs, x = .ref a ∧ SqL K H a xs ∧ ∀ p, H p = none → Q (.ref p) (upd H p (.lst (cutV xs lo hi)))
theorem sl_list : SlR X (rSlL X.K) := by
  intro pins s σ H x v vl vu lo hi sl Q I rx hs pl pu h
  obtain ⟨a, xs, rfl, hx, q⟩ := h
  cases rx
  obtain ⟨its, r, ht, hz⟩ := I.list hx
  have hlen := r.length
  refine ⟨"list", _, slot_list_getitem.lookup, ht.isList.typeIs, ?_⟩
  refine wpAny_getItem_list_slice ht.isList hs pl pu .none (by simp) ?_ (by rw [List.size_toArray] <;> omega)
  rw [slicePick_cut, ← hlen]
  refine ⟨.ref s.heap.objs.size, _, I.laid (t' := s.toks) (o := .lst (cutV xs lo hi)) (fun b ob q => Heap.get?_push_of_some _ q) (Nat.le_refl _) ?_, rfl, q _ (I.hok.fresh (Nat.le_refl _))⟩
  exact ⟨Nat.le_trans (cutV_length xs lo hi) hz, _, 0, (r.drop (HT.sIx xs.length 0 lo)).take (HT.sIx xs.length xs.length hi - HT.sIx xs.length 0 lo), Heap.get?_push_size _ rfl⟩
theorem CallR.or {f : Value} {r r' : List V → Hp → VK → Prop} (h : CallR X f r) (h' : CallR X f r') : CallR X f (fun xs H Q => r xs H Q ∨ r' xs H Q) := by
  intro pins s σ H xs us Q I rs q
  rcases q with q | q
  · exact h pins s σ H xs us Q I rs q
  · exact h' pins s σ H xs us Q I rs q
theorem call_list_of : CallR X (.type "list") (fun xs H Q => ∃ p ys, xs = [.ref p] ∧ (SqL X.K H p ys ∨ SqT X.K H p ys) ∧ ∀ l, H l = none → Q (.ref l) (upd H l (.lst ys))) := by
  intro pins s σ H xs us Q I r h
  obtain ⟨p, ys, rfl, hq, q⟩ := h
  obtain ⟨u, rfl, rx⟩ := vals1 r
  cases rx
  have fin : ∀ (its : List Value), Vals ys its → ys.length ≤ sizeLine → ∀ (h' : Heap) (c' : Nat), (∀ b o', s.heap.get? b = some o' → h'.get? b = some o') →
      h'.get? s.heap.objs.size = some { cls := .type "list", dict := none, data := .seq its.toArray c', slots := #[] } → EP X pins σ Q (.ref s.heap.objs.size) { s with heap := h' } := fun its r' hz h' c' kp e =>
    ⟨.ref s.heap.objs.size, _, I.laid (t' := s.toks) kp (Nat.le_refl _) (show ObjOk X.prog X.w _ h' _ (.lst ys) from ⟨hz, its, c', r', e⟩), rfl, q _ (I.hok.fresh (Nat.le_refl _))⟩
  rcases hq with hq | hq
  · obtain ⟨its, r', pl, hz⟩ := I.list hq
    have hlen := r'.length
    obtain ⟨o, ho, hc, n, hd⟩ := pl.isList
    exact call_list_seq p (.inl rfl) ho hc hd (fun h' c' kp e => fin its r' hz h' c' kp e) (by simp only [List.size_toArray] <;> omega)
  · obtain ⟨its, r', pl, hz⟩ := I.tuple hq
    have hlen := r'.length
    obtain ⟨o, ho, hc, n, hd⟩ := pl
    exact call_list_seq p (.inr rfl) ho hc hd (fun h' c' kp e => fin its r' hz h' c' kp e) (by simp only [List.size_toArray] <;> omega)
theorem call_tuple_of : CallR X (.type "tuple") (fun xs H Q => ∃ p ys, xs = [.ref p] ∧ ((SqL X.K H p ys ∧ ∀ l, H l = none → Q (.ref l) (upd H l (.tup ys))) ∨ (SqT X.K H p ys ∧ Q (.ref p) H))) := by
  intro pins s σ H xs us Q I r h
  obtain ⟨p, ys, rfl, h⟩ := h
  obtain ⟨u, rfl, rx⟩ := vals1 r
  cases rx
  rcases h with ⟨hq, q⟩ | ⟨hq, q⟩
  · obtain ⟨its, r', pl, hz⟩ := I.list hq
    have hlen := r'.length
    refine call_tuple_list pl.isList (fun h' kp => ?_) (by simp only [List.size_toArray] <;> omega)
    have I1 : Inv X pins σ H { s with heap := h' } := I.kept (t' := s.toks) kp
    have I2 : Inv X pins σ (upd H h'.objs.size (.tup ys)) { s with heap := h'.push { cls := .type "tuple", data := .seq its.toArray } } :=
      I1.laid (t' := s.toks) (fun b o e => Heap.get?_push_of_some _ e) (Nat.le_refl _) (show ObjOk X.prog X.w _ _ _ (.tup ys) from ⟨hz, its, r', IsTup.new _ _⟩)
    exact ⟨.ref h'.objs.size, _, I2, rfl, q _ (I1.hok.fresh (Nat.le_refl _))⟩
  · obtain ⟨its, r', pl, hz⟩ := I.tuple hq
    exact call_tuple_same pl ⟨.ref p, H, I, rfl, q⟩
noncomputable def tyV (K : PySem.W.Frag) (T : String) (x : V) (H : Hp) : Prop := match x with
  | .str _ => T = "str"
  | .int _ => T = "int"
  | .ref p => (T = "list" ∧ ∃ xs, SqL K H p xs) ∨ (T = "tuple" ∧ ∃ o, K.lookup p = some o ∧ o.cls = .type "tuple" ∧ o.dict = none) ∨
      (T = "dict" ∧ ((∃ kvs, H p = some (.dK kvs)) ∨ ∃ kvs, H p = some (.dT kvs))) ∨ (T = "set" ∧ ∃ S n, H p = some (.set S n))
  | _ => False
theorem tyV_is {pins : List (Addr × Obj)} {σ : St} {H : Hp} {s : Shared} {T : String} {x : V} {v : Value} (I : Inv X pins σ H s) (r : RelV x v) (ty : tyV X.K T x H) :
    s.TypeIs v T ∧ ∀ a, v = .ref a → ∃ ob, s.heap.get? a = some ob ∧ ob.dict = none := by
  cases x with
  | str z =>
    obtain ⟨t, rfl⟩ := r
    cases (show T = "str" from ty)
    exact ⟨typeIs_str s z t, fun _ e => nomatch e⟩
  | int i =>
    obtain ⟨t, rfl⟩ := r
    cases (show T = "int" from ty)
    exact ⟨typeIs_int s i t, fun _ e => nomatch e⟩
  | ref p =>
    cases r
    rcases ty with ⟨rfl, xs, hq⟩ | ⟨rfl, o, hk, hc, hd⟩ | ⟨rfl, hk⟩ | ⟨rfl, S, n, hk⟩
    · obtain ⟨its, _, pl, _⟩ := I.list hq
      refine ⟨pl.isList.typeIs, fun a e => ?_⟩
      cases e
      obtain ⟨o, n, e, c, hd, _⟩ := pl
      exact ⟨o, e, hd⟩
    · refine ⟨⟨o, I.kIn p o hk, hc⟩, fun a e => ?_⟩
      cases e
      exact ⟨o, I.kIn _ o hk, hd⟩
    · have z : ∃ o, s.heap.get? p = some o ∧ o.ExactDict := by
        rcases hk with ⟨kvs, hk⟩ | ⟨kvs, hk⟩
        · obtain ⟨_, _, _, _, o, _, _, e, ex, _⟩ := I.hok p _ hk
          exact ⟨o, e, ex⟩
        · obtain ⟨_, _, _, _, o, _, _, e, ex, _⟩ := I.hok p _ hk
          exact ⟨o, e, ex⟩
      obtain ⟨o, e, ex⟩ := z
      refine ⟨⟨o, e, ex.1⟩, fun a e2 => ?_⟩
      cases e2
      exact ⟨o, e, ex.2.1⟩
    · obtain ⟨o, _, _, _, e, ex, _⟩ := I.hok p _ hk
      refine ⟨⟨o, e, ex.1⟩, fun a e2 => ?_⟩
      cases e2
      exact ⟨o, e, ex.2.1⟩
  | _ => exact False.elim ty
noncomputable def tBM (K : PySem.W.Frag) (T : String) (r : V → List V → Hp → VK → Prop) (to : TE) (t : TA) : TE := fun σ H Q => to σ H fun x H1 => tyV K T x H1 ∧ t σ H1 fun xs H2 => r x xs H2 Q
variable {o e : Expr} {es : List Expr} {to : TE} {t : TA} {name : Str} {apos cpos : Pos} {T id : String} {r : V → List V → Hp → VK → Prop}
theorem pe_bm (pa : PlainAttrs T) (slot : Slot T name id) (hty : typeOf (.builtin id) = pure (.type "method_descriptor")) (hm : MtR X id r) (ho : PE X o to) (ha : PA X (e :: es) t)
    (hbase : attributeBase o name X.env (eval o X.env) = eval o X.env := by rfl)
    (hfew : ((backTo cpos (starEach (e :: es) X.env)).all (fun x => !x.1) && (backToKw cpos (keywordEach [] X.env)).all (fun x => x.1.isSome)
      && decide ((e :: es).length + ([] : List Keyword).length + (if ([] : List Keyword).isEmpty then 0 else 1) < 30)) = true := by rfl)
    (hline : (apos.endLine == cpos.line) = true := by rfl) (hs : starEach (e :: es) X.env = (false, eval e X.env) :: starEach es X.env := by rfl) (hplain : (backTo cpos (starEach es X.env)).any (·.1) = false := by rfl) :
    PE X (.Call (.Attribute o name apos) (e :: es) [] cpos) (tBM X.K T r to t) := by
  intro pins s σ H Q I h
  refine wpAny_Call_method_late hbase hfew hline rfl (thn (ho pins s σ H _ I h) fun v s1 ⟨x, H1, I1, r1, ty, q1⟩ => ?_)
  obtain ⟨h1, h2⟩ := tyV_is I1 r1 ty
  refine ⟨T, id, pa, slot, hty, h1, h2, ?_⟩
  have hA := ha cpos pins s1 σ H1 _ I1 q1
  rw [hs] at hA ⊢
  refine Calls.callWith_builtin (by show (false || (backTo cpos (starEach es X.env)).any (·.1)) = false; rw [hplain] <;> rfl) (Calls.evalArgs_plain ?_)
  exact thn hA fun us s2 ⟨vs, H2, I2, r2, q2⟩ => hm pins s2 σ H2 x vs v us Q I2 r1 r2 q2
end
end L2
namespace L2
open PySem PySem.Spec PyProof.Rows
noncomputable def MtM (X : Cx) (id : String) (r : V → List V → Hp → VK → Prop) : Prop :=
  ∀ (pins : List (Addr × Obj)) (s : Shared) (σ : St) (H : Hp) (x : V) (xs : List V) (v : Value) (us : List Value) (Q : VK), Inv X pins σ H s → RelV x v → Vals xs us → r x xs H Q →
    wpAny (model X.prog X.w) X.A (call (.builtin id) (v :: us)) (EP X pins σ Q) X.xe s
theorem Vals.one : ∀ {x : V} {us : List Value}, Vals [x] us → ∃ u, us = [u] ∧ RelV x u
  | _, _, .cons r .nil => ⟨_, rfl, r⟩
theorem Vals.eraseIdx : ∀ {xs : List V} {us : List Value} (i : Nat), Vals xs us → Vals (xs.eraseIdx i) (us.eraseIdx i)
  | _, _, _, .nil => .nil
  | _, _, 0, .cons _ t => t
  | _, _, i + 1, .cons r t => .cons r (Vals.eraseIdx i t)
theorem Vals.rep {xs : List V} {us : List Value} (h : Vals xs us) : ∀ k : Nat, Vals (List.replicate k xs).flatten (List.replicate k us).flatten
  | 0 => .nil
  | k + 1 => by
    rw [List.replicate_succ, List.replicate_succ, List.flatten_cons, List.flatten_cons]
    exact Vals.append h (Vals.rep h k)
theorem foldl_rep (its : List Value) : ∀ (k : Nat) (acc : List Value),
    List.foldl (fun x1 x2 => x1 ++ x2) acc.toArray (List.replicate k its.toArray) = (acc ++ (List.replicate k its).flatten).toArray
  | 0, acc => by simp
  | k + 1, acc => by
    have e : acc.toArray ++ its.toArray = (acc ++ its).toArray := by simp
    have e2 : (acc ++ its) ++ (List.replicate k its).flatten = acc ++ (List.replicate (k + 1) its).flatten := by
      rw [List.replicate_succ, List.flatten_cons, List.append_assoc]
    rw [← e2, ← foldl_rep its k (acc ++ its), ← e, List.replicate_succ, List.foldl_cons]
section
variable {X : Cx} {pins : List (Addr × Obj)} {σ : St} {H : Hp} {s : Shared} {l b : Addr} {xs ys zs : List V}
theorem Inv.lset {its its' : List Value} {n : Nat} {f : Array Value → Array Value} {t' : Nat} (I : Inv X pins σ H s) (hH : H l = some (.lst xs))
    (e : s.heap.get? l = some { cls := .type "list", data := .seq its.toArray n }) (hf : f its.toArray = its'.toArray) (hv : Vals ys its') (hz : ys.length ≤ sizeLine) :
    Inv X pins σ (upd H l (.lst ys)) { s with heap := s.heap.update l (Obj.mapSeq f), toks := t' } := by
  have q := PySem.IsL.update e f
  rw [hf] at q
  refine I.write (x := l) (e := l) (by rw [hH]; exact trivial) (.inl rfl) (fun b' u hb hu => (Heap.get?_update_other s.heap (Obj.mapSeq f) (Ne.symm hb)).trans hu) ⟨_, q⟩ ?_
  exact ⟨hz, its', _, hv, q⟩
theorem Inv.lnew {its : List Value} {t' : Nat} (I : Inv X pins σ H s) (hv : Vals ys its) (hz : ys.length ≤ sizeLine) :
    Inv X pins σ (upd H s.heap.objs.size (.lst ys)) { s with heap := s.heap.push { cls := .type "list", data := .seq its.toArray }, toks := t' } :=
  I.laid (fun _ _ q => Heap.get?_push_of_some _ q) (Nat.le_refl _) ⟨hz, its, 0, hv, Heap.get?_push_size _ rfl⟩
theorem Inv.fresh (I : Inv X pins σ H s) : H s.heap.objs.size = none := I.hok.fresh (Nat.le_refl _)
theorem Inv.lstM (I : Inv X pins σ H s) (hH : H l = some (.lst xs)) : xs.length ≤ sizeLine ∧ ∃ (its : List Value) (n : Nat), Vals xs its ∧ xs.length = its.length ∧ s.heap.get? l = some { cls := .type "list", data := .seq its.toArray n } := by
  obtain ⟨z, its, n, r, e⟩ := I.hok l _ hH
  exact ⟨z, its, n, r, r.length, e⟩
theorem notLongL {n : Nat} (h : n ≤ sizeLine) : Builtin.List.listTooLong n = false := by
  unfold Builtin.List.listTooLong
  exact decide_eq_false (by omega)
end
section
variable {X : Cx}
noncomputable def rAppend : V → List V → Hp → VK → Prop := fun x vs H Q => ∃ l xs y, x = .ref l ∧ vs = [y] ∧ H l = some (.lst xs) ∧ xs.length < sizeLine ∧ Q .non (upd H l (.lst (xs ++ [y])))
theorem mt_append : MtM X "list.append" rAppend := by
  intro pins s σ H x vs v us Q I rx rv h
  obtain ⟨l, xs, y, rfl, rfl, hH, hz, q⟩ := h
  cases rx
  obtain ⟨u, rfl, ru⟩ := rv.one
  obtain ⟨z, its, n, r, hl, e⟩ := I.lstM hH
  refine call_meets F.slot_list_append ⟨_, e, rfl⟩ F.entry_list_append (F.args_list_append_2 _ _) (PySem.list_append l its.toArray n u (by rw [List.size_toArray]; omega)) ⟨e, ?_⟩
  refine ⟨.non, _, I.lset (its' := its ++ [u]) hH e (by simp) (r.append (.cons ru .nil)) ?_, rfl, q⟩
  rw [List.length_append, List.length_singleton]
  omega
noncomputable def rExtend : V → List V → Hp → VK → Prop := fun x vs H Q => ∃ l b xs zs, x = .ref l ∧ vs = [.ref b] ∧ H l = some (.lst xs) ∧ H b = some (.lst zs) ∧ xs.length + zs.length ≤ sizeLine ∧ Q .non (upd H l (.lst (xs ++ zs)))
theorem mt_extend : MtM X "list.extend" rExtend := by
  intro pins s σ H x vs v us Q I rx rv h
  obtain ⟨l, b, xs, zs, rfl, rfl, hH, hB, hz, q⟩ := h
  cases rx
  obtain ⟨u, rfl, ru⟩ := rv.one
  cases ru
  obtain ⟨z, its, n, r, hl, e⟩ := I.lstM hH
  obtain ⟨z2, its2, n2, r2, hl2, e2⟩ := I.lstM hB
  have hsz : its.toArray.size + its2.toArray.size ≤ sizeLine := by rw [List.size_toArray, List.size_toArray]; omega
  have hlong : ¬ (!its.toArray.isEmpty && Builtin.List.listTooLong (its.toArray.size + its2.toArray.size)) = true := by
    rw [notLongL hsz, Bool.and_false]
    exact Bool.false_ne_true
  refine call_meets F.slot_list_extend ⟨_, e, rfl⟩ F.entry_list_extend (F.args_list_extend_2 _ _)
    (AutoSeq1.list_extend_list_list_0 l its.toArray n b its2.toArray n2 hlong (by rw [List.size_toArray]; omega) (by omega)) ⟨e, e2, ?_⟩
  refine ⟨.non, _, I.lset (its' := its ++ its2) hH e (by simp) (r.append r2) ?_, rfl, q⟩
  rw [List.length_append]
  omega
noncomputable def rCat : R2 := fun x y H Q => ∃ l b xs zs, x = .ref l ∧ y = .ref b ∧ H l = some (.lst xs) ∧ H b = some (.lst zs) ∧ xs.length + zs.length ≤ sizeLine ∧ ∀ p, H p = none → Q (.ref p) (upd H p (.lst (xs ++ zs)))
theorem op_cat : OpR X (binaryOp .Add) rCat := by
  intro pins s σ H x y v u Q I rx ry h
  obtain ⟨l, b, xs, zs, rfl, rfl, hH, hB, hz, q⟩ := h
  cases rx
  cases ry
  obtain ⟨z, its, n, r, hl, e⟩ := I.lstM hH
  obtain ⟨z2, its2, n2, r2, hl2, e2⟩ := I.lstM hB
  refine PySem.P.add_list e e2 ?_ (by rw [List.size_toArray, List.size_toArray]; omega)
  have ea : its.toArray ++ its2.toArray = (its ++ its2).toArray := by simp
  rw [ea]
  exact ⟨.ref _, _, I.lnew (t' := s.toks) (r.append r2) (by rw [List.length_append]; omega), rfl, q _ I.fresh⟩
noncomputable def rRep : R2 := fun x y H Q => ∃ l k xs, x = .ref l ∧ y = .int k ∧ H l = some (.lst xs) ∧ -(2 ^ 63) ≤ k ∧ k < 2 ^ 63 ∧ xs.length * k.toNat ≤ sizeLine ∧
  ∀ p, H p = none → Q (.ref p) (upd H p (.lst (List.replicate k.toNat xs).flatten))
theorem len_rep {α : Type} (xs : List α) (k : Nat) : (List.replicate k xs).flatten.length = k * xs.length := by
  induction k with
  | zero => simp
  | succ k ih => rw [List.replicate_succ, List.flatten_cons, List.length_append, ih, Nat.succ_mul, Nat.add_comm]
theorem op_rep : OpR X (binaryOp .Mult) rRep := by
  intro pins s σ H x y v u Q I rx ry h
  obtain ⟨l, k, xs, rfl, rfl, hH, h1, h2, hz, q⟩ := h
  cases rx
  obtain ⟨t, rfl⟩ := ry
  obtain ⟨z, its, n, r, hl, e⟩ := I.lstM hH
  have hlen : its.toArray.size * k.toNat ≤ sizeLine := by rw [List.size_toArray, ← hl]; exact hz
  have hcap : ¬ its.toArray.size * k.toNat > (2 ^ 63 - 1) / 8 := by
    have : (sizeLine : Nat) ≤ (2 ^ 63 - 1) / 8 := by decide
    omega
  have hfit : ¬ (!Builtin.List.listFitsIndex k) = true := by
    rw [fitsIndex_both h1 h2]
    exact Bool.false_ne_true
  have hlong : ¬ Builtin.List.listTooLong (its.toArray.size * k.toNat) = true := by
    rw [notLongL hlen]
    exact Bool.false_ne_true
  have hnew : List.foldl (fun x1 x2 => x1 ++ x2) #[] (List.replicate (if its.toArray.isEmpty = true then 0 else k.toNat) its.toArray) = (List.replicate k.toNat its).flatten.toArray := by
    have f0 : ∀ m : Nat, List.foldl (fun x1 x2 => x1 ++ x2) #[] (List.replicate m its.toArray) = (List.replicate m its).flatten.toArray := fun m => by
      have := foldl_rep its m []
      rw [List.nil_append] at this
      exact this
    rw [f0]
    cases its with
    | nil => simp
    | cons a r' => rw [if_neg (by simp)]
  refine wpAny_binaryOp_repeat_ref (T := "list") (U := "int") (by decide) ⟨_, e, rfl⟩ (fun s' => typeIs_int s' k t) noFill_list_mul F.fills_int_mul F.slot_int_rmul repeat_list F.slot_int_index.lookup
    (call_meets F.slot_int_rmul (typeIs_int s k t) F.entry_int_rmul (F.args_int_rmul_2 _ _) (int___rmul___int_list k t l its.toArray n)
      ⟨e, rfl, ⟨_, e, rfl⟩, call_meets F.slot_list_mul ⟨_, e, rfl⟩ F.entry_list_mul (F.args_list_mul_2 _ _) (AutoListH.list___mul___list_int_3 l its.toArray n k t hfit hcap hlong) ⟨e, ?_⟩⟩)
  rw [hnew]
  exact ⟨.ref _, _, I.lnew (t' := s.toks) (r.rep k.toNat) (by rw [len_rep, Nat.mul_comm]; exact hz), rfl, q _ I.fresh⟩
end
section
variable {prog : Program} {w : World} {A : Around} {E : Value → Shared → Prop} {s : Shared}
end
section
variable {X : Cx}
end
end L2
namespace L2
open PySem PySem.Spec PyProof.Rows
section
variable {κ : Type} [DecidableEq κ]
noncomputable def valV (kvs : List (κ × V)) (k : κ) : Option V := (kvs.find? fun kv => decide (kv.1 = k)).map (·.2)
noncomputable def putK (kvs : List (κ × V)) (k : κ) (v : V) : List (κ × V) :=
  if (kvs.any fun kv => decide (kv.1 = k)) = true then kvs.map (fun kv => if kv.1 = k then (kv.1, v) else kv) else kvs ++ [(k, v)]
noncomputable def dropK (kvs : List (κ × V)) (k : κ) : List (κ × V) := kvs.filter fun kv => decide (kv.1 ≠ k)
theorem valV_pos {p : κ × V} {r : List (κ × V)} {k : κ} (e : p.1 = k) : valV (p :: r) k = some p.2 := by simp [valV, List.find?_cons, e]
theorem valV_neg {p : κ × V} {r : List (κ × V)} {k : κ} (e : ¬ p.1 = k) : valV (p :: r) k = valV r k := by simp [valV, List.find?_cons, e]
theorem valV_any (k : κ) : ∀ kvs : List (κ × V), (kvs.any fun kv => decide (kv.1 = k)) = (valV kvs k).isSome
  | [] => rfl
  | p :: r => by
    rw [List.any_cons]
    by_cases e : p.1 = k
    · simp only [valV_pos e, decide_eq_true e, Bool.true_or, Option.isSome_some]
    · rw [valV_neg e, decide_eq_false e, Bool.false_or]; exact valV_any k r
theorem length_putK (kvs : List (κ × V)) (k : κ) (v : V) : (putK kvs k v).length ≤ kvs.length + 1 := by
  unfold putK
  split
  · rw [List.length_map]; omega
  · rw [List.length_append, List.length_cons, List.length_nil]; omega
theorem putK_new {kvs : List (κ × V)} {k : κ} (v : V) (h : valV kvs k = none) : putK kvs k v = kvs ++ [(k, v)] := by
  unfold putK
  rw [valV_any, h]
  exact if_neg (by decide)
theorem RelO.isSome_eq {o : Option V} {u : Option Value} (r : RelO o u) : o.isSome = u.isSome := by
  cases o with
  | none => cases u with
    | none => rfl
    | some _ => exact (show False from r).elim
  | some _ => cases u with
    | none => exact (show False from r).elim
    | some _ => rfl
theorem RelO.getD {o : Option V} {u : Option Value} {d : V} {d' : Value} (r : RelO o u) (rd : RelV d d') : RelV (o.getD d) (u.getD d') := by
  cases o with
  | none => cases u with
    | none => exact rd
    | some _ => exact (show False from r).elim
  | some _ => cases u with
    | none => exact (show False from r).elim
    | some _ => exact r
theorem KV.val {kvs : List (κ × V)} {vs : List (κ × Value)} (r : KV kvs vs) (k : κ) : RelO (valV kvs k) (valueAt vs k) := by
  unfold KV at r
  induction r with
  | nil => exact True.intro
  | @cons p q ps qs h t ih =>
    obtain ⟨h1, h2⟩ := h
    by_cases e : p.1 = k
    · have e' : q.1 = k := h1.symm.trans e
      have b : valueAt (q :: qs) k = some q.2 := by simp [valueAt, List.find?_cons, e']
      rw [valV_pos e, b]; exact h2
    · have e' : ¬ q.1 = k := fun z => e (h1.trans z)
      have b : valueAt (q :: qs) k = valueAt qs k := by simp [valueAt, List.find?_cons, e']
      rw [valV_neg e, b]; exact ih
theorem KV.any {kvs : List (κ × V)} {vs : List (κ × Value)} (r : KV kvs vs) (k : κ) : (kvs.any fun kv => decide (kv.1 = k)) = vs.any fun kv => decide (kv.1 = k) := by
  unfold KV at r
  induction r with
  | nil => rfl
  | cons h t ih => rw [List.any_cons, List.any_cons, ih, h.1]
theorem KV.repl {kvs : List (κ × V)} {vs : List (κ × Value)} (r : KV kvs vs) (k : κ) {y : V} {u : Value} (ry : RelV y u) :
    KV (kvs.map fun kv => if kv.1 = k then (kv.1, y) else kv) (vs.map fun kv => if kv.1 = k then (kv.1, u) else kv) := by
  unfold KV at r ⊢
  induction r with
  | nil => exact .nil
  | @cons p q ps qs h t ih =>
    rw [List.map_cons, List.map_cons]
    refine .cons ?_ ih
    obtain ⟨h1, h2⟩ := h
    by_cases e : p.1 = k
    · rw [if_pos e, if_pos (h1.symm.trans e)]; exact ⟨h1, ry⟩
    · rw [if_neg e, if_neg (fun z => e (h1.trans z))]; exact ⟨h1, h2⟩
theorem KV.put {kvs : List (κ × V)} {vs : List (κ × Value)} (r : KV kvs vs) (k : κ) {y : V} {u : Value} (ry : RelV y u) : KV (putK kvs k y) (stored vs k u) := by
  unfold putK stored
  rw [r.any k]
  by_cases e : (vs.any fun kv => decide (kv.1 = k)) = true
  · rw [if_pos e, if_pos e]; exact r.repl k ry
  · rw [if_neg e, if_neg e]; exact Paired.snoc r ⟨rfl, ry⟩
theorem KV.drop {kvs : List (κ × V)} {vs : List (κ × Value)} (r : KV kvs vs) (k : κ) : KV (dropK kvs k) (without vs k) := by
  unfold KV at r ⊢
  unfold dropK without
  induction r with
  | nil => exact .nil
  | @cons p q ps qs h t ih =>
    obtain ⟨h1, h2⟩ := h
    rw [List.filter_cons, List.filter_cons]
    by_cases e : p.1 = k
    · have a : ¬ decide (p.1 ≠ k) = true := by simp [e]
      have b : ¬ decide (q.1 ≠ k) = true := by simp [h1.symm.trans e]
      rw [if_neg a, if_neg b]; exact ih
    · have e' : ¬ q.1 = k := fun z => e (h1.trans z)
      have a : decide (p.1 ≠ k) = true := by simp [e]
      have b : decide (q.1 ≠ k) = true := by simp [e']
      rw [if_pos a, if_pos b]; exact .cons ⟨h1, h2⟩ ih
theorem KV.length {kvs : List (κ × V)} {vs : List (κ × Value)} (r : KV kvs vs) : kvs.length = vs.length := Paired.length r
end
theorem kV_is {P : Program} {w : World} {k : Key} {u : Value} (r : RelV (kV k) u) : (mixKind P w).is k u = true := by
  cases k with
  | inl i => obtain ⟨t, e⟩ := (show ∃ t, u = Value.int i t from r); subst e; exact mixKind_int P w i t
  | inr x => obtain ⟨t, e⟩ := (show ∃ t, u = Value.str x t from r); subst e; exact mixKind_str P w x t
theorem items_are {P : Program} {w : World} : ∀ {ks : List Key} {us : List Value}, Vals (ks.map kV) us → ItemsAre (mixKind P w) ks us
  | [], _, r => by rw [List.map_nil] at r; cases r; exact .nil
  | k :: ks, _, r => by
    rw [List.map_cons] at r
    cases r with
    | cons h t => exact .cons (kV_is h) (items_are t)
noncomputable abbrev KT (H : Hp) : List (List Key × V) → List (List Key × Addr × Value) → Prop := Paired fun p q => p.1 = q.1 ∧ H q.2.1 = some (.tup (p.1.map kV)) ∧ RelV p.2 q.2.2
theorem KT.val {H : Hp} {kvs : List (List Key × V)} {xs : List (List Key × Addr × Value)} (r : KT H kvs xs) (k : List Key) : RelO (valV kvs k) ((atKey xs k).map (·.2)) := by
  induction r with
  | nil => exact True.intro
  | @cons p q ps qs h t ih =>
    obtain ⟨h1, _, h2⟩ := h
    by_cases e : p.1 = k
    · have e' : q.1 = k := h1.symm.trans e
      have b : atKey (q :: qs) k = some q.2 := by simp [atKey, List.find?_cons, e']
      rw [valV_pos e, b]; exact h2
    · have e' : ¬ q.1 = k := fun z => e (h1.trans z)
      have b : atKey (q :: qs) k = atKey qs k := by simp [atKey, List.find?_cons, e']
      rw [valV_neg e, b]; exact ih
theorem KT.repl {H : Hp} {kvs : List (List Key × V)} {xs : List (List Key × Addr × Value)} (r : KT H kvs xs) (k : List Key) {y : V} {u : Value} (ry : RelV y u) :
    KT H (kvs.map fun kv => if kv.1 = k then (kv.1, y) else kv) (xs.map (putAt k u)) := by
  induction r with
  | nil => exact .nil
  | @cons p q ps qs h t ih =>
    rw [List.map_cons, List.map_cons]
    refine .cons ?_ ih
    obtain ⟨h1, h2, h3⟩ := h
    unfold putAt
    by_cases e : p.1 = k
    · rw [if_pos e, if_pos (h1.symm.trans e)]; exact ⟨h1, h2, ry⟩
    · rw [if_neg e, if_neg (fun z => e (h1.trans z))]; exact ⟨h1, h2, h3⟩
theorem KT.put {H : Hp} {kvs : List (List Key × V)} {xs : List (List Key × Addr × Value)} (r : KT H kvs xs) (k : List Key) {b : Addr} {y : V} {u : Value} (hb : H b = some (.tup (k.map kV))) (ry : RelV y u) :
    KT H (putK kvs k y) (storedH xs k b u) := by
  have e : (kvs.any fun kv => decide (kv.1 = k)) = (atKey xs k).isSome := by
    rw [valV_any, (r.val k).isSome_eq, Option.isSome_map]
  unfold putK storedH
  rw [e]
  by_cases q : (atKey xs k).isSome = true
  · rw [if_pos q, if_pos q]; exact r.repl k ry
  · rw [if_neg q, if_neg q]; exact Paired.snoc r ⟨rfl, hb, ry⟩
theorem KT.keeps {H H' : Hp} {kvs : List (List Key × V)} {xs : List (List Key × Addr × Value)} (r : KT H kvs xs) (ht : ∀ b ys, H b = some (.tup ys) → H' b = some (.tup ys)) : KT H' kvs xs :=
  Paired.mapP r fun _ _ z => ⟨z.1, ht _ _ z.2.1, z.2.2⟩
section
variable {P : Program} {w : World} {H : Hp} {h : Heap} {a : Addr}
theorem rd_of {u : HO} (ok : HOk P w H h) (e : Rd H a u) : ObjOk P w H h a u := e.ok ok
theorem dk_rd {kvs : List (Key × V)} (ok : HOk P w H h) (e : Rd H a (.dK kvs)) : kvs.length ≤ sizeLine ∧ (a == sysModules) = false ∧ ∃ vs, KV kvs vs ∧ h.DictOf (mixKind P w) a vs :=
  show ObjOk P w H h a (.dK kvs) from rd_of ok e
theorem dk_of {kvs : List (Key × V)} (ok : HOk P w H h) (e : H a = some (.dK kvs)) : kvs.length ≤ sizeLine ∧ (a == sysModules) = false ∧ ∃ vs, KV kvs vs ∧ h.DictOf (mixKind P w) a vs := dk_rd ok (.inl e)
theorem key_of {ks : List Key} (ok : HOk P w H h) (e : H a = some (.tup (ks.map kV))) : (tupleKind (mixKind P w)).is h ks a := by
  obtain ⟨_, its, r, o, h1, h2, n, h3⟩ := (show ObjOk P w H h a (.tup (ks.map kV)) from ok a _ e)
  exact ⟨o, its.toArray, n, h1, h2, h3, by simpa using items_are r⟩
theorem dt_rd {kvs : List (List Key × V)} (ok : HOk P w H h) (e : Rd H a (.dT kvs)) : kvs.length ≤ sizeLine ∧ (a == sysModules) = false ∧
    ∃ xs, KT H kvs xs ∧ h.DictOfH (tupleKind (mixKind P w)) a xs := by
  obtain ⟨z, y, xs, r, o, es, ep, h1, h2, h3, h4, h5⟩ := (show ObjOk P w H h a (.dT kvs) from rd_of ok e)
  refine ⟨z, y, xs, r, o, es, ep, h1, h2, h3, h4, fun x hx => ?_, h5⟩
  have all : ∀ {l : List (List Key × V)} {m : List (List Key × Addr × Value)}, KT H l m → ∀ x ∈ m, (tupleKind (mixKind P w)).is h x.1 x.2.1 := by
    intro l m q
    induction q with
    | nil => intro x hx; exact nomatch hx
    | @cons p q ps qs hq t ih =>
      intro x hx
      rcases List.mem_cons.mp hx with e | hx
      · subst e
        exact key_of ok (by rw [← hq.1]; exact hq.2.1)
      · exact ih x hx
  exact all r x hx
theorem dt_of {kvs : List (List Key × V)} (ok : HOk P w H h) (e : H a = some (.dT kvs)) : kvs.length ≤ sizeLine ∧ (a == sysModules) = false ∧
    ∃ xs, KT H kvs xs ∧ h.DictOfH (tupleKind (mixKind P w)) a xs := dt_rd ok (.inl e)
end
noncomputable def DGet (H : Hp) (a : Addr) (y : V) (r : Option V) : Prop :=
  (∃ kvs k, Rd H a (.dK kvs) ∧ y = kV k ∧ r = valV kvs k) ∨ ∃ kvs k b, Rd H a (.dT kvs) ∧ y = .ref b ∧ H b = some (.tup (k.map kV)) ∧ r = valV kvs k
noncomputable def DPut (H : Hp) (a : Addr) (y v : V) (H' : Hp) : Prop :=
  (∃ kvs k, H a = some (.dK kvs) ∧ y = kV k ∧ kvs.length < sizeLine ∧ H' = upd H a (.dK (putK kvs k v))) ∨
  ∃ kvs k b, H a = some (.dT kvs) ∧ y = .ref b ∧ H b = some (.tup (k.map kV)) ∧ kvs.length < sizeLine ∧ H' = upd H a (.dT (putK kvs k v))
theorem DGet.t {H : Hp} {a b : Addr} {kvs : List (List Key × V)} {k : List Key} (e : H a = some (.dT kvs)) (eb : H b = some (.tup (k.map kV))) : DGet H a (.ref b) (valV kvs k) := .inr ⟨kvs, k, b, .inl e, rfl, eb, rfl⟩
theorem DPut.t {H : Hp} {a b : Addr} {kvs : List (List Key × V)} {k : List Key} {v : V} (e : H a = some (.dT kvs)) (eb : H b = some (.tup (k.map kV))) (hl : kvs.length < sizeLine) :
    DPut H a (.ref b) v (upd H a (.dT (putK kvs k v))) := .inr ⟨kvs, k, b, e, rfl, eb, hl, rfl⟩
section
variable {X : Cx} {pins : List (Addr × Obj)} {σ : St} {H : Hp} {s : Shared} {a : Addr} {y v : V} {u r : Value} {o : Option V} {A : Around} {E : Value → Shared → Prop}
theorem Inv.big (I : Inv X pins σ H s) : sysModules < s.heap.objs.size := by
  have h : mainGlobals < s.heap.objs.size := (I.mod.glob.keeps I.bk).lt
  exact Nat.lt_trans (by decide) h
theorem d_in {Q : Value → Shared → Prop} (hu : A.units + 1 < cLine) (I : Inv X pins σ H s) (g : DGet H a y o) (ry : RelV y u) (h : ∀ s', Inv X pins σ H s' → Q (.bool o.isSome) s') :
    wpAny (model X.prog X.w) A (compareOp .In u (.ref a)) Q E s := by
  rcases g with ⟨kvs, k, e, ey, l⟩ | ⟨kvs, k, b, e, ey, eb, l⟩
  · subst ey
    obtain ⟨z, hd, vs, rel, dd⟩ := dk_rd I.hok e
    refine wpAny_in_of (kV_is ry) hd dd.mapOf ?_
    rw [← (rel.val k).isSome_eq, ← l]
    exact h _ (I.tok _)
  · subst ey
    cases (show u = Value.ref b from ry)
    obtain ⟨z, hd, xs, rel, dd⟩ := dt_rd I.hok e
    refine wpAny_in_heap (tupleKind_room_in1 hu) (key_of I.hok eb) hd dd ?_
    have q := (rel.val k).isSome_eq
    rw [Option.isSome_map] at q
    rw [← q, ← l]
    exact h _ (I.tok _)
theorem d_write {h' : Heap} {t' : Nat} {ob : HO} (I : Inv X pins σ H s) (mu : Mut (H a)) (hs : Heap.SameBut a s.heap h') (he : ∃ q, h'.get? a = some q) (new : ObjOk X.prog X.w (upd H a ob) h' a ob) :
    Inv X pins σ (upd H a ob) { s with heap := h', toks := t' } :=
  I.write (x := a) (e := a) mu (.inl rfl) (fun b q hb z => (hs.2 b hb).trans z) he new
theorem dk_new {P : Program} {w : World} {H' : Hp} {h' : Heap} {kvs : List (Key × V)} {vs : List (Key × Value)} (z : kvs.length ≤ sizeLine) (hd : (a == sysModules) = false) (rel : KV kvs vs) (dd : h'.DictOf (mixKind P w) a vs) :
    ObjOk P w H' h' a (.dK kvs) := ⟨z, hd, vs, rel, dd⟩
theorem d_setItem {H' : Hp} {Q : Unit → Shared → Prop} (hu : A.units + 1 < cLine) (I : Inv X pins σ H s) (g : DPut H a y v H') (ry : RelV y u) (rv : RelV v r) (h : ∀ s', Inv X pins σ H' s' → Q () s') :
    wpAny (model X.prog X.w) A (setItem (.ref a) u r) Q E s := by
  rcases g with ⟨kvs, k, e, ey, l, eH⟩ | ⟨kvs, k, b, e, ey, eb, l, eH⟩
  · subst ey eH
    obtain ⟨z, hd, vs, rel, dd⟩ := dk_of I.hok e
    have hz : vs.length ≤ sizeLine := by rw [← rel.length]; exact z
    have hl : (putK kvs k v).length ≤ sizeLine := by have := length_putK kvs k v; omega
    refine wpAny_setItem_pairs (hsz := hz) (kV_is ry) dd fun h' dd' hs => h _ ?_
    have he : ∃ q, h'.get? a = some q := let ⟨q, _, _, hq, _⟩ := dd'; ⟨q, hq⟩
    exact d_write I (by rw [e]; exact True.intro) hs he (dk_new hl hd (rel.put k rv) dd')
  · subst ey eH
    cases (show u = Value.ref b from ry)
    obtain ⟨z, hd, xs, rel, dd⟩ := dt_of I.hok e
    have hz : xs.length ≤ sizeLine := by rw [← Paired.length rel]; exact z
    have hl : (putK kvs k v).length ≤ sizeLine := by have := length_putK kvs k v; omega
    refine wpAny_setItem_heap (hsz := hz) (tupleKind_room_in1 hu) (key_of I.hok eb) dd fun h' dd' hs => h _ ?_
    obtain ⟨q, es, ep, hq, h2, h3, h4, _, h5⟩ := dd'
    refine d_write I (by rw [e]; exact True.intro) hs ⟨q, hq⟩ ⟨hl, hd, _, (rel.put k eb rv).keeps fun c ys ec => ?_, q, es, ep, hq, h2, h3, h4, h5⟩
    rw [upd_ne (ne_of ec e (fun z => nomatch z))]
    exact ec
end
section
variable {X : Cx} {pins : List (Addr × Obj)} {σ : St} {H : Hp} {s : Shared} {a : Addr} {kvs : List (Key × V)} {k : Key} {u : Value} {A : Around} {E : Value → Shared → Prop}
end
noncomputable def tDIn (ty td : TE) : TE := fun σ H Q => ty σ H fun y H1 => td σ H1 fun x H2 => ∃ a o, x = .ref a ∧ DGet H2 a y o ∧ Q (.bl o.isSome) H2
noncomputable def sDPut (td ty tv : TE) : TS := fun D σ H => tv σ H fun v H1 => td σ H1 fun x H2 => ty σ H2 fun y H3 => ∃ a H4, x = .ref a ∧ DPut H3 a y v H4 ∧ D.nx σ H4
section
variable {X : Cx} {o i e value : Expr} {pos pos' tpos : Pos} {td ty tv : TE}
theorem pc_din (hu : X.A.units + 1 < cLine) (hi : PE X i ty) (ho : PE X o td) : PC X .In i o (tDIn ty td) := by
  intro pins s σ H Q I h
  refine thn (hi pins s σ H _ I h) fun iv s1 ⟨y, H1, I1, ry, q1⟩ => thn (ho pins s1 σ H1 _ I1 q1) fun u s2 ⟨x, H2, I2, rx, a, ov, ex, g, q2⟩ => ?_
  subst ex
  obtain rfl : u = Value.ref a := rx
  exact d_in hu I2 g ry fun s3 I3 => ⟨.bl ov.isSome, H2, I3, rfl, q2⟩
theorem ps_dput (hu : X.A.units + 1 < cLine) (ho : PE X o td) (hi : PE X i ty) (hv : PE X value tv) (hs : swapsWith value (some (.Subscript o i pos')) pos.line X.env = pure false) :
    PS X (.Assign [.Subscript o i pos'] value pos) (sDPut td ty tv) := by
  intro pins s σ H D I h
  refine wpAny_Assign_Subscript (thn (hv pins s σ H _ I h) fun r s1 ⟨v, H1, I1, rv, q1⟩ => thn (ho pins s1 σ H1 _ I1 q1) fun u s2 ⟨x, H2, I2, rx, q2⟩ => thn (hi pins s2 σ H2 _ I2 q2) fun iv s3 ⟨y, H3, I3, ry, a, H4, ex, g, q3⟩ => ?_) hs
  subst ex
  obtain rfl : u = Value.ref a := rx
  exact d_setItem hu I3 g ry rv fun s4 I4 => ⟨σ, H4, I4, q3⟩
end
theorem dk_empty {P : Program} {w : World} {H : Hp} (h : Heap) (hb : sysModules < h.objs.size) : ObjOk P w H (h.push { cls := .type "dict", data := .dict #[] }) h.objs.size (.dK []) :=
  ⟨Nat.zero_le _, beq_eq_false_iff_ne.mpr (Ne.symm (Nat.ne_of_lt hb)), [], .nil, Heap.DictOf.new h⟩
theorem dt_empty {P : Program} {w : World} {H : Hp} (h : Heap) (hb : sysModules < h.objs.size) : ObjOk P w H (h.push { cls := .type "dict", data := .dict #[] }) h.objs.size (.dT []) :=
  ⟨Nat.zero_le _, beq_eq_false_iff_ne.mpr (Ne.symm (Nat.ne_of_lt hb)), [], .nil, _, #[], 0, Heap.get?_push_size _ rfl, ⟨rfl, rfl, rfl⟩, rfl, rfl, List.nodup_nil⟩
noncomputable def tDNewK : TE := fun _ H Q => ∀ p, H p = none → Q (.ref p) (upd H p (.dK []))
noncomputable def tDNewT : TE := fun _ H Q => ∀ p, H p = none → Q (.ref p) (upd H p (.dT []))
section
variable {X : Cx} {pos : Pos}
theorem pe_dnewK : PE X (.Dict [] [] pos) tDNewK := fun pins s σ H Q I h =>
  wpAny_Dict_empty ⟨.ref s.heap.objs.size, _, I.laid (a := s.heap.objs.size) (o := .dK []) (t' := s.toks) (fun _ _ q => Heap.get?_push_of_some _ q) (Nat.le_refl _) (dk_empty s.heap I.big), rfl, h _ (I.hok.fresh (Nat.le_refl _))⟩
theorem pe_dnewT : PE X (.Dict [] [] pos) tDNewT := fun pins s σ H Q I h =>
  wpAny_Dict_empty ⟨.ref s.heap.objs.size, _, I.laid (a := s.heap.objs.size) (o := .dT []) (t' := s.toks) (fun _ _ q => Heap.get?_push_of_some _ q) (Nat.le_refl _) (dt_empty s.heap I.big), rfl, h _ (I.hok.fresh (Nat.le_refl _))⟩
end
section
variable {X : Cx} {pins : List (Addr × Obj)} {σ : St} {H : Hp} {s : Shared} {a : Addr} {y d : V} {u r : Value} {o : Option V} {A : Around} {E : Value → Shared → Prop}
end
section
variable {X : Cx} {o e f : Expr} {apos cpos : Pos} {td ty tx : TE}
end
section
variable {X : Cx} {pins : List (Addr × Obj)} {σ : St} {H : Hp} {s : Shared} {a : Addr} {kvs : List (Key × V)} {A : Around} {E : Value → Shared → Prop}
end
section
variable {X : Cx} {pins : List (Addr × Obj)} {σ : St} {H : Hp} {s : Shared} {a : Addr} {y : V} {u : Value} {A : Around} {E : Value → Shared → Prop}
end
end L2
namespace Att
open PySem PySem.W PySem.Calls PyProof.Rows
theorem ints_of_wellAll {P : Params} {h : Heap} : ∀ (ns : List Int) (vs : List Value), WellAll P h vs (ns.map WData.int) → IntsAre vs ns := by
  intro ns
  induction ns with
  | nil =>
    intro vs w
    rw [List.map_nil] at w
    cases w
    exact .nil
  | cons n ns ih =>
    intro vs w
    rw [List.map_cons] at w
    cases w with
    | cons a b =>
      cases a
      exact .cons _ _ (ih _ b)
theorem script_of {l : OpenLaw} {n : Nat} (hn : l.most = some n) {P : Params} {h : Heap} {args : List WData} {vals : List Value}
    (hpre : l.row.toRowW.claim.pre args = true) (hwl : WellAll P h vals args) :
    ∃ a vs ns, vals = [Value.ref a] ∧ args = [WData.list (ns.map WData.int)] ∧ h.get? a = some { cls := .type "list", data := .seq vs.toArray } ∧ IntsAre vs ns ∧ ns.length ≤ n := by
  have hsh : WShape.hasAll [] args [.list .int] = true := (pre_splitW hpre).1
  have hc : l.pre.holds [] { args := args } = true := (pre_splitW hpre).2
  obtain ⟨d, r, rfl, h1, h2⟩ := hasAllW_cons hsh
  obtain rfl := hasAllW_nil h2
  obtain ⟨xs, rfl, h3⟩ := hasW_list h1
  obtain ⟨ns, rfl⟩ := items_int h3
  have hlen : ns.length ≤ n := by
    unfold OpenLaw.pre at hc
    have h4 : (WTm.not (.lt (.lit (.int (n : Int))) (.len (.arg 0)))).holds [] { args := [.list (ns.map .int)] } = true := by
      have h4 := (holds_andW hc).1
      rw [hn] at h4
      exact h4
    have h5 := condW_of h4 (w_not (w_lt w_lit (w_len_list (w_arg rfl))))
    rw [List.length_map] at h5
    refine Nat.le_of_not_lt fun q => ?_
    have q' : (n : Int) < ((ns.length : Nat) : Int) := by omega
    first
      | (rw [decide_eq_true q'] at h5; exact absurd h5 (by decide))
      | (simp at h5; omega)
  cases hwl with
  | cons w1 w2 =>
    cases w2
    cases w1 with
    | list ho hall => exact ⟨_, _, ns, rfl, rfl, ho, ints_of_wellAll ns _ hall, hlen⟩
theorem post_true (l : OpenLaw) (args : List WData) : l.row.toRowW.claim.post args (.bool true) args = true :=
  postW_of (r := l.row.toRowW) (X := (true == true))
    (show WShape.has [] (.bool true) .bool = true by first | rfl | decide | simp [WShape.has, WShape.arms, WShape.armsAll])
    (show (WTm.eq .res (.lit (.bool true))).value [] { args := args, res := some (.bool true), after := args } = some (.bool (true == true)) from w_eq_bool (w_res rfl) w_lit) rfl
theorem attach_call {l : OpenLaw} {n : Nat} {q : Program} {loose : List Str} {XP : (Str → Option Value) → Heap → Prop} {YP : World → Heap → Prop} {d : DefRec}
    (hn : l.most = some n) (hdf : d.params.defaults = [])
    (call : ∀ (w : World) (s₀ s₁ : Shared) (mg mb : Str → Option Value) (fa : Addr) (o : Obj) (pm cd doc : Value) (a : Addr) (vs : List Value) (ns : List Int),
      Ground q loose [] XP w s₀ mg mb s₁.heap → YP w s₁.heap →
      s₁.heap.get? fa = some o → o.data = .func (docDef d.name d.params d.body d.scope pm cd doc) → s₁.heap.CodeRec cd d.name → mg d.name = some (.ref fa) →
      s₁.heap.get? a = some { cls := .type "list", data := .seq vs.toArray } → IntsAre vs ns → ns.length ≤ n → s₁.gens = #[] →
      codeAny (model l.prog w) callerA (.call (.ref fa) ⟨[.ref a], []⟩) (fun r s' => r = .ok (.ret (.bool true)) ∧ OldK s₁.heap s'.heap ∧ s'.os = s₁.os ∧ AllBare s'.gens) s₁) :
    WalkO q loose XP YP l.row.toRowW d [] (fun f vs => PySem.call f vs) := by
  intro w s₀ s₁ mg mb G Y fa o pm cd doc dV kV ho hd hcd hD hmg hg args vals as hpre hlay hrd hwl hlo
  obtain rfl : dV = .none := Dflts.none hD hdf
  obtain rfl : kV = .none := Dflts.noKw hD
  obtain ⟨a, vs, ns, rfl, rfl, hobj, hints, hlen⟩ := script_of hn hpre hwl
  refine enter_call (codeAny_mono (call w s₀ s₁ mg mb fa o pm cd doc a vs ns G Y ho (fd_plain hd) hcd hmg hobj hints hlen hg) fun r s' hq => ?_)
  obtain ⟨rfl, h2, h3, h4⟩ := hq
  exact ⟨.inl ⟨.bool true, .bool true, [], rfl, fun _ => rfl, .bool true, post_true l _, fun _ => ⟨List.Pairwise.nil, fun _ hm => (nomatch hm)⟩⟩, h2, h3, h4⟩
section
variable {prog : Program} {w : World} {A : Around} {E : Value → Shared → Prop} {s : Shared} {K : Frag}
end
end Att
namespace L2
open PySem PySem.Spec PyProof.Rows
theorem vals_ints : ∀ {vs : List Value} {ns : List Int}, IntsAre vs ns → Vals (ns.map V.int) vs
  | _, _, .nil => .nil
  | _, _, .cons n t h => .cons ⟨t, rfl⟩ (vals_ints h)
noncomputable def Only (H : Hp) : Prop := ∀ b, H b = none ∨ ∃ o xs, H b = some (.frz o (.lst xs))
theorem law_call {P : Program} {w : World} {K : PySem.W.Frag} {mg mb : Str → Option Value} {CX : CXT} {k : Nat} {fa a : Addr} {fd : FuncData} {x : Str} {sp : Sp} {s₁ : Shared} {vs : List Value} {ns : List Int}
    (KX : K.In s₁.heap) (hns : s₁.heap.Ns mainGlobals mg) (hb : s₁.heap.Ns builtinsNs mb) (hbb : ∀ x : Str, x ≠ "__name__" → mb x = bootBuiltins x) (hlim : s₁.heap.NoLimit) (hg : s₁.gens = #[])
    (ha : s₁.heap.get? a = some { cls := .type "list", data := .seq vs.toArray }) (hi : IntsAre vs ns) (hl : ns.length ≤ sizeLine) (hr : Room k callerA)
    (F : ∀ base : Heap, K.In base → base.Ns mainGlobals mg → FnOk P w K mg base CX k fa fd [x] sp) (hbind : ∀ (s : Shared) (u : Value), BindsTo s fd ⟨[u], []⟩ [(x, u)])
    (hsp : ∀ H : Hp, Only H → SqL K H a (ns.map V.int) → sp [.ref a] H (fun v _ => v = .bl true) fun _ _ _ => False)
    (hCX : ∀ H e s', CX [] H s₁ (fun _ _ _ => False) e s' → False) :
    codeAny (model P w) callerA (.call (.ref fa) ⟨[.ref a], []⟩) (fun r s' => r = .ok (.ret (.bool true)) ∧ OldK s₁.heap s'.heap ∧ s'.os = s₁.os ∧ AllBare s'.gens) s₁ := by
  have rv := vals_ints hi
  have lenV := hi.length
  -- from an abstract heap in which nothing but the script may be tracked
  have core : ∀ H : Hp, Only H → SqL K H a (ns.map V.int) → HOk P w H s₁.heap → (∀ b, H b ≠ none → b = a) → (H a ≠ none → K.lookup a = none) →
      codeAny (model P w) callerA (.call (.ref fa) ⟨[.ref a], []⟩) (fun r s' => r = .ok (.ret (.bool true)) ∧ OldK s₁.heap s'.heap ∧ s'.os = s₁.os ∧ AllBare s'.gens) s₁ := by
    intro H hO hS hok hA hK
    have base_of : ∀ {b : Addr} {o : Obj}, s₁.heap.get? b = some o → H b = none → (hidT s₁.heap H).get? b = some o := fun e n => hidT_get e n
    have noA : ∀ {b : Addr} {o : Obj} {es : Array DictEntry} {ep : Nat}, s₁.heap.get? b = some o → o.data = .dict es ep → H b = none := fun {b o es ep} e d => by
      cases q : H b with
      | none => rfl
      | some u =>
        have e' : b = a := hA b (by rw [q]; simp)
        subst e'
        rw [ha] at e; cases e
        have d' : Data.seq vs.toArray _ = Data.dict es ep := d
        cases d'
    have nsK : ∀ {b : Addr} {m : Str → Option Value}, s₁.heap.Ns b m → (hidT s₁.heap H).Ns b m := fun {b m} ⟨o, es, ep, e, d, r⟩ => ⟨o, es, ep, base_of e (noA e d), d, r⟩
    have hKb : K.In (hidT s₁.heap H) := fun b o e => base_of (KX b o e) (by
      cases q : H b with
      | none => rfl
      | some u =>
        have e' : b = a := hA b (by rw [q]; simp)
        subst e'
        rw [hK (by rw [q]; simp)] at e; cases e)
    have hM : Mod K mg (hidT s₁.heap H) := ⟨hKb, nsK hns, ⟨mb, nsK hb, hbb⟩, let ⟨mc, h1, h2⟩ := hlim; ⟨mc, nsK h1, h2⟩⟩
    have e0 : Env0 P w K mg (hidT s₁.heap H) callerA [] s₁ H := ⟨rfl, hM, fun b o e => of_hidT e, Nat.le_of_eq (hidT_size _ _), trivial, fun b hb => absurd (show b ∈ ([] : List Addr) from hb) (by simp), hok, .of_eq hg⟩
    refine codeAny_mono ((F _ hKb (nsK hns)).run callerA [] s₁ H ⟨[.ref a], []⟩ [.ref a] [.ref a] _ _ hr e0 (hbind s₁ (.ref a)) (.cons rfl .nil) (hsp H hO hS)) fun r s' h => ?_
    cases r with
    | error e => exact (hCX H e s' h).elim
    | ok fl =>
      cases fl with
      | next => exact False.elim h
      | brk => exact False.elim h
      | cont => exact False.elim h
      | ret u =>
        obtain ⟨v, H', os, bare, un, hok', r', q⟩ := h
        have q' : v = .bl true := q
        subst q'
        obtain rfl : u = Value.bool true := r'
        refine ⟨rfl, OldK.of_keep fun b o e => ?_, os, bare⟩
        cases q : H b with
        | none => exact un.keep b o e q (by intro z; exact absurd (show b ∈ ([] : List Addr) from z) (by simp)) (by simp)
        | some u =>
          rcases hO b with z | ⟨ob, xs, z⟩
          · rw [q] at z; cases z
          · have z2 := un.frzs b ob _ z
            obtain ⟨e1, _⟩ := hok b _ z
            obtain ⟨e2, _⟩ := hok' b _ z2
            rw [e] at e1; cases e1
            exact e2
  cases hk : K.lookup a with
  | some o =>
    -- the script is one of the module's own objects
    have e := KX a o hk
    rw [ha] at e
    cases e
    refine core (fun _ => none) (fun _ => .inl rfl) (.inr ⟨_, vs.toArray, _, hk, rfl, rfl, rfl, by rw [List.size_toArray, lenV]; exact hl, by simpa using rv⟩) (fun b u z => by have z' : (none : Option HO) = some u := z; cases z') (fun b z => absurd rfl z) fun z => absurd rfl z
  | none =>
    refine core (fun b => if b = a then some (.frz { cls := .type "list", data := .seq vs.toArray } (.lst (ns.map V.int))) else none) (fun b => ?_) (.inl (.inr ⟨{ cls := .type "list", data := .seq vs.toArray }, if_pos rfl⟩)) (fun b u z => ?_) (fun b z => ?_) fun _ => hk
    · by_cases hb : b = a
      · exact .inr ⟨_, _, if_pos hb⟩
      · exact .inl (if_neg hb)
    · by_cases hb : b = a
      · have z' := (if_pos hb).symm.trans z
        cases z'
        subst hb
        exact ⟨ha, by rw [List.length_map]; exact hl, vs, _, rv, ha⟩
      · have z' := (if_neg hb).symm.trans z
        cases z'
    · by_cases hb : b = a
      · exact hb
      · exact absurd (if_neg hb) z
end L2
namespace L2
open PySem PySem.Spec PyProof.Rows
theorem walk_of {l : PySem.W.OpenLaw} {n k : Nat} {q : Program} {loose : List Str} {XP : (Str → Option Value) → Heap → Prop} {YP : World → Heap → Prop} {d : DefRec} {K : Params → PySem.W.Frag} {CX : World → CXT} {sp : World → Sp} {x : Str}
    (hn : l.most = some n) (hn2 : n ≤ sizeLine) (hdf : d.params.defaults = []) (hr : Room k callerA)
    (hY : ∀ (w : World) (h : Heap), YP w h → (K w.params).In h)
    (F : ∀ (w : World) (mg : Str → Option Value) (fa : Addr) (h : Heap), (K w.params).In h → h.Ns mainGlobals mg → mg d.name = some (.ref fa) →
      ∃ fd : FuncData, (∀ (s : Shared) (u : Value), BindsTo s fd ⟨[u], []⟩ [(x, u)]) ∧
        ∀ base : Heap, (K w.params).In base → base.Ns mainGlobals mg → FnOk l.prog w (K w.params) mg base (CX w) k fa fd [x] (sp w))
    (hsp : ∀ (w : World) (H : Hp) (a : Addr) (ns : List Int), ns.length ≤ n → Only H → SqL (K w.params) H a (ns.map V.int) → sp w [.ref a] H (fun v _ => v = .bl true) fun _ _ _ => False)
    (hCX : ∀ (w : World) (H : Hp) (s : Shared) (e : Value) (s' : Shared), CX w [] H s (fun _ _ _ => False) e s' → False) :
    PySem.W.WalkO q loose XP YP l.row.toRowW d [] (fun f vs => PySem.call f vs) := by
  refine Att.attach_call hn hdf fun w s₀ s₁ mg mb fa o pm cd doc a vs ns G Y ho hd hcd hmg hobj hints hlen hg => ?_
  have KX := hY w _ Y
  obtain ⟨fd, hb, hF⟩ := F w mg fa _ KX G.T.g hmg
  exact law_call KX G.T.g G.T.b G.T.builtins G.T.nolimit hg hobj hints (Nat.le_trans hlen hn2) hr hF hb (fun H hO hS => hsp w H a ns hlen hO hS) fun H e s' => hCX w H s₁ e s'
end L2
namespace L2
open PySem PySem.Spec PyProof.Rows
noncomputable def inClass (s : Stmt) (j : Nat) : Stmt := match s with
  | .ClassDef _ _ _ body _ _ _ _ _ _ _ => body.getD j (.Pass ⟨0, 0, 0, 0⟩)
  | _ => .Pass ⟨0, 0, 0, 0⟩
noncomputable def defArgs (s : Stmt) : Arguments := match s with
  | .FunctionDef _ a _ _ _ _ _ _ _ _ => a
  | _ => { posonlyargs := [], args := [], vararg := none, kwonlyargs := [], kw_defaults := [], kwarg := none, defaults := [] }
noncomputable def defBody (s : Stmt) : List Stmt := match s with
  | .FunctionDef _ _ b _ _ _ _ _ _ _ => b
  | _ => []
noncomputable def defScope (s : Stmt) : Scope := match s with
  | .FunctionDef _ _ _ _ _ _ sc _ _ _ => sc
  | _ => { kind := .function, names := [], isGenerator := false, isCoroutine := false }
noncomputable abbrev CX0 : CXT := fun _ _ _ _ _ _ => False
noncomputable abbrev E0 : XK := fun _ _ _ => False
theorem pass0 {X : Cx} : Passes CX0 X E0 := fun _ _ _ _ _ _ _ h => h.elim
structure Fun (K : PySem.W.Frag) (x qual : Str) (st : Stmt) (f : Addr) (fd : FuncData) : Prop where
  ex : ∃ (oc : Value) (od : Option Addr) (kV doc pm : Value) (an : Option Addr) (cdv ct : Value) (osl : Array (Option Value)),
    fd = PySem.W.fnOf x qual (defArgs st) (defBody st) (defScope st) .none kV doc pm an cdv ct ∧ K.lookup f = some ⟨oc, od, .func fd, osl⟩ ∧ PySem.W.codeIn K cdv qual = true
  kp : PySem.W.keepIn K (.ref f) = true
section
variable {P : Program} {w : World} {K : PySem.W.Frag} {mg : Str → Option Value} {base : Heap}
theorem Fun.ok {x qual : Str} {st : Stmt} {f : Addr} {fd : FuncData} {N ps : List Str} {k : Nat} {sp : Sp} (F : Fun K x qual st f fd) (S : FnScope N ps (defScope st)) (len : ∀ vs H Q E, sp vs H Q E → vs.length = ps.length)
    (hbody : ∀ (cdv : Value) (A : Around) (outer : List Env) (s : Shared) (H : Hp) (vs : List V) (Q : VK) (E : XK), Room k (A.deeper (envOfC qual (defScope st) s.heap.objs.size f cdv)) → sp vs H Q E →
      ∃ t, PSs (cxOf CX0 P w K mg base N qual (defScope st) f cdv A outer s H E).nox (defBody st) t ∧ t { nx := fun _ H' => Q .non H', rt := Q } (start N vs) H) : FnOk P w K mg base CX0 (k + 1) f fd ps sp := by
  obtain ⟨oc, od, kV, doc, pm, an, cdv, ct, osl, rfl, lk, hcd⟩ := F.ex
  refine fn_of lk hcd S len fun A outer s H vs Q E hr hsp => ?_
  obtain ⟨t, h, q⟩ := hbody cdv A outer s H vs Q E hr hsp
  exact ⟨t, h.nox, q⟩
theorem Fun.binds {x qual : Str} {st : Stmt} {f : Addr} {fd : FuncData} {ps : List Str} (F : Fun K x qual st f fd)
    (h : ∀ (kV doc pm : Value) (an : Option Addr) (cdv ct : Value) (us : List Value), us.length = ps.length → bindArgs (PySem.W.fnOf x qual (defArgs st) (defBody st) (defScope st) .none kV doc pm an cdv ct) ⟨us, []⟩ = pure (ps.zip us)) : Binds K fd ps [] := by
  obtain ⟨oc, od, kV, doc, pm, an, cdv, ct, osl, rfl, lk, hcd⟩ := F.ex
  exact .all (h kV doc pm an cdv ct)
theorem fun_mk {x qual : Str} {st : Stmt} {f : Addr} {oc : Value} {od an : Option Addr} {osl : Array (Option Value)} {kV doc pm cdv ct : Value} (l : K.lookup f = some ⟨oc, od, .func (PySem.W.fnOf x qual (defArgs st) (defBody st) (defScope st) .none kV doc pm an cdv ct), osl⟩)
    (c : PySem.W.codeIn K cdv qual = true) (k : PySem.W.keepIn K (.ref f) = true) : Fun K x qual st f (PySem.W.fnOf x qual (defArgs st) (defBody st) (defScope st) .none kV doc pm an cdv ct) := ⟨⟨oc, od, kV, doc, pm, an, cdv, ct, osl, rfl, l, c⟩, k⟩
end
section
variable {X : Cx}
theorem pv (i : Nat) {x : Str} {pos : Pos} (hN : X.N[i]? = some x := by rfl) (hv : Vis X.env.scope x := by first | exact Or.inl rfl | exact Or.inr (Or.inl rfl) | exact Or.inr (Or.inr rfl)) (hd : (x == ("__debug__" : Str)) = false := by decide)
    (hcd : (x == ("__classdict__" : Str)) = false := by decide) : PE X (.Name x pos) (tVar i) := pe_var hN hv hd hcd
end
noncomputable def Same (H H' : Hp) : Prop := ∀ b o, H b = some o → H' b = some o
theorem Same.trans {H H1 H2 : Hp} (a : Same H H1) (b : Same H1 H2) : Same H H2 := fun c o h => b c o (a c o h)
theorem Same.free {H H' : Hp} (e : Same H H') {l : Addr} (h : H' l = Option.none) : H l = Option.none := by
  cases q : H l with
  | none => rfl
  | some o =>
    rw [e l o q] at h
    cases h
end L2
namespace L2
open PySem PySem.Spec PyProof.Rows
section
variable {X : Cx}
end
section
variable {κ : Type} [DecidableEq κ]
end
end L2
set_option Elab.async false
set_option linter.all false
set_option maxRecDepth 100000
namespace L2
open PySem PySem.Spec PyProof.Rows
end L2
set_option Elab.async false
set_option linter.all false
set_option maxRecDepth 100000
set_option autoImplicit false
namespace L2
open PySem PySem.Spec PyProof.Rows
section
variable {X : Cx} {pins : List (Addr × Obj)} {σ : St} {H H' : Hp} {s s' : Shared} {a : Addr} {C a0 : Value} {B : Heap}
end
end L2
set_option Elab.async false
set_option linter.all false
set_option maxRecDepth 100000
set_option autoImplicit false
namespace L2
open PySem PySem.Spec PyProof.Rows
section
variable {X : Cx} {x : Str} {np cpos pos cp : Pos} {C : Addr} {bmB : List Value} {B newId initId : String} {m : Str} {j : Nat}
end
end L2
set_option Elab.async false
set_option linter.all false
set_option maxRecDepth 100000
set_option autoImplicit false
namespace L2
open PySem PySem.Spec PyProof.Rows
noncomputable abbrev excO (a : Addr) (C : Value) : HO := .ext fun h => ∃ ob, h.get? a = some ob ∧ ob.cls = C
section
variable {X : Cx} {pins : List (Addr × Obj)} {σ : St} {H H' : Hp} {s s' : Shared} {a : Addr} {C a0 : Value} {B : Heap} {h'' : Heap}
end
section
variable {X : Cx} {k : Nat} {f C : Addr} {fd : FuncData} {ps : List Str} {sp : Sp} {E : XK} {x : Str} {p pos : Pos} {e : Expr} {es : List Expr} {t : TA}
end
end L2
set_option Elab.async false
set_option linter.all false
set_option maxRecDepth 100000
set_option autoImplicit false
namespace L2
open PySem PySem.Spec PyProof.Rows
section
variable {X : Cx} {pins : List (Addr × Obj)} {σ : St} {H H' : Hp} {s s' : Shared} {a : Addr}
end
section
variable {X : Cx} {i : Nat} {x n : Str} {W : Addr} {e : Expr} {te : TE} {E : XK} {b₀ : Stmt} {suite : List Stmt} {ts : TS} {pe np hp pos : Pos}
end
end L2
set_option Elab.async false
set_option linter.all false
set_option maxRecDepth 100000
namespace L2
open PySem PySem.Spec PyProof.Rows
noncomputable def closeGo (env : Env) : List (Str × NameKind) → List (Str × Addr) → List (Str × Addr)
  | [], cs => cs
  | (x, k) :: r, cs => closeGo env r (if k == .free then (x, (env.cells.lookup x).getD 0) :: cs else cs)
theorem closureFor_go {env : Env} : ∀ (names : List (Str × NameKind)) (cs : List (Str × Addr)), (∀ p ∈ names, p.2 = .free → ∃ c, env.cells.lookup p.1 = some c) →
   (forIn (m := Sem) names cs fun (x : Str × NameKind) cs => if (x.2 == NameKind.free) = true then do
      let a ← cellOf env x.1
      pure (ForInStep.yield ((x.1, a) :: cs)) else pure (ForInStep.yield cs)) = pure (closeGo env names cs)
  | [], cs, _ => rfl
  | (x, k) :: r, cs, h => by
    rw [List.forIn_cons]
    have ih := closureFor_go (env := env) r
    by_cases hk : k = .free
    · subst hk
      obtain ⟨c, hc⟩ := h (x, .free) List.mem_cons_self rfl
      have e1 : cellOf env x = pure c := by unfold cellOf; rw [hc]
      simp only [beq_self_eq_true, if_true, closeGo, e1, hc, Option.getD_some, pure_bind]
      exact ih _ fun p hp => h p (List.mem_cons_of_mem _ hp)
    · have hb : (k == NameKind.free) = false := by simpa using hk
      simp only [hb, Bool.false_eq_true, if_false, closeGo, pure_bind]
      exact ih _ fun p hp => h p (List.mem_cons_of_mem _ hp)
theorem closureFor_eq {env : Env} {scope : Scope} (h : ∀ p ∈ scope.names, p.2 = .free → ∃ c, env.cells.lookup p.1 = some c) : closureFor scope env = pure (closeGo env scope.names []) := by
  have e := closureFor_go (env := env) scope.names [] h
  unfold closureFor
  refine Eq.trans (b := (forIn (m := Sem) scope.names [] fun (x : Str × NameKind) cs => if (x.2 == NameKind.free) = true then do
      let a ← cellOf env x.1
      pure (ForInStep.yield ((x.1, a) :: cs)) else pure (ForInStep.yield cs)) >>= pure) rfl ?_
  rw [e]
  rfl
theorem closeGo_lookup {env : Env} {x : Str} : ∀ (names : List (Str × NameKind)) (cs : List (Str × Addr)), (∀ p ∈ names, p.2 = .free → ∃ c, env.cells.lookup p.1 = some c) →
    (closeGo env names cs).lookup x = if (x, NameKind.free) ∈ names then env.cells.lookup x else cs.lookup x
  | [], cs, _ => by simp [closeGo]
  | (y, k) :: r, cs, h => by
    rw [closeGo, closeGo_lookup r _ fun p hp => h p (List.mem_cons_of_mem _ hp)]
    by_cases hm : (x, NameKind.free) ∈ r
    · rw [if_pos hm, if_pos (List.mem_cons_of_mem _ hm)]
    · rw [if_neg hm]
      by_cases hk : k = .free
      · subst hk
        obtain ⟨c, hc⟩ := h (y, .free) List.mem_cons_self rfl
        by_cases hx : x = y
        · subst hx
          rw [if_pos List.mem_cons_self]
          simp [List.lookup_cons, hc]
        · have nm : ¬ (x, NameKind.free) ∈ (y, NameKind.free) :: r := fun z => by
            rcases List.mem_cons.mp z with e | e
            · exact hx (by injection e)
            · exact hm e
          rw [if_neg nm]
          have hb : (x == y) = false := by simpa using hx
          simp [List.lookup_cons, hb]
      · have hb : (k == NameKind.free) = false := by simpa using hk
        have nm : ¬ (x, NameKind.free) ∈ (y, k) :: r := fun z => by
          rcases List.mem_cons.mp z with e | e
          · exact hk (by injection e with _ e2; exact e2.symm)
          · exact hm e
        rw [if_neg nm]
        simp [hb]
theorem codeAny_compLoop_go {prog : Program} {w : World} {A : Around} {R : Result → Shared → Prop} {s : Shared} {elt target iter : Expr} {ifs : List Expr} {scope : Scope} {pos : Pos} {it acc : Value} {env : Env} (I : Nat → Shared → Prop)
    (turn : ∀ n s, I n s → wpAny (model prog w) A (pyNext it) (fun r s₁ => match r with
      | none => R (.ok .next) s₁
      | some v => wpAny (model prog w) A (letOwnedTupleGo target it v) (fun _ s₁' => wpAny (model prog w) A (assign target env v) (fun _ s₂ =>
          wpAny (model prog w) A (forIn ifs true fun c r => if r = true then do let ok ← isTrue c env (eval c env); pure (ForInStep.yield ok) else pure (ForInStep.yield r)) (fun ok s₃ =>
            if ok = true then wpAny (model prog w) A (eval elt env) (fun x s₄ =>
              wpAny (model prog w) A (call (.builtin "list.append") [acc, x]) (fun _ s₅ => ∃ m, m < n ∧ I m s₅) (notedBy (model prog w) A env fun e s' => R (.error e) s') s₄) (notedBy (model prog w) A env fun e s' => R (.error e) s') s₃
            else ∃ m, m < n ∧ I m s₃) (notedBy (model prog w) A env fun e s' => R (.error e) s') s₂) (notedBy (model prog w) A env fun e s' => R (.error e) s') s₁') (notedBy (model prog w) A env fun e s' => R (.error e) s') s₁) (notedBy (model prog w) A env fun e s' => R (.error e) s') s)
    (n : Nat) (h : I n s) : codeAny (model prog w) A (.compLoop (.ListComp elt [⟨target, iter, ifs, 0⟩] scope pos) 0 it acc env) R s := by
  refine codeAny_loop rfl I (fun n s hI => ?_) n h
  show wpAny _ A ((compTurn (.ListComp elt [⟨target, iter, ifs, 0⟩] scope pos) 0 it acc env).onRaise (fun x => do noteFrame x env; theTreesLotGoes x)) _ _ s
  refine wpAny_noted ?_
  rw [compTurn_list]
  refine wpAny_bind (wpAny_standAt (wpAny_bind (wpAny_mono (turn n s hI) (fun r s₁ h₁ => ?_) fun _ _ h' => h')))
  cases r with
  | none => exact wpAny_pure h₁
  | some v =>
    refine wpAny_bind (wpAny_mono h₁ (fun _ s₁' h₁' => ?_) fun _ _ h' => h')
    refine wpAny_bind (wpAny_mono h₁' (fun _ s₂ h₂ => wpAny_bind (wpAny_mono h₂ (fun ok s₃ h₃ => ?_) fun _ _ h' => h')) fun _ _ h' => h')
    cases ok with
    | false => exact wpAny_pure ⟨rfl, h₃⟩
    | true =>
      exact wpAny_bind (wpAny_bind (wpAny_mono h₃ (fun x s₄ h₄ => wpAny_bind (wpAny_mono h₄ (fun _ s₅ h₅ => wpAny_pure (wpAny_pure ⟨rfl, h₅⟩)) fun _ _ h' => h')) fun _ _ h' => h'))
noncomputable abbrev cxB (X : Cx) (scope : Scope) (N : List Str) (cl : List (Str × Addr)) (C : Addr) (s : Shared) (H : Hp) (fp : List Addr) : Cx where
  prog := X.prog
  w := X.w
  K := X.K
  mg := X.mg
  base := X.base
  A := X.A
  N := N
  s₀ := s
  H₀ := H
  env := compEnvC scope cl C X.env
  outer := X.stack
  stack := X.stack
  ex := fp
  calm := X.calm
  fn := fun _ => false
  pn := []
  xe := fun _ _ => False
noncomputable def blkS (nl : Nat) (caps : List Nat) (σ : St) : St := List.replicate nl none ++ caps.map fun j => σ.getD j none
noncomputable def isCF : Option NameKind → Bool
  | some .cell => true
  | some .free => true
  | _ => false
structure CompSc (sc : Scope) (XN : List Str) (scope : Scope) (N : List Str) (nl : Nat) (caps : List Nat) : Prop where
  kind : scope.kind = .function
  nocell : ∀ x ∈ scope.names, x.2 ≠ .cell
  locs : ∀ x ∈ scope.names, x.2 = .local → scope.names.lookup x.1 = some .local
  free : ∀ x ∈ scope.names, x.2 = .free → isCF (sc.names.lookup x.1) = true
  len : N.length = nl + caps.length
  cap : ∀ k j, caps[k]? = some j → ∃ x, XN[j]? = some x ∧ N[nl + k]? = some x ∧ scope.names.lookup x = some .free ∧ isCF (sc.names.lookup x) = true
noncomputable def compScB (sc : Scope) (XN : List Str) (scope : Scope) (N : List Str) (nl : Nat) (caps : List Nat) : Bool :=
  (scope.kind == .function) && scope.names.all (fun x => x.2 != .cell && (x.2 != .local || scope.names.lookup x.1 == some .local) && (x.2 != .free || isCF (sc.names.lookup x.1))) &&
  (N.length == nl + caps.length) && (caps.zipIdx.all fun jk => match XN[jk.1]? with
    | none => false
    | some x => N[nl + jk.2]? == some x && scope.names.lookup x == some .free && isCF (sc.names.lookup x))
theorem CompSc.of {sc : Scope} {XN : List Str} {scope : Scope} {N : List Str} {nl : Nat} {caps : List Nat} (h : compScB sc XN scope N nl caps = true) : CompSc sc XN scope N nl caps := by
  unfold compScB at h
  rw [Bool.and_eq_true, Bool.and_eq_true, Bool.and_eq_true] at h
  obtain ⟨⟨⟨h1, h2⟩, h3⟩, h4⟩ := h
  rw [List.all_eq_true] at h2 h4
  refine ⟨eq_of_beq h1, fun x hx => ?_, fun x hx e => ?_, fun x hx e => ?_, eq_of_beq h3, fun k j e => ?_⟩
  · have := h2 x hx
    rw [Bool.and_eq_true, Bool.and_eq_true] at this
    simpa using this.1.1
  · have := h2 x hx
    rw [Bool.and_eq_true, Bool.and_eq_true] at this
    have q := this.1.2
    rw [e] at q
    simpa using q
  · have := h2 x hx
    rw [Bool.and_eq_true, Bool.and_eq_true] at this
    have q := this.2
    rw [e] at q
    simpa using q
  · have m : (j, k) ∈ caps.zipIdx := by
      rw [List.mem_zipIdx_iff_getElem?]
      exact e
    have q := h4 _ m
    dsimp only at q
    split at q
    · cases q
    · rename_i x ex
      rw [Bool.and_eq_true, Bool.and_eq_true] at q
      exact ⟨x, ex, eq_of_beq q.1.1, eq_of_beq q.1.2, q.2⟩
theorem relabel_mem {scope : Scope} {env : Env} {x : Str} {k : NameKind} (h : (relabel scope env).names.lookup x = some k) : (x, k) ∈ scope.names ∨ (k = .cell ∧ (x, NameKind.free) ∈ scope.names) := by
  have m := PySem.mem_of_lookup h
  obtain ⟨⟨y, q⟩, hy, e⟩ := List.mem_map.mp m
  dsimp only at e
  split at e
  · rename_i hc
    injection e with e1 e2
    subst e1
    have hf : q = .free := by
      rw [Bool.and_eq_true, Bool.and_eq_true] at hc
      exact eq_of_beq hc.1.1
    subst hf
    exact .inr ⟨e2.symm, hy⟩
  · injection e with e1 e2
    subst e1; subst e2
    exact .inl hy
noncomputable def tComp (wi : TI) (g : TG) (tc : TT) (te : TE) (nl : Nat) (caps : List Nat) : TE := fun σ H Q =>
  wi σ H fun J H1 => ∀ acc, H1 acc = none → ∃ W : Nat → Nat → St → Hp → Prop, (∃ m, W 0 m (blkS nl caps σ) (upd H1 acc (.lst []))) ∧
    ∀ i m σ' H', W i m σ' H' → (J.stop i H' ∧ Q (.ref acc) H') ∨
      (J.go i H' ∧ ∀ x H2, J.yld i H' x H2 → g x σ' H2 fun σ2 H3 => tc σ2 H3 fun b H4 =>
        if b = true then te σ2 H4 fun y H5 => ∃ ys, H5 acc = some (.lst ys) ∧ ys.length < sizeLine ∧ ∃ m', m' < m ∧ W (i + 1) m' σ2 (upd H5 acc (.lst (ys ++ [y])))
        else ∃ m', m' < m ∧ W (i + 1) m' σ2 H4)
section
variable {X : Cx} {elt target iter : Expr} {ifs : List Expr} {scope : Scope} {pos : Pos} {N : List Str} {nl : Nat} {caps : List Nat} {wi : TI} {g : TG} {tc : TT} {te : TE}
noncomputable def PTs (X : Cx) (ifs : List Expr) (t : TT) : Prop :=
  ∀ (pins : List (Addr × Obj)) (s : Shared) (σ : St) (H : Hp) (Q : Bool → Hp → Prop), Inv X pins σ H s → t σ H Q →
    wpAny (model X.prog X.w) X.A (forIn ifs true fun c r => if r = true then do let ok ← isTrue c X.env (eval c X.env); pure (ForInStep.yield ok) else pure (ForInStep.yield r)) (TP X pins σ Q) X.xe s
noncomputable def tYes : TT := fun _ H Q => Q true H
theorem pts_nil : PTs X [] tYes := fun _ _ _ H _ I h => wpAny_tests_nil ⟨H, I, h⟩
theorem inv_block {pins : List (Addr × Obj)} {σ : St} {H : Hp} {s s4 : Shared} {cl : List (Str × Addr)} {fp : List Addr} (S : CompSc X.env.scope X.N scope N nl caps) (I : Inv X pins σ H s)
    (hcl : ∀ x, cl.lookup x = if (x, NameKind.free) ∈ scope.names then X.env.cells.lookup x else none)
    (hf : ∀ b ∈ fp, FpOk X pins H b) (hlt : ∀ b ∈ fp, b < s.heap.objs.size) (hos : s4.os = s.os) (hg : s4.gens = s.gens) (hn : ∃ m, s4.heap.Ns s.heap.objs.size m) (hk : ∀ b o, s.heap.get? b = some o → s4.heap.get? b = some o) :
    Inv (cxB X scope N cl s.heap.objs.size s H fp) [] (blkS nl caps σ) H s4 := by
  have clX : ∀ x c, cl.lookup x = some c → X.env.cells.lookup x = some c := fun x c e => by
    rw [hcl] at e
    split at e
    · exact e
    · cases e
  refine ⟨⟨I.ok.mod, ?_, I.ok.glob, I.ok.blt, Nat.le_refl _, fun x y c h1 h2 => I.ok.inj x y c (clX x c h1) (clX y c h2), fun x hx => ?_, fun x c z => ?_, I.ok.hd, I.ok.frames, .inl rfl, fun b hb => ⟨Nat.ne_of_lt (hlt b hb), fun x c e => (hf b hb).2.2.2.2.1 x c (clX x c e)⟩, I.bs, Nat.le_trans I.ok.bsz I.sz, fun b o e hb => ?_, fun b hb hs => ?_, I.stack, I.stkFree⟩,
    hos, ?_, Un.kept hk, ?_, fun x c e => ?_, I.hok.fresh (Nat.le_refl _), fun x c e => I.freeC x c (clX x c e), fun p hp => absurd (show p ∈ ([] : List (Addr × Obj)) from hp) (by simp), I.hok.kept hk, ?_⟩
  · show (relabel scope X.env).kind = .function
    exact S.kind
  · have hx : (relabel scope X.env).names.lookup x = some .cell ∨ (relabel scope X.env).names.lookup x = some .free := hx
    have hm : (x, NameKind.free) ∈ scope.names := by
      rcases hx with h | h
      · rcases relabel_mem h with m | ⟨_, m⟩
        · exact absurd rfl (S.nocell _ m)
        · exact m
      · rcases relabel_mem h with m | ⟨e, _⟩
        · exact m
        · cases e
    have hq := S.free _ hm rfl
    have hc : ∃ c, X.env.cells.lookup x = some c := by
      apply I.ok.has x
      show X.env.scope.names.lookup x = some .cell ∨ X.env.scope.names.lookup x = some .free
      cases e : X.env.scope.names.lookup x with
      | none => rw [e] at hq; cases hq
      | some k =>
        rw [e] at hq
        cases k <;> first
          | exact .inl rfl
          | exact .inr rfl
          | cases hq
    obtain ⟨c, e⟩ := hc
    exact ⟨c, by show cl.lookup x = some c; rw [hcl, if_pos hm]; exact e⟩
  · cases z
  · rcases (hf b hb).2.2.2.1 with z | z
    · exact I.ok.noex b o e z
    · exact absurd (Nat.lt_of_lt_of_le (Heap.lt_size (I.ok.bs b o e).1) z) (Nat.lt_irrefl _)
  · rcases List.mem_cons.mp (I.stkSub b hs) with z | z
    · exact (hf b hb).2.1 z
    · exact (hf b hb).2.2.1 z
  · rw [hg]; exact I.bare
  · obtain ⟨m, hn⟩ := hn
    refine ⟨m, hn, fun i x v h1 h2 h3 => ?_⟩
    have hN : N[i]? = some x := h1
    unfold blkS at h2
    by_cases hi : i < nl
    · rw [List.getElem?_append_left (by simpa using hi), List.getElem?_replicate, if_pos hi] at h2
      cases h2
    · rw [List.getElem?_append_right (by simpa using hi), List.length_replicate, List.getElem?_map] at h2
      cases e : caps[i - nl]? with
      | none => rw [e] at h2; cases h2
      | some j =>
        rw [e] at h2
        have h2 : σ.getD j none = some v := Option.some.inj h2
        obtain ⟨y, e1, e2, e3', e5⟩ := S.cap _ _ e
        have e3 : (y, NameKind.free) ∈ scope.names := PySem.mem_of_lookup e3'
        have e4 : Vis X.env.scope y := by
          cases q : X.env.scope.names.lookup y with
          | none => rw [q] at e5; cases e5
          | some k =>
            rw [q] at e5
            cases k <;> first
              | exact .inr (.inl q)
              | exact .inr (.inr q)
              | cases e5
        have ei : nl + (i - nl) = i := by omega
        rw [ei, hN] at e2
        cases e2
        have hs : σ[j]? = some (some v) := by
          rw [List.getD_eq_getElem?_getD] at h2
          cases q : σ[j]? with
          | none => rw [q] at h2; cases h2
          | some o => rw [q] at h2; exact congrArg some h2
        obtain ⟨m0, _, hl⟩ := I.loc
        obtain ⟨u, r, l⟩ := hl j x v e1 hs e4
        refine ⟨u, r, .inr ⟨?_, ?_⟩⟩
        · show (relabel scope X.env).names.lookup x = some .cell ∨ (relabel scope X.env).names.lookup x = some .free
          rcases h3 with h3 | h3 | h3
          · have h3 : (relabel scope X.env).names.lookup x = some .local := h3
            rcases relabel_mem h3 with z | ⟨z, _⟩
            · have z2 : scope.names.lookup x = some .local := S.locs _ z rfl
              rw [z2] at e3'; cases e3'
            · cases z
          · exact .inl h3
          · exact .inr h3
        · have hq : X.env.scope.names.lookup x ≠ some .local := fun z => by rw [z] at e5; cases e5
          rcases l with ⟨z, _⟩ | ⟨_, c, z1, z2⟩
          · exact absurd z hq
          · refine ⟨c, ?_, z2.keeps hk⟩
            show cl.lookup x = some c
            rw [hcl, if_pos e3]; exact z1
  · obtain ⟨v, z⟩ := I.cell x c (clX x c e)
    exact ⟨v, z.keeps hk⟩
  · show (blkS nl caps σ).length = N.length
    unfold blkS
    rw [List.length_append, List.length_replicate, List.length_map, S.len]
theorem inv_unblock {pins : List (Addr × Obj)} {σ σ' : St} {H H' : Hp} {s s' : Shared} {cl : List (Str × Addr)} {fp : List Addr} {h' : Heap} (I : Inv X pins σ H s) (hf : ∀ b ∈ fp, FpOk X pins H b)
    (J : Inv (cxB X scope N cl s.heap.objs.size s H fp) [] σ' H' s') (hs : Heap.SameBut s.heap.objs.size s'.heap h') : Inv X pins σ H' { s' with heap := h' } := by
  have ne : ∀ b o, s.heap.get? b = some o → b ≠ s.heap.objs.size := fun b o e => Nat.ne_of_lt (Heap.lt_size e)
  have u : Un (frs X.stack) fp H H' s.heap s'.heap := J.base
  have fr : H' s.heap.objs.size = none := J.free
  refine I.call' (ch := fp) (s' := { s' with heap := h' }) J.os ⟨fun b o e n hb hx => (hs.2 b (ne b o e)).trans (u.keep b o e n hb hx), fun b o e n hb hx => ?_, u.free, fun b o e hx => ?_, u.tups, u.frzs, u.tbls⟩ (fun b o e => ?_) J.bare fun b hb => ?_
  · obtain ⟨sl, q⟩ := u.slot b o e n hb hx
    exact ⟨sl, (hs.2 b (ne b o e)).trans q⟩
  · obtain ⟨o', q⟩ := u.there b o e hx
    exact ⟨o', (hs.2 b (ne b o e)).trans q⟩
  · refine (J.hok b o e).stay (fun c v hc q => (hs.2 c ?_).trans q) (fun _ q => q) fun _ _ q => q
    rintro rfl
    rcases hc with z | z
    · rw [← z, fr] at e; cases e
    · rw [fr] at z; cases z
  · obtain ⟨_, f1, _, f3, f4, f5⟩ := hf b hb
    exact ⟨f3, f1, f4, f5⟩
theorem comp_core {pins : List (Addr × Obj)} {σ : St} {s2 : Shared} {H2 : Hp} {it : Addr} {fp : List Addr} {tn : Nat → Heap → Prop} {J : It} {E : Value → Shared → Prop} {Q : Hp → Prop} {W : Nat → Nat → St → Hp → Prop} {m0 : Nat}
    (S : CompSc X.env.scope X.N scope N nl caps) (hc : X.calm = true) (I2 : Inv X pins σ H2 s2) (T : Turn X.prog X.w X.K target J fp it tn) (st2 : tn 0 s2.heap) (f2 : ∀ b ∈ fp, FpOk X pins H2 b)
    (hg : ∀ cl C s H fp, PG (cxB X scope N cl C s H fp) target g) (ht : ∀ cl C s H fp, PTs (cxB X scope N cl C s H fp) ifs tc) (he : ∀ cl C s H fp, PE (cxB X scope N cl C s H fp) elt te)
    (w0 : W 0 m0 (blkS nl caps σ) (upd H2 s2.heap.objs.size (.lst [])))
    (turn : ∀ i m σ' H', W i m σ' H' → (J.stop i H' ∧ Q H') ∨
      (J.go i H' ∧ ∀ x H3, J.yld i H' x H3 → g x σ' H3 fun σ2 H4 => tc σ2 H4 fun b H5 =>
        if b = true then te σ2 H5 fun y H6 => ∃ ys, H6 s2.heap.objs.size = some (.lst ys) ∧ ys.length < sizeLine ∧ ∃ m', m' < m ∧ W (i + 1) m' σ2 (upd H6 s2.heap.objs.size (.lst (ys ++ [y])))
        else ∃ m', m' < m ∧ W (i + 1) m' σ2 H5))
    (RR : Value → Addr → Result → Shared → Prop)
    (hRR : ∀ (C : Addr) s' H', (∃ m, s'.heap.Ns C m) → FpOk X pins H' C → (∀ h', Heap.SameBut C s'.heap h' → Inv X pins σ H' { s' with heap := h' }) → Q H' → RR (.ref s2.heap.objs.size) C (.ok .next) s') :
    wpAny (model X.prog X.w) X.A (newList []) (fun acc s₃ => wpAny (model X.prog X.w) X.A (newFunctionEnv scope X.env.globals (closeGo X.env scope.names []) [] X.env.qual none .none (some X.env)) (fun cenv s₄ =>
      codeAny (model X.prog X.w) X.A (.compStart (.ListComp elt [⟨target, iter, ifs, 0⟩] scope pos) 0 (.ref it) acc { cenv with scope := relabel scope X.env }) (RR acc cenv.locals) s₄) E s₃) E s2 := by
  have hfree : ∀ p ∈ scope.names, p.2 = .free → ∃ c, X.env.cells.lookup p.1 = some c := fun p hp e => by
    have q := S.free p hp e
    apply I2.ok.has p.1
    show X.env.scope.names.lookup p.1 = some .cell ∨ X.env.scope.names.lookup p.1 = some .free
    cases e2 : X.env.scope.names.lookup p.1 with
    | none => rw [e2] at q; cases q
    | some k =>
      rw [e2] at q
      cases k <;> first
        | exact .inl rfl
        | exact .inr rfl
        | cases q
  have hcl : ∀ x, (closeGo X.env scope.names []).lookup x = if (x, NameKind.free) ∈ scope.names then X.env.cells.lookup x else none := fun x => closeGo_lookup scope.names [] hfree
  have hacc : H2 s2.heap.objs.size = none := I2.hok.fresh (Nat.le_refl _)
  refine wpAny_newObj_type (wpAny_newFunctionEnv S.nocell (by intro y hy; simp at hy) (fun h₁ hns₁ hsb₁ => ?_) S.kind)
  dsimp only at hns₁ hsb₁ ⊢
  have I3 : Inv X pins σ (upd H2 s2.heap.objs.size (.lst [])) { s2 with heap := s2.heap.push { cls := .type "list", dict := none, data := .seq ([] : List Value).toArray } } := I2.lnew (its := []) (ys := []) (t' := s2.toks) .nil (Nat.zero_le _)
  generalize hs3 : ({ s2 with heap := s2.heap.push { cls := .type "list", dict := none, data := .seq ([] : List Value).toArray } } : Shared) = s3 at I3
  have hh3 : s2.heap.push { cls := .type "list", dict := none, data := .seq ([] : List Value).toArray } = s3.heap := by rw [← hs3]
  rw [hh3] at hns₁ hsb₁ ⊢
  have old3 : ∀ b o, s2.heap.get? b = some o → s3.heap.get? b = some o := fun b o e => by rw [← hh3]; exact Heap.get?_push_of_some _ e
  have size3 : s3.heap.objs.size = s2.heap.objs.size + 1 := by rw [← hh3, Heap.size_push]
  have keep4 : ∀ b o, s3.heap.get? b = some o → h₁.get? b = some o := fun b o e => hsb₁.extBut b o (Nat.ne_of_lt (Heap.lt_size e)) (Heap.get?_push_of_some _ e)
  have hlt2 : ∀ b ∈ fp, b < s2.heap.objs.size := fun b hb => by
    obtain ⟨o, e, _⟩ := T.obj 0 _ st2 b hb
    exact Heap.lt_size e
  have f3 : ∀ b ∈ fp, FpOk X pins (upd H2 s2.heap.objs.size (.lst [])) b := fun b hb => by
    obtain ⟨a0, a1⟩ := f2 b hb
    exact ⟨by rw [upd_ne (Nat.ne_of_lt (hlt2 b hb))]; exact a0, a1⟩
  have hlt3 : ∀ b ∈ fp, b < s3.heap.objs.size := fun b hb => by rw [size3]; exact Nat.lt_succ_of_lt (hlt2 b hb)
  have loop : ∀ s4 : Shared, s4 = { s3 with heap := h₁, toks := s2.toks + ([] : List (Str × Value)).length } →
      codeAny (model X.prog X.w) X.A (.compLoop (.ListComp elt [⟨target, iter, ifs, 0⟩] scope pos) 0 (.ref it) (.ref s2.heap.objs.size) (compEnvC scope (closeGo X.env scope.names []) s3.heap.objs.size X.env))
        (RR (.ref s2.heap.objs.size) s3.heap.objs.size) s4 := by
    intro s4 hs4
    have I4 : Inv (cxB X scope N (closeGo X.env scope.names []) s3.heap.objs.size s3 (upd H2 s2.heap.objs.size (.lst [])) fp) [] (blkS nl caps σ) (upd H2 s2.heap.objs.size (.lst [])) s4 :=
      inv_block S I3 hcl f3 hlt3 (by rw [hs4]) (by rw [hs4]) ⟨_, by rw [hs4]; exact hns₁⟩ (by rw [hs4]; exact keep4)
    have st4 : tn 0 s4.heap := T.keep 0 _ _ st2 fun b hb o e => by rw [hs4]; exact keep4 b o (old3 b o e)
    generalize hX : cxB X scope N (closeGo X.env scope.names []) s3.heap.objs.size s3 (upd H2 s2.heap.objs.size (.lst [])) fp = B at I4
    have stat : ∀ {H' : Hp}, (∀ b ∈ fp, H' b = none) → ∀ b ∈ fp, FpOk B [] H' b := fun {H'} hn b hb => by
      subst hX
      obtain ⟨a0, a1, a2, a3, a4, a5⟩ := f3 b hb
      refine ⟨hn b hb, Nat.ne_of_lt (hlt3 b hb), fun z => ?_, .inl hb, fun x c e => ?_, fun p hp => absurd (show p ∈ ([] : List (Addr × Obj)) from hp) (by simp)⟩
      · rcases List.mem_cons.mp (I3.stkSub b z) with q | q
        · exact a1 q
        · exact a2 q
      · have e : (closeGo X.env scope.names []).lookup x = some c := e
        rw [hcl] at e
        split at e
        · exact a4 x c e
        · cases e
    have hgB : PG B target g := by subst hX; exact hg _ _ _ _ _
    have htB : PTs B ifs tc := by subst hX; exact ht _ _ _ _ _
    have heB : PE B elt te := by subst hX; exact he _ _ _ _ _
    have eP : B.prog = X.prog := by subst hX; rfl
    have ew : B.w = X.w := by subst hX; rfl
    have eK : B.K = X.K := by subst hX; rfl
    have eA : B.A = X.A := by subst hX; rfl
    have eE : B.env = compEnvC scope (closeGo X.env scope.names []) s3.heap.objs.size X.env := by subst hX; rfl
    have ecalm : B.calm = true := by subst hX; exact hc
    have exe : B.xe = fun _ _ => False := by subst hX; rfl
    rw [← eP, ← ew, ← eA, ← eE]
    refine codeAny_compLoop_go (fun n s' => ∃ i σ' H', Inv B [] σ' H' s' ∧ tn i s'.heap ∧ (∀ b ∈ fp, H' b = none) ∧ W i n σ' H') ?_ m0 ⟨0, _, _, I4, st4, fun b hb => (f3 b hb).1, w0⟩
    rintro n s5 ⟨i, σ5, H5, I5, st5, fr5, w5⟩
    have away : ∀ {α : Type} {t : Sem α} {Qa : α → Shared → Prop} {Ea : Value → Shared → Prop} {sa : Shared}, wpAny (model B.prog B.w) B.A t Qa B.xe sa → wpAny (model B.prog B.w) B.A t Qa Ea sa := fun h => wpAny_mono h (fun _ _ q => q) fun e s' z => by rw [exe] at z; exact z.elim
    rcases turn i n σ5 H5 w5 with ⟨stop, q⟩ | ⟨go, step⟩
    · have d := T.done B eP ew eK ecalm i [] s5 σ5 H5 (notedBy (model B.prog B.w) B.A B.env fun e s' => RR (.ref s2.heap.objs.size) s3.heap.objs.size (.error e) s') I5 (stat fr5) st5 stop
      rw [← eP, ← ew] at d
      refine thn d fun r s6 ⟨hr, I6⟩ => ?_
      subst hr
      refine hRR _ s6 H5 ?_ (I3.fpOk (Nat.le_refl _) ?_) (fun h' hs' => ?_) q
      · obtain ⟨m, hn, _⟩ := I6.loc
        rw [eE] at hn
        exact ⟨m, hn⟩
      · have z := I6.free
        rw [eE] at z
        exact z
      · subst hX
        exact inv_unblock I3 f3 I6 hs'
    · have d := T.item B eP ew eK ecalm i [] s5 σ5 H5 (notedBy (model B.prog B.w) B.A B.env fun e s' => RR (.ref s2.heap.objs.size) s3.heap.objs.size (.error e) s') I5 (stat fr5) st5 go
      rw [← eP, ← ew] at d
      refine thn d fun r s6 ⟨u, hr, h6⟩ => ?_
      subst hr
      refine thn h6 fun _ s7 ⟨x, H7, I7, r7, y7, st7, fr7⟩ => ?_
      have I7' := I7.pinned (stat fr7) (T.obj _ _ st7)
      refine away (thn (hgB _ s7 σ5 H7 x u _ I7' r7 (step x H7 y7)) fun _ s8 ⟨σ8, H8, I8, q8⟩ => ?_)
      refine away (thn (htB _ s8 σ8 H8 _ I8 q8) fun b s9 ⟨H9, I9, q9⟩ => ?_)
      have again : ∀ {σa : St} {Ha : Hp} {sa : Shared}, Inv B ([] ++ pinsAt fp s7.heap) σa Ha sa → (∃ m', m' < n ∧ W (i + 1) m' σa Ha) → ∃ m, m < n ∧ ∃ i σ' H', Inv B [] σ' H' sa ∧ tn i sa.heap ∧ (∀ b ∈ fp, H' b = none) ∧ W i m σ' H' := fun {σa Ha sa} Ia ⟨m', hm, wa⟩ => by
        refine ⟨m', hm, i + 1, σa, Ha, Ia.unpinned, T.keep _ _ _ st7 fun b hb o e => (Ia.pin (b, o) (List.mem_append_right _ (List.mem_append_right _ (mem_pinsAt hb e)))).1, fun b hb => ?_, wa⟩
        obtain ⟨o, e, d⟩ := T.obj _ _ st7 b hb
        exact (Ia.pin (b, o) (List.mem_append_right _ (List.mem_append_right _ (mem_pinsAt hb e)))).2.1
      cases b with
      | false => exact again I9 q9
      | true =>
        show wpAny _ _ (eval elt B.env) _ _ s9
        refine away (thn (heB _ s9 σ8 H9 _ I9 q9) fun yv s10 ⟨y, H10, I10, ry, ys, ha, hz, q10⟩ => ?_)
        refine away (thn (mt_append _ s10 σ8 H10 (.ref s2.heap.objs.size) [y] (.ref s2.heap.objs.size) [yv] (fun _ H11 => H11 = upd H10 s2.heap.objs.size (.lst (ys ++ [y]))) I10 rfl (.cons ry .nil) ⟨_, ys, y, rfl, rfl, ha, hz, rfl⟩) fun _ s11 ⟨z, H11, I11, _, e11⟩ => ?_)
        subst e11
        exact again I11 q10
  exact codeAny_compStart_list (loop _ (by rw [← hs3])) (T.self X.A 0 _ _ _ (T.keep 0 _ _ st2 fun b hb o e => keep4 b o (old3 b o e)) (loop _ (by rw [← hs3])))
theorem hfree_of {pins : List (Addr × Obj)} {σ : St} {s : Shared} {H : Hp} (S : CompSc X.env.scope X.N scope N nl caps) (I : Inv X pins σ H s) : ∀ p ∈ scope.names, p.2 = .free → ∃ c, X.env.cells.lookup p.1 = some c := fun p hp e => by
  have q := S.free p hp e
  apply I.ok.has p.1
  show X.env.scope.names.lookup p.1 = some .cell ∨ X.env.scope.names.lookup p.1 = some .free
  cases e2 : X.env.scope.names.lookup p.1 with
  | none => rw [e2] at q; cases q
  | some k =>
    rw [e2] at q
    cases k <;> first
      | exact .inl rfl
      | exact .inr rfl
      | cases q
theorem pe_comp (S : CompSc X.env.scope X.N scope N nl caps) (hc : X.calm = true) (hi : PI X target iter wi)
    (hg : ∀ cl C s H fp, PG (cxB X scope N cl C s H fp) target g) (ht : ∀ cl C s H fp, PTs (cxB X scope N cl C s H fp) ifs tc) (he : ∀ cl C s H fp, PE (cxB X scope N cl C s H fp) elt te)
    (hs : ∀ x, foldedSetIterable iter X.env x = pure x := by intro _; rfl) : PE X (.ListComp elt [⟨target, iter, ifs, 0⟩] scope pos) (tComp wi g tc te nl caps) := by
  intro pins s σ H Q I h
  rw [eval_ListComp]
  refine wpAny_comprehension_free (use := none) rfl hs (closureFor_eq (hfree_of S I)) S.kind S.locs ?_
  refine thn (hi pins s σ H _ I h) fun v s1 h1 => thn h1 fun itv s2 h2 => ?_
  obtain ⟨it, fp, tn, J, H2, e, I2, T, st2, f2, k⟩ := h2
  subst e
  obtain ⟨W, ⟨m0, w0⟩, turn⟩ := k s2.heap.objs.size (I2.hok.fresh (Nat.le_refl _))
  refine comp_core (Q := fun H' => Q (.ref s2.heap.objs.size) H') S hc I2 T st2 f2 hg ht he w0 turn (fun acc C => compPost (model X.prog X.w) X.A X.xe none (EP X pins σ Q) acc C) ?_
  intro C s' H' hn _ hI q
  obtain ⟨m, hn⟩ := hn
  exact ⟨m, hn, fun h' hs' => ⟨.ref s2.heap.objs.size, H', hI h' hs', rfl, q⟩⟩
theorem ps_comp {i : Nat} {y : Str} {py spos : Pos} (S : CompSc X.env.scope X.N scope N nl caps) (hc : X.calm = true) (hN : X.N.Nodup) (hy : X.N[i]? = some y) (hl : X.env.kindOf y = some .local) (hi : PI X target iter wi)
    (hg : ∀ cl C s H fp, PG (cxB X scope N cl C s H fp) target g) (ht : ∀ cl C s H fp, PTs (cxB X scope N cl C s H fp) ifs tc) (he : ∀ cl C s H fp, PE (cxB X scope N cl C s H fp) elt te)
    (hsw : swapsWith (.ListComp elt [⟨target, iter, ifs, 0⟩] scope pos) (some (.Name y py)) spos.line X.env = pure true := by rfl)
    (hs : ∀ x, foldedSetIterable iter X.env x = pure x := by intro _; rfl) : PS X (.Assign [.Name y py] (.ListComp elt [⟨target, iter, ifs, 0⟩] scope pos) spos) (tAsg (tComp wi g tc te nl caps) (gName i)) := by
  intro pins s σ H De I h
  rw [exec_Assign_Name_used _ _ _ _ hsw]
  refine wpAny_bind (wpAny_standAt (wpAny_bind ?_))
  show wpAny _ X.A (do let _ ← comprehension (.ListComp elt [⟨target, iter, ifs, 0⟩] scope pos) scope X.env _ (newList []) false (eval iter X.env) (some (assign (.Name y py) X.env))) _ _ s
  refine wpAny_bind (wpAny_mono (wpAny_comprehension_free (use := some (assign (.Name y py) X.env)) (Q := fun _ s' => SP X pins De .next s') rfl hs (closureFor_eq (hfree_of S I)) S.kind S.locs ?_) (fun _ s' hq => wpAny_pure (wpAny_pure hq)) fun _ _ e => e)
  refine thn (hi pins s σ H _ I h) fun v s1 h1 => thn h1 fun itv s2 h2 => ?_
  obtain ⟨it, fp, tn, J, H2, e, I2, T, st2, f2, k⟩ := h2
  subst e
  obtain ⟨W, ⟨m0, w0⟩, turn⟩ := k s2.heap.objs.size (I2.hok.fresh (Nat.le_refl _))
  refine comp_core (Q := fun H' => De.nx (σ.set i (some (.ref s2.heap.objs.size))) H') S hc I2 T st2 f2 hg ht he w0 turn (fun acc C => compPost (model X.prog X.w) X.A X.xe (some (assign (.Name y py) X.env)) (fun _ s' => SP X pins De .next s') acc C) ?_
  intro C s' H' hn hC hI q
  obtain ⟨m, hn⟩ := hn
  show wpAny _ X.A (assign (.Name y py) X.env (.ref s2.heap.objs.size)) _ _ s'
  have I' : Inv X pins σ H' s' := hI s'.heap (Heap.SameBut.refl _ _)
  refine wpAny_assign_Name (store_ok2 (v := .ref s2.heap.objs.size) I' hN hy (.inl hl) (show RelV (V.ref _) _ from rfl) (fun s'' I'' hsb => ?_) (.inr hl))
  obtain ⟨a, hsa, ha⟩ := hsb
  obtain ⟨c0, c1, c2, c3, c4, c5⟩ := hC
  have nCa : C ≠ a := by
    rcases ha with z | z
    · rw [z]; exact c1
    · exact fun w => c4 y a z w.symm
  refine ⟨m, hn.sameBut hsa nCa, fun h' hs' => ?_⟩
  exact ⟨_, H', I''.turned (t' := s''.toks) (it := C) (fun b o hb e => (hs'.2 b hb).trans e) c0 c1 c3 c4 c5, q⟩
end
end L2
set_option Elab.async false
set_option linter.all false
namespace L3
open PySem L2
inductive D where
  | non | bl (b : Bool) | int (i : Int) | str (x : Str)
  | tup (xs : List D) | lst (xs : List D) | scr (xs : List D)
  | dK (ks : List Key) (xs : List D) | dT (ks : List (List Key)) (xs : List D)
  | ins (c : Str) (ns : List Str) (xs : List D)
  | exo (c : Str)
  | ktp (xs : List D)
noncomputable def Sub (G H : Hp) : Prop := ∀ b o, G b = some o → H b = some o
theorem Sub.refl (G : Hp) : Sub G G := fun _ _ e => e
theorem Sub.trans {G H I : Hp} (a : Sub G H) (b : Sub H I) : Sub G I := fun c o e => b c o (a c o e)
theorem Sub.gone {G H : Hp} (a : Sub G H) {b : Addr} (h : H b = none) : G b = none := by
  cases e : G b with
  | none => rfl
  | some o => rw [a b o e] at h; cases h
theorem Sub.upd {G : Hp} {a : Addr} {o : HO} (h : G a = none) : Sub G (upd G a o) := fun b u e => by
  rw [upd_ne (ne_of_none e h)]; exact e
theorem Sub.upd2 {G H : Hp} {a : Addr} {o : HO} (s : Sub G H) (h : G a = none) : Sub G (L2.upd H a o) := fun b u e => by
  rw [upd_ne (ne_of_none e h)]; exact s b u e
theorem Sub.both {G H : Hp} {a : Addr} {o : HO} (s : Sub G H) : Sub (L2.upd G a o) (L2.upd H a o) := fun b u e => by
  by_cases hb : b = a
  · subst hb; rw [upd_same] at e ⊢; exact e
  · rw [upd_ne hb] at e ⊢; exact s b u e
theorem Sub.at {G H : Hp} {a : Addr} {o : HO} (s : Sub G H) (h : H a = some o) : Sub (L2.upd G a o) H := fun b u e => by
  by_cases hb : b = a
  · subst hb; rw [upd_same] at e; rw [h]; exact e
  · rw [upd_ne hb] at e; exact s b u e
structure Up (G H G' H' : Hp) : Prop where
  g : Sub G G'
  h : Sub H H'
  n : ∀ b, H b ≠ none → G' b = G b
theorem Sub.some {G H : Hp} (s : Sub G H) {b : Addr} (h : G b ≠ none) : H b ≠ none := fun z => h (s.gone z)
theorem Up.refl (G H : Hp) : Up G H G H := ⟨Sub.refl _, Sub.refl _, fun _ _ => rfl⟩
theorem Up.trans {G H G1 H1 G2 H2 : Hp} (a : Up G H G1 H1) (b : Up G1 H1 G2 H2) : Up G H G2 H2 := ⟨a.g.trans b.g, a.h.trans b.h, fun c hc => (b.n c (a.h.some hc)).trans (a.n c hc)⟩
theorem Up.lay {G H : Hp} {p : Addr} {o : HO} (s : Sub G H) (hp : H p = none) : Up G H (L2.upd G p o) (L2.upd H p o) := ⟨Sub.upd (s.gone hp), Sub.upd hp, fun b hb => by
  rw [upd_ne]
  intro e; subst e; exact hb hp⟩
theorem Up.lay0 {G H : Hp} {p : Addr} {o : HO} (hp : H p = none) : Up G H G (L2.upd H p o) := ⟨Sub.refl _, Sub.upd hp, fun _ _ => rfl⟩
theorem Up.put {G H G' H' : Hp} {p : Addr} {o : HO} (u : Up G H G' H') (hp : H p = none) (hg : G' p = none) : Up G H (L2.upd G' p o) H' := ⟨u.g.trans (Sub.upd hg), u.h, fun b hb => by
  rw [upd_ne]
  · exact u.n b hb
  · intro e; subst e; exact hb hp⟩
theorem Rd.mono {G H : Hp} (s : Sub G H) {a : Addr} {u : HO} (r : Rd G a u) : Rd H a u := by
  rcases r with r | ⟨o, r⟩
  · exact .inl (s _ _ r)
  · exact .inr ⟨o, s _ _ r⟩
theorem SqL.mono {K : PySem.W.Frag} {G H : Hp} (s : Sub G H) {a : Addr} {xs : List V} (r : SqL K G a xs) : SqL K H a xs := by
  rcases r with r | r
  · exact .inl (Rd.mono s r)
  · exact .inr r
theorem SqT.mono {K : PySem.W.Frag} {G H : Hp} (s : Sub G H) {a : Addr} {xs : List V} (r : SqT K G a xs) : SqT K H a xs := by
  rcases r with r | r
  · exact .inl (Rd.mono s r)
  · exact .inr r
noncomputable def ClsN (K : PySem.W.Frag) (c : Str) (C : Addr) : Prop := PySem.W.nsIn K mainGlobals c = some (some (.ref C))
mutual
noncomputable def At (K : PySem.W.Frag) (G : Hp) : D → V → Prop
  | .non, v => v = .non
  | .bl b, v => v = .bl b
  | .int i, v => v = .int i
  | .str x, v => v = .str x
  | .tup ds, v => ∃ a xs, v = .ref a ∧ G a = some (.tup xs) ∧ AtL K G ds xs
  | .ktp ds, v => ∃ a xs, v = .ref a ∧ SqT K G a xs ∧ AtL K G ds xs
  | .lst ds, v => ∃ a xs, v = .ref a ∧ G a = some (.lst xs) ∧ AtL K G ds xs
  | .scr ds, v => ∃ a xs, v = .ref a ∧ SqL K G a xs ∧ AtL K G ds xs
  | .dK ks ds, v => ∃ a xs, v = .ref a ∧ G a = some (.dK xs) ∧ xs.map (·.1) = ks ∧ AtL K G ds (xs.map (·.2))
  | .dT ks ds, v => ∃ a xs, v = .ref a ∧ G a = some (.dT xs) ∧ xs.map (·.1) = ks ∧ AtL K G ds (xs.map (·.2))
  | .ins c ns ds, v => ∃ a dx xs, v = .ref a ∧ (∃ C, ClsN K c C ∧ G a = some (.ins C dx xs)) ∧ xs.map (·.1) = ns ∧ AtL K G ds (xs.map (·.2))
  | .exo c, v => ∃ (a : Addr) (xs : List V), v = .ref a ∧ (∃ C, ClsN K c C ∧ G a = some (excO a (.ref C))) ∧ xs = []
noncomputable def AtL (K : PySem.W.Frag) (G : Hp) : List D → List V → Prop
  | [], vs => vs = []
  | d :: ds, vs => ∃ v r, vs = v :: r ∧ At K G d v ∧ AtL K G ds r
end
mutual
theorem At.mono {K : PySem.W.Frag} {G H : Hp} (s : Sub G H) : ∀ {d : D} {v : V}, At K G d v → At K H d v
  | .non, _, h => by simpa only [At] using h
  | .bl _, _, h => by simpa only [At] using h
  | .int _, _, h => by simpa only [At] using h
  | .str _, _, h => by simpa only [At] using h
  | .tup _, _, h => by
    simp only [At] at h ⊢
    obtain ⟨a, xs, e, q, r⟩ := h
    exact ⟨a, xs, e, s _ _ q, AtL.mono s r⟩
  | .ktp _, _, h => by
    simp only [At] at h ⊢
    obtain ⟨a, xs, e, q, r⟩ := h
    exact ⟨a, xs, e, SqT.mono s q, AtL.mono s r⟩
  | .lst _, _, h => by
    simp only [At] at h ⊢
    obtain ⟨a, xs, e, q, r⟩ := h
    exact ⟨a, xs, e, s _ _ q, AtL.mono s r⟩
  | .scr _, _, h => by
    simp only [At] at h ⊢
    obtain ⟨a, xs, e, q, r⟩ := h
    exact ⟨a, xs, e, SqL.mono s q, AtL.mono s r⟩
  | .dK _ _, _, h => by
    simp only [At] at h ⊢
    obtain ⟨a, xs, e, q, k, r⟩ := h
    exact ⟨a, xs, e, s _ _ q, k, AtL.mono s r⟩
  | .dT _ _, _, h => by
    simp only [At] at h ⊢
    obtain ⟨a, xs, e, q, k, r⟩ := h
    exact ⟨a, xs, e, s _ _ q, k, AtL.mono s r⟩
  | .ins _ _ _, _, h => by
    simp only [At] at h ⊢
    obtain ⟨a, dx, xs, e, ⟨C, c1, q⟩, k, r⟩ := h
    exact ⟨a, dx, xs, e, ⟨C, c1, s _ _ q⟩, k, AtL.mono s r⟩
  | .exo _, _, h => by
    simp only [At] at h ⊢
    obtain ⟨a, xs, e, ⟨C, c1, q⟩, r⟩ := h
    exact ⟨a, xs, e, ⟨C, c1, s _ _ q⟩, r⟩
theorem AtL.mono {K : PySem.W.Frag} {G H : Hp} (s : Sub G H) : ∀ {ds : List D} {vs : List V}, AtL K G ds vs → AtL K H ds vs
  | [], _, h => by simpa only [AtL] using h
  | _ :: _, _, h => by
    simp only [AtL] at h ⊢
    obtain ⟨v, r, e, q, t⟩ := h
    exact ⟨v, r, e, At.mono s q, AtL.mono s t⟩
end
section
variable {K : PySem.W.Frag} {G : Hp}
theorem AtL.nil : AtL K G [] [] := by simp only [AtL]
theorem AtL.cons {d : D} {ds : List D} {v : V} {vs : List V} (h : At K G d v) (t : AtL K G ds vs) : AtL K G (d :: ds) (v :: vs) := by
  simp only [AtL]; exact ⟨v, vs, rfl, h, t⟩
theorem AtL.length : ∀ {ds : List D} {vs : List V}, AtL K G ds vs → ds.length = vs.length
  | [], _, h => by simp only [AtL] at h; subst h; rfl
  | _ :: _, _, h => by
    simp only [AtL] at h
    obtain ⟨v, r, rfl, _, t⟩ := h
    simp [AtL.length t]
theorem AtL.get : ∀ {ds : List D} {vs : List V} {i : Nat} {d : D}, AtL K G ds vs → ds[i]? = some d → ∃ v, vs[i]? = some v ∧ At K G d v
  | [], _, _, _, _, e => by simp at e
  | _ :: _, _, 0, _, h, e => by
    simp only [AtL] at h
    obtain ⟨v, r, rfl, q, t⟩ := h
    simp at e; subst e
    exact ⟨v, by simp, q⟩
  | _ :: _, _, i + 1, d, h, e => by
    simp only [AtL] at h
    obtain ⟨v, r, rfl, q, t⟩ := h
    obtain ⟨u, h1, h2⟩ := AtL.get (i := i) (d := d) t (by simpa using e)
    exact ⟨u, by simpa using h1, h2⟩
theorem AtL.getV {ds : List D} {vs : List V} {i : Nat} {v : V} (h : AtL K G ds vs) (e : vs[i]? = some v) : ∃ d, ds[i]? = some d ∧ At K G d v := by
  have hi : i < ds.length := by rw [h.length]; exact (List.getElem?_eq_some_iff.mp e).1
  obtain ⟨u, h1, h2⟩ := h.get (List.getElem?_eq_getElem hi)
  rw [e] at h1; cases h1
  exact ⟨_, List.getElem?_eq_getElem hi, h2⟩
theorem AtL.append : ∀ {ds es : List D} {vs ws : List V}, AtL K G ds vs → AtL K G es ws → AtL K G (ds ++ es) (vs ++ ws)
  | [], _, _, _, h, t => by simp only [AtL] at h; subst h; exact t
  | _ :: _, _, _, _, h, t => by
    simp only [AtL] at h
    obtain ⟨v, r, rfl, q, s⟩ := h
    exact .cons q (AtL.append s t)
theorem AtL.take : ∀ (n : Nat) {ds : List D} {vs : List V}, AtL K G ds vs → AtL K G (ds.take n) (vs.take n)
  | 0, _, _, _ => by simpa using AtL.nil
  | _ + 1, [], _, h => by simp only [AtL] at h; subst h; simpa using AtL.nil
  | n + 1, _ :: _, _, h => by
    simp only [AtL] at h
    obtain ⟨v, r, rfl, q, t⟩ := h
    exact .cons q (AtL.take n t)
theorem AtL.drop : ∀ (n : Nat) {ds : List D} {vs : List V}, AtL K G ds vs → AtL K G (ds.drop n) (vs.drop n)
  | 0, _, _, h => by simpa using h
  | _ + 1, [], _, h => by simp only [AtL] at h; subst h; simpa using AtL.nil
  | n + 1, _ :: _, _, h => by
    simp only [AtL] at h
    obtain ⟨v, r, rfl, q, t⟩ := h
    simpa using AtL.drop n t
theorem AtL.set {d : D} {v : V} (q : At K G d v) : ∀ (n : Nat) {ds : List D} {vs : List V}, AtL K G ds vs → AtL K G (ds.set n d) (vs.set n v)
  | _, [], _, h => by simp only [AtL] at h; subst h; simpa using AtL.nil
  | 0, _ :: _, _, h => by
    simp only [AtL] at h
    obtain ⟨u, r, rfl, _, t⟩ := h
    exact .cons q t
  | n + 1, _ :: _, _, h => by
    simp only [AtL] at h
    obtain ⟨u, r, rfl, p, t⟩ := h
    exact .cons p (AtL.set q n t)
theorem AtL.snoc {ds : List D} {vs : List V} {d : D} {v : V} (h : AtL K G ds vs) (q : At K G d v) : AtL K G (ds ++ [d]) (vs ++ [v]) := h.append (.cons q .nil)
end
inductive R (α : Type) where
  | ok (a : α) | exc (c : Str) | bad
namespace R
noncomputable def bind {α β : Type} : R α → (α → R β) → R β
  | .ok a, k => k a
  | .exc c, _ => .exc c
  | .bad, _ => .bad
noncomputable def map {α β : Type} (f : α → β) (r : R α) : R β := r.bind fun a => .ok (f a)
theorem bind_ok {α β : Type} (a : α) (k : α → R β) : (R.ok a).bind k = k a := rfl
end R
inductive T where
  | fz (d : D) | lst (ts : List T) | dK (ks : List Key) (ts : List T) | dT (ks : List (List Key)) (ts : List T) | ins (c : Str) (ns : List Str) (ts : List T)
mutual
noncomputable def toD : T → D
  | .fz d => d
  | .lst ts => .lst (toDL ts)
  | .dK ks ts => .dK ks (toDL ts)
  | .dT ks ts => .dT ks (toDL ts)
  | .ins c ns ts => .ins c ns (toDL ts)
noncomputable def toDL : List T → List D
  | [] => []
  | t :: ts => toD t :: toDL ts
end
mutual
noncomputable def fp (H : Hp) : T → V → List Addr
  | .fz _, _ => []
  | .lst ts, v => match v with
    | .ref a => match H a with
      | some (.lst xs) => a :: fpL H ts xs
      | _ => []
    | _ => []
  | .dK _ ts, v => match v with
    | .ref a => match H a with
      | some (.dK xs) => a :: fpL H ts (xs.map (·.2))
      | _ => []
    | _ => []
  | .dT _ ts, v => match v with
    | .ref a => match H a with
      | some (.dT xs) => a :: fpL H ts (xs.map (·.2))
      | _ => []
    | _ => []
  | .ins _ _ ts, v => match v with
    | .ref a => match H a with
      | some (.ins _ _ xs) => a :: fpL H ts (xs.map (·.2))
      | _ => []
    | _ => []
noncomputable def fpL (H : Hp) : List T → List V → List Addr
  | [], _ => []
  | t :: ts, vs => match vs with
    | v :: r => fp H t v ++ fpL H ts r
    | [] => []
end
mutual
noncomputable def TAt (K : PySem.W.Frag) (G H : Hp) : T → V → Prop
  | .fz d, v => At K G d v
  | .lst ts, v => ∃ a xs, v = .ref a ∧ H a = some (.lst xs) ∧ TAtL K G H ts xs
  | .dK ks ts, v => ∃ a xs, v = .ref a ∧ H a = some (.dK xs) ∧ xs.map (·.1) = ks ∧ TAtL K G H ts (xs.map (·.2))
  | .dT ks ts, v => ∃ a xs, v = .ref a ∧ H a = some (.dT xs) ∧ xs.map (·.1) = ks ∧ TAtL K G H ts (xs.map (·.2))
  | .ins c ns ts, v => ∃ a dx xs, v = .ref a ∧ (∃ C, ClsN K c C ∧ H a = some (.ins C dx xs)) ∧ xs.map (·.1) = ns ∧ TAtL K G H ts (xs.map (·.2))
noncomputable def TAtL (K : PySem.W.Frag) (G H : Hp) : List T → List V → Prop
  | [], vs => vs = []
  | t :: ts, vs => ∃ v r, vs = v :: r ∧ TAt K G H t v ∧ TAtL K G H ts r
end
section
variable {K : PySem.W.Frag} {G G' H H' P : Hp}
theorem fp_lst {a : Addr} {xs : List V} {ts : List T} (q : H a = some (.lst xs)) : fp H (.lst ts) (.ref a) = a :: fpL H ts xs := by simp only [fp, q]
theorem fp_dK {a : Addr} {xs : List (Key × V)} {ks : List Key} {ts : List T} (q : H a = some (.dK xs)) : fp H (.dK ks ts) (.ref a) = a :: fpL H ts (xs.map (·.2)) := by simp only [fp, q]
theorem fp_dT {a : Addr} {xs : List (List Key × V)} {ks : List (List Key)} {ts : List T} (q : H a = some (.dT xs)) : fp H (.dT ks ts) (.ref a) = a :: fpL H ts (xs.map (·.2)) := by simp only [fp, q]
theorem fp_ins {a C : Addr} {dx} {xs : List (Str × V)} {c : Str} {ns : List Str} {ts : List T} (q : H a = some (.ins C dx xs)) : fp H (.ins c ns ts) (.ref a) = a :: fpL H ts (xs.map (·.2)) := by simp only [fp, q]
theorem fpL_cons {t : T} {ts : List T} {v : V} {r : List V} : fpL H (t :: ts) (v :: r) = fp H t v ++ fpL H ts r := by simp only [fpL]
theorem fpL_nil {vs : List V} : fpL H [] vs = [] := by simp only [fpL]
mutual
theorem TAt.mono (sg : Sub G G') : ∀ {t : T} {v : V}, TAt K G H t v → TAt K G' H t v
  | .fz _, _, h => by simp only [TAt] at h ⊢; exact h.mono sg
  | .lst _, _, h => by
    simp only [TAt] at h ⊢
    obtain ⟨a, xs, e, q, r⟩ := h
    exact ⟨a, xs, e, q, TAtL.mono sg r⟩
  | .dK _ _, _, h => by
    simp only [TAt] at h ⊢
    obtain ⟨a, xs, e, q, n, r⟩ := h
    exact ⟨a, xs, e, q, n, TAtL.mono sg r⟩
  | .dT _ _, _, h => by
    simp only [TAt] at h ⊢
    obtain ⟨a, xs, e, q, n, r⟩ := h
    exact ⟨a, xs, e, q, n, TAtL.mono sg r⟩
  | .ins _ _ _, _, h => by
    simp only [TAt] at h ⊢
    obtain ⟨a, dx, xs, e, q, n, r⟩ := h
    exact ⟨a, dx, xs, e, q, n, TAtL.mono sg r⟩
theorem TAtL.mono (sg : Sub G G') : ∀ {ts : List T} {vs : List V}, TAtL K G H ts vs → TAtL K G' H ts vs
  | [], _, h => by simpa only [TAtL] using h
  | _ :: _, _, h => by
    simp only [TAtL] at h ⊢
    obtain ⟨v, r, e, q, t⟩ := h
    exact ⟨v, r, e, TAt.mono sg q, TAtL.mono sg t⟩
end
mutual
theorem TAt.keep : ∀ {t : T} {v : V}, (∀ b ∈ fp H t v, H' b = H b) → TAt K G H t v → TAt K G H' t v ∧ fp H' t v = fp H t v
  | .fz _, _, _, h => by
    simp only [TAt] at h
    exact ⟨by simp only [TAt]; exact h, by simp only [fp]⟩
  | .lst _, _, k, h => by
    simp only [TAt] at h
    obtain ⟨a, xs, rfl, q, r⟩ := h
    rw [fp_lst q] at k
    have qa : H' a = some (.lst xs) := (k a (by simp)).trans q
    obtain ⟨r1, r2⟩ := TAtL.keep (fun b hb => k b (List.mem_cons_of_mem _ hb)) r
    exact ⟨by simp only [TAt]; exact ⟨a, xs, rfl, qa, r1⟩, by rw [fp_lst qa, fp_lst q, r2]⟩
  | .dK _ _, _, k, h => by
    simp only [TAt] at h
    obtain ⟨a, xs, rfl, q, n, r⟩ := h
    rw [fp_dK q] at k
    have qa : H' a = some (.dK xs) := (k a (by simp)).trans q
    obtain ⟨r1, r2⟩ := TAtL.keep (fun b hb => k b (List.mem_cons_of_mem _ hb)) r
    exact ⟨by simp only [TAt]; exact ⟨a, xs, rfl, qa, n, r1⟩, by rw [fp_dK qa, fp_dK q, r2]⟩
  | .dT _ _, _, k, h => by
    simp only [TAt] at h
    obtain ⟨a, xs, rfl, q, n, r⟩ := h
    rw [fp_dT q] at k
    have qa : H' a = some (.dT xs) := (k a (by simp)).trans q
    obtain ⟨r1, r2⟩ := TAtL.keep (fun b hb => k b (List.mem_cons_of_mem _ hb)) r
    exact ⟨by simp only [TAt]; exact ⟨a, xs, rfl, qa, n, r1⟩, by rw [fp_dT qa, fp_dT q, r2]⟩
  | .ins _ _ _, _, k, h => by
    simp only [TAt] at h
    obtain ⟨a, dx, xs, rfl, ⟨C, c1, q⟩, n, r⟩ := h
    rw [fp_ins q] at k
    have qa : H' a = some (.ins C dx xs) := (k a (by simp)).trans q
    obtain ⟨r1, r2⟩ := TAtL.keep (fun b hb => k b (List.mem_cons_of_mem _ hb)) r
    exact ⟨by simp only [TAt]; exact ⟨a, dx, xs, rfl, ⟨C, c1, qa⟩, n, r1⟩, by rw [fp_ins qa, fp_ins q, r2]⟩
theorem TAtL.keep : ∀ {ts : List T} {vs : List V}, (∀ b ∈ fpL H ts vs, H' b = H b) → TAtL K G H ts vs → TAtL K G H' ts vs ∧ fpL H' ts vs = fpL H ts vs
  | [], _, _, h => ⟨by simpa only [TAtL] using h, by simp only [fpL]⟩
  | _ :: _, _, k, h => by
    simp only [TAtL] at h
    obtain ⟨v, r, rfl, q, t⟩ := h
    rw [fpL_cons] at k
    obtain ⟨q1, q2⟩ := TAt.keep (fun b hb => k b (List.mem_append_left _ hb)) q
    obtain ⟨t1, t2⟩ := TAtL.keep (fun b hb => k b (List.mem_append_right _ hb)) t
    exact ⟨by simp only [TAtL]; exact ⟨v, r, rfl, q1, t1⟩, by rw [fpL_cons, fpL_cons, q2, t2]⟩
end
mutual
theorem TAt.some : ∀ {t : T} {v : V}, TAt K G H t v → ∀ b ∈ fp H t v, H b ≠ none
  | .fz _, _, _ => by intro b hb; simp [fp] at hb
  | .lst _, _, h => by
    simp only [TAt] at h
    obtain ⟨a, xs, rfl, q, r⟩ := h
    rw [fp_lst q]
    intro b hb
    rcases List.mem_cons.mp hb with rfl | hb
    · rw [q]; exact fun z => nomatch z
    · exact TAtL.some r b hb
  | .dK _ _, _, h => by
    simp only [TAt] at h
    obtain ⟨a, xs, rfl, q, n, r⟩ := h
    rw [fp_dK q]
    intro b hb
    rcases List.mem_cons.mp hb with rfl | hb
    · rw [q]; exact fun z => nomatch z
    · exact TAtL.some r b hb
  | .dT _ _, _, h => by
    simp only [TAt] at h
    obtain ⟨a, xs, rfl, q, n, r⟩ := h
    rw [fp_dT q]
    intro b hb
    rcases List.mem_cons.mp hb with rfl | hb
    · rw [q]; exact fun z => nomatch z
    · exact TAtL.some r b hb
  | .ins _ _ _, _, h => by
    simp only [TAt] at h
    obtain ⟨a, dx, xs, rfl, ⟨C, c1, q⟩, n, r⟩ := h
    rw [fp_ins q]
    intro b hb
    rcases List.mem_cons.mp hb with rfl | hb
    · rw [q]; exact fun z => nomatch z
    · exact TAtL.some r b hb
theorem TAtL.some : ∀ {ts : List T} {vs : List V}, TAtL K G H ts vs → ∀ b ∈ fpL H ts vs, H b ≠ none
  | [], _, _ => by intro b hb; simp [fpL] at hb
  | _ :: _, _, h => by
    simp only [TAtL] at h
    obtain ⟨v, r, rfl, q, t⟩ := h
    rw [fpL_cons]
    intro b hb
    rcases List.mem_append.mp hb with hb | hb
    · exact TAt.some q b hb
    · exact TAtL.some t b hb
end
mutual
theorem TAt.view (sg : Sub G P) : ∀ {t : T} {v : V}, (∀ a ∈ fp H t v, P a = H a) → TAt K G H t v → At K P (toD t) v
  | .fz _, _, _, h => by
    simp only [TAt, toD] at h ⊢
    exact h.mono sg
  | .lst _, _, k, h => by
    simp only [TAt] at h
    obtain ⟨a, xs, rfl, q, r⟩ := h
    rw [fp_lst q] at k
    simp only [toD, At]
    exact ⟨a, xs, rfl, by rw [k a (by simp)]; exact q, TAtL.view sg (fun b hb => k b (List.mem_cons_of_mem _ hb)) r⟩
  | .dK _ _, _, k, h => by
    simp only [TAt] at h
    obtain ⟨a, xs, rfl, q, n, r⟩ := h
    rw [fp_dK q] at k
    simp only [toD, At]
    exact ⟨a, xs, rfl, by rw [k a (by simp)]; exact q, n, TAtL.view sg (fun b hb => k b (List.mem_cons_of_mem _ hb)) r⟩
  | .dT _ _, _, k, h => by
    simp only [TAt] at h
    obtain ⟨a, xs, rfl, q, n, r⟩ := h
    rw [fp_dT q] at k
    simp only [toD, At]
    exact ⟨a, xs, rfl, by rw [k a (by simp)]; exact q, n, TAtL.view sg (fun b hb => k b (List.mem_cons_of_mem _ hb)) r⟩
  | .ins _ _ _, _, k, h => by
    simp only [TAt] at h
    obtain ⟨a, dx, xs, rfl, ⟨C, c1, q⟩, n, r⟩ := h
    rw [fp_ins q] at k
    simp only [toD, At]
    exact ⟨a, dx, xs, rfl, ⟨C, c1, by rw [k a (by simp)]; exact q⟩, n, TAtL.view sg (fun b hb => k b (List.mem_cons_of_mem _ hb)) r⟩
theorem TAtL.view (sg : Sub G P) : ∀ {ts : List T} {vs : List V}, (∀ a ∈ fpL H ts vs, P a = H a) → TAtL K G H ts vs → AtL K P (toDL ts) vs
  | [], _, _, h => by simp only [TAtL, toDL, AtL] at h ⊢; exact h
  | _ :: _, _, k, h => by
    simp only [TAtL] at h
    obtain ⟨v, r, rfl, q, t⟩ := h
    rw [fpL_cons] at k
    simp only [toDL, AtL]
    exact ⟨v, r, rfl, TAt.view sg (fun b hb => k b (List.mem_append_left _ hb)) q, TAtL.view sg (fun b hb => k b (List.mem_append_right _ hb)) t⟩
end
theorem TAt.keepU {a : Addr} {o : HO} {t : T} {v : V} (n : a ∉ fp H t v) (h : TAt K G H t v) : TAt K G (upd H a o) t v ∧ fp (upd H a o) t v = fp H t v := h.keep fun b hb => upd_ne fun z => n (z ▸ hb)
end
inductive Ob where
  | lst (ds : List D) | dT (ks : List (List Key)) (ds : List D) | ins (c : Str) (ns : List Str) (ds : List D)
noncomputable def ObAt (K : PySem.W.Frag) (G : Hp) : Ob → HO → Prop
  | .lst ds, ho => ∃ xs, ho = .lst xs ∧ AtL K G ds xs
  | .dT ks ds, ho => ∃ xs, ho = .dT xs ∧ xs.map (·.1) = ks ∧ AtL K G ds (xs.map (·.2))
  | .ins c ns ds, ho => ∃ C dx xs, ClsN K c C ∧ ho = .ins C dx xs ∧ xs.map (·.1) = ns ∧ AtL K G ds (xs.map (·.2))
theorem ObAt.mono {K : PySem.W.Frag} {G H : Hp} (s : Sub G H) : ∀ {o : Ob} {ho : HO}, ObAt K G o ho → ObAt K H o ho
  | .lst _, _, ⟨xs, e, q⟩ => ⟨xs, e, q.mono s⟩
  | .dT _ _, _, ⟨xs, e, k, q⟩ => ⟨xs, e, k, q.mono s⟩
  | .ins _ _ _, _, ⟨C, dx, xs, c, e, k, q⟩ => ⟨C, dx, xs, c, e, k, q.mono s⟩
noncomputable def obD : Ob → D
  | .lst ds => .lst ds
  | .dT ks ds => .dT ks ds
  | .ins c ns ds => .ins c ns ds
theorem ObAt.at {K : PySem.W.Frag} {G : Hp} {o : Ob} {ho : HO} {a : Addr} (h : ObAt K G o ho) (e : G a = some ho) : At K G (obD o) (.ref a) := by
  cases o with
  | lst ds => obtain ⟨xs, rfl, q⟩ := h; simp only [obD, At]; exact ⟨a, xs, rfl, e, q⟩
  | dT ks ds => obtain ⟨xs, rfl, k, q⟩ := h; simp only [obD, At]; exact ⟨a, xs, rfl, e, k, q⟩
  | ins c ns ds => obtain ⟨C, dx, xs, c1, rfl, k, q⟩ := h; simp only [obD, At]; exact ⟨a, dx, xs, rfl, ⟨C, c1, e⟩, k, q⟩
inductive Sl where
  | un | fz (d : D) | ob (o : Ob) | tr (t : T)
noncomputable abbrev Sl.ow (ds : List D) : Sl := .ob (.lst ds)
noncomputable abbrev Rho := List Sl
structure Fx where
  K : PySem.W.Frag
  G0 : Hp
  H0 : Hp
  EX : Str → Hp → Prop
structure Kp (F : Fx) (G H : Hp) : Prop where
  sub : Sub G H
  gg : Sub F.G0 G
  hh : Sub F.H0 H
  new : ∀ b, F.H0 b ≠ none → G b = F.G0 b
structure TrOk (F : Fx) (G H : Hp) (t : T) (v : V) : Prop where
  at_ : TAt F.K G H t v
  nd : (fp H t v).Nodup
  own : ∀ b ∈ fp H t v, G b = none ∧ F.H0 b = none
noncomputable def SlOk (F : Fx) (G H : Hp) (o : Option V) : Sl → Prop
  | .un => True
  | .fz d => ∃ v, o = some v ∧ At F.K G d v
  | .ob ob => ∃ a ho, o = some (.ref a) ∧ H a = some ho ∧ G a = none ∧ F.H0 a = none ∧ ObAt F.K G ob ho
  | .tr t => ∃ v, o = some v ∧ TrOk F G H t v
noncomputable def Foot (H : Hp) : Sl → Option V → Addr → Prop
  | .un, _, _ => False
  | .fz _, _, _ => False
  | .ob _, o, a => o = some (.ref a)
  | .tr t, o, a => ∃ v, o = some v ∧ a ∈ fp H t v
structure Rel (F : Fx) (G H : Hp) (σ : St) (ρ : Rho) : Prop where
  kp : Kp F G H
  len : σ.length = ρ.length
  sl : ∀ (i : Nat) (s : Sl), ρ[i]? = some s → ∃ o, σ[i]? = some o ∧ SlOk F G H o s
  dj : ∀ (i j : Nat) (a : Addr) (s s' : Sl) (o o' : Option V), ρ[i]? = some s → ρ[j]? = some s' → σ[i]? = some o → σ[j]? = some o' → Foot H s o a → Foot H s' o' a → i = j
noncomputable def OwnAt (H : Hp) (σ : St) (ρ : Rho) (a : Addr) : Prop := ∃ (i : Nat) (s : Sl) (o : Option V), ρ[i]? = some s ∧ σ[i]? = some o ∧ Foot H s o a
theorem set_self {α : Type} {l : List α} {i : Nat} {x : α} (e : l[i]? = some x) : l.set i x = l := by
  apply List.ext_getElem?
  intro j
  rw [List.getElem?_set]
  by_cases h : i = j
  · subst h
    rw [if_pos rfl, if_pos (List.getElem?_eq_some_iff.mp e).1]; exact e.symm
  · simp [h]
section
variable {F : Fx} {G G' H H' : Hp} {σ : St} {ρ : Rho}
theorem OwnAt.ob {a : Addr} {i : Nat} {o : Ob} (e1 : ρ[i]? = some (.ob o)) (e2 : σ[i]? = some (some (.ref a))) : OwnAt H σ ρ a := ⟨i, _, _, e1, e2, rfl⟩
theorem SlOk.keep {o : Option V} {s : Sl} (h : SlOk F G H o s) (sg : Sub G G') (k : ∀ a, Foot H s o a → H' a = H a ∧ G' a = none) : SlOk F G' H' o s ∧ (∀ a, Foot H' s o a → Foot H s o a) := by
  cases s with
  | un => exact ⟨trivial, fun _ z => z⟩
  | fz d => obtain ⟨v, e2, a⟩ := h; exact ⟨⟨v, e2, a.mono sg⟩, fun _ z => z⟩
  | ob ds =>
    obtain ⟨a, xs, e2, h1, h2, h3, h4⟩ := h
    exact ⟨⟨a, xs, e2, by rw [(k a e2).1]; exact h1, (k a e2).2, h3, h4.mono sg⟩, fun _ z => z⟩
  | tr t =>
    obtain ⟨v, e2, q1, q2, q3⟩ := h
    obtain ⟨w1, w2⟩ := q1.keep fun b hb => (k b ⟨v, e2, hb⟩).1
    refine ⟨⟨v, e2, ⟨w1.mono sg, by rw [w2]; exact q2, fun b hb => ?_⟩⟩, fun a z => ?_⟩
    · rw [w2] at hb; exact ⟨(k b ⟨v, e2, hb⟩).2, (q3 b hb).2⟩
    · obtain ⟨u, e3, hb⟩ := z
      rw [e2] at e3; cases e3
      rw [w2] at hb; exact ⟨v, e2, hb⟩
theorem SlOk.foot {o : Option V} {s : Sl} (h : SlOk F G H o s) {a : Addr} (f : Foot H s o a) : H a ≠ none ∧ G a = none ∧ F.H0 a = none := by
  cases s with
  | un => exact f.elim
  | fz d => exact f.elim
  | ob ds =>
    obtain ⟨b, xs, e2, h1, h2, h3, h4⟩ := h
    have f : o = some (.ref a) := f
    rw [e2] at f; cases f
    exact ⟨by rw [h1]; exact (fun z => nomatch z), h2, h3⟩
  | tr t =>
    obtain ⟨v, e2, q1, q2, q3⟩ := h
    obtain ⟨u, e3, hb⟩ := f
    rw [e2] at e3; cases e3
    exact ⟨q1.some a hb, q3 a hb⟩
theorem Rel.foot (r : Rel F G H σ ρ) {a : Addr} (h : OwnAt H σ ρ a) : H a ≠ none ∧ G a = none ∧ F.H0 a = none := by
  obtain ⟨i, s, o, e1, e2, f⟩ := h
  obtain ⟨o', e3, q⟩ := r.sl i s e1
  rw [e2] at e3; cases e3
  exact q.foot f
theorem Rel.over {F' : Fx} (r : Rel F G H σ ρ) (hK : F'.K = F.K) (kp : Kp F' G' H') (sg : Sub G G') (k : ∀ a, OwnAt H σ ρ a → H' a = H a ∧ G' a = none ∧ F'.H0 a = none) : Rel F' G' H' σ ρ := by
  have one : ∀ (i : Nat) (s : Sl), ρ[i]? = some s → ∃ o, σ[i]? = some o ∧ SlOk F' G' H' o s ∧ (∀ a, Foot H' s o a → Foot H s o a) := fun i s e => by
    obtain ⟨o, e1, q⟩ := r.sl i s e
    obtain ⟨q1, q2⟩ := q.keep sg fun a f => ⟨(k a ⟨i, s, o, e, e1, f⟩).1, (k a ⟨i, s, o, e, e1, f⟩).2.1⟩
    refine ⟨o, e1, ?_, q2⟩
    cases s with
    | un => trivial
    | fz d => obtain ⟨v, e2, a⟩ := q1; exact ⟨v, e2, by rw [hK]; exact a⟩
    | ob ds =>
      obtain ⟨a, xs, e2, h1, h2, h3, h4⟩ := q1
      exact ⟨a, xs, e2, h1, h2, (k a ⟨i, _, o, e, e1, e2⟩).2.2, by rw [hK]; exact h4⟩
    | tr t =>
      obtain ⟨v, e2, w1, w2, w3⟩ := q1
      exact ⟨v, e2, by rw [hK]; exact w1, w2, fun b hb => ⟨(w3 b hb).1, (k b ⟨i, _, o, e, e1, q2 b ⟨v, e2, hb⟩⟩).2.2⟩⟩
  refine ⟨kp, r.len, fun i s e => let ⟨o, e1, q, _⟩ := one i s e; ⟨o, e1, q⟩, fun i j a s s' o o' e1 e2 e3 e4 f1 f2 => ?_⟩
  obtain ⟨u, z1, _, z2⟩ := one i s e1
  rw [e3] at z1; cases z1
  obtain ⟨u, z3, _, z4⟩ := one j s' e2
  rw [e4] at z3; cases z3
  exact r.dj i j a s s' o o' e1 e2 e3 e4 (z2 a f1) (z4 a f2)
theorem Rel.grow (r : Rel F G H σ ρ) (sg : Sub G G') (sh : Sub G' H') (hh : Sub H H') (nw : ∀ b, H b ≠ none → G' b = G b) : Rel F G' H' σ ρ := by
  refine r.over rfl ⟨sh, r.kp.gg.trans sg, r.kp.hh.trans hh, fun b hb => ?_⟩ sg fun a ha => ?_
  · rw [nw b (r.kp.hh.some hb)]; exact r.kp.new b hb
  · obtain ⟨h1, h2, h3⟩ := r.foot ha
    refine ⟨?_, (nw a h1).trans h2, h3⟩
    cases e : H a with
    | none => exact absurd e h1
    | some o => exact hh a o e
theorem Rel.lay (r : Rel F G H σ ρ) {p : Addr} {o : HO} (hp : H p = none) : Rel F (upd G p o) (upd H p o) σ ρ := by
  have gp : G p = none := r.kp.sub.gone hp
  refine r.grow (Sub.upd gp) (Sub.both r.kp.sub) (Sub.upd hp) fun b hb => ?_
  rw [upd_ne]
  intro e; subst e; exact hb hp
theorem Rel.lay0 (r : Rel F G H σ ρ) {p : Addr} {o : HO} (hp : H p = none) : Rel F G (upd H p o) σ ρ :=
  r.grow (Sub.refl _) (Sub.upd2 r.kp.sub (r.kp.sub.gone hp)) (Sub.upd hp) fun _ _ => rfl
theorem Rel.take (r : Rel F G H σ ρ) {p : Addr} {o : HO} (hp : H p = some o) (hg : G p = none) (h0 : F.H0 p = none) (no : ¬ OwnAt H σ ρ p) : Rel F (upd G p o) H σ ρ := by
  refine r.over rfl ⟨Sub.at r.kp.sub hp, r.kp.gg.trans (Sub.upd hg), r.kp.hh, fun b hb => ?_⟩ (Sub.upd hg) fun a ha => ?_
  · rw [upd_ne]
    · exact r.kp.new b hb
    · intro e; subst e; exact hb h0
  · obtain ⟨h1, h2, h3⟩ := r.foot ha
    exact ⟨rfl, by rw [upd_ne (fun z => no (by rw [← z]; exact ha))]; exact h2, h3⟩
theorem Rel.fz (r : Rel F G H σ ρ) {i : Nat} {d : D} (e : ρ[i]? = some (.fz d)) : ∃ v, σ[i]? = some (some v) ∧ At F.K G d v := by
  obtain ⟨o, e1, v, rfl, a⟩ := r.sl i _ e
  exact ⟨v, e1, a⟩
theorem Rel.obj (r : Rel F G H σ ρ) {i : Nat} {o : Ob} (e : ρ[i]? = some (.ob o)) : ∃ a ho, σ[i]? = some (some (.ref a)) ∧ H a = some ho ∧ G a = none ∧ F.H0 a = none ∧ ObAt F.K G o ho := by
  obtain ⟨v, e1, a, ho, rfl, h1, h2, h3, h4⟩ := r.sl i _ e
  exact ⟨a, ho, e1, h1, h2, h3, h4⟩
theorem Rel.own {G H : Hp} {σ : St} {ρ : Rho} (r : Rel F G H σ ρ) {i : Nat} {ds : List D} (e : ρ[i]? = some (.ow ds)) : ∃ a xs, σ[i]? = some (some (.ref a)) ∧ H a = some (.lst xs) ∧ G a = none ∧ F.H0 a = none ∧ AtL F.K G ds xs := by
  obtain ⟨a, ho, e1, h1, h2, h3, xs, rfl, h4⟩ := r.obj e
  exact ⟨a, xs, e1, h1, h2, h3, h4⟩
theorem Rel.tree {G H : Hp} {σ : St} {ρ : Rho} (r : Rel F G H σ ρ) {i : Nat} {t : T} (e : ρ[i]? = some (.tr t)) : ∃ v, σ[i]? = some (some v) ∧ TrOk F G H t v := by
  obtain ⟨o, e1, v, rfl, a⟩ := r.sl i _ e
  exact ⟨v, e1, a⟩
theorem get_set {α : Type} {l : List α} {i j : Nat} {x y : α} (e : (l.set i x)[j]? = some y) : (i = j ∧ y = x) ∨ (i ≠ j ∧ l[j]? = some y) := by
  rw [List.getElem?_set] at e
  by_cases h : i = j
  · rw [if_pos h] at e
    split at e
    · cases e; exact .inl ⟨h, rfl⟩
    · cases e
  · rw [if_neg h] at e; exact .inr ⟨h, e⟩
theorem Rel.setS (r : Rel F G H σ ρ) {i : Nat} {s : Sl} {o : Option V} (hi : i < ρ.length) (q : SlOk F G H o s) (no : ∀ a, Foot H s o a → ∀ (j : Nat) (s' : Sl) (o' : Option V), j ≠ i → ρ[j]? = some s' → σ[j]? = some o' → ¬ Foot H s' o' a) : Rel F G H (σ.set i o) (ρ.set i s) := by
  have hs : i < σ.length := by rw [r.len]; exact hi
  refine ⟨r.kp, by simp [r.len], fun j s e => ?_, fun j k b s1 s2 o1 o2 e1 e2 e3 e4 f1 f2 => ?_⟩
  · rcases get_set e with ⟨rfl, rfl⟩ | ⟨ne, e⟩
    · exact ⟨o, by simp [hs], q⟩
    · rw [List.getElem?_set_ne ne]; exact r.sl j s e
  · rcases get_set e1 with ⟨i1, z1⟩ | ⟨n1, y1⟩
    · subst i1 z1
      rw [List.getElem?_set_self hs] at e3
      cases e3
      rcases get_set e2 with ⟨i2, z2⟩ | ⟨n2, y2⟩
      · exact i2
      · rw [List.getElem?_set_ne n2] at e4
        exact absurd f2 (no b f1 k s2 o2 (Ne.symm n2) y2 e4)
    · rw [List.getElem?_set_ne n1] at e3
      rcases get_set e2 with ⟨i2, z2⟩ | ⟨n2, y2⟩
      · subst i2 z2
        rw [List.getElem?_set_self hs] at e4
        cases e4
        exact absurd f1 (no b f2 j s1 o1 (Ne.symm n1) y1 e3)
      · rw [List.getElem?_set_ne n2] at e4
        exact r.dj j k b s1 s2 o1 o2 y1 y2 e3 e4 f1 f2
theorem Rel.set (r : Rel F G H σ ρ) {i : Nat} {d : D} {v : V} (hi : i < ρ.length) (a : At F.K G d v) : Rel F G H (σ.set i (some v)) (ρ.set i (.fz d)) :=
  r.setS hi ⟨v, rfl, a⟩ fun _ f => f.elim
theorem Rel.setB (r : Rel F G H σ ρ) {i : Nat} {ob : Ob} {a : Addr} {ho : HO} (hi : i < ρ.length) (ha : H a = some ho) (hg : G a = none) (h0 : F.H0 a = none) (q : ObAt F.K G ob ho)
    (no : ∀ (j : Nat) (s : Sl) (o : Option V), j ≠ i → ρ[j]? = some s → σ[j]? = some o → ¬ Foot H s o a) : Rel F G H (σ.set i (some (.ref a))) (ρ.set i (.ob ob)) :=
  r.setS hi ⟨a, ho, rfl, ha, hg, h0, q⟩ fun b f => by
    have f : some (V.ref a) = some (.ref b) := f
    cases f; exact no
theorem Rel.setO (r : Rel F G H σ ρ) {i : Nat} {ds : List D} {a : Addr} {xs : List V} (hi : i < ρ.length) (ha : H a = some (.lst xs)) (hg : G a = none) (h0 : F.H0 a = none) (q : AtL F.K G ds xs)
    (no : ∀ (j : Nat) (s : Sl) (o : Option V), j ≠ i → ρ[j]? = some s → σ[j]? = some o → ¬ Foot H s o a) : Rel F G H (σ.set i (some (.ref a))) (ρ.set i (.ow ds)) := r.setB hi ha hg h0 ⟨xs, rfl, q⟩ no
theorem Rel.mutS (r : Rel F G H σ ρ) {i : Nat} {s s' : Sl} {o : Option V} {a : Addr} {ho : HO} (e : ρ[i]? = some s) (ea : σ[i]? = some o) (fa : Foot H s o a) (q : SlOk F G (upd H a ho) o s') (f : ∀ b, Foot (upd H a ho) s' o b → Foot H s o b ∨ ¬ OwnAt H σ ρ b) :
    Rel F G (upd H a ho) σ (ρ.set i s') := by
  have hi : i < ρ.length := (List.getElem?_eq_some_iff.mp e).1
  obtain ⟨h1, h2, h3⟩ := r.foot ⟨i, s, o, e, ea, fa⟩
  have oth : ∀ (j : Nat) (t : Sl), i ≠ j → ρ[j]? = some t → ∃ u, σ[j]? = some u ∧ SlOk F G (upd H a ho) u t ∧ (∀ b, Foot (upd H a ho) t u b → Foot H t u b) := fun j t ne z => by
    obtain ⟨u, z1, z2⟩ := r.sl j t z
    have na : ¬ Foot H t u a := fun w => ne (r.dj i j a s t o u e z ea z1 fa w)
    obtain ⟨q1, q2⟩ := z2.keep (H' := upd H a ho) (Sub.refl G) fun b fb => ⟨upd_ne fun w => na (w ▸ fb), (z2.foot fb).2.1⟩
    exact ⟨u, z1, q1, q2⟩
  refine ⟨⟨Sub.upd2 r.kp.sub h2, r.kp.gg, fun c u z => ?_, r.kp.new⟩, by simp [r.len], fun j t z => ?_, fun j k c s1 s2 o1 o2 e3 e4 e5 e6 f1 f2 => ?_⟩
  · rw [upd_ne (ne_of_none z h3)]; exact r.kp.hh c u z
  · rcases get_set z with ⟨rfl, rfl⟩ | ⟨ne, z⟩
    · exact ⟨o, ea, q⟩
    · obtain ⟨u, z1, z2, _⟩ := oth j t ne z
      exact ⟨u, z1, z2⟩
  · rcases get_set e3 with ⟨i1, z1⟩ | ⟨n1, x3⟩
    · subst i1 z1
      rw [ea] at e5; cases e5
      rcases get_set e4 with ⟨i2, z2⟩ | ⟨n2, x4⟩
      · exact i2
      · obtain ⟨u, y1, _, y2⟩ := oth k s2 n2 x4
        rw [e6] at y1; cases y1
        have g2 := y2 c f2
        rcases f c f1 with g1 | g1
        · exact r.dj i k c s s2 o o2 e x4 ea e6 g1 g2
        · exact absurd ⟨k, s2, o2, x4, e6, g2⟩ g1
    · obtain ⟨u, y1, _, y2⟩ := oth j s1 n1 x3
      rw [e5] at y1; cases y1
      have g1 := y2 c f1
      rcases get_set e4 with ⟨i2, z2⟩ | ⟨n2, x4⟩
      · subst i2 z2
        rw [ea] at e6; cases e6
        rcases f c f2 with g2 | g2
        · exact r.dj j i c s1 s o1 o x3 e e5 ea g1 g2
        · exact absurd ⟨j, s1, o1, x3, e5, g1⟩ g2
      · obtain ⟨u, y3, _, y4⟩ := oth k s2 n2 x4
        rw [e6] at y3; cases y3
        exact r.dj j k c s1 s2 o1 o2 x3 x4 e5 e6 g1 (y4 c f2)
theorem Rel.mutB (r : Rel F G H σ ρ) {i : Nat} {o o' : Ob} {a : Addr} {ho : HO} (e : ρ[i]? = some (.ob o)) (ea : σ[i]? = some (some (.ref a))) (q : ObAt F.K G o' ho) :
    Rel F G (upd H a ho) σ (ρ.set i (.ob o')) := by
  obtain ⟨b, ho1, e1, h1, h2, h3, h4⟩ := r.obj e
  rw [ea] at e1
  have eb : b = a := by cases e1; rfl
  subst eb
  exact r.mutS e ea rfl ⟨b, ho, rfl, upd_same, h2, h3, q⟩ fun c f => .inl f
theorem Rel.mut (r : Rel F G H σ ρ) {i : Nat} {ds ds' : List D} {a : Addr} {ys : List V} (e : ρ[i]? = some (.ow ds)) (ea : σ[i]? = some (some (.ref a))) (q : AtL F.K G ds' ys) :
    Rel F G (upd H a (.lst ys)) σ (ρ.set i (.ow ds')) := r.mutB e ea ⟨ys, rfl, q⟩
theorem Rel.frz (r : Rel F G H σ ρ) {i : Nat} {o : Ob} (e : ρ[i]? = some (.ob o)) : ∃ G', Rel F G' H σ (ρ.set i (.fz (obD o))) ∧ Sub G G' := by
  have hi : i < ρ.length := (List.getElem?_eq_some_iff.mp e).1
  obtain ⟨a, ho, e1, h1, h2, h3, h4⟩ := r.obj e
  have un : Rel F G H σ (ρ.set i .un) := by
    have z := r.setS (s := .un) (o := some (.ref a)) hi trivial fun _ f => f.elim
    rw [L3.set_self e1] at z; exact z
  have no : ¬ OwnAt H σ (ρ.set i .un) a := fun ⟨j, s, u, y1, y2, y3⟩ => by
    rcases get_set y1 with ⟨_, z⟩ | ⟨ne, y1⟩
    · subst z; exact y3
    · exact ne (r.dj i j a _ s _ u e y1 e1 y2 rfl y3)
  have r2 := un.take h1 h2 h3 no
  have r3 := r2.setS (i := i) (s := .fz (obD o)) (o := some (.ref a)) (by simpa using hi) ⟨.ref a, rfl, (h4.mono (Sub.upd h2)).at upd_same⟩ fun _ f => f.elim
  rw [L3.set_self e1, List.set_set] at r3
  exact ⟨upd G a ho, r3, Sub.upd h2⟩
end
end L3
set_option Elab.async false
set_option linter.all false
namespace L3
open PySem L2
noncomputable abbrev ME := Rho → R D
noncomputable abbrev MT := Rho → R Bool
noncomputable abbrev MA := Rho → R (List D)
inductive Fl where
  | nx (ρ : Rho) | rt (d : D) | ro (ds : List D) | bk (ρ : Rho) | ct (ρ : Rho) | rn (t : T)
noncomputable abbrev MS := Rho → R Fl
noncomputable def kX (F : Fx) (c : Str) : Prop := ∀ G' H', Kp F G' H' → F.EX c H'
noncomputable def kE (F : Fx) (G H : Hp) (σ : St) (ρ : Rho) (Q : VK) : R D → Prop
  | .ok d => ∀ v H' G', Rel F G' H' σ ρ → Up G H G' H' → At F.K G' d v → Q v H'
  | .exc c => kX F c
  | .bad => False
noncomputable def kT (F : Fx) (G H : Hp) (σ : St) (ρ : Rho) (Q : Bool → Hp → Prop) : R Bool → Prop
  | .ok b => ∀ H' G', Rel F G' H' σ ρ → Up G H G' H' → Q b H'
  | .exc c => kX F c
  | .bad => False
noncomputable def kA (F : Fx) (G H : Hp) (σ : St) (ρ : Rho) (Q : List V → Hp → Prop) : R (List D) → Prop
  | .ok ds => ∀ vs H' G', Rel F G' H' σ ρ → Up G H G' H' → AtL F.K G' ds vs → Q vs H'
  | .exc c => kX F c
  | .bad => False
noncomputable def kO (F : Fx) (G H : Hp) (σ : St) (ρ : Rho) (Q : VK) : R (List D) → Prop
  | .ok ds => ∀ a xs H' G', Rel F G' H' σ ρ → Up G H G' H' → H a = none → H' a = some (.lst xs) → G' a = none → AtL F.K G' ds xs → Q (.ref a) H'
  | .exc c => kX F c
  | .bad => False
noncomputable def kS (F : Fx) (G : Hp) (De : Ends) : R Fl → Prop
  | .ok (.nx ρ') => ∀ σ' G' H', Rel F G' H' σ' ρ' → Sub G G' → De.nx σ' H'
  | .ok (.bk ρ') => ∀ σ' G' H', Rel F G' H' σ' ρ' → Sub G G' → De.bk σ' H'
  | .ok (.ct ρ') => ∀ σ' G' H', Rel F G' H' σ' ρ' → Sub G G' → De.ct σ' H'
  | .ok (.rt d) => ∀ v G' H', Kp F G' H' → At F.K G' d v → De.rt v H'
  | .ok (.ro ds) => ∀ a xs G' H', Kp F G' H' → G' a = none → F.H0 a = none → H' a = some (.lst xs) → AtL F.K G' ds xs → De.rt (.ref a) H'
  | .ok (.rn t) => ∀ v G' H', Kp F G' H' → TrOk F G' H' t v → De.rt v H'
  | .exc c => kX F c
  | .bad => False
noncomputable def tE (F : Fx) (m : ME) : TE := fun σ H Q => ∃ G ρ, Rel F G H σ ρ ∧ kE F G H σ ρ Q (m ρ)
noncomputable def tT (F : Fx) (m : MT) : TT := fun σ H Q => ∃ G ρ, Rel F G H σ ρ ∧ kT F G H σ ρ Q (m ρ)
noncomputable def tA (F : Fx) (m : MA) : TA := fun σ H Q => ∃ G ρ, Rel F G H σ ρ ∧ kA F G H σ ρ Q (m ρ)
noncomputable def tO (F : Fx) (m : MA) : TE := fun σ H Q => ∃ G ρ, Rel F G H σ ρ ∧ kO F G H σ ρ Q (m ρ)
noncomputable def tS (F : Fx) (m : MS) : TS := fun De σ H => ∃ G ρ, Rel F G H σ ρ ∧ kS F G De (m ρ)
section
variable {F : Fx} {G G1 H H1 : Hp} {σ : St} {ρ : Rho}
theorem kE.mono {Q : VK} (s : Up G H G1 H1) : ∀ {r : R D}, kE F G H σ ρ Q r → kE F G1 H1 σ ρ Q r
  | .ok _, h => fun v H' G' r sg a => h v H' G' r (s.trans sg) a
  | .exc _, h => h
  | .bad, h => h
theorem kT.mono {Q : Bool → Hp → Prop} (s : Up G H G1 H1) : ∀ {r : R Bool}, kT F G H σ ρ Q r → kT F G1 H1 σ ρ Q r
  | .ok _, h => fun H' G' r sg => h H' G' r (s.trans sg)
  | .exc _, h => h
  | .bad, h => h
theorem kS.mono {De : Ends} (s : Sub G G1) : ∀ {r : R Fl}, kS F G De r → kS F G1 De r
  | .ok (.nx _), h => fun σ' G' H' r sg => h σ' G' H' r (s.trans sg)
  | .ok (.bk _), h => fun σ' G' H' r sg => h σ' G' H' r (s.trans sg)
  | .ok (.ct _), h => fun σ' G' H' r sg => h σ' G' H' r (s.trans sg)
  | .ok (.rt _), h => h
  | .ok (.ro _), h => h
  | .ok (.rn _), h => h
  | .exc _, h => h
  | .bad, h => h
end
noncomputable abbrev ImpE (t' t : TE) : Prop := ∀ σ H Q, t' σ H Q → t σ H Q
noncomputable abbrev ImpT (t' t : TT) : Prop := ∀ σ H Q, t' σ H Q → t σ H Q
noncomputable abbrev ImpA (t' t : TA) : Prop := ∀ σ H Q, t' σ H Q → t σ H Q
noncomputable abbrev ImpS (t' t : TS) : Prop := ∀ De σ H, t' De σ H → t De σ H
noncomputable def mVar (i : Nat) : ME := fun ρ => match ρ[i]? with
  | some (.fz d) => .ok d
  | _ => .bad
noncomputable def mC (d : D) : ME := fun _ => .ok d
section
variable {F : Fx}
theorem i_var (i : Nat) : ImpE (tE F (mVar i)) (tVar i) := by
  rintro σ H Q ⟨G, ρ, r, h⟩
  unfold mVar at h
  cases e : ρ[i]? with
  | none => rw [e] at h; exact h.elim
  | some s =>
    rw [e] at h
    cases s with
    | un => exact h.elim
    | ob _ => exact h.elim
    | tr _ => exact h.elim
    | fz d =>
      obtain ⟨v, e1, a⟩ := r.fz e
      exact ⟨v, e1, h v H G r (Up.refl _ _) a⟩
theorem i_C {d : D} {v : V} (a : ∀ G, At F.K G d v) : ImpE (tE F (mC d)) (tC v) := by
  rintro σ H Q ⟨G, ρ, r, h⟩
  exact h v H G r (Up.refl _ _) (a G)
noncomputable def mBin (f : D → D → R D) (a b : ME) : ME := fun ρ => (a ρ).bind fun x => (b ρ).bind fun y => f x y
noncomputable def OpOk (F : Fx) (r : R2) (f : D → D → R D) : Prop := ∀ σ ρ G H x y dx dy Q, Rel F G H σ ρ → At F.K G dx x → At F.K G dy y → kE F G H σ ρ Q (f dx dy) → r x y H Q
theorem i_bin {r : R2} {f : D → D → R D} {ma mb : ME} (ho : OpOk F r f) : ImpE (tE F (mBin f ma mb)) (tOp r (tE F ma) (tE F mb)) := by
  rintro σ H Q ⟨G, ρ, r, h⟩
  unfold mBin at h
  refine ⟨G, ρ, r, ?_⟩
  cases ea : ma ρ with
  | bad => rw [ea] at h; exact h.elim
  | exc c => rw [ea] at h; exact h
  | ok dx =>
    rw [ea, R.bind_ok] at h
    intro x H1 G1 r1 s1 ax
    refine ⟨G1, ρ, r1, ?_⟩
    cases eb : mb ρ with
    | bad => rw [eb] at h; exact h.elim
    | exc c => rw [eb] at h; exact h
    | ok dy =>
      rw [eb, R.bind_ok] at h
      intro y H2 G2 r2 s2 ay
      exact ho σ ρ G2 H2 x y dx dy Q r2 (ax.mono s2.g) ay (h.mono (s1.trans s2))
noncomputable def mUn (f : D → R D) (a : ME) : ME := fun ρ => (a ρ).bind f
noncomputable def UnOk (F : Fx) (r : V → Hp → VK → Prop) (f : D → R D) : Prop := ∀ σ ρ G H x dx Q, Rel F G H σ ρ → At F.K G dx x → kE F G H σ ρ Q (f dx) → r x H Q
theorem i_un {r : V → Hp → VK → Prop} {f : D → R D} {ma : ME} (ho : UnOk F r f) : ImpE (tE F (mUn f ma)) (tUn r (tE F ma)) := by
  rintro σ H Q ⟨G, ρ, r, h⟩
  unfold mUn at h
  refine ⟨G, ρ, r, ?_⟩
  cases ea : ma ρ with
  | bad => rw [ea] at h; exact h.elim
  | exc c => rw [ea] at h; exact h
  | ok dx =>
    rw [ea, R.bind_ok] at h
    intro x H1 G1 r1 s1 ax
    exact ho σ ρ G1 H1 x dx Q r1 ax (h.mono s1)
noncomputable def mNil : MA := fun _ => .ok []
noncomputable def mCons (a : ME) (r : MA) : MA := fun ρ => (a ρ).bind fun x => (r ρ).bind fun xs => .ok (x :: xs)
theorem i_nil : ImpA (tA F mNil) tNil := by
  rintro σ H Q ⟨G, ρ, r, h⟩
  exact h [] H G r (Up.refl _ _) .nil
theorem i_cons {ma : ME} {mr : MA} : ImpA (tA F (mCons ma mr)) (tCons (tE F ma) (tA F mr)) := by
  rintro σ H Q ⟨G, ρ, r, h⟩
  unfold mCons at h
  refine ⟨G, ρ, r, ?_⟩
  cases ea : ma ρ with
  | bad => rw [ea] at h; exact h.elim
  | exc c => rw [ea] at h; exact h
  | ok dx =>
    rw [ea, R.bind_ok] at h
    intro x H1 G1 r1 s1 ax
    refine ⟨G1, ρ, r1, ?_⟩
    cases eb : mr ρ with
    | bad => rw [eb] at h; exact h.elim
    | exc c => rw [eb] at h; exact h
    | ok dy =>
      rw [eb, R.bind_ok] at h
      intro y H2 G2 r2 s2 ay
      exact h (x :: y) H2 G2 r2 (s1.trans s2) (.cons (ax.mono s2.g) ay)
noncomputable def mTup (m : MA) : ME := fun ρ => (m ρ).bind fun xs => if xs.length ≤ 1000000 then .ok (.tup xs) else .bad
theorem i_tup {m : MA} : ImpE (tE F (mTup m)) (tTup (tA F m)) := by
  rintro σ H Q ⟨G, ρ, r, h⟩
  unfold mTup at h
  refine ⟨G, ρ, r, ?_⟩
  cases ea : m ρ with
  | bad => rw [ea] at h; exact h.elim
  | exc c => rw [ea] at h; exact h
  | ok ds =>
    rw [ea, R.bind_ok] at h
    intro vs H1 G1 r1 s1 a
    by_cases hl : ds.length ≤ 1000000
    · rw [if_pos hl] at h
      refine ⟨by rw [← a.length]; exact Nat.le_trans hl (by decide), fun p hp => ?_⟩
      refine h (.ref p) _ _ (r1.lay hp) (s1.trans (Up.lay r1.kp.sub hp)) ?_
      simp only [At]
      exact ⟨p, vs, rfl, upd_same, a.mono (Sub.upd (r1.kp.sub.gone hp))⟩
    · rw [if_neg hl] at h; exact h.elim
theorem OwnAt.some {G H : Hp} {σ : St} {ρ : Rho} (r : Rel F G H σ ρ) {a : Addr} (h : OwnAt H σ ρ a) : ∃ xs, H a = some xs := by
  cases e : H a with
  | none => exact absurd e (r.foot h).1
  | some o => exact ⟨o, rfl⟩
theorem OwnAt.back {G H H' : Hp} {σ : St} {ρ : Rho} (r : Rel F G H σ ρ) (s : Sub H H') {a : Addr} (h : OwnAt H' σ ρ a) : OwnAt H σ ρ a := by
  obtain ⟨i, sl, o, e1, e2, f⟩ := h
  refine ⟨i, sl, o, e1, e2, ?_⟩
  obtain ⟨o', e3, q⟩ := r.sl i sl e1
  rw [e2] at e3; cases e3
  exact (q.keep (G' := G) (H' := H') (Sub.refl _) fun b fb => ⟨by
    cases e : H b with
    | none => exact absurd e (q.foot fb).1
    | some u => exact s b u e, (q.foot fb).2.1⟩).2 a f
theorem OwnAt.fresh {G H H' : Hp} {σ : St} {ρ : Rho} (r : Rel F G H σ ρ) (s : Sub H H') {a : Addr} (n : H a = none) : ¬ OwnAt H' σ ρ a := fun h => (r.foot (h.back r s)).1 n
noncomputable def lim (xs : List D) : R (List D) := if xs.length ≤ 1000000 then .ok xs else .bad
noncomputable def mLim (m : MA) : MA := fun ρ => (m ρ).bind lim
theorem i_lst {m : MA} : ImpE (tO F (mLim m)) (tLst (tA F m)) := by
  rintro σ H Q ⟨G, ρ, r, h⟩
  unfold mLim lim at h
  refine ⟨G, ρ, r, ?_⟩
  cases ea : m ρ with
  | bad => rw [ea] at h; exact h.elim
  | exc c => rw [ea] at h; exact h
  | ok ds =>
    rw [ea, R.bind_ok] at h
    intro vs H1 G1 r1 s1 a
    by_cases hl : ds.length ≤ 1000000
    · rw [if_pos hl] at h
      refine ⟨by rw [← a.length]; exact Nat.le_trans hl (by decide), fun p hp => ?_⟩
      exact h p vs _ G1 (r1.lay0 hp) (s1.trans (Up.lay0 hp)) (s1.h.gone hp) upd_same (r1.kp.sub.gone hp) a
    · rw [if_neg hl] at h; exact h.elim
noncomputable def mFz (m : MA) : ME := fun ρ => (m ρ).bind fun xs => .ok (.lst xs)
theorem i_fz {m : MA} : ImpE (tE F (mFz m)) (tO F m) := by
  rintro σ H Q ⟨G, ρ, r, h⟩
  unfold mFz at h
  refine ⟨G, ρ, r, ?_⟩
  cases ea : m ρ with
  | bad => rw [ea] at h; exact h.elim
  | exc c => rw [ea] at h; exact h
  | ok ds =>
    rw [ea, R.bind_ok] at h
    intro a xs H' G' r' s' hn ha hg q
    refine h (.ref a) H' _ (r'.take ha hg (r.kp.hh.gone hn) (OwnAt.fresh r s'.h hn)) (s'.put hn hg) ?_
    simp only [At]
    exact ⟨a, xs, rfl, upd_same, q.mono (Sub.upd hg)⟩
noncomputable def asB : D → R Bool
  | .bl b => .ok b
  | _ => .bad
noncomputable def mB (m : ME) : MT := fun ρ => (m ρ).bind asB
theorem i_B {m : ME} : ImpT (tT F (mB m)) (tB (tE F m)) := by
  rintro σ H Q ⟨G, ρ, r, h⟩
  unfold mB at h
  refine ⟨G, ρ, r, ?_⟩
  cases ea : m ρ with
  | bad => rw [ea] at h; exact h.elim
  | exc c => rw [ea] at h; exact h
  | ok d =>
    rw [ea, R.bind_ok] at h
    intro x H1 G1 r1 s1 ax
    cases d <;> first
      | (exact h.elim)
      | (simp only [At] at ax; exact ⟨_, ax, h H1 G1 r1 s1⟩)
theorem i_Test {m : ME} : ImpT (tT F (mB m)) (tTest (tE F m)) := i_B
noncomputable def mAnd (a b : MT) : MT := fun ρ => (a ρ).bind fun c => if c = true then b ρ else .ok false
noncomputable def mOr (a b : MT) : MT := fun ρ => (a ρ).bind fun c => if c = true then .ok true else b ρ
noncomputable def mNot (a : MT) : MT := fun ρ => (a ρ).bind fun c => .ok (!c)
theorem i_or {a b : MT} : ImpT (tT F (mOr a b)) (tOr (tT F a) (tT F b)) := by
  rintro σ H Q ⟨G, ρ, r, h⟩
  unfold mOr at h
  refine ⟨G, ρ, r, ?_⟩
  cases ea : a ρ with
  | bad => rw [ea] at h; exact h.elim
  | exc c => rw [ea] at h; exact h
  | ok c =>
    rw [ea, R.bind_ok] at h
    intro H1 G1 r1 s1
    cases c with
    | true => exact h H1 G1 r1 s1
    | false => exact ⟨G1, ρ, r1, kT.mono s1 h⟩
theorem i_not {a : MT} : ImpT (tT F (mNot a)) (tNot (tT F a)) := by
  rintro σ H Q ⟨G, ρ, r, h⟩
  unfold mNot at h
  refine ⟨G, ρ, r, ?_⟩
  cases ea : a ρ with
  | bad => rw [ea] at h; exact h.elim
  | exc c => rw [ea] at h; exact h
  | ok c => rw [ea, R.bind_ok] at h; exact h
noncomputable def mAndV (a b : ME) : ME := fun ρ => (a ρ).bind fun x => (asB x).bind fun c => if c = true then b ρ else .ok (.bl false)
noncomputable def mOrV (a b : ME) : ME := fun ρ => (a ρ).bind fun x => (asB x).bind fun c => if c = true then .ok (.bl true) else b ρ
noncomputable def mNotV (a : ME) : ME := fun ρ => (a ρ).bind fun x => (asB x).bind fun c => .ok (.bl (!c))
theorem i_andV {a b : ME} : ImpE (tE F (mAndV a b)) (tAndV (tE F a) (tE F b)) := by
  rintro σ H Q ⟨G, ρ, r, h⟩
  unfold mAndV at h
  refine ⟨G, ρ, r, ?_⟩
  cases ea : a ρ with
  | bad => rw [ea] at h; exact h.elim
  | exc c => rw [ea] at h; exact h
  | ok d =>
    rw [ea, R.bind_ok] at h
    intro x H1 G1 r1 s1 ax
    cases d with
    | bl c =>
      simp only [At] at ax
      refine ⟨c, ax, ?_⟩
      cases c with
      | true => exact ⟨G1, ρ, r1, kE.mono s1 h⟩
      | false => exact h _ H1 G1 r1 s1 (by simp only [At])
    | _ => exact h.elim
theorem i_orV {a b : ME} : ImpE (tE F (mOrV a b)) (tOrV (tE F a) (tE F b)) := by
  rintro σ H Q ⟨G, ρ, r, h⟩
  unfold mOrV at h
  refine ⟨G, ρ, r, ?_⟩
  cases ea : a ρ with
  | bad => rw [ea] at h; exact h.elim
  | exc c => rw [ea] at h; exact h
  | ok d =>
    rw [ea, R.bind_ok] at h
    intro x H1 G1 r1 s1 ax
    cases d with
    | bl c =>
      simp only [At] at ax
      refine ⟨c, ax, ?_⟩
      cases c with
      | false => exact ⟨G1, ρ, r1, kE.mono s1 h⟩
      | true => exact h _ H1 G1 r1 s1 (by simp only [At])
    | _ => exact h.elim
theorem i_notV {a : ME} : ImpE (tE F (mNotV a)) (tNotV (tE F a)) := by
  rintro σ H Q ⟨G, ρ, r, h⟩
  unfold mNotV at h
  refine ⟨G, ρ, r, ?_⟩
  cases ea : a ρ with
  | bad => rw [ea] at h; exact h.elim
  | exc c => rw [ea] at h; exact h
  | ok d =>
    rw [ea, R.bind_ok] at h
    intro x H1 G1 r1 s1 ax
    cases d with
    | bl c =>
      simp only [At] at ax
      exact ⟨c, ax, h _ H1 G1 r1 s1 (by simp only [At])⟩
    | _ => exact h.elim
noncomputable def mIf (c : MT) (a b : ME) : ME := fun ρ => (c ρ).bind fun k => if k = true then a ρ else b ρ
theorem i_if {c : MT} {a b : ME} : ImpE (tE F (mIf c a b)) (tIf (tT F c) (tE F a) (tE F b)) := by
  rintro σ H Q ⟨G, ρ, r, h⟩
  unfold mIf at h
  refine ⟨G, ρ, r, ?_⟩
  cases ea : c ρ with
  | bad => rw [ea] at h; exact h.elim
  | exc c => rw [ea] at h; exact h
  | ok k =>
    rw [ea, R.bind_ok] at h
    intro H1 G1 r1 s1
    cases k with
    | true => exact ⟨G1, ρ, r1, kE.mono s1 h⟩
    | false => exact ⟨G1, ρ, r1, kE.mono s1 h⟩
noncomputable def mNext : MS := fun ρ => .ok (.nx ρ)
noncomputable def mSeq (a b : MS) : MS := fun ρ => (a ρ).bind fun f => match f with
  | .nx ρ' => b ρ'
  | f => .ok f
theorem i_next : ImpS (tS F mNext) tNext := by
  rintro De σ H ⟨G, ρ, r, h⟩
  exact h σ G H r (Sub.refl _)
theorem i_seq {a b : MS} : ImpS (tS F (mSeq a b)) (tSeq (tS F a) (tS F b)) := by
  rintro De σ H ⟨G, ρ, r, h⟩
  unfold mSeq at h
  refine ⟨G, ρ, r, ?_⟩
  cases ea : a ρ with
  | bad => rw [ea] at h; exact h.elim
  | exc c => rw [ea] at h; exact h
  | ok f =>
    rw [ea, R.bind_ok] at h
    cases f with
    | nx ρ' => exact fun σ' G' H' r' s' => ⟨G', ρ', r', kS.mono s' h⟩
    | rt d => exact h
    | ro d => exact h
    | bk d => exact h
    | ct d => exact h
    | rn d => exact h
noncomputable def mRet (a : ME) : MS := fun ρ => (a ρ).bind fun d => .ok (.rt d)
theorem i_ret {a : ME} : ImpS (tS F (mRet a)) (tRet (tE F a)) := by
  rintro De σ H ⟨G, ρ, r, h⟩
  unfold mRet at h
  refine ⟨G, ρ, r, ?_⟩
  cases ea : a ρ with
  | bad => rw [ea] at h; exact h.elim
  | exc c => rw [ea] at h; exact h
  | ok d => rw [ea, R.bind_ok] at h; exact fun v H' G' r' s' a => h v G' H' r'.kp a
noncomputable def mRetO (a : MA) : MS := fun ρ => (a ρ).bind fun d => .ok (.ro d)
theorem i_retO {a : MA} : ImpS (tS F (mRetO a)) (tRet (tO F a)) := by
  rintro De σ H ⟨G, ρ, r, h⟩
  unfold mRetO at h
  refine ⟨G, ρ, r, ?_⟩
  cases ea : a ρ with
  | bad => rw [ea] at h; exact h.elim
  | exc c => rw [ea] at h; exact h
  | ok d => rw [ea, R.bind_ok] at h; exact fun a xs H' G' r' s' h1 h2 h3 h4 => h a xs G' H' r'.kp h3 (r.kp.hh.gone h1) h2 h4
noncomputable def mVarO (i : Nat) : MA := fun ρ => match ρ[i]? with
  | some (.ob (.lst d)) => .ok d
  | _ => .bad
theorem i_retV (i : Nat) : ImpS (tS F (mRetO (mVarO i))) (tRet (tVar i)) := by
  rintro De σ H ⟨G, ρ, r, h⟩
  unfold mRetO mVarO at h
  cases e : ρ[i]? with
  | none => rw [e] at h; exact h.elim
  | some s =>
    rw [e] at h
    cases s with
    | un => exact h.elim
    | fz _ => exact h.elim
    | tr _ => exact h.elim
    | ob o =>
      cases o with
      | lst ds =>
        obtain ⟨a, xs, e1, h1, h2, h3, h4⟩ := r.own e
        exact ⟨.ref a, e1, h a xs G H r.kp h2 h3 h1 h4⟩
      | dT _ _ => exact h.elim
      | ins _ _ _ => exact h.elim
noncomputable def mIfS (c : MT) (a b : MS) : MS := fun ρ => (c ρ).bind fun k => if k = true then a ρ else b ρ
theorem i_ifS {c : MT} {a b : MS} : ImpS (tS F (mIfS c a b)) (tIfS (tT F c) (tS F a) (tS F b)) := by
  rintro De σ H ⟨G, ρ, r, h⟩
  unfold mIfS at h
  refine ⟨G, ρ, r, ?_⟩
  cases ea : c ρ with
  | bad => rw [ea] at h; exact h.elim
  | exc c => rw [ea] at h; exact h
  | ok k =>
    rw [ea, R.bind_ok] at h
    intro H1 G1 r1 s1
    cases k with
    | true => exact ⟨G1, ρ, r1, kS.mono s1.g h⟩
    | false => exact ⟨G1, ρ, r1, kS.mono s1.g h⟩
noncomputable def setV (i : Nat) (d : D) (ρ : Rho) : R Rho := if i < ρ.length then .ok (ρ.set i (.fz d)) else .bad
noncomputable def mSet (i : Nat) (a : ME) : MS := fun ρ => (a ρ).bind fun d => (setV i d ρ).bind fun ρ' => .ok (.nx ρ')
theorem i_set {i : Nat} {a : ME} : ImpS (tS F (mSet i a)) (tAsg (tE F a) (gName i)) := by
  rintro De σ H ⟨G, ρ, r, h⟩
  unfold mSet setV at h
  refine ⟨G, ρ, r, ?_⟩
  cases ea : a ρ with
  | bad => rw [ea] at h; exact h.elim
  | exc c => rw [ea] at h; exact h
  | ok d =>
    rw [ea, R.bind_ok] at h
    intro v H1 G1 r1 s1 av
    by_cases hi : i < ρ.length
    · rw [if_pos hi] at h
      exact h _ G1 H1 (r1.set hi av) s1.g
    · rw [if_neg hi] at h; exact h.elim
noncomputable def mSetO (i : Nat) (a : MA) : MS := fun ρ => (a ρ).bind fun ds => if i < ρ.length then .ok (.nx (ρ.set i (.ow ds))) else .bad
theorem i_setO {i : Nat} {a : MA} : ImpS (tS F (mSetO i a)) (tAsg (tO F a) (gName i)) := by
  rintro De σ H ⟨G, ρ, r, h⟩
  unfold mSetO at h
  refine ⟨G, ρ, r, ?_⟩
  cases ea : a ρ with
  | bad => rw [ea] at h; exact h.elim
  | exc c => rw [ea] at h; exact h
  | ok ds =>
    rw [ea, R.bind_ok] at h
    intro b xs H1 G1 r1 s1 h1 h2 h3 h4
    by_cases hi : i < ρ.length
    · rw [if_pos hi] at h
      exact h _ G1 H1 (r1.setO hi h2 h3 (r.kp.hh.gone h1) h4 fun j es o _ e1 e2 f => OwnAt.fresh r s1.h h1 ⟨j, es, o, e1, e2, f⟩) s1.g
    · rw [if_neg hi] at h; exact h.elim
noncomputable def frz1 (i : Nat) (ρ : Rho) : Rho := match ρ[i]? with
  | some (.ob o) => ρ.set i (.fz (obD o))
  | _ => ρ
theorem Rel.frz1 {G H : Hp} {σ : St} {ρ : Rho} (r : Rel F G H σ ρ) (i : Nat) : ∃ G', Rel F G' H σ (L3.frz1 i ρ) ∧ Sub G G' := by
  unfold L3.frz1
  cases e : ρ[i]? with
  | none => exact ⟨G, r, Sub.refl _⟩
  | some s =>
    cases s with
    | un => exact ⟨G, r, Sub.refl _⟩
    | fz _ => exact ⟨G, r, Sub.refl _⟩
    | tr _ => exact ⟨G, r, Sub.refl _⟩
    | ob o => exact r.frz e
noncomputable def mFrz (i : Nat) (m : MS) : MS := fun ρ => m (frz1 i ρ)
theorem i_frz {i : Nat} {m : MS} : ImpS (tS F (mFrz i m)) (tS F m) := by
  rintro De σ H ⟨G, ρ, r, h⟩
  obtain ⟨G1, r1, s1⟩ := r.frz1 i
  exact ⟨G1, _, r1, kS.mono s1 h⟩
noncomputable def scalD : D → Bool
  | .non => true | .bl _ => true | .int _ => true | .str _ => true
  | _ => false
noncomputable def frzS : Sl → Sl
  | .ob o => .fz (obD o)
  | .tr t => .fz (toD t)
  | s => s
noncomputable def frzA (ρ : Rho) : Rho := ρ.map frzS
open Classical in
noncomputable def gPlus (σ : St) (ρ : Rho) (G H : Hp) : Hp := fun b => if OwnAt H σ ρ b then H b else G b
theorem gPlus_sub {G H : Hp} {σ : St} {ρ : Rho} (r : Rel F G H σ ρ) : Sub G (gPlus σ ρ G H) := fun b o e => by
  unfold gPlus
  split
  · exact r.kp.sub b o e
  · exact e
theorem gPlus_own {G H : Hp} {σ : St} {ρ : Rho} {b : Addr} (h : OwnAt H σ ρ b) : gPlus σ ρ G H b = H b := by
  unfold gPlus
  rw [if_pos h]
theorem frzA_foot {H : Hp} {ρ : Rho} {i : Nat} {s : Sl} (e : (frzA ρ)[i]? = some s) (o : Option V) (a : Addr) : ¬ Foot H s o a := by
  unfold frzA at e
  rw [List.getElem?_map] at e
  cases e2 : ρ[i]? with
  | none => rw [e2] at e; cases e
  | some t =>
    rw [e2] at e
    have es : frzS t = s := Option.some.inj e
    subst es
    cases t <;> exact fun z => z
theorem Rel.plus {G H : Hp} {σ : St} {ρ : Rho} (r : Rel F G H σ ρ) : Rel F (gPlus σ ρ G H) H σ (frzA ρ) := by
  have sg := gPlus_sub r
  refine ⟨⟨fun b o e => ?_, r.kp.gg.trans sg, r.kp.hh, fun b hb => ?_⟩, by simp [frzA, r.len], fun i s e => ?_, fun i j a s s' o o' e1 _ _ _ f _ => absurd f (frzA_foot e1 o a)⟩
  · unfold gPlus at e
    split at e
    · exact e
    · exact r.kp.sub b o e
  · unfold gPlus
    split
    · rename_i z
      exact absurd (r.foot z).2.2 hb
    · exact r.kp.new b hb
  · unfold frzA at e
    rw [List.getElem?_map] at e
    cases e1 : ρ[i]? with
    | none => rw [e1] at e; cases e
    | some t =>
      rw [e1] at e
      have es : frzS t = s := Option.some.inj e
      obtain ⟨o, e2, q⟩ := r.sl i t e1
      refine ⟨o, e2, ?_⟩
      subst es
      cases t with
      | un => trivial
      | fz d => obtain ⟨v, e3, a⟩ := q; exact ⟨v, e3, a.mono sg⟩
      | ob ds =>
        obtain ⟨a, ho, e3, h1, h2, h3, h4⟩ := q
        subst e3
        exact ⟨.ref a, rfl, (h4.mono sg).at (by rw [gPlus_own (.ob e1 e2)]; exact h1)⟩
      | tr t =>
        obtain ⟨v, e3, q⟩ := q
        exact ⟨v, e3, q.at_.view sg fun a ha => gPlus_own ⟨i, _, o, e1, e2, v, e3, ha⟩⟩
theorem Rel.back {G H G' H' : Hp} {σ : St} {ρ : Rho} (r : Rel F G H σ ρ) (r' : Rel F G' H' σ (frzA ρ)) (s : Sub (gPlus σ ρ G H) G') : Rel F G H' σ ρ :=
  r.over rfl ⟨(gPlus_sub r).trans (s.trans r'.kp.sub), r.kp.gg, r'.kp.hh, r.kp.new⟩ (Sub.refl _) fun a ha => by
    obtain ⟨h1, h2, h3⟩ := r.foot ha
    refine ⟨?_, h2, h3⟩
    cases e : H a with
    | none => exact absurd e h1
    | some o => exact r'.kp.sub _ _ (s _ _ (by rw [gPlus_own ha]; exact e))
noncomputable def onlyS (d : D) : R D := if scalD d = true then .ok d else .bad
noncomputable def mBor (m : ME) : ME := fun ρ => (m (frzA ρ)).bind onlyS
noncomputable def mBorT (m : MT) : MT := fun ρ => m (frzA ρ)
theorem i_borT {m : MT} : ImpT (tT F (mBorT m)) (tT F m) := by
  rintro σ H Q ⟨G, ρ, r, h⟩
  refine ⟨gPlus σ ρ G H, frzA ρ, r.plus, ?_⟩
  unfold mBorT at h
  cases ea : m (frzA ρ) with
  | bad => rw [ea] at h; exact h.elim
  | exc c => rw [ea] at h; exact h
  | ok d =>
    rw [ea] at h
    exact fun H' G' r' s' => h H' G (r.back r' s'.g) ⟨Sub.refl _, s'.h, fun _ _ => rfl⟩
end
end L3
set_option Elab.async false
set_option linter.all false
namespace L3
open PySem L2
section
variable {F : Fx}
structure ItOk (K : PySem.W.Frag) (J : It) (ds : List D) (G : Hp) : Prop where
  go : ∀ (i : Nat) (H : Hp), Sub G H → i < ds.length → J.go i H
  yld : ∀ (i : Nat) (H : Hp) (x : V) (H' : Hp), Sub G H → i < ds.length → J.yld i H x H' → ∃ d, ds[i]? = some d ∧
    ((H' = H ∧ At K G d x) ∨ ∃ p xs es, H p = none ∧ H' = upd H p (.tup xs) ∧ x = .ref p ∧ d = .tup es ∧ AtL K G es xs)
  stop : ∀ (H : Hp), Sub G H → J.stop ds.length H
noncomputable def kI (F : Fx) (G H : Hp) (σ : St) (ρ : Rho) (Q : It → Hp → Prop) : R (List D) → Prop
  | .ok ds => ∀ J H' G', Rel F G' H' σ ρ → Up G H G' H' → ItOk F.K J ds G' → Q J H'
  | .exc c => kX F c
  | .bad => False
noncomputable def tI (F : Fx) (m : MA) : TI := fun σ H Q => ∃ G ρ, Rel F G H σ ρ ∧ kI F G H σ ρ Q (m ρ)
noncomputable abbrev ImpI (t' t : TI) : Prop := ∀ σ H Q, t' σ H Q → t σ H Q
theorem ItOk.turn {J : It} {ds : List D} {G G1 H H' : Hp} {σ : St} {ρ : Rho} {i : Nat} {x : V} (t : ItOk F.K J ds G) (r : Rel F G1 H σ ρ) (s : Sub G G1) (hi : i < ds.length) (y : J.yld i H x H') :
    ∃ d G', ds[i]? = some d ∧ Rel F G' H' σ ρ ∧ Up G1 H G' H' ∧ At F.K G' d x := by
  obtain ⟨d, e, h⟩ := t.yld i H x H' (s.trans r.kp.sub) hi y
  rcases h with ⟨rfl, a⟩ | ⟨p, xs, es, hp, rfl, rfl, rfl, a⟩
  · exact ⟨d, G1, e, r, Up.refl _ _, a.mono s⟩
  · refine ⟨_, _, e, r.lay hp, Up.lay r.kp.sub hp, ?_⟩
    simp only [At]
    exact ⟨p, xs, rfl, upd_same, (a.mono s).mono (Sub.upd (r.kp.sub.gone hp))⟩
noncomputable def GOk (F : Fx) (g : TG) (set : D → Rho → R Rho) : Prop := ∀ σ ρ G H v d Q ρ', Rel F G H σ ρ → At F.K G d v → set d ρ = .ok ρ' → (∀ σ', Rel F G H σ' ρ' → Q σ' H) → g v σ H Q
theorem g_name (i : Nat) : GOk F (gName i) (setV i) := by
  intro σ ρ G H v d Q ρ' r a e h
  unfold setV at e
  by_cases hi : i < ρ.length
  · rw [if_pos hi] at e
    cases e
    exact h _ (r.set hi a)
  · rw [if_neg hi] at e; cases e
noncomputable def setL : List (D → Rho → R Rho) → List D → Rho → R Rho
  | [], [], ρ => .ok ρ
  | f :: fs, d :: ds, ρ => (f d ρ).bind fun ρ' => setL fs ds ρ'
  | _, _, _ => .bad
noncomputable def GsOk (F : Fx) (g : TGs) (set : List D → Rho → R Rho) : Prop := ∀ σ ρ G H vs ds Q ρ', Rel F G H σ ρ → AtL F.K G ds vs → set ds ρ = .ok ρ' → (∀ σ', Rel F G H σ' ρ' → Q σ' H) → g vs σ H Q
theorem g_nil : GsOk F gNil (setL []) := by
  intro σ ρ G H vs ds Q ρ' r a e h
  cases ds with
  | nil =>
    simp only [AtL] at a
    cases e
    exact ⟨a, h σ r⟩
  | cons d ds => cases e
theorem g_cons {g : TG} {gs : TGs} {f : D → Rho → R Rho} {fs : List (D → Rho → R Rho)} (h1 : GOk F g f) (h2 : GsOk F gs (setL fs)) : GsOk F (gCons g gs) (setL (f :: fs)) := by
  intro σ ρ G H vs ds Q ρ' r a e h
  cases ds with
  | nil => cases e
  | cons d ds =>
    simp only [AtL] at a
    obtain ⟨v, vr, rfl, av, ar⟩ := a
    simp only [setL] at e
    cases e1 : f d ρ with
    | bad => rw [e1] at e; cases e
    | exc c => rw [e1] at e; cases e
    | ok ρ1 =>
      rw [e1, R.bind_ok] at e
      refine ⟨v, vr, rfl, h1 σ ρ G H v d _ ρ1 r av e1 fun σ1 r1 => ?_⟩
      exact h2 σ1 ρ1 G H vr ds Q ρ' r1 ar e h
noncomputable def setT (fs : List (D → Rho → R Rho)) : D → Rho → R Rho
  | .tup ds, ρ => setL fs ds ρ
  | _, _ => .bad
theorem setL_len : ∀ {fs : List (D → Rho → R Rho)} {ds : List D} {ρ ρ' : Rho}, setL fs ds ρ = .ok ρ' → ds.length = fs.length
  | [], [], _, _, _ => rfl
  | [], _ :: _, _, _, e => by cases e
  | _ :: _, [], _, _, e => by cases e
  | f :: fs, d :: ds, ρ, ρ', e => by
    simp only [setL] at e
    cases e1 : f d ρ with
    | bad => rw [e1] at e; cases e
    | exc c => rw [e1] at e; cases e
    | ok ρ1 =>
      rw [e1, R.bind_ok] at e
      simp [setL_len e]
theorem g_tup {gs : TGs} {fs : List (D → Rho → R Rho)} {n : Nat} (hn : n = fs.length) (h : GsOk F gs (setL fs)) : GOk F (gTup F.K n gs) (setT fs) := by
  intro σ ρ G H v d Q ρ' r a e k
  cases d with
  | tup ds =>
    simp only [At] at a
    obtain ⟨p, xs, rfl, hq, al⟩ := a
    refine ⟨p, xs, rfl, SqT.of (r.kp.sub _ _ hq), ?_, h σ ρ G H xs ds Q ρ' r al e k⟩
    rw [← al.length, hn]; exact setL_len e
  | _ => cases e
noncomputable def forGo (set : D → Rho → R Rho) (body : MS) : List D → Rho → R Fl
  | [], ρ => .ok (.nx ρ)
  | d :: ds, ρ => (set d ρ).bind fun ρ1 => (body ρ1).bind fun f => match f with
    | .nx ρ2 => forGo set body ds ρ2
    | .ct ρ2 => forGo set body ds ρ2
    | .bk ρ2 => .ok (.nx ρ2)
    | f => .ok f
noncomputable def mFor (mi : MA) (set : D → Rho → R Rho) (body : MS) : MS := fun ρ => (mi ρ).bind fun ds => forGo set body ds ρ
theorem i_for {mi : MA} {set : D → Rho → R Rho} {body : MS} {g : TG} (hg : GOk F g set) (hx : ∀ d ρ c, set d ρ ≠ .exc c) : ImpS (tS F (mFor mi set body)) (tFor (tI F mi) g (tS F body)) := by
  rintro De σ H ⟨G, ρ, r, h⟩
  unfold mFor at h
  refine ⟨G, ρ, r, ?_⟩
  cases ea : mi ρ with
  | bad => rw [ea] at h; exact h.elim
  | exc c => rw [ea] at h; exact h
  | ok ds =>
    rw [ea, R.bind_ok] at h
    intro J H1 G1 r1 s1 it
    refine ⟨fun i m σ2 H2 => m = ds.length - i ∧ i ≤ ds.length ∧ ∃ G2 ρ2, Rel F G2 H2 σ2 ρ2 ∧ Sub G1 G2 ∧ kS F G2 De (forGo set body (ds.drop i) ρ2), ⟨ds.length, by simp, Nat.zero_le _, G1, ρ, r1, Sub.refl _, kS.mono s1.g (by simpa using h)⟩, ?_⟩
    rintro i m σ2 H2 ⟨rfl, hi, G2, ρ2, r2, s2, k2⟩
    by_cases hlt : i < ds.length
    · refine .inr ⟨it.go i H2 (s2.trans r2.kp.sub) hlt, fun σ3 H3 => ∃ G3 ρ3, Rel F G3 H3 σ3 ρ3 ∧ Sub G1 G3 ∧ kS F G3 De (forGo set body (ds.drop (i + 1)) ρ3), fun σ3 H3 ⟨G3, ρ3, r3, s3, k3⟩ => ⟨ds.length - (i + 1), by omega, rfl, hlt, G3, ρ3, r3, s3, k3⟩, fun x H3 y => ?_⟩
      obtain ⟨d, G3, e3, r3, s3, a3⟩ := it.turn r2 s2 hlt y
      have ed : ds.drop i = d :: ds.drop (i + 1) := by
        rw [List.drop_eq_getElem_cons hlt]
        have := List.getElem?_eq_getElem hlt
        rw [e3] at this
        rw [Option.some.inj this]
      rw [ed] at k2
      simp only [forGo] at k2
      cases e4 : set d ρ2 with
      | bad => rw [e4] at k2; exact k2.elim
      | exc c => exact absurd e4 (hx d ρ2 c)
      | ok ρ4 =>
        rw [e4, R.bind_ok] at k2
        refine hg σ2 ρ2 G3 H3 x d _ ρ4 r3 a3 e4 fun σ5 r5 => ⟨G3, ρ4, r5, ?_⟩
        have s25 : Sub G2 G3 := s3.g
        cases e6 : body ρ4 with
        | bad => rw [e6] at k2; exact k2.elim
        | exc c => rw [e6] at k2; exact k2
        | ok f =>
          rw [e6, R.bind_ok] at k2
          cases f with
          | nx ρ6 => exact fun σ7 G7 H7 r7 s7 => ⟨G7, ρ6, r7, s2.trans (s25.trans s7), kS.mono (s25.trans s7) k2⟩
          | ct ρ6 => exact fun σ7 G7 H7 r7 s7 => ⟨G7, ρ6, r7, s2.trans (s25.trans s7), kS.mono (s25.trans s7) k2⟩
          | bk ρ6 => exact fun σ7 G7 H7 r7 s7 => k2 σ7 G7 H7 r7 (s25.trans s7)
          | rt d => exact k2
          | ro ds => exact k2
          | rn t => exact k2
    · have e : ds.drop i = [] := List.drop_eq_nil_of_le (by omega)
      rw [e] at k2
      have ei : i = ds.length := by omega
      subst ei
      exact .inl ⟨it.stop H2 (s2.trans r2.kp.sub), k2 σ2 G2 H2 r2 (Sub.refl _)⟩
theorem setV_noexc (i : Nat) : ∀ d ρ c, setV i d ρ ≠ .exc c := fun d ρ c => by
  unfold setV
  split <;> exact fun z => nomatch z
theorem setL_noexc : ∀ {fs : List (D → Rho → R Rho)}, (∀ f ∈ fs, ∀ d ρ c, f d ρ ≠ .exc c) → ∀ ds ρ c, setL fs ds ρ ≠ .exc c
  | [], _, [], _, _, e => nomatch e
  | [], _, _ :: _, _, _, e => nomatch e
  | _ :: _, _, [], _, _, e => nomatch e
  | f :: fs, h, d :: ds, ρ, c, e => by
    simp only [setL] at e
    cases e1 : f d ρ with
    | bad => rw [e1] at e; cases e
    | exc c => exact h f (by simp) d ρ c e1
    | ok ρ1 => rw [e1, R.bind_ok] at e; exact setL_noexc (fun g hg => h g (by simp [hg])) ds ρ1 c e
theorem setT_noexc {fs : List (D → Rho → R Rho)} (h : ∀ f ∈ fs, ∀ d ρ c, f d ρ ≠ .exc c) : ∀ d ρ c, setT fs d ρ ≠ .exc c := fun d ρ c e => by
  cases d <;> first
    | (exact setL_noexc h _ _ _ e)
    | (cases e)
theorem it_list {K : PySem.W.Frag} {G : Hp} {a : Addr} {xs : List V} {ds : List D} (h : SqL K G a xs) (q : AtL K G ds xs) : ItOk K (Itl K a) ds G where
  go := fun i H s hi => by
    obtain ⟨v, e, _⟩ := q.get (List.getElem?_eq_getElem hi)
    exact ⟨xs, v, SqL.mono s h, e⟩
  yld := fun i H x H' s hi y => by
    obtain ⟨rfl, y⟩ := y
    obtain ⟨d, e, a⟩ := q.getV (y xs (SqL.mono s h))
    exact ⟨d, e, .inl ⟨rfl, a⟩⟩
  stop := fun H s => ⟨xs, SqL.mono s h, by rw [← q.length]; exact Nat.le_refl _⟩
theorem it_tup {K : PySem.W.Frag} {G : Hp} {a : Addr} {xs : List V} {ds : List D} (h : SqT K G a xs) (q : AtL K G ds xs) : ItOk K (Itt K a) ds G where
  go := fun i H s hi => by
    obtain ⟨v, e, _⟩ := q.get (List.getElem?_eq_getElem hi)
    exact ⟨xs, v, SqT.mono s h, e⟩
  yld := fun i H x H' s hi y => by
    obtain ⟨rfl, y⟩ := y
    obtain ⟨d, e, a⟩ := q.getV (y xs (SqT.mono s h))
    exact ⟨d, e, .inl ⟨rfl, a⟩⟩
  stop := fun H s => ⟨xs, SqT.mono s h, by rw [← q.length]; exact Nat.le_refl _⟩
noncomputable def rangeD (lo : Int) (n : Nat) : List D := (List.range n).map fun (i : Nat) => .int (lo + (i : Int))
theorem it_rng {K : PySem.W.Frag} {G : Hp} (lo : Int) (n : Nat) : ItOk K (Itr lo n) (rangeD lo n) G where
  go := fun i H s hi => by
    have h : i < n := by simpa [rangeD] using hi
    exact h
  yld := fun i H x H' s hi y => by
    have h : i < n := by simpa [rangeD] using hi
    obtain ⟨e1, e2⟩ := y
    refine ⟨.int (lo + (i : Int)), ?_, .inl ⟨e1, ?_⟩⟩
    · unfold rangeD
      rw [List.getElem?_map, List.getElem?_range h]
      rfl
    · simp only [At]; exact e2
  stop := fun H s => by
    have h : n ≤ (rangeD lo n).length := by simp [rangeD]
    exact h
noncomputable def seqD : D → R (List D)
  | .lst ds => .ok ds
  | .scr ds => .ok ds
  | _ => .bad
noncomputable def tupD : D → R (List D)
  | .tup ds => .ok ds
  | .ktp ds => .ok ds
  | _ => .bad
noncomputable def mIL (m : ME) : MA := fun ρ => (m ρ).bind seqD
theorem i_list {m : ME} : ImpI (tI F (mIL m)) (iList F.K (tE F m)) := by
  rintro σ H Q ⟨G, ρ, r, h⟩
  unfold mIL at h
  refine ⟨G, ρ, r, ?_⟩
  cases ea : m ρ with
  | bad => rw [ea] at h; exact h.elim
  | exc c => rw [ea] at h; exact h
  | ok d =>
    rw [ea, R.bind_ok] at h
    intro v H1 G1 r1 s1 a
    cases d with
    | lst ds =>
      simp only [At] at a
      obtain ⟨p, xs, e, hq, al⟩ := a
      exact ⟨p, e, ⟨xs, SqL.of (r1.kp.sub _ _ hq)⟩, h _ H1 G1 r1 s1 (it_list (SqL.of hq) al)⟩
    | scr ds =>
      simp only [At] at a
      obtain ⟨p, xs, e, hq, al⟩ := a
      exact ⟨p, e, ⟨xs, SqL.mono r1.kp.sub hq⟩, h _ H1 G1 r1 s1 (it_list hq al)⟩
    | _ => exact h.elim
noncomputable def mIT (m : ME) : MA := fun ρ => (m ρ).bind tupD
theorem i_tupI {m : ME} : ImpI (tI F (mIT m)) (iTup F.K (tE F m)) := by
  rintro σ H Q ⟨G, ρ, r, h⟩
  unfold mIT at h
  refine ⟨G, ρ, r, ?_⟩
  cases ea : m ρ with
  | bad => rw [ea] at h; exact h.elim
  | exc c => rw [ea] at h; exact h
  | ok d =>
    rw [ea, R.bind_ok] at h
    intro v H1 G1 r1 s1 a
    cases d with
    | tup ds =>
      simp only [At] at a
      obtain ⟨p, xs, e, hq, al⟩ := a
      exact ⟨p, e, ⟨xs, SqT.of (r1.kp.sub _ _ hq)⟩, h _ H1 G1 r1 s1 (it_tup (SqT.of hq) al)⟩
    | ktp ds =>
      simp only [At] at a
      obtain ⟨p, xs, e, hq, al⟩ := a
      exact ⟨p, e, ⟨xs, SqT.mono r1.kp.sub hq⟩, h _ H1 G1 r1 s1 (it_tup hq al)⟩
    | _ => exact h.elim
noncomputable def rng1 : List D → R (List D)
  | [.int j] => if -(2 ^ 62) ≤ j ∧ j < 2 ^ 62 then .ok (rangeD 0 j.toNat) else .bad
  | _ => .bad
theorem AtL.ints1 {K : PySem.W.Frag} {G : Hp} {j : Int} {vs : List V} (a : AtL K G [.int j] vs) : vs = [.int j] := by
  simp only [AtL, At] at a
  obtain ⟨v, r, rfl, rfl, rfl⟩ := a
  rfl
noncomputable def mR1 (m : MA) : MA := fun ρ => (m ρ).bind rng1
theorem i_r1 {m : MA} : ImpI (tI F (mR1 m)) (iRng1 (tA F m)) := by
  rintro σ H Q ⟨G, ρ, r, h⟩
  unfold mR1 at h
  refine ⟨G, ρ, r, ?_⟩
  cases ea : m ρ with
  | bad => rw [ea] at h; exact h.elim
  | exc c => rw [ea] at h; exact h
  | ok ds =>
    rw [ea, R.bind_ok] at h
    intro vs H1 G1 r1 s1 a
    unfold rng1 at h
    split at h
    · rename_i j
      split at h
      · rename_i hj
        exact ⟨j, a.ints1, hj.1, hj.2, h _ H1 G1 r1 s1 (it_rng 0 j.toNat)⟩
      · exact h.elim
    · exact h.elim
inductive Rt where
  | v (d : D) | o (ds : List D) | t (t : T)
noncomputable def kC (F : Fx) (Q : VK) : R Rt → Prop
  | .ok (.v d) => ∀ v G' H', Kp F G' H' → At F.K G' d v → Q v H'
  | .ok (.o ds) => ∀ a xs G' H', Kp F G' H' → G' a = none → F.H0 a = none → H' a = some (.lst xs) → AtL F.K G' ds xs → Q (.ref a) H'
  | .ok (.t t) => ∀ v G' H', Kp F G' H' → TrOk F G' H' t v → Q v H'
  | .exc c => kX F c
  | .bad => False
noncomputable def spM (K : PySem.W.Frag) (n : Nat) (xe : XK → Str → Hp → Prop) (mf : List D → R Rt) : Sp := fun vs H Q E => ∃ G ds, Sub G H ∧ AtL K G ds vs ∧ ds.length = n ∧ kC ⟨K, G, H, xe E⟩ Q (mf ds)
theorem spM_len {K : PySem.W.Frag} {n : Nat} {xe : XK → Str → Hp → Prop} {mf : List D → R Rt} : ∀ vs H Q E, spM K n xe mf vs H Q E → vs.length = n := fun vs H Q E h => by
  obtain ⟨G, ds, _, a, l, _⟩ := h
  rw [← a.length]; exact l
noncomputable def outD : Fl → R Rt
  | .nx _ => .ok (.v .non)
  | .rt d => .ok (.v d)
  | .ro ds => .ok (.o ds)
  | .rn t => .ok (.t t)
  | _ => .bad
noncomputable def ini (N : Nat) (ds : List D) : Rho := ds.map .fz ++ List.replicate (N - ds.length) .un
noncomputable def mDef (N : Nat) (m : MS) (ds : List D) : R Rt := (m (ini N ds)).bind outD
noncomputable def startN (N : Nat) (vs : List V) : St := vs.map some ++ List.replicate (N - vs.length) none
theorem rel_start {K : PySem.W.Frag} {G H : Hp} {EX : Str → Hp → Prop} {N : Nat} {ds : List D} {vs : List V} (s : Sub G H) (a : AtL K G ds vs) : Rel ⟨K, G, H, EX⟩ G H (startN N vs) (ini N ds) := by
  have hl := a.length
  refine ⟨⟨s, Sub.refl _, Sub.refl _, fun _ _ => rfl⟩, by simp [startN, ini, hl], fun i t e => ?_, fun i j b es es' o o' e1 e2 _ _ f _ => ?_⟩
  · unfold ini at e
    unfold startN
    by_cases hi : i < ds.length
    · rw [List.getElem?_append_left (by simpa using hi), List.getElem?_map, List.getElem?_eq_getElem hi] at e
      obtain ⟨v, e1, av⟩ := a.get (List.getElem?_eq_getElem hi)
      rw [List.getElem?_append_left (by rw [List.length_map, ← hl]; exact hi), List.getElem?_map, e1]
      have et : Sl.fz ds[i] = t := Option.some.inj e
      subst et
      exact ⟨some v, rfl, v, rfl, av⟩
    · rw [List.getElem?_append_right (by simpa using hi), List.getElem?_replicate] at e
      rw [List.getElem?_append_right (by rw [List.length_map, ← hl]; omega), List.getElem?_replicate, List.length_map, ← hl]
      rw [List.length_map] at e
      split at e
      · rename_i hh
        rw [if_pos hh]
        cases e
        exact ⟨none, rfl, trivial⟩
      · cases e
  · exfalso
    unfold ini at e1
    by_cases hi : i < ds.length
    · rw [List.getElem?_append_left (by simpa using hi), List.getElem?_map, List.getElem?_eq_getElem hi] at e1
      cases e1; exact f
    · rw [List.getElem?_append_right (by simpa using hi), List.getElem?_replicate] at e1
      split at e1
      · cases e1; exact f
      · cases e1
theorem body_of {K : PySem.W.Frag} {xe : XK → Str → Hp → Prop} {n N : Nat} {m : MS} {vs : List V} {H : Hp} {Q : VK} {E : XK} (h : spM K n xe (mDef N m) vs H Q E) :
    ∃ G, tS ⟨K, G, H, xe E⟩ m { nx := fun _ H' => Q .non H', rt := Q } (startN N vs) H := by
  obtain ⟨G, ds, s, a, l, k⟩ := h
  refine ⟨G, G, ini N ds, rel_start s a, ?_⟩
  unfold mDef at k
  cases e : m (ini N ds) with
  | bad => rw [e] at k; exact k.elim
  | exc c => rw [e] at k; exact k
  | ok f =>
    rw [e, R.bind_ok] at k
    cases f with
    | nx ρ => exact fun σ' G' H' r _ => k .non G' H' r.kp (by simp only [At])
    | rt d => exact k
    | ro ds => exact k
    | rn t => exact k
    | bk ρ => exact k.elim
    | ct ρ => exact k.elim
theorem Kp.of {G H G' H' : Hp} {σ : St} {ρ : Rho} {EX : Str → Hp → Prop} (r : Rel F G H σ ρ) (k : Kp ⟨F.K, G, H, EX⟩ G' H') : Rel F G' H' σ ρ := r.grow k.gg k.sub k.hh fun b hb => k.new b hb
noncomputable def rtD : Rt → R D
  | .v d => .ok d
  | .o ds => .ok (.lst ds)
  | .t t => .ok (toD t)
noncomputable def rtO : Rt → R (List D)
  | .o ds => .ok ds
  | _ => .bad
noncomputable def gAdd (A : List Addr) (G H : Hp) : Hp := fun b => if b ∈ A then H b else G b
theorem Rel.takeT {G H G0 H0 : Hp} {σ : St} {ρ : Rho} (r : Rel F G H σ ρ) {F' : Fx} {t : T} {v : V} (hK : F'.K = F.K) (q : TrOk F' G H t v) (u : Up G0 H0 G H) (n : ∀ b ∈ fp H t v, H0 b = none ∧ F.H0 b = none ∧ ¬ OwnAt H σ ρ b) :
    Rel F (gAdd (fp H t v) G H) H σ ρ ∧ Up G0 H0 (gAdd (fp H t v) G H) H ∧ At F.K (gAdd (fp H t v) G H) (toD t) v := by
  have sg : Sub G (gAdd (fp H t v) G H) := fun b o e => by
    unfold gAdd
    by_cases hb : b ∈ fp H t v
    · rw [(q.own b hb).1] at e; cases e
    · rw [if_neg hb]; exact e
  refine ⟨r.over rfl ⟨fun b o e => ?_, r.kp.gg.trans sg, r.kp.hh, fun b hb => ?_⟩ sg fun a ha => ?_, ⟨u.g.trans sg, u.h, fun b hb => ?_⟩, ?_⟩
  · unfold gAdd at e
    split at e
    · exact e
    · exact r.kp.sub b o e
  · unfold gAdd
    rw [if_neg (fun z => hb (n b z).2.1)]
    exact r.kp.new b hb
  · obtain ⟨h1, h2, h3⟩ := r.foot ha
    refine ⟨rfl, ?_, h3⟩
    unfold gAdd
    rw [if_neg (fun z => (n a z).2.2 ha)]; exact h2
  · unfold gAdd
    rw [if_neg (fun z => hb (n b z).1)]
    exact u.n b hb
  · rw [← hK]
    exact q.at_.view sg fun a ha => by unfold gAdd; rw [if_pos ha]
noncomputable def mCall (n : Nat) (mf : List D → R Rt) (m : MA) : ME := fun ρ => (m ρ).bind fun ds => if ds.length = n then (mf ds).bind rtD else .bad
noncomputable def mCallO (n : Nat) (mf : List D → R Rt) (m : MA) : MA := fun ρ => (m ρ).bind fun ds => if ds.length = n then (mf ds).bind rtO else .bad
theorem i_call {n : Nat} {mf : List D → R Rt} {m : MA} {xe : XK → Str → Hp → Prop} {E : XK} (hx : F.EX = xe E) : ImpE (tE F (mCall n mf m)) (tCall (spM F.K n xe mf) [] E (tA F m)) := by
  rintro σ H Q ⟨G, ρ, r, h⟩
  unfold mCall at h
  refine ⟨G, ρ, r, ?_⟩
  cases ea : m ρ with
  | bad => rw [ea] at h; exact h.elim
  | exc c => rw [ea] at h; exact h
  | ok ds =>
    rw [ea, R.bind_ok] at h
    intro vs H1 G1 r1 s1 a
    by_cases hn : ds.length = n
    · rw [if_pos hn] at h
      rw [List.append_nil]
      refine ⟨G1, ds, r1.kp.sub, a, hn, ?_⟩
      cases e : mf ds with
      | bad => rw [e] at h; exact h.elim
      | exc c =>
        rw [e] at h
        intro G' H' k
        have z := h G' H' (Kp.of r1 k).kp
        rw [hx] at z
        exact z
      | ok t =>
        rw [e, R.bind_ok] at h
        cases t with
        | v d => exact fun v G' H' k av => h v H' G' (Kp.of r1 k) (s1.trans ⟨k.gg, k.hh, k.new⟩) av
        | o es =>
          intro p xs G' H' k h1 h2 h3 h4
          have h2 : H1 p = none := h2
          have r' := Kp.of r1 k
          have no : ¬ OwnAt H' σ ρ p := OwnAt.fresh r1 k.hh h2
          refine h (.ref p) H' _ (r'.take h3 h1 (r1.kp.hh.gone h2) no) ((s1.trans ⟨k.gg, k.hh, k.new⟩).put (s1.h.gone h2) h1) ?_
          simp only [At]
          exact ⟨p, xs, rfl, upd_same, h4.mono (Sub.upd h1)⟩
        | t t =>
          intro v G' H' k q
          obtain ⟨a1, a2, a3⟩ := (Kp.of r1 k).takeT (F' := ⟨F.K, G1, H1, xe E⟩) rfl q (s1.trans ⟨k.gg, k.hh, k.new⟩) fun b hb => ⟨s1.h.gone (q.own b hb).2, r1.kp.hh.gone (q.own b hb).2, OwnAt.fresh r1 k.hh (q.own b hb).2⟩
          exact h v H' _ a1 a2 a3
    · rw [if_neg hn] at h; exact h.elim
theorem i_callO {n : Nat} {mf : List D → R Rt} {m : MA} {xe : XK → Str → Hp → Prop} {E : XK} (hx : F.EX = xe E) : ImpE (tO F (mCallO n mf m)) (tCall (spM F.K n xe mf) [] E (tA F m)) := by
  rintro σ H Q ⟨G, ρ, r, h⟩
  unfold mCallO at h
  refine ⟨G, ρ, r, ?_⟩
  cases ea : m ρ with
  | bad => rw [ea] at h; exact h.elim
  | exc c => rw [ea] at h; exact h
  | ok ds =>
    rw [ea, R.bind_ok] at h
    intro vs H1 G1 r1 s1 a
    by_cases hn : ds.length = n
    · rw [if_pos hn] at h
      rw [List.append_nil]
      refine ⟨G1, ds, r1.kp.sub, a, hn, ?_⟩
      cases e : mf ds with
      | bad => rw [e] at h; exact h.elim
      | exc c =>
        rw [e] at h
        intro G' H' k
        have z := h G' H' (Kp.of r1 k).kp
        rw [hx] at z
        exact z
      | ok t =>
        rw [e, R.bind_ok] at h
        cases t with
        | v d => exact h.elim
        | t t => exact h.elim
        | o es =>
          intro p xs G' H' k h1 h2 h3 h4
          have h2 : H1 p = none := h2
          have r' := Kp.of r1 k
          exact h p xs H' G' r' (s1.trans ⟨k.gg, k.hh, k.new⟩) (s1.h.gone h2) h3 h1 h4
    · rw [if_neg hn] at h; exact h.elim
noncomputable abbrev MTr := Rho → R T
noncomputable def kTr (F : Fx) (G H : Hp) (σ : St) (ρ : Rho) (Q : VK) : R T → Prop
  | .ok t => ∀ v H' G', Rel F G' H' σ ρ → Up G H G' H' → TrOk F G' H' t v → (∀ b ∈ fp H' t v, H b = none) → Q v H'
  | .exc c => kX F c
  | .bad => False
noncomputable def tTr (F : Fx) (m : MTr) : TE := fun σ H Q => ∃ G ρ, Rel F G H σ ρ ∧ kTr F G H σ ρ Q (m ρ)
noncomputable def mSetT (i : Nat) (a : MTr) : MS := fun ρ => (a ρ).bind fun t => if i < ρ.length then .ok (.nx (ρ.set i (.tr t))) else .bad
theorem i_setT {i : Nat} {a : MTr} : ImpS (tS F (mSetT i a)) (tAsg (tTr F a) (gName i)) := by
  rintro De σ H ⟨G, ρ, r, h⟩
  unfold mSetT at h
  refine ⟨G, ρ, r, ?_⟩
  cases ea : a ρ with
  | bad => rw [ea] at h; exact h.elim
  | exc c => rw [ea] at h; exact h
  | ok t =>
    rw [ea, R.bind_ok] at h
    intro v H1 G1 r1 s1 q n
    by_cases hi : i < ρ.length
    · rw [if_pos hi] at h
      refine h _ G1 H1 (r1.setS hi ⟨v, rfl, q⟩ fun b f j s' o' _ e1 e2 f' => ?_) s1.g
      obtain ⟨u, eu, hb⟩ := f
      cases eu
      exact OwnAt.fresh r s1.h (n b hb) ⟨j, s', o', e1, e2, f'⟩
    · rw [if_neg hi] at h; exact h.elim
noncomputable def mRetT (a : MTr) : MS := fun ρ => (a ρ).bind fun t => .ok (.rn t)
noncomputable def mVarT (i : Nat) : MTr := fun ρ => match ρ[i]? with
  | some (.tr t) => .ok t
  | _ => .bad
theorem i_retVT (i : Nat) : ImpS (tS F (mRetT (mVarT i))) (tRet (tVar i)) := by
  rintro De σ H ⟨G, ρ, r, h⟩
  unfold mRetT mVarT at h
  cases e : ρ[i]? with
  | none => rw [e] at h; exact h.elim
  | some s =>
    rw [e] at h
    cases s with
    | un => exact h.elim
    | fz _ => exact h.elim
    | ob _ => exact h.elim
    | tr t =>
      obtain ⟨v, e1, q⟩ := r.tree e
      exact ⟨v, e1, h v G H r.kp q⟩
end
end L3
set_option Elab.async false
set_option linter.all false
set_option maxRecDepth 100000
namespace L3
open PySem PySem.Spec L2
noncomputable def capS : Sl → Sl
  | .fz d => .fz d
  | _ => .un
noncomputable def blkR (nl : Nat) (caps : List Nat) (ρ : Rho) : Rho := List.replicate nl .un ++ caps.map fun j => capS (ρ.getD j .un)
noncomputable def compGo (set : D → Rho → R Rho) (tst : MT) (elt : ME) : List D → Rho → List D → R (List D)
  | [], _, ws => .ok ws
  | d :: ds, ρ, ws => (set d ρ).bind fun ρ1 => (tst ρ1).bind fun b => if b = true then (elt ρ1).bind fun y => if ws.length < 1000000 then compGo set tst elt ds ρ1 (ws ++ [y]) else .bad else compGo set tst elt ds ρ1 ws
noncomputable def noX {α : Type} : R α → R α
  | .exc _ => .bad
  | r => r
noncomputable def mComp (nl : Nat) (caps : List Nat) (mi : MA) (set : D → Rho → R Rho) (tst : MT) (elt : ME) : MA := fun ρ => (mi ρ).bind fun ds => noX (compGo set tst elt ds (blkR nl caps ρ) [])
noncomputable def fxB (K : PySem.W.Frag) (G H : Hp) : Fx := ⟨K, G, H, fun _ _ => False⟩
noncomputable def xT (K : PySem.W.Frag) (m : MT) : TT := fun σ H Q => ∃ G0 H0, tT (fxB K G0 H0) m σ H Q
noncomputable def xE (K : PySem.W.Frag) (m : ME) : TE := fun σ H Q => ∃ G0 H0, tE (fxB K G0 H0) m σ H Q
noncomputable def plS : Sl → Bool
  | .un => true | .fz _ => true
  | _ => false
theorem plS_foot {H : Hp} {s : Sl} (h : plS s = true) (o : Option V) (a : Addr) : ¬ Foot H s o a := by
  cases s <;> first
    | exact fun z => z
    | cases h
noncomputable def NoOw (ρ : Rho) : Prop := ∀ (i : Nat) (s : Sl), ρ[i]? = some s → plS s = true
theorem noOw_blk (nl : Nat) (caps : List Nat) (ρ : Rho) : NoOw (blkR nl caps ρ) := fun i s e1 => by
  unfold blkR at e1
  by_cases hi : i < nl
  · rw [List.getElem?_append_left (by simpa using hi), List.getElem?_replicate, if_pos hi] at e1
    cases e1; rfl
  · rw [List.getElem?_append_right (by simpa using hi), List.length_replicate, List.getElem?_map] at e1
    cases ej : caps[i - nl]? with
    | none => rw [ej] at e1; cases e1
    | some j =>
      rw [ej] at e1
      have es : capS (ρ.getD j .un) = s := Option.some.inj e1
      subst es
      cases hs : ρ.getD j .un <;> rfl
noncomputable def Keeps (set : D → Rho → R Rho) : Prop := ∀ d ρ ρ', set d ρ = .ok ρ' → NoOw ρ → NoOw ρ'
theorem setV_keeps (i : Nat) : Keeps (setV i) := fun d ρ ρ' e n j ds z => by
  unfold setV at e
  split at e
  · cases e
    rcases get_set z with ⟨_, z⟩ | ⟨_, z⟩
    · subst z; rfl
    · exact n j ds z
  · cases e
theorem setL_keeps : ∀ {fs : List (D → Rho → R Rho)}, (∀ f ∈ fs, Keeps f) → ∀ ds ρ ρ', setL fs ds ρ = .ok ρ' → NoOw ρ → NoOw ρ'
  | [], _, [], _, _, e, n => by cases e; exact n
  | [], _, _ :: _, _, _, e, _ => by cases e
  | _ :: _, _, [], _, _, e, _ => by cases e
  | f :: fs, h, d :: ds, ρ, ρ', e, n => by
    simp only [setL] at e
    cases e1 : f d ρ with
    | bad => rw [e1] at e; cases e
    | exc c => rw [e1] at e; cases e
    | ok ρ1 => rw [e1, R.bind_ok] at e; exact setL_keeps (fun g hg => h g (by simp [hg])) ds ρ1 ρ' e (h f (by simp) d ρ ρ1 e1 n)
theorem setT_keeps {fs : List (D → Rho → R Rho)} (h : ∀ f ∈ fs, Keeps f) : Keeps (setT fs) := fun d ρ ρ' e n => by
  cases d <;> first
    | (exact setL_keeps h _ _ _ e n)
    | (cases e)
section
variable {F : Fx}
theorem rel_block {G H : Hp} {σ : St} {ρ : Rho} (r : Rel F G H σ ρ) {acc : Addr} (ha : H acc = none) (nl : Nat) (caps : List Nat) :
    Rel (fxB F.K G H) G (upd H acc (.lst [])) (blkS nl caps σ) (blkR nl caps ρ) := by
  refine ⟨⟨Sub.upd2 r.kp.sub (r.kp.sub.gone ha), Sub.refl _, Sub.upd ha, fun _ _ => rfl⟩, by simp [blkS, blkR], fun i s e => ?_, fun i j b s s' o o' e1 _ _ _ f _ => ?_⟩
  · unfold blkR at e
    unfold blkS
    by_cases hi : i < nl
    · rw [List.getElem?_append_left (by simpa using hi), List.getElem?_replicate, if_pos hi] at e
      rw [List.getElem?_append_left (by simpa using hi), List.getElem?_replicate, if_pos hi]
      cases e
      exact ⟨none, rfl, trivial⟩
    · rw [List.getElem?_append_right (by simpa using hi), List.length_replicate, List.getElem?_map] at e
      rw [List.getElem?_append_right (by simpa using hi), List.length_replicate, List.getElem?_map]
      cases ej : caps[i - nl]? with
      | none => rw [ej] at e; cases e
      | some j =>
        rw [ej] at e
        refine ⟨σ.getD j none, rfl, ?_⟩
        have es : capS (ρ.getD j .un) = s := Option.some.inj e
        subst es
        cases er : ρ[j]? with
        | none =>
          have eg : ρ.getD j .un = .un := by rw [List.getD_eq_getElem?_getD, er]; rfl
          rw [eg]; exact trivial
        | some t =>
          have eg : ρ.getD j .un = t := by rw [List.getD_eq_getElem?_getD, er]; rfl
          rw [eg]
          obtain ⟨o, e1, q⟩ := r.sl j t er
          cases t with
          | un => exact trivial
          | ob ds => exact trivial
          | tr t => exact trivial
          | fz d =>
            obtain ⟨v, e2, a⟩ := q
            refine ⟨v, ?_, a⟩
            rw [List.getD_eq_getElem?_getD, e1, e2]
            rfl
  · exact absurd f (plS_foot (noOw_blk nl caps ρ i s e1) o b)
theorem i_comp {nl : Nat} {caps : List Nat} {mi : MA} {set : D → Rho → R Rho} {tst : MT} {elt : ME} {g : TG} (hg : ∀ G H, GOk (fxB F.K G H) g set) (hx : ∀ d ρ c, set d ρ ≠ .exc c) (hk : Keeps set) :
    ImpE (tO F (mComp nl caps mi set tst elt)) (tComp (tI F mi) g (xT F.K tst) (xE F.K elt) nl caps) := by
  rintro σ H Q ⟨G, ρ, r, h⟩
  unfold mComp at h
  refine ⟨G, ρ, r, ?_⟩
  cases ea : mi ρ with
  | bad => rw [ea] at h; exact h.elim
  | exc c => rw [ea] at h; exact h
  | ok ds =>
    rw [ea, R.bind_ok] at h
    intro J H1 G1 r1 u1 it acc ha
    cases er : compGo set tst elt ds (blkR nl caps ρ) [] with
    | bad => rw [er] at h; exact h.elim
    | exc c => rw [er] at h; exact h.elim
    | ok res =>
      rw [er] at h
      refine ⟨fun i m σ2 H2 => m = ds.length - i ∧ i ≤ ds.length ∧ ∃ G2 ρ2 ys ws, Rel (fxB F.K G1 H1) G2 H2 σ2 ρ2 ∧ NoOw ρ2 ∧ H2 acc = some (.lst ys) ∧ G2 acc = none ∧ AtL F.K G2 ws ys ∧ compGo set tst elt (ds.drop i) ρ2 ws = .ok res,
        ⟨ds.length, by simp, Nat.zero_le _, G1, _, [], [], rel_block r1 ha nl caps, noOw_blk _ _ _, upd_same, r1.kp.sub.gone ha, .nil, by simpa using er⟩, ?_⟩
      rintro i m σ2 H2 ⟨rfl, hi, G2, ρ2, ys, ws, r2, n2, h1, h2, h3, h4⟩
      have sg : Sub G1 G2 := r2.kp.gg
      by_cases hlt : i < ds.length
      · refine .inr ⟨it.go i H2 (sg.trans r2.kp.sub) hlt, fun x H3 y => ?_⟩
        obtain ⟨d, G3, e3, r3, u3, a3⟩ := ItOk.turn (F := fxB F.K G1 H1) it r2 sg hlt y
        have ed : ds.drop i = d :: ds.drop (i + 1) := by
          rw [List.drop_eq_getElem_cons hlt]
          have := List.getElem?_eq_getElem hlt
          rw [e3] at this
          rw [Option.some.inj this]
        rw [ed] at h4
        simp only [compGo] at h4
        cases e4 : set d ρ2 with
        | bad => rw [e4] at h4; cases h4
        | exc c => exact absurd e4 (hx d ρ2 c)
        | ok ρ4 =>
          rw [e4, R.bind_ok] at h4
          refine hg G1 H1 σ2 ρ2 G3 H3 x d _ ρ4 r3 a3 e4 fun σ5 r5 => ⟨G1, H1, G3, ρ4, r5, ?_⟩
          have n4 : NoOw ρ4 := hk d ρ2 ρ4 e4 n2
          have acc3 : H3 acc = some (.lst ys) := u3.h _ _ h1
          have g3 : G3 acc = none := by rw [u3.n acc (by rw [h1]; exact fun z => nomatch z)]; exact h2
          cases e5 : tst ρ4 with
          | bad => rw [e5] at h4; cases h4
          | exc c => rw [e5] at h4; cases h4
          | ok b =>
            rw [e5, R.bind_ok] at h4
            intro H6 G6 r6 u6
            have acc6 : H6 acc = some (.lst ys) := u6.h _ _ acc3
            have g6 : G6 acc = none := by rw [u6.n acc (by rw [acc3]; exact fun z => nomatch z)]; exact g3
            have a6 : AtL F.K G6 ws ys := (h3.mono u3.g).mono u6.g
            cases b with
            | false =>
              rw [if_neg Bool.false_ne_true] at h4
              rw [if_neg Bool.false_ne_true]
              exact ⟨_, by omega, rfl, hlt, G6, ρ4, ys, ws, r6, n4, acc6, g6, a6, h4⟩
            | true =>
              rw [if_pos rfl] at h4
              rw [if_pos rfl]
              refine ⟨G1, H1, G6, ρ4, r6, ?_⟩
              cases e7 : elt ρ4 with
              | bad => rw [e7] at h4; cases h4
              | exc c => rw [e7] at h4; cases h4
              | ok y =>
                rw [e7, R.bind_ok] at h4
                intro yv H8 G8 r8 u8 a8
                have acc8 : H8 acc = some (.lst ys) := u8.h _ _ acc6
                have g8 : G8 acc = none := by rw [u8.n acc (by rw [acc6]; exact fun z => nomatch z)]; exact g6
                by_cases hl : ws.length < 1000000
                · rw [if_pos hl] at h4
                  have al8 : AtL F.K G8 ws ys := a6.mono u8.g
                  refine ⟨ys, acc8, by rw [← al8.length]; exact Nat.lt_trans hl (by decide), _, by omega, rfl, hlt, G8, ρ4, ys ++ [yv], ws ++ [y], ?_, n4, upd_same, g8, al8.snoc a8, h4⟩
                  -- the heap with the longer list
                  have k0 : (fxB F.K G1 H1).H0 acc = none := ha
                  refine ⟨⟨Sub.upd2 r8.kp.sub g8, r8.kp.gg, fun c o z => ?_, r8.kp.new⟩, r8.len, fun j t z => ?_, fun j k b s s' o o' y1 _ _ _ f _ => absurd f (plS_foot (n4 j s y1) o b)⟩
                  · rw [upd_ne (ne_of_none z k0)]; exact r8.kp.hh c o z
                  · obtain ⟨o, z1, z2⟩ := r8.sl j t z
                    refine ⟨o, z1, ?_⟩
                    cases t with
                    | un => exact trivial
                    | fz d => exact z2
                    | ob es => exact absurd (n4 j _ z) (fun w => nomatch w)
                    | tr es => exact absurd (n4 j _ z) (fun w => nomatch w)
                · rw [if_neg hl] at h4; cases h4
      · have e : ds.drop i = [] := List.drop_eq_nil_of_le (by omega)
        rw [e] at h4
        simp only [compGo] at h4
        cases h4
        have ei : i = ds.length := by omega
        subst ei
        refine .inl ⟨it.stop H2 (sg.trans r2.kp.sub), ?_⟩
        have k : Kp ⟨F.K, G1, H1, fun _ _ => False⟩ G2 H2 := r2.kp
        exact h acc ys H2 G2 (Kp.of r1 k) (u1.trans ⟨k.gg, k.hh, k.new⟩) (u1.h.gone ha) h1 h2 h3
end
end L3
set_option Elab.async false
set_option linter.all false
set_option maxRecDepth 100000
namespace L3
open PySem PySem.Spec L2
mutual
noncomputable def eqD : D → D → Bool
  | .non, .non => true
  | .bl a, .bl b => a == b
  | .bl a, .int b => (if a then 1 else 0) == b
  | .int a, .bl b => a == (if b then 1 else 0)
  | .int a, .int b => a == b
  | .str a, .str b => a == b
  | .tup xs, .tup ys => eqL xs ys
  | .tup xs, .ktp ys => eqL xs ys
  | .ktp xs, .tup ys => eqL xs ys
  | .ktp xs, .ktp ys => eqL xs ys
  | .lst xs, .lst ys => eqL xs ys
  | .lst xs, .scr ys => eqL xs ys
  | .scr xs, .lst ys => eqL xs ys
  | .scr xs, .scr ys => eqL xs ys
  | _, _ => false
noncomputable def eqL : List D → List D → Bool
  | [], [] => true
  | x :: xs, y :: ys => eqD x y && eqL xs ys
  | _, _ => false
end
noncomputable def okN : Nat → D → Bool
  | _, .non => true
  | _, .bl _ => true
  | _, .int _ => true
  | _, .str _ => true
  | n + 1, .tup xs => xs.all (okN n)
  | n + 1, .ktp xs => xs.all (okN n)
  | n + 1, .lst xs => xs.all (okN n)
  | n + 1, .scr xs => xs.all (okN n)
  | _, _ => false
inductive Sh (s : Shared) (P : D → Value → Prop) : D → Value → Prop where
  | non : Sh s P .non .none
  | bl (b : Bool) : Sh s P (.bl b) (.bool b)
  | int (i : Int) (t : Tok) : Sh s P (.int i) (.int i t)
  | str (x : Str) (t : Tok) : Sh s P (.str x) (.str x t)
  | tup (a : Addr) (ds : List D) (its : List Value) (h : s.heap.IsTuple a its.toArray) (l : ds.length = its.length) (p : ∀ (i : Nat) d u, ds[i]? = some d → its[i]? = some u → P d u) : Sh s P (.tup ds) (.ref a)
  | ktp (a : Addr) (ds : List D) (its : List Value) (h : s.heap.IsTuple a its.toArray) (l : ds.length = its.length) (p : ∀ (i : Nat) d u, ds[i]? = some d → its[i]? = some u → P d u) : Sh s P (.ktp ds) (.ref a)
  | lst (a : Addr) (ds : List D) (its : List Value) (h : s.heap.IsList a its.toArray) (l : ds.length = its.length) (p : ∀ (i : Nat) d u, ds[i]? = some d → its[i]? = some u → P d u) : Sh s P (.lst ds) (.ref a)
  | scr (a : Addr) (ds : List D) (its : List Value) (h : s.heap.IsList a its.toArray) (l : ds.length = its.length) (p : ∀ (i : Nat) d u, ds[i]? = some d → its[i]? = some u → P d u) : Sh s P (.scr ds) (.ref a)
noncomputable def AtU (K : PySem.W.Frag) (G : Hp) (d : D) (u : Value) : Prop := ∃ x, At K G d x ∧ RelV x u
section
variable {X : Cx} {pins : List (Addr × Obj)} {σ : St} {H G : Hp} {s : Shared}
theorem items_at {K : PySem.W.Frag} {ds : List D} {xs : List V} {its : List Value} (q : AtL K G ds xs) (r : Vals xs its) : ∀ (i : Nat) d u, ds[i]? = some d → its[i]? = some u → AtU K G d u := fun i d u e1 e2 => by
  obtain ⟨v, e3, a⟩ := q.get e1
  obtain ⟨u', e4, rv⟩ := r.get e3
  rw [e2] at e4; cases e4
  exact ⟨v, a, rv⟩
theorem sh_of (I : Inv X pins σ H s) (sg : Sub G H) {d : D} {u : Value} {n : Nat} (ok : okN n d = true) (h : AtU X.K G d u) : Sh s (AtU X.K G) d u := by
  obtain ⟨x, a, r⟩ := h
  cases d with
  | non => simp only [At] at a; subst a; cases r; exact .non
  | bl b => simp only [At] at a; subst a; cases r; exact .bl b
  | int i => simp only [At] at a; subst a; obtain ⟨t, rfl⟩ := r; exact .int i t
  | str i => simp only [At] at a; subst a; obtain ⟨t, rfl⟩ := r; exact .str i t
  | tup ds =>
    simp only [At] at a
    obtain ⟨p, xs, rfl, hq, al⟩ := a
    cases r
    obtain ⟨its, rv, ht, _⟩ := I.tuple (SqT.of (sg _ _ hq))
    exact .tup p ds its ht (al.length.trans rv.length) (items_at al rv)
  | lst ds =>
    simp only [At] at a
    obtain ⟨p, xs, rfl, hq, al⟩ := a
    cases r
    obtain ⟨its, rv, ht, _⟩ := I.list (SqL.of (sg _ _ hq))
    exact .lst p ds its ht.isList (al.length.trans rv.length) (items_at al rv)
  | scr ds =>
    simp only [At] at a
    obtain ⟨p, xs, rfl, hq, al⟩ := a
    cases r
    obtain ⟨its, rv, ht, _⟩ := I.list (SqL.mono sg hq)
    exact .scr p ds its ht.isList (al.length.trans rv.length) (items_at al rv)
  | dK ks xs => cases n <;> cases ok
  | dT ks xs => cases n <;> cases ok
  | ins C ns xs => cases n <;> cases ok
  | exo C => cases n <;> cases ok
  | ktp ds =>
    simp only [At] at a
    obtain ⟨p, xs, rfl, hq, al⟩ := a
    cases r
    obtain ⟨its, rv, ht, _⟩ := I.tuple (SqT.mono sg hq)
    exact .ktp p ds its ht (al.length.trans rv.length) (items_at al rv)
theorem eqL_len : ∀ {xs ys : List D}, xs.length ≠ ys.length → eqL xs ys = false
  | [], [], h => absurd rfl h
  | [], _ :: _, _ => by simp only [eqL]
  | _ :: _, [], _ => by simp only [eqL]
  | x :: xs, y :: ys, h => by
    simp only [eqL]
    rw [eqL_len (fun e => h (by simp [e])), Bool.and_false]
noncomputable def ixE (xs ys : List D) (j : Nat) : Bool := match xs[j]?, ys[j]? with
  | some x, some y => eqD x y
  | _, _ => true
theorem all_shift (f : Nat → Bool) (n : Nat) : (List.range (n + 1)).all f = (f 0 && (List.range n).all fun j => f (j + 1)) := by
  rw [List.range_succ_eq_map, List.all_cons, List.all_map]
  rfl
theorem eqL_range : ∀ {xs ys : List D}, xs.length = ys.length → (List.range xs.length).all (ixE xs ys) = eqL xs ys
  | [], [], _ => by simp [eqL]
  | [], _ :: _, h => by simp at h
  | _ :: _, [], h => by simp at h
  | x :: xs, y :: ys, h => by
    rw [List.length_cons, all_shift]
    have e : (fun j => ixE (x :: xs) (y :: ys) (j + 1)) = ixE xs ys := by
      funext j
      simp [ixE]
    rw [e, eqL_range (by simpa using h)]
    simp only [eqL]
    rfl
theorem in1_units (A : Around) : A.in1.units = A.units + 1 := rfl
theorem scal_eq {A : Around} {P : D → Value → Prop} {d1 d2 : D} {u v : Value} (h1 : Sh s P d1 u) (h2 : Sh s P d2 v) (o1 : scalD d1 = true) (o2 : scalD d2 = true) :
    SeqAt.EqAt A s u v (eqD d1 d2) ∧ SeqAt.RcAt A s u v (eqD d1 d2) ∧ SeqAt.RcNeAt A s u v (!eqD d1 d2) := by
  cases h1 with
  | non =>
    cases h2 with
    | non => simp only [eqD]; exact ⟨SeqAt.EqAt.same _, SeqAt.RcAt.none_none, SeqAt.RcNeAt.none_none⟩
    | bl b2 => simp only [eqD]; exact ⟨SeqAt.EqAt.none_bool _, SeqAt.RcAt.none_bool _, SeqAt.RcNeAt.none_bool _⟩
    | int i2 t2 => simp only [eqD]; exact ⟨SeqAt.EqAt.none_int _ _, SeqAt.RcAt.none_int _ _, SeqAt.RcNeAt.none_int _ _⟩
    | str x2 t2 => simp only [eqD]; exact ⟨SeqAt.EqAt.none_str _ _, SeqAt.RcAt.none_str _ _, SeqAt.RcNeAt.none_str _ _⟩
    | tup => cases o2
    | ktp => cases o2
    | lst => cases o2
    | scr => cases o2
  | bl b1 =>
    cases h2 with
    | non => simp only [eqD]; exact ⟨SeqAt.EqAt.bool_none _, SeqAt.RcAt.bool_none _, SeqAt.RcNeAt.bool_none _⟩
    | bl b2 => simp only [eqD]; exact ⟨SeqAt.EqAt.bool_bool _ _, SeqAt.RcAt.bool_bool _ _, SeqAt.RcNeAt.bool_bool _ _⟩
    | int i2 t2 => simp only [eqD]; exact ⟨SeqAt.EqAt.bool_int _ _ _, SeqAt.RcAt.bool_int _ _ _, SeqAt.RcNeAt.bool_int _ _ _⟩
    | str x2 t2 => simp only [eqD]; exact ⟨SeqAt.EqAt.bool_str _ _ _, SeqAt.RcAt.bool_str _ _ _, SeqAt.RcNeAt.bool_str _ _ _⟩
    | tup => cases o2
    | ktp => cases o2
    | lst => cases o2
    | scr => cases o2
  | int i1 t1 =>
    cases h2 with
    | non => simp only [eqD]; exact ⟨SeqAt.EqAt.int_none _ _, SeqAt.RcAt.int_none _ _, SeqAt.RcNeAt.int_none _ _⟩
    | bl b2 => simp only [eqD]; exact ⟨SeqAt.EqAt.int_bool _ _ _, SeqAt.RcAt.int_bool _ _ _, SeqAt.RcNeAt.int_bool _ _ _⟩
    | int i2 t2 => simp only [eqD]; exact ⟨SeqAt.EqAt.int_int _ _ _ _, SeqAt.RcAt.int_int _ _ _ _, SeqAt.RcNeAt.int_int _ _ _ _⟩
    | str x2 t2 => simp only [eqD]; exact ⟨SeqAt.EqAt.int_str _ _ _ _, SeqAt.RcAt.int_str _ _ _ _, SeqAt.RcNeAt.int_str _ _ _ _⟩
    | tup => cases o2
    | ktp => cases o2
    | lst => cases o2
    | scr => cases o2
  | str x1 t1 =>
    cases h2 with
    | non => simp only [eqD]; exact ⟨SeqAt.EqAt.str_none _ _, SeqAt.RcAt.str_none _ _, SeqAt.RcNeAt.str_none _ _⟩
    | bl b2 => simp only [eqD]; exact ⟨SeqAt.EqAt.str_bool _ _ _, SeqAt.RcAt.str_bool _ _ _, SeqAt.RcNeAt.str_bool _ _ _⟩
    | int i2 t2 => simp only [eqD]; exact ⟨SeqAt.EqAt.str_int _ _ _ _, SeqAt.RcAt.str_int _ _ _ _, SeqAt.RcNeAt.str_int _ _ _ _⟩
    | str x2 t2 => simp only [eqD]; exact ⟨SeqAt.EqAt.str_str _ _ _ _, SeqAt.RcAt.str_str _ _ _ _, SeqAt.RcNeAt.str_str _ _ _ _⟩
    | tup => cases o2
    | ktp => cases o2
    | lst => cases o2
    | scr => cases o2
  | tup => cases o1
  | ktp => cases o1
  | lst => cases o1
  | scr => cases o1
theorem mix_eq {A : Around} {P : D → Value → Prop} {d1 d2 : D} {u v : Value} (hu : A.units < cLine) (h1 : Sh s P d1 u) (h2 : Sh s P d2 v) (o : scalD d1 = true ∧ scalD d2 = false ∨ scalD d1 = false ∧ scalD d2 = true) :
    SeqAt.EqAt A s u v (eqD d1 d2) ∧ SeqAt.RcAt A s u v (eqD d1 d2) ∧ SeqAt.RcNeAt A s u v (!eqD d1 d2) := by
  cases h1 with
  | non =>
    cases h2 with
    | non => rcases o with ⟨z1, z2⟩ | ⟨z1, z2⟩ <;> first | (cases z1; done) | (cases z2; done)
    | bl => rcases o with ⟨z1, z2⟩ | ⟨z1, z2⟩ <;> first | (cases z1; done) | (cases z2; done)
    | int => rcases o with ⟨z1, z2⟩ | ⟨z1, z2⟩ <;> first | (cases z1; done) | (cases z2; done)
    | str => rcases o with ⟨z1, z2⟩ | ⟨z1, z2⟩ <;> first | (cases z1; done) | (cases z2; done)
    | tup a2 ds2 its2 h2' l2 p2 => simp only [eqD, Bool.not_false]; exact ⟨SeqAt.EqAt.none_tuple h2' hu, SeqAt.RcAt.none_tuple h2' hu, SeqAt.RcNeAt.none_tuple h2' hu⟩
    | ktp a2 ds2 its2 h2' l2 p2 => simp only [eqD, Bool.not_false]; exact ⟨SeqAt.EqAt.none_tuple h2' hu, SeqAt.RcAt.none_tuple h2' hu, SeqAt.RcNeAt.none_tuple h2' hu⟩
    | lst a2 ds2 its2 h2' l2 p2 => simp only [eqD, Bool.not_false]; exact ⟨SeqAt.EqAt.none_list h2' hu, SeqAt.RcAt.none_list h2' hu, SeqAt.RcNeAt.none_list h2' hu⟩
    | scr a2 ds2 its2 h2' l2 p2 => simp only [eqD, Bool.not_false]; exact ⟨SeqAt.EqAt.none_list h2' hu, SeqAt.RcAt.none_list h2' hu, SeqAt.RcNeAt.none_list h2' hu⟩
  | bl b1 =>
    cases h2 with
    | non => rcases o with ⟨z1, z2⟩ | ⟨z1, z2⟩ <;> first | (cases z1; done) | (cases z2; done)
    | bl => rcases o with ⟨z1, z2⟩ | ⟨z1, z2⟩ <;> first | (cases z1; done) | (cases z2; done)
    | int => rcases o with ⟨z1, z2⟩ | ⟨z1, z2⟩ <;> first | (cases z1; done) | (cases z2; done)
    | str => rcases o with ⟨z1, z2⟩ | ⟨z1, z2⟩ <;> first | (cases z1; done) | (cases z2; done)
    | tup a2 ds2 its2 h2' l2 p2 => simp only [eqD, Bool.not_false]; exact ⟨SeqAt.EqAt.bool_tuple _ h2' hu, SeqAt.RcAt.bool_tuple _ h2' hu, SeqAt.RcNeAt.bool_tuple _ h2' hu⟩
    | ktp a2 ds2 its2 h2' l2 p2 => simp only [eqD, Bool.not_false]; exact ⟨SeqAt.EqAt.bool_tuple _ h2' hu, SeqAt.RcAt.bool_tuple _ h2' hu, SeqAt.RcNeAt.bool_tuple _ h2' hu⟩
    | lst a2 ds2 its2 h2' l2 p2 => simp only [eqD, Bool.not_false]; exact ⟨SeqAt.EqAt.bool_list _ h2' hu, SeqAt.RcAt.bool_list _ h2' hu, SeqAt.RcNeAt.bool_list _ h2' hu⟩
    | scr a2 ds2 its2 h2' l2 p2 => simp only [eqD, Bool.not_false]; exact ⟨SeqAt.EqAt.bool_list _ h2' hu, SeqAt.RcAt.bool_list _ h2' hu, SeqAt.RcNeAt.bool_list _ h2' hu⟩
  | int i1 t1 =>
    cases h2 with
    | non => rcases o with ⟨z1, z2⟩ | ⟨z1, z2⟩ <;> first | (cases z1; done) | (cases z2; done)
    | bl => rcases o with ⟨z1, z2⟩ | ⟨z1, z2⟩ <;> first | (cases z1; done) | (cases z2; done)
    | int => rcases o with ⟨z1, z2⟩ | ⟨z1, z2⟩ <;> first | (cases z1; done) | (cases z2; done)
    | str => rcases o with ⟨z1, z2⟩ | ⟨z1, z2⟩ <;> first | (cases z1; done) | (cases z2; done)
    | tup a2 ds2 its2 h2' l2 p2 => simp only [eqD, Bool.not_false]; exact ⟨SeqAt.EqAt.int_tuple _ _ h2' hu, SeqAt.RcAt.int_tuple _ _ h2' hu, SeqAt.RcNeAt.int_tuple _ _ h2' hu⟩
    | ktp a2 ds2 its2 h2' l2 p2 => simp only [eqD, Bool.not_false]; exact ⟨SeqAt.EqAt.int_tuple _ _ h2' hu, SeqAt.RcAt.int_tuple _ _ h2' hu, SeqAt.RcNeAt.int_tuple _ _ h2' hu⟩
    | lst a2 ds2 its2 h2' l2 p2 => simp only [eqD, Bool.not_false]; exact ⟨SeqAt.EqAt.int_list _ _ h2' hu, SeqAt.RcAt.int_list _ _ h2' hu, SeqAt.RcNeAt.int_list _ _ h2' hu⟩
    | scr a2 ds2 its2 h2' l2 p2 => simp only [eqD, Bool.not_false]; exact ⟨SeqAt.EqAt.int_list _ _ h2' hu, SeqAt.RcAt.int_list _ _ h2' hu, SeqAt.RcNeAt.int_list _ _ h2' hu⟩
  | str x1 t1 =>
    cases h2 with
    | non => rcases o with ⟨z1, z2⟩ | ⟨z1, z2⟩ <;> first | (cases z1; done) | (cases z2; done)
    | bl => rcases o with ⟨z1, z2⟩ | ⟨z1, z2⟩ <;> first | (cases z1; done) | (cases z2; done)
    | int => rcases o with ⟨z1, z2⟩ | ⟨z1, z2⟩ <;> first | (cases z1; done) | (cases z2; done)
    | str => rcases o with ⟨z1, z2⟩ | ⟨z1, z2⟩ <;> first | (cases z1; done) | (cases z2; done)
    | tup a2 ds2 its2 h2' l2 p2 => simp only [eqD, Bool.not_false]; exact ⟨SeqAt.EqAt.str_tuple _ _ h2' hu, SeqAt.RcAt.str_tuple _ _ h2' hu, SeqAt.RcNeAt.str_tuple _ _ h2' hu⟩
    | ktp a2 ds2 its2 h2' l2 p2 => simp only [eqD, Bool.not_false]; exact ⟨SeqAt.EqAt.str_tuple _ _ h2' hu, SeqAt.RcAt.str_tuple _ _ h2' hu, SeqAt.RcNeAt.str_tuple _ _ h2' hu⟩
    | lst a2 ds2 its2 h2' l2 p2 => simp only [eqD, Bool.not_false]; exact ⟨SeqAt.EqAt.str_list _ _ h2' hu, SeqAt.RcAt.str_list _ _ h2' hu, SeqAt.RcNeAt.str_list _ _ h2' hu⟩
    | scr a2 ds2 its2 h2' l2 p2 => simp only [eqD, Bool.not_false]; exact ⟨SeqAt.EqAt.str_list _ _ h2' hu, SeqAt.RcAt.str_list _ _ h2' hu, SeqAt.RcNeAt.str_list _ _ h2' hu⟩
  | tup a1 ds1 its1 h1' l1 p1 =>
    cases h2 with
    | non => simp only [eqD, Bool.not_false]; exact ⟨SeqAt.EqAt.tuple_none h1' hu, SeqAt.RcAt.tuple_none h1' hu, SeqAt.RcNeAt.tuple_none h1' hu⟩
    | bl b2 => simp only [eqD, Bool.not_false]; exact ⟨SeqAt.EqAt.tuple_bool _ h1' hu, SeqAt.RcAt.tuple_bool _ h1' hu, SeqAt.RcNeAt.tuple_bool _ h1' hu⟩
    | int i2 t2 => simp only [eqD, Bool.not_false]; exact ⟨SeqAt.EqAt.tuple_int _ _ h1' hu, SeqAt.RcAt.tuple_int _ _ h1' hu, SeqAt.RcNeAt.tuple_int _ _ h1' hu⟩
    | str x2 t2 => simp only [eqD, Bool.not_false]; exact ⟨SeqAt.EqAt.tuple_str _ _ h1' hu, SeqAt.RcAt.tuple_str _ _ h1' hu, SeqAt.RcNeAt.tuple_str _ _ h1' hu⟩
    | tup => rcases o with ⟨z1, z2⟩ | ⟨z1, z2⟩ <;> first | (cases z1; done) | (cases z2; done)
    | ktp => rcases o with ⟨z1, z2⟩ | ⟨z1, z2⟩ <;> first | (cases z1; done) | (cases z2; done)
    | lst => rcases o with ⟨z1, z2⟩ | ⟨z1, z2⟩ <;> first | (cases z1; done) | (cases z2; done)
    | scr => rcases o with ⟨z1, z2⟩ | ⟨z1, z2⟩ <;> first | (cases z1; done) | (cases z2; done)
  | ktp a1 ds1 its1 h1' l1 p1 =>
    cases h2 with
    | non => simp only [eqD, Bool.not_false]; exact ⟨SeqAt.EqAt.tuple_none h1' hu, SeqAt.RcAt.tuple_none h1' hu, SeqAt.RcNeAt.tuple_none h1' hu⟩
    | bl b2 => simp only [eqD, Bool.not_false]; exact ⟨SeqAt.EqAt.tuple_bool _ h1' hu, SeqAt.RcAt.tuple_bool _ h1' hu, SeqAt.RcNeAt.tuple_bool _ h1' hu⟩
    | int i2 t2 => simp only [eqD, Bool.not_false]; exact ⟨SeqAt.EqAt.tuple_int _ _ h1' hu, SeqAt.RcAt.tuple_int _ _ h1' hu, SeqAt.RcNeAt.tuple_int _ _ h1' hu⟩
    | str x2 t2 => simp only [eqD, Bool.not_false]; exact ⟨SeqAt.EqAt.tuple_str _ _ h1' hu, SeqAt.RcAt.tuple_str _ _ h1' hu, SeqAt.RcNeAt.tuple_str _ _ h1' hu⟩
    | tup => rcases o with ⟨z1, z2⟩ | ⟨z1, z2⟩ <;> first | (cases z1; done) | (cases z2; done)
    | ktp => rcases o with ⟨z1, z2⟩ | ⟨z1, z2⟩ <;> first | (cases z1; done) | (cases z2; done)
    | lst => rcases o with ⟨z1, z2⟩ | ⟨z1, z2⟩ <;> first | (cases z1; done) | (cases z2; done)
    | scr => rcases o with ⟨z1, z2⟩ | ⟨z1, z2⟩ <;> first | (cases z1; done) | (cases z2; done)
  | lst a1 ds1 its1 h1' l1 p1 =>
    cases h2 with
    | non => simp only [eqD, Bool.not_false]; exact ⟨SeqAt.EqAt.list_none h1' hu, SeqAt.RcAt.list_none h1' hu, SeqAt.RcNeAt.list_none h1' hu⟩
    | bl b2 => simp only [eqD, Bool.not_false]; exact ⟨SeqAt.EqAt.list_bool _ h1' hu, SeqAt.RcAt.list_bool _ h1' hu, SeqAt.RcNeAt.list_bool _ h1' hu⟩
    | int i2 t2 => simp only [eqD, Bool.not_false]; exact ⟨SeqAt.EqAt.list_int _ _ h1' hu, SeqAt.RcAt.list_int _ _ h1' hu, SeqAt.RcNeAt.list_int _ _ h1' hu⟩
    | str x2 t2 => simp only [eqD, Bool.not_false]; exact ⟨SeqAt.EqAt.list_str _ _ h1' hu, SeqAt.RcAt.list_str _ _ h1' hu, SeqAt.RcNeAt.list_str _ _ h1' hu⟩
    | tup => rcases o with ⟨z1, z2⟩ | ⟨z1, z2⟩ <;> first | (cases z1; done) | (cases z2; done)
    | ktp => rcases o with ⟨z1, z2⟩ | ⟨z1, z2⟩ <;> first | (cases z1; done) | (cases z2; done)
    | lst => rcases o with ⟨z1, z2⟩ | ⟨z1, z2⟩ <;> first | (cases z1; done) | (cases z2; done)
    | scr => rcases o with ⟨z1, z2⟩ | ⟨z1, z2⟩ <;> first | (cases z1; done) | (cases z2; done)
  | scr a1 ds1 its1 h1' l1 p1 =>
    cases h2 with
    | non => simp only [eqD, Bool.not_false]; exact ⟨SeqAt.EqAt.list_none h1' hu, SeqAt.RcAt.list_none h1' hu, SeqAt.RcNeAt.list_none h1' hu⟩
    | bl b2 => simp only [eqD, Bool.not_false]; exact ⟨SeqAt.EqAt.list_bool _ h1' hu, SeqAt.RcAt.list_bool _ h1' hu, SeqAt.RcNeAt.list_bool _ h1' hu⟩
    | int i2 t2 => simp only [eqD, Bool.not_false]; exact ⟨SeqAt.EqAt.list_int _ _ h1' hu, SeqAt.RcAt.list_int _ _ h1' hu, SeqAt.RcNeAt.list_int _ _ h1' hu⟩
    | str x2 t2 => simp only [eqD, Bool.not_false]; exact ⟨SeqAt.EqAt.list_str _ _ h1' hu, SeqAt.RcAt.list_str _ _ h1' hu, SeqAt.RcNeAt.list_str _ _ h1' hu⟩
    | tup => rcases o with ⟨z1, z2⟩ | ⟨z1, z2⟩ <;> first | (cases z1; done) | (cases z2; done)
    | ktp => rcases o with ⟨z1, z2⟩ | ⟨z1, z2⟩ <;> first | (cases z1; done) | (cases z2; done)
    | lst => rcases o with ⟨z1, z2⟩ | ⟨z1, z2⟩ <;> first | (cases z1; done) | (cases z2; done)
    | scr => rcases o with ⟨z1, z2⟩ | ⟨z1, z2⟩ <;> first | (cases z1; done) | (cases z2; done)
theorem eqL_all : ∀ {xs ys : List D}, xs.length = ys.length → (∀ (i : Nat) x y, xs[i]? = some x → ys[i]? = some y → eqD x y = true) → eqL xs ys = true
  | [], [], _, _ => by simp only [eqL]
  | [], _ :: _, h, _ => by simp at h
  | _ :: _, [], h, _ => by simp at h
  | x :: xs, y :: ys, h, k => by
    simp only [eqL]
    rw [k 0 x y rfl rfl, eqL_all (by simpa using h) fun i a b e1 e2 => k (i + 1) a b (by simpa using e1) (by simpa using e2)]
    rfl
theorem scal_uniq {K : PySem.W.Frag} {d1 d2 : D} {x : V} (o1 : scalD d1 = true) (a1 : At K G d1 x) (a2 : At K G d2 x) : eqD d1 d2 = true := by
  cases d1 with
  | non =>
    simp only [At] at a1; subst a1
    cases d2 <;> simp only [At] at a2 <;> first | (simp only [eqD]; done) | (cases a2; done) | (obtain ⟨a, xs, e, _⟩ := a2; cases e; done) | (obtain ⟨a, dx, xs, e, _⟩ := a2; cases e; done)
  | bl b =>
    simp only [At] at a1; subst a1
    cases d2 <;> simp only [At] at a2 <;> first | (cases a2; simp only [eqD, beq_self_eq_true]; done) | (cases a2; done) | (obtain ⟨a, xs, e, _⟩ := a2; cases e; done) | (obtain ⟨a, dx, xs, e, _⟩ := a2; cases e; done)
  | int b =>
    simp only [At] at a1; subst a1
    cases d2 <;> simp only [At] at a2 <;> first | (cases a2; simp only [eqD, beq_self_eq_true]; done) | (cases a2; done) | (obtain ⟨a, xs, e, _⟩ := a2; cases e; done) | (obtain ⟨a, dx, xs, e, _⟩ := a2; cases e; done)
  | str b =>
    simp only [At] at a1; subst a1
    cases d2 <;> simp only [At] at a2 <;> first | (cases a2; simp only [eqD, beq_self_eq_true]; done) | (cases a2; done) | (obtain ⟨a, xs, e, _⟩ := a2; cases e; done) | (obtain ⟨a, dx, xs, e, _⟩ := a2; cases e; done)
  | _ => cases o1
theorem eqD_comm_scal {d1 d2 : D} (o2 : scalD d2 = true) (o1 : scalD d1 = false) {K : PySem.W.Frag} {x : V} (a1 : At K G d1 x) (a2 : At K G d2 x) : False := by
  cases d2 <;> first
    | (cases o2; done)
    | (simp only [At] at a2; subst a2
       cases d1 <;> first
        | (cases o1; done)
        | (simp only [At] at a1; obtain ⟨a, xs, e, _⟩ := a1; cases e; done)
        | (simp only [At] at a1; obtain ⟨a, dx, xs, e, _⟩ := a1; cases e; done))
inductive Sq (K : PySem.W.Frag) (G : Hp) : D → Addr → Bool → List D → List V → Prop where
  | tup {a ds xs} (h : SqT K G a xs) (q : AtL K G ds xs) : Sq K G (.tup ds) a true ds xs
  | ktp {a ds xs} (h : SqT K G a xs) (q : AtL K G ds xs) : Sq K G (.ktp ds) a true ds xs
  | lst {a ds xs} (h : G a = some (.lst xs)) (q : AtL K G ds xs) : Sq K G (.lst ds) a false ds xs
  | scr {a ds xs} (h : SqL K G a xs) (q : AtL K G ds xs) : Sq K G (.scr ds) a false ds xs
theorem sq_of {K : PySem.W.Frag} {n : Nat} {d : D} {x : V} (o : okN n d = true) (ns : scalD d = false) (a : At K G d x) : ∃ p b ds xs, x = .ref p ∧ Sq K G d p b ds xs ∧ ∃ m, n = m + 1 ∧ ds.all (okN m) = true := by
  cases d with
  | tup ds =>
    simp only [At] at a
    obtain ⟨p, xs, e, h, q⟩ := a
    cases n with
    | zero => cases o
    | succ m => exact ⟨p, _, ds, xs, e, .tup (SqT.of h) q, m, rfl, o⟩
  | lst ds =>
    simp only [At] at a
    obtain ⟨p, xs, e, h, q⟩ := a
    cases n with
    | zero => cases o
    | succ m => exact ⟨p, _, ds, xs, e, .lst h q, m, rfl, o⟩
  | scr ds =>
    simp only [At] at a
    obtain ⟨p, xs, e, h, q⟩ := a
    cases n with
    | zero => cases o
    | succ m => exact ⟨p, _, ds, xs, e, .scr h q, m, rfl, o⟩
  | dK _ _ => cases n <;> cases o
  | dT _ _ => cases n <;> cases o
  | ins _ _ _ => cases n <;> cases o
  | exo _ => cases n <;> cases o
  | ktp ds =>
    simp only [At] at a
    obtain ⟨p, xs, e, h, q⟩ := a
    cases n with
    | zero => cases o
    | succ m => exact ⟨p, _, ds, xs, e, .ktp h q, m, rfl, o⟩
  | _ => cases ns
theorem Sq.atl {K : PySem.W.Frag} {d : D} {p : Addr} {b : Bool} {ds : List D} {xs : List V} (h : Sq K G d p b ds xs) : AtL K G ds xs := by cases h <;> assumption
theorem Sq.eq {K : PySem.W.Frag} {d1 d2 : D} {p1 p2 : Addr} {b1 b2 : Bool} {ds1 ds2 : List D} {xs1 xs2 : List V} (h1 : Sq K G d1 p1 b1 ds1 xs1) (h2 : Sq K G d2 p2 b2 ds2 xs2) : eqD d1 d2 = (b1 == b2 && eqL ds1 ds2) := by
  cases h1 <;> cases h2 <;> simp [eqD]
theorem Sq.heap (I : Inv X pins σ H s) (sg : Sub G H) {d : D} {p : Addr} {b : Bool} {ds : List D} {xs : List V} (h : Sq X.K G d p b ds xs) :
    ∃ its : List Value, Vals xs its ∧ (b = true → s.heap.IsTuple p its.toArray) ∧ (b = false → s.heap.IsList p its.toArray) := by
  cases h with
  | tup h q => obtain ⟨its, rv, ht, _⟩ := I.tuple (SqT.mono sg h); exact ⟨its, rv, fun _ => ht, fun z => by cases z⟩
  | ktp h q => obtain ⟨its, rv, ht, _⟩ := I.tuple (SqT.mono sg h); exact ⟨its, rv, fun _ => ht, fun z => by cases z⟩
  | lst h q => obtain ⟨its, rv, ht, _⟩ := I.list (SqL.of (sg _ _ h)); exact ⟨its, rv, (fun z => by cases z), fun _ => ht.isList⟩
  | scr h q => obtain ⟨its, rv, ht, _⟩ := I.list (SqL.mono sg h); exact ⟨its, rv, (fun z => by cases z), fun _ => ht.isList⟩
theorem Sq.same (I : Inv X pins σ H s) (sg : Sub G H) {d1 d2 : D} {p : Addr} {b1 b2 : Bool} {ds1 ds2 : List D} {xs1 xs2 : List V} (h1 : Sq X.K G d1 p b1 ds1 xs1) (h2 : Sq X.K G d2 p b2 ds2 xs2) : b1 = b2 ∧ xs1 = xs2 := by
  obtain ⟨its1, r1, t1, l1⟩ := h1.heap I sg
  obtain ⟨its2, r2, t2, l2⟩ := h2.heap I sg
  cases b1 with
  | true =>
    cases b2 with
    | false => exact absurd rfl (SeqAt.ne_of_list_tuple (l2 rfl) (t1 rfl))
    | true =>
      refine ⟨rfl, ?_⟩
      cases h1 <;> cases h2 <;>
      exact I.tuple_inj (SqT.mono sg (by assumption)) (SqT.mono sg (by assumption))
  | false =>
    cases b2 with
    | true => exact absurd rfl (SeqAt.ne_of_list_tuple (l1 rfl) (t2 rfl))
    | false =>
      refine ⟨rfl, ?_⟩
      have g1 : SqL X.K H p xs1 := by
        cases h1 with
        | lst h q => exact SqL.of (sg _ _ h)
        | scr h q => exact SqL.mono sg h
      have g2 : SqL X.K H p xs2 := by
        cases h2 with
        | lst h q => exact SqL.of (sg _ _ h)
        | scr h q => exact SqL.mono sg h
      exact I.list_inj g1 g2
theorem all_get {f : D → Bool} {ds : List D} (h : ds.all f = true) {i : Nat} {d : D} (e : ds[i]? = some d) : f d = true := List.all_eq_true.mp h d (List.mem_of_getElem? e)
theorem at_uniq (I : Inv X pins σ H s) (sg : Sub G H) : ∀ (n : Nat) {d1 d2 : D} {x : V}, okN n d1 = true → okN n d2 = true → At X.K G d1 x → At X.K G d2 x → eqD d1 d2 = true := by
  intro n
  induction n with
  | zero =>
    intro d1 d2 x o1 o2 a1 a2
    exact scal_uniq (by cases d1 <;> first | rfl | (cases o1)) a1 a2
  | succ n ih =>
    intro d1 d2 x o1 o2 a1 a2
    cases s1 : scalD d1 with
    | true => exact scal_uniq s1 a1 a2
    | false =>
      cases s2 : scalD d2 with
      | true => exact (eqD_comm_scal s2 s1 a1 a2).elim
      | false =>
        obtain ⟨p1, b1, ds1, xs1, e1, q1, m1, em1, k1⟩ := sq_of o1 s1 a1
        obtain ⟨p2, b2, ds2, xs2, e2, q2, m2, em2, k2⟩ := sq_of o2 s2 a2
        subst e1
        cases e2
        have : n = m1 := by omega
        subst this
        have : n = m2 := by omega
        subst this
        obtain ⟨eb, ex⟩ := q1.same I sg q2
        subst eb; subst ex
        rw [q1.eq q2, beq_self_eq_true, Bool.true_and]
        refine eqL_all (q1.atl.length.trans q2.atl.length.symm) fun i a b ea eb => ?_
        obtain ⟨v, ev, av⟩ := q1.atl.get ea
        obtain ⟨v', ev', bv⟩ := q2.atl.get eb
        rw [ev] at ev'; cases ev'
        exact ih (all_get k1 ea) (all_get k2 eb) av bv
theorem eqAt_of (I : Inv X pins σ H s) (sg : Sub G H) : ∀ (n : Nat) {d1 d2 : D} {u v : Value} {A : Around}, okN n d1 = true → okN n d2 = true → AtU X.K G d1 u → AtU X.K G d2 v → A.units + n < cLine →
    SeqAt.EqAt A s u v (eqD d1 d2) ∧ SeqAt.RcAt A s u v (eqD d1 d2) ∧ SeqAt.RcNeAt A s u v (!eqD d1 d2) := by
  intro n
  induction n with
  | zero =>
    intro d1 d2 u v A o1 o2 a1 a2 hu
    refine scal_eq (sh_of I sg o1 a1) (sh_of I sg o2 a2) ?_ ?_
    · cases d1 <;> first | rfl | (cases o1)
    · cases d2 <;> first | rfl | (cases o2)
  | succ n ih =>
    intro d1 d2 u v A o1 o2 a1 a2 hu
    have hu0 : A.units < cLine := by omega
    cases s1 : scalD d1 with
    | true =>
      cases s2 : scalD d2 with
      | true => exact scal_eq (sh_of I sg o1 a1) (sh_of I sg o2 a2) s1 s2
      | false => exact mix_eq hu0 (sh_of I sg o1 a1) (sh_of I sg o2 a2) (.inl ⟨s1, s2⟩)
    | false =>
      cases s2 : scalD d2 with
      | true => exact mix_eq hu0 (sh_of I sg o1 a1) (sh_of I sg o2 a2) (.inr ⟨s1, s2⟩)
      | false =>
        obtain ⟨x1, at1, rx1⟩ := a1
        obtain ⟨x2, at2, rx2⟩ := a2
        obtain ⟨p1, b1, ds1, xs1, e1, q1, m1, em1, k1⟩ := sq_of o1 s1 at1
        obtain ⟨p2, b2, ds2, xs2, e2, q2, m2, em2, k2⟩ := sq_of o2 s2 at2
        subst e1; subst e2
        cases rx1
        cases rx2
        have : n = m1 := by omega
        subst this
        have : n = m2 := by omega
        subst this
        obtain ⟨its1, r1, t1, l1⟩ := q1.heap I sg
        obtain ⟨its2, r2, t2, l2⟩ := q2.heap I sg
        have len1 : ds1.length = its1.length := q1.atl.length.trans r1.length
        have len2 : ds2.length = its2.length := q2.atl.length.trans r2.length
        have item : ∀ j (h1 : j < its1.toArray.size) (h2 : j < its2.toArray.size), SeqAt.EqAt A.in1 s its1.toArray[j] its2.toArray[j] (ixE ds1 ds2 j) := fun j h1 h2 => by
          have j1 : j < ds1.length := by rw [len1]; simpa using h1
          have j2 : j < ds2.length := by rw [len2]; simpa using h2
          have g1 : AtU X.K G ds1[j] its1.toArray[j] := items_at q1.atl r1 j _ _ (List.getElem?_eq_getElem j1) (by simp at h1; simp [h1])
          have g2 : AtU X.K G ds2[j] its2.toArray[j] := items_at q2.atl r2 j _ _ (List.getElem?_eq_getElem j2) (by simp at h2; simp [h2])
          have := (ih (A := A.in1) (all_get k1 (List.getElem?_eq_getElem j1)) (all_get k2 (List.getElem?_eq_getElem j2)) g1 g2 (by rw [in1_units]; omega)).1
          unfold ixE
          rw [List.getElem?_eq_getElem j1, List.getElem?_eq_getElem j2]
          exact this
        have whole : SeqAt.RcAt A s (.ref p1) (.ref p2) (eqD d1 d2) ∧ SeqAt.RcNeAt A s (.ref p1) (.ref p2) (!eqD d1 d2) := by
          rw [q1.eq q2]
          cases b1 with
          | true =>
            cases b2 with
            | false => exact ⟨SeqAt.RcAt.tuple_list (t1 rfl) (l2 rfl) hu0, SeqAt.RcNeAt.tuple_list (t1 rfl) (l2 rfl) hu0⟩
            | true =>
              have c1 := SeqAt.RcAt.tuples (e := ixE ds1 ds2) (t1 rfl) (t2 rfl) hu0 item
              have c2 := SeqAt.RcNeAt.tuples (e := ixE ds1 ds2) (t1 rfl) (t2 rfl) hu0 item
              have eq : ((List.range (min its1.toArray.size its2.toArray.size)).all (ixE ds1 ds2) && its1.toArray.size == its2.toArray.size) = (true == true && eqL ds1 ds2) := by
                rw [List.size_toArray, List.size_toArray, ← len1, ← len2, beq_self_eq_true, Bool.true_and]
                by_cases hl : ds1.length = ds2.length
                · rw [← hl, Nat.min_self, eqL_range hl, beq_self_eq_true, Bool.and_true]
                · rw [eqL_len hl]
                  have : (ds1.length == ds2.length) = false := by simpa using hl
                  rw [this, Bool.and_false]
              rw [eq] at c1
              refine ⟨c1, ?_⟩
              first
                | (rw [eq] at c2; exact c2)
                | exact c2
          | false =>
            cases b2 with
            | true => exact ⟨SeqAt.RcAt.list_tuple (l1 rfl) (t2 rfl) hu0, SeqAt.RcNeAt.list_tuple (l1 rfl) (t2 rfl) hu0⟩
            | false =>
              rw [beq_self_eq_true, Bool.true_and]
              by_cases hl : ds1.length = ds2.length
              · have c1 := SeqAt.RcAt.lists (e := ixE ds1 ds2) (l1 rfl) (l2 rfl) (by rw [List.size_toArray, List.size_toArray, ← len1, ← len2]; exact hl) hu0 item
                have c2 := SeqAt.RcNeAt.lists (e := ixE ds1 ds2) (l1 rfl) (l2 rfl) (by rw [List.size_toArray, List.size_toArray, ← len1, ← len2]; exact hl) hu0 item
                rw [List.size_toArray, ← len1, eqL_range hl] at c1 c2
                exact ⟨c1, c2⟩
              · have hz : (its1.toArray.size != its2.toArray.size) = true := by
                  rw [List.size_toArray, List.size_toArray, ← len1, ← len2]; simpa using hl
                rw [eqL_len hl]
                exact ⟨SeqAt.RcAt.lists_lengths (l1 rfl) (l2 rfl) hz hu0, SeqAt.RcNeAt.lists_lengths (l1 rfl) (l2 rfl) hz hu0⟩
        refine ⟨?_, whole⟩
        by_cases hp : p1 = p2
        · subst hp
          rw [at_uniq I sg (n + 1) o1 o2 at1 at2]
          exact SeqAt.EqAt.same _
        · exact SeqAt.EqAt.of_refs hp whole.1
end
end L3
set_option Elab.async false
set_option linter.all false
set_option maxRecDepth 100000
namespace L3
open PySem PySem.Spec L2
noncomputable def notStar : Expr → Bool
  | .Starred .. => false
  | _ => true
theorem starEach_cons' (e : Expr) (es : List Expr) (env : Env) (h : notStar e = true) : starEach (e :: es) env = (false, eval e env) :: starEach es env := by
  cases e <;> first | rfl | (cases h)
noncomputable def notComp : Expr → Bool
  | .ListComp .. => false
  | .SetComp .. => false
  | .DictComp .. => false
  | _ => true
theorem swaps_no (e : Expr) (t : Option Expr) (l : Nat) (env : Env) (h : notComp e = true) : swapsWith e t l env = pure false := by
  cases e <;> first | rfl | (cases h)
noncomputable def notSl : Expr → Bool
  | .Slice .. => false
  | _ => true
theorem px {b : Expr} (h : notSl b = true := by rfl) : PlainIx b := fun o i => by
  cases b <;> first | rfl | (cases h)
section
variable {X : Cx} {F : Fx} {e a b c : Expr} {es : List Expr} {pos : Pos}
theorem PE.imp {t t' : TE} (h : PE X e t) (i : ImpE t' t) : PE X e t' := fun pins s σ H Q I hw => h pins s σ H Q I (i σ H Q hw)
theorem PT.imp {t t' : TT} (h : PT X e t) (i : ImpT t' t) : PT X e t' := fun pins s σ H Q I hw => h pins s σ H Q I (i σ H Q hw)
theorem PW.imp {t t' : TT} (h : PW X e t) (i : ImpT t' t) : PW X e t' := fun wh pins s σ H Q I hw => h wh pins s σ H Q I (i σ H Q hw)
theorem PA.imp {t t' : TA} (h : PA X es t) (i : ImpA t' t) : PA X es t' := fun p pins s σ H Q I hw => h p pins s σ H Q I (i σ H Q hw)
theorem PS.imp {st : Stmt} {t t' : TS} (h : PS X st t) (i : ImpS t' t) : PS X st t' := fun pins s σ H De I hw => h pins s σ H De I (i De σ H hw)
theorem PSs.imp {st : List Stmt} {t t' : TS} (h : PSs X st t) (i : ImpS t' t) : PSs X st t' := fun pins s σ H De I hw => h pins s σ H De I (i De σ H hw)
theorem PI.imp {tg : Expr} {t t' : TI} (h : PI X tg e t) (i : ImpI t' t) : PI X tg e t' := fun pins s σ H Q I hw => h pins s σ H Q I (i σ H Q hw)
noncomputable abbrev EM (X : Cx) (F : Fx) (e : Expr) (m : ME) : Prop := PE X e (tE F m)
noncomputable abbrev EO (X : Cx) (F : Fx) (e : Expr) (m : MA) : Prop := PE X e (tO F m)
noncomputable abbrev TM (X : Cx) (F : Fx) (e : Expr) (m : MT) : Prop := PT X e (tT F m)
noncomputable abbrev WM (X : Cx) (F : Fx) (e : Expr) (m : MT) : Prop := PW X e (tT F m)
noncomputable abbrev AM (X : Cx) (F : Fx) (es : List Expr) (m : MA) : Prop := PA X es (tA F m)
noncomputable abbrev SM (X : Cx) (F : Fx) (st : Stmt) (m : MS) : Prop := PS X st (tS F m)
noncomputable abbrev BM (X : Cx) (F : Fx) (st : List Stmt) (m : MS) : Prop := PSs X st (tS F m)
noncomputable abbrev IM (X : Cx) (F : Fx) (tg e : Expr) (m : MA) : Prop := PI X tg e (tI F m)
theorem e_var (i : Nat) {x : Str} (hN : X.N[i]? = some x := by rfl) (hv : Vis X.env.scope x := by first | exact Or.inl rfl | exact Or.inr (Or.inl rfl) | exact Or.inr (Or.inr rfl))
    (hd : (x == ("__debug__" : Str)) = false := by decide) (hcd : (x == ("__classdict__" : Str)) = false := by decide) : EM X F (.Name x pos) (mVar i) := PE.imp (pe_var hN hv hd hcd) (i_var i)
theorem e_int {i : Int} {j} : EM X F (.Constant (.int i) j pos) (mC (.int i)) := PE.imp pe_int (i_C fun _ => by simp only [At])
theorem e_bl {i : Bool} {j} : EM X F (.Constant (.bool i) j pos) (mC (.bl i)) := PE.imp pe_bl (i_C fun _ => by simp only [At])
theorem e_str {i : Str} {j} : EM X F (.Constant (.str i) j pos) (mC (.str i)) := PE.imp pe_str (i_C fun _ => by simp only [At])
theorem e_non {j} : EM X F (.Constant .none j pos) (mC .non) := PE.imp pe_non (i_C fun _ => by simp only [At])
theorem e_glob {x : Str} {v : V} {u : Value} {d : D} (hm : X.mg x = some u) (r : RelV v u) (at' : ∀ G, At F.K G d v) (hg : Gl X x := by rfl) (hd : (x == ("__debug__" : Str)) = false := by decide) : EM X F (.Name x pos) (mC d) :=
  PE.imp (pe_glob hg hm r hd) (i_C at')
theorem a_nil : AM X F [] mNil := PA.imp pa_nil i_nil
theorem a_cons {m : ME} {r : MA} (h : EM X F e m) (t : AM X F es r) (hs : notStar e = true := by rfl) : AM X F (e :: es) (mCons m r) := PA.imp (pa_cons h t (starEach_cons' e es X.env hs)) i_cons
theorem e_tup {k} {m : MA} (h : AM X F es m) : EM X F (.Tuple es k pos) (mTup m) := PE.imp (pe_tup h) i_tup
theorem o_lst {m : MA} (h : AM X F es m) : EO X F (.List es pos) (mLim m) := PE.imp (pe_lst h) i_lst
theorem e_fz {m : MA} (h : EO X F e m) : EM X F e (mFz m) := PE.imp h i_fz
theorem t_bor {m : MT} (h : TM X F e m) : TM X F e (mBorT m) := PT.imp h i_borT
theorem t_val {m : ME} (h : EM X F e m) (he : ∀ whole, isTrue e X.env whole = (do let v ← whole; standAt e.pos; holding [v] (truthy v)) := by intro _; rfl) : TM X F e (mB m) := PT.imp (pt_val h he) i_B
theorem w_or1 {m : MT} (h : TM X F a m) : WM X F (.BoolOp .Or [a] pos) m := pw_or1 h
theorem w_or {m n : MT} (h : TM X F a m) (k : WM X F (.BoolOp .Or (b :: es) pos) n) : WM X F (.BoolOp .Or (a :: b :: es) pos) (mOr m n) := PW.imp (pw_or h k) i_or
theorem t_w {m : MT} (h : WM X F e m) : TM X F e m := PW.pt h
theorem t_not {m : MT} (h : TM X F a m) : TM X F (.UnaryOp .Not a pos) (mNot m) := PT.imp (pt_not h) i_not
theorem e_one {op} {m : ME} (h : EM X F a m) : EM X F (.BoolOp op [a] pos) m := pe_one h
theorem e_and {m n : ME} (h : EM X F a m) (k : EM X F (.BoolOp .And (b :: es) pos) n) : EM X F (.BoolOp .And (a :: b :: es) pos) (mAndV m n) := PE.imp (pe_and h k) i_andV
theorem e_or {m n : ME} (h : EM X F a m) (k : EM X F (.BoolOp .Or (b :: es) pos) n) : EM X F (.BoolOp .Or (a :: b :: es) pos) (mOrV m n) := PE.imp (pe_or h k) i_orV
theorem e_not {m : ME} (h : EM X F a m) : EM X F (.UnaryOp .Not a pos) (mNotV m) := PE.imp (pe_not h) i_notV
theorem e_if {k : MT} {m n : ME} (h : TM X F c k) (ha : EM X F a m) (hb : EM X F b n) : EM X F (.IfExp c a b pos) (mIf k m n) := PE.imp (pe_ifExp h ha hb) i_if
variable {st : Stmt} {sts : List Stmt}
theorem s_nil : BM X F [] mNext := PSs.imp pss_nil i_next
theorem s_cons {m n : MS} (h : SM X F st m) (k : BM X F sts n) : BM X F (st :: sts) (mSeq m n) := PSs.imp (pss_cons h k) i_seq
theorem s_one {m : MS} (h : SM X F st m) : BM X F [st] m := pss_one h
theorem s_ret {m : ME} (h : EM X F e m) : SM X F (.Return (some e) pos) (mRet m) := PS.imp (ps_ret h) i_ret
theorem s_retO {m : MA} (h : EO X F e m) : SM X F (.Return (some e) pos) (mRetO m) := PS.imp (ps_ret h) i_retO
theorem s_retV (i : Nat) {x : Str} {p : Pos} (hN : X.N[i]? = some x := by rfl) (hv : Vis X.env.scope x := by first | exact Or.inl rfl | exact Or.inr (Or.inl rfl) | exact Or.inr (Or.inr rfl)) (hd : (x == ("__debug__" : Str)) = false := by decide) (hcd : (x == ("__classdict__" : Str)) = false := by decide) :
    SM X F (.Return (some (.Name x p)) pos) (mRetO (mVarO i)) := PS.imp (ps_ret (pe_var hN hv hd hcd)) (i_retV i)
theorem s_if {k : MT} {m n : MS} {xs ys : List Stmt} (h : TM X F c k) (ha : BM X F xs m) (hb : BM X F ys n) : SM X F (.If c xs ys pos) (mIfS k m n) := PS.imp (ps_if h ha hb) i_ifS
theorem s_frz {m : MS} (i : Nat) (h : SM X F st m) : SM X F st (mFrz i m) := PS.imp h i_frz
theorem s_set (i : Nat) {x : Str} {p : Pos} {m : ME} (hN : X.N.Nodup) (he : EM X F e m) (hi : X.N[i]? = some x := by rfl) (hx : Loc X.env.scope x := by first | exact Or.inl rfl | exact Or.inr rfl) (hs : notComp e = true := by rfl)
    (hf : X.fn x = true ∨ X.env.scope.names.lookup x = some .local := by first | exact .inl rfl | exact .inr rfl) : SM X F (.Assign [.Name x p] e pos) (mSet i m) := PS.imp (ps_set hN hi hx he (swaps_no _ _ _ _ hs) hf) i_set
theorem s_setO (i : Nat) {x : Str} {p : Pos} {m : MA} (hN : X.N.Nodup) (he : EO X F e m) (hi : X.N[i]? = some x := by rfl) (hx : Loc X.env.scope x := by first | exact Or.inl rfl | exact Or.inr rfl) (hs : notComp e = true := by rfl)
    (hf : X.fn x = true ∨ X.env.scope.names.lookup x = some .local := by first | exact .inl rfl | exact .inr rfl) : SM X F (.Assign [.Name x p] e pos) (mSetO i m) := PS.imp (ps_set hN hi hx he (swaps_no _ _ _ _ hs) hf) i_setO
theorem e_bin {op : Operator} {r : R2} {f : D → D → R D} {m n : ME} (ho : OpR X (binaryOp op) r) (hf : OpOk F r f) (ha : EM X F a m) (hb : EM X F b n) : EM X F (.BinOp a op b pos) (mBin f m n) := PE.imp (pe_op ho ha hb) (i_bin hf)
theorem e_cmpR {op : CmpOp} {r : R2} {f : D → D → R D} {m n : ME} (ho : OpR X (compareOp op) r) (hf : OpOk F r f) (ha : EM X F a m) (hb : EM X F b n) (hm : behindInMarks op b = false) : EM X F (.Compare a [op] [b] pos) (mBin f m n) := PE.imp (pe_cmpR ho ha hb hm) (i_bin hf)
theorem t_cmpR {op : CmpOp} {r : R2} {f : D → D → R D} {m n : ME} (ho : OpR X (compareOp op) r) (hf : OpOk F r f) (ha : EM X F a m) (hb : EM X F b n) (hm : behindInMarks op b = false) : TM X F (.Compare a [op] [b] pos) (mB (mBin f m n)) :=
  PT.imp (pt_cmpR ho ha hb hm) fun σ H Q h => by
    obtain ⟨G, ρ, r, k⟩ := i_Test (F := F) (m := mBin f m n) σ H Q h
    exact i_bin hf σ H _ ⟨G, ρ, r, k⟩
theorem e_un {op : UnaryOp} {r : V → Hp → VK → Prop} {f : D → R D} {m : ME} (ho : UnR X (unaryOp op) r) (hf : UnOk F r f) (ha : EM X F a m) : EM X F (.UnaryOp op a pos) (mUn f m) := PE.imp (pe_un ho ha) (i_un hf)
noncomputable def intsD (f : Int → Int → R D) : D → D → R D
  | .int i, .int j => f i j
  | _, _ => .bad
theorem ok_ints0 {g : Int → Int → V} {f : Int → Int → D} (h : ∀ i j G, At F.K G (f i j) (g i j)) : OpOk F (rI0 g) (intsD fun i j => .ok (f i j)) := by
  intro σ ρ G H x y dx dy Q r ax ay k
  unfold intsD at k
  split at k
  · rename_i i j
    simp only [At] at ax ay
    exact ⟨i, j, ax, ay, k _ H G r (Up.refl _ _) (h i j G)⟩
  · exact k.elim
theorem ok_ints {C : Int → Int → Prop} [∀ i j, Decidable (C i j)] {g : Int → Int → V} {f : Int → Int → D} (h : ∀ i j G, At F.K G (f i j) (g i j)) : OpOk F (rI C g) (intsD fun i j => if C i j then .ok (f i j) else .bad) := by
  intro σ ρ G H x y dx dy Q r ax ay k
  unfold intsD at k
  split at k
  · rename_i i j
    simp only [At] at ax ay
    dsimp only at k
    split at k
    · rename_i hc
      exact ⟨i, j, ax, ay, hc, k _ H G r (Up.refl _ _) (h i j G)⟩
    · exact k.elim
  · exact k.elim
instance (i j : Int) : Decidable (CDiv i j) := by unfold CDiv; infer_instance
instance (i j : Int) : Decidable (CPow i j) := by unfold CPow; infer_instance
instance (i j : Int) : Decidable (CMul i j) := by unfold CMul; infer_instance
noncomputable def subD := intsD fun i j => .ok (.int (i - j))
noncomputable def mulD := intsD fun i j => if CMul i j then .ok (.int (i * j)) else .bad
noncomputable def fdivD := intsD fun i j => if CDiv i j then .ok (.int (i / j)) else .bad
noncomputable def modD := intsD fun i j => if 0 < j then .ok (.int (i % j)) else .bad
noncomputable def powD := intsD fun i j => if CPow i j then .ok (.int (i ^ j.toNat)) else .bad
noncomputable def ltD := intsD fun i j => .ok (.bl (decide (i < j)))
noncomputable def leD := intsD fun i j => .ok (.bl (decide (i ≤ j)))
noncomputable def gtD := intsD fun i j => .ok (.bl (decide (j < i)))
variable {m n : ME}
theorem e_sub (ha : EM X F a m) (hb : EM X F b n) : EM X F (.BinOp a .Sub b pos) (mBin subD m n) := e_bin op_sub (ok_ints0 fun _ _ _ => by simp only [At]) ha hb
theorem e_mul (ha : EM X F a m) (hb : EM X F b n) : EM X F (.BinOp a .Mult b pos) (mBin mulD m n) := e_bin op_mul (ok_ints fun _ _ _ => by simp only [At]) ha hb
theorem e_fdiv (ha : EM X F a m) (hb : EM X F b n) : EM X F (.BinOp a .FloorDiv b pos) (mBin fdivD m n) := e_bin op_fdiv (ok_ints fun _ _ _ => by simp only [At]) ha hb
theorem e_mod (ha : EM X F a m) (hb : EM X F b n) : EM X F (.BinOp a .Mod b pos) (mBin modD m n) := e_bin op_mod (ok_ints fun _ _ _ => by simp only [At]) ha hb
theorem e_pow (ha : EM X F a m) (hb : EM X F b n) : EM X F (.BinOp a .Pow b pos) (mBin powD m n) := e_bin op_pow (ok_ints fun _ _ _ => by simp only [At]) ha hb
theorem t_lt (ha : EM X F a m) (hb : EM X F b n) : TM X F (.Compare a [.Lt] [b] pos) (mB (mBin ltD m n)) := t_cmpR op_lt (ok_ints0 fun _ _ _ => by simp only [At]) ha hb (nomark _)
theorem t_gt (ha : EM X F a m) (hb : EM X F b n) : TM X F (.Compare a [.Gt] [b] pos) (mB (mBin gtD m n)) := t_cmpR op_gt (ok_ints0 fun _ _ _ => by simp only [At]) ha hb (nomark _)
noncomputable def negD : D → R D
  | .int i => .ok (.int (-i))
  | _ => .bad
theorem e_neg (ha : EM X F a m) : EM X F (.UnaryOp .USub a pos) (mUn negD m) := e_un un_neg (fun σ ρ G H x dx Q r ax k => by
  unfold negD at k
  split at k
  · rename_i i
    simp only [At] at ax
    exact ⟨i, ax, k _ H G r (Up.refl _ _) (by simp only [At])⟩
  · exact k.elim) ha
noncomputable def addD : D → D → R D
  | .int i, .int j => .ok (.int (i + j))
  | .str x, .str y => if x.length + y.length ≤ 1000000 then .ok (.str (x ++ y)) else .bad
  | .lst xs, .lst ys => if xs.length + ys.length ≤ 1000000 then .ok (.lst (xs ++ ys)) else .bad
  | _, _ => .bad
theorem ok_add : OpOk F (fun x y H Q => rI0 (fun i j => .int (i + j)) x y H Q ∨ (∃ i j, x = .str i ∧ y = .str j ∧ i.length + j.length ≤ sizeLine ∧ Q (.str (i ++ j)) H) ∨ rCat x y H Q) addD := by
  intro σ ρ G H x y dx dy Q r ax ay k
  unfold addD at k
  split at k
  · rename_i i j
    simp only [At] at ax ay
    exact .inl ⟨i, j, ax, ay, k _ H G r (Up.refl _ _) (by simp only [At])⟩
  · rename_i i j
    simp only [At] at ax ay
    split at k
    · rename_i hl
      exact .inr (.inl ⟨i, j, ax, ay, Nat.le_trans hl (by decide), k _ H G r (Up.refl _ _) (by simp only [At])⟩)
    · exact k.elim
  · rename_i ds es
    simp only [At] at ax ay
    split at k
    · rename_i hl
      obtain ⟨p, xs, e1, h1, q1⟩ := ax
      obtain ⟨p2, ys, e2, h2, q2⟩ := ay
      refine .inr (.inr ⟨p, p2, xs, ys, e1, e2, r.kp.sub _ _ h1, r.kp.sub _ _ h2, by rw [← q1.length, ← q2.length]; exact Nat.le_trans hl (by decide), fun l hn => ?_⟩)
      refine k (.ref l) _ _ (r.lay hn) (Up.lay r.kp.sub hn) ?_
      simp only [At]
      exact ⟨l, xs ++ ys, rfl, upd_same, (q1.append q2).mono (Sub.upd (r.kp.sub.gone hn))⟩
    · exact k.elim
  · exact k.elim
theorem e_add (ha : EM X F a m) (hb : EM X F b n) : EM X F (.BinOp a .Add b pos) (mBin addD m n) := e_bin (op_add.or (op_add_str.or op_cat)) ok_add ha hb
noncomputable def eqR (b : Bool) (x y : D) : R D := if okN 8 x = true ∧ okN 8 y = true then .ok (.bl (if b then eqD x y else !eqD x y)) else .bad
noncomputable def rEqW (F : Fx) (b : Bool) : R2 := fun x y H Q => ∃ G d1 d2, Sub G H ∧ At F.K G d1 x ∧ At F.K G d2 y ∧ okN 8 d1 = true ∧ okN 8 d2 = true ∧ Q (.bl (if b then eqD d1 d2 else !eqD d1 d2)) H
theorem op_eqW (hK : F.K = X.K) (hu : X.A.units + 64 < cLine) : OpR X (compareOp .Eq) (rEqW F true) := by
  intro pins s σ H x y v u Q I rx ry h
  obtain ⟨G, d1, d2, sg, a1, a2, o1, o2, q⟩ := h
  rw [hK] at a1 a2
  exact (eqAt_of I sg 8 (A := X.A) o1 o2 ⟨x, a1, rx⟩ ⟨y, a2, ry⟩ (by omega)).2.1 X.prog X.w X.xe _ ⟨.bl _, H, I, rfl, q⟩
theorem op_neW (hK : F.K = X.K) (hu : X.A.units + 64 < cLine) : OpR X (compareOp .NotEq) (rEqW F false) := by
  intro pins s σ H x y v u Q I rx ry h
  obtain ⟨G, d1, d2, sg, a1, a2, o1, o2, q⟩ := h
  rw [hK] at a1 a2
  exact (eqAt_of I sg 8 (A := X.A) o1 o2 ⟨x, a1, rx⟩ ⟨y, a2, ry⟩ (by omega)).2.2 X.prog X.w X.xe _ ⟨.bl _, H, I, rfl, q⟩
theorem ok_eqW (b : Bool) : OpOk F (rEqW F b) (eqR b) := by
  intro σ ρ G H x y dx dy Q r ax ay k
  unfold eqR at k
  split at k
  · rename_i ho
    exact ⟨G, dx, dy, r.kp.sub, ax, ay, ho.1, ho.2, k _ H G r (Up.refl _ _) (by simp only [At])⟩
  · exact k.elim
theorem t_eq (hu : X.A.units + 64 < cLine) (ha : EM X F a m) (hb : EM X F b n) (hK : F.K = X.K := by rfl) : TM X F (.Compare a [.Eq] [b] pos) (mB (mBin (eqR true) m n)) := t_cmpR (op_eqW hK hu) (ok_eqW true) ha hb (nomark _)
theorem t_ne (hu : X.A.units + 64 < cLine) (ha : EM X F a m) (hb : EM X F b n) (hK : F.K = X.K := by rfl) : TM X F (.Compare a [.NotEq] [b] pos) (mB (mBin (eqR false) m n)) := t_cmpR (op_neW hK hu) (ok_eqW false) ha hb (nomark _)
theorem e_eq (hu : X.A.units + 64 < cLine) (ha : EM X F a m) (hb : EM X F b n) (hK : F.K = X.K := by rfl) : EM X F (.Compare a [.Eq] [b] pos) (mBin (eqR true) m n) := e_cmpR (op_eqW hK hu) (ok_eqW true) ha hb (nomark _)
theorem e_ne (hu : X.A.units + 64 < cLine) (ha : EM X F a m) (hb : EM X F b n) (hK : F.K = X.K := by rfl) : EM X F (.Compare a [.NotEq] [b] pos) (mBin (eqR false) m n) := e_cmpR (op_neW hK hu) (ok_eqW false) ha hb (nomark _)
end
end L3
set_option Elab.async false
set_option linter.all false
set_option maxRecDepth 100000
namespace L3
open PySem PySem.Spec L2
section
variable {X : Cx} {F : Fx} {e a b c : Expr} {es : List Expr} {pos : Pos} {m n : ME}
theorem eqL_congr : ∀ {ds ds' : List D}, ds.length = ds'.length → (∀ (i : Nat) x y, ds[i]? = some x → ds'[i]? = some y → ∀ z, eqD x z = eqD y z) → ∀ es, eqL ds es = eqL ds' es
  | [], [], _, _, _ => rfl
  | [], _ :: _, h, _, _ => by simp at h
  | _ :: _, [], h, _, _ => by simp at h
  | x :: xs, y :: ys, h, k, [] => by simp only [eqL]
  | x :: xs, y :: ys, h, k, e :: es => by
    simp only [eqL]
    rw [k 0 x y rfl rfl e, eqL_congr (by simpa using h) (fun i a b e1 e2 => k (i + 1) a b (by simpa using e1) (by simpa using e2)) es]
theorem scal_same {K : PySem.W.Frag} {G : Hp} {d d' : D} {x : V} (o : scalD d = true) (a1 : At K G d x) (a2 : At K G d' x) : d = d' := by
  cases d with
  | non =>
    simp only [At] at a1; subst a1
    cases d' <;> simp only [At] at a2 <;> first | rfl | (cases a2; done) | (obtain ⟨a, xs, e, _⟩ := a2; cases e; done) | (obtain ⟨a, dx, xs, e, _⟩ := a2; cases e; done)
  | bl b =>
    simp only [At] at a1; subst a1
    cases d' <;> simp only [At] at a2 <;> first | (cases a2; rfl) | (cases a2; done) | (obtain ⟨a, xs, e, _⟩ := a2; cases e; done) | (obtain ⟨a, dx, xs, e, _⟩ := a2; cases e; done)
  | int b =>
    simp only [At] at a1; subst a1
    cases d' <;> simp only [At] at a2 <;> first | (cases a2; rfl) | (cases a2; done) | (obtain ⟨a, xs, e, _⟩ := a2; cases e; done) | (obtain ⟨a, dx, xs, e, _⟩ := a2; cases e; done)
  | str b =>
    simp only [At] at a1; subst a1
    cases d' <;> simp only [At] at a2 <;> first | (cases a2; rfl) | (cases a2; done) | (obtain ⟨a, xs, e, _⟩ := a2; cases e; done) | (obtain ⟨a, dx, xs, e, _⟩ := a2; cases e; done)
  | _ => cases o
theorem Sq.val {K : PySem.W.Frag} {G : Hp} {d : D} {p : Addr} {b : Bool} {ds : List D} {xs : List V} (h : Sq K G d p b ds xs) (e : D) : eqD d e = match e with
    | .tup es => b && eqL ds es
    | .ktp es => b && eqL ds es
    | .lst es => !b && eqL ds es
    | .scr es => !b && eqL ds es
    | _ => false := by
  cases h <;> cases e <;> simp [eqD]
section
variable {pins : List (Addr × Obj)} {σ : St} {H G : Hp} {s : Shared}
theorem at_same (I : Inv X pins σ H s) (sg : Sub G H) : ∀ (n : Nat) {d d' : D} {x : V}, okN n d = true → okN n d' = true → At X.K G d x → At X.K G d' x → ∀ e, eqD d e = eqD d' e := by
  intro n
  induction n with
  | zero =>
    intro d d' x o1 o2 a1 a2 e
    rw [scal_same (by cases d <;> first | rfl | (cases o1)) a1 a2]
  | succ n ih =>
    intro d d' x o1 o2 a1 a2 e
    cases s1 : scalD d with
    | true => rw [scal_same s1 a1 a2]
    | false =>
      cases s2 : scalD d' with
      | true => exact (eqD_comm_scal s2 s1 a1 a2).elim
      | false =>
        obtain ⟨p1, b1, ds1, xs1, e1, q1, m1, em1, k1⟩ := sq_of o1 s1 a1
        obtain ⟨p2, b2, ds2, xs2, e2, q2, m2, em2, k2⟩ := sq_of o2 s2 a2
        subst e1
        cases e2
        have : n = m1 := by omega
        subst this
        have : n = m2 := by omega
        subst this
        obtain ⟨eb, ex⟩ := q1.same I sg q2
        subst eb; subst ex
        have el : ∀ es, eqL ds1 es = eqL ds2 es := eqL_congr (q1.atl.length.trans q2.atl.length.symm) fun i a b ea eb z => by
          obtain ⟨v, ev, av⟩ := q1.atl.get ea
          obtain ⟨v', ev', bv⟩ := q2.atl.get eb
          rw [ev] at ev'; cases ev'
          exact ih (all_get k1 ea) (all_get k2 eb) av bv z
        rw [q1.val, q2.val]
        cases e <;> first | rfl | (simp only [el])
open Classical in
noncomputable def ansU (K : PySem.W.Frag) (G : Hp) (d : D) (u : Value) : Bool := if h : ∃ d', okN 7 d' = true ∧ AtU K G d' u then eqD (Classical.choose h) d else false
theorem ansU_of (I : Inv X pins σ H s) (sg : Sub G H) {d d1 : D} {u : Value} (o : okN 7 d = true) (h : AtU X.K G d u) : ansU X.K G d1 u = eqD d d1 := by
  have hx : ∃ d', okN 7 d' = true ∧ AtU X.K G d' u := ⟨d, o, h⟩
  unfold ansU
  rw [dif_pos hx]
  obtain ⟨o', h'⟩ := Classical.choose_spec hx
  obtain ⟨x, a, r⟩ := h
  obtain ⟨x', a', r'⟩ := h'
  have : x' = x := r'.inj r
  subst this
  exact at_same I sg 7 o' o a' a d1
theorem any_ans (I : Inv X pins σ H s) (sg : Sub G H) {d1 : D} : ∀ {ds : List D} {xs : List V} {its : List Value}, AtL X.K G ds xs → Vals xs its → ds.all (okN 7) = true → its.any (ansU X.K G d1) = ds.any fun y => eqD y d1
  | [], _, _, q, r, _ => by simp only [AtL] at q; subst q; cases r; rfl
  | d :: ds, _, _, q, r, o => by
    simp only [AtL] at q
    obtain ⟨v, vr, rfl, av, ar⟩ := q
    cases r with
    | cons r1 r2 =>
      rw [List.all_cons, Bool.and_eq_true] at o
      rw [List.any_cons, List.any_cons, ansU_of I sg o.1 ⟨v, av, r1⟩, any_ans I sg ar r2 o.2]
theorem mem_ans (I : Inv X pins σ H s) (sg : Sub G H) {d1 : D} {x : V} {v : Value} {A : Around} (hu : A.units + 8 < cLine) (o1 : okN 7 d1 = true) (a1 : At X.K G d1 x) (rx : RelV x v) : ∀ {ds : List D} {xs : List V} {its : List Value}, AtL X.K G ds xs → Vals xs its → ds.all (okN 7) = true →
    ∀ u ∈ its, SeqAt.EqAt A s u v (ansU X.K G d1 u)
  | [], _, _, q, r, _ => by simp only [AtL] at q; subst q; cases r; exact fun u hu => nomatch hu
  | d :: ds, _, _, q, r, o => by
    simp only [AtL] at q
    obtain ⟨w, wr, rfl, av, ar⟩ := q
    cases r with
    | cons r1 r2 =>
      rw [List.all_cons, Bool.and_eq_true] at o
      intro u' hm
      rcases List.mem_cons.mp hm with e | hm
      · subst e
        rw [ansU_of I sg o.1 ⟨w, av, r1⟩]
        exact (eqAt_of I sg 7 (A := A) o.1 o1 ⟨w, av, r1⟩ ⟨x, a1, rx⟩ (by omega)).1
      · exact mem_ans I sg hu o1 a1 rx ar r2 o.2 u' hm
end
noncomputable def seqI : D → Option (List D)
  | .tup ys => some ys
  | .ktp ys => some ys
  | .lst ys => some ys
  | .scr ys => some ys
  | _ => none
noncomputable def inD (b : Bool) (x y : D) : R D := match seqI y with
  | some ys => if okN 7 x = true ∧ ys.all (okN 7) = true then .ok (.bl (if b then ys.any (fun y => eqD y x) else !ys.any fun y => eqD y x)) else .bad
  | none => .bad
noncomputable def rInW (F : Fx) (b : Bool) : R2 := fun x y H Q => ∃ G d1 d2 p ds xs k, Sub G H ∧ At F.K G d1 x ∧ y = .ref p ∧ Sq F.K G d2 p k ds xs ∧ okN 7 d1 = true ∧ ds.all (okN 7) = true ∧ Q (.bl (if b then ds.any (fun y => eqD y d1) else !ds.any fun y => eqD y d1)) H
theorem op_inW (hK : F.K = X.K) (hu : X.A.units + 64 < cLine) : OpR X (compareOp .In) (rInW F true) := by
  intro pins s σ H x y v u Q I rx ry h
  obtain ⟨G, d1, d2, p, ds, xs, k, sg, a1, rfl, sq, o1, o2, q⟩ := h
  rw [hK] at a1 sq
  cases ry
  obtain ⟨its, r1, t1, l1⟩ := sq.heap I sg
  have q : Q (.bl (ds.any fun y => eqD y d1)) H := q
  rw [← any_ans I sg sq.atl r1 o2] at q
  have hm := mem_ans I sg (A := X.A.in1) (d1 := d1) (by rw [in1_units]; omega) o1 a1 rx sq.atl r1 o2
  cases k with
  | true => exact SeqAt.in_tupleAt (ansU X.K G d1) (t1 rfl) (fun w hw => hm w (by simpa using hw)) ⟨.bl _, H, I, rfl, by simpa using q⟩
  | false => exact SeqAt.in_listAt (ansU X.K G d1) (l1 rfl) (fun w hw => hm w (by simpa using hw)) ⟨.bl _, H, I, rfl, by simpa using q⟩
theorem sq_at {K : PySem.W.Frag} {G : Hp} {d : D} {x : V} {ds : List D} (e : seqI d = some ds) (a : At K G d x) : ∃ p xs k, x = .ref p ∧ Sq K G d p k ds xs := by
  cases d <;> first
    | (cases e; done)
    | (cases e
       simp only [At] at a
       obtain ⟨p, xs, e, h, q⟩ := a
       first
        | exact ⟨p, xs, _, e, .tup (SqT.of h) q⟩
        | exact ⟨p, xs, _, e, .ktp h q⟩
        | exact ⟨p, xs, _, e, .lst h q⟩
        | exact ⟨p, xs, _, e, .scr h q⟩)
theorem ok_inW (b : Bool) : OpOk F (rInW F b) (inD b) := by
  intro σ ρ G H x y dx dy Q r ax ay k
  unfold inD at k
  cases e : seqI dy with
  | none => rw [e] at k; exact k.elim
  | some ys =>
    rw [e] at k
    dsimp only at k
    split at k
    · rename_i ho
      obtain ⟨p, xs, kk, ey, sq⟩ := sq_at e ay
      exact ⟨G, dx, dy, p, ys, xs, kk, r.kp.sub, ax, ey, sq, ho.1, ho.2, k _ H G r (Up.refl _ _) (by simp only [At])⟩
    · exact k.elim
theorem e_in (hu : X.A.units + 64 < cLine) (ha : EM X F a m) (hb : EM X F b n) (hK : F.K = X.K := by rfl) (hm : behindInMarks .In b = false := by with_unfolding_all rfl) : EM X F (.Compare a [.In] [b] pos) (mBin (inD true) m n) := e_cmpR (op_inW hK hu) (ok_inW true) ha hb hm
noncomputable def isNon : D → Bool
  | .non => true
  | _ => false
noncomputable def isND (b : Bool) : D → D → R D
  | x, .non => .ok (.bl (if b then isNon x else !isNon x))
  | _, _ => .bad
theorem isN_at {K : PySem.W.Frag} {G : Hp} {d : D} {x : V} (a : At K G d x) : isNon d = decide (x = .non) := by
  cases d <;> simp only [At] at a <;> first
    | (subst a; simp [isNon]; done)
    | (obtain ⟨p, xs, e, _⟩ := a; subst e; simp [isNon]; done)
    | (obtain ⟨p, dx, xs, e, _⟩ := a; subst e; simp [isNon]; done)
theorem e_isN (ha : EM X F a m) (hb : EM X F b n) : EM X F (.Compare a [.Is] [b] pos) (mBin (isND true) m n) := e_cmpR op_isN (fun σ ρ G H x y dx dy Q r ax ay k => by
  unfold isND at k
  split at k
  · simp only [At] at ay
    rw [isN_at ax] at k
    exact ⟨ay, k _ H G r (Up.refl _ _) (by simp only [At]; rfl)⟩
  · exact k.elim) ha hb (nomark _)
noncomputable def mChain (f g : D → D → R D) (a b c : ME) : ME := fun ρ => (a ρ).bind fun x => (b ρ).bind fun y => (f x y).bind fun z => (asB z).bind fun k => if k = true then (c ρ).bind fun w => g y w else .ok (.bl false)
theorem i_chain {r r' : R2} {f g : D → D → R D} {l : ME} (hf : OpOk F r f) (hg : OpOk F r' g) : ImpE (tE F (mChain f g m n l)) (tChain r r' (tE F m) (tE F n) (tE F l)) := by
  rintro σ H Q ⟨G, ρ, rl, h⟩
  unfold mChain at h
  refine ⟨G, ρ, rl, ?_⟩
  cases ea : m ρ with
  | bad => rw [ea] at h; exact h.elim
  | exc c => rw [ea] at h; exact h
  | ok dx =>
    rw [ea, R.bind_ok] at h
    intro x H1 G1 r1 s1 ax
    refine ⟨G1, ρ, r1, ?_⟩
    cases eb : n ρ with
    | bad => rw [eb] at h; exact h.elim
    | exc c => rw [eb] at h; exact h
    | ok dy =>
      rw [eb, R.bind_ok] at h
      intro y H2 G2 r2 s2 ay
      refine hf σ ρ G2 H2 x y dx dy _ r2 (ax.mono s2.g) ay ?_
      cases ef : f dx dy with
      | bad => rw [ef] at h; exact h.elim
      | exc c => rw [ef] at h; exact h
      | ok dz =>
        rw [ef, R.bind_ok] at h
        intro z H3 G3 r3 s3 az
        cases dz with
        | bl k =>
          simp only [At] at az
          refine ⟨k, az, ?_⟩
          have h : kE F G H σ ρ Q (if k = true then (l ρ).bind fun w => g dy w else .ok (.bl false)) := h
          cases k with
          | false =>
            rw [if_neg Bool.false_ne_true] at h ⊢
            exact h _ H3 G3 r3 (s1.trans (s2.trans s3)) (by simp only [At])
          | true =>
            rw [if_pos rfl] at h ⊢
            refine ⟨G3, ρ, r3, ?_⟩
            cases ec : l ρ with
            | bad => rw [ec] at h; exact h.elim
            | exc c => rw [ec] at h; exact h
            | ok dw =>
              rw [ec, R.bind_ok] at h
              intro w H4 G4 r4 s4 aw
              exact hg σ ρ G4 H4 y w dy dw Q r4 ((ay.mono s3.g).mono s4.g) aw (h.mono (s1.trans (s2.trans (s3.trans s4))))
        | _ => exact h.elim
theorem e_chain {op op' : CmpOp} {r r' : R2} {f g : D → D → R D} {l : ME} (ho : OpR X (compareOp op) r) (ho' : OpR X (compareOp op') r') (hf : OpOk F r f) (hg : OpOk F r' g) (ha : EM X F a m) (hb : EM X F b n) (hc : EM X F c l) (hm : lastMarks [op, op'] [b, c] = false := by with_unfolding_all rfl) :
    EM X F (.Compare a [op, op'] [b, c] pos) (mChain f g m n l) := PE.imp (pe_chain ho ho' ha hb hc hm) (i_chain hf hg)
theorem t_chain {op op' : CmpOp} {r r' : R2} {f g : D → D → R D} {l : ME} (ho : OpR X (compareOp op) r) (ho' : OpR X (compareOp op') r') (hf : OpOk F r f) (hg : OpOk F r' g) (ha : EM X F a m) (hb : EM X F b n) (hc : EM X F c l) (hm : lastMarks [op, op'] [b, c] = false := by with_unfolding_all rfl) :
    TM X F (.Compare a [op, op'] [b, c] pos) (mB (mChain f g m n l)) := PT.imp (pt_chain ho ho' ha hb hc hm) fun σ H Q h => by
    obtain ⟨G, ρ, r, k⟩ := i_Test (F := F) (m := mChain f g m n l) σ H Q h
    exact i_chain hf hg σ H _ ⟨G, ρ, r, k⟩
theorem ok_lt : OpOk F (rI0 fun i j => .bl (decide (i < j))) ltD := ok_ints0 fun _ _ _ => by simp only [At]
theorem ok_le : OpOk F (rI0 fun i j => .bl (decide (i ≤ j))) leD := ok_ints0 fun _ _ _ => by simp only [At]
end
end L3
set_option Elab.async false
set_option linter.all false
set_option maxRecDepth 100000
namespace L3
open PySem PySem.Spec L2
section
variable {X : Cx} {F : Fx} {e a b c : Expr} {es : List Expr} {pos p : Pos} {m n : ME} {ma : MA}
noncomputable def mCB (f : List D → R D) (m : MA) : ME := fun ρ => (m ρ).bind f
noncomputable def CallOk (F : Fx) (r : List V → Hp → VK → Prop) (f : List D → R D) : Prop := ∀ σ ρ G H xs ds Q, Rel F G H σ ρ → AtL F.K G ds xs → kE F G H σ ρ Q (f ds) → r xs H Q
theorem i_cb {r : List V → Hp → VK → Prop} {f : List D → R D} (hf : CallOk F r f) : ImpE (tE F (mCB f ma)) (tCB r (tA F ma)) := by
  rintro σ H Q ⟨G, ρ, rl, h⟩
  unfold mCB at h
  refine ⟨G, ρ, rl, ?_⟩
  cases ea : ma ρ with
  | bad => rw [ea] at h; exact h.elim
  | exc c => rw [ea] at h; exact h
  | ok ds =>
    rw [ea, R.bind_ok] at h
    intro vs H1 G1 r1 s1 a
    exact hf σ ρ G1 H1 vs ds Q r1 a (h.mono s1)
theorem e_callB {x : Str} {id : String} {r : List V → Hp → VK → Prop} {f : List D → R D} (hc : CallR X (.builtin id) r) (hf : CallOk F r f) (hm : X.mg x = none) (hv : bootBuiltins x = some (.builtin id)) (ha : AM X F (e :: es) ma) (hg : Gl X x := by rfl) (hn : x ≠ "__name__" := by decide) (hdb : (x == ("__debug__" : Str)) = false := by decide)
    (he : starEach (e :: es) X.env = (false, eval e X.env) :: starEach es X.env := by rfl) (hpl : (backTo pos (starEach es X.env)).any (·.1) = false := by rfl) : EM X F (.Call (.Name x p) (e :: es) [] pos) (mCB f ma) :=
  PE.imp (pe_callB hc hg hm hv ha hn hdb he hpl) (i_cb hf)
theorem e_callT {x : Str} {T : String} {r : List V → Hp → VK → Prop} {f : List D → R D} (hc : CallR X (.type T) r) (hf : CallOk F r f) (hm : X.mg x = none) (hv : bootBuiltins x = some (.type T)) (ha : AM X F (e :: es) ma) (hg : Gl X x := by rfl) (hn : x ≠ "__name__" := by decide) (hdb : (x == ("__debug__" : Str)) = false := by decide)
    (he : starEach (e :: es) X.env = (false, eval e X.env) :: starEach es X.env := by rfl) (hpl : (backTo pos (starEach es X.env)).any (·.1) = false := by rfl) : EM X F (.Call (.Name x p) (e :: es) [] pos) (mCB f ma) :=
  PE.imp (pe_callTy hc hg hm hv ha hn hdb he hpl) (i_cb hf)
noncomputable def lenD : List D → R D
  | [.str x] => if x.length ≤ 1000000 then .ok (.int x.length) else .bad
  | [.lst xs] => .ok (.int xs.length)
  | [.scr xs] => .ok (.int xs.length)
  | [.tup xs] => .ok (.int xs.length)
  | [.ktp xs] => .ok (.int xs.length)
  | _ => .bad
theorem AtL.one {K : PySem.W.Frag} {G : Hp} {d : D} {vs : List V} (a : AtL K G [d] vs) : ∃ v, vs = [v] ∧ At K G d v := by
  simp only [AtL] at a
  obtain ⟨v, r, rfl, h, rfl⟩ := a
  exact ⟨v, rfl, h⟩
theorem ok_len (hK : F.K = X.K) : CallOk F (fun xs H Q => ∃ x n, xs = [x] ∧ LenV X.K x H n ∧ Q (.int n) H) lenD := by
  intro σ ρ G H xs ds Q r al k
  unfold lenD at k
  split at k
  · rename_i x
    obtain ⟨v, rfl, av⟩ := al.one
    simp only [At] at av; subst av
    split at k
    · rename_i hl
      exact ⟨_, x.length, rfl, ⟨Nat.le_trans hl (by decide), rfl⟩, k _ H G r (Up.refl _ _) (by simp only [At])⟩
    · exact k.elim
  · rename_i ys
    obtain ⟨v, rfl, av⟩ := al.one
    simp only [At] at av
    obtain ⟨q, xs, rfl, h, al⟩ := av
    rw [al.length] at k
    exact ⟨_, xs.length, rfl, .inl ⟨xs, SqL.of (r.kp.sub _ _ h), rfl⟩, k _ H G r (Up.refl _ _) (by simp only [At])⟩
  · rename_i ys
    obtain ⟨v, rfl, av⟩ := al.one
    simp only [At] at av
    obtain ⟨q, xs, rfl, h, al⟩ := av
    rw [al.length] at k
    rw [hK] at h
    exact ⟨_, xs.length, rfl, .inl ⟨xs, SqL.mono r.kp.sub h, rfl⟩, k _ H G r (Up.refl _ _) (by simp only [At])⟩
  · rename_i ys
    obtain ⟨v, rfl, av⟩ := al.one
    simp only [At] at av
    obtain ⟨q, xs, rfl, h, al⟩ := av
    rw [al.length] at k
    exact ⟨_, xs.length, rfl, .inr ⟨xs, SqT.of (r.kp.sub _ _ h), rfl⟩, k _ H G r (Up.refl _ _) (by simp only [At])⟩
  · rename_i ys
    obtain ⟨v, rfl, av⟩ := al.one
    simp only [At] at av
    obtain ⟨q, xs, rfl, h, al⟩ := av
    rw [al.length] at k
    rw [hK] at h
    exact ⟨_, xs.length, rfl, .inr ⟨xs, SqT.mono r.kp.sub h, rfl⟩, k _ H G r (Up.refl _ _) (by simp only [At])⟩
  · exact k.elim
theorem e_len (hm : X.mg "len" = none) (ha : AM X F [e] ma) (hK : F.K = X.K := by rfl) (hg : Gl X "len" := by rfl) (he : starEach [e] X.env = (false, eval e X.env) :: starEach [] X.env := by rfl) (hpl : (backTo pos (starEach [] X.env)).any (·.1) = false := by rfl) :
    EM X F (.Call (.Name "len" p) [e] [] pos) (mCB lenD ma) := e_callB call_len (ok_len hK) hm PySem.boot_len ha hg (by decide) (by decide) he hpl
noncomputable def tyD : D → Option String
  | .non => some "NoneType"
  | .bl _ => some "bool"
  | .int _ => some "int"
  | .str _ => some "str"
  | .lst _ => some "list"
  | .scr _ => some "list"
  | .tup _ => some "tuple"
  | .ktp _ => some "tuple"
  | .dK _ _ => some "dict"
  | .dT _ _ => some "dict"
  | _ => none
noncomputable def subTy (T U : String) : Bool := T == U || (T == "bool" && U == "int")
noncomputable def isiD (U : String) (d : D) : R D := match tyD d with
  | some T => .ok (.bl (subTy T U))
  | none => .bad
noncomputable def TyTab (K : PySem.W.Frag) (U : String) : Prop := ∀ T, T = "NoneType" ∨ T = "bool" ∨ T = "int" ∨ T = "str" ∨ T = "list" ∨ T = "tuple" ∨ T = "dict" → PySem.W.kitOne K (.type T) (.type U) = some (subTy T U)
theorem tt_int (K : PySem.W.Frag) : TyTab K "int" := fun T h => by rcases h with rfl | rfl | rfl | rfl | rfl | rfl | rfl <;> kernel_rfl
theorem tt_bool (K : PySem.W.Frag) : TyTab K "bool" := fun T h => by rcases h with rfl | rfl | rfl | rfl | rfl | rfl | rfl <;> kernel_rfl
theorem tt_str (K : PySem.W.Frag) : TyTab K "str" := fun T h => by rcases h with rfl | rfl | rfl | rfl | rfl | rfl | rfl <;> kernel_rfl
theorem tt_list (K : PySem.W.Frag) : TyTab K "list" := fun T h => by rcases h with rfl | rfl | rfl | rfl | rfl | rfl | rfl <;> kernel_rfl
theorem tt_tuple (K : PySem.W.Frag) : TyTab K "tuple" := fun T h => by rcases h with rfl | rfl | rfl | rfl | rfl | rfl | rfl <;> kernel_rfl
theorem isi_core {pins : List (Addr × Obj)} {σ : St} {H G : Hp} {s : Shared} {Q : Value → Shared → Prop} {E : Value → Shared → Prop} {d : D} {x : V} {u : Value} {T U : String} {k : Bool} (I : Inv X pins σ H s) (sg : Sub G H) (at' : At X.K G d x) (rx : RelV x u) (e : tyD d = some T)
    (tt : PySem.W.kitOne X.K (.type T) (.type U) = some k) (h : ∀ tk, Q (.bool k) { s with toks := tk }) : wpAny (model X.prog X.w) X.A (call (.builtin "isinstance") [u, .type U]) Q E s := by
  cases d with
  | non =>
    cases e; simp only [At] at at'; subst at'; cases rx
    exact PySem.W.kia_one PySem.W.kitx_none I.kIn True.intro tt (fun z => nomatch z) h
  | bl b =>
    cases e; simp only [At] at at'; subst at'; cases rx
    exact PySem.W.kia_one PySem.W.kitx_bool I.kIn True.intro tt (fun z => nomatch z) h
  | int b =>
    cases e; simp only [At] at at'; subst at'; obtain ⟨t, rfl⟩ := rx
    exact PySem.W.kia_one PySem.W.kitx_int I.kIn True.intro tt (fun z => nomatch z) h
  | str b =>
    cases e; simp only [At] at at'; subst at'; obtain ⟨t, rfl⟩ := rx
    exact PySem.W.kia_one PySem.W.kitx_str I.kIn True.intro tt (fun z => nomatch z) h
  | lst ds =>
    cases e; simp only [At] at at'
    obtain ⟨q, xs, rfl, hq, _⟩ := at'
    cases rx
    obtain ⟨its, _, ⟨o, n, e1, e2, _⟩, _⟩ := I.list (SqL.of (sg _ _ hq))
    exact PySem.W.kia_one PySem.W.kitx_list I.kIn ⟨o, e1, e2⟩ tt (fun z => nomatch z) h
  | scr ds =>
    cases e; simp only [At] at at'
    obtain ⟨q, xs, rfl, hq, _⟩ := at'
    cases rx
    obtain ⟨its, _, ⟨o, n, e1, e2, _⟩, _⟩ := I.list (SqL.mono sg hq)
    exact PySem.W.kia_one PySem.W.kitx_list I.kIn ⟨o, e1, e2⟩ tt (fun z => nomatch z) h
  | tup ds =>
    cases e; simp only [At] at at'
    obtain ⟨q, xs, rfl, hq, _⟩ := at'
    cases rx
    obtain ⟨its, _, ⟨o, e1, e2, _⟩, _⟩ := I.tuple (SqT.of (sg _ _ hq))
    exact PySem.W.kia_one PySem.W.kitx_tuple I.kIn ⟨o, e1, e2⟩ tt (fun z => nomatch z) h
  | ktp ds =>
    cases e; simp only [At] at at'
    obtain ⟨q, xs, rfl, hq, _⟩ := at'
    cases rx
    obtain ⟨its, _, ⟨o, e1, e2, _⟩, _⟩ := I.tuple (SqT.mono sg hq)
    exact PySem.W.kia_one PySem.W.kitx_tuple I.kIn ⟨o, e1, e2⟩ tt (fun z => nomatch z) h
  | dK ks ds =>
    cases e; simp only [At] at at'
    obtain ⟨q, xs, rfl, hq, _⟩ := at'
    cases rx
    obtain ⟨_, _, vs, _, o, es, ep, h1, h2, _⟩ := (show ObjOk X.prog X.w H s.heap q (.dK xs) from I.hok q _ (sg _ _ hq))
    exact PySem.W.kia_one PySem.W.kitx_dict I.kIn ⟨o, h1, h2.1⟩ tt (fun z => nomatch z) h
  | dT ks ds =>
    cases e; simp only [At] at at'
    obtain ⟨q, xs, rfl, hq, _⟩ := at'
    cases rx
    obtain ⟨_, _, zs, _, o, es, ep, h1, h2, _⟩ := (show ObjOk X.prog X.w H s.heap q (.dT xs) from I.hok q _ (sg _ _ hq))
    exact PySem.W.kia_one PySem.W.kitx_dict I.kIn ⟨o, h1, h2.1⟩ tt (fun z => nomatch z) h
  | ins C ns ds => cases e
  | exo C => cases e
theorem tyD_of {d : D} {T : String} (e : tyD d = some T) : T = "NoneType" ∨ T = "bool" ∨ T = "int" ∨ T = "str" ∨ T = "list" ∨ T = "tuple" ∨ T = "dict" := by
  cases d <;> cases e <;> simp
noncomputable def rIsi (F : Fx) (U : String) : List V → Hp → VK → Prop := fun xs H Q => ∃ G d x T, Sub G H ∧ xs = [x, .ty U] ∧ At F.K G d x ∧ tyD d = some T ∧ Q (.bl (subTy T U)) H
theorem call_isi {U : String} (hK : F.K = X.K) (tt : TyTab X.K U) : CallR X (.builtin "isinstance") (rIsi F U) := by
  intro pins s σ H xs us Q I r h
  obtain ⟨G, d, x, T, sg, rfl, a, e, q⟩ := h
  obtain ⟨u, w', rfl, rx, ru⟩ := vals2 r
  obtain rfl : w' = Value.type U := ru
  rw [hK] at a
  exact isi_core I sg a rx e (tt T (tyD_of e)) fun tk => ⟨.bl _, H, I.tok tk, rfl, q⟩
theorem e_isi {U : Str} {T : String} {p2 : Pos} (tt : TyTab X.K T) (hm : X.mg "isinstance" = none) (hmU : X.mg U = none) (hU : bootBuiltins U = some (.type T)) (ha : EM X F a m) (hK : F.K = X.K := by rfl) (hg : Gl X "isinstance" := by rfl) (hgU : Gl X U := by rfl)
    (hnU : U ≠ "__name__" := by decide) (hdU : (U == ("__debug__" : Str)) = false := by decide)
    (hs2 : starEach [.Name U p2] X.env = (false, eval (.Name U p2) X.env) :: starEach [] X.env := by rfl)
    (he : starEach [a, .Name U p2] X.env = (false, eval a X.env) :: starEach [.Name U p2] X.env := by rfl) (hpl : (backTo pos (starEach [.Name U p2] X.env)).any (·.1) = false := by rfl) :
    EM X F (.Call (.Name "isinstance" p) [a, .Name U p2] [] pos) (mUn (isiD T) m) := by
  have hb : bootBuiltins "isinstance" = some (.builtin "isinstance") := by kernel_rfl
  refine PE.imp (pe_callB (call_isi hK tt) hg hm hb (pa_cons ha (pa_cons (pe_bltn hgU hmU hU (v := .ty T) rfl hnU hdU) pa_nil hs2) he) (by decide) (by decide) he hpl) ?_
  rintro σ H Q ⟨G, ρ, r, h⟩
  unfold mUn at h
  refine ⟨G, ρ, r, ?_⟩
  cases ea : m ρ with
  | bad => rw [ea] at h; exact h.elim
  | exc c => rw [ea] at h; exact h
  | ok d =>
    rw [ea, R.bind_ok] at h
    intro x H1 G1 r1 s1 ax
    unfold isiD at h
    cases e : tyD d with
    | none => rw [e] at h; exact h.elim
    | some T' =>
      rw [e] at h
      exact ⟨G1, d, x, T', r1.kp.sub, rfl, ax, e, h _ H1 G1 r1 s1 (by simp only [At])⟩
noncomputable def ixD : D → D → R D
  | .lst xs, .int i => match atI xs i with | some d => .ok d | none => .bad
  | .scr xs, .int i => match atI xs i with | some d => .ok d | none => .bad
  | .tup xs, .int i => match atI xs i with | some d => .ok d | none => .bad
  | .ktp xs, .int i => match atI xs i with | some d => .ok d | none => .bad
  | .str x, .int i => if x.length ≤ 1000000 then match atI x.cps.toList i with | some c => .ok (.str ⟨#[c]⟩) | none => .bad else .bad
  | _, _ => .bad
theorem atI_at {K : PySem.W.Frag} {G : Hp} {ds : List D} {xs : List V} {i : Int} {d : D} (q : AtL K G ds xs) (e : atI ds i = some d) : ∃ v, atI xs i = some v ∧ At K G d v := by
  unfold atI at e ⊢
  rw [q.length] at e
  cases ej : ixN xs.length i with
  | none => rw [ej] at e; cases e
  | some j =>
    rw [ej] at e
    obtain ⟨v, e1, a⟩ := q.get e
    exact ⟨v, e1, a⟩
theorem ok_ix (hK : F.K = X.K) : OpOk F (rIx X.K) ixD := by
  intro σ ρ G H x y dx dy Q r ax ay k
  unfold ixD at k
  split at k
  · rename_i ds i
    simp only [At] at ax ay
    obtain ⟨p, xs, e, h, q⟩ := ax
    split at k
    · rename_i d ed
      obtain ⟨v, ev, av⟩ := atI_at q ed
      exact .inl ⟨p, xs, i, v, e, ay, SqL.of (r.kp.sub _ _ h), ev, k _ H G r (Up.refl _ _) av⟩
    · exact k.elim
  · rename_i ds i
    simp only [At] at ax ay
    obtain ⟨p, xs, e, h, q⟩ := ax
    split at k
    · rename_i d ed
      obtain ⟨v, ev, av⟩ := atI_at q ed
      have h' := h
      rw [hK] at h'
      exact .inl ⟨p, xs, i, v, e, ay, SqL.mono r.kp.sub h', ev, k _ H G r (Up.refl _ _) av⟩
    · exact k.elim
  · rename_i ds i
    simp only [At] at ax ay
    obtain ⟨p, xs, e, h, q⟩ := ax
    split at k
    · rename_i d ed
      obtain ⟨v, ev, av⟩ := atI_at q ed
      exact .inr (.inl ⟨p, xs, i, v, e, ay, SqT.of (r.kp.sub _ _ h), ev, k _ H G r (Up.refl _ _) av⟩)
    · exact k.elim
  · rename_i ds i
    simp only [At] at ax ay
    obtain ⟨p, xs, e, h, q⟩ := ax
    split at k
    · rename_i d ed
      obtain ⟨v, ev, av⟩ := atI_at q ed
      have h' := h
      rw [hK] at h'
      exact .inr (.inl ⟨p, xs, i, v, e, ay, SqT.mono r.kp.sub h', ev, k _ H G r (Up.refl _ _) av⟩)
    · exact k.elim
  · rename_i z i
    simp only [At] at ax ay
    split at k
    · rename_i hl
      split at k
      · rename_i c ec
        exact .inr (.inr ⟨z, i, c, ax, ay, Nat.le_trans hl (by decide), ec, k _ H G r (Up.refl _ _) (by simp only [At])⟩)
      · exact k.elim
    · exact k.elim
  · exact k.elim
theorem e_ix (ha : EM X F a m) (hb : EM X F b n) (hs : PlainIx b) (hK : F.K = X.K := by rfl) : EM X F (.Subscript a b pos) (mBin ixD m n) := PE.imp (pe_ix ix_seq ha hb hs) (i_bin (ok_ix hK))
end
end L3
set_option Elab.async false
set_option linter.all false
set_option maxRecDepth 100000
namespace L3
open PySem PySem.Spec L2
section
variable {X : Cx} {F : Fx} {e a b c : Expr} {es : List Expr} {pos p : Pos} {m n : ME} {ma : MA}
noncomputable def cutL {α : Type} (xs : List α) (lo hi : Option Int) : List α := (xs.drop (HT.sIx xs.length 0 lo)).take (HT.sIx xs.length xs.length hi - HT.sIx xs.length 0 lo)
noncomputable def cutS (x : Str) (lo hi : Option Int) : Str := ⟨(cutL x.cps.toList lo hi).toArray⟩
theorem strIx (lo hi : Option Int) (n : Nat) : Builtin.Str.strSliceIndices lo hi 1 n = (List.range (HT.sIx n n hi - HT.sIx n 0 lo)).map (HT.sIx n 0 lo + ·) := by
  rw [← sliceRange_one]
  unfold Builtin.Str.strSliceIndices
  simp only [show (1 : Int) > 0 by decide, if_true]
  congr 1
  · cases lo with
    | none => rfl
    | some i =>
      show max 0 (min (if i < 0 then i + (n : Int) else i) (n : Int)) = ((if i < 0 then (i + (n : Int)).toNat else min i.toNat n : Nat) : Int)
      split <;> omega
  · cases hi with
    | none => rfl
    | some i =>
      show max 0 (min (if i < 0 then i + (n : Int) else i) (n : Int)) = ((if i < 0 then (i + (n : Int)).toNat else min i.toNat n : Nat) : Int)
      split <;> omega
theorem sIx_le (n : Nat) (v : Option Int) {d : Nat} (hd : d ≤ n) : HT.sIx n d v ≤ n := by
  cases v with
  | none => exact hd
  | some i =>
    show (if i < 0 then (i + (n : Int)).toNat else min i.toNat n) ≤ n
    split <;> omega
theorem slice_cut (x : Str) (lo hi : Option Int) : Txt.slice x lo hi = cutS x lo hi := by
  have hl : x.cps.toList.length = x.length := by simp [Str.length]
  unfold Txt.slice cutS cutL
  rw [strIx, hl]
  split
  · rename_i h
    have h : HT.sIx x.length x.length hi - HT.sIx x.length 0 lo = x.length := by simpa using h
    have h1 := sIx_le x.length hi (Nat.le_refl _)
    have h2 : HT.sIx x.length 0 lo = 0 ∨ x.length = 0 := by omega
    have e : (x.cps.toList.drop (HT.sIx x.length 0 lo)).take (HT.sIx x.length x.length hi - HT.sIx x.length 0 lo) = x.cps.toList := by
      rw [h]
      rcases h2 with z | z
      · rw [z, List.drop_zero, List.take_of_length_le (by omega)]
      · have e0 : x.cps.toList = [] := List.length_eq_zero_iff.mp (by omega)
        rw [e0]; simp
    rw [e]
  · rw [pick_run]
noncomputable def rSlS : V → Option Int → Option Int → Hp → VK → Prop := fun x lo hi H Q => ∃ z, x = .str z ∧ z.length ≤ sizeLine ∧ Q (.str (cutS z lo hi)) H
theorem part_is {v : Value} {o : Option Int} (h : IsPart v o) : ∃ l : Option (Int × Tok), v = partValue l ∧ l.map (·.1) = o := by
  cases h with
  | none => exact ⟨none, rfl, rfl⟩
  | int i t => exact ⟨some (i, t), rfl, rfl⟩
theorem sl_str : SlR X rSlS := by
  intro pins s σ H x v vl vu lo hi sl Q I rx hs pl pu h
  obtain ⟨z, rfl, hz, q⟩ := h
  obtain ⟨t, rfl⟩ := rx
  obtain ⟨l, rfl, el⟩ := part_is pl
  obtain ⟨u, rfl, eu⟩ := part_is pu
  refine ⟨"str", _, F.slot_str_getitem.lookup, typeIs_str s z t, wpAny_getItem_str_slice (l := l) (u := u) (st := none) ?_ rfl ?_⟩
  · obtain ⟨o, h1, h2, h3⟩ := hs
    exact ⟨o, h1, h2, h3⟩
  · have e : Txt.slice z lo hi = cutS z lo hi := slice_cut z lo hi
    have fin : ∀ t' k, EP X pins σ Q (.str (Txt.slice z lo hi) t') { s with toks := k } := fun t' k => ⟨.str (cutS z lo hi), H, I.tok k, ⟨t', by rw [e]⟩, q⟩
    unfold Txt.slice at fin
    subst el eu
    exact post_val_or_str ⟨Nat.le_trans (Txt.slice_le z _ _) hz, fin⟩
noncomputable abbrev MP := Rho → R (Option Int)
noncomputable def mNoP : MP := fun _ => .ok none
noncomputable def intD : D → R (Option Int)
  | .int i => .ok (some i)
  | _ => .bad
noncomputable def mPart (m : ME) : MP := fun ρ => (m ρ).bind intD
noncomputable def kP (F : Fx) (G H : Hp) (σ : St) (ρ : Rho) (Q : Option Int → Hp → Prop) : R (Option Int) → Prop
  | .ok o => ∀ H' G', Rel F G' H' σ ρ → Up G H G' H' → Q o H'
  | .exc c => kX F c
  | .bad => False
noncomputable def tP (F : Fx) (m : MP) : TO := fun σ H Q => ∃ G ρ, Rel F G H σ ρ ∧ kP F G H σ ρ Q (m ρ)
noncomputable abbrev PM (X : Cx) (F : Fx) (e : Option Expr) (m : MP) : Prop := PO X e (tP F m)
theorem p_no : PM X F none mNoP := fun pins s σ H Q I h => by
  obtain ⟨G, ρ, r, k⟩ := h
  exact po_none pins s σ H Q I (k H G r (Up.refl _ _))
theorem p_some (h : EM X F e m) : PM X F (some e) (mPart m) := fun pins s σ H Q I hw => by
  obtain ⟨G, ρ, r, k⟩ := hw
  refine po_some h pins s σ H Q I ⟨G, ρ, r, ?_⟩
  unfold mPart at k
  cases ea : m ρ with
  | bad => rw [ea] at k; exact k.elim
  | exc c => rw [ea] at k; exact k
  | ok d =>
    rw [ea, R.bind_ok] at k
    intro x H1 G1 r1 s1 ax
    cases d with
    | int i => simp only [At] at ax; exact ⟨i, ax, k H1 G1 r1 s1⟩
    | _ => exact k.elim
noncomputable def mSl (f : D → Option Int → Option Int → R D) (m : ME) (lo hi : MP) : ME := fun ρ => (m ρ).bind fun d => (lo ρ).bind fun l => (hi ρ).bind fun h => f d l h
noncomputable def slD (d : D) (l h : Option Int) : R D := match d with
  | .lst xs => .ok (.lst (cutL xs l h))
  | .scr xs => .ok (.lst (cutL xs l h))
  | .str x => if x.length ≤ 1000000 then .ok (.str (cutS x l h)) else .bad
  | _ => .bad
theorem AtL.cut {K : PySem.W.Frag} {G : Hp} {ds : List D} {xs : List V} (q : AtL K G ds xs) (l h : Option Int) : AtL K G (cutL ds l h) (cutV xs l h) := by
  unfold cutL cutV
  rw [q.length]
  exact (q.drop _).take _
theorem i_sl (hK : F.K = X.K) {lo hi : MP} : ImpE (tE F (mSl slD m lo hi)) (tSl (fun x lo hi H Q => rSlL X.K x lo hi H Q ∨ rSlS x lo hi H Q) (tE F m) (tP F lo) (tP F hi)) := by
  rintro σ H Q ⟨G, ρ, r, h⟩
  unfold mSl at h
  refine ⟨G, ρ, r, ?_⟩
  cases ea : m ρ with
  | bad => rw [ea] at h; exact h.elim
  | exc c => rw [ea] at h; exact h
  | ok d =>
    rw [ea, R.bind_ok] at h
    intro x H1 G1 r1 s1 ax
    refine ⟨G1, ρ, r1, ?_⟩
    cases el : lo ρ with
    | bad => rw [el] at h; exact h.elim
    | exc c => rw [el] at h; exact h
    | ok l =>
      rw [el, R.bind_ok] at h
      intro H2 G2 r2 s2
      refine ⟨G2, ρ, r2, ?_⟩
      cases eh : hi ρ with
      | bad => rw [eh] at h; exact h.elim
      | exc c => rw [eh] at h; exact h
      | ok u =>
        rw [eh, R.bind_ok] at h
        intro H3 G3 r3 s3
        have up := s1.trans (s2.trans s3)
        have ax3 := (ax.mono s2.g).mono s3.g
        cases d with
        | lst ds =>
          simp only [At] at ax3
          obtain ⟨q, xs, rfl, hq, al⟩ := ax3
          refine .inl ⟨q, xs, rfl, SqL.of (r3.kp.sub _ _ hq), fun l2 hn => ?_⟩
          refine h (.ref l2) _ _ (r3.lay hn) (up.trans (Up.lay r3.kp.sub hn)) ?_
          simp only [At]
          exact ⟨l2, _, rfl, upd_same, (al.cut l u).mono (Sub.upd (r3.kp.sub.gone hn))⟩
        | scr ds =>
          simp only [At] at ax3
          obtain ⟨q, xs, rfl, hq, al⟩ := ax3
          have hq' := hq
          rw [hK] at hq'
          refine .inl ⟨q, xs, rfl, SqL.mono r3.kp.sub hq', fun l2 hn => ?_⟩
          refine h (.ref l2) _ _ (r3.lay hn) (up.trans (Up.lay r3.kp.sub hn)) ?_
          simp only [At]
          exact ⟨l2, _, rfl, upd_same, (al.cut l u).mono (Sub.upd (r3.kp.sub.gone hn))⟩
        | str z =>
          simp only [At] at ax3
          have h : kE F G H σ ρ Q (if z.length ≤ 1000000 then .ok (.str (cutS z l u)) else .bad) := h
          split at h
          · rename_i hz
            exact .inr ⟨z, ax3, Nat.le_trans hz (by decide), h _ H3 G3 r3 up (by simp only [At])⟩
          · exact h.elim
        | _ => exact h.elim
theorem e_sl {lo hi : Option Expr} {p2 : Pos} {ml mh : MP} (ha : EM X F a m) (hl : PM X F lo ml) (hh : PM X F hi mh) (hK : F.K = X.K := by rfl) : EM X F (.Subscript a (.Slice lo hi none p2) pos) (mSl slD m ml mh) := PE.imp (pe_slice (sl_list.or sl_str) ha hl hh) (i_sl hK)
theorem call_intT : CallR X (.type "int") (fun xs H Q => (∃ i, xs = [.int i] ∧ Q (.int i) H) ∨ ∃ x i, xs = [.str x] ∧ x.length ≤ 640 ∧ intText? x = some i ∧ Q (.int i) H) := by
  intro pins s σ H xs us Q I r h
  rcases h with ⟨i, rfl, q⟩ | ⟨x, i, rfl, hl, hi, q⟩
  · obtain ⟨u, rfl, t, rfl⟩ := vals1 r
    exact call_int_int ⟨.int i, H, I, ⟨_, rfl⟩, q⟩
  · obtain ⟨u, rfl, t, rfl⟩ := vals1 r
    exact PySem.W.KIN.call_text hi hl ⟨.int i, H, I.tok _, ⟨_, rfl⟩, q⟩
end
end L3
set_option Elab.async false
set_option linter.all false
set_option maxRecDepth 100000
namespace L2
open PySem PySem.Spec
section
variable {prog : Program} {w : World} {A : Around} {E : Value → Shared → Prop} {s : Shared}
end
end L2
set_option Elab.async false
set_option linter.all false
set_option maxRecDepth 100000
namespace L2
open PySem PySem.Spec
theorem Inv.turnL {X : Cx} {pins : List (Addr × Obj)} {σ : St} {H : Hp} {s : Shared} {h' : Heap} {t' : Nat} {ch : List Addr} (I : Inv X pins σ H s) (k : ∀ b o, b ∉ ch → s.heap.get? b = some o → h'.get? b = some o)
    (hf : ∀ b ∈ ch, FpOk X pins H b) : Inv X pins σ H { s with heap := h', toks := t' } := by
  have nit : ∀ b u, H b = some u → b ∉ ch := fun b u e z => by rw [(hf b z).1] at e; cases e
  refine I.step (g' := s.gens) (d' := s.drawn) (ch := ch) (fun b hb => ?_) (fun b o _ _ hc e _ => k b o hc e) (fun b o _ _ hc e _ => ⟨o.slots, k b o hc e⟩) (fun _ _ _ _ n => n)
    (fun b o hc e => ⟨o, k b o hc e⟩) (fun _ _ e => e) (fun _ _ _ e => e) (fun b ps e => ⟨#[], by rw [e]; simp⟩) (fun m hm => ?_) (fun b u e => ?_) I.bare
  · obtain ⟨_, f1, _, f3, f4, f5⟩ := hf b hb
    exact ⟨f3, f1, f4, f5⟩
  · obtain ⟨o, es, ep, ho, r⟩ := hm
    exact ⟨o, es, ep, k _ o (fun z => (hf _ z).2.1 rfl) ho, r⟩
  · refine (I.hok b u e).stay (fun c v hc q => k c v ?_ q) (fun _ q => q) fun _ _ q => q
    rcases hc with z | z
    · rw [z]; exact nit b u e
    · exact nit c _ z
theorem Inv.turnT {X : Cx} {pins : List (Addr × Obj)} {σ : St} {H : Hp} {s : Shared} {h' : Heap} {t' : Nat} {ch : List Addr} {T : Addr} {xs : List V} {its : List Value} (I : Inv X pins σ H s) (k : ∀ b o, b ∉ ch → s.heap.get? b = some o → h'.get? b = some o)
    (hf : ∀ b ∈ ch, FpOk X pins H b) (hT : s.heap.objs.size ≤ T) (ht : PyProof.Rows.IsTup h' T its.toArray) (rv : Vals xs its) (hz : xs.length ≤ sizeLine) : Inv X pins σ (upd H T (.tup xs)) { s with heap := h', toks := t' } := by
  have nit : ∀ b u, H b = some u → b ∉ ch := fun b u e z => by rw [(hf b z).1] at e; cases e
  have hn : H T = none := I.hok.fresh hT
  have neT : ∀ b o, s.heap.get? b = some o → b ≠ T := fun b o e => Nat.ne_of_lt (Nat.lt_of_lt_of_le (Heap.lt_size e) hT)
  refine I.step (g' := s.gens) (d' := s.drawn) (ch := ch) (fun b hb => ?_) (fun b o _ _ hc e _ => k b o hc e) (fun b o _ _ hc e _ => ⟨o.slots, k b o hc e⟩) (fun b o _ e n => by rw [upd_ne (neT b o e)]; exact n)
    (fun b o hc e => ⟨o, k b o hc e⟩) (fun b ys e => by rw [upd_ne (ne_of_none e hn)]; exact e) (fun b _ _ e => by rw [upd_ne (ne_of_none e hn)]; exact e) (fun b ps e => ⟨#[], by rw [upd_ne (ne_of_none e hn), e]; simp⟩) (fun m hm => ?_) (fun b u e => ?_) I.bare
  · obtain ⟨_, f1, _, f3, f4, f5⟩ := hf b hb
    exact ⟨f3, f1, f4, f5⟩
  · obtain ⟨o, es, ep, ho, r⟩ := hm
    exact ⟨o, es, ep, k _ o (fun z => (hf _ z).2.1 rfl) ho, r⟩
  · by_cases hb : b = T
    · subst hb
      rw [upd_same] at e; cases e
      exact ⟨hz, its, rv, ht⟩
    · rw [upd_ne hb] at e
      refine (I.hok b u e).stay (fun c v hc q => k c v ?_ q) (fun c q => by rw [upd_ne (ne_of_none q hn)]; exact q) fun c ys q => by rw [upd_ne (ne_of_none q hn)]; exact q
      rcases hc with z | z
      · rw [z]; exact nit b u e
      · exact nit c _ z
noncomputable def Its (x : Str) : It := ⟨fun i _ => i < x.cps.size, fun i H v H' => H' = H ∧ ∃ c, x.cps[i]? = some c ∧ v = .str ⟨#[c]⟩, fun i _ => i = x.cps.size⟩
theorem walks_str {prog : Program} {w : World} {A : Around} (hh : A.handled = none) (I : Addr) (x : Str) (t : Tok) : Walks prog w A I [I] [I] x.cps.size (SignAt x) (fun i h => h.IsStrIter I (strIterType x) x t i) := by
  unfold strIterType
  cases ha : x.cps.all (· < 128)
  · rw [if_neg Bool.false_ne_true]; exact Walks.strWide hh I x t
  · rw [if_pos rfl]; exact Walks.strAscii hh I x t
theorem strIter_not (x : Str) : ["enumerate", "zip", "dict_itemiterator", "dict_reverseitemiterator", "odict_iterator", "itertools.zip_longest", "itertools.pairwise"].contains (strIterType x) = false := by
  unfold strIterType
  split <;> decide
theorem turn_str {P : Program} {w : World} {K : PySem.W.Frag} {tg : Expr} (it : Addr) (x : Str) (t : Tok) : Turn P w K tg (Its x) [it] it (fun i h => h.IsStrIter it (strIterType x) x t i) where
  mem := by simp
  obj := fun i h st b hb => by
    have e : b = it := by simpa using hb
    subst e
    obtain ⟨o, e, c, d⟩ := st
    exact ⟨o, e, fun v z => by rw [d] at z; cases z⟩
  keep := fun i h h' st k => by
    obtain ⟨o, e, r⟩ := st
    exact ⟨o, k it (by simp) o e, r⟩
  item := by
    intro X hP hw hK hc i pins s σ H E I hf st hg
    subst hP hw hK
    have W := walks_str (prog := X.prog) (w := X.w) (A := X.A) (I.ok.hd hc) it x t
    refine W.item i s _ _ hg st fun v h' tk hv st' kk => ?_
    obtain ⟨c, u, hc', rfl⟩ := hv
    have I1 : Inv X pins σ H { s with heap := h', toks := tk } := I.turnL (ch := [it]) kk hf
    obtain ⟨o, e, c1, d1⟩ := id st'
    exact ⟨_, rfl, go_of (s := { s with heap := h', toks := tk }) e c1 d1 (strIter_not x) ⟨.str ⟨#[c]⟩, H, I1, ⟨u, rfl⟩, ⟨rfl, c, hc', rfl⟩, st', fun b hb => (hf b hb).1⟩⟩
  done := by
    intro X hP hw hK hc i pins s σ H E I hf st hg
    subst hP hw hK
    have W := walks_str (prog := X.prog) (w := X.w) (A := X.A) (I.ok.hd hc) it x t
    have hi : i = x.cps.size := hg
    subst hi
    exact W.done s _ _ st fun h' tk kk => ⟨rfl, I.turnL (ch := [it]) kk hf⟩
  self := fun A i s Q E st h => by
    unfold strIterType at st
    cases ha : x.cps.all (· < 128)
    · rw [ha, if_neg Bool.false_ne_true] at st; exact wpAny_pyIter_striter_wide st h
    · rw [ha, if_pos rfl] at st; exact wpAny_pyIter_striter_ascii st h
section
variable {X : Cx} {tg : Expr}
noncomputable def iStr (tl : TE) : TI := fun σ H R => tl σ H fun v H1 => ∃ x, v = .str x ∧ R (Its x) H1
theorem pi_str {l : Expr} {tl : TE} (hl : PE X l tl) : PI X tg l (iStr tl) := by
  intro pins s σ H R I h
  refine thn (hl pins s σ H _ I h) fun v s1 ⟨y, H1, I1, r1, q1⟩ => ?_
  obtain ⟨x, e, q⟩ := q1
  subst e
  obtain ⟨t, rfl⟩ := r1
  refine wpAny_pyIter_strU ?_
  refine ⟨s1.heap.objs.size, [s1.heap.objs.size], _, _, H1, rfl, I1.kept (t' := s1.toks) fun b o e => Heap.get?_push_of_some _ e, turn_str _ x t, ⟨_, Heap.get?_push_size _ rfl, rfl, rfl⟩, fun b hb => ?_, q⟩
  have e : b = s1.heap.objs.size := by simpa using hb
  subst e
  exact I1.fpOk (Nat.le_refl _) (I1.hok.fresh (Nat.le_refl _))
end
noncomputable def Ite (K : PySem.W.Frag) (l : Addr) : It := ⟨fun i H => ∃ xs x, SqL K H l xs ∧ xs[i]? = some x, fun i H v H' => ∃ p x, H p = none ∧ H' = upd H p (.tup [.int (i : Int), x]) ∧ v = .ref p ∧ ∀ xs, SqL K H l xs → xs[i]? = some x, fun i H => ∃ xs, SqL K H l xs ∧ xs.length = i⟩
theorem turn_enum {P : Program} {w : World} {K : PySem.W.Frag} {elts : List Expr} {kk : Nat} {pos : Pos} (e it l : Addr) (hei : e ≠ it) :
    Turn P w K (.Tuple elts kk pos) (Ite K l) [e, it] e (fun i h => (∃ old, IsEnum h e it i old) ∧ h.IsListIter it l i) where
  mem := by simp
  obj := fun i h st b hb => by
    obtain ⟨⟨old, he⟩, o, e1, c, d⟩ := st
    rcases List.mem_cons.mp hb with z | z
    · subst z
      exact ⟨_, he, fun v z => by
        have z' : Data.fields _ = Data.cell v := z
        cases z'⟩
    · have z : b = it := by simpa using z
      subst z
      exact ⟨o, e1, fun v z => by rw [d] at z; cases z⟩
  keep := fun i h h' st k => by
    obtain ⟨⟨old, he⟩, hit⟩ := st
    exact ⟨⟨old, k e (by simp) _ he⟩, hit.at fun o x => k it (by simp) o x⟩
  item := by
    intro X hP hw hK hc i pins s σ H E I hf st hg
    subst hP hw hK
    obtain ⟨xs, x, hq, hx⟩ := hg
    obtain ⟨its, rv, pl, hz⟩ := I.list hq
    obtain ⟨⟨old, he⟩, hit⟩ := st
    have hL := pl.isList
    have hle : l ≠ e := fun z => by
      subst z
      obtain ⟨o, ho, hco, _⟩ := hL
      rw [he] at ho; cases ho
      have hco : Value.type "enumerate" = Value.type "list" := hco
      injection hco with hco
      exact absurd hco (by decide)
    have hli : l ≠ it := fun z => by
      subst z
      obtain ⟨o, ho, hco, _⟩ := hL
      obtain ⟨o', ho', hco', _⟩ := hit
      rw [ho'] at ho; cases ho
      rw [hco] at hco'
      injection hco' with hco'
      exact absurd hco' (by decide)
    have W := WalksT.enumerate (prog := X.prog) (w := X.w) (A := X.A) (I.ok.hd hc) e it l hei hle hli its.toArray
    have hlen := rv.length
    have hil : i < xs.length := (List.getElem?_eq_some_iff.mp hx).1
    refine W.item i s _ _ (by rw [List.size_toArray, ← hlen]; exact hil) ⟨⟨old, he⟩, hit, hL⟩ fun T vals h' tk hP hT hTup hM hk => ?_
    obtain ⟨t, u, hu, rfl⟩ := hP
    obtain ⟨u', hu', ru⟩ := rv.get hx
    have eu : u' = u := by
      rw [List.getElem?_toArray] at hu
      rw [hu'] at hu; exact Option.some.inj hu
    subst eu
    refine ⟨_, rfl, ?_⟩
    refine W.go elts kk pos i T { s with heap := h', toks := tk } _ _ hM fun h2 st2 hk2 => ?_
    have hTw : T ∉ [e, it] := W.apart i T h' hM
    have keep : ∀ b o, b ∉ [e, it] → s.heap.get? b = some o → h2.get? b = some o := fun b o hb q => hk2 b o hb (hk b o hb q)
    have ht2 : PyProof.Rows.IsTup h2 T (#[.int i t, u'] : Array Value) := by
      obtain ⟨o, ho, r⟩ := hTup
      exact ⟨o, hk2 T o hTw ho, r⟩
    have hn : H T = none := I.hok.fresh hT
    have I2 : Inv X pins σ (upd H T (.tup [.int (i : Int), x])) { s with heap := h2, toks := tk } := I.turnT (its := [.int i t, u']) (ch := [e, it]) keep hf hT ht2 (.cons ⟨t, rfl⟩ (.cons ru .nil)) (by show 2 ≤ sizeLine; decide)
    refine ⟨.ref T, upd H T (.tup [.int (i : Int), x]), I2, rfl, ⟨T, x, hn, rfl, rfl, fun ys hy => by rw [I.list_inj hy hq]; exact hx⟩, ⟨st2.1, st2.2.1⟩, fun b hb => ?_⟩
    have nb : b ≠ T := fun z => hTw (z ▸ hb)
    rw [upd_ne nb]
    exact (hf b hb).1
  done := by
    intro X hP hw hK hc i pins s σ H E I hf st hg
    subst hP hw hK
    obtain ⟨xs, hq, hx⟩ := hg
    obtain ⟨its, rv, pl, hz⟩ := I.list hq
    obtain ⟨⟨old, he⟩, hit⟩ := st
    have hL := pl.isList
    have hle : l ≠ e := fun z => by
      subst z
      obtain ⟨o, ho, hco, _⟩ := hL
      rw [he] at ho; cases ho
      have hco : Value.type "enumerate" = Value.type "list" := hco
      injection hco with hco
      exact absurd hco (by decide)
    have hli : l ≠ it := fun z => by
      subst z
      obtain ⟨o, ho, hco, _⟩ := hL
      obtain ⟨o', ho', hco', _⟩ := hit
      rw [ho'] at ho; cases ho
      rw [hco] at hco'
      injection hco' with hco'
      exact absurd hco' (by decide)
    have W := WalksT.enumerate (prog := X.prog) (w := X.w) (A := X.A) (I.ok.hd hc) e it l hei hle hli its.toArray
    have ei : i = its.toArray.size := by rw [List.size_toArray, ← rv.length]; exact hx.symm
    subst ei
    exact W.done s _ _ ⟨⟨old, he⟩, hit, hL⟩ fun h' tk kk => ⟨rfl, I.turnL (ch := [e, it]) kk hf⟩
  self := fun A i s Q E st h => by
    obtain ⟨⟨old, he⟩, _⟩ := st
    exact wpAny_pyIter_enum he h
section
variable {X : Cx} {elts : List Expr} {kk : Nat} {tpos : Pos}
noncomputable def iEnum (K : PySem.W.Frag) (ta : TA) : TI := fun σ H R => ta σ H fun vs H1 => ∃ l, vs = [.ref l] ∧ (∃ xs, SqL K H1 l xs) ∧ R (Ite K l) H1
theorem pi_enum {a : Expr} {ta : TA} {p pos : Pos} (hg : Gl X "enumerate") (hm : X.mg "enumerate" = none) (ha : PA X [a] ta) (hs : starEach [a] X.env = [(false, eval a X.env)] := by rfl) : PI X (.Tuple elts kk tpos) (.Call (.Name "enumerate" p) [a] [] pos) (iEnum X.K ta) := by
  have hb : bootBuiltins "enumerate" = some (.type "enumerate") := by kernel_rfl
  intro pins s σ H R I h
  refine PyProof.Rows.Call_ (ld_blt I hg hm hb (PyProof.Rows.callWith_type1 (thn (ha pos pins s σ H _ I h) fun us s1 ⟨vs, H1, I1, r1, q1⟩ => ?_) hs rfl))
  obtain ⟨l, e, ⟨xs, hq⟩, q⟩ := q1
  subst e
  obtain ⟨u, rfl, ru⟩ := vals1 r1
  cases ru
  obtain ⟨its, rv, pl, hz⟩ := I1.list hq
  refine call_enumerate_list pl.isList fun h' he hit hsz hk => ?_
  have I2 : Inv X pins σ H1 { s1 with heap := h' } := I1.kept (t' := s1.toks) hk
  refine wpAny_pyIter_enum he ?_
  refine ⟨s1.heap.objs.size + 1, [s1.heap.objs.size + 1, s1.heap.objs.size], _, _, H1, rfl, I2, turn_enum _ _ l (Nat.succ_ne_self _), ⟨⟨_, he⟩, hit⟩, fun b hb => ?_, q⟩
  have hb : b = s1.heap.objs.size + 1 ∨ b = s1.heap.objs.size := by simpa using hb
  rcases hb with z | z
  · subst z; exact I1.fpOk (Nat.le_succ _) (I1.hok.fresh (Nat.le_succ _))
  · subst z; exact I1.fpOk (Nat.le_refl _) (I1.hok.fresh (Nat.le_refl _))
end
section
variable {X : Cx} {elts : List Expr} {kk : Nat} {tpos : Pos}
end
end L2
set_option Elab.async false
set_option linter.all false
set_option maxRecDepth 100000
namespace L3
open PySem PySem.Spec L2
section
variable {X : Cx} {F : Fx} {e a b c tg iter elt : Expr} {es : List Expr} {pos p : Pos} {m n : ME} {ma : MA}
noncomputable def signD (c : Nat) : D := .str ⟨#[c]⟩
noncomputable def signsD : D → R (List D)
  | .str x => .ok (x.cps.toList.map signD)
  | _ => .bad
theorem it_str {K : PySem.W.Frag} {G : Hp} (x : Str) : ItOk K (Its x) (x.cps.toList.map signD) G where
  go := fun i H s hi => by
    have h : i < x.cps.size := by simpa using hi
    exact h
  yld := fun i H v H' s hi y => by
    obtain ⟨e, c, hc, rfl⟩ := y
    refine ⟨signD c, ?_, .inl ⟨e, by unfold signD; simp only [At]⟩⟩
    rw [List.getElem?_map, Array.getElem?_toList, hc]
    rfl
  stop := fun H s => by
    have h : (x.cps.toList.map signD).length = x.cps.size := by simp
    exact h
noncomputable def mIS (m : ME) : MA := fun ρ => (m ρ).bind signsD
theorem i_strI : ImpI (tI F (mIS m)) (iStr (tE F m)) := by
  rintro σ H Q ⟨G, ρ, r, h⟩
  unfold mIS at h
  refine ⟨G, ρ, r, ?_⟩
  cases ea : m ρ with
  | bad => rw [ea] at h; exact h.elim
  | exc c => rw [ea] at h; exact h
  | ok d =>
    rw [ea, R.bind_ok] at h
    intro v H1 G1 r1 s1 a
    cases d with
    | str x => simp only [At] at a; exact ⟨x, a, h _ H1 G1 r1 s1 (it_str x)⟩
    | _ => exact h.elim
noncomputable def enumL (ds : List D) : List D := ds.zipIdx.map fun p => .tup [.int (p.2 : Int), p.1]
theorem enumL_get {ds : List D} {i : Nat} {d : D} (e : ds[i]? = some d) : (enumL ds)[i]? = some (.tup [.int (i : Int), d]) := by
  unfold enumL
  rw [List.getElem?_map, List.getElem?_zipIdx, e]
  simp
noncomputable def enumD : List D → R (List D)
  | [.lst ds] => .ok (enumL ds)
  | [.scr ds] => .ok (enumL ds)
  | _ => .bad
theorem it_enum {K : PySem.W.Frag} {G : Hp} {l : Addr} {ds : List D} {xs : List V} (h : SqL K G l xs) (q : AtL K G ds xs) : ItOk K (Ite K l) (enumL ds) G where
  go := fun i H s hi => by
    have hi : i < ds.length := by simpa [enumL] using hi
    obtain ⟨v, e, _⟩ := q.get (List.getElem?_eq_getElem hi)
    exact ⟨xs, v, SqL.mono s h, e⟩
  yld := fun i H v H' s hi y => by
    obtain ⟨p, x, hp, rfl, rfl, y⟩ := y
    have ex := y xs (SqL.mono s h)
    obtain ⟨d, e, a⟩ := q.getV ex
    exact ⟨_, enumL_get e, .inr ⟨p, _, _, hp, rfl, rfl, rfl, .cons (by simp only [At]) (.cons a .nil)⟩⟩
  stop := fun H s => ⟨xs, SqL.mono s h, by simp [enumL, q.length]⟩
noncomputable def mIE (m : MA) : MA := fun ρ => (m ρ).bind enumD
theorem i_enum (hK : F.K = X.K) : ImpI (tI F (mIE ma)) (iEnum X.K (tA F ma)) := by
  rintro σ H Q ⟨G, ρ, r, h⟩
  unfold mIE at h
  refine ⟨G, ρ, r, ?_⟩
  cases ea : ma ρ with
  | bad => rw [ea] at h; exact h.elim
  | exc c => rw [ea] at h; exact h
  | ok ds =>
    rw [ea, R.bind_ok] at h
    intro vs H1 G1 r1 s1 al
    unfold enumD at h
    split at h
    · rename_i ds
      obtain ⟨v, rfl, a⟩ := al.one
      simp only [At] at a
      obtain ⟨q, xs, rfl, hq, aq⟩ := a
      have sq : SqL X.K G1 q xs := SqL.of hq
      rw [← hK] at sq
      refine ⟨q, rfl, ⟨xs, by rw [← hK]; exact SqL.mono r1.kp.sub sq⟩, ?_⟩
      rw [← hK]
      exact h _ H1 G1 r1 s1 (it_enum sq aq)
    · rename_i ds
      obtain ⟨v, rfl, a⟩ := al.one
      simp only [At] at a
      obtain ⟨q, xs, rfl, hq, aq⟩ := a
      refine ⟨q, rfl, ⟨xs, by rw [← hK]; exact SqL.mono r1.kp.sub hq⟩, ?_⟩
      rw [← hK]
      exact h _ H1 G1 r1 s1 (it_enum hq aq)
    · exact h.elim
theorem w_list (h : EM X F e m) (hK : F.K = X.K := by rfl) : IM X F tg e (mIL m) := PI.imp (pi_list h) (by rw [← hK]; exact i_list)
theorem w_tup (h : EM X F e m) (hK : F.K = X.K := by rfl) : IM X F tg e (mIT m) := PI.imp (pi_tup h) (by rw [← hK]; exact i_tupI)
theorem w_str (h : EM X F e m) : IM X F tg e (mIS m) := PI.imp (pi_str h) i_strI
theorem w_range1 (hm : X.mg "range" = none) (ha : AM X F [a] ma) (hg : Gl X "range" := by rfl) (hs : starEach [a] X.env = [(false, eval a X.env)] := by rfl) : IM X F tg (.Call (.Name "range" p) [a] [] pos) (mR1 ma) := PI.imp (pi_range1 hg hm ha hs) i_r1
theorem w_enum {elts : List Expr} {k : Nat} {tp : Pos} (hm : X.mg "enumerate" = none) (ha : AM X F [a] ma) (hK : F.K = X.K := by rfl) (hg : Gl X "enumerate" := by rfl) (hs : starEach [a] X.env = [(false, eval a X.env)] := by rfl) : IM X F (.Tuple elts k tp) (.Call (.Name "enumerate" p) [a] [] pos) (mIE ma) := PI.imp (pi_enum hg hm ha hs) (i_enum hK)
structure GM (X : Cx) (tg : Expr) (set : D → Rho → R Rho) : Prop where
  ex : ∃ g, PG X tg g ∧ ∀ F : Fx, F.K = X.K → GOk F g set
  noX : ∀ d ρ c, set d ρ ≠ .exc c
  keeps : Keeps set
theorem n_name (i : Nat) {x : Str} (hN : X.N.Nodup) (hi : X.N[i]? = some x := by rfl) (hx : Loc X.env.scope x := by first | exact Or.inl rfl | exact Or.inr rfl) (hf : X.fn x = true ∨ X.env.scope.names.lookup x = some .local := by first | exact .inl rfl | exact .inr rfl) : GM X (.Name x pos) (setV i) :=
  ⟨⟨gName i, pg_name hN hi hx hf, fun _ _ => g_name i⟩, setV_noexc i, setV_keeps i⟩
structure GsM (X : Cx) (tgs : List Expr) (fs : List (D → Rho → R Rho)) : Prop where
  ex : ∃ g, PGs X tgs g ∧ ∀ F : Fx, F.K = X.K → GsOk F g (setL fs)
  noX : ∀ f ∈ fs, ∀ d ρ c, f d ρ ≠ .exc c
  keeps : ∀ f ∈ fs, Keeps f
theorem n_nil : GsM X [] [] := ⟨⟨gNil, pgs_nil, fun _ _ => g_nil⟩, (fun _ h => nomatch h), (fun _ h => nomatch h)⟩
theorem n_cons {f : D → Rho → R Rho} {fs : List (D → Rho → R Rho)} (h : GM X e f) (t : GsM X es fs) (hs : (assignEach (e :: es) X.env).map (·.2) = assign e X.env :: (assignEach es X.env).map (·.2) := by rfl) : GsM X (e :: es) (f :: fs) := by
  obtain ⟨⟨g, h1, h2⟩, h3, h4⟩ := h
  obtain ⟨⟨gs, t1, t2⟩, t3, t4⟩ := t
  exact ⟨⟨gCons g gs, pgs_cons h1 t1 hs, fun F hF => g_cons (h2 F hF) (t2 F hF)⟩, fun k hk => by rcases List.mem_cons.mp hk with rfl | hk; exact h3; exact t3 k hk, fun k hk => by rcases List.mem_cons.mp hk with rfl | hk; exact h4; exact t4 k hk⟩
theorem n_tup {k : Nat} {fs : List (D → Rho → R Rho)} (hc : X.calm = true) (h : GsM X es fs) (hn : (assignEach es X.env).length = fs.length := by rfl) (hst : (assignEach es X.env).findIdx? (·.1) = none := by rfl) : GM X (.Tuple es k pos) (setT fs) := by
  obtain ⟨⟨gs, t1, t2⟩, t3, t4⟩ := h
  exact ⟨⟨gTup X.K fs.length gs, pg_tup hc t1 hn hst, fun F hF => by rw [← hF]; exact g_tup rfl (t2 F hF)⟩, setT_noexc t3, setT_keeps t4⟩
theorem s_for {body : List Stmt} {mi : MA} {set : D → Rho → R Rho} {mb : MS} (hp : PassesOwn (model X.prog X.w) X.A X.env X.xe) (hi : IM X F tg iter mi) (hg : GM X tg set) (hb : BM X F body mb) (hc : X.calm = true := by rfl) (hK : F.K = X.K := by rfl) (hs : ∀ x, foldedSetIterable iter X.env x = pure x := by intro _; rfl) :
    SM X F (.For tg iter body [] pos) (mFor mi set mb) := by
  obtain ⟨⟨g, h1, h2⟩, h3, _⟩ := hg
  exact PS.imp (ps_for hp hc hi h1 hb hs) (i_for (h2 F hK) h3)
noncomputable abbrev BlkE (X : Cx) (scope : Scope) (N : List Str) (e : Expr) (m : ME) : Prop := ∀ cl C s H fp G0 H0, EM (cxB X scope N cl C s H fp) (fxB X.K G0 H0) e m
noncomputable abbrev BlkT (X : Cx) (scope : Scope) (N : List Str) (ifs : List Expr) (m : MT) : Prop := ∀ cl C s H fp G0 H0, PTs (cxB X scope N cl C s H fp) ifs (tT (fxB X.K G0 H0) m)
noncomputable abbrev BlkG (X : Cx) (scope : Scope) (N : List Str) (tg : Expr) (set : D → Rho → R Rho) : Prop := ∃ g, (∀ cl C s H fp, PG (cxB X scope N cl C s H fp) tg g) ∧ (∀ G0 H0, GOk (fxB X.K G0 H0) g set)
theorem blk_g {scope : Scope} {N : List Str} {g : TG} {set : D → Rho → R Rho} (h : ∀ cl C s H fp, PG (cxB X scope N cl C s H fp) tg g) (k : ∀ F : Fx, F.K = X.K → GOk F g set) : BlkG X scope N tg set := ⟨g, h, fun G0 H0 => k (fxB X.K G0 H0) rfl⟩
noncomputable def mYes : MT := fun _ => .ok true
theorem blk_yes {scope : Scope} {N : List Str} : BlkT X scope N [] mYes := fun cl C s H fp G0 H0 pins s' σ H' Q I h => by
  obtain ⟨G, ρ, r, k⟩ := h
  exact pts_nil pins s' σ H' Q I (k H' G r (Up.refl _ _))
theorem comp_imp {scope : Scope} {N : List Str} {ifs : List Expr} {nl : Nat} {caps : List Nat} {mi : MA} {set : D → Rho → R Rho} {mt : MT} {me : ME} (hK : F.K = X.K) (hi : IM X F tg iter mi) (hg : BlkG X scope N tg set) (ht : BlkT X scope N ifs mt) (he : BlkE X scope N elt me) (hx : ∀ d ρ c, set d ρ ≠ .exc c) (hk : Keeps set)
    {Q : TE → Prop} (k : ∀ g, (∀ cl C s H fp, PG (cxB X scope N cl C s H fp) tg g) → (∀ cl C s H fp, PTs (cxB X scope N cl C s H fp) ifs (xT X.K mt)) → (∀ cl C s H fp, PE (cxB X scope N cl C s H fp) elt (xE X.K me)) → ImpE (tO F (mComp nl caps mi set mt me)) (tComp (tI F mi) g (xT X.K mt) (xE X.K me) nl caps) → Q (tO F (mComp nl caps mi set mt me))) : Q (tO F (mComp nl caps mi set mt me)) := by
  obtain ⟨g, g1, g2⟩ := hg
  refine k g g1 (fun cl C s H fp pins s' σ H' Q' I h => ?_) (fun cl C s H fp pins s' σ H' Q' I h => ?_) ?_
  · obtain ⟨G0, H0, h⟩ := h
    exact ht cl C s H fp G0 H0 pins s' σ H' Q' I h
  · obtain ⟨G0, H0, h⟩ := h
    exact he cl C s H fp G0 H0 pins s' σ H' Q' I h
  · have z := i_comp (F := F) (nl := nl) (caps := caps) (mi := mi) (tst := mt) (elt := me) (g := g) (set := set) (fun G0 H0 => by rw [hK]; exact g2 G0 H0) hx hk
    rw [hK] at z
    exact z
theorem o_comp {scope : Scope} {N : List Str} {ifs : List Expr} {nl : Nat} {caps : List Nat} {mi : MA} {set : D → Rho → R Rho} {mt : MT} {me : ME} (S : CompSc X.env.scope X.N scope N nl caps) (hi : IM X F tg iter mi) (hg : BlkG X scope N tg set) (hx : ∀ d ρ c, set d ρ ≠ .exc c) (hk : Keeps set) (ht : BlkT X scope N ifs mt) (he : BlkE X scope N elt me)
    (hc : X.calm = true := by rfl) (hK : F.K = X.K := by rfl) (hs : ∀ x, foldedSetIterable iter X.env x = pure x := by intro _; rfl) : EO X F (.ListComp elt [⟨tg, iter, ifs, 0⟩] scope pos) (mComp nl caps mi set mt me) :=
  comp_imp (nl := nl) (caps := caps) (Q := fun t => PE X (.ListComp elt [⟨tg, iter, ifs, 0⟩] scope pos) t) hK hi hg ht he hx hk fun g g1 t1 e1 imp => PE.imp (pe_comp S hc hi g1 t1 e1 hs) imp
theorem s_comp (i : Nat) {y : Str} {py : Pos} {scope : Scope} {N : List Str} {ifs : List Expr} {nl : Nat} {caps : List Nat} {mi : MA} {set : D → Rho → R Rho} {mt : MT} {me : ME} {cpos : Pos} (hN : X.N.Nodup) (S : CompSc X.env.scope X.N scope N nl caps) (hi : IM X F tg iter mi) (hg : BlkG X scope N tg set) (hx : ∀ d ρ c, set d ρ ≠ .exc c) (hk : Keeps set) (ht : BlkT X scope N ifs mt) (he : BlkE X scope N elt me)
    (hy : X.N[i]? = some y := by rfl) (hl : X.env.kindOf y = some .local := by rfl) (hsw : swapsWith (.ListComp elt [⟨tg, iter, ifs, 0⟩] scope cpos) (some (.Name y py)) pos.line X.env = pure true := by rfl) (hc : X.calm = true := by rfl) (hK : F.K = X.K := by rfl) (hs : ∀ x, foldedSetIterable iter X.env x = pure x := by intro _; rfl) :
    SM X F (.Assign [.Name y py] (.ListComp elt [⟨tg, iter, ifs, 0⟩] scope cpos) pos) (mSetO i (mComp nl caps mi set mt me)) := by
  refine PS.imp (t := tAsg (tO F (mComp nl caps mi set mt me)) (gName i)) ?_ i_setO
  refine comp_imp (nl := nl) (caps := caps) (Q := fun t => PS X (.Assign [.Name y py] (.ListComp elt [⟨tg, iter, ifs, 0⟩] scope cpos) pos) (tAsg t (gName i))) hK hi hg ht he hx hk fun g g1 t1 e1 imp => ?_
  exact PS.imp (ps_comp S hc hN hy hl hi g1 t1 e1 hsw hs) fun De σ H h => imp σ H _ h
end
end L3
set_option Elab.async false
set_option linter.all false
set_option maxRecDepth 100000
namespace L3
open PySem PySem.Spec L2
section
variable {X : Cx} {F : Fx} {e a b c : Expr} {es : List Expr} {pos p : Pos} {m n : ME} {ma : MA}
noncomputable def boolsD : List D → Option (List Bool)
  | [] => some []
  | .bl b :: r => (boolsD r).map (b :: ·)
  | _ :: _ => none
theorem bools_at {K : PySem.W.Frag} {G : Hp} : ∀ {ds : List D} {xs : List V} {bs : List Bool}, AtL K G ds xs → boolsD ds = some bs → xs = bs.map V.bl
  | [], _, _, q, e => by simp only [AtL] at q; subst q; cases e; rfl
  | d :: ds, _, bs, q, e => by
    simp only [AtL] at q
    obtain ⟨v, r, rfl, a, ar⟩ := q
    cases d with
    | bl b =>
      simp only [At] at a; subst a
      simp only [boolsD] at e
      cases e1 : boolsD ds with
      | none => rw [e1] at e; cases e
      | some cs =>
        rw [e1] at e
        have eb : b :: cs = bs := Option.some.inj e
        subst eb
        rw [bools_at ar e1]; rfl
    | _ => cases e
theorem vals_bools : ∀ {bs : List Bool} {us : List Value}, Vals (bs.map V.bl) us → us = bs.map Value.bool
  | [], _, r => by cases r; rfl
  | b :: bs, _, r => by
    cases r with
    | cons r1 r2 => cases r1; rw [vals_bools r2]; rfl
theorem call_allL (hc : X.calm = true) (hcl : X.A.handled = none) : CallR X (.builtin "all") (fun xs H Q => ∃ (p : Addr) (bs : List Bool), xs = [.ref p] ∧ SqL X.K H p (bs.map V.bl) ∧ Q (.bl (bs.all id)) H) := by
  intro pins s σ H xs us Q I r h
  obtain ⟨p, bs, rfl, hq, q⟩ := h
  obtain ⟨u, rfl, ru⟩ := vals1 r
  cases ru
  obtain ⟨its, rv, pl, hz⟩ := I.list hq
  have ei := vals_bools rv
  refine call_all_walk (wpAny_pyIter_list pl.isList ?_)
  have hne : p ≠ s.heap.objs.size := by obtain ⟨o, ho, _⟩ := pl.isList; exact Nat.ne_of_lt (Heap.lt_size ho)
  refine ⟨s.heap.objs.size, _, _, _, _, _, fun i => (bs[i]?).getD true, rfl, Walks.list (prog := X.prog) (w := X.w) (A := X.A.in1) hcl s.heap.objs.size p hne its.toArray, ⟨⟨_, Heap.get?_push_size _ rfl, rfl, rfl⟩, pl.isList.push _⟩, ?_, fun h' tk kk => ?_⟩
  · intro i v s' Q' E' hP hQ'
    rw [ei] at hP
    have hP : (bs.map Value.bool)[i]? = some v := by simpa using hP
    rw [List.getElem?_map] at hP
    cases eb : bs[i]? with
    | none => rw [eb] at hP; cases hP
    | some b =>
      rw [eb] at hP
      have ev : Value.bool b = v := Option.some.inj hP
      subst ev
      dsimp only at hQ'
      rw [eb] at hQ'
      exact wpAny_truthy_bool hQ'
  · have hall : (List.range its.toArray.size).all (fun i => (bs[i]?).getD true) = bs.all id := by
      have hl : its.toArray.size = bs.length := by rw [ei]; simp
      rw [hl, Bool.eq_iff_iff, List.all_eq_true, List.all_eq_true]
      constructor
      · intro hh x hx
        obtain ⟨i, hi, rfl⟩ := List.mem_iff_getElem.mp hx
        have := hh i (List.mem_range.mpr hi)
        rw [List.getElem?_eq_getElem hi] at this
        exact this
      · intro hh i hi
        have hi := List.mem_range.mp hi
        rw [List.getElem?_eq_getElem hi]
        exact hh _ (List.getElem_mem hi)
    rw [hall]
    exact ⟨.bl _, H, I.kept (t' := tk) fun b o e2 => kk b o (by
      intro z
      have z : b = s.heap.objs.size := by simpa using z
      exact absurd (Heap.lt_size e2) (by rw [z]; exact Nat.lt_irrefl _)) (Heap.get?_push_of_some _ e2), rfl, q⟩
noncomputable def allD : List D → R D
  | [.lst ds] => match boolsD ds with | some bs => .ok (.bl (bs.all id)) | none => .bad
  | _ => .bad
theorem ok_all : CallOk F (fun xs H Q => ∃ (p : Addr) (bs : List Bool), xs = [.ref p] ∧ SqL X.K H p (bs.map V.bl) ∧ Q (.bl (bs.all id)) H) allD := by
  intro σ ρ G H xs ds Q r al k
  unfold allD at k
  split at k
  · rename_i ds
    split at k
    · rename_i bs eb
      obtain ⟨v, rfl, av⟩ := al.one
      simp only [At] at av
      obtain ⟨q, xs, rfl, hq, aq⟩ := av
      have := bools_at aq eb
      subst this
      exact ⟨q, bs, rfl, SqL.of (r.kp.sub _ _ hq), k _ H G r (Up.refl _ _) (by simp only [At])⟩
    · exact k.elim
  · exact k.elim
theorem e_all {k : Nat} (hr : Room k X.A) (hm : X.mg "all" = none) (ha : AM X F [e] ma) (hc : X.calm = true := by rfl) (hg : Gl X "all" := by rfl) (he : starEach [e] X.env = (false, eval e X.env) :: starEach [] X.env := by rfl) (hpl : (backTo pos (starEach [] X.env)).any (·.1) = false := by rfl) :
    EM X F (.Call (.Name "all" p) [e] [] pos) (mCB allD ma) := e_callB (call_allL hc hr.hd) ok_all hm (by kernel_rfl) ha hg (by decide) (by decide) he hpl
end
end L3
set_option Elab.async false
set_option linter.all false
set_option maxRecDepth 100000
namespace L3
open PySem PySem.Spec L2
section
variable {X : Cx} {F : Fx} {e a b c : Expr} {es : List Expr} {pos p : Pos} {m n : ME} {ma : MA}
noncomputable def ownAt (i : Nat) (ρ : Rho) : R (List D) := match ρ[i]? with
  | some (.ob (.lst ds)) => .ok ds
  | _ => .bad
noncomputable def mApp (i : Nat) (m : ME) : MS := fun ρ => (ownAt i ρ).bind fun ds => (m ρ).bind fun d => if ds.length < 1000000 then .ok (.nx (ρ.set i (.ow (ds ++ [d])))) else .bad
theorem s_append (i : Nat) {x : Str} {px : Pos} {apos : Pos} {cpos : Pos} (he : EM X F e m) (hN : X.N[i]? = some x := by rfl) (hv : Vis X.env.scope x := by first | exact Or.inl rfl | exact Or.inr (Or.inl rfl) | exact Or.inr (Or.inr rfl)) (hd : (x == ("__debug__" : Str)) = false := by decide) (hcd : (x == ("__classdict__" : Str)) = false := by decide)
    (hbase : attributeBase (.Name x px) "append" X.env (eval (.Name x px) X.env) = eval (.Name x px) X.env := by rfl) (hline : (apos.endLine == cpos.line) = true := by rfl)
    (hfew : ((backTo cpos (starEach [e] X.env)).all (fun x => !x.1) && (backToKw cpos (keywordEach [] X.env)).all (fun x => x.1.isSome)
      && decide (([e] : List Expr).length + ([] : List Keyword).length + (if ([] : List Keyword).isEmpty then 0 else 1) < 30)) = true := by rfl)
    (hs : starEach [e] X.env = (false, eval e X.env) :: starEach [] X.env := by rfl) (hplain : (backTo cpos (starEach [] X.env)).any (·.1) = false := by rfl)
    (hK : F.K = X.K := by rfl) :
    SM X F (.Expr (.Call (.Attribute (.Name x px) "append" apos) [e] [] cpos) pos) (mApp i m) := by
  refine PS.imp (ps_expr (pe_bm PySem.F.plainAttrs_list PySem.F.slot_list_append PySem.F.type_list_append mt_append (pe_var hN hv hd hcd) (pa_cons he pa_nil hs) hbase hfew hline hs hplain) (swaps_no _ _ _ _ rfl)) ?_
  rintro De σ H ⟨G, ρ, r, h⟩
  unfold mApp ownAt at h
  cases er : ρ[i]? with
  | none => rw [er] at h; exact h.elim
  | some s =>
    rw [er] at h
    cases s with
    | un => exact h.elim
    | fz _ => exact h.elim
    | tr _ => exact h.elim
    | ob ob =>
     cases ob with
     | dT _ _ => exact h.elim
     | ins _ _ _ => exact h.elim
     | lst ds =>
      obtain ⟨q, xs, e1, h1, h2, h3, h4⟩ := r.own er
      have h : kS F G De ((m ρ).bind fun d => if ds.length < 1000000 then .ok (.nx (ρ.set i (.ow (ds ++ [d])))) else .bad) := h
      refine ⟨.ref q, e1, .inl ⟨rfl, xs, SqL.of h1⟩, G, ρ, r, ?_⟩
      cases ea : m ρ with
      | bad => rw [ea] at h; exact h.elim
      | exc c => rw [ea] at h; exact h
      | ok d =>
        rw [ea, R.bind_ok] at h
        intro v H1 G1 r1 s1 av
        obtain ⟨q', xs', e1', h1', h2', h3', h4'⟩ := r1.own er
        rw [e1] at e1'
        cases e1'
        by_cases hl : ds.length < 1000000
        · rw [if_pos hl] at h
          refine ⟨q, xs', v, rfl, rfl, h1', by rw [← h4'.length]; exact Nat.lt_trans hl (by decide), ?_⟩
          exact h σ G1 _ (r1.mut er e1 (h4'.snoc av)) s1.g
        · rw [if_neg hl] at h; exact h.elim
end
end L3
set_option Elab.async false
set_option linter.all false
set_option maxRecDepth 100000
set_option autoImplicit false
namespace L3
open PySem PySem.Spec L2
noncomputable abbrev sp0 (K : PySem.W.Frag) (n : Nat) (mf : List D → R Rt) : Sp := spM K n (fun _ _ _ => False) mf
structure Kn (P : Program) (w : World) (K : PySem.W.Frag) (mg : Str → Option Value) (base : Heap) (x : Str) (n k : Nat) (mf : List D → R Rt) : Prop where
  ex : ∃ (f : Addr) (fd : FuncData) (ps : List Str), ps.length = n ∧ FnOk P w K mg base CX0 k f fd ps (sp0 K n mf) ∧ mg x = some (.ref f) ∧ PySem.W.keepIn K (.ref f) = true ∧ Binds K fd ps []
section
variable {X : Cx} {F : Fx} {e : Expr} {es : List Expr} {pos p : Pos} {ma : MA} {x : Str} {n k : Nat} {mf : List D → R Rt}
theorem e_call (c : Kn X.prog X.w X.K X.mg X.base x n k mf) (hr : Room k X.A) (ha : AM X F (e :: es) ma) (hE : F.EX = fun _ _ => False := by rfl) (hK : F.K = X.K := by rfl) (hg : Gl X x := by rfl) (hdb : (x == ("__debug__" : Str)) = false := by decide)
    (he : starEach (e :: es) X.env = (false, eval e X.env) :: starEach es X.env := by rfl) (hpl : (backTo pos (starEach es X.env)).any (·.1) = false := by rfl) : EM X F (.Call (.Name x p) (e :: es) [] pos) (mCall n mf ma) := by
  obtain ⟨f, fd, ps, hn, fo, hm, hk, hb⟩ := c.ex
  refine PE.imp (pe_call fo hr hg hm hk hb .nil pass0 ha hdb he hpl) ?_
  rw [← hK]
  exact i_call (xe := fun _ _ _ => False) (E := E0) hE
theorem o_call (c : Kn X.prog X.w X.K X.mg X.base x n k mf) (hr : Room k X.A) (ha : AM X F (e :: es) ma) (hE : F.EX = fun _ _ => False := by rfl) (hK : F.K = X.K := by rfl) (hg : Gl X x := by rfl) (hdb : (x == ("__debug__" : Str)) = false := by decide)
    (he : starEach (e :: es) X.env = (false, eval e X.env) :: starEach es X.env := by rfl) (hpl : (backTo pos (starEach es X.env)).any (·.1) = false := by rfl) : EO X F (.Call (.Name x p) (e :: es) [] pos) (mCallO n mf ma) := by
  obtain ⟨f, fd, ps, hn, fo, hm, hk, hb⟩ := c.ex
  refine PE.imp (pe_call fo hr hg hm hk hb .nil pass0 ha hdb he hpl) ?_
  rw [← hK]
  exact i_callO (xe := fun _ _ _ => False) (E := E0) hE
end
structure Fd (K : PySem.W.Frag) (mg : Str → Option Value) (x : Str) (st : Stmt) (ps : List Str) : Prop where
  ex : ∃ (f : Addr) (fd : FuncData), Fun K x x st f fd ∧ mg x = some (.ref f) ∧ Binds K fd ps []
theorem d_ok {P : Program} {w : World} {K : PySem.W.Frag} {mg : Str → Option Value} {base : Heap} {x : Str} {st : Stmt} {N ps : List Str} {k : Nat} {m : MS} (d : Fd K mg x st ps) (S : FnScope N ps (defScope st))
    (h : ∀ (f : Addr) (cdv : Value) (A : Around) (outer : List Env) (s : Shared) (H : Hp) (E : XK), Room k (A.deeper (PyProof.Rows.envOfC x (defScope st) s.heap.objs.size f cdv)) → ∀ G0 H0, BM (cxOf CX0 P w K mg base N x (defScope st) f cdv A outer s H E).nox (fxB K G0 H0) (defBody st) m) :
    Kn P w K mg base x ps.length (k + 1) (mDef N.length m) := by
  obtain ⟨f, fd, fn, hm, hb⟩ := d.ex
  refine ⟨f, fd, ps, rfl, fn.ok S spM_len fun cdv A outer s H vs Q E hr hs => ?_, hm, fn.kp, hb⟩
  obtain ⟨G, ht⟩ := body_of hs
  exact ⟨_, h f cdv A outer s H E hr G H, ht⟩
theorem fd_mk {K : PySem.W.Frag} {h : Heap} {mg : Str → Option Value} {x : Str} {st : Stmt} {ps : List Str} {f : Addr} {oc : Value} {od an : Option Addr} {osl : Array (Option Value)} {kV doc pm cdv ct : Value} (X : K.In h) (G : h.Ns mainGlobals mg)
    (a : PySem.W.nsIn K mainGlobals x = some (some (.ref f))) (l : K.lookup f = some ⟨oc, od, .func (PySem.W.fnOf x x (defArgs st) (defBody st) (defScope st) .none kV doc pm an cdv ct), osl⟩)
    (c : PySem.W.codeIn K cdv x = true) (k : PySem.W.keepIn K (.ref f) = true)
    (b : ∀ (kV doc pm : Value) (an : Option Addr) (cdv ct : Value) (us : List Value), us.length = ps.length → bindArgs (PySem.W.fnOf x x (defArgs st) (defBody st) (defScope st) .none kV doc pm an cdv ct) ⟨us, []⟩ = pure (ps.zip us)) : Fd K mg x st ps :=
  ⟨f, _, fun_mk (st := st) l c k, PySem.W.mg_of X G a, (fun_mk (st := st) l c k).binds b⟩
theorem law_sp {K : PySem.W.Frag} {mf : List D → R Rt} {H : Hp} {a : Addr} {ns : List Int} (hS : SqL K H a (ns.map V.int)) (h : mf [.scr (ns.map .int)] = .ok (.v (.bl true))) (E : XK) : sp0 K 1 mf [.ref a] H (fun v _ => v = .bl true) E := by
  refine ⟨H, [.scr (ns.map .int)], Sub.refl _, .cons ?_ .nil, rfl, ?_⟩
  · simp only [At]
    refine ⟨a, _, rfl, hS, ?_⟩
    induction ns with
    | nil => exact .nil
    | cons n r ih => exact .cons (by simp only [At]) (ih' r)
  · rw [h]
    intro v G' H' _ av
    simp only [At] at av
    exact av
where
  ih' {K : PySem.W.Frag} {H : Hp} : ∀ r : List Int, AtL K H (r.map .int) (r.map V.int)
    | [] => .nil
    | n :: r => .cons (by simp only [At]) (ih' r)
end L3
set_option Elab.async false
set_option linter.all false
set_option maxRecDepth 100000
set_option autoImplicit false
namespace L3
open PySem PySem.Spec L2
section
variable {X : Cx} {F : Fx} {e a b c tg iter elt : Expr} {es : List Expr} {pos p : Pos} {m n : ME} {ma : MA} {scope : Scope} {N : List Str}
structure BG (X : Cx) (scope : Scope) (N : List Str) (tg : Expr) (set : D → Rho → R Rho) : Prop where
  g : BlkG X scope N tg set
  nx : ∀ d ρ c, set d ρ ≠ .exc c
  kp : Keeps set
theorem b_name (i : Nat) {x : Str} (hN : N.Nodup := by decide +kernel) (hi : N[i]? = some x := by rfl) (hl : (relabel scope X.env).names.lookup x = some .local := by rfl) : BG X scope N (.Name x pos) (setV i) :=
  ⟨blk_g (g := gName i) (fun cl C s H fp => pg_name (X := cxB X scope N cl C s H fp) hN hi (.inl hl) (.inr hl)) fun F _ => g_name i, setV_noexc i, setV_keeps i⟩
theorem b_pair (i j : Nat) {x y : Str} {px py : Pos} {k : Nat} (hc : X.calm = true := by rfl) (hN : N.Nodup := by decide +kernel) (hi : N[i]? = some x := by rfl) (hj : N[j]? = some y := by rfl) (hl : (relabel scope X.env).names.lookup x = some .local := by rfl) (hm : (relabel scope X.env).names.lookup y = some .local := by rfl) :
    BG X scope N (.Tuple [.Name x px, .Name y py] k pos) (setT [setV i, setV j]) := by
  refine ⟨blk_g (g := gTup X.K 2 (gCons (gName i) (gCons (gName j) gNil))) (fun cl C s H fp => ?_) (fun F hF => ?_), setT_noexc ?_, setT_keeps ?_⟩
  · exact pg_tup (X := cxB X scope N cl C s H fp) hc (pgs_cons (pg_name (X := cxB X scope N cl C s H fp) hN hi (.inl hl) (.inr hl)) (pgs_cons (pg_name (X := cxB X scope N cl C s H fp) hN hj (.inl hm) (.inr hm)) pgs_nil rfl) rfl) rfl rfl
  · rw [← hF]
    exact g_tup rfl (g_cons (g_name i) (g_cons (g_name j) g_nil))
  · intro f hf
    rcases List.mem_cons.mp hf with rfl | hf
    · exact setV_noexc i
    · rw [List.mem_singleton.mp hf]; exact setV_noexc j
  · intro f hf
    rcases List.mem_cons.mp hf with rfl | hf
    · exact setV_keeps i
    · rw [List.mem_singleton.mp hf]; exact setV_keeps j
theorem o_comp' (nl : Nat) (caps : List Nat) {ifs : List Expr} {mi : MA} {set : D → Rho → R Rho} {mt : MT} {me : ME} (S : compScB X.env.scope X.N scope N nl caps = true) (hi : IM X F tg iter mi) (hg : BG X scope N tg set) (ht : BlkT X scope N ifs mt) (he : BlkE X scope N elt me)
    (hc : X.calm = true := by rfl) (hK : F.K = X.K := by rfl) (hs : ∀ x, foldedSetIterable iter X.env x = pure x := by intro _; rfl) : EO X F (.ListComp elt [⟨tg, iter, ifs, 0⟩] scope pos) (mComp nl caps mi set mt me) :=
  o_comp (.of S) hi hg.g hg.nx hg.kp ht he hc hK hs
theorem s_comp' (i : Nat) (nl : Nat) (caps : List Nat) {y : Str} {py : Pos} {ifs : List Expr} {mi : MA} {set : D → Rho → R Rho} {mt : MT} {me : ME} {cpos : Pos} (hN : X.N.Nodup) (S : compScB X.env.scope X.N scope N nl caps = true) (hi : IM X F tg iter mi) (hg : BG X scope N tg set) (ht : BlkT X scope N ifs mt) (he : BlkE X scope N elt me)
    (hy : X.N[i]? = some y := by rfl) (hl : X.env.kindOf y = some .local := by rfl) (hsw : swapsWith (.ListComp elt [⟨tg, iter, ifs, 0⟩] scope cpos) (some (.Name y py)) pos.line X.env = pure true := by rfl) (hc : X.calm = true := by rfl) (hK : F.K = X.K := by rfl) (hs : ∀ x, foldedSetIterable iter X.env x = pure x := by intro _; rfl) :
    SM X F (.Assign [.Name y py] (.ListComp elt [⟨tg, iter, ifs, 0⟩] scope cpos) pos) (mSetO i (mComp nl caps mi set mt me)) :=
  s_comp i hN (.of S) hi hg.g hg.nx hg.kp ht he hy hl hsw hc hK hs
noncomputable def mSetF (i : Nat) (a : MA) : MS := fun ρ => ((mSetO i a) ρ).bind fun f => match f with
  | .nx ρ' => .ok (.nx (frz1 i ρ'))
  | f => .ok f
theorem s_setF {st : Stmt} {i : Nat} {a : MA} (h : SM X F st (mSetO i a)) : SM X F st (mSetF i a) := PS.imp h fun De σ H ⟨G, ρ, r, k⟩ => by
  refine ⟨G, ρ, r, ?_⟩
  unfold mSetF at k
  cases e : mSetO i a ρ with
  | bad => rw [e] at k; exact k.elim
  | exc c => rw [e] at k; exact k
  | ok f =>
    rw [e, R.bind_ok] at k
    cases f with
    | nx ρ' =>
      intro σ' G' H' r' s'
      obtain ⟨G2, r2, s2⟩ := r'.frz1 i
      exact k σ' G2 H' r2 (s'.trans s2)
    | rt d => exact k
    | ro d => exact k
    | rn d => exact k
    | bk d => exact k
    | ct d => exact k
noncomputable def mDict0 : ME := fun _ => .ok (.dK [] [])
theorem e_dict0 {p : Pos} : EM X F (.Dict [] [] p) mDict0 := PE.imp pe_dnewK fun σ H Q ⟨G, ρ, r, h⟩ d hd => by
  refine h (.ref d) _ _ (r.lay hd) (Up.lay r.kp.sub hd) ?_
  simp only [At]
  exact ⟨d, [], rfl, upd_same, rfl, .nil⟩
end
theorem tup_at {K : PySem.W.Frag} {c : Addr} {dd : Option Addr} {its : Array Value} {n : Nat} {sl : Array (Option Value)} {xs : List V} {ds : List D} (l : K.lookup c = some ⟨.type "tuple", dd, .seq its n, sl⟩) (hz : its.size ≤ sizeLine) (v : Vals xs its.toList) (a : ∀ G, AtL K G ds xs) :
    ∀ G, At K G (.ktp ds) (.ref c) := fun G => by
  simp only [At]
  exact ⟨c, xs, rfl, .inr ⟨_, its, n, l, rfl, rfl, hz, v⟩, a G⟩
theorem rv_int (i : Int) (t : Tok) : RelV (.int i) (.int i t) := ⟨t, rfl⟩
theorem rv_str (x : Str) (t : Tok) : RelV (.str x) (.str x t) := ⟨t, rfl⟩
theorem a_int {K : PySem.W.Frag} {G : Hp} (i : Int) : At K G (.int i) (.int i) := by simp only [At]
theorem a_str {K : PySem.W.Frag} {G : Hp} (i : Str) : At K G (.str i) (.str i) := by simp only [At]
end L3
set_option Elab.async false
set_option linter.all false
set_option maxRecDepth 100000
set_option autoImplicit false
namespace L3
open PySem PySem.Spec L2
structure XEM (X : Cx) (F : Fx) (e : Expr) (m : ME) : Prop where
  o : PE X e (tE F m)
structure XEO (X : Cx) (F : Fx) (e : Expr) (m : MA) : Prop where
  o : PE X e (tO F m)
structure XTM (X : Cx) (F : Fx) (e : Expr) (m : MT) : Prop where
  o : PT X e (tT F m)
structure XWM (X : Cx) (F : Fx) (e : Expr) (m : MT) : Prop where
  o : PW X e (tT F m)
structure XAM (X : Cx) (F : Fx) (es : List Expr) (m : MA) : Prop where
  o : PA X es (tA F m)
structure XSM (X : Cx) (F : Fx) (st : Stmt) (m : MS) : Prop where
  o : PS X st (tS F m)
structure XBM (X : Cx) (F : Fx) (st : List Stmt) (m : MS) : Prop where
  o : PSs X st (tS F m)
structure XIM (X : Cx) (F : Fx) (tg e : Expr) (m : MA) : Prop where
  o : PI X tg e (tI F m)
structure XPM (X : Cx) (F : Fx) (e : Option Expr) (m : MP) : Prop where
  o : PO X e (tP F m)
section
variable {X : Cx} {F : Fx} {e a b c tg iter elt : Expr} {es : List Expr} {pos p : Pos} {m n : ME} {ma : MA} {st : Stmt} {sts : List Stmt}
theorem xe_var (i : Nat) {x : Str} (hN : X.N[i]? = some x := by rfl) (hv : Vis X.env.scope x := by first | exact Or.inl rfl | exact Or.inr (Or.inl rfl) | exact Or.inr (Or.inr rfl)) (hd : (x == ("__debug__" : Str)) = false := by decide) (hcd : (x == ("__classdict__" : Str)) = false := by decide) : XEM X F (.Name x pos) (mVar i) := ⟨L3.e_var (i := i) (hN := hN) (hv := hv) (hd := hd) (hcd := hcd)⟩
theorem xe_int {i : Int} {j} : XEM X F (.Constant (.int i) j pos) (mC (.int i)) := ⟨L3.e_int ⟩
theorem xe_bl {i : Bool} {j} : XEM X F (.Constant (.bool i) j pos) (mC (.bl i)) := ⟨L3.e_bl ⟩
theorem xe_str {i : Str} {j} : XEM X F (.Constant (.str i) j pos) (mC (.str i)) := ⟨L3.e_str ⟩
theorem xe_non {j} : XEM X F (.Constant .none j pos) (mC .non) := ⟨L3.e_non ⟩
theorem xa_nil  : XAM X F [] mNil := ⟨L3.a_nil ⟩
theorem xa_cons {m : ME} {r : MA} (h : XEM X F e m) (t : XAM X F es r) (hs : notStar e = true := by rfl) : XAM X F (e :: es) (mCons m r) := ⟨L3.a_cons (h := h.1) (t := t.1) (hs := hs)⟩
theorem xe_tup {k} {m : MA} (h : XAM X F es m) : XEM X F (.Tuple es k pos) (mTup m) := ⟨L3.e_tup (h := h.1)⟩
theorem xo_lst {m : MA} (h : XAM X F es m) : XEO X F (.List es pos) (mLim m) := ⟨L3.o_lst (h := h.1)⟩
theorem xe_fz {m : MA} (h : XEO X F e m) : XEM X F e (mFz m) := ⟨L3.e_fz (h := h.1)⟩
theorem xt_bor {m : MT} (h : XTM X F e m) : XTM X F e (mBorT m) := ⟨L3.t_bor (h := h.1)⟩
theorem xt_val {m : ME} (h : XEM X F e m) (he : ∀ whole, isTrue e X.env whole = (do let v ← whole; standAt e.pos; holding [v] (truthy v)) := by intro _; rfl) : XTM X F e (mB m) := ⟨L3.t_val (h := h.1) (he := he)⟩
theorem xw_or1 {m : MT} (h : XTM X F a m) : XWM X F (.BoolOp .Or [a] pos) m := ⟨L3.w_or1 (h := h.1)⟩
theorem xw_or {m n : MT} (h : XTM X F a m) (k : XWM X F (.BoolOp .Or (b :: es) pos) n) : XWM X F (.BoolOp .Or (a :: b :: es) pos) (mOr m n) := ⟨L3.w_or (h := h.1) (k := k.1)⟩
theorem xt_w {m : MT} (h : XWM X F e m) : XTM X F e m := ⟨L3.t_w (h := h.1)⟩
theorem xt_not {m : MT} (h : XTM X F a m) : XTM X F (.UnaryOp .Not a pos) (mNot m) := ⟨L3.t_not (h := h.1)⟩
theorem xe_one {op} {m : ME} (h : XEM X F a m) : XEM X F (.BoolOp op [a] pos) m := ⟨L3.e_one (h := h.1)⟩
theorem xe_and {m n : ME} (h : XEM X F a m) (k : XEM X F (.BoolOp .And (b :: es) pos) n) : XEM X F (.BoolOp .And (a :: b :: es) pos) (mAndV m n) := ⟨L3.e_and (h := h.1) (k := k.1)⟩
theorem xe_or {m n : ME} (h : XEM X F a m) (k : XEM X F (.BoolOp .Or (b :: es) pos) n) : XEM X F (.BoolOp .Or (a :: b :: es) pos) (mOrV m n) := ⟨L3.e_or (h := h.1) (k := k.1)⟩
theorem xe_not {m : ME} (h : XEM X F a m) : XEM X F (.UnaryOp .Not a pos) (mNotV m) := ⟨L3.e_not (h := h.1)⟩
theorem xe_if {k : MT} {m n : ME} (h : XTM X F c k) (ha : XEM X F a m) (hb : XEM X F b n) : XEM X F (.IfExp c a b pos) (mIf k m n) := ⟨L3.e_if (h := h.1) (ha := ha.1) (hb := hb.1)⟩
theorem xs_nil  : XBM X F [] mNext := ⟨L3.s_nil ⟩
theorem xs_cons {m n : MS} (h : XSM X F st m) (k : XBM X F sts n) : XBM X F (st :: sts) (mSeq m n) := ⟨L3.s_cons (h := h.1) (k := k.1)⟩
theorem xs_one {m : MS} (h : XSM X F st m) : XBM X F [st] m := ⟨L3.s_one (h := h.1)⟩
theorem xs_ret {m : ME} (h : XEM X F e m) : XSM X F (.Return (some e) pos) (mRet m) := ⟨L3.s_ret (h := h.1)⟩
theorem xs_retO {m : MA} (h : XEO X F e m) : XSM X F (.Return (some e) pos) (mRetO m) := ⟨L3.s_retO (h := h.1)⟩
theorem xs_retV (i : Nat) {x : Str} {p : Pos} (hN : X.N[i]? = some x := by rfl) (hv : Vis X.env.scope x := by first | exact Or.inl rfl | exact Or.inr (Or.inl rfl) | exact Or.inr (Or.inr rfl)) (hd : (x == ("__debug__" : Str)) = false := by decide) (hcd : (x == ("__classdict__" : Str)) = false := by decide) : XSM X F (.Return (some (.Name x p)) pos) (mRetO (mVarO i)) := ⟨L3.s_retV (i := i) (hN := hN) (hv := hv) (hd := hd) (hcd := hcd)⟩
theorem xs_if {k : MT} {m n : MS} {xs ys : List Stmt} (h : XTM X F c k) (ha : XBM X F xs m) (hb : XBM X F ys n) : XSM X F (.If c xs ys pos) (mIfS k m n) := ⟨L3.s_if (h := h.1) (ha := ha.1) (hb := hb.1)⟩
theorem xs_frz {m : MS} (i : Nat) (h : XSM X F st m) : XSM X F st (mFrz i m) := ⟨L3.s_frz (i := i) (h := h.1)⟩
theorem xs_set (i : Nat) {x : Str} {p : Pos} {m : ME} (hN : X.N.Nodup) (he : XEM X F e m) (hi : X.N[i]? = some x := by rfl) (hx : Loc X.env.scope x := by first | exact Or.inl rfl | exact Or.inr rfl) (hs : notComp e = true := by rfl) (hf : X.fn x = true ∨ X.env.scope.names.lookup x = some .local := by first | exact .inl rfl | exact .inr rfl) : XSM X F (.Assign [.Name x p] e pos) (mSet i m) := ⟨L3.s_set (i := i) (hN := hN) (he := he.1) (hi := hi) (hx := hx) (hs := hs) (hf := hf)⟩
theorem xs_setO (i : Nat) {x : Str} {p : Pos} {m : MA} (hN : X.N.Nodup) (he : XEO X F e m) (hi : X.N[i]? = some x := by rfl) (hx : Loc X.env.scope x := by first | exact Or.inl rfl | exact Or.inr rfl) (hs : notComp e = true := by rfl) (hf : X.fn x = true ∨ X.env.scope.names.lookup x = some .local := by first | exact .inl rfl | exact .inr rfl) : XSM X F (.Assign [.Name x p] e pos) (mSetO i m) := ⟨L3.s_setO (i := i) (hN := hN) (he := he.1) (hi := hi) (hx := hx) (hs := hs) (hf := hf)⟩
theorem xe_sub (ha : XEM X F a m) (hb : XEM X F b n) : XEM X F (.BinOp a .Sub b pos) (mBin subD m n) := ⟨L3.e_sub (ha := ha.1) (hb := hb.1)⟩
theorem xe_mul (ha : XEM X F a m) (hb : XEM X F b n) : XEM X F (.BinOp a .Mult b pos) (mBin mulD m n) := ⟨L3.e_mul (ha := ha.1) (hb := hb.1)⟩
theorem xe_fdiv (ha : XEM X F a m) (hb : XEM X F b n) : XEM X F (.BinOp a .FloorDiv b pos) (mBin fdivD m n) := ⟨L3.e_fdiv (ha := ha.1) (hb := hb.1)⟩
theorem xe_mod (ha : XEM X F a m) (hb : XEM X F b n) : XEM X F (.BinOp a .Mod b pos) (mBin modD m n) := ⟨L3.e_mod (ha := ha.1) (hb := hb.1)⟩
theorem xe_pow (ha : XEM X F a m) (hb : XEM X F b n) : XEM X F (.BinOp a .Pow b pos) (mBin powD m n) := ⟨L3.e_pow (ha := ha.1) (hb := hb.1)⟩
theorem xt_lt (ha : XEM X F a m) (hb : XEM X F b n) : XTM X F (.Compare a [.Lt] [b] pos) (mB (mBin ltD m n)) := ⟨L3.t_lt (ha := ha.1) (hb := hb.1)⟩
theorem xt_gt (ha : XEM X F a m) (hb : XEM X F b n) : XTM X F (.Compare a [.Gt] [b] pos) (mB (mBin gtD m n)) := ⟨L3.t_gt (ha := ha.1) (hb := hb.1)⟩
theorem xe_neg (ha : XEM X F a m) : XEM X F (.UnaryOp .USub a pos) (mUn negD m) := ⟨L3.e_neg (ha := ha.1)⟩
theorem xe_add (ha : XEM X F a m) (hb : XEM X F b n) : XEM X F (.BinOp a .Add b pos) (mBin addD m n) := ⟨L3.e_add (ha := ha.1) (hb := hb.1)⟩
theorem xt_eq (hu : X.A.units + 64 < cLine) (ha : XEM X F a m) (hb : XEM X F b n) (hK : F.K = X.K := by rfl) : XTM X F (.Compare a [.Eq] [b] pos) (mB (mBin (eqR true) m n)) := ⟨L3.t_eq (hu := hu) (ha := ha.1) (hb := hb.1) (hK := hK)⟩
theorem xt_ne (hu : X.A.units + 64 < cLine) (ha : XEM X F a m) (hb : XEM X F b n) (hK : F.K = X.K := by rfl) : XTM X F (.Compare a [.NotEq] [b] pos) (mB (mBin (eqR false) m n)) := ⟨L3.t_ne (hu := hu) (ha := ha.1) (hb := hb.1) (hK := hK)⟩
theorem xe_eq (hu : X.A.units + 64 < cLine) (ha : XEM X F a m) (hb : XEM X F b n) (hK : F.K = X.K := by rfl) : XEM X F (.Compare a [.Eq] [b] pos) (mBin (eqR true) m n) := ⟨L3.e_eq (hu := hu) (ha := ha.1) (hb := hb.1) (hK := hK)⟩
theorem xe_ne (hu : X.A.units + 64 < cLine) (ha : XEM X F a m) (hb : XEM X F b n) (hK : F.K = X.K := by rfl) : XEM X F (.Compare a [.NotEq] [b] pos) (mBin (eqR false) m n) := ⟨L3.e_ne (hu := hu) (ha := ha.1) (hb := hb.1) (hK := hK)⟩
theorem xe_in (hu : X.A.units + 64 < cLine) (ha : XEM X F a m) (hb : XEM X F b n) (hK : F.K = X.K := by rfl) (hm : behindInMarks .In b = false := by with_unfolding_all rfl) : XEM X F (.Compare a [.In] [b] pos) (mBin (inD true) m n) := ⟨L3.e_in (hu := hu) (ha := ha.1) (hb := hb.1) (hK := hK) (hm := hm)⟩
theorem xe_isN (ha : XEM X F a m) (hb : XEM X F b n) : XEM X F (.Compare a [.Is] [b] pos) (mBin (isND true) m n) := ⟨L3.e_isN (ha := ha.1) (hb := hb.1)⟩
theorem xe_chain {op op' : CmpOp} {r r' : R2} {f g : D → D → R D} {l : ME} (ho : OpR X (compareOp op) r) (ho' : OpR X (compareOp op') r') (hf : OpOk F r f) (hg : OpOk F r' g) (ha : XEM X F a m) (hb : XEM X F b n) (hc : XEM X F c l) (hm : lastMarks [op, op'] [b, c] = false := by with_unfolding_all rfl) : XEM X F (.Compare a [op, op'] [b, c] pos) (mChain f g m n l) := ⟨L3.e_chain (ho := ho) (ho' := ho') (hf := hf) (hg := hg) (ha := ha.1) (hb := hb.1) (hc := hc.1) (hm := hm)⟩
theorem xt_chain {op op' : CmpOp} {r r' : R2} {f g : D → D → R D} {l : ME} (ho : OpR X (compareOp op) r) (ho' : OpR X (compareOp op') r') (hf : OpOk F r f) (hg : OpOk F r' g) (ha : XEM X F a m) (hb : XEM X F b n) (hc : XEM X F c l) (hm : lastMarks [op, op'] [b, c] = false := by with_unfolding_all rfl) : XTM X F (.Compare a [op, op'] [b, c] pos) (mB (mChain f g m n l)) := ⟨L3.t_chain (ho := ho) (ho' := ho') (hf := hf) (hg := hg) (ha := ha.1) (hb := hb.1) (hc := hc.1) (hm := hm)⟩
theorem xe_len (hm : X.mg "len" = none) (ha : XAM X F [e] ma) (hK : F.K = X.K := by rfl) (hg : Gl X "len" := by rfl) (he : starEach [e] X.env = (false, eval e X.env) :: starEach [] X.env := by rfl) (hpl : (backTo pos (starEach [] X.env)).any (·.1) = false := by rfl) : XEM X F (.Call (.Name "len" p) [e] [] pos) (mCB lenD ma) := ⟨L3.e_len (hm := hm) (ha := ha.1) (hK := hK) (hg := hg) (he := he) (hpl := hpl)⟩
theorem xe_isi {U : Str} {T : String} {p2 : Pos} (tt : TyTab X.K T) (hm : X.mg "isinstance" = none) (hmU : X.mg U = none) (hU : bootBuiltins U = some (.type T)) (ha : XEM X F a m) (hK : F.K = X.K := by rfl) (hg : Gl X "isinstance" := by rfl) (hgU : Gl X U := by rfl) (hnU : U ≠ "__name__" := by decide) (hdU : (U == ("__debug__" : Str)) = false := by decide) (hs2 : starEach [.Name U p2] X.env = (false, eval (.Name U p2) X.env) :: starEach [] X.env := by rfl) (he : starEach [a, .Name U p2] X.env = (false, eval a X.env) :: starEach [.Name U p2] X.env := by rfl) (hpl : (backTo pos (starEach [.Name U p2] X.env)).any (·.1) = false := by rfl) : XEM X F (.Call (.Name "isinstance" p) [a, .Name U p2] [] pos) (mUn (isiD T) m) := ⟨L3.e_isi (tt := tt) (hm := hm) (hmU := hmU) (hU := hU) (ha := ha.1) (hK := hK) (hg := hg) (hgU := hgU) (hnU := hnU) (hdU := hdU) (hs2 := hs2) (he := he) (hpl := hpl)⟩
theorem xe_ix (ha : XEM X F a m) (hb : XEM X F b n) (hs : PlainIx b) (hK : F.K = X.K := by rfl) : XEM X F (.Subscript a b pos) (mBin ixD m n) := ⟨L3.e_ix (ha := ha.1) (hb := hb.1) (hs := hs) (hK := hK)⟩
theorem xp_no  : XPM X F none mNoP := ⟨L3.p_no ⟩
theorem xp_some (h : XEM X F e m) : XPM X F (some e) (mPart m) := ⟨L3.p_some (h := h.1)⟩
theorem xe_sl {lo hi : Option Expr} {p2 : Pos} {ml mh : MP} (ha : XEM X F a m) (hl : XPM X F lo ml) (hh : XPM X F hi mh) (hK : F.K = X.K := by rfl) : XEM X F (.Subscript a (.Slice lo hi none p2) pos) (mSl slD m ml mh) := ⟨L3.e_sl (ha := ha.1) (hl := hl.1) (hh := hh.1) (hK := hK)⟩
theorem xw_list (h : XEM X F e m) (hK : F.K = X.K := by rfl) : XIM X F tg e (mIL m) := ⟨L3.w_list (h := h.1) (hK := hK)⟩
theorem xw_tup (h : XEM X F e m) (hK : F.K = X.K := by rfl) : XIM X F tg e (mIT m) := ⟨L3.w_tup (h := h.1) (hK := hK)⟩
theorem xw_str (h : XEM X F e m) : XIM X F tg e (mIS m) := ⟨L3.w_str (h := h.1)⟩
theorem xw_range1 (hm : X.mg "range" = none) (ha : XAM X F [a] ma) (hg : Gl X "range" := by rfl) (hs : starEach [a] X.env = [(false, eval a X.env)] := by rfl) : XIM X F tg (.Call (.Name "range" p) [a] [] pos) (mR1 ma) := ⟨L3.w_range1 (hm := hm) (ha := ha.1) (hg := hg) (hs := hs)⟩
theorem xw_enum {elts : List Expr} {k : Nat} {tp : Pos} (hm : X.mg "enumerate" = none) (ha : XAM X F [a] ma) (hK : F.K = X.K := by rfl) (hg : Gl X "enumerate" := by rfl) (hs : starEach [a] X.env = [(false, eval a X.env)] := by rfl) : XIM X F (.Tuple elts k tp) (.Call (.Name "enumerate" p) [a] [] pos) (mIE ma) := ⟨L3.w_enum (hm := hm) (ha := ha.1) (hK := hK) (hg := hg) (hs := hs)⟩
theorem xs_for {body : List Stmt} {mi : MA} {set : D → Rho → R Rho} {mb : MS} (hp : PassesOwn (model X.prog X.w) X.A X.env X.xe) (hi : XIM X F tg iter mi) (hg : GM X tg set) (hb : XBM X F body mb) (hc : X.calm = true := by rfl) (hK : F.K = X.K := by rfl) (hs : ∀ x, foldedSetIterable iter X.env x = pure x := by intro _; rfl) : XSM X F (.For tg iter body [] pos) (mFor mi set mb) := ⟨L3.s_for (hp := hp) (hi := hi.1) (hg := hg) (hb := hb.1) (hc := hc) (hK := hK) (hs := hs)⟩
theorem xs_setF {st : Stmt} {i : Nat} {a : MA} (h : XSM X F st (mSetO i a)) : XSM X F st (mSetF i a) := ⟨L3.s_setF (h := h.1)⟩
theorem xe_dict0 {p : Pos} : XEM X F (.Dict [] [] p) mDict0 := ⟨L3.e_dict0 ⟩
theorem xe_all {k : Nat} (hr : Room k X.A) (hm : X.mg "all" = none) (ha : XAM X F [e] ma) (hc : X.calm = true := by rfl) (hg : Gl X "all" := by rfl) (he : starEach [e] X.env = (false, eval e X.env) :: starEach [] X.env := by rfl) (hpl : (backTo pos (starEach [] X.env)).any (·.1) = false := by rfl) : XEM X F (.Call (.Name "all" p) [e] [] pos) (mCB allD ma) := ⟨L3.e_all (hr := hr) (hm := hm) (ha := ha.1) (hc := hc) (hg := hg) (he := he) (hpl := hpl)⟩
theorem xs_append (i : Nat) {x : Str} {px : Pos} {apos : Pos} {cpos : Pos} (he : XEM X F e m) (hN : X.N[i]? = some x := by rfl) (hv : Vis X.env.scope x := by first | exact Or.inl rfl | exact Or.inr (Or.inl rfl) | exact Or.inr (Or.inr rfl)) (hd : (x == ("__debug__" : Str)) = false := by decide) (hcd : (x == ("__classdict__" : Str)) = false := by decide) (hbase : attributeBase (.Name x px) "append" X.env (eval (.Name x px) X.env) = eval (.Name x px) X.env := by rfl) (hline : (apos.endLine == cpos.line) = true := by rfl) (hfew : ((backTo cpos (starEach [e] X.env)).all (fun x => !x.1) && (backToKw cpos (keywordEach [] X.env)).all (fun x => x.1.isSome)
      && decide (([e] : List Expr).length + ([] : List Keyword).length + (if ([] : List Keyword).isEmpty then 0 else 1) < 30)) = true := by rfl) (hs : starEach [e] X.env = (false, eval e X.env) :: starEach [] X.env := by rfl) (hplain : (backTo cpos (starEach [] X.env)).any (·.1) = false := by rfl) (hK : F.K = X.K := by rfl) : XSM X F (.Expr (.Call (.Attribute (.Name x px) "append" apos) [e] [] cpos) pos) (mApp i m) := ⟨L3.s_append (i := i) (he := he.1) (hN := hN) (hv := hv) (hd := hd) (hcd := hcd) (hbase := hbase) (hline := hline) (hfew := hfew) (hs := hs) (hplain := hplain) (hK := hK)⟩
theorem xe_call {x : Str} {n k : Nat} {mf : List D → R Rt} (c : Kn X.prog X.w X.K X.mg X.base x n k mf) (hr : Room k X.A) (ha : XAM X F (e :: es) ma) (hE : F.EX = fun _ _ => False := by rfl) (hK : F.K = X.K := by rfl) (hg : Gl X x := by rfl) (hdb : (x == ("__debug__" : Str)) = false := by decide) (he : starEach (e :: es) X.env = (false, eval e X.env) :: starEach es X.env := by rfl) (hpl : (backTo pos (starEach es X.env)).any (·.1) = false := by rfl) : XEM X F (.Call (.Name x p) (e :: es) [] pos) (mCall n mf ma) := ⟨L3.e_call (c := c) (hr := hr) (ha := ha.1) (hE := hE) (hK := hK) (hg := hg) (hdb := hdb) (he := he) (hpl := hpl)⟩
theorem xo_call {x : Str} {n k : Nat} {mf : List D → R Rt} (c : Kn X.prog X.w X.K X.mg X.base x n k mf) (hr : Room k X.A) (ha : XAM X F (e :: es) ma) (hE : F.EX = fun _ _ => False := by rfl) (hK : F.K = X.K := by rfl) (hg : Gl X x := by rfl) (hdb : (x == ("__debug__" : Str)) = false := by decide) (he : starEach (e :: es) X.env = (false, eval e X.env) :: starEach es X.env := by rfl) (hpl : (backTo pos (starEach es X.env)).any (·.1) = false := by rfl) : XEO X F (.Call (.Name x p) (e :: es) [] pos) (mCallO n mf ma) := ⟨L3.o_call (c := c) (hr := hr) (ha := ha.1) (hE := hE) (hK := hK) (hg := hg) (hdb := hdb) (he := he) (hpl := hpl)⟩
variable {scope : Scope} {N : List Str}
noncomputable abbrev BE (X : Cx) (scope : Scope) (N : List Str) (e : Expr) (m : ME) : Prop := ∀ cl C s H fp G0 H0, XEM (cxB X scope N cl C s H fp) (fxB X.K G0 H0) e m
theorem xo_comp (nl : Nat) (caps : List Nat) {ifs : List Expr} {mi : MA} {set : D → Rho → R Rho} {mt : MT} {me : ME} (S : compScB X.env.scope X.N scope N nl caps = true) (hi : XIM X F tg iter mi) (hg : BG X scope N tg set) (ht : BlkT X scope N ifs mt) (he : BE X scope N elt me)
    (hc : X.calm = true := by rfl) (hK : F.K = X.K := by rfl) (hs : ∀ x, foldedSetIterable iter X.env x = pure x := by intro _; rfl) : XEO X F (.ListComp elt [⟨tg, iter, ifs, 0⟩] scope pos) (mComp nl caps mi set mt me) :=
  ⟨L3.o_comp' nl caps S hi.1 hg ht (fun cl C s H fp G0 H0 => (he cl C s H fp G0 H0).1) hc hK hs⟩
theorem xs_comp (i : Nat) (nl : Nat) (caps : List Nat) {y : Str} {py : Pos} {ifs : List Expr} {mi : MA} {set : D → Rho → R Rho} {mt : MT} {me : ME} {cpos : Pos} (hN : X.N.Nodup) (S : compScB X.env.scope X.N scope N nl caps = true) (hi : XIM X F tg iter mi) (hg : BG X scope N tg set) (ht : BlkT X scope N ifs mt) (he : BE X scope N elt me)
    (hy : X.N[i]? = some y := by rfl) (hl : X.env.kindOf y = some .local := by rfl) (hsw : swapsWith (.ListComp elt [⟨tg, iter, ifs, 0⟩] scope cpos) (some (.Name y py)) pos.line X.env = pure true := by rfl) (hc : X.calm = true := by rfl) (hK : F.K = X.K := by rfl) (hs : ∀ x, foldedSetIterable iter X.env x = pure x := by intro _; rfl) :
    XSM X F (.Assign [.Name y py] (.ListComp elt [⟨tg, iter, ifs, 0⟩] scope cpos) pos) (mSetO i (mComp nl caps mi set mt me)) :=
  ⟨L3.s_comp' i nl caps hN S hi.1 hg ht (fun cl C s H fp G0 H0 => (he cl C s H fp G0 H0).1) hy hl hsw hc hK hs⟩
end
theorem xd_ok {P : Program} {w : World} {K : PySem.W.Frag} {mg : Str → Option Value} {base : Heap} {x : Str} {st : Stmt} {N ps : List Str} {k : Nat} {m : MS} (d : Fd K mg x st ps) (S : FnScope N ps (defScope st))
    (h : ∀ (f : Addr) (cdv : Value) (A : Around) (outer : List Env) (s : Shared) (H : Hp) (E : XK), Room k (A.deeper (PyProof.Rows.envOfC x (defScope st) s.heap.objs.size f cdv)) → ∀ G0 H0, XBM (cxOf CX0 P w K mg base N x (defScope st) f cdv A outer s H E).nox (fxB K G0 H0) (defBody st) m) :
    Kn P w K mg base x ps.length (k + 1) (mDef N.length m) := L3.d_ok d S fun f cdv A outer s H E hr G0 H0 => (h f cdv A outer s H E hr G0 H0).1
structure Cst (K : PySem.W.Frag) (mg : Str → Option Value) (x : Str) (d : D) : Prop where
  ex : ∃ (v : V) (u : Value), mg x = some u ∧ RelV v u ∧ ∀ G, At K G d v
theorem xe_cst {X : Cx} {F : Fx} {x : Str} {d : D} {pos : Pos} (c : Cst X.K X.mg x d) (hK : F.K = X.K := by rfl) (hg : Gl X x := by rfl) (hd : (x == ("__debug__" : Str)) = false := by decide) : XEM X F (.Name x pos) (mC d) := by
  obtain ⟨v, u, h1, h2, h3⟩ := c.ex
  exact ⟨L3.e_glob h1 h2 (by rw [hK]; exact h3) hg hd⟩
end L3
set_option Elab.async false
set_option linter.all false
set_option maxRecDepth 100000
namespace L2
open PySem PySem.Spec PyProof.Rows
section
variable {X : Cx} {tg : Expr}
noncomputable def C3 (a b c : Int) : Prop := c ≠ 0 ∧ Builtin.Range.small a b c = true ∧ 0 ≤ Builtin.Range.rangeSize a b c ∧ Builtin.divisionGoesByPylong (b - a) c = false
instance (a b c : Int) : Decidable (C3 a b c) := by unfold C3; infer_instance
end
section
variable {X : Cx} {a e : Expr} {ta : TA} {pos p pos' p' : Pos}
end
end L2
set_option Elab.async false
set_option linter.all false
set_option maxRecDepth 100000
namespace L3
open PySem PySem.Spec L2
noncomputable abbrev MEf := Rho → R (D × Rho)
noncomputable abbrev MAf := Rho → R (List D × Rho)
noncomputable def kEf (F : Fx) (G : Hp) (σ : St) (Q : VK) : R (D × Rho) → Prop
  | .ok (d, ρ') => ∀ v H' G', Rel F G' H' σ ρ' → Sub G G' → At F.K G' d v → Q v H'
  | .exc c => kX F c
  | .bad => False
noncomputable def tEf (F : Fx) (m : MEf) : TE := fun σ H Q => ∃ G ρ, Rel F G H σ ρ ∧ kEf F G σ Q (m ρ)
noncomputable def lf (m : ME) : MEf := fun ρ => (m ρ).bind fun d => .ok (d, ρ)
noncomputable def lfA (m : MA) : MAf := fun ρ => (m ρ).bind fun d => .ok (d, ρ)
section
variable {F : Fx}
noncomputable def mConsE (a : MEf) (r : MAf) : MAf := fun ρ => (a ρ).bind fun x => (r x.2).bind fun y => .ok (x.1 :: y.1, y.2)
noncomputable def mTupE (m : MAf) : MEf := fun ρ => (m ρ).bind fun x => if x.1.length ≤ 1000000 then .ok (.tup x.1, x.2) else .bad
noncomputable def mSetE (i : Nat) (a : MEf) : MS := fun ρ => (a ρ).bind fun x => (setV i x.1 x.2).bind fun ρ' => .ok (.nx ρ')
noncomputable def mDropE (a : MEf) : MS := fun ρ => (a ρ).bind fun x => .ok (.nx x.2)
theorem i_dropE {a : MEf} : ImpS (tS F (mDropE a)) (tDrop (tEf F a)) := by
  rintro De σ H ⟨G, ρ, r, h⟩
  unfold mDropE at h
  refine ⟨G, ρ, r, ?_⟩
  cases ea : a ρ with
  | bad => rw [ea] at h; exact h.elim
  | exc c => rw [ea] at h; exact h
  | ok x => obtain ⟨d, ρ1⟩ := x; rw [ea] at h; exact fun v H' G' r' s' _ => h σ G' H' r' s'
end
end L3
set_option Elab.async false
set_option linter.all false
set_option maxRecDepth 100000
namespace L3
open PySem PySem.Spec L2
section
variable {F : Fx}
noncomputable def del (H : Hp) (a : Addr) : Hp := fun b => if b = a then none else H b
theorem del_same {H : Hp} {a : Addr} : del H a a = none := by simp [del]
theorem del_ne {H : Hp} {a b : Addr} (h : b ≠ a) : del H a b = H b := by simp [del, h]
theorem del_sub (H : Hp) (a : Addr) : Sub (del H a) H := fun b o e => by
  unfold del at e
  split at e
  · cases e
  · exact e
theorem Rel.drop {G H : Hp} {σ : St} {ρ : Rho} (r : Rel F G H σ ρ) (i : Nat) : Rel F G H σ (ρ.set i .un) := by
  by_cases hi : i < ρ.length
  · have hs : i < σ.length := by rw [r.len]; exact hi
    have z := r.setS (s := .un) (o := σ[i]) hi trivial fun _ f => f.elim
    rw [L3.set_self (List.getElem?_eq_getElem hs)] at z
    exact z
  · rw [List.set_eq_of_length_le (by omega)]; exact r
end
end L3
set_option Elab.async false
set_option linter.all false
set_option maxRecDepth 100000
namespace L3
open PySem PySem.Spec L2
section
variable {F : Fx}
end
end L3
set_option Elab.async false
set_option linter.all false
set_option maxRecDepth 100000
namespace L3
open PySem PySem.Spec L2 PyProof.Rows
noncomputable abbrev EMf (X : Cx) (F : Fx) (e : Expr) (m : MEf) : Prop := PE X e (tEf F m)
section
variable {X : Cx} {F : Fx} {e a b c : Expr} {es : List Expr} {pos p : Pos} {m n : ME} {ma : MA}
noncomputable def mPopAt (i : Nat) (m : ME) : MEf := fun ρ => (ownAt i ρ).bind fun ds => (m ρ).bind fun d => match d with
  | .int k => if -(2 ^ 63) ≤ k ∧ k < 2 ^ 63 then match seqIndex? k ds.length with
    | some j => match ds[j]? with
      | some y => .ok (y, ρ.set i (.ow (ds.eraseIdx j)))
      | none => .bad
    | none => .bad
    else .bad
  | _ => .bad
noncomputable def mAppE (i : Nat) (m : MEf) : MS := fun ρ => (ownAt i ρ).bind fun _ => (m ρ).bind fun x => (ownAt i x.2).bind fun ds => if ds.length < 1000000 then .ok (.nx (x.2.set i (.ow (ds ++ [x.1])))) else .bad
noncomputable def listD : List D → R (List D)
  | [.lst xs] => .ok xs
  | [.scr xs] => .ok xs
  | [.tup xs] => .ok xs
  | _ => .bad
noncomputable def mListO (m : MA) : MA := fun ρ => (m ρ).bind listD
theorem i_listO (hK : F.K = X.K) : ImpE (tO F (mListO ma)) (tCB (fun xs H Q => ∃ p ys, xs = [.ref p] ∧ (SqL X.K H p ys ∨ SqT X.K H p ys) ∧ ∀ l, H l = none → Q (.ref l) (upd H l (.lst ys))) (tA F ma)) := by
  rintro σ H Q ⟨G, ρ, r, h⟩
  unfold mListO at h
  refine ⟨G, ρ, r, ?_⟩
  cases ea : ma ρ with
  | bad => rw [ea] at h; exact h.elim
  | exc c => rw [ea] at h; exact h
  | ok ds =>
    rw [ea, R.bind_ok] at h
    intro vs H1 G1 r1 s1 a
    unfold listD at h
    split at h
    · obtain ⟨v, rfl, av⟩ := a.one
      simp only [At] at av
      obtain ⟨q, xs, rfl, hq, aq⟩ := av
      refine ⟨q, xs, rfl, .inl (SqL.of (r1.kp.sub _ _ hq)), fun l hl => ?_⟩
      exact h l xs _ G1 (r1.lay0 hl) (s1.trans (Up.lay0 hl)) (s1.h.gone hl) upd_same (r1.kp.sub.gone hl) aq
    · obtain ⟨v, rfl, av⟩ := a.one
      simp only [At] at av
      obtain ⟨q, xs, rfl, hq, aq⟩ := av
      refine ⟨q, xs, rfl, .inl (by rw [← hK]; exact SqL.mono r1.kp.sub hq), fun l hl => ?_⟩
      exact h l xs _ G1 (r1.lay0 hl) (s1.trans (Up.lay0 hl)) (s1.h.gone hl) upd_same (r1.kp.sub.gone hl) aq
    · obtain ⟨v, rfl, av⟩ := a.one
      simp only [At] at av
      obtain ⟨q, xs, rfl, hq, aq⟩ := av
      refine ⟨q, xs, rfl, .inr (SqT.of (r1.kp.sub _ _ hq)), fun l hl => ?_⟩
      exact h l xs _ G1 (r1.lay0 hl) (s1.trans (Up.lay0 hl)) (s1.h.gone hl) upd_same (r1.kp.sub.gone hl) aq
    · exact h.elim
theorem o_list (hm : X.mg "list" = none) (ha : AM X F [e] ma) (hK : F.K = X.K := by rfl) (hg : Gl X "list" := by rfl) (he : starEach [e] X.env = (false, eval e X.env) :: starEach [] X.env := by rfl) (hpl : (backTo pos (starEach [] X.env)).any (·.1) = false := by rfl) :
    EO X F (.Call (.Name "list" p) [e] [] pos) (mListO ma) := PE.imp (pe_callTy call_list_of hg hm (by kernel_rfl) ha (by decide) (by decide) he hpl) (i_listO hK)
noncomputable def lrD : List D → R (List D)
  | [.int j] => if -(2 ^ 62) ≤ j ∧ j ≤ 1000000 then .ok (rangeD 0 j.toNat) else .bad
  | _ => .bad
noncomputable def mLR (m : MA) : MA := fun ρ => (m ρ).bind lrD
noncomputable def max2D : List D → R D
  | [.int i, .int j] => .ok (.int (if j > i then j else i))
  | _ => .bad
noncomputable def toIntB : List D → R D
  | [.int i] => .ok (.int i)
  | [.bl k] => .ok (.int (if k then 1 else 0))
  | [.str x] => if x.length ≤ 640 then match intText? x with | some i => .ok (.int i) | none => .bad else .bad
  | _ => .bad
theorem ok_toIntB : CallOk F (fun xs H Q => ((∃ i, xs = [.int i] ∧ Q (.int i) H) ∨ ∃ k, xs = [.bl k] ∧ Q (.int (if k then 1 else 0)) H) ∨ ((∃ i, xs = [.int i] ∧ Q (.int i) H) ∨ ∃ x i, xs = [.str x] ∧ x.length ≤ 640 ∧ intText? x = some i ∧ Q (.int i) H)) toIntB := by
  intro σ ρ G H xs ds Q r al k
  unfold toIntB at k
  split at k
  · rename_i i
    exact .inl (.inl ⟨i, al.ints1, k _ H G r (Up.refl _ _) (by simp only [At])⟩)
  · rename_i c
    obtain ⟨v, rfl, av⟩ := al.one
    simp only [At] at av; subst av
    exact .inl (.inr ⟨c, rfl, k _ H G r (Up.refl _ _) (by simp only [At])⟩)
  · rename_i x
    split at k
    · rename_i hl
      split at k
      · rename_i i hi
        obtain ⟨v, rfl, av⟩ := al.one
        simp only [At] at av; subst av
        exact .inr (.inr ⟨x, i, rfl, hl, hi, k _ H G r (Up.refl _ _) (by simp only [At])⟩)
      · exact k.elim
    · exact k.elim
  · exact k.elim
theorem e_toIntB (hm : X.mg "int" = none) (ha : AM X F [e] ma) (hg : Gl X "int" := by rfl) (he : starEach [e] X.env = (false, eval e X.env) :: starEach [] X.env := by rfl) (hpl : (backTo pos (starEach [] X.env)).any (·.1) = false := by rfl) :
    EM X F (.Call (.Name "int" p) [e] [] pos) (mCB toIntB ma) := e_callT (call_int1.or call_intT) ok_toIntB hm (by kernel_rfl) ha hg (by decide) (by decide) he hpl
noncomputable def mUnp (set : D → Rho → R Rho) (m : ME) : MS := fun ρ => (m ρ).bind fun d => (set d ρ).bind fun ρ' => .ok (.nx ρ')
theorem s_exprE {m : MEf} (h : EMf X F e m) (hs : notComp e = true := by rfl) : SM X F (.Expr e pos) (mDropE m) := PS.imp (ps_expr h (swaps_no _ _ _ _ hs)) i_dropE
theorem sp_of {n : Nat} {mf : List D → R Rt} {xe : XK → Str → Hp → Prop} {E : XK} {G1 H1 : Hp} {σ : L2.St} {ρ : Rho} {ds : List D} {vs : List V} {Q : VK} (hx : F.EX = xe E) (r1 : Rel F G1 H1 σ ρ) (a : AtL F.K G1 ds vs) (hn : ds.length = n) (h : kE F G1 H1 σ ρ Q ((mf ds).bind rtD)) : spM F.K n xe mf vs H1 Q E := by
  refine ⟨G1, ds, r1.kp.sub, a, hn, ?_⟩
  cases e : mf ds with
  | bad => rw [e] at h; exact h.elim
  | exc c =>
    rw [e] at h
    intro G' H' k
    have z := h G' H' (Kp.of r1 k).kp
    rw [hx] at z
    exact z
  | ok t =>
    rw [e, R.bind_ok] at h
    cases t with
    | v d => exact fun v G' H' k av => h v H' G' (Kp.of r1 k) ⟨k.gg, k.hh, k.new⟩ av
    | o es =>
      intro p xs G' H' k h1 h2 h3 h4
      have h2 : H1 p = none := h2
      have r' := Kp.of r1 k
      have no : ¬ OwnAt H' σ ρ p := OwnAt.fresh r1 k.hh h2
      refine h (.ref p) H' _ (r'.take h3 h1 (r1.kp.hh.gone h2) no) (Up.put ⟨k.gg, k.hh, k.new⟩ h2 h1) ?_
      simp only [At]
      exact ⟨p, xs, rfl, upd_same, h4.mono (Sub.upd h1)⟩
    | t t =>
      intro v G' H' k q
      obtain ⟨a1, a2, a3⟩ := (Kp.of r1 k).takeT (F' := ⟨F.K, G1, H1, xe E⟩) rfl q ⟨k.gg, k.hh, k.new⟩ fun b hb => ⟨(q.own b hb).2, r1.kp.hh.gone (q.own b hb).2, OwnAt.fresh r1 k.hh (q.own b hb).2⟩
      exact h v H' _ a1 a2 a3
end
end L3
set_option Elab.async false
set_option linter.all false
set_option maxRecDepth 100000
namespace L3
open PySem PySem.Spec L2 PyProof.Rows
section
variable {X : Cx} {F : Fx} {e a b c : Expr} {es : List Expr} {pos p : Pos} {m n : ME} {ma : MA}
end
end L3
set_option Elab.async false
set_option linter.all false
set_option maxRecDepth 100000
namespace L3
open PySem PySem.Spec L2
structure XEMf (X : Cx) (F : Fx) (e : Expr) (m : MEf) : Prop where
  o : PE X e (tEf F m)
section
variable {X : Cx} {F : Fx} {e a b c tg iter elt : Expr} {es : List Expr} {pos p : Pos} {m n : ME} {ma : MA} {st : Stmt} {sts : List Stmt}
theorem xo_list (hm : X.mg "list" = none) (ha : XAM X F [e] ma) (hK : F.K = X.K := by rfl) (hg : Gl X "list" := by rfl) (he : starEach [e] X.env = (false, eval e X.env) :: starEach [] X.env := by rfl) (hpl : (backTo pos (starEach [] X.env)).any (·.1) = false := by rfl) : XEO X F (.Call (.Name "list" p) [e] [] pos) (mListO ma) := ⟨L3.o_list (hm := hm) (ha := ha.1) (hK := hK) (hg := hg) (he := he) (hpl := hpl)⟩
theorem xe_toIntB (hm : X.mg "int" = none) (ha : XAM X F [e] ma) (hg : Gl X "int" := by rfl) (he : starEach [e] X.env = (false, eval e X.env) :: starEach [] X.env := by rfl) (hpl : (backTo pos (starEach [] X.env)).any (·.1) = false := by rfl) : XEM X F (.Call (.Name "int" p) [e] [] pos) (mCB toIntB ma) := ⟨L3.e_toIntB (hm := hm) (ha := ha.1) (hg := hg) (he := he) (hpl := hpl)⟩
theorem xs_exprE {m : MEf} (h : XEMf X F e m) (hs : notComp e = true := by rfl) : XSM X F (.Expr e pos) (mDropE m) := ⟨L3.s_exprE (h := h.1) (hs := hs)⟩
end
end L3
set_option Elab.async false
set_option linter.all false
set_option maxRecDepth 100000
namespace L3
open PySem PySem.Spec L2
theorem ClsN.inj {K : PySem.W.Frag} {c : Str} {C C' : Addr} (h : ClsN K c C) (h' : ClsN K c C') : C = C' := by
  unfold ClsN at h h'
  rw [h] at h'
  cases h'; rfl
theorem lk_at {K : PySem.W.Frag} {G : Hp} {f : Str} {d : D} : ∀ {xs : List (Str × V)} {ds : List D}, AtL K G ds (xs.map (·.2)) → ((xs.map (·.1)).zip ds).lookup f = some d → ∃ v, xs.lookup f = some v ∧ At K G d v
  | [], _, _, e => by simp at e
  | (k, v) :: xs, [], h, _ => by
    have := h.length
    simp at this
  | (k, v) :: xs, e :: ds, h, l => by
    simp only [List.map_cons, AtL] at h
    obtain ⟨v', r, e1, a, t⟩ := h
    cases e1
    simp only [List.map_cons, List.zip_cons_cons, List.lookup_cons] at l ⊢
    cases hk : f == k with
    | true => rw [hk] at l; cases l; exact ⟨v, rfl, a⟩
    | false => rw [hk] at l; exact lk_at t l
theorem lk_none {f : Str} : ∀ {xs : List (Str × V)}, (xs.map (·.1)).all (fun k => !(f == k)) = true → xs.lookup f = none
  | [], _ => rfl
  | (k, v) :: xs, h => by
    simp only [List.map_cons, List.all_cons, Bool.and_eq_true, Bool.not_eq_true'] at h
    rw [List.lookup_cons, h.1]
    exact lk_none (by simpa using h.2)
structure ClF (K : PySem.W.Frag) (c : Str) (fs : List Str) : Prop where
  ex : ∃ C, ClsN K c C ∧ Cls K C ∧ ∀ f ∈ fs, NoAttr K C f
noncomputable def fldD (c f : Str) : D → R D
  | .ins c' ns ds => if c' = c then match (ns.zip ds).lookup f with
    | some d => .ok d
    | none => .bad
    else .bad
  | _ => .bad
section
variable {X : Cx} {F : Fx} {e a b c o : Expr} {es : List Expr} {pos p : Pos} {m n : ME} {ma : MA}
theorem e_fld {cn f : Str} {fs : List Str} (k : ClF X.K cn fs) (he : EM X F o m) (hf : f ∈ fs := by decide +kernel) (hK : F.K = X.K := by rfl) (hb : attributeBase o f X.env (eval o X.env) = eval o X.env := by rfl) : EM X F (.Attribute o f pos) (mUn (fldD cn f) m) := by
  refine PE.imp (pe_fld he hb) ?_
  rintro σ H Q ⟨G, ρ, r, h⟩
  unfold mUn at h
  refine ⟨G, ρ, r, ?_⟩
  cases ea : m ρ with
  | bad => rw [ea] at h; exact h.elim
  | exc c => rw [ea] at h; exact h
  | ok d =>
    rw [ea, R.bind_ok] at h
    intro x H1 G1 r1 s1 ax
    cases d with
    | ins c' ns ds =>
      simp only [fldD] at h
      split at h
      · rename_i hc
        subst hc
        split at h
        · rename_i d' hl
          simp only [At] at ax
          obtain ⟨q, dx, xs, rfl, ⟨C, c1, g1⟩, rfl, al⟩ := ax
          obtain ⟨v, hv, av⟩ := lk_at al hl
          obtain ⟨C', k1, k2, k3⟩ := k.ex
          rw [hK] at c1
          have := c1.inj k1
          subst this
          exact ⟨q, C, dx, xs, v, rfl, r1.kp.sub _ _ g1, k2, k3 f hf, hv, h v H1 G1 r1 s1 av⟩
        · exact h.elim
      · exact h.elim
    | _ => exact h.elim
structure KnM (P : Program) (w : World) (K : PySem.W.Frag) (mg : Str → Option Value) (base : Heap) (cn mt : Str) (n k : Nat) (mf : List D → R Rt) : Prop where
  ex : ∃ (C f : Addr) (fd : FuncData) (ps : List Str), ClsN K cn C ∧ Cls K C ∧ Meth K C mt f ∧ FnOk P w K mg base CX0 k f fd ps (sp0 K (n + 1) mf) ∧ Binds K fd ps []
noncomputable def selfD (cn mt : Str) : D → R D
  | .ins c' ns ds => if c' = cn ∧ ns.all (fun k => !(mt == k)) = true then .ok (.ins c' ns ds) else .bad
  | _ => .bad
noncomputable def mMeth (cn mt : Str) (n : Nat) (mf : List D → R Rt) (o : ME) (ma : MA) : ME := fun ρ => (o ρ).bind fun d => (selfD cn mt d).bind fun d => (ma ρ).bind fun ds => if ds.length = n then (mf (d :: ds)).bind rtD else .bad
theorem i_meth {cn mt : Str} {n : Nat} {mf : List D → R Rt} {C : Addr} {E : XK} (hx : F.EX = fun _ _ => False) (hC : ClsN F.K cn C) : ImpE (tE F (mMeth cn mt n mf m ma)) (tMeth C mt (sp0 F.K (n + 1) mf) [] E (tE F m) (tA F ma)) := by
  rintro σ H Q ⟨G, ρ, r, h⟩
  unfold mMeth at h
  refine ⟨G, ρ, r, ?_⟩
  cases ea : m ρ with
  | bad => rw [ea] at h; exact h.elim
  | exc c => rw [ea] at h; exact h
  | ok d =>
    rw [ea, R.bind_ok] at h
    intro x H1 G1 r1 s1 ax
    cases d with
    | ins c' ns ds =>
      simp only [selfD] at h
      split at h
      · rename_i hc
        obtain ⟨hc1, hc2⟩ := hc
        subst hc1
        have ax' := ax
        simp only [At] at ax
        obtain ⟨q, dx, xs, rfl, ⟨C', c1, g1⟩, rfl, al⟩ := ax
        have := c1.inj hC
        subst this
        refine ⟨q, dx, xs, rfl, r1.kp.sub _ _ g1, lk_none hc2, G1, ρ, r1, ?_⟩
        rw [R.bind_ok] at h
        cases eb : ma ρ with
        | bad => rw [eb] at h; exact h.elim
        | exc c => rw [eb] at h; exact h
        | ok es =>
          rw [eb, R.bind_ok] at h
          intro vs H2 G2 r2 s2 av
          by_cases hn : es.length = n
          · rw [if_pos hn] at h
            rw [List.append_nil]
            exact sp_of (xe := fun _ _ _ => False) hx r2 (.cons (ax'.mono s2.g) av) (by simp [hn]) (h.mono (s1.trans s2))
          · rw [if_neg hn] at h; exact h.elim
      · exact h.elim
    | _ => exact h.elim
theorem e_meth {cn mt : Str} {n k : Nat} {mf : List D → R Rt} {pl : Sem Bool} {apos : Pos} (c : KnM X.prog X.w X.K X.mg X.base cn mt n k mf) (hr : Room k X.A) (he : EM X F o m) (ha : AM X F (e :: es) ma) (hE : F.EX = fun _ _ => False := by rfl) (hK : F.K = X.K := by rfl)
    (hst : starEach (e :: es) X.env = (false, eval e X.env) :: starEach es X.env := by rfl) (hpl : (backTo pos (starEach es X.env)).any (·.1) = false := by rfl)
    (ht : eval (.Call (.Attribute o mt apos) (e :: es) [] pos) X.env = (do
      let ov ← eval o X.env
      standAt apos.atName
      let (f, first) ← holding [ov] (getMethod ov mt pl)
      callWith pos f first (backTo pos (starEach (e :: es) X.env)) (backToKw pos (keywordEach [] X.env))) := by rfl) :
    EM X F (.Call (.Attribute o mt apos) (e :: es) [] pos) (mMeth cn mt n mf m ma) := by
  obtain ⟨C, f, fd, ps, c1, c2, c3, fo, hb⟩ := c.ex
  refine PE.imp (pe_meth (pl := pl) he c2 c3 fo hr hb .nil pass0 ha hst hpl ht) ?_
  rw [← hK]
  exact i_meth hE (by rw [hK]; exact c1)
noncomputable def keyS : D → Option Key
  | .int i => some (.inl i)
  | .str x => some (.inr x)
  | _ => none
noncomputable def keysL : List D → Option (List Key)
  | [] => some []
  | d :: ds => match keyS d, keysL ds with
    | some k, some ks => some (k :: ks)
    | _, _ => none
noncomputable def keyT : D → Option (List Key)
  | .tup ds => keysL ds
  | _ => none
theorem keyS_at {K : PySem.W.Frag} {G : Hp} {d : D} {v : V} {k : Key} (e : keyS d = some k) (a : At K G d v) : v = kV k := by
  cases d <;> first
    | (cases e; done)
    | (cases e; simp only [At] at a; exact a)
theorem keysL_at {K : PySem.W.Frag} {G : Hp} : ∀ {ds : List D} {vs : List V} {ks : List Key}, keysL ds = some ks → AtL K G ds vs → vs = ks.map kV
  | [], _, _, e, a => by simp only [AtL] at a; subst a; cases e; rfl
  | d :: ds, _, _, e, a => by
    simp only [AtL] at a
    obtain ⟨v, r, rfl, av, ar⟩ := a
    unfold keysL at e
    split at e
    · rename_i k ks e1 e2
      cases e
      rw [keyS_at e1 av, keysL_at e2 ar]; rfl
    · cases e
theorem keyT_at {K : PySem.W.Frag} {G : Hp} {d : D} {v : V} {ks : List Key} (e : keyT d = some ks) (a : At K G d v) : ∃ b, v = .ref b ∧ G b = some (.tup (ks.map kV)) := by
  cases d with
  | tup ds =>
    simp only [At] at a
    obtain ⟨b, xs, rfl, hb, al⟩ := a
    exact ⟨b, rfl, by rw [hb, keysL_at e al]⟩
  | _ => cases e
theorem valV_some {κ : Type} [DecidableEq κ] (k : κ) : ∀ kvs : List (κ × V), (valV kvs k).isSome = (kvs.map (·.1)).any (fun x => decide (x = k))
  | [] => rfl
  | (x, v) :: kvs => by
    have ih := valV_some k kvs
    unfold valV at ih ⊢
    rw [List.find?_cons, List.map_cons, List.any_cons]
    by_cases h : x = k
    · simp [h]
    · simp only [h, decide_false, Bool.false_or]; exact ih
noncomputable def dinD (b : Bool) (k d : D) : R D := match d with
  | .dT ks _ => match keyT k with
    | some kk => .ok (.bl (if b then ks.any (fun x => decide (x = kk)) else !ks.any (fun x => decide (x = kk))))
    | none => .bad
  | _ => .bad
theorem din_core {b : Bool} {σ : St} {ρ : Rho} {G H : Hp} {y x : V} {dk dd : D} {Q : VK} (r : Rel F G H σ ρ) (ay : At F.K G dk y) (ax : At F.K G dd x) (h : kE F G H σ ρ Q (dinD b dk dd)) :
    ∃ a o, x = .ref a ∧ DGet H a y o ∧ Q (.bl (if b then o.isSome else !o.isSome)) H := by
  unfold dinD at h
  split at h
  · rename_i ks ds
    split at h
    · rename_i kk ek
      simp only [At] at ax
      obtain ⟨a, xs, rfl, hg, rfl, al⟩ := ax
      obtain ⟨q, rfl, hq⟩ := keyT_at ek ay
      refine ⟨a, valV xs kk, rfl, DGet.t (r.kp.sub _ _ hg) (r.kp.sub _ _ hq), ?_⟩
      rw [valV_some]
      exact h _ H G r (Up.refl _ _) (by simp only [At])
    · exact h.elim
  · exact h.elim
theorem i_din : ImpE (tE F (mBin (dinD true) m n)) (tDIn (tE F m) (tE F n)) := by
  rintro σ H Q ⟨G, ρ, r, h⟩
  unfold mBin at h
  refine ⟨G, ρ, r, ?_⟩
  cases ea : m ρ with
  | bad => rw [ea] at h; exact h.elim
  | exc c => rw [ea] at h; exact h
  | ok dk =>
    rw [ea, R.bind_ok] at h
    intro y H1 G1 r1 s1 ay
    refine ⟨G1, ρ, r1, ?_⟩
    cases eb : n ρ with
    | bad => rw [eb] at h; exact h.elim
    | exc c => rw [eb] at h; exact h
    | ok dd =>
      rw [eb, R.bind_ok] at h
      intro x H2 G2 r2 s2 ax
      exact din_core (b := true) r2 (ay.mono s2.g) ax (h.mono (s1.trans s2))
theorem e_din (hu : X.A.units + 64 < cLine) (ha : EM X F a m) (hb : EM X F b n) (h1 : behindInMarks .In b = false := by with_unfolding_all rfl) : EM X F (.Compare a [.In] [b] pos) (mBin (dinD true) m n) := PE.imp (pe_cmp (pc_din (by omega) ha hb) h1) i_din
theorem t_din (hu : X.A.units + 64 < cLine) (ha : EM X F a m) (hb : EM X F b n) (h1 : behindInMarks .In b = false := by with_unfolding_all rfl) : TM X F (.Compare a [.In] [b] pos) (mB (mBin (dinD true) m n)) := by
  refine PT.imp (pt_cmp (pc_din (by omega) ha hb) h1) fun σ H Q h => ?_
  obtain ⟨G, ρ, r, k⟩ := i_B σ H Q h
  exact i_din σ H _ ⟨G, ρ, r, k⟩
noncomputable def mSetD (i : Nat) : MS := fun ρ => if i < ρ.length then .ok (.nx (ρ.set i (.ob (.dT [] [])))) else .bad
theorem s_setD (i : Nat) {x : Str} {p q : Pos} (hN : X.N.Nodup) (hi : X.N[i]? = some x := by rfl) (hx : Loc X.env.scope x := by first | exact Or.inl rfl | exact Or.inr rfl) (hf : X.fn x = true ∨ X.env.scope.names.lookup x = some .local := by first | exact .inl rfl | exact .inr rfl) : SM X F (.Assign [.Name x p] (.Dict [] [] q) pos) (mSetD i) := by
  refine PS.imp (ps_set hN hi hx pe_dnewT (swaps_no _ _ _ _ rfl) hf) ?_
  rintro De σ H ⟨G, ρ, r, h⟩
  unfold mSetD at h
  intro a ha
  split at h
  · rename_i hl
    refine h _ G _ ((r.lay0 ha).setB hl upd_same (r.kp.sub.gone ha) (r.kp.hh.gone ha) ⟨[], rfl, rfl, .nil⟩ fun j es o _ e1 e2 f => OwnAt.fresh r (Sub.upd ha) ha ⟨j, es, o, e1, e2, f⟩) (Sub.refl _)
  · exact h.elim
noncomputable def putD (ks : List (List Key)) (ds : List D) (kk : List Key) (d : D) : R Ob := if ks.any (fun x => decide (x = kk)) = false ∧ ks.length < 1000000 then .ok (.dT (ks ++ [kk]) (ds ++ [d])) else .bad
noncomputable def mDPut (i : Nat) (mk mv : ME) : MS := fun ρ => (mv ρ).bind fun v => match ρ[i]? with
  | some (.ob (.dT ks ds)) => (mk ρ).bind fun k => match keyT k with
    | some kk => (putD ks ds kk v).bind fun o => .ok (.nx (ρ.set i (.ob o)))
    | none => .bad
  | _ => .bad
theorem s_dput (i : Nat) {x : Str} {px pos' : Pos} {k v : Expr} {mk mv : ME} (hu : X.A.units + 64 < cLine) (hk : EM X F k mk) (hv : EM X F v mv) (hN : X.N[i]? = some x := by rfl) (hvs : Vis X.env.scope x := by first | exact Or.inl rfl | exact Or.inr (Or.inl rfl) | exact Or.inr (Or.inr rfl)) (hd : (x == ("__debug__" : Str)) = false := by decide) (hcd : (x == ("__classdict__" : Str)) = false := by decide) (hs : notComp v = true := by rfl) :
    SM X F (.Assign [.Subscript (.Name x px) k pos'] v pos) (mDPut i mk mv) := by
  refine PS.imp (ps_dput (by omega) (pe_var hN hvs hd hcd) hk hv (swaps_no _ _ _ _ hs)) ?_
  rintro De σ H ⟨G, ρ, r, h⟩
  unfold mDPut at h
  refine ⟨G, ρ, r, ?_⟩
  cases ea : mv ρ with
  | bad => rw [ea] at h; exact h.elim
  | exc c => rw [ea] at h; exact h
  | ok dv =>
    rw [ea, R.bind_ok] at h
    intro v H1 G1 r1 s1 av
    split at h
    · rename_i ks ds er
      obtain ⟨q, ho, e1, _⟩ := r1.obj er
      refine ⟨.ref q, e1, G1, ρ, r1, ?_⟩
      cases eb : mk ρ with
      | bad => rw [eb] at h; exact h.elim
      | exc c => rw [eb] at h; exact h
      | ok dk =>
        rw [eb, R.bind_ok] at h
        intro y H2 G2 r2 s2 ay
        obtain ⟨q', ho', e1', h1, h2, h3, xs, rfl, rfl, al⟩ := r2.obj er
        rw [e1] at e1'; cases e1'
        split at h
        · rename_i kk ek
          unfold putD at h
          split at h
          · rename_i hc
            obtain ⟨hc1, hc2⟩ := hc
            obtain ⟨bb, rfl, hbb⟩ := keyT_at ek ay
            have hn : valV xs kk = none := by
              have := valV_some kk xs
              rw [hc1] at this
              exact Option.not_isSome_iff_eq_none.mp (by rw [this]; exact Bool.false_ne_true)
            refine ⟨q, _, rfl, DPut.t h1 (r2.kp.sub _ _ hbb) (Nat.lt_trans (by simpa using hc2) (by decide)), ?_⟩
            rw [putK_new _ hn]
            refine h σ G2 _ (r2.mutB er e1 ⟨xs ++ [(kk, v)], rfl, by simp, ?_⟩) (s1.g.trans s2.g)
            rw [List.map_append]
            exact al.snoc (av.mono s2.g)
          · exact h.elim
        · exact h.elim
    · exact h.elim
noncomputable def mRetZ (m : ME) : MS := fun ρ => (m (frzA ρ)).bind fun d => .ok (.rt d)
theorem s_retZ (h : EM X F e m) : SM X F (.Return (some e) pos) (mRetZ m) := by
  refine PS.imp (ps_ret h) ?_
  rintro De σ H ⟨G, ρ, r, h⟩
  unfold mRetZ at h
  refine ⟨_, _, r.plus, ?_⟩
  cases ea : m (frzA ρ) with
  | bad => rw [ea] at h; exact h.elim
  | exc c => rw [ea] at h; exact h
  | ok d => rw [ea, R.bind_ok] at h; exact fun v H' G' r' s' a => h v G' H' r'.kp a
noncomputable def mBad : MS := fun _ => .bad
theorem s_bad {st : Stmt} : SM X F st mBad := PS.imp ps_never fun De σ H ⟨G, ρ, r, h⟩ => h.elim
end
end L3
set_option Elab.async false
set_option linter.all false
set_option maxRecDepth 100000
namespace L3
open PySem PySem.Spec L2
mutual
noncomputable def noIns : D → Bool
  | .ins _ _ _ => false
  | .tup ds => noInsL ds
  | .lst ds => noInsL ds
  | .scr ds => noInsL ds
  | .dK _ ds => noInsL ds
  | .dT _ ds => noInsL ds
  | .ktp ds => noInsL ds
  | _ => true
noncomputable def noInsL : List D → Bool
  | [] => true
  | d :: ds => noIns d && noInsL ds
end
noncomputable def isIns : HO → Bool
  | .ins _ _ _ => true
  | _ => false
section
variable {K : PySem.W.Frag} {G G' : Hp}
theorem Rd.off (h : ∀ b o, G b = some o → isIns o = false → G' b = some o) {a : Addr} {u : HO} (hu : isIns u = false) (r : Rd G a u) : Rd G' a u := by
  rcases r with r | ⟨o, r⟩
  · exact .inl (h _ _ r hu)
  · exact .inr ⟨o, h _ _ r rfl⟩
mutual
theorem At.off (h : ∀ b o, G b = some o → isIns o = false → G' b = some o) : ∀ {d : D} {v : V}, noIns d = true → At K G d v → At K G' d v
  | .non, _, _, q => by simpa only [At] using q
  | .bl _, _, _, q => by simpa only [At] using q
  | .int _, _, _, q => by simpa only [At] using q
  | .str _, _, _, q => by simpa only [At] using q
  | .tup _, _, n, q => by
    simp only [At, noIns] at q n ⊢
    obtain ⟨a, xs, e, g, r⟩ := q
    exact ⟨a, xs, e, h _ _ g rfl, AtL.off h n r⟩
  | .lst _, _, n, q => by
    simp only [At, noIns] at q n ⊢
    obtain ⟨a, xs, e, g, r⟩ := q
    exact ⟨a, xs, e, h _ _ g rfl, AtL.off h n r⟩
  | .scr _, _, n, q => by
    simp only [At, noIns] at q n ⊢
    obtain ⟨a, xs, e, g, r⟩ := q
    refine ⟨a, xs, e, ?_, AtL.off h n r⟩
    rcases g with g | g
    · exact .inl (Rd.off h rfl g)
    · exact .inr g
  | .ktp _, _, n, q => by
    simp only [At, noIns] at q n ⊢
    obtain ⟨a, xs, e, g, r⟩ := q
    refine ⟨a, xs, e, ?_, AtL.off h n r⟩
    rcases g with g | g
    · exact .inl (Rd.off h rfl g)
    · exact .inr g
  | .dK _ _, _, n, q => by
    simp only [At, noIns] at q n ⊢
    obtain ⟨a, xs, e, g, k, r⟩ := q
    exact ⟨a, xs, e, h _ _ g rfl, k, AtL.off h n r⟩
  | .dT _ _, _, n, q => by
    simp only [At, noIns] at q n ⊢
    obtain ⟨a, xs, e, g, k, r⟩ := q
    exact ⟨a, xs, e, h _ _ g rfl, k, AtL.off h n r⟩
  | .ins _ _ _, _, n, _ => by simp only [noIns] at n; cases n
  | .exo _, _, n, q => by
    simp only [At] at q ⊢
    obtain ⟨a, xs, e, ⟨C, c1, g⟩, r⟩ := q
    exact ⟨a, xs, e, ⟨C, c1, h _ _ g rfl⟩, r⟩
theorem AtL.off (h : ∀ b o, G b = some o → isIns o = false → G' b = some o) : ∀ {ds : List D} {vs : List V}, noInsL ds = true → AtL K G ds vs → AtL K G' ds vs
  | [], _, _, q => by simpa only [AtL] using q
  | _ :: _, _, n, q => by
    simp only [AtL, noInsL, Bool.and_eq_true] at q n ⊢
    obtain ⟨v, r, e, a, t⟩ := q
    exact ⟨v, r, e, At.off h n.1 a, AtL.off h n.2 t⟩
end
end
noncomputable def slIns : Sl → Bool
  | .ob (.ins _ _ _) => true
  | .ob _ => false
  | .tr _ => false
  | _ => true
noncomputable def onlyIns (ρ : Rho) : Bool := ρ.all slIns
noncomputable def mBorI (m : ME) : ME := fun ρ => (m (frzA ρ)).bind fun d => if noIns d = true ∧ onlyIns ρ = true then .ok d else .bad
section
variable {F : Fx}
open Classical in
noncomputable def gOff (H : Hp) (σ : St) (ρ : Rho) (G : Hp) : Hp := fun b => if OwnAt H σ ρ b then none else G b
theorem i_borI {m : ME} : ImpE (tE F (mBorI m)) (tE F m) := by
  rintro σ H Q ⟨G, ρ, r, h⟩
  refine ⟨gPlus σ ρ G H, frzA ρ, r.plus, ?_⟩
  unfold mBorI at h
  cases ea : m (frzA ρ) with
  | bad => rw [ea] at h; exact h.elim
  | exc c => rw [ea] at h; exact h
  | ok d =>
    rw [ea, R.bind_ok] at h
    intro v H' G' r' s' a
    by_cases hd : noIns d = true ∧ onlyIns ρ = true
    · rw [if_pos hd] at h
      have ownG : ∀ b, OwnAt H σ ρ b → G b = none := fun b z => (r.foot z).2.1
      have own0 : ∀ b, OwnAt H σ ρ b → F.H0 b = none := fun b z => (r.foot z).2.2
      have ownI : ∀ b, OwnAt H σ ρ b → ∃ ho, H b = some ho ∧ isIns ho = true := fun b ⟨i, s, o, e1, e2, f⟩ => by
        have hi := List.all_eq_true.mp hd.2 _ (List.mem_of_getElem? e1)
        cases s with
        | un => exact f.elim
        | fz _ => exact f.elim
        | tr _ => cases hi
        | ob ob =>
          have f : o = some (.ref b) := f
          obtain ⟨c, ho, e3, h1, _, _, h4⟩ := r.obj e1
          rw [e2, f] at e3; cases e3
          cases ob with
          | lst _ => cases hi
          | dT _ _ => cases hi
          | ins _ _ _ => obtain ⟨C, dx, xs, _, rfl, _⟩ := h4; exact ⟨_, h1, rfl⟩
      have off : ∀ b, ¬ OwnAt H σ ρ b → gOff H σ ρ G' b = G' b := fun b n => by unfold gOff; rw [if_neg n]
      have on : ∀ b, OwnAt H σ ρ b → gOff H σ ρ G' b = none := fun b n => by unfold gOff; rw [if_pos n]
      have sg : Sub G (gOff H σ ρ G') := fun b o e => by
        have n : ¬ OwnAt H σ ρ b := fun z => by rw [ownG b z] at e; cases e
        rw [off b n]; exact s'.g b o (gPlus_sub r b o e)
      have keepH : ∀ b, OwnAt H σ ρ b → ∀ o, H b = some o → H' b = some o := fun b z o e => r'.kp.sub _ _ (s'.g _ _ (by rw [gPlus_own z]; exact e))
      have rel : Rel F (gOff H σ ρ G') H' σ ρ := by
        refine r.over rfl ⟨fun b o e => ?_, r.kp.gg.trans sg, r'.kp.hh, fun b hb => ?_⟩ sg fun b ow => ?_
        · by_cases n : OwnAt H σ ρ b
          · rw [on b n] at e; cases e
          · rw [off b n] at e; exact r'.kp.sub b o e
        · have n : ¬ OwnAt H σ ρ b := fun z => hb (own0 b z)
          rw [off b n]; exact r'.kp.new b hb
        · refine ⟨?_, on b ow, own0 b ow⟩
          cases eb : H b with
          | none => exact absurd eb (r.foot ow).1
          | some o => exact keepH b ow o eb
      refine h v H' _ rel ⟨sg, s'.h, fun b hb => ?_⟩ (At.off (fun b o e hi => ?_) hd.1 a)
      · by_cases n : OwnAt H σ ρ b
        · rw [on b n, ownG b n]
        · rw [off b n, s'.n b hb]
          unfold gPlus
          rw [if_neg n]
      · have n : ¬ OwnAt H σ ρ b := fun z => by
          obtain ⟨ho, e1, e2⟩ := ownI b z
          have := s'.g b ho (by rw [gPlus_own z]; exact e1)
          rw [e] at this; cases this
          rw [hi] at e2; cases e2
        rw [off b n]; exact e
    · rw [if_neg hd] at h; exact h.elim
noncomputable abbrev MN := Rho → R Rho
noncomputable def kN (F : Fx) (σ : St) (De : Ends) : R Rho → Prop
  | .ok ρ' => ∀ G' H', Rel F G' H' σ ρ' → De.nx σ H'
  | .exc c => kX F c
  | .bad => False
noncomputable def tN (F : Fx) (m : MN) : TS := fun De σ H => ∃ G ρ, Rel F G H σ ρ ∧ kN F σ De (m ρ)
noncomputable def mThen (a b : MN) : MN := fun ρ => (a ρ).bind b
theorem i_then {a b : MN} : ImpS (tN F (mThen a b)) (tSeq (tN F a) (tN F b)) := by
  rintro De σ H ⟨G, ρ, r, h⟩
  unfold mThen at h
  refine ⟨G, ρ, r, ?_⟩
  cases ea : a ρ with
  | bad => rw [ea] at h; exact h.elim
  | exc c => rw [ea] at h; exact h
  | ok ρ1 => rw [ea, R.bind_ok] at h; exact fun G' H' r' => ⟨G', ρ1, r', h⟩
noncomputable def mGuard (c : MT) : MN := fun ρ => (c ρ).bind fun k => if k = true then .bad else .ok ρ
theorem i_guard {c : MT} : ImpS (tN F (mGuard c)) (tIfS (tT F c) tNever tNext) := by
  rintro De σ H ⟨G, ρ, r, h⟩
  unfold mGuard at h
  refine ⟨G, ρ, r, ?_⟩
  cases ea : c ρ with
  | bad => rw [ea] at h; exact h.elim
  | exc c => rw [ea] at h; exact h
  | ok k =>
    rw [ea, R.bind_ok] at h
    intro H1 G1 r1 s1
    cases k with
    | true => exact h.elim
    | false => exact h G1 H1 r1
theorem putF_new {f : Str} {v : V} : ∀ {fs : List (Str × V)}, (fs.map (·.1)).all (fun k => !(f == k)) = true → putF f v fs = fs ++ [(f, v)]
  | [], _ => rfl
  | (g, x) :: fs, h => by
    simp only [List.map_cons, List.all_cons, Bool.and_eq_true, Bool.not_eq_true'] at h
    have ne : g ≠ f := fun z => by subst z; simp at h
    rw [putF, if_neg ne, putF_new (by simpa using h.2)]; rfl
noncomputable def mFldSet (cn f : Str) (m : ME) : MN := fun ρ => (m ρ).bind fun d => match (ρ[0]? : Option Sl) with
  | some (.ob (.ins c' ns ds)) => if c' = cn ∧ ns.all (fun k => !(f == k)) = true ∧ ns.length < 1000 then .ok (ρ.set 0 (.ob (.ins cn (ns ++ [f]) (ds ++ [d])))) else .bad
  | _ => .bad
end
section
variable {X : Cx} {F : Fx} {e o : Expr} {pos : Pos} {m : ME}
theorem e_borI (h : EM X F e m) : EM X F e (mBorI m) := PE.imp h i_borI
theorem s_fldset {cn f x : Str} {fs : List Str} {px pos' : Pos} (k : ClF X.K cn fs) (he : EM X F e m) (hf : f ∈ fs := by decide +kernel) (hN : X.N[0]? = some x := by rfl) (hv : Vis X.env.scope x := by first | exact Or.inl rfl | exact Or.inr (Or.inl rfl) | exact Or.inr (Or.inr rfl)) (hd : (x == ("__debug__" : Str)) = false := by decide) (hcd : (x == ("__classdict__" : Str)) = false := by decide) (hs : notComp e = true := by rfl) (hK : F.K = X.K := by rfl) :
    PS X (.Assign [.Attribute (.Name x px) f pos'] e pos) (tN F (mFldSet cn f m)) := by
  refine PS.imp (ps_fld (pe_var hN hv hd hcd) he (swaps_no _ _ _ _ hs)) ?_
  rintro De σ H ⟨G, ρ, r, h⟩
  unfold mFldSet at h
  refine ⟨G, ρ, r, ?_⟩
  cases ea : m ρ with
  | bad => rw [ea] at h; exact h.elim
  | exc c => rw [ea] at h; exact h
  | ok d =>
    rw [ea, R.bind_ok] at h
    intro v H1 G1 r1 s1 av
    split at h
    · rename_i c' ns ds er
      split at h
      · rename_i hc
        obtain ⟨rfl, hc2, hc3⟩ := hc
        obtain ⟨q, ho, e1, h1, h2, h3, C, dx, xs, c1, rfl, rfl, al⟩ := r1.obj er
        obtain ⟨C', k1, k2, k3⟩ := k.ex
        rw [hK] at c1
        have := c1.inj k1
        subst this
        refine ⟨.ref q, e1, q, C, dx, xs, rfl, h1, k2, k3 f hf, by simpa using hc3, ?_⟩
        refine h G1 _ (r1.mutB er e1 ⟨C, dx, putF f v xs, by rw [hK]; exact c1, rfl, ?_, ?_⟩)
        · rw [putF_new hc2]; simp
        · rw [putF_new hc2, List.map_append]; exact al.snoc av
      · exact h.elim
    · exact h.elim
end
noncomputable def kCI (F : Fx) (x C : Addr) (Q : VK) : R (List Str × List D) → Prop
  | .ok (ns, ds) => ∀ dx xs G' H', Kp F G' H' → G' x = none → H' x = some (.ins C dx xs) → xs.map (·.1) = ns → AtL F.K G' ds (xs.map (·.2)) → Q .non H'
  | .exc _ => False
  | .bad => False
noncomputable def spI (K : PySem.W.Frag) (cn : Str) (n : Nat) (mf : List D → R (List Str × List D)) : Sp := fun vs H Q E => ∃ G x C dx es ws, vs = .ref x :: ws ∧ ClsN K cn C ∧ H x = some (.ins C dx []) ∧ G x = none ∧ Sub G H ∧ AtL K G es ws ∧ es.length = n ∧ kCI ⟨K, G, del H x, fun _ _ => False⟩ x C Q (mf es)
noncomputable def mMake (cn : Str) (n : Nat) (mf : List D → R (List Str × List D)) (ma : MA) : ME := fun ρ => (ma ρ).bind fun ds => if ds.length = n then (noX (mf ds)).bind fun x => .ok (.ins cn x.1 x.2) else .bad
section
variable {X : Cx} {F : Fx} {e : Expr} {es : List Expr} {pos p : Pos} {ma : MA}
theorem i_make {cn : Str} {n : Nat} {mf : List D → R (List Str × List D)} {C : Addr} {E : XK} (hC : ClsN F.K cn C) : ImpE (tE F (mMake cn n mf ma)) (tMake C (spI F.K cn n mf) [] E (tA F ma)) := by
  rintro σ H Q ⟨G, ρ, r, h⟩
  unfold mMake at h
  refine ⟨G, ρ, r, ?_⟩
  cases ea : ma ρ with
  | bad => rw [ea] at h; exact h.elim
  | exc c => rw [ea] at h; exact h
  | ok ds =>
    rw [ea, R.bind_ok] at h
    intro vs H1 G1 r1 s1 av x dx hx hdx ne
    by_cases hn : ds.length = n
    · rw [if_pos hn] at h
      rw [List.append_nil]
      have sH : Sub H1 (del (upd (upd H1 dx (.own x)) x (.ins C dx [])) x) := fun b o e => by
        have n1 : b ≠ x := fun z => by rw [z, hx] at e; cases e
        have n2 : b ≠ dx := fun z => by rw [z, hdx] at e; cases e
        rw [del_ne n1, upd_ne n1, upd_ne n2]; exact e
      have sG : Sub G1 (upd (upd H1 dx (.own x)) x (.ins C dx [])) := r1.kp.sub.trans (sH.trans (del_sub _ _))
      refine ⟨G1, x, C, dx, ds, vs, rfl, hC, upd_same, r1.kp.sub.gone hx, sG, av, hn, ?_⟩
      cases em : mf ds with
      | bad => rw [em] at h; exact h.elim
      | exc c => rw [em] at h; exact h.elim
      | ok y =>
        obtain ⟨ns, es'⟩ := y
        rw [em] at h
        intro dx' xs G' H' k g1 g2 g3 g4
        refine ⟨rfl, ?_⟩
        have hh : Sub H1 H' := sH.trans k.hh
        have nw : ∀ b, H1 b ≠ none → G' b = G1 b := fun b hb => k.new b (sH.some hb)
        have r2 : Rel F G' H' σ ρ := r1.grow k.gg k.sub hh nw
        have no : ¬ OwnAt H' σ ρ x := OwnAt.fresh r1 hh hx
        refine h (.ref x) H' _ (r2.take g2 g1 (r1.kp.hh.gone hx) no) ((s1.trans ⟨k.gg, hh, nw⟩).put (s1.h.gone hx) g1) ?_
        simp only [At]
        exact ⟨x, dx', xs, rfl, ⟨C, hC, upd_same⟩, g3, g4.mono (Sub.upd g1)⟩
    · rw [if_neg hn] at h; exact h.elim
structure KnI (P : Program) (w : World) (K : PySem.W.Frag) (mg : Str → Option Value) (base : Heap) (cn : Str) (n k : Nat) (mf : List D → R (List Str × List D)) : Prop where
  ex : ∃ (C f : Addr) (fd : FuncData) (ps : List Str), ClsN K cn C ∧ Mk K C f ∧ FnOk P w K mg base CX0 k f fd ps (spI K cn n mf) ∧ mg cn = some (.ref C) ∧ Binds K fd ps []
theorem e_make {cn : Str} {n k : Nat} {mf : List D → R (List Str × List D)} (c : KnI X.prog X.w X.K X.mg X.base cn n k mf) (hr : Room (k + 1) X.A) (ha : AM X F (e :: es) ma) (hK : F.K = X.K := by rfl) (hg : Gl X cn := by rfl) (hdb : (cn == ("__debug__" : Str)) = false := by decide)
    (he : starEach (e :: es) X.env = (false, eval e X.env) :: starEach es X.env := by rfl) (hpl : (backTo pos (starEach es X.env)).any (·.1) = false := by rfl) : EM X F (.Call (.Name cn p) (e :: es) [] pos) (mMake cn n mf ma) := by
  obtain ⟨C, f, fd, ps, c1, c2, fo, hm, hb⟩ := c.ex
  refine PE.imp (pe_make c2 fo hr hg hm hb .nil pass0 ha hdb he hpl) ?_
  rw [← hK]
  exact i_make (by rw [hK]; exact c1)
end
noncomputable def iniI (cn : Str) (es : List D) : Rho := .ob (.ins cn [] []) :: es.map .fz
noncomputable def outI (cn : Str) : R Rho → R (List Str × List D)
  | .ok (.ob (.ins c ns ds) :: _) => if c = cn then .ok (ns, ds) else .bad
  | _ => .bad
theorem rel_startI {K : PySem.W.Frag} {G H : Hp} {EX : Str → Hp → Prop} {cn : Str} {C dx x : Addr} {es : List D} {ws : List V} (hC : ClsN K cn C) (h1 : H x = some (.ins C dx [])) (h2 : G x = none) (s : Sub G H) (av : AtL K G es ws) :
    Rel ⟨K, G, del H x, EX⟩ G H (some (.ref x) :: ws.map some) (iniI cn es) := by
  refine ⟨⟨s, Sub.refl _, del_sub H x, fun _ _ => rfl⟩, by simp [iniI, av.length], fun i t e => ?_, fun i j b fs fs' o o' z1 z2 _ _ f f' => ?_⟩
  · cases i with
    | zero =>
      simp [iniI] at e; subst e
      exact ⟨some (.ref x), by simp, x, _, rfl, h1, h2, del_same, C, dx, [], hC, rfl, rfl, .nil⟩
    | succ i =>
      simp only [iniI, List.getElem?_cons_succ] at e ⊢
      rw [List.getElem?_map] at e
      cases ed : es[i]? with
      | none => rw [ed] at e; cases e
      | some d =>
        rw [ed] at e; cases e
        obtain ⟨v, e1, a⟩ := av.get ed
        exact ⟨some v, by rw [List.getElem?_map, e1]; rfl, v, rfl, a⟩
  · have one : ∀ {i : Nat} {fs : Sl} {o : Option V}, (iniI cn es)[i]? = some fs → Foot H fs o b → i = 0 := fun {i fs o} e f => by
      cases i with
      | zero => rfl
      | succ i =>
        simp only [iniI, List.getElem?_cons_succ, List.getElem?_map] at e
        cases ed : es[i]? with
        | none => rw [ed] at e; cases e
        | some d => rw [ed] at e; cases e; exact f.elim
    rw [one z1 f, one z2 f']
theorem init_run {K : PySem.W.Frag} {cn : Str} {n : Nat} {m : MN} {vs : List V} {H : Hp} {Q : VK} {E : XK} (h : spI K cn n (fun es => outI cn (m (iniI cn es))) vs H Q E) :
    ∃ G H0, tN (fxB K G H0) m { nx := fun _ H' => Q .non H', rt := Q } (vs.map some) H := by
  obtain ⟨G, x, C, dx, es, ws, rfl, hC, h1, h2, s, av, l, k⟩ := h
  refine ⟨G, del H x, G, iniI cn es, rel_startI hC h1 h2 s av, ?_⟩
  replace k : kCI ⟨K, G, del H x, fun _ _ => False⟩ x C Q (outI cn (m (iniI cn es))) := k
  cases em : m (iniI cn es) with
  | bad => rw [em] at k; exact k.elim
  | exc c => rw [em] at k; exact k.elim
  | ok ρ' =>
    rw [em] at k
    intro G' H' r
    unfold outI at k
    split at k
    · rename_i cn' ns ds tl heq
      cases heq
      obtain ⟨a, ho, e1, g1, g2, g3, C', dx', xs, c1, rfl, e2, al⟩ := r.obj (i := 0) rfl
      have e1 : some (some (V.ref x)) = some (some (V.ref a)) := e1
      cases e1
      split at k
      · rename_i hc
        subst hc
        have := c1.inj hC
        subst this
        exact k dx' xs G' H' r.kp g2 g1 e2 al
      · exact k.elim
    · exact k.elim
end L3
set_option Elab.async false
set_option linter.all false
set_option maxRecDepth 100000
namespace L3
open PySem PySem.Spec L2 PyProof.Rows
theorem spI_len {K : PySem.W.Frag} {cn : Str} {n : Nat} {mf : List D → R (List Str × List D)} : ∀ vs H Q E, spI K cn n mf vs H Q E → vs.length = n + 1 := fun vs H Q E h => by
  obtain ⟨G, x, C, dx, es, ws, rfl, _, _, _, _, q, l, _⟩ := h
  rw [List.length_cons, ← q.length, l]
theorem start_full {N : List Str} {vs : List V} (h : vs.length = N.length) : L2.start N vs = vs.map some := by
  unfold L2.start
  simp [h]
theorem i_okI {P : Program} {w : World} {K : PySem.W.Frag} {mg : Str → Option Value} {base : Heap} {x qual cn p0 : Str} {st : Stmt} {ps : List Str} {k : Nat} {m : MN} {f : Addr} {fd : FuncData} (fn : Fun K x qual st f fd) (S : FnScope (p0 :: ps) (p0 :: ps) (defScope st))
    (h : ∀ (f : Addr) (cdv : Value) (A : Around) (outer : List Env) (s : Shared) (H : Hp) (E : XK), Room k (A.deeper (PyProof.Rows.envOfC qual (defScope st) s.heap.objs.size f cdv)) → ∀ G0 H0, PSs (cxOf CX0 P w K mg base (p0 :: ps) qual (defScope st) f cdv A outer s H E).nox (defBody st) (tN (fxB K G0 H0) m)) :
    FnOk P w K mg base CX0 (k + 1) f fd (p0 :: ps) (spI K cn ps.length fun es => outI cn (m (iniI cn es))) := fn.ok S spI_len fun cdv A outer s H vs Q E hr hs => by
  have hl := spI_len vs H Q E hs
  obtain ⟨G, H0, ht⟩ := init_run hs
  refine ⟨_, h f cdv A outer s H E hr G H0, ?_⟩
  rw [start_full (by simpa using hl)]
  exact ht
theorem m_ok {P : Program} {w : World} {K : PySem.W.Frag} {mg : Str → Option Value} {base : Heap} {x qual cn p0 : Str} {st : Stmt} {N ps : List Str} {k : Nat} {m : MS} {C f : Addr} {fd : FuncData} (fn : Fun K x qual st f fd) (hC : ClsN K cn C) (hc : Cls K C) (hm : Meth K C x f) (hb : Binds K fd (p0 :: ps) []) (S : FnScope N (p0 :: ps) (defScope st))
    (h : ∀ (f : Addr) (cdv : Value) (A : Around) (outer : List Env) (s : Shared) (H : Hp) (E : XK), Room k (A.deeper (PyProof.Rows.envOfC qual (defScope st) s.heap.objs.size f cdv)) → ∀ G0 H0, XBM (cxOf CX0 P w K mg base N qual (defScope st) f cdv A outer s H E).nox (fxB K G0 H0) (defBody st) m) :
    KnM P w K mg base cn x ps.length (k + 1) (mDef N.length m) := by
  refine ⟨C, f, fd, p0 :: ps, hC, hc, hm, fn.ok S spM_len fun cdv A outer s H vs Q E hr hs => ?_, hb⟩
  obtain ⟨G, ht⟩ := body_of hs
  exact ⟨_, (h f cdv A outer s H E hr G H).1, ht⟩
section
variable {X : Cx} {F : Fx} {e a b c : Expr} {es : List Expr} {pos p : Pos} {m n : ME} {ma : MA}
noncomputable def tupleD : List D → R D
  | [.lst xs] => .ok (.tup xs)
  | [.scr xs] => .ok (.tup xs)
  | [.tup xs] => .ok (.tup xs)
  | _ => .bad
theorem ok_tuple (hK : F.K = X.K) : CallOk F (fun xs H Q => ∃ p ys, xs = [.ref p] ∧ ((SqL X.K H p ys ∧ ∀ l, H l = none → Q (.ref l) (upd H l (.tup ys))) ∨ (SqT X.K H p ys ∧ Q (.ref p) H))) tupleD := by
  intro σ ρ G H xs ds Q r al k
  unfold tupleD at k
  split at k
  · obtain ⟨v, rfl, av⟩ := al.one
    simp only [At] at av
    obtain ⟨q, ys, rfl, hq, aq⟩ := av
    refine ⟨q, ys, rfl, .inl ⟨SqL.of (r.kp.sub _ _ hq), fun l hl => ?_⟩⟩
    refine k (.ref l) _ _ (r.lay hl) (Up.lay r.kp.sub hl) ?_
    simp only [At]
    exact ⟨l, ys, rfl, upd_same, aq.mono (Sub.upd (r.kp.sub.gone hl))⟩
  · obtain ⟨v, rfl, av⟩ := al.one
    simp only [At] at av
    obtain ⟨q, ys, rfl, hq, aq⟩ := av
    refine ⟨q, ys, rfl, .inl ⟨by rw [← hK]; exact SqL.mono r.kp.sub hq, fun l hl => ?_⟩⟩
    refine k (.ref l) _ _ (r.lay hl) (Up.lay r.kp.sub hl) ?_
    simp only [At]
    exact ⟨l, ys, rfl, upd_same, aq.mono (Sub.upd (r.kp.sub.gone hl))⟩
  · obtain ⟨v, rfl, av⟩ := al.one
    have av' := av
    simp only [At] at av
    obtain ⟨q, ys, rfl, hq, aq⟩ := av
    exact ⟨q, ys, rfl, .inr ⟨SqT.of (r.kp.sub _ _ hq), k _ H G r (Up.refl _ _) av'⟩⟩
  · exact k.elim
theorem e_tuple (hm : X.mg "tuple" = none) (ha : AM X F [e] ma) (hK : F.K = X.K := by rfl) (hg : Gl X "tuple" := by rfl) (he : starEach [e] X.env = (false, eval e X.env) :: starEach [] X.env := by rfl) (hpl : (backTo pos (starEach [] X.env)).any (·.1) = false := by rfl) :
    EM X F (.Call (.Name "tuple" p) [e] [] pos) (mCB tupleD ma) := e_callT call_tuple_of (ok_tuple hK) hm (by kernel_rfl) ha hg (by decide) (by decide) he hpl
end
end L3
set_option Elab.async false
set_option linter.all false
set_option maxRecDepth 100000
namespace HT
open PySem PyProof.Rows
section
variable {prog : Program} {w : World} {A : Around} {E : Value → Shared → Prop} {s : Shared}
theorem cat_tup0 {t b : Addr} {ws : List Value} {Q : Value → Shared → Prop} (ht : IsTup s.heap t ([] : List Value).toArray) (hb : IsTup s.heap b ws.toArray) (h : Q (.ref b) s) : wpAny (model prog w) A (binaryOp .Add (.ref t) (.ref b)) Q E s := by
  obtain ⟨⟨cls, dd, data, sl⟩, ho, hc, n, hd⟩ := id ht
  obtain ⟨⟨cls2, dd2, data2, sl2⟩, ho2, hc2, n2, hd2⟩ := id hb
  simp only at hc hd hc2 hd2
  subst hc hd hc2 hd2
  exact concat_meets ⟨_, ho, rfl⟩ ⟨_, ho2, rfl⟩ noFill_tuple_add seq_tuple_add PySem.F.slot_tuple_add PySem.F.entry_tuple_add (PySem.F.args_tuple_add_2 _ _)
    (tuple_addW0 t b ([] : List Value).toArray ws.toArray n n2 dd dd2 sl sl2 (by simp)) ⟨ho, ho2, h⟩
end
end HT
namespace L2
open PySem PySem.Spec PyProof.Rows
variable {X : Cx}
noncomputable def rCatT0 (K : PySem.W.Frag) : R2 := fun x y H Q => ∃ a b ys, x = .ref a ∧ y = .ref b ∧ SqT K H a [] ∧ SqT K H b ys ∧ Q (.ref b) H
theorem op_catT0 : OpR X (binaryOp .Add) (rCatT0 X.K) := by
  intro pins s σ H x y v u Q I rx ry h
  obtain ⟨a, b, ys, rfl, rfl, ha, hb, q⟩ := h
  cases rx
  cases ry
  obtain ⟨its, r1, p1, _⟩ := I.tuple ha
  cases r1
  obtain ⟨its2, r2, p2, _⟩ := I.tuple hb
  exact HT.cat_tup0 p1 p2 ⟨.ref b, H, I, rfl, q⟩
end L2
namespace L3
open PySem PySem.Spec L2 PyProof.Rows
section
variable {X : Cx} {F : Fx} {e a b c : Expr} {es : List Expr} {pos p : Pos} {m n : ME} {ma : MA}
noncomputable def catD : D → D → R D
  | .tup xs, .tup ys => if xs.length + ys.length ≤ 1000000 then .ok (.tup (xs ++ ys)) else .bad
  | _, _ => .bad
theorem ok_cat (hK : F.K = X.K) : OpOk F (fun x y H Q => rCatT X.K x y H Q ∨ rCatT0 X.K x y H Q) catD := by
  intro σ ρ G H x y dx dy Q r ax ay k
  unfold catD at k
  split at k
  · rename_i ds es
    have ax' := ax
    have ay' := ay
    simp only [At] at ax ay
    split at k
    · rename_i hl
      obtain ⟨p, xs, rfl, h1, q1⟩ := ax
      obtain ⟨p2, ys, rfl, h2, q2⟩ := ay
      by_cases hx : xs = []
      · subst hx
        refine .inr ⟨p, p2, ys, rfl, rfl, SqT.of (r.kp.sub _ _ h1), SqT.of (r.kp.sub _ _ h2), ?_⟩
        have e : ds = [] := List.eq_nil_of_length_eq_zero (by rw [q1.length]; rfl)
        subst e
        exact k _ H G r (Up.refl _ _) ay'
      · refine .inl ⟨p, p2, xs, ys, rfl, rfl, SqT.of (r.kp.sub _ _ h1), SqT.of (r.kp.sub _ _ h2), hx, by rw [← q1.length, ← q2.length]; exact Nat.le_trans hl (by decide), fun hy => ?_, fun _ l hn => ?_⟩
        · subst hy
          have e : es = [] := List.eq_nil_of_length_eq_zero (by rw [q2.length]; rfl)
          subst e
          rw [List.append_nil] at k
          exact k _ H G r (Up.refl _ _) ax'
        · refine k (.ref l) _ _ (r.lay hn) (Up.lay r.kp.sub hn) ?_
          simp only [At]
          exact ⟨l, xs ++ ys, rfl, upd_same, (q1.append q2).mono (Sub.upd (r.kp.sub.gone hn))⟩
    · exact k.elim
  · exact k.elim
theorem e_cat (ha : EM X F a m) (hb : EM X F b n) (hK : F.K = X.K := by rfl) : EM X F (.BinOp a .Add b pos) (mBin catD m n) := e_bin (op_catT.or op_catT0) (ok_cat hK) ha hb
noncomputable def slT (d : D) (l h : Option Int) : R D := match d with
  | .tup xs => if HT.sIx xs.length 0 l = 0 ∧ HT.sIx xs.length xs.length h = xs.length then .bad else .ok (.tup (cutL xs l h))
  | _ => .bad
theorem i_slT (hK : F.K = X.K) {lo hi : MP} : ImpE (tE F (mSl slT m lo hi)) (tSl (rSlT X.K) (tE F m) (tP F lo) (tP F hi)) := by
  rintro σ H Q ⟨G, ρ, r, h⟩
  unfold mSl at h
  refine ⟨G, ρ, r, ?_⟩
  cases ea : m ρ with
  | bad => rw [ea] at h; exact h.elim
  | exc c => rw [ea] at h; exact h
  | ok d =>
    rw [ea, R.bind_ok] at h
    intro x H1 G1 r1 s1 ax
    refine ⟨G1, ρ, r1, ?_⟩
    cases el : lo ρ with
    | bad => rw [el] at h; exact h.elim
    | exc c => rw [el] at h; exact h
    | ok l =>
      rw [el, R.bind_ok] at h
      intro H2 G2 r2 s2
      refine ⟨G2, ρ, r2, ?_⟩
      cases eh : hi ρ with
      | bad => rw [eh] at h; exact h.elim
      | exc c => rw [eh] at h; exact h
      | ok u =>
        rw [eh, R.bind_ok] at h
        intro H3 G3 r3 s3
        have up := (s1.trans s2).trans s3
        have ax3 := (ax.mono s2.g).mono s3.g
        cases d with
        | tup ds =>
          simp only [slT] at h
          split at h
          · exact h.elim
          · rename_i hw
            simp only [At] at ax3
            obtain ⟨q, xs, rfl, hq, aq⟩ := ax3
            rw [aq.length] at hw
            refine ⟨q, xs, rfl, SqT.of (r3.kp.sub _ _ hq), hw, fun l' hn => ?_⟩
            refine h (.ref l') _ _ (r3.lay hn) (up.trans (Up.lay r3.kp.sub hn)) ?_
            simp only [At]
            exact ⟨l', _, rfl, upd_same, (aq.cut l u).mono (Sub.upd (r3.kp.sub.gone hn))⟩
        | _ => exact h.elim
theorem e_slT {lo hi : Option Expr} {p2 : Pos} {ml mh : MP} (ha : EM X F a m) (hl : PM X F lo ml) (hh : PM X F hi mh) (hK : F.K = X.K := by rfl) : EM X F (.Subscript a (.Slice lo hi none p2) pos) (mSl slT m ml mh) := PE.imp (pe_slice sl_tup ha hl hh) (i_slT hK)
instance (i j : Int) : Decidable (IntMulOk i j) := by unfold IntMulOk; infer_instance
end
end L3
set_option Elab.async false
set_option linter.all false
set_option maxRecDepth 100000
namespace L3
open PySem PySem.Spec L2 PyProof.Rows
section
variable {X : Cx} {F : Fx} {e a b c : Expr} {es : List Expr} {pos p : Pos} {m n : ME} {ma : MA}
noncomputable def mCatV (i : Nat) (m : ME) : MA := fun ρ => (ownAt i ρ).bind fun ds => (m ρ).bind fun d => match d with
  | .lst es => if ds.length + es.length ≤ 1000000 then .ok (ds ++ es) else .bad
  | _ => .bad
end
end L3
set_option Elab.async false
set_option linter.all false
set_option maxRecDepth 100000
namespace L3
open PySem PySem.Spec L2
section
variable {X : Cx} {F : Fx} {e a b c o tg iter elt : Expr} {es : List Expr} {pos p : Pos} {m n : ME} {ma : MA} {st : Stmt} {sts : List Stmt}
theorem xe_fld {cn f : Str} {fs : List Str} (k : ClF X.K cn fs) (he : XEM X F o m) (hf : f ∈ fs := by decide +kernel) (hK : F.K = X.K := by rfl) (hb : attributeBase o f X.env (eval o X.env) = eval o X.env := by rfl) : XEM X F (.Attribute o f pos) (mUn (fldD cn f) m) := ⟨L3.e_fld (k := k) (he := he.1) (hf := hf) (hK := hK) (hb := hb)⟩
theorem xe_meth {cn mt : Str} {n k : Nat} {mf : List D → R Rt} {pl : Sem Bool} {apos : Pos} (c : KnM X.prog X.w X.K X.mg X.base cn mt n k mf) (hr : Room k X.A) (he : XEM X F o m) (ha : XAM X F (e :: es) ma) (hE : F.EX = fun _ _ => False := by rfl) (hK : F.K = X.K := by rfl) (hst : starEach (e :: es) X.env = (false, eval e X.env) :: starEach es X.env := by rfl) (hpl : (backTo pos (starEach es X.env)).any (·.1) = false := by rfl) (ht : eval (.Call (.Attribute o mt apos) (e :: es) [] pos) X.env = (do
      let ov ← eval o X.env
      standAt apos.atName
      let (f, first) ← holding [ov] (getMethod ov mt pl)
      callWith pos f first (backTo pos (starEach (e :: es) X.env)) (backToKw pos (keywordEach [] X.env))) := by rfl) : XEM X F (.Call (.Attribute o mt apos) (e :: es) [] pos) (mMeth cn mt n mf m ma) := ⟨L3.e_meth (c := c) (hr := hr) (he := he.1) (ha := ha.1) (hE := hE) (hK := hK) (hst := hst) (hpl := hpl) (ht := ht)⟩
theorem xt_din (hu : X.A.units + 64 < cLine) (ha : XEM X F a m) (hb : XEM X F b n) (h1 : behindInMarks .In b = false := by with_unfolding_all rfl) : XTM X F (.Compare a [.In] [b] pos) (mB (mBin (dinD true) m n)) := ⟨L3.t_din (hu := hu) (ha := ha.1) (hb := hb.1) (h1 := h1)⟩
theorem xs_setD (i : Nat) {x : Str} {p q : Pos} (hN : X.N.Nodup) (hi : X.N[i]? = some x := by rfl) (hx : Loc X.env.scope x := by first | exact Or.inl rfl | exact Or.inr rfl) (hf : X.fn x = true ∨ X.env.scope.names.lookup x = some .local := by first | exact .inl rfl | exact .inr rfl) : XSM X F (.Assign [.Name x p] (.Dict [] [] q) pos) (mSetD i) := ⟨L3.s_setD (i := i) (hN := hN) (hi := hi) (hx := hx) (hf := hf)⟩
theorem xs_dput (i : Nat) {x : Str} {px pos' : Pos} {k v : Expr} {mk mv : ME} (hu : X.A.units + 64 < cLine) (hk : XEM X F k mk) (hv : XEM X F v mv) (hN : X.N[i]? = some x := by rfl) (hvs : Vis X.env.scope x := by first | exact Or.inl rfl | exact Or.inr (Or.inl rfl) | exact Or.inr (Or.inr rfl)) (hd : (x == ("__debug__" : Str)) = false := by decide) (hcd : (x == ("__classdict__" : Str)) = false := by decide) (hs : notComp v = true := by rfl) : XSM X F (.Assign [.Subscript (.Name x px) k pos'] v pos) (mDPut i mk mv) := ⟨L3.s_dput (i := i) (hu := hu) (hk := hk.1) (hv := hv.1) (hN := hN) (hvs := hvs) (hd := hd) (hcd := hcd) (hs := hs)⟩
theorem xs_retZ (h : XEM X F e m) : XSM X F (.Return (some e) pos) (mRetZ m) := ⟨L3.s_retZ (h := h.1)⟩
theorem xs_bad {st : Stmt} : XSM X F st mBad := ⟨L3.s_bad ⟩
theorem xe_borI (h : XEM X F e m) : XEM X F e (mBorI m) := ⟨L3.e_borI (h := h.1)⟩
theorem xe_make {cn : Str} {n k : Nat} {mf : List D → R (List Str × List D)} (c : KnI X.prog X.w X.K X.mg X.base cn n k mf) (hr : Room (k + 1) X.A) (ha : XAM X F (e :: es) ma) (hK : F.K = X.K := by rfl) (hg : Gl X cn := by rfl) (hdb : (cn == ("__debug__" : Str)) = false := by decide) (he : starEach (e :: es) X.env = (false, eval e X.env) :: starEach es X.env := by rfl) (hpl : (backTo pos (starEach es X.env)).any (·.1) = false := by rfl) : XEM X F (.Call (.Name cn p) (e :: es) [] pos) (mMake cn n mf ma) := ⟨L3.e_make (c := c) (hr := hr) (ha := ha.1) (hK := hK) (hg := hg) (hdb := hdb) (he := he) (hpl := hpl)⟩
theorem xe_tuple (hm : X.mg "tuple" = none) (ha : XAM X F [e] ma) (hK : F.K = X.K := by rfl) (hg : Gl X "tuple" := by rfl) (he : starEach [e] X.env = (false, eval e X.env) :: starEach [] X.env := by rfl) (hpl : (backTo pos (starEach [] X.env)).any (·.1) = false := by rfl) : XEM X F (.Call (.Name "tuple" p) [e] [] pos) (mCB tupleD ma) := ⟨L3.e_tuple (hm := hm) (ha := ha.1) (hK := hK) (hg := hg) (he := he) (hpl := hpl)⟩
theorem xe_cat (ha : XEM X F a m) (hb : XEM X F b n) (hK : F.K = X.K := by rfl) : XEM X F (.BinOp a .Add b pos) (mBin catD m n) := ⟨L3.e_cat (ha := ha.1) (hb := hb.1) (hK := hK)⟩
theorem xe_slT {lo hi : Option Expr} {p2 : Pos} {ml mh : MP} (ha : XEM X F a m) (hl : XPM X F lo ml) (hh : XPM X F hi mh) (hK : F.K = X.K := by rfl) : XEM X F (.Subscript a (.Slice lo hi none p2) pos) (mSl slT m ml mh) := ⟨L3.e_slT (ha := ha.1) (hl := hl.1) (hh := hh.1) (hK := hK)⟩
structure XNM (X : Cx) (F : Fx) (st : Stmt) (m : MN) : Prop where
  o : PS X st (tN F m)
structure XNB (X : Cx) (F : Fx) (st : List Stmt) (m : MN) : Prop where
  o : PSs X st (tN F m)
theorem xn_one {m : MN} (h : XNM X F st m) : XNB X F [st] m := ⟨pss_one h.1⟩
theorem xn_cons {a b : MN} (h : XNM X F st a) (k : XNB X F sts b) : XNB X F (st :: sts) (mThen a b) := ⟨PSs.imp (pss_cons h.1 k.1) i_then⟩
theorem xn_guard {c : Expr} {r : Stmt} {k : MT} (h : XTM X F c k) : XNM X F (.If c [r] [] pos) (mGuard k) := ⟨PS.imp (ps_if h.1 (pss_one ps_never) pss_nil) i_guard⟩
theorem xn_fld {cn f x : Str} {fs : List Str} {px pos' : Pos} (k : ClF X.K cn fs) (he : XEM X F e m) (hf : f ∈ fs := by decide +kernel) (hN : X.N[0]? = some x := by rfl) (hv : Vis X.env.scope x := by first | exact Or.inl rfl | exact Or.inr (Or.inl rfl) | exact Or.inr (Or.inr rfl)) (hd : (x == ("__debug__" : Str)) = false := by decide) (hcd : (x == ("__classdict__" : Str)) = false := by decide) (hs : notComp e = true := by rfl) (hK : F.K = X.K := by rfl) :
    XNM X F (.Assign [.Attribute (.Name x px) f pos'] e pos) (mFldSet cn f m) := ⟨L3.s_fldset k he.1 hf hN hv hd hcd hs hK⟩
end
structure MdK (K : PySem.W.Frag) (cn x qual : Str) (st : Stmt) (ps : List Str) : Prop where
  ex : ∃ (C f : Addr) (fd : FuncData), ClsN K cn C ∧ Cls K C ∧ Meth K C x f ∧ Fun K x qual st f fd ∧ Binds K fd ps []
structure InK (K : PySem.W.Frag) (mg : Str → Option Value) (cn qual : Str) (st : Stmt) (ps : List Str) : Prop where
  ex : ∃ (C f : Addr) (fd : FuncData), ClsN K cn C ∧ Mk K C f ∧ Fun K "__init__" qual st f fd ∧ mg cn = some (.ref C) ∧ Binds K fd ps []
theorem xm_ok {P : Program} {w : World} {K : PySem.W.Frag} {mg : Str → Option Value} {base : Heap} {x qual cn p0 : Str} {st : Stmt} {N ps : List Str} {k : Nat} {m : MS} (d : MdK K cn x qual st (p0 :: ps)) (S : FnScope N (p0 :: ps) (defScope st))
    (h : ∀ (f : Addr) (cdv : Value) (A : Around) (outer : List Env) (s : Shared) (H : Hp) (E : XK), Room k (A.deeper (PyProof.Rows.envOfC qual (defScope st) s.heap.objs.size f cdv)) → ∀ G0 H0, XBM (cxOf CX0 P w K mg base N qual (defScope st) f cdv A outer s H E).nox (fxB K G0 H0) (defBody st) m) :
    KnM P w K mg base cn x ps.length (k + 1) (mDef N.length m) := by
  obtain ⟨C, f, fd, h1, h2, h3, h4, h5⟩ := d.ex
  exact m_ok h4 h1 h2 h3 h5 S h
theorem xi_ok {P : Program} {w : World} {K : PySem.W.Frag} {mg : Str → Option Value} {base : Heap} {qual cn p0 : Str} {st : Stmt} {ps : List Str} {k : Nat} {m : MN} (d : InK K mg cn qual st (p0 :: ps)) (S : FnScope (p0 :: ps) (p0 :: ps) (defScope st))
    (h : ∀ (f : Addr) (cdv : Value) (A : Around) (outer : List Env) (s : Shared) (H : Hp) (E : XK), Room k (A.deeper (PyProof.Rows.envOfC qual (defScope st) s.heap.objs.size f cdv)) → ∀ G0 H0, XNB (cxOf CX0 P w K mg base (p0 :: ps) qual (defScope st) f cdv A outer s H E).nox (fxB K G0 H0) (defBody st) m) :
    KnI P w K mg base cn ps.length (k + 1) (fun es => outI cn (m (iniI cn es))) := by
  obtain ⟨C, f, fd, h1, h2, h3, h4, h5⟩ := d.ex
  exact ⟨C, f, fd, p0 :: ps, h1, h2, i_okI h3 S fun f cdv A outer s H E hr G0 H0 => (h f cdv A outer s H E hr G0 H0).1, h4, h5⟩
end L3
set_option Elab.async false
set_option linter.all false
set_option maxRecDepth 100000
namespace L3
open PySem PySem.Spec L2 PyProof.Rows
section
variable {K : PySem.W.Frag} {G G' H H' : Hp}
theorem TAtL.nil : TAtL K G H [] [] := by simp only [TAtL]
theorem TAtL.cons {t : T} {ts : List T} {v : V} {vs : List V} (h : TAt K G H t v) (k : TAtL K G H ts vs) : TAtL K G H (t :: ts) (v :: vs) := by
  simp only [TAtL]; exact ⟨v, vs, rfl, h, k⟩
theorem TAtL.length : ∀ {ts : List T} {vs : List V}, TAtL K G H ts vs → ts.length = vs.length
  | [], _, h => by simp only [TAtL] at h; subst h; rfl
  | _ :: _, _, h => by
    simp only [TAtL] at h
    obtain ⟨v, r, rfl, _, t⟩ := h
    simp [TAtL.length t]
theorem tl_get : ∀ {ts : List T} {vs : List V} {i : Nat} {t : T}, TAtL K G H ts vs → ts[i]? = some t → ∃ v, vs[i]? = some v ∧ TAt K G H t v
  | [], _, _, _, _, e => by simp at e
  | _ :: _, _, 0, _, h, e => by
    simp only [TAtL] at h
    obtain ⟨v, r, rfl, q, t⟩ := h
    simp at e; subst e
    exact ⟨v, by simp, q⟩
  | _ :: _, _, i + 1, d, h, e => by
    simp only [TAtL] at h
    obtain ⟨v, r, rfl, q, t⟩ := h
    obtain ⟨u, h1, h2⟩ := tl_get (i := i) (t := d) t (by simpa using e)
    exact ⟨u, by simpa using h1, h2⟩
theorem TAtL.append : ∀ {ts us : List T} {vs ws : List V}, TAtL K G H ts vs → TAtL K G H us ws → TAtL K G H (ts ++ us) (vs ++ ws) ∧ fpL H (ts ++ us) (vs ++ ws) = fpL H ts vs ++ fpL H us ws
  | [], _, _, _, h, t => by simp only [TAtL] at h; subst h; exact ⟨t, by rw [fpL_nil]; rfl⟩
  | _ :: _, _, _, _, h, t => by
    simp only [TAtL] at h
    obtain ⟨v, r, rfl, q, s⟩ := h
    obtain ⟨h1, h2⟩ := TAtL.append s t
    exact ⟨.cons q h1, by rw [List.cons_append, List.cons_append, fpL_cons, fpL_cons, h2, List.append_assoc]⟩
theorem TAtL.take : ∀ (n : Nat) {ts : List T} {vs : List V}, TAtL K G H ts vs → TAtL K G H (ts.take n) (vs.take n) ∧ List.Sublist (fpL H (ts.take n) (vs.take n)) (fpL H ts vs)
  | 0, _, _, _ => ⟨by simpa using TAtL.nil, by simp [fpL_nil]⟩
  | _ + 1, [], _, h => by simp only [TAtL] at h; subst h; exact ⟨by simpa using TAtL.nil, by simp [fpL_nil]⟩
  | n + 1, _ :: _, _, h => by
    simp only [TAtL] at h
    obtain ⟨v, r, rfl, q, t⟩ := h
    obtain ⟨h1, h2⟩ := TAtL.take n t
    exact ⟨.cons q h1, by rw [List.take_succ_cons, List.take_succ_cons, fpL_cons, fpL_cons]; exact h2.append_left _⟩
theorem tl_fz : ∀ {ds : List D} {xs : List V}, AtL K G ds xs → TAtL K G H (ds.map T.fz) xs ∧ fpL H (ds.map T.fz) xs = []
  | [], _, h => by simp only [AtL] at h; subst h; exact ⟨.nil, fpL_nil⟩
  | _ :: _, _, h => by
    simp only [AtL] at h
    obtain ⟨v, r, rfl, q, t⟩ := h
    obtain ⟨h1, h2⟩ := tl_fz t
    exact ⟨.cons (by simp only [TAt]; exact q) h1, by rw [List.map_cons, fpL_cons, h2]; simp only [fp, List.append_nil]⟩
theorem fpL_mem : ∀ {ts : List T} {xs : List V} {k : Nat} {t : T} {v : V} {b : Addr}, ts[k]? = some t → xs[k]? = some v → b ∈ fp H t v → b ∈ fpL H ts xs
  | [], _, _, _, _, _, e, _, _ => by simp at e
  | _ :: _, [], _, _, _, _, _, e, _ => by simp at e
  | _ :: _, _ :: _, 0, _, _, _, e1, e2, h => by
    simp at e1 e2; subst e1 e2
    rw [fpL_cons]; exact List.mem_append_left _ h
  | _ :: _, _ :: _, k + 1, _, _, _, e1, e2, h => by
    rw [fpL_cons]; exact List.mem_append_right _ (fpL_mem (by simpa using e1) (by simpa using e2) h)
theorem tl_putK {us us' : List T} {q : Addr} {ys ys' : List V} (hq : H q = some (.lst ys)) (n : TAtL K G H us' ys') (f : fpL H us' ys' = fpL H us ys) : ∀ {ts : List T} {xs : List V} {k : Nat}, TAtL K G H ts xs → (fpL H ts xs).Nodup → ts[k]? = some (.lst us) → xs[k]? = some (.ref q) →
    TAtL K G (upd H q (.lst ys')) (ts.set k (.lst us')) xs ∧ fpL (upd H q (.lst ys')) (ts.set k (.lst us')) xs = fpL H ts xs
  | [], _, _, _, _, e, _ => by simp at e
  | t :: ts, _, k, h, nd, e1, e2 => by
    simp only [TAtL] at h
    obtain ⟨v, r, rfl, h1, h2⟩ := h
    rw [fpL_cons] at nd ⊢
    obtain ⟨nd1, nd2, nd3⟩ := List.nodup_append.mp nd
    cases k with
    | zero =>
      simp at e1 e2
      subst e1 e2
      have ef : fp H (.lst us) (.ref q) = q :: fpL H us ys := fp_lst hq
      rw [ef] at nd1 nd3 ⊢
      have n1 : q ∉ fpL H us ys := (List.nodup_cons.mp nd1).1
      have n2 : q ∉ fpL H ts r := fun z => nd3 q (by simp) q z rfl
      obtain ⟨w1, w2⟩ := n.keep (H' := upd H q (.lst ys')) fun b hb => upd_ne fun z => n1 (by rw [← z, ← f]; exact hb)
      obtain ⟨w3, w4⟩ := h2.keep (H' := upd H q (.lst ys')) fun b hb => upd_ne fun z => n2 (by rw [← z]; exact hb)
      refine ⟨.cons ?_ w3, ?_⟩
      · simp only [TAt]; exact ⟨q, ys', rfl, upd_same, w1⟩
      · rw [List.set_cons_zero, fpL_cons, fp_lst upd_same, w2, w4, f]
    | succ k =>
      simp only [List.getElem?_cons_succ] at e1 e2
      have mq : q ∈ fpL H ts r := fpL_mem e1 e2 (by rw [fp_lst hq]; simp)
      have n1 : q ∉ fp H t v := fun z => nd3 q z q mq rfl
      obtain ⟨w1, w2⟩ := h1.keepU (o := .lst ys') n1
      obtain ⟨w3, w4⟩ := tl_putK hq n f h2 nd2 e1 e2
      exact ⟨.cons w1 w3, by rw [List.set_cons_succ, fpL_cons, w2, w4]⟩
end
section
variable {F : Fx} {G H : Hp} {σ : L2.St} {ρ : Rho}
theorem Rel.mutK (r : Rel F G H σ ρ) {i k : Nat} {ts us us' : List T} {a q : Addr} {xs ys ys' : List V} (e : ρ[i]? = some (.tr (.lst ts))) (e1 : σ[i]? = some (some (.ref a))) (ha : H a = some (.lst xs)) (ek : ts[k]? = some (.lst us)) (ex : xs[k]? = some (.ref q)) (hq : H q = some (.lst ys))
    (n : TAtL F.K G H us' ys') (f : fpL H us' ys' = fpL H us ys) : Rel F G (upd H q (.lst ys')) σ (ρ.set i (.tr (.lst (ts.set k (.lst us'))))) := by
  obtain ⟨v, e2, w1, w2, w3⟩ := r.tree e
  rw [e1] at e2; cases e2
  simp only [TAt] at w1
  obtain ⟨a', xs', ea, ha', wl⟩ := w1
  cases ea
  rw [ha] at ha'; cases ha'
  have ef : fp H (.lst ts) (.ref a) = a :: fpL H ts xs := fp_lst ha
  rw [ef] at w2 w3
  obtain ⟨nd1, nd2⟩ := List.nodup_cons.mp w2
  have mq : q ∈ fpL H ts xs := fpL_mem ek ex (by rw [fp_lst hq]; simp)
  have na : a ≠ q := fun z => nd1 (by rw [z]; exact mq)
  obtain ⟨p1, p2⟩ := tl_putK hq n f wl nd2 ek ex
  have ha2 : upd H q (.lst ys') a = some (.lst xs) := by rw [upd_ne na]; exact ha
  have ef2 : fp (upd H q (.lst ys')) (.lst (ts.set k (.lst us'))) (.ref a) = a :: fpL H ts xs := by rw [fp_lst ha2, p2]
  refine r.mutS e e1 (a := q) ⟨.ref a, rfl, by rw [ef]; exact List.mem_cons_of_mem _ mq⟩ ⟨.ref a, rfl, ⟨?_, ?_, ?_⟩⟩ fun b fb => .inl ?_
  · simp only [TAt]; exact ⟨a, xs, rfl, ha2, p1⟩
  · rw [ef2]; exact w2
  · rw [ef2]; exact w3
  · obtain ⟨u, eu, hb⟩ := fb
    cases eu
    rw [ef2, ← ef] at hb
    exact ⟨.ref a, rfl, hb⟩
end
section
variable {X : Cx} {F : Fx} {e a b c tg iter elt : Expr} {es : List Expr} {pos p : Pos} {m n : ME} {ma : MA}
theorem xs_retVT (i : Nat) {x : Str} {p : Pos} (hN : X.N[i]? = some x := by rfl) (hv : Vis X.env.scope x := by first | exact Or.inl rfl | exact Or.inr (Or.inl rfl) | exact Or.inr (Or.inr rfl)) (hd : (x == ("__debug__" : Str)) = false := by decide) (hcd : (x == ("__classdict__" : Str)) = false := by decide) :
    XSM X F (.Return (some (.Name x p)) pos) (mRetT (mVarT i)) := ⟨PS.imp (ps_ret (pe_var hN hv hd hcd)) (i_retVT i)⟩
noncomputable def treeAt (i : Nat) (ρ : Rho) : R (List T) := match ρ[i]? with
  | some (.tr (.lst ts)) => .ok ts
  | _ => .bad
theorem treeAt_ok {i : Nat} {ρ : Rho} {ts : List T} (h : treeAt i ρ = .ok ts) : ρ[i]? = some (.tr (.lst ts)) := by
  unfold treeAt at h
  split at h
  · rename_i e; cases h; exact e
  · cases h
theorem treeAt_noexc {i : Nat} {ρ : Rho} {c : Str} (h : treeAt i ρ = .exc c) : False := by
  unfold treeAt at h
  split at h <;> cases h
theorem Rel.root {G H : Hp} {σ : L2.St} {ρ : Rho} (r : Rel F G H σ ρ) {i : Nat} {ts : List T} (e : ρ[i]? = some (.tr (.lst ts))) : ∃ a xs, σ[i]? = some (some (.ref a)) ∧ H a = some (.lst xs) ∧ TAtL F.K G H ts xs ∧ (fpL H ts xs).Nodup := by
  obtain ⟨v, e2, w1, w2, w3⟩ := r.tree e
  simp only [TAt] at w1
  obtain ⟨a, xs, rfl, ha, wl⟩ := w1
  rw [fp_lst ha] at w2
  exact ⟨a, xs, e2, ha, wl, (List.nodup_cons.mp w2).2⟩
end
end L3
set_option Elab.async false
set_option linter.all false
set_option maxRecDepth 100000
namespace L3
open PySem PySem.Spec L2
noncomputable def lstT (ds : List D) : T := .lst (ds.map T.fz)
noncomputable def compGoT (set : D → Rho → R Rho) (tst : MT) (elt : MA) : List D → Rho → List T → R (List T)
  | [], _, ws => .ok ws
  | d :: ds, ρ, ws => (set d ρ).bind fun ρ1 => (tst ρ1).bind fun b => if b = true then (elt ρ1).bind fun y => if ws.length < 1000000 then compGoT set tst elt ds ρ1 (ws ++ [lstT y]) else .bad else compGoT set tst elt ds ρ1 ws
noncomputable def mCompT (nl : Nat) (caps : List Nat) (mi : MA) (set : D → Rho → R Rho) (tst : MT) (elt : MA) : MTr := fun ρ => (mi ρ).bind fun ds => (noX (compGoT set tst elt ds (blkR nl caps ρ) [])).bind fun ts => .ok (.lst ts)
noncomputable def xO (K : PySem.W.Frag) (m : MA) : TE := fun σ H Q => ∃ G0 H0, tO (fxB K G0 H0) m σ H Q
section
variable {F : Fx}
theorem i_compT {nl : Nat} {caps : List Nat} {mi : MA} {set : D → Rho → R Rho} {tst : MT} {elt : MA} {g : TG} (hg : ∀ G H, GOk (fxB F.K G H) g set) (hx : ∀ d ρ c, set d ρ ≠ .exc c) (hk : Keeps set) :
    ImpE (tTr F (mCompT nl caps mi set tst elt)) (tComp (tI F mi) g (xT F.K tst) (xO F.K elt) nl caps) := by
  rintro σ H Q ⟨G, ρ, r, h⟩
  unfold mCompT at h
  refine ⟨G, ρ, r, ?_⟩
  cases ea : mi ρ with
  | bad => rw [ea] at h; exact h.elim
  | exc c => rw [ea] at h; exact h
  | ok ds =>
    rw [ea, R.bind_ok] at h
    intro J H1 G1 r1 u1 it acc ha
    cases er : compGoT set tst elt ds (blkR nl caps ρ) [] with
    | bad => rw [er] at h; exact h.elim
    | exc c => rw [er] at h; exact h.elim
    | ok res =>
      rw [er] at h
      refine ⟨fun i m σ2 H2 => m = ds.length - i ∧ i ≤ ds.length ∧ ∃ G2 ρ2 ys ws, Rel (fxB F.K G1 H1) G2 H2 σ2 ρ2 ∧ NoOw ρ2 ∧ H2 acc = some (.lst ys) ∧ G2 acc = none ∧ TAtL F.K G2 H2 ws ys ∧ (fpL H2 ws ys).Nodup ∧ (∀ b ∈ fpL H2 ws ys, b ≠ acc ∧ G2 b = none ∧ H1 b = none) ∧ compGoT set tst elt (ds.drop i) ρ2 ws = .ok res,
        ⟨ds.length, by simp, Nat.zero_le _, G1, _, [], [], rel_block r1 ha nl caps, noOw_blk _ _ _, upd_same, r1.kp.sub.gone ha, .nil, by simp [fpL_nil], by simp [fpL_nil], by simpa using er⟩, ?_⟩
      rintro i m σ2 H2 ⟨rfl, hi, G2, ρ2, ys, ws, r2, n2, h1, h2, h3, h5, h6, h4⟩
      have sg : Sub G1 G2 := r2.kp.gg
      by_cases hlt : i < ds.length
      · refine .inr ⟨it.go i H2 (sg.trans r2.kp.sub) hlt, fun x H3 y => ?_⟩
        obtain ⟨d, G3, e3, r3, u3, a3⟩ := ItOk.turn (F := fxB F.K G1 H1) it r2 sg hlt y
        have ed : ds.drop i = d :: ds.drop (i + 1) := by
          rw [List.drop_eq_getElem_cons hlt]
          have := List.getElem?_eq_getElem hlt
          rw [e3] at this
          rw [Option.some.inj this]
        rw [ed] at h4
        simp only [compGoT] at h4
        have mv : ∀ {Ga Ha Gb Hb : Hp}, Up Ga Ha Gb Hb → TAtL F.K Ga Ha ws ys → fpL Ha ws ys = fpL H2 ws ys → (∀ b ∈ fpL H2 ws ys, Ga b = none) → TAtL F.K Gb Hb ws ys ∧ fpL Hb ws ys = fpL H2 ws ys ∧ (∀ b ∈ fpL H2 ws ys, Gb b = none) := fun {Ga Ha Gb Hb} u q e n => by
          obtain ⟨w1, w2⟩ := q.keep (H' := Hb) fun b hb => by
            cases eb : Ha b with
            | none => exact absurd eb (q.some b hb)
            | some o => exact u.h b o eb
          refine ⟨w1.mono u.g, w2.trans e, fun b hb => ?_⟩
          rw [u.n b (q.some b (by rw [e]; exact hb))]; exact n b hb
        obtain ⟨q3, f3, m3⟩ := mv u3 h3 rfl fun b hb => (h6 b hb).2.1
        cases e4 : set d ρ2 with
        | bad => rw [e4] at h4; cases h4
        | exc c => exact absurd e4 (hx d ρ2 c)
        | ok ρ4 =>
          rw [e4, R.bind_ok] at h4
          refine hg G1 H1 σ2 ρ2 G3 H3 x d _ ρ4 r3 a3 e4 fun σ5 r5 => ⟨G1, H1, G3, ρ4, r5, ?_⟩
          have n4 : NoOw ρ4 := hk d ρ2 ρ4 e4 n2
          have acc3 : H3 acc = some (.lst ys) := u3.h _ _ h1
          have g3 : G3 acc = none := by rw [u3.n acc (by rw [h1]; exact fun z => nomatch z)]; exact h2
          cases e5 : tst ρ4 with
          | bad => rw [e5] at h4; cases h4
          | exc c => rw [e5] at h4; cases h4
          | ok b =>
            rw [e5, R.bind_ok] at h4
            intro H6 G6 r6 u6
            have acc6 : H6 acc = some (.lst ys) := u6.h _ _ acc3
            have g6 : G6 acc = none := by rw [u6.n acc (by rw [acc3]; exact fun z => nomatch z)]; exact g3
            obtain ⟨q6, f6, m6⟩ := mv u6 q3 f3 m3
            cases b with
            | false =>
              rw [if_neg Bool.false_ne_true] at h4
              rw [if_neg Bool.false_ne_true]
              exact ⟨_, by omega, rfl, hlt, G6, ρ4, ys, ws, r6, n4, acc6, g6, q6, by rw [f6]; exact h5, by rw [f6]; exact fun b hb => ⟨(h6 b hb).1, m6 b hb, (h6 b hb).2.2⟩, h4⟩
            | true =>
              rw [if_pos rfl] at h4
              rw [if_pos rfl]
              refine ⟨G1, H1, G6, ρ4, r6, ?_⟩
              cases e7 : elt ρ4 with
              | bad => rw [e7] at h4; cases h4
              | exc c => rw [e7] at h4; cases h4
              | ok y =>
                rw [e7, R.bind_ok] at h4
                intro a xs H8 G8 r8 u8 a1 a2 a3 a4
                have acc8 : H8 acc = some (.lst ys) := u8.h _ _ acc6
                have g8 : G8 acc = none := by rw [u8.n acc (by rw [acc6]; exact fun z => nomatch z)]; exact g6
                obtain ⟨q8, f8, m8⟩ := mv u8 q6 f6 m6
                by_cases hl : ws.length < 1000000
                · rw [if_pos hl] at h4
                  have nacc : a ≠ acc := fun z => by rw [z, acc6] at a1; cases a1
                  have na : a ∉ fpL H2 ws ys := fun z => (q6.some a (by rw [f6]; exact z)) a1
                  have a0 : H1 a = none := r6.kp.hh.gone a1
                  obtain ⟨z1, z2⟩ := tl_fz (K := F.K) (G := G8) (H := H8) a4
                  have tn : TAt F.K G8 H8 (lstT y) (.ref a) := by unfold lstT; simp only [TAt]; exact ⟨a, xs, rfl, a2, z1⟩
                  have fn : fp H8 (lstT y) (.ref a) = [a] := by unfold lstT; rw [fp_lst a2, z2]
                  obtain ⟨p1, p2⟩ := q8.append (.cons tn .nil)
                  have p3 : fpL H8 [lstT y] [V.ref a] = [a] := by rw [fpL_cons, fn, fpL_nil]; rfl
                  rw [p3, f8] at p2
                  have nota : acc ∉ fpL H8 (ws ++ [lstT y]) (ys ++ [.ref a]) := by
                    rw [p2]
                    intro z
                    rcases List.mem_append.mp z with z | z
                    · exact (h6 acc z).1 rfl
                    · exact nacc (List.mem_singleton.mp z).symm
                  obtain ⟨w1, w2⟩ := p1.keep (H' := upd H8 acc (.lst (ys ++ [.ref a]))) fun b hb => upd_ne fun z => nota (by rw [← z]; exact hb)
                  rw [p2] at w2
                  refine ⟨ys, acc8, by rw [← q8.length]; exact Nat.lt_trans hl (by decide), _, by omega, rfl, hlt, G8, ρ4, ys ++ [.ref a], ws ++ [lstT y], ?_, n4, upd_same, g8, w1, ?_, ?_, h4⟩
                  · have k0 : (fxB F.K G1 H1).H0 acc = none := ha
                    refine r8.over rfl ⟨Sub.upd2 r8.kp.sub g8, r8.kp.gg, fun c o z => ?_, r8.kp.new⟩ (Sub.refl _) fun b ⟨j, s, o, y1, _, f⟩ => absurd f (plS_foot (n4 j s y1) o b)
                    rw [upd_ne (ne_of_none z k0)]; exact r8.kp.hh c o z
                  · rw [w2]
                    refine List.nodup_append.mpr ⟨h5, by simp, fun x hx y hy z => ?_⟩
                    have := List.mem_singleton.mp hy
                    exact na (by rw [← this, ← z]; exact hx)
                  · rw [w2]
                    intro b hb
                    rcases List.mem_append.mp hb with hb | hb
                    · exact ⟨(h6 b hb).1, m8 b hb, (h6 b hb).2.2⟩
                    · have := List.mem_singleton.mp hb
                      subst this
                      exact ⟨nacc, a3, a0⟩
                · rw [if_neg hl] at h4; cases h4
      · have e : ds.drop i = [] := List.drop_eq_nil_of_le (by omega)
        rw [e] at h4
        simp only [compGoT] at h4
        cases h4
        have ei : i = ds.length := by omega
        subst ei
        refine .inl ⟨it.stop H2 (sg.trans r2.kp.sub), ?_⟩
        have k : Kp ⟨F.K, G1, H1, fun _ _ => False⟩ G2 H2 := r2.kp
        have ef : fp H2 (.lst res) (.ref acc) = acc :: fpL H2 res ys := fp_lst h1
        refine h (.ref acc) H2 G2 (Kp.of r1 k) (u1.trans ⟨k.gg, k.hh, k.new⟩) ⟨?_, ?_, ?_⟩ ?_
        · simp only [TAt]; exact ⟨acc, ys, rfl, h1, h3⟩
        · rw [ef]; exact List.nodup_cons.mpr ⟨fun z => (h6 acc z).1 rfl, h5⟩
        · rw [ef]
          intro b hb
          rcases List.mem_cons.mp hb with rfl | hb
          · exact ⟨h2, r1.kp.hh.gone ha⟩
          · exact ⟨(h6 b hb).2.1, r1.kp.hh.gone (h6 b hb).2.2⟩
        · rw [ef]
          intro b hb
          rcases List.mem_cons.mp hb with rfl | hb
          · exact u1.h.gone ha
          · exact u1.h.gone (h6 b hb).2.2
end
section
variable {X : Cx} {F : Fx} {e a b c tg iter elt : Expr} {es : List Expr} {pos p : Pos} {m n : ME} {ma : MA} {scope : Scope} {N : List Str}
noncomputable abbrev BO (X : Cx) (scope : Scope) (N : List Str) (e : Expr) (m : MA) : Prop := ∀ cl C s H fp G0 H0, XEO (cxB X scope N cl C s H fp) (fxB X.K G0 H0) e m
theorem comp_impT {ifs : List Expr} {nl : Nat} {caps : List Nat} {mi : MA} {set : D → Rho → R Rho} {mt : MT} {me : MA} (hK : F.K = X.K) (hg : BG X scope N tg set) (ht : BlkT X scope N ifs mt) (he : BO X scope N elt me)
    {Q : TE → Prop} (k : ∀ g, (∀ cl C s H fp, PG (cxB X scope N cl C s H fp) tg g) → (∀ cl C s H fp, PTs (cxB X scope N cl C s H fp) ifs (xT X.K mt)) → (∀ cl C s H fp, PE (cxB X scope N cl C s H fp) elt (xO X.K me)) → ImpE (tTr F (mCompT nl caps mi set mt me)) (tComp (tI F mi) g (xT X.K mt) (xO X.K me) nl caps) → Q (tTr F (mCompT nl caps mi set mt me))) : Q (tTr F (mCompT nl caps mi set mt me)) := by
  obtain ⟨⟨g, g1, g2⟩, hx, hk⟩ := hg
  refine k g g1 (fun cl C s H fp pins s' σ H' Q' I h => ?_) (fun cl C s H fp pins s' σ H' Q' I h => ?_) ?_
  · obtain ⟨G0, H0, h⟩ := h
    exact ht cl C s H fp G0 H0 pins s' σ H' Q' I h
  · obtain ⟨G0, H0, h⟩ := h
    exact (he cl C s H fp G0 H0).1 pins s' σ H' Q' I h
  · have z := i_compT (F := F) (nl := nl) (caps := caps) (mi := mi) (tst := mt) (elt := me) (g := g) (set := set) (fun G0 H0 => by rw [hK]; exact g2 G0 H0) hx hk
    rw [hK] at z
    exact z
theorem xs_compT (i : Nat) (nl : Nat) (caps : List Nat) {y : Str} {py : Pos} {ifs : List Expr} {mi : MA} {set : D → Rho → R Rho} {mt : MT} {me : MA} {cpos : Pos} (hN : X.N.Nodup) (S : compScB X.env.scope X.N scope N nl caps = true) (hi : XIM X F tg iter mi) (hg : BG X scope N tg set) (ht : BlkT X scope N ifs mt) (he : BO X scope N elt me)
    (hy : X.N[i]? = some y := by rfl) (hl : X.env.kindOf y = some .local := by rfl) (hsw : swapsWith (.ListComp elt [⟨tg, iter, ifs, 0⟩] scope cpos) (some (.Name y py)) pos.line X.env = pure true := by rfl) (hc : X.calm = true := by rfl) (hK : F.K = X.K := by rfl) (hs : ∀ x, foldedSetIterable iter X.env x = pure x := by intro _; rfl) :
    XSM X F (.Assign [.Name y py] (.ListComp elt [⟨tg, iter, ifs, 0⟩] scope cpos) pos) (mSetT i (mCompT nl caps mi set mt me)) := by
  refine ⟨PS.imp (t := tAsg (tTr F (mCompT nl caps mi set mt me)) (gName i)) ?_ i_setT⟩
  refine comp_impT (nl := nl) (caps := caps) (mi := mi) (Q := fun t => PS X (.Assign [.Name y py] (.ListComp elt [⟨tg, iter, ifs, 0⟩] scope cpos) pos) (tAsg t (gName i))) hK hg ht he fun g g1 t1 e1 imp => ?_
  exact PS.imp (ps_comp (.of S) hc hN hy hl hi.1 g1 t1 e1 hsw hs) fun De σ H h => imp σ H _ h
end
end L3
set_option Elab.async false
set_option linter.all false
set_option maxRecDepth 100000
namespace L3
open PySem PySem.Spec L2
section
variable {F : Fx}
end
section
variable {X : Cx} {F : Fx} {e a b c o : Expr} {es : List Expr} {pos p : Pos} {m n : ME} {ma : MA}
end
end L3
set_option Elab.async false
set_option linter.all false
set_option maxRecDepth 100000
namespace L3
open PySem PySem.Spec L2
section
variable {K : PySem.W.Frag} {G0 H0 : Hp} {E : XK}
end
section
variable {X : Cx} {e c : Expr} {es : List Expr} {st : Stmt} {pos p : Pos} {K : PySem.W.Frag} {G0 H0 : Hp} {E : XK} {mt : MT} {ms : MS} {ma : MA}
end
section
variable {P : Program} {w : World} {K : PySem.W.Frag} {mg : Str → Option Value} {base : Heap} {N : List Str} {qual : Str} {scope : Scope} {f : Addr} {cd : Value} {A : Around} {outer : List Env} {s0 : Shared} {Ha : Hp} {E : XK} {G0 H0 : Hp}
end
section
variable {X : Cx} {F : Fx} {e : Expr} {es : List Expr} {pos p : Pos} {ma : MA}
end
end L3
set_option Elab.async false
set_option linter.all false
set_option maxRecDepth 100000
namespace L2
open PySem PySem.Spec PySem.Calls PyProof.Rows PySem.W PySem.Builtin PySem.Builtin.ObjectAttr PySem.Builtin.Getset_descriptor
section
variable {prog : Program} {w : World} {A : Around} {E : Value → Shared → Prop} {s : Shared} {K : Frag} {a D : Addr}
end
end L2
namespace L3
open PySem PySem.Spec L2
section
variable {X : Cx} {F : Fx} {a : Expr} {pos p : Pos} {m : ME}
end
end L3
set_option Elab.async false
set_option linter.all false
set_option maxRecDepth 100000
namespace L3
open PySem PySem.Spec L2
noncomputable def repD : D → D → R D
  | .lst xs, .int k => if 0 ≤ k ∧ k ≤ 1000 ∧ xs.length ≤ 100 then .ok (.lst (List.replicate k.toNat xs).flatten) else .bad
  | _, _ => .bad
theorem AtL.rep {K : PySem.W.Frag} {G : Hp} {ds : List D} {xs : List V} (q : AtL K G ds xs) : ∀ n : Nat, AtL K G (List.replicate n ds).flatten (List.replicate n xs).flatten
  | 0 => by simpa using AtL.nil
  | n + 1 => by
    rw [List.replicate_succ, List.replicate_succ, List.flatten_cons, List.flatten_cons]
    exact q.append (AtL.rep q n)
section
variable {X : Cx} {F : Fx} {a b : Expr} {pos p : Pos} {m n : ME}
theorem ok_rep : OpOk F rRep repD := by
  intro σ ρ G H x y dx dy Q r ax ay k
  unfold repD at k
  split at k
  · rename_i xs j
    split at k
    · rename_i hc
      simp only [At] at ax ay
      obtain ⟨l, vs, rfl, hl, al⟩ := ax
      refine ⟨l, j, vs, rfl, ay, r.kp.sub _ _ hl, by omega, by omega, ?_, fun q hq => ?_⟩
      · rw [← al.length]
        have h1 : j.toNat ≤ 1000 := by omega
        exact Nat.le_trans (Nat.mul_le_mul hc.2.2 h1) (by decide)
      · refine k (.ref q) _ _ (r.lay hq) (Up.lay r.kp.sub hq) ?_
        simp only [At]
        exact ⟨q, _, rfl, upd_same, (al.mono (Sub.upd (r.kp.sub.gone hq))).rep j.toNat⟩
    · exact k.elim
  · exact k.elim
theorem xe_rep (ha : XEM X F a m) (hb : XEM X F b n) : XEM X F (.BinOp a .Mult b pos) (mBin repD m n) := ⟨e_bin op_rep ok_rep ha.1 hb.1⟩
noncomputable def mIxV (i : Nat) (n : ME) : ME := fun ρ => (ownAt i ρ).bind fun ds => (n ρ).bind fun k => match k with
  | .int j => match atI ds j with
    | some d => .ok d
    | none => .bad
  | _ => .bad
theorem ownAt_ok {i : Nat} {ρ : Rho} {ds : List D} (h : ownAt i ρ = .ok ds) : ρ[i]? = some (.ow ds) := by
  unfold ownAt at h
  split at h
  · rename_i e; cases h; exact e
  · cases h
theorem ownAt_noexc {i : Nat} {ρ : Rho} {c : Str} (h : ownAt i ρ = .exc c) : False := by
  unfold ownAt at h
  split at h <;> cases h
theorem xe_ixV (i : Nat) {x : Str} {px : Pos} (hb : XEM X F b n) (hs : PlainIx b) (hN : X.N[i]? = some x := by rfl) (hv : Vis X.env.scope x := by first | exact Or.inl rfl | exact Or.inr (Or.inl rfl) | exact Or.inr (Or.inr rfl)) (hd : (x == ("__debug__" : Str)) = false := by decide) (hcd : (x == ("__classdict__" : Str)) = false := by decide) :
    XEM X F (.Subscript (.Name x px) b pos) (mIxV i n) := by
  refine ⟨PE.imp (pe_ix ix_seq (pe_var hN hv hd hcd) hb.1 hs) ?_⟩
  rintro σ H Q ⟨G, ρ, r, h⟩
  unfold mIxV at h
  cases er : ownAt i ρ with
  | bad => rw [er] at h; exact h.elim
  | exc c => exact (ownAt_noexc er).elim
  | ok ds =>
    rw [er, R.bind_ok] at h
    have e0 := ownAt_ok er
    obtain ⟨q, xs, e1, h1, h2, h3, h4⟩ := r.own e0
    refine ⟨.ref q, e1, G, ρ, r, ?_⟩
    cases ea : n ρ with
    | bad => rw [ea] at h; exact h.elim
    | exc c => rw [ea] at h; exact h
    | ok d =>
      rw [ea, R.bind_ok] at h
      intro v H1 G1 r1 s1 av
      obtain ⟨q', xs', e1', h1', h2', h3', h4'⟩ := r1.own e0
      rw [e1] at e1'
      cases e1'
      cases d with
      | int j =>
        simp only at h
        simp only [At] at av
        split at h
        · rename_i d ed
          obtain ⟨w, ew, aw⟩ := atI_at h4' ed
          exact .inl ⟨q, xs', j, w, rfl, av, SqL.of h1', ew, h w H1 G1 r1 s1 aw⟩
        · exact h.elim
      | _ => exact h.elim
end
end L3
set_option linter.all false
set_option autoImplicit false
namespace LS
open PySem PySem.SetTable
structure Tab (t : SetTable) (n : Nat) : Prop where
  dum : t.dummies = #[]
  siz : t.place.size = n
  ris : t.place.toList.Pairwise (· < ·)
  le : ∀ j ∈ t.place.toList, j ≤ t.mask
end LS
set_option linter.all false
set_option autoImplicit false
namespace LS
open PySem PySem.SetTable
noncomputable def adv (mask : Nat) (p : Probe) : Probe :=
  if p.more > 0 then { p with j := p.j + 1, more := p.more - 1 } else
  { p with j := (leap mask p.i p.perturb).1, more := runEnd mask (leap mask p.i p.perturb).1 - (leap mask p.i p.perturb).1, i := (leap mask p.i p.perturb).1, perturb := (leap mask p.i p.perturb).2 }
noncomputable def pst (mask : Nat) (i q : Nat) : Probe := { j := i, more := runEnd mask i - i, i, perturb := q, dummy := none }
noncomputable def pth (mask : Nat) (h : Int) : Nat → Probe
  | 0 => pst mask (bits h % (mask + 1)) (bits h)
  | n + 1 => adv mask (pth mask h n)
noncomputable def lp (mask : Nat) (h : Int) : Nat → Nat × Nat
  | 0 => (bits h % (mask + 1), bits h)
  | n + 1 => leap mask (lp mask h n).1 (lp mask h n).2
noncomputable def rn (mask i : Nat) : Nat := runEnd mask i - i
noncomputable def sg (mask : Nat) (h : Int) : Nat → Nat
  | 0 => 0
  | n + 1 => sg mask h n + rn mask (lp mask h n).1 + 1
noncomputable def lcg (mask : Nat) : Nat → Nat → Nat
  | 0, i => i
  | n + 1, i => (lcg mask n i * 5 + 1) % (mask + 1)
noncomputable def orb (mask : Nat) : Nat → Nat → List Nat
  | 0, _ => []
  | n + 1, i => i :: orb mask n ((i * 5 + 1) % (mask + 1))
structure Cyc (mask : Nat) : Prop where
  all : ∀ j, j ≤ mask → j ∈ orb mask (mask + 1) 0
  back : lcg mask (mask + 1) 0 = 0
theorem least (p : Nat → Prop) : (∃ n, p n) → ∃ n, p n ∧ ∀ m, m < n → ¬ p m := by
  rintro ⟨n, h⟩
  induction n using Nat.strongRecOn with
  | _ n ih =>
    by_cases q : ∃ m, m < n ∧ p m
    · obtain ⟨m, m1, m2⟩ := q; exact ih m m1 m2
    · exact ⟨n, h, fun m hm hp => q ⟨m, hm, hp⟩⟩
end LS
set_option linter.all false
set_option autoImplicit false
namespace LS
open PySem PySem.SetTable
section
variable {α : Type}
noncomputable def EntAt (t : SetTable) (es : Array (Int × α)) (j : Nat) (e : Int × α) : Prop := ∃ i : Nat, t.place.toList[i]? = some j ∧ es.toList[i]? = some e
structure SI (t : SetTable) (es : Array (Int × α)) : Prop where
  tab : Tab t es.size
  cyc : Cyc t.mask
  room : es.size ≤ t.mask
  find : ∀ j e, EntAt t es j e → ∃ n, (pth t.mask e.1 n).j = j ∧ ∀ m, m < n → (pth t.mask e.1 m).j ∈ t.place.toList
theorem SI.len {t : SetTable} {es : Array (Int × α)} (I : SI t es) : t.place.toList.length = es.size := by simpa using I.tab.siz
theorem place_inj {t : SetTable} {n : Nat} (T : Tab t n) {i k j : Nat} (a : t.place.toList[i]? = some j) (b : t.place.toList[k]? = some j) : i = k := by
  obtain ⟨a1, a2⟩ := List.getElem?_eq_some_iff.mp a
  obtain ⟨b1, b2⟩ := List.getElem?_eq_some_iff.mp b
  have r := List.pairwise_iff_getElem.mp T.ris
  rcases Nat.lt_trichotomy i k with h | h | h
  · have := r i k a1 b1 h; omega
  · exact h
  · have := r k i b1 a1 h; omega
theorem EntAt.inj {t : SetTable} {es : Array (Int × α)} {n : Nat} (T : Tab t n) {j : Nat} {e e' : Int × α} (a : EntAt t es j e) (b : EntAt t es j e') : e = e' := by
  obtain ⟨i, a1, a2⟩ := a
  obtain ⟨k, b1, b2⟩ := b
  have := place_inj T a1 b1; subst this
  rw [a2] at b2; exact Option.some.inj b2
end
structure Own (M : Nat) (owner : Array (Option Nat)) (a : List Nat) : Prop where
  siz : owner.size = M + 1
  nd : a.Nodup
  le : ∀ j ∈ a, j ≤ M
  of : ∀ j k : Nat, owner[j]? = some (some k) ↔ a[k]? = some j
theorem Own.free {M : Nat} {owner : Array (Option Nat)} {a : List Nat} (O : Own M owner a) {j : Nat} (hj : j ≤ M) : (owner.getD j (some 0)).isNone = true ↔ j ∉ a := by
  have hs : j < owner.size := by have := O.siz; omega
  rw [Array.getD_eq_getD_getElem?, Array.getElem?_eq_getElem hs]
  constructor
  · intro h m
    obtain ⟨k, hk, rfl⟩ := List.getElem_of_mem m
    have := (O.of _ k).mpr (List.getElem?_eq_getElem hk)
    rw [Array.getElem?_eq_getElem hs] at this
    simp only [Option.getD_some] at h
    rw [Option.some.inj this] at h
    cases h
  · intro h
    simp only [Option.getD_some]
    cases e : owner[j] with
    | none => rfl
    | some k =>
      exfalso
      have := (O.of j k).mp (by rw [Array.getElem?_eq_getElem hs, e])
      exact h (List.mem_of_getElem? this)
end LS
set_option linter.all false
set_option autoImplicit false
namespace LS
open PySem PySem.SetTable
section
variable {α : Type}
end
end LS
set_option linter.all false
set_option autoImplicit false
namespace LS
open PySem PySem.SetTable
section
variable {prog : Program} {w : World} {A : Around} {E : Value → Shared → Prop} {s : Shared} {K : Type} [DecidableEq K] {knd : KeyKind prog w K}
end
end LS
set_option linter.all false
set_option autoImplicit false
namespace LS
open PySem PySem.SetTable
section
variable {prog : Program} {w : World} {A : Around} {E : Value → Shared → Prop} {s : Shared} {K : Type} [DecidableEq K] {knd : KeyKind prog w K}
theorem EntAt.place {t : SetTable} {es : Array (Int × Value)} {j : Nat} {e : Int × Value} (q : EntAt t es j e) : j ∈ t.place.toList := by
  obtain ⟨i, q, _⟩ := q; exact List.mem_of_getElem? q
end
end LS
set_option linter.all false
set_option autoImplicit false
namespace LS
open PySem PySem.SetTable
section
variable {prog : Program} {w : World} {A : Around} {E : Value → Shared → Prop} {s : Shared} {K : Type} [DecidableEq K] {knd : KeyKind prog w K}
end
end LS
set_option linter.all false
set_option autoImplicit false
set_option maxRecDepth 100000
namespace LS
open PySem PySem.Spec PyProof.Rows
section
variable {prog : Program} {w : World} {K : Type} [DecidableEq K] {knd : PySem.KeyKind prog w K}
noncomputable def ddK (S : List (List K)) (ks : List K) : List (List K) := if ks ∈ S then S else S ++ [ks]
noncomputable def dds (keys : List (List K)) : List (List K) := keys.foldl ddK []
section
variable {A : Around} {R : Result → Shared → Prop} {I : Addr} {fp wr : List Addr} {G : Array GenState → Array GenState → Prop} {n : Nat} {P : Nat → Value → Prop} {St : Nat → Shared → Prop}
end
end
end LS
set_option linter.all false
set_option autoImplicit false
set_option maxRecDepth 100000
namespace LS
open PySem PySem.Spec PyProof.Rows
section
variable {prog : Program} {w : World} {A : Around} {E : Value → Shared → Prop} {s : Shared} {K : Type} [DecidableEq K] {knd : PySem.KeyKind prog w K}
end
end LS
set_option linter.all false
set_option autoImplicit false
namespace LT
open PySem PyProof.Rows
structure Bs (kd : SortKind) (a₀ : Array Keyed) (st : SortSt) : Prop where
  k : kindOf st = kd
  p : (arrOf st).Perm a₀
  n : pendingOf st = #[]
  f : failedOf st = none
theorem Bs.sz {kd : SortKind} {a₀ : Array Keyed} {st : SortSt} (b : Bs kd a₀ st) : (arrOf st).size = a₀.size := b.p.size_eq
theorem Bs.to {kd : SortKind} {a₀ : Array Keyed} {st : SortSt} (b : Bs kd a₀ st) {xs : Array Keyed} (q : xs.Perm (arrOf st)) : Bs kd a₀ (setArr st xs) := ⟨b.k, q.trans b.p, b.n, b.f⟩
structure Cm (prog : Program) (w : World) (A : Around) (s : Shared) (kd : SortKind) (κ : KeyKind) (a₀ : Array Keyed) : Prop where
  lt : ∀ (E : Value → Shared → Prop) (x y : Keyed) {Q : Bool → Shared → Prop}, x ∈ a₀.toList → y ∈ a₀.toList → Q (κ.blt ((κ.keyOf x.1).getD κ.dflt) ((κ.keyOf y.1).getD κ.dflt)) s → wpAny (model prog w) A (keyLt' kd x.1 y.1) Q E s
section
variable {prog : Program} {w : World} {A : Around} {E : Value → Shared → Prop} {s : Shared} {a₀ : Array Keyed} {κ : KeyKind} {kd : SortKind}
theorem Bs.at {st : SortSt} (b : Bs kd a₀ st) {i : Nat} (hi : i < a₀.size) : ∃ x, (arrOf st)[i]? = some x ∧ x ∈ a₀.toList ∧ KK κ (arrOf st) i = (κ.keyOf x.1).getD κ.dflt := by
  have g : i < (arrOf st).size := by rw [b.sz]; exact hi
  have e := getElem?_pos (arrOf st) i g
  refine ⟨_, e, (Array.perm_iff_toList_perm.mp b.p).mem_iff.mp (by simp), ?_⟩
  unfold KK; rw [e]
theorem lt_at (C : Cm prog w A s kd κ a₀) {st : SortSt} (b : Bs kd a₀ st) {i j : Nat} {Q : Option Bool → SortSt → Prop} (hi : i < a₀.size) (hj : j < a₀.size) (h : Q (some (κ.blt (KK κ (arrOf st) i) (KK κ (arrOf st) j))) st) : wpS (model prog w) A E s (ltAt' i j) Q st := by
  obtain ⟨x, x1, x2, x3⟩ := b.at (κ := κ) hi
  obtain ⟨y, y1, y2, y3⟩ := b.at (κ := κ) hj
  rw [x3, y3] at h
  rw [ltAt'_eq]
  refine wpS_bind (wpS_get ?_)
  show wpS _ _ _ _ (elem' (arrOf st) i >>= fun x => elem' (arrOf st) j >>= fun y => lt' x y) Q st
  rw [elem'_eq, x1, elem'_eq, y1]
  refine wpS_bind (wpS_pure (wpS_bind (wpS_pure ?_)))
  rw [lt'_eq]
  refine wpS_bind (wpS_get (wpS_bind (wpS_lift (wpAny_attempt ?_))))
  rw [b.k]
  exact C.lt _ x y x2 y2 ⟨rfl, wpS_pure h⟩
theorem up_one {xs : Array Keyed} : SortedToK κ xs 1 := fun i j a c => by
  have : i = j := by omega
  subst this; exact KeyOrd.kle_refl _
theorem up_more {xs : Array Keyed} {n : Nat} (h : SortedToK κ xs n) (q : κ.kle (KK κ xs (n - 1)) (KK κ xs n)) : SortedToK κ xs (n + 1) := fun i j a c => by
  by_cases e : j < n
  · exact h i j a e
  have e : j = n := by omega
  subst e
  by_cases g : i = j
  · subst g; exact KeyOrd.kle_refl _
  · exact KeyOrd.kle_trans (h i (j - 1) (by omega) (by omega)) q
theorem dn_more {xs : Array Keyed} {n : Nat} (h : NonIncK κ xs n) (q : κ.kle (KK κ xs n) (KK κ xs (n - 1))) : NonIncK κ xs (n + 1) := fun i j a c => by
  by_cases e : j < n
  · exact h i j a e
  have e : j = n := by omega
  subst e
  by_cases g : i = j
  · subst g; exact KeyOrd.kle_refl _
  · exact KeyOrd.kle_trans q (h i (j - 1) (by omega) (by omega))
theorem NonIncK.same {xs ys : Array Keyed} {n : Nat} (h : NonIncK κ xs n) (e : ∀ k, KK κ ys k = KK κ xs k) : NonIncK κ ys n := fun i j a c => by rw [e, e]; exact h i j a c
theorem asc_ok (C : Cm prog w A s kd κ a₀) {st : SortSt} {a nr : Nat} {Q : AscSt → SortSt → Prop} (hn : nr ≤ a₀.size) (ha : 1 ≤ a) (an : a ≤ nr) (b : Bs kd a₀ st) (hs : SortedToK κ (arrOf st) a)
    (h : ∀ n, a ≤ n → n ≤ nr → SortedToK κ (arrOf st) n → (n < nr → κ.klt (KK κ (arrOf st) n) (KK κ (arrOf st) (n - 1))) → Q (none, n) st) : wpS (model prog w) A E s (ascLoop a nr) Q st := by
  unfold ascLoop
  refine wpS_forRange (I := fun x c t => t = st ∧ c = (none, x) ∧ SortedToK κ (arrOf st) x) ?_ ?_ ⟨rfl, rfl, hs⟩
  · rintro x c t g1 g2 ⟨rfl, rfl, g3⟩
    dsimp only
    refine wpS_bind (lt_at C b (by omega) (by omega) ?_)
    cases e : κ.blt (KK κ (arrOf t) x) (KK κ (arrOf t) (x - 1)) with
    | true => exact wpS_pure (h x g1 (by omega) g3 fun _ => e)
    | false => exact wpS_pure ⟨rfl, rfl, up_more g3 e⟩
  · rintro c t ⟨rfl, rfl, g⟩
    have em : max a nr = nr := by omega
    rw [em] at g ⊢
    exact h nr an (Nat.le_refl _) g fun z => absurd z (Nat.lt_irrefl _)
theorem tail_ok (C : Cm prog w A s kd κ a₀) {st : SortSt} {n nr : Nat} {Q : Option Nat → SortSt → Prop} (hn : nr ≤ a₀.size) (h1 : 1 ≤ n) (nn : n ≤ nr) (b : Bs kd a₀ st) (hs : NonIncK κ (arrOf st) n)
    (h : ∀ m t, Bs kd a₀ t → m ≤ nr → SortedToK κ (arrOf t) m → Q (some m) t) : wpS (model prog w) A E s (tail3 n nr) Q st := by
  have hz : n ≤ (arrOf st).size := by rw [b.sz]; omega
  have b' : Bs kd a₀ (setArr st (mirror (arrOf st) 0 n ((n - 0) / 2))) := b.to (mirror_perm _ _ _ _)
  unfold tail3
  refine wpS_bind (wpS_reverse (wpS_bind (asc_ok C hn h1 nn b' (fun i j g1 g2 => ?_) fun m m1 m2 m3 _ => wpS_pure (h m _ b' m2 m3))))
  show κ.kle (KK κ (mirror (arrOf st) 0 n ((n - 0) / 2)) i) (KK κ (mirror (arrOf st) 0 n ((n - 0) / 2)) j)
  rw [KK_mirror hz, KK_mirror hz, if_pos ⟨Nat.zero_le _, by omega⟩, if_pos ⟨Nat.zero_le _, g2⟩]
  exact hs _ _ (by omega) (by omega)
noncomputable def Flat (κ : KeyKind) (xs : Array Keyed) (m q : Nat) : Prop := q + 1 ≤ m ∧ ∀ i, m - (q + 1) ≤ i → i < m → KK κ xs i = KK κ xs (m - 1)
theorem flat0 {xs : Array Keyed} {m : Nat} (h : 1 ≤ m) : Flat κ xs m 0 := ⟨h, fun i a c => by
  have : i = m - 1 := by omega
  rw [this]⟩
theorem desc_ok (C : Cm prog w A s kd κ a₀) {st : SortSt} {n nr : Nat} {Q : DescSt → SortSt → Prop} (hn : nr ≤ a₀.size) (h1 : 1 ≤ n) (nn : n ≤ nr) (b : Bs kd a₀ st) (hs : NonIncK κ (arrOf st) n)
    (h : ∀ m q t, Bs kd a₀ t → n ≤ m → m ≤ nr → NonIncK κ (arrOf t) m → Flat κ (arrOf t) m q → Q (none, m, q) t) : wpS (model prog w) A E s (descLoop n nr) Q st := by
  unfold descLoop
  refine wpS_forRange (I := fun x c t => ∃ q, c = (none, x, q) ∧ Bs kd a₀ t ∧ NonIncK κ (arrOf t) x ∧ Flat κ (arrOf t) x q) ?_ ?_ ⟨0, rfl, b, hs, flat0 h1⟩
  · rintro x c t g1 g2 ⟨q, rfl, b, g3, g4⟩
    dsimp only
    have hz : x ≤ (arrOf t).size := by rw [b.sz]; omega
    refine wpS_bind (lt_at C b (by omega) (by omega) ?_)
    cases e : κ.blt (KK κ (arrOf t) x) (KK κ (arrOf t) (x - 1)) with
    | true =>
      have up := dn_more g3 (KeyOrd.kle_of_klt e)
      dsimp only
      rw [if_pos rfl]
      by_cases z : q > 0
      · rw [if_pos z]
        exact wpS_bind (wpS_reverse (wpS_pure ⟨0, rfl, b.to (mirror_perm _ _ _ _), NonIncK.same up (KK_mirror_equal hz g4.2), flat0 (by omega)⟩))
      · rw [if_neg z]
        exact wpS_pure ⟨0, rfl, b, up, flat0 (by omega)⟩
    | false =>
      dsimp only
      rw [if_neg (by simp)]
      refine wpS_bind (lt_at C b (by omega) (by omega) ?_)
      cases e' : κ.blt (KK κ (arrOf t) (x - 1)) (KK κ (arrOf t) x) with
      | true => exact wpS_pure (h x q t b g1 (by omega) g3 g4)
      | false =>
        have ee : KK κ (arrOf t) x = KK κ (arrOf t) (x - 1) := KeyOrd.kle_antisymm e' e
        refine wpS_pure ⟨q + 1, rfl, b, dn_more g3 e', by have := g4.1; omega, fun i a c => ?_⟩
        rw [show x + 1 - 1 = x by omega]
        by_cases w : i = x
        · rw [w]
        · rw [ee]; exact g4.2 i (by omega) (by omega)
  · rintro c t ⟨q, rfl, b, g3, g4⟩
    have em : max n nr = nr := by omega
    rw [em] at g3 g4 ⊢
    exact h nr q t b nn (Nat.le_refl _) g3 g4
theorem down_ok (C : Cm prog w A s kd κ a₀) {st : SortSt} {n nr : Nat} {Q : Option Nat → SortSt → Prop} (hn : nr ≤ a₀.size) (nn : n + 1 ≤ nr) (b : Bs kd a₀ st) (hs : NonIncK κ (arrOf st) (n + 1))
    (h : ∀ m t, Bs kd a₀ t → m ≤ nr → SortedToK κ (arrOf t) m → Q (some m) t) : wpS (model prog w) A E s (descPart n nr) Q st := by
  unfold descPart
  refine wpS_bind (wpS_lift (wpAny_rule ⟨rfl, wpS_bind (desc_ok C hn (by omega) nn b hs fun m q t b' m1 m2 g1 g2 => ?_)⟩))
  dsimp only
  have hz : m ≤ (arrOf t).size := by rw [b'.sz]; omega
  by_cases z : q > 0
  · rw [if_pos z]
    exact wpS_bind (wpS_reverse (tail_ok C hn (by omega) m2 (b'.to (mirror_perm _ _ _ _)) (NonIncK.same g1 (KK_mirror_equal hz g2.2)) h))
  · rw [if_neg z]
    exact tail_ok C hn (by omega) m2 b' g1 h
theorem run_ok (C : Cm prog w A s kd κ a₀) {st : SortSt} {nr : Nat} {Q : Option Nat → SortSt → Prop} (hn : nr ≤ a₀.size) (h1 : 1 ≤ nr) (b : Bs kd a₀ st) (h : ∀ m t, Bs kd a₀ t → m ≤ nr → SortedToK κ (arrOf t) m → Q (some m) t) :
    wpS (model prog w) A E s (countRun' 0 nr) Q st := by
  rw [countRun0_eq]
  refine wpS_bind (asc_ok C hn (Nat.le_refl 1) h1 b up_one fun n n1 n2 g1 g2 => ?_)
  dsimp only
  by_cases e : n = nr
  · rw [if_pos (by simpa using e)]
    exact wpS_pure (h n st b n2 g1)
  rw [if_neg (by simpa using e)]
  have g2 := g2 (by omega)
  have hz : n ≤ (arrOf st).size := by rw [b.sz]; omega
  by_cases z : n > 1
  · rw [if_pos z]
    refine wpS_bind (lt_at C b (by omega) (by omega) ?_)
    cases e' : κ.blt (KK κ (arrOf st) 0) (KK κ (arrOf st) (n - 1)) with
    | true => exact wpS_pure (h n st b n2 g1)
    | false =>
      dsimp only
      rw [if_neg (by simp)]
      have fl : ∀ k, 0 ≤ k → k < n → KK κ (arrOf st) k = KK κ (arrOf st) (n - 1) := fun k _ hk =>
        KeyOrd.kle_antisymm (g1 k (n - 1) (by omega) (by omega)) (KeyOrd.kle_trans e' (g1 0 k (Nat.zero_le _) hk))
      have dn : NonIncK κ (arrOf st) n := fun i j a c => by rw [fl i (Nat.zero_le _) (by omega), fl j (Nat.zero_le _) c]; exact KeyOrd.kle_refl _
      exact wpS_bind (wpS_reverse (down_ok C hn (by omega) (b.to (mirror_perm _ _ _ _)) (NonIncK.same (dn_more dn (KeyOrd.kle_of_klt g2)) (KK_mirror_equal hz fl)) h))
  · rw [if_neg z]
    have e1 : n = 1 := by omega
    subst e1
    exact down_ok C hn (by omega) b (dn_more (fun i j a c => by
      have : i = j := by omega
      subst this; exact KeyOrd.kle_refl _) (KeyOrd.kle_of_klt g2)) h
theorem bin_ok (C : Cm prog w A s kd κ a₀) {st : SortSt} {n ok : Nat} {Q : Bool → SortSt → Prop} (hn : n ≤ a₀.size) (hk : ok ≤ n) (b : Bs kd a₀ st) (hs : SortedToK κ (arrOf st) ok)
    (h : ∀ t, Bs kd a₀ t → SortedToK κ (arrOf t) n → Q true t) : wpS (model prog w) A E s (binarySort' 0 n ok) Q st := by
  rw [binarySort'_eq]
  simp only [Nat.zero_add]
  refine wpS_bind (wpS_mono (wpS_forRange (I := fun k c t => c = (none, ()) ∧ Bs kd a₀ t ∧ SortedToK κ (arrOf t) (min k n)) (Q := fun c t => c = (none, ()) ∧ Bs kd a₀ t ∧ SortedToK κ (arrOf t) n) ?_ ?_ ?_) ?_)
  · rintro k c t k1 k2 ⟨rfl, b, g⟩
    have ek : min k n = k := by omega
    rw [ek] at g
    have hz : k < (arrOf t).size := by rw [b.sz]; omega
    refine wpS_bind (wpS_mono (wpS_forRange (I := fun x c u => u = t ∧ ∃ l r, c = (none, l, r) ∧ l ≤ r ∧ r ≤ k ∧ r - l ≤ k - x ∧ (∀ i, i < l → κ.kle (KK κ (arrOf t) i) (KK κ (arrOf t) k)) ∧ ∀ i, r ≤ i → i < k → κ.klt (KK κ (arrOf t) k) (KK κ (arrOf t) i))
      (Q := fun c u => u = t ∧ ∃ l r, c = (none, l, r) ∧ l ≤ k ∧ (∀ i, i < l → κ.kle (KK κ (arrOf t) i) (KK κ (arrOf t) k)) ∧ ∀ i, l ≤ i → i < k → κ.klt (KK κ (arrOf t) k) (KK κ (arrOf t) i)) ?_ ?_ ⟨rfl, 0, k, rfl, by omega, by omega, by omega, fun i z => by omega, fun i z z' => by omega⟩) ?_)
    · rintro x c u _ x2 ⟨rfl, l, r, rfl, l1, l2, l3, lo, hi⟩
      dsimp only
      by_cases z : l ≥ r
      · rw [if_pos z]
        have e : l = r := by omega
        subst e
        exact wpS_pure ⟨rfl, l, l, rfl, l2, lo, hi⟩
      rw [if_neg z]
      refine wpS_bind (lt_at C b (by omega) (by omega) ?_)
      cases e : κ.blt (KK κ (arrOf u) k) (KK κ (arrOf u) ((l + r) / 2)) with
      | true => exact wpS_pure ⟨rfl, l, (l + r) / 2, rfl, by omega, by omega, by omega, lo, fun i a c => KeyOrd.klt_of_klt_of_kle e (g _ _ a c)⟩
      | false => exact wpS_pure ⟨rfl, (l + r) / 2 + 1, r, rfl, by omega, by omega, by omega, fun i a => KeyOrd.kle_trans (g i ((l + r) / 2) (by omega) (by omega)) (show κ.kle _ _ from e), hi⟩
    · rintro c u ⟨rfl, l, r, rfl, l1, l2, l3, lo, hi⟩
      have e : l = r := by omega
      subst e
      exact ⟨rfl, l, l, rfl, l2, lo, hi⟩
    · rintro c u ⟨rfl, l, r, rfl, l1, lo, hi⟩
      show wpS _ _ _ _ (moveDown' k l >>= fun _ => pure (ForInStep.yield (none, ()))) _ _
      rw [moveDown'_eq]
      refine wpS_bind (wpS_modify (wpS_pure ⟨rfl, b.to (bubble_perm _ _ _), ?_⟩))
      rw [show min (k + 1) n = k + 1 by omega]
      intro i j ij jk
      show κ.kle (KK κ (bubble (arrOf u) k (k - l)) i) (KK κ (bubble (arrOf u) k (k - l)) j)
      rw [KK_bubble hz (by omega), KK_bubble hz (by omega), show k - (k - l) = l by omega]
      repeat' split
      all_goals first | omega | exact KeyOrd.kle_refl _ | exact lo _ (by omega) | exact KeyOrd.kle_of_klt (hi _ (by omega) (by omega)) | exact g _ _ (by omega) (by omega)
  · rintro c t ⟨rfl, b, g⟩
    rw [show min (max (max ok 1) n) n = n by omega] at g
    exact ⟨rfl, b, g⟩
  · refine ⟨rfl, b, ?_⟩
    by_cases z : ok = 0
    · subst z
      intro i j a c
      exact up_one i j a (by omega)
    · rw [show min (max ok 1) n = ok by omega]; exact hs
  · rintro c t ⟨rfl, b, g⟩
    exact wpS_pure (h t b g)
theorem runs_ok (C : Cm prog w A s kd κ a₀) {st : SortSt} {Q : Unit → SortSt → Prop} (b : Bs kd a₀ st) (h2 : 2 ≤ a₀.size) (h64 : a₀.size < 64)
    (h : ∀ t, (arrOf t).Perm a₀ → failedOf t = none → SortedToK κ (arrOf t) a₀.size → Q () t) : wpS (model prog w) A E s sortRuns' Q st := by
  rw [sortRuns'_eq]
  refine wpS_bind (wpS_get ?_)
  dsimp only
  have mr : minRun' a₀.size a₀.size 0 = a₀.size := by
    obtain ⟨f, hf⟩ : ∃ f, a₀.size = f + 1 := ⟨a₀.size - 1, by omega⟩
    have : minRun' (f + 1) a₀.size 0 = a₀.size := by rw [minRun'_succ, if_pos h64, Nat.add_zero]
    rwa [← hf] at this
  simp only [b.sz, mr]
  refine wpS_bind (wpS_mono (wpS_forRange (I := fun x c t => (x = 0 ∧ c = (none, 0) ∧ Bs kd a₀ t) ∨ (1 ≤ x ∧ c = (none, a₀.size) ∧ (arrOf t).Perm a₀ ∧ failedOf t = none ∧ pendingOf t = #[(0, a₀.size, 0)] ∧ SortedToK κ (arrOf t) a₀.size))
    (Q := fun c t => c = (none, a₀.size) ∧ (arrOf t).Perm a₀ ∧ failedOf t = none ∧ pendingOf t = #[(0, a₀.size, 0)] ∧ SortedToK κ (arrOf t) a₀.size) ?_ ?_ (.inl ⟨rfl, rfl, b⟩)) ?_)
  · have last : ∀ t, Bs kd a₀ t → SortedToK κ (arrOf t) a₀.size → (arrOf (setPending t ((pendingOf t).push (0, a₀.size, 0)))).Perm a₀ ∧ failedOf (setPending t ((pendingOf t).push (0, a₀.size, 0))) = none ∧ pendingOf (setPending t ((pendingOf t).push (0, a₀.size, 0))) = #[(0, a₀.size, 0)] ∧ SortedToK κ (arrOf (setPending t ((pendingOf t).push (0, a₀.size, 0)))) a₀.size :=
      fun t b g => ⟨b.p, b.f, by show (pendingOf t).push _ = _; rw [b.n]; rfl, g⟩
    rintro x c t _ x2 (⟨rfl, rfl, b⟩ | ⟨x1, rfl, g⟩)
    · dsimp only
      rw [if_neg (by omega)]
      simp only [Nat.sub_zero, Nat.min_self, Nat.zero_add]
      refine wpS_bind (run_ok C (Nat.le_refl _) (by omega) b fun m t b m1 g => ?_)
      dsimp only
      by_cases z : m < a₀.size
      · rw [if_pos z]
        refine wpS_bind (wpS_lift (wpAny_rule ⟨rfl, wpS_bind (bin_ok C (Nat.le_refl _) m1 b g fun u b g => ?_)⟩))
        simp only [Bool.not_true, Bool.false_eq_true, if_false]
        refine wpS_bind (wpS_get ?_)
        rw [b.n]
        exact wpS_bind (wpS_modify (wpS_pure (.inr ⟨by omega, rfl, last u b g⟩)))
      · rw [if_neg z]
        have e : m = a₀.size := by omega
        subst e
        refine wpS_bind (wpS_get ?_)
        rw [b.n]
        exact wpS_bind (wpS_modify (wpS_pure (.inr ⟨by omega, rfl, last t b g⟩)))
    · dsimp only
      rw [if_pos (Nat.le_refl _)]
      exact wpS_pure ⟨rfl, g⟩
  · rintro c t (⟨z, _, _⟩ | ⟨_, e, g⟩)
    · omega
    · exact ⟨e, g⟩
  · rintro c t ⟨rfl, g1, g2, g3, g4⟩
    dsimp only
    refine wpS_bind (wpS_mono (wpS_forRange (I := fun _ c u => u = t ∧ c = (none, ())) (Q := fun c u => u = t ∧ c = (none, ())) ?_ (fun _ _ z => z) ⟨rfl, rfl⟩) ?_)
    · rintro x c u _ _ ⟨rfl, rfl⟩
      refine wpS_bind (wpS_get ?_)
      rw [if_pos (by rw [g3]; exact Nat.le_refl 1)]
      exact wpS_pure ⟨rfl, rfl⟩
    · rintro c u ⟨rfl, rfl⟩
      exact wpS_pure (h _ g1 g2 g4)
end
end LT
set_option linter.all false
set_option autoImplicit false
namespace LT
open PySem PyProof.Rows
noncomputable def ltI : List Int → List Int → Bool
  | [], [] => false
  | [], _ :: _ => true
  | _ :: _, [] => false
  | a :: x, b :: y => if a = b then ltI x y else decide (a < b)
theorem ltI_irr : ∀ a, ltI a a = false
  | [] => rfl
  | _ :: x => by simp [ltI, ltI_irr x]
theorem ltI_trans : ∀ a b c, ltI a b = true → ltI b c = true → ltI a c = true
  | [], [], _, h, _ => by cases h
  | [], _ :: _, [], _, h => by cases h
  | [], _ :: _, _ :: _, _, _ => rfl
  | _ :: _, [], _, h, _ => by cases h
  | _ :: _, _ :: _, [], _, h => by cases h
  | a :: x, b :: y, c :: z, h1, h2 => by
    simp only [ltI] at h1 h2 ⊢
    by_cases e1 : a = b
    · subst e1
      rw [if_pos rfl] at h1
      by_cases e2 : a = c
      · subst e2
        rw [if_pos rfl] at h2 ⊢
        exact ltI_trans x y z h1 h2
      · rw [if_neg e2] at h2 ⊢; exact h2
    · rw [if_neg e1] at h1
      have h1 := of_decide_eq_true h1
      by_cases e2 : b = c
      · subst e2
        rw [if_neg e1]; exact decide_eq_true h1
      · rw [if_neg e2] at h2
        have h2 := of_decide_eq_true h2
        rw [if_neg (by omega)]; exact decide_eq_true (by omega)
theorem ltI_total : ∀ a b, ltI a b = false → ltI b a = false → a = b
  | [], [], _, _ => rfl
  | [], _ :: _, h, _ => by cases h
  | _ :: _, [], _, h => by cases h
  | a :: x, b :: y, h1, h2 => by
    simp only [ltI] at h1 h2
    by_cases e : a = b
    · subst e
      rw [if_pos rfl] at h1 h2
      rw [ltI_total x y h1 h2]
    · rw [if_neg e] at h1
      rw [if_neg (fun z => e z.symm)] at h2
      have h1 := of_decide_eq_false h1
      have h2 := of_decide_eq_false h2
      exact absurd (by omega) e
theorem ltI_neg (a b c : List Int) (h : ltI a c = true) : ltI a b = true ∨ ltI b c = true := by
  cases e1 : ltI a b with
  | true => exact .inl rfl
  | false =>
    cases e2 : ltI b c with
    | true => exact .inr rfl
    | false =>
      exfalso
      cases e3 : ltI b a with
      | true => rw [ltI_trans b a c e3 h] at e2; cases e2
      | false => rw [ltI_total a b e1 e3, e2] at h; cases h
section
variable {prog : Program} {w : World} {A : Around} {E : Value → Shared → Prop} {s : Shared}
theorem rc_int {a b : Int} {t u : Tok} {Q : Value → Shared → Prop} (h : Q (.bool (decide (a < b))) s) : wpAny (model prog w) A (richCompare .Lt (.int a t) (.int b u)) Q E s :=
  wpAny_richCompare_same (op := .Lt) (typeIs_int s a t) (typeIs_int s b u) slot_int_lt (call_int_lt ⟨(fun e => nomatch e), h⟩)
theorem ints_lt_tree {x y : List Int} {a b : Addr} {P : Fin → Shared → Prop} (hx : IsTupleKey (intKind prog w) s.heap x a) (hy : IsTupleKey (intKind prog w) s.heap y b) (h : P (.done (.ret (.bool (ltI x y)))) s) :
    wpAny (model prog w) A (Builtin.«tuple.__lt__» ⟨[.ref a, .ref b], []⟩) P E s := by
  have tb := hy.typeIs
  obtain ⟨oa, xs, na, qa, _, da, ia⟩ := hx
  obtain ⟨ob, ys, nb, qb, _, db, ib⟩ := hy
  show wpAny _ _ (isInstance (.ref b) (.type "tuple") >>= _) _ _ s
  refine wpAny_bind (wpAny_isInstance tb isSubtype_tuple_tuple ?_)
  simp only [Bool.not_true, Bool.false_eq_true, if_false]
  refine wpAny_bind (wpAny_tupleItemsOf qa da (wpAny_bind (wpAny_tupleItemsOf qb db (wpAny_bind ?_))))
  refine wpAny_forIn_list _ (fun rest r s' => r.1 = none ∧ s' = s ∧ ∃ x' y' xs' ys', rest = List.zip xs' ys' ∧ ItemsAre (intKind prog w) x' xs' ∧ ItemsAre (intKind prog w) y' ys' ∧ ltI x' y' = ltI x y ∧ decide (xs'.length < ys'.length) = decide (xs.size < ys.size)) _ ?_ ?_ _ _ ⟨rfl, rfl, x, y, xs.toList, ys.toList, rfl, ia, ib, rfl, by simp⟩
  · rintro ⟨u, v⟩ rest r s' ⟨hr, rfl, x', y', xs', ys', hz, h1, h2, hl, hn⟩
    cases h1 with
    | nil => simp at hz
    | @cons k1 u' x2 xs2 g1 h1 =>
      cases h2 with
      | nil => simp at hz
      | @cons k2 v' y2 ys2 g2 h2 =>
        simp only [List.zip_cons_cons, List.cons.injEq, Prod.mk.injEq] at hz
        obtain ⟨⟨rfl, rfl⟩, rfl⟩ := hz
        refine wpAny_bind ((intKind prog w).eqBool g1 g2 ?_)
        by_cases e : k1 = k2
        · subst e
          simp only [decide_true, Bool.not_true, Bool.false_eq_true, if_false]
          refine wpAny_pure ⟨rfl, rfl, x2, y2, xs2, ys2, rfl, h1, h2, ?_, by simpa using hn⟩
          rw [← hl]; simp [ltI]
        · simp only [decide_eq_false e, Bool.not_false, if_true]
          obtain ⟨t1, rfl⟩ := Value.isInt_shape g1
          obtain ⟨t2, rfl⟩ := Value.isInt_shape g2
          refine wpAny_bind (wpAny_rule (wpAny_bind (rc_int ?_)))
          rw [← hl] at h
          simp only [ltI, if_neg e] at h
          exact wpAny_bind (wpAny_pure (wpAny_pure (wpAny_pure h)))
  · rintro ⟨r1, r2⟩ s' ⟨hr, rfl, x', y', xs', ys', hz, h1, h2, hl, hn⟩
    simp only at hr
    subst hr
    refine wpAny_pure ?_
    have fin : decide (xs.size < ys.size) = ltI x y := by
      rw [← hl, ← hn]
      cases h1 with
      | nil => cases h2 <;> simp [ltI]
      | cons _ _ => cases h2 with
        | nil => simp [ltI]
        | cons _ _ => simp at hz
    show P (.done (.ret (.bool (decide (xs.size < ys.size))))) s'
    rw [fin]; exact h
theorem rc_ints {x y : List Int} {a b : Addr} {Q : Value → Shared → Prop} (hu : A.units < cLine) (hx : IsTupleKey (intKind prog w) s.heap x a) (hy : IsTupleKey (intKind prog w) s.heap y b) (h : Q (.bool (ltI x y)) s) :
    wpAny (model prog w) A (richCompare .Lt (.ref a) (.ref b)) Q E s :=
  wpAny_richCompare_same_room (op := .Lt) hx.typeIs hy.typeIs F.slot_tuple_lt (wpAny_call_entry F.slot_tuple_lt hx.typeIs F.entry_tuple_lt (ints_lt_tree hx hy ⟨_, rfl, (fun e => nomatch e), h⟩) (F.args_tuple_lt_2 _ _)) hu
structure KA (prog : Program) (w : World) (h : Heap) (v : Value) (k : Int × Int × Int) : Prop where
  ex : ∃ a o m b t, v = .ref a ∧ h.get? a = some o ∧ o.cls = .type "tuple" ∧ o.data = .seq #[.int k.1 t, .ref b] m ∧ IsTupleKey (intKind prog w) h [k.2.1, k.2.2] b
noncomputable def flA (k : Int × Int × Int) : List Int := [k.1, k.2.1, k.2.2]
theorem KA.inj {h : Heap} {v : Value} {k k' : Int × Int × Int} (x : KA prog w h v k) (y : KA prog w h v k') : k = k' := by
  obtain ⟨a, o, m, b, t, rfl, ho, hc, hd, hb⟩ := x.ex
  obtain ⟨a', o', m', b', t', e, ho', hc', hd', hb'⟩ := y.ex
  cases e
  rw [ho] at ho'; cases ho'
  rw [hd] at hd'
  simp at hd'
  obtain ⟨⟨⟨e1, _⟩, rfl⟩, _⟩ := hd'
  have e2 := hb.inj hb'
  simp at e2
  obtain ⟨k1, k2, k3⟩ := k
  obtain ⟨k1', k2', k3'⟩ := k'
  simp at e1 e2 ⊢
  exact ⟨e1, e2⟩
theorem keyLt_tuples (b : Bool) (x y : Value) : keyLt' (tuples' b) x y = (do
    let xs ← Builtin.List.listItems x; let ys ← Builtin.List.listItems y
    for ((p, q), i) in (xs.toList.zip ys.toList).zipIdx do
      if !(← eqBool p q) then return ← oneLt' (b && i == 0) p q
    return xs.size < ys.size) := rfl
theorem one_false {x y : Value} {Q : Bool → Shared → Prop} (h : wpAny (model prog w) A (richCompare .Lt x y) (fun v s' => ∃ c, v = .bool c ∧ Q c s') E s) : wpAny (model prog w) A (oneLt' false x y) Q E s := by
  rw [oneLt'_eq]
  simp only [Bool.false_eq_true, if_false]
  refine wpAny_bind (wpAny_mono h (fun v s' ⟨c, e, q⟩ => ?_) fun _ _ e => e)
  subst e
  exact wpAny_truthy_bool q
theorem ltA {x y : Value} {k k' : Int × Int × Int} {Q : Bool → Shared → Prop} (hu : A.units < cLine) (hx : KA prog w s.heap x k) (hy : KA prog w s.heap y k') (h : Q (ltI (flA k) (flA k')) s) : wpAny (model prog w) A (keyLt' (tuples' true) x y) Q E s := by
  obtain ⟨a, o, m, b, t, rfl, ho, hc, hd, hb⟩ := hx.ex
  obtain ⟨a', o', m', b', t', rfl, ho', hc', hd', hb'⟩ := hy.ex
  rw [keyLt_tuples]
  refine wpAny_bind (listItems_at ho hd (wpAny_bind (listItems_at ho' hd' ?_)))
  simp only [List.zip_cons_cons, List.zip_nil_left, List.zipIdx_cons, List.zipIdx_nil, List.forIn_cons, List.forIn_nil, flA, ltI] at h ⊢
  refine wpAny_bind (wpAny_bind (wpAny_bind (wpAny_eqBool_int ?_)))
  by_cases e : k.1 = k'.1
  · rw [if_pos e] at h
    rw [if_neg (by simp [e])]
    refine wpAny_pure ?_
    dsimp only
    refine wpAny_bind (wpAny_bind (wpAny_eqBool_tuple hu hb hb' ?_))
    by_cases e2 : k.2.1 = k'.2.1 ∧ k.2.2 = k'.2.2
    · rw [if_neg (by simp [e2.1, e2.2])]
      rw [if_pos e2.1, if_pos e2.2] at h
      exact wpAny_pure (wpAny_pure (wpAny_pure h))
    · rw [if_pos (by simp; exact Classical.not_and_iff_not_or_not.mp e2)]
      refine wpAny_bind (one_false (rc_ints hu hb hb' ⟨_, rfl, wpAny_pure (wpAny_pure (wpAny_pure ?_))⟩))
      simpa only [ltI] using h
  · rw [if_neg e] at h
    rw [if_pos (by simpa using e)]
    exact wpAny_bind (oneLt_int (wpAny_pure (wpAny_pure (wpAny_pure h))))
noncomputable def ordI : KeyOrd := ⟨List Int, ltI, ltI_irr, ltI_trans, ltI_neg, ltI_total⟩
open Classical in
noncomputable def kindA (prog : Program) (w : World) (h : Heap) : KeyKind := { ordI with keyOf := fun v => if q : ∃ k, KA prog w h v k then some (flA (choose q)) else none, dflt := [] }
theorem kindA_of {h : Heap} {v : Value} {k : Int × Int × Int} (x : KA prog w h v k) : (kindA prog w h).keyOf v = some (flA k) := by
  have q : ∃ k, KA prog w h v k := ⟨k, x⟩
  exact (dif_pos q).trans (congrArg (fun z => some (flA z)) ((Classical.choose_spec q).inj x))
theorem KA.mono {h h' : Heap} {v : Value} {k : Int × Int × Int} (m : ∀ b o, h.get? b = some o → h'.get? b = some o) (x : KA prog w h v k) : KA prog w h' v k := by
  obtain ⟨a, o, m1, b, t, e, ho, hc, hd, o2, it, n, g, r⟩ := x.ex
  exact ⟨a, o, m1, b, t, e, m _ _ ho, hc, hd, o2, it, n, m _ _ g, r⟩
theorem mapM_wp {β : Type} {f : Value → Sem β} {g : Value → β} : ∀ {vs : List Value} {Q : List β → Shared → Prop}, (∀ v ∈ vs, ∀ (R : β → Shared → Prop), R (g v) s → wpAny (model prog w) A (f v) R E s) → Q (vs.map g) s → wpAny (model prog w) A (vs.mapM f) Q E s
  | [], Q, _, h => by rw [List.mapM_nil]; exact wpAny_pure h
  | v :: vs, Q, hf, h => by
    rw [List.mapM_cons]
    refine wpAny_bind (hf v (by simp) _ (wpAny_bind (mapM_wp (fun u hu => hf u (by simp [hu])) (wpAny_pure h))))
theorem kind_wp {vs : List Value} {g : Value → Value} {T : String} {Q : SortKind → Shared → Prop} (hn : vs ≠ []) (h1 : ∀ v ∈ vs, ∃ a o m r, v = .ref a ∧ s.heap.get? a = some o ∧ o.cls = .type "tuple" ∧ o.data = .seq (g v :: r).toArray m) (h2 : ∀ v ∈ vs, s.TypeIs (g v) T) (h : Q (tuples' (Value.type T != .type "tuple")) s) :
    wpAny (model prog w) A (keyKind' vs.toArray) Q E s := by
  rw [keyKind'_eq, List.mapM_toArray]
  rw [map_eq_pure_bind]
  refine wpAny_bind (wpAny_bind (mapM_wp (g := fun v => some (g v)) (fun v hv R hR => ?_) (wpAny_pure ?_)))
  · obtain ⟨a, o, m, r, rfl, ho, hc, hd⟩ := h1 v hv
    show wpAny _ _ (typeOf (.ref a) >>= _) R E s
    refine wpAny_bind (wpAny_typeOf ⟨o, ho, hc⟩ ?_)
    rw [if_neg (by simp)]
    refine wpAny_bind (listItems_at ho hd (wpAny_pure ?_))
    simpa using hR
  · rw [if_pos (by simp)]
    refine wpAny_bind (wpAny_rule ?_)
    have e : Array.filterMap id (vs.map fun v => some (g v)).toArray = (vs.map g).toArray := by simp
    rw [e, oneTypeOnly'_eq, List.mapM_toArray, map_eq_pure_bind]
    refine wpAny_bind (wpAny_bind (wpAny_bind (mapM_wp (g := fun _ => .type T) (fun v hv R hR => ?_) (wpAny_pure ?_))))
    · obtain ⟨u, hu, rfl⟩ := List.mem_map.mp hv
      exact wpAny_typeOf (h2 u hu) hR
    · obtain ⟨v, r, rfl⟩ := List.exists_cons_of_ne_nil hn
      have e0 : (List.map (fun _ => Value.type T) (List.map g (v :: r))).toArray[0]? = some (.type T) := by simp
      rw [e0]
      dsimp only
      rw [if_pos (by simp)]
      exact wpAny_pure (wpAny_pure h)
end
end LT
set_option linter.all false
set_option autoImplicit false
namespace LT
open PySem PyProof.Rows
section
variable {prog : Program} {w : World} {A : Around} {E : Value → Shared → Prop} {s : Shared}
theorem sort_ok {a : Addr} {vs : List Value} {n : Nat} {κ : KeyKind} {kd : SortKind} {P : Fin → Shared → Prop} (ho : s.heap.get? a = some (seqObj "list" vs.toArray n)) (h64 : vs.length < 64)
    (hk : ∀ h' : Heap, (∀ b o, b ≠ a → s.heap.get? b = some o → h'.get? b = some o) → vs ≠ [] → (∀ R : SortKind → Shared → Prop, R kd { s with heap := h' } → wpAny (model prog w) A (keyKind' vs.toArray) R E { s with heap := h' }) ∧ Cm prog w A { s with heap := h' } kd κ (pairsOf vs))
    (h : ∀ t : SortSt, (arrOf t).Perm (pairsOf vs) → SortedToK κ (arrOf t) (pairsOf vs).size → P (.done (.ret .none)) { s with heap := sortedHeap s.heap a vs ((arrOf t).map (·.2)) }) :
    wpAny (model prog w) A (Builtin.«list.sort» ⟨[.ref a], []⟩) P E s := by
  rw [list_sort_plain]
  have ha : a < s.heap.objs.size := Heap.lt_size ho
  obtain ⟨e1, g1⟩ : ∃ e1, (s.heap.update a (Obj.mapSeq fun _ => #[])).get? a = some (seqObj "list" #[] e1) := ⟨_, get?_update_seq ho (fun _ => #[])⟩
  refine wpAny_bind (listItems_at ho rfl (wpAny_bind (listUpdate_at ho rfl (wpAny_bind (seqEpoch_at g1 rfl (wpAny_bind (wpAny_newTuple (wpAny_bind (wpAny_newList (wpAny_holding ?_)))))))))) 
  have keep : ∀ b o, b ≠ a → s.heap.get? b = some o → (((s.heap.update a (Obj.mapSeq fun _ => #[])).push (seqObj "tuple" vs.toArray 0)).push (seqObj "list" #[] 0)).get? b = some o := fun b o nb e =>
    Heap.get?_push_of_some _ (Heap.get?_push_of_some _ (by rw [Heap.get?_update_ne _ _ _ _ nb]; exact e))
  have g6 : (((s.heap.update a (Obj.mapSeq fun _ => #[])).push (seqObj "tuple" vs.toArray 0)).push (seqObj "list" #[] 0)).get? a = some (seqObj "list" #[] e1) := Heap.get?_push_of_some _ (Heap.get?_push_of_some _ g1)
  show wpAny (model prog w) A _ P E { s with heap := ((s.heap.update a (Obj.mapSeq fun _ => #[])).push (seqObj "tuple" vs.toArray 0)).push (seqObj "list" #[] 0) }
  dsimp only
  by_cases z : vs.toArray.size < 2
  · rw [if_pos z, if_pos z]
    refine wpAny_bind (wpAny_pure ?_)
    rw [StateT.run_pure]
    refine wpAny_bind (wpAny_pure (wpAny_bind (seqEpoch_at g6 rfl (wpAny_bind (listUpdate_at g6 rfl ?_ (hsz2 := by rw [Array.size_map]; show (pairsOf vs).size ≤ _; rw [pairsOf_size, sizeLine_eq]; omega))))))
    simp only [bne_self_eq_false, Bool.false_eq_true, if_false]
    refine wpAny_pure (h (SortSt.mk' general' (vs.toArray.zip vs.toArray) #[] 7 none) (Array.Perm.refl _) fun i j c d => ?_)
    have z : vs.length < 2 := by simpa using z
    have : i = j := by rw [pairsOf_size] at d; omega
    subst this; exact KeyOrd.kle_refl _
  · rw [if_neg z, if_neg z]
    have z : ¬ vs.length < 2 := by simpa using z
    obtain ⟨k1, k2⟩ := hk _ keep (by intro e; subst e; simp at z)
    refine wpAny_bind (k1 _ (wpAny_bind (wpAny_mono (runs_ok (κ := κ) k2 (st := SortSt.mk' kd (vs.toArray.zip vs.toArray) #[] 7 none) (Q := fun _ t => (arrOf t).Perm (pairsOf vs) ∧ failedOf t = none ∧ SortedToK κ (arrOf t) (pairsOf vs).size)
      ⟨rfl, Array.Perm.refl _, rfl, rfl⟩ (by rw [pairsOf_size]; omega) (by rw [pairsOf_size]; exact h64) fun t a1 a2 a3 => ⟨a1, a2, a3⟩) ?_ fun _ _ e => e)))
    rintro ⟨⟨⟩, t⟩ s' ⟨rfl, hp, hf, hs⟩
    dsimp only
    refine wpAny_bind (seqEpoch_at g6 rfl (wpAny_bind (listUpdate_at g6 rfl ?_ (hsz2 := by refine Nat.le_trans (Nat.le_of_eq ((Array.size_map ..).trans (hp.size_eq.trans (pairsOf_size _)))) ?_; rw [sizeLine_eq]; omega))))
    rw [hf]
    simp only [bne_self_eq_false, Bool.false_eq_true, if_false]
    exact wpAny_pure (h t hp hs)
theorem sorted_ok {l : Addr} {vs : List Value} {κ : KeyKind} {kd : SortKind} {Q : Value → Shared → Prop} (hl : s.heap.IsList l vs.toArray) (h64 : vs.length < 64)
    (hk : ∀ (h' : Heap) (A' : Around) (E' : Value → Shared → Prop), A'.units ≤ A.units + 8 → (∀ b o, s.heap.get? b = some o → h'.get? b = some o) → vs ≠ [] → (∀ R : SortKind → Shared → Prop, R kd { s with heap := h' } → wpAny (model prog w) A' (keyKind' vs.toArray) R E' { s with heap := h' }) ∧ Cm prog w A' { s with heap := h' } kd κ (pairsOf vs))
    (h : ∀ t : SortSt, (arrOf t).Perm (pairsOf vs) → SortedToK κ (arrOf t) (pairsOf vs).size → Q (.ref (s.heap.objs.size + 1)) { s with heap := sortedAll s.heap vs ((arrOf t).map (·.2)) }) :
    wpAny (model prog w) A (call (.builtin "sorted") [.ref l]) Q E s := by
  refine Calls.call_function_entry kind_sorted plain_sorted entry_sorted (args_sorted1 _) ?_
  unfold Builtin.«sorted»
  refine wpAny_bind (m := checkCount "sorted" 1 1 _) (wpAny_pure (wpAny_bind (collect_list hl (wpAny_bind (wpAny_newList ?_)))))
  have hz : ((s.heap.push (seqObj "list" #[] 0)).update s.heap.objs.size (Obj.mapSeq (· ++ vs.toArray))).objs.size = s.heap.objs.size + 1 := by rw [Heap.size_update, size_push']
  have g : (((s.heap.push (seqObj "list" #[] 0)).update s.heap.objs.size (Obj.mapSeq (· ++ vs.toArray))).push (seqObj "list" vs.toArray 0)).get? (s.heap.objs.size + 1) = some (seqObj "list" vs.toArray 0) := by
    rw [← hz]; exact Heap.get?_push_size _ rfl
  have keep : ∀ b o, s.heap.get? b = some o → (((s.heap.push (seqObj "list" #[] 0)).update s.heap.objs.size (Obj.mapSeq (· ++ vs.toArray))).push (seqObj "list" vs.toArray 0)).get? b = some o := fun b o e =>
    Heap.get?_push_of_some _ (by rw [Heap.get?_update_ne _ _ _ _ (Nat.ne_of_lt (Heap.lt_size e))]; exact Heap.get?_push_of_some _ e)
  show wpAny _ _ _ _ _ { s with heap := ((s.heap.push (seqObj "list" #[] 0)).update s.heap.objs.size (Obj.mapSeq (· ++ vs.toArray))).push (seqObj "list" vs.toArray 0) }
  rw [hz]
  refine wpAny_bind (wpAny_holding (wpAny_call_entry slot_list_sort ⟨_, g, rfl⟩ entry_list_sort (sort_ok g h64 (fun h' k ne => hk h' _ _ (by simp only [Around.in1_units]; omega) (fun b o e => k b o (fun z => absurd (z ▸ Heap.lt_size e) (by
    have := Heap.lt_size e
    exact fun q => absurd q (Nat.not_lt.mpr (Nat.le_succ _)))) (keep b o e)) ne) fun t a1 a2 => ⟨_, rfl, ?_⟩) (args_list_sort _)))
  exact wpAny_pure ⟨_, rfl, h t a1 a2⟩
end
end LT
set_option linter.all false
set_option autoImplicit false
namespace LT
open PySem PyProof.Rows
noncomputable def leA (a b : Int × Int × Int) : Bool := !ltI (flA b) (flA a)
noncomputable def srtA (ks : List (Int × Int × Int)) : List (Int × Int × Int) := ks.mergeSort leA
theorem srtA_perm (ks : List (Int × Int × Int)) : (srtA ks).Perm ks := List.mergeSort_perm _ _
theorem flA_inj {a b : Int × Int × Int} (h : flA a = flA b) : a = b := by
  obtain ⟨a1, a2, a3⟩ := a
  obtain ⟨b1, b2, b3⟩ := b
  simp only [flA, List.cons.injEq, and_true] at h
  simp only [Prod.mk.injEq]; exact h
theorem leA_trans (a b c : Int × Int × Int) (h1 : leA a b = true) (h2 : leA b c = true) : leA a c = true := by
  unfold leA at *
  cases e : ltI (flA c) (flA a) with
  | false => rfl
  | true =>
    rcases ltI_neg _ (flA b) _ e with z | z
    · rw [z] at h2; cases h2
    · rw [z] at h1; cases h1
theorem leA_total (a b : Int × Int × Int) : (leA a b || leA b a) = true := by
  unfold leA
  cases e : ltI (flA b) (flA a) with
  | false => rfl
  | true =>
    cases e2 : ltI (flA a) (flA b) with
    | false => rfl
    | true => have := ltI_trans _ _ _ e e2; rw [ltI_irr] at this; cases this
theorem srtA_uniq {ks l : List (Int × Int × Int)} (p : l.Perm ks) (h : l.Pairwise fun a b => leA a b = true) : l = srtA ks :=
  List.Perm.eq_of_pairwise (le := fun a b => leA a b = true) (fun a b _ _ h1 h2 => by
    unfold leA at h1 h2
    exact flA_inj (ltI_total _ _ (by simpa using h2) (by simpa using h1))) h (List.pairwise_mergeSort leA_trans leA_total ks) (p.trans (srtA_perm ks).symm)
section
variable {prog : Program} {w : World} {A : Around} {E : Value → Shared → Prop} {s : Shared}
theorem sortedA {l : Addr} {vs : List Value} {ks : List (Int × Int × Int)} {Q : Value → Shared → Prop} (hu : A.units + 64 < cLine) (hl : s.heap.IsList l vs.toArray) (h64 : vs.length < 64) (hn : vs.length = ks.length) (hk : ∀ (i : Nat) v k, vs[i]? = some v → ks[i]? = some k → KA prog w s.heap v k)
    (h : ∀ vs' : List Value, vs'.length = vs.length → (∀ (i : Nat) v k, vs'[i]? = some v → (srtA ks)[i]? = some k → v ∈ vs ∧ KA prog w s.heap v k) → Q (.ref (s.heap.objs.size + 1)) { s with heap := sortedAll s.heap vs vs'.toArray }) :
    wpAny (model prog w) A (call (.builtin "sorted") [.ref l]) Q E s := by
  classical
  have all : ∀ v ∈ vs, ∃ k, KA prog w s.heap v k := fun v hv => by
    obtain ⟨i, hi, rfl⟩ := List.getElem_of_mem hv
    exact ⟨_, hk i _ _ (List.getElem?_eq_getElem hi) (List.getElem?_eq_getElem (by omega))⟩
  obtain ⟨kf, hkf⟩ : ∃ kf : Value → Int × Int × Int, ∀ v ∈ vs, KA prog w s.heap v (kf v) := ⟨fun v => if q : ∃ k, KA prog w s.heap v k then Classical.choose q else default, fun v hv => by
    have q := all v hv
    simp only [dif_pos q]; exact Classical.choose_spec q⟩
  have eks : ks = vs.map kf := by
    apply List.ext_getElem?
    intro i
    rw [List.getElem?_map]
    cases e : vs[i]? with
    | none => rw [List.getElem?_eq_none_iff] at e; simp; omega
    | some v =>
      have hi := (List.getElem?_eq_some_iff.mp e).1
      have e2 : ks[i]? = some ks[i] := List.getElem?_eq_getElem (by omega)
      rw [e2, (hk i v _ e e2).inj (hkf v (List.mem_of_getElem? e))]; rfl
  have pm : ∀ p ∈ (pairsOf vs).toList, p.1 = p.2 ∧ p.1 ∈ vs := fun p hp => by rw [pairsOf_toList] at hp; exact mem_zip_self hp
  refine sorted_ok (κ := kindA prog w s.heap) (kd := tuples' true) hl h64 (fun h' A' E' hA kp ne => ⟨fun R hR => ?_, ⟨fun E2 x y Q2 hx hy hQ => ?_⟩⟩) fun t hp hs => ?_
  · have g : ∀ v ∈ vs, ∃ u, (∃ a o m r, v = Value.ref a ∧ h'.get? a = some o ∧ o.cls = .type "tuple" ∧ o.data = .seq (u :: r).toArray m) ∧ Shared.TypeIs { s with heap := h' } u "int" := fun v hv => by
      obtain ⟨a, o, m, b, t, e, ho, hc, hd, hb⟩ := ((hkf v hv).mono kp).ex
      exact ⟨_, ⟨a, o, m, [.ref b], e, ho, hc, hd⟩, typeIs_int _ _ _⟩
    obtain ⟨gf, hgf⟩ : ∃ gf : Value → Value, ∀ v ∈ vs, (∃ a o m r, v = Value.ref a ∧ h'.get? a = some o ∧ o.cls = .type "tuple" ∧ o.data = .seq (gf v :: r).toArray m) ∧ Shared.TypeIs { s with heap := h' } (gf v) "int" := ⟨fun v => if q : ∃ u, (∃ a o m r, v = Value.ref a ∧ h'.get? a = some o ∧ o.cls = .type "tuple" ∧ o.data = .seq (u :: r).toArray m) ∧ Shared.TypeIs { s with heap := h' } u "int" then Classical.choose q else .none, fun v hv => by
      have q := g v hv
      simp only [dif_pos q]; exact Classical.choose_spec q⟩
    exact kind_wp (s := { s with heap := h' }) (g := gf) (T := "int") ne (fun v hv => (hgf v hv).1) (fun v hv => (hgf v hv).2) hR
  · obtain ⟨_, x2⟩ := pm x hx
    obtain ⟨_, y2⟩ := pm y hy
    rw [kindA_of (hkf _ x2), kindA_of (hkf _ y2)] at hQ
    exact ltA (s := { s with heap := h' }) (by omega) ((hkf _ x2).mono kp) ((hkf _ y2).mono kp) hQ
  · obtain ⟨vs', ev⟩ : ∃ vs' : List Value, vs' = (arrOf t).toList.map (·.2) := ⟨_, rfl⟩
    have eo : (arrOf t).map (·.2) = vs'.toArray := by rw [ev]; apply Array.ext'; simp
    have lp : (arrOf t).toList.Perm (pairsOf vs).toList := Array.perm_iff_toList_perm.mp hp
    have e12 : ∀ p ∈ (arrOf t).toList, p.1 = p.2 ∧ p.1 ∈ vs := fun p hp => pm p (lp.mem_iff.mp hp)
    have pv : vs'.Perm vs := by
      rw [ev]
      have := lp.map (·.2)
      rw [pairsOf_toList] at this
      have e : (vs.zip vs).map (·.2) = vs := by
        have : ∀ l : List Value, (l.zip l).map (·.2) = l := fun l => by induction l with
          | nil => rfl
          | cons a l ih => simp [ih]
        exact this vs
      rwa [e] at this
    have srt : (vs'.map kf).Pairwise fun a b => leA a b = true := by
      rw [List.pairwise_iff_getElem]
      intro i j hi hj hij
      have li : i < (arrOf t).toList.length := by rw [ev] at hi; simpa using hi
      have lj : j < (arrOf t).toList.length := by rw [ev] at hj; simpa using hj
      have si : i < (arrOf t).size := by simpa using li
      have sj : j < (arrOf t).size := by simpa using lj
      have q := hs i j (Nat.le_of_lt hij) (by rw [← hp.size_eq]; exact sj)
      have kk : ∀ n (hn : n < (arrOf t).size), KK (kindA prog w s.heap) (arrOf t) n = flA (kf (arrOf t)[n].2) := fun n hn => by
        have m := e12 (arrOf t)[n] (by simp)
        unfold KK
        rw [Array.getElem?_eq_getElem hn]
        show ((kindA prog w s.heap).keyOf (arrOf t)[n].1).getD _ = _
        rw [kindA_of (hkf _ m.2), m.1]; rfl
      rw [kk i si, kk j sj] at q
      have q : ltI (flA (kf (arrOf t)[j].2)) (flA (kf (arrOf t)[i].2)) = false := q
      unfold leA
      simp only [ev, List.getElem_map, Array.getElem_toList]
      rw [q]; rfl
    have es : vs'.map kf = srtA ks := srtA_uniq (by rw [eks]; exact pv.map kf) srt
    rw [eo]
    refine h vs' pv.length_eq fun i v k e1 e2 => ?_
    have mv : v ∈ vs := pv.mem_iff.mp (List.mem_of_getElem? e1)
    rw [← es, List.getElem?_map, e1] at e2
    simp at e2
    exact ⟨mv, by rw [← e2]; exact hkf v mv⟩
end
end LT
set_option Elab.async false
set_option linter.all false
set_option maxRecDepth 100000
set_option autoImplicit false
namespace L2
open PySem PySem.Spec PyProof.Rows
section
variable {X : Cx}
noncomputable def KAh (H : Hp) (y : V) (k : Int × Int × Int) : Prop := ∃ a b, y = .ref a ∧ H a = some (.tup [.int k.1, .ref b]) ∧ H b = some (.tup [.int k.2.1, .int k.2.2])
theorem ka_of {pins : List (Addr × Obj)} {σ : St} {H : Hp} {s : Shared} {y : V} {u : Value} {k : Int × Int × Int} (I : Inv X pins σ H s) (r : RelV y u) (h : KAh H y k) : LT.KA X.prog X.w s.heap u k := by
  obtain ⟨a, b, rfl, ha, hb⟩ := h
  cases r
  obtain ⟨_, its, v1, o, ho, hc, n, hd⟩ := (show ObjOk X.prog X.w H s.heap a (.tup _) from I.hok a _ ha)
  obtain ⟨_, its2, v2, o2, ho2, hc2, n2, hd2⟩ := (show ObjOk X.prog X.w H s.heap b (.tup _) from I.hok b _ hb)
  cases v1 with
  | cons x1 t1 =>
    cases t1 with
    | cons x2 t2 =>
      cases t2
      obtain ⟨t, rfl⟩ := x1
      cases x2
      cases v2 with
      | cons y1 u1 =>
        cases u1 with
        | cons y2 u2 =>
          cases u2
          obtain ⟨t1, rfl⟩ := y1
          obtain ⟨t2, rfl⟩ := y2
          exact ⟨a, o, n, b, t, rfl, ho, hc, hd, o2, _, n2, ho2, hc2, hd2, .cons (intKind_is _ _ _ _) (.cons (intKind_is _ _ _ _) .nil)⟩
noncomputable def rSortA (K : PySem.W.Frag) : List V → Hp → VK → Prop := fun xs H Q => ∃ p ys ks, xs = [.ref p] ∧ SqL K H p ys ∧ ys.length < 64 ∧ ys.length = ks.length ∧ (∀ (i : Nat) y k, ys[i]? = some y → ks[i]? = some k → KAh H y k) ∧
  ∀ l zs, H l = none → zs.length = ys.length → (∀ (i : Nat) z k, zs[i]? = some z → (LT.srtA ks)[i]? = some k → z ∈ ys ∧ KAh H z k) → Q (.ref l) (upd H l (.lst zs))
theorem KAh.inj {H : Hp} {y : V} {k k' : Int × Int × Int} (x : KAh H y k) (z : KAh H y k') : k = k' := by
  obtain ⟨a, b, rfl, ha, hb⟩ := x
  obtain ⟨a', b', e, ha', hb'⟩ := z
  cases e
  rw [ha] at ha'
  simp only [Option.some.injEq, HO.tup.injEq, List.cons.injEq, V.int.injEq, V.ref.injEq, and_true] at ha'
  obtain ⟨e1, rfl⟩ := ha'
  rw [hb] at hb'
  simp only [Option.some.injEq, HO.tup.injEq, List.cons.injEq, V.int.injEq, and_true] at hb'
  obtain ⟨k1, k2, k3⟩ := k
  obtain ⟨k1', k2', k3'⟩ := k'
  simp only [Prod.mk.injEq]
  exact ⟨e1, hb'⟩
theorem vals_by {κ : Type} {R : V → κ → Prop} : ∀ {vs : List Value} {ks : List κ}, vs.length = ks.length → (∀ (i : Nat) v k, vs[i]? = some v → ks[i]? = some k → ∃ z, RelV z v ∧ R z k) → ∃ zs, Vals zs vs ∧ zs.length = vs.length ∧ ∀ (i : Nat) z k, zs[i]? = some z → ks[i]? = some k → R z k
  | [], _, _, _ => ⟨[], .nil, rfl, fun i z k e => by simp at e⟩
  | v :: vs, [], h, _ => by simp at h
  | v :: vs, k :: ks, h, g => by
    obtain ⟨z, z1, z2⟩ := g 0 v k rfl rfl
    obtain ⟨zs, w1, w2, w3⟩ := vals_by (vs := vs) (ks := ks) (by simpa using h) fun i v k e1 e2 => g (i + 1) v k (by simpa using e1) (by simpa using e2)
    refine ⟨z :: zs, .cons z1 w1, by simp [w2], fun i z' k' e1 e2 => ?_⟩
    cases i with
    | zero => simp at e1 e2; subst e1 e2; exact z2
    | succ i => exact w3 i z' k' (by simpa using e1) (by simpa using e2)
theorem call_sortA (hu : X.A.units + 64 < cLine) : CallR X (.builtin "sorted") (rSortA X.K) := by
  intro pins s σ H xs us Q I r h
  obtain ⟨p, ys, ks, rfl, hq, hn, hk, hka, q⟩ := h
  obtain ⟨u, rfl, rx⟩ := vals1 r
  cases rx
  obtain ⟨its, r', pl, hz⟩ := I.list hq
  have hlen := r'.length
  refine LT.sortedA (ks := ks) hu pl.isList (by omega) (by omega) (fun i v k e1 e2 => ?_) fun vs' l' g => ?_
  · obtain ⟨y, ey, ry⟩ : ∃ y, ys[i]? = some y ∧ RelV y v := by
      have hi : i < ys.length := by rw [hlen]; exact (List.getElem?_eq_some_iff.mp e1).1
      obtain ⟨v', e', rv⟩ := r'.get (List.getElem?_eq_getElem hi)
      rw [e1] at e'; cases e'
      exact ⟨_, List.getElem?_eq_getElem hi, rv⟩
    exact ka_of I ry (hka i y k ey e2)
  · have back : ∀ v ∈ its, ∃ y ∈ ys, RelV y v := fun v hv => by
      obtain ⟨i, hi, rfl⟩ := List.getElem_of_mem hv
      have hi' : i < ys.length := by omega
      obtain ⟨v', e', rv⟩ := r'.get (List.getElem?_eq_getElem hi')
      rw [List.getElem?_eq_getElem hi] at e'; cases e'
      exact ⟨_, List.getElem_mem hi', rv⟩
    have find : ∀ y ∈ ys, ∃ k, KAh H y k := fun y hy => by
      obtain ⟨j, hj, rfl⟩ := List.getElem_of_mem hy
      exact ⟨_, hka j _ _ (List.getElem?_eq_getElem hj) (List.getElem?_eq_getElem (by omega))⟩
    obtain ⟨zs, w1, w2, w3⟩ := vals_by (R := fun z k => z ∈ ys ∧ KAh H z k) (vs := vs') (ks := LT.srtA ks) (by rw [l', (LT.srtA_perm ks).length_eq]; omega) fun i v k e1 e2 => by
      obtain ⟨g1, g2⟩ := g i v k e1 e2
      obtain ⟨y, y1, y2⟩ := back v g1
      obtain ⟨k', hk'⟩ := find y y1
      have := (ka_of I y2 hk').inj g2
      subst this
      exact ⟨y, y2, y1, hk'⟩
    obtain ⟨ep, he⟩ := sortedAll_at s.heap its vs'.toArray
    refine ⟨.ref (s.heap.objs.size + 1), _, I.laid (a := s.heap.objs.size + 1) (t' := s.toks) (fun b o e => sortedAll_old e) (Nat.le_succ _) (show ObjOk X.prog X.w _ _ _ (.lst zs) from ⟨by rw [sizeLine_eq]; omega, vs', ep, w1, he⟩), rfl, q _ zs (I.hok.fresh (Nat.le_succ _)) (by omega) w3⟩
end
end L2
namespace L3
open PySem PySem.Spec L2 PyProof.Rows
section
variable {X : Cx} {F : Fx} {e a b c : Expr} {es : List Expr} {pos p : Pos} {m n : ME} {ma : MA}
noncomputable def keyOf1 : D → Option Key
  | .int i => some (.inl i)
  | .str x => some (.inr x)
  | _ => none
noncomputable def keysOf : List D → Option (List Key)
  | [] => some []
  | d :: ds => match keyOf1 d, keysOf ds with
    | some k, some ks => some (k :: ks)
    | _, _ => none
noncomputable def tupKey : D → Option (List Key)
  | .tup ds => keysOf ds
  | _ => none
noncomputable def tupKeys : List D → Option (List (List Key))
  | [] => some []
  | d :: ds => match tupKey d, tupKeys ds with
    | some k, some ks => some (k :: ks)
    | _, _ => none
noncomputable def lenSetD : List D → R D
  | [.lst ds] => if ds.length < 77 then match tupKeys ds with
    | some ks => .ok (.int (LS.dds ks).length)
    | none => .bad
    else .bad
  | _ => .bad
noncomputable def mExtend (i : Nat) (m : ME) : MEf := fun ρ => (ownAt i ρ).bind fun ds => (m ρ).bind fun d => match d with
  | .lst es => if ds.length + es.length ≤ 1000000 then .ok (.non, ρ.set i (.ow (ds ++ es))) else .bad
  | _ => .bad
theorem xe_extend (i : Nat) {x : Str} {px : Pos} {apos : Pos} {cpos : Pos} (he : XEM X F e m) (hN : X.N[i]? = some x := by rfl) (hv : Vis X.env.scope x := by first | exact Or.inl rfl | exact Or.inr (Or.inl rfl) | exact Or.inr (Or.inr rfl)) (hd : (x == ("__debug__" : Str)) = false := by decide) (hcd : (x == ("__classdict__" : Str)) = false := by decide)
    (hbase : attributeBase (.Name x px) "extend" X.env (eval (.Name x px) X.env) = eval (.Name x px) X.env := by rfl) (hline : (apos.endLine == cpos.line) = true := by rfl)
    (hfew : ((backTo cpos (starEach [e] X.env)).all (fun x => !x.1) && (backToKw cpos (keywordEach [] X.env)).all (fun x => x.1.isSome)
      && decide (([e] : List Expr).length + ([] : List Keyword).length + (if ([] : List Keyword).isEmpty then 0 else 1) < 30)) = true := by rfl)
    (hs : starEach [e] X.env = (false, eval e X.env) :: starEach [] X.env := by rfl) (hplain : (backTo cpos (starEach [] X.env)).any (·.1) = false := by rfl) :
    XEMf X F (.Call (.Attribute (.Name x px) "extend" apos) [e] [] cpos) (mExtend i m) := by
  refine ⟨PE.imp (pe_bm PySem.F.plainAttrs_list PySem.F.slot_list_extend PySem.F.type_list_extend mt_extend (pe_var hN hv hd hcd) (pa_cons he.1 pa_nil hs) hbase hfew hline hs hplain) ?_⟩
  rintro σ H Q ⟨G, ρ, r, h⟩
  unfold mExtend ownAt at h
  cases er : ρ[i]? with
  | none => rw [er] at h; exact h.elim
  | some s =>
    rw [er] at h
    cases s with
    | un => exact h.elim
    | fz _ => exact h.elim
    | tr _ => exact h.elim
    | ob ob =>
     cases ob with
     | dT _ _ => exact h.elim
     | ins _ _ _ => exact h.elim
     | lst ds =>
      obtain ⟨q, xs, e1, h1, h2, h3, h4⟩ := r.own er
      rw [R.bind_ok] at h
      refine ⟨.ref q, e1, .inl ⟨rfl, xs, SqL.of h1⟩, G, ρ, r, ?_⟩
      cases ea : m ρ with
      | bad => rw [ea] at h; exact h.elim
      | exc c => rw [ea] at h; exact h
      | ok d =>
        rw [ea, R.bind_ok] at h
        intro v H1 G1 r1 s1 av
        obtain ⟨q', xs', e1', h1', h2', h3', h4'⟩ := r1.own er
        rw [e1] at e1'
        cases e1'
        cases d with
        | lst es =>
          simp only at h
          split at h
          · rename_i hl
            simp only [At] at av
            obtain ⟨p2, ys, rfl, g2, q2⟩ := av
            refine ⟨q, p2, xs', ys, rfl, rfl, h1', r1.kp.sub _ _ g2, by rw [← h4'.length, ← q2.length, sizeLine_eq]; omega, ?_⟩
            exact h .non _ G1 (r1.mut er e1 (h4'.append q2)) s1.g (by simp only [At])
          · exact h.elim
        | _ => exact h.elim
noncomputable def mInsert (i : Nat) (m n : ME) : MEf := fun ρ => (ownAt i ρ).bind fun ds => (m ρ).bind fun d => (n ρ).bind fun y => match d with
  | .int k => if 0 ≤ k ∧ k < 2 ^ 63 ∧ ds.length < 1000000 then .ok (.non, ρ.set i (.ow (ds.take (min k.toNat ds.length) ++ y :: ds.drop (min k.toNat ds.length)))) else .bad
  | _ => .bad
noncomputable def mCatO (ma : MA) (m : ME) : MA := fun ρ => (ma ρ).bind fun ds => (m ρ).bind fun d => match d with
  | .lst es => if ds.length + es.length ≤ 1000000 then .ok (ds ++ es) else .bad
  | _ => .bad
noncomputable def mCat2 (m n : ME) : MA := fun ρ => (m ρ).bind fun c => (n ρ).bind fun d => match c, d with
  | .lst ds, .lst es => if ds.length + es.length ≤ 1000000 then .ok (ds ++ es) else .bad
  | _, _ => .bad
noncomputable def dA (k : Int × Int × Int) : D := .tup [.int k.1, .tup [.int k.2.1, .int k.2.2]]
noncomputable def kaD : D → Option (Int × Int × Int)
  | .tup [.int n, .tup [.int h, .int d]] => some (n, h, d)
  | _ => none
noncomputable def kaDs : List D → Option (List (Int × Int × Int))
  | [] => some []
  | d :: ds => match kaD d, kaDs ds with
    | some k, some ks => some (k :: ks)
    | _, _ => none
noncomputable def sortA : List D → R (List D)
  | [.lst ds] => if ds.length < 64 then match kaDs ds with
    | some ks => .ok ((LT.srtA ks).map dA)
    | none => .bad
    else .bad
  | _ => .bad
noncomputable def mSortA (m : MA) : MA := fun ρ => (m ρ).bind sortA
theorem kaD_eq {d : D} {k : Int × Int × Int} (h : kaD d = some k) : d = dA k := by
  unfold kaD at h
  split at h
  · cases h; rfl
  · cases h
theorem dA_at {K : PySem.W.Frag} {G : Hp} {v : V} {k : Int × Int × Int} : At K G (dA k) v ↔ KAh G v k := by
  unfold dA KAh
  simp only [At, AtL]
  constructor
  · rintro ⟨a, xs, rfl, g, v1, r1, rfl, rfl, v2, r2, rfl, ⟨b, ys, rfl, g2, w1, s1, rfl, rfl, w2, s2, rfl, rfl, rfl⟩, rfl⟩
    exact ⟨a, b, rfl, g, g2⟩
  · rintro ⟨a, b, rfl, g, g2⟩
    exact ⟨a, _, rfl, g, _, _, rfl, rfl, _, _, rfl, ⟨b, _, rfl, g2, _, _, rfl, rfl, _, _, rfl, rfl, rfl⟩, rfl⟩
theorem kaDs_eq : ∀ {ds : List D} {ks : List (Int × Int × Int)}, kaDs ds = some ks → ds = ks.map dA
  | [], ks, h => by simp only [kaDs] at h; cases h; rfl
  | d :: ds, ks, h => by
    simp only [kaDs] at h
    split at h
    · rename_i k ks' e1 e2
      cases h
      rw [kaD_eq e1, kaDs_eq e2]; rfl
    · cases h
theorem atl_by {K : PySem.W.Frag} {G : Hp} : ∀ {ds : List D} {xs : List V}, xs.length = ds.length → (∀ (i : Nat) x d, xs[i]? = some x → ds[i]? = some d → At K G d x) → AtL K G ds xs
  | [], [], _, _ => .nil
  | [], _ :: _, h, _ => by simp at h
  | _ :: _, [], h, _ => by simp at h
  | d :: ds, x :: xs, h, g => .cons (g 0 x d rfl rfl) (atl_by (by simpa using h) fun i x d e1 e2 => g (i + 1) x d (by simpa using e1) (by simpa using e2))
theorem xo_sortA (hu : X.A.units + 64 < cLine) (hm : X.mg "sorted" = none) (ha : XAM X F [e] ma) (hK : F.K = X.K := by rfl) (hg : Gl X "sorted" := by rfl) (he : starEach [e] X.env = (false, eval e X.env) :: starEach [] X.env := by rfl) (hpl : (backTo pos (starEach [] X.env)).any (·.1) = false := by rfl) :
    XEO X F (.Call (.Name "sorted" p) [e] [] pos) (mSortA ma) := by
  refine ⟨PE.imp (pe_callB (call_sortA hu) hg hm (by kernel_rfl) ha.1 (by decide) (by decide) he hpl) ?_⟩
  rintro σ H Q ⟨G, ρ, r, h⟩
  unfold mSortA at h
  refine ⟨G, ρ, r, ?_⟩
  cases ea : ma ρ with
  | bad => rw [ea] at h; exact h.elim
  | exc c => rw [ea] at h; exact h
  | ok ds =>
    rw [ea, R.bind_ok] at h
    intro vs H1 G1 r1 s1 a
    unfold sortA at h
    split at h
    · split at h
      · split at h
        · rename_i ks ek
          obtain ⟨v, rfl, av⟩ := a.one
          simp only [At] at av
          obtain ⟨q, xs, rfl, hq, aq⟩ := av
          have hd := kaDs_eq ek
          subst hd
          have hl := aq.length
          rw [List.length_map] at hl
          have kg : ∀ (i : Nat) y k, xs[i]? = some y → ks[i]? = some k → KAh G1 y k := fun i y k e1 e2 => by
            obtain ⟨y', e3, e4⟩ := aq.get (i := i) (d := dA k) (by rw [List.getElem?_map, e2]; rfl)
            rw [e1] at e3; cases e3
            exact dA_at.mp e4
          have up : ∀ {y k}, KAh G1 y k → KAh H1 y k := fun ⟨a, b, e, g1, g2⟩ => ⟨a, b, e, r1.kp.sub _ _ g1, r1.kp.sub _ _ g2⟩
          rename_i _ hlt
          rw [List.length_map] at hlt
          refine ⟨q, xs, ks, rfl, SqL.of (r1.kp.sub _ _ hq), by omega, by omega, fun i y k e1 e2 => up (kg i y k e1 e2), fun l zs hl' hz hg => ?_⟩
          have lz : (LT.srtA ks).length = ks.length := (LT.srtA_perm ks).length_eq
          refine h l zs _ G1 (r1.lay0 hl') (s1.trans (Up.lay0 hl')) (s1.h.gone hl') upd_same (r1.kp.sub.gone hl') (atl_by (by rw [List.length_map]; omega) fun i z d e1 e2 => ?_)
          rw [List.getElem?_map] at e2
          cases e3 : (LT.srtA ks)[i]? with
          | none => rw [e3] at e2; cases e2
          | some k =>
            rw [e3] at e2
            cases e2
            obtain ⟨m1, m2⟩ := hg i z k e1 e3
            obtain ⟨j, hj, rfl⟩ := List.getElem_of_mem m1
            have g1 := kg j _ _ (List.getElem?_eq_getElem hj) (List.getElem?_eq_getElem (by omega))
            rw [(up g1).inj m2] at g1
            exact dA_at.mpr g1
        · exact h.elim
      · exact h.elim
    · exact h.elim
noncomputable def mDict1 (k : Str) (i : Int) : ME := fun _ => .ok (.dK [.inr k] [.int i])
end
end L3
set_option Elab.async false
set_option linter.all false
set_option maxRecDepth 100000
set_option autoImplicit false
namespace L3
open PySem PySem.Spec L2 PyProof.Rows
section
variable {X : Cx} {F : Fx} {e a b c : Expr} {es : List Expr} {pos p : Pos} {m n : ME} {ma : MA}
theorem AtL.setI {K : PySem.W.Frag} {G : Hp} : ∀ {ds : List D} {xs : List V} {j : Nat} {d : D} {v : V}, AtL K G ds xs → At K G d v → AtL K G (ds.set j d) (xs.set j v)
  | [], _, _, _, _, h, _ => by simp only [AtL] at h; subst h; simp [AtL]
  | _ :: _, _, 0, _, _, h, a => by
    simp only [AtL] at h
    obtain ⟨v, r, rfl, q, t⟩ := h
    exact .cons a t
  | _ :: _, _, j + 1, _, _, h, a => by
    simp only [AtL] at h
    obtain ⟨v, r, rfl, q, t⟩ := h
    exact .cons q (AtL.setI t a)
noncomputable def putN (i : Nat) (ρ : Rho) (ds : List D) (v : D) : Option Nat → R Fl
  | some j => .ok (.nx (ρ.set i (.ow (ds.set j v))))
  | none => .bad
noncomputable def putK (i : Nat) (ρ : Rho) (ds : List D) (v : D) : D → R Fl
  | .int j => putN i ρ ds v (ixN ds.length j)
  | _ => .bad
noncomputable def mPutIx (i : Nat) (mk mv : ME) : MS := fun ρ => (mv ρ).bind fun v => (ownAt i ρ).bind fun ds => (mk ρ).bind fun k => putK i ρ ds v k
theorem xs_putIx (i : Nat) {x : Str} {px pos' : Pos} {k v : Expr} {mk mv : ME} (hk : XEM X F k mk) (hv : XEM X F v mv) (hN : X.N[i]? = some x := by rfl) (hvs : Vis X.env.scope x := by first | exact Or.inl rfl | exact Or.inr (Or.inl rfl) | exact Or.inr (Or.inr rfl)) (hd : (x == ("__debug__" : Str)) = false := by decide) (hcd : (x == ("__classdict__" : Str)) = false := by decide)
    (hs : swapsWithSole [.Subscript (.Name x px) k pos'] v pos.line X.env = pure false := by rfl) (hw : swappedStores [.Subscript (.Name x px) k pos'] v X.env = pure none := by rfl)
    (h1 : (assignEach [.Subscript (.Name x px) k pos'] X.env).map (·.2) = [assign (.Subscript (.Name x px) k pos') X.env] := by rfl)
    (ha : ∀ u, assign (.Subscript (.Name x px) k pos') X.env u = (do
      let ov ← holding [u] (eval (.Name x px) X.env)
      let iv ← holding [u, ov] (eval k X.env)
      standAt pos'
      holding [u, ov, iv] (setItem ov iv u)
      release [u, ov, iv] []) := by intro _; rfl) :
    XSM X F (.Assign [.Subscript (.Name x px) k pos'] v pos) (mPutIx i mk mv) := by
  refine ⟨PS.imp (ps_asg hv.1 (pg_sub (pe_var hN hvs hd hcd) hk.1 set_list ha) hs hw h1) ?_⟩
  rintro De σ H ⟨G, ρ, r, h⟩
  unfold mPutIx at h
  refine ⟨G, ρ, r, ?_⟩
  cases ev : mv ρ with
  | bad => rw [ev] at h; exact h.elim
  | exc c => rw [ev] at h; exact h
  | ok d =>
    rw [ev, R.bind_ok] at h
    intro u H1 G1 r1 s1 au
    cases er : ownAt i ρ with
    | bad => rw [er] at h; exact h.elim
    | exc c => exact (ownAt_noexc er).elim
    | ok ds =>
      rw [er, R.bind_ok] at h
      have e0 := ownAt_ok er
      obtain ⟨q, xs, e1, h1, h2, h3, h4⟩ := r1.own e0
      refine ⟨.ref q, e1, G1, ρ, r1, ?_⟩
      cases ek : mk ρ with
      | bad => rw [ek] at h; exact h.elim
      | exc c => rw [ek] at h; exact h
      | ok kd =>
        rw [ek, R.bind_ok] at h
        intro w H2 G2 r2 s2 aw
        obtain ⟨q', xs', e1', h1', h2', h3', h4'⟩ := r2.own e0
        rw [e1] at e1'
        cases e1'
        cases kd with
        | int j =>
          simp only [putK] at h
          simp only [At] at aw
          cases en : ixN ds.length j with
          | none => rw [en] at h; exact h.elim
          | some n =>
            rw [en] at h
            simp only [putN] at h
            refine ⟨q, xs', j, n, rfl, aw, h1', by rw [← h4'.length]; exact en, ?_⟩
            exact h _ G2 _ (r2.mut e0 e1 (h4'.setI (au.mono s2.g))) (s1.trans s2).g
        | _ => exact h.elim
noncomputable def apN (i : Nat) (ρ : Rho) (ts : List T) (m : ME) : Option Nat → R Fl
  | some j => match ts[j]? with
    | some (.lst us) => (m ρ).bind fun d => if us.length < 1000000 then .ok (.nx (ρ.set i (.tr (.lst (ts.set j (.lst (us ++ [.fz d]))))))) else .bad
    | _ => .bad
  | none => .bad
noncomputable def apD (i : Nat) (ρ : Rho) (ts : List T) (m : ME) : D → R Fl
  | .int j => apN i ρ ts m (ixN ts.length j)
  | _ => .bad
noncomputable def mAppAt (i : Nat) (mk m : ME) : MS := fun ρ => (treeAt i ρ).bind fun ts => (mk ρ).bind fun k => apD i ρ ts m k
theorem xs_appAt (i : Nat) {x : Str} {px spos pos' : Pos} {apos cpos : Pos} {k : Expr} {mk : ME} (hk : XEM X F k mk) (hpx : PlainIx k) (he : XEM X F e m) (hN : X.N[i]? = some x := by rfl) (hv : Vis X.env.scope x := by first | exact Or.inl rfl | exact Or.inr (Or.inl rfl) | exact Or.inr (Or.inr rfl)) (hd : (x == ("__debug__" : Str)) = false := by decide) (hcd : (x == ("__classdict__" : Str)) = false := by decide)
    (hbase : attributeBase (.Subscript (.Name x px) k pos') "append" X.env (eval (.Subscript (.Name x px) k pos') X.env) = eval (.Subscript (.Name x px) k pos') X.env := by rfl) (hline : (apos.endLine == cpos.line) = true := by rfl)
    (hfew : ((backTo cpos (starEach [e] X.env)).all (fun x => !x.1) && (backToKw cpos (keywordEach [] X.env)).all (fun x => x.1.isSome)
      && decide (([e] : List Expr).length + ([] : List Keyword).length + (if ([] : List Keyword).isEmpty then 0 else 1) < 30)) = true := by rfl)
    (hs : starEach [e] X.env = (false, eval e X.env) :: starEach [] X.env := by rfl) (hplain : (backTo cpos (starEach [] X.env)).any (·.1) = false := by rfl) :
    XSM X F (.Expr (.Call (.Attribute (.Subscript (.Name x px) k pos') "append" apos) [e] [] cpos) spos) (mAppAt i mk m) := by
  refine ⟨PS.imp (ps_expr (pe_bm PySem.F.plainAttrs_list PySem.F.slot_list_append PySem.F.type_list_append mt_append (pe_ix ix_seq (pe_var hN hv hd hcd) hk.1 hpx) (pa_cons he.1 pa_nil hs) hbase hfew hline hs hplain) (swaps_no _ _ _ _ rfl)) ?_⟩
  rintro De σ H ⟨G, ρ, r, h⟩
  unfold mAppAt at h
  cases er : treeAt i ρ with
  | bad => rw [er] at h; exact h.elim
  | exc c => exact (treeAt_noexc er).elim
  | ok ts =>
    rw [er, R.bind_ok] at h
    have e0 := treeAt_ok er
    obtain ⟨a, xs, e1, ha, wl, nd⟩ := r.root e0
    refine ⟨.ref a, e1, G, ρ, r, ?_⟩
    cases ek : mk ρ with
    | bad => rw [ek] at h; exact h.elim
    | exc c => rw [ek] at h; exact h
    | ok kd =>
      rw [ek, R.bind_ok] at h
      intro w H1 G1 r1 s1 aw
      cases kd with
      | int j =>
        simp only [apD] at h
        simp only [At] at aw
        cases en : ixN ts.length j with
        | none => rw [en] at h; exact h.elim
        | some n =>
          rw [en] at h
          simp only [apN] at h
          obtain ⟨a', xs', e1', ha', wl', nd'⟩ := r1.root e0
          rw [e1] at e1'; cases e1'
          cases et : ts[n]? with
          | none => rw [et] at h; exact h.elim
          | some t =>
            rw [et] at h
            cases t with
            | fz _ => exact h.elim
            | dK _ _ => exact h.elim
            | dT _ _ => exact h.elim
            | ins _ _ _ => exact h.elim
            | lst us =>
              simp only at h
              obtain ⟨v, ev, wt⟩ := tl_get wl' et
              simp only [TAt] at wt
              obtain ⟨q, ys, rfl, hq, wu⟩ := wt
              have eat : atI xs' j = some (.ref q) := by
                unfold atI
                rw [← wl'.length, en]; exact ev
              refine .inl ⟨a, xs', j, .ref q, rfl, aw, SqL.of ha', eat, .inl ⟨rfl, ys, SqL.of hq⟩, G1, ρ, r1, ?_⟩
              cases em : m ρ with
              | bad => rw [em] at h; exact h.elim
              | exc c => rw [em] at h; exact h
              | ok d =>
                rw [em, R.bind_ok] at h
                intro u H2 G2 r2 s2 au
                by_cases hvl : us.length < 1000000
                · rw [if_pos hvl] at h
                  obtain ⟨a4, xs4, e4, ha4, wl4, nd4⟩ := r2.root e0
                  rw [e1] at e4; cases e4
                  have hx4 : xs4 = xs' := by
                    have := s2.h _ _ ha'
                    rw [ha4] at this; cases this; rfl
                  subst hx4
                  have hq4 : H2 q = some (.lst ys) := s2.h _ _ hq
                  obtain ⟨v5, ev5, wt5⟩ := tl_get wl4 et
                  rw [ev] at ev5; cases ev5
                  simp only [TAt] at wt5
                  obtain ⟨q5, ys5, z5, hq5, wu5⟩ := wt5
                  cases z5
                  rw [hq4] at hq5; cases hq5
                  obtain ⟨p1, p2⟩ := wu5.append (us := [T.fz d]) (ws := [u]) (.cons (by simp only [TAt]; exact au) .nil)
                  have p3 : fpL H2 [T.fz d] [u] = [] := by rw [fpL_cons, fpL_nil]; simp only [fp, List.append_nil]
                  rw [p3, List.append_nil] at p2
                  have r5 := r2.mutK e0 e1 ha4 et ev hq4 p1 p2
                  exact ⟨q, ys, u, rfl, rfl, hq4, by rw [← wu5.length]; exact Nat.lt_trans hvl (by decide), h _ G2 _ r5 (s1.trans s2).g⟩
                · rw [if_neg hvl] at h; exact h.elim
      | _ => exact h.elim
theorem xs_setC (i : Nat) {x : Str} {p : Pos} (hN : X.N.Nodup) (he : XEO X F e ma) (hi : X.N[i]? = some x := by rfl) (hx : Loc X.env.scope x := by first | exact Or.inl rfl | exact Or.inr rfl) (hs : swapsWith e (some (.Name x p)) pos.line X.env = pure false := by rfl)
    (hf : X.fn x = true ∨ X.env.scope.names.lookup x = some .local := by first | exact .inl rfl | exact .inr rfl) : XSM X F (.Assign [.Name x p] e pos) (mSetO i ma) := ⟨PS.imp (ps_set hN hi hx he.1 hs hf) i_setO⟩
end
end L3
set_option Elab.async false
set_option linter.all false
set_option maxRecDepth 100000
set_option autoImplicit false
namespace L3
open PySem PySem.Spec L2
@[simp] theorem vb_ok {α β : Type} (a : α) (k : α → R β) : (R.ok a).bind k = k a := (rfl)
@[simp] theorem vb_bad {α β : Type} (k : α → R β) : (R.bad : R α).bind k = .bad := (rfl)
@[simp] theorem vb_exc {α β : Type} (c : Str) (k : α → R β) : (R.exc c : R α).bind k = .exc c := (rfl)
noncomputable def sqK (b : MS) : Fl → R Fl
  | .nx ρ => b ρ
  | f => .ok f
@[simp] theorem v_seq (a b : MS) (ρ : Rho) : mSeq a b ρ = (a ρ).bind (sqK b) := by
  unfold mSeq; congr 1
@[simp] theorem sqK_nx (b : MS) (ρ : Rho) : sqK b (.nx ρ) = b ρ := (rfl)
@[simp] theorem sqK_rt (b : MS) (d : D) : sqK b (.rt d) = .ok (.rt d) := (rfl)
@[simp] theorem sqK_ro (b : MS) (d : List D) : sqK b (.ro d) = .ok (.ro d) := (rfl)
noncomputable def rdS : Option Sl → R D
  | some (.fz d) => .ok d
  | _ => .bad
@[simp] theorem v_var (i : Nat) (ρ : Rho) : mVar i ρ = rdS ρ[i]? := by
  unfold mVar rdS; rfl
@[simp] theorem rdS_fz (d : D) : rdS (some (.fz d)) = .ok d := (rfl)
@[simp] theorem v_C (d : D) (ρ : Rho) : mC d ρ = .ok d := (rfl)
@[simp] theorem v_bin (f : D → D → R D) (a b : ME) (ρ : Rho) : mBin f a b ρ = (a ρ).bind fun x => (b ρ).bind fun y => f x y := (rfl)
@[simp] theorem v_un (f : D → R D) (a : ME) (ρ : Rho) : mUn f a ρ = (a ρ).bind f := (rfl)
@[simp] theorem v_nil (ρ : Rho) : mNil ρ = .ok [] := (rfl)
@[simp] theorem v_cons (a : ME) (r : MA) (ρ : Rho) : mCons a r ρ = (a ρ).bind fun x => (r ρ).bind fun xs => .ok (x :: xs) := (rfl)
noncomputable def tuK (xs : List D) : R D := if xs.length ≤ 1000000 then .ok (.tup xs) else .bad
@[simp] theorem v_tup (m : MA) (ρ : Rho) : mTup m ρ = (m ρ).bind tuK := (rfl)
@[simp] theorem tuK_ok {xs : List D} (h : xs.length ≤ 1000000) : tuK xs = .ok (.tup xs) := if_pos h
@[simp] theorem v_fz (m : MA) (ρ : Rho) : mFz m ρ = (m ρ).bind fun xs => .ok (.lst xs) := (rfl)
@[simp] theorem v_lim (m : MA) (ρ : Rho) : mLim m ρ = (m ρ).bind lim := (rfl)
@[simp] theorem v_B (m : ME) (ρ : Rho) : mB m ρ = (m ρ).bind asB := (rfl)
@[simp] theorem asB_bl (b : Bool) : asB (.bl b) = .ok b := (rfl)
@[simp] theorem v_and (a b : MT) (ρ : Rho) : mAnd a b ρ = (a ρ).bind fun c => if c = true then b ρ else .ok false := (rfl)
@[simp] theorem v_or (a b : MT) (ρ : Rho) : mOr a b ρ = (a ρ).bind fun c => if c = true then .ok true else b ρ := (rfl)
@[simp] theorem v_not (a : MT) (ρ : Rho) : mNot a ρ = (a ρ).bind fun c => .ok (!c) := (rfl)
@[simp] theorem v_andV (a b : ME) (ρ : Rho) : mAndV a b ρ = (a ρ).bind fun x => (asB x).bind fun c => if c = true then b ρ else .ok (.bl false) := (rfl)
@[simp] theorem v_if (c : MT) (a b : MS) (ρ : Rho) : mIfS c a b ρ = (c ρ).bind fun k => if k = true then a ρ else b ρ := (rfl)
@[simp] theorem v_next (ρ : Rho) : mNext ρ = .ok (.nx ρ) := (rfl)
@[simp] theorem v_ret (a : ME) (ρ : Rho) : mRet a ρ = (a ρ).bind fun d => .ok (.rt d) := (rfl)
@[simp] theorem v_retO (a : MA) (ρ : Rho) : mRetO a ρ = (a ρ).bind fun d => .ok (.ro d) := (rfl)
@[simp] theorem v_setV (i : Nat) (d : D) (ρ : Rho) : setV i d ρ = if i < ρ.length then .ok (ρ.set i (.fz d)) else .bad := (rfl)
@[simp] theorem v_set (i : Nat) (a : ME) (ρ : Rho) : mSet i a ρ = (a ρ).bind fun d => (setV i d ρ).bind fun ρ' => .ok (.nx ρ') := (rfl)
@[simp] theorem v_setO (i : Nat) (a : MA) (ρ : Rho) : mSetO i a ρ = (a ρ).bind fun ds => if i < ρ.length then .ok (.nx (ρ.set i (.ow ds))) else .bad := (rfl)
@[simp] theorem v_setE (i : Nat) (a : MEf) (ρ : Rho) : mSetE i a ρ = (a ρ).bind fun x => (setV i x.1 x.2).bind fun ρ' => .ok (.nx ρ') := (rfl)
@[simp] theorem v_dropE (a : MEf) (ρ : Rho) : mDropE a ρ = (a ρ).bind fun x => .ok (.nx x.2) := (rfl)
@[simp] theorem v_cb (f : List D → R D) (m : MA) (ρ : Rho) : mCB f m ρ = (m ρ).bind f := (rfl)
@[simp] theorem v_call (n : Nat) (mf : List D → R Rt) (m : MA) (ρ : Rho) : mCall n mf m ρ = (m ρ).bind fun ds => if ds.length = n then (mf ds).bind rtD else .bad := (rfl)
@[simp] theorem v_callO (n : Nat) (mf : List D → R Rt) (m : MA) (ρ : Rho) : mCallO n mf m ρ = (m ρ).bind fun ds => if ds.length = n then (mf ds).bind rtO else .bad := (rfl)
theorem v_for (mi : MA) (set : D → Rho → R Rho) (body : MS) (ρ : Rho) : mFor mi set body ρ = (mi ρ).bind fun ds => forGo set body ds ρ := (rfl)
@[simp] theorem v_r1 (m : MA) (ρ : Rho) : mR1 m ρ = (m ρ).bind rng1 := (rfl)
@[simp] theorem v_il (m : ME) (ρ : Rho) : mIL m ρ = (m ρ).bind seqD := (rfl)
@[simp] theorem v_bor (m : ME) (ρ : Rho) : mBor m ρ = (m (frzA ρ)).bind onlyS := (rfl)
@[simp] theorem v_borT (m : MT) (ρ : Rho) : mBorT m ρ = m (frzA ρ) := (rfl)
theorem v_comp (nl : Nat) (caps : List Nat) (mi : MA) (set : D → Rho → R Rho) (tst : MT) (elt : ME) (ρ : Rho) : mComp nl caps mi set tst elt ρ = (mi ρ).bind fun ds => noX (compGo set tst elt ds (blkR nl caps ρ) []) := (rfl)
@[simp] theorem add_ii (i j : Int) : addD (.int i) (.int j) = .ok (.int (i + j)) := (rfl)
@[simp] theorem sub_ii (i j : Int) : subD (.int i) (.int j) = .ok (.int (i - j)) := (rfl)
@[simp] theorem mul_l {i j : Int} (h1 : -18446744073709551616 < i) (h2 : i < 18446744073709551616) : mulD (.int i) (.int j) = .ok (.int (i * j)) := if_pos (Or.inl ⟨h1, h2⟩)
@[simp] theorem mul_r {i j : Int} (h1 : -18446744073709551616 < j) (h2 : j < 18446744073709551616) : mulD (.int i) (.int j) = .ok (.int (i * j)) := if_pos (Or.inr ⟨h1, h2⟩)
@[simp] theorem fdiv_ii {i j : Int} (h1 : 0 < j) (h2 : j < 1073741824) : fdivD (.int i) (.int j) = .ok (.int (i / j)) := if_pos ⟨h1, h2⟩
@[simp] theorem mod_ii {i j : Int} (h : 0 < j) : modD (.int i) (.int j) = .ok (.int (i % j)) := if_pos h
@[simp] theorem pow_ii {i : Int} {j : Nat} (h : j ≤ 1000000) (h1 : -1000000 < i) (h2 : i < 1000000) : powD (.int i) (.int (j : Int)) = .ok (.int (i ^ j)) := by
  have : CPow i (j : Int) := ⟨by omega, by omega, by omega⟩
  simp only [powD, intsD, if_pos this, Int.toNat_natCast]
theorem pow_10_30 : powD (.int 10) (.int 30) = .ok (.int 1000000000000000000000000000000) := (rfl)
@[simp] theorem lt_ii (i j : Int) : ltD (.int i) (.int j) = .ok (.bl (decide (i < j))) := (rfl)
@[simp] theorem le_ii (i j : Int) : leD (.int i) (.int j) = .ok (.bl (decide (i ≤ j))) := (rfl)
@[simp] theorem gt_ii (i j : Int) : gtD (.int i) (.int j) = .ok (.bl (decide (j < i))) := (rfl)
@[simp] theorem eq_ii (i j : Int) : eqR true (.int i) (.int j) = .ok (.bl (i == j)) := (rfl)
@[simp] theorem ne_ii (i j : Int) : eqR false (.int i) (.int j) = .ok (.bl (!(i == j))) := (rfl)
@[simp] theorem len_l (xs : List D) : lenD [.lst xs] = .ok (.int xs.length) := (rfl)
@[simp] theorem len_t (xs : List D) : lenD [.tup xs] = .ok (.int xs.length) := (rfl)
@[simp] theorem len_s (xs : List D) : lenD [.scr xs] = .ok (.int xs.length) := (rfl)
@[simp] theorem rt_v (d : D) : rtD (.v d) = .ok d := (rfl)
@[simp] theorem rt_o (ds : List D) : rtD (.o ds) = .ok (.lst ds) := (rfl)
@[simp] theorem ro_o (ds : List D) : rtO (.o ds) = .ok ds := (rfl)
@[simp] theorem out_rt (d : D) : outD (.rt d) = .ok (.v d) := (rfl)
@[simp] theorem out_ro (d : List D) : outD (.ro d) = .ok (.o d) := (rfl)
@[simp] theorem v_def (N : Nat) (m : MS) (ds : List D) : mDef N m ds = (m (ini N ds)).bind outD := (rfl)
noncomputable def owS : Option Sl → R (List D)
  | some (.ow ds) => .ok ds
  | _ => .bad
@[simp] theorem v_own (i : Nat) (ρ : Rho) : ownAt i ρ = owS ρ[i]? := by
  unfold ownAt owS; rfl
@[simp] theorem owS_ow (ds : List D) : owS (some (.ow ds)) = .ok ds := (rfl)
@[simp] theorem forGo_nil (set : D → Rho → R Rho) (body : MS) (ρ : Rho) : forGo set body [] ρ = .ok (.nx ρ) := (rfl)
theorem for_inv {set : D → Rho → R Rho} {body : MS} (I : Nat → Rho → Prop) : ∀ (ds : List D) (i : Nat) (ρ : Rho), (∀ (j : Nat) d ρ, ds[j]? = some d → I (i + j) ρ → ∃ ρ1 ρ', set d ρ = .ok ρ1 ∧ body ρ1 = .ok (.nx ρ') ∧ I (i + j + 1) ρ') → I i ρ → ∃ ρ', forGo set body ds ρ = .ok (.nx ρ') ∧ I (i + ds.length) ρ'
  | [], i, ρ, _, h => ⟨ρ, rfl, h⟩
  | d :: ds, i, ρ, st, h => by
    obtain ⟨ρ1, ρ2, e1, e2, h2⟩ := st 0 d ρ rfl h
    obtain ⟨ρ', e3, h3⟩ := for_inv I ds (i + 1) ρ2 (fun j d ρ e hi => by
      obtain ⟨a, b, c1, c2, c3⟩ := st (j + 1) d ρ (by simpa using e) (by rw [show i + (j + 1) = i + 1 + j by omega]; exact hi)
      exact ⟨a, b, c1, c2, by rw [show i + 1 + j + 1 = i + (j + 1) + 1 by omega]; exact c3⟩) (by simpa using h2)
    refine ⟨ρ', ?_, by rw [List.length_cons, show i + (ds.length + 1) = i + 1 + ds.length by omega]; exact h3⟩
    rw [forGo, e1, vb_ok, e2, vb_ok]; exact e3
theorem forI {mi : MA} {set : D → Rho → R Rho} {body : MS} {ds : List D} {ρ : Rho} (I : Nat → Rho → Prop) (hi : mi ρ = .ok ds) (st : ∀ (j : Nat) d ρ, ds[j]? = some d → I j ρ → ∃ ρ1 ρ', set d ρ = .ok ρ1 ∧ body ρ1 = .ok (.nx ρ') ∧ I (j + 1) ρ') (h : I 0 ρ) : ∃ ρ', mFor mi set body ρ = .ok (.nx ρ') ∧ I ds.length ρ' := by
  obtain ⟨ρ', e, h'⟩ := for_inv I ds 0 ρ (fun j d ρ e hj => by rw [Nat.zero_add] at hj ⊢; exact st j d ρ e hj) h
  rw [Nat.zero_add] at h'
  exact ⟨ρ', by rw [v_for, hi, vb_ok, e], h'⟩
@[simp] theorem capS_fz (d : D) : capS (.fz d) = .fz d := (rfl)
noncomputable def apK (i : Nat) (ρ : Rho) (ds : List D) (d : D) : R Fl := if ds.length < 1000000 then .ok (.nx (ρ.set i (.ow (ds ++ [d])))) else .bad
@[simp] theorem apK_ok {i : Nat} {ρ : Rho} {ds : List D} {d : D} (h : ds.length < 1000000) : apK i ρ ds d = .ok (.nx (ρ.set i (.ow (ds ++ [d])))) := if_pos h
@[simp] theorem v_app (i : Nat) (m : ME) (ρ : Rho) : mApp i m ρ = (ownAt i ρ).bind fun ds => (m ρ).bind fun d => apK i ρ ds d := (rfl)
@[simp] theorem v_appE (i : Nat) (m : MEf) (ρ : Rho) : mAppE i m ρ = (ownAt i ρ).bind fun _ => (m ρ).bind fun x => (ownAt i x.2).bind fun ds => apK i x.2 ds x.1 := (rfl)
@[simp] theorem v_lf (m : ME) (ρ : Rho) : lf m ρ = (m ρ).bind fun d => .ok (d, ρ) := (rfl)
@[simp] theorem v_lfA (m : MA) (ρ : Rho) : lfA m ρ = (m ρ).bind fun d => .ok (d, ρ) := (rfl)
@[simp] theorem v_consE (a : MEf) (r : MAf) (ρ : Rho) : mConsE a r ρ = (a ρ).bind fun x => (r x.2).bind fun y => .ok (x.1 :: y.1, y.2) := (rfl)
@[simp] theorem v_tupE (m : MAf) (ρ : Rho) : mTupE m ρ = (m ρ).bind fun x => (tuK x.1).bind fun d => .ok (d, x.2) := by
  unfold mTupE tuK
  congr 1; funext x
  split <;> rfl
noncomputable def exK (i : Nat) (ds : List D) (ρ : Rho) : D → R (D × Rho)
  | .lst es => if ds.length + es.length ≤ 1000000 then .ok (.non, ρ.set i (.ow (ds ++ es))) else .bad
  | _ => .bad
@[simp] theorem v_ext (i : Nat) (m : ME) (ρ : Rho) : mExtend i m ρ = (ownAt i ρ).bind fun ds => (m ρ).bind fun d => exK i ds ρ d := by
  unfold mExtend; congr 1
@[simp] theorem exK_l {i : Nat} {ds es : List D} {ρ : Rho} (h : ds.length + es.length ≤ 1000000) : exK i ds ρ (.lst es) = .ok (.non, ρ.set i (.ow (ds ++ es))) := if_pos h
noncomputable def poK (i : Nat) (ds : List D) (ρ : Rho) : D → R (D × Rho)
  | .int k => if -(2 ^ 63) ≤ k ∧ k < 2 ^ 63 then match seqIndex? k ds.length with
    | some j => match ds[j]? with
      | some y => .ok (y, ρ.set i (.ow (ds.eraseIdx j)))
      | none => .bad
    | none => .bad
    else .bad
  | _ => .bad
@[simp] theorem v_pop (i : Nat) (m : ME) (ρ : Rho) : mPopAt i m ρ = (ownAt i ρ).bind fun ds => (m ρ).bind fun d => poK i ds ρ d := by
  unfold mPopAt; congr 1
theorem poK_n {i : Nat} {ds : List D} {ρ : Rho} {k : Nat} (h : k < ds.length) (hl : ds.length < 1000000) : poK i ds ρ (.int (k : Int)) = .ok (ds[k], ρ.set i (.ow (ds.eraseIdx k))) := by
  have b1 : -(2 ^ 63) ≤ (k : Int) := Int.le_trans (by decide) (Int.natCast_nonneg k)
  have b2 : (k : Int) < 2 ^ 63 := Int.lt_trans (b := 1000000) (by omega) (by decide)
  have s : seqIndex? (k : Int) ds.length = some k := by rw [PySem.seqIndex_of (by omega) (by omega)]; simp
  simp only [poK, if_pos (And.intro b1 b2), s, List.getElem?_eq_getElem h]
noncomputable def inK (i : Nat) (ds : List D) (ρ : Rho) (y : D) : D → R (D × Rho)
  | .int k => if 0 ≤ k ∧ k < 2 ^ 63 ∧ ds.length < 1000000 then .ok (.non, ρ.set i (.ow (ds.take (min k.toNat ds.length) ++ y :: ds.drop (min k.toNat ds.length)))) else .bad
  | _ => .bad
@[simp] theorem v_ins (i : Nat) (m n : ME) (ρ : Rho) : mInsert i m n ρ = (ownAt i ρ).bind fun ds => (m ρ).bind fun d => (n ρ).bind fun y => inK i ds ρ y d := by
  unfold mInsert; congr 1
@[simp] theorem v_lr (m : MA) (ρ : Rho) : mLR m ρ = (m ρ).bind lrD := (rfl)
@[simp] theorem v_listO (m : MA) (ρ : Rho) : mListO m ρ = (m ρ).bind listD := (rfl)
@[simp] theorem v_it (m : ME) (ρ : Rho) : mIT m ρ = (m ρ).bind tupD := (rfl)
@[simp] theorem v_unp (set : D → Rho → R Rho) (m : ME) (ρ : Rho) : mUnp set m ρ = (m ρ).bind fun d => (set d ρ).bind fun ρ' => .ok (.nx ρ') := (rfl)
@[simp] theorem v_retZ (m : ME) (ρ : Rho) : mRetZ m ρ = (m (frzA ρ)).bind fun d => .ok (.rt d) := (rfl)
@[simp] theorem v_notV (a : ME) (ρ : Rho) : mNotV a ρ = (a ρ).bind fun x => (asB x).bind fun c => .ok (.bl (!c)) := (rfl)
@[simp] theorem seqD_l (ds : List D) : seqD (.lst ds) = .ok ds := (rfl)
@[simp] theorem tupD_t (ds : List D) : tupD (.tup ds) = .ok ds := (rfl)
@[simp] theorem listD_l (ds : List D) : listD [.lst ds] = .ok ds := (rfl)
@[simp] theorem lim_ok {xs : List D} (h : xs.length ≤ 1000000) : lim xs = .ok xs := if_pos h
@[simp] theorem frz_nil : frzA [] = [] := (rfl)
@[simp] theorem frz_cons (s : Sl) (ρ : Rho) : frzA (s :: ρ) = frzS s :: frzA ρ := (rfl)
@[simp] theorem frzS_fz (d : D) : frzS (.fz d) = .fz d := (rfl)
@[simp] theorem frzS_un : frzS .un = .un := (rfl)
@[simp] theorem frzS_ow (ds : List D) : frzS (.ob (.lst ds)) = .fz (.lst ds) := (rfl)
@[simp] theorem only_int (i : Int) : onlyS (.int i) = .ok (.int i) := (rfl)
@[simp] theorem only_bl (i : Bool) : onlyS (.bl i) = .ok (.bl i) := (rfl)
@[simp] theorem noX_ok {α : Type} (a : α) : noX (R.ok a) = .ok a := (rfl)
noncomputable def voS : Option Sl → R (List D)
  | some (.ob (.lst ds)) => .ok ds
  | _ => .bad
@[simp] theorem v_varO (i : Nat) (ρ : Rho) : mVarO i ρ = voS ρ[i]? := by unfold mVarO voS; rfl
@[simp] theorem voS_ow (ds : List D) : voS (some (.ow ds)) = .ok ds := (rfl)
@[simp] theorem v_chain (f g : D → D → R D) (a b c : ME) (ρ : Rho) : mChain f g a b c ρ = (a ρ).bind fun x => (b ρ).bind fun y => (f x y).bind fun z => (asB z).bind fun k => if k = true then (c ρ).bind fun w => g y w else .ok (.bl false) := (rfl)
@[simp] theorem ini_def (N : Nat) (ds : List D) : ini N ds = ds.map .fz ++ List.replicate (N - ds.length) .un := (rfl)
theorem ix_l {xs : List D} {k : Nat} {d : D} (h : xs[k]? = some d) : ixD (.lst xs) (.int (k : Int)) = .ok d := by
  have hk := (List.getElem?_eq_some_iff.mp h).1
  have e : atI xs (k : Int) = some d := by
    unfold atI ixN
    rw [if_pos (by omega), if_pos (by omega)]
    simpa using h
  simp only [ixD, e]
theorem ix_s {xs : List D} {k : Nat} {d : D} (h : xs[k]? = some d) : ixD (.scr xs) (.int (k : Int)) = .ok d := by
  have hk := (List.getElem?_eq_some_iff.mp h).1
  have e : atI xs (k : Int) = some d := by
    unfold atI ixN
    rw [if_pos (by omega), if_pos (by omega)]
    simpa using h
  simp only [ixD, e]
theorem ix_t {xs : List D} {k : Nat} {d : D} (h : xs[k]? = some d) : ixD (.tup xs) (.int (k : Int)) = .ok d := by
  have hk := (List.getElem?_eq_some_iff.mp h).1
  have e : atI xs (k : Int) = some d := by
    unfold atI ixN
    rw [if_pos (by omega), if_pos (by omega)]
    simpa using h
  simp only [ixD, e]
theorem nat_mod (x : Int) {n : Nat} (h : 0 < n) : ∃ k : Nat, k < n ∧ x % (n : Int) = (k : Int) := by
  have h0 : 0 ≤ x % (n : Int) := Int.emod_nonneg _ (by omega)
  have h1 : x % (n : Int) < (n : Int) := Int.emod_lt_of_pos _ (by omega)
  obtain ⟨k, e⟩ := Int.eq_ofNat_of_zero_le h0
  exact ⟨k, by omega, e⟩
@[simp] theorem rng1_nat (n : Nat) (h : n < 1000000) : rng1 [.int (n : Int)] = .ok (rangeD 0 n) := by
  have : -(2 ^ 62) ≤ (n : Int) ∧ (n : Int) < 2 ^ 62 := ⟨by omega, by omega⟩
  simp only [rng1, if_pos this, Int.toNat_natCast]
theorem range_at {n j : Nat} {d : D} (h : (rangeD 0 n)[j]? = some d) : j < n ∧ d = .int (j : Int) := by
  unfold rangeD at h
  rw [List.getElem?_map] at h
  cases e : (List.range n)[j]? with
  | none => rw [e] at h; cases h
  | some k =>
    rw [e] at h
    have hj : j < n := by
      have := (List.getElem?_eq_some_iff.mp e).1
      simpa using this
    rw [List.getElem?_range hj] at e
    cases e
    simp at h
    exact ⟨hj, h.symm⟩
@[simp] theorem range_len (a : Int) (n : Nat) : (rangeD a n).length = n := by simp [rangeD]
@[simp] theorem vb_assoc {α β γ : Type} (r : R α) (f : α → R β) (g : β → R γ) : (r.bind f).bind g = r.bind fun x => (f x).bind g := by cases r <;> rfl
noncomputable def Ends {β : Type} (r : R β) (T : β → Prop) : Prop := ∃ b, r = .ok b ∧ T b
@[simp] theorem ends_ok {β : Type} (b : β) (T : β → Prop) : Ends (.ok b) T = T b := propext ⟨fun ⟨c, e, h⟩ => by cases e; exact h, fun h => ⟨b, rfl, h⟩⟩
@[simp] theorem ends_bad {β : Type} (T : β → Prop) : Ends (.bad) T = False := propext ⟨fun ⟨c, e, h⟩ => (by cases e), False.elim⟩
theorem Ends.bind {α β : Type} {r : R α} {k : α → R β} {S : α → Prop} {T : β → Prop} (h : Ends r S) (f : ∀ b, S b → Ends (k b) T) : Ends (r.bind k) T := by
  obtain ⟨b, rfl, hb⟩ := h
  exact f b hb
noncomputable def Nx (I : Rho → Prop) (f : Fl) : Prop := ∃ ρ, f = .nx ρ ∧ I ρ
@[simp] theorem Nx_nx (I : Rho → Prop) (ρ : Rho) : Nx I (.nx ρ) = I ρ := propext ⟨fun ⟨r, e, h⟩ => by cases e; exact h, fun h => ⟨ρ, rfl, h⟩⟩
theorem ends_for {β : Type} {mi : MA} {set : D → Rho → R Rho} {body : MS} {ds : List D} {ρ : Rho} {k : Fl → R β} {T : β → Prop} (I : Nat → Rho → Prop) (hi : mi ρ = .ok ds) (h0 : I 0 ρ) (st : ∀ (j : Nat) d ρ, ds[j]? = some d → I j ρ → Ends ((set d ρ).bind body) (Nx (I (j + 1)))) (fin : ∀ ρ', I ds.length ρ' → Ends (k (.nx ρ')) T) : Ends ((mFor mi set body ρ).bind k) T := by
  obtain ⟨ρ', e, h⟩ := forI (body := body) (set := set) (mi := mi) I hi (fun j d ρ hd hI => by
    obtain ⟨b, e, ρ', rfl, h⟩ := st j d ρ hd hI
    cases es : set d ρ with
    | bad => rw [es] at e; cases e
    | exc c => rw [es] at e; cases e
    | ok ρ1 => rw [es, vb_ok] at e; exact ⟨ρ1, ρ', rfl, e, h⟩) h0
  rw [e, vb_ok]
  exact fin ρ' h
noncomputable def stF (i : Nat) : Fl → R Fl
  | .nx ρ' => .ok (.nx (frz1 i ρ'))
  | f => .ok f
@[simp] theorem v_setF (i : Nat) (a : MA) (ρ : Rho) : mSetF i a ρ = (mSetO i a ρ).bind (stF i) := by unfold mSetF; congr 1
@[simp] theorem stF_nx (i : Nat) (ρ : Rho) : stF i (.nx ρ) = .ok (.nx (frz1 i ρ)) := (rfl)
noncomputable def caD (ds : List D) : D → R (List D)
  | .lst es => if ds.length + es.length ≤ 1000000 then .ok (ds ++ es) else .bad
  | _ => .bad
@[simp] theorem caD_l {ds es : List D} (h : ds.length + es.length ≤ 1000000) : caD ds (.lst es) = .ok (ds ++ es) := if_pos h
noncomputable def ca2 : D → D → R (List D)
  | .lst ds, .lst es => if ds.length + es.length ≤ 1000000 then .ok (ds ++ es) else .bad
  | _, _ => .bad
@[simp] theorem ca2_l {ds es : List D} (h : ds.length + es.length ≤ 1000000) : ca2 (.lst ds) (.lst es) = .ok (ds ++ es) := if_pos h
@[simp] theorem v_cat2 (m n : ME) (ρ : Rho) : mCat2 m n ρ = (m ρ).bind fun c => (n ρ).bind fun d => ca2 c d := by unfold mCat2; congr 1
@[simp] theorem v_catV (i : Nat) (m : ME) (ρ : Rho) : mCatV i m ρ = (ownAt i ρ).bind fun ds => (m ρ).bind fun d => caD ds d := by unfold mCatV; congr 1
@[simp] theorem v_catO (ma : MA) (m : ME) (ρ : Rho) : mCatO ma m ρ = (ma ρ).bind fun ds => (m ρ).bind fun d => caD ds d := by unfold mCatO; congr 1
@[simp] theorem v_sl (f : D → Option Int → Option Int → R D) (m : ME) (lo hi : MP) (ρ : Rho) : mSl f m lo hi ρ = (m ρ).bind fun d => (lo ρ).bind fun l => (hi ρ).bind fun h => f d l h := (rfl)
noncomputable def fr1 (i : Nat) (ρ : Rho) : Option Sl → Rho
  | some (.ob o) => ρ.set i (.fz (obD o))
  | _ => ρ
@[simp] theorem frz1_def (i : Nat) (ρ : Rho) : frz1 i ρ = fr1 i ρ ρ[i]? := by unfold frz1 fr1; rfl
@[simp] theorem fr1_ow (i : Nat) (ρ : Rho) (ds : List D) : fr1 i ρ (some (.ow ds)) = ρ.set i (.fz (.lst ds)) := (rfl)
@[simp] theorem v_noP (ρ : Rho) : mNoP ρ = .ok none := (rfl)
@[simp] theorem v_part (m : ME) (ρ : Rho) : mPart m ρ = (m ρ).bind intD := (rfl)
@[simp] theorem intD_int (i : Int) : intD (.int i) = .ok (some i) := (rfl)
theorem ends_compF' {β α : Type} {mi : MA} {elt : ME} {tst : MT} {caps : List Nat} {ρ : Rho} {k : List D → R β} {T : β → Prop} (g : α → D) (xs : List α) (p : α → Bool) (f : α → D) (hi : mi ρ = .ok (xs.map g)) (hl : xs.length ≤ 1000) (ht : ∀ a ∈ xs, tst (.fz (g a) :: caps.map fun j => capS (ρ.getD j .un)) = .ok (p a)) (h : ∀ a ∈ xs, p a = true → elt (.fz (g a) :: caps.map fun j => capS (ρ.getD j .un)) = .ok (f a)) (fin : Ends (k ((xs.filter p).map f)) T) : Ends ((mComp 1 caps mi (setV 0) tst elt ρ).bind k) T := by
  have go : ∀ (xs : List α) (ws : List D) (s0 : Sl), ws.length + xs.length ≤ 1000000 → (∀ a ∈ xs, tst (.fz (g a) :: caps.map fun j => capS (ρ.getD j .un)) = .ok (p a)) → (∀ a ∈ xs, p a = true → elt (.fz (g a) :: caps.map fun j => capS (ρ.getD j .un)) = .ok (f a)) → compGo (setV 0) tst elt (xs.map g) (s0 :: caps.map fun j => capS (ρ.getD j .un)) ws = .ok (ws ++ (xs.filter p).map f) := by
    intro xs
    induction xs with
    | nil => intro ws s0 _ _ _; simp [compGo]
    | cons a xs ih =>
      intro ws s0 hl ht h
      simp only [List.length_cons] at hl
      have e0 : setV 0 (g a) (s0 :: caps.map fun j => capS (ρ.getD j .un)) = .ok (.fz (g a) :: caps.map fun j => capS (ρ.getD j .un)) := by simp
      rw [List.map_cons, compGo, e0, vb_ok, ht a (by simp), vb_ok]
      cases e : p a with
      | true =>
        simp only [if_true, h a (by simp) e, vb_ok, if_pos (show ws.length < 1000000 by omega)]
        rw [ih (ws ++ [f a]) _ (by simp; omega) (fun x hx => ht x (by simp [hx])) fun x hx => h x (by simp [hx])]
        simp [e]
      | false =>
        simp only [Bool.false_eq_true, if_false]
        rw [ih ws _ (by omega) (fun x hx => ht x (by simp [hx])) fun x hx => h x (by simp [hx])]
        simp [e]
  rw [v_comp, hi, vb_ok]
  have e := go xs [] .un (by simp; omega) ht h
  have : noX (compGo (setV 0) tst elt (xs.map g) (blkR 1 caps ρ) []) = .ok ((xs.filter p).map f) := by
    show noX (compGo (setV 0) tst elt (xs.map g) (.un :: caps.map fun j => capS (ρ.getD j .un)) []) = _
    rw [e]; rfl
  rw [this, vb_ok]; exact fin
theorem ends_comp' {β α : Type} {mi : MA} {elt : ME} {caps : List Nat} {ρ : Rho} {k : List D → R β} {T : β → Prop} (g : α → D) (xs : List α) (f : α → D) (hi : mi ρ = .ok (xs.map g)) (hl : xs.length ≤ 1000) (h : ∀ a ∈ xs, elt (.fz (g a) :: caps.map fun j => capS (ρ.getD j .un)) = .ok (f a)) (fin : Ends (k (xs.map f)) T) : Ends ((mComp 1 caps mi (setV 0) mYes elt ρ).bind k) T :=
  ends_compF' g xs (fun _ => true) f hi hl (fun _ _ => rfl) (fun a ha _ => h a ha) (by rw [List.filter_eq_self.mpr fun _ _ => rfl]; exact fin)
theorem rangeD_eq (n : Nat) : rangeD 0 n = (List.range n).map fun (i : Nat) => .int (i : Int) := by simp [rangeD]
theorem ends_compR {β : Type} {mi : MA} {elt : ME} {caps : List Nat} {ρ : Rho} {k : List D → R β} {T : β → Prop} (n : Nat) (f : Nat → D) (hi : mi ρ = .ok (rangeD 0 n)) (hl : n ≤ 1000) (h : ∀ a, a < n → elt (.fz (.int (a : Int)) :: caps.map fun j => capS (ρ.getD j .un)) = .ok (f a)) (fin : Ends (k ((List.range n).map f)) T) : Ends ((mComp 1 caps mi (setV 0) mYes elt ρ).bind k) T :=
  ends_comp' (fun (i : Nat) => .int (i : Int)) (List.range n) f (by rw [hi, rangeD_eq]) (by simpa using hl) (fun a ha => h a (by simpa using ha)) fin
theorem ends_for' {β α : Type} {mi : MA} {set : D → Rho → R Rho} {body : MS} {ρ : Rho} {k : Fl → R β} {T : β → Prop} (g : α → D) (xs : List α) (I : Nat → Rho → Prop) (hi : mi ρ = .ok (xs.map g)) (h0 : I 0 ρ) (st : ∀ (j : Nat) a ρ, xs[j]? = some a → I j ρ → Ends ((set (g a) ρ).bind body) (Nx (I (j + 1)))) (fin : ∀ ρ', I xs.length ρ' → Ends (k (.nx ρ')) T) : Ends ((mFor mi set body ρ).bind k) T :=
  ends_for I hi h0 (fun j d ρ hd hI => by
    rw [List.getElem?_map] at hd
    cases e : xs[j]? with
    | none => rw [e] at hd; cases hd
    | some a => rw [e] at hd; cases hd; exact st j a ρ e hI) (by rw [List.length_map]; exact fin)
theorem ends_forR {β : Type} {mi : MA} {set : D → Rho → R Rho} {body : MS} {ρ : Rho} {k : Fl → R β} {T : β → Prop} (n : Nat) (I : Nat → Rho → Prop) (hi : mi ρ = .ok (rangeD 0 n)) (h0 : I 0 ρ) (st : ∀ (j : Nat) ρ, j < n → I j ρ → Ends ((set (.int (j : Int)) ρ).bind body) (Nx (I (j + 1)))) (fin : ∀ ρ', I n ρ' → Ends (k (.nx ρ')) T) : Ends ((mFor mi set body ρ).bind k) T :=
  ends_for I hi h0 (fun j d ρ hd hI => by
    obtain ⟨hj, rfl⟩ := range_at hd
    exact st j ρ hj hI) (by rw [range_len]; exact fin)
@[simp] theorem lrD_nat (n : Nat) (h : n ≤ 1000000) : lrD [.int (n : Int)] = .ok (rangeD 0 n) := by
  have : -(2 ^ 62) ≤ (n : Int) ∧ (n : Int) ≤ 1000000 := ⟨by omega, by omega⟩
  simp only [lrD, if_pos this, Int.toNat_natCast]
@[simp] theorem max2_ii (i j : Int) : max2D [.int i, .int j] = .ok (.int (if j > i then j else i)) := (rfl)
@[simp] theorem add_ll {xs ys : List D} (h : xs.length + ys.length ≤ 1000000) : addD (.lst xs) (.lst ys) = .ok (.lst (xs ++ ys)) := if_pos h
@[simp] theorem slD_l (xs : List D) (l h : Option Int) : slD (.lst xs) l h = .ok (.lst (cutL xs l h)) := (rfl)
@[simp] theorem slD_s (xs : List D) (l h : Option Int) : slD (.scr xs) l h = .ok (.lst (cutL xs l h)) := (rfl)
theorem cut_to {α : Type} (xs : List α) (k : Nat) : cutL xs none (some (k : Int)) = xs.take k := by
  unfold cutL
  rw [HT.sIx_none, HT.sIx_nat, List.drop_zero, Nat.sub_zero]
  by_cases h : k ≤ xs.length
  · rw [Nat.min_eq_left h]
  · rw [Nat.min_eq_right (by omega), List.take_length, List.take_of_length_le (by omega)]
theorem cut_from {α : Type} (xs : List α) (k : Nat) : cutL xs (some (k : Int)) none = xs.drop k := by
  unfold cutL
  rw [HT.sIx_none, HT.sIx_nat]
  by_cases h : k ≤ xs.length
  · rw [Nat.min_eq_left h, ← List.length_drop, List.take_length]
  · rw [Nat.min_eq_right (by omega), List.drop_length, List.drop_of_length_le (by omega)]; simp
theorem cut_map {α β : Type} (g : α → β) (xs : List α) (l h : Option Int) : cutL (xs.map g) l h = (cutL xs l h).map g := by
  unfold cutL
  simp [List.map_take, List.map_drop]
@[simp] theorem setT_t (fs : List (D → Rho → R Rho)) (ds : List D) (ρ : Rho) : setT fs (.tup ds) ρ = setL fs ds ρ := (rfl)
@[simp] theorem setL_nil (ρ : Rho) : setL [] [] ρ = .ok ρ := (rfl)
@[simp] theorem setL_cons (f : D → Rho → R Rho) (fs : List (D → Rho → R Rho)) (d : D) (ds : List D) (ρ : Rho) : setL (f :: fs) (d :: ds) ρ = (f d ρ).bind fun ρ' => setL fs ds ρ' := (rfl)
@[simp] theorem v_make (cn : Str) (n : Nat) (mf : List D → R (List Str × List D)) (ma : MA) (ρ : Rho) : mMake cn n mf ma ρ = (ma ρ).bind fun ds => if ds.length = n then (noX (mf ds)).bind fun x => .ok (.ins cn x.1 x.2) else .bad := (rfl)
@[simp] theorem tupleD_l (xs : List D) : tupleD [.lst xs] = .ok (.tup xs) := (rfl)
@[simp] theorem v_dict1 (k : Str) (i : Int) (ρ : Rho) : mDict1 k i ρ = .ok (.dK [.inr k] [.int i]) := (rfl)
@[simp] theorem neg_i (i : Int) : negD (.int i) = .ok (.int (-i)) := (rfl)
@[simp] theorem rep_1 {x : D} {k : Int} (h0 : 0 ≤ k) (h : k ≤ 1000) : repD (.lst [x]) (.int k) = .ok (.lst (List.replicate k.toNat x)) := by
  have b : 0 ≤ k ∧ k ≤ 1000 ∧ [x].length ≤ 100 := ⟨h0, h, by simp⟩
  simp only [repD, if_pos b]
  congr 2
  generalize k.toNat = n
  induction n with
  | zero => rfl
  | succ n ih => simp [List.replicate_succ, ih]
end L3
set_option Elab.async false
set_option linter.all false
set_option maxRecDepth 100000
set_option autoImplicit false
namespace L3
open PySem PySem.Spec L2
@[simp] theorem v_ie (m : MA) (ρ : Rho) : mIE m ρ = (m ρ).bind enumD := (rfl)
@[simp] theorem v_is (m : ME) (ρ : Rho) : mIS m ρ = (m ρ).bind signsD := (rfl)
@[simp] theorem v_sortA (m : MA) (ρ : Rho) : mSortA m ρ = (m ρ).bind sortA := (rfl)
@[simp] theorem v_mfrz (i : Nat) (m : MS) (ρ : Rho) : mFrz i m ρ = m (frz1 i ρ) := (rfl)
@[simp] theorem v_ifV (c : MT) (a b : ME) (ρ : Rho) : mIf c a b ρ = (c ρ).bind fun k => if k = true then a ρ else b ρ := (rfl)
@[simp] theorem v_orV (a b : ME) (ρ : Rho) : mOrV a b ρ = (a ρ).bind fun x => (asB x).bind fun c => if c = true then .ok (.bl true) else b ρ := (rfl)
@[simp] theorem v_meth (cn mt : Str) (n : Nat) (mf : List D → R Rt) (o : ME) (ma : MA) (ρ : Rho) : mMeth cn mt n mf o ma ρ = (o ρ).bind fun d => (selfD cn mt d).bind fun d => (ma ρ).bind fun ds => if ds.length = n then (mf (d :: ds)).bind rtD else .bad := (rfl)
@[simp] theorem v_dict0 (ρ : Rho) : mDict0 ρ = .ok (.dK [] []) := (rfl)
@[simp] theorem v_mSetT (i : Nat) (a : MTr) (ρ : Rho) : mSetT i a ρ = (a ρ).bind fun t => if i < ρ.length then .ok (.nx (ρ.set i (.tr t))) else .bad := (rfl)
@[simp] theorem v_mRetT (a : MTr) (ρ : Rho) : mRetT a ρ = (a ρ).bind fun t => .ok (.rn t) := (rfl)
noncomputable def vtS : Option Sl → R T
  | some (.tr t) => .ok t
  | _ => .bad
@[simp] theorem v_varT (i : Nat) (ρ : Rho) : mVarT i ρ = vtS ρ[i]? := by unfold mVarT vtS; rfl
@[simp] theorem vtS_tr (t : T) : vtS (some (.tr t)) = .ok t := (rfl)
noncomputable def trS : Option Sl → R (List T)
  | some (.tr (.lst ts)) => .ok ts
  | _ => .bad
@[simp] theorem v_treeAt (i : Nat) (ρ : Rho) : treeAt i ρ = trS ρ[i]? := by unfold treeAt trS; rfl
@[simp] theorem trS_tr (ts : List T) : trS (some (.tr (.lst ts))) = .ok ts := (rfl)
@[simp] theorem sqK_rn (b : MS) (t : T) : sqK b (.rn t) = .ok (.rn t) := (rfl)
@[simp] theorem out_rn (t : T) : outD (.rn t) = .ok (.t t) := (rfl)
@[simp] theorem rt_t (t : T) : rtD (.t t) = .ok (toD t) := (rfl)
@[simp] theorem frzS_tr (t : T) : frzS (.tr t) = .fz (toD t) := (rfl)
@[simp] theorem v_appAt (i : Nat) (mk m : ME) (ρ : Rho) : mAppAt i mk m ρ = (treeAt i ρ).bind fun ts => (mk ρ).bind fun k => apD i ρ ts m k := (rfl)
theorem apD_ok {i : Nat} {ρ : Rho} {ts : List T} {m : ME} {k : Nat} {us : List T} {d : D} (h : ts[k]? = some (.lst us)) (hm : m ρ = .ok d) (hu : us.length < 1000000) : apD i ρ ts m (.int (k : Int)) = .ok (.nx (ρ.set i (.tr (.lst (ts.set k (.lst (us ++ [.fz d]))))))) := by
  have hk := (List.getElem?_eq_some_iff.mp h).1
  have e : ixN ts.length (k : Int) = some k := by unfold ixN; rw [if_pos (by omega), if_pos (by omega)]; simp
  simp only [apD, e, apN, h, hm, vb_ok, if_pos hu]
@[simp] theorem v_putIx (i : Nat) (mk mv : ME) (ρ : Rho) : mPutIx i mk mv ρ = (mv ρ).bind fun v => (ownAt i ρ).bind fun ds => (mk ρ).bind fun k => putK i ρ ds v k := (rfl)
theorem putK_n {i : Nat} {ρ : Rho} {ds : List D} {v : D} {k : Nat} (h : k < ds.length) : putK i ρ ds v (.int (k : Int)) = .ok (.nx (ρ.set i (.ow (ds.set k v)))) := by
  have e : ixN ds.length (k : Int) = some k := by unfold ixN; rw [if_pos (by omega), if_pos (by omega)]; simp
  simp only [putK, e, putN]
noncomputable def ixK (ds : List D) : D → R D
  | .int j => match atI ds j with
    | some d => .ok d
    | none => .bad
  | _ => .bad
@[simp] theorem v_ixV (i : Nat) (n : ME) (ρ : Rho) : mIxV i n ρ = (ownAt i ρ).bind fun ds => (n ρ).bind (ixK ds) := by
  unfold mIxV; congr 1
theorem ixK_n {ds : List D} {k : Nat} {d : D} (h : ds[k]? = some d) : ixK ds (.int (k : Int)) = .ok d := ix_l h
@[simp] theorem toInt_bl (k : Bool) : toIntB [.bl k] = .ok (.int (if k then 1 else 0)) := (rfl)
@[simp] theorem isN_t (x : D) : isND true x .non = .ok (.bl (isNon x)) := (rfl)
@[simp] theorem signsD_s (x : Str) : signsD (.str x) = .ok (x.cps.toList.map signD) := (rfl)
theorem enum_map {α : Type} (g : α → D) (xs : List α) : enumD [.lst (xs.map g)] = .ok (xs.zipIdx.map fun p => .tup [.int (p.2 : Int), g p.1]) := by
  simp only [enumD, enumL]
  congr 1
  rw [List.zipIdx_map, List.map_map]
  rfl
theorem zip_at {α : Type} {xs : List α} {j : Nat} {p : α × Nat} (h : xs.zipIdx[j]? = some p) : p.2 = j ∧ xs[j]? = some p.1 := by
  rw [List.getElem?_zipIdx] at h
  cases e : xs[j]? with
  | none => rw [e] at h; cases h
  | some a => rw [e] at h; simp at h; subst h; exact ⟨rfl, rfl⟩
theorem zip_mem {α : Type} {xs : List α} {p : α × Nat} (h : p ∈ xs.zipIdx) : xs[p.2]? = some p.1 := by
  obtain ⟨j, e⟩ := List.mem_iff_getElem?.mp h
  obtain ⟨h1, h2⟩ := zip_at e
  rw [h1]; exact h2
theorem ends_comp2 {β α : Type} {mi : MA} {elt : ME} {caps : List Nat} {ρ : Rho} {k : List D → R β} {Tr : β → Prop} (g1 g2 : α → D) (xs : List α) (f : α → D) (hi : mi ρ = .ok (xs.map fun a => .tup [g1 a, g2 a])) (hl : xs.length ≤ 1000) (h : ∀ a ∈ xs, elt (.fz (g1 a) :: .fz (g2 a) :: caps.map fun j => capS (ρ.getD j .un)) = .ok (f a)) (fin : Ends (k (xs.map f)) Tr) : Ends ((mComp 2 caps mi (setT [setV 0, setV 1]) mYes elt ρ).bind k) Tr := by
  have go : ∀ (xs : List α) (ws : List D) (s0 s1 : Sl), ws.length + xs.length ≤ 1000000 → (∀ a ∈ xs, elt (.fz (g1 a) :: .fz (g2 a) :: caps.map fun j => capS (ρ.getD j .un)) = .ok (f a)) → compGo (setT [setV 0, setV 1]) mYes elt (xs.map fun a => .tup [g1 a, g2 a]) (s0 :: s1 :: caps.map fun j => capS (ρ.getD j .un)) ws = .ok (ws ++ xs.map f) := by
    intro xs
    induction xs with
    | nil => intro ws s0 s1 _ _; simp [compGo]
    | cons a xs ih =>
      intro ws s0 s1 hl h
      simp only [List.length_cons] at hl
      have e0 : setT [setV 0, setV 1] (.tup [g1 a, g2 a]) (s0 :: s1 :: caps.map fun j => capS (ρ.getD j .un)) = .ok (.fz (g1 a) :: .fz (g2 a) :: caps.map fun j => capS (ρ.getD j .un)) := by simp
      rw [List.map_cons, compGo, e0, vb_ok]
      simp only [mYes, vb_ok, if_true, h a (by simp), if_pos (show ws.length < 1000000 by omega)]
      rw [ih (ws ++ [f a]) _ _ (by simp; omega) fun x hx => h x (by simp [hx])]
      simp
  rw [v_comp, hi, vb_ok]
  have e := go xs [] .un .un (by simp; omega) h
  have : noX (compGo (setT [setV 0, setV 1]) mYes elt (xs.map fun a => .tup [g1 a, g2 a]) (blkR 2 caps ρ) []) = .ok (xs.map f) := by
    show noX (compGo (setT [setV 0, setV 1]) mYes elt (xs.map fun a => .tup [g1 a, g2 a]) (.un :: .un :: caps.map fun j => capS (ρ.getD j .un)) []) = _
    rw [e]; rfl
  rw [this, vb_ok]; exact fin
theorem ends_compT {β α : Type} {mi : MA} {elt : MA} {caps : List Nat} {ρ : Rho} {k : T → R β} {Tr : β → Prop} (g : α → D) (xs : List α) (f : α → List D) (hi : mi ρ = .ok (xs.map g)) (hl : xs.length ≤ 1000) (h : ∀ a ∈ xs, elt (.fz (g a) :: caps.map fun j => capS (ρ.getD j .un)) = .ok (f a)) (fin : Ends (k (.lst (xs.map fun a => lstT (f a)))) Tr) : Ends ((mCompT 1 caps mi (setV 0) mYes elt ρ).bind k) Tr := by
  have go : ∀ (xs : List α) (ws : List T) (s0 : Sl), ws.length + xs.length ≤ 1000000 → (∀ a ∈ xs, elt (.fz (g a) :: caps.map fun j => capS (ρ.getD j .un)) = .ok (f a)) → compGoT (setV 0) mYes elt (xs.map g) (s0 :: caps.map fun j => capS (ρ.getD j .un)) ws = .ok (ws ++ xs.map fun a => lstT (f a)) := by
    intro xs
    induction xs with
    | nil => intro ws s0 _ _; simp [compGoT]
    | cons a xs ih =>
      intro ws s0 hl h
      simp only [List.length_cons] at hl
      have e0 : setV 0 (g a) (s0 :: caps.map fun j => capS (ρ.getD j .un)) = .ok (.fz (g a) :: caps.map fun j => capS (ρ.getD j .un)) := by simp
      rw [List.map_cons, compGoT, e0, vb_ok]
      simp only [mYes, vb_ok, if_true, h a (by simp), if_pos (show ws.length < 1000000 by omega)]
      rw [ih (ws ++ [lstT (f a)]) _ (by simp; omega) fun x hx => h x (by simp [hx])]
      simp
  have e := go xs [] .un (by simp; omega) h
  have : mCompT 1 caps mi (setV 0) mYes elt ρ = .ok (.lst (xs.map fun a => lstT (f a))) := by
    unfold mCompT
    rw [hi, vb_ok]
    have : noX (compGoT (setV 0) mYes elt (xs.map g) (blkR 1 caps ρ) []) = .ok (xs.map fun a => lstT (f a)) := by
      show noX (compGoT (setV 0) mYes elt (xs.map g) (.un :: caps.map fun j => capS (ρ.getD j .un)) []) = _
      rw [e]; rfl
    rw [this, vb_ok]
  rw [this, vb_ok]; exact fin
theorem Ends.done {β : Type} {r : R β} {b : β} (h : Ends r (· = b)) : r = .ok b := by
  obtain ⟨c, e, rfl⟩ := h
  exact e
end L3
set_option Elab.async false
set_option linter.all false
set_option maxRecDepth 100000
set_option autoImplicit false
namespace N03
open PySem PySem.Spec L2 L3
noncomputable def top (i : Nat) : Stmt := PySem.Challenge.pw_nohalfway_k03_books_or_not.main.body.getD i (.Pass ⟨0, 0, 0, 0⟩)
noncomputable abbrev s_law_mix : Stmt := top 28
noncomputable abbrev s_law_cell_at : Stmt := top 27
noncomputable abbrev s_law_counts : Stmt := top 29
noncomputable abbrev s_is_pair : Stmt := top 21
noncomputable abbrev s_is_whole : Stmt := top 5
noncomputable abbrev s_is_whole_within : Stmt := top 6
noncomputable abbrev s_is_door_among : Stmt := top 22
noncomputable abbrev s_is_wire_among : Stmt := top 23
noncomputable abbrev s_far_doors : Stmt := top 24
noncomputable abbrev s_are_counts : Stmt := top 20
noncomputable abbrev s_Net_init : Stmt := inClass (top 25) 0
noncomputable abbrev s_law_pattern : Stmt := top 32
noncomputable abbrev s_law_row : Stmt := top 33
noncomputable abbrev s_law_books : Stmt := top 34
noncomputable abbrev s_law_doors : Stmt := top 30
noncomputable abbrev s_law_wires : Stmt := top 31
noncomputable abbrev s_law_truth : Stmt := top 37
noncomputable abbrev s_law_bad_row : Stmt := top 35
noncomputable abbrev s_law_bad_book : Stmt := top 36
noncomputable abbrev s_law_spoiled : Stmt := top 38
noncomputable abbrev s_is_pattern : Stmt := top 10
noncomputable abbrev s_is_number_or_none : Stmt := top 13
noncomputable abbrev s_is_row : Stmt := top 14
noncomputable abbrev s_is_book : Stmt := top 15
noncomputable abbrev s_Net_count : Stmt := inClass (top 25) 1
noncomputable abbrev s_is_books : Stmt := top 16
noncomputable abbrev s_law : Stmt := top 39
noncomputable def c_MOST_DOORS : D := .int 4
noncomputable def c_MOST_HOUSES : D := .int 6
noncomputable def c_MOST_ROWS : D := .int 12
noncomputable def c_SIGNS : D := .ktp [.str (PySem.Str.ofString "0"), .str (PySem.Str.ofString "1"), .str (PySem.Str.ofString "x")]
noncomputable def c_WORTHS : D := .ktp [.int 8, .int 4, .int 2, .int 1]
structure Tx (K : PySem.W.Frag) (mg : Str → Option Value) : Prop where
  f_law_mix : Fd K mg "_law_mix" s_law_mix ["_law_cell", "_law_k"]
  f_law_cell_at : Fd K mg "_law_cell_at" s_law_cell_at ["_law_script", "_law_k"]
  f_law_counts : Fd K mg "_law_counts" s_law_counts ["_law_script"]
  f_is_pair : Fd K mg "is_pair" s_is_pair ["thing"]
  f_is_whole : Fd K mg "is_whole" s_is_whole ["thing"]
  f_is_whole_within : Fd K mg "is_whole_within" s_is_whole_within ["thing", "least", "greatest"]
  f_is_door_among : Fd K mg "is_door_among" s_is_door_among ["counts", "thing"]
  f_is_wire_among : Fd K mg "is_wire_among" s_is_wire_among ["counts", "thing"]
  f_far_doors : Fd K mg "far_doors" s_far_doors ["counts", "wires"]
  f_are_counts : Fd K mg "are_counts" s_are_counts ["thing"]
  f_Net_init : InK K mg "Net" "Net.__init__" s_Net_init ["self", "counts", "wires"]
  f_law_pattern : Fd K mg "_law_pattern" s_law_pattern ["_law_number"]
  f_law_row : Fd K mg "_law_row" s_law_row ["_law_cell", "_law_k", "_law_doors_here"]
  f_law_books : Fd K mg "_law_books" s_law_books ["_law_cells", "_law_counts_here"]
  f_law_doors : Fd K mg "_law_doors" s_law_doors ["_law_counts_here"]
  f_law_wires : Fd K mg "_law_wires" s_law_wires ["_law_script", "_law_counts_here"]
  f_law_truth : Fd K mg "_law_truth" s_law_truth ["_law_found", "_law_due"]
  f_law_bad_row : Fd K mg "_law_bad_row" s_law_bad_row ["_law_row_here", "_law_doors_here", "_law_number"]
  f_law_bad_book : Fd K mg "_law_bad_book" s_law_bad_book ["_law_book", "_law_doors_here", "_law_number"]
  f_law_spoiled : Fd K mg "_law_spoiled" s_law_spoiled ["_law_books_here", "_law_counts_here", "_law_number"]
  f_is_pattern : Fd K mg "is_pattern" s_is_pattern ["thing"]
  f_is_number_or_none : Fd K mg "is_number_or_none" s_is_number_or_none ["thing", "doors"]
  f_is_row : Fd K mg "is_row" s_is_row ["thing", "doors"]
  f_is_book : Fd K mg "is_book" s_is_book ["thing", "doors"]
  f_Net_count : MdK K "Net" "count" "Net.count" s_Net_count ["self", "house"]
  f_is_books : Fd K mg "is_books" s_is_books ["thing", "net"]
  f_law : Fd K mg "law" s_law ["_law_script"]
  k_Net : ClF K "Net" ["many", "counts", "joined", "far"]
  b_all : mg "all" = none
  b_bool : mg "bool" = none
  b_enumerate : mg "enumerate" = none
  b_int : mg "int" = none
  b_isinstance : mg "isinstance" = none
  b_len : mg "len" = none
  b_list : mg "list" = none
  b_range : mg "range" = none
  b_sorted : mg "sorted" = none
  b_str : mg "str" = none
  b_tuple : mg "tuple" = none
  c_MOST_DOORS : Cst K mg "MOST_DOORS" c_MOST_DOORS
  c_MOST_HOUSES : Cst K mg "MOST_HOUSES" c_MOST_HOUSES
  c_MOST_ROWS : Cst K mg "MOST_ROWS" c_MOST_ROWS
  c_SIGNS : Cst K mg "SIGNS" c_SIGNS
  c_WORTHS : Cst K mg "WORTHS" c_WORTHS
theorem sc_law_mix : FnScope ["_law_cell", "_law_k"] ["_law_cell", "_law_k"] (defScope s_law_mix) := ⟨rfl, rfl, rfl, by decide +kernel, rfl, by decide +kernel, by decide +kernel⟩
noncomputable def b_law_mix : MS :=
    mRet (mBin fdivD (mBin modD (mBin mulD (mBin addD (mBin modD (mVar 0) (mBin powD (mC (.int 10)) (mC (.int 30)))) (mC (.int 1))) (mBin addD (mBin addD (mC (.int 48271)) (mBin mulD (mBin mulD (mC (.int 2)) (mVar 1)) (mVar 1))) (mVar 1))) (mC (.int 2147483647))) (mC (.int 7)))
noncomputable def m_law_mix : List D → R Rt := mDef 2 b_law_mix
theorem sc_law_cell_at : FnScope ["_law_script", "_law_k"] ["_law_script", "_law_k"] (defScope s_law_cell_at) := ⟨rfl, rfl, rfl, by decide +kernel, rfl, by decide +kernel, by decide +kernel⟩
noncomputable def b_law_cell_at : MS :=
    mSeq (mIfS (mB (mBin ltD (mVar 1) (mCB lenD (mCons (mVar 0) (mNil))))) (mRet (mBin ixD (mVar 0) (mVar 1))) (mNext))
    (mRet (mC (.int 0)))
noncomputable def m_law_cell_at : List D → R Rt := mDef 2 b_law_cell_at
theorem sc_law_counts : FnScope ["_law_script", "_law_many"] ["_law_script"] (defScope s_law_counts) := ⟨rfl, rfl, rfl, by decide +kernel, rfl, by decide +kernel, by decide +kernel⟩
noncomputable def b_law_counts : MS :=
    mSeq (mSet 1 (mBin addD (mC (.int 1)) (mBin modD (mCall 2 m_law_mix (mCons (mCall 2 m_law_cell_at (mCons (mVar 0) (mCons (mC (.int 0)) (mNil)))) (mCons (mC (.int 1)) (mNil)))) (mC (.int 6)))))
    (mRetO (mComp 1 [0] (mR1 (mCons (mVar 1) (mNil))) (setV 0) (mYes) (mBin addD (mC (.int 1)) (mBin modD (mCall 2 m_law_mix (mCons (mCall 2 m_law_cell_at (mCons (mVar 1) (mCons (mC (.int 1)) (mNil)))) (mCons (mBin addD (mC (.int 3)) (mVar 0)) (mNil)))) (mC (.int 4))))))
noncomputable def m_law_counts : List D → R Rt := mDef 2 b_law_counts
theorem sc_is_pair : FnScope ["thing"] ["thing"] (defScope s_is_pair) := ⟨rfl, rfl, rfl, by decide +kernel, rfl, by decide +kernel, by decide +kernel⟩
noncomputable def b_is_pair : MS :=
    mRet (mAndV (mUn (isiD "tuple") (mVar 0)) (mBin (eqR true) (mCB lenD (mCons (mVar 0) (mNil))) (mC (.int 2))))
noncomputable def m_is_pair : List D → R Rt := mDef 1 b_is_pair
theorem sc_is_whole : FnScope ["thing"] ["thing"] (defScope s_is_whole) := ⟨rfl, rfl, rfl, by decide +kernel, rfl, by decide +kernel, by decide +kernel⟩
noncomputable def b_is_whole : MS :=
    mRet (mAndV (mUn (isiD "int") (mVar 0)) (mNotV (mUn (isiD "bool") (mVar 0))))
noncomputable def m_is_whole : List D → R Rt := mDef 1 b_is_whole
theorem sc_is_whole_within : FnScope ["thing", "least", "greatest"] ["thing", "least", "greatest"] (defScope s_is_whole_within) := ⟨rfl, rfl, rfl, by decide +kernel, rfl, by decide +kernel, by decide +kernel⟩
noncomputable def b_is_whole_within : MS :=
    mRet (mAndV (mCall 1 m_is_whole (mCons (mVar 0) (mNil))) (mChain leD leD (mVar 1) (mVar 0) (mVar 2)))
noncomputable def m_is_whole_within : List D → R Rt := mDef 3 b_is_whole_within
theorem sc_is_door_among : FnScope ["counts", "thing"] ["counts", "thing"] (defScope s_is_door_among) := ⟨rfl, rfl, rfl, by decide +kernel, rfl, by decide +kernel, by decide +kernel⟩
noncomputable def b_is_door_among : MS :=
    mSeq (mIfS (mOr (mNot (mB (mCall 1 m_is_pair (mCons (mVar 1) (mNil))))) (mNot (mB (mCall 3 m_is_whole_within (mCons (mBin ixD (mVar 1) (mC (.int 0))) (mCons (mC (.int 0)) (mCons (mBin subD (mCB lenD (mCons (mVar 0) (mNil))) (mC (.int 1))) (mNil)))))))) (mRet (mC (.bl false))) (mNext))
    (mRet (mCall 3 m_is_whole_within (mCons (mBin ixD (mVar 1) (mC (.int 1))) (mCons (mC (.int 0)) (mCons (mBin subD (mBin ixD (mVar 0) (mBin ixD (mVar 1) (mC (.int 0)))) (mC (.int 1))) (mNil))))))
noncomputable def m_is_door_among : List D → R Rt := mDef 2 b_is_door_among
theorem sc_is_wire_among : FnScope ["counts", "thing", "both"] ["counts", "thing"] (defScope s_is_wire_among) := ⟨rfl, rfl, rfl, by decide +kernel, rfl, by decide +kernel, by decide +kernel⟩
noncomputable def b_is_wire_among : MS :=
    mSeq (mIfS (mNot (mB (mCall 1 m_is_pair (mCons (mVar 1) (mNil))))) (mRet (mC (.bl false))) (mNext))
    (mSeq (mSet 2 (mAndV (mCall 2 m_is_door_among (mCons (mVar 0) (mCons (mBin ixD (mVar 1) (mC (.int 0))) (mNil)))) (mCall 2 m_is_door_among (mCons (mVar 0) (mCons (mBin ixD (mVar 1) (mC (.int 1))) (mNil))))))
    (mRet (mAndV (mVar 2) (mBin (eqR false) (mBin ixD (mVar 1) (mC (.int 0))) (mBin ixD (mVar 1) (mC (.int 1)))))))
noncomputable def m_is_wire_among : List D → R Rt := mDef 3 b_is_wire_among
theorem sc_far_doors : FnScope ["counts", "wires", "far", "wire"] ["counts", "wires"] (defScope s_far_doors) := ⟨rfl, rfl, rfl, by decide +kernel, rfl, by decide +kernel, by decide +kernel⟩
noncomputable def b_far_doors : MS :=
    mSeq (mSetD 2)
    (mSeq (mFor (mIT (mVar 1)) (setV 3) (mSeq (mIfS (mNot (mB (mCall 2 m_is_wire_among (mCons (mVar 0) (mCons (mVar 3) (mNil)))))) (mBad) (mNext))
    (mSeq (mIfS (mBorT (mOr (mB (mBin (dinD true) (mBin ixD (mVar 3) (mC (.int 0))) (mVar 2))) (mB (mBin (dinD true) (mBin ixD (mVar 3) (mC (.int 1))) (mVar 2))))) (mBad) (mNext))
    (mSeq (mDPut 2 (mBin ixD (mVar 3) (mC (.int 0))) (mBin ixD (mVar 3) (mC (.int 1))))
    (mDPut 2 (mBin ixD (mVar 3) (mC (.int 1))) (mBin ixD (mVar 3) (mC (.int 0))))))))
    (mRetZ (mVar 2)))
noncomputable def m_far_doors : List D → R Rt := mDef 4 b_far_doors
theorem sc_are_counts : FnScope ["thing"] ["thing"] (defScope s_are_counts) := ⟨rfl, rfl, rfl, by decide +kernel, rfl, by decide +kernel, by decide +kernel⟩
noncomputable def b_are_counts : MS :=
    mSeq (mIfS (mOr (mNot (mB (mUn (isiD "list") (mVar 0)))) (mNot (mB (mChain leD leD (mC (.int 1)) (mCB lenD (mCons (mVar 0) (mNil))) (mC c_MOST_HOUSES))))) (mRet (mC (.bl false))) (mNext))
    (mRet (mCB allD (mCons (mFz (mComp 1 [] (mIL (mVar 0)) (setV 0) (mYes) (mCall 3 m_is_whole_within (mCons (mVar 0) (mCons (mC (.int 1)) (mCons (mC c_MOST_DOORS) (mNil))))))) (mNil))))
noncomputable def m_are_counts : List D → R Rt := mDef 1 b_are_counts
theorem sc_Net_init : FnScope ["self", "counts", "wires"] ["self", "counts", "wires"] (defScope s_Net_init) := ⟨rfl, rfl, rfl, by decide +kernel, rfl, by decide +kernel, by decide +kernel⟩
noncomputable def b_Net_init : MN :=
    mThen (mGuard (mNot (mB (mCall 1 m_are_counts (mCons (mVar 1) (mNil))))))
    (mThen (mGuard (mNot (mB (mUn (isiD "list") (mVar 2)))))
    (mThen (mFldSet "Net" "many" (mCB lenD (mCons (mVar 1) (mNil))))
    (mThen (mFldSet "Net" "counts" (mCB tupleD (mCons (mVar 1) (mNil))))
    (mThen (mFldSet "Net" "joined" (mCB tupleD (mCons (mVar 2) (mNil))))
    (mFldSet "Net" "far" (mBorI (mCall 2 m_far_doors (mCons (mUn (fldD "Net" "counts") (mVar 0)) (mCons (mUn (fldD "Net" "joined") (mVar 0)) (mNil))))))))))
noncomputable def m_Net_init : List D → R (List Str × List D) := fun es => outI "Net" (b_Net_init (iniI "Net" es))
theorem sc_law_pattern : FnScope ["_law_number", "_law_signs", "_law_k"] ["_law_number"] (defScope s_law_pattern) := ⟨rfl, rfl, rfl, by decide +kernel, rfl, by decide +kernel, by decide +kernel⟩
noncomputable def b_law_pattern : MS :=
    mSeq (mSet 1 (mC (.str (PySem.Str.ofString ""))))
    (mSeq (mFor (mR1 (mCons (mC (.int 4)) (mNil))) (setV 2) (mSeq (mSet 1 (mBin addD (mVar 1) (mBin ixD (mC (.str (PySem.Str.ofString "01xx"))) (mBin modD (mVar 0) (mC (.int 4))))))
    (mSet 0 (mBin fdivD (mVar 0) (mC (.int 4))))))
    (mRet (mVar 1)))
noncomputable def m_law_pattern : List D → R Rt := mDef 3 b_law_pattern
theorem sc_law_row : FnScope ["_law_cell", "_law_k", "_law_doors_here", "_law_number", "_law_into", "_law_out"] ["_law_cell", "_law_k", "_law_doors_here"] (defScope s_law_row) := ⟨rfl, rfl, rfl, by decide +kernel, rfl, by decide +kernel, by decide +kernel⟩
noncomputable def b_law_row : MS :=
    mSeq (mSet 3 (mCall 2 m_law_mix (mCons (mVar 0) (mCons (mVar 1) (mNil)))))
    (mSeq (mSet 4 (mBin ixD (mFz (mLim (mCons (mC .non) (mCons (mBin modD (mBin fdivD (mVar 3) (mC (.int 700))) (mVar 2)) (mNil))))) (mBin modD (mBin fdivD (mVar 3) (mC (.int 256))) (mC (.int 2)))))
    (mSeq (mSet 5 (mBin ixD (mFz (mLim (mCons (mBin modD (mBin fdivD (mVar 3) (mC (.int 3000))) (mVar 2)) (mCons (mC .non) (mNil))))) (mCB toIntB (mCons (mBin (eqR true) (mBin modD (mBin fdivD (mVar 3) (mC (.int 20000))) (mC (.int 9))) (mC (.int 0))) (mNil)))))
    (mRet (mTup (mCons (mCall 1 m_law_pattern (mCons (mVar 3) (mNil))) (mCons (mVar 4) (mCons (mVar 5) (mNil))))))))
noncomputable def m_law_row : List D → R Rt := mDef 6 b_law_row
theorem sc_law_books : FnScope ["_law_cells", "_law_counts_here", "_law_books_here", "_law_k", "_law_cell", "_law_house"] ["_law_cells", "_law_counts_here"] (defScope s_law_books) := ⟨rfl, rfl, rfl, by decide +kernel, rfl, by decide +kernel, by decide +kernel⟩
noncomputable def b_law_books : MS :=
    mSeq (mSetT 2 (mCompT 1 [] (mIL (mVar 1)) (setV 0) (mYes) (mLim (mNil))))
    (mSeq (mFor (mIE (mCons (mVar 0) (mNil))) (setT [setV 3, setV 4]) (mSeq (mSet 5 (mBin modD (mVar 3) (mCB lenD (mCons (mVar 1) (mNil)))))
    (mIfS (mBorT (mB (mBin ltD (mCB lenD (mCons (mBin ixD (mVar 2) (mVar 5)) (mNil))) (mC (.int 12))))) (mAppAt 2 (mVar 5) (mCall 3 m_law_row (mCons (mVar 4) (mCons (mBin addD (mC (.int 31)) (mVar 3)) (mCons (mBin ixD (mVar 1) (mVar 5)) (mNil)))))) (mNext))))
    (mRetT (mVarT 2)))
noncomputable def m_law_books : List D → R Rt := mDef 6 b_law_books
theorem sc_law_doors : FnScope ["_law_counts_here", "_law_doors_here", "_law_house"] ["_law_counts_here"] (defScope s_law_doors) := ⟨rfl, rfl, rfl, by decide +kernel, rfl, by decide +kernel, by decide +kernel⟩
noncomputable def b_law_doors : MS :=
    mSeq (mSetO 1 (mLim (mNil)))
    (mSeq (mFor (mR1 (mCons (mCB lenD (mCons (mVar 0) (mNil))) (mNil))) (setV 2) (mDropE (mExtend 1 (mFz (mComp 1 [2] (mR1 (mCons (mBin ixD (mVar 0) (mVar 2)) (mNil))) (setV 0) (mYes) (mTup (mCons (mVar 1) (mCons (mVar 0) (mNil)))))))))
    (mRetO (mVarO 1)))
noncomputable def m_law_doors : List D → R Rt := mDef 3 b_law_doors
theorem sc_law_wires : FnScope ["_law_script", "_law_counts_here", "_law_doors_here", "_law_some", "_law_k", "_law_dealt", "_law_most", "_law_many"] ["_law_script", "_law_counts_here"] (defScope s_law_wires) := ⟨rfl, rfl, rfl, by decide +kernel, rfl, by decide +kernel, by decide +kernel⟩
noncomputable def b_law_wires : MS :=
    mSeq (mSet 2 (mFz (mCallO 1 m_law_doors (mCons (mVar 1) (mNil)))))
    (mSeq (mSetO 3 (mLim (mNil)))
    (mSeq (mFor (mR1 (mCons (mCB lenD (mCons (mVar 2) (mNil))) (mNil))) (setV 4) (mApp 3 (mTup (mCons (mCall 2 m_law_mix (mCons (mBin addD (mCall 2 m_law_cell_at (mCons (mVar 0) (mCons (mC (.int 2)) (mNil)))) (mBin mulD (mVar 4) (mVar 4))) (mCons (mBin addD (mC (.int 20)) (mVar 4)) (mNil)))) (mCons (mBin ixD (mVar 2) (mVar 4)) (mNil))))))
    (mSeq (mFrz 3 (mSetF 5 (mComp 2 [] (mIL (mFz (mSortA (mCons (mVar 3) (mNil))))) (setT [setV 0, setV 1]) (mYes) (mVar 1))))
    (mSeq (mSet 6 (mBin fdivD (mBin subD (mCB lenD (mCons (mVar 2) (mNil))) (mC (.int 1))) (mC (.int 2))))
    (mSeq (mSet 7 (mBin subD (mVar 6) (mBin modD (mCall 2 m_law_mix (mCons (mCall 2 m_law_cell_at (mCons (mVar 0) (mCons (mC (.int 3)) (mNil)))) (mCons (mC (.int 11)) (mNil)))) (mBin addD (mBin fdivD (mVar 6) (mC (.int 3))) (mC (.int 1))))))
    (mRetO (mComp 1 [5] (mR1 (mCons (mVar 7) (mNil))) (setV 0) (mYes) (mTup (mCons (mBin ixD (mVar 1) (mBin mulD (mC (.int 2)) (mVar 0))) (mCons (mBin ixD (mVar 1) (mBin addD (mBin mulD (mC (.int 2)) (mVar 0)) (mC (.int 1)))) (mNil)))))))))))
noncomputable def m_law_wires : List D → R Rt := mDef 8 b_law_wires
theorem sc_law_truth : FnScope ["_law_found", "_law_due"] ["_law_found", "_law_due"] (defScope s_law_truth) := ⟨rfl, rfl, rfl, by decide +kernel, rfl, by decide +kernel, by decide +kernel⟩
noncomputable def b_law_truth : MS :=
    mRet (mAndV (mUn (isiD "bool") (mVar 0)) (mBin (eqR true) (mVar 0) (mVar 1)))
noncomputable def m_law_truth : List D → R Rt := mDef 2 b_law_truth
theorem sc_law_bad_row : FnScope ["_law_row_here", "_law_doors_here", "_law_number", "_law_some"] ["_law_row_here", "_law_doors_here", "_law_number"] (defScope s_law_bad_row) := ⟨rfl, rfl, rfl, by decide +kernel, rfl, by decide +kernel, by decide +kernel⟩
noncomputable def b_law_bad_row : MS :=
    mSeq (mSet 3 (mFz (mLim (mCons (mFz (mListO (mCons (mVar 0) (mNil)))) (mCons (mSl slT (mVar 0) (mNoP) (mPart (mC (.int 2)))) (mCons (mBin catD (mVar 0) (mTup (mCons (mC .non) (mNil)))) (mCons (mC .non) (mCons (mC (.str (PySem.Str.ofString "xxxx"))) (mCons (mTup (mNil)) (mCons (mTup (mCons (mC (.str (PySem.Str.ofString "xxx"))) (mCons (mBin ixD (mVar 0) (mC (.int 1))) (mCons (mBin ixD (mVar 0) (mC (.int 2))) (mNil))))) (mCons (mTup (mCons (mC .non) (mCons (mBin ixD (mVar 0) (mC (.int 1))) (mCons (mBin ixD (mVar 0) (mC (.int 2))) (mNil))))) (mNil))))))))))))
    (mSeq (mSet 3 (mBin addD (mVar 3) (mFz (mLim (mCons (mTup (mCons (mC (.str (PySem.Str.ofString "xx2x"))) (mCons (mBin ixD (mVar 0) (mC (.int 1))) (mCons (mBin ixD (mVar 0) (mC (.int 2))) (mNil))))) (mCons (mTup (mCons (mBin ixD (mVar 0) (mC (.int 0))) (mCons (mVar 1) (mCons (mBin ixD (mVar 0) (mC (.int 2))) (mNil))))) (mCons (mTup (mCons (mBin ixD (mVar 0) (mC (.int 0))) (mCons (mBin ixD (mVar 0) (mC (.int 1))) (mCons (mVar 1) (mNil))))) (mCons (mTup (mCons (mBin ixD (mVar 0) (mC (.int 0))) (mCons (mUn negD (mC (.int 1))) (mCons (mBin ixD (mVar 0) (mC (.int 2))) (mNil))))) (mNil)))))))))
    (mSeq (mSet 3 (mBin addD (mVar 3) (mFz (mLim (mCons (mTup (mCons (mBin ixD (mVar 0) (mC (.int 0))) (mCons (mBin ixD (mVar 0) (mC (.int 1))) (mCons (mUn negD (mC (.int 1))) (mNil))))) (mCons (mTup (mCons (mBin ixD (mVar 0) (mC (.int 0))) (mCons (mC (.bl true)) (mCons (mBin ixD (mVar 0) (mC (.int 2))) (mNil))))) (mCons (mTup (mCons (mBin ixD (mVar 0) (mC (.int 0))) (mCons (mBin ixD (mVar 0) (mC (.int 1))) (mCons (mC (.bl false)) (mNil))))) (mCons (mTup (mCons (mBin ixD (mVar 0) (mC (.int 0))) (mCons (mC (.str (PySem.Str.ofString "0"))) (mCons (mBin ixD (mVar 0) (mC (.int 2))) (mNil))))) (mNil)))))))))
    (mSeq (mSet 3 (mBin addD (mVar 3) (mFz (mLim (mCons (mTup (mCons (mBin ixD (mVar 0) (mC (.int 0))) (mCons (mBin ixD (mVar 0) (mC (.int 1))) (mCons (mC (.str (PySem.Str.ofString "drop"))) (mNil))))) (mCons (mTup (mCons (mBin ixD (mVar 0) (mC (.int 0))) (mCons (mTup (mCons (mC (.int 0)) (mNil))) (mCons (mBin ixD (mVar 0) (mC (.int 2))) (mNil))))) (mCons (mTup (mCons (mBin ixD (mVar 0) (mC (.int 0))) (mCons (mBin ixD (mVar 0) (mC (.int 1))) (mCons (mBin powD (mC (.int 10)) (mC (.int 30))) (mNil))))) (mCons (mTup (mCons (mC (.int 0)) (mCons (mBin ixD (mVar 0) (mC (.int 1))) (mCons (mBin ixD (mVar 0) (mC (.int 2))) (mNil))))) (mNil)))))))))
    (mRet (mBin ixD (mVar 3) (mBin modD (mVar 2) (mC (.int 20))))))))
noncomputable def m_law_bad_row : List D → R Rt := mDef 4 b_law_bad_row
theorem sc_law_bad_book : FnScope ["_law_book", "_law_doors_here", "_law_number", "_law_way_of", "_law_row_here", "_law_at"] ["_law_book", "_law_doors_here", "_law_number"] (defScope s_law_bad_book) := ⟨rfl, rfl, rfl, by decide +kernel, rfl, by decide +kernel, by decide +kernel⟩
noncomputable def b_law_bad_book : MS :=
    mSeq (mSet 3 (mBin modD (mVar 2) (mC (.int 8))))
    (mSeq (mIfS (mB (mBin (eqR true) (mVar 3) (mC (.int 0)))) (mRet (mBin ixD (mFz (mLim (mCons (mC .non) (mCons (mCB tupleD (mCons (mVar 0) (mNil))) (mCons (mDict0) (mCons (mC (.str (PySem.Str.ofString ""))) (mCons (mC (.int 0)) (mCons (mC (.bl true)) (mCons (mC (.str (PySem.Str.ofString "-"))) (mCons (mFz (mLim (mCons (mFz (mLim (mNil))) (mNil)))) (mNil))))))))))) (mBin modD (mBin fdivD (mVar 2) (mC (.int 8))) (mC (.int 8))))) (mNext))
    (mSeq (mIfS (mB (mBin (eqR true) (mVar 3) (mC (.int 1)))) (mRet (mSl slD (mBin addD (mVar 0) (mBin repD (mFz (mLim (mCons (mTup (mCons (mC (.str (PySem.Str.ofString "xxxx"))) (mCons (mC .non) (mCons (mC .non) (mNil))))) (mNil)))) (mC (.int 13)))) (mNoP) (mPart (mC (.int 13))))) (mNext))
    (mSeq (mSet 4 (mTup (mCons (mC (.str (PySem.Str.ofString "x01x"))) (mCons (mC .non) (mCons (mC (.int 0)) (mNil))))))
    (mSeq (mIfS (mB (mBin gtD (mCB lenD (mCons (mVar 0) (mNil))) (mC (.int 0)))) (mSet 4 (mBin ixD (mVar 0) (mBin modD (mBin fdivD (mVar 2) (mC (.int 8))) (mCB lenD (mCons (mVar 0) (mNil)))))) (mNext))
    (mSeq (mSet 5 (mBin modD (mBin fdivD (mVar 2) (mC (.int 100))) (mBin addD (mCB lenD (mCons (mVar 0) (mNil))) (mC (.int 1)))))
    (mRet (mSl slD (mBin addD (mBin addD (mSl slD (mVar 0) (mNoP) (mPart (mVar 5))) (mFz (mLim (mCons (mCall 3 m_law_bad_row (mCons (mVar 4) (mCons (mVar 1) (mCons (mBin fdivD (mVar 2) (mC (.int 2000))) (mNil))))) (mNil))))) (mSl slD (mVar 0) (mPart (mVar 5)) (mNoP))) (mNoP) (mPart (mBin addD (mC (.int 12)) (mCB toIntB (mCons (mBin (eqR true) (mVar 5) (mC (.int 12))) (mNil))))))))))))
noncomputable def m_law_bad_book : List D → R Rt := mDef 6 b_law_bad_book
theorem sc_law_spoiled : FnScope ["_law_books_here", "_law_counts_here", "_law_number", "_law_spoiled_here", "_law_house"] ["_law_books_here", "_law_counts_here", "_law_number"] (defScope s_law_spoiled) := ⟨rfl, rfl, rfl, by decide +kernel, rfl, by decide +kernel, by decide +kernel⟩
noncomputable def b_law_spoiled : MS :=
    mSeq (mSetO 3 (mComp 1 [] (mIL (mVar 0)) (setV 0) (mYes) (mFz (mListO (mCons (mVar 0) (mNil))))))
    (mSeq (mIfS (mB (mBin (eqR true) (mBin modD (mVar 2) (mC (.int 9))) (mC (.int 0)))) (mRetZ (mBin addD (mVar 3) (mFz (mLim (mCons (mFz (mLim (mNil))) (mNil)))))) (mNext))
    (mSeq (mIfS (mB (mBin (eqR true) (mBin modD (mVar 2) (mC (.int 9))) (mC (.int 1)))) (mRetZ (mSl slD (mVar 3) (mNoP) (mPart (mUn negD (mC (.int 1)))))) (mNext))
    (mSeq (mIfS (mB (mBin (eqR true) (mBin modD (mVar 2) (mC (.int 9))) (mC (.int 2)))) (mRetZ (mBin ixD (mFz (mLim (mCons (mCB tupleD (mCons (mVar 3) (mNil))) (mCons (mC .non) (mCons (mDict0) (mCons (mC (.int 0)) (mCons (mC (.str (PySem.Str.ofString "-"))) (mNil)))))))) (mBin modD (mBin fdivD (mVar 2) (mC (.int 9))) (mC (.int 5))))) (mNext))
    (mSeq (mSet 4 (mBin modD (mBin fdivD (mVar 2) (mC (.int 9))) (mCB lenD (mCons (mVar 1) (mNil)))))
    (mSeq (mPutIx 3 (mVar 4) (mCall 3 m_law_bad_book (mCons (mIxV 3 (mVar 4)) (mCons (mBin ixD (mVar 1) (mVar 4)) (mCons (mBin fdivD (mVar 2) (mC (.int 60))) (mNil))))))
    (mRetO (mVarO 3)))))))
noncomputable def m_law_spoiled : List D → R Rt := mDef 5 b_law_spoiled
theorem sc_is_pattern : FnScope ["thing"] ["thing"] (defScope s_is_pattern) := ⟨rfl, rfl, rfl, by decide +kernel, rfl, by decide +kernel, by decide +kernel⟩
noncomputable def b_is_pattern : MS :=
    mSeq (mIfS (mOr (mNot (mB (mUn (isiD "str") (mVar 0)))) (mB (mBin (eqR false) (mCB lenD (mCons (mVar 0) (mNil))) (mCB lenD (mCons (mC c_WORTHS) (mNil)))))) (mRet (mC (.bl false))) (mNext))
    (mRet (mCB allD (mCons (mFz (mComp 1 [] (mIS (mVar 0)) (setV 0) (mYes) (mBin (inD true) (mVar 0) (mC c_SIGNS)))) (mNil))))
noncomputable def m_is_pattern : List D → R Rt := mDef 1 b_is_pattern
theorem sc_is_number_or_none : FnScope ["thing", "doors"] ["thing", "doors"] (defScope s_is_number_or_none) := ⟨rfl, rfl, rfl, by decide +kernel, rfl, by decide +kernel, by decide +kernel⟩
noncomputable def b_is_number_or_none : MS :=
    mRet (mOrV (mBin (isND true) (mVar 0) (mC .non)) (mCall 3 m_is_whole_within (mCons (mVar 0) (mCons (mC (.int 0)) (mCons (mBin subD (mVar 1) (mC (.int 1))) (mNil))))))
noncomputable def m_is_number_or_none : List D → R Rt := mDef 2 b_is_number_or_none
theorem sc_is_row : FnScope ["thing", "doors"] ["thing", "doors"] (defScope s_is_row) := ⟨rfl, rfl, rfl, by decide +kernel, rfl, by decide +kernel, by decide +kernel⟩
noncomputable def b_is_row : MS :=
    mSeq (mIfS (mOr (mNot (mB (mUn (isiD "tuple") (mVar 0)))) (mB (mBin (eqR false) (mCB lenD (mCons (mVar 0) (mNil))) (mC (.int 3))))) (mRet (mC (.bl false))) (mNext))
    (mSeq (mIfS (mNot (mB (mCall 1 m_is_pattern (mCons (mBin ixD (mVar 0) (mC (.int 0))) (mNil))))) (mRet (mC (.bl false))) (mNext))
    (mRet (mAndV (mCall 2 m_is_number_or_none (mCons (mBin ixD (mVar 0) (mC (.int 1))) (mCons (mVar 1) (mNil)))) (mCall 2 m_is_number_or_none (mCons (mBin ixD (mVar 0) (mC (.int 2))) (mCons (mVar 1) (mNil)))))))
noncomputable def m_is_row : List D → R Rt := mDef 2 b_is_row
theorem sc_is_book : FnScope ["thing", "doors"] ["thing", "doors"] (defScope s_is_book) := ⟨rfl, rfl, rfl, by decide +kernel, rfl, by decide +kernel, by decide +kernel⟩
noncomputable def b_is_book : MS :=
    mSeq (mIfS (mOr (mNot (mB (mUn (isiD "list") (mVar 0)))) (mB (mBin gtD (mCB lenD (mCons (mVar 0) (mNil))) (mC c_MOST_ROWS)))) (mRet (mC (.bl false))) (mNext))
    (mRet (mCB allD (mCons (mFz (mComp 1 [1] (mIL (mVar 0)) (setV 0) (mYes) (mCall 2 m_is_row (mCons (mVar 0) (mCons (mVar 1) (mNil)))))) (mNil))))
noncomputable def m_is_book : List D → R Rt := mDef 2 b_is_book
theorem sc_Net_count : FnScope ["self", "house"] ["self", "house"] (defScope s_Net_count) := ⟨rfl, rfl, rfl, by decide +kernel, rfl, by decide +kernel, by decide +kernel⟩
noncomputable def b_Net_count : MS :=
    mRet (mIf (mB (mChain leD ltD (mC (.int 0)) (mVar 1) (mUn (fldD "Net" "many") (mVar 0)))) (mBin ixD (mUn (fldD "Net" "counts") (mVar 0)) (mVar 1)) (mC (.int 0)))
noncomputable def m_Net_count : List D → R Rt := mDef 2 b_Net_count
theorem sc_is_books : FnScope ["thing", "net"] ["thing", "net"] (defScope s_is_books) := ⟨rfl, rfl, rfl, by decide +kernel, rfl, by decide +kernel, by decide +kernel⟩
noncomputable def b_is_books : MS :=
    mSeq (mIfS (mOr (mNot (mB (mUn (isiD "list") (mVar 0)))) (mB (mBin (eqR false) (mCB lenD (mCons (mVar 0) (mNil))) (mUn (fldD "Net" "many") (mVar 1))))) (mRet (mC (.bl false))) (mNext))
    (mRet (mCB allD (mCons (mFz (mComp 2 [1] (mIE (mCons (mVar 0) (mNil))) (setT [setV 0, setV 1]) (mYes) (mCall 2 m_is_book (mCons (mVar 1) (mCons (mMeth "Net" "count" 1 m_Net_count (mVar 2) (mCons (mVar 0) (mNil))) (mNil)))))) (mNil))))
noncomputable def m_is_books : List D → R Rt := mDef 2 b_is_books
theorem sc_law : FnScope ["_law_script", "_law_counts_here", "_law_net", "_law_books_here", "_law_handed", "_law_k", "_law_cell", "_law_spoiled_here"] ["_law_script"] (defScope s_law) := ⟨rfl, rfl, rfl, by decide +kernel, rfl, by decide +kernel, by decide +kernel⟩
noncomputable def b_law : MS :=
    mSeq (mSet 1 (mFz (mCallO 1 m_law_counts (mCons (mVar 0) (mNil)))))
    (mSeq (mSet 2 (mMake "Net" 2 m_Net_init (mCons (mVar 1) (mCons (mFz (mCallO 2 m_law_wires (mCons (mVar 0) (mCons (mVar 1) (mNil))))) (mNil)))))
    (mSeq (mSet 3 (mCall 2 m_law_books (mCons (mSl slD (mVar 0) (mPart (mC (.int 4))) (mPart (mC (.int 63)))) (mCons (mVar 1) (mNil)))))
    (mSeq (mSetF 4 (mComp 1 [] (mIL (mVar 3)) (setV 0) (mYes) (mFz (mListO (mCons (mVar 0) (mNil))))))
    (mSeq (mIfS (mOr (mNot (mB (mCall 2 m_law_truth (mCons (mCall 2 m_is_books (mCons (mVar 4) (mCons (mVar 2) (mNil)))) (mCons (mC (.bl true)) (mNil)))))) (mB (mBin (eqR false) (mVar 4) (mVar 3)))) (mRet (mC (.bl false))) (mNext))
    (mSeq (mIfS (mNot (mB (mCall 2 m_law_truth (mCons (mCall 2 m_is_books (mCons (mFz (mComp 1 [] (mIL (mVar 1)) (setV 0) (mYes) (mFz (mLim (mNil))))) (mCons (mVar 2) (mNil)))) (mCons (mC (.bl true)) (mNil)))))) (mRet (mC (.bl false))) (mNext))
    (mSeq (mFor (mIE (mCons (mBin addD (mFz (mLim (mCons (mC (.int 0)) (mCons (mC (.int 1)) (mCons (mC (.int 2)) (mNil)))))) (mSl slD (mVar 0) (mNoP) (mPart (mC (.int 63))))) (mNil))) (setT [setV 5, setV 6]) (mSeq (mSet 7 (mCall 3 m_law_spoiled (mCons (mVar 3) (mCons (mVar 1) (mCons (mCall 2 m_law_mix (mCons (mVar 6) (mCons (mBin addD (mC (.int 50)) (mVar 5)) (mNil)))) (mNil))))))
    (mIfS (mNot (mB (mCall 2 m_law_truth (mCons (mCall 2 m_is_books (mCons (mVar 7) (mCons (mVar 2) (mNil)))) (mCons (mC (.bl false)) (mNil)))))) (mRet (mC (.bl false))) (mNext))))
    (mRet (mC (.bl true)))))))))
noncomputable def m_law : List D → R Rt := mDef 8 b_law
end N03
set_option Elab.async false
set_option linter.all false
set_option maxRecDepth 100000
set_option autoImplicit false
namespace N03
open PySem PySem.Spec L2 L3
section
variable {P : Program} {w : World} {K : PySem.W.Frag} {mg : Str → Option Value} {base : Heap} (T : Tx K mg)
include T
set_option maxHeartbeats 4000000
theorem kn_law_mix : Kn P w K mg base "_law_mix" 2 1 m_law_mix := by
  have h := xd_ok (P := P) (w := w) (mg := mg) (base := base) (k := 0) (m := b_law_mix) T.f_law_mix sc_law_mix
  exact h fun _ _ _ _ _ _ _ hr _ _ =>
  xs_one (xs_ret (xe_fdiv (xe_mod (xe_mul (xe_add (xe_mod (xe_var 0) (xe_pow (xe_int) (xe_int))) (xe_int)) (xe_add (xe_add (xe_int) (xe_mul (xe_mul (xe_int) (xe_var 1)) (xe_var 1))) (xe_var 1))) (xe_int)) (xe_int)))
theorem kn_law_cell_at : Kn P w K mg base "_law_cell_at" 2 1 m_law_cell_at := by
  have h := xd_ok (P := P) (w := w) (mg := mg) (base := base) (k := 0) (m := b_law_cell_at) T.f_law_cell_at sc_law_cell_at
  exact h fun _ _ _ _ _ _ _ hr _ _ =>
  xs_cons (xs_if (xt_lt (xe_var 1) (xe_len T.b_len (xa_cons (xe_var 0) (xa_nil)))) (xs_one (xs_ret (xe_ix (xe_var 0) (xe_var 1) px))) (xs_nil))
    (xs_one (xs_ret (xe_int)))
theorem kn_law_counts : Kn P w K mg base "_law_counts" 1 2 m_law_counts := by
  have h := xd_ok (P := P) (w := w) (mg := mg) (base := base) (k := 1) (m := b_law_counts) T.f_law_counts sc_law_counts
  exact h fun _ _ _ _ _ _ _ hr _ _ =>
  xs_cons (xs_set 1 sc_law_counts.nd (xe_add (xe_int) (xe_mod (xe_call (kn_law_mix T) (hr.mono (by decide)) (xa_cons (xe_call (kn_law_cell_at T) (hr.mono (by decide)) (xa_cons (xe_var 0) (xa_cons (xe_int) (xa_nil)))) (xa_cons (xe_int) (xa_nil)))) (xe_int))))
    (xs_one (xs_retO (xo_comp (N := ["_law_house", "_law_script"]) 1 [0] (by rfl) (xw_range1 T.b_range (xa_cons (xe_var 1) (xa_nil))) (b_name 0) (blk_yes) (fun _ _ _ _ _ _ _ => xe_add (xe_int) (xe_mod (xe_call (kn_law_mix T) (hr.mono (by decide)) (xa_cons (xe_call (kn_law_cell_at T) (hr.mono (by decide)) (xa_cons (xe_var 1) (xa_cons (xe_int) (xa_nil)))) (xa_cons (xe_add (xe_int) (xe_var 0)) (xa_nil)))) (xe_int))))))
theorem kn_is_pair : Kn P w K mg base "is_pair" 1 1 m_is_pair := by
  have h := xd_ok (P := P) (w := w) (mg := mg) (base := base) (k := 0) (m := b_is_pair) T.f_is_pair sc_is_pair
  exact h fun _ _ _ _ _ _ _ hr _ _ =>
  xs_one (xs_ret (xe_and (xe_isi (tt_tuple _) T.b_isinstance T.b_tuple (by kernel_rfl) (xe_var 0)) (xe_one (xe_eq hr.units (xe_len T.b_len (xa_cons (xe_var 0) (xa_nil))) (xe_int)))))
theorem kn_is_whole : Kn P w K mg base "is_whole" 1 1 m_is_whole := by
  have h := xd_ok (P := P) (w := w) (mg := mg) (base := base) (k := 0) (m := b_is_whole) T.f_is_whole sc_is_whole
  exact h fun _ _ _ _ _ _ _ hr _ _ =>
  xs_one (xs_ret (xe_and (xe_isi (tt_int _) T.b_isinstance T.b_int (by kernel_rfl) (xe_var 0)) (xe_one (xe_not (xe_isi (tt_bool _) T.b_isinstance T.b_bool (by kernel_rfl) (xe_var 0))))))
theorem kn_is_whole_within : Kn P w K mg base "is_whole_within" 3 2 m_is_whole_within := by
  have h := xd_ok (P := P) (w := w) (mg := mg) (base := base) (k := 1) (m := b_is_whole_within) T.f_is_whole_within sc_is_whole_within
  exact h fun _ _ _ _ _ _ _ hr _ _ =>
  xs_one (xs_ret (xe_and (xe_call (kn_is_whole T) (hr.mono (by decide)) (xa_cons (xe_var 0) (xa_nil))) (xe_one (xe_chain op_le op_le ok_le ok_le (xe_var 1) (xe_var 0) (xe_var 2)))))
theorem kn_is_door_among : Kn P w K mg base "is_door_among" 2 3 m_is_door_among := by
  have h := xd_ok (P := P) (w := w) (mg := mg) (base := base) (k := 2) (m := b_is_door_among) T.f_is_door_among sc_is_door_among
  exact h fun _ _ _ _ _ _ _ hr _ _ =>
  xs_cons (xs_if (xt_w (xw_or (xt_not (xt_val (xe_call (kn_is_pair T) (hr.mono (by decide)) (xa_cons (xe_var 1) (xa_nil))))) (xw_or1 (xt_not (xt_val (xe_call (kn_is_whole_within T) (hr.mono (by decide)) (xa_cons (xe_ix (xe_var 1) (xe_int) px) (xa_cons (xe_int) (xa_cons (xe_sub (xe_len T.b_len (xa_cons (xe_var 0) (xa_nil))) (xe_int)) (xa_nil)))))))))) (xs_one (xs_ret (xe_bl))) (xs_nil))
    (xs_one (xs_ret (xe_call (kn_is_whole_within T) (hr.mono (by decide)) (xa_cons (xe_ix (xe_var 1) (xe_int) px) (xa_cons (xe_int) (xa_cons (xe_sub (xe_ix (xe_var 0) (xe_ix (xe_var 1) (xe_int) px) px) (xe_int)) (xa_nil)))))))
theorem kn_is_wire_among : Kn P w K mg base "is_wire_among" 2 4 m_is_wire_among := by
  have h := xd_ok (P := P) (w := w) (mg := mg) (base := base) (k := 3) (m := b_is_wire_among) T.f_is_wire_among sc_is_wire_among
  exact h fun _ _ _ _ _ _ _ hr _ _ =>
  xs_cons (xs_if (xt_not (xt_val (xe_call (kn_is_pair T) (hr.mono (by decide)) (xa_cons (xe_var 1) (xa_nil))))) (xs_one (xs_ret (xe_bl))) (xs_nil))
    (xs_cons (xs_set 2 sc_is_wire_among.nd (xe_and (xe_call (kn_is_door_among T) (hr.mono (by decide)) (xa_cons (xe_var 0) (xa_cons (xe_ix (xe_var 1) (xe_int) px) (xa_nil)))) (xe_one (xe_call (kn_is_door_among T) (hr.mono (by decide)) (xa_cons (xe_var 0) (xa_cons (xe_ix (xe_var 1) (xe_int) px) (xa_nil)))))))
    (xs_one (xs_ret (xe_and (xe_var 2) (xe_one (xe_ne hr.units (xe_ix (xe_var 1) (xe_int) px) (xe_ix (xe_var 1) (xe_int) px)))))))
theorem kn_far_doors : Kn P w K mg base "far_doors" 2 5 m_far_doors := by
  have h := xd_ok (P := P) (w := w) (mg := mg) (base := base) (k := 4) (m := b_far_doors) T.f_far_doors sc_far_doors
  exact h fun _ _ _ _ _ _ _ hr _ _ =>
  xs_cons (xs_setD 2 sc_far_doors.nd)
    (xs_cons (xs_for PassesOwn.never (xw_tup (xe_var 1)) (n_name 3 sc_far_doors.nd) (xs_cons (xs_if (xt_not (xt_val (xe_call (kn_is_wire_among T) (hr.mono (by decide)) (xa_cons (xe_var 0) (xa_cons (xe_var 3) (xa_nil)))))) (xs_one (xs_bad)) (xs_nil))
    (xs_cons (xs_if (xt_bor (xt_w (xw_or (xt_din hr.units (xe_ix (xe_var 3) (xe_int) px) (xe_var 2)) (xw_or1 (xt_din hr.units (xe_ix (xe_var 3) (xe_int) px) (xe_var 2)))))) (xs_one (xs_bad)) (xs_nil))
    (xs_cons (xs_dput 2 hr.units (xe_ix (xe_var 3) (xe_int) px) (xe_ix (xe_var 3) (xe_int) px))
    (xs_one (xs_dput 2 hr.units (xe_ix (xe_var 3) (xe_int) px) (xe_ix (xe_var 3) (xe_int) px)))))))
    (xs_one (xs_retZ (xe_var 2))))
theorem kn_are_counts : Kn P w K mg base "are_counts" 1 3 m_are_counts := by
  have h := xd_ok (P := P) (w := w) (mg := mg) (base := base) (k := 2) (m := b_are_counts) T.f_are_counts sc_are_counts
  exact h fun _ _ _ _ _ _ _ hr _ _ =>
  xs_cons (xs_if (xt_w (xw_or (xt_not (xt_val (xe_isi (tt_list _) T.b_isinstance T.b_list (by kernel_rfl) (xe_var 0)))) (xw_or1 (xt_not (xt_chain op_le op_le ok_le ok_le (xe_int) (xe_len T.b_len (xa_cons (xe_var 0) (xa_nil))) (xe_cst T.c_MOST_HOUSES)))))) (xs_one (xs_ret (xe_bl))) (xs_nil))
    (xs_one (xs_ret (xe_all hr T.b_all (xa_cons (xe_fz (xo_comp (N := ["doors"]) 1 [] (by rfl) (xw_list (xe_var 0)) (b_name 0) (blk_yes) (fun _ _ _ _ _ _ _ => xe_call (kn_is_whole_within T) (hr.mono (by decide)) (xa_cons (xe_var 0) (xa_cons (xe_int) (xa_cons (xe_cst T.c_MOST_DOORS) (xa_nil))))))) (xa_nil)))))
theorem kn_Net_init : KnI P w K mg base "Net" 2 6 m_Net_init := by
  have h := xi_ok (P := P) (w := w) (mg := mg) (base := base) (k := 5) (m := b_Net_init) T.f_Net_init sc_Net_init
  exact h fun _ _ _ _ _ _ _ hr _ _ =>
  xn_cons (xn_guard (xt_not (xt_val (xe_call (kn_are_counts T) (hr.mono (by decide)) (xa_cons (xe_var 1) (xa_nil))))))
    (xn_cons (xn_guard (xt_not (xt_val (xe_isi (tt_list _) T.b_isinstance T.b_list (by kernel_rfl) (xe_var 2)))))
    (xn_cons (xn_fld T.k_Net (xe_len T.b_len (xa_cons (xe_var 1) (xa_nil))))
    (xn_cons (xn_fld T.k_Net (xe_tuple T.b_tuple (xa_cons (xe_var 1) (xa_nil))))
    (xn_cons (xn_fld T.k_Net (xe_tuple T.b_tuple (xa_cons (xe_var 2) (xa_nil))))
    (xn_one (xn_fld T.k_Net (xe_borI (xe_call (kn_far_doors T) (hr.mono (by decide)) (xa_cons (xe_fld T.k_Net (xe_var 0)) (xa_cons (xe_fld T.k_Net (xe_var 0)) (xa_nil)))))))))))
theorem kn_law_pattern : Kn P w K mg base "_law_pattern" 1 1 m_law_pattern := by
  have h := xd_ok (P := P) (w := w) (mg := mg) (base := base) (k := 0) (m := b_law_pattern) T.f_law_pattern sc_law_pattern
  exact h fun _ _ _ _ _ _ _ hr _ _ =>
  xs_cons (xs_set 1 sc_law_pattern.nd (xe_str))
    (xs_cons (xs_for PassesOwn.never (xw_range1 T.b_range (xa_cons (xe_int) (xa_nil))) (n_name 2 sc_law_pattern.nd) (xs_cons (xs_set 1 sc_law_pattern.nd (xe_add (xe_var 1) (xe_ix (xe_str) (xe_mod (xe_var 0) (xe_int)) px)))
    (xs_one (xs_set 0 sc_law_pattern.nd (xe_fdiv (xe_var 0) (xe_int))))))
    (xs_one (xs_ret (xe_var 1))))
theorem kn_law_row : Kn P w K mg base "_law_row" 3 2 m_law_row := by
  have h := xd_ok (P := P) (w := w) (mg := mg) (base := base) (k := 1) (m := b_law_row) T.f_law_row sc_law_row
  exact h fun _ _ _ _ _ _ _ hr _ _ =>
  xs_cons (xs_set 3 sc_law_row.nd (xe_call (kn_law_mix T) (hr.mono (by decide)) (xa_cons (xe_var 0) (xa_cons (xe_var 1) (xa_nil)))))
    (xs_cons (xs_set 4 sc_law_row.nd (xe_ix (xe_fz (xo_lst (xa_cons (xe_non) (xa_cons (xe_mod (xe_fdiv (xe_var 3) (xe_int)) (xe_var 2)) (xa_nil))))) (xe_mod (xe_fdiv (xe_var 3) (xe_int)) (xe_int)) px))
    (xs_cons (xs_set 5 sc_law_row.nd (xe_ix (xe_fz (xo_lst (xa_cons (xe_mod (xe_fdiv (xe_var 3) (xe_int)) (xe_var 2)) (xa_cons (xe_non) (xa_nil))))) (xe_toIntB T.b_int (xa_cons (xe_eq hr.units (xe_mod (xe_fdiv (xe_var 3) (xe_int)) (xe_int)) (xe_int)) (xa_nil))) px))
    (xs_one (xs_ret (xe_tup (xa_cons (xe_call (kn_law_pattern T) (hr.mono (by decide)) (xa_cons (xe_var 3) (xa_nil))) (xa_cons (xe_var 4) (xa_cons (xe_var 5) (xa_nil)))))))))
theorem kn_law_books : Kn P w K mg base "_law_books" 2 3 m_law_books := by
  have h := xd_ok (P := P) (w := w) (mg := mg) (base := base) (k := 2) (m := b_law_books) T.f_law_books sc_law_books
  exact h fun _ _ _ _ _ _ _ hr _ _ =>
  xs_cons (xs_compT (N := ["_law_house"]) 2 1 [] sc_law_books.nd (by rfl) (xw_list (xe_var 1)) (b_name 0) (blk_yes) (fun _ _ _ _ _ _ _ => xo_lst (xa_nil)))
    (xs_cons (xs_for PassesOwn.never (xw_enum T.b_enumerate (xa_cons (xe_var 0) (xa_nil))) (n_tup rfl (n_cons (n_name 3 sc_law_books.nd) (n_cons (n_name 4 sc_law_books.nd) (n_nil)))) (xs_cons (xs_set 5 sc_law_books.nd (xe_mod (xe_var 3) (xe_len T.b_len (xa_cons (xe_var 1) (xa_nil)))))
    (xs_one (xs_if (xt_bor (xt_lt (xe_len T.b_len (xa_cons (xe_ix (xe_var 2) (xe_var 5) px) (xa_nil))) (xe_int))) (xs_one (xs_appAt 2 (xe_var 5) px (xe_call (kn_law_row T) (hr.mono (by decide)) (xa_cons (xe_var 4) (xa_cons (xe_add (xe_int) (xe_var 3)) (xa_cons (xe_ix (xe_var 1) (xe_var 5) px) (xa_nil))))))) (xs_nil)))))
    (xs_one (xs_retVT 2)))
theorem kn_law_doors : Kn P w K mg base "_law_doors" 1 1 m_law_doors := by
  have h := xd_ok (P := P) (w := w) (mg := mg) (base := base) (k := 0) (m := b_law_doors) T.f_law_doors sc_law_doors
  exact h fun _ _ _ _ _ _ _ hr _ _ =>
  xs_cons (xs_setO 1 sc_law_doors.nd (xo_lst (xa_nil)))
    (xs_cons (xs_for PassesOwn.never (xw_range1 T.b_range (xa_cons (xe_len T.b_len (xa_cons (xe_var 0) (xa_nil))) (xa_nil))) (n_name 2 sc_law_doors.nd) (xs_one (xs_exprE (xe_extend 1 (xe_fz (xo_comp (N := ["_law_number", "_law_house"]) 1 [2] (by rfl) (xw_range1 T.b_range (xa_cons (xe_ix (xe_var 0) (xe_var 2) px) (xa_nil))) (b_name 0) (blk_yes) (fun _ _ _ _ _ _ _ => xe_tup (xa_cons (xe_var 1) (xa_cons (xe_var 0) (xa_nil))))))))))
    (xs_one (xs_retV 1)))
theorem kn_law_wires : Kn P w K mg base "_law_wires" 2 2 m_law_wires := by
  have h := xd_ok (P := P) (w := w) (mg := mg) (base := base) (k := 1) (m := b_law_wires) T.f_law_wires sc_law_wires
  exact h fun _ _ _ _ _ _ _ hr _ _ =>
  xs_cons (xs_set 2 sc_law_wires.nd (xe_fz (xo_call (kn_law_doors T) (hr.mono (by decide)) (xa_cons (xe_var 1) (xa_nil)))))
    (xs_cons (xs_setO 3 sc_law_wires.nd (xo_lst (xa_nil)))
    (xs_cons (xs_for PassesOwn.never (xw_range1 T.b_range (xa_cons (xe_len T.b_len (xa_cons (xe_var 2) (xa_nil))) (xa_nil))) (n_name 4 sc_law_wires.nd) (xs_one (xs_append 3 (xe_tup (xa_cons (xe_call (kn_law_mix T) (hr.mono (by decide)) (xa_cons (xe_add (xe_call (kn_law_cell_at T) (hr.mono (by decide)) (xa_cons (xe_var 0) (xa_cons (xe_int) (xa_nil)))) (xe_mul (xe_var 4) (xe_var 4))) (xa_cons (xe_add (xe_int) (xe_var 4)) (xa_nil)))) (xa_cons (xe_ix (xe_var 2) (xe_var 4) px) (xa_nil)))))))
    (xs_cons (xs_frz 3 (xs_setF (xs_setC 5 sc_law_wires.nd (xo_comp (N := ["_law_number", "_law_door"]) 2 [] (by rfl) (xw_list (xe_fz (xo_sortA hr.units T.b_sorted (xa_cons (xe_var 3) (xa_nil))))) (b_pair 0 1) (blk_yes) (fun _ _ _ _ _ _ _ => xe_var 1)))))
    (xs_cons (xs_set 6 sc_law_wires.nd (xe_fdiv (xe_sub (xe_len T.b_len (xa_cons (xe_var 2) (xa_nil))) (xe_int)) (xe_int)))
    (xs_cons (xs_set 7 sc_law_wires.nd (xe_sub (xe_var 6) (xe_mod (xe_call (kn_law_mix T) (hr.mono (by decide)) (xa_cons (xe_call (kn_law_cell_at T) (hr.mono (by decide)) (xa_cons (xe_var 0) (xa_cons (xe_int) (xa_nil)))) (xa_cons (xe_int) (xa_nil)))) (xe_add (xe_fdiv (xe_var 6) (xe_int)) (xe_int)))))
    (xs_one (xs_retO (xo_comp (N := ["_law_k", "_law_dealt"]) 1 [5] (by rfl) (xw_range1 T.b_range (xa_cons (xe_var 7) (xa_nil))) (b_name 0) (blk_yes) (fun _ _ _ _ _ _ _ => xe_tup (xa_cons (xe_ix (xe_var 1) (xe_mul (xe_int) (xe_var 0)) px) (xa_cons (xe_ix (xe_var 1) (xe_add (xe_mul (xe_int) (xe_var 0)) (xe_int)) px) (xa_nil))))))))))))
theorem kn_law_truth : Kn P w K mg base "_law_truth" 2 1 m_law_truth := by
  have h := xd_ok (P := P) (w := w) (mg := mg) (base := base) (k := 0) (m := b_law_truth) T.f_law_truth sc_law_truth
  exact h fun _ _ _ _ _ _ _ hr _ _ =>
  xs_one (xs_ret (xe_and (xe_isi (tt_bool _) T.b_isinstance T.b_bool (by kernel_rfl) (xe_var 0)) (xe_one (xe_eq hr.units (xe_var 0) (xe_var 1)))))
theorem kn_law_bad_row : Kn P w K mg base "_law_bad_row" 3 1 m_law_bad_row := by
  have h := xd_ok (P := P) (w := w) (mg := mg) (base := base) (k := 0) (m := b_law_bad_row) T.f_law_bad_row sc_law_bad_row
  exact h fun _ _ _ _ _ _ _ hr _ _ =>
  xs_cons (xs_set 3 sc_law_bad_row.nd (xe_fz (xo_lst (xa_cons (xe_fz (xo_list T.b_list (xa_cons (xe_var 0) (xa_nil)))) (xa_cons (xe_slT (xe_var 0) (xp_no) (xp_some (xe_int))) (xa_cons (xe_cat (xe_var 0) (xe_tup (xa_cons (xe_non) (xa_nil)))) (xa_cons (xe_non) (xa_cons (xe_str) (xa_cons (xe_tup (xa_nil)) (xa_cons (xe_tup (xa_cons (xe_str) (xa_cons (xe_ix (xe_var 0) (xe_int) px) (xa_cons (xe_ix (xe_var 0) (xe_int) px) (xa_nil))))) (xa_cons (xe_tup (xa_cons (xe_non) (xa_cons (xe_ix (xe_var 0) (xe_int) px) (xa_cons (xe_ix (xe_var 0) (xe_int) px) (xa_nil))))) (xa_nil))))))))))))
    (xs_cons (xs_set 3 sc_law_bad_row.nd (xe_add (xe_var 3) (xe_fz (xo_lst (xa_cons (xe_tup (xa_cons (xe_str) (xa_cons (xe_ix (xe_var 0) (xe_int) px) (xa_cons (xe_ix (xe_var 0) (xe_int) px) (xa_nil))))) (xa_cons (xe_tup (xa_cons (xe_ix (xe_var 0) (xe_int) px) (xa_cons (xe_var 1) (xa_cons (xe_ix (xe_var 0) (xe_int) px) (xa_nil))))) (xa_cons (xe_tup (xa_cons (xe_ix (xe_var 0) (xe_int) px) (xa_cons (xe_ix (xe_var 0) (xe_int) px) (xa_cons (xe_var 1) (xa_nil))))) (xa_cons (xe_tup (xa_cons (xe_ix (xe_var 0) (xe_int) px) (xa_cons (xe_neg (xe_int)) (xa_cons (xe_ix (xe_var 0) (xe_int) px) (xa_nil))))) (xa_nil)))))))))
    (xs_cons (xs_set 3 sc_law_bad_row.nd (xe_add (xe_var 3) (xe_fz (xo_lst (xa_cons (xe_tup (xa_cons (xe_ix (xe_var 0) (xe_int) px) (xa_cons (xe_ix (xe_var 0) (xe_int) px) (xa_cons (xe_neg (xe_int)) (xa_nil))))) (xa_cons (xe_tup (xa_cons (xe_ix (xe_var 0) (xe_int) px) (xa_cons (xe_bl) (xa_cons (xe_ix (xe_var 0) (xe_int) px) (xa_nil))))) (xa_cons (xe_tup (xa_cons (xe_ix (xe_var 0) (xe_int) px) (xa_cons (xe_ix (xe_var 0) (xe_int) px) (xa_cons (xe_bl) (xa_nil))))) (xa_cons (xe_tup (xa_cons (xe_ix (xe_var 0) (xe_int) px) (xa_cons (xe_str) (xa_cons (xe_ix (xe_var 0) (xe_int) px) (xa_nil))))) (xa_nil)))))))))
    (xs_cons (xs_set 3 sc_law_bad_row.nd (xe_add (xe_var 3) (xe_fz (xo_lst (xa_cons (xe_tup (xa_cons (xe_ix (xe_var 0) (xe_int) px) (xa_cons (xe_ix (xe_var 0) (xe_int) px) (xa_cons (xe_str) (xa_nil))))) (xa_cons (xe_tup (xa_cons (xe_ix (xe_var 0) (xe_int) px) (xa_cons (xe_tup (xa_cons (xe_int) (xa_nil))) (xa_cons (xe_ix (xe_var 0) (xe_int) px) (xa_nil))))) (xa_cons (xe_tup (xa_cons (xe_ix (xe_var 0) (xe_int) px) (xa_cons (xe_ix (xe_var 0) (xe_int) px) (xa_cons (xe_pow (xe_int) (xe_int)) (xa_nil))))) (xa_cons (xe_tup (xa_cons (xe_int) (xa_cons (xe_ix (xe_var 0) (xe_int) px) (xa_cons (xe_ix (xe_var 0) (xe_int) px) (xa_nil))))) (xa_nil)))))))))
    (xs_one (xs_ret (xe_ix (xe_var 3) (xe_mod (xe_var 2) (xe_int)) px))))))
theorem kn_law_bad_book : Kn P w K mg base "_law_bad_book" 3 2 m_law_bad_book := by
  have h := xd_ok (P := P) (w := w) (mg := mg) (base := base) (k := 1) (m := b_law_bad_book) T.f_law_bad_book sc_law_bad_book
  exact h fun _ _ _ _ _ _ _ hr _ _ =>
  xs_cons (xs_set 3 sc_law_bad_book.nd (xe_mod (xe_var 2) (xe_int)))
    (xs_cons (xs_if (xt_eq hr.units (xe_var 3) (xe_int)) (xs_one (xs_ret (xe_ix (xe_fz (xo_lst (xa_cons (xe_non) (xa_cons (xe_tuple T.b_tuple (xa_cons (xe_var 0) (xa_nil))) (xa_cons (xe_dict0) (xa_cons (xe_str) (xa_cons (xe_int) (xa_cons (xe_bl) (xa_cons (xe_str) (xa_cons (xe_fz (xo_lst (xa_cons (xe_fz (xo_lst (xa_nil))) (xa_nil)))) (xa_nil))))))))))) (xe_mod (xe_fdiv (xe_var 2) (xe_int)) (xe_int)) px))) (xs_nil))
    (xs_cons (xs_if (xt_eq hr.units (xe_var 3) (xe_int)) (xs_one (xs_ret (xe_sl (xe_add (xe_var 0) (xe_rep (xe_fz (xo_lst (xa_cons (xe_tup (xa_cons (xe_str) (xa_cons (xe_non) (xa_cons (xe_non) (xa_nil))))) (xa_nil)))) (xe_int))) (xp_no) (xp_some (xe_int))))) (xs_nil))
    (xs_cons (xs_set 4 sc_law_bad_book.nd (xe_tup (xa_cons (xe_str) (xa_cons (xe_non) (xa_cons (xe_int) (xa_nil))))))
    (xs_cons (xs_if (xt_gt (xe_len T.b_len (xa_cons (xe_var 0) (xa_nil))) (xe_int)) (xs_one (xs_set 4 sc_law_bad_book.nd (xe_ix (xe_var 0) (xe_mod (xe_fdiv (xe_var 2) (xe_int)) (xe_len T.b_len (xa_cons (xe_var 0) (xa_nil)))) px))) (xs_nil))
    (xs_cons (xs_set 5 sc_law_bad_book.nd (xe_mod (xe_fdiv (xe_var 2) (xe_int)) (xe_add (xe_len T.b_len (xa_cons (xe_var 0) (xa_nil))) (xe_int))))
    (xs_one (xs_ret (xe_sl (xe_add (xe_add (xe_sl (xe_var 0) (xp_no) (xp_some (xe_var 5))) (xe_fz (xo_lst (xa_cons (xe_call (kn_law_bad_row T) (hr.mono (by decide)) (xa_cons (xe_var 4) (xa_cons (xe_var 1) (xa_cons (xe_fdiv (xe_var 2) (xe_int)) (xa_nil))))) (xa_nil))))) (xe_sl (xe_var 0) (xp_some (xe_var 5)) (xp_no))) (xp_no) (xp_some (xe_add (xe_int) (xe_toIntB T.b_int (xa_cons (xe_eq hr.units (xe_var 5) (xe_int)) (xa_nil)))))))))))))
theorem kn_law_spoiled : Kn P w K mg base "_law_spoiled" 3 3 m_law_spoiled := by
  have h := xd_ok (P := P) (w := w) (mg := mg) (base := base) (k := 2) (m := b_law_spoiled) T.f_law_spoiled sc_law_spoiled
  exact h fun _ _ _ _ _ _ _ hr _ _ =>
  xs_cons (xs_comp (N := ["_law_book"]) 3 1 [] sc_law_spoiled.nd (by rfl) (xw_list (xe_var 0)) (b_name 0) (blk_yes) (fun _ _ _ _ _ _ _ => xe_fz (xo_list T.b_list (xa_cons (xe_var 0) (xa_nil)))))
    (xs_cons (xs_if (xt_eq hr.units (xe_mod (xe_var 2) (xe_int)) (xe_int)) (xs_one (xs_retZ (xe_add (xe_var 3) (xe_fz (xo_lst (xa_cons (xe_fz (xo_lst (xa_nil))) (xa_nil))))))) (xs_nil))
    (xs_cons (xs_if (xt_eq hr.units (xe_mod (xe_var 2) (xe_int)) (xe_int)) (xs_one (xs_retZ (xe_sl (xe_var 3) (xp_no) (xp_some (xe_neg (xe_int)))))) (xs_nil))
    (xs_cons (xs_if (xt_eq hr.units (xe_mod (xe_var 2) (xe_int)) (xe_int)) (xs_one (xs_retZ (xe_ix (xe_fz (xo_lst (xa_cons (xe_tuple T.b_tuple (xa_cons (xe_var 3) (xa_nil))) (xa_cons (xe_non) (xa_cons (xe_dict0) (xa_cons (xe_int) (xa_cons (xe_str) (xa_nil)))))))) (xe_mod (xe_fdiv (xe_var 2) (xe_int)) (xe_int)) px))) (xs_nil))
    (xs_cons (xs_set 4 sc_law_spoiled.nd (xe_mod (xe_fdiv (xe_var 2) (xe_int)) (xe_len T.b_len (xa_cons (xe_var 1) (xa_nil)))))
    (xs_cons (xs_putIx 3 (xe_var 4) (xe_call (kn_law_bad_book T) (hr.mono (by decide)) (xa_cons (xe_ixV 3 (xe_var 4) px) (xa_cons (xe_ix (xe_var 1) (xe_var 4) px) (xa_cons (xe_fdiv (xe_var 2) (xe_int)) (xa_nil))))))
    (xs_one (xs_retV 3)))))))
theorem kn_is_pattern : Kn P w K mg base "is_pattern" 1 1 m_is_pattern := by
  have h := xd_ok (P := P) (w := w) (mg := mg) (base := base) (k := 0) (m := b_is_pattern) T.f_is_pattern sc_is_pattern
  exact h fun _ _ _ _ _ _ _ hr _ _ =>
  xs_cons (xs_if (xt_w (xw_or (xt_not (xt_val (xe_isi (tt_str _) T.b_isinstance T.b_str (by kernel_rfl) (xe_var 0)))) (xw_or1 (xt_ne hr.units (xe_len T.b_len (xa_cons (xe_var 0) (xa_nil))) (xe_len T.b_len (xa_cons (xe_cst T.c_WORTHS) (xa_nil))))))) (xs_one (xs_ret (xe_bl))) (xs_nil))
    (xs_one (xs_ret (xe_all hr T.b_all (xa_cons (xe_fz (xo_comp (N := ["sign"]) 1 [] (by rfl) (xw_str (xe_var 0)) (b_name 0) (blk_yes) (fun _ _ _ _ _ _ _ => xe_in hr.units (xe_var 0) (xe_cst T.c_SIGNS)))) (xa_nil)))))
theorem kn_is_number_or_none : Kn P w K mg base "is_number_or_none" 2 3 m_is_number_or_none := by
  have h := xd_ok (P := P) (w := w) (mg := mg) (base := base) (k := 2) (m := b_is_number_or_none) T.f_is_number_or_none sc_is_number_or_none
  exact h fun _ _ _ _ _ _ _ hr _ _ =>
  xs_one (xs_ret (xe_or (xe_isN (xe_var 0) (xe_non)) (xe_one (xe_call (kn_is_whole_within T) (hr.mono (by decide)) (xa_cons (xe_var 0) (xa_cons (xe_int) (xa_cons (xe_sub (xe_var 1) (xe_int)) (xa_nil))))))))
theorem kn_is_row : Kn P w K mg base "is_row" 2 4 m_is_row := by
  have h := xd_ok (P := P) (w := w) (mg := mg) (base := base) (k := 3) (m := b_is_row) T.f_is_row sc_is_row
  exact h fun _ _ _ _ _ _ _ hr _ _ =>
  xs_cons (xs_if (xt_w (xw_or (xt_not (xt_val (xe_isi (tt_tuple _) T.b_isinstance T.b_tuple (by kernel_rfl) (xe_var 0)))) (xw_or1 (xt_ne hr.units (xe_len T.b_len (xa_cons (xe_var 0) (xa_nil))) (xe_int))))) (xs_one (xs_ret (xe_bl))) (xs_nil))
    (xs_cons (xs_if (xt_not (xt_val (xe_call (kn_is_pattern T) (hr.mono (by decide)) (xa_cons (xe_ix (xe_var 0) (xe_int) px) (xa_nil))))) (xs_one (xs_ret (xe_bl))) (xs_nil))
    (xs_one (xs_ret (xe_and (xe_call (kn_is_number_or_none T) (hr.mono (by decide)) (xa_cons (xe_ix (xe_var 0) (xe_int) px) (xa_cons (xe_var 1) (xa_nil)))) (xe_one (xe_call (kn_is_number_or_none T) (hr.mono (by decide)) (xa_cons (xe_ix (xe_var 0) (xe_int) px) (xa_cons (xe_var 1) (xa_nil)))))))))
theorem kn_is_book : Kn P w K mg base "is_book" 2 5 m_is_book := by
  have h := xd_ok (P := P) (w := w) (mg := mg) (base := base) (k := 4) (m := b_is_book) T.f_is_book sc_is_book
  exact h fun _ _ _ _ _ _ _ hr _ _ =>
  xs_cons (xs_if (xt_w (xw_or (xt_not (xt_val (xe_isi (tt_list _) T.b_isinstance T.b_list (by kernel_rfl) (xe_var 0)))) (xw_or1 (xt_gt (xe_len T.b_len (xa_cons (xe_var 0) (xa_nil))) (xe_cst T.c_MOST_ROWS))))) (xs_one (xs_ret (xe_bl))) (xs_nil))
    (xs_one (xs_ret (xe_all hr T.b_all (xa_cons (xe_fz (xo_comp (N := ["row", "doors"]) 1 [1] (by rfl) (xw_list (xe_var 0)) (b_name 0) (blk_yes) (fun _ _ _ _ _ _ _ => xe_call (kn_is_row T) (hr.mono (by decide)) (xa_cons (xe_var 0) (xa_cons (xe_var 1) (xa_nil)))))) (xa_nil)))))
theorem kn_Net_count : KnM P w K mg base "Net" "count" 1 1 m_Net_count := by
  have h := xm_ok (P := P) (w := w) (mg := mg) (base := base) (k := 0) (m := b_Net_count) T.f_Net_count sc_Net_count
  exact h fun _ _ _ _ _ _ _ hr _ _ =>
  xs_one (xs_ret (xe_if (xt_chain op_le op_lt ok_le ok_lt (xe_int) (xe_var 1) (xe_fld T.k_Net (xe_var 0))) (xe_ix (xe_fld T.k_Net (xe_var 0)) (xe_var 1) px) (xe_int)))
theorem kn_is_books : Kn P w K mg base "is_books" 2 6 m_is_books := by
  have h := xd_ok (P := P) (w := w) (mg := mg) (base := base) (k := 5) (m := b_is_books) T.f_is_books sc_is_books
  exact h fun _ _ _ _ _ _ _ hr _ _ =>
  xs_cons (xs_if (xt_w (xw_or (xt_not (xt_val (xe_isi (tt_list _) T.b_isinstance T.b_list (by kernel_rfl) (xe_var 0)))) (xw_or1 (xt_ne hr.units (xe_len T.b_len (xa_cons (xe_var 0) (xa_nil))) (xe_fld T.k_Net (xe_var 1)))))) (xs_one (xs_ret (xe_bl))) (xs_nil))
    (xs_one (xs_ret (xe_all hr T.b_all (xa_cons (xe_fz (xo_comp (N := ["house", "book", "net"]) 2 [1] (by rfl) (xw_enum T.b_enumerate (xa_cons (xe_var 0) (xa_nil))) (b_pair 0 1) (blk_yes) (fun _ _ _ _ _ _ _ => xe_call (kn_is_book T) (hr.mono (by decide)) (xa_cons (xe_var 1) (xa_cons (xe_meth (kn_Net_count T) (hr.mono (by decide)) (xe_var 2) (xa_cons (xe_var 0) (xa_nil))) (xa_nil)))))) (xa_nil)))))
theorem bm_law (f : Addr) (cdv : Value) (A : Around) (outer : List Env) (s : Shared) (H : Hp) (E : XK)
    (hr : Room 7 (A.deeper (PyProof.Rows.envOfC "law" (defScope s_law) s.heap.objs.size f cdv))) (G0 H0 : Hp) : XBM (cxOf CX0 P w K mg base ["_law_script", "_law_counts_here", "_law_net", "_law_books_here", "_law_handed", "_law_k", "_law_cell", "_law_spoiled_here"] "law" (defScope s_law) f cdv A outer s H E).nox (fxB K G0 H0) (defBody s_law) b_law :=
  xs_cons (xs_set 1 sc_law.nd (xe_fz (xo_call (kn_law_counts T) (hr.mono (by decide)) (xa_cons (xe_var 0) (xa_nil)))))
    (xs_cons (xs_set 2 sc_law.nd (xe_make (kn_Net_init T) (hr.mono (by decide)) (xa_cons (xe_var 1) (xa_cons (xe_fz (xo_call (kn_law_wires T) (hr.mono (by decide)) (xa_cons (xe_var 0) (xa_cons (xe_var 1) (xa_nil))))) (xa_nil)))))
    (xs_cons (xs_set 3 sc_law.nd (xe_call (kn_law_books T) (hr.mono (by decide)) (xa_cons (xe_sl (xe_var 0) (xp_some (xe_int)) (xp_some (xe_int))) (xa_cons (xe_var 1) (xa_nil)))))
    (xs_cons (xs_setF (xs_comp (N := ["_law_book"]) 4 1 [] sc_law.nd (by rfl) (xw_list (xe_var 3)) (b_name 0) (blk_yes) (fun _ _ _ _ _ _ _ => xe_fz (xo_list T.b_list (xa_cons (xe_var 0) (xa_nil))))))
    (xs_cons (xs_if (xt_w (xw_or (xt_not (xt_val (xe_call (kn_law_truth T) (hr.mono (by decide)) (xa_cons (xe_call (kn_is_books T) (hr.mono (by decide)) (xa_cons (xe_var 4) (xa_cons (xe_var 2) (xa_nil)))) (xa_cons (xe_bl) (xa_nil)))))) (xw_or1 (xt_ne hr.units (xe_var 4) (xe_var 3))))) (xs_one (xs_ret (xe_bl))) (xs_nil))
    (xs_cons (xs_if (xt_not (xt_val (xe_call (kn_law_truth T) (hr.mono (by decide)) (xa_cons (xe_call (kn_is_books T) (hr.mono (by decide)) (xa_cons (xe_fz (xo_comp (N := ["_law_house"]) 1 [] (by rfl) (xw_list (xe_var 1)) (b_name 0) (blk_yes) (fun _ _ _ _ _ _ _ => xe_fz (xo_lst (xa_nil))))) (xa_cons (xe_var 2) (xa_nil)))) (xa_cons (xe_bl) (xa_nil)))))) (xs_one (xs_ret (xe_bl))) (xs_nil))
    (xs_cons (xs_for PassesOwn.never (xw_enum T.b_enumerate (xa_cons (xe_add (xe_fz (xo_lst (xa_cons (xe_int) (xa_cons (xe_int) (xa_cons (xe_int) (xa_nil)))))) (xe_sl (xe_var 0) (xp_no) (xp_some (xe_int)))) (xa_nil))) (n_tup rfl (n_cons (n_name 5 sc_law.nd) (n_cons (n_name 6 sc_law.nd) (n_nil)))) (xs_cons (xs_set 7 sc_law.nd (xe_call (kn_law_spoiled T) (hr.mono (by decide)) (xa_cons (xe_var 3) (xa_cons (xe_var 1) (xa_cons (xe_call (kn_law_mix T) (hr.mono (by decide)) (xa_cons (xe_var 6) (xa_cons (xe_add (xe_int) (xe_var 5)) (xa_nil)))) (xa_nil))))))
    (xs_one (xs_if (xt_not (xt_val (xe_call (kn_law_truth T) (hr.mono (by decide)) (xa_cons (xe_call (kn_is_books T) (hr.mono (by decide)) (xa_cons (xe_var 7) (xa_cons (xe_var 2) (xa_nil)))) (xa_cons (xe_bl) (xa_nil)))))) (xs_one (xs_ret (xe_bl))) (xs_nil)))))
    (xs_one (xs_ret (xe_bl)))))))))
end
end N03
set_option Elab.async false
set_option linter.all false
set_option maxRecDepth 100000
set_option autoImplicit false
namespace N03
open PySem PySem.Spec L2 L3
theorem bind_ok' {α β : Type} (a : α) (k : α → R β) : (R.ok a).bind k = k a := rfl
theorem seq_nx {a b : MS} {ρ ρ' : Rho} (h : a ρ = .ok (.nx ρ')) : mSeq a b ρ = b ρ' := by simp only [mSeq, h, bind_ok']
theorem call1 {f : List D → R Rt} {a : ME} {ρ : Rho} {x y : D} (ha : a ρ = .ok x) (h : f [x] = .ok (.v y)) : mCall 1 f (mCons a mNil) ρ = .ok y := by
  simp only [mCall, mCons, mNil, ha, bind_ok', List.length_cons, List.length_nil, if_true, h, rtD]
theorem call2 {f : List D → R Rt} {a b : ME} {ρ : Rho} {x z y : D} (ha : a ρ = .ok x) (hb : b ρ = .ok z) (h : f [x, z] = .ok (.v y)) : mCall 2 f (mCons a (mCons b mNil)) ρ = .ok y := by
  simp only [mCall, mCons, mNil, ha, hb, bind_ok', List.length_cons, List.length_nil, if_true, h, rtD]
theorem call3 {f : List D → R Rt} {a b c : ME} {ρ : Rho} {x z w y : D} (ha : a ρ = .ok x) (hb : b ρ = .ok z) (hc : c ρ = .ok w) (h : f [x, z, w] = .ok (.v y)) : mCall 3 f (mCons a (mCons b (mCons c mNil))) ρ = .ok y := by
  simp only [mCall, mCons, mNil, ha, hb, hc, bind_ok', List.length_cons, List.length_nil, if_true, h, rtD]
theorem bin_ok {f : D → D → R D} {a b : ME} {ρ : Rho} {x y z : D} (ha : a ρ = .ok x) (hb : b ρ = .ok y) (h : f x y = .ok z) : mBin f a b ρ = .ok z := by simp only [mBin, ha, hb, bind_ok', h]
theorem mB_ok {a : ME} {ρ : Rho} {c : Bool} (ha : a ρ = .ok (.bl c)) : mB a ρ = .ok c := by simp only [mB, ha, bind_ok', asB]
theorem mNot_ok {a : MT} {ρ : Rho} {c : Bool} (ha : a ρ = .ok c) : mNot a ρ = .ok (!c) := by simp only [mNot, ha, bind_ok']
theorem or_ok {a b : MT} {ρ : Rho} {c d : Bool} (ha : a ρ = .ok c) (hb : c = false → b ρ = .ok d) : mOr a b ρ = .ok (c || d) := by
  cases c
  · simp only [mOr, ha, bind_ok', hb rfl, Bool.false_eq_true, if_false, Bool.false_or]
  · simp only [mOr, ha, bind_ok', if_true, Bool.true_or]
theorem chain_ok {f g : D → D → R D} {a b c : ME} {ρ : Rho} {x y w : D} {k l : Bool} (ha : a ρ = .ok x) (hb : b ρ = .ok y) (hc : c ρ = .ok w) (hf : f x y = .ok (.bl k)) (hg : g y w = .ok (.bl l)) : mChain f g a b c ρ = .ok (.bl (k && l)) := by
  cases k
  · simp only [mChain, ha, hb, hf, bind_ok', asB, Bool.false_eq_true, if_false, Bool.false_and]
  · simp only [mChain, ha, hb, hc, hf, hg, bind_ok', asB, if_true, Bool.true_and]
theorem seq_no {c : MT} {a b : MS} {ρ : Rho} (hc : c ρ = .ok false) : mSeq (mIfS c a mNext) b ρ = b ρ := by
  simp only [mSeq, mIfS, hc, bind_ok', mNext]; rfl
theorem ret_ok {e : ME} {ρ : Rho} {d : D} (he : e ρ = .ok d) : mRet e ρ = .ok (.rt d) := by simp only [mRet, he, bind_ok']
theorem for_eq {mi : MA} {set : D → Rho → R Rho} {body : MS} {ds : List D} {ρ : Rho} (hi : mi ρ = .ok ds) : mFor mi set body ρ = forGo set body ds ρ := by rw [mFor, hi]; rfl
theorem for_nx {mi : MA} {set : D → Rho → R Rho} {body : MS} {ds : List D} {ρ ρ' : Rho} (hi : mi ρ = .ok ds) (h : forGo set body ds ρ = .ok (.nx ρ')) : mFor mi set body ρ = .ok (.nx ρ') := by rw [for_eq hi]; exact h
theorem len_ok {a : ME} {ρ : Rho} {xs : List D} (ha : a ρ = .ok (.lst xs)) : mCB lenD (mCons a mNil) ρ = .ok (.int (xs.length : Nat)) := by
  simp only [mCB, mCons, mNil, ha, bind_ok', lenD]
noncomputable def intsD' (cs : List Nat) : List D := cs.map fun (c : Nat) => D.int (c : Int)
noncomputable abbrev Dr := Nat × Nat
noncomputable def drD (d : Dr) : D := .tup [.int (d.1 : Nat), .int (d.2 : Nat)]
noncomputable def wrD (w : Dr × Dr) : D := .tup [drD w.1, drD w.2]
noncomputable def ends (ws : List (Dr × Dr)) : List Dr := (ws.map fun w => [w.1, w.2]).flatten
noncomputable def drs (cs : List Nat) (h : Nat) : List Dr := (List.range (cs.getD h 0)).map fun k => (h, k)
noncomputable def allD (cs : List Nat) (n : Nat) : List Dr := (List.range n).flatMap (drs cs)
theorem allD_succ (cs : List Nat) (n : Nat) : allD cs (n + 1) = allD cs n ++ drs cs n := by
  unfold allD
  rw [List.range_succ, List.flatMap_append]
  simp
theorem mem_drs {cs : List Nat} {h : Nat} {d : Dr} : d ∈ drs cs h ↔ d.1 = h ∧ d.2 < cs.getD h 0 := by
  unfold drs
  rw [List.mem_map]
  constructor
  · rintro ⟨k, hk, rfl⟩
    exact ⟨rfl, List.mem_range.mp hk⟩
  · rintro ⟨rfl, h2⟩
    exact ⟨d.2, List.mem_range.mpr h2, rfl⟩
theorem mem_allD {cs : List Nat} {n : Nat} {d : Dr} : d ∈ allD cs n ↔ d.1 < n ∧ d.2 < cs.getD d.1 0 := by
  unfold allD
  rw [List.mem_flatMap]
  constructor
  · rintro ⟨h, hh, hd⟩
    obtain ⟨rfl, h2⟩ := mem_drs.mp hd
    exact ⟨List.mem_range.mp hh, h2⟩
  · rintro ⟨h1, h2⟩
    exact ⟨d.1, List.mem_range.mpr h1, mem_drs.mpr ⟨rfl, h2⟩⟩
theorem drs_nodup (cs : List Nat) (h : Nat) : (drs cs h).Nodup := by
  unfold drs
  rw [List.nodup_iff_pairwise_ne, List.pairwise_map]
  exact List.nodup_range.imp fun hab z => hab (Prod.mk.inj z).2
theorem allD_nodup (cs : List Nat) : ∀ n, (allD cs n).Nodup
  | 0 => List.nodup_nil
  | n + 1 => by
    rw [allD_succ]
    refine List.nodup_append.mpr ⟨allD_nodup cs n, drs_nodup cs n, fun a ha b hb z => ?_⟩
    subst z
    have h1 := (mem_allD.mp ha).1
    have h2 := (mem_drs.mp hb).1
    omega
theorem getD_le {cs : List Nat} (h : ∀ c ∈ cs, c ≤ 4) (k : Nat) : cs.getD k 0 ≤ 4 := by
  rw [List.getD_eq_getElem?_getD]
  cases e : cs[k]? with
  | none => simp
  | some c => simpa using h c (List.mem_of_getElem? e)
theorem drs_len {cs : List Nat} (h : ∀ c ∈ cs, 1 ≤ c ∧ c ≤ 4) (k : Nat) : (drs cs k).length ≤ 4 := by
  unfold drs
  rw [List.length_map, List.length_range]
  exact getD_le (fun c hc => (h c hc).2) k
theorem allD_len {cs : List Nat} (h : ∀ c ∈ cs, 1 ≤ c ∧ c ≤ 4) : ∀ n, (allD cs n).length ≤ 4 * n
  | 0 => by simp [allD]
  | n + 1 => by
    rw [allD_succ, List.length_append]
    have := allD_len h n
    have := drs_len h n
    omega
theorem cs_at {cs : List Nat} {h : Nat} (hh : h < cs.length) : (intsD' cs)[h]? = some (.int (cs.getD h 0 : Nat)) := by
  simp [intsD', List.getElem?_eq_getElem hh, List.getD_eq_getElem?_getD]
structure NetOk (cs : List Nat) (ws : List (Dr × Dr)) : Prop where
  h1 : 1 ≤ cs.length
  h6 : cs.length ≤ 6
  c : ∀ c ∈ cs, 1 ≤ c ∧ c ≤ 4
  nd : (ends ws).Nodup
  sub : ∀ d ∈ ends ws, d ∈ allD cs cs.length
  out : ∃ d, d ∈ allD cs cs.length ∧ d ∉ ends ws
  few : ws.length < 100
theorem head_mem {cs : List Nat} (h1 : 1 ≤ cs.length) (c : ∀ c ∈ cs, 1 ≤ c ∧ c ≤ 4) : ((0, 0) : Dr) ∈ allD cs cs.length := by
  refine mem_allD.mpr ⟨h1, ?_⟩
  cases cs with
  | nil => simp at h1
  | cons x r => exact (c x (List.mem_cons_self ..)).1
noncomputable def keyK (d : Dr) : List Key := [.inl (d.1 : Nat), .inl (d.2 : Nat)]
theorem keyK_inj {a b : Dr} (h : keyK a = keyK b) : a = b := by
  obtain ⟨a1, a2⟩ := a
  obtain ⟨b1, b2⟩ := b
  simp only [keyK, List.cons.injEq, Sum.inl.injEq, and_true] at h
  have h1 : a1 = b1 := by omega
  have h2 : a2 = b2 := by omega
  rw [h1, h2]
theorem key_of_dr (d : Dr) : keyT (drD d) = some (keyK d) := rfl
noncomputable def ksOf (ws : List (Dr × Dr)) : List (List Key) := (ends ws).map keyK
noncomputable def vsOf (ws : List (Dr × Dr)) : List D := (ws.map fun w => [drD w.2, drD w.1]).flatten
theorem ks_any (ws : List (Dr × Dr)) (d : Dr) : (ksOf ws).any (fun x => decide (x = keyK d)) = decide (d ∈ ends ws) := by
  unfold ksOf
  rw [List.any_map]
  by_cases h : d ∈ ends ws
  · rw [decide_eq_true h, List.any_eq_true]
    exact ⟨d, h, by simp⟩
  · rw [decide_eq_false h, List.any_eq_false]
    intro x hx
    simp only [Function.comp, decide_eq_true_eq]
    exact fun z => h (keyK_inj z ▸ hx)
theorem ends_len (ws : List (Dr × Dr)) : (ends ws).length = 2 * ws.length := by
  induction ws with
  | nil => rfl
  | cons w r ih => simp only [ends, List.map_cons, List.flatten_cons, List.length_append, List.length_cons, List.length_nil] at ih ⊢; omega
theorem dput_ok {i : Nat} {mk mv : ME} {ρ : Rho} {ks : List (List Key)} {ds : List D} {k v : D} {kk : List Key} (hs : ρ[i]? = some (.ob (.dT ks ds))) (hk : mk ρ = .ok k) (hv : mv ρ = .ok v) (ek : keyT k = some kk) (hn : ks.any (fun x => decide (x = kk)) = false) (hl : ks.length < 1000000) :
    mDPut i mk mv ρ = .ok (.nx (ρ.set i (.ob (.dT (ks ++ [kk]) (ds ++ [v]))))) := by
  simp only [mDPut, hv, hs, hk, bind_ok', ek, putD, if_pos (And.intro hn hl)]
theorem any_snoc {ks : List (List Key)} {a b : List Key} (h : ks.any (fun x => decide (x = b)) = false) (ne : a ≠ b) : (ks ++ [a]).any (fun x => decide (x = b)) = false := by
  rw [List.any_append, h]; simp [ne]
theorem ks_snoc (ws : List (Dr × Dr)) (w : Dr × Dr) : ksOf (ws ++ [w]) = ksOf ws ++ [keyK w.1] ++ [keyK w.2] := by simp [ksOf, ends]
theorem vs_snoc (ws : List (Dr × Dr)) (w : Dr × Dr) : vsOf (ws ++ [w]) = vsOf ws ++ [drD w.2] ++ [drD w.1] := by simp [vsOf]
theorem next_new {P : List (Dr × Dr)} {w : Dr × Dr} {r : List (Dr × Dr)} (nd : (ends (P ++ w :: r)).Nodup) : w.1 ∉ ends P ∧ w.2 ∉ ends P ∧ w.1 ≠ w.2 := by
  have e : ends (P ++ w :: r) = ends P ++ (w.1 :: w.2 :: ends r) := by simp [ends]
  rw [e] at nd
  obtain ⟨_, n2, n3⟩ := List.nodup_append.mp nd
  refine ⟨fun z => n3 _ z w.1 (by simp) rfl, fun z => n3 _ z w.2 (by simp) rfl, fun z => ?_⟩
  rw [List.nodup_cons] at n2
  exact n2.1 (by rw [z]; simp)
theorem within_ok (i lo hi : Int) : m_is_whole_within [.int i, .int lo, .int hi] = .ok (.v (.bl (decide (lo ≤ i) && decide (i ≤ hi)))) := by
  have w : m_is_whole [.int i] = .ok (.v (.bl true)) := rfl
  simp [m_is_whole_within, b_is_whole_within, w]
  by_cases h : lo ≤ i <;> simp [h]
theorem dam_in {cs : List Nat} {d : Dr} (h : d ∈ allD cs cs.length) : m_is_door_among [.tup (intsD' cs), drD d] = .ok (.v (.bl true)) := by
  obtain ⟨h1, h2⟩ := mem_allD.mp h
  have p : m_is_pair [drD d] = .ok (.v (.bl true)) := rfl
  have e0 : ixD (drD d) (.int 0) = .ok (.int d.1) := rfl
  have e1 : ixD (drD d) (.int 1) = .ok (.int d.2) := rfl
  have e2 : ixD (.tup (intsD' cs)) (.int (d.1 : Nat)) = .ok (.int (cs.getD d.1 0 : Nat)) := ix_t (cs_at h1)
  have l : (intsD' cs).length = cs.length := by simp [intsD']
  simp only [List.getD_eq_getElem?_getD] at h2 e2
  simp [m_is_door_among, b_is_door_among, p, e0, e1, e2, l, within_ok, show ¬ ((cs.length : Int) - 1 < (d.1 : Nat)) by omega]
  omega
theorem dr_ne {a b : Dr} (h : a ≠ b) : eqR false (drD a) (drD b) = .ok (.bl true) := by
  show R.ok (D.bl (!(((a.1 : Nat) : Int) == ((b.1 : Nat) : Int) && (((a.2 : Nat) : Int) == ((b.2 : Nat) : Int) && true)))) = _
  by_cases h1 : a.1 = b.1
  · by_cases h2 : a.2 = b.2
    · exact absurd (Prod.ext h1 h2) h
    · rw [beq_eq_false_iff_ne.mpr (show ((a.2 : Nat) : Int) ≠ ((b.2 : Nat) : Int) by omega)]; simp
  · rw [beq_eq_false_iff_ne.mpr (show ((a.1 : Nat) : Int) ≠ ((b.1 : Nat) : Int) by omega)]; simp
theorem wire_ok {cs : List Nat} {w : Dr × Dr} (h1 : w.1 ∈ allD cs cs.length) (h2 : w.2 ∈ allD cs cs.length) (ne : w.1 ≠ w.2) : m_is_wire_among [.tup (intsD' cs), wrD w] = .ok (.v (.bl true)) := by
  have p : m_is_pair [wrD w] = .ok (.v (.bl true)) := rfl
  have e0 : ixD (wrD w) (.int 0) = .ok (drD w.1) := rfl
  have e1 : ixD (wrD w) (.int 1) = .ok (drD w.2) := rfl
  simp [m_is_wire_among, b_is_wire_among, p, e0, e1, dam_in h1, dam_in h2, dr_ne ne]
noncomputable def fBody : MS := (mSeq (mIfS (mNot (mB (mCall 2 m_is_wire_among (mCons (mVar 0) (mCons (mVar 3) (mNil)))))) (mBad) (mNext))
    (mSeq (mIfS (mBorT (mOr (mB (mBin (dinD true) (mBin ixD (mVar 3) (mC (.int 0))) (mVar 2))) (mB (mBin (dinD true) (mBin ixD (mVar 3) (mC (.int 1))) (mVar 2))))) (mBad) (mNext))
    (mSeq (mDPut 2 (mBin ixD (mVar 3) (mC (.int 0))) (mBin ixD (mVar 3) (mC (.int 1))))
    (mDPut 2 (mBin ixD (mVar 3) (mC (.int 1))) (mBin ixD (mVar 3) (mC (.int 0)))))))
theorem f_loop (cs : List Nat) (W : D) : ∀ (r P : List (Dr × Dr)), (ends (P ++ r)).Nodup → (∀ d ∈ ends r, d ∈ allD cs cs.length) → (P ++ r).length < 1000 → ∀ s3 : Sl, ∃ t3, forGo (setV 3) fBody (r.map wrD) [.fz (.tup (intsD' cs)), .fz W, .ob (.dT (ksOf P) (vsOf P)), s3] = .ok (.nx [.fz (.tup (intsD' cs)), .fz W, .ob (.dT (ksOf (P ++ r)) (vsOf (P ++ r))), t3])
  | [], P, _, _, _, s3 => ⟨s3, by rw [List.append_nil]; rfl⟩
  | w :: r, P, nd, sub, hl, s3 => by
    obtain ⟨n1, n2, n3⟩ := next_new nd
    have lk : (ksOf P).length < 10000 := by
      unfold ksOf
      rw [List.length_map, ends_len]
      rw [List.length_append] at hl; omega
    have e0 : setV 3 (wrD w) [.fz (.tup (intsD' cs)), .fz W, .ob (.dT (ksOf P) (vsOf P)), s3] = .ok [.fz (.tup (intsD' cs)), .fz W, .ob (.dT (ksOf P) (vsOf P)), .fz (wrD w)] := rfl
    have c1 : mNot (mB (mCall 2 m_is_wire_among (mCons (mVar 0) (mCons (mVar 3) (mNil))))) [.fz (.tup (intsD' cs)), .fz W, .ob (.dT (ksOf P) (vsOf P)), .fz (wrD w)] = .ok false := mNot_ok (c := true) (mB_ok (call2 rfl rfl (wire_ok (sub _ (by simp [ends])) (sub _ (by simp [ends])) n3)))
    have k1 : dinD true (drD w.1) (.dT (ksOf P) (vsOf P)) = .ok (.bl false) := by
      simp only [dinD, key_of_dr, ks_any, decide_eq_false n1, if_true]
    have k2 : dinD true (drD w.2) (.dT (ksOf P) (vsOf P)) = .ok (.bl false) := by
      simp only [dinD, key_of_dr, ks_any, decide_eq_false n2, if_true]
    have c2 : mBorT (mOr (mB (mBin (dinD true) (mBin ixD (mVar 3) (mC (.int 0))) (mVar 2))) (mB (mBin (dinD true) (mBin ixD (mVar 3) (mC (.int 1))) (mVar 2)))) [.fz (.tup (intsD' cs)), .fz W, .ob (.dT (ksOf P) (vsOf P)), .fz (wrD w)] = .ok (false || false) := by
      unfold mBorT
      exact or_ok (mB_ok (bin_ok (x := drD w.1) (y := .dT (ksOf P) (vsOf P)) rfl rfl k1)) fun _ => mB_ok (bin_ok (x := drD w.2) (y := .dT (ksOf P) (vsOf P)) rfl rfl k2)
    have a1 := dput_ok (i := 2) (mk := mBin ixD (mVar 3) (mC (.int 0))) (mv := mBin ixD (mVar 3) (mC (.int 1))) (ρ := [.fz (.tup (intsD' cs)), .fz W, .ob (.dT (ksOf P) (vsOf P)), .fz (wrD w)]) rfl rfl rfl (key_of_dr w.1) (by rw [ks_any]; exact decide_eq_false n1) (by omega)
    have a2 := dput_ok (i := 2) (mk := mBin ixD (mVar 3) (mC (.int 1))) (mv := mBin ixD (mVar 3) (mC (.int 0))) (ρ := [.fz (.tup (intsD' cs)), .fz W, .ob (.dT (ksOf P ++ [keyK w.1]) (vsOf P ++ [drD w.2])), .fz (wrD w)]) rfl rfl rfl (key_of_dr w.2) (any_snoc (by rw [ks_any]; exact decide_eq_false n2) (fun z => n3 (keyK_inj z))) (by rw [List.length_append, List.length_singleton]; omega)
    have e1 : fBody [.fz (.tup (intsD' cs)), .fz W, .ob (.dT (ksOf P) (vsOf P)), .fz (wrD w)] = .ok (.nx [.fz (.tup (intsD' cs)), .fz W, .ob (.dT (ksOf (P ++ [w])) (vsOf (P ++ [w]))), .fz (wrD w)]) := by
      unfold fBody
      rw [seq_no c1, seq_no c2, seq_nx a1, ks_snoc, vs_snoc]
      exact a2
    rw [List.map_cons, forGo, e0, bind_ok', e1, bind_ok']
    have q : P ++ w :: r = (P ++ [w]) ++ r := by simp
    rw [q] at nd hl ⊢
    exact f_loop cs W r (P ++ [w]) nd (fun d hd => sub d (by simp only [ends, List.map_cons, List.flatten_cons, List.mem_append] at hd ⊢; exact .inr hd)) hl _
theorem far_ok (cs : List Nat) (ws : List (Dr × Dr)) (h : NetOk cs ws) : m_far_doors [.tup (intsD' cs), .tup (ws.map wrD)] = .ok (.v (.dT (ksOf ws) (vsOf ws))) := by
  show (b_far_doors [.fz (.tup (intsD' cs)), .fz (.tup (ws.map wrD)), .un, .un]).bind outD = _
  have s1 : mSetD 2 [.fz (.tup (intsD' cs)), .fz (.tup (ws.map wrD)), .un, .un] = .ok (.nx [.fz (.tup (intsD' cs)), .fz (.tup (ws.map wrD)), .ob (.dT (ksOf []) (vsOf [])), .un]) := rfl
  obtain ⟨t3, e⟩ := f_loop cs (.tup (ws.map wrD)) ws [] (by simpa using h.nd) h.sub (by have := h.few; simp; omega) .un
  have f := for_nx (mi := mIT (mVar 1)) (ρ := [.fz (.tup (intsD' cs)), .fz (.tup (ws.map wrD)), .ob (.dT (ksOf []) (vsOf [])), .un]) rfl e
  unfold fBody at f
  unfold b_far_doors
  rw [seq_nx s1, seq_nx f]
  rfl
noncomputable def eltW : ME := (mCall 3 m_is_whole_within (mCons (mVar 0) (mCons (mC (.int 1)) (mCons (mC c_MOST_DOORS) (mNil)))))
theorem comp_true : ∀ (cs : List Nat), (∀ c ∈ cs, 1 ≤ c ∧ c ≤ 4) → ∀ (ws : List D) (s0 : Sl), ws.length + cs.length < 1000 → compGo (setV 0) mYes eltW (intsD' cs) [s0] ws = .ok (ws ++ cs.map fun _ => D.bl true)
  | [], _, ws, s0, _ => by simp [compGo, intsD']
  | c :: cs, h, ws, s0, hl => by
    simp only [List.length_cons] at hl
    obtain ⟨c1, c4⟩ := h c (List.mem_cons_self ..)
    have e0 : setV 0 (.int (c : Nat)) [s0] = .ok [.fz (.int (c : Nat))] := rfl
    have e1 : eltW [.fz (.int (c : Nat))] = .ok (.bl true) := by
      have z := within_ok (c : Nat) 1 4
      rw [decide_eq_true (by omega), decide_eq_true (by omega)] at z
      exact call3 rfl rfl rfl z
    show compGo (setV 0) mYes eltW (.int (c : Nat) :: intsD' cs) [s0] ws = _
    rw [compGo, e0, bind_ok']
    simp only [mYes, bind_ok', e1, if_true, if_pos (show ws.length < 1000000 by omega)]
    rw [comp_true cs (fun c h' => h c (List.mem_cons_of_mem _ h')) _ _ (by rw [List.length_append, List.length_singleton]; omega), List.append_assoc]
    rfl
theorem bools_true : ∀ cs : List Nat, boolsD (cs.map fun _ => D.bl true) = some (cs.map fun _ => true)
  | [] => rfl
  | c :: cs => by simp only [List.map_cons, boolsD, bools_true cs, Option.map_some]
theorem counts_ok (cs : List Nat) (h1 : 1 ≤ cs.length) (h6 : cs.length ≤ 6) (h : ∀ c ∈ cs, 1 ≤ c ∧ c ≤ 4) : m_are_counts [.lst (intsD' cs)] = .ok (.v (.bl true)) := by
  show (b_are_counts [.fz (.lst (intsD' cs))]).bind outD = _
  have ll : mCB lenD (mCons (mVar 0) mNil) [.fz (.lst (intsD' cs))] = .ok (.int (cs.length : Nat)) := by
    rw [len_ok (xs := intsD' cs) rfl]; simp [intsD']
  have c1 : mOr (mNot (mB (mUn (isiD "list") (mVar 0)))) (mNot (mB (mChain leD leD (mC (.int 1)) (mCB lenD (mCons (mVar 0) (mNil))) (mC c_MOST_HOUSES)))) [.fz (.lst (intsD' cs))] = .ok (false || false) := by
    refine or_ok rfl fun _ => ?_
    have z := chain_ok (f := leD) (g := leD) (a := mC (.int 1)) (c := mC c_MOST_HOUSES) (ρ := [.fz (.lst (intsD' cs))]) rfl ll rfl (k := true) (l := true) (by show R.ok (D.bl (decide ((1 : Int) ≤ (cs.length : Nat)))) = _; rw [decide_eq_true (by omega)]) (by show R.ok (D.bl (decide (((cs.length : Nat) : Int) ≤ 6))) = _; rw [decide_eq_true (by omega)])
    exact mNot_ok (c := true) (mB_ok z)
  have cc : mComp 1 [] (mIL (mVar 0)) (setV 0) (mYes) eltW [.fz (.lst (intsD' cs))] = .ok (cs.map fun _ => D.bl true) := by
    show noX (compGo (setV 0) mYes eltW (intsD' cs) [.un] []) = _
    rw [comp_true cs h _ _ (by simp; omega)]
    rfl
  have e : mCB L3.allD (mCons (mFz (mComp 1 [] (mIL (mVar 0)) (setV 0) (mYes) eltW)) (mNil)) [.fz (.lst (intsD' cs))] = .ok (.bl true) := by
    simp only [mCB, mCons, mNil, mFz, cc, bind_ok', L3.allD, bools_true]
    congr 2
    rw [List.all_map]
    simp
  unfold eltW at e
  unfold b_are_counts
  rw [seq_no c1, ret_ok e]
  rfl
theorem then_ok {a b : MN} {ρ ρ1 : Rho} (h : a ρ = .ok ρ1) : mThen a b ρ = b ρ1 := by simp only [mThen, h, bind_ok']
theorem vs_noIns : ∀ ws : List (Dr × Dr), noInsL (vsOf ws) = true
  | [] => rfl
  | w :: ws => by
    show noInsL (drD w.2 :: drD w.1 :: vsOf ws) = true
    simp only [noInsL, vs_noIns ws]; rfl
theorem init_ok (cs : List Nat) (ws : List (Dr × Dr)) (h : NetOk cs ws) : m_Net_init [.lst (intsD' cs), .lst (ws.map wrD)] = .ok (["many", "counts", "joined", "far"], [.int (cs.length : Nat), .tup (intsD' cs), .tup (ws.map wrD), .dT (ksOf ws) (vsOf ws)]) := by
  let r (ns : List Str) (ds : List D) : Rho := [.ob (.ins "Net" ns ds), .fz (.lst (intsD' cs)), .fz (.lst (ws.map wrD))]
  have g1 : mGuard (mNot (mB (mCall 1 m_are_counts (mCons (mVar 1) (mNil))))) (r [] []) = .ok (r [] []) := by
    have z : mNot (mB (mCall 1 m_are_counts (mCons (mVar 1) (mNil)))) (r [] []) = .ok false := mNot_ok (c := true) (mB_ok (call1 rfl (counts_ok cs h.h1 h.h6 h.c)))
    simp only [mGuard, z, bind_ok', Bool.false_eq_true, if_false]
  have g2 : mGuard (mNot (mB (mUn (isiD "list") (mVar 2)))) (r [] []) = .ok (r [] []) := rfl
  have f1 : mFldSet "Net" "many" (mCB lenD (mCons (mVar 1) (mNil))) (r [] []) = .ok (r ["many"] [.int (cs.length : Nat)]) := by
    have ll : mCB lenD (mCons (mVar 1) mNil) (r [] []) = .ok (.int (cs.length : Nat)) := by
      rw [len_ok (xs := intsD' cs) rfl]; simp [intsD']
    rw [mFldSet, ll]; rfl
  have f2 : mFldSet "Net" "counts" (mCB tupleD (mCons (mVar 1) (mNil))) (r ["many"] [.int (cs.length : Nat)]) = .ok (r ["many", "counts"] [.int (cs.length : Nat), .tup (intsD' cs)]) := rfl
  have f3 : mFldSet "Net" "joined" (mCB tupleD (mCons (mVar 2) (mNil))) (r ["many", "counts"] [.int (cs.length : Nat), .tup (intsD' cs)]) = .ok (r ["many", "counts", "joined"] [.int (cs.length : Nat), .tup (intsD' cs), .tup (ws.map wrD)]) := rfl
  have f4 : mFldSet "Net" "far" (mBorI (mCall 2 m_far_doors (mCons (mUn (fldD "Net" "counts") (mVar 0)) (mCons (mUn (fldD "Net" "joined") (mVar 0)) (mNil))))) (r ["many", "counts", "joined"] [.int (cs.length : Nat), .tup (intsD' cs), .tup (ws.map wrD)]) = .ok (r ["many", "counts", "joined", "far"] [.int (cs.length : Nat), .tup (intsD' cs), .tup (ws.map wrD), .dT (ksOf ws) (vsOf ws)]) := by
    have z : mBorI (mCall 2 m_far_doors (mCons (mUn (fldD "Net" "counts") (mVar 0)) (mCons (mUn (fldD "Net" "joined") (mVar 0)) (mNil)))) (r ["many", "counts", "joined"] [.int (cs.length : Nat), .tup (intsD' cs), .tup (ws.map wrD)]) = .ok (.dT (ksOf ws) (vsOf ws)) := by
      have y : mCall 2 m_far_doors (mCons (mUn (fldD "Net" "counts") (mVar 0)) (mCons (mUn (fldD "Net" "joined") (mVar 0)) (mNil))) (frzA (r ["many", "counts", "joined"] [.int (cs.length : Nat), .tup (intsD' cs), .tup (ws.map wrD)])) = .ok (.dT (ksOf ws) (vsOf ws)) := call2 (x := .tup (intsD' cs)) (z := .tup (ws.map wrD)) rfl rfl (far_ok cs ws h)
      have n : noIns (.dT (ksOf ws) (vsOf ws)) = true ∧ onlyIns (r ["many", "counts", "joined"] [.int (cs.length : Nat), .tup (intsD' cs), .tup (ws.map wrD)]) = true := ⟨by simp only [noIns]; exact vs_noIns ws, rfl⟩
      simp only [mBorI, y, bind_ok', if_pos n]
    rw [mFldSet, z]; rfl
  show outI "Net" (b_Net_init (r [] [])) = _
  unfold b_Net_init
  rw [then_ok g1, then_ok g2, then_ok f1, then_ok f2, then_ok f3, f4]
  rfl
end N03
set_option Elab.async false
set_option linter.all false
set_option maxRecDepth 100000
set_option autoImplicit false
namespace N03
open PySem PySem.Spec L2 L3
theorem cell_ok (ns : List Int) (k : Nat) : ∃ c : Int, m_law_cell_at [.scr (ns.map D.int), .int k] = .ok (.v (.int c)) := by
  by_cases h : k < ns.length
  · refine ⟨ns[k], ?_⟩
    have e : ixD (.scr (ns.map D.int)) (.int (k : Int)) = .ok (.int ns[k]) := ix_s (by simp [h])
    simp [m_law_cell_at, b_law_cell_at, h, e]
  · exact ⟨0, by simp [m_law_cell_at, b_law_cell_at, h]⟩
theorem mix_ok (c : Int) (k : Nat) (hk : k < 1000) : ∃ y : Int, m_law_mix [.int c, .int k] = .ok (.v (.int y)) := by
  have h1 : (2 : Int) * (k : Int) * (k : Int) ≤ 2000000 := by
    have : k * k ≤ 1000 * 1000 := Nat.mul_le_mul (by omega) (by omega)
    have e : (2 : Int) * (k : Int) * (k : Int) = 2 * ((k * k : Nat) : Int) := by rw [Int.natCast_mul, Int.mul_assoc]
    rw [e]; omega
  have h0 : 0 ≤ (2 : Int) * (k : Int) * (k : Int) := Int.mul_nonneg (by omega) (by omega)
  simp (disch := first | omega | (simp; done) | (simp; omega)) [m_law_mix, b_law_mix, pow_10_30]
theorem counts_made (ns : List Int) : ∃ cs : List Nat, (1 ≤ cs.length ∧ cs.length ≤ 6) ∧ (∀ c ∈ cs, 1 ≤ c ∧ c ≤ 4) ∧ m_law_counts [.scr (ns.map D.int)] = .ok (.o (intsD' cs)) := by
  suffices h : Ends (m_law_counts [.scr (ns.map D.int)]) fun b => ∃ cs : List Nat, (1 ≤ cs.length ∧ cs.length ≤ 6) ∧ (∀ c ∈ cs, 1 ≤ c ∧ c ≤ 4) ∧ b = .o (intsD' cs) by
    obtain ⟨b, e, cs, h1, h2, rfl⟩ := h
    exact ⟨cs, h1, h2, e⟩
  obtain ⟨c0, e0⟩ := cell_ok ns 0
  obtain ⟨c1, e1⟩ := cell_ok ns 1
  have e0' : m_law_cell_at [.scr (ns.map D.int), .int 0] = .ok (.v (.int c0)) := e0
  have e1' : m_law_cell_at [.scr (ns.map D.int), .int 1] = .ok (.v (.int c1)) := e1
  obtain ⟨y, ey⟩ := mix_ok c0 1 (by decide)
  have ey' : m_law_mix [.int c0, .int 1] = .ok (.v (.int y)) := ey
  obtain ⟨m, hm, em⟩ := nat_mod y (n := 6) (by decide)
  have em' : (1 : Int) + y % 6 = ((m + 1 : Nat) : Int) := by have : y % 6 = (m : Int) := em; omega
  have ex : ∀ k : Nat, ∃ c : Nat, (1 ≤ c ∧ c ≤ 4) ∧ (k < 10 → ∃ z : Int, m_law_mix [.int c1, .int (3 + (k : Int))] = .ok (.v (.int z)) ∧ 1 + z % 4 = (c : Int)) := fun k => by
    by_cases hk : k < 10
    · obtain ⟨z, ez⟩ := mix_ok c1 (3 + k) (by omega)
      obtain ⟨q, hq, eq⟩ := nat_mod z (n := 4) (by decide)
      exact ⟨1 + q, by omega, fun _ => ⟨z, by rw [← ez]; simp, by have : z % 4 = (q : Int) := eq; omega⟩⟩
    · exact ⟨1, by omega, fun h => absurd h hk⟩
  let cf : Nat → Nat := fun k => (ex k).choose
  have cf1 : ∀ k, 1 ≤ cf k ∧ cf k ≤ 4 := fun k => (ex k).choose_spec.1
  have cf2 : ∀ k : Nat, k < 10 → ∃ z : Int, m_law_mix [.int c1, .int (3 + (k : Int))] = .ok (.v (.int z)) ∧ 1 + z % 4 = (cf k : Int) := fun k => (ex k).choose_spec.2
  simp (disch := first | omega | (simp; done) | (simp; omega)) [m_law_counts, b_law_counts, e0', ey', em', -Int.natCast_add]
  refine ends_compR (m + 1) (fun k => .int (cf k : Int)) (by simp [show m + 1 < 1000000 by omega, -Int.natCast_add]) (by omega) (fun k hk => ?_) ?_
  · obtain ⟨z, e2, e3⟩ := cf2 k (by omega)
    simp [e1', e2, e3]
  · simp
    refine ⟨(List.range (m + 1)).map cf, ⟨by simp, by simp; omega⟩, fun c hc => ?_, by simp [intsD']⟩
    obtain ⟨k, _, rfl⟩ := List.mem_map.mp hc
    exact cf1 k
theorem doors_made {cs : List Nat} (h6 : cs.length ≤ 6) (cc : ∀ c ∈ cs, 1 ≤ c ∧ c ≤ 4) : m_law_doors [.lst (intsD' cs)] = .ok (.o ((allD cs cs.length).map drD)) := by
  apply Ends.done
  have lcs : (intsD' cs).length = cs.length := by simp [intsD']
  simp (disch := first | omega | (simp; done) | (simp; omega)) [m_law_doors, b_law_doors]
  refine ends_forR cs.length (fun j ρ => ∃ s2, ρ = [.fz (.lst (intsD' cs)), .ow ((allD cs j).map drD), s2]) (by simp [lcs, show cs.length < 1000000 by omega]) ⟨.un, by simp [allD]⟩ ?_ ?_
  · rintro j _ hj ⟨s5, rfl⟩
    have e3 : ixD (.lst (intsD' cs)) (.int (j : Int)) = .ok (.int (cs.getD j 0 : Nat)) := ix_l (cs_at hj)
    have l4 := getD_le (fun c h => (cc c h).2) j
    simp
    refine ends_compR (cs.getD j 0) (fun k => drD (j, k)) (by simp only [List.getD_eq_getElem?_getD] at e3 l4; simp [e3, show cs[j]?.getD 0 < 1000000 by omega]) (by omega) (fun k hk => by simp [drD]) ?_
    have ll := allD_len cc j
    simp only [List.getD_eq_getElem?_getD] at l4 ⊢
    simp [show (allD cs j).length + cs[j]?.getD 0 ≤ 1000000 by omega]
    rw [allD_succ]
    simp [drs]
  · rintro _ ⟨s5, rfl⟩
    simp
noncomputable abbrev Nd := Int × Dr
noncomputable def ndD (p : Nd) : D := .tup [.int p.1, drD p.2]
noncomputable def ndK (p : Nd) : Int × Int × Int := (p.1, (p.2.1 : Int), (p.2.2 : Int))
noncomputable def unK (k : Int × Int × Int) : Nd := (k.1, (k.2.1.toNat, k.2.2.toNat))
theorem un_nd (p : Nd) : unK (ndK p) = p := by simp [unK, ndK]
theorem kaDs_ok : ∀ ps : List Nd, kaDs (ps.map ndD) = some (ps.map ndK)
  | [] => rfl
  | p :: ps => by simp only [List.map_cons, kaDs, kaDs_ok ps]; rfl
theorem sort_ok (ps : List Nd) (h : ps.length < 64) : ∃ qs : List Nd, qs.Perm ps ∧ sortA [.lst (ps.map ndD)] = .ok (qs.map ndD) := by
  refine ⟨(LT.srtA (ps.map ndK)).map unK, ?_, ?_⟩
  · refine ((LT.srtA_perm (ps.map ndK)).map unK).trans ?_
    rw [List.map_map, show unK ∘ ndK = id from funext un_nd, List.map_id]
  · have hl : (ps.map ndD).length < 64 := by simpa using h
    simp only [sortA, if_pos hl, kaDs_ok]
    congr 1
    rw [List.map_map]
    refine List.map_congr_left fun k hk => ?_
    obtain ⟨p, _, rfl⟩ := List.mem_map.mp ((LT.srtA_perm (ps.map ndK)).mem_iff.mp hk)
    simp only [Function.comp, un_nd]
    rfl
noncomputable def pairUp (l : List Dr) (n : Nat) : List (Dr × Dr) := (List.range n).map fun k => (l.getD (2 * k) (0, 0), l.getD (2 * k + 1) (0, 0))
theorem ends_pairUp (l : List Dr) : ∀ n, 2 * n ≤ l.length → ends (pairUp l n) = l.take (2 * n)
  | 0, _ => by simp [pairUp, ends]
  | n + 1, h => by
    have ih := ends_pairUp l n (by omega)
    have e : pairUp l (n + 1) = pairUp l n ++ [(l.getD (2 * n) (0, 0), l.getD (2 * n + 1) (0, 0))] := by simp [pairUp, List.range_succ]
    have e2 : ends (pairUp l n ++ [(l.getD (2 * n) (0, 0), l.getD (2 * n + 1) (0, 0))]) = ends (pairUp l n) ++ [l.getD (2 * n) (0, 0), l.getD (2 * n + 1) (0, 0)] := by simp [ends]
    have t1 : l.take (2 * n + 1 + 1) = l.take (2 * n) ++ [l[2 * n], l[2 * n + 1]] := by
      rw [List.take_add_one, List.take_add_one, List.getElem?_eq_getElem (show 2 * n < l.length by omega), List.getElem?_eq_getElem (show 2 * n + 1 < l.length by omega), List.append_assoc]; rfl
    rw [e, e2, ih, show 2 * (n + 1) = 2 * n + 1 + 1 by omega, t1]
    simp [List.getElem?_eq_getElem (show 2 * n < l.length by omega), List.getElem?_eq_getElem (show 2 * n + 1 < l.length by omega)]
theorem wires_made (ns : List Int) (cs : List Nat) (h1 : 1 ≤ cs.length) (h6 : cs.length ≤ 6) (cc : ∀ c ∈ cs, 1 ≤ c ∧ c ≤ 4) : ∃ ws, NetOk cs ws ∧ m_law_wires [.scr (ns.map D.int), .lst (intsD' cs)] = .ok (.o (ws.map wrD)) := by
  suffices h : Ends (m_law_wires [.scr (ns.map D.int), .lst (intsD' cs)]) fun b => ∃ ws, NetOk cs ws ∧ b = .o (ws.map wrD) by
    obtain ⟨b, e, ws, h, rfl⟩ := h
    exact ⟨ws, h, e⟩
  have L1 : 1 ≤ (allD cs cs.length).length := List.length_pos_of_mem (head_mem h1 cc)
  have L24 := allD_len cc cs.length
  have nda := allD_nodup cs cs.length
  have out := doors_made h6 cc
  generalize hal : allD cs cs.length = al at *
  obtain ⟨c2, e2⟩ := cell_ok ns 2
  obtain ⟨c3, e3⟩ := cell_ok ns 3
  have e2' : m_law_cell_at [.scr (ns.map D.int), .int 2] = .ok (.v (.int c2)) := e2
  have e3' : m_law_cell_at [.scr (ns.map D.int), .int 3] = .ok (.v (.int c3)) := e3
  simp (disch := first | omega | (simp; done) | (simp; omega)) [m_law_wires, b_law_wires, out]
  refine ends_forR al.length (fun j ρ => ∃ (ps : List Nd) (s4 : Sl), ps.map (·.2) = al.take j ∧ ρ = [.fz (.scr (ns.map D.int)), .fz (.lst (intsD' cs)), .fz (.lst (al.map drD)), .ow (ps.map ndD), s4, .un, .un, .un]) (by simp (disch := first | omega | (simp; done) | (simp; omega))) ⟨[], .un, rfl, rfl⟩ ?_ ?_
  · rintro j _ hj ⟨ps, s4, hp, rfl⟩
    have lp : ps.length = j := by
      have := congrArg List.length hp
      simpa [Nat.min_eq_left (Nat.le_of_lt hj)] using this
    obtain ⟨y, ey⟩ := mix_ok (c2 + (j : Int) * (j : Int)) (20 + j) (by omega)
    have ey' : m_law_mix [.int (c2 + (j : Int) * (j : Int)), .int (20 + (j : Int))] = .ok (.v (.int y)) := by rw [← ey]; simp
    have ed : ixD (.lst (al.map drD)) (.int (j : Int)) = .ok (drD al[j]) := ix_l (by simp [hj])
    simp (disch := first | omega | (simp; done) | (simp; omega)) [e2', ey', ed]
    refine ⟨ps ++ [(y, al[j])], ?_, by simp [ndD]⟩
    rw [List.map_append, hp, List.take_add_one, List.getElem?_eq_getElem hj]; rfl
  · rintro _ ⟨ps, s4, hp, rfl⟩
    rw [List.take_length] at hp
    have lp : ps.length = al.length := by rw [← hp, List.length_map]
    obtain ⟨qs, hq, es⟩ := sort_ok ps (by omega)
    have lq : qs.length = al.length := by rw [hq.length_eq, lp]
    simp
    refine ends_comp2 (fun p : Nd => .int p.1) (fun p => drD p.2) qs (fun p => drD p.2) (by simp [es]; intros; rfl) (by omega) (fun p _ => by simp) ?_
    have hd : (qs.map (·.2)).Perm al := by rw [← hp]; exact hq.map _
    have edl : qs.map (fun p => drD p.2) = (qs.map (·.2)).map drD := by simp
    rw [edl]
    generalize hdl : qs.map (·.2) = dl at hd
    have ldl : dl.length = al.length := hd.length_eq
    obtain ⟨y, ey⟩ := mix_ok c3 11 (by decide)
    have ey' : m_law_mix [.int c3, .int 11] = .ok (.v (.int y)) := ey
    have Y1 := Int.emod_nonneg y (b := ((al.length : Int) - 1) / 2 / 3 + 1) (by omega)
    have Y2 := Int.emod_lt_of_pos y (b := ((al.length : Int) - 1) / 2 / 3 + 1) (by omega)
    generalize hv : ((al.length : Int) - 1) / 2 - y % (((al.length : Int) - 1) / 2 / 3 + 1) = v
    have hv1 : 0 ≤ v ∧ 2 * v + 1 ≤ al.length := by omega
    obtain ⟨n, rfl⟩ := Int.eq_ofNat_of_zero_le hv1.1
    simp (disch := first | omega | (simp; done) | (simp; omega)) [e3', ey', hv]
    refine ends_compR n (fun k => wrD (dl.getD (2 * k) (0, 0), dl.getD (2 * k + 1) (0, 0))) (by simp (disch := first | omega | (simp; done) | (simp; omega))) (by omega) (fun k hk => ?_) ?_
    · have a1 : ixD (.lst (dl.map drD)) (.int (2 * (k : Int))) = .ok (drD (dl.getD (2 * k) (0, 0))) := by
        have := ix_l (xs := dl.map drD) (k := 2 * k) (d := drD (dl.getD (2 * k) (0, 0))) (by simp [show 2 * k < dl.length by omega])
        rw [← this]; simp
      have a2 : ixD (.lst (dl.map drD)) (.int (2 * (k : Int) + 1)) = .ok (drD (dl.getD (2 * k + 1) (0, 0))) := by
        have := ix_l (xs := dl.map drD) (k := 2 * k + 1) (d := drD (dl.getD (2 * k + 1) (0, 0))) (by simp [show 2 * k + 1 < dl.length by omega])
        rw [← this]; simp
      simp only [List.getD_eq_getElem?_getD] at a1 a2
      simp [a1, a2, wrD]
    · have ee := ends_pairUp dl n (by omega)
      have ndl : dl.Nodup := hd.nodup_iff.mpr nda
      simp
      refine ⟨pairUp dl n, ⟨h1, h6, cc, by rw [ee]; exact ndl.sublist (List.take_sublist _ _), fun d hd' => ?_, ?_, ?_⟩, by simp [pairUp, wrD]⟩
      · rw [ee] at hd'; rw [hal]; exact hd.mem_iff.mp (List.mem_of_mem_take hd')
      · have hx : 2 * n < dl.length := by omega
        refine ⟨dl[2 * n], by rw [hal]; exact hd.mem_iff.mp (List.getElem_mem _), ?_⟩
        rw [ee]
        intro z
        rw [← List.take_append_drop (2 * n) dl, List.nodup_append] at ndl
        exact ndl.2.2 _ z dl[2 * n] (by rw [List.mem_iff_getElem?]; exact ⟨0, by simp [List.getElem?_eq_getElem hx]⟩) rfl
      · simp [pairUp]; omega
end N03
set_option Elab.async false
set_option linter.all false
set_option maxRecDepth 100000
set_option autoImplicit false
namespace N03
open PySem PySem.Spec L2 L3
noncomputable def Sg (c : Nat) : Prop := c = 48 ∨ c = 49 ∨ c = 120
structure Pat (x : Str) : Prop where
  l : x.cps.toList.length = 4
  s : ∀ c ∈ x.cps.toList, Sg c
theorem sign_in {c : Nat} (h : Sg c) : inD true (signD c) c_SIGNS = .ok (.bl true) := by
  rcases h with h | h | h <;> subst h <;> rfl
theorem len_str (x : Str) (h : x.cps.toList.length ≤ 1000) : lenD [.str x] = .ok (.int (x.cps.toList.length : Int)) := by
  have e : x.length = x.cps.toList.length := rfl
  have e2 : x.length ≤ 1000000 := by omega
  rw [← e]
  simp only [lenD, if_pos e2]
theorem isi_str (x : Str) : isiD "str" (.str x) = .ok (.bl true) := rfl
theorem isi_bool (b : Bool) : isiD "bool" (.bl b) = .ok (.bl true) := rfl
theorem isi_list (l : List D) : isiD "list" (.lst l) = .ok (.bl true) := rfl
theorem isi_tup (l : List D) : isiD "tuple" (.tup l) = .ok (.bl true) := rfl
theorem bools_map {α : Type} (f : α → Bool) : ∀ l : List α, boolsD (l.map fun a => D.bl (f a)) = some (l.map f)
  | [] => rfl
  | a :: l => by simp [boolsD, bools_map f l]
theorem all_bl {α : Type} (f : α → Bool) (l : List α) : L3.allD [.lst (l.map fun a => D.bl (f a))] = .ok (.bl (l.all f)) := by
  simp [L3.allD, bools_map, Function.comp_def]
theorem worths : lenD [c_WORTHS] = .ok (.int 4) := rfl
theorem pat_yes {x : Str} (h : Pat x) : m_is_pattern [.str x] = .ok (.v (.bl true)) := by
  apply Ends.done
  have l := h.l
  simp [m_is_pattern, b_is_pattern, isi_str, len_str x (by omega), worths, l]
  refine ends_comp' signD x.cps.toList (fun _ => .bl true) (by simp) (by omega) (fun c hc => by simp [sign_in (h.s c hc)]) ?_
  have a := all_bl (fun _ : Nat => true) x.cps.toList
  simp only [a]
  simp
theorem pick_sg (y : Int) : ∃ c, Sg c ∧ ixD (.str (PySem.Str.ofString "01xx")) (.int (y % 4)) = .ok (.str ⟨#[c]⟩) := by
  have h : y % 4 = 0 ∨ y % 4 = 1 ∨ y % 4 = 2 ∨ y % 4 = 3 := by omega
  rcases h with h | h | h | h <;> rw [h]
  · exact ⟨48, .inl rfl, rfl⟩
  · exact ⟨49, .inr (.inl rfl), rfl⟩
  · exact ⟨120, .inr (.inr rfl), rfl⟩
  · exact ⟨120, .inr (.inr rfl), rfl⟩
theorem add_ss {x y : Str} (h : x.length + y.length ≤ 1000000) : addD (.str x) (.str y) = .ok (.str (x ++ y)) := if_pos h
theorem cps_app (x : Str) (c : Nat) : (x ++ (⟨#[c]⟩ : Str)).cps.toList = x.cps.toList ++ [c] := by
  show (x.cps ++ #[c]).toList = _
  simp
theorem pattern_made (y : Int) : ∃ p, Pat p ∧ m_law_pattern [.int y] = .ok (.v (.str p)) := by
  suffices h : Ends (m_law_pattern [.int y]) fun b => ∃ p, Pat p ∧ b = .v (.str p) by
    obtain ⟨b, e, p, h, rfl⟩ := h
    exact ⟨p, h, e⟩
  simp [m_law_pattern, b_law_pattern]
  refine ends_forR 4 (fun j ρ => ∃ (z : Int) (x : Str) (s2 : Sl), x.cps.toList.length = j ∧ (∀ c ∈ x.cps.toList, Sg c) ∧ ρ = [.fz (.int z), .fz (.str x), s2]) (by simp; exact rng1_nat 4 (by decide)) ⟨y, PySem.Str.ofString "", .un, by decide, (fun c h => nomatch (show c ∈ ([] : List Nat) from h)), rfl⟩ ?_ ?_
  · rintro j _ hj ⟨z, x, s2, hl, hs, rfl⟩
    obtain ⟨c, hc, e⟩ := pick_sg z
    have la : x.length + (⟨#[c]⟩ : Str).length ≤ 1000000 := by
      have h1 : x.length = x.cps.toList.length := rfl
      have h2 : (⟨#[c]⟩ : Str).length = 1 := rfl
      omega
    simp (disch := first | omega | (simp; done) | (simp; omega)) [e, add_ss la]
    have ca := cps_app x c
    refine ⟨_, _, by rw [← Array.length_toList, ca]; simp [hl], fun d hd => ?_, rfl, rfl⟩
    rw [← Array.mem_toList_iff, ca] at hd
    rcases List.mem_append.mp hd with h | h
    · exact hs d h
    · rw [List.mem_singleton.mp h]; exact hc
  · rintro _ ⟨z, x, s2, hl, hs, rfl⟩
    simp
    exact ⟨hl, hs⟩
structure Rw where
  p : Str
  a : Option Nat
  b : Option Nat
noncomputable def opD : Option Nat → D
  | none => .non
  | some k => .int (k : Int)
noncomputable def rwD (r : Rw) : D := .tup [.str r.p, opD r.a, opD r.b]
structure RwOk (c : Nat) (r : Rw) : Prop where
  p : Pat r.p
  a : ∀ k, r.a = some k → k < c
  b : ∀ k, r.b = some k → k < c
theorem num_yes {c : Nat} {o : Option Nat} (h : ∀ k, o = some k → k < c) : m_is_number_or_none [opD o, .int (c : Int)] = .ok (.v (.bl true)) := by
  cases o with
  | none => simp [m_is_number_or_none, b_is_number_or_none, opD, isNon]
  | some k =>
    have := h k rfl
    simp [m_is_number_or_none, b_is_number_or_none, opD, isNon, within_ok]
    omega
theorem row_gen {c : Nat} {p a b : D} {h1 h2 h3 : Bool} (e1 : m_is_pattern [p] = .ok (.v (.bl h1))) (e2 : m_is_number_or_none [a, .int (c : Int)] = .ok (.v (.bl h2))) (e3 : m_is_number_or_none [b, .int (c : Int)] = .ok (.v (.bl h3))) : m_is_row [.tup [p, a, b], .int (c : Int)] = .ok (.v (.bl (h1 && h2 && h3))) := by
  have i0 : ixD (.tup [p, a, b]) (.int 0) = .ok p := rfl
  have i1 : ixD (.tup [p, a, b]) (.int 1) = .ok a := rfl
  have i2 : ixD (.tup [p, a, b]) (.int 2) = .ok b := rfl
  cases h1 <;> cases h2 <;> cases h3 <;> simp [m_is_row, b_is_row, isi_tup, i0, i1, i2, e1, e2, e3]
theorem row_yes {c : Nat} {r : Rw} (h : RwOk c r) : m_is_row [rwD r, .int (c : Int)] = .ok (.v (.bl true)) := row_gen (pat_yes h.p) (num_yes h.a) (num_yes h.b)
theorem row_made (cell : Int) (k : Nat) (hk : k < 900) (c : Nat) (hc : 1 ≤ c) : ∃ r, RwOk c r ∧ m_law_row [.int cell, .int k, .int (c : Int)] = .ok (.v (rwD r)) := by
  obtain ⟨y, ey⟩ := mix_ok cell k (by omega)
  obtain ⟨p, hp, ep⟩ := pattern_made y
  obtain ⟨q1, hq1, eq1⟩ := nat_mod (y / 700) (n := c) (by omega)
  obtain ⟨q2, hq2, eq2⟩ := nat_mod (y / 3000) (n := c) (by omega)
  have x1 : ∃ o : Option Nat, (∀ k, o = some k → k < c) ∧ ixD (.lst [.non, .int (q1 : Int)]) (.int (y / 256 % 2)) = .ok (opD o) := by
    have h : y / 256 % 2 = 0 ∨ y / 256 % 2 = 1 := by omega
    rcases h with h | h <;> rw [h]
    · exact ⟨none, (fun _ z => nomatch z), rfl⟩
    · exact ⟨some q1, (fun k z => by cases z; exact hq1), rfl⟩
  have x2 : ∃ o : Option Nat, (∀ k, o = some k → k < c) ∧ ixD (.lst [.int (q2 : Int), .non]) (.int (if (y / 20000 % 9 == 0) = true then 1 else 0)) = .ok (opD o) := by
    cases h : (y / 20000 % 9 == 0)
    · exact ⟨some q2, (fun k z => by cases z; exact hq2), rfl⟩
    · exact ⟨none, (fun _ z => nomatch z), rfl⟩
  obtain ⟨o1, h1, i1⟩ := x1
  obtain ⟨o2, h2, i2⟩ := x2
  refine ⟨⟨p, o1, o2⟩, ⟨hp, h1, h2⟩, ?_⟩
  simp only [beq_iff_eq] at i2
  simp (disch := first | omega | (simp; done) | (simp; omega)) [m_law_row, b_law_row, ey, eq1, eq2, i1, i2, ep, rwD]
end N03
set_option Elab.async false
set_option linter.all false
set_option maxRecDepth 100000
set_option autoImplicit false
namespace N03
open PySem PySem.Spec L2 L3
noncomputable def bkD (b : List Rw) : D := .lst (b.map rwD)
structure BkOk (c : Nat) (b : List Rw) : Prop where
  l : b.length ≤ 12
  r : ∀ r ∈ b, RwOk c r
theorem book_all {c : Nat} {l : List D} {f : D → Bool} (hl : l.length ≤ 12) (h : ∀ d ∈ l, m_is_row [d, .int (c : Int)] = .ok (.v (.bl (f d)))) : m_is_book [.lst l, .int (c : Int)] = .ok (.v (.bl (l.all f))) := by
  apply Ends.done
  simp [m_is_book, b_is_book, isi_list, c_MOST_ROWS, show ¬ ((12 : Int) < l.length) by omega]
  refine ends_comp' id l (fun d => .bl (f d)) (by simp) (by omega) (fun d hd => by simp [h d hd]) ?_
  have a := all_bl f l
  simp [a]
theorem book_long {c : D} {l : List D} (hl : 12 < l.length) : m_is_book [.lst l, c] = .ok (.v (.bl false)) := by
  simp [m_is_book, b_is_book, isi_list, c_MOST_ROWS, show ((12 : Int) < l.length) by omega]
theorem book_kind {d c : D} (h : isiD "list" d = .ok (.bl false)) : m_is_book [d, c] = .ok (.v (.bl false)) := by
  simp [m_is_book, b_is_book, h]
theorem book_yes {c : Nat} {b : List Rw} (h : BkOk c b) : m_is_book [bkD b, .int (c : Int)] = .ok (.v (.bl true)) := by
  have := book_all (c := c) (l := b.map rwD) (f := fun _ => true) (by simpa using h.l) fun d hd => by
    obtain ⟨r, hr, rfl⟩ := List.mem_map.mp hd
    exact row_yes (h.r r hr)
  unfold bkD
  rw [this]
  simp
theorem book_bad {c : Nat} {p q : List Rw} {d : D} (h1 : ∀ r ∈ p, RwOk c r) (h2 : ∀ r ∈ q, RwOk c r) (hd : m_is_row [d, .int (c : Int)] = .ok (.v (.bl false))) (hl : p.length + q.length ≤ 11) : m_is_book [.lst (p.map rwD ++ d :: q.map rwD), .int (c : Int)] = .ok (.v (.bl false)) := by
  apply Ends.done
  let g : Option Rw → D := fun o => match o with
    | none => d
    | some s => rwD s
  let xs : List (Option Rw) := p.map some ++ none :: q.map some
  have e : p.map rwD ++ d :: q.map rwD = xs.map g := by simp [xs, g, Function.comp_def]
  have lx : xs.length = p.length + q.length + 1 := by simp [xs]; omega
  rw [e]
  simp [m_is_book, b_is_book, isi_list, c_MOST_ROWS, show ¬ ((12 : Int) < xs.length) by omega]
  refine ends_comp' g xs (fun o => .bl o.isSome) (by simp) (by omega) (fun o ho => ?_) ?_
  · cases o with
    | none => simp [g, hd]
    | some s =>
      have : RwOk c s := by
        simp [xs] at ho
        exact ho.elim (h1 s) (h2 s)
      simp [g, row_yes this]
  · have a := all_bl (fun o : Option Rw => o.isSome) xs
    have b : xs.all (fun o => o.isSome) = false := by simp [xs]
    rw [b] at a
    simp [a]
noncomputable def net (cs : List Nat) (ws : List (Dr × Dr)) : D := .ins "Net" ["many", "counts", "joined", "far"] [.int (cs.length : Nat), .tup (intsD' cs), .tup (ws.map wrD), .dT (ksOf ws) (vsOf ws)]
theorem many_ok (cs : List Nat) (ws : List (Dr × Dr)) : fldD "Net" "many" (net cs ws) = .ok (.int (cs.length : Int)) := rfl
theorem cnts_ok (cs : List Nat) (ws : List (Dr × Dr)) : fldD "Net" "counts" (net cs ws) = .ok (.tup (intsD' cs)) := rfl
theorem self_ok (cs : List Nat) (ws : List (Dr × Dr)) : selfD "Net" "count" (net cs ws) = .ok (net cs ws) := rfl
theorem count_ok {cs : List Nat} {ws : List (Dr × Dr)} {h : Nat} (hh : h < cs.length) : m_Net_count [net cs ws, .int (h : Int)] = .ok (.v (.int (cs.getD h 0 : Nat))) := by
  have e : ixD (.tup (intsD' cs)) (.int (h : Int)) = .ok (.int (cs.getD h 0 : Nat)) := ix_t (cs_at hh)
  simp only [List.getD_eq_getElem?_getD] at e ⊢
  simp [m_Net_count, b_Net_count, many_ok, cnts_ok, e, hh]
theorem books_all {cs : List Nat} {ws : List (Dr × Dr)} {l : List D} {f : D × Nat → Bool} (hl : l.length = cs.length) (h6 : cs.length ≤ 6) (h : ∀ p ∈ l.zipIdx, m_is_book [p.1, .int (cs.getD p.2 0 : Nat)] = .ok (.v (.bl (f p)))) : m_is_books [.lst l, net cs ws] = .ok (.v (.bl (l.zipIdx.all f))) := by
  apply Ends.done
  simp [m_is_books, b_is_books, isi_list, many_ok, hl]
  have en := enum_map id l
  rw [List.map_id] at en
  refine ends_comp2 (fun p : D × Nat => .int (p.2 : Int)) (fun p => p.1) l.zipIdx (fun p => .bl (f p)) (by simp only [v_ie, v_cons, v_var, v_nil]; simp [en]) (by simp; omega) (fun p hp => ?_) ?_
  · have := (List.getElem?_eq_some_iff.mp (zip_mem hp)).1
    have hc := count_ok (cs := cs) (ws := ws) (h := p.2) (by omega)
    have hb := h p hp
    simp only [List.getD_eq_getElem?_getD] at hc hb
    simp [self_ok, hc, hb]
  · have a := all_bl f l.zipIdx
    simp [a]
theorem books_kind {d e : D} (h : isiD "list" d = .ok (.bl false)) : m_is_books [d, e] = .ok (.v (.bl false)) := by
  simp [m_is_books, b_is_books, h]
theorem books_len {cs : List Nat} {ws : List (Dr × Dr)} {l : List D} (hl : l.length ≠ cs.length) : m_is_books [.lst l, net cs ws] = .ok (.v (.bl false)) := by
  simp [m_is_books, b_is_books, isi_list, many_ok, show ¬ ((l.length : Int) = (cs.length : Int)) by omega]
structure BsOk (cs : List Nat) (bs : List (List Rw)) : Prop where
  l : bs.length = cs.length
  b : ∀ (i : Nat) b, bs[i]? = some b → BkOk (cs.getD i 0) b
theorem books_yes {cs : List Nat} {ws : List (Dr × Dr)} {bs : List (List Rw)} (h6 : cs.length ≤ 6) (h : BsOk cs bs) : m_is_books [.lst (bs.map bkD), net cs ws] = .ok (.v (.bl true)) := by
  have := books_all (ws := ws) (l := bs.map bkD) (f := fun _ => true) (by simpa using h.l) h6 fun p hp => by
    have e := zip_mem hp
    rw [List.getElem?_map] at e
    cases eb : bs[p.2]? with
    | none => rw [eb] at e; cases e
    | some b =>
      rw [eb] at e
      rw [← Option.some.inj (show some (bkD b) = some p.1 from e)]
      exact book_yes (h.b _ _ eb)
  rw [this]
  simp
theorem books_bad {cs : List Nat} {ws : List (Dr × Dr)} {bs : List (List Rw)} (h6 : cs.length ≤ 6) (h : BsOk cs bs) {k : Nat} (hk : k < bs.length) {d : D} (hd : m_is_book [d, .int (cs.getD k 0 : Nat)] = .ok (.v (.bl false))) : m_is_books [.lst ((bs.map bkD).set k d), net cs ws] = .ok (.v (.bl false)) := by
  have := books_all (ws := ws) (l := (bs.map bkD).set k d) (f := fun p => !(p.2 == k)) (by simpa using h.l) h6 fun p hp => by
    have e := zip_mem hp
    rw [List.getElem?_set] at e
    by_cases q : k = p.2
    · rw [if_pos q, if_pos (by simpa using hk)] at e
      cases e
      rw [← q, hd]
      simp
    · rw [if_neg q, List.getElem?_map] at e
      cases eb : bs[p.2]? with
      | none => rw [eb] at e; cases e
      | some b =>
        rw [eb] at e
        rw [← Option.some.inj (show some (bkD b) = some p.1 from e), book_yes (h.b _ _ eb), show (p.2 == k) = false from beq_eq_false_iff_ne.mpr (fun z => q z.symm)]
        rfl
  rw [this]
  congr 3
  rw [List.all_eq_false]
  refine ⟨(d, k), ?_, by simp⟩
  rw [List.mem_iff_getElem?]
  refine ⟨k, ?_⟩
  rw [List.getElem?_zipIdx, List.getElem?_set, if_pos rfl, if_pos (by simpa using hk)]
  simp
end N03
set_option Elab.async false
set_option linter.all false
set_option maxRecDepth 100000
set_option autoImplicit false
namespace N03
open PySem PySem.Spec L2 L3
noncomputable def tkB (b : List Rw) : T := .lst (b.map fun r => T.fz (rwD r))
noncomputable def trB (bs : List (List Rw)) : List T := bs.map tkB
theorem toD_tk (b : List Rw) : toD (tkB b) = bkD b := by
  have : ∀ l : List Rw, toDL (l.map fun r => T.fz (rwD r)) = l.map rwD := fun l => by
    induction l with
    | nil => simp [toDL]
    | cons r l ih => simp [toDL, toD, ih]
  unfold tkB bkD
  rw [toD, this]
theorem toD_tr (bs : List (List Rw)) : toD (.lst (trB bs)) = .lst (bs.map bkD) := by
  have : ∀ l : List (List Rw), toDL (l.map tkB) = l.map bkD := fun l => by
    induction l with
    | nil => simp [toDL]
    | cons r l ih => simp [toDL, toD_tk, ih]
  unfold trB
  rw [toD, this]
theorem BsOk.put {cs : List Nat} {bs : List (List Rw)} (h : BsOk cs bs) {k : Nat} {b : List Rw} {r : Rw} (e : bs[k]? = some b) (hl : b.length < 12) (hr : RwOk (cs.getD k 0) r) : BsOk cs (bs.set k (b ++ [r])) := by
  refine ⟨by simpa using h.l, fun i x ex => ?_⟩
  rw [List.getElem?_set] at ex
  have hk := (List.getElem?_eq_some_iff.mp e).1
  by_cases q : k = i
  · rw [if_pos q, if_pos hk] at ex
    cases ex
    subst q
    refine ⟨by simp; omega, fun x hx => ?_⟩
    rcases List.mem_append.mp hx with hx | hx
    · exact (h.b _ _ e).r x hx
    · rw [List.mem_singleton.mp hx]; exact hr
  · rw [if_neg q] at ex
    exact h.b _ _ ex
theorem getD_pos {cs : List Nat} (h : ∀ c ∈ cs, 1 ≤ c ∧ c ≤ 4) {k : Nat} (hk : k < cs.length) : 1 ≤ cs.getD k 0 ∧ cs.getD k 0 ≤ 4 := by
  have := h (cs[k]) (List.getElem_mem _)
  simpa [hk] using this
theorem books_made (zs : List Int) (hz : zs.length ≤ 100) (cs : List Nat) (h1 : 1 ≤ cs.length) (h6 : cs.length ≤ 6) (cc : ∀ c ∈ cs, 1 ≤ c ∧ c ≤ 4) : ∃ bs, BsOk cs bs ∧ m_law_books [.lst (zs.map D.int), .lst (intsD' cs)] = .ok (.t (.lst (trB bs))) := by
  suffices h : Ends (m_law_books [.lst (zs.map D.int), .lst (intsD' cs)]) fun b => ∃ bs, BsOk cs bs ∧ b = .t (.lst (trB bs)) by
    obtain ⟨b, e, bs, h, rfl⟩ := h
    exact ⟨bs, h, e⟩
  have lcs : (intsD' cs).length = cs.length := by simp [intsD']
  simp [m_law_books, b_law_books]
  refine ends_compT (fun c : Nat => D.int (c : Int)) cs (fun _ => []) (by simp [intsD']) (by omega) (fun c _ => by simp) ?_
  refine ends_for' (fun p : Int × Nat => .tup [.int (p.2 : Int), .int p.1]) zs.zipIdx (fun _ ρ => ∃ (bs : List (List Rw)) (s3 s4 s5 : Sl), BsOk cs bs ∧ ρ = [.fz (.lst (zs.map D.int)), .fz (.lst (intsD' cs)), .tr (.lst (trB bs)), s3, s4, s5]) (by simp [enum_map]) ⟨cs.map fun _ => [], .un, .un, .un, ⟨by simp, fun i b e => ?_⟩, by simp [trB, tkB, lstT]⟩ ?_ ?_
  · rw [List.getElem?_map] at e
    cases ec : cs[i]? with
    | none => rw [ec] at e; cases e
    | some c => rw [ec] at e; cases e; exact ⟨by simp, fun r h => nomatch h⟩
  · rintro j ⟨z, j'⟩ _ hj ⟨bs, s3, s4, s5, ok, rfl⟩
    obtain ⟨e1, e2⟩ := zip_at hj
    simp only at e1 e2
    subst e1
    have hjl : j' < zs.length := (List.getElem?_eq_some_iff.mp e2).1
    obtain ⟨k, hk, ek⟩ := nat_mod (j' : Int) (n := cs.length) (by omega)
    have hkb : k < bs.length := by rw [ok.l]; exact hk
    have eb : bs[k]? = some bs[k] := List.getElem?_eq_getElem hkb
    have ix1 : ixD (.lst (bs.map bkD)) (.int (k : Int)) = .ok (bkD bs[k]) := ix_l (by simp [hkb])
    have lb : lenD [bkD bs[k]] = .ok (.int (bs[k].length : Int)) := by simp [bkD]
    have ix2 : ixD (.lst (intsD' cs)) (.int (k : Int)) = .ok (.int (cs.getD k 0 : Nat)) := ix_l (cs_at hk)
    simp (disch := first | omega | (simp; done) | (simp; omega)) [lcs, ek, toD_tr, ix1, lb]
    by_cases hl : bs[k].length < 12
    · obtain ⟨r, hr, er⟩ := row_made z (31 + j') (by omega) (cs.getD k 0) (getD_pos cc hk).1
      have er' : m_law_row [.int z, .int (31 + (j' : Int)), .int (cs.getD k 0 : Nat)] = .ok (.v (rwD r)) := by rw [← er]; simp
      have et : (trB bs)[k]? = some (.lst (bs[k].map fun r => T.fz (rwD r))) := by simp [trB, hkb, tkB]
      rw [if_pos (by omega), apD_ok et (d := rwD r) (by
        simp only [List.getD_eq_getElem?_getD] at er' ix2
        simp [ix2, er']) (by simp; omega)]
      simp
      refine ⟨bs.set k (bs[k] ++ [r]), ok.put eb hl hr, ?_⟩
      simp [trB, tkB, List.map_set]
    · rw [if_neg (by omega)]
      simp
      exact ⟨bs, ok, rfl⟩
  · rintro _ ⟨bs, s3, s4, s5, ok, rfl⟩
    simp
    exact ⟨bs, ok, rfl⟩
noncomputable def badL (r : Rw) (c : Nat) : List D := [.lst [.str r.p, opD r.a, opD r.b], .tup [.str r.p, opD r.a], .tup [.str r.p, opD r.a, opD r.b, .non], .non, .str (PySem.Str.ofString "xxxx"), .tup [], .tup [.str (PySem.Str.ofString "xxx"), opD r.a, opD r.b], .tup [.non, opD r.a, opD r.b],
  .tup [.str (PySem.Str.ofString "xx2x"), opD r.a, opD r.b], .tup [.str r.p, .int (c : Int), opD r.b], .tup [.str r.p, opD r.a, .int (c : Int)], .tup [.str r.p, .int (-1), opD r.b],
  .tup [.str r.p, opD r.a, .int (-1)], .tup [.str r.p, .bl true, opD r.b], .tup [.str r.p, opD r.a, .bl false], .tup [.str r.p, .str (PySem.Str.ofString "0"), opD r.b],
  .tup [.str r.p, opD r.a, .str (PySem.Str.ofString "drop")], .tup [.str r.p, .tup [.int 0], opD r.b], .tup [.str r.p, opD r.a, .int 1000000000000000000000000000000], .tup [.int 0, opD r.a, opD r.b]]
theorem num_int {c : Nat} {i : Int} (h : ¬ (0 ≤ i ∧ i ≤ (c : Int) - 1)) : m_is_number_or_none [.int i, .int (c : Int)] = .ok (.v (.bl false)) := by
  simp [m_is_number_or_none, b_is_number_or_none, isNon, within_ok]
  omega
theorem bad_no {c : Nat} (hc : c ≤ 4) {r : Rw} (h : RwOk c r) {d : D} (hd : d ∈ badL r c) : m_is_row [d, .int (c : Int)] = .ok (.v (.bl false)) := by
  have hp := pat_yes h.p
  have ha := num_yes h.a
  have hb := num_yes h.b
  unfold badL at hd
  simp only [List.mem_cons, List.not_mem_nil, or_false] at hd
  rcases hd with q | q | q | q | q | q | q | q | q | q | q | q | q | q | q | q | q | q | q | q <;> subst q
  · rfl
  · rfl
  · rfl
  · rfl
  · rfl
  · rfl
  · exact row_gen (h1 := false) rfl ha hb
  · exact row_gen (h1 := false) rfl ha hb
  · exact row_gen (h1 := false) rfl ha hb
  · exact row_gen (h2 := false) hp (num_int (by omega)) hb
  · exact row_gen (h3 := false) hp ha (num_int (by omega))
  · exact row_gen (h2 := false) hp (num_int (by omega)) hb
  · exact row_gen (h3 := false) hp ha (num_int (by omega))
  · exact row_gen (h2 := false) hp rfl hb
  · exact row_gen (h3 := false) hp ha rfl
  · exact row_gen (h2 := false) hp rfl hb
  · exact row_gen (h3 := false) hp ha rfl
  · exact row_gen (h2 := false) hp rfl hb
  · exact row_gen (h3 := false) hp ha (num_int (by omega))
  · exact row_gen (h1 := false) rfl ha hb
theorem bad_made (r : Rw) (c : Nat) (y : Int) : ∃ d ∈ badL r c, m_law_bad_row [rwD r, .int (c : Int), .int y] = .ok (.v d) := by
  obtain ⟨k, hk, ek⟩ := nat_mod y (n := 20) (by decide)
  have ek' : y % 20 = (k : Int) := ek
  have hk' : k < (badL r c).length := hk
  refine ⟨(badL r c)[k], List.getElem_mem _, ?_⟩
  have e := ix_l (xs := badL r c) (k := k) (List.getElem?_eq_getElem hk')
  have i0 : ixD (rwD r) (.int 0) = .ok (.str r.p) := rfl
  have i1 : ixD (rwD r) (.int 1) = .ok (opD r.a) := rfl
  have i2 : ixD (rwD r) (.int 2) = .ok (opD r.b) := rfl
  have l1 : listD [rwD r] = .ok [.str r.p, opD r.a, opD r.b] := rfl
  have s1 : slT (rwD r) none (some 2) = .ok (.tup [.str r.p, opD r.a]) := rfl
  have t1 : catD (rwD r) (.tup [.non]) = .ok (.tup [.str r.p, opD r.a, opD r.b, .non]) := rfl
  unfold badL at e
  simp [m_law_bad_row, b_law_bad_row, ek', i0, i1, i2, l1, s1, t1, pow_10_30, e]
  rfl
end N03
set_option Elab.async false
set_option linter.all false
set_option maxRecDepth 100000
set_option autoImplicit false
namespace N03
open PySem PySem.Spec L2 L3
theorem w_row {c : Nat} (h : 1 ≤ c) : RwOk c ⟨PySem.Str.ofString "x01x", none, some 0⟩ := ⟨⟨by decide, fun d hd => by
    have : d ∈ [120, 48, 49, 120] := hd
    simp at this
    unfold Sg
    omega⟩, (fun _ z => nomatch z), (fun k z => by cases z; omega)⟩
theorem badbook_made {c : Nat} {b : List Rw} (h1 : 1 ≤ c) (h4 : c ≤ 4) (h : BkOk c b) (y : Int) : ∃ d, m_is_book [d, .int (c : Int)] = .ok (.v (.bl false)) ∧ m_law_bad_book [bkD b, .int (c : Int), .int y] = .ok (.v d) := by
  suffices h : Ends (m_law_bad_book [bkD b, .int (c : Int), .int y]) fun x => ∃ d, m_is_book [d, .int (c : Int)] = .ok (.v (.bl false)) ∧ x = .v d by
    obtain ⟨b, e, d, h, rfl⟩ := h
    exact ⟨d, h, e⟩
  have hl := h.l
  have lb : ∀ l : List Rw, lenD [bkD l] = .ok (.int (l.length : Int)) := fun l => by simp [bkD]
  simp (disch := first | omega | (simp; done) | (simp; omega)) [m_law_bad_book, b_law_bad_book]
  by_cases t0 : y % 8 = 0
  · have tu : tupleD [bkD b] = .ok (.tup (b.map rwD)) := rfl
    have x : ∃ d, m_is_book [d, .int (c : Int)] = .ok (.v (.bl false)) ∧ ixD (.lst [.non, .tup (b.map rwD), .dK [] [], .str (PySem.Str.ofString ""), .int 0, .bl true, .str (PySem.Str.ofString "-"), .lst [.lst []]]) (.int (y / 8 % 8)) = .ok d := by
      have q : y / 8 % 8 = 0 ∨ y / 8 % 8 = 1 ∨ y / 8 % 8 = 2 ∨ y / 8 % 8 = 3 ∨ y / 8 % 8 = 4 ∨ y / 8 % 8 = 5 ∨ y / 8 % 8 = 6 ∨ y / 8 % 8 = 7 := by omega
      rcases q with q | q | q | q | q | q | q | q <;> rw [q]
      · exact ⟨_, book_kind rfl, rfl⟩
      · exact ⟨_, book_kind rfl, rfl⟩
      · exact ⟨_, book_kind rfl, rfl⟩
      · exact ⟨_, book_kind rfl, rfl⟩
      · exact ⟨_, book_kind rfl, rfl⟩
      · exact ⟨_, book_kind rfl, rfl⟩
      · exact ⟨_, book_kind rfl, rfl⟩
      · exact ⟨_, book_bad (p := []) (q := []) (d := .lst []) (fun _ h => nomatch h) (fun _ h => nomatch h) rfl (by decide), rfl⟩
    obtain ⟨d, hd, ed⟩ := x
    simp (disch := first | omega | (simp; done) | (simp; omega)) [t0, tu, ed, hd]
  · by_cases t1 : y % 8 = 1
    · have c13 : ∀ l : List D, cutL l none (some 13) = l.take 13 := fun l => cut_to l 13
      have a : addD (bkD b) (.lst (List.replicate 13 (.tup [.str (PySem.Str.ofString "xxxx"), .non, .non]))) = .ok (.lst (b.map rwD ++ List.replicate 13 (.tup [.str (PySem.Str.ofString "xxxx"), .non, .non]))) := add_ll (by simp; omega)
      have r : repD (.lst [.tup [.str (PySem.Str.ofString "xxxx"), .non, .non]]) (.int 13) = .ok (.lst (List.replicate 13 (.tup [.str (PySem.Str.ofString "xxxx"), .non, .non]))) := rep_1 (by decide) (by decide)
      simp [t1, r, a, c13, -List.reduceReplicate]
      exact book_long (by simp [-List.reduceReplicate])
    · simp [t0, t1, lb]
      refine Ends.bind (S := fun f => ∃ r, RwOk c r ∧ f = .nx [.fz (bkD b), .fz (.int (c : Int)), .fz (.int y), .fz (.int (y % 8)), .fz (rwD r), .un]) ?_ ?_
      · by_cases hb : 0 < b.length
        · obtain ⟨k, hk, ek⟩ := nat_mod (y / 8) (n := b.length) hb
          have ix : ixD (bkD b) (.int (k : Int)) = .ok (rwD b[k]) := ix_l (by simp [hk])
          rw [if_pos hb]
          simp (disch := first | omega | (simp; done) | (simp; omega)) [ek, ix]
          exact ⟨b[k], h.r _ (List.getElem_mem _), rfl⟩
        · rw [if_neg hb]
          simp
          exact ⟨_, w_row h1, rfl⟩
      · rintro _ ⟨r, hr, rfl⟩
        obtain ⟨a, ha, ea⟩ := nat_mod (y / 100) (n := b.length + 1) (by omega)
        have ea' : y / 100 % ((b.length : Int) + 1) = (a : Int) := ea
        have T1 : slD (bkD b) none (some (a : Int)) = .ok (.lst ((b.take a).map rwD)) := by
          show R.ok (D.lst (cutL (b.map rwD) none (some (a : Int)))) = _
          rw [cut_map, cut_to]
        have T2 : slD (bkD b) (some (a : Int)) none = .ok (.lst ((b.drop a).map rwD)) := by
          show R.ok (D.lst (cutL (b.map rwD) (some (a : Int)) none)) = _
          rw [cut_map, cut_from]
        obtain ⟨d, hd, ed⟩ := bad_made r c (y / 2000)
        have no := bad_no h4 hr hd
        have lP : (b.take a).length = a := by simp; omega
        have okT : ∀ s ∈ b.take a, RwOk c s := fun s hs => h.r s (List.mem_of_mem_take hs)
        have okD : ∀ s ∈ b.drop a, RwOk c s := fun s hs => h.r s (List.mem_of_mem_drop hs)
        have A1 : addD (.lst ((b.take a).map rwD)) (.lst [d]) = .ok (.lst ((b.take a).map rwD ++ [d])) := add_ll (by simp; omega)
        have A2 : addD (.lst ((b.take a).map rwD ++ [d])) (.lst ((b.drop a).map rwD)) = .ok (.lst ((b.take a).map rwD ++ [d] ++ (b.drop a).map rwD)) := add_ll (by simp; omega)
        simp (disch := first | omega | (simp; done) | (simp; omega)) [lb, ea', T1, T2, ed, A1, A2, -List.map_take, -List.map_drop, -List.append_assoc]
        by_cases q : a = 12
        · have c13 : ∀ l : List D, cutL l none (some 13) = l.take 13 := fun l => cut_to l 13
          simp [q, c13]
          exact book_long (by simp; omega)
        · have c12 : ∀ l : List D, cutL l none (some 12) = l.take 12 := fun l => cut_to l 12
          rw [if_neg (by omega)]
          show m_is_book [.lst (cutL _ none (some 12)), _] = _
          rw [c12]
          have e : ((b.take a).map rwD ++ [d] ++ (b.drop a).map rwD).take 12 = (b.take a).map rwD ++ d :: ((b.drop a).take (11 - a)).map rwD := by
            rw [List.append_assoc, List.take_append, List.length_map, lP, List.take_of_length_le (by simp; omega), List.singleton_append, show 12 - a = (11 - a) + 1 by omega, List.take_succ_cons]
            simp only [List.map_take, List.map_drop]
          rw [e]
          exact book_bad okT (fun s hs => okD s (List.mem_of_mem_take hs)) no (by simp; omega)
theorem spoiled_made {cs : List Nat} {ws : List (Dr × Dr)} {bs : List (List Rw)} (h1 : 1 ≤ cs.length) (h6 : cs.length ≤ 6) (cc : ∀ c ∈ cs, 1 ≤ c ∧ c ≤ 4) (h : BsOk cs bs) (y : Int) : ∃ r d, rtD r = .ok d ∧ m_is_books [d, net cs ws] = .ok (.v (.bl false)) ∧ m_law_spoiled [.lst (bs.map bkD), .lst (intsD' cs), .int y] = .ok r := by
  suffices h : Ends (m_law_spoiled [.lst (bs.map bkD), .lst (intsD' cs), .int y]) fun x => ∃ d, rtD x = .ok d ∧ m_is_books [d, net cs ws] = .ok (.v (.bl false)) by
    obtain ⟨b, e, d, h, h'⟩ := h
    exact ⟨b, d, h, h', e⟩
  have lcs : (intsD' cs).length = cs.length := by simp [intsD']
  have hl := h.l
  simp (disch := first | omega | (simp; done) | (simp; omega)) [m_law_spoiled, b_law_spoiled]
  refine ends_comp' bkD bs bkD (by simp) (by omega) (fun b _ => by simp [bkD]) ?_
  simp (disch := first | omega | (simp; done) | (simp; omega))
  by_cases t0 : y % 9 = 0
  · simp (disch := first | omega | (simp; done) | (simp; omega)) [t0]
    exact books_len (by simp; omega)
  · by_cases t1 : y % 9 = 1
    · simp (disch := first | omega | (simp; done) | (simp; omega)) [t1]
      exact books_len (by
        have : (cutL (bs.map bkD) none (some (-1))).length = bs.length - 1 := by
          unfold cutL HT.sIx
          simp
          omega
        rw [this]; omega)
    · by_cases t2 : y % 9 = 2
      · have x : ∃ d, isiD "list" d = .ok (.bl false) ∧ ixD (.lst [.tup (bs.map bkD), .non, .dK [] [], .int 0, .str (PySem.Str.ofString "-")]) (.int (y / 9 % 5)) = .ok d := by
          have q : y / 9 % 5 = 0 ∨ y / 9 % 5 = 1 ∨ y / 9 % 5 = 2 ∨ y / 9 % 5 = 3 ∨ y / 9 % 5 = 4 := by omega
          rcases q with q | q | q | q | q <;> rw [q] <;> exact ⟨_, rfl, rfl⟩
        obtain ⟨d, hd, ed⟩ := x
        simp (disch := first | omega | (simp; done) | (simp; omega)) [t2, ed]
        exact books_kind hd
      · obtain ⟨k, hk, ek⟩ := nat_mod (y / 9) (n := cs.length) (by omega)
        have hkb : k < bs.length := by omega
        obtain ⟨d, hd, ed⟩ := badbook_made (getD_pos cc hk).1 (getD_pos cc hk).2 (h.b k bs[k] (List.getElem?_eq_getElem hkb)) (y / 60)
        have ix1 : ixK (bs.map bkD) (.int (k : Int)) = .ok (bkD bs[k]) := ixK_n (by simp [hkb])
        have ix2 : ixD (.lst (intsD' cs)) (.int (k : Int)) = .ok (.int (cs.getD k 0 : Nat)) := ix_l (cs_at hk)
        have pu : ∀ ρ, putK 3 ρ (bs.map bkD) d (.int (k : Int)) = .ok (.nx (ρ.set 3 (.ow ((bs.map bkD).set k d)))) := fun ρ => putK_n (by simpa using hkb)
        have fin := books_bad (ws := ws) h6 h hkb hd
        simp only [List.getD_eq_getElem?_getD] at ix2 ed
        simp [t0, t1, t2, lcs, ek, show 0 < cs.length by omega, ix1, ix2, ed, pu, -List.map_set]
        exact fin
end N03
set_option Elab.async false
set_option linter.all false
set_option maxRecDepth 100000
set_option autoImplicit false
namespace N03
open PySem PySem.Spec L2 L3
theorem truth_ok (a b : Bool) : m_law_truth [.bl a, .bl b] = .ok (.v (.bl (a == b))) := by
  have e : eqR true (.bl a) (.bl b) = .ok (.bl (a == b)) := rfl
  simp [m_law_truth, b_law_truth, isi_bool, e]
theorem eq_op (o : Option Nat) : eqD (opD o) (opD o) = true := by
  cases o with
  | none => rfl
  | some k => simp [opD, eqD]
theorem eq_row (r : Rw) : eqD (rwD r) (rwD r) = true := by
  have h : eqL [.str r.p, opD r.a, opD r.b] [.str r.p, opD r.a, opD r.b] = true := by
    simp [eqL, eq_op]
    simp [eqD]
  unfold rwD
  rw [eqD]
  exact h
theorem eq_self {α : Type} (g : α → D) (h : ∀ a, eqD (g a) (g a) = true) : ∀ l : List α, eqL (l.map g) (l.map g) = true
  | [] => by simp [eqL]
  | a :: l => by simp [eqL, h a, eq_self g h l]
theorem eq_book (b : List Rw) : eqD (bkD b) (bkD b) = true := by
  unfold bkD
  rw [eqD]
  exact eq_self rwD eq_row b
theorem ok_op (n : Nat) (o : Option Nat) : okN n (opD o) = true := by cases o <;> cases n <;> rfl
theorem ok_books (bs : List (List Rw)) : okN 8 (.lst (bs.map bkD)) = true := by
  simp only [okN, List.all_map, List.all_eq_true]
  intro b _
  show okN 7 (bkD b) = true
  unfold bkD
  simp only [okN, List.all_map, List.all_eq_true]
  intro r _
  show okN 6 (rwD r) = true
  unfold rwD
  simp [okN, ok_op]
theorem ne_books (bs : List (List Rw)) : eqR false (.lst (bs.map bkD)) (.lst (bs.map bkD)) = .ok (.bl false) := by
  have q : eqD (.lst (bs.map bkD)) (.lst (bs.map bkD)) = true := by rw [eqD]; exact eq_self bkD eq_book bs
  simp only [eqR, ok_books, and_self, if_true, q]
  rfl
theorem cut_len (xs : List Int) (l : Option Int) (h : Nat) : (cutL xs l (some (h : Int))).length ≤ h := by
  unfold cutL
  rw [HT.sIx_nat]
  simp
  omega
theorem law_true (ns : List Int) : m_law [.scr (ns.map D.int)] = .ok (.v (.bl true)) := by
  apply Ends.done
  obtain ⟨cs, ⟨h1, h6⟩, cc, ec⟩ := counts_made ns
  obtain ⟨ws, nok, ew⟩ := wires_made ns cs h1 h6 cc
  have ei := init_ok cs ws nok
  have fold : D.ins "Net" ["many", "counts", "joined", "far"] [.int (cs.length : Int), .tup (intsD' cs), .tup (ws.map wrD), .dT (ksOf ws) (vsOf ws)] = net cs ws := rfl
  obtain ⟨bs, bok, eb⟩ := books_made (cutL ns (some 4) (some 63)) (Nat.le_trans (cut_len ns (some 4) 63) (by decide)) cs h1 h6 cc
  have cm : cutL (ns.map D.int) (some 4) (some 63) = (cutL ns (some 4) (some 63)).map D.int := cut_map _ _ _ _
  have yes := books_yes (ws := ws) h6 bok
  have hl := bok.l
  have e0 : BsOk cs (cs.map fun _ => []) := ⟨by simp, fun i b e => by
    rw [List.getElem?_map] at e
    cases ec : cs[i]? with
    | none => rw [ec] at e; cases e
    | some c => rw [ec] at e; cases e; exact ⟨by simp, fun r h => nomatch h⟩⟩
  have yes0 := books_yes (ws := ws) h6 e0
  have em : (cs.map fun _ => ([] : List Rw)).map bkD = cs.map fun _ => D.lst [] := by simp [bkD]
  rw [em] at yes0
  simp (disch := first | omega | (simp; done) | (simp; omega)) [m_law, b_law, ec, ew, ei, fold, cm, eb, toD_tr]
  refine ends_comp' bkD bs bkD (by simp) (by omega) (fun b _ => by simp [bkD]) ?_
  simp [yes, truth_ok, ne_books]
  refine ends_comp' (fun c : Nat => D.int (c : Int)) cs (fun _ => .lst []) (by simp [intsD']) (by omega) (fun c _ => by simp) ?_
  simp [yes0, truth_ok]
  have e3 : ([.int 0, .int 1, .int 2] : List D) ++ cutL (ns.map D.int) none (some 63) = ([0, 1, 2] ++ cutL ns none (some 63)).map D.int := by rw [cut_map]; simp
  have l3 : ([0, 1, 2] ++ cutL ns none (some 63)).length ≤ 66 := by
    have := cut_len ns none 63
    have e : cutL ns none (some ((63 : Nat) : Int)) = cutL ns none (some 63) := rfl
    rw [e] at this
    simp; omega
  generalize hzs : ([0, 1, 2] ++ cutL ns none (some 63) : List Int) = zs at e3 l3
  refine ends_for' (fun p : Int × Nat => .tup [.int (p.2 : Int), .int p.1]) zs.zipIdx (fun _ ρ => ∃ (s5 s6 s7 : Sl), ρ = [.fz (.scr (ns.map D.int)), .fz (.lst (intsD' cs)), .fz (net cs ws), .fz (.lst (bs.map bkD)), .fz (.lst (bs.map bkD)), s5, s6, s7]) ?_ ⟨.un, .un, .un, rfl⟩ ?_ ?_
  · have ad : addD (.lst [.int 0, .int 1, .int 2]) (.lst (cutL (ns.map D.int) none (some 63))) = .ok (.lst (zs.map D.int)) := by
      rw [← e3]
      have hh := congrArg List.length e3
      rw [List.length_map] at hh
      exact add_ll (by rw [← List.length_append, hh]; omega)
    simp [ad, enum_map]
  · rintro j ⟨z, j'⟩ _ hj ⟨s5, s6, s7, rfl⟩
    obtain ⟨e1, e2⟩ := zip_at hj
    simp only at e1 e2
    subst e1
    have hjl : j' < zs.length := (List.getElem?_eq_some_iff.mp e2).1
    obtain ⟨y, ey⟩ := mix_ok z (50 + j') (by omega)
    have ey' : m_law_mix [.int z, .int (50 + (j' : Int))] = .ok (.v (.int y)) := by rw [← ey]; simp
    obtain ⟨r, d, hr, hd, es⟩ := spoiled_made (ws := ws) h1 h6 cc bok y
    simp [ey', es, hr, hd, truth_ok]
  · rintro _ ⟨s5, s6, s7, rfl⟩
    simp
end N03
set_option Elab.async false
set_option linter.all false
set_option maxRecDepth 100000
set_option autoImplicit false
namespace N03
open PySem PySem.Spec L2 L3
theorem xf_ok {P : Program} {w : World} {K : PySem.W.Frag} {mg : Str → Option Value} {base : Heap} {x : Str} {st : Stmt} {N ps : List Str} {k : Nat} {m : MS} {f : Addr} {fd : FuncData} (fn : Fun K x x st f fd) (S : FnScope N ps (defScope st))
    (h : ∀ (f : Addr) (cdv : Value) (A : Around) (outer : List PySem.Env) (s : Shared) (H : Hp) (E : XK), Room k (A.deeper (PyProof.Rows.envOfC x (defScope st) s.heap.objs.size f cdv)) → ∀ G0 H0, XBM (cxOf CX0 P w K mg base N x (defScope st) f cdv A outer s H E).nox (fxB K G0 H0) (defBody st) m) :
    FnOk P w K mg base CX0 (k + 1) f fd ps (sp0 K ps.length (mDef N.length m)) := fn.ok S spM_len fun cdv A outer s H vs Q E hr hs => by
  obtain ⟨G, ht⟩ := body_of hs
  exact ⟨_, (h f cdv A outer s H E hr G H).1, ht⟩
structure Fh (K : PySem.W.Frag) (x : Str) (st : Stmt) : Prop where
  ex : ∃ (f : Addr) (od an : Option Addr) (sl : Array (Option Value)) (oc kV dc pm cd ct : Value), PySem.W.nsIn K mainGlobals x = some (some (.ref f)) ∧ K.lookup f = some ⟨oc, od, .func (PySem.W.fnOf x x (defArgs st) (defBody st) (defScope st) .none kV dc pm an cd ct), sl⟩ ∧ PySem.W.codeIn K cd x = true ∧ PySem.W.keepIn K (.ref f) = true
theorem fh_mk {K : PySem.W.Frag} {x : Str} {st : Stmt} {f : Addr} {od an : Option Addr} {sl : Array (Option Value)} {oc kV dc pm cd ct : Value} (a : PySem.W.nsIn K mainGlobals x = some (some (.ref f))) (l : K.lookup f = some ⟨oc, od, .func (PySem.W.fnOf x x (defArgs st) (defBody st) (defScope st) .none kV dc pm an cd ct), sl⟩) (c : PySem.W.codeIn K cd x = true) (k : PySem.W.keepIn K (.ref f) = true) : Fh K x st := ⟨f, od, an, sl, oc, kV, dc, pm, cd, ct, a, l, c, k⟩
theorem fd_of {K : PySem.W.Frag} {h : Heap} {mg : Str → Option Value} {x : Str} {st : Stmt} {ps : List Str} (X : K.In h) (G : h.Ns mainGlobals mg) (F : Fh K x st)
    (b : ∀ (kV doc pm : Value) (an : Option Addr) (cdv ct : Value) (us : List Value), us.length = ps.length → bindArgs (PySem.W.fnOf x x (defArgs st) (defBody st) (defScope st) .none kV doc pm an cdv ct) ⟨us, []⟩ = pure (ps.zip us)) : Fd K mg x st ps := by
  obtain ⟨f, od, an, sl, oc, kV, dc, pm, cd, ct, a, l, c, k⟩ := F.ex
  exact fd_mk (st := st) X G a l c k b
structure Mh (K : PySem.W.Frag) (C : Addr) (x qual : Str) (st : Stmt) : Prop where
  ex : ∃ (f : Addr) (od an : Option Addr) (sl : Array (Option Value)) (oc kV dc pm cd ct : Value), PySem.W.findIn K (.ref C) x = some (some (.ref f)) ∧ K.lookup f = some ⟨oc, od, .func (PySem.W.fnOf x qual (defArgs st) (defBody st) (defScope st) .none kV dc pm an cd ct), sl⟩ ∧ PySem.W.codeIn K cd qual = true ∧ PySem.W.keepIn K (.ref f) = true ∧ PySem.W.isFn K (.ref f) = true
theorem mh_mk {K : PySem.W.Frag} {C : Addr} {x qual : Str} {st : Stmt} {f : Addr} {od an : Option Addr} {sl : Array (Option Value)} {oc kV dc pm cd ct : Value} (a : PySem.W.findIn K (.ref C) x = some (some (.ref f))) (l : K.lookup f = some ⟨oc, od, .func (PySem.W.fnOf x qual (defArgs st) (defBody st) (defScope st) .none kV dc pm an cd ct), sl⟩) (c : PySem.W.codeIn K cd qual = true) (k : PySem.W.keepIn K (.ref f) = true) (i : PySem.W.isFn K (.ref f) = true) : Mh K C x qual st := ⟨f, od, an, sl, oc, kV, dc, pm, cd, ct, a, l, c, k, i⟩
theorem mm_of {K : PySem.W.Frag} {cn x qual : Str} {C : Addr} {st : Stmt} {ps : List Str} (n : PySem.W.nsIn K mainGlobals cn = some (some (.ref C))) (g1 : PySem.W.plainGet K C Str.empty = true) (g2 : PySem.W.hasDictIn K C = true) (g3 : PySem.W.plainOver K C = true) (g4 : PySem.W.findIn K (.ref C) "__setattr__" = some (some (.builtin "object.__setattr__"))) (F : Mh K C x qual st)
    (b : ∀ (kV doc pm : Value) (an : Option Addr) (cdv ct : Value) (us : List Value), us.length = ps.length → bindArgs (PySem.W.fnOf x qual (defArgs st) (defBody st) (defScope st) .none kV doc pm an cdv ct) ⟨us, []⟩ = pure (ps.zip us)) : MdK K cn x qual st ps := by
  obtain ⟨f, od, an, sl, oc, kV, dc, pm, cd, ct, a, l, c, k, i⟩ := F.ex
  exact ⟨⟨C, f, _, n, ⟨g1, g2, g3, g4⟩, ⟨a, i, k⟩, fun_mk (st := st) l c k, (fun_mk (st := st) l c k).binds b⟩⟩
theorem mi_of {K : PySem.W.Frag} {h : Heap} {mg : Str → Option Value} {cn qual : Str} {C : Addr} {st : Stmt} {ps : List Str} (X : K.In h) (G : h.Ns mainGlobals mg) (n : PySem.W.nsIn K mainGlobals cn = some (some (.ref C))) (mk : PySem.W.makesIn K C = true) (kc : PySem.W.keepIn K (.ref C) = true) (F : Mh K C "__init__" qual st)
    (b : ∀ (kV doc pm : Value) (an : Option Addr) (cdv ct : Value) (us : List Value), us.length = ps.length → bindArgs (PySem.W.fnOf "__init__" qual (defArgs st) (defBody st) (defScope st) .none kV doc pm an cdv ct) ⟨us, []⟩ = pure (ps.zip us)) : InK K mg cn qual st ps := by
  obtain ⟨f, od, an, sl, oc, kV, dc, pm, cd, ct, a, l, c, k, i⟩ := F.ex
  exact ⟨⟨C, f, _, n, ⟨mk, a, i, kc⟩, fun_mk (st := st) l c k, PySem.W.mg_of X G n, (fun_mk (st := st) l c k).binds b⟩⟩
set_option maxHeartbeats 4000000 in
theorem tx_mk {K : PySem.W.Frag} {h : Heap} {mg : Str → Option Value} {C_Net : Addr} {t_MOST_DOORS_0 : Tok} {t_MOST_HOUSES_0 : Tok} {t_MOST_ROWS_0 : Tok} {A_SIGNS : Addr} {dd_SIGNS : Option Addr} {n_SIGNS : Nat} {sl_SIGNS : Array (Option Value)} {t_SIGNS_0 t_SIGNS_1 t_SIGNS_2 : Tok} {A_WORTHS : Addr} {dd_WORTHS : Option Addr} {n_WORTHS : Nat} {sl_WORTHS : Array (Option Value)} {t_WORTHS_0 t_WORTHS_1 t_WORTHS_2 t_WORTHS_3 : Tok} (X : K.In h) (G : h.Ns mainGlobals mg)
    (n_Net : PySem.W.nsIn K mainGlobals "Net" = some (some (.ref C_Net))) (g1_Net : PySem.W.plainGet K C_Net Str.empty = true) (g2_Net : PySem.W.hasDictIn K C_Net = true) (g3_Net : PySem.W.plainOver K C_Net = true) (g4_Net : PySem.W.findIn K (.ref C_Net) "__setattr__" = some (some (.builtin "object.__setattr__"))) (u_Net_many : PySem.W.findIn K (.ref C_Net) "many" = some none) (u_Net_counts : PySem.W.findIn K (.ref C_Net) "counts" = some none) (u_Net_joined : PySem.W.findIn K (.ref C_Net) "joined" = some none) (u_Net_far : PySem.W.findIn K (.ref C_Net) "far" = some none) (mk_Net : PySem.W.makesIn K C_Net = true) (kc_Net : PySem.W.keepIn K (.ref C_Net) = true)
    (spc0 : PySem.W.specialIn K (.builtin "object.__class__") "__get__" = some (some (.builtin "getset_descriptor.__get__"))) (tkc0 : PySem.W.takesIn K (.builtin "object.__class__") = some true)
    (h0 : Fh K "_law_mix" s_law_mix)
    (h1 : Fh K "_law_cell_at" s_law_cell_at)
    (h2 : Fh K "_law_counts" s_law_counts)
    (h3 : Fh K "is_pair" s_is_pair)
    (h4 : Fh K "is_whole" s_is_whole)
    (h5 : Fh K "is_whole_within" s_is_whole_within)
    (h6 : Fh K "is_door_among" s_is_door_among)
    (h7 : Fh K "is_wire_among" s_is_wire_among)
    (h8 : Fh K "far_doors" s_far_doors)
    (h9 : Fh K "are_counts" s_are_counts)
    (h10 : Mh K C_Net "__init__" "Net.__init__" s_Net_init)
    (h11 : Fh K "_law_pattern" s_law_pattern)
    (h12 : Fh K "_law_row" s_law_row)
    (h13 : Fh K "_law_books" s_law_books)
    (h14 : Fh K "_law_doors" s_law_doors)
    (h15 : Fh K "_law_wires" s_law_wires)
    (h16 : Fh K "_law_truth" s_law_truth)
    (h17 : Fh K "_law_bad_row" s_law_bad_row)
    (h18 : Fh K "_law_bad_book" s_law_bad_book)
    (h19 : Fh K "_law_spoiled" s_law_spoiled)
    (h20 : Fh K "is_pattern" s_is_pattern)
    (h21 : Fh K "is_number_or_none" s_is_number_or_none)
    (h22 : Fh K "is_row" s_is_row)
    (h23 : Fh K "is_book" s_is_book)
    (h24 : Mh K C_Net "count" "Net.count" s_Net_count)
    (h25 : Fh K "is_books" s_is_books)
    (h26 : Fh K "law" s_law)
    (z_all : PySem.W.nsIn K mainGlobals "all" = some none)
    (z_bool : PySem.W.nsIn K mainGlobals "bool" = some none)
    (z_enumerate : PySem.W.nsIn K mainGlobals "enumerate" = some none)
    (z_int : PySem.W.nsIn K mainGlobals "int" = some none)
    (z_isinstance : PySem.W.nsIn K mainGlobals "isinstance" = some none)
    (z_len : PySem.W.nsIn K mainGlobals "len" = some none)
    (z_list : PySem.W.nsIn K mainGlobals "list" = some none)
    (z_range : PySem.W.nsIn K mainGlobals "range" = some none)
    (z_sorted : PySem.W.nsIn K mainGlobals "sorted" = some none)
    (z_str : PySem.W.nsIn K mainGlobals "str" = some none)
    (z_tuple : PySem.W.nsIn K mainGlobals "tuple" = some none)
    (z_MOST_DOORS : PySem.W.nsIn K mainGlobals "MOST_DOORS" = some (some (.int 4 t_MOST_DOORS_0)))
    (z_MOST_HOUSES : PySem.W.nsIn K mainGlobals "MOST_HOUSES" = some (some (.int 6 t_MOST_HOUSES_0)))
    (z_MOST_ROWS : PySem.W.nsIn K mainGlobals "MOST_ROWS" = some (some (.int 12 t_MOST_ROWS_0)))
    (z_SIGNS : PySem.W.nsIn K mainGlobals "SIGNS" = some (some (.ref A_SIGNS))) (y_SIGNS : K.lookup A_SIGNS = some ⟨.type "tuple", dd_SIGNS, .seq #[.str (PySem.Str.ofString "0") t_SIGNS_0, .str (PySem.Str.ofString "1") t_SIGNS_1, .str (PySem.Str.ofString "x") t_SIGNS_2] n_SIGNS, sl_SIGNS⟩)
    (z_WORTHS : PySem.W.nsIn K mainGlobals "WORTHS" = some (some (.ref A_WORTHS))) (y_WORTHS : K.lookup A_WORTHS = some ⟨.type "tuple", dd_WORTHS, .seq #[.int 8 t_WORTHS_0, .int 4 t_WORTHS_1, .int 2 t_WORTHS_2, .int 1 t_WORTHS_3] n_WORTHS, sl_WORTHS⟩) : Tx K mg where
  k_Net := ⟨C_Net, n_Net, ⟨g1_Net, g2_Net, g3_Net, g4_Net⟩, (List.forall_mem_cons.2 ⟨u_Net_many, (List.forall_mem_cons.2 ⟨u_Net_counts, (List.forall_mem_cons.2 ⟨u_Net_joined, (List.forall_mem_cons.2 ⟨u_Net_far, (fun _ h => absurd h List.not_mem_nil)⟩)⟩)⟩)⟩)⟩
  f_law_mix := fd_of X G h0 fun _ _ _ _ _ _ us hl => match us, hl with | [_, _], _ => rfl
  f_law_cell_at := fd_of X G h1 fun _ _ _ _ _ _ us hl => match us, hl with | [_, _], _ => rfl
  f_law_counts := fd_of X G h2 fun _ _ _ _ _ _ us hl => match us, hl with | [_], _ => rfl
  f_is_pair := fd_of X G h3 fun _ _ _ _ _ _ us hl => match us, hl with | [_], _ => rfl
  f_is_whole := fd_of X G h4 fun _ _ _ _ _ _ us hl => match us, hl with | [_], _ => rfl
  f_is_whole_within := fd_of X G h5 fun _ _ _ _ _ _ us hl => match us, hl with | [_, _, _], _ => rfl
  f_is_door_among := fd_of X G h6 fun _ _ _ _ _ _ us hl => match us, hl with | [_, _], _ => rfl
  f_is_wire_among := fd_of X G h7 fun _ _ _ _ _ _ us hl => match us, hl with | [_, _], _ => rfl
  f_far_doors := fd_of X G h8 fun _ _ _ _ _ _ us hl => match us, hl with | [_, _], _ => rfl
  f_are_counts := fd_of X G h9 fun _ _ _ _ _ _ us hl => match us, hl with | [_], _ => rfl
  f_Net_init := mi_of X G n_Net mk_Net kc_Net h10 fun _ _ _ _ _ _ us hl => match us, hl with | [_, _, _], _ => rfl
  f_law_pattern := fd_of X G h11 fun _ _ _ _ _ _ us hl => match us, hl with | [_], _ => rfl
  f_law_row := fd_of X G h12 fun _ _ _ _ _ _ us hl => match us, hl with | [_, _, _], _ => rfl
  f_law_books := fd_of X G h13 fun _ _ _ _ _ _ us hl => match us, hl with | [_, _], _ => rfl
  f_law_doors := fd_of X G h14 fun _ _ _ _ _ _ us hl => match us, hl with | [_], _ => rfl
  f_law_wires := fd_of X G h15 fun _ _ _ _ _ _ us hl => match us, hl with | [_, _], _ => rfl
  f_law_truth := fd_of X G h16 fun _ _ _ _ _ _ us hl => match us, hl with | [_, _], _ => rfl
  f_law_bad_row := fd_of X G h17 fun _ _ _ _ _ _ us hl => match us, hl with | [_, _, _], _ => rfl
  f_law_bad_book := fd_of X G h18 fun _ _ _ _ _ _ us hl => match us, hl with | [_, _, _], _ => rfl
  f_law_spoiled := fd_of X G h19 fun _ _ _ _ _ _ us hl => match us, hl with | [_, _, _], _ => rfl
  f_is_pattern := fd_of X G h20 fun _ _ _ _ _ _ us hl => match us, hl with | [_], _ => rfl
  f_is_number_or_none := fd_of X G h21 fun _ _ _ _ _ _ us hl => match us, hl with | [_, _], _ => rfl
  f_is_row := fd_of X G h22 fun _ _ _ _ _ _ us hl => match us, hl with | [_, _], _ => rfl
  f_is_book := fd_of X G h23 fun _ _ _ _ _ _ us hl => match us, hl with | [_, _], _ => rfl
  f_Net_count := mm_of n_Net g1_Net g2_Net g3_Net g4_Net h24 fun _ _ _ _ _ _ us hl => match us, hl with | [_, _], _ => rfl
  f_is_books := fd_of X G h25 fun _ _ _ _ _ _ us hl => match us, hl with | [_, _], _ => rfl
  f_law := fd_of X G h26 fun _ _ _ _ _ _ us hl => match us, hl with | [_], _ => rfl
  b_all := PySem.W.mg_none_of X G z_all
  b_bool := PySem.W.mg_none_of X G z_bool
  b_enumerate := PySem.W.mg_none_of X G z_enumerate
  b_int := PySem.W.mg_none_of X G z_int
  b_isinstance := PySem.W.mg_none_of X G z_isinstance
  b_len := PySem.W.mg_none_of X G z_len
  b_list := PySem.W.mg_none_of X G z_list
  b_range := PySem.W.mg_none_of X G z_range
  b_sorted := PySem.W.mg_none_of X G z_sorted
  b_str := PySem.W.mg_none_of X G z_str
  b_tuple := PySem.W.mg_none_of X G z_tuple
  c_MOST_DOORS := ⟨⟨_, _, PySem.W.mg_of X G z_MOST_DOORS, (rv_int _ _), fun _ => (a_int _)⟩⟩
  c_MOST_HOUSES := ⟨⟨_, _, PySem.W.mg_of X G z_MOST_HOUSES, (rv_int _ _), fun _ => (a_int _)⟩⟩
  c_MOST_ROWS := ⟨⟨_, _, PySem.W.mg_of X G z_MOST_ROWS, (rv_int _ _), fun _ => (a_int _)⟩⟩
  c_SIGNS := ⟨⟨.ref A_SIGNS, _, PySem.W.mg_of X G z_SIGNS, rfl, tup_at y_SIGNS (Nat.le_of_ble_eq_true rfl) (.cons (rv_str _ _) (.cons (rv_str _ _) (.cons (rv_str _ _) .nil))) fun _ => (.cons (a_str _) (.cons (a_str _) (.cons (a_str _) .nil)))⟩⟩
  c_WORTHS := ⟨⟨.ref A_WORTHS, _, PySem.W.mg_of X G z_WORTHS, rfl, tup_at y_WORTHS (Nat.le_of_ble_eq_true rfl) (.cons (rv_int _ _) (.cons (rv_int _ _) (.cons (rv_int _ _) (.cons (rv_int _ _) .nil)))) fun _ => (.cons (a_int _) (.cons (a_int _) (.cons (a_int _) (.cons (a_int _) .nil))))⟩⟩
set_option maxHeartbeats 4000000 in
theorem all_mk {l : PySem.W.OpenLaw} {w : World} {K : PySem.W.Frag} {h : Heap} {mg : Str → Option Value} {fa : Addr} (X : K.In h) (G : h.Ns mainGlobals mg) (hfa : mg "law" = some (.ref fa)) (F : Fh K "law" s_law) (T : Tx K mg) :
    ∃ fd : FuncData, (∀ (s : Shared) (v : Value), BindsTo s fd ⟨[v], []⟩ [("_law_script", v)]) ∧ ∀ base : Heap, K.In base → base.Ns mainGlobals mg → FnOk l.prog w K mg base CX0 8 fa fd ["_law_script"] (sp0 K 1 m_law) := by
  obtain ⟨f, od, an, sl, oc, kV, dc, pm, cd, ct, a, lk, c, k⟩ := F.ex
  have e := hfa.symm.trans (PySem.W.mg_of X G a)
  cases e
  exact ⟨_, fun s v => .of_eq rfl, fun base _ _ => xf_ok (fun_mk (st := s_law) lk c k) sc_law (bm_law T)⟩
theorem lawsp (K : PySem.W.Frag) (H : Hp) (a : Addr) (ns : List Int) (hS : SqL K H a (ns.map V.int)) : sp0 K 1 m_law [.ref a] H (fun v _ => v = .bl true) (fun _ _ _ => False) :=
  law_sp (K := K) (mf := m_law) (H := H) (a := a) (ns := ns) hS (law_true ns) (fun _ _ _ => False)
theorem walkQ {l : PySem.W.OpenLaw} {q : Program} {loose : List Str} {XP : (Str → Option Value) → Heap → Prop} {YP : World → Heap → Prop} {d : DefRec} {K : Params → PySem.W.Frag} (hn : l.most = some 63) (hdf : d.params.defaults = [])
    (hY : ∀ (w : World) (h : Heap), YP w h → (K w.params).In h)
    (F : ∀ (w : World) (mg : Str → Option Value) (fa : Addr) (h : Heap), (K w.params).In h → h.Ns mainGlobals mg → mg d.name = some (.ref fa) →
      ∃ fd : FuncData, (∀ (s : Shared) (u : Value), BindsTo s fd ⟨[u], []⟩ [("_law_script", u)]) ∧ ∀ base : Heap, (K w.params).In base → base.Ns mainGlobals mg → FnOk l.prog w (K w.params) mg base CX0 8 fa fd ["_law_script"] (sp0 (K w.params) 1 m_law)) :
    PySem.W.WalkO q loose XP YP l.row.toRowW d [] (fun f vs => PySem.call f vs) :=
  L2.walk_of (n := 63) (k := 8) (x := "_law_script") (CX := fun _ => CX0) (sp := fun w => sp0 (K w.params) 1 m_law) hn (by decide) hdf ⟨rfl, by decide, by decide⟩ hY F (fun w H a ns _ _ hS => lawsp (K w.params) H a ns hS) fun _ _ _ _ _ z => z
end N03
set_option Elab.async false
set_option linter.all false
set_option maxRecDepth 100000
open PySem PySem.W PyProof.Rows
set_option maxRecDepth 100000 in
set_option maxHeartbeats 0 in
theorem PySem.Challenge.cw_nohalfway_k03_books_or_not_holds : PySem.Challenge.rw_nohalfway_k03_books_or_not.Holds := by
  w_on; o_law; k_head; (case hw => w_witness2)
  k_fill
  refine N03.walkQ (l := PySem.Challenge.rw_nohalfway_k03_books_or_not) rfl rfl (fun w h Y => PySem.W.kIn_of Y) ?F
  case F =>
    intro w mg fa h KX G hmg
    refine' N03.all_mk KX G hmg ?h26 (N03.tx_mk KX G ?n_Net ?g1_Net ?g2_Net ?g3_Net ?g4_Net ?u_Net_many ?u_Net_counts ?u_Net_joined ?u_Net_far ?mk_Net ?kc_Net ?spc0 ?tkc0 ?h0 ?h1 ?h2 ?h3 ?h4 ?h5 ?h6 ?h7 ?h8 ?h9 ?h10 ?h11 ?h12 ?h13 ?h14 ?h15 ?h16 ?h17 ?h18 ?h19 ?h20 ?h21 ?h22 ?h23 ?h24 ?h25 ?h26 ?z_all ?z_bool ?z_enumerate ?z_int ?z_isinstance ?z_len ?z_list ?z_range ?z_sorted ?z_str ?z_tuple ?z_MOST_DOORS ?z_MOST_HOUSES ?z_MOST_ROWS ?z_SIGNS ?y_SIGNS ?z_WORTHS ?y_WORTHS)
    (case n_Net => k_is)
    (case g1_Net => k_is)
    (case g2_Net => k_is)
    (case g3_Net => k_is)
    (case g4_Net => k_is)
    (case u_Net_many => k_is)
    (case u_Net_counts => k_is)
    (case u_Net_joined => k_is)
    (case u_Net_far => k_is)
    (case mk_Net => k_is)
    (case kc_Net => k_is)
    (case spc0 => k_is)
    (case tkc0 => k_is)
    (case z_all => k_is)
    (case z_bool => k_is)
    (case z_enumerate => k_is)
    (case z_int => k_is)
    (case z_isinstance => k_is)
    (case z_len => k_is)
    (case z_list => k_is)
    (case z_range => k_is)
    (case z_sorted => k_is)
    (case z_str => k_is)
    (case z_tuple => k_is)
    (case z_MOST_DOORS => k_is)
    (case z_MOST_HOUSES => k_is)
    (case z_MOST_ROWS => k_is)
    (case z_SIGNS => k_is)
    (case y_SIGNS => k_is)
    (case z_WORTHS => k_is)
    (case y_WORTHS => k_is)
    (case h0 => (refine' N03.fh_mk ?a ?l ?c ?k; (case a => k_is); (case l => k_is); (case c => k_is); (case k => k_is)))
    (case h1 => (refine' N03.fh_mk ?a ?l ?c ?k; (case a => k_is); (case l => k_is); (case c => k_is); (case k => k_is)))
    (case h2 => (refine' N03.fh_mk ?a ?l ?c ?k; (case a => k_is); (case l => k_is); (case c => k_is); (case k => k_is)))
    (case h3 => (refine' N03.fh_mk ?a ?l ?c ?k; (case a => k_is); (case l => k_is); (case c => k_is); (case k => k_is)))
    (case h4 => (refine' N03.fh_mk ?a ?l ?c ?k; (case a => k_is); (case l => k_is); (case c => k_is); (case k => k_is)))
    (case h5 => (refine' N03.fh_mk ?a ?l ?c ?k; (case a => k_is); (case l => k_is); (case c => k_is); (case k => k_is)))
    (case h6 => (refine' N03.fh_mk ?a ?l ?c ?k; (case a => k_is); (case l => k_is); (case c => k_is); (case k => k_is)))
    (case h7 => (refine' N03.fh_mk ?a ?l ?c ?k; (case a => k_is); (case l => k_is); (case c => k_is); (case k => k_is)))
    (case h8 => (refine' N03.fh_mk ?a ?l ?c ?k; (case a => k_is); (case l => k_is); (case c => k_is); (case k => k_is)))
    (case h9 => (refine' N03.fh_mk ?a ?l ?c ?k; (case a => k_is); (case l => k_is); (case c => k_is); (case k => k_is)))
    (case h10 => (refine' N03.mh_mk ?a ?l ?c ?k ?i; (case a => k_is); (case l => k_is); (case c => k_is); (case k => k_is); (case i => k_is)))
    (case h11 => (refine' N03.fh_mk ?a ?l ?c ?k; (case a => k_is); (case l => k_is); (case c => k_is); (case k => k_is)))
    (case h12 => (refine' N03.fh_mk ?a ?l ?c ?k; (case a => k_is); (case l => k_is); (case c => k_is); (case k => k_is)))
    (case h13 => (refine' N03.fh_mk ?a ?l ?c ?k; (case a => k_is); (case l => k_is); (case c => k_is); (case k => k_is)))
    (case h14 => (refine' N03.fh_mk ?a ?l ?c ?k; (case a => k_is); (case l => k_is); (case c => k_is); (case k => k_is)))
    (case h15 => (refine' N03.fh_mk ?a ?l ?c ?k; (case a => k_is); (case l => k_is); (case c => k_is); (case k => k_is)))
    (case h16 => (refine' N03.fh_mk ?a ?l ?c ?k; (case a => k_is); (case l => k_is); (case c => k_is); (case k => k_is)))
    (case h17 => (refine' N03.fh_mk ?a ?l ?c ?k; (case a => k_is); (case l => k_is); (case c => k_is); (case k => k_is)))
    (case h18 => (refine' N03.fh_mk ?a ?l ?c ?k; (case a => k_is); (case l => k_is); (case c => k_is); (case k => k_is)))
    (case h19 => (refine' N03.fh_mk ?a ?l ?c ?k; (case a => k_is); (case l => k_is); (case c => k_is); (case k => k_is)))
    (case h20 => (refine' N03.fh_mk ?a ?l ?c ?k; (case a => k_is); (case l => k_is); (case c => k_is); (case k => k_is)))
    (case h21 => (refine' N03.fh_mk ?a ?l ?c ?k; (case a => k_is); (case l => k_is); (case c => k_is); (case k => k_is)))
    (case h22 => (refine' N03.fh_mk ?a ?l ?c ?k; (case a => k_is); (case l => k_is); (case c => k_is); (case k => k_is)))
    (case h23 => (refine' N03.fh_mk ?a ?l ?c ?k; (case a => k_is); (case l => k_is); (case c => k_is); (case k => k_is)))
    (case h24 => (refine' N03.mh_mk ?a ?l ?c ?k ?i; (case a => k_is); (case l => k_is); (case c => k_is); (case k => k_is); (case i => k_is)))
    (case h25 => (refine' N03.fh_mk ?a ?l ?c ?k; (case a => k_is); (case l => k_is); (case c => k_is); (case k => k_is)))
    (case h26 => (refine' N03.fh_mk ?a ?l ?c ?k; (case a => k_is); (case l => k_is); (case c => k_is); (case k => k_is)))

