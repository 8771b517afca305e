import PyProof.Rows.All
import Wide.All
import OpenK.AllK
import Wide.FinOn
import Lean
import PyProof.EqAt
import PyProof.EqKinds
import PyProof.TupleCall
import PyProof.NeKinds
import PySem.Challenge.RW_nohalfway_k01_patterns
set_option Elab.async false
set_option linter.all false
set_option maxRecDepth 100000
/-! THE HAND LAYER, for ints, bools, texts, own classes, LISTS and tuples (index, slices, in, append, pop ..), calls, loops. Paste it whole ahead of your own text; what your proof does not reach may be deleted. -/
namespace L2
open PySem PySem.Spec PyProof.Rows

/-- a key: an int or a str -/
abbrev Key := Sum Int Str
def keyIs : Key → Value → Bool
  | .inl k, v => Value.isInt k v
  | .inr x, v => Value.isStrOf x v
def keyH (w : World) : Key → Int
  | .inl k => hashInt k
  | .inr x => hashStr w x
theorem keyIs_shape : ∀ {k : Key} {v : Value}, keyIs k v = true → (∃ i t, k = Sum.inl i ∧ v = Value.int i t) ∨ (∃ x t, k = Sum.inr x ∧ v = Value.str x t)
  | .inl i, v, h => by
    obtain ⟨t, e⟩ := Value.isInt_shape (k := i) (v := v) h
    exact .inl ⟨i, t, rfl, e⟩
  | .inr x, v, h => by
    obtain ⟨t, e⟩ := Value.isStrOf_shape (x := x) (v := v) h
    exact .inr ⟨x, t, rfl, e⟩
theorem keyIs_int (i : Int) (t : Tok) : keyIs (.inl i) (.int i t) = true := by simp [keyIs, Value.isInt]
theorem keyIs_str (x : Str) (t : Tok) : keyIs (.inr x) (.str x t) = true := by simp [keyIs, Value.isStrOf]
theorem key_ll (a b : Int) : decide ((Sum.inl a : Key) = Sum.inl b) = (a == b) := by
  by_cases e : a = b
  · subst e; simp
  · have h : ¬ (Sum.inl a : Key) = Sum.inl b := fun q => e (Sum.inl.inj q)
    rw [decide_eq_false h]
    exact (beq_eq_false_iff_ne.mpr e).symm
theorem key_rr (a b : Str) : decide ((Sum.inr a : Key) = Sum.inr b) = decide (a = b) := by
  by_cases e : a = b
  · subst e; simp
  · have h : ¬ (Sum.inr a : Key) = Sum.inr b := fun q => e (Sum.inr.inj q)
    rw [decide_eq_false h, decide_eq_false e]
theorem key_lr (a : Int) (b : Str) : decide ((Sum.inl a : Key) = Sum.inr b) = false := decide_eq_false (fun q => nomatch q)
theorem key_rl (a : Str) (b : Int) : decide ((Sum.inr a : Key) = Sum.inl b) = false := decide_eq_false (fun q => nomatch q)

def mixKind (prog : Program) (w : World) : PySem.KeyKind prog w Key where
  is := keyIs
  hash := keyH w
  inj := fun v a b ha hb => by
    rcases keyIs_shape ha with ⟨i, t, rfl, rfl⟩ | ⟨x, t, rfl, rfl⟩
    · rcases keyIs_shape hb with ⟨j, u, rfl, e⟩ | ⟨y, u, rfl, e⟩
      · injection e with e1 _; rw [e1]
      · exact nomatch e
    · rcases keyIs_shape hb with ⟨j, u, rfl, e⟩ | ⟨y, u, rfl, e⟩
      · exact nomatch e
      · injection e with e1 _; rw [e1]
  byValue := fun k v h => by
    rcases keyIs_shape h with ⟨i, t, rfl, rfl⟩ | ⟨x, t, rfl, rfl⟩ <;> rfl
  pyHash := fun hv h => by
    rcases keyIs_shape hv with ⟨i, t, rfl, rfl⟩ | ⟨x, t, rfl, rfl⟩
    · exact wpAny_pyHash_int h
    · exact wpAny_pyHash_str h
  eqBool := fun hu hv h => by
    rcases keyIs_shape hu with ⟨i, t, rfl, rfl⟩ | ⟨x, t, rfl, rfl⟩
    · rcases keyIs_shape hv with ⟨j, u, rfl, rfl⟩ | ⟨y, u, rfl, rfl⟩
      · rw [key_ll] at h; exact wpAny_eqBool_int h
      · rw [key_lr] at h; exact SeqAt.EqAt.int_str i t y u _ _ _ _ h
    · rcases keyIs_shape hv with ⟨j, u, rfl, rfl⟩ | ⟨y, u, rfl, rfl⟩
      · rw [key_rl] at h; exact SeqAt.EqAt.str_int x t j u _ _ _ _ h
      · rw [key_rr] at h; exact wpAny_eqBool_str h
  «strs» := fun k x t v h => by
    rcases keyIs_shape h with ⟨i, u, rfl, e⟩ | ⟨y, u, rfl, e⟩
    · exact nomatch e
    · injection e with e1 _
      subst e1
      cases v <;> rfl

theorem mixKind_is (prog : Program) (w : World) (k : Key) (v : Value) : (mixKind prog w).is k v = keyIs k v := rfl
theorem mixKind_int (prog : Program) (w : World) (i : Int) (t : Tok) : (mixKind prog w).is (.inl i) (.int i t) = true := keyIs_int i t
theorem mixKind_str (prog : Program) (w : World) (x : Str) (t : Tok) : (mixKind prog w).is (.inr x) (.str x t) = true := keyIs_str x t
end L2

namespace L2
open PySem PySem.Spec PyProof.Rows

/-- a value, without the heap -/
inductive V where
  | non | bl (b : Bool) | int (i : Int) | str (x : Str) | byt (b : Array UInt8) | flt (b : UInt64) | ref (a : Addr) | ty (n : String)
  deriving DecidableEq

def RelV : V → Value → Prop
  | .non, u => u = Value.none
  | .bl b, u => u = Value.bool b
  | .int i, u => ∃ t, u = Value.int i t
  | .str x, u => ∃ t, u = Value.str x t
  | .byt b, u => ∃ t, u = Value.bytes b t
  | .flt b, u => ∃ t, u = Value.float b t
  | .ref a, u => u = Value.ref a
  | .ty n, u => u = Value.type n

abbrev Vals : List V → List Value → Prop := Paired RelV
theorem Vals.length {xs : List V} {us : List Value} (r : Vals xs us) : xs.length = us.length := Paired.length r
theorem Vals.get : ∀ {xs : List V} {us : List Value} {i : Nat} {x : V}, Vals xs us → xs[i]? = some x → ∃ u, us[i]? = some u ∧ RelV x u
  | _, _, _, _, .nil, e => by simp at e
  | _, _, 0, _, .cons r _, e => by simp at e; subst e; exact ⟨_, rfl, r⟩
  | _, _, i + 1, x, .cons _ t, e => by
    obtain ⟨u, h1, h2⟩ := Vals.get (i := i) (x := x) t (by simpa using e)
    exact ⟨u, by simpa using h1, h2⟩
theorem Vals.set {x : V} {u : Value} (r : RelV x u) : ∀ {xs : List V} {us : List Value} (i : Nat), Vals xs us → Vals (xs.set i x) (us.set i u)
  | _, _, _, .nil => .nil
  | _, _, 0, .cons _ t => .cons r t
  | _, _, i + 1, .cons q t => .cons q (Vals.set r i t)
theorem Vals.append : ∀ {xs ys : List V} {us ws : List Value}, Vals xs us → Vals ys ws → Vals (xs ++ ys) (us ++ ws)
  | _, _, _, _, .nil, s => s
  | _, _, _, _, .cons r t, s => .cons r (Vals.append t s)
theorem Vals.take : ∀ {xs : List V} {us : List Value} (n : Nat), Vals xs us → Vals (xs.take n) (us.take n)
  | _, _, 0, _ => .nil
  | _, _, _ + 1, .nil => .nil
  | _, _, n + 1, .cons r t => .cons r (Vals.take n t)
theorem Vals.drop : ∀ {xs : List V} {us : List Value} (n : Nat), Vals xs us → Vals (xs.drop n) (us.drop n)
  | _, _, 0, r => r
  | _, _, _ + 1, .nil => .nil
  | _, _, n + 1, .cons _ t => Vals.drop n t
theorem Vals.none_of : ∀ {xs : List V} {us : List Value} {i : Nat}, Vals xs us → xs[i]? = none → us[i]? = none := fun {xs us i} r e => by
  have h1 := r.length
  have h2 : xs.length ≤ i := List.getElem?_eq_none_iff.mp e
  exact List.getElem?_eq_none_iff.mpr (by omega)

def RelO : Option V → Option Value → Prop
  | some v, some u => RelV v u
  | none, none => True
  | _, _ => False
def KV {κ : Type} : List (κ × V) → List (κ × Value) → Prop := Paired fun (p : κ × V) (q : κ × Value) => p.1 = q.1 ∧ RelV p.2 q.2

/-- a key of a dict (00_mix): an int or a text -/
def kV : Key → V
  | .inl i => .int i
  | .inr x => .str x

/-- what stands at a tracked address -/
inductive HO where
  /-- a list -/
  | lst (xs : List V)
  /-- a tuple (never changes) -/
  | tup (xs : List V)
  /-- a dict whose keys are ints and texts; one whose keys are tuples of ints and texts (the empty one is both) -/
  | dK (kvs : List (Key × V)) | dT (kvs : List (List Key × V))
  /-- a set of ints: its members, its size -/
  | set (S : Int → Bool) (n : Nat)
  /-- an instance of the class at C, its dict at dx, its attributes -/
  | ins (C dx : Addr) (fs : List (Str × V))
  /-- the dict of the instance at x -/
  | own (x : Addr)
  /-- the dict of an exception -/
  | xd (fs : List (Str × V))
  /-- a bound method, f of x -/
  | met (f x : Addr)
  /-- a range object lo, lo + 1, .. below hi -/
  | rng (lo hi : Int)
  /-- a thing that is known to the object (the script; a dict while a loop walks it): read, never written while it is so -/
  | frz (o : Obj) (u : HO)
  /-- a code object's table -/
  | tbl (ps : Array Value)
  /-- any other thing, by what is true of its one object (a def of one's own: SetO a S n := HO.ext fun h => ..) -/
  | ext (φ : Heap → Prop)

abbrev Hp := Addr → Option HO
def upd (H : Hp) (a : Addr) (o : HO) : Hp := fun b => if b = a then some o else H b
theorem upd_same {H : Hp} {a : Addr} {o : HO} : upd H a o a = some o := by unfold upd; rw [if_pos rfl]
theorem upd_ne {H : Hp} {a b : Addr} {o : HO} (h : b ≠ a) : upd H a o b = H b := by unfold upd; rw [if_neg h]
theorem upd_upd {H : Hp} {a : Addr} {o u : HO} : upd (upd H a o) a u = upd H a u := by
  funext b; unfold upd; split <;> rfl
/-- two objects of different content stand apart -/
theorem ne_of {H : Hp} {a b : Addr} {o u : HO} (h : H a = some o) (h' : H b = some u) (d : o ≠ u) : a ≠ b := by
  intro e; subst e; rw [h] at h'; exact d (Option.some.inj h')
theorem ne_of_none {H : Hp} {a b : Addr} {o : HO} (h : H a = some o) (h' : H b = none) : a ≠ b := by
  intro e; subst e; rw [h] at h'; cases h'

section
variable (P : Program) (w : World)
def ObjOk (H : Hp) (h : Heap) (a : Addr) : HO → Prop
  | .lst xs => xs.length ≤ sizeLine ∧ ∃ (its : List Value) (n : Nat), Vals xs its ∧ h.get? a = some { cls := .type "list", data := .seq its.toArray n }
  | .tup xs => xs.length ≤ sizeLine ∧ ∃ its : List Value, Vals xs its ∧ IsTup h a its.toArray
  | .dK kvs => kvs.length ≤ sizeLine ∧ (a == sysModules) = false ∧ ∃ vs, KV kvs vs ∧ h.DictOf (mixKind P w) a vs
  | .dT kvs => kvs.length ≤ sizeLine ∧ (a == sysModules) = false ∧ ∃ xs : List (List Key × Addr × Value),
      Paired (fun (p : List Key × V) (q : List Key × Addr × Value) => p.1 = q.1 ∧ H q.2.1 = some (.tup (p.1.map kV)) ∧ RelV p.2 q.2.2) kvs xs ∧
      ∃ o es ep, h.get? a = some o ∧ o.ExactDict ∧ o.data = .dict es ep ∧ es.toList = xs.map (entryOfKey (tupleKind (mixKind P w))) ∧ (xs.map (·.1)).Nodup
  | .set S n => h.SetOf (intKind P w) a S n
  | .ins C dx fs => H dx = some (.own a) ∧ fs.length ≤ 1000 ∧ dx ≠ a ∧ h.get? a = some (PySem.W.instObj C dx) ∧
      ∃ mA, h.Ns1 dx mA ∧ (∀ f, RelO (fs.lookup f) (mA f)) ∧ PySem.Within mA (fs.map (·.1))
  | .own _ => ∃ o, h.get? a = some o
  | .xd fs => ∃ mA, h.Ns1 a mA ∧ ∀ f, RelO (fs.lookup f) (mA f)
  | .rng lo hi => ∃ t u v, h.get? a = some { cls := .type "range", data := .fields #[.int lo t, .int hi u, .int 1 v] }
  | .frz o u => h.get? a = some o ∧ ObjOk H h a u
  | .tbl ps => h.get? a = some { cls := .none, data := .fields ps }
  | .met f x => h.get? a = some (PySem.W.methodObj (.ref f) (.ref x))
  | .ext φ => φ h ∧ (∃ o, h.get? a = some o) ∧ ∀ h1 h2 : Heap, φ h1 → (∀ o, h1.get? a = some o → h2.get? a = some o) → φ h2
/-- the abstract heap is held -/
def HOk (H : Hp) (h : Heap) : Prop := ∀ a o, H a = some o → ObjOk P w H h a o
end

section
variable {P : Program} {w : World} {H H' : Hp} {h h' : Heap} {a : Addr} {o : HO}
theorem ObjOk.lt (x : ObjOk P w H h a o) : a < h.objs.size := by
  cases o with
  | lst xs => obtain ⟨_, _, _, _, e⟩ := x; exact Heap.lt_size e
  | tup xs => obtain ⟨_, _, _, p⟩ := x; exact p.lt
  | dK kvs => obtain ⟨_, _, _, _, o, _, _, e, _⟩ := x; exact Heap.lt_size e
  | dT kvs => obtain ⟨_, _, _, _, o, _, _, e, _⟩ := x; exact Heap.lt_size e
  | set S n => obtain ⟨o, _, _, _, e, _⟩ := x; exact Heap.lt_size e
  | ins C dx fs => obtain ⟨_, _, _, e, _⟩ := x; exact Heap.lt_size e
  | own y => obtain ⟨_, e⟩ := x; exact Heap.lt_size e
  | xd fs => obtain ⟨_, ⟨_, _, _, e, _⟩, _⟩ := x; exact Heap.lt_size e
  | rng lo hi => obtain ⟨_, _, _, e⟩ := x; exact Heap.lt_size e
  | frz ob u => obtain ⟨e, _⟩ := x; exact Heap.lt_size e
  | tbl ps => exact Heap.lt_size (show h.get? a = some _ from x)
  | met f y => exact Heap.lt_size (show h.get? a = some _ from x)
  | ext φ => obtain ⟨_, ⟨_, e⟩, _⟩ := x; exact Heap.lt_size e
theorem Paired.mapP {α β : Type} {F G : α → β → Prop} : ∀ {l₁ : List α} {l₂ : List β}, Paired F l₁ l₂ → (∀ a b, F a b → G a b) → Paired G l₁ l₂
  | _, _, .nil, _ => .nil
  | _, _, .cons r t, f => .cons (f _ _ r) (Paired.mapP t f)
theorem Paired.imp' {α β : Type} {F G : α → β → Prop} (f : ∀ a b, F a b → G a b) {l₁ : List α} {l₂ : List β} (r : Paired F l₁ l₂) : Paired G l₁ l₂ := Paired.mapP r f
/-- what an object's description leans on: its own object, its own dict, the tuples -/
theorem ObjOk.stay (x : ObjOk P w H h a o) (k : ∀ b u, (b = a ∨ H b = some (.own a)) → h.get? b = some u → h'.get? b = some u)
    (ho : ∀ b, H b = some (.own a) → H' b = some (.own a)) (ht : ∀ b xs, H b = some (.tup xs) → H' b = some (.tup xs)) : ObjOk P w H' h' a o := by
  induction o with
  | lst xs => obtain ⟨z, its, n, r, e⟩ := x; exact ⟨z, its, n, r, k _ _ (.inl rfl) e⟩
  | tup xs => obtain ⟨z, its, r, ob, e, c⟩ := x; exact ⟨z, its, r, ob, k _ _ (.inl rfl) e, c⟩
  | dK kvs => obtain ⟨z, y, vs, r, ob, es, ep, e, c⟩ := x; exact ⟨z, y, vs, r, ob, es, ep, k _ _ (.inl rfl) e, c⟩
  | dT kvs =>
    obtain ⟨z, y, xs, r, ob, es, ep, e, c⟩ := x
    exact ⟨z, y, xs, Paired.mapP r fun p q z => ⟨z.1, ht _ _ z.2.1, z.2.2⟩, ob, es, ep, k _ _ (.inl rfl) e, c⟩
  | set S n => obtain ⟨ob, es, ep, t, e, c⟩ := x; exact ⟨ob, es, ep, t, k _ _ (.inl rfl) e, c⟩
  | ins C dx fs =>
    obtain ⟨d, z, ne, e, mA, ⟨od, es, ep, e2, c⟩, r⟩ := x
    exact ⟨ho _ d, z, ne, k _ _ (.inl rfl) e, mA, ⟨od, es, ep, k _ _ (.inr d) e2, c⟩, r⟩
  | own y => obtain ⟨ob, e⟩ := x; exact ⟨ob, k _ _ (.inl rfl) e⟩
  | xd fs => obtain ⟨mA, ⟨od, es, ep, e, c⟩, r⟩ := x; exact ⟨mA, ⟨od, es, ep, k _ _ (.inl rfl) e, c⟩, r⟩
  | rng lo hi => obtain ⟨t, u, v, e⟩ := x; exact ⟨t, u, v, k _ _ (.inl rfl) e⟩
  | frz ob u ih => obtain ⟨e, q⟩ := x; exact ⟨k _ _ (.inl rfl) e, ih q⟩
  | tbl ps =>
    have e : h.get? a = some { cls := .none, data := .fields ps } := x
    show h'.get? a = some { cls := .none, data := .fields ps }
    exact k a _ (.inl rfl) e
  | met f y =>
    have e : h.get? a = some (PySem.W.methodObj (.ref f) (.ref y)) := x
    show h'.get? a = some (PySem.W.methodObj (.ref f) (.ref y))
    exact k a _ (.inl rfl) e
  | ext φ => obtain ⟨p, ⟨o, e⟩, st⟩ := x; exact ⟨st _ _ p fun o q => k _ _ (.inl rfl) q, ⟨o, k _ _ (.inl rfl) e⟩, st⟩
theorem HOk.lt (x : HOk P w H h) (e : H a = some o) : a < h.objs.size := (x a o e).lt
theorem HOk.fresh (x : HOk P w H h) (e : h.objs.size ≤ a) : H a = none := by
  cases q : H a with
  | none => rfl
  | some u => exact absurd (Nat.lt_of_lt_of_le (x.lt q) e) (Nat.lt_irrefl _)
/-- every object of the heap is kept -/
theorem HOk.kept (x : HOk P w H h) (k : ∀ b u, h.get? b = some u → h'.get? b = some u) : HOk P w H h' := fun a o e =>
  (x a o e).stay (fun b u _ q => k b u q) (fun _ q => q) fun _ _ q => q
/-- a new object is laid and tracked -/
theorem HOk.laid (x : HOk P w H h) (k : ∀ b u, h.get? b = some u → h'.get? b = some u) (hp : h.objs.size ≤ a) (new : ObjOk P w (upd H a o) h' a o) : HOk P w (upd H a o) h' := fun b u e => by
  have hn := x.fresh hp
  by_cases hb : b = a
  · subst hb; rw [upd_same] at e; cases e; exact new
  · rw [upd_ne hb] at e
    exact (x b u e).stay (fun c v _ q => k c v q) (fun c q => by rw [upd_ne (ne_of_none q hn)]; exact q) fun c xs q => by rw [upd_ne (ne_of_none q hn)]; exact q
end

/-- what may be read as u: it is u, or a known u -/
def Rd (H : Hp) (a : Addr) (u : HO) : Prop := H a = some u ∨ ∃ o, H a = some (.frz o u)
theorem Rd.of {H : Hp} {a : Addr} {u : HO} (h : H a = some u) : Rd H a u := .inl h
theorem Rd.ok {P : Program} {w : World} {H : Hp} {h : Heap} {a : Addr} {u : HO} (r : Rd H a u) (x : HOk P w H h) : ObjOk P w H h a u := by
  rcases r with r | ⟨o, r⟩
  · exact x a u r
  · obtain ⟨_, q⟩ := x a _ r
    exact q
/-- what may be written -/
def Mut : Option HO → Prop
  | some (.lst _) => True
  | some (.dK _) => True
  | some (.dT _) => True
  | some (.set _ _) => True
  | some (.ins _ _ _) => True
  | some (.ext _) => True
  | _ => False
section
variable {P : Program} {w : World} {H : Hp} {h h' : Heap} {x e : Addr} {o' : HO}
/-- the object at e is changed: x itself, or the dict of the instance x -/
theorem HOk.write (ok : HOk P w H h) (mu : Mut (H x)) (he : e = x ∨ H e = some (.own x)) (k : ∀ b u, b ≠ e → h.get? b = some u → h'.get? b = some u) (heo : ∃ u, h'.get? e = some u)
    (new : ObjOk P w (upd H x o') h' x o') : HOk P w (upd H x o') h' := fun b u q => by
  have nown : ∀ c y, H c = some (.own y) → c ≠ x := fun c y r z => by subst z; rw [r] at mu; exact mu
  have ntup : ∀ c xs, H c = some (.tup xs) → c ≠ x := fun c xs r z => by subst z; rw [r] at mu; exact mu
  by_cases hb : b = x
  · subst hb; rw [upd_same] at q; cases q; exact new
  · rw [upd_ne hb] at q
    by_cases hbe : b = e
    · have q' : H b = some (.own x) := by
        rcases he with z | z
        · exact absurd (hbe.trans z) hb
        · rw [hbe]; exact z
      rw [q] at q'; cases q'
      obtain ⟨v, hv⟩ := heo
      exact ⟨v, by rw [hbe]; exact hv⟩
    · refine (ok b u q).stay (fun c v hc r => k c v ?_ r) (fun c r => by rw [upd_ne (nown c b r)]; exact r) fun c xs r => by rw [upd_ne (ntup c xs r)]; exact r
      rcases hc with rfl | hc
      · exact hbe
      · rintro rfl
        rcases he with z | z
        · exact nown c b hc z
        · rw [hc] at z; cases z; exact hb rfl
end

/-! ### kept unless tracked; of the frames at fs (the callers') the slots may change (an exception that passes writes there); of the records at ex (iterators) nothing is said -/
structure Un (fs ex : List Addr) (H H' : Hp) (h h' : Heap) : Prop where
  keep : ∀ b o, h.get? b = some o → H b = none → b ∉ fs → b ∉ ex → h'.get? b = some o
  slot : ∀ b o, h.get? b = some o → H b = none → b ∈ fs → b ∉ ex → ∃ sl, h'.get? b = some { o with slots := sl }
  free : ∀ b o, h.get? b = some o → H b = none → b ∉ ex → H' b = none
  there : ∀ b o, h.get? b = some o → b ∉ ex → ∃ o', h'.get? b = some o'
  tups : ∀ b xs, H b = some (.tup xs) → H' b = some (.tup xs)
  frzs : ∀ b o u, H b = some (.frz o u) → H' b = some (.frz o u)
  tbls : ∀ b ps, H b = some (.tbl ps) → ∃ more, H' b = some (.tbl (ps ++ more))
section
variable {fs fs' ex ex' : List Addr} {H H1 H2 : Hp} {h h1 h2 h' : Heap} {a x e : Addr} {o : HO}
theorem Un.any (u : Un fs ex H H1 h h1) {b : Addr} {ob : Obj} (q : h.get? b = some ob) (n : H b = none) (hx : b ∉ ex) : ∃ sl, h1.get? b = some { ob with slots := sl } := by
  by_cases hb : b ∈ fs
  · exact u.slot b ob q n hb hx
  · exact ⟨ob.slots, u.keep b ob q n hb hx⟩
theorem Un.trans (a : Un fs ex H H1 h h1) (b : Un fs ex H1 H2 h1 h2) : Un fs ex H H2 h h2 where
  keep := fun c ob q n hc hx => b.keep c ob (a.keep c ob q n hc hx) (a.free c ob q n hx) hc hx
  slot := fun c ob q n hc hx => by
    obtain ⟨sl, e1⟩ := a.slot c ob q n hc hx
    obtain ⟨sl', e2⟩ := b.slot c _ e1 (a.free c ob q n hx) hc hx
    exact ⟨sl', e2⟩
  free := fun c ob q n hx => by
    obtain ⟨o', e1⟩ := a.there c ob q hx
    exact b.free c o' e1 (a.free c ob q n hx) hx
  there := fun c ob q hx => by
    obtain ⟨o', e1⟩ := a.there c ob q hx
    exact b.there c o' e1 hx
  tups := fun c xs q => b.tups c xs (a.tups c xs q)
  frzs := fun c ob xs q => b.frzs c ob xs (a.frzs c ob xs q)
  tbls := fun c ps q => by
    obtain ⟨m1, e1⟩ := a.tbls c ps q
    obtain ⟨m2, e2⟩ := b.tbls c _ e1
    exact ⟨m1 ++ m2, by rw [e2, Array.append_assoc]⟩
theorem Un.kept (k : ∀ b u, h.get? b = some u → h'.get? b = some u) : Un fs ex H H h h' :=
  ⟨fun b ob q _ _ _ => k b ob q, fun b ob q _ _ _ => ⟨ob.slots, k b ob q⟩, fun _ _ _ n _ => n, fun b ob q _ => ⟨ob, k b ob q⟩, fun _ _ q => q, fun _ _ _ q => q, fun _ ps q => ⟨#[], by rw [q]; simp⟩⟩
theorem Un.refl : Un fs ex H H h h := Un.kept fun _ _ q => q
theorem Un.laid (k : ∀ b u, h.get? b = some u → h'.get? b = some u) (hp : h.objs.size ≤ a) (hn : H a = none) : Un fs ex H (upd H a o) h h' where
  keep := fun b u q _ _ _ => k b u q
  slot := fun b u q _ _ _ => ⟨u.slots, k b u q⟩
  free := fun b u q n _ => by rw [upd_ne (Nat.ne_of_lt (Nat.lt_of_lt_of_le (Heap.lt_size q) hp))]; exact n
  there := fun b u q _ => ⟨u, k b u q⟩
  tups := fun b xs q => by rw [upd_ne (ne_of_none q hn)]; exact q
  frzs := fun b u xs q => by rw [upd_ne (ne_of_none q hn)]; exact q
  tbls := fun b ps q => ⟨#[], by rw [upd_ne (ne_of_none q hn), q]; simp⟩
theorem Un.write (mu : Mut (H x)) (he : e = x ∨ H e = some (.own x)) (k : ∀ b u, b ≠ e → h.get? b = some u → h'.get? b = some u) (heo : ∃ u, h'.get? e = some u) : Un fs ex H (upd H x o) h h' := by
  have hx : ∀ b, H b = none → b ≠ x := fun b n z => by subst z; rw [n] at mu; exact mu
  have hb : ∀ b, H b = none → b ≠ e := fun b n z => by
    subst z
    rcases he with r | r
    · exact hx b n r
    · rw [n] at r; cases r
  have hm : ∀ b u, H b = some u → ¬ Mut (some u) → b ≠ x := fun b u q nm z => by subst z; rw [q] at mu; exact nm mu
  refine ⟨fun b u q n _ _ => k b u (hb b n) q, fun b u q n _ _ => ⟨u.slots, k b u (hb b n) q⟩, fun b u q n _ => by rw [upd_ne (hx b n)]; exact n, fun b u q _ => ?_,
    fun b xs q => by rw [upd_ne (hm b _ q fun z => z)]; exact q, fun b u xs q => by rw [upd_ne (hm b _ q fun z => z)]; exact q, fun b ps q => ⟨#[], by rw [upd_ne (hm b _ q fun z => z), q]; simp⟩⟩
  by_cases hbe : b = e
  · subst hbe; exact heo
  · exact ⟨u, k b u hbe q⟩
theorem Un.mono (u : Un fs ex H H1 h h1) (hs : ∀ b ∈ fs, b ∈ fs') (hx : ∀ b ∈ ex, b ∈ ex') : Un fs' ex' H H1 h h1 :=
  ⟨fun b ob q n hb he => u.keep b ob q n (fun z => hb (hs b z)) fun z => he (hx b z), fun _ _ q n _ he => u.any q n fun z => he (hx _ z), fun b ob q n he => u.free b ob q n fun z => he (hx b z), fun b ob q he => u.there b ob q fun z => he (hx b z), u.tups, u.frzs, u.tbls⟩
end

/-! ### the heap without what is tracked -/
def trk (h : Heap) (H : Hp) : List Addr := (List.range h.objs.size).filter fun a => (H a).isSome
def hidT (h : Heap) (H : Hp) : Heap := PySem.W.hideAll h (trk h H)
theorem hidT_size (h : Heap) (H : Hp) : (hidT h H).objs.size = h.objs.size := PySem.W.hideAll_size _ _
theorem hidT_get {h : Heap} {H : Hp} {b : Addr} {o : Obj} (e : h.get? b = some o) (n : H b = none) : (hidT h H).get? b = some o :=
  PySem.W.hideAll_get _ e fun hm => by
    have q : (H b).isSome = true := (List.mem_filter.mp hm).2
    rw [n] at q; simp at q
theorem of_hidT {h : Heap} {H : Hp} {b : Addr} {o : Obj} (e : (hidT h H).get? b = some o) : h.get? b = some o ∧ H b = none := by
  have e' : h.get? b = some o := PySem.W.of_hideAll (trk h H) e
  refine ⟨e', ?_⟩
  cases q : H b with
  | none => rfl
  | some x =>
    have hm : b ∈ trk h H := List.mem_filter.mpr ⟨List.mem_range.mpr (Heap.lt_size e'), by simp [q]⟩
    have z : (hidT h H).get? b = none := PySem.W.hideAll_none (trk h H) hm
    rw [z] at e; cases e

/-! ### OpenK's ledger, filled with every new object but one -/
def allNews (g h : Heap) (L : Addr) : List (Addr × Obj) := (List.range h.objs.size).filterMap fun a => if a = L ∨ (g.get? a).isSome = true then none else (h.get? a).map fun o => (a, o)
theorem mem_allNews {g h : Heap} {L a : Addr} {o : Obj} (h1 : a ≠ L) (h2 : g.get? a = none) (h3 : h.get? a = some o) : (a, o) ∈ allNews g h L :=
  List.mem_filterMap.mpr ⟨a, List.mem_range.mpr (Heap.lt_size h3), by simp [h1, h2, h3]⟩
theorem of_mem_allNews {g h : Heap} {L : Addr} {p : Addr × Obj} (hp : p ∈ allNews g h L) : p.1 ≠ L ∧ g.get? p.1 = none ∧ h.get? p.1 = some p.2 := by
  obtain ⟨b, _, e⟩ := List.mem_filterMap.mp hp
  split at e
  · cases e
  · rename_i hn
    cases q : h.get? b with
    | none => rw [q] at e; simp at e
    | some u =>
      rw [q] at e
      simp only [Option.map_some, Option.some.injEq] at e
      subst e
      refine ⟨fun z => hn (.inl z), ?_, q⟩
      show g.get? b = none
      cases r : g.get? b with
      | none => rfl
      | some v => exact (hn (.inr (by simp [r]))).elim
def rest (g h : Heap) (L d : Addr) : List (Addr × Obj) := (allNews g h L).filter fun p => decide (p.1 ≠ d)
theorem rest_ne {g h : Heap} {L d : Addr} : ∀ p ∈ rest g h L d, p.1 ≠ d := fun p hp => of_decide_eq_true (List.mem_filter.mp hp).2
theorem mem_rest {g h : Heap} {L d a : Addr} {o : Obj} (h1 : a ≠ L) (h2 : g.get? a = none) (h3 : h.get? a = some o) (h4 : a ≠ d) : (a, o) ∈ rest g h L d :=
  List.mem_filter.mpr ⟨mem_allNews h1 h2 h3, decide_eq_true h4⟩
theorem news_all {g h : Heap} {L : Addr} : News g L h (allNews g h L) := fun p hp => let ⟨a, b, c⟩ := of_mem_allNews hp; ⟨c, a, b⟩
theorem news_at {g h : Heap} {L d : Addr} {o : Obj} (h1 : d ≠ L) (h2 : g.get? d = none) (h3 : h.get? d = some o) : News g L h ((d, o) :: rest g h L d) := fun p hp => by
  rcases List.mem_cons.mp hp with rfl | hp
  · exact ⟨h3, h1, h2⟩
  · exact news_all p (List.mem_filter.mp hp).1
/-- behind a rule that changed d alone: all else but the frame is kept -/
theorem kept_of_news {g h h' : Heap} {L d : Addr} {m : Str → Option Value} (k : ∀ b o, g.get? b = some o → h.get? b = some o) (F : Fr g L h' m) (N : News g L h' (rest g h L d)) :
    ∀ b o, b ≠ L → b ≠ d → h.get? b = some o → h'.get? b = some o := fun b o h1 h2 e => by
  cases q : g.get? b with
  | some u =>
    have := k b u q
    rw [e] at this; cases this
    exact F.keep b _ q
  | none => exact (N (b, o) (mem_rest h1 q e h2)).1
end L2

namespace L2
open PySem PySem.Spec PyProof.Rows

/-- the module's facts, over the base: the heap at the law's entry without what is tracked there -/
structure Mod (K : PySem.W.Frag) (mg : Str → Option Value) (base : Heap) : Prop where
  kin : K.In base
  glob : base.Ns mainGlobals mg
  blt : ∃ mb, base.Ns builtinsNs mb ∧ ∀ x : Str, x ≠ "__name__" → mb x = bootBuiltins x
  nolimit : base.NoLimit

/-- the context: a def's body (or a comprehension's block) running. base: fixed through the whole law; s₀, H₀: the entry; outer: the frames whose slots others may change (a def's callers); stack: all frames that run;
   ex: iterators that were made ahead of the entry and are walked here (a comprehension's); fn: the names whose cells were made at the entry (a def: all; a comprehension's block: its own); calm: not within an except suite; pn: pins that every state bears; xe: what is wanted of an exception that leaves the code -/
structure Cx where
  prog : Program
  w : World
  K : PySem.W.Frag
  mg : Str → Option Value
  base : Heap
  A : Around
  N : List Str
  s₀ : Shared
  H₀ : Hp
  env : Env
  outer : List Env
  stack : List Env
  ex : List Addr
  fn : Str → Bool
  calm : Bool
  pn : List (Addr × Obj)
  xe : Value → Shared → Prop
/-- the callers' frames -/
def frs (l : List Env) : List Addr := l.filterMap (·.frame)
abbrev Cx.fs (X : Cx) : List Addr := frs X.outer

def Vis (sc : Scope) (x : Str) : Prop := sc.names.lookup x = some .local ∨ sc.names.lookup x = some .cell ∨ sc.names.lookup x = some .free
def Loc (sc : Scope) (x : Str) : Prop := sc.names.lookup x = some .local ∨ sc.names.lookup x = some .cell
def Look (env : Env) (h : Heap) (m : Str → Option Value) (x : Str) (u : Value) : Prop :=
  (env.kindOf x = some .local ∧ m x = some u) ∨ ((env.kindOf x = some .cell ∨ env.kindOf x = some .free) ∧ ∃ c, env.cells.lookup x = some c ∧ h.IsCell c (some u))

structure Cx.Ok (X : Cx) : Prop where
  mod : Mod X.K X.mg X.base
  kind : X.env.scope.kind = .function
  glob : X.env.globals = mainGlobals
  blt : X.env.builtins = builtinsNs
  above : X.s₀.heap.objs.size ≤ X.env.locals
  inj : ∀ x y c, X.env.cells.lookup x = some c → X.env.cells.lookup y = some c → x = y
  has : ∀ x, (X.env.kindOf x = some .cell ∨ X.env.kindOf x = some .free) → ∃ c, X.env.cells.lookup x = some c
  cab : ∀ x c, X.fn x = true → X.env.cells.lookup x = some c → X.s₀.heap.objs.size ≤ c
  hd : X.calm = true → X.A.handled = none
  frames : X.A.frames = some X.stack
  stk : X.stack = X.outer ∨ (X.stack = X.env :: X.outer ∧ X.env.frame = some X.env.locals)
  exf : ∀ b ∈ X.ex, b ≠ X.env.locals ∧ ∀ x c, X.env.cells.lookup x = some c → c ≠ b
  bs : ∀ b o, X.base.get? b = some o → X.s₀.heap.get? b = some o ∧ X.H₀ b = none
  bsz : X.base.objs.size ≤ X.s₀.heap.objs.size
  noex : ∀ b o, X.base.get? b = some o → b ∉ X.ex
  exfs : ∀ b ∈ X.ex, b ∉ X.fs
  funs : X.s₀.heap.FunFrames X.base X.outer
  frf : ∀ b ∈ X.fs, X.H₀ b = none

structure Inv (X : Cx) (pins : List (Addr × Obj)) (σ : List (Option V)) (H : Hp) (s : Shared) : Prop where
  ok : X.Ok
  os : s.os = X.s₀.os
  bare : AllBare s.gens
  base : Un X.fs X.ex X.H₀ H X.s₀.heap s.heap
  loc : ∃ m, s.heap.Ns X.env.locals m ∧ ∀ (i : Nat) (x : Str) (v : V), X.N[i]? = some x → σ[i]? = some (some v) → Vis X.env.scope x → ∃ u, RelV v u ∧ Look X.env s.heap m x u
  cell : ∀ x c, X.env.cells.lookup x = some c → ∃ v, s.heap.IsCell c v
  free : H X.env.locals = none
  freeC : ∀ x c, X.env.cells.lookup x = some c → H c = none
  pin : ∀ p ∈ X.pn ++ pins, s.heap.get? p.1 = some p.2 ∧ H p.1 = none ∧ p.1 ≠ X.env.locals ∧ p.1 ∉ X.fs ∧ ∀ v, p.2.data ≠ .cell v
  hok : HOk X.prog X.w H s.heap
  len : σ.length = X.N.length

section
variable {X : Cx} {pins : List (Addr × Obj)} {σ : List (Option V)} {H H' : Hp} {s : Shared} {h' : Heap}

theorem Cx.Ok.nofr (ok : X.Ok) {b : Addr} {o : Obj} (e : X.base.get? b = some o) : b ∉ X.fs := fun hb => by
  have := (ok.funs.mem hb).1
  rw [e] at this; cases this
theorem Inv.bs (I : Inv X pins σ H s) : ∀ b o, X.base.get? b = some o → s.heap.get? b = some o ∧ H b = none := fun b o e =>
  ⟨I.base.keep b o (I.ok.bs b o e).1 (I.ok.bs b o e).2 (I.ok.nofr e) (I.ok.noex b o e), I.base.free b o (I.ok.bs b o e).1 (I.ok.bs b o e).2 (I.ok.noex b o e)⟩
theorem Inv.bk (I : Inv X pins σ H s) : ∀ b o, X.base.get? b = some o → s.heap.get? b = some o := fun b o e => (I.bs b o e).1
theorem Inv.mod (I : Inv X pins σ H s) : Mod X.K X.mg X.base := I.ok.mod
theorem Inv.kIn (I : Inv X pins σ H s) : X.K.In s.heap := I.ok.mod.kin.keeps I.bk
theorem Inv.nolimit (I : Inv X pins σ H s) : s.heap.NoLimit := I.ok.mod.nolimit.keeps I.bk
/-- the frame over the base: for OpenK's rules (K.In X.base is I.mod.kin) -/
theorem Inv.fr (I : Inv X pins σ H s) : ∃ m, Fr X.base X.env.locals s.heap m :=
  let ⟨m, hn, _⟩ := I.loc
  ⟨m, hn, I.bk, Nat.le_trans I.ok.bsz I.ok.above⟩
theorem Inv.lt (I : Inv X pins σ H s) : X.env.locals < s.heap.objs.size := let ⟨_, hn, _⟩ := I.loc; hn.lt
theorem Inv.sz (I : Inv X pins σ H s) : X.s₀.heap.objs.size ≤ s.heap.objs.size := Nat.le_trans I.ok.above (Nat.le_of_lt I.lt)
theorem Inv.nofs (I : Inv X pins σ H s) {a : Addr} (h : s.heap.objs.size ≤ a) : a ∉ X.fs := fun hb => by
  obtain ⟨_, o, ho, _⟩ := I.ok.funs.mem hb
  exact absurd (Nat.lt_of_lt_of_le (Heap.lt_size ho) (Nat.le_trans I.sz h)) (Nat.lt_irrefl _)
theorem Inv.cne (I : Inv X pins σ H s) : ∀ x c, X.env.cells.lookup x = some c → c ≠ X.env.locals := fun x c e z => by
  obtain ⟨v, o, ho, hd⟩ := I.cell x c e
  obtain ⟨m, ⟨o', es, ep, ho', hd', _⟩, _⟩ := I.loc
  rw [z, ho'] at ho; cases ho; rw [hd'] at hd; cases hd
theorem Inv.funs (I : Inv X pins σ H s) : s.heap.FunFrames X.base X.outer := by
  have all : ∀ (l : List Env), (∀ b ∈ frs l, b ∈ X.fs) → X.s₀.heap.FunFrames X.base l → s.heap.FunFrames X.base l := by
    intro l
    induction l with
    | nil => intro _ _; trivial
    | cons env r ih =>
      intro hs hl
      obtain ⟨hk, ⟨L, o, hf, hn, ho, hd⟩, hr⟩ := hl
      have hL : L ∈ X.fs := hs L (by unfold frs; rw [List.filterMap_cons, hf]; exact List.mem_cons_self)
      obtain ⟨sl, e⟩ := I.base.slot L o ho (I.ok.frf L hL) hL fun z => I.ok.exfs L z hL
      exact ⟨hk, ⟨L, _, hf, hn, e, hd⟩, ih (fun b hb => hs b (by unfold frs; rw [List.filterMap_cons, hf]; exact List.mem_cons_of_mem _ hb)) hr⟩
  exact all X.outer (fun _ hb => hb) I.ok.funs

/-- the frames that run, for a call -/
theorem Inv.stack (I : Inv X pins σ H s) : s.heap.FunFrames X.base X.stack := by
  rcases I.ok.stk with e | ⟨e, hf⟩
  · rw [e]; exact I.funs
  · rw [e]
    obtain ⟨m, hn, _⟩ := I.loc
    refine .cons (by rw [I.ok.kind]; decide) hf hn ?_ I.funs
    exact Heap.get?_none_of_le (Nat.le_trans I.ok.bsz I.ok.above)
theorem Inv.stkSub (I : Inv X pins σ H s) : ∀ b ∈ frs X.stack, b ∈ X.env.locals :: X.fs := fun b hb => by
  rcases I.ok.stk with e | ⟨e, hf⟩
  · rw [e] at hb; exact List.mem_cons_of_mem _ hb
  · rw [e] at hb
    unfold frs at hb
    rw [List.filterMap_cons, hf] at hb
    exact hb
theorem Inv.stkFree (I : Inv X pins σ H s) : ∀ b ∈ frs X.stack, H b = none := fun b hb => by
  rcases List.mem_cons.mp (I.stkSub b hb) with e | hb
  · rw [e]; exact I.free
  · obtain ⟨_, o, ho, _⟩ := I.ok.funs.mem hb
    exact I.base.free b o ho (I.ok.frf b hb) fun z => I.ok.exfs b z hb

/-- THE STEP: the untracked objects but the frame and the records at ch are kept (the callers' frames up to slots), the frame's map is kept, the new abstract heap is held -/
theorem Inv.step {g' : Array GenState} {t' : Nat} {d' : Drawn} {ch : List Addr} (I : Inv X pins σ H s)
    (hch : ∀ b ∈ ch, (b ∈ X.ex ∨ X.s₀.heap.objs.size ≤ b) ∧ b ≠ X.env.locals ∧ (∀ x c, X.env.cells.lookup x = some c → c ≠ b) ∧ ∀ p ∈ X.pn ++ pins, p.1 ≠ b)
    (keep : ∀ b o, b ≠ X.env.locals → b ∉ X.fs → b ∉ ch → s.heap.get? b = some o → H b = none → h'.get? b = some o)
    (slot : ∀ b o, b ≠ X.env.locals → b ∈ X.fs → b ∉ ch → s.heap.get? b = some o → H b = none → ∃ sl, h'.get? b = some { o with slots := sl }) (free : ∀ b o, b ∉ ch → s.heap.get? b = some o → H b = none → H' b = none)
    (there : ∀ b o, b ∉ ch → s.heap.get? b = some o → ∃ o', h'.get? b = some o')
    (tups : ∀ b xs, H b = some (.tup xs) → H' b = some (.tup xs)) (frzs : ∀ b o u, H b = some (.frz o u) → H' b = some (.frz o u)) (tbls : ∀ b ps, H b = some (.tbl ps) → ∃ more, H' b = some (.tbl (ps ++ more)))
    (ns : ∀ m, s.heap.Ns X.env.locals m → h'.Ns X.env.locals m) (hok : HOk X.prog X.w H' h') (hg : AllBare g') :
    Inv X pins σ H' { s with heap := h', gens := g', drawn := d', toks := t' } := by
  have neL : ∀ b o, X.s₀.heap.get? b = some o → b ≠ X.env.locals := fun b o e => Nat.ne_of_lt (Nat.lt_of_lt_of_le (Heap.lt_size e) I.ok.above)
  have neC : ∀ b o, X.s₀.heap.get? b = some o → b ∉ X.ex → b ∉ ch := fun b o e hx hb => by
    rcases (hch b hb).1 with z | z
    · exact hx z
    · exact absurd (Nat.lt_of_lt_of_le (Heap.lt_size e) z) (Nat.lt_irrefl _)
  have cellK : ∀ x c, X.env.cells.lookup x = some c → ∀ v, s.heap.IsCell c v → h'.IsCell c v := fun x c e v ⟨o, ho, hd⟩ => by
    have nch : c ∉ ch := fun z => (hch c z).2.2.1 x c e rfl
    by_cases hc : c ∈ X.fs
    · obtain ⟨sl, q⟩ := slot c o (I.cne x c e) hc nch ho (I.freeC x c e)
      exact ⟨_, q, hd⟩
    · exact ⟨o, keep c o (I.cne x c e) hc nch ho (I.freeC x c e), hd⟩
  refine ⟨I.ok, I.os, hg, ⟨fun b o e n hb hx => ?_, fun b o e n hb hx => ?_, fun b o e n hx => ?_, fun b o e hx => ?_, fun b xs e => tups b xs (I.base.tups b xs e), fun b o xs e => frzs b o xs (I.base.frzs b o xs e), fun b ps e => ?_⟩, ?_, fun x c e => ?_, ?_, fun x c e => ?_, fun p hp => ?_, hok, I.len⟩
  · exact keep b o (neL b o e) hb (neC b o e hx) (I.base.keep b o e n hb hx) (I.base.free b o e n hx)
  · obtain ⟨sl, e1⟩ := I.base.slot b o e n hb hx
    obtain ⟨sl', e2⟩ := slot b _ (neL b o e) hb (neC b o e hx) e1 (I.base.free b o e n hx)
    exact ⟨sl', e2⟩
  · obtain ⟨o', e1⟩ := I.base.there b o e hx
    exact free b o' (neC b o e hx) e1 (I.base.free b o e n hx)
  · obtain ⟨o', e1⟩ := I.base.there b o e hx
    exact there b o' (neC b o e hx) e1
  · obtain ⟨m1, e1⟩ := I.base.tbls b ps e
    obtain ⟨m2, e2⟩ := tbls b _ e1
    exact ⟨m1 ++ m2, by rw [e2, Array.append_assoc]⟩
  · obtain ⟨m, hn, hl⟩ := I.loc
    refine ⟨m, ns m hn, fun i x v e1 e2 e3 => ?_⟩
    obtain ⟨u, r, l⟩ := hl i x v e1 e2 e3
    refine ⟨u, r, ?_⟩
    rcases l with l | ⟨k, c, e, z⟩
    · exact .inl l
    · exact .inr ⟨k, c, e, cellK x c e _ z⟩
  · obtain ⟨v, z⟩ := I.cell x c e
    exact ⟨v, cellK x c e v z⟩
  · obtain ⟨m, ⟨o, _, _, ho, _⟩, _⟩ := I.loc
    exact free _ o (fun z => (hch _ z).2.1 rfl) ho I.free
  · obtain ⟨v, o, ho, hd⟩ := I.cell x c e
    exact free c o (fun z => (hch c z).2.2.1 x c e rfl) ho (I.freeC x c e)
  · obtain ⟨e, n, ne, nf, d⟩ := I.pin p hp
    have nch : p.1 ∉ ch := fun z => (hch p.1 z).2.2.2 p hp rfl
    exact ⟨keep p.1 p.2 ne nf nch e n, free p.1 p.2 nch e n, ne, nf, d⟩
/-- .. where the frame's own object is kept too -/
theorem Inv.un {t' : Nat} (I : Inv X pins σ H s) (u : Un X.fs [] H H' s.heap h') (hok : HOk X.prog X.w H' h') : Inv X pins σ H' { s with heap := h', toks := t' } := by
  obtain ⟨m, ⟨o, es, ep, ho, r⟩, _⟩ := id I.loc
  obtain ⟨sl, hL⟩ := u.any ho I.free (by simp)
  exact I.step (g' := s.gens) (d' := s.drawn) (ch := []) (fun _ z => nomatch z) (fun b o _ hb _ e n => u.keep b o e n hb (by simp)) (fun b o _ hb _ e n => u.slot b o e n hb (by simp)) (fun b o _ e n => u.free b o e n (by simp)) (fun b o _ e => u.there b o e (by simp)) u.tups u.frzs u.tbls (fun m' hm => by
    obtain ⟨o', es', ep', ho', r'⟩ := hm
    rw [ho] at ho'; cases ho'
    exact ⟨_, es', ep', hL, r'⟩) hok I.bare
/-- behind a call (or a comprehension's block): the slots of this frame may have changed too, the records at ch may have turned -/
theorem Inv.call {g' : Array GenState} {t' : Nat} {d' : Drawn} {ch : List Addr} (I : Inv X pins σ H s) (u : Un (frs X.stack) ch H H' s.heap h') (hok : HOk X.prog X.w H' h') (hg : AllBare g')
    (hch : ∀ b ∈ ch, (b ∈ X.ex ∨ X.s₀.heap.objs.size ≤ b) ∧ b ≠ X.env.locals ∧ (∀ x c, X.env.cells.lookup x = some c → c ≠ b) ∧ ∀ p ∈ X.pn ++ pins, p.1 ≠ b) :
    Inv X pins σ H' { s with heap := h', gens := g', drawn := d', toks := t' } := by
  obtain ⟨m, ⟨o, es, ep, ho, r⟩, _⟩ := id I.loc
  obtain ⟨sl, hL⟩ := u.any ho I.free fun z => (hch _ z).2.1 rfl
  exact I.step (ch := ch) hch (fun b o hL hb hc e n => u.keep b o e n (fun z => (List.mem_cons.mp (I.stkSub b z)).elim hL hb) hc) (fun b o _ _ hc e n => u.any e n hc) (fun b o hc e n => u.free b o e n hc) (fun b o hc e => u.there b o e hc) u.tups u.frzs u.tbls (fun m' hm => by
    obtain ⟨o', es', ep', ho', r'⟩ := hm
    rw [ho] at ho'; cases ho'
    exact ⟨_, es', ep', hL, r'⟩) hok hg
/-- an untracked record of ours (an iterator) has turned -/
theorem Inv.turned {t' : Nat} {it : Addr} (I : Inv X pins σ H s) (k : ∀ b o, b ≠ it → s.heap.get? b = some o → h'.get? b = some o) (hn : H it = none) (hL : it ≠ X.env.locals)
    (h1 : it ∈ X.ex ∨ X.s₀.heap.objs.size ≤ it) (h2 : ∀ x c, X.env.cells.lookup x = some c → c ≠ it) (h3 : ∀ p ∈ X.pn ++ pins, p.1 ≠ it) : Inv X pins σ H { s with heap := h', toks := t' } := by
  have nit : ∀ b u, H b = some u → b ≠ it := fun b u e z => by rw [z, hn] at e; cases e
  refine I.step (g' := s.gens) (d' := s.drawn) (ch := [it]) (fun b hb => ?_) (fun b o _ _ hc e _ => k b o (fun z => hc (by simp [z])) e) (fun b o _ _ hc e _ => ⟨o.slots, k b o (fun z => hc (by simp [z])) e⟩) (fun _ _ _ _ n => n)
    (fun b o hc e => ⟨o, k b o (fun z => hc (by simp [z])) e⟩) (fun _ _ e => e) (fun _ _ _ e => e) (fun b ps e => ⟨#[], by rw [e]; simp⟩) (fun m hm => ?_) (fun b u e => ?_) I.bare
  · have e : b = it := by simpa using hb
    subst e
    exact ⟨h1, hL, h2, h3⟩
  · obtain ⟨o, es, ep, ho, r⟩ := hm
    exact ⟨o, es, ep, k _ o (Ne.symm hL) ho, r⟩
  · refine (I.hok b u e).stay (fun c v hc q => k c v ?_ q) (fun _ q => q) fun _ _ q => q
    rcases hc with z | z
    · rw [z]; exact nit b u e
    · exact nit c _ z
theorem Inv.tok (I : Inv X pins σ H s) (t : Nat) : Inv X pins σ H { s with toks := t } := I.un (h' := s.heap) (t' := t) Un.refl I.hok
/-- all objects kept -/
theorem Inv.kept {t' : Nat} (I : Inv X pins σ H s) (k : ∀ b u, s.heap.get? b = some u → h'.get? b = some u) : Inv X pins σ H { s with heap := h', toks := t' } := I.un (Un.kept k) (I.hok.kept k)
/-- a new object laid and tracked -/
theorem Inv.laid {a : Addr} {o : HO} {t' : Nat} (I : Inv X pins σ H s) (k : ∀ b u, s.heap.get? b = some u → h'.get? b = some u) (hp : s.heap.objs.size ≤ a) (new : ObjOk X.prog X.w (upd H a o) h' a o) :
    Inv X pins σ (upd H a o) { s with heap := h', toks := t' } := I.un (Un.laid k hp (I.hok.fresh hp)) (I.hok.laid k hp new)
/-- an object written -/
theorem Inv.write {x e : Addr} {o : HO} {t' : Nat} (I : Inv X pins σ H s) (mu : Mut (H x)) (he : e = x ∨ H e = some (.own x)) (k : ∀ b u, b ≠ e → s.heap.get? b = some u → h'.get? b = some u) (heo : ∃ u, h'.get? e = some u)
    (new : ObjOk X.prog X.w (upd H x o) h' x o) : Inv X pins σ (upd H x o) { s with heap := h', toks := t' } := I.un (Un.write mu he k heo) (I.hok.write mu he k heo new)
/-- forgetting slots, pins -/
theorem Inv.weak {σ' : List (Option V)} (I : Inv X pins σ H s) (hl : σ'.length = σ.length) (w : ∀ (i : Nat) v, σ'[i]? = some (some v) → σ[i]? = some (some v)) : Inv X pins σ' H s :=
  ⟨I.ok, I.os, I.bare, I.base, let ⟨m, hn, hl'⟩ := I.loc; ⟨m, hn, fun i x v e1 e2 e3 => hl' i x v e1 (w i v e2) e3⟩, I.cell, I.free, I.freeC, I.pin, I.hok, hl.trans I.len⟩
theorem Inv.pins_of {pins' : List (Addr × Obj)} (I : Inv X pins σ H s) (h : ∀ p ∈ pins', s.heap.get? p.1 = some p.2 ∧ H p.1 = none ∧ p.1 ≠ X.env.locals ∧ p.1 ∉ X.fs ∧ ∀ v, p.2.data ≠ .cell v) : Inv X pins' σ H s :=
  ⟨I.ok, I.os, I.bare, I.base, I.loc, I.cell, I.free, I.freeC, fun p hp => (List.mem_append.mp hp).elim (fun z => I.pin p (List.mem_append_left _ z)) (h p), I.hok, I.len⟩

theorem nodup_ix {N : List Str} (hN : N.Nodup) {i j : Nat} {x : Str} (a : N[i]? = some x) (b : N[j]? = some x) : i = j := by
  obtain ⟨h1, e1⟩ := List.getElem?_eq_some_iff.mp a
  obtain ⟨h2, e2⟩ := List.getElem?_eq_some_iff.mp b
  exact (List.getElem_inj hN).mp (e1.trans e2.symm)

/-- a name is stored; what changed -/
theorem store_ok2 {M : Model} {A : Around} {E : Value → Shared → Prop} {i : Nat} {x : Str} {v : V} {u : Value} {Q : Unit → Shared → Prop} (I : Inv X pins σ H s) (hN : X.N.Nodup) (hi : X.N[i]? = some x) (hx : Loc X.env.scope x) (r : RelV v u)
    (h : ∀ s', Inv X pins (σ.set i (some v)) H s' → (∃ a, Heap.SameBut a s.heap s'.heap ∧ (a = X.env.locals ∨ X.env.cells.lookup x = some a)) → Q () s') (hf : X.fn x = true ∨ X.env.scope.names.lookup x = some .local := by first | exact .inl rfl | exact .inr rfl | assumption) : wpAny M A (storeName X.env x u) Q E s := by
  obtain ⟨m, hn, hl⟩ := id I.loc
  have hcls : (X.env.scope.kind == .class || (X.env.scope.kind == .module && X.env.locals != X.env.globals)) = false := by rw [I.ok.kind]; rfl
  have hiσ : i < σ.length := by rw [I.len]; exact (List.getElem?_eq_some_iff.mp hi).1
  have cne := I.cne
  have tracked : ∀ {a : Addr} {h' : Heap}, (∃ o, s.heap.get? a = some o ∧ H a = none) → Heap.SameBut a s.heap h' → HOk X.prog X.w H h' := fun {a h'} ha hs b ob e => by
    obtain ⟨_, _, hfree⟩ := ha
    refine (I.hok b ob e).stay (fun c w' hc q => (hs.2 c ?_).trans q) (fun _ q => q) fun _ _ q => q
    rintro rfl
    rcases hc with rfl | hc
    · rw [hfree] at e; cases e
    · rw [hfree] at hc; cases hc
  rcases hx with hk | hk
  · refine wpAny_storeName_local hk hn (fun h' hn' hs => ?_) hcls
    obtain ⟨oL, _, _, hoL, _⟩ := id hn
    refine h _ ⟨I.ok, I.os, I.bare, ⟨fun b o e n hb hx => ?_, fun b o e n hb hx => ?_, I.base.free, fun b o e hx => ?_, I.base.tups, I.base.frzs, I.base.tbls⟩, ⟨_, hn', fun j y v' e1 e2 e3 => ?_⟩, fun y c e => ?_, I.free, I.freeC, fun p hp => ?_, tracked ⟨oL, hoL, I.free⟩ hs, by simpa using I.len⟩ ⟨_, hs, .inl rfl⟩
    · exact (hs.2 b (Nat.ne_of_lt (Nat.lt_of_lt_of_le (Heap.lt_size e) I.ok.above))).trans (I.base.keep b o e n hb hx)
    · obtain ⟨sl, e1⟩ := I.base.slot b o e n hb hx
      exact ⟨sl, (hs.2 b (Nat.ne_of_lt (Nat.lt_of_lt_of_le (Heap.lt_size e) I.ok.above))).trans e1⟩
    · obtain ⟨o', e1⟩ := I.base.there b o e hx
      exact ⟨o', (hs.2 b (Nat.ne_of_lt (Nat.lt_of_lt_of_le (Heap.lt_size e) I.ok.above))).trans e1⟩
    · by_cases hj : j = i
      · subst hj
        rw [hi] at e1; cases e1
        rw [List.getElem?_set_self hiσ] at e2
        cases e2
        exact ⟨u, r, .inl ⟨hk, by simp⟩⟩
      · rw [List.getElem?_set_ne (Ne.symm hj)] at e2
        obtain ⟨u', r', q⟩ := hl j y v' e1 e2 e3
        refine ⟨u', r', ?_⟩
        rcases q with ⟨k, e⟩ | ⟨k, c, e, z⟩
        · refine .inl ⟨k, ?_⟩
          have : y ≠ x := fun e => hj (nodup_ix hN e1 (e ▸ hi))
          simp [this, e]
        · exact .inr ⟨k, c, e, z.sameBut hs (cne y c e)⟩
    · obtain ⟨w', z⟩ := I.cell y c e
      exact ⟨w', z.sameBut hs (cne y c e)⟩
    · obtain ⟨e, n, ne, nf, d⟩ := I.pin p hp
      exact ⟨(hs.2 p.1 ne).trans e, n, ne, nf, d⟩
  · have hfn : X.fn x = true := by
      rcases hf with z | z
      · exact z
      · rw [z] at hk; cases hk
    obtain ⟨c, hc⟩ := I.ok.has x (.inl hk)
    obtain ⟨w', z⟩ := I.cell x c hc
    refine wpAny_storeName_cell I.ok.kind hk hc z (fun h' hc' hs => ?_)
    obtain ⟨oc, hoc, hocd⟩ := id z
    refine h { s with heap := h' } ⟨I.ok, I.os, I.bare, ⟨fun b o e n hb hx => ?_, fun b o e n hb hx => ?_, I.base.free, fun b o e hx => ?_, I.base.tups, I.base.frzs, I.base.tbls⟩, ⟨m, hn.sameBut hs (Ne.symm (cne x c hc)), fun j y v' e1 e2 e3 => ?_⟩, fun y c' e => ?_, I.free, I.freeC, fun p hp => ?_, tracked ⟨oc, hoc, I.freeC x c hc⟩ hs, by simpa using I.len⟩ ⟨c, hs, .inr hc⟩
    · exact (hs.2 b (Nat.ne_of_lt (Nat.lt_of_lt_of_le (Heap.lt_size e) (I.ok.cab x c hfn hc)))).trans (I.base.keep b o e n hb hx)
    · obtain ⟨sl, e1⟩ := I.base.slot b o e n hb hx
      exact ⟨sl, (hs.2 b (Nat.ne_of_lt (Nat.lt_of_lt_of_le (Heap.lt_size e) (I.ok.cab x c hfn hc)))).trans e1⟩
    · obtain ⟨o', e1⟩ := I.base.there b o e hx
      exact ⟨o', (hs.2 b (Nat.ne_of_lt (Nat.lt_of_lt_of_le (Heap.lt_size e) (I.ok.cab x c hfn hc)))).trans e1⟩
    · by_cases hj : j = i
      · subst hj
        rw [hi] at e1; cases e1
        rw [List.getElem?_set_self hiσ] at e2
        cases e2
        exact ⟨u, r, .inr ⟨.inl hk, c, hc, hc'⟩⟩
      · rw [List.getElem?_set_ne (Ne.symm hj)] at e2
        obtain ⟨u', r', q⟩ := hl j y v' e1 e2 e3
        refine ⟨u', r', ?_⟩
        rcases q with q | ⟨k, c', e, z'⟩
        · exact .inl q
        · refine .inr ⟨k, c', e, z'.sameBut hs ?_⟩
          rintro rfl
          exact hj (nodup_ix hN e1 (I.ok.inj _ _ _ e hc ▸ hi))
    · by_cases hcc : c' = c
      · subst hcc; exact ⟨_, hc'⟩
      · obtain ⟨w2, z2⟩ := I.cell y c' e
        exact ⟨w2, z2.sameBut hs hcc⟩
    · obtain ⟨e, n, ne, nf, d⟩ := I.pin p hp
      refine ⟨(hs.2 p.1 ?_).trans e, n, ne, nf, d⟩
      intro q
      rw [q, hoc] at e
      have q' : oc = p.2 := Option.some.inj e
      exact d w' (by rw [← q']; exact hocd)
theorem store_ok {M : Model} {A : Around} {E : Value → Shared → Prop} {i : Nat} {x : Str} {v : V} {u : Value} {Q : Unit → Shared → Prop} (I : Inv X pins σ H s) (hN : X.N.Nodup) (hi : X.N[i]? = some x) (hx : Loc X.env.scope x) (r : RelV v u)
    (h : ∀ s', Inv X pins (σ.set i (some v)) H s' → Q () s') (hf : X.fn x = true ∨ X.env.scope.names.lookup x = some .local := by first | exact .inl rfl | exact .inr rfl | assumption) : wpAny M A (storeName X.env x u) Q E s :=
  store_ok2 I hN hi hx r (fun s' I' _ => h s' I') hf
/-- behind a call or a block, the state as it is -/
theorem Inv.call' {s' : Shared} {ch : List Addr} (I : Inv X pins σ H s) (ho : s'.os = s.os) (u : Un (frs X.stack) ch H H' s.heap s'.heap) (hok : HOk X.prog X.w H' s'.heap) (hg : AllBare s'.gens)
    (hch : ∀ b ∈ ch, (b ∈ X.ex ∨ X.s₀.heap.objs.size ≤ b) ∧ b ≠ X.env.locals ∧ (∀ x c, X.env.cells.lookup x = some c → c ≠ b) ∧ ∀ p ∈ X.pn ++ pins, p.1 ≠ b) : Inv X pins σ H' s' := by
  obtain ⟨h', g', d', t', o'⟩ := s'
  have e : o' = s.os := ho
  subst e
  exact I.call (g' := g') (t' := t') (d' := d') u hok hg hch
end

/-! ### the judgements -/
/-- an exception: its class, its own dict's address (where it has one), the abstract heap behind it -/
abbrev XK := Value → Option Addr → Hp → Prop
abbrev St := List (Option V)
abbrev VK := V → Hp → Prop
/-- an expression's reading; a test's; an argument list's -/
abbrev TE := St → Hp → VK → Prop
abbrev TT := St → Hp → (Bool → Hp → Prop) → Prop
abbrev TA := St → Hp → (List V → Hp → Prop) → Prop
/-- what is wanted behind a statement -/
structure Ends where
  nx : St → Hp → Prop
  rt : VK
  bk : St → Hp → Prop := fun _ _ => False
  ct : St → Hp → Prop := fun _ _ => False
abbrev TS := Ends → St → Hp → Prop

def EP (X : Cx) (pins : List (Addr × Obj)) (σ : St) (Q : VK) (u : Value) (s' : Shared) : Prop := ∃ v H', Inv X pins σ H' s' ∧ RelV v u ∧ Q v H'
def TP (X : Cx) (pins : List (Addr × Obj)) (σ : St) (Q : Bool → Hp → Prop) (b : Bool) (s' : Shared) : Prop := ∃ H', Inv X pins σ H' s' ∧ Q b H'
def AP (X : Cx) (pins : List (Addr × Obj)) (σ : St) (Q : List V → Hp → Prop) (us : List Value) (s' : Shared) : Prop := ∃ vs H', Inv X pins σ H' s' ∧ Vals vs us ∧ Q vs H'
def SP (X : Cx) (pins : List (Addr × Obj)) (D : Ends) (f : Flow) (s' : Shared) : Prop :=
  match f with
  | .next => ∃ σ' H', Inv X pins σ' H' s' ∧ D.nx σ' H'
  | .brk => ∃ σ' H', Inv X pins σ' H' s' ∧ D.bk σ' H'
  | .cont => ∃ σ' H', Inv X pins σ' H' s' ∧ D.ct σ' H'
  | .ret u => ∃ v σ' H', Inv X pins σ' H' s' ∧ RelV v u ∧ D.rt v H'

def PE (X : Cx) (e : Expr) (t : TE) : Prop :=
  ∀ (pins : List (Addr × Obj)) (s : Shared) (σ : St) (H : Hp) (Q : VK), Inv X pins σ H s → t σ H Q → wpAny (model X.prog X.w) X.A (eval e X.env) (EP X pins σ Q) X.xe s
def PT (X : Cx) (e : Expr) (t : TT) : Prop :=
  ∀ (pins : List (Addr × Obj)) (s : Shared) (σ : St) (H : Hp) (Q : Bool → Hp → Prop), Inv X pins σ H s → t σ H Q → wpAny (model X.prog X.w) X.A (isTrue e X.env (eval e X.env)) (TP X pins σ Q) X.xe s
/-- a test whatever its 'whole' is (and, or) -/
def PW (X : Cx) (e : Expr) (t : TT) : Prop :=
  ∀ (whole : Sem Value) (pins : List (Addr × Obj)) (s : Shared) (σ : St) (H : Hp) (Q : Bool → Hp → Prop), Inv X pins σ H s → t σ H Q → wpAny (model X.prog X.w) X.A (isTrue e X.env whole) (TP X pins σ Q) X.xe s
theorem PW.pt {X : Cx} {e : Expr} {t : TT} (h : PW X e t) : PT X e t := h _
/-- an argument list (no star), from the left -/
def PA (X : Cx) (es : List Expr) (t : TA) : Prop :=
  ∀ (pos : Pos) (pins : List (Addr × Obj)) (s : Shared) (σ : St) (H : Hp) (Q : List V → Hp → Prop), Inv X pins σ H s → t σ H Q → wpAny (model X.prog X.w) X.A (spliced (backTo pos (starEach es X.env))) (AP X pins σ Q) X.xe s
def PS (X : Cx) (st : Stmt) (t : TS) : Prop :=
  ∀ (pins : List (Addr × Obj)) (s : Shared) (σ : St) (H : Hp) (D : Ends), Inv X pins σ H s → t D σ H → wpAny (model X.prog X.w) X.A (exec st X.env) (SP X pins D) X.xe s
def PSs (X : Cx) (st : List Stmt) (t : TS) : Prop :=
  ∀ (pins : List (Addr × Obj)) (s : Shared) (σ : St) (H : Hp) (D : Ends), Inv X pins σ H s → t D σ H → wpAny (model X.prog X.w) X.A (execs st X.env) (SP X pins D) X.xe s
/-- weaken the end -/
theorem thn {α : Type} {t : Sem α} {Q Q' : α → Shared → Prop} {M : Model} {A : Around} {E : Value → Shared → Prop} {s : Shared} (h : wpAny M A t Q E s) (hQ : ∀ a s, Q a s → Q' a s) : wpAny M A t Q' E s := wpAny_mono h hQ fun _ _ x => x
end L2

namespace L2
open PySem PySem.Spec PyProof.Rows
section
variable {X : Cx}

/-- two expressions in a row -/
theorem bin {a b : Expr} {ta tb : TE} (ha : PE X a ta) (hb : PE X b tb) {pins : List (Addr × Obj)} {s : Shared} {σ : St} {H : Hp} {R : V → V → Hp → Prop} (I : Inv X pins σ H s) (h : ta σ H fun x H1 => tb σ H1 fun y H2 => R x y H2)
    {α : Type} {Q : α → Shared → Prop} {f : Value → Value → Sem α}
    (hf : ∀ v u s2 x y H2, Inv X pins σ H2 s2 → RelV x v → RelV y u → R x y H2 → wpAny (model X.prog X.w) X.A (f v u) Q X.xe s2) :
    wpAny (model X.prog X.w) X.A (eval a X.env) (fun v s₁ => wpAny (model X.prog X.w) X.A (eval b X.env) (fun u s₂ => wpAny (model X.prog X.w) X.A (f v u) Q X.xe s₂) X.xe s₁) X.xe s := by
  refine thn (ha pins s σ H _ I h) fun v s1 ⟨x, H1, I1, r1, q1⟩ => ?_
  refine thn (hb pins s1 σ H1 _ I1 q1) fun u s2 ⟨y, H2, I2, r2, q2⟩ => ?_
  exact hf v u s2 x y H2 I2 r1 r2 q2

/-! ### names and constants -/
def tVar (i : Nat) : TE := fun σ H Q => ∃ v, σ[i]? = some (some v) ∧ Q v H
def tC (v : V) : TE := fun _ H Q => Q v H
theorem pe_var {i : Nat} {x : Str} {pos : Pos} (hN : X.N[i]? = some x) (hv : Vis X.env.scope x) (hd : (x == ("__debug__" : Str)) = false := by decide) (hcd : (x == ("__classdict__" : Str)) = false := by decide) : PE X (.Name x pos) (tVar i) := by
  intro pins s σ H Q I h
  obtain ⟨v, e, h⟩ := h
  obtain ⟨m, hn, hl⟩ := I.loc
  obtain ⟨u, r, l⟩ := hl i x v hN e hv
  have fin : EP X pins σ Q u s := ⟨v, H, I, r, h⟩
  rcases l with ⟨hk, hm⟩ | ⟨hk, c, hc, hcell⟩
  · exact wpAny_Name (wpAny_loadName_local I.ok.kind hk hn hm fin) hd
  · rcases hk with hk | hk
    · exact wpAny_Name (wpAny_loadName_cell I.ok.kind hk hc hcell fin) hd
    · exact wpAny_Name (wpAny_loadName_free I.ok.kind hk hc hcell fin hcd) hd
theorem pe_int {i j pos} : PE X (.Constant (.int i) j pos) (tC (.int i)) := fun _ _ _ H _ I h => wpAny_Constant_int ⟨.int i, H, I.tok _, ⟨_, rfl⟩, h⟩
theorem pe_bl {b j pos} : PE X (.Constant (.bool b) j pos) (tC (.bl b)) := fun _ _ _ H _ I h => Constant_bool ⟨.bl b, H, I, rfl, h⟩
theorem pe_non {j pos} : PE X (.Constant .none j pos) (tC .non) := fun _ _ _ H _ I h => Constant_none ⟨.non, H, I, rfl, h⟩
theorem pe_str {x j pos} : PE X (.Constant (.str x) j pos) (tC (.str x)) := fun _ _ _ H _ I h => Calls.Constant_str ⟨.str x, H, I.tok _, ⟨_, rfl⟩, h⟩

/-- a global name of the def -/
def Gl (X : Cx) (x : Str) : Prop := X.env.kindOf x = some .globalImplicit
theorem ld_glob {E : Value → Shared → Prop} {pins : List (Addr × Obj)} {s : Shared} {σ : St} {H : Hp} {x : Str} {u : Value} {pos : Pos} {Q : Value → Shared → Prop} (I : Inv X pins σ H s) (hg : Gl X x) (hm : X.mg x = some u) (h : Q u s)
    (hd : (x == ("__debug__" : Str)) = false := by decide) : wpAny (model X.prog X.w) X.A (eval (.Name x pos) X.env) Q E s :=
  Calls.Name_function_global I.ok.kind hg (Calls.loadGlobal_global (by rw [I.ok.glob]; exact I.mod.glob.keeps I.bk) hm h) hd
theorem ld_blt {E : Value → Shared → Prop} {pins : List (Addr × Obj)} {s : Shared} {σ : St} {H : Hp} {x : Str} {u : Value} {pos : Pos} {Q : Value → Shared → Prop} (I : Inv X pins σ H s) (hg : Gl X x) (hm : X.mg x = none) (hv : bootBuiltins x = some u) (h : Q u s)
    (hn : x ≠ "__name__" := by decide) (hd : (x == ("__debug__" : Str)) = false := by decide) : wpAny (model X.prog X.w) X.A (eval (.Name x pos) X.env) Q E s := by
  obtain ⟨mb, h1, h2⟩ := I.mod.blt
  exact Calls.Name_function_global I.ok.kind hg (Calls.loadGlobal_builtin (by rw [I.ok.glob]; exact I.mod.glob.keeps I.bk) hm (by rw [I.ok.blt]; exact h1.keeps I.bk) ((h2 x hn).trans hv) h) hd
/-- a module's constant, a class, a function, as a value -/
theorem pe_glob {x : Str} {v : V} {u : Value} {pos : Pos} (hg : Gl X x) (hm : X.mg x = some u) (r : RelV v u) (hd : (x == ("__debug__" : Str)) = false := by decide) : PE X (.Name x pos) (tC v) :=
  fun _ _ _ H _ I h => ld_glob I hg hm ⟨v, H, I, r, h⟩ hd
theorem pe_bltn {x : Str} {v : V} {u : Value} {pos : Pos} (hg : Gl X x) (hm : X.mg x = none) (hv : bootBuiltins x = some u) (r : RelV v u) (hn : x ≠ "__name__" := by decide) (hd : (x == ("__debug__" : Str)) = false := by decide) : PE X (.Name x pos) (tC v) :=
  fun _ _ _ H _ I h => ld_blt I hg hm hv ⟨v, H, I, r, h⟩ hn hd

/-! ### arithmetic -/
/-- two ints -/
def t2I (ta tb : TE) (k : Int → Int → Hp → Prop) : St → Hp → Prop := fun σ H => ta σ H fun x H1 => tb σ H1 fun y H2 => ∃ i j, x = .int i ∧ y = .int j ∧ k i j H2
def tAdd (ta tb : TE) : TE := fun σ H Q => t2I ta tb (fun i j H2 => Q (.int (i + j)) H2) σ H
def tSub (ta tb : TE) : TE := fun σ H Q => t2I ta tb (fun i j H2 => Q (.int (i - j)) H2) σ H
/-- the left factor below 2^64 -/
def tMul (ta tb : TE) : TE := fun σ H Q => t2I ta tb (fun i j H2 => (-(2 ^ 64) < i ∧ i < 2 ^ 64) ∧ Q (.int (i * j)) H2) σ H
variable {a b : Expr} {ta tb : TE} {pos : Pos}
theorem pe_add (ha : PE X a ta) (hb : PE X b tb) : PE X (.BinOp a .Add b pos) (tAdd ta tb) := by
  intro pins s σ H Q I h
  refine wpAny_BinOp (bin ha hb I h fun v u s2 x y H2 I2 rx ry q => ?_)
  obtain ⟨i, j, rfl, rfl, q⟩ := q
  obtain ⟨t, rfl⟩ := rx
  obtain ⟨t', rfl⟩ := ry
  exact add_int ⟨.int _, H2, I2.tok _, ⟨_, rfl⟩, q⟩
theorem pe_sub (ha : PE X a ta) (hb : PE X b tb) : PE X (.BinOp a .Sub b pos) (tSub ta tb) := by
  intro pins s σ H Q I h
  refine wpAny_BinOp (bin ha hb I h fun v u s2 x y H2 I2 rx ry q => ?_)
  obtain ⟨i, j, rfl, rfl, q⟩ := q
  obtain ⟨t, rfl⟩ := rx
  obtain ⟨t', rfl⟩ := ry
  exact sub_int ⟨.int _, H2, I2.tok _, ⟨_, rfl⟩, q⟩
theorem pe_mul (ha : PE X a ta) (hb : PE X b tb) : PE X (.BinOp a .Mult b pos) (tMul ta tb) := by
  intro pins s σ H Q I h
  refine wpAny_BinOp (bin ha hb I h fun v u s2 x y H2 I2 rx ry q => ?_)
  obtain ⟨i, j, rfl, rfl, ⟨q1, q2⟩, q⟩ := q
  obtain ⟨t, rfl⟩ := rx
  obtain ⟨t', rfl⟩ := ry
  exact mul_int ⟨.int _, H2, I2.tok _, ⟨_, rfl⟩, q⟩ (.of_left (intBits_le_64 q1 q2))

/-! ### comparisons -/
def PC (X : Cx) (op : CmpOp) (a b : Expr) (t : TE) : Prop :=
  ∀ (pins : List (Addr × Obj)) (s : Shared) (σ : St) (H : Hp) (Q : VK), Inv X pins σ H s → t σ H Q →
    wpAny (model X.prog X.w) X.A (eval a X.env) (fun v s₁ => wpAny (model X.prog X.w) X.A (eval b X.env) (fun u s₂ => wpAny (model X.prog X.w) X.A (compareOp op v u) (EP X pins σ Q) X.xe s₂) X.xe s₁) X.xe s
theorem nobehind (b : Expr) {op : CmpOp} (h : op ≠ .In) (h2 : op ≠ .NotIn) : behindInMarks op b = false := by
  have e1 : (op == CmpOp.In) = false := by cases op <;> first | rfl | exact absurd rfl h
  have e2 : (op == CmpOp.NotIn) = false := by cases op <;> first | rfl | exact absurd rfl h2
  cases b <;> simp [behindInMarks, e1, e2]
def tCmp (p : Int → Int → Bool) (ta tb : TE) : TE := fun σ H Q => t2I ta tb (fun i j H2 => Q (.bl (p i j)) H2) σ H
abbrev tLt : TE → TE → TE := tCmp fun i j => decide (i < j)
abbrev tLe : TE → TE → TE := tCmp fun i j => decide (i ≤ j)
abbrev tGt : TE → TE → TE := tCmp fun i j => decide (j < i)
abbrev tGe : TE → TE → TE := tCmp fun i j => decide (j ≤ i)
abbrev tEqI : TE → TE → TE := tCmp fun i j => decide (i = j)
abbrev tNeI : TE → TE → TE := tCmp fun i j => !decide (i = j)
/-- a comparison of two ints, by its rule -/
theorem pc_int {op : CmpOp} {p : Int → Int → Bool} (ha : PE X a ta) (hb : PE X b tb)
    (rule : ∀ (i j : Int) (t u : Tok) (Q : Value → Shared → Prop) (s : Shared), Q (.bool (p i j)) s → wpAny (model X.prog X.w) X.A (compareOp op (.int i t) (.int j u)) Q X.xe s) : PC X op a b (tCmp p ta tb) := by
  intro pins s σ H Q I h
  refine bin ha hb I h fun v u s2 x y H2 I2 rx ry q => ?_
  obtain ⟨i, j, rfl, rfl, q⟩ := q
  obtain ⟨t, rfl⟩ := rx
  obtain ⟨t', rfl⟩ := ry
  exact rule i j t t' _ s2 ⟨.bl _, H2, I2, rfl, q⟩
theorem pc_lt (ha : PE X a ta) (hb : PE X b tb) : PC X .Lt a b (tLt ta tb) := pc_int ha hb fun _ _ _ _ _ _ h => lt_int h
theorem pc_le (ha : PE X a ta) (hb : PE X b tb) : PC X .LtE a b (tLe ta tb) := pc_int ha hb fun _ _ _ _ _ _ h => le_int h
theorem pc_gt (ha : PE X a ta) (hb : PE X b tb) : PC X .Gt a b (tGt ta tb) := pc_int ha hb fun _ _ _ _ _ _ h => gt_int h
theorem pc_ge (ha : PE X a ta) (hb : PE X b tb) : PC X .GtE a b (tGe ta tb) := pc_int ha hb fun _ _ _ _ _ _ h => ge_int h
theorem pc_eqI (ha : PE X a ta) (hb : PE X b tb) : PC X .Eq a b (tEqI ta tb) := pc_int ha hb fun _ _ _ _ _ _ h => eq_int (by rw [Bool.beq_eq_decide_eq]; exact h)
theorem pc_neI (ha : PE X a ta) (hb : PE X b tb) : PC X .NotEq a b (tNeI ta tb) := pc_int ha hb fun _ _ _ _ _ _ h => ne_int (by rw [bne, Bool.beq_eq_decide_eq]; exact h)
/-- is None -/
def tIsN (ta : TE) : TE := fun σ H Q => ta σ H fun x H1 => Q (.bl (decide (x = .non))) H1
def tNotN (ta : TE) : TE := fun σ H Q => ta σ H fun x H1 => Q (.bl (!decide (x = .non))) H1
theorem RelV.none_iff {x : V} {v : Value} (r : RelV x v) : (v == Value.none) = decide (x = .non) := by
  cases x with
  | non => cases r; rfl
  | bl _ => cases r; rfl
  | int _ => obtain ⟨t, rfl⟩ := r; rfl
  | str _ => obtain ⟨t, rfl⟩ := r; rfl
  | byt _ => obtain ⟨t, rfl⟩ := r; rfl
  | flt _ => obtain ⟨t, rfl⟩ := r; rfl
  | ref _ => cases r; rfl
  | ty _ => cases r; rfl
theorem pc_isN {j pos'} (ha : PE X a ta) : PC X .Is a (.Constant .none j pos') (tIsN ta) := by
  intro pins s σ H Q I h
  refine thn (ha pins s σ H _ I h) fun v s1 ⟨x, H1, I1, r1, q1⟩ => ?_
  exact Constant_none (is_none_gen ⟨.bl _, H1, I1, by rw [r1.none_iff]; rfl, q1⟩)
theorem pc_notN {j pos'} (ha : PE X a ta) : PC X .IsNot a (.Constant .none j pos') (tNotN ta) := by
  intro pins s σ H Q I h
  refine thn (ha pins s σ H _ I h) fun v s1 ⟨x, H1, I1, r1, q1⟩ => ?_
  exact Constant_none (isnot_none_gen ⟨.bl _, H1, I1, by rw [r1.none_iff]; rfl, q1⟩)
/-- a comparison as a value, as a test -/
def tB (t : TE) : TT := fun σ H Q => t σ H fun x H1 => ∃ c, x = .bl c ∧ Q c H1
theorem pe_cmp {op : CmpOp} {t : TE} (h : PC X op a b t) (h1 : behindInMarks op b = false := by first | exact nobehind _ (by decide) (by decide) | rfl) : PE X (.Compare a [op] [b] pos) t := fun pins s σ H Q I hw => wpAny_Compare1 (h pins s σ H Q I hw) h1
theorem pt_cmp {op : CmpOp} {t : TE} (h : PC X op a b t) (h1 : behindInMarks op b = false := by first | exact nobehind _ (by decide) (by decide) | rfl) : PT X (.Compare a [op] [b] pos) (tB t) := by
  intro pins s σ H Q I hw
  refine wpAny_isTrue_Compare1 (thn (h pins s σ H _ I hw) fun v s1 h1 => thn h1 fun u s2 h2 => thn h2 fun c s3 ⟨x, H1, I1, r1, q1⟩ => ?_) h1
  obtain ⟨d, rfl, q⟩ := q1
  cases r1
  exact wpAny_truthy_bool ⟨H1, I1, q⟩
/-- an expression whose value is a bool, as a test -/
theorem pt_val {e : Expr} {t : TE} (h : PE X e t) (he : ∀ whole, isTrue e X.env whole = (do let v ← whole; standAt e.pos; holding [v] (truthy v)) := by intro _; rfl) : PT X e (tB t) := by
  intro pins s σ H Q I hw
  refine isTrue_plain (thn (h pins s σ H _ I hw) fun v s1 ⟨x, H1, I1, r1, q1⟩ => ?_) (he _)
  obtain ⟨d, rfl, q⟩ := q1
  cases r1
  exact wpAny_truthy_bool ⟨H1, I1, q⟩

/-! ### and, or, not -/
variable {tA tB' : TT} {rest : List Expr}
def tAnd (t u : TT) : TT := fun σ H Q => t σ H fun c H1 => if c = true then u σ H1 Q else Q false H1
def tOr (t u : TT) : TT := fun σ H Q => t σ H fun c H1 => if c = true then Q true H1 else u σ H1 Q
def tNot (t : TT) : TT := fun σ H Q => t σ H fun c H1 => Q (!c) H1
theorem pw_and1 (ha : PT X a tA) : PW X (.BoolOp .And [a] pos) tA := by
  intro wh pins s σ H Q I h
  refine isTrue_and (thn (ha pins s σ H Q I h) fun c s1 e => ?_)
  cases c with
  | true => exact isTrue_and_nil e
  | false => exact e
theorem pw_or1 (ha : PT X a tA) : PW X (.BoolOp .Or [a] pos) tA := by
  intro wh pins s σ H Q I h
  refine isTrue_or (thn (ha pins s σ H Q I h) fun c s1 e => ?_)
  cases c with
  | false => exact isTrue_or_nil e
  | true => exact e
theorem pw_and (ha : PT X a tA) (hb : PW X (.BoolOp .And (b :: rest) pos) tB') : PW X (.BoolOp .And (a :: b :: rest) pos) (tAnd tA tB') := by
  intro wh pins s σ H Q I h
  refine isTrue_and (thn (ha pins s σ H _ I h) fun c s1 ⟨H1, I1, q1⟩ => ?_)
  cases c with
  | true => exact hb wh pins s1 σ H1 Q I1 q1
  | false => exact ⟨H1, I1, q1⟩
theorem pw_or (ha : PT X a tA) (hb : PW X (.BoolOp .Or (b :: rest) pos) tB') : PW X (.BoolOp .Or (a :: b :: rest) pos) (tOr tA tB') := by
  intro wh pins s σ H Q I h
  refine isTrue_or (thn (ha pins s σ H _ I h) fun c s1 ⟨H1, I1, q1⟩ => ?_)
  cases c with
  | true => exact ⟨H1, I1, q1⟩
  | false => exact hb wh pins s1 σ H1 Q I1 q1
theorem pt_not (ha : PT X a tA) : PT X (.UnaryOp .Not a pos) (tNot tA) := by
  intro pins s σ H Q I h
  exact isTrue_not (ha pins s σ H (fun c H1 => Q (!c) H1) I h)
/-- .. as values (bools) -/
def tAndV (ta tb : TE) : TE := fun σ H Q => ta σ H fun x H1 => ∃ c, x = .bl c ∧ if c = true then tb σ H1 Q else Q (.bl false) H1
def tOrV (ta tb : TE) : TE := fun σ H Q => ta σ H fun x H1 => ∃ c, x = .bl c ∧ if c = true then Q (.bl true) H1 else tb σ H1 Q
def tNotV (ta : TE) : TE := fun σ H Q => ta σ H fun x H1 => ∃ c, x = .bl c ∧ Q (.bl (!c)) H1
theorem pe_one {op} {t : TE} (h : PE X a t) : PE X (.BoolOp op [a] pos) t := fun pins s σ H Q I hw => BoolOp_one (h pins s σ H Q I hw)
theorem pe_and (ha : PE X a ta) (hb : PE X (.BoolOp .And (b :: rest) pos) tb) : PE X (.BoolOp .And (a :: b :: rest) pos) (tAndV ta tb) := by
  intro pins s σ H Q I h
  refine BoolOp_and (thn (ha pins s σ H _ I h) fun v s1 ⟨x, H1, I1, r1, q1⟩ => ?_)
  obtain ⟨c, rfl, q1⟩ := q1
  cases r1
  refine wpAny_truthy_bool ?_
  cases c with
  | true => exact hb pins s1 σ H1 Q I1 q1
  | false => exact ⟨.bl false, H1, I1, rfl, q1⟩
theorem pe_or (ha : PE X a ta) (hb : PE X (.BoolOp .Or (b :: rest) pos) tb) : PE X (.BoolOp .Or (a :: b :: rest) pos) (tOrV ta tb) := by
  intro pins s σ H Q I h
  refine BoolOp_or (thn (ha pins s σ H _ I h) fun v s1 ⟨x, H1, I1, r1, q1⟩ => ?_)
  obtain ⟨c, rfl, q1⟩ := q1
  cases r1
  refine wpAny_truthy_bool ?_
  cases c with
  | false => exact hb pins s1 σ H1 Q I1 q1
  | true => exact ⟨.bl true, H1, I1, rfl, q1⟩
theorem pe_not (ha : PE X a ta) : PE X (.UnaryOp .Not a pos) (tNotV ta) := by
  intro pins s σ H Q I h
  refine UnaryOp_ (thn (ha pins s σ H _ I h) fun v s1 ⟨x, H1, I1, r1, q1⟩ => ?_)
  obtain ⟨c, rfl, q1⟩ := q1
  cases r1
  exact not_of (wpAny_truthy_bool ⟨.bl (!c), H1, I1, rfl, q1⟩)
/-- a if t else b -/
def tIf (t : TT) (ta tb : TE) : TE := fun σ H Q => t σ H fun c H1 => if c = true then ta σ H1 Q else tb σ H1 Q
theorem pe_ifExp {c : Expr} (hc : PT X c tA) (ha : PE X a ta) (hb : PE X b tb) : PE X (.IfExp c a b pos) (tIf tA ta tb) := by
  intro pins s σ H Q I h
  refine wpAny_IfExp (thn (hc pins s σ H _ I h) fun d s1 ⟨H1, I1, q1⟩ => ?_)
  cases d with
  | true => exact ha pins s1 σ H1 Q I1 q1
  | false => exact hb pins s1 σ H1 Q I1 q1
end
end L2

namespace L2
open PySem PySem.Spec PyProof.Rows

/-! ### a list, a tuple that is read: tracked, frozen, or an object of the module -/
def SqL (K : PySem.W.Frag) (H : Hp) (a : Addr) (xs : List V) : Prop :=
  Rd H a (.lst xs) ∨
    ∃ (o : Obj) (its : Array Value) (n : Nat), K.lookup a = some o ∧ o.cls = .type "list" ∧ o.dict = none ∧ o.data = .seq its n ∧ its.size ≤ sizeLine ∧ Vals xs its.toList
def SqT (K : PySem.W.Frag) (H : Hp) (a : Addr) (xs : List V) : Prop :=
  Rd H a (.tup xs) ∨
    ∃ (o : Obj) (its : Array Value) (n : Nat), K.lookup a = some o ∧ o.cls = .type "tuple" ∧ o.data = .seq its n ∧ its.size ≤ sizeLine ∧ Vals xs its.toList
def absV : Value → Option V
  | .none => some .non
  | .bool b => some (.bl b)
  | .int i _ => some (.int i)
  | .str x _ => some (.str x)
  | .bytes b _ => some (.byt b)
  | .float b _ => some (.flt b)
  | .ref a => some (.ref a)
  | .type n => some (.ty n)
  | _ => none
theorem RelV.abs {x : V} {u : Value} (r : RelV x u) : absV u = some x := by
  cases x with
  | non => cases r; rfl
  | bl _ => cases r; rfl
  | int _ => obtain ⟨t, rfl⟩ := r; rfl
  | str _ => obtain ⟨t, rfl⟩ := r; rfl
  | byt _ => obtain ⟨t, rfl⟩ := r; rfl
  | flt _ => obtain ⟨t, rfl⟩ := r; rfl
  | ref _ => cases r; rfl
  | ty _ => cases r; rfl
theorem RelV.inj {x y : V} {u : Value} (r : RelV x u) (q : RelV y u) : x = y := Option.some.inj (r.abs.symm.trans q.abs)
theorem Vals.inj : ∀ {xs ys : List V} {us : List Value}, Vals xs us → Vals ys us → xs = ys
  | _, _, _, .nil, .nil => rfl
  | _, _, _, .cons r t, .cons r' t' => by rw [r.inj r', Vals.inj t t']
section
variable {X : Cx} {pins : List (Addr × Obj)} {σ : St} {H : Hp} {s : Shared} {a : Addr} {xs ys : List V}
theorem SqL.of {K : PySem.W.Frag} (h : H a = some (.lst xs)) : SqL K H a xs := .inl (.inl h)
theorem SqT.of {K : PySem.W.Frag} (h : H a = some (.tup xs)) : SqT K H a xs := .inl (.inl h)
theorem Inv.list (I : Inv X pins σ H s) (h : SqL X.K H a xs) : ∃ its : List Value, Vals xs its ∧ PlainL s.heap a its.toArray ∧ xs.length ≤ sizeLine := by
  rcases h with h | ⟨o, its, n, hk, hc, hd, hs, hz, r⟩
  · obtain ⟨z, its, n, r, e⟩ := h.ok I.hok
    exact ⟨its, r, ⟨_, n, e, rfl, rfl, rfl⟩, z⟩
  · refine ⟨its.toList, r, ⟨o, n, I.kIn a o hk, hc, hd, by simpa using hs⟩, ?_⟩
    have e := r.length
    simp only [Array.length_toList] at e
    omega
theorem Inv.tuple (I : Inv X pins σ H s) (h : SqT X.K H a xs) : ∃ its : List Value, Vals xs its ∧ IsTup s.heap a its.toArray ∧ xs.length ≤ sizeLine := by
  rcases h with h | ⟨o, its, n, hk, hc, hs, hz, r⟩
  · obtain ⟨z, its, r, p⟩ := h.ok I.hok
    exact ⟨its, r, p, z⟩
  · refine ⟨its.toList, r, ⟨o, I.kIn a o hk, hc, n, by simpa using hs⟩, ?_⟩
    have e := r.length
    simp only [Array.length_toList] at e
    omega
theorem Inv.list_inj (I : Inv X pins σ H s) (h : SqL X.K H a xs) (h' : SqL X.K H a ys) : xs = ys := by
  obtain ⟨its, r, ⟨o, n, e, _, _, d⟩, _⟩ := I.list h
  obtain ⟨its', r', ⟨o', n', e', _, _, d'⟩, _⟩ := I.list h'
  rw [e] at e'; cases e'
  rw [d] at d'
  injection d' with d1 _
  have : its = its' := by simpa using congrArg Array.toList d1
  subst this
  exact r.inj r'
theorem Inv.tuple_inj (I : Inv X pins σ H s) (h : SqT X.K H a xs) (h' : SqT X.K H a ys) : xs = ys := by
  obtain ⟨its, r, ⟨o, e, _, n, d⟩, _⟩ := I.tuple h
  obtain ⟨its', r', ⟨o', e', _, n', d'⟩, _⟩ := I.tuple h'
  rw [e] at e'; cases e'
  rw [d] at d'
  injection d' with d1 _
  have : its = its' := by simpa using congrArg Array.toList d1
  subst this
  exact r.inj r'
end

/-! ### another wish about exceptions -/
abbrev Cx.wish (X : Cx) (E : Value → Shared → Prop) : Cx := { X with xe := E }
/-- no exception leaves -/
abbrev Cx.nox (X : Cx) : Cx := X.wish fun _ _ => False
theorem Cx.Ok.wish {X : Cx} (ok : X.Ok) (E : Value → Shared → Prop) : (X.wish E).Ok :=
  ⟨ok.mod, ok.kind, ok.glob, ok.blt, ok.above, ok.inj, ok.has, ok.cab, ok.hd, ok.frames, ok.stk, ok.exf, ok.bs, ok.bsz, ok.noex, ok.exfs, ok.funs, ok.frf⟩
theorem Cx.Ok.unwish {X : Cx} {E : Value → Shared → Prop} (ok : (X.wish E).Ok) : X.Ok :=
  ⟨ok.mod, ok.kind, ok.glob, ok.blt, ok.above, ok.inj, ok.has, ok.cab, ok.hd, ok.frames, ok.stk, ok.exf, ok.bs, ok.bsz, ok.noex, ok.exfs, ok.funs, ok.frf⟩
section
variable {X : Cx} {pins : List (Addr × Obj)} {σ : St} {H : Hp} {s : Shared} {E : Value → Shared → Prop}
theorem Inv.wish (I : Inv X pins σ H s) (E : Value → Shared → Prop) : Inv (X.wish E) pins σ H s := ⟨I.ok.wish E, I.os, I.bare, I.base, I.loc, I.cell, I.free, I.freeC, I.pin, I.hok, I.len⟩
theorem Inv.unwish (I : Inv (X.wish E) pins σ H s) : Inv X pins σ H s := ⟨I.ok.unwish, I.os, I.bare, I.base, I.loc, I.cell, I.free, I.freeC, I.pin, I.hok, I.len⟩
theorem SP.unwish {D : Ends} {f : Flow} {s' : Shared} (h : SP (X.wish E) pins D f s') : SP X pins D f s' := by
  cases f with
  | next => obtain ⟨σ', H', I, q⟩ := h; exact ⟨σ', H', I.unwish, q⟩
  | brk => obtain ⟨σ', H', I, q⟩ := h; exact ⟨σ', H', I.unwish, q⟩
  | cont => obtain ⟨σ', H', I, q⟩ := h; exact ⟨σ', H', I.unwish, q⟩
  | ret u => obtain ⟨v, σ', H', I, r, q⟩ := h; exact ⟨v, σ', H', I.unwish, r, q⟩
theorem PE.nox {e : Expr} {t : TE} (h : PE X.nox e t) : PE X e t := fun pins s σ H Q I hw =>
  wpAny_mono (h pins s σ H Q (I.wish _) hw) (fun _ _ ⟨v, H', I', r, q⟩ => ⟨v, H', I'.unwish, r, q⟩) fun _ _ z => False.elim z
theorem PT.nox {e : Expr} {t : TT} (h : PT X.nox e t) : PT X e t := fun pins s σ H Q I hw =>
  wpAny_mono (h pins s σ H Q (I.wish _) hw) (fun _ _ ⟨H', I', q⟩ => ⟨H', I'.unwish, q⟩) fun _ _ z => False.elim z
theorem PSs.nox {st : List Stmt} {t : TS} (h : PSs X.nox st t) : PSs X st t := fun pins s σ H D I hw =>
  wpAny_mono (h pins s σ H D (I.wish _) hw) (fun _ _ q => q.unwish) fun _ _ z => False.elim z
end

/-! ### blocks and small statements -/
section
variable {X : Cx} {st : Stmt} {rest : List Stmt} {t u : TS} {e : Expr} {te : TE} {pos : Pos}
def tNext : TS := fun D σ H => D.nx σ H
def tSeq (t u : TS) : TS := fun D σ H => t { D with nx := u D } σ H
theorem pss_nil : PSs X [] tNext := fun _ _ σ H _ I h => wpAny_execs_nil ⟨σ, H, I, h⟩
theorem pss_cons (h1 : PS X st t) (h2 : PSs X rest u) : PSs X (st :: rest) (tSeq t u) := by
  intro pins s σ H D I h
  refine wpAny_execs_cons (thn (h1 pins s σ H { D with nx := u D } I h) fun f s1 q => ?_)
  cases f with
  | next =>
    obtain ⟨σ', H', I', q⟩ := q
    exact h2 pins s1 σ' H' D I' q
  | ret v => exact q
  | brk => exact q
  | cont => exact q
theorem pss_one (h1 : PS X st t) : PSs X [st] t := by
  intro pins s σ H D I h
  refine wpAny_execs_cons (thn (h1 pins s σ H D I h) fun f s1 q => ?_)
  cases f with
  | next => exact wpAny_execs_nil q
  | ret v => exact q
  | brk => exact q
  | cont => exact q
def tBreak : TS := fun D σ H => D.bk σ H
def tCont : TS := fun D σ H => D.ct σ H
theorem ps_pass : PS X (.Pass pos) tNext := fun _ _ σ H _ I h => wpAny_Pass ⟨σ, H, I, h⟩
theorem ps_break : PS X (.Break pos) tBreak := fun _ _ σ H _ I h => wpAny_Break ⟨σ, H, I, h⟩
theorem ps_continue : PS X (.Continue pos) tCont := fun _ _ σ H _ I h => wpAny_Continue ⟨σ, H, I, h⟩
/-- in a def's body nothing is shown -/
theorem Inv.quiet {pins : List (Addr × Obj)} {σ : St} {H : Hp} {s : Shared} (I : Inv X pins σ H s) : interactive X.env = false := by simp [interactive, I.ok.kind]
/-- a docstring -/
theorem ps_doc {x j pos pos'} : PS X (.Expr (.Constant (.str x) j pos) pos') tNext := fun _ s σ H _ I h => wpAny_Expr (Calls.Constant_str (show SP X _ _ .next { s with toks := s.toks + 1 } from ⟨σ, H, I.tok _, h⟩)) I.quiet
/-- an expression whose value is dropped -/
def tDrop (te : TE) : TS := fun D σ H => te σ H fun _ H1 => D.nx σ H1
theorem ps_expr (he : PE X e te) (hs : swapsWith e none pos.line X.env = pure false := by rfl) : PS X (.Expr e pos) (tDrop te) := by
  intro pins s σ H D I h
  exact wpAny_Expr_any (thn (he pins s σ H _ I h) fun v s1 ⟨x, H1, I1, r1, q1⟩ => ⟨σ, H1, I1, q1⟩) I.quiet hs
def tRet (te : TE) : TS := fun D σ H => te σ H D.rt
theorem ps_ret (he : PE X e te) : PS X (.Return (some e) pos) (tRet te) := by
  intro pins s σ H D I h
  exact wpAny_Return_some (thn (he pins s σ H _ I h) fun v s1 ⟨x, H1, I1, r1, q1⟩ => ⟨x, σ, H1, I1, r1, q1⟩)
def tRetN : TS := fun D _ H => D.rt .non H
theorem ps_retN : PS X (.Return none pos) tRetN := fun _ _ σ H _ I h => wpAny_Return_none ⟨.non, σ, H, I, rfl, h⟩
def tIfS (c : TT) (t u : TS) : TS := fun D σ H => c σ H fun b H1 => if b = true then t D σ H1 else u D σ H1
theorem ps_if {c : Expr} {a b : List Stmt} {tc : TT} (hc : PT X c tc) (ha : PSs X a t) (hb : PSs X b u) : PS X (.If c a b pos) (tIfS tc t u) := by
  intro pins s σ H D I h
  refine wpAny_If (thn (hc pins s σ H _ I h) fun d s1 ⟨H1, I1, q1⟩ => ?_)
  cases d with
  | true => exact ha pins s1 σ H1 D I1 q1
  | false => exact hb pins s1 σ H1 D I1 q1
/-- code that the proof never comes to -/
def tNever : TS := fun _ _ _ => False
theorem ps_never : PS X st tNever := fun _ _ _ _ _ _ h => h.elim
theorem pss_never {sts : List Stmt} : PSs X sts tNever := fun _ _ _ _ _ _ h => h.elim
end

/-! ### targets -/
abbrev TG := V → St → Hp → (St → Hp → Prop) → Prop
abbrev TGs := List V → St → Hp → (St → Hp → Prop) → Prop
def PG (X : Cx) (target : Expr) (t : TG) : Prop :=
  ∀ (pins : List (Addr × Obj)) (s : Shared) (σ : St) (H : Hp) (v : V) (u : Value) (Q : St → Hp → Prop), Inv X pins σ H s → RelV v u → t v σ H Q →
    wpAny (model X.prog X.w) X.A (assign target X.env u) (fun _ s' => ∃ σ' H', Inv X pins σ' H' s' ∧ Q σ' H') X.xe s
/-- several targets, one after another -/
def PGs (X : Cx) (ts : List Expr) (t : TGs) : Prop :=
  ∀ (pins : List (Addr × Obj)) (s : Shared) (σ : St) (H : Hp) (vs : List V) (us : List Value) (Q : St → Hp → Prop), Inv X pins σ H s → Vals vs us → t vs σ H Q →
    wpAny (model X.prog X.w) X.A (assignInOrder ((assignEach ts X.env).map (·.2)) us) (fun _ s' => ∃ σ' H', Inv X pins σ' H' s' ∧ Q σ' H') X.xe s
/-- o[i] = v, by values -/
abbrev TSet := V → V → V → Hp → (Hp → Prop) → Prop
def PSet (X : Cx) (t : TSet) : Prop :=
  ∀ (pins : List (Addr × Obj)) (s : Shared) (σ : St) (H : Hp) (o i v : V) (ov iv u : Value) (Q : Hp → Prop), Inv X pins σ H s → RelV o ov → RelV i iv → RelV v u → t o i v H Q →
    wpAny (model X.prog X.w) X.A (setItem ov iv u) (fun _ s' => ∃ H', Inv X pins σ H' s' ∧ Q H') X.xe s
/-- a op= b, by values -/
abbrev TIp := V → V → Hp → VK → Prop
def PIp (X : Cx) (op : Operator) (t : TIp) : Prop :=
  ∀ (pins : List (Addr × Obj)) (s : Shared) (σ : St) (H : Hp) (x y : V) (v u : Value) (Q : VK), Inv X pins σ H s → RelV x v → RelV y u → t x y H Q →
    wpAny (model X.prog X.w) X.A (inplaceOp op v u) (EP X pins σ Q) X.xe s
section
variable {X : Cx} {pos : Pos}
def gName (i : Nat) : TG := fun v σ H Q => Q (σ.set i (some v)) H
theorem pg_name {i : Nat} {x : Str} (hN : X.N.Nodup) (hi : X.N[i]? = some x) (hx : Loc X.env.scope x) (hf : X.fn x = true ∨ X.env.scope.names.lookup x = some .local := by first | exact .inl rfl | exact .inr rfl | assumption) : PG X (.Name x pos) (gName i) := by
  intro pins s σ H v u Q I r h
  exact wpAny_assign_Name (store_ok I hN hi hx r (fun s' I' => ⟨_, H, I', h⟩) hf)
def gNil : TGs := fun vs σ H Q => vs = [] ∧ Q σ H
def gCons (t : TG) (u : TGs) : TGs := fun vs σ H Q => ∃ v r, vs = v :: r ∧ t v σ H fun σ' H' => u r σ' H' Q
theorem pgs_nil : PGs X [] gNil := by
  intro pins s σ H vs us Q I r h
  obtain ⟨e, h⟩ := h
  subst e
  cases r
  exact assignInOrder_nil ⟨σ, H, I, h⟩
theorem pgs_cons {e : Expr} {es : List Expr} {t : TG} {u : TGs} (h1 : PG X e t) (h2 : PGs X es u)
    (hs : (assignEach (e :: es) X.env).map (·.2) = assign e X.env :: (assignEach es X.env).map (·.2) := by rfl) : PGs X (e :: es) (gCons t u) := by
  intro pins s σ H vs us Q I r h
  obtain ⟨v, vr, e1, h⟩ := h
  subst e1
  cases r with
  | cons r rr =>
    rw [hs]
    refine assignInOrder_cons (thn (h1 pins s σ H _ _ _ I r h) fun _ s1 ⟨σ1, H1, I1, q1⟩ => ?_)
    exact h2 pins s1 σ1 H1 _ _ Q I1 rr q1
/-- (a, b, ..) = a tuple of that length -/
def gTup (K : PySem.W.Frag) (n : Nat) (t : TGs) : TG := fun v σ H Q => ∃ a xs, v = .ref a ∧ SqT K H a xs ∧ xs.length = n ∧ t xs σ H Q
theorem pg_tup {es : List Expr} {k : Nat} {t : TGs} {n : Nat} (hc : X.calm = true) (h : PGs X es t)
    (hn : (assignEach es X.env).length = n := by rfl) (hst : (assignEach es X.env).findIdx? (·.1) = none := by rfl) : PG X (.Tuple es k pos) (gTup X.K n t) := by
  intro pins s σ H v u Q I r hw
  obtain ⟨a, xs, e1, hq, hl, hw⟩ := hw
  subst e1
  cases r
  obtain ⟨its, rv, ht, hz⟩ := I.tuple hq
  refine assign_Tuple_tuple (I.ok.hd hc) ht (by simp [hn, ← hl, rv.length]) hst fun h' hx => ?_
  have I1 : Inv X pins σ H { s with heap := h' } := I.kept (t' := s.toks) fun b o e => hx b o (Nat.ne_of_lt (Heap.lt_size e)) e
  exact h pins _ σ H xs _ Q I1 (by simpa using rv) hw
/-- o[i] = .. -/
def gSub (to ti : TE) (t : TSet) : TG := fun v σ H Q => to σ H fun o H1 => ti σ H1 fun i H2 => t o i v H2 fun H3 => Q σ H3
theorem pg_sub {o i : Expr} {to ti : TE} {t : TSet} (ho : PE X o to) (hi : PE X i ti) (hs : PSet X t)
    (ha : ∀ v, assign (.Subscript o i pos) X.env v = (do
      let ov ← holding [v] (eval o X.env)
      let iv ← holding [v, ov] (eval i X.env)
      standAt pos
      holding [v, ov, iv] (setItem ov iv v)
      release [v, ov, iv] []) := by intro _; rfl) : PG X (.Subscript o i pos) (gSub to ti t) := by
  intro pins s σ H v u Q I r h
  rw [ha]
  refine wpAny_bind (wpAny_holding (thn (ho pins s σ H _ I h) fun ov s1 ⟨x, H1, I1, r1, q1⟩ => ?_))
  refine wpAny_bind (wpAny_holding (thn (hi pins s1 σ H1 _ I1 q1) fun iv s2 ⟨y, H2, I2, r2, q2⟩ => ?_))
  refine wpAny_bind (wpAny_standAt (wpAny_bind (wpAny_holding (thn (hs pins s2 σ H2 x y v ov iv u _ I2 r1 r2 r q2) fun _ s3 ⟨H3, I3, q3⟩ => ?_))))
  exact wpAny_release ⟨σ, H3, I3, q3⟩
/-- target = value -/
def tAsg (te : TE) (g : TG) : TS := fun D σ H => te σ H fun x H1 => g x σ H1 D.nx
theorem ps_asg {tg e : Expr} {te : TE} {g : TG} (he : PE X e te) (hg : PG X tg g) (hs : swapsWithSole [tg] e pos.line X.env = pure false := by rfl) (hw : swappedStores [tg] e X.env = pure none := by rfl)
    (h1 : (assignEach [tg] X.env).map (·.2) = [assign tg X.env] := by rfl) : PS X (.Assign [tg] e pos) (tAsg te g) := by
  intro pins s σ H D I h
  refine wpAny_Assign_stores (thn (he pins s σ H _ I h) fun v s1 ⟨x, H1, I1, r1, q1⟩ => ?_) hs hw
  rw [h1]
  exact thn (hg pins s1 σ H1 x v _ I1 r1 q1) fun _ s2 q => q
/-- name = value -/
theorem ps_set {i : Nat} {x : Str} {e : Expr} {te : TE} {pos' : Pos} (hN : X.N.Nodup) (hi : X.N[i]? = some x) (hx : Loc X.env.scope x) (he : PE X e te) (hs : swapsWith e (some (.Name x pos')) pos.line X.env = pure false := by rfl) (hf : X.fn x = true ∨ X.env.scope.names.lookup x = some .local := by first | exact .inl rfl | exact .inr rfl | assumption) :
    PS X (.Assign [.Name x pos'] e pos) (tAsg te (gName i)) := by
  intro pins s σ H D I h
  refine wpAny_Assign_Name (thn (he pins s σ H _ I h) fun v s1 ⟨y, H1, I1, r1, q1⟩ => ?_) hs
  exact store_ok I1 hN hi hx r1 (fun s2 I2 => ⟨_, H1, I2, q1⟩) hf
/-- a, b = x, y with plain local names: stored from the right; the pair itself is not tracked (the opening rows as in PyProof/Rows/TupAssign.lean:23) -/
def tPar (i j : Nat) (ta : TA) : TS := fun D σ H => ta σ H fun vs H1 => ∃ v w, vs = [v, w] ∧ D.nx ((σ.set i (some v)).set j (some w)) H1
theorem ps_par {i j : Nat} {x y : Str} {a b : Expr} {ta : TA} {px py pt : Pos} {kt k2 pt2} (hc : X.calm = true) (hN : X.N.Nodup) (hi : X.N[i]? = some x) (hj : X.N[j]? = some y) (hij : i ≠ j)
    (hx : X.env.scope.names.lookup x = some .local) (hy : X.env.scope.names.lookup y = some .local) (ha : PA X [a, b] ta)
    (hw : swappedStores [.Tuple [.Name x px, .Name y py] kt pt] (.Tuple [a, b] k2 pt2) X.env = pure (some [x, y]))
    (hs : swapsWithSole [.Tuple [.Name x px, .Name y py] kt pt] (.Tuple [a, b] k2 pt2) pos.line X.env = pure false := by rfl) :
    PS X (.Assign [.Tuple [.Name x px, .Name y py] kt pt] (.Tuple [a, b] k2 pt2) pos) (tPar i j ta) := by
  intro pins s σ H D I h
  rw [exec_Assign_arm]
  refine wpAny_bind (wpAny_standAt ?_)
  rw [hs]
  refine wpAny_bind (wpAny_pure ?_)
  rw [if_neg (by decide)]
  refine wpAny_bind (Tuple_ (thn (ha _ pins s σ H _ I h) fun us s1 ⟨vs, H1, I1, r1, q1⟩ => ?_))
  obtain ⟨v, w, e1, q1⟩ := q1
  subst e1
  obtain ⟨u1, u2, rfl, rv, rw'⟩ : ∃ u1 u2, us = [u1, u2] ∧ RelV v u1 ∧ RelV w u2 := by
    cases r1 with
    | cons p q =>
      cases q with
      | cons p' q' =>
        cases q'
        exact ⟨_, _, rfl, p, p'⟩
  refine wpAny_newObj_type ?_ (by show 2 ≤ sizeLine; decide)
  have I2 : Inv X pins σ H1 { s1 with heap := s1.heap.push { cls := .type "tuple", data := .seq [u1, u2].toArray } } := I1.kept (t' := s1.toks) fun b o e => Heap.get?_push_of_some _ e
  rw [hw]
  refine wpAny_bind (wpAny_pure ?_)
  show wpAny (model X.prog X.w) X.A (do rule "assign.swapped-stores"; let items ← unpackItems (.ref s1.heap.objs.size) 2 none; assignInOrder [fun v => bindName X.env y v, fun v => bindName X.env x v] items.reverse; pure Flow.next) _ _ _
  refine wpAny_bind (wpAny_rule (wpAny_bind (unpackItems_tuple (items := #[u1, u2]) (I.ok.hd hc) (IsTup.new s1.heap _) fun h' hx' => ?_)))
  have I3 := I2.kept (h' := h') (t' := s1.toks) fun b o e => hx' b o (Nat.ne_of_lt (Heap.lt_size e)) e
  show wpAny _ _ (assignInOrder [fun v => bindName X.env y v, fun v => bindName X.env x v] [u2, u1] >>= fun _ => pure Flow.next) _ _ _
  refine wpAny_bind (assignInOrder_cons (wpAny_bindName (store_ok I3 hN hj (.inl hy) rw' (fun s2 I4 => ?_) (.inr hy))))
  refine assignInOrder_cons (wpAny_bindName (store_ok I4 hN hi (.inl hx) rv (fun s3 I5 => assignInOrder_nil (wpAny_pure ?_)) (.inr hx)))
  rw [List.set_comm _ _ (Ne.symm hij)] at I5
  exact ⟨_, H1, I5, q1⟩
/-- name op= e -/
def tAug (i : Nat) (te : TE) (ti : TIp) : TS := fun D σ H => ∃ x, σ[i]? = some (some x) ∧ te σ H fun y H1 => ti x y H1 fun z H2 => D.nx (σ.set i (some z)) H2
theorem ps_aug {i : Nat} {x : Str} {e : Expr} {te : TE} {op : Operator} {ti : TIp} {pos' : Pos} (hN : X.N.Nodup) (hi : X.N[i]? = some x) (hx : Loc X.env.scope x) (he : PE X e te) (ho : PIp X op ti) (hf : X.fn x = true ∨ X.env.scope.names.lookup x = some .local := by first | exact .inl rfl | exact .inr rfl | assumption) :
    PS X (.AugAssign (.Name x pos') op e pos) (tAug i te ti) := by
  intro pins s σ H D I h
  obtain ⟨v, e1, h⟩ := h
  obtain ⟨m, hn, hl⟩ := I.loc
  have vis : Vis X.env.scope x := by rcases hx with k | k; exact .inl k; exact .inr (.inl k)
  obtain ⟨u, r, l⟩ := hl i x v hi e1 vis
  refine wpAny_AugAssign_Name ?_
  have go : wpAny (model X.prog X.w) X.A (eval e X.env) (fun w s₂ => wpAny (model X.prog X.w) X.A (inplaceOp op u w) (fun r s₃ => wpAny (model X.prog X.w) X.A (storeName X.env x r) (fun _ => SP X pins D .next) X.xe s₃) X.xe s₂) X.xe s := by
    refine thn (he pins s σ H _ I h) fun w s1 ⟨y, H1, I1, r1, q1⟩ => ?_
    refine thn (ho pins s1 σ H1 v y u w _ I1 r r1 q1) fun z s2 ⟨zv, H2, I2, r2, q2⟩ => ?_
    exact store_ok I2 hN hi hx r2 (fun s3 I3 => ⟨_, H2, I3, q2⟩) hf
  rcases l with ⟨hk, hm⟩ | ⟨hk, c, hc, hcell⟩
  · exact wpAny_loadName_local I.ok.kind hk hn hm go
  · rcases hk with hk | hk
    · exact wpAny_loadName_cell I.ok.kind hk hc hcell go
    · rcases hx with k | k
      · have : X.env.scope.names.lookup x = some .free := hk
        rw [k] at this; cases this
      · have : X.env.scope.names.lookup x = some .free := hk
        rw [k] at this; cases this
/-- o[i] op= e -/
def tAugS (to ti te : TE) (tget : V → V → Hp → VK → Prop) (tip : TIp) (tset : TSet) : TS := fun D σ H => to σ H fun o H1 => ti σ H1 fun i H2 => tget o i H2 fun x H3 => te σ H3 fun y H4 => tip x y H4 fun z H5 => tset o i z H5 fun H6 => D.nx σ H6
/-- o[i], by values -/
def PGet (X : Cx) (t : V → V → Hp → VK → Prop) : Prop :=
  ∀ (pins : List (Addr × Obj)) (s : Shared) (σ : St) (H : Hp) (o i : V) (ov iv : Value) (Q : VK), Inv X pins σ H s → RelV o ov → RelV i iv → t o i H Q →
    wpAny (model X.prog X.w) X.A (getItem ov iv) (EP X pins σ Q) X.xe s
theorem ps_augS {o i e : Expr} {to ti te : TE} {tget : V → V → Hp → VK → Prop} {tip : TIp} {tset : TSet} {op : Operator} {tpos : Pos} (ho : PE X o to) (hi : PE X i ti) (hg : PGet X tget) (he : PE X e te) (hp : PIp X op tip) (hs : PSet X tset)
    (ha : ∀ ov iv new, augStore i ov iv new = (do holding [new, ov, iv] (setItem ov iv new); release [new, ov, iv] []; pure .next) := by intros; rfl) : PS X (.AugAssign (.Subscript o i tpos) op e pos) (tAugS to ti te tget tip tset) := by
  intro pins s σ H D I h
  refine wpAny_AugAssign_SubscriptAny (thn (ho pins s σ H _ I h) fun ov s1 ⟨x1, H1, I1, r1, q1⟩ => ?_) ha
  refine thn (hi pins s1 σ H1 _ I1 q1) fun iv s2 ⟨x2, H2, I2, r2, q2⟩ => ?_
  refine thn (hg pins s2 σ H2 x1 x2 ov iv _ I2 r1 r2 q2) fun old s3 ⟨x3, H3, I3, r3, q3⟩ => ?_
  refine thn (he pins s3 σ H3 _ I3 q3) fun v s4 ⟨x4, H4, I4, r4, q4⟩ => ?_
  refine thn (hp pins s4 σ H4 x3 x4 old v _ I4 r3 r4 q4) fun new s5 ⟨x5, H5, I5, r5, q5⟩ => ?_
  exact thn (hs pins s5 σ H5 x1 x2 x5 ov iv new _ I5 r1 r2 r5 q5) fun _ s6 ⟨H6, I6, q6⟩ => ⟨σ, H6, I6, q6⟩
/-- ints -/
def ipI (f : Int → Int → Int) : TIp := fun x y H Q => ∃ i j, x = .int i ∧ y = .int j ∧ Q (.int (f i j)) H
theorem ip_add : PIp X .Add (ipI fun i j => i + j) := by
  intro pins s σ H x y v u Q I r1 r2 h
  obtain ⟨i, j, e1, e2, q⟩ := h
  subst e1; subst e2
  obtain ⟨t, rfl⟩ := r1
  obtain ⟨t', rfl⟩ := r2
  exact iadd_int ⟨.int _, H, I.tok _, ⟨_, rfl⟩, q⟩
theorem ip_sub : PIp X .Sub (ipI fun i j => i - j) := by
  intro pins s σ H x y v u Q I r1 r2 h
  obtain ⟨i, j, e1, e2, q⟩ := h
  subst e1; subst e2
  obtain ⟨t, rfl⟩ := r1
  obtain ⟨t', rfl⟩ := r2
  exact isub_int ⟨.int _, H, I.tok _, ⟨_, rfl⟩, q⟩
end

/-! ### while -/
section
variable {X : Cx} {pos : Pos}
/-- the invariant W with its measure -/
def tWhile (c : TT) (tb : TS) : TS := fun D σ H => ∃ W : Nat → St → Hp → Prop, (∃ m, W m σ H) ∧ ∀ m σ H, W m σ H →
  c σ H fun b H1 => if b = true then ∃ N : St → Hp → Prop, (∀ σ' H', N σ' H' → ∃ m', m' < m ∧ W m' σ' H') ∧ tb { D with nx := N, ct := N, bk := D.nx } σ H1 else D.nx σ H1
theorem ps_while {c : Expr} {body : List Stmt} {tc : TT} {tb : TS} (hp : PassesOwn (model X.prog X.w) X.A X.env X.xe) (hc : PT X c tc) (hb : PSs X body tb) : PS X (.While c body [] pos) (tWhile tc tb) := by
  intro pins s σ H D I h
  obtain ⟨W, ⟨m0, w0⟩, turn⟩ := h
  refine wpAny_While (codeAny_whileLoop (fun n s' => ∃ σ' H', Inv X pins σ' H' s' ∧ W n σ' H') ?_ m0 ⟨σ, H, I, w0⟩)
  rintro n s1 ⟨σ1, H1, I1, w1⟩
  refine wpAny_passesOwn hp (thn (hc pins s1 σ1 H1 _ I1 (turn n σ1 H1 w1)) fun b s2 ⟨H2, I2, q2⟩ => ?_)
  cases b with
  | true =>
    obtain ⟨N, hN, q2⟩ := q2
    rw [if_pos rfl]
    refine wpAny_passesOwn hp (thn (hb pins s2 σ1 H2 _ I2 q2) fun f s3 q3 => ?_)
    cases f with
    | next =>
      obtain ⟨σ3, H3, I3, n3⟩ := q3
      obtain ⟨m', hm, w3⟩ := hN σ3 H3 n3
      exact ⟨m', hm, σ3, H3, I3, w3⟩
    | cont =>
      obtain ⟨σ3, H3, I3, n3⟩ := q3
      obtain ⟨m', hm, w3⟩ := hN σ3 H3 n3
      exact ⟨m', hm, σ3, H3, I3, w3⟩
    | brk => exact q3
    | ret v => exact q3
  | false =>
    rw [if_neg Bool.false_ne_true]
    exact wpAny_execs_nil ⟨σ1, H2, I2, q2⟩
end

/-! ### what a loop or a comprehension walks -/
/-- at turn i: it yields x (the heap may grow), or it stops -/
structure It where
  go : Nat → Hp → Prop
  yld : Nat → Hp → V → Hp → Prop
  stop : Nat → Hp → Prop
/-- the iterator's own objects may turn: they are not the frame's, not pinned, younger than the entry (or a comprehension's own) -/
def FpOk (X : Cx) (pins : List (Addr × Obj)) (H : Hp) (b : Addr) : Prop :=
  H b = none ∧ b ≠ X.env.locals ∧ b ∉ X.fs ∧ (b ∈ X.ex ∨ X.s₀.heap.objs.size ≤ b) ∧ (∀ x c, X.env.cells.lookup x = some c → c ≠ b) ∧ ∀ p ∈ X.pn ++ pins, p.1 ≠ b
theorem Inv.fpOk {X : Cx} {pins : List (Addr × Obj)} {σ : St} {H H' : Hp} {s : Shared} {b : Addr} (I : Inv X pins σ H s) (hb : s.heap.objs.size ≤ b) (hn : H' b = none) : FpOk X pins H' b := by
  refine ⟨hn, Nat.ne_of_gt (Nat.lt_of_lt_of_le I.lt hb), I.nofs hb, .inr (Nat.le_trans I.sz hb), fun x c e z => ?_, fun p hp z => ?_⟩
  · obtain ⟨v, q⟩ := I.cell x c e
    exact absurd (Nat.lt_of_lt_of_le q.lt (by rw [z]; exact hb)) (Nat.lt_irrefl _)
  · exact absurd (Nat.lt_of_lt_of_le (Heap.lt_size (I.pin p hp).1) (by rw [z]; exact hb)) (Nat.lt_irrefl _)
structure Turn (P : Program) (w : World) (K : PySem.W.Frag) (tg : Expr) (J : It) (fp : List Addr) (it : Addr) (tn : Nat → Heap → Prop) : Prop where
  mem : it ∈ fp
  obj : ∀ i h, tn i h → ∀ b ∈ fp, ∃ o, h.get? b = some o ∧ ∀ v, o.data ≠ .cell v
  keep : ∀ i h h', tn i h → (∀ b ∈ fp, ∀ o, h.get? b = some o → h'.get? b = some o) → tn i h'
  item : ∀ (X : Cx), X.prog = P → X.w = w → X.K = K → X.calm = true → ∀ (i : Nat) (pins : List (Addr × Obj)) (s : Shared) (σ : St) (H : Hp) (E : Value → Shared → Prop), Inv X pins σ H s → (∀ b ∈ fp, FpOk X pins H b) → tn i s.heap → J.go i H →
    wpAny (model P w) X.A (pyNext (.ref it)) (fun r s1 => ∃ u, r = some u ∧
      wpAny (model P w) X.A (letOwnedTupleGo tg (.ref it) u) (fun _ s2 => ∃ x H', Inv X pins σ H' s2 ∧ RelV x u ∧ J.yld i H x H' ∧ tn (i + 1) s2.heap ∧ ∀ b ∈ fp, H' b = none) E s1) E s
  done : ∀ (X : Cx), X.prog = P → X.w = w → X.K = K → X.calm = true → ∀ (i : Nat) (pins : List (Addr × Obj)) (s : Shared) (σ : St) (H : Hp) (E : Value → Shared → Prop), Inv X pins σ H s → (∀ b ∈ fp, FpOk X pins H b) → tn i s.heap → J.stop i H →
    wpAny (model P w) X.A (pyNext (.ref it)) (fun r s1 => r = none ∧ Inv X pins σ H s1) E s
  self : ∀ (A : Around) (i : Nat) (s : Shared) (Q : Value → Shared → Prop) (E : Value → Shared → Prop), tn i s.heap → Q (.ref it) s → wpAny (model P w) A (pyIter (.ref it)) Q E s
abbrev TI := St → Hp → (It → Hp → Prop) → Prop
/-- an iterator has come -/
def PIE (X : Cx) (pins : List (Addr × Obj)) (σ : St) (tg : Expr) (R : It → Hp → Prop) (itv : Value) (s2 : Shared) : Prop :=
  ∃ (it : Addr) (fp : List Addr) (tn : Nat → Heap → Prop) (J : It) (H' : Hp), itv = .ref it ∧ Inv X pins σ H' s2 ∧ Turn X.prog X.w X.K tg J fp it tn ∧ tn 0 s2.heap ∧ (∀ b ∈ fp, FpOk X pins H' b) ∧ R J H'
def PI (X : Cx) (tg iter : Expr) (wi : TI) : Prop :=
  ∀ (pins : List (Addr × Obj)) (s : Shared) (σ : St) (H : Hp) (R : It → Hp → Prop), Inv X pins σ H s → wi σ H R →
    wpAny (model X.prog X.w) X.A (eval iter X.env) (fun v s1 => wpAny (model X.prog X.w) X.A (pyIter v) (PIE X pins σ tg R) X.xe s1) X.xe s

/-- the step ahead of the store is nothing for an iterator that keeps no tuple -/
theorem go_of {M : Model} {A : Around} {E : Value → Shared → Prop} {s : Shared} {tg : Expr} {it : Addr} {u : Value} {o : Obj} {n : String} {vs : Array Value} {Q : Unit → Shared → Prop} (ho : s.heap.get? it = some o) (hc : o.cls = .type n) (hd : o.data = .fields vs)
    (hn : ["enumerate", "zip", "dict_itemiterator", "dict_reverseitemiterator", "odict_iterator", "itertools.zip_longest", "itertools.pairwise"].contains n = false) (hQ : Q () s) : wpAny M A (letOwnedTupleGo tg (.ref it) u) Q E s := by
  unfold letOwnedTupleGo
  cases tg <;> first
    | exact wpAny_pure hQ
    | (cases u <;> first
        | exact wpAny_pure hQ
        | (refine wpAny_bind (wpAny_load ho ?_)
           rw [hc, hd]
           show wpAny M A (if (["enumerate", "zip", "dict_itemiterator", "dict_reverseitemiterator", "odict_iterator", "itertools.zip_longest", "itertools.pairwise"].contains n && vs[0]? == some (rawInt _)) = true then _ else _) Q E s
           rw [if_neg (by intro h; rw [hn, Bool.false_and] at h; cases h)]
           exact wpAny_pure hQ))

/-- the list at a, as it stands at each turn (a loop may append to it) -/
def Itl (K : PySem.W.Frag) (a : Addr) : It :=
  ⟨fun i H => ∃ xs x, SqL K H a xs ∧ xs[i]? = some x, fun i H x H' => H' = H ∧ ∀ xs, SqL K H a xs → xs[i]? = some x, fun i H => ∃ xs, SqL K H a xs ∧ xs.length ≤ i⟩
def Itt (K : PySem.W.Frag) (a : Addr) : It :=
  ⟨fun i H => ∃ xs x, SqT K H a xs ∧ xs[i]? = some x, fun i H x H' => H' = H ∧ ∀ xs, SqT K H a xs → xs[i]? = some x, fun i H => ∃ xs, SqT K H a xs ∧ xs.length ≤ i⟩
/-- lo, lo + 1, .. (n of them) -/
def Itr (lo : Int) (n : Nat) : It := ⟨fun i _ => i < n, fun i H x H' => H' = H ∧ x = .int (lo + i), fun i _ => n ≤ i⟩
theorem turn_list {P : Program} {w : World} {K : PySem.W.Frag} {tg : Expr} (a it : Addr) : Turn P w K tg (Itl K a) [it] it (fun i h => h.IsListIter it a i) where
  mem := by simp
  obj := fun i h st b hb => by
    have e : b = it := by simpa using hb
    subst e
    obtain ⟨o, e, c, d⟩ := st
    exact ⟨o, e, fun v z => by rw [d] at z; cases z⟩
  keep := fun i h h' st k => st.at fun o e => k it (by simp) o e
  item := by
    intro X hP hw hK hc i pins s σ H E I hf st hg
    subst hP hw hK
    obtain ⟨xs, x, hq, hx⟩ := hg
    obtain ⟨its, rv, p, hz⟩ := I.list hq
    obtain ⟨u, hu, ru⟩ := rv.get hx
    obtain ⟨f0, f1, f2, f3, f4, f5⟩ := hf it (by simp)
    refine wpAny_pyNext_list_item st p.isList (x := u) (by simpa using hu) fun h' st' sb => ?_
    have I1 : Inv X pins σ H { s with heap := h' } := I.turned (t' := s.toks) (fun b o hb e => (sb.2 b hb).trans e) f0 f1 f3 f4 f5
    obtain ⟨o, e, c, d⟩ := id st'
    exact ⟨u, rfl, go_of (s := { s with heap := h' }) e c d (by decide) ⟨x, H, I1, ru, ⟨rfl, fun ys hy => by rw [I.list_inj hy hq]; exact hx⟩, st', fun b hb => (hf b hb).1⟩⟩
  done := by
    intro X hP hw hK hc i pins s σ H E I hf st hg
    subst hP hw hK
    obtain ⟨xs, hq, hx⟩ := hg
    obtain ⟨its, rv, p, hz⟩ := I.list hq
    obtain ⟨f0, f1, f2, f3, f4, f5⟩ := hf it (by simp)
    have hl := rv.length
    exact wpAny_pyNext_list_end (I.ok.hd hc) st p.isList (by simp; omega) fun h' eb => ⟨rfl, I.turned (t' := s.toks) (fun b o hb e => eb b o hb e) f0 f1 f3 f4 f5⟩
  self := fun _ _ _ _ _ st h => wpAny_pyIter_listiter st h
theorem turn_tuple {P : Program} {w : World} {K : PySem.W.Frag} {tg : Expr} (a it : Addr) : Turn P w K tg (Itt K a) [it] it (fun i h => h.IsTupleIter it a i) where
  mem := by simp
  obj := fun i h st b hb => by
    have e : b = it := by simpa using hb
    subst e
    obtain ⟨o, e, c, d⟩ := st
    exact ⟨o, e, fun v z => by rw [d] at z; cases z⟩
  keep := fun i h h' st k => st.at fun o e => k it (by simp) o e
  item := by
    intro X hP hw hK hc i pins s σ H E I hf st hg
    subst hP hw hK
    obtain ⟨xs, x, hq, hx⟩ := hg
    obtain ⟨its, rv, p, hz⟩ := I.tuple hq
    obtain ⟨u, hu, ru⟩ := rv.get hx
    obtain ⟨f0, f1, f2, f3, f4, f5⟩ := hf it (by simp)
    refine wpAny_pyNext_tuple_item st (show s.heap.IsTuple a its.toArray from p) (x := u) (by simpa using hu) fun h' st' sb => ?_
    have I1 : Inv X pins σ H { s with heap := h' } := I.turned (t' := s.toks) (fun b o hb e => (sb.2 b hb).trans e) f0 f1 f3 f4 f5
    obtain ⟨o, e, c, d⟩ := id st'
    exact ⟨u, rfl, go_of (s := { s with heap := h' }) e c d (by decide) ⟨x, H, I1, ru, ⟨rfl, fun ys hy => by rw [I.tuple_inj hy hq]; exact hx⟩, st', fun b hb => (hf b hb).1⟩⟩
  done := by
    intro X hP hw hK hc i pins s σ H E I hf st hg
    subst hP hw hK
    obtain ⟨xs, hq, hx⟩ := hg
    obtain ⟨its, rv, p, hz⟩ := I.tuple hq
    obtain ⟨f0, f1, f2, f3, f4, f5⟩ := hf it (by simp)
    have hl := rv.length
    exact wpAny_pyNext_tuple_end (I.ok.hd hc) st (show s.heap.IsTuple a its.toArray from p) (by simp; omega) fun h' eb => ⟨rfl, I.turned (t' := s.toks) (fun b o hb e => eb b o hb e) f0 f1 f3 f4 f5⟩
  self := fun _ _ _ _ _ st h => wpAny_pyIter_tupleiter st h
theorem turn_range {P : Program} {w : World} {K : PySem.W.Frag} {tg : Expr} (it : Addr) (lo : Int) (n : Nat) : Turn P w K tg (Itr lo n) [it] it (fun i h => IsRangeIter h it (lo + (i : Nat) * 1) ((n : Int) - (i : Nat)) 1) where
  mem := by simp
  obj := fun i h st b hb => by
    have e : b = it := by simpa using hb
    subst e
    exact ⟨_, st, fun v z => by
      have z' : Data.fields _ = Data.cell v := z
      cases z'⟩
  keep := fun i h h' st k => k it (by simp) _ st
  item := by
    intro X hP hw hK hc i pins s σ H E I hf st hg
    subst hP hw hK
    obtain ⟨f0, f1, f2, f3, f4, f5⟩ := hf it (by simp)
    have W := Walks.range (prog := X.prog) (w := X.w) (I.ok.hd hc) it lo 1 n
    refine W.item i s _ _ hg st fun v h' tk hv st' kk => ?_
    obtain ⟨t, rfl⟩ := hv
    have I1 : Inv X pins σ H { s with heap := h', toks := tk } := I.turned (fun b o hb e => kk b o (by simpa using hb) e) f0 f1 f3 f4 f5
    refine ⟨_, rfl, go_of (s := { s with heap := h', toks := tk }) (n := "range_iterator") st' rfl rfl (by decide) ⟨.int (lo + i), H, I1, ⟨t, ?_⟩, ⟨rfl, rfl⟩, st', fun b hb => (hf b hb).1⟩⟩
    rw [Int.mul_one]
  done := by
    intro X hP hw hK hc i pins s σ H E I hf st hg
    subst hP hw hK
    obtain ⟨f0, f1, f2, f3, f4, f5⟩ := hf it (by simp)
    exact wpAny_pyNext_range_end (I.ok.hd hc) st (by have : n ≤ i := hg; omega) fun h' eb => ⟨rfl, I.turned (t' := s.toks) (fun b o hb e => eb b o hb e) f0 f1 f3 f4 f5⟩
  self := fun _ _ _ _ _ st h => wpAny_pyIter_rangeiter st h
end L2

namespace L2
open PySem PySem.Spec PyProof.Rows
section
variable {X : Cx} {tg : Expr}
def iList (K : PySem.W.Frag) (tl : TE) : TI := fun σ H R => tl σ H fun x H1 => ∃ a, x = .ref a ∧ (∃ xs, SqL K H1 a xs) ∧ R (Itl K a) H1
def iTup (K : PySem.W.Frag) (tl : TE) : TI := fun σ H R => tl σ H fun x H1 => ∃ a, x = .ref a ∧ (∃ xs, SqT K H1 a xs) ∧ R (Itt K a) H1
theorem pi_list {l : Expr} {tl : TE} (hl : PE X l tl) : PI X tg l (iList X.K tl) := by
  intro pins s σ H R I h
  refine thn (hl pins s σ H _ I h) fun v s1 ⟨x, H1, I1, r1, q1⟩ => ?_
  obtain ⟨a, e, ⟨xs, hq⟩, q⟩ := q1
  subst e
  cases r1
  obtain ⟨its, rv, p, hz⟩ := I1.list hq
  refine wpAny_pyIter_list p.isList ?_
  refine ⟨s1.heap.objs.size, [s1.heap.objs.size], _, _, H1, rfl, I1.kept (t' := s1.toks) fun b o e => Heap.get?_push_of_some _ e, turn_list a _, ⟨_, Heap.get?_push_size _ rfl, rfl, rfl⟩, fun b hb => ?_, q⟩
  have e : b = s1.heap.objs.size := by simpa using hb
  subst e
  exact I1.fpOk (Nat.le_refl _) (I1.hok.fresh (Nat.le_refl _))
theorem pi_tup {l : Expr} {tl : TE} (hl : PE X l tl) : PI X tg l (iTup X.K tl) := by
  intro pins s σ H R I h
  refine thn (hl pins s σ H _ I h) fun v s1 ⟨x, H1, I1, r1, q1⟩ => ?_
  obtain ⟨a, e, ⟨xs, hq⟩, q⟩ := q1
  subst e
  cases r1
  obtain ⟨its, rv, p, hz⟩ := I1.tuple hq
  refine wpAny_pyIter_tuple (show s1.heap.IsTuple a its.toArray from p) ?_
  refine ⟨s1.heap.objs.size, [s1.heap.objs.size], _, _, H1, rfl, I1.kept (t' := s1.toks) fun b o e => Heap.get?_push_of_some _ e, turn_tuple a _, ⟨_, Heap.get?_push_size _ rfl, rfl, rfl⟩, fun b hb => ?_, q⟩
  have e : b = s1.heap.objs.size := by simpa using hb
  subst e
  exact I1.fpOk (Nat.le_refl _) (I1.hok.fresh (Nat.le_refl _))
/-- a range object just made, walked -/
theorem range_it {pins : List (Addr × Obj)} {σ : St} {H : Hp} {s : Shared} {R : It → Hp → Prop} {E : Value → Shared → Prop} {lo hi : Int} {t u v : Tok} {tk : Nat} (I : Inv X pins σ H s) (h1 : -(2 ^ 62) ≤ lo) (h2 : lo < 2 ^ 62) (h3 : -(2 ^ 62) ≤ hi) (h4 : hi < 2 ^ 62)
    (q : R (Itr lo (hi - lo).toNat) H) : wpAny (model X.prog X.w) X.A (pyIter (.ref s.heap.objs.size)) (PIE X pins σ tg R) E { s with heap := s.heap.push { cls := .type "range", data := .fields #[.int lo t, .int hi u, .int 1 v] }, toks := tk } := by
  refine wpAny_pyIter_range (IsRange.new ..) (small_one h1 h2 h3 h4) ?_
  have I1 : Inv X pins σ H { s with heap := s.heap.push { cls := .type "range", data := .fields #[.int lo t, .int hi u, .int 1 v] }, toks := tk } := I.kept fun b o e => Heap.get?_push_of_some _ e
  refine ⟨(s.heap.push { cls := .type "range", data := .fields #[.int lo t, .int hi u, .int 1 v] }).objs.size, [(s.heap.push { cls := .type "range", data := .fields #[.int lo t, .int hi u, .int 1 v] }).objs.size], _, _, H, rfl,
    I1.kept (t' := tk) fun b o e => Heap.get?_push_of_some _ e, turn_range _ lo (hi - lo).toNat, ?_, fun b hb => ?_, q⟩
  · have e1 : lo + ((0 : Nat) : Int) * 1 = lo := by simp
    have e2 : (((hi - lo).toNat : Nat) : Int) - ((0 : Nat) : Int) = Builtin.Range.rangeSize lo hi 1 := by rw [rangeSize_one]; split <;> omega
    show IsRangeIter _ _ (lo + ((0 : Nat) : Int) * 1) ((((hi - lo).toNat : Nat) : Int) - ((0 : Nat) : Int)) 1
    rw [e1, e2]
    exact Heap.get?_push_size _ rfl
  · have e : b = (s.heap.push { cls := .type "range", data := .fields #[.int lo t, .int hi u, .int 1 v] }).objs.size := by simpa using hb
    subst e
    exact I1.fpOk (Nat.le_refl _) (I1.hok.fresh (Nat.le_refl _))
def iRng1 (ta : TA) : TI := fun σ H R => ta σ H fun vs H1 => ∃ j : Int, vs = [.int j] ∧ -(2 ^ 62) ≤ j ∧ j < 2 ^ 62 ∧ R (Itr 0 j.toNat) H1
def iRng2 (ta : TA) : TI := fun σ H R => ta σ H fun vs H1 => ∃ i j : Int, vs = [.int i, .int j] ∧ (-(2 ^ 62) ≤ i ∧ i < 2 ^ 62 ∧ -(2 ^ 62) ≤ j ∧ j < 2 ^ 62) ∧ R (Itr i (j - i).toNat) H1
theorem pi_range1 {a : Expr} {ta : TA} {p pos : Pos} (hg : Gl X "range") (hm : X.mg "range" = none) (ha : PA X [a] ta) (hs : starEach [a] X.env = [(false, eval a X.env)] := by rfl) : PI X tg (.Call (.Name "range" p) [a] [] pos) (iRng1 ta) := by
  intro pins s σ H R I h
  refine Call_ (ld_blt I hg hm boot_range (PyProof.Rows.callWith_type1 (thn (ha pos pins s σ H _ I h) fun us s1 ⟨vs, H1, I1, r1, q1⟩ => ?_) hs rfl))
  obtain ⟨j, e, q1, q2, q⟩ := q1
  subst e
  cases r1 with
  | cons r rr =>
    cases rr
    obtain ⟨t, rfl⟩ := r
    exact call_range_1 (range_it I1 (by omega) (by omega) q1 q2 (by simpa using q))
theorem pi_range2 {a b : Expr} {ta : TA} {p pos : Pos} (hg : Gl X "range") (hm : X.mg "range" = none) (ha : PA X [a, b] ta) (hs : starEach [a, b] X.env = [(false, eval a X.env), (false, eval b X.env)] := by rfl) (hs2 : starEach [b] X.env = [(false, eval b X.env)] := by rfl) :
    PI X tg (.Call (.Name "range" p) [a, b] [] pos) (iRng2 ta) := by
  intro pins s σ H R I h
  refine Call_ (ld_blt I hg hm boot_range (PyProof.Rows.callWith_type1 (thn (ha pos pins s σ H _ I h) fun us s1 ⟨vs, H1, I1, r1, q1⟩ => ?_) (by rw [hs, hs2]) (by rw [hs2]; rfl)))
  obtain ⟨i, j, e, ⟨q1, q2, q3, q4⟩, q⟩ := q1
  subst e
  cases r1 with
  | cons r rr =>
    cases rr with
    | cons r' rr =>
      cases rr
      obtain ⟨t, rfl⟩ := r
      obtain ⟨t', rfl⟩ := r'
      exact call_range_2 (range_it I1 q1 q2 q3 q4 q)

/-! ### for -/
/-- W: the invariant by the turn and a measure; N: what the body is to reach -/
def tFor (wi : TI) (g : TG) (tb : TS) : TS := fun D σ H => wi σ H fun J H1 => ∃ W : Nat → Nat → St → Hp → Prop, (∃ m, W 0 m σ H1) ∧ ∀ i m σ H, W i m σ H →
  (J.stop i H ∧ D.nx σ H) ∨ (J.go i H ∧ ∃ N : St → Hp → Prop, (∀ σ' H', N σ' H' → ∃ m', m' < m ∧ W (i + 1) m' σ' H') ∧ ∀ x H', J.yld i H x H' → g x σ H' fun σ2 H2 => tb { D with nx := N, ct := N, bk := D.nx } σ2 H2)
/-- the records at fp as they stand -/
def pinsAt (fp : List Addr) (h : Heap) : List (Addr × Obj) := fp.filterMap fun b => (h.get? b).map fun o => (b, o)
theorem mem_pinsAt {fp : List Addr} {h : Heap} {b : Addr} {o : Obj} (hb : b ∈ fp) (e : h.get? b = some o) : (b, o) ∈ pinsAt fp h := List.mem_filterMap.mpr ⟨b, hb, by rw [e]; rfl⟩
theorem of_pinsAt {fp : List Addr} {h : Heap} {p : Addr × Obj} (hp : p ∈ pinsAt fp h) : p.1 ∈ fp ∧ h.get? p.1 = some p.2 := by
  obtain ⟨b, hb, e⟩ := List.mem_filterMap.mp hp
  cases q : h.get? b with
  | none => rw [q] at e; cases e
  | some o =>
    rw [q] at e
    have e' : (b, o) = p := Option.some.inj e
    subst e'
    exact ⟨hb, q⟩
theorem Inv.pinned {pins : List (Addr × Obj)} {σ : St} {H : Hp} {s : Shared} {fp : List Addr} (I : Inv X pins σ H s) (hf : ∀ b ∈ fp, FpOk X pins H b) (ho : ∀ b ∈ fp, ∃ o, s.heap.get? b = some o ∧ ∀ v, o.data ≠ .cell v) : Inv X (pins ++ pinsAt fp s.heap) σ H s :=
  I.pins_of fun p hp => (List.mem_append.mp hp).elim (fun z => I.pin p (List.mem_append_right _ z)) fun z => by
    obtain ⟨hb, e⟩ := of_pinsAt z
    obtain ⟨f0, f1, f2, _⟩ := hf p.1 hb
    obtain ⟨o, e', d⟩ := ho p.1 hb
    rw [e] at e'; cases e'
    exact ⟨e, f0, f1, f2, d⟩
theorem Inv.unpinned {pins pl : List (Addr × Obj)} {σ : St} {H : Hp} {s : Shared} (I : Inv X (pins ++ pl) σ H s) : Inv X pins σ H s := I.pins_of fun p hp => I.pin p (List.mem_append_right _ (List.mem_append_left _ hp))
theorem ps_for {iter : Expr} {body : List Stmt} {wi : TI} {g : TG} {tb : TS} {pos : Pos} (hp : PassesOwn (model X.prog X.w) X.A X.env X.xe) (hc : X.calm = true) (hi : PI X tg iter wi) (hg : PG X tg g) (hb : PSs X body tb)
    (hs : ∀ x, foldedSetIterable iter X.env x = pure x := by intro _; rfl) : PS X (.For tg iter body [] pos) (tFor wi g tb) := by
  intro pins s σ H D I h
  refine wpAny_For (thn (hi pins s σ H _ I h) fun v s1 h1 => thn h1 fun itv s2 h2 => ?_) hs
  obtain ⟨it, fp, tn, J, H2, e, I2, T, st2, f2, W, ⟨m0, w0⟩, turn⟩ := h2
  subst e
  -- what stays true of the iterator's objects through the loop
  have stat : ∀ {H' : Hp}, (∀ b ∈ fp, H' b = none) → ∀ b ∈ fp, FpOk X pins H' b := fun hn b hb => ⟨hn b hb, (f2 b hb).2⟩
  refine codeAny_forLoop_any (fun n s' => ∃ i σ' H', Inv X pins σ' H' s' ∧ tn i s'.heap ∧ (∀ b ∈ fp, H' b = none) ∧ W i n σ' H') ?_ m0 ⟨0, σ, H2, I2, st2, fun b hb => (f2 b hb).1, w0⟩
  rintro n s3 ⟨i, σ3, H3, I3, st3, fr3, w3⟩
  rcases turn i n σ3 H3 w3 with ⟨stop, qn⟩ | ⟨go, N, hN, step⟩
  · refine wpAny_passesOwn hp (thn (T.done X rfl rfl rfl hc i pins s3 σ3 H3 X.xe I3 (stat fr3) st3 stop) fun r s4 ⟨hr, I4⟩ => ?_)
    subst hr
    exact wpAny_execs_nil ⟨σ3, H3, I4, qn⟩
  · refine wpAny_passesOwn hp (thn (T.item X rfl rfl rfl hc i pins s3 σ3 H3 X.xe I3 (stat fr3) st3 go) fun r s4 ⟨u, hr, h4⟩ => ?_)
    subst hr
    refine wpAny_passesOwn hp (thn h4 fun _ s5 ⟨x, H5, I5, r5, y5, st5, fr5⟩ => ?_)
    have I5' := I5.pinned (stat fr5) (T.obj _ _ st5)
    refine wpAny_passesOwn hp (thn (hg _ s5 σ3 H5 x u _ I5' r5 (step x H5 y5)) fun _ s6 ⟨σ6, H6, I6, q6⟩ => ?_)
    refine wpAny_passesOwn hp (thn (hb _ s6 σ6 H6 _ I6 q6) fun f s7 q7 => ?_)
    have again : ∀ {σ7 : St} {H7 : Hp}, Inv X (pins ++ pinsAt fp s5.heap) σ7 H7 s7 → N σ7 H7 → ∃ m, m < n ∧ ∃ i σ' H', Inv X pins σ' H' s7 ∧ tn i s7.heap ∧ (∀ b ∈ fp, H' b = none) ∧ W i m σ' H' := fun {σ7 H7} I7 n7 => by
      obtain ⟨m', hm, w7⟩ := hN σ7 H7 n7
      refine ⟨m', hm, i + 1, σ7, H7, I7.unpinned, T.keep _ _ _ st5 fun b hb o e => (I7.pin (b, o) (List.mem_append_right _ (List.mem_append_right _ (mem_pinsAt hb e)))).1, fun b hb => ?_, w7⟩
      obtain ⟨o, e, d⟩ := T.obj _ _ st5 b hb
      exact (I7.pin (b, o) (List.mem_append_right _ (List.mem_append_right _ (mem_pinsAt hb e)))).2.1
    cases f with
    | next => obtain ⟨σ7, H7, I7, n7⟩ := q7; exact again I7 n7
    | cont => obtain ⟨σ7, H7, I7, n7⟩ := q7; exact again I7 n7
    | brk => obtain ⟨σ7, H7, I7, q7⟩ := q7; exact ⟨σ7, H7, I7.unpinned, q7⟩
    | ret v => obtain ⟨x7, σ7, H7, I7, r7, q7⟩ := q7; exact ⟨x7, σ7, H7, I7.unpinned, r7, q7⟩
end

/-! ### the forms one uses -/
/-- over a list that the body leaves as it is -/
theorem for_list {K : PySem.W.Frag} {a : Addr} {xs : List V} {g : TG} {tb : TS} {D : Ends} {σ : St} {H : Hp} (Pv : Nat → St → Hp → Prop) (h0 : Pv 0 σ H) (hl : ∀ i σ H, i ≤ xs.length → Pv i σ H → SqL K H a xs)
    (hs : ∀ i x σ H, xs[i]? = some x → Pv i σ H → g x σ H fun σ2 H2 => tb { D with nx := Pv (i + 1), ct := Pv (i + 1), bk := D.nx } σ2 H2) (hd : ∀ σ H, Pv xs.length σ H → D.nx σ H) :
    ∃ W : Nat → Nat → St → Hp → Prop, (∃ m, W 0 m σ H) ∧ ∀ i m σ H, W i m σ H →
      ((Itl K a).stop i H ∧ D.nx σ H) ∨ ((Itl K a).go i H ∧ ∃ N : St → Hp → Prop, (∀ σ' H', N σ' H' → ∃ m', m' < m ∧ W (i + 1) m' σ' H') ∧ ∀ x H', (Itl K a).yld i H x H' → g x σ H' fun σ2 H2 => tb { D with nx := N, ct := N, bk := D.nx } σ2 H2) := by
  refine ⟨fun i m σ H => m = xs.length - i ∧ i ≤ xs.length ∧ Pv i σ H, ⟨xs.length, by simp, Nat.zero_le _, h0⟩, ?_⟩
  rintro i m σ H ⟨rfl, hi, p⟩
  have q := hl i σ H hi p
  by_cases hlt : i < xs.length
  · refine .inr ⟨⟨xs, xs[i], q, by simp [hlt]⟩, Pv (i + 1), fun σ' H' p' => ⟨xs.length - (i + 1), by omega, rfl, hlt, p'⟩, fun x H' y => ?_⟩
    obtain ⟨e, y⟩ := y
    subst e
    exact hs i x σ _ (y xs q) p
  · have e : i = xs.length := by omega
    subst e
    exact .inl ⟨⟨xs, q, Nat.le_refl _⟩, hd σ H p⟩
theorem for_tup {K : PySem.W.Frag} {a : Addr} {xs : List V} {g : TG} {tb : TS} {D : Ends} {σ : St} {H : Hp} (Pv : Nat → St → Hp → Prop) (h0 : Pv 0 σ H) (hl : ∀ i σ H, i ≤ xs.length → Pv i σ H → SqT K H a xs)
    (hs : ∀ i x σ H, xs[i]? = some x → Pv i σ H → g x σ H fun σ2 H2 => tb { D with nx := Pv (i + 1), ct := Pv (i + 1), bk := D.nx } σ2 H2) (hd : ∀ σ H, Pv xs.length σ H → D.nx σ H) :
    ∃ W : Nat → Nat → St → Hp → Prop, (∃ m, W 0 m σ H) ∧ ∀ i m σ H, W i m σ H →
      ((Itt K a).stop i H ∧ D.nx σ H) ∨ ((Itt K a).go i H ∧ ∃ N : St → Hp → Prop, (∀ σ' H', N σ' H' → ∃ m', m' < m ∧ W (i + 1) m' σ' H') ∧ ∀ x H', (Itt K a).yld i H x H' → g x σ H' fun σ2 H2 => tb { D with nx := N, ct := N, bk := D.nx } σ2 H2) := by
  refine ⟨fun i m σ H => m = xs.length - i ∧ i ≤ xs.length ∧ Pv i σ H, ⟨xs.length, by simp, Nat.zero_le _, h0⟩, ?_⟩
  rintro i m σ H ⟨rfl, hi, p⟩
  have q := hl i σ H hi p
  by_cases hlt : i < xs.length
  · refine .inr ⟨⟨xs, xs[i], q, by simp [hlt]⟩, Pv (i + 1), fun σ' H' p' => ⟨xs.length - (i + 1), by omega, rfl, hlt, p'⟩, fun x H' y => ?_⟩
    obtain ⟨e, y⟩ := y
    subst e
    exact hs i x σ _ (y xs q) p
  · have e : i = xs.length := by omega
    subst e
    exact .inl ⟨⟨xs, q, Nat.le_refl _⟩, hd σ H p⟩
theorem for_range {lo : Int} {n : Nat} {g : TG} {tb : TS} {D : Ends} {σ : St} {H : Hp} (Pv : Nat → St → Hp → Prop) (h0 : Pv 0 σ H)
    (hs : ∀ i σ H, i < n → Pv i σ H → g (.int (lo + i)) σ H fun σ2 H2 => tb { D with nx := Pv (i + 1), ct := Pv (i + 1), bk := D.nx } σ2 H2) (hd : ∀ σ H, Pv n σ H → D.nx σ H) :
    ∃ W : Nat → Nat → St → Hp → Prop, (∃ m, W 0 m σ H) ∧ ∀ i m σ H, W i m σ H →
      ((Itr lo n).stop i H ∧ D.nx σ H) ∨ ((Itr lo n).go i H ∧ ∃ N : St → Hp → Prop, (∀ σ' H', N σ' H' → ∃ m', m' < m ∧ W (i + 1) m' σ' H') ∧ ∀ x H', (Itr lo n).yld i H x H' → g x σ H' fun σ2 H2 => tb { D with nx := N, ct := N, bk := D.nx } σ2 H2) := by
  refine ⟨fun i m σ H => m = n - i ∧ i ≤ n ∧ Pv i σ H, ⟨n, by simp, Nat.zero_le _, h0⟩, ?_⟩
  rintro i m σ H ⟨rfl, hi, p⟩
  by_cases hlt : i < n
  · refine .inr ⟨hlt, Pv (i + 1), fun σ' H' p' => ⟨n - (i + 1), by omega, rfl, hlt, p'⟩, fun x H' y => ?_⟩
    obtain ⟨e, y⟩ := y
    subst e y
    exact hs i σ _ hlt p
  · have e : i = n := by omega
    subst e
    exact .inl ⟨Nat.le_refl _, hd σ H p⟩
/-- while, by a word and a measure of the state -/
theorem while_by {c : TT} {tb : TS} {D : Ends} {σ : St} {H : Hp} (Pv : St → Hp → Prop) (μ : St → Hp → Nat) (h0 : Pv σ H)
    (hs : ∀ σ H, Pv σ H → c σ H fun b H1 => if b = true then tb { D with nx := fun σ' H' => Pv σ' H' ∧ μ σ' H' < μ σ H, ct := fun σ' H' => Pv σ' H' ∧ μ σ' H' < μ σ H, bk := D.nx } σ H1 else D.nx σ H1)
    (mono : ∀ σ H Q Q', (∀ b H1, Q b H1 → Q' b H1) → c σ H Q → c σ H Q') : tWhile c tb D σ H := by
  refine ⟨fun m σ H => m = μ σ H ∧ Pv σ H, ⟨_, rfl, h0⟩, ?_⟩
  rintro m σ H ⟨rfl, p⟩
  refine mono σ H _ _ (fun b H1 q => ?_) (hs σ H p)
  cases b with
  | true => exact ⟨_, fun σ' H' ⟨p', l⟩ => ⟨_, l, rfl, p'⟩, q⟩
  | false => exact q
end L2

namespace L2
open PySem PySem.Spec PyProof.Rows

abbrev R2 := V → V → Hp → VK → Prop
/-- a two-place operation on values: f is binaryOp op, inplaceOp op or compareOp op -/
def OpR (X : Cx) (f : Value → Value → Sem Value) (r : R2) : Prop :=
  ∀ (pins : List (Addr × Obj)) (s : Shared) (σ : St) (H : Hp) (x y : V) (v u : Value) (Q : VK), Inv X pins σ H s → RelV x v → RelV y u → r x y H Q →
    wpAny (model X.prog X.w) X.A (f v u) (EP X pins σ Q) X.xe s
/-- a one-place operation -/
def UnR (X : Cx) (f : Value → Sem Value) (r : V → Hp → VK → Prop) : Prop :=
  ∀ (pins : List (Addr × Obj)) (s : Shared) (σ : St) (H : Hp) (x : V) (v : Value) (Q : VK), Inv X pins σ H s → RelV x v → r x H Q →
    wpAny (model X.prog X.w) X.A (f v) (EP X pins σ Q) X.xe s
/-- a call of a value that is known (a builtin, a type) with values -/
def CallR (X : Cx) (f : Value) (r : List V → Hp → VK → Prop) : Prop :=
  ∀ (pins : List (Addr × Obj)) (s : Shared) (σ : St) (H : Hp) (xs : List V) (us : List Value) (Q : VK), Inv X pins σ H s → Vals xs us → r xs H Q →
    wpAny (model X.prog X.w) X.A (call f us) (EP X pins σ Q) X.xe s
/-- a value's truth -/
def TruR (X : Cx) (r : V → Hp → (Bool → Hp → Prop) → Prop) : Prop :=
  ∀ (pins : List (Addr × Obj)) (s : Shared) (σ : St) (H : Hp) (x : V) (v : Value) (Q : Bool → Hp → Prop), Inv X pins σ H s → RelV x v → r x H Q →
    wpAny (model X.prog X.w) X.A (truthy v) (TP X pins σ Q) X.xe s

def tOp (r : R2) (ta tb : TE) : TE := fun σ H Q => ta σ H fun x H1 => tb σ H1 fun y H2 => r x y H2 Q
def tUn (r : V → Hp → VK → Prop) (ta : TE) : TE := fun σ H Q => ta σ H fun x H1 => r x H1 Q
/-- ints in, under C, and a value out -/
def rI (C : Int → Int → Prop) (g : Int → Int → V) : R2 := fun x y H Q => ∃ i j, x = .int i ∧ y = .int j ∧ C i j ∧ Q (g i j) H
def rI0 (g : Int → Int → V) : R2 := fun x y H Q => ∃ i j, x = .int i ∧ y = .int j ∧ Q (g i j) H
def rU (g : Int → V) : V → Hp → VK → Prop := fun x H Q => ∃ i, x = .int i ∧ Q (g i) H

section
variable {X : Cx} {a b c : Expr} {ta tb tc : TE} {pos : Pos}

theorem binT (ha : PE X a ta) (hb : PE X b tb) {pins : List (Addr × Obj)} {s : Shared} {σ : St} {H : Hp} {R : V → V → Hp → Prop} (I : Inv X pins σ H s)
    (h : ta σ H fun x H1 => tb σ H1 fun y H2 => R x y H2) {Q : Value → Shared → Prop} {f : Value → Value → Sem Value}
    (hf : ∀ v u s2 x y H2, Inv X pins σ H2 s2 → RelV x v → RelV y u → R x y H2 → wpAny (model X.prog X.w) X.A (f v u) Q X.xe s2) :
    wpAny (model X.prog X.w) X.A (eval a X.env) (fun v s₁ => wpAny (model X.prog X.w) X.A (eval b X.env) (fun u s₂ => wpAny (model X.prog X.w) X.A (f v u) Q X.xe s₂) X.xe s₁) X.xe s := by
  refine thn (ha pins s σ H _ I h) fun v s1 ⟨x, H1, I1, r1, q1⟩ => ?_
  refine thn (hb pins s1 σ H1 _ I1 q1) fun u s2 ⟨y, H2, I2, r2, q2⟩ => ?_
  exact hf v u s2 x y H2 I2 r1 r2 q2

theorem pe_op {op : Operator} {r : R2} (ho : OpR X (binaryOp op) r) (ha : PE X a ta) (hb : PE X b tb) : PE X (.BinOp a op b pos) (tOp r ta tb) := by
  intro pins s σ H Q I h
  exact wpAny_BinOp (binT ha hb I h fun v u s2 x y H2 I2 rx ry q => ho pins s2 σ H2 x y v u Q I2 rx ry q)
theorem pe_un {op : UnaryOp} {r : V → Hp → VK → Prop} (ho : UnR X (unaryOp op) r) (ha : PE X a ta) : PE X (.UnaryOp op a pos) (tUn r ta) := by
  intro pins s σ H Q I h
  exact UnaryOp_ (thn (ha pins s σ H _ I h) fun v s1 ⟨x, H1, I1, r1, q1⟩ => ho pins s1 σ H1 x v Q I1 r1 q1)
/-- a op= e at a name: the name's slot i -/
theorem augR {op : Operator} {r : R2} (ho : OpR X (inplaceOp op) r) {pins : List (Addr × Obj)} {s : Shared} {σ : St} {H : Hp} {x y : V} {v u : Value} {Q : VK} (I : Inv X pins σ H s)
    (rx : RelV x v) (ry : RelV y u) (q : r x y H Q) : wpAny (model X.prog X.w) X.A (inplaceOp op v u) (EP X pins σ Q) X.xe s := ho pins s σ H x y v u Q I rx ry q

/-! ### ints -/
theorem opI {f : Value → Value → Sem Value} {C : Int → Int → Prop} {g : Int → Int → Int}
    (rule : ∀ (i j : Int) (t u : Tok) (s : Shared) (Q : Value → Shared → Prop) (E : Value → Shared → Prop), C i j → Q (.int (g i j) s.toks) { s with toks := s.toks + 1 } → wpAny (model X.prog X.w) X.A (f (.int i t) (.int j u)) Q E s) :
    OpR X f (rI C fun i j => .int (g i j)) := by
  intro pins s σ H x y v u Q I rx ry h
  obtain ⟨i, j, rfl, rfl, hc, q⟩ := h
  obtain ⟨t, rfl⟩ := rx
  obtain ⟨t', rfl⟩ := ry
  exact rule i j t t' s _ _ hc ⟨.int (g i j), H, I.tok _, ⟨_, rfl⟩, q⟩
theorem opI0 {f : Value → Value → Sem Value} {g : Int → Int → Int}
    (rule : ∀ (i j : Int) (t u : Tok) (s : Shared) (Q : Value → Shared → Prop) (E : Value → Shared → Prop), Q (.int (g i j) s.toks) { s with toks := s.toks + 1 } → wpAny (model X.prog X.w) X.A (f (.int i t) (.int j u)) Q E s) :
    OpR X f (rI0 fun i j => .int (g i j)) := by
  intro pins s σ H x y v u Q I rx ry h
  obtain ⟨i, j, rfl, rfl, q⟩ := h
  obtain ⟨t, rfl⟩ := rx
  obtain ⟨t', rfl⟩ := ry
  exact rule i j t t' s _ _ ⟨.int (g i j), H, I.tok _, ⟨_, rfl⟩, q⟩
theorem opB0 {f : Value → Value → Sem Value} {g : Int → Int → Bool}
    (rule : ∀ (i j : Int) (t u : Tok) (s : Shared) (Q : Value → Shared → Prop) (E : Value → Shared → Prop), Q (.bool (g i j)) s → wpAny (model X.prog X.w) X.A (f (.int i t) (.int j u)) Q E s) :
    OpR X f (rI0 fun i j => .bl (g i j)) := by
  intro pins s σ H x y v u Q I rx ry h
  obtain ⟨i, j, rfl, rfl, q⟩ := h
  obtain ⟨t, rfl⟩ := rx
  obtain ⟨t', rfl⟩ := ry
  exact rule i j t t' s _ _ ⟨.bl (g i j), H, I, rfl, q⟩

def CDiv (i j : Int) : Prop := 0 < j ∧ j < 1073741824
def CDivN (i j : Int) : Prop := j ≠ 0 ∧ j.natAbs < 1073741824
def CPow (i j : Int) : Prop := 0 ≤ j ∧ j ≤ 1000000 ∧ i.natAbs < 2 ^ 64
def CMul (i j : Int) : Prop := (-(2 ^ 64) < i ∧ i < 2 ^ 64) ∨ (-(2 ^ 64) < j ∧ j < 2 ^ 64)
theorem CMul.ok {i j : Int} (h : CMul i j) : IntMulOk i j := by
  rcases h with ⟨h1, h2⟩ | ⟨h1, h2⟩
  · exact .of_left (intBits_le_64 h1 h2)
  · exact .of_right (intBits_le_64 h1 h2)
theorem two_pow_nn (k : Nat) : (0 : Int) ≤ 2 ^ k := by
  rw [two_pow_cast]
  exact Int.natCast_nonneg _

theorem op_add : OpR X (binaryOp .Add) (rI0 fun i j => .int (i + j)) := opI0 fun _ _ _ _ _ _ _ q => add_int q
theorem op_sub : OpR X (binaryOp .Sub) (rI0 fun i j => .int (i - j)) := opI0 fun _ _ _ _ _ _ _ q => sub_int q
theorem op_mul : OpR X (binaryOp .Mult) (rI CMul fun i j => .int (i * j)) := opI fun _ _ _ _ _ _ _ hc q => mul_int q hc.ok
/-- // by a positive divisor -/
theorem op_fdiv : OpR X (binaryOp .FloorDiv) (rI CDiv fun i j => .int (i / j)) := opI fun i j _ _ _ _ _ hc q => by
  have h1 : (0 : Int) < j := hc.1
  have h2 : j < 1073741824 := hc.2
  exact floordiv_int (by omega) (by rw [Int.fdiv_eq_ediv_of_nonneg i (by omega)]; exact q) (.inl (PyProof.noPylong_small (by omega)))
theorem op_fdivN : OpR X (binaryOp .FloorDiv) (rI CDivN fun i j => .int (i.fdiv j)) := opI fun _ _ _ _ _ _ _ hc q => floordiv_int hc.1 q (.inl (PyProof.noPylong_small hc.2))
/-- % by a positive divisor of any size -/
theorem op_mod : OpR X (binaryOp .Mod) (rI (fun _ j => 0 < j) fun i j => .int (i % j)) := opI fun i j _ _ _ _ _ hc q => by
  have h1 : (0 : Int) < j := hc
  exact mod_int' (by omega) (by rw [Int.fmod_eq_emod_of_nonneg i (by omega)]; exact q)
theorem op_modN : OpR X (binaryOp .Mod) (rI (fun _ j => j ≠ 0) fun i j => .int (i.fmod j)) := opI fun _ _ _ _ _ _ _ hc q => mod_int' hc q
theorem op_pow : OpR X (binaryOp .Pow) (rI CPow fun i j => .int (i ^ j.toNat)) := opI fun _ _ _ _ _ _ _ hc q => pow_int_small hc.1 hc.2.1 hc.2.2 q
theorem op_shl : OpR X (binaryOp .LShift) (rI CPow fun i j => .int (i * 2 ^ j.toNat)) := opI fun _ _ _ _ _ _ _ hc q => lshift_int_small hc.1 hc.2.1 hc.2.2 q
theorem op_shr : OpR X (binaryOp .RShift) (rI (fun _ j => 0 ≤ j) fun i j => .int (i / 2 ^ j.toNat)) := opI fun i j _ _ _ _ _ hc q =>
  rshift_int hc (by rw [Int.fdiv_eq_ediv_of_nonneg i (two_pow_nn _)]; exact q)
theorem op_and : OpR X (binaryOp .BitAnd) (rI0 fun i j => .int (Builtin.bitAnd i j)) := opI0 fun _ _ _ _ _ _ _ q => and_int q
theorem op_or : OpR X (binaryOp .BitOr) (rI0 fun i j => .int (Builtin.bitOr i j)) := opI0 fun _ _ _ _ _ _ _ q => or_int q
theorem op_xor : OpR X (binaryOp .BitXor) (rI0 fun i j => .int (Builtin.bitXor i j)) := opI0 fun _ _ _ _ _ _ _ q => xor_int q

theorem iop_add : OpR X (inplaceOp .Add) (rI0 fun i j => .int (i + j)) := opI0 fun _ _ _ _ _ _ _ q => iadd_int q
theorem iop_sub : OpR X (inplaceOp .Sub) (rI0 fun i j => .int (i - j)) := opI0 fun _ _ _ _ _ _ _ q => isub_int q
theorem iop_mul : OpR X (inplaceOp .Mult) (rI CMul fun i j => .int (i * j)) := opI fun _ _ _ _ _ _ _ hc q => imul_int q hc.ok
theorem iop_fdiv : OpR X (inplaceOp .FloorDiv) (rI CDiv fun i j => .int (i / j)) := opI fun i j _ _ _ _ _ hc q => by
  have h1 : (0 : Int) < j := hc.1
  have h2 : j < 1073741824 := hc.2
  exact ifloordiv_int (by omega) (by rw [Int.fdiv_eq_ediv_of_nonneg i (by omega)]; exact q) (.inl (PyProof.noPylong_small (by omega)))
theorem iop_mod : OpR X (inplaceOp .Mod) (rI (fun _ j => 0 < j) fun i j => .int (i % j)) := opI fun i j _ _ _ _ _ hc q => by
  have h1 : (0 : Int) < j := hc
  exact imod_int (by omega) (by rw [Int.fmod_eq_emod_of_nonneg i (by omega)]; exact q)
theorem iop_shl : OpR X (inplaceOp .LShift) (rI CPow fun i j => .int (i * 2 ^ j.toNat)) := opI fun _ _ _ _ _ _ _ hc q => ilshift_int_small hc.1 hc.2.1 hc.2.2 q
theorem iop_shr : OpR X (inplaceOp .RShift) (rI (fun _ j => 0 ≤ j) fun i j => .int (i / 2 ^ j.toNat)) := opI fun i j _ _ _ _ _ hc q =>
  irshift_int hc (by rw [Int.fdiv_eq_ediv_of_nonneg i (two_pow_nn _)]; exact q)
theorem iop_and : OpR X (inplaceOp .BitAnd) (rI0 fun i j => .int (Builtin.bitAnd i j)) := opI0 fun _ _ _ _ _ _ _ q => iand_int q
theorem iop_or : OpR X (inplaceOp .BitOr) (rI0 fun i j => .int (Builtin.bitOr i j)) := opI0 fun _ _ _ _ _ _ _ q => ior_int q
theorem iop_xor : OpR X (inplaceOp .BitXor) (rI0 fun i j => .int (Builtin.bitXor i j)) := opI0 fun _ _ _ _ _ _ _ q => ixor_int q

theorem unI {f : Value → Sem Value} {g : Int → Int}
    (rule : ∀ (i : Int) (t : Tok) (s : Shared) (Q : Value → Shared → Prop) (E : Value → Shared → Prop), Q (.int (g i) s.toks) { s with toks := s.toks + 1 } → wpAny (model X.prog X.w) X.A (f (.int i t)) Q E s) :
    UnR X f (rU fun i => .int (g i)) := by
  intro pins s σ H x v Q I rx h
  obtain ⟨i, rfl, q⟩ := h
  obtain ⟨t, rfl⟩ := rx
  exact rule i t s _ _ ⟨.int (g i), H, I.tok _, ⟨_, rfl⟩, q⟩
theorem un_neg : UnR X (unaryOp .USub) (rU fun i => .int (-i)) := unI fun _ _ _ _ _ q => neg_int q
theorem un_inv : UnR X (unaryOp .Invert) (rU fun i => .int (Builtin.bitNot i)) := unI fun _ _ _ _ _ q => invert_int q

/-! ### bools among ints: n += (a < b) -/
theorem op_add_ib : OpR X (binaryOp .Add) (fun x y H Q => ∃ i k, x = .int i ∧ y = .bl k ∧ Q (.int (i + b2i k)) H) := by
  intro pins s σ H x y v u Q I rx ry h
  obtain ⟨i, k, rfl, rfl, q⟩ := h
  obtain ⟨t, rfl⟩ := rx
  cases ry
  exact add_int_bool ⟨.int (i + b2i k), H, I.tok _, ⟨_, rfl⟩, q⟩
end

/-! ### comparisons -/
/-- the scalars that == tells apart as data does -/
def scal : V → V → Bool
  | .non, .non => true | .non, .int _ => true | .int _, .non => true | .non, .bl _ => true | .bl _, .non => true | .non, .str _ => true | .str _, .non => true
  | .int _, .int _ => true | .bl _, .bl _ => true | .str _, .str _ => true | .byt _, .byt _ => true
  | .int _, .str _ => true | .str _, .int _ => true | .bl _, .str _ => true | .str _, .bl _ => true
  | _, _ => false
def rEq : R2 := fun x y H Q => scal x y = true ∧ Q (.bl (decide (x = y))) H
def rNe : R2 := fun x y H Q => scal x y = true ∧ Q (.bl (!decide (x = y))) H

theorem dec_int {i j : Int} : decide (V.int i = V.int j) = (i == j) := by
  rw [Bool.eq_iff_iff]
  simp
theorem dec_bl {i j : Bool} : decide (V.bl i = V.bl j) = (i == j) := by
  rw [Bool.eq_iff_iff]
  simp
theorem dec_str {i j : Str} : decide (V.str i = V.str j) = (i == j) := by
  rw [Bool.eq_iff_iff]
  simp
theorem dec_byt {i j : Array UInt8} : decide (V.byt i = V.byt j) = (i.toList == j.toList) := by
  rw [Bool.eq_iff_iff]
  cases i
  cases j
  simp

section
variable {X : Cx} {a b c : Expr} {ta tb tc : TE} {pos : Pos}
theorem fin_bl {pins : List (Addr × Obj)} {σ : St} {H : Hp} {s : Shared} {Q : VK} {k k' : Bool} (I : Inv X pins σ H s) (q : Q (.bl k) H) (e : k = k') : EP X pins σ Q (.bool k') s := by
  subst e
  exact ⟨.bl k, H, I, rfl, q⟩
theorem op_eq : OpR X (compareOp .Eq) rEq := by
  intro pins s σ H x y v u Q I rx ry h
  obtain ⟨hs, q⟩ := h
  cases x with
  | non =>
    cases rx
    cases y with
    | non => cases ry; exact PySem.EqNone.eq_none_none (fin_bl I q (by simp))
    | bl j => cases ry; exact PySem.EqNone.eq_none_bool (fin_bl I q (by simp))
    | int j => obtain ⟨t', rfl⟩ := ry; exact PySem.EqNone.eq_none_int (fin_bl I q (by simp))
    | str j => obtain ⟨t', rfl⟩ := ry; exact PySem.EqNone.eq_none_str (fin_bl I q (by simp))
    | _ => exact absurd (show false = true from hs) Bool.false_ne_true
  | bl i =>
    cases rx
    cases y with
    | non => cases ry; exact PySem.EqNone.eq_bool_none (fin_bl I q (by simp))
    | bl j => cases ry; exact eq_bool (fin_bl I q dec_bl)
    | str j => obtain ⟨t', rfl⟩ := ry; exact PySem.EqMixed.eq_bool_str (fin_bl I q (by simp))
    | _ => exact absurd (show false = true from hs) Bool.false_ne_true
  | int i =>
    obtain ⟨t, rfl⟩ := rx
    cases y with
    | non => cases ry; exact PySem.EqNone.eq_int_none (fin_bl I q (by simp))
    | int j => obtain ⟨t', rfl⟩ := ry; exact eq_int (fin_bl I q dec_int)
    | str j => obtain ⟨t', rfl⟩ := ry; exact PySem.EqMixed.eq_int_str (fin_bl I q (by simp))
    | _ => exact absurd (show false = true from hs) Bool.false_ne_true
  | str i =>
    obtain ⟨t, rfl⟩ := rx
    cases y with
    | non => cases ry; exact PySem.EqNone.eq_str_none (fin_bl I q (by simp))
    | bl j => cases ry; exact PySem.EqMixed.eq_str_bool (fin_bl I q (by simp))
    | int j => obtain ⟨t', rfl⟩ := ry; exact PySem.EqMixed.eq_str_int (fin_bl I q (by simp))
    | str j => obtain ⟨t', rfl⟩ := ry; exact eq_str (fin_bl I q dec_str)
    | _ => exact absurd (show false = true from hs) Bool.false_ne_true
  | byt i =>
    obtain ⟨t, rfl⟩ := rx
    cases y with
    | byt j => obtain ⟨t', rfl⟩ := ry; exact PySem.W.eq_bytes (fin_bl I q dec_byt)
    | _ => exact absurd (show false = true from hs) Bool.false_ne_true
  | _ => cases y <;> exact absurd (show false = true from hs) Bool.false_ne_true
theorem op_ne : OpR X (compareOp .NotEq) rNe := by
  intro pins s σ H x y v u Q I rx ry h
  obtain ⟨hs, q⟩ := h
  cases x with
  | non =>
    cases rx
    cases y with
    | non => cases ry; exact PySem.EqNone.ne_none_none (fin_bl I q (by simp))
    | bl j => cases ry; exact PySem.EqNone.ne_none_bool (fin_bl I q (by simp))
    | int j => obtain ⟨t', rfl⟩ := ry; exact PySem.EqNone.ne_none_int (fin_bl I q (by simp))
    | str j => obtain ⟨t', rfl⟩ := ry; exact PySem.EqNone.ne_none_str (fin_bl I q (by simp))
    | _ => exact absurd (show false = true from hs) Bool.false_ne_true
  | bl i =>
    cases rx
    cases y with
    | non => cases ry; exact PySem.EqNone.ne_bool_none (fin_bl I q (by simp))
    | bl j => cases ry; exact ne_bool (fin_bl I q (congrArg not dec_bl))
    | str j => obtain ⟨t', rfl⟩ := ry; exact PySem.EqMixed.ne_bool_str (fin_bl I q (by simp))
    | _ => exact absurd (show false = true from hs) Bool.false_ne_true
  | int i =>
    obtain ⟨t, rfl⟩ := rx
    cases y with
    | non => cases ry; exact PySem.EqNone.ne_int_none (fin_bl I q (by simp))
    | int j => obtain ⟨t', rfl⟩ := ry; exact ne_int (fin_bl I q (congrArg not dec_int))
    | str j => obtain ⟨t', rfl⟩ := ry; exact PySem.EqMixed.ne_int_str (fin_bl I q (by simp))
    | _ => exact absurd (show false = true from hs) Bool.false_ne_true
  | str i =>
    obtain ⟨t, rfl⟩ := rx
    cases y with
    | non => cases ry; exact PySem.EqNone.ne_str_none (fin_bl I q (by simp))
    | bl j => cases ry; exact PySem.EqMixed.ne_str_bool (fin_bl I q (by simp))
    | int j => obtain ⟨t', rfl⟩ := ry; exact PySem.EqMixed.ne_str_int (fin_bl I q (by simp))
    | str j => obtain ⟨t', rfl⟩ := ry; exact ne_str (fin_bl I q (congrArg not dec_str))
    | _ => exact absurd (show false = true from hs) Bool.false_ne_true
  | byt i =>
    obtain ⟨t, rfl⟩ := rx
    cases y with
    | byt j => obtain ⟨t', rfl⟩ := ry; exact PySem.W.ne_bytes (fin_bl I q (congrArg not dec_byt))
    | _ => exact absurd (show false = true from hs) Bool.false_ne_true
  | _ => cases y <;> exact absurd (show false = true from hs) Bool.false_ne_true

theorem op_lt : OpR X (compareOp .Lt) (rI0 fun i j => .bl (decide (i < j))) := opB0 fun _ _ _ _ _ _ _ q => lt_int q
theorem op_le : OpR X (compareOp .LtE) (rI0 fun i j => .bl (decide (i ≤ j))) := opB0 fun _ _ _ _ _ _ _ q => le_int q
theorem op_gt : OpR X (compareOp .Gt) (rI0 fun i j => .bl (decide (j < i))) := opB0 fun _ _ _ _ _ _ _ q => gt_int q
theorem op_ge : OpR X (compareOp .GtE) (rI0 fun i j => .bl (decide (j ≤ i))) := opB0 fun _ _ _ _ _ _ _ q => ge_int q
theorem op_lt_str : OpR X (compareOp .Lt) (fun x y H Q => ∃ i j, x = .str i ∧ y = .str j ∧ Q (.bl (decide (i.cps.toList < j.cps.toList))) H) := by
  intro pins s σ H x y v u Q I rx ry h
  obtain ⟨i, j, rfl, rfl, q⟩ := h
  obtain ⟨t, rfl⟩ := rx
  obtain ⟨t', rfl⟩ := ry
  exact lt_str (fin_bl I q rfl)
/-- the one string within the other -/
theorem op_in_str : OpR X (compareOp .In) (fun x y H Q => ∃ i j, x = .str i ∧ y = .str j ∧ Q (.bl (!(Builtin.Str.occurrences j i 0 j.length 1).isEmpty)) H) := by
  intro pins s σ H x y v u Q I rx ry h
  obtain ⟨i, j, rfl, rfl, q⟩ := h
  obtain ⟨t, rfl⟩ := rx
  obtain ⟨t', rfl⟩ := ry
  exact in_str (fin_bl I q rfl)

/-- is None, is not None: the right side a value none -/
theorem op_isN : OpR X (compareOp .Is) (fun x y H Q => y = .non ∧ Q (.bl (decide (x = .non))) H) := by
  intro pins s σ H x y v u Q I rx ry h
  obtain ⟨rfl, q⟩ := h
  cases ry
  refine is_none_gen (fin_bl I q ?_)
  cases x <;> first
    | (cases rx; rfl)
    | (obtain ⟨t, rfl⟩ := rx; rfl)
theorem op_notN : OpR X (compareOp .IsNot) (fun x y H Q => y = .non ∧ Q (.bl (!decide (x = .non))) H) := by
  intro pins s σ H x y v u Q I rx ry h
  obtain ⟨rfl, q⟩ := h
  cases ry
  refine isnot_none_gen (fin_bl I q ?_)
  cases x <;> first
    | (cases rx; rfl)
    | (obtain ⟨t, rfl⟩ := rx; rfl)

theorem op_notin_str : OpR X (compareOp .NotIn) (fun x y H Q => ∃ i j, x = .str i ∧ y = .str j ∧ Q (.bl (!(!(Builtin.Str.occurrences j i 0 j.length 1).isEmpty))) H) := by
  intro pins s σ H x y v u Q I rx ry h
  obtain ⟨i, j, rfl, rfl, q⟩ := h
  obtain ⟨t, rfl⟩ := rx
  obtain ⟨t', rfl⟩ := ry
  exact notIn_str (fin_bl I q rfl)
/-- is, is not of two objects that are tracked lists or instances -/
def isObj : HO → Bool
  | .lst _ => true
  | .ins _ _ _ => true
  | _ => false
theorem obj_there {pins : List (Addr × Obj)} {s : Shared} {σ : St} {H : Hp} {a : Addr} {o : HO} (I : Inv X pins σ H s) (h : H a = some o) (p : isObj o = true) : ∃ ob, s.heap.get? a = some ob ∧ ob.cls ≠ .type "tuple" := by
  cases o with
  | lst xs =>
    obtain ⟨_, its, n, _, e⟩ : xs.length ≤ sizeLine ∧ ∃ (its : List Value) (n : Nat), Vals xs its ∧ s.heap.get? a = some { cls := .type "list", data := .seq its.toArray n } := I.hok a _ h
    exact ⟨_, e, (by show Value.type "list" ≠ .type "tuple"; decide +kernel)⟩
  | ins C dx fs =>
    have x := I.hok a _ h
    obtain ⟨_, _, _, e, _⟩ := x
    exact ⟨_, e, (by show Value.ref C ≠ .type "tuple"; exact fun z => by cases z)⟩
  | _ => exact absurd (show false = true from p) Bool.false_ne_true
theorem op_is_ref : OpR X (compareOp .Is) (fun x y H Q => ∃ a b oa ob, x = .ref a ∧ y = .ref b ∧ H a = some oa ∧ isObj oa = true ∧ H b = some ob ∧ isObj ob = true ∧ Q (.bl (decide (a = b))) H) := by
  intro pins s σ H x y v u Q I rx ry h
  obtain ⟨a, b, oa, ob, rfl, rfl, ha, pa, hb, pb, q⟩ := h
  cases rx
  cases ry
  obtain ⟨o1, e1, n1⟩ := obj_there I ha pa
  obtain ⟨o2, e2, _⟩ := obj_there I hb pb
  by_cases z : a = b
  · subst z
    exact wpAny_is_ref_self (fin_bl I q (by simp))
  · exact wpAny_is_ref_other z e1 e2 n1 (fin_bl I q (by simp [z]))
theorem op_isnot_ref : OpR X (compareOp .IsNot) (fun x y H Q => ∃ a b oa ob, x = .ref a ∧ y = .ref b ∧ H a = some oa ∧ isObj oa = true ∧ H b = some ob ∧ isObj ob = true ∧ Q (.bl (!decide (a = b))) H) := by
  intro pins s σ H x y v u Q I rx ry h
  obtain ⟨a, b, oa, ob, rfl, rfl, ha, pa, hb, pb, q⟩ := h
  cases rx
  cases ry
  obtain ⟨o1, e1, n1⟩ := obj_there I ha pa
  obtain ⟨o2, e2, _⟩ := obj_there I hb pb
  by_cases z : a = b
  · subst z
    exact wpAny_isNot_ref_self (fin_bl I q (by simp))
  · exact wpAny_isNot_ref_other z e1 e2 n1 (fin_bl I q (by simp [z]))

/-- two rules for one operation: by cases -/
theorem OpR.or {f : Value → Value → Sem Value} {r r' : R2} (h : OpR X f r) (h' : OpR X f r') : OpR X f (fun x y H Q => r x y H Q ∨ r' x y H Q) := by
  intro pins s σ H x y v u Q I rx ry q
  rcases q with q | q
  · exact h pins s σ H x y v u Q I rx ry q
  · exact h' pins s σ H x y v u Q I rx ry q

theorem nomark (b : Expr) {op : CmpOp} (h : op ≠ .In := by decide) (h2 : op ≠ .NotIn := by decide) : behindInMarks op b = false := by
  have e1 : (op == CmpOp.In) = false := by cases op <;> first | rfl | exact absurd rfl h
  have e2 : (op == CmpOp.NotIn) = false := by cases op <;> first | rfl | exact absurd rfl h2
  cases b <;> simp [behindInMarks, e1, e2]
/-- a comparison as a value; hm: nomark b, or (for in, not in) by with_unfolding_all rfl -/
theorem pe_cmpR {op : CmpOp} {r : R2} (ho : OpR X (compareOp op) r) (ha : PE X a ta) (hb : PE X b tb) (hm : behindInMarks op b = false) : PE X (.Compare a [op] [b] pos) (tOp r ta tb) := by
  intro pins s σ H Q I h
  exact wpAny_Compare1 (binT ha hb I h fun v u s2 x y H2 I2 rx ry q => ho pins s2 σ H2 x y v u Q I2 rx ry q) hm
/-- a reading of a value as a test -/
def tTest (t : TE) : TT := fun σ H Q => t σ H fun x H' => ∃ k, x = .bl k ∧ Q k H'
theorem pt_cmpR {op : CmpOp} {r : R2} (ho : OpR X (compareOp op) r) (ha : PE X a ta) (hb : PE X b tb) (hm : behindInMarks op b = false) : PT X (.Compare a [op] [b] pos) (tTest (tOp r ta tb)) := by
  intro pins s σ H Q I h
  refine wpAny_isTrue_Compare1 (thn (ha pins s σ H _ I h) fun v s1 ⟨x, H1, I1, r1, q1⟩ => thn (hb pins s1 σ H1 _ I1 q1) fun u s2 ⟨y, H2, I2, r2, q2⟩ =>
    thn (ho pins s2 σ H2 x y v u _ I2 r1 r2 q2) fun c s3 ⟨z, H3, I3, r3, k, e, q3⟩ => ?_) hm
  subst e
  cases r3
  exact wpAny_truthy_bool ⟨H3, I3, q3⟩
/-- a op1 b op2 c -/
def tChain (r r' : R2) (ta tb tc : TE) : TE := fun σ H Q => ta σ H fun x H1 => tb σ H1 fun y H2 => r x y H2 fun z H3 => ∃ k, z = .bl k ∧
  (if k = true then tc σ H3 fun w' H4 => r' y w' H4 Q else Q (.bl false) H3)
theorem pe_chain {op op' : CmpOp} {r r' : R2} (ho : OpR X (compareOp op) r) (ho' : OpR X (compareOp op') r') (ha : PE X a ta) (hb : PE X b tb) (hc : PE X c tc)
    (hm : lastMarks [op, op'] [b, c] = false := by with_unfolding_all rfl) : PE X (.Compare a [op, op'] [b, c] pos) (tChain r r' ta tb tc) := by
  intro pins s σ H Q I h
  refine Compare_chain (thn (ha pins s σ H _ I h) fun v s1 ⟨x, H1, I1, r1, q1⟩ => chain_link (thn (hb pins s1 σ H1 _ I1 q1) fun u s2 ⟨y, H2, I2, r2, q2⟩ =>
    thn (ho pins s2 σ H2 x y v u _ I2 r1 r2 q2) fun d s3 ⟨z, H3, I3, r3, k, e, q3⟩ => ?_)) hm
  subst e
  cases r3
  refine wpAny_truthy_bool ?_
  cases k with
  | false => exact ite_ff ⟨.bl false, H3, I3, rfl, q3⟩
  | true => exact ite_tt (chain_last (thn (hc pins s3 σ H3 _ I3 q3) fun w' s4 ⟨z', H4, I4, r4, q4⟩ => ho' pins s4 σ H4 y z' u w' Q I4 r2 r4 q4))
theorem pt_chain {op op' : CmpOp} {r r' : R2} (ho : OpR X (compareOp op) r) (ho' : OpR X (compareOp op') r') (ha : PE X a ta) (hb : PE X b tb) (hc : PE X c tc)
    (hm : lastMarks [op, op'] [b, c] = false := by with_unfolding_all rfl) : PT X (.Compare a [op, op'] [b, c] pos) (tTest (tChain r r' ta tb tc)) := by
  intro pins s σ H Q I h
  refine isTrue_chain (thn (ha pins s σ H _ I h) fun v s1 ⟨x, H1, I1, r1, q1⟩ => test_link (thn (hb pins s1 σ H1 _ I1 q1) fun u s2 ⟨y, H2, I2, r2, q2⟩ =>
    thn (ho pins s2 σ H2 x y v u _ I2 r1 r2 q2) fun d s3 ⟨z, H3, I3, r3, k, e, q3⟩ => ?_)) hm
  subst e
  cases r3
  refine wpAny_truthy_bool ?_
  cases k with
  | false =>
    obtain ⟨k', e', q'⟩ := q3
    cases e'
    exact ite_ff ⟨H3, I3, q'⟩
  | true =>
    refine ite_tt (test_last (thn (hc pins s3 σ H3 _ I3 q3) fun w' s4 ⟨z', H4, I4, r4, q4⟩ => thn (ho' pins s4 σ H4 y z' u w' _ I4 r2 r4 q4) fun d' s5 ⟨z2, H5, I5, r5, k2, e2, q5⟩ => ?_))
    subst e2
    cases r5
    exact wpAny_truthy_bool ⟨H5, I5, q5⟩

/-! ### truth -/
/-- a value's truth by the abstract heap -/
def TruV (K : PySem.W.Frag) (x : V) (H : Hp) (k : Bool) : Prop :=
  match x with
  | .non => k = false
  | .bl b => k = b
  | .int i => k = (i != 0)
  | .str y => y.length ≤ sizeLine ∧ k = ((y.length : Int) != 0)
  | .byt y => y.size ≤ sizeLine ∧ k = ((y.size : Int) != 0)
  | .ref p => (∃ xs, SqL K H p xs ∧ k = !xs.isEmpty) ∨ (∃ xs, SqT K H p xs ∧ k = !xs.isEmpty) ∨ ∃ kvs, H p = some (.dK kvs) ∧ k = !kvs.isEmpty
  | _ => False
theorem isEmpty_kv {κ : Type} {kvs : List (κ × V)} {vs : List (κ × Value)} (r : KV kvs vs) : (!vs.isEmpty) = !kvs.isEmpty := by
  cases r <;> rfl
theorem isEmpty_of {xs : List V} {its : List Value} (r : Vals xs its) : (!its.toArray.isEmpty) = !xs.isEmpty := by
  cases r <;> simp
theorem line63 : (sizeLine : Nat) < 2 ^ 63 := by rw [sizeLine_eq]; decide
theorem tru_ok : TruR X (fun x H Q => ∃ k, TruV X.K x H k ∧ Q k H) := by
  intro pins s σ H x v Q I rx h
  obtain ⟨k, e, q⟩ := h
  have hl := line63
  have hs : sizeLine = 16777216 := sizeLine_eq
  cases x with
  | non =>
    cases rx
    have e' : k = false := e
    subst e'
    exact truthy_none ⟨H, I, q⟩
  | bl b =>
    cases rx
    have e' : k = b := e
    subst e'
    exact wpAny_truthy_bool ⟨H, I, q⟩
  | int i =>
    obtain ⟨t, rfl⟩ := rx
    have e' : k = (i != 0) := e
    subst e'
    exact PySem.P.truthy_int ⟨H, I, q⟩
  | str y =>
    obtain ⟨t, rfl⟩ := rx
    obtain ⟨hy, e'⟩ : y.length ≤ sizeLine ∧ k = ((y.length : Int) != 0) := e
    subst e'
    exact PySem.P.truthy_str (by omega) ⟨H, I.tok _, q⟩
  | byt y =>
    obtain ⟨t, rfl⟩ := rx
    obtain ⟨hy, e'⟩ : y.size ≤ sizeLine ∧ k = ((y.size : Int) != 0) := e
    subst e'
    exact PySem.W.truthy_bytes (by omega) ⟨H, I.tok _, q⟩
  | ref p =>
    cases rx
    have e' : (∃ xs, SqL X.K H p xs ∧ k = !xs.isEmpty) ∨ (∃ xs, SqT X.K H p xs ∧ k = !xs.isEmpty) ∨ ∃ kvs, H p = some (.dK kvs) ∧ k = !kvs.isEmpty := e
    rcases e' with ⟨xs, hx, e'⟩ | ⟨xs, hx, e'⟩ | ⟨kvs, hx, e'⟩
    · subst e'
      obtain ⟨its, r, pl, hz⟩ := I.list hx
      have hlen := r.length
      exact wpAny_truthy_list pl.isList (by simp only [List.size_toArray]; omega) ⟨H, I.tok _, by rw [isEmpty_of r]; exact q⟩
    · subst e'
      obtain ⟨its, r, pl, hz⟩ := I.tuple hx
      have hlen := r.length
      exact truthy_tuple pl (by simp only [List.size_toArray]; omega) ⟨H, I.tok _, by rw [isEmpty_of r]; exact q⟩
    · subst e'
      obtain ⟨hz, hS, vs, r, m⟩ : kvs.length ≤ sizeLine ∧ (p == sysModules) = false ∧ ∃ vs, KV kvs vs ∧ s.heap.DictOf (mixKind X.prog X.w) p vs := I.hok p _ hx
      have hlen : kvs.length = vs.length := Paired.length r
      exact wpAny_truthy_dict hS m (by omega) ⟨H, I.tok _, by rw [isEmpty_kv r]; exact q⟩
  | _ => exact (show False from e).elim
/-- any expression whose test is its value's truth (a name, a call, a subscript, a field ..: he by fun _ => rfl) -/
theorem pt_truth (ha : PE X a ta) (he : ∀ whole, isTrue a X.env whole = (do let v ← whole; standAt a.pos; holding [v] (truthy v))) :
    PT X a (fun σ H Q => ta σ H fun x H' => ∃ k, TruV X.K x H' k ∧ Q k H') := by
  intro pins s σ H Q I h
  exact isTrue_plain (thn (ha pins s σ H _ I h) fun v s1 ⟨x, H1, I1, r1, q1⟩ => tru_ok pins s1 σ H1 x v Q I1 r1 q1) (he _)

/-! ### strs and bytes -/
theorem pe_byt {x : List UInt8} {k : Nat} : PE X (.Constant (.bytes x) k pos) (fun _ H Q => Q (.byt x.toArray) H) := fun _ _ _ H _ I h => PySem.W.Constant_bytes ⟨.byt x.toArray, H, I.tok _, ⟨_, rfl⟩, h⟩
theorem op_add_str : OpR X (binaryOp .Add) (fun x y H Q => ∃ i j, x = .str i ∧ y = .str j ∧ i.length + j.length ≤ sizeLine ∧ Q (.str (i ++ j)) H) := by
  intro pins s σ H x y v u Q I rx ry h
  obtain ⟨i, j, rfl, rfl, hz, q⟩ := h
  obtain ⟨t, rfl⟩ := rx
  obtain ⟨t', rfl⟩ := ry
  exact add_str (fun t' tk => ⟨.str (i ++ j), H, I.tok _, ⟨_, rfl⟩, q⟩) hz
theorem iop_add_str : OpR X (inplaceOp .Add) (fun x y H Q => ∃ i j, x = .str i ∧ y = .str j ∧ i.length + j.length ≤ sizeLine ∧ Q (.str (i ++ j)) H) := by
  intro pins s σ H x y v u Q I rx ry h
  obtain ⟨i, j, rfl, rfl, hz, q⟩ := h
  obtain ⟨t, rfl⟩ := rx
  obtain ⟨t', rfl⟩ := ry
  exact iadd_str (fun t' tk => ⟨.str (i ++ j), H, I.tok _, ⟨_, rfl⟩, q⟩) hz
theorem op_add_byt : OpR X (binaryOp .Add) (fun x y H Q => ∃ i j, x = .byt i ∧ y = .byt j ∧ i.size + j.size ≤ 16777216 ∧ Q (.byt (i ++ j)) H) := by
  intro pins s σ H x y v u Q I rx ry h
  obtain ⟨i, j, rfl, rfl, hz, q⟩ := h
  obtain ⟨t, rfl⟩ := rx
  obtain ⟨t', rfl⟩ := ry
  exact PySem.W.KBy.add_bytes hz (fun t' tk => ⟨.byt (i ++ j), H, I.tok _, ⟨_, rfl⟩, q⟩)

def PlainIxT (b : Expr) : Prop := ∀ o i, subscripted b false o i = operate [o, i] (getItem o i)
/-- s[i], 0 ≤ i < len -/
theorem pe_item_str (ha : PE X a ta) (hb : PE X b tb) (hs : PlainIxT b) :
    PE X (.Subscript a b pos) (tOp (fun x y H Q => ∃ z i c, x = .str z ∧ y = .int i ∧ 0 ≤ i ∧ i < 2 ^ 63 ∧ i < z.length ∧ z.cps[i.toNat]? = some c ∧ Q (.str ⟨#[c]⟩) H) ta tb) := by
  intro pins s σ H Q I h
  refine Subscript_ (binT ha hb I h fun v u s2 x y H2 I2 rx ry q => ?_)
  obtain ⟨z, i, c, rfl, rfl, h0, h63, h1, hc, q⟩ := q
  obtain ⟨t, rfl⟩ := rx
  obtain ⟨t', rfl⟩ := ry
  have e : seqIndex? i z.length = some i.toNat := PySem.StrLaws.seqIndex_nonneg h0 h1
  exact tail_any (typeIs_str s2 z t) slot_str_getitem.lookup (getItem_str (c := c) (by
    have e1 : decide (i < -(2 ^ 63 : Int)) = false := decide_eq_false (by omega)
    have e2 : decide (i ≥ 2 ^ 63) = false := decide_eq_false (by omega)
    rw [e1, e2] <;> rfl) (by rw [e]; exact hc) ⟨.str ⟨#[c]⟩, H2, I2.tok _, ⟨_, rfl⟩, q⟩) (hs _ _)
/-- b[i], 0 ≤ i < len -/
theorem pe_item_byt (ha : PE X a ta) (hb : PE X b tb) (hs : PlainIxT b) :
    PE X (.Subscript a b pos) (tOp (fun x y H Q => ∃ (z : List UInt8) (i : Int), x = .byt z.toArray ∧ y = .int i ∧ z.length ≤ sizeLine ∧ 0 ≤ i ∧ i < z.length ∧ Q (.int ((z.getD i.toNat 0).toNat : Nat)) H) ta tb) := by
  intro pins s σ H Q I h
  refine Subscript_ (binT ha hb I h fun v u s2 x y H2 I2 rx ry q => ?_)
  obtain ⟨z, i, rfl, rfl, hz, h0, h1, q⟩ := q
  obtain ⟨t, rfl⟩ := rx
  obtain ⟨t', rfl⟩ := ry
  have hl : sizeLine = 16777216 := sizeLine_eq
  exact tail_any (PySem.W.typeIs_bytes s2 z.toArray t) PySem.W.FB.slot_bytes_getitem.lookup (PySem.W.getItem_bytes (by omega) h0 h1 ⟨.int ((z.getD i.toNat 0).toNat : Nat), H2, I2.tok _, ⟨_, rfl⟩, q⟩) (hs _ _)

/-! ### scalar builtins, by CallR -/
theorem vals1 {x : V} {us : List Value} (r : Vals [x] us) : ∃ u, us = [u] ∧ RelV x u := by
  cases r with
  | cons r1 r2 => cases r2; exact ⟨_, rfl, r1⟩
theorem vals2 {x y : V} {us : List Value} (r : Vals [x, y] us) : ∃ u w', us = [u, w'] ∧ RelV x u ∧ RelV y w' := by
  cases r with
  | cons r1 r2 =>
    cases r2 with
    | cons r3 r4 => cases r4; exact ⟨_, _, rfl, r1, r3⟩
theorem call_abs : CallR X (.builtin "abs") (fun xs H Q => ∃ i, xs = [.int i] ∧ Q (.int (if i < 0 then -i else i)) H) := by
  intro pins s σ H xs us Q I r h
  obtain ⟨i, rfl, q⟩ := h
  obtain ⟨u, rfl, t, rfl⟩ := vals1 r
  exact call_abs_int fun u tk => ⟨.int (if i < 0 then -i else i), H, I.tok _, ⟨_, rfl⟩, q⟩
theorem call_max2 (hc : X.calm = true) : CallR X (.builtin "max") (fun xs H Q => ∃ i j, xs = [.int i, .int j] ∧ Q (.int (if j > i then j else i)) H) := by
  intro pins s σ H xs us Q I r h
  obtain ⟨i, j, rfl, q⟩ := h
  obtain ⟨u, w', rfl, ⟨t, rfl⟩, ⟨t', rfl⟩⟩ := vals2 r
  refine max_two_ints (I.ok.hd hc) fun h' tk k => ⟨_, H, I.kept k, ?_, q⟩
  by_cases hj : j > i
  · rw [if_pos hj, if_pos hj]; exact ⟨_, rfl⟩
  · rw [if_neg hj, if_neg hj]; exact ⟨_, rfl⟩
theorem call_min2 (hc : X.calm = true) : CallR X (.builtin "min") (fun xs H Q => ∃ i j, xs = [.int i, .int j] ∧ Q (.int (if j < i then j else i)) H) := by
  intro pins s σ H xs us Q I r h
  obtain ⟨i, j, rfl, q⟩ := h
  obtain ⟨u, w', rfl, ⟨t, rfl⟩, ⟨t', rfl⟩⟩ := vals2 r
  refine min_two_ints (I.ok.hd hc) fun h' tk k => ⟨_, H, I.kept k, ?_, q⟩
  by_cases hj : j < i
  · rw [if_pos hj, if_pos hj]; exact ⟨_, rfl⟩
  · rw [if_neg hj, if_neg hj]; exact ⟨_, rfl⟩
theorem call_int1 : CallR X (.type "int") (fun xs H Q => (∃ i, xs = [.int i] ∧ Q (.int i) H) ∨ ∃ k, xs = [.bl k] ∧ Q (.int (if k then 1 else 0)) H) := by
  intro pins s σ H xs us Q I r h
  rcases h with ⟨i, rfl, q⟩ | ⟨k, rfl, q⟩
  · obtain ⟨u, rfl, t, rfl⟩ := vals1 r
    exact call_int_int ⟨.int i, H, I, ⟨_, rfl⟩, q⟩
  · obtain ⟨u, rfl, r1⟩ := vals1 r
    cases r1
    exact call_int_bool ⟨.int (if k then 1 else 0), H, I.tok _, ⟨_, rfl⟩, q⟩
theorem call_bool1 : CallR X (.type "bool") (fun xs H Q => (∃ i, xs = [.int i] ∧ Q (.bl (i != 0)) H) ∨ ∃ k, xs = [.bl k] ∧ Q (.bl k) H) := by
  intro pins s σ H xs us Q I r h
  rcases h with ⟨i, rfl, q⟩ | ⟨k, rfl, q⟩
  · obtain ⟨u, rfl, t, rfl⟩ := vals1 r
    exact call_bool_int ⟨.bl (i != 0), H, I, rfl, q⟩
  · obtain ⟨u, rfl, r1⟩ := vals1 r
    cases r1
    exact call_bool_bool ⟨.bl k, H, I, rfl, q⟩
theorem call_str_int : CallR X (.type "str") (fun xs H Q => ∃ i, xs = [.int i] ∧ i.natAbs.log2 < 1920 ∧ Q (.str (toString i)) H) := by
  intro pins s σ H xs us Q I r h
  obtain ⟨i, rfl, hz, q⟩ := h
  obtain ⟨u, rfl, t, rfl⟩ := vals1 r
  exact PySem.P.str_of_int hz ⟨.str _, H, I.tok _, ⟨_, rfl⟩, q⟩
theorem call_ord : CallR X (.builtin "ord") (fun xs H Q => ∃ x, xs = [.str x] ∧ x.length = 1 ∧ Q (.int (x.cps.getD 0 0 : Nat)) H) := by
  intro pins s σ H xs us Q I r h
  obtain ⟨x, rfl, hz, q⟩ := h
  obtain ⟨u, rfl, t, rfl⟩ := vals1 r
  exact ord_of_one hz ⟨.int _, H, I.tok _, ⟨_, rfl⟩, q⟩
theorem call_chr : CallR X (.builtin "chr") (fun xs H Q => ∃ i, xs = [.int i] ∧ 0 ≤ i ∧ i ≤ 1114111 ∧ Q (.str ⟨#[i.toNat]⟩) H) := by
  intro pins s σ H xs us Q I r h
  obtain ⟨i, rfl, h0, h1, q⟩ := h
  obtain ⟨u, rfl, t, rfl⟩ := vals1 r
  exact chr_of_range h0 h1 ⟨.str _, H, I.tok _, ⟨_, rfl⟩, q⟩
/-- len of a str, a bytes, a list, a tuple -/
def LenV (K : PySem.W.Frag) (x : V) (H : Hp) (n : Nat) : Prop :=
  match x with
  | .str y => y.length ≤ sizeLine ∧ n = y.length
  | .byt y => y.size ≤ sizeLine ∧ n = y.size
  | .ref p => (∃ xs, SqL K H p xs ∧ n = xs.length) ∨ ∃ xs, SqT K H p xs ∧ n = xs.length
  | _ => False
theorem call_len : CallR X (.builtin "len") (fun xs H Q => ∃ x n, xs = [x] ∧ LenV X.K x H n ∧ Q (.int n) H) := by
  intro pins s σ H xs us Q I r h
  obtain ⟨x, n, rfl, e, q⟩ := h
  obtain ⟨u, rfl, rx⟩ := vals1 r
  have hl := line63
  have hs : sizeLine = 16777216 := sizeLine_eq
  cases x with
  | str y =>
    obtain ⟨t, rfl⟩ := rx
    obtain ⟨hy, e'⟩ : y.length ≤ sizeLine ∧ n = y.length := e
    subst e'
    exact len_str (by omega) ⟨.int _, H, I.tok _, ⟨_, rfl⟩, q⟩
  | byt y =>
    obtain ⟨t, rfl⟩ := rx
    obtain ⟨hy, e'⟩ : y.size ≤ sizeLine ∧ n = y.size := e
    subst e'
    exact PySem.W.len_bytes (by omega) ⟨.int _, H, I.tok _, ⟨_, rfl⟩, q⟩
  | ref p =>
    cases rx
    have e' : (∃ xs, SqL X.K H p xs ∧ n = xs.length) ∨ ∃ xs, SqT X.K H p xs ∧ n = xs.length := e
    rcases e' with ⟨xs, hx, e'⟩ | ⟨xs, hx, e'⟩
    · subst e'
      obtain ⟨its, r', pl, hz⟩ := I.list hx
      have hlen := r'.length
      exact Calls.call_len_list pl.isList (by simp only [List.size_toArray]; omega) ⟨.int xs.length, H, I.tok _, ⟨_, by simp only [List.size_toArray]; rw [hlen]⟩, q⟩
    · subst e'
      obtain ⟨its, r', pl, hz⟩ := I.tuple hx
      have hlen := r'.length
      exact len_tuple pl (by simp only [List.size_toArray]; omega) ⟨.int xs.length, H, I.tok _, ⟨_, by simp only [List.size_toArray]; rw [hlen]⟩, q⟩
  | _ => exact (show False from e).elim
/-- divmod: a new tuple -/
theorem call_divmod : CallR X (.builtin "divmod") (fun xs H Q => ∃ i j, xs = [.int i, .int j] ∧ CDiv i j ∧ ∀ p, H p = none → Q (.ref p) (upd H p (.tup [.int (i / j), .int (i % j)]))) := by
  intro pins s σ H xs us Q I r h
  obtain ⟨i, j, rfl, ⟨h1, h2⟩, q⟩ := h
  obtain ⟨u, w', rfl, ⟨t, rfl⟩, ⟨t', rfl⟩⟩ := vals2 r
  refine divmod_int (by omega) ?_ (.inl (PyProof.noPylong_small (by omega)))
  rw [Int.fdiv_eq_ediv_of_nonneg i (by omega), Int.fmod_eq_emod_of_nonneg i (by omega)]
  have hn : H s.heap.objs.size = none := I.hok.fresh (Nat.le_refl _)
  refine ⟨.ref s.heap.objs.size, _, ?_, rfl, q _ hn⟩
  refine I.laid (fun b o e => Heap.get?_push_of_some _ e) (Nat.le_refl _) ⟨by simp only [List.length_cons, List.length_nil]; rw [sizeLine_eq]; decide, [.int (i / j) s.toks, .int (i % j) (s.toks + 1)], .cons ⟨_, rfl⟩ (.cons ⟨_, rfl⟩ .nil), ?_⟩
  exact ⟨_, Heap.get?_push_size s.heap rfl, rfl, 0, rfl⟩
end
end L2

namespace L2
open PySem PySem.Spec PyProof.Rows

/-! ### an instance, its attributes a map -/
structure ObjM (h : Heap) (x dx C : Addr) (mA : Str → Option Value) : Prop where
  obj : h.get? x = some (PySem.W.instObj C dx)
  ns : h.Ns1 dx mA
  ne : dx ≠ x

theorem lookIn_ns {h : Heap} {dx : Addr} {mA : Str → Option Value} (n : h.Ns1 dx mA) : ∃ od, h.get? dx = some od ∧ ∀ name, PySem.W.lookIn name od = some (mA name) := by
  obtain ⟨o, es, ep, ho, hd, hk, _, hm⟩ := n
  refine ⟨o, ho, fun name => ?_⟩
  have e := hm name
  unfold nsFind findBy at e
  rw [← Array.find?_toList] at e
  unfold PySem.W.lookIn
  rw [hd]
  dsimp only
  split
  · rename_i y q
    rw [q] at e
    exact congrArg some e
  · rename_i q
    rw [q] at e
    have a : es.toList.any (·.refKey) = false := by
      rw [List.any_eq_false]
      intro y hy
      obtain ⟨z, t, hkey⟩ := hk y (Array.mem_toList_iff.mp hy)
      simp [DictEntry.refKey, hkey]
    have a' : ¬ es.toList.any (·.refKey) = true := by rw [a]; exact Bool.false_ne_true
    rw [if_neg a']
    exact congrArg some e

theorem ObjM.look {h : Heap} {x dx C : Addr} {mA : Str → Option Value} (I : ObjM h x dx C mA) : ∃ od, PySem.W.InstAt h x (PySem.W.instObj C dx) C (some od) ∧ ∀ name, PySem.W.lookIn name od = some (mA name) :=
  let ⟨od, ho, hl⟩ := lookIn_ns I.ns
  ⟨od, ⟨I.obj, rfl, rfl, ho⟩, hl⟩

section
variable {prog : Program} {w : World} {A : Around} {E : Value → Shared → Prop} {s : Shared} {K : PySem.W.Frag} {x dx C f : Addr} {mA : Str → Option Value} {name : Str} {v : Value}

theorem get_map {expr : Bool} {Q : Value → Shared → Prop} (X : K.In s.heap) (I : ObjM s.heap x dx C mA) (hg : PySem.W.plainGet K C name = true) (hh : PySem.W.hasDictIn K C = true)
    (ha : PySem.W.findIn K (.ref C) name = some none) (hv : mA name = some v) (hv' : PySem.W.handedIn v = true) (h : Q v { s with toks := s.toks + 1 }) :
    wpAny (model prog w) A (getAttr (.ref x) name expr) Q E s := by
  obtain ⟨od, J, hl⟩ := I.look
  exact PySem.W.get_value X J (PySem.W.plainGet_of hg).1 (PySem.W.findObj_own hh ha rfl (by rw [hl, hv])) hv' h

theorem get_const {expr : Bool} {a : Value} {Q : Value → Shared → Prop} (X : K.In s.heap) (I : ObjM s.heap x dx C mA) (hg : PySem.W.plainGet K C name = true) (hh : PySem.W.hasDictIn K C = true)
    (ha : PySem.W.findIn K (.ref C) name = some (some a)) (hn : PySem.W.specialIn K a "__get__" = some none) (hc : PySem.W.copiedNames.contains name = false) (hv : mA name = none) (hv' : PySem.W.handedIn a = true)
    (h : Q a { s with toks := s.toks + 1 }) : wpAny (model prog w) A (getAttr (.ref x) name expr) Q E s := by
  obtain ⟨od, J, hl⟩ := I.look
  exact PySem.W.get_value X J (PySem.W.plainGet_of hg).1 (PySem.W.findObj_cls hh ha hn hv' hc (by rw [hl, hv])) hv' h

theorem get_meth {pl : Sem Bool} {Q : Value × List Value → Shared → Prop} (X : K.In s.heap) (I : ObjM s.heap x dx C mA) (hg : PySem.W.plainGet K C name = true)
    (hf : PySem.W.findIn K (.ref C) name = some (some (.ref f))) (ht : PySem.W.isFn K (.ref f) = true) (hv : mA name = none) (h : Q (.ref f, [.ref x]) s) :
    wpAny (model prog w) A (getMethod (.ref x) name pl) Q E s := by
  obtain ⟨od, J, hl⟩ := I.look
  exact PySem.W.method_fn X J (PySem.W.plainGet_of hg).1 (PySem.W.plainGet_of hg).2 hf (beq_iff_eq.mp ht) (by show (PySem.W.lookIn name od).map (·.isSome) = some false; rw [hl, hv]; rfl) h

theorem set_map {ns : List Str} {Q : Unit → Shared → Prop} (X : K.In s.heap) (I : ObjM s.heap x dx C mA)
    (hs : PySem.W.findIn K (.ref C) "__setattr__" = some (some (.builtin "object.__setattr__"))) (hp : PySem.W.plainOver K C = true) (ht : PySem.W.takerIn K C name = some none) (hh : PySem.W.hasDictIn K C = true)
    (hw : PySem.Within mA ns) (hsz : ns.length ≤ sizeLine)
    (h : ∀ h', ObjM h' x dx C (fun y => if y = name then some v else mA y) → Heap.SameBut dx s.heap h' → Q () { s with heap := h', toks := s.toks + 2 }) :
    wpAny (model prog w) A (setAttr (.ref x) name v) Q E s := by
  obtain ⟨od, J, hl⟩ := I.look
  refine PySem.W.set_plain X J hs (PySem.W.osa_open (s := { s with toks := s.toks + 1 }) (r := none) X J hp ht fun b => ?_)
  obtain ⟨cd, hc, hd'⟩ := PySem.W.any_some hh
  have hx : s.heap.get? x = some ⟨.ref C, some dx, .plain, #[]⟩ := I.obj
  refine wpAny_bind (wpAny_pure (wpAny_bind (wpAny_bind (wpAny_loadPart hx (wpAny_bind (PySem.W.Looks.here (s := { s with toks := s.toks + 1 }) (PySem.W.looks_clsIn X hc) ?_))))))
  rw [hd']
  refine wpAny_pure (a := some dx) (wpAny_bind (wpAny_pure (wpAny_bind ?_)))
  refine wpAny_nsSet1 (s := { s with toks := s.toks + 1 }) I.ns fun h' hn2 hs2 => ?_
  obtain ⟨oD, esD, epD, hoD, hdD, hcD⟩ := hn2.count (PySem.Within.cons name v hw)
  refine wpAny_bind (wpAny_lookBehind hoD (by rw [hdD]; exact pastItsLine_dict (Nat.le_trans hcD (by rw [List.length_cons]; omega))) ?_)
  exact wpAny_pure (h _ ⟨(hs2.2 _ (Ne.symm I.ne)).trans I.obj, hn2, I.ne⟩ hs2)

/-- C(..): the dict at the heap's end, the instance behind it; then its __init__ -/
theorem make_map {R : Result → Shared → Prop} {vs : List Value} {kw : List (Str × Value)} (X : K.In s.heap) (hm : PySem.W.makesIn K C = true)
    (hi : PySem.W.findIn K (.ref C) "__init__" = some (some (.ref f))) (hf : PySem.W.typeIn K (.ref f) = some (.type "function"))
    (h : codeAny (model prog w) (A.under (.builtin "type.__call__" ⟨.ref C :: vs, kw⟩)) (.call (.ref f) ⟨.ref (s.heap.objs.size + 1) :: vs, kw⟩) (PySem.W.InitBack (s.heap.objs.size + 1) R)
      { s with heap := (s.heap.push PySem.W.emptyDict).push (PySem.W.instObj C s.heap.objs.size) }) :
    codeAny (model prog w) A (.call (.ref C) ⟨vs, kw⟩) R s := by
  obtain ⟨hh, g, d, t, os⟩ := s
  exact PySem.W.make_core (PySem.W.makes_of X hm) (PySem.W.looks_findIn X hi) (fun self => PySem.W.bind_fn X self hf) (.inl rfl) h
/-- C() where there is no __init__ but object's -/
theorem make_map0 {R : Result → Shared → Prop} (X : K.In s.heap) (hm : PySem.W.makesIn K C = true)
    (hi : PySem.W.findIn K (.ref C) "__init__" = some (some (.builtin "object.__init__")))
    (hb : ∀ self, PySem.W.Looks (model prog w) s.heap (bindSpecial (.builtin "object.__init__") self) (.builtin "object.__init__", [self]))
    (h : codeAny (model prog w) (A.under (.builtin "type.__call__" ⟨[.ref C], []⟩)) (.call (.builtin "object.__init__") ⟨[.ref (s.heap.objs.size + 1)], []⟩) (PySem.W.InitBack (s.heap.objs.size + 1) R)
      { s with heap := (s.heap.push PySem.W.emptyDict).push (PySem.W.instObj C s.heap.objs.size) }) :
    codeAny (model prog w) A (.call (.ref C) ⟨[], []⟩) R s := by
  obtain ⟨hh, g, d, t, os⟩ := s
  exact PySem.W.make_core (PySem.W.makes_of X hm) (PySem.W.looks_findIn X hi) hb (.inr ⟨rfl, rfl⟩) h
end

/-! ### the attributes as a list of pairs -/
def putF (f : Str) (v : V) : List (Str × V) → List (Str × V)
  | [] => [(f, v)]
  | (g, x) :: r => if g = f then (g, v) :: r else (g, x) :: putF f v r
theorem lookup_putF (f g : Str) (v : V) : ∀ fs : List (Str × V), (putF f v fs).lookup g = if g = f then some v else fs.lookup g
  | [] => by
    show List.lookup g [(f, v)] = _
    by_cases h : g = f
    · have hb : (g == f) = true := beq_iff_eq.mpr h
      simp only [List.lookup, hb, if_pos h]
    · have hb : (g == f) = false := beq_eq_false_iff_ne.mpr h
      simp only [List.lookup, hb, if_neg h]
  | (k, x) :: r => by
    have ih := lookup_putF f g v r
    rw [show putF f v ((k, x) :: r) = (if k = f then (k, v) :: r else (k, x) :: putF f v r) from rfl]
    by_cases hk : k = f
    · rw [if_pos hk]
      by_cases h : g = k
      · have hb : (g == k) = true := beq_iff_eq.mpr h
        simp only [List.lookup, hb, if_pos (h.trans hk)]
      · have hb : (g == k) = false := beq_eq_false_iff_ne.mpr h
        simp only [List.lookup, hb, if_neg (fun e : g = f => h (e.trans hk.symm))]
    · rw [if_neg hk]
      by_cases h : g = k
      · have hb : (g == k) = true := beq_iff_eq.mpr h
        simp only [List.lookup, hb, if_neg (fun e : g = f => hk (h.symm.trans e))]
      · have hb : (g == k) = false := beq_eq_false_iff_ne.mpr h
        simp only [List.lookup, hb]
        exact ih
theorem keys_putF (f : Str) (v : V) : ∀ fs : List (Str × V), f ∈ (putF f v fs).map (·.1) ∧ ∀ g, g ∈ fs.map (·.1) → g ∈ (putF f v fs).map (·.1)
  | [] => ⟨by simp [putF], fun g h => by simp at h⟩
  | (k, x) :: r => by
    obtain ⟨i1, i2⟩ := keys_putF f v r
    rw [show putF f v ((k, x) :: r) = (if k = f then (k, v) :: r else (k, x) :: putF f v r) from rfl]
    by_cases hk : k = f
    · rw [if_pos hk]
      subst hk
      exact ⟨by simp, fun g h => by simpa using h⟩
    · rw [if_neg hk]
      refine ⟨?_, fun g h => ?_⟩
      · rw [List.map_cons]
        exact List.mem_cons_of_mem _ i1
      · rw [List.map_cons] at h ⊢
        rcases List.mem_cons.mp h with e | e
        · exact List.mem_cons.mpr (.inl e)
        · exact List.mem_cons_of_mem _ (i2 g e)
theorem length_putF (f : Str) (v : V) : ∀ fs : List (Str × V), (putF f v fs).length ≤ fs.length + 1
  | [] => by simp [putF]
  | (k, x) :: r => by
    have ih := length_putF f v r
    rw [show putF f v ((k, x) :: r) = (if k = f then (k, v) :: r else (k, x) :: putF f v r) from rfl]
    by_cases hk : k = f
    · rw [if_pos hk, List.length_cons, List.length_cons]; omega
    · rw [if_neg hk, List.length_cons, List.length_cons]; omega

theorem RelO.some_of {v : V} {o : Option Value} (r : RelO (some v) o) : ∃ u, o = some u ∧ RelV v u := by
  cases o with
  | none => exact (show False from r).elim
  | some u => exact ⟨u, rfl, r⟩
theorem RelO.none_of {o : Option Value} (r : RelO none o) : o = none := by
  cases o with
  | none => rfl
  | some u => exact (show False from r).elim
theorem handed_of {v : V} {u : Value} (r : RelV v u) : PySem.W.handedIn u = true := by
  cases v with
  | non => cases (show u = Value.none from r); rfl
  | bl b => cases (show u = Value.bool b from r); rfl
  | int i => obtain ⟨t, e⟩ := (show ∃ t, u = Value.int i t from r); cases e; rfl
  | str x => obtain ⟨t, e⟩ := (show ∃ t, u = Value.str x t from r); cases e; rfl
  | byt b => obtain ⟨t, e⟩ := (show ∃ t, u = Value.bytes b t from r); cases e; rfl
  | flt b => obtain ⟨t, e⟩ := (show ∃ t, u = Value.float b t from r); cases e; rfl
  | ref a => cases (show u = Value.ref a from r); rfl
  | ty n => cases (show u = Value.type n from r); rfl

section
variable {P : Program} {w : World} {H H' : Hp} {h h' : Heap} {a C dx : Addr} {fs fs' : List (Str × V)}
theorem ins_get (hok : HOk P w H h) (e : H a = some (.ins C dx fs)) : ∃ mA, ObjM h a dx C mA ∧ (∀ f, RelO (fs.lookup f) (mA f)) ∧ PySem.Within mA (fs.map (·.1)) ∧ fs.length ≤ 1000 ∧ H dx = some (.own a) := by
  obtain ⟨d, z, ne, ob, mA, n, r, q⟩ := (show ObjOk P w H h a (.ins C dx fs) from hok a _ e)
  exact ⟨mA, ⟨ob, n, ne⟩, r, q, z, d⟩
end

/-! ### what of the text a class must have -/
structure Cls (K : PySem.W.Frag) (C : Addr) : Prop where
  pg : PySem.W.plainGet K C Str.empty = true
  hd : PySem.W.hasDictIn K C = true
  po : PySem.W.plainOver K C = true
  sa : PySem.W.findIn K (.ref C) "__setattr__" = some (some (.builtin "object.__setattr__"))
theorem Cls.get {K : PySem.W.Frag} {C : Addr} (c : Cls K C) (f : Str) : PySem.W.plainGet K C f = true := c.pg
/-- no class of it has the name -/
def NoAttr (K : PySem.W.Frag) (C : Addr) (f : Str) : Prop := PySem.W.findIn K (.ref C) f = some none
theorem NoAttr.taker {K : PySem.W.Frag} {C : Addr} {f : Str} (n : NoAttr K C f) : PySem.W.takerIn K C f = some none := by
  unfold PySem.W.takerIn
  rw [show PySem.W.findIn K (.ref C) f = some none from n]
  rfl
/-- a constant of the class -/
structure Con (K : PySem.W.Frag) (C : Addr) (f : Str) (v : V) (u : Value) : Prop where
  at_ : PySem.W.findIn K (.ref C) f = some (some u)
  rel : RelV v u
  get : PySem.W.specialIn K u "__get__" = some none
  cp : PySem.W.copiedNames.contains f = false
/-- a method: a plain def of the class or of one above it -/
structure Meth (K : PySem.W.Frag) (C : Addr) (m : Str) (f : Addr) : Prop where
  at_ : PySem.W.findIn K (.ref C) m = some (some (.ref f))
  fn : PySem.W.isFn K (.ref f) = true
  kp : PySem.W.keepIn K (.ref f) = true

section
variable {X : Cx} {pins : List (Addr × Obj)} {σ : St} {H : Hp} {s : Shared} {a C dx : Addr} {fs : List (Str × V)} {f : Str} {v : V} {A : Around} {E : Value → Shared → Prop}

theorem getattr_ok {b : Bool} {Q : Value → Shared → Prop} (I : Inv X pins σ H s) (e : H a = some (.ins C dx fs)) (c : Cls X.K C) (n : NoAttr X.K C f) (l : fs.lookup f = some v)
    (h : ∀ u s', Inv X pins σ H s' → RelV v u → Q u s') : wpAny (model X.prog X.w) A (getAttr (.ref a) f b) Q E s := by
  obtain ⟨mA, O, r, _, _, _⟩ := ins_get I.hok e
  obtain ⟨u, hu, ru⟩ := RelO.some_of (v := v) (o := mA f) (by rw [← l]; exact r f)
  exact get_map I.kIn O (c.get f) c.hd n hu (handed_of ru) (h u _ (I.tok _) ru)

theorem getcon_ok {b : Bool} {u : Value} {Q : Value → Shared → Prop} (I : Inv X pins σ H s) (e : H a = some (.ins C dx fs)) (c : Cls X.K C) (k : Con X.K C f v u) (l : fs.lookup f = none)
    (h : ∀ s', Inv X pins σ H s' → Q u s') : wpAny (model X.prog X.w) A (getAttr (.ref a) f b) Q E s := by
  obtain ⟨mA, O, r, _, _, _⟩ := ins_get I.hok e
  have hn : mA f = none := RelO.none_of (by rw [← l]; exact r f)
  exact get_const I.kIn O (c.get f) c.hd k.at_ k.get k.cp hn (handed_of k.rel) (h _ (I.tok _))

theorem getmeth_ok {m : Str} {g : Addr} {pl : Sem Bool} {Q : Value × List Value → Shared → Prop} (I : Inv X pins σ H s) (e : H a = some (.ins C dx fs)) (c : Cls X.K C) (k : Meth X.K C m g) (l : fs.lookup m = none)
    (h : Q (.ref g, [.ref a]) s) : wpAny (model X.prog X.w) A (getMethod (.ref a) m pl) Q E s := by
  obtain ⟨mA, O, r, _, _, _⟩ := ins_get I.hok e
  have hn : mA m = none := RelO.none_of (by rw [← l]; exact r m)
  exact get_meth I.kIn O (c.get m) k.at_ k.fn hn h

theorem setattr_ok {y : V} {u : Value} {Q : Unit → Shared → Prop} (I : Inv X pins σ H s) (e : H a = some (.ins C dx fs)) (c : Cls X.K C) (n : NoAttr X.K C f) (hl : fs.length < 1000) (ry : RelV y u)
    (h : ∀ s', Inv X pins σ (upd H a (.ins C dx (putF f y fs))) s' → Q () s') : wpAny (model X.prog X.w) A (setAttr (.ref a) f u) Q E s := by
  obtain ⟨mA, O, r, wi, _, ho⟩ := ins_get I.hok e
  have hz : (fs.map (·.1)).length ≤ sizeLine := by rw [List.length_map, sizeLine_eq]; omega
  refine set_map I.kIn O c.sa c.po n.taker c.hd wi hz fun h' O' sb => h _ ?_
  have hd : ∃ o, h'.get? dx = some o := let ⟨o, _, _, e', _⟩ := O'.ns; ⟨o, e'⟩
  refine I.write (x := a) (e := dx) (by rw [e]; exact True.intro) (.inr ho) (fun b q hb z => (sb.2 b hb).trans z) hd ?_
  refine ⟨by rw [upd_ne O.ne]; exact ho, ?_, O.ne, O'.obj, _, O'.ns, fun g => ?_, fun g hg => ?_⟩
  · have := length_putF f y fs; omega
  · show RelO ((putF f y fs).lookup g) (if g = f then some u else mA g)
    rw [lookup_putF]
    by_cases q : g = f
    · rw [if_pos q, if_pos q]; exact ry
    · rw [if_neg q, if_neg q]; exact r g
  · by_cases q : g = f
    · rw [q]; exact (keys_putF f y fs).1
    · refine (keys_putF f y fs).2 g (wi g fun z => hg ?_)
      show (if g = f then some u else mA g) = none
      rw [if_neg q]; exact z

/-- a new instance, tracked, without attributes -/
theorem Inv.made (I : Inv X pins σ H s) : Inv X pins σ (upd (upd H s.heap.objs.size (.own (s.heap.objs.size + 1))) (s.heap.objs.size + 1) (.ins C s.heap.objs.size []))
    { s with heap := (s.heap.push PySem.W.emptyDict).push (PySem.W.instObj C s.heap.objs.size) } := by
  have e1 : (s.heap.push PySem.W.emptyDict).get? s.heap.objs.size = some PySem.W.emptyDict := Heap.get?_push_size s.heap rfl
  have e2 : ((s.heap.push PySem.W.emptyDict).push (PySem.W.instObj C s.heap.objs.size)).get? (s.heap.objs.size + 1) = some (PySem.W.instObj C s.heap.objs.size) := by
    have := Heap.get?_push_size (s.heap.push PySem.W.emptyDict) (o := PySem.W.instObj C s.heap.objs.size) rfl
    rwa [Heap.size_push] at this
  have e3 : (s.heap.push PySem.W.emptyDict).Ns s.heap.objs.size (fun _ => none) := ⟨PySem.W.emptyDict, #[], _, e1, rfl, (fun e he => absurd he (by simp)), fun _ => rfl⟩
  have I1 := I.laid (a := s.heap.objs.size) (o := .own (s.heap.objs.size + 1)) (h' := s.heap.push PySem.W.emptyDict) (t' := s.toks) (fun b u q => Heap.get?_push_of_some _ q) (Nat.le_refl _) ⟨_, e1⟩
  refine I1.laid (a := s.heap.objs.size + 1) (o := .ins C s.heap.objs.size []) (t' := s.toks) (fun b u q => Heap.get?_push_of_some _ q) (Nat.le_of_eq (Heap.size_push _ _)) ?_
  have ne : s.heap.objs.size ≠ s.heap.objs.size + 1 := Nat.ne_of_lt (Nat.lt_succ_self _)
  refine ⟨by rw [upd_ne ne, upd_same], Nat.zero_le _, ne, e2, fun _ => none, (Heap.Ns1.of_empty e3).at fun o q => Heap.get?_push_of_some _ q, fun _ => True.intro, fun y hy => absurd rfl hy⟩

/-- e.f where nothing but the object is asked: through attributeBase (super) and the last hold -/
theorem attr_of {prog : Program} {w : World} {env : Env} {e : Expr} {f : Str} {pos : Pos} {s : Shared} {Q : Value → Shared → Prop} (hb : attributeBase e f env (eval e env) = eval e env)
    (h : wpAny (model prog w) A (eval e env) (fun o s₁ => wpAny (model prog w) A (getAttr o f true) Q E s₁) E s) : wpAny (model prog w) A (eval (.Attribute e f pos) env) Q E s :=
  Attribute_any_ h (by rw [arm_eval_Attribute, hb])
end

/-! ### readings and rules -/
/-- e.f, an attribute of the instance -/
def tFld (K : PySem.W.Frag) (ta : TE) (f : Str) : TE := fun σ H Q => ta σ H fun x H1 => ∃ a C dx fs v, x = .ref a ∧ H1 a = some (.ins C dx fs) ∧ Cls K C ∧ NoAttr K C f ∧ fs.lookup f = some v ∧ Q v H1
/-- e.f, a constant of the class -/
def tCon (K : PySem.W.Frag) (ta : TE) (f : Str) : TE := fun σ H Q => ta σ H fun x H1 => ∃ a C dx fs v u, x = .ref a ∧ H1 a = some (.ins C dx fs) ∧ Cls K C ∧ Con K C f v u ∧ fs.lookup f = none ∧ Q v H1
/-- e.f = value -/
def sFld (K : PySem.W.Frag) (ta tv : TE) (f : Str) : TS := fun D σ H => tv σ H fun y H1 => ta σ H1 fun x H2 => ∃ a C dx fs, x = .ref a ∧ H2 a = some (.ins C dx fs) ∧ Cls K C ∧ NoAttr K C f ∧ fs.length < 1000 ∧
  D.nx σ (upd H2 a (.ins C dx (putF f y fs)))
/-- an augmented operator on two values -/
def InOp (X : Cx) (op : Operator) (rd : V → V → Hp → VK → Prop) : Prop :=
  ∀ (pins : List (Addr × Obj)) (s : Shared) (σ : St) (H : Hp) (x y : V) (u v : Value) (Q : VK), Inv X pins σ H s → RelV x u → RelV y v → rd x y H Q → wpAny (model X.prog X.w) X.A (inplaceOp op u v) (EP X pins σ Q) X.xe s
/-- e.f op= value -/
def sFldAug (K : PySem.W.Frag) (ta tv : TE) (rd : V → V → Hp → VK → Prop) (f : Str) : TS := fun D σ H => ta σ H fun x H1 => ∃ a C dx fs v, x = .ref a ∧ H1 a = some (.ins C dx fs) ∧ Cls K C ∧ NoAttr K C f ∧ fs.lookup f = some v ∧
  tv σ H1 fun y H2 => rd v y H2 fun z H3 => ∃ dx' fs', H3 a = some (.ins C dx' fs') ∧ fs'.length < 1000 ∧ D.nx σ (upd H3 a (.ins C dx' (putF f z fs')))

section
variable {X : Cx} {o e value : Expr} {f : Str} {pos pos' tpos : Pos} {ta tv : TE}
theorem pe_fld (he : PE X e ta) (hb : attributeBase e f X.env (eval e X.env) = eval e X.env) : PE X (.Attribute e f pos) (tFld X.K ta f) := by
  intro pins s σ H Q I h
  refine attr_of hb (thn (he pins s σ H _ I h) fun u s1 ⟨x, H1, I1, rx, a, C, dx, fs, v, ex, ea, c, n, l, q⟩ => ?_)
  subst ex
  obtain rfl : u = Value.ref a := rx
  exact getattr_ok I1 ea c n l fun u' s2 I2 ru => ⟨v, H1, I2, ru, q⟩
theorem pe_con (he : PE X e ta) (hb : attributeBase e f X.env (eval e X.env) = eval e X.env) : PE X (.Attribute e f pos) (tCon X.K ta f) := by
  intro pins s σ H Q I h
  refine attr_of hb (thn (he pins s σ H _ I h) fun u s1 ⟨x, H1, I1, rx, a, C, dx, fs, v, u0, ex, ea, c, k, l, q⟩ => ?_)
  subst ex
  obtain rfl : u = Value.ref a := rx
  exact getcon_ok I1 ea c k l fun s2 I2 => ⟨v, H1, I2, k.rel, q⟩
theorem ps_fld (ha : PE X o ta) (hv : PE X value tv) (hs : swapsWith value (some (.Attribute o f pos')) pos.line X.env = pure false) : PS X (.Assign [.Attribute o f pos'] value pos) (sFld X.K ta tv f) := by
  intro pins s σ H D I h
  refine plainObj_wpAny_Assign_Attribute (thn (hv pins s σ H _ I h) fun u s1 ⟨y, H1, I1, ry, q⟩ => thn (ha pins s1 σ H1 _ I1 q) fun ov s2 ⟨x, H2, I2, rx, a, C, dx, fs, ex, ea, c, n, l, q2⟩ => ?_) hs
  subst ex
  obtain rfl : ov = Value.ref a := rx
  exact setattr_ok I2 ea c n l ry fun s3 I3 => ⟨σ, _, I3, q2⟩
theorem ps_fldaug {op : Operator} {rd : V → V → Hp → VK → Prop} (ha : PE X o ta) (hv : PE X value tv) (hop : InOp X op rd) : PS X (.AugAssign (.Attribute o f tpos) op value pos) (sFldAug X.K ta tv rd f) := by
  intro pins s σ H D I h
  refine wpAny_AugAssign_AttributeAny (thn (ha pins s σ H _ I h) fun ov s1 ⟨x, H1, I1, rx, a, C, dx, fs, v, ex, ea, c, n, l, q⟩ => ?_)
  subst ex
  obtain rfl : ov = Value.ref a := rx
  refine getattr_ok I1 ea c n l fun u s2 I2 ru => thn (hv pins s2 σ H1 _ I2 q) fun w3 s3 ⟨y, H2, I3, ry, q3⟩ => thn (hop pins s3 σ H2 v y u w3 _ I3 ru ry q3) fun w4 s4 ⟨z, H3, I4, rz, dx', fs', ea', l', q4⟩ => ?_
  exact setattr_ok I4 ea' c n l' rz fun s5 I5 => ⟨σ, _, I5, q4⟩
def rAdd : V → V → Hp → VK → Prop := fun x y H Q => ∃ i j, x = .int i ∧ y = .int j ∧ Q (.int (i + j)) H
def rSub : V → V → Hp → VK → Prop := fun x y H Q => ∃ i j, x = .int i ∧ y = .int j ∧ Q (.int (i - j)) H
theorem in_add : InOp X .Add rAdd := by
  rintro pins s σ H x y u v Q I rx ry ⟨i, j, rfl, rfl, q⟩
  obtain ⟨t, rfl⟩ := (show ∃ t, u = Value.int i t from rx)
  obtain ⟨t', rfl⟩ := (show ∃ t', v = Value.int j t' from ry)
  exact PyProof.Rows.iadd_int ⟨.int (i + j), H, I.tok _, ⟨_, rfl⟩, q⟩
theorem in_sub : InOp X .Sub rSub := by
  rintro pins s σ H x y u v Q I rx ry ⟨i, j, rfl, rfl, q⟩
  obtain ⟨t, rfl⟩ := (show ∃ t, u = Value.int i t from rx)
  obtain ⟨t', rfl⟩ := (show ∃ t', v = Value.int j t' from ry)
  exact PyProof.Rows.isub_int ⟨.int (i - j), H, I.tok _, ⟨_, rfl⟩, q⟩

/-- what is between an instance and its method: the tree of a method call -/
theorem methcall_of {pl : Sem Bool} {m : Str} {apos : Pos} {args : List Expr} {pins : List (Addr × Obj)} {s : Shared} {σ : St} {H : Hp} {Q : Value → Shared → Prop} {te : TE} (he : PE X e te) (I : Inv X pins σ H s)
    (h : te σ H fun x H1 => ∃ a C dx fs g, x = .ref a ∧ H1 a = some (.ins C dx fs) ∧ Cls X.K C ∧ Meth X.K C m g ∧ fs.lookup m = none ∧
      ∀ s1, Inv X pins σ H1 s1 → wpAny (model X.prog X.w) X.A (callWith pos (.ref g) [.ref a] (backTo pos (starEach args X.env)) (backToKw pos (keywordEach [] X.env))) Q X.xe s1)
    (ht : eval (.Call (.Attribute e m apos) args [] pos) X.env = (do
      let ov ← eval e X.env
      standAt apos.atName
      let (f, first) ← holding [ov] (getMethod ov m pl)
      callWith pos f first (backTo pos (starEach args X.env)) (backToKw pos (keywordEach [] X.env)))) :
    wpAny (model X.prog X.w) X.A (eval (.Call (.Attribute e m apos) args [] pos) X.env) Q X.xe s := by
  refine PySem.W.methodCall_KW (pl := pl) (thn (he pins s σ H _ I h) fun u s1 ⟨x, H1, I1, rx, a, C, dx, fs, g, ex, ea, c, k, l, q⟩ => ?_) ht
  subst ex
  obtain rfl : u = Value.ref a := rx
  exact getmeth_ok I1 ea c k l (q s1 I1)
end

/-! ### isinstance -/
section
variable {X : Cx} {pins : List (Addr × Obj)} {σ : St} {H : Hp} {s : Shared} {A : Around} {E : Value → Shared → Prop} {Q : Value → Shared → Prop} {c : Value} {b : Bool}
/-- the type of a value, as the fragment's deciders take it; for an instance its class -/
inductive TyOf (K : PySem.W.Frag) (H : Hp) : V → Value → Prop where
  | non : TyOf K H .non (.type "NoneType")
  | bl (x : Bool) : TyOf K H (.bl x) (.type "bool")
  | int (i : Int) : TyOf K H (.int i) (.type "int")
  | str (x : Str) : TyOf K H (.str x) (.type "str")
  | flt (x : UInt64) : TyOf K H (.flt x) (.type "float")
  | lst {a : Addr} {xs : List V} (e : H a = some (.lst xs)) : TyOf K H (.ref a) (.type "list")
  | frz {a : Addr} {o : Obj} {xs : List V} (e : H a = some (.frz o (.lst xs))) : TyOf K H (.ref a) (.type "list")
  | tup {a : Addr} {xs : List V} (e : H a = some (.tup xs)) : TyOf K H (.ref a) (.type "tuple")
  | dK {a : Addr} {kvs : List (Key × V)} (e : H a = some (.dK kvs)) : TyOf K H (.ref a) (.type "dict")
  | dT {a : Addr} {kvs : List (List Key × V)} (e : H a = some (.dT kvs)) : TyOf K H (.ref a) (.type "dict")
  | ins {a C dx : Addr} {fs : List (Str × V)} (e : H a = some (.ins C dx fs)) (cl : Cls K C) (ha : PySem.W.findIn K (.ref C) "__class__" = some (some (.builtin "object.__class__")))
      (hn : PySem.W.specialIn K (.builtin "object.__class__") "__get__" = some (some (.builtin "getset_descriptor.__get__"))) (htk : PySem.W.takesIn K (.builtin "object.__class__") = some true)
      (hm : PySem.W.mroIn K C (.type "object") = some true) : TyOf K H (.ref a) (.ref C)
/-- isinstance(x, c) for one class c, a built-in or an own one: kitOne's answer -/
theorem isinst_ok {x : V} {u t : Value} (I : Inv X pins σ H s) (rx : RelV x u) (ty : TyOf X.K H x t) (e : PySem.W.kitOne X.K t c = some b) (h : ∀ tk, Q (.bool b) { s with toks := tk }) :
    wpAny (model X.prog X.w) A (call (.builtin "isinstance") [u, c]) Q E s := by
  cases ty with
  | non => cases (show u = Value.none from rx); exact PySem.W.kia_one PySem.W.kitx_none I.kIn True.intro e (fun z => nomatch z) h
  | bl y => cases (show u = Value.bool y from rx); exact PySem.W.kia_one PySem.W.kitx_bool I.kIn True.intro e (fun z => nomatch z) h
  | int i => obtain ⟨t, q⟩ := (show ∃ t, u = Value.int i t from rx); cases q; exact PySem.W.kia_one PySem.W.kitx_int I.kIn True.intro e (fun z => nomatch z) h
  | str y => obtain ⟨t, q⟩ := (show ∃ t, u = Value.str y t from rx); cases q; exact PySem.W.kia_one PySem.W.kitx_str I.kIn True.intro e (fun z => nomatch z) h
  | flt y => obtain ⟨t, q⟩ := (show ∃ t, u = Value.float y t from rx); cases q; exact PySem.W.kia_one PySem.W.kitx_float I.kIn True.intro e (fun z => nomatch z) h
  | @lst a xs ea =>
    cases (show u = Value.ref a from rx)
    obtain ⟨_, _, n, _, h1⟩ := (show ObjOk X.prog X.w H s.heap a (.lst xs) from I.hok a _ ea)
    exact PySem.W.kia_one PySem.W.kitx_list I.kIn ⟨_, h1, rfl⟩ e (fun z => nomatch z) h
  | @frz a ob xs ea =>
    cases (show u = Value.ref a from rx)
    obtain ⟨_, _, _, n, _, h1⟩ := (show ObjOk X.prog X.w H s.heap a (.frz ob (.lst xs)) from I.hok a _ ea)
    exact PySem.W.kia_one PySem.W.kitx_list I.kIn ⟨_, h1, rfl⟩ e (fun z => nomatch z) h
  | @tup a xs ea =>
    cases (show u = Value.ref a from rx)
    obtain ⟨_, _, _, p⟩ := (show ObjOk X.prog X.w H s.heap a (.tup xs) from I.hok a _ ea)
    obtain ⟨o, h1, h2, _⟩ := p
    exact PySem.W.kia_one PySem.W.kitx_tuple I.kIn ⟨o, h1, h2⟩ e (fun z => nomatch z) h
  | @dK a kvs ea =>
    cases (show u = Value.ref a from rx)
    obtain ⟨_, _, vs, _, p⟩ := (show ObjOk X.prog X.w H s.heap a (.dK kvs) from I.hok a _ ea)
    obtain ⟨o, es, ep, h1, h2, _⟩ := p
    exact PySem.W.kia_one PySem.W.kitx_dict I.kIn ⟨o, h1, h2.1⟩ e (fun z => nomatch z) h
  | @dT a kvs ea =>
    cases (show u = Value.ref a from rx)
    obtain ⟨_, _, xs, _, o, es, ep, h1, h2, _⟩ := (show ObjOk X.prog X.w H s.heap a (.dT kvs) from I.hok a _ ea)
    exact PySem.W.kia_one PySem.W.kitx_dict I.kIn ⟨o, h1, h2.1⟩ e (fun z => nomatch z) h
  | @ins a C dx fs ea cl ha hn htk hm =>
    cases (show u = Value.ref a from rx)
    obtain ⟨mA, O, _⟩ := ins_get I.hok ea
    obtain ⟨od, J, _⟩ := O.look
    exact PySem.W.kia_one (PySem.W.kitx_own (cl.get _) cl.hd ha hn htk hm) I.kIn J e (fun z => nomatch z) h
end
end L2

namespace L2
open PySem PySem.Spec PyProof.Rows

/-! ### room -/
structure Room (k : Nat) (A : Around) : Prop where
  hd : A.handled = none
  dp : A.depth + 3 * k + 5 < recursionLimit
  un : A.units + 16 * k + 200 < cLine
theorem Room.mono {j k : Nat} {A : Around} (r : Room k A) (h : j ≤ k) : Room j A := ⟨r.hd, by have := r.dp; omega, by have := r.un; omega⟩
theorem Room.deeper {k : Nat} {A : Around} (r : Room (k + 1) A) (env : Env) : Room k (A.deeper env) :=
  ⟨r.hd, by have := r.dp; show A.depth + 1 + 3 * k + 5 < _; omega, by have := r.un; show A.units + 3 + 16 * k + 200 < _; omega⟩
theorem Room.in1 {k : Nat} {A : Around} (r : Room (k + 1) A) : Room k A.in1 :=
  ⟨r.hd, by have := r.dp; show A.depth + 3 * k + 5 < _; omega, by have := r.un; show A.units + 1 + 16 * k + 200 < _; omega⟩
theorem make_depth {A : Around} {C : Addr} {us : List Value} {kw : List (Str × Value)} : (A.under (.builtin "type.__call__" ⟨.ref C :: us, kw⟩)).depth = A.depth + 1 := by
  first | rfl | simp [Around.under, Code.weight, Code.isCreation, Code.isGuard, Code.isCaller, Code.frames, Code.isFrame, guardIds]
theorem make_units {A : Around} {C : Addr} {us : List Value} {kw : List (Str × Value)} : (A.under (.builtin "type.__call__" ⟨.ref C :: us, kw⟩)).units = A.units + 1 := by
  first | rfl | simp [Around.under, Code.cUnits, Code.frames, Code.isFrame]
theorem Room.make {k : Nat} {A : Around} (r : Room (k + 1) A) (C : Addr) (us : List Value) (kw : List (Str × Value)) : Room k (A.under (.builtin "type.__call__" ⟨.ref C :: us, kw⟩)) :=
  ⟨r.hd, by have := r.dp; rw [make_depth]; omega, by have := r.un; rw [make_units]; omega⟩
theorem Room.depth {k : Nat} {A : Around} (r : Room k A) : A.depth < recursionLimit := by have := r.dp; omega
theorem Room.units {k : Nat} {A : Around} (r : Room k A) : A.units + 64 < cLine := by have := r.un; omega
theorem Room.units0 {k : Nat} {A : Around} (r : Room k A) : A.units < cLine := by have := r.un; omega

/-! ### argument lists and displays -/
def tNil : TA := fun _ H Q => Q [] H
def tCons (ta : TE) (tr : TA) : TA := fun σ H Q => ta σ H fun x H1 => tr σ H1 fun xs H2 => Q (x :: xs) H2
section
variable {X : Cx} {e : Expr} {es : List Expr} {te : TE} {t : TA} {pos : Pos}
theorem pa_nil : PA X [] tNil := fun _ _ _ _ H Q I h => Calls.spliced_nil ⟨[], H, I, .nil, h⟩
theorem pa_cons (ha : PE X e te) (hr : PA X es t) (hs : starEach (e :: es) X.env = (false, eval e X.env) :: starEach es X.env := by rfl) : PA X (e :: es) (tCons te t) := by
  intro pos pins s σ H Q I h
  rw [hs]
  show wpAny _ _ (spliced ((false, eval e X.env) :: backTo pos (starEach es X.env))) _ _ s
  refine Calls.spliced_cons (thn (ha pins s σ H _ I h) fun u s1 ⟨x, H1, I1, r1, q1⟩ => ?_)
  exact thn (hr pos pins s1 σ H1 _ I1 q1) fun us s2 ⟨xs, H2, I2, r2, q2⟩ => ⟨x :: xs, H2, I2, .cons r1 r2, q2⟩

/-- a tuple, a list of written items -/
def tTup (t : TA) : TE := fun σ H Q => t σ H fun xs H1 => xs.length ≤ sizeLine ∧ ∀ p, H1 p = none → Q (.ref p) (upd H1 p (.tup xs))
def tLst (t : TA) : TE := fun σ H Q => t σ H fun xs H1 => xs.length ≤ sizeLine ∧ ∀ p, H1 p = none → Q (.ref p) (upd H1 p (.lst xs))
theorem pe_tup {x1} (h : PA X es t) : PE X (.Tuple es x1 pos) (tTup t) := by
  intro pins s σ H Q I hq
  refine wpAny_Tuple_spliced (thn (h pos pins s σ H _ I hq) fun us s1 ⟨xs, H1, I1, r, z, q⟩ => ⟨by rw [← r.length]; exact z, ?_⟩)
  have hf : H1 s1.heap.objs.size = none := I1.hok.fresh (Nat.le_refl _)
  refine ⟨.ref s1.heap.objs.size, upd H1 s1.heap.objs.size (.tup xs), I1.laid (t' := s1.toks) (fun b u e => Heap.get?_push_of_some _ e) (Nat.le_refl _) ?_, rfl, q _ hf⟩
  exact ⟨z, us, r, ⟨_, Heap.get?_push_size _ rfl, rfl, _, rfl⟩⟩
theorem pe_lst (h : PA X es t) : PE X (.List es pos) (tLst t) := by
  intro pins s σ H Q I hq
  refine wpAny_List_spliced (thn (h pos pins s σ H _ I hq) fun us s1 ⟨xs, H1, I1, r, z, q⟩ => ⟨by rw [← r.length]; exact z, ?_⟩)
  have hf : H1 s1.heap.objs.size = none := I1.hok.fresh (Nat.le_refl _)
  refine ⟨.ref s1.heap.objs.size, upd H1 s1.heap.objs.size (.lst xs), I1.laid (t' := s1.toks) (fun b u e => Heap.get?_push_of_some _ e) (Nat.le_refl _) ?_, rfl, q _ hf⟩
  exact ⟨z, us, 0, r, Heap.get?_push_size _ rfl⟩
end

/-! ### what a def promises -/
/-- a def's promise: the bound arguments in the parameters' order, the heap, the wanted end, the wanted exception -/
abbrev Sp := List V → Hp → VK → XK → Prop
/-- how an exception lies behind a call (file 08 gives it): the callers' frames, abstract heap and state ahead of the call, the wish, the exception, the state -/
abbrev CXT := List Env → Hp → Shared → XK → Value → Shared → Prop

/-- the state at a call -/
structure Env0 (P : Program) (w : World) (K : PySem.W.Frag) (mg : Str → Option Value) (base : Heap) (A : Around) (outer : List Env) (s : Shared) (H : Hp) : Prop where
  frames : A.frames = some outer
  mod : Mod K mg base
  bs : ∀ b o, base.get? b = some o → s.heap.get? b = some o ∧ H b = none
  bsz : base.objs.size ≤ s.heap.objs.size
  funs : s.heap.FunFrames base outer
  frf : ∀ b ∈ frs outer, H b = none
  hok : HOk P w H s.heap
  bare : AllBare s.gens
/-- a call's end -/
def CE (outer : List Env) (P : Program) (w : World) (H : Hp) (s : Shared) (Q : VK) (u : Value) (s' : Shared) : Prop :=
  ∃ v H', s'.os = s.os ∧ AllBare s'.gens ∧ Un (frs outer) [] H H' s.heap s'.heap ∧ HOk P w H' s'.heap ∧ RelV v u ∧ Q v H'
def CR (CX : CXT) (outer : List Env) (P : Program) (w : World) (H : Hp) (s : Shared) (Q : VK) (E : XK) (r : Result) (s' : Shared) : Prop :=
  match r with
  | .ok (.ret u) => CE outer P w H s Q u s'
  | .ok _ => False
  | .error e => CX outer H s E e s'
structure FnOk (P : Program) (w : World) (K : PySem.W.Frag) (mg : Str → Option Value) (base : Heap) (CX : CXT) (k : Nat) (f : Addr) (fd : FuncData) (ps : List Str) (sp : Sp) : Prop where
  len : ∀ vs H Q E, sp vs H Q E → vs.length = ps.length
  run : ∀ (A : Around) (outer : List Env) (s : Shared) (H : Hp) (args : Args) (us : List Value) (vs : List V) (Q : VK) (E : XK), Room k A → Env0 P w K mg base A outer s H → BindsTo s fd args (ps.zip us) → Vals vs us → sp vs H Q E →
    codeAny (model P w) A (.call (.ref f) args) (CR CX outer P w H s Q E) s
theorem FnOk.mono {P : Program} {w : World} {K : PySem.W.Frag} {mg : Str → Option Value} {base : Heap} {CX : CXT} {j k : Nat} {f : Addr} {fd : FuncData} {ps : List Str} {sp : Sp} (F : FnOk P w K mg base CX j f fd ps sp) (h : j ≤ k) :
    FnOk P w K mg base CX k f fd ps sp := ⟨F.len, fun A outer s H args us vs Q E hr => F.run A outer s H args us vs Q E (hr.mono h)⟩
/-- a weaker promise -/
theorem FnOk.imp {P : Program} {w : World} {K : PySem.W.Frag} {mg : Str → Option Value} {base : Heap} {CX : CXT} {k : Nat} {f : Addr} {fd : FuncData} {ps : List Str} {sp sp' : Sp} (F : FnOk P w K mg base CX k f fd ps sp)
    (h : ∀ vs H Q E, sp' vs H Q E → sp vs H Q E) : FnOk P w K mg base CX k f fd ps sp' :=
  ⟨fun vs H Q E q => F.len vs H Q E (h _ _ _ _ q), fun A outer s H args us vs Q E hr he hb hv hs => F.run A outer s H args us vs Q E hr he hb hv (h _ _ _ _ hs)⟩

theorem Env0.make {P : Program} {w : World} {K : PySem.W.Frag} {mg : Str → Option Value} {base : Heap} {A : Around} {outer : List Env} {s : Shared} {H : Hp} (e : Env0 P w K mg base A outer s H) (C : Addr) (us : List Value) (kw : List (Str × Value)) :
    Env0 P w K mg base (A.under (.builtin "type.__call__" ⟨.ref C :: us, kw⟩)) outer s H := ⟨by first | exact e.frames | (simpa [Around.under, Code.envs, Code.isFrame, pushEnvs] using e.frames), e.mod, e.bs, e.bsz, e.funs, e.frf, e.hok, e.bare⟩
theorem Env0.in1 {P : Program} {w : World} {K : PySem.W.Frag} {mg : Str → Option Value} {base : Heap} {A : Around} {outer : List Env} {s : Shared} {H : Hp} (e : Env0 P w K mg base A outer s H) :
    Env0 P w K mg base A.in1 outer s H := ⟨e.frames, e.mod, e.bs, e.bsz, e.funs, e.frf, e.hok, e.bare⟩

section
variable {X : Cx} {pins : List (Addr × Obj)} {σ : St} {H : Hp} {s s' : Shared}
/-- from a body: what a callee wants -/
theorem Inv.env0 (I : Inv X pins σ H s) : Env0 X.prog X.w X.K X.mg X.base X.A X.stack s H :=
  ⟨I.ok.frames, I.ok.mod, I.bs, Nat.le_trans I.ok.bsz I.sz, I.stack, I.stkFree, I.hok, I.bare⟩
/-- behind a call -/
theorem Inv.after {Q : VK} {u : Value} (I : Inv X pins σ H s) (h : CE X.stack X.prog X.w H s Q u s') : EP X pins σ Q u s' := by
  obtain ⟨v, H', os, bare, un, hok, r, q⟩ := h
  obtain ⟨hh, g, d, t, os'⟩ := s'
  obtain rfl : os' = s.os := os
  exact ⟨v, H', I.call (h' := hh) (g' := g) (d' := d) (t' := t) (ch := []) un hok bare (fun b z => absurd z (by simp)), r, q⟩
end

/-! ### calls -/
/-- f(..): the written arguments, then the defaults dvs; E: what is wanted of an exception -/
def tCall (sp : Sp) (dvs : List V) (E : XK) (t : TA) : TE := fun σ H Q => t σ H fun vs H1 => sp (vs ++ dvs) H1 Q E
/-- o.m(..) of an instance of the class at C -/
def tMeth (C : Addr) (m : Str) (sp : Sp) (dvs : List V) (E : XK) (ta : TE) (t : TA) : TE := fun σ H Q => ta σ H fun x H1 => ∃ a dx fs, x = .ref a ∧ H1 a = some (.ins C dx fs) ∧ fs.lookup m = none ∧
  t σ H1 fun vs H2 => sp (x :: (vs ++ dvs)) H2 Q E
/-- C(..): a new instance and its dict, then __init__ -/
def tMake (C : Addr) (sp : Sp) (dvs : List V) (E : XK) (t : TA) : TE := fun σ H Q => t σ H fun vs H1 => ∀ x dx, H1 x = none → H1 dx = none → dx ≠ x →
  sp (.ref x :: (vs ++ dvs)) (upd (upd H1 dx (.own x)) x (.ins C dx [])) (fun v H2 => v = .non ∧ Q (.ref x) H2) E

/-- how the parameters are bound: us the positional arguments, kw the keywords' values by name, ds the defaults that fill up -/
def Binds (K : PySem.W.Frag) (fd : FuncData) (ps : List Str) (ds : List Value) : Prop :=
  ∀ (s : Shared) (us : List Value), K.In s.heap → (us ++ ds).length = ps.length → BindsTo s fd ⟨us, []⟩ (ps.zip (us ++ ds))
/-- every parameter is given -/
theorem Binds.all {K : PySem.W.Frag} {fd : FuncData} {ps : List Str} (h : ∀ us : List Value, us.length = ps.length → bindArgs fd ⟨us, []⟩ = pure (ps.zip us)) : Binds K fd ps [] := fun s us _ hl => by
  rw [List.append_nil] at hl ⊢
  exact .of_eq (h us hl)

/-- an exception of a callee reaches what this body wants of exceptions -/
def Passes (CX : CXT) (X : Cx) (E : XK) : Prop := ∀ (pins : List (Addr × Obj)) (σ : St) (H : Hp) (s : Shared) (e : Value) (s' : Shared), Inv X pins σ H s → CX X.stack H s E e s' → X.xe e s'

section
variable {X : Cx} {CX : CXT} {k : Nat} {f C : Addr} {fd : FuncData} {ps : List Str} {sp : Sp} {dvs : List V} {ds : List Value} {E : XK} {x m : Str} {p pos apos : Pos} {e o : Expr} {es : List Expr} {ta : TE} {t : TA}

/-- the callee runs -/
theorem run_fn {pins : List (Addr × Obj)} {σ : St} {H : Hp} {s : Shared} {Q : VK} {us : List Value} {vs : List V} (F : FnOk X.prog X.w X.K X.mg X.base CX k f fd ps sp) (hr : Room k X.A) (hb : Binds X.K fd ps ds) (hd : Vals dvs ds) (hx : Passes CX X E)
    (I : Inv X pins σ H s) (r : Vals vs us) (h : sp (vs ++ dvs) H Q E) : wpAny (model X.prog X.w) X.A (call (.ref f) us) (EP X pins σ Q) X.xe s := by
  have r2 : Vals (vs ++ dvs) (us ++ ds) := r.append hd
  have hl : (us ++ ds).length = ps.length := by rw [← r2.length]; exact F.len _ _ _ _ h
  refine wpAny_call (codeAny_mono (F.run X.A X.stack s H ⟨us, []⟩ (us ++ ds) (vs ++ dvs) Q E hr I.env0 (hb s us I.kIn hl) r2 h) fun r s' hq => ?_)
  cases r with
  | error e => exact hx pins σ H s e s' I hq
  | ok fl =>
    cases fl with
    | ret u => exact I.after hq
    | next => exact False.elim hq
    | brk => exact False.elim hq
    | cont => exact False.elim hq

theorem pe_call (F : FnOk X.prog X.w X.K X.mg X.base CX k f fd ps sp) (hr : Room k X.A) (hg : Gl X x) (hm : X.mg x = some (.ref f)) (hk : PySem.W.keepIn X.K (.ref f) = true) (hb : Binds X.K fd ps ds) (hd : Vals dvs ds) (hx : Passes CX X E)
    (ha : PA X (e :: es) t) (hdb : (x == ("__debug__" : Str)) = false := by decide) (he : starEach (e :: es) X.env = (false, eval e X.env) :: starEach es X.env := by rfl) (hpl : (backTo pos (starEach es X.env)).any (·.1) = false := by rfl) :
    PE X (.Call (.Name x p) (e :: es) [] pos) (tCall sp dvs E t) := by
  intro pins s σ H Q I h
  refine wpAny_Call_Name_kw (ld_glob I hg hm ?_ hdb)
  refine PySem.W.callWith_K (h₀ := X.base) I.ok.mod.kin hk (thn (ha pos pins s σ H _ I h) fun us s1 ⟨vs, H1, I1, r, q⟩ => ⟨I1.kIn, ?_⟩) he hpl
  exact run_fn F hr hb hd hx I1 r q
theorem pe_call0 (F : FnOk X.prog X.w X.K X.mg X.base CX k f fd ps sp) (hr : Room k X.A) (hg : Gl X x) (hm : X.mg x = some (.ref f)) (hk : PySem.W.keepIn X.K (.ref f) = true) (hb : Binds X.K fd ps ds) (hd : Vals dvs ds) (hx : Passes CX X E)
    (hdb : (x == ("__debug__" : Str)) = false := by decide) : PE X (.Call (.Name x p) [] [] pos) (tCall sp dvs E tNil) := by
  intro pins s σ H Q I h
  refine wpAny_Call_Name_kw (ld_glob I hg hm ?_ hdb)
  exact PySem.W.callWith_K0 I.kIn hk (run_fn (us := []) F hr hb hd hx I .nil h)

/-- o.m(e, ..) -/
theorem pe_meth {pl : Sem Bool} (he : PE X o ta) (c : Cls X.K C) (hm : Meth X.K C m f) (F : FnOk X.prog X.w X.K X.mg X.base CX k f fd ps sp) (hr : Room k X.A) (hb : Binds X.K fd ps ds) (hd : Vals dvs ds) (hx : Passes CX X E) (ha : PA X (e :: es) t)
    (hst : starEach (e :: es) X.env = (false, eval e X.env) :: starEach es X.env := by rfl) (hpl : (backTo pos (starEach es X.env)).any (·.1) = false := by rfl)
    (ht : eval (.Call (.Attribute o m apos) (e :: es) [] pos) X.env = (do
      let ov ← eval o X.env
      standAt apos.atName
      let (f, first) ← holding [ov] (getMethod ov m pl)
      callWith pos f first (backTo pos (starEach (e :: es) X.env)) (backToKw pos (keywordEach [] X.env))) := by rfl) :
    PE X (.Call (.Attribute o m apos) (e :: es) [] pos) (tMeth C m sp dvs E ta t) := by
  intro pins s σ H Q I h
  refine PySem.W.methodCall_KW (pl := pl) (thn (he pins s σ H _ I h) fun u s1 ⟨x, H1, I1, rx, a, dx, fs, ex, ea, l, q⟩ => ?_) ht
  subst ex
  obtain rfl : u = Value.ref a := rx
  refine getmeth_ok I1 ea c hm l ?_
  refine PySem.W.callWith_K (first := [.ref a]) (h₀ := X.base) I.ok.mod.kin hm.kp (thn (ha pos pins s1 σ H1 _ I1 q) fun us s2 ⟨vs, H2, I2, r, q2⟩ => ⟨I2.kIn, ?_⟩) hst hpl
  exact run_fn (us := .ref a :: us) (vs := .ref a :: vs) F hr hb hd hx I2 (.cons rfl r) q2
/-- o.m() -/
theorem pe_meth0 {pl : Sem Bool} (he : PE X o ta) (c : Cls X.K C) (hm : Meth X.K C m f) (F : FnOk X.prog X.w X.K X.mg X.base CX k f fd ps sp) (hr : Room k X.A) (hb : Binds X.K fd ps ds) (hd : Vals dvs ds) (hx : Passes CX X E)
    (ht : eval (.Call (.Attribute o m apos) [] [] pos) X.env = (do
      let ov ← eval o X.env
      standAt apos.atName
      let (f, first) ← holding [ov] (getMethod ov m pl)
      callWith pos f first (backTo pos (starEach [] X.env)) (backToKw pos (keywordEach [] X.env))) := by rfl) :
    PE X (.Call (.Attribute o m apos) [] [] pos) (tMeth C m sp dvs E ta tNil) := by
  intro pins s σ H Q I h
  refine PySem.W.methodCall_KW (pl := pl) (thn (he pins s σ H _ I h) fun u s1 ⟨x, H1, I1, rx, a, dx, fs, ex, ea, l, q⟩ => ?_) ht
  subst ex
  obtain rfl : u = Value.ref a := rx
  refine getmeth_ok I1 ea c hm l ?_
  exact PySem.W.callWith_K0 (first := [.ref a]) I1.kIn hm.kp (run_fn (us := [.ref a]) (vs := [.ref a]) F hr hb hd hx I1 (.cons rfl .nil) q)

/-- what a class must have to be made -/
structure Mk (K : PySem.W.Frag) (C f : Addr) : Prop where
  makes : PySem.W.makesIn K C = true
  init : PySem.W.findIn K (.ref C) "__init__" = some (some (.ref f))
  fn : PySem.W.isFn K (.ref f) = true
  kp : PySem.W.keepIn K (.ref C) = true

theorem run_make {pins : List (Addr × Obj)} {σ : St} {H : Hp} {s : Shared} {Q : VK} {us : List Value} {vs : List V} (M : Mk X.K C f) (F : FnOk X.prog X.w X.K X.mg X.base CX k f fd ps sp) (hr : Room (k + 1) X.A) (hb : Binds X.K fd ps ds) (hd : Vals dvs ds)
    (hx : Passes CX X E) (I : Inv X pins σ H s) (r : Vals vs us)
    (h : ∀ x dx, H x = none → H dx = none → dx ≠ x → sp (.ref x :: (vs ++ dvs)) (upd (upd H dx (.own x)) x (.ins C dx [])) (fun v H2 => v = .non ∧ Q (.ref x) H2) E) :
    wpAny (model X.prog X.w) X.A (call (.ref C) us) (EP X pins σ Q) X.xe s := by
  have hq := h (s.heap.objs.size + 1) s.heap.objs.size (I.hok.fresh (Nat.le_succ _)) (I.hok.fresh (Nat.le_refl _)) (Nat.ne_of_lt (Nat.lt_succ_self _))
  have I2 := Inv.made (C := C) I
  have r2 : Vals (V.ref (s.heap.objs.size + 1) :: (vs ++ dvs)) (Value.ref (s.heap.objs.size + 1) :: (us ++ ds)) := .cons rfl (r.append hd)
  have hl : (Value.ref (s.heap.objs.size + 1) :: us ++ ds).length = ps.length := by
    have e := r2.length
    rw [F.len _ _ _ _ hq] at e
    exact e.symm
  refine wpAny_call (make_map (f := f) I.kIn M.makes M.init (beq_iff_eq.mp M.fn) (codeAny_mono (F.run _ X.stack _ _ ⟨Value.ref (s.heap.objs.size + 1) :: us, []⟩ (Value.ref (s.heap.objs.size + 1) :: (us ++ ds)) _ _ E (hr.make C us [])
    (I2.env0.make C us []) (hb _ (Value.ref (s.heap.objs.size + 1) :: us) I2.kIn hl) r2 hq) fun r s' hq' => ?_))
  cases r with
  | error e => exact hx pins σ _ _ e s' I2 hq'
  | ok fl =>
    cases fl with
    | ret u =>
      obtain ⟨v, H', I3, rv, ev, q3⟩ := I2.after hq'
      subst ev
      exact ⟨rv, ⟨V.ref (s.heap.objs.size + 1), H', I3, rfl, q3⟩⟩
    | next => exact False.elim hq'
    | brk => exact False.elim hq'
    | cont => exact False.elim hq'
theorem pe_make (M : Mk X.K C f) (F : FnOk X.prog X.w X.K X.mg X.base CX k f fd ps sp) (hr : Room (k + 1) X.A) (hg : Gl X x) (hm : X.mg x = some (.ref C)) (hb : Binds X.K fd ps ds) (hd : Vals dvs ds) (hx : Passes CX X E)
    (ha : PA X (e :: es) t) (hdb : (x == ("__debug__" : Str)) = false := by decide) (he : starEach (e :: es) X.env = (false, eval e X.env) :: starEach es X.env := by rfl) (hpl : (backTo pos (starEach es X.env)).any (·.1) = false := by rfl) :
    PE X (.Call (.Name x p) (e :: es) [] pos) (tMake C sp dvs E t) := by
  intro pins s σ H Q I h
  refine wpAny_Call_Name_kw (ld_glob I hg hm ?_ hdb)
  refine PySem.W.callWith_K (h₀ := X.base) I.ok.mod.kin M.kp (thn (ha pos pins s σ H _ I h) fun us s1 ⟨vs, H1, I1, r, q⟩ => ⟨I1.kIn, ?_⟩) he hpl
  exact run_make M F hr hb hd hx I1 r q
theorem pe_make0 (M : Mk X.K C f) (F : FnOk X.prog X.w X.K X.mg X.base CX k f fd ps sp) (hr : Room (k + 1) X.A) (hg : Gl X x) (hm : X.mg x = some (.ref C)) (hb : Binds X.K fd ps ds) (hd : Vals dvs ds) (hx : Passes CX X E)
    (hdb : (x == ("__debug__" : Str)) = false := by decide) : PE X (.Call (.Name x p) [] [] pos) (tMake C sp dvs E tNil) := by
  intro pins s σ H Q I h
  refine wpAny_Call_Name_kw (ld_glob I hg hm ?_ hdb)
  exact PySem.W.callWith_K0 I.kIn M.kp (run_make (us := []) M F hr hb hd hx I .nil h)
end

/-! ### keywords -/
/-- the values of the keywords, from the left -/
def PK (X : Cx) (kws : List Keyword) (t : TA) : Prop :=
  ∀ (pos : Pos) (pins : List (Addr × Obj)) (s : Shared) (σ : St) (H : Hp) (Q : List V → Hp → Prop), Inv X pins σ H s → t σ H Q → wpAny (model X.prog X.w) X.A (evalAll ((backToKw pos (keywordEach kws X.env)).map (·.2))) (AP X pins σ Q) X.xe s
section
variable {X : Cx} {CX : CXT} {k : Nat} {f C : Addr} {fd : FuncData} {ps ks : List Str} {sp : Sp} {E : XK} {x m : Str} {p pos apos kpos : Pos} {e o : Expr} {es : List Expr} {kws : List Keyword} {te ta : TE} {t tk : TA} {nm : Option Str}
theorem pk_nil : PK X [] tNil := fun _ _ _ _ H Q I h => wpAny_evalAll_nil ⟨[], H, I, .nil, h⟩
theorem pk_cons (ha : PE X e te) (hr : PK X kws t) : PK X (⟨nm, e, kpos⟩ :: kws) (tCons te t) := by
  intro pos pins s σ H Q I h
  show wpAny _ _ (evalAll ((do let v ← eval e X.env; standAt pos; pure v) :: (backToKw pos (keywordEach kws X.env)).map (·.2))) _ _ s
  refine wpAny_evalAll_cons (wpAny_bind (thn (ha pins s σ H _ I h) fun u s1 ⟨x, H1, I1, r1, q1⟩ => wpAny_bind (wpAny_standAt (wpAny_pure ?_))))
  exact thn (hr pos pins s1 σ H1 _ I1 q1) fun us s2 ⟨xs, H2, I2, r2, q2⟩ => ⟨x :: xs, H2, I2, .cons r1 r2, q2⟩

/-- how a call with keywords binds: g puts the positional values us and the keywords' values ws (names ks) in the parameters' order, defaults among them -/
structure KBinds (K : PySem.W.Frag) (fd : FuncData) (ps ks : List Str) (g : List Value → List Value → List Value) (gV : List V → List V → List V) : Prop where
  to : ∀ (s : Shared) (us ws : List Value), K.In s.heap → (g us ws).length = ps.length → BindsTo s fd ⟨us, ks.zip ws⟩ (ps.zip (g us ws))
  rel : ∀ {vs : List V} {us : List Value} {zs : List V} {ws : List Value}, Vals vs us → Vals zs ws → Vals (gV vs zs) (g us ws)
def tCallK (sp : Sp) (gV : List V → List V → List V) (E : XK) (t tk : TA) : TE := fun σ H Q => t σ H fun vs H1 => tk σ H1 fun zs H2 => sp (gV vs zs) H2 Q E
variable {g : List Value → List Value → List Value} {gV : List V → List V → List V}
theorem run_fnk {pins : List (Addr × Obj)} {σ : St} {H : Hp} {s : Shared} {Q : VK} {us ws : List Value} {vs zs : List V} (F : FnOk X.prog X.w X.K X.mg X.base CX k f fd ps sp) (hr : Room k X.A) (hb : KBinds X.K fd ps ks g gV) (hx : Passes CX X E)
    (I : Inv X pins σ H s) (r : Vals vs us) (rz : Vals zs ws) (h : sp (gV vs zs) H Q E) : wpAny (model X.prog X.w) X.A (call (.ref f) us (ks.zip ws)) (EP X pins σ Q) X.xe s := by
  have r2 := hb.rel r rz
  have hl : (g us ws).length = ps.length := by rw [← r2.length]; exact F.len _ _ _ _ h
  refine wpAny_call (codeAny_mono (F.run X.A X.stack s H ⟨us, ks.zip ws⟩ (g us ws) (gV vs zs) Q E hr I.env0 (hb.to s us ws I.kIn hl) r2 h) fun r s' hq => ?_)
  cases r with
  | error e => exact hx pins σ H s e s' I hq
  | ok fl =>
    cases fl with
    | ret u => exact I.after hq
    | next => exact False.elim hq
    | brk => exact False.elim hq
    | cont => exact False.elim hq
/-- f(e, .., k = v, ..) -/
theorem pe_callK (F : FnOk X.prog X.w X.K X.mg X.base CX k f fd ps sp) (hr : Room k X.A) (hg : Gl X x) (hm : X.mg x = some (.ref f)) (hk : PySem.W.keepIn X.K (.ref f) = true) (hb : KBinds X.K fd ps ks g gV) (hx : Passes CX X E)
    (ha : PA X (e :: es) t) (hkw : PK X kws tk) (hall : (backToKw pos (keywordEach kws X.env)).all (·.1.isSome) = true := by rfl) (hks : (backToKw pos (keywordEach kws X.env)).filterMap (·.1) = ks := by rfl)
    (hdb : (x == ("__debug__" : Str)) = false := by decide) (he : starEach (e :: es) X.env = (false, eval e X.env) :: starEach es X.env := by rfl)
    (hpl : ((backTo pos (starEach (e :: es) X.env)).any (·.1) || (backToKw pos (keywordEach kws X.env)).any (·.1.isNone)) = false := by rfl) :
    PE X (.Call (.Name x p) (e :: es) kws pos) (tCallK sp gV E t tk) := by
  intro pins s σ H Q I h
  refine wpAny_Call_Name_kw (ld_glob I hg hm ?_ hdb)
  refine PySem.W.callWith_KW (h₀ := X.base) I.ok.mod.kin hk hall (thn (ha pos pins s σ H _ I h) fun us s1 ⟨vs, H1, I1, r, q⟩ => ?_) hpl he
  refine thn (hkw pos pins s1 σ H1 _ I1 q) fun ws s2 ⟨zs, H2, I2, rz, q2⟩ => ⟨I2.kIn, ?_⟩
  rw [hks]
  exact run_fnk F hr hb hx I2 r rz q2
end

/-! ### a def's body keeps its promise -/
/-- names: the parameters first -/
structure FnScope (N P : List Str) (sc : Scope) : Prop where
  kind : sc.kind = .function
  co : sc.isCoroutine = false
  gen : sc.isGenerator = false
  nd : N.Nodup
  pre : N.take P.length = P
  par : ∀ x ∈ P, sc.names.lookup x = some .local ∨ sc.names.lookup x = some .cell
  nofree : ∀ y ∈ sc.names, y.2 ≠ .free

theorem bindL_out {kindOf : Str → Option NameKind} {x : Str} : ∀ {binds : List (Str × Value)} {m : Str → Option Value}, (∀ v, (x, v) ∉ binds) → bindL kindOf binds m x = m x
  | [], _, _ => rfl
  | (n, v) :: r, m, h => by
    unfold bindL
    rw [bindL_out fun w hw => h w (List.mem_cons_of_mem _ hw)]
    split
    · have : x ≠ n := by rintro rfl; exact h v List.mem_cons_self
      simp [this]
    · rfl
theorem bindC_out {kindOf : Str → Option NameKind} {x : Str} : ∀ {binds : List (Str × Value)} {m : Str → Option Value}, (∀ v, (x, v) ∉ binds) → bindC kindOf binds m x = m x
  | [], _, _ => rfl
  | (n, v) :: r, m, h => by
    unfold bindC
    rw [bindC_out fun w hw => h w (List.mem_cons_of_mem _ hw)]
    split
    · rfl
    · have : x ≠ n := by rintro rfl; exact h v List.mem_cons_self
      simp [this]
theorem bindL_get {kindOf : Str → Option NameKind} {x : Str} {v : Value} : ∀ {P : List Str} {vs : List Value} {i : Nat} {m : Str → Option Value}, P.Nodup → P[i]? = some x → vs[i]? = some v → kindOf x = some .local →
    bindL kindOf (P.zip vs) m x = some v
  | [], _, _, _, _, h, _, _ => by simp at h
  | _ :: _, [], _, _, _, _, h, _ => by simp at h
  | p :: P, w :: vs, 0, m, nd, h1, h2, hk => by
    simp at h1 h2; subst h1; subst h2
    show bindL kindOf ((p, w) :: P.zip vs) m p = _
    unfold bindL
    rw [bindL_out fun v hv => (List.nodup_cons.mp nd).1 (List.of_mem_zip hv).1, if_pos hk]
    simp
  | p :: P, w :: vs, i + 1, m, nd, h1, h2, hk => by
    show bindL kindOf ((p, w) :: P.zip vs) m x = _
    unfold bindL
    exact bindL_get (i := i) (List.nodup_cons.mp nd).2 (by simpa using h1) (by simpa using h2) hk
theorem bindC_get {kindOf : Str → Option NameKind} {x : Str} {v : Value} : ∀ {P : List Str} {vs : List Value} {i : Nat} {m : Str → Option Value}, P.Nodup → P[i]? = some x → vs[i]? = some v → kindOf x ≠ some .local →
    bindC kindOf (P.zip vs) m x = some v
  | [], _, _, _, _, h, _, _ => by simp at h
  | _ :: _, [], _, _, _, _, h, _ => by simp at h
  | p :: P, w :: vs, 0, m, nd, h1, h2, hk => by
    simp at h1 h2; subst h1; subst h2
    show bindC kindOf ((p, w) :: P.zip vs) m p = _
    unfold bindC
    rw [bindC_out fun v hv => (List.nodup_cons.mp nd).1 (List.of_mem_zip hv).1, if_neg hk]
    simp
  | p :: P, w :: vs, i + 1, m, nd, h1, h2, hk => by
    show bindC kindOf ((p, w) :: P.zip vs) m x = _
    unfold bindC
    exact bindC_get (i := i) (List.nodup_cons.mp nd).2 (by simpa using h1) (by simpa using h2) hk

/-- the names' values at the entry -/
def start (N : List Str) (vs : List V) : St := vs.map some ++ List.replicate (N.length - vs.length) none

/-- the context of a def's body, at its entry; an exception leaves the frame, then lies as CX says -/
def cxOf (CX : CXT) (P : Program) (w : World) (K : PySem.W.Frag) (mg : Str → Option Value) (base : Heap) (N : List Str) (qual : Str) (scope : Scope) (f : Addr) (cd : Value) (A : Around) (outer : List Env) (s : Shared) (H : Hp) (E : XK) : Cx where
  prog := P
  w := w
  K := K
  mg := mg
  base := base
  A := A.deeper (envOfC qual scope s.heap.objs.size f cd)
  N := N
  s₀ := s
  H₀ := H
  env := envOfC qual scope s.heap.objs.size f cd
  outer := outer
  stack := envOfC qual scope s.heap.objs.size f cd :: outer
  ex := []
  calm := true
  fn := fun _ => true
  pn := []
  xe := fun e s' => wpAny (model P w) (A.deeper (envOfC qual scope s.heap.objs.size f cd)) (leaving (envOfC qual scope s.heap.objs.size f cd) e) (fun _ s'' => CX outer H s E e s'') (fun e' s'' => CX outer H s E e' s'') s'

theorem cell_has {sc : Scope} {n : Nat} {x : Str} (h : sc.names.lookup x = some .cell) : ∃ c, (cellsFrom n sc.names []).lookup x = some c := by
  have q := PySem.W.cellsFrom_some sc.names n [] (.inl h)
  exact Option.isSome_iff_exists.mp q

theorem inv_start {CX : CXT} {P : Program} {w : World} {K : PySem.W.Frag} {mg : Str → Option Value} {base : Heap} {N ps : List Str} {qual : Str} {scope : Scope} {f : Addr} {cd : Value} {A : Around} {outer : List Env} {s s1 : Shared} {H : Hp} {E : XK} {us : List Value} {vs : List V}
    (S : FnScope N ps scope) (hd : A.handled = none) (e0 : Env0 P w K mg base A outer s H) (hl : vs.length = ps.length) (r : Vals vs us)
    (x : InCallC s s.heap.objs.size (bindL (envOfC qual scope s.heap.objs.size f cd).kindOf (ps.zip us) fun _ => none) (cellsFrom (s.heap.objs.size + 1) scope.names []) (bindC (envOfC qual scope s.heap.objs.size f cd).kindOf (ps.zip us) fun _ => none) s1) :
    Inv (cxOf CX P w K mg base N qual scope f cd A outer s H E) [] (start N vs) H s1 := by
  have hpl : ps.length ≤ N.length := by have := congrArg List.length S.pre; rw [List.length_take] at this; omega
  obtain ⟨h1, tk, rfl, hk⟩ := x.done
  have noA : ∀ b : Addr, b ∉ (cxOf CX P w K mg base N qual scope f cd A outer s H E).ex := fun b z => absurd (show b ∈ ([] : List Addr) from z) (by simp)
  refine ⟨⟨e0.mod, S.kind, rfl, rfl, Nat.le_refl _, fun y z c h1 h2 => ?_, fun y hy => ?_, fun y c _ h => ?_, fun _ => hd, Around.frames_deeper e0.frames, .inr ⟨rfl, rfl⟩, fun b z => absurd z (noA b), e0.bs, e0.bsz, fun b _ _ => noA b, fun b z => absurd z (noA b), e0.funs, e0.frf⟩,
    rfl, e0.bare, Un.kept hk, ⟨_, x.toInCall.ns, fun i y v h1 h2 h3 => ?_⟩, fun y c h => ⟨_, x.cell y c h⟩, e0.hok.fresh (Nat.le_refl _), fun y c h => ?_, fun p hp => absurd (show p ∈ ([] : List (Addr × Obj)) from hp) (by simp), e0.hok.kept hk, ?_⟩
  · exact name_of_addr x.apart (PySem.mem_of_lookup h1) (PySem.mem_of_lookup h2)
  · have hy : scope.names.lookup y = some .cell ∨ scope.names.lookup y = some .free := hy
    rcases hy with hy | hy
    · exact cell_has hy
    · exact absurd rfl (S.nofree _ (PySem.mem_of_lookup hy))
  · exact Nat.le_of_lt (x.above y c (PySem.mem_of_lookup h))
  · have hi : i < vs.length := by
      unfold start at h2
      by_cases hi : i < vs.length
      · exact hi
      · rw [List.getElem?_append_right (by simpa using hi)] at h2
        rw [List.getElem?_replicate] at h2
        split at h2 <;> cases h2
    have ha : vs[i]? = some v := by
      unfold start at h2
      rw [List.getElem?_append_left (by simpa using hi), List.getElem?_map] at h2
      cases e : vs[i]? with
      | none => rw [e] at h2; cases h2
      | some a => rw [e] at h2; cases h2; rfl
    obtain ⟨u, hu, rv⟩ := r.get ha
    have hp : ps[i]? = some y := by
      rw [← S.pre, List.getElem?_take_of_lt (by omega)]; exact h1
    have ndP : ps.Nodup := by rw [← S.pre]; exact S.nd.sublist (List.take_sublist _ _)
    refine ⟨u, rv, ?_⟩
    rcases S.par y (List.mem_of_getElem? hp) with k | k
    · exact .inl ⟨k, bindL_get ndP hp hu k⟩
    · obtain ⟨c, e⟩ := cell_has (n := s.heap.objs.size + 1) k
      refine .inr ⟨.inl k, c, e, ?_⟩
      have q := x.cell y c e
      rw [bindC_get ndP hp hu (by show scope.names.lookup y ≠ _; rw [k]; decide)] at q
      exact q
  · exact e0.hok.fresh (Nat.le_of_lt (x.above y c (PySem.mem_of_lookup h)))
  · unfold start
    show _ = N.length
    rw [List.length_append, List.length_map, List.length_replicate]
    omega

/-- THE RULE: a def (or a method) of the text, by its body. The body's reading t is chosen for each entry; it is run at the parameters' values -/
theorem fn_of {CX : CXT} {P : Program} {w : World} {K : PySem.W.Frag} {mg : Str → Option Value} {base : Heap} {k : Nat} {f : Addr} {name qual : Str} {params : Arguments} {body : List Stmt} {scope : Scope} {dV kV doc pm cdv ct oc : Value} {an od : Option Addr}
    {osl : Array (Option Value)} {N ps : List Str} {sp : Sp} (lk : K.lookup f = some ⟨oc, od, .func (PySem.W.fnOf name qual params body scope dV kV doc pm an cdv ct), osl⟩) (hcd : PySem.W.codeIn K cdv qual = true) (S : FnScope N ps scope)
    (len : ∀ vs H Q E, sp vs H Q E → vs.length = ps.length)
    (hbody : ∀ (A : Around) (outer : List Env) (s : Shared) (H : Hp) (vs : List V) (Q : VK) (E : XK), Room k (A.deeper (envOfC qual scope s.heap.objs.size f cdv)) → sp vs H Q E →
      ∃ t, PSs (cxOf CX P w K mg base N qual scope f cdv A outer s H E) body t ∧ t { nx := fun _ H' => Q .non H', rt := Q } (start N vs) H) :
    FnOk P w K mg base CX (k + 1) f (PySem.W.fnOf name qual params body scope dV kV doc pm an cdv ct) ps sp := by
  refine ⟨len, fun A outer s H args us vs Q E hr e0 hb r hsp => ?_⟩
  have hl := len _ _ _ _ hsp
  have KX : K.In s.heap := e0.mod.kin.keeps fun b o e => (e0.bs b o e).1
  have lim : s.heap.NoLimit := e0.mod.nolimit.keeps fun b o e => (e0.bs b o e).1
  have hkind : ∀ y ∈ ps.zip us, scope.names.lookup y.1 = some .local ∨ (scope.names.lookup y.1 = some .cell ∧ ((cellsFrom (s.heap.objs.size + 1) scope.names []).lookup y.1).isSome = true) := fun ⟨n, v⟩ hy => by
    rcases S.par n (List.of_mem_zip hy).1 with q | q
    · exact .inl q
    · exact .inr ⟨q, PySem.W.cellsFrom_some _ _ _ (.inl q)⟩
  refine codeAny_call_function hr.depth (KX _ _ lk) rfl S.co S.gen rfl (PySem.W.codeRec_of KX hcd) (hb _ _ _ _ ?_)
  refine wpAny_newFunctionEnv_cells S.kind hkind fun env he s1 x => ?_
  subst he
  refine ⟨lim.keeps x.toInCall.keep, codeAny_func ?_⟩
  obtain ⟨t, ht, hq⟩ := hbody A outer s H vs Q E (hr.deeper _) hsp
  have I : Inv (cxOf CX P w K mg base N qual scope f cdv A outer s H E) [] (start N vs) H s1 := inv_start S hr.hd e0 hl r x
  refine wpAny_mono (ht [] s1 (start N vs) H _ I hq) (fun fl s' hs => ?_) fun e s' hs => hs
  have fin : ∀ {σ' : St} {H' : Hp} {v : V} {u : Value}, Inv (cxOf CX P w K mg base N qual scope f cdv A outer s H E) [] σ' H' s' → RelV v u → Q v H' → CE outer P w H s Q u s' :=
    fun {σ' H' v u} J rv q => ⟨v, H', J.os, J.bare, J.base, J.hok, rv, q⟩
  cases fl with
  | ret u =>
    obtain ⟨v, σ', H', J, rv, q⟩ := hs
    exact fin J rv q
  | next =>
    obtain ⟨σ', H', J, q⟩ := hs
    exact fin (v := V.non) (u := Value.none) J rfl q
  | brk =>
    obtain ⟨_, _, _, q⟩ := hs
    exact False.elim q
  | cont =>
    obtain ⟨_, _, _, q⟩ := hs
    exact False.elim q
end L2

namespace L2
open PySem PySem.Spec PyProof.Rows
section
variable {X : Cx} {x : Str} {p pos : Pos} {e : Expr} {es : List Expr} {t : TA} {id T : String} {r : List V → Hp → VK → Prop}

def tCB (r : List V → Hp → VK → Prop) (t : TA) : TE := fun σ H Q => t σ H fun vs H1 => r vs H1 Q
/-- f(e, ..), f a built-in function -/
theorem pe_callB (hc : CallR X (.builtin id) r) (hg : Gl X x) (hm : X.mg x = none) (hv : bootBuiltins x = some (.builtin id)) (ha : PA X (e :: es) t) (hn : x ≠ "__name__" := by decide) (hdb : (x == ("__debug__" : Str)) = false := by decide)
    (he : starEach (e :: es) X.env = (false, eval e X.env) :: starEach es X.env := by rfl) (hpl : (backTo pos (starEach es X.env)).any (·.1) = false := by rfl) : PE X (.Call (.Name x p) (e :: es) [] pos) (tCB r t) := by
  intro pins s σ H Q I h
  refine wpAny_Call_Name_kw (ld_blt I hg hm hv ?_ hn hdb)
  exact PyProof.Rows.callWith_builtin1 (thn (ha pos pins s σ H _ I h) fun us s1 ⟨vs, H1, I1, r1, q1⟩ => hc pins s1 σ H1 vs us Q I1 r1 q1) he hpl
/-- T(e, ..), T a built-in type -/
theorem pe_callTy (hc : CallR X (.type T) r) (hg : Gl X x) (hm : X.mg x = none) (hv : bootBuiltins x = some (.type T)) (ha : PA X (e :: es) t) (hn : x ≠ "__name__" := by decide) (hdb : (x == ("__debug__" : Str)) = false := by decide)
    (he : starEach (e :: es) X.env = (false, eval e X.env) :: starEach es X.env := by rfl) (hpl : (backTo pos (starEach es X.env)).any (·.1) = false := by rfl) : PE X (.Call (.Name x p) (e :: es) [] pos) (tCB r t) := by
  intro pins s σ H Q I h
  refine wpAny_Call_Name_kw (ld_blt I hg hm hv ?_ hn hdb)
  exact PyProof.Rows.callWith_type1 (thn (ha pos pins s σ H _ I h) fun us s1 ⟨vs, H1, I1, r1, q1⟩ => hc pins s1 σ H1 vs us Q I1 r1 q1) he hpl
/-- T() -/
theorem pe_callTy0 (hc : CallR X (.type T) r) (hg : Gl X x) (hm : X.mg x = none) (hv : bootBuiltins x = some (.type T)) (hn : x ≠ "__name__" := by decide) (hdb : (x == ("__debug__" : Str)) = false := by decide) :
    PE X (.Call (.Name x p) [] [] pos) (tCB r tNil) := by
  intro pins s σ H Q I h
  refine wpAny_Call_Name_kw (ld_blt I hg hm hv ?_ hn hdb)
  exact PyProof.Rows.callWith_type0 (hc pins s σ H [] [] Q I .nil h)
end
end L2

namespace HT
open PySem PyProof.Rows

/-- t < u of tuples of ints -/
def lexLt : List Int → List Int → Bool
  | [], [] => false
  | [], _ :: _ => true
  | _ :: _, [] => false
  | x :: xs, y :: ys => if x = y then lexLt xs ys else decide (x < y)
theorem lexLt_cons (x y : Int) (xs ys : List Int) : lexLt (x :: xs) (y :: ys) = if x = y then lexLt xs ys else decide (x < y) := rfl
theorem lexLt_nil_nil : lexLt [] [] = false := rfl
theorem lexLt_nil_cons (y : Int) (ys : List Int) : lexLt [] (y :: ys) = true := rfl
theorem lexLt_cons_nil (x : Int) (xs : List Int) : lexLt (x :: xs) [] = false := rfl

theorem eqAt_int (A : Around) (s : Shared) (a : Int) (t : Tok) (c : Int) (u : Tok) : ∃ e, SeqAt.EqAt A s (.int a t) (.int c u) e ∧ (e = true ↔ a = c) :=
  ⟨(a == c), SeqAt.EqAt.int_int a t c u, by simp⟩
theorem rcLt_int (A : Around) (s : Shared) (a : Int) (t : Tok) (c : Int) (u : Tok) (prog : Program) (w : World) (E : Value → Shared → Prop) (Q : Value → Shared → Prop) (h : Q (.bool (decide (a < c))) s) :
    wpAny (model prog w) A (richCompare .Lt (.int a t) (.int c u)) Q E s :=
  (PyProof.Rows.lt_int h : wpAny (model prog w) A (compareOp .Lt (.int a t) (.int c u)) Q E s)

section
open PySem.SeqAt
open PySem.AutoSeq1 (wpAny_loadPart')
open PySem.MeetsSeq PySem.MeetsSeq2 PySem.MeetsSeq3

theorem tuple_lt_ints (l b : Addr) (items items2 : Array Value) (n n2 : Nat) (dd dd2 : Option Addr) (sl sl2 : Array (Option Value)) (ns ms : List Int) (hi : IntsAre items.toList ns) (hj : IntsAre items2.toList ms) :
    Meets (Builtin.«tuple.__lt__» ⟨[.ref l, .ref b], []⟩)
      (fun _ R s => s.heap.get? l = some { cls := .type "tuple", dict := dd, data := .seq items n, slots := sl } ∧ s.heap.get? b = some { cls := .type "tuple", dict := dd2, data := .seq items2 n2, slots := sl2 } ∧
        R (.ok (.ret (.bool (lexLt ns ms)))) s) :=
  .of_wp fun prog w A R s h => by
    obtain ⟨hp, g, d, tk, os⟩ := s; obtain ⟨hl, hb, h⟩ := h
    have f2 := AutoSeq1.sub_tuple_tuple
    have z1 : items.size = ns.length := by rw [← hi.length]; simp
    have z2 : items2.size = ms.length := by rw [← hj.length]; simp
    wp_walk using wpAny_loadPart' hl, wpAny_loadPart' hb, wpAny_forIn_list _ (fun rest b s' => b.1 = none ∧ s' = ⟨hp, g, d, tk, os⟩ ∧ ∃ (vs ws : List Value) (ns' ms' : List Int), rest = vs.zip ws ∧
      IntsAre vs ns' ∧ IntsAre ws ms' ∧ ns'.length + items2.size = ms'.length + items.size ∧ R (.ok (.ret (.bool (lexLt ns' ms')))) ⟨hp, g, d, tk, os⟩) _
    case turn =>
      rintro ⟨y, x⟩ rest b s' ⟨hb', rfl, vs, ws, ns', ms', hz, hvi, hwi, hlen, hR⟩
      cases hvi with
      | nil => rw [List.zip_nil_left] at hz; cases hz
      | cons a t hvi' =>
        cases hwi with
        | nil => rw [List.zip_nil_right] at hz; cases hz
        | cons c u hwi' =>
          rw [List.zip_cons_cons] at hz
          injection hz with hyx hrest
          injection hyx with hy hx
          subst hy hx
          rw [lexLt_cons] at hR
          simp only [List.length_cons] at hlen
          obtain ⟨e, he, hiff⟩ := eqAt_int A.in1 ⟨hp, g, d, tk, os⟩ a t c u
          refine wpAny_bind (he prog w _ _ ?_)
          cases e with
          | true =>
            rw [if_pos (hiff.mp rfl)] at hR
            wp_walk
            exact ⟨rfl, rfl, _, _, _, _, hrest, hvi', hwi', by omega, hR⟩
          | false =>
            rw [if_neg (fun q => absurd (hiff.mpr q) Bool.false_ne_true)] at hR
            have hri := rcLt_int A.in1 ⟨hp, g, d, tk, os⟩ a t c u prog w
            wp_walk using hri
            exact ⟨_, rfl, by simpa using hR⟩
    case fin =>
      rintro ⟨b1, b2⟩ s' ⟨hb', rfl, vs, ws, ns', ms', hz, hvi, hwi, hlen, hR⟩
      simp only at hb'
      subst hb'
      have hv : lexLt ns' ms' = decide (items.size < items2.size) := by
        cases hvi with
        | nil =>
          cases hwi with
          | nil =>
            simp only [List.length_nil] at hlen
            rw [lexLt_nil_nil]
            exact (decide_eq_false (by omega)).symm
          | cons c u hw =>
            simp only [List.length_nil, List.length_cons] at hlen
            rw [lexLt_nil_cons]
            exact (decide_eq_true (by omega)).symm
        | cons a t hv =>
          cases hwi with
          | nil =>
            simp only [List.length_nil, List.length_cons] at hlen
            rw [lexLt_cons_nil]
            exact (decide_eq_false (by omega)).symm
          | cons c u hw =>
            rw [List.zip_cons_cons] at hz
            cases hz
      rw [hv] at hR
      wp_walk
      exact ⟨_, rfl, by simpa [Builtin.Tuple.tupleCompareSizes] using hR⟩
    case h =>
      exact ⟨rfl, rfl, items.toList, items2.toList, ns, ms, rfl, hi, hj, by omega, h⟩
end

section
variable {prog : Program} {w : World} {A : Around} {E : Value → Shared → Prop} {s : Shared}

theorem lt_tupInts {l b : Addr} {items items2 : Array Value} {ns ms : List Int} {Q : Value → Shared → Prop} (hl : IsTup s.heap l items) (hb : IsTup s.heap b items2) (hi : IntsAre items.toList ns) (hj : IntsAre items2.toList ms)
    (hu : A.units < cLine) (h : Q (.bool (lexLt ns ms)) s) : wpAny (model prog w) A (compareOp .Lt (.ref l) (.ref b)) Q E s := by
  obtain ⟨⟨cls, dd, data, sl⟩, ho, hc, n, hd⟩ := id hl
  obtain ⟨⟨cls2, dd2, data2, sl2⟩, ho2, hc2, n2, hd2⟩ := id hb
  simp only at hc hd hc2 hd2
  subst hc hd hc2 hd2
  exact richCompare_meets_room (op := .Lt) ⟨_, ho, rfl⟩ ⟨_, ho2, rfl⟩ PySem.F.slot_tuple_lt PySem.F.entry_tuple_lt (PySem.F.args_tuple_lt_2 _ _) (tuple_lt_ints l b items items2 n n2 dd dd2 sl sl2 ns ms hi hj)
    ⟨ho, ho2, show Value.bool (lexLt ns ms) ≠ Value.notImplemented ∧ Q (.bool (lexLt ns ms)) s from ⟨(fun x => nomatch x), h⟩⟩ hu

/-- t + u, t not empty -/
theorem cat_tup {t b : Addr} {vs ws : List Value} {Q : Value → Shared → Prop} (ht : IsTup s.heap t vs.toArray) (hb : IsTup s.heap b ws.toArray) (hv : vs ≠ [])
    (h1 : ws = [] → Q (.ref t) s) (h2 : ws ≠ [] → Q (.ref s.heap.objs.size) { s with heap := s.heap.push { cls := .type "tuple", data := .seq (vs ++ ws).toArray } })
    (hsz : vs.length + ws.length ≤ sizeLine) : wpAny (model prog w) A (binaryOp .Add (.ref t) (.ref b)) Q E s := by
  obtain ⟨⟨cls, dd, data, sl⟩, ho, hc, n, hd⟩ := id ht
  obtain ⟨⟨cls2, dd2, data2, sl2⟩, ho2, hc2, n2, hd2⟩ := id hb
  simp only at hc hd hc2 hd2
  subst hc hd hc2 hd2
  have e : vs.toArray ++ ws.toArray = (vs ++ ws).toArray := by simp
  by_cases hw : ws = []
  · exact concat_meets ⟨_, ho, rfl⟩ ⟨_, ho2, rfl⟩ noFill_tuple_add seq_tuple_add PySem.F.slot_tuple_add PySem.F.entry_tuple_add (PySem.F.args_tuple_add_2 _ _)
      (tuple_addW1 t b vs.toArray ws.toArray n n2 dd dd2 sl sl2 (by simpa using hv) (by simp [hw])) ⟨ho, ho2, h1 hw⟩
  · refine concat_meets ⟨_, ho, rfl⟩ ⟨_, ho2, rfl⟩ noFill_tuple_add seq_tuple_add PySem.F.slot_tuple_add PySem.F.entry_tuple_add (PySem.F.args_tuple_add_2 _ _)
      (tuple_addW2 t b vs.toArray ws.toArray n n2 dd dd2 sl sl2 (by simpa using hv) (by simpa using hw) (by rw [List.size_toArray, List.size_toArray]; exact hsz)) ⟨ho, ho2, ?_⟩
    rw [e]
    exact h2 hw

/-! ### t[a:b], not the whole -/
/-- a slice's bound as a place among n (d where it is left out) -/
def sIx (n d : Nat) : Option Int → Nat
  | none => d
  | some v => if v < 0 then (v + (n : Int)).toNat else min v.toNat n
theorem sIx_none (n d : Nat) : sIx n d none = d := rfl
theorem sIx_nat (n d k : Nat) : sIx n d (some (k : Int)) = min k n := by
  show (if (k : Int) < 0 then ((k : Int) + (n : Int)).toNat else min (k : Int).toNat n) = min k n
  rw [if_neg (by omega), Int.toNat_natCast]
theorem sIx_le (n d : Nat) (hd : d ≤ n) (o : Option Int) : sIx n d o ≤ n := by
  cases o with
  | none => exact hd
  | some v =>
    show (if v < 0 then (v + (n : Int)).toNat else min v.toNat n) ≤ n
    by_cases hv : v < 0
    · rw [if_pos hv]; omega
    · rw [if_neg hv]; exact Nat.min_le_right _ _
theorem clip_eq (v : Int) (n d : Nat) : (if v < 0 then max (v + (n : Int)) 0 else min v (n : Int)) = ((sIx n d (some v) : Nat) : Int) := by
  show (if v < 0 then max (v + (n : Int)) 0 else min v (n : Int)) = (((if v < 0 then (v + (n : Int)).toNat else min v.toNat n) : Nat) : Int)
  by_cases hv : v < 0
  · simp only [if_pos hv]; omega
  · simp only [if_neg hv]; omega
theorem adjust_gen (lo hi : Option Int) (n : Nat) : Builtin.Slice.sliceAdjust lo hi 1 (n : Int) = (((sIx n 0 lo : Nat) : Int), ((sIx n n hi : Nat) : Int)) := by
  have h1 : ¬ ((1 : Int) < 0) := by omega
  unfold Builtin.Slice.sliceAdjust
  simp only [h1, if_false]
  refine Prod.ext ?_ ?_
  · cases lo with
    | none => rfl
    | some v => exact clip_eq v n 0
  · cases hi with
    | none => rfl
    | some v => exact clip_eq v n n
theorem places_gen (i j : Nat) : Builtin.Slice.slicePlaces (i : Int) (j : Int) 1 = j - i := by
  unfold Builtin.Slice.slicePlaces
  have h1 : (1 : Int) > 0 := by omega
  simp only [h1, if_true, Int.ediv_one]
  split <;> omega
theorem slicePart_ {v : Value} {o : Option Int} {Q : Option Int → Shared → Prop} (p : IsPart v o) (h : Q o s) : wpAny (model prog w) A (Builtin.Slice.slicePartIndex v) Q E s := by
  cases p with
  | none => exact slicePart_none h
  | int i t => exact slicePart_int h
theorem sliceApplied_gen {sl : Addr} {vl vu : Value} {lo hi : Option Int} {n : Nat} {Q : Int × Int × Nat → Shared → Prop} (hs : s.heap.IsSliceOf sl vl vu .none) (pl : IsPart vl lo) (pu : IsPart vu hi)
    (h : Q (((sIx n 0 lo : Nat) : Int), 1, sIx n n hi - sIx n 0 lo) s) : wpAny (model prog w) A (Builtin.Slice.sliceApplied (.ref sl) (pure (n : Int))) Q E s := by
  obtain ⟨os, hos, hcs, hds⟩ := id hs
  unfold Builtin.Slice.sliceApplied Builtin.Slice.sliceFields
  refine wpAny_bind (wpAny_bind (wpAny_field hos hds (x := vl) rfl (wpAny_bind (wpAny_field hos hds (x := vu) rfl (wpAny_bind (wpAny_field hos hds (x := .none) rfl (wpAny_pure ?_)))))))
  refine wpAny_bind (slicePart_none ?_)
  show wpAny _ _ (if ((1 : Int) == 0) = true then _ else _) _ _ s
  rw [if_neg (by decide)]
  refine wpAny_bind (slicePart_ pl (wpAny_bind (slicePart_ pu (wpAny_bind (wpAny_pure ?_)))))
  show wpAny _ _ (match Builtin.Slice.sliceAdjust lo hi 1 (n : Int) with | (lo, hi) => pure (lo, (1 : Int), Builtin.Slice.slicePlaces lo hi 1)) _ _ s
  rw [adjust_gen lo hi n]
  show wpAny _ _ (pure (((sIx n 0 lo : Nat) : Int), (1 : Int), Builtin.Slice.slicePlaces ((sIx n 0 lo : Nat) : Int) ((sIx n n hi : Nat) : Int) 1)) _ _ s
  rw [places_gen]
  exact wpAny_pure h
theorem pick_gen (xs : Array Value) (i k : Nat) : ((List.range k).filterMap fun (m : Nat) => xs[((i : Int) + (m : Int) * 1).toNat]?).toArray = ((xs.toList.drop i).take k).toArray := by
  have e : (fun (m : Nat) => xs[((i : Int) + (m : Int) * 1).toNat]?) = fun m => xs[i + m]? := by
    funext m
    have : ((i : Int) + (m : Int) * 1).toNat = i + m := by omega
    rw [this]
  rw [e]
  have := pick_run xs i k
  rw [List.filterMap_map] at this
  have e2 : ((fun x => xs[x]?) ∘ fun x => i + x) = fun m => xs[i + m]? := rfl
  rw [e2] at this
  rw [this]

theorem getItem_tuple_cut {t sl : Addr} {items : Array Value} {vl vu : Value} {lo hi : Option Int} {Q : Value → Shared → Prop} (ht : IsTup s.heap t items) (hs : s.heap.IsSliceOf sl vl vu .none) (pl : IsPart vl lo) (pu : IsPart vu hi)
    (hw : ¬ (sIx items.size 0 lo = 0 ∧ sIx items.size items.size hi = items.size))
    (h : Q (.ref s.heap.objs.size) { s with heap := s.heap.push { cls := .type "tuple", data := .seq ((items.toList.drop (sIx items.size 0 lo)).take (sIx items.size items.size hi - sIx items.size 0 lo)).toArray } })
    (hsz : items.size ≤ sizeLine) : wpAny (model prog w) A (getItem (.ref t) (.ref sl)) Q E s := by
  have htake : sizeOk (.seq ((items.toList.drop (sIx items.size 0 lo)).take (sIx items.size items.size hi - sIx items.size 0 lo)).toArray) := by
    show ((items.toList.drop (sIx items.size 0 lo)).take (sIx items.size items.size hi - sIx items.size 0 lo)).toArray.size ≤ sizeLine
    rw [List.size_toArray, List.length_take, List.length_drop, Array.length_toList]
    omega
  have hj : sIx items.size items.size hi ≤ items.size := sIx_le _ _ (Nat.le_refl _) hi
  obtain ⟨os, hos, hcs, hds⟩ := id hs
  have hTs : s.TypeIs (.ref sl) "slice" := ⟨os, hos, hcs⟩
  unfold getItem
  try with_reducible refine wpAny_holding ?_
  first | refine wpAny_bind (wpAny_pure ?_) | skip
  refine wpAny_bind (wpAny_sequenceKey ht.typeIs (by decide) ?_)
  refine wpAny_bind (wpAny_callSpecial?_slot (name := Str.ofString "__getitem__") ht.typeIs PyProof.Rows.slot_tuple_getitem
    (wpAny_call_entry PyProof.Rows.slot_tuple_getitem ht.typeIs entry_tuple_getitem ?_ (args_tuple_getitem _ _)))
  show wpAny _ _ (Builtin.Tuple.tupleItemsOf (.ref t) >>= _) _ _ s
  refine wpAny_bind (tupleItemsOf_ ht ?_)
  refine wpAny_bind (wpAny_typeOf hTs ?_)
  rw [if_pos (by decide)]
  refine wpAny_bind (sliceApplied_gen hs pl pu ?_)
  have hno : ¬ ((((sIx items.size 0 lo : Nat) : Int) == 0 && (1 : Int) == 1 && (sIx items.size items.size hi - sIx items.size 0 lo) == items.size) = true) := by
    intro q
    rw [Bool.and_eq_true, Bool.and_eq_true] at q
    have q1 : ((sIx items.size 0 lo : Nat) : Int) = 0 := eq_of_beq q.1.1
    have q2 : sIx items.size items.size hi - sIx items.size 0 lo = items.size := eq_of_beq q.2
    exact hw ⟨by omega, by omega⟩
  show wpAny _ _ (if (((sIx items.size 0 lo : Nat) : Int) == 0 && (1 : Int) == 1 && (sIx items.size items.size hi - sIx items.size 0 lo) == items.size) = true then _ else _) _ _ s
  rw [if_neg hno, pick_gen]
  first
    | exact wpAny_bind (m := Builtin.Tuple.tupleExact _) (wpAny_newObj_type (wpAny_pure ⟨_, rfl, wpAny_pure h⟩) htake)
    | exact wpAny_bind (m := Builtin.Tuple.tupleExact _) (wpAny_newObj_type (wpAny_bind (wpAny_pure (wpAny_pure ⟨_, rfl, wpAny_pure h⟩))) htake)
    | exact wpAny_bind (wpAny_bind (m := Builtin.Tuple.tupleExact _) (wpAny_newObj_type (wpAny_pure (wpAny_pure ⟨_, rfl, wpAny_pure h⟩)) htake))
    | exact wpAny_bind (wpAny_bind (m := Builtin.Tuple.tupleExact _) (wpAny_newObj_type (wpAny_pure ⟨_, rfl, wpAny_pure h⟩) htake))
end
end HT

namespace L2
open PySem PySem.Spec PyProof.Rows

/-! ### the parts of a slice -/
abbrev TO := St → Hp → (Option Int → Hp → Prop) → Prop
/-- a slice's part (left out, or an int) -/
def PO (X : Cx) (e : Option Expr) (t : TO) : Prop :=
  ∀ (pins : List (Addr × Obj)) (s : Shared) (σ : St) (H : Hp) (Q : Option Int → Hp → Prop), Inv X pins σ H s → t σ H Q →
    wpAny (model X.prog X.w) X.A (evalPart e X.env) (fun u s' => ∃ o H', Inv X pins σ H' s' ∧ IsPart u o ∧ Q o H') X.xe s
def tNoPart : TO := fun _ H Q => Q none H
def tPart (t : TE) : TO := fun σ H Q => t σ H fun x H1 => ∃ i, x = .int i ∧ Q (some i) H1

theorem intsAre_of {ns : List Int} : ∀ {us : List Value}, Vals (ns.map V.int) us → IntsAre us ns := by
  induction ns with
  | nil => intro us r; rw [List.map_nil] at r; cases r; exact .nil
  | cons n ns ih =>
    intro us r
    rw [List.map_cons] at r
    cases r with
    | cons r1 r2 =>
      obtain ⟨t, e⟩ := r1
      subst e
      exact .cons n t (ih r2)

section
variable {X : Cx} {e : Expr} {te : TE} {lo hi : Option Expr} {tl th : TO} {pos p2 : Pos}

theorem po_none : PO X none tNoPart := by
  intro pins s σ H Q I h
  rw [evalPart_none]
  exact wpAny_pure ⟨none, H, I, .none, h⟩
theorem po_some (h : PE X e te) : PO X (some e) (tPart te) := by
  intro pins s σ H Q I hw
  rw [evalPart_some]
  refine thn (h pins s σ H _ I hw) fun u s1 ⟨x, H1, I1, r1, q1⟩ => ?_
  obtain ⟨i, rfl, q⟩ := q1
  obtain ⟨t, rfl⟩ := r1
  exact ⟨some i, H1, I1, .int i t, q⟩

/-- what a slice of a value is, by values: the slice object stands at sl -/
def SlR (X : Cx) (r : V → Option Int → Option Int → Hp → VK → Prop) : Prop :=
  ∀ (pins : List (Addr × Obj)) (s : Shared) (σ : St) (H : Hp) (x : V) (v vl vu : Value) (lo hi : Option Int) (sl : Addr) (Q : VK), Inv X pins σ H s → RelV x v → s.heap.IsSliceOf sl vl vu .none → IsPart vl lo → IsPart vu hi → r x lo hi H Q →
    ∃ T id, typeLookup (.type T) "__getitem__" = pure (some (.builtin id)) ∧ s.TypeIs v T ∧ wpAny (model X.prog X.w) X.A (getItem v (.ref sl)) (EP X pins σ Q) X.xe s
theorem SlR.or {r r' : V → Option Int → Option Int → Hp → VK → Prop} (h : SlR X r) (h' : SlR X r') : SlR X (fun x lo hi H Q => r x lo hi H Q ∨ r' x lo hi H Q) := by
  intro pins s σ H x v vl vu lo hi sl Q I rx hs pl pu q
  rcases q with q | q
  · exact h pins s σ H x v vl vu lo hi sl Q I rx hs pl pu q
  · exact h' pins s σ H x v vl vu lo hi sl Q I rx hs pl pu q
def tSl (r : V → Option Int → Option Int → Hp → VK → Prop) (te : TE) (tl th : TO) : TE := fun σ H Q => te σ H fun x H1 => tl σ H1 fun l H2 => th σ H2 fun u H3 => r x l u H3 Q
/-- a[lo:hi], any a -/
theorem pe_slice {r : V → Option Int → Option Int → Hp → VK → Prop} (hr : SlR X r) (he : PE X e te) (hl : PO X lo tl) (hu : PO X hi th) : PE X (.Subscript e (.Slice lo hi none p2) pos) (tSl r te tl th) := by
  intro pins s σ H Q I h
  refine Subscript_ (thn (he pins s σ H _ I h) fun v s1 ⟨x, H1, I1, r1, q1⟩ => ?_)
  refine wpAny_Slice (thn (hl pins s1 σ H1 _ I1 q1) fun vl s2 ⟨l, H2, I2, pl, q2⟩ => thn (hu pins s2 σ H2 _ I2 q2) fun vu s3 ⟨u, H3, I3, pu, q3⟩ => ?_)
  rw [evalPart_none]
  refine wpAny_pure ?_
  have I4 : Inv X pins σ H3 { s3 with heap := s3.heap.push { cls := .type "slice", data := .fields #[vl, vu, .none] } } := I3.kept (t' := s3.toks) fun b ob q => Heap.get?_push_of_some _ q
  obtain ⟨T, id, hT, ht, hg⟩ := hr pins { s3 with heap := s3.heap.push { cls := .type "slice", data := .fields #[vl, vu, .none] } } σ H3 x v vl vu l u s3.heap.objs.size Q I4 r1 (Heap.IsSliceOf.new ..) pl pu q3
  show wpAny (model X.prog X.w) X.A (subscriptTail e (.Slice lo hi none p2) v (.ref s3.heap.objs.size)) (EP X pins σ Q) X.xe { s3 with heap := s3.heap.push { cls := .type "slice", data := .fields #[vl, vu, .none] } }
  exact tail_any (ops := [.ref s3.heap.objs.size, v]) ht hT hg (by with_unfolding_all rfl)

/-- the items of xs[lo:hi] -/
def cutV (xs : List V) (lo hi : Option Int) : List V := (xs.drop (HT.sIx xs.length 0 lo)).take (HT.sIx xs.length xs.length hi - HT.sIx xs.length 0 lo)
theorem cutV_length (xs : List V) (lo hi : Option Int) : (cutV xs lo hi).length ≤ xs.length := by
  unfold cutV
  rw [List.length_take, List.length_drop]
  omega
/-- t[lo:hi], not the whole of it (the whole would be t itself) -/
def rSlT (K : PySem.W.Frag) : V → Option Int → Option Int → Hp → VK → Prop := fun x lo hi H Q => ∃ a xs, x = .ref a ∧ SqT K H a xs ∧
  ¬ (HT.sIx xs.length 0 lo = 0 ∧ HT.sIx xs.length xs.length hi = xs.length) ∧ ∀ p, H p = none → Q (.ref p) (upd H p (.tup (cutV xs lo hi)))
theorem sl_tup : SlR X (rSlT X.K) := by
  intro pins s σ H x v vl vu lo hi sl Q I rx hs pl pu h
  obtain ⟨a, xs, rfl, hx, hw, q⟩ := h
  cases rx
  obtain ⟨its, r, ht, hz⟩ := I.tuple hx
  have hlen : its.toArray.size = xs.length := by rw [List.size_toArray]; exact r.length.symm
  refine ⟨"tuple", _, PyProof.Rows.slot_tuple_getitem.lookup, ht.typeIs, ?_⟩
  refine HT.getItem_tuple_cut ht hs pl pu (by rw [hlen]; exact hw) ?_ (by rw [hlen]; exact hz)
  rw [hlen]
  refine ⟨.ref s.heap.objs.size, _, I.laid (t' := s.toks) (o := .tup (cutV xs lo hi)) (fun b ob q => Heap.get?_push_of_some _ q) (Nat.le_refl _) ?_, rfl, q _ (I.hok.fresh (Nat.le_refl _))⟩
  exact ⟨Nat.le_trans (cutV_length xs lo hi) hz, _, (r.drop (HT.sIx xs.length 0 lo)).take (HT.sIx xs.length xs.length hi - HT.sIx xs.length 0 lo), IsTup.new _ _⟩

/-! ### t < u, t + u -/
def rLtT (K : PySem.W.Frag) : R2 := fun x y H Q => ∃ a b ns ms, x = .ref a ∧ y = .ref b ∧ SqT K H a (ns.map V.int) ∧ SqT K H b (ms.map V.int) ∧ Q (.bl (HT.lexLt ns ms)) H
theorem op_ltT (hu : X.A.units < cLine) : OpR X (compareOp .Lt) (rLtT X.K) := by
  intro pins s σ H x y v u Q I rx ry h
  obtain ⟨a, b, ns, ms, rfl, rfl, ha, hb, q⟩ := h
  cases rx
  cases ry
  obtain ⟨its, r1, p1, _⟩ := I.tuple ha
  obtain ⟨its2, r2, p2, _⟩ := I.tuple hb
  have i1 : IntsAre its.toArray.toList ns := intsAre_of r1
  have i2 : IntsAre its2.toArray.toList ms := intsAre_of r2
  exact HT.lt_tupInts p1 p2 i1 i2 hu ⟨.bl (HT.lexLt ns ms), H, I, rfl, q⟩
/-- t + u, t not empty: u empty gives t itself -/
def rCatT (K : PySem.W.Frag) : R2 := fun x y H Q => ∃ a b xs ys, x = .ref a ∧ y = .ref b ∧ SqT K H a xs ∧ SqT K H b ys ∧ xs ≠ [] ∧ xs.length + ys.length ≤ sizeLine ∧
  (ys = [] → Q (.ref a) H) ∧ (ys ≠ [] → ∀ p, H p = none → Q (.ref p) (upd H p (.tup (xs ++ ys))))
theorem Vals.nil_iff {xs : List V} {us : List Value} (r : Vals xs us) : us = [] ↔ xs = [] := by
  cases r with
  | nil => simp
  | cons _ _ => simp
theorem op_catT : OpR X (binaryOp .Add) (rCatT X.K) := by
  intro pins s σ H x y v u Q I rx ry h
  obtain ⟨a, b, xs, ys, rfl, rfl, ha, hb, hx, hz, q1, q2⟩ := h
  cases rx
  cases ry
  obtain ⟨its, r1, p1, _⟩ := I.tuple ha
  obtain ⟨its2, r2, p2, _⟩ := I.tuple hb
  refine HT.cat_tup p1 p2 (fun z => hx (r1.nil_iff.mp z)) (fun z => ⟨.ref a, H, I, rfl, q1 (r2.nil_iff.mp z)⟩) (fun z => ?_) (by rw [← r1.length, ← r2.length]; exact hz)
  refine ⟨.ref s.heap.objs.size, _, I.laid (t' := s.toks) (o := .tup (xs ++ ys)) (fun b ob q => Heap.get?_push_of_some _ q) (Nat.le_refl _) ?_, rfl, q2 (fun w => z (r2.nil_iff.mpr w)) _ (I.hok.fresh (Nat.le_refl _))⟩
  exact ⟨by rw [List.length_append]; exact hz, _, r1.append r2, IsTup.new _ _⟩
/-- tuple(t) -/
theorem call_tupleT : CallR X (.type "tuple") (fun xs H Q => ∃ a ys, xs = [.ref a] ∧ SqT X.K H a ys ∧ Q (.ref a) H) := by
  intro pins s σ H xs us Q I r h
  obtain ⟨a, ys, rfl, ha, q⟩ := h
  obtain ⟨u, rfl, ru⟩ := vals1 r
  cases ru
  obtain ⟨its, _, p1, _⟩ := I.tuple ha
  exact call_tuple_same (items := its.toArray) p1 ⟨.ref a, H, I, rfl, q⟩
end
end L2

namespace L2
open PySem PySem.Spec PyProof.Rows

/-! ### places -/
/-- the place that an index of any sign means -/
def ixN (n : Nat) (i : Int) : Option Nat := if 0 ≤ i then (if i < n then some i.toNat else none) else if -(n : Int) ≤ i then some (i + n).toNat else none
def atI {α : Type} (xs : List α) (i : Int) : Option α := (ixN xs.length i).bind fun j => xs[j]?
theorem ixN_seq {n : Nat} {i : Int} {j : Nat} (h : ixN n i = some j) : seqIndex? i n = some j ∧ j < n ∧ -(n : Int) ≤ i ∧ i < n := by
  unfold ixN at h
  by_cases h0 : 0 ≤ i
  · rw [if_pos h0] at h
    by_cases h1 : i < n
    · rw [if_pos h1] at h
      have e : i.toNat = j := Option.some.inj h
      exact ⟨by rw [seqIndex_of h0 h1, e], by omega, by omega, h1⟩
    · rw [if_neg h1] at h; cases h
  · rw [if_neg h0] at h
    by_cases h1 : -(n : Int) ≤ i
    · rw [if_pos h1] at h
      have e : (i + n).toNat = j := Option.some.inj h
      exact ⟨by rw [seqIndex_neg (by omega) h1, e], by omega, h1, by omega⟩
    · rw [if_neg h1] at h; cases h
theorem atI_get {α : Type} {xs : List α} {i : Int} {v : α} (h : atI xs i = some v) : ∃ j, seqIndex? i xs.length = some j ∧ xs[j]? = some v ∧ j < xs.length ∧ -(xs.length : Int) ≤ i ∧ i < xs.length := by
  unfold atI at h
  cases e : ixN xs.length i with
  | none => rw [e] at h; cases h
  | some j =>
    rw [e] at h
    obtain ⟨h1, h2, h3, h4⟩ := ixN_seq e
    exact ⟨j, h1, h, h2, h3, h4⟩
theorem atI_nat {α : Type} {xs : List α} {j : Nat} {v : α} (h : xs[j]? = some v) : atI xs (j : Int) = some v := by
  have hj : j < xs.length := (List.getElem?_eq_some_iff.mp h).1
  have e : ixN xs.length (j : Int) = some j := by
    unfold ixN
    rw [if_pos (by omega), if_pos (by omega)]; simp
  unfold atI; rw [e]; exact h
theorem atI_last {α : Type} (xs : List α) (v : α) : atI (xs ++ [v]) (-1) = some v := by
  have hl : (xs ++ [v]).length = xs.length + 1 := by simp
  have e : ixN (xs ++ [v]).length (-1) = some xs.length := by
    unfold ixN
    rw [hl, if_neg (by decide), if_pos (by omega)]
    congr 1
    omega
  unfold atI
  rw [e]
  show (xs ++ [v])[xs.length]? = some v
  simp

/-! ### what may be subscripted -/
/-- what stands as an index of a plain subscript -/
def PlainIx (b : Expr) : Prop := ∀ o i, subscripted b false o i = operate [o, i] (getItem o i)
/-- a subscript by values -/
def IxR (X : Cx) (r : R2) : Prop :=
  ∀ (value slice : Expr) (pins : List (Addr × Obj)) (s : Shared) (σ : St) (H : Hp) (x y : V) (v u : Value) (Q : VK), Inv X pins σ H s → RelV x v → RelV y u → r x y H Q →
    subscripted slice false v u = operate [v, u] (getItem v u) → wpAny (model X.prog X.w) X.A (subscriptTail value slice v u) (EP X pins σ Q) X.xe s
/-- a call of a builtin's method by values: the receiver, the arguments -/
def MtR (X : Cx) (id : String) (r : V → List V → Hp → VK → Prop) : Prop :=
  ∀ (pins : List (Addr × Obj)) (s : Shared) (σ : St) (H : Hp) (x : V) (xs : List V) (v : Value) (us : List Value) (Q : VK), Inv X pins σ H s → RelV x v → Vals xs us → r x xs H Q →
    wpAny (model X.prog X.w) X.A (call (.builtin id) (v :: us)) (EP X pins σ Q) X.xe s
section
variable {X : Cx} {a b : Expr} {ta tb : TE} {pos : Pos}
theorem IxR.or {r r' : R2} (h : IxR X r) (h' : IxR X r') : IxR X (fun x y H Q => r x y H Q ∨ r' x y H Q) := by
  intro value slice pins s σ H x y v u Q I rx ry q hs
  rcases q with q | q
  · exact h value slice pins s σ H x y v u Q I rx ry q hs
  · exact h' value slice pins s σ H x y v u Q I rx ry q hs
theorem MtR.or {id : String} {r r' : V → List V → Hp → VK → Prop} (h : MtR X id r) (h' : MtR X id r') : MtR X id (fun x xs H Q => r x xs H Q ∨ r' x xs H Q) := by
  intro pins s σ H x xs v us Q I rx rs q
  rcases q with q | q
  · exact h pins s σ H x xs v us Q I rx rs q
  · exact h' pins s σ H x xs v us Q I rx rs q
/-- a[b] -/
theorem pe_ix {r : R2} (hr : IxR X r) (ha : PE X a ta) (hb : PE X b tb) (hs : PlainIx b) : PE X (.Subscript a b pos) (tOp r ta tb) := by
  intro pins s σ H Q I h
  exact Subscript_ (binT ha hb I h fun v u s2 x y H2 I2 rx ry q => hr a b pins s2 σ H2 x y v u Q I2 rx ry q (hs _ _))

def rIxL (K : PySem.W.Frag) : R2 := fun x y H Q => ∃ p xs i v, x = .ref p ∧ y = .int i ∧ SqL K H p xs ∧ atI xs i = some v ∧ Q v H
def rIxT (K : PySem.W.Frag) : R2 := fun x y H Q => ∃ p xs i v, x = .ref p ∧ y = .int i ∧ SqT K H p xs ∧ atI xs i = some v ∧ Q v H
def rIxS : R2 := fun x y H Q => ∃ z i c, x = .str z ∧ y = .int i ∧ z.length ≤ sizeLine ∧ atI z.cps.toList i = some c ∧ Q (.str ⟨#[c]⟩) H
theorem ix_list : IxR X (rIxL X.K) := by
  intro value slice pins s σ H x y v u Q I rx ry h hs
  obtain ⟨p, xs, i, z, rfl, rfl, hq, he, q⟩ := h
  cases rx
  obtain ⟨t, rfl⟩ := ry
  obtain ⟨its, r, pl, hz⟩ := I.list hq
  obtain ⟨j, h1, h2, h3, h4, h5⟩ := atI_get he
  obtain ⟨w, ew, rw'⟩ := r.get h2
  have hl := r.length
  have hn := line63
  have fin : EP X pins σ Q w s := ⟨z, H, I, rw', q⟩
  by_cases h0 : 0 ≤ i
  · have hj : i.toNat = j := by
      rw [seqIndex_of h0 h5] at h1
      exact Option.some.inj h1
    exact item_listR pl.isList h0 (by omega) (by rw [hj]; simpa using ew) fin hs
  · have hj : (i + (its.toArray.size : Int)).toNat = j := by
      rw [seqIndex_neg (by omega) h4] at h1
      rw [List.size_toArray, ← hl]
      exact Option.some.inj h1
    exact subscriptTail_builtinR (x := w) pl.isList.typeIs slot_list_getitem.lookup
      (wpAny_getItem_list_neg (Q := fun r s' => r = w ∧ EP X pins σ Q r s') pl.isList (by omega) (by rw [List.size_toArray] <;> omega) (by omega) (by rw [hj]; simpa using ew) ⟨rfl, fin⟩) hs
theorem ix_tup : IxR X (rIxT X.K) := by
  intro value slice pins s σ H x y v u Q I rx ry h hs
  obtain ⟨p, xs, i, z, rfl, rfl, hq, he, q⟩ := h
  cases rx
  obtain ⟨t, rfl⟩ := ry
  obtain ⟨its, r, pl, hz⟩ := I.tuple hq
  obtain ⟨j, h1, h2, h3, h4, h5⟩ := atI_get he
  obtain ⟨w, ew, rw'⟩ := r.get h2
  have hl := r.length
  have hn := line63
  have fin : EP X pins σ Q w s := ⟨z, H, I, rw', q⟩
  exact subscriptTail_builtinR (x := w) pl.typeIs slot_tuple_getitem.lookup
    (getItem_tuple (j := j) (Q := fun r s' => r = w ∧ EP X pins σ Q r s') pl (by omega) (by omega) (by rw [List.size_toArray, ← hl]; exact h1) (by simpa using ew) ⟨rfl, fin⟩) hs
theorem ix_str : IxR X rIxS := by
  intro value slice pins s σ H x y v u Q I rx ry h hs
  obtain ⟨z, i, c, rfl, rfl, hz, he, q⟩ := h
  obtain ⟨t, rfl⟩ := rx
  obtain ⟨t', rfl⟩ := ry
  obtain ⟨j, h1, h2, h3, h4, h5⟩ := atI_get he
  have hl : z.cps.toList.length = z.length := by simp [Str.length]
  rw [hl] at h1 h4 h5
  have hn := line63
  exact tail_any (typeIs_str s z t) slot_str_getitem.lookup (getItem_str (c := c) (by
    have e1 : decide (i < -(2 ^ 63 : Int)) = false := decide_eq_false (by omega)
    have e2 : decide (i ≥ 2 ^ 63) = false := decide_eq_false (by omega)
    rw [e1, e2, Bool.or_false]) (by rw [h1]; simpa using h2) ⟨.str ⟨#[c]⟩, H, I.tok _, ⟨_, rfl⟩, q⟩) hs
/-- list, tuple or str -/
def rIx (K : PySem.W.Frag) : R2 := fun x y H Q => rIxL K x y H Q ∨ rIxT K x y H Q ∨ rIxS x y H Q
theorem ix_seq : IxR X (rIx X.K) := ix_list.or (ix_tup.or ix_str)

/-! ### xs[i] = v, any sign -/
/-- the list's object behind a store -/
theorem mapSeq_set (its : List Value) (n j : Nat) (u : Value) : Obj.mapSeq (·.setIfInBounds j u) { cls := .type "list", data := .seq its.toArray n } = { cls := .type "list", data := .seq (its.set j u).toArray n } := by
  simp [Obj.mapSeq]
theorem Inv.lst {pins : List (Addr × Obj)} {σ : St} {H : Hp} {s : Shared} {p : Addr} {xs : List V} (I : Inv X pins σ H s) (h : H p = some (.lst xs)) :
    ∃ (its : List Value) (n : Nat), Vals xs its ∧ s.heap.get? p = some { cls := .type "list", data := .seq its.toArray n } ∧ xs.length ≤ sizeLine := by
  obtain ⟨z, its, n, r, e⟩ := I.hok p _ h
  exact ⟨its, n, r, e, z⟩
/-- the list at p is written by an update of its object -/
theorem Inv.lstUpd {pins : List (Addr × Obj)} {σ : St} {H : Hp} {s : Shared} {p : Addr} {xs ys : List V} {its its' : List Value} {n n' : Nat} {f : Obj → Obj} (I : Inv X pins σ H s) (h : H p = some (.lst xs))
    (ho : s.heap.get? p = some { cls := .type "list", data := .seq its.toArray n }) (hf : f { cls := .type "list", data := .seq its.toArray n } = { cls := .type "list", data := .seq its'.toArray n' }) (r : Vals ys its') (hz : ys.length ≤ sizeLine) (t : Nat) :
    Inv X pins σ (upd H p (.lst ys)) { s with heap := s.heap.update p f, toks := t } := by
  have e : (s.heap.update p f).get? p = some { cls := .type "list", data := .seq its'.toArray n' } := by
    rw [Heap.get?_update_self f ho (by rw [hf] <;> rfl), hf]
  refine I.write (x := p) (e := p) (by rw [h]; trivial) (.inl rfl) (fun b u hb q => (Heap.get?_update_other _ _ (Ne.symm hb)).trans q) ⟨_, e⟩ ?_
  exact ⟨hz, its', n', r, e⟩
def rSetL : V → V → V → Hp → (Hp → Prop) → Prop := fun o i v H Q => ∃ p xs k j, o = .ref p ∧ i = .int k ∧ H p = some (.lst xs) ∧ ixN xs.length k = some j ∧ Q (upd H p (.lst (xs.set j v)))
theorem set_list : PSet X rSetL := by
  intro pins s σ H o i v ov iv u Q I ro ri rv h
  obtain ⟨p, xs, k, j, rfl, rfl, hp, hj, q⟩ := h
  cases ro
  obtain ⟨t, rfl⟩ := ri
  obtain ⟨its, n, r, ho, hz⟩ := I.lst hp
  obtain ⟨h1, h2, h3, h4⟩ := ixN_seq hj
  have hl := r.length
  have hn := line63
  have I' : Inv X pins σ (upd H p (.lst (xs.set j v))) { s with heap := s.heap.update p (Obj.mapSeq (·.setIfInBounds j u)) } :=
    I.lstUpd hp ho (mapSeq_set its n j u) (r.set rv j) (by rw [List.length_set]; exact hz) s.toks
  by_cases h0 : 0 ≤ k
  · have hk : k.toNat = j := by
      rw [seqIndex_of h0 h4] at h1
      exact Option.some.inj h1
    exact PySem.W.ki_setAt ho h0 (by omega) (by rw [List.size_toArray, ← hl]; exact h4) (by rw [hk]; exact ⟨_, I', q⟩)
  · have hk : (k + (its.toArray.size : Int)).toNat = j := by
      rw [seqIndex_neg (by omega) h3] at h1
      rw [List.size_toArray, ← hl]
      exact Option.some.inj h1
    exact PySem.W.ki_setBack ho (by omega) (by rw [List.size_toArray, ← hl]; exact h3) (by omega) (by rw [hk]; exact ⟨_, I', q⟩)

/-! ### slices -/
theorem slice_bounds (lo hi : Option Int) (n : Nat) : (sliceBounds lo hi none n).1 = ((HT.sIx n 0 lo : Nat) : Int) ∧ (sliceBounds lo hi none n).2.1 = ((HT.sIx n n hi : Nat) : Int) ∧ (sliceBounds lo hi none n).2.2 = 1 := by
  refine ⟨?_, ?_, rfl⟩
  · cases lo with
    | none => simp [sliceBounds, HT.sIx]
    | some i =>
      simp only [sliceBounds, HT.sIx, Option.getD_none, show (1 : Int) > 0 by decide, if_true]
      by_cases h : i < 0
      · simp only [h, if_true] <;> omega
      · simp only [h, if_false] <;> omega
  · cases hi with
    | none => simp [sliceBounds, HT.sIx]
    | some i =>
      simp only [sliceBounds, HT.sIx, Option.getD_none, show (1 : Int) > 0 by decide, if_true]
      by_cases h : i < 0
      · simp only [h, if_true] <;> omega
      · simp only [h, if_false] <;> omega
theorem slicePick_cut (its : List Value) (lo hi : Option Int) : slicePick its.toArray lo hi none = ((its.drop (HT.sIx its.length 0 lo)).take (HT.sIx its.length its.length hi - HT.sIx its.length 0 lo)).toArray := by
  obtain ⟨h1, h2, h3⟩ := slice_bounds lo hi its.toArray.size
  unfold slicePick
  rw [h1, h2, h3]
  simp only [sliceRange_one, pick_run, List.size_toArray] <;> rfl
/-- xs[lo:hi] of a list: a new list -/
def rSlL (K : PySem.W.Frag) : V → Option Int → Option Int → Hp → VK → Prop := fun x lo hi H Q => ∃ a xs, x = .ref a ∧ SqL K H a xs ∧ ∀ p, H p = none → Q (.ref p) (upd H p (.lst (cutV xs lo hi)))
theorem sl_list : SlR X (rSlL X.K) := by
  intro pins s σ H x v vl vu lo hi sl Q I rx hs pl pu h
  obtain ⟨a, xs, rfl, hx, q⟩ := h
  cases rx
  obtain ⟨its, r, ht, hz⟩ := I.list hx
  have hlen := r.length
  refine ⟨"list", _, slot_list_getitem.lookup, ht.isList.typeIs, ?_⟩
  refine wpAny_getItem_list_slice ht.isList hs pl pu .none (by simp) ?_ (by rw [List.size_toArray] <;> omega)
  rw [slicePick_cut, ← hlen]
  refine ⟨.ref s.heap.objs.size, _, I.laid (t' := s.toks) (o := .lst (cutV xs lo hi)) (fun b ob q => Heap.get?_push_of_some _ q) (Nat.le_refl _) ?_, rfl, q _ (I.hok.fresh (Nat.le_refl _))⟩
  exact ⟨Nat.le_trans (cutV_length xs lo hi) hz, _, 0, (r.drop (HT.sIx xs.length 0 lo)).take (HT.sIx xs.length xs.length hi - HT.sIx xs.length 0 lo), Heap.get?_push_size _ rfl⟩

/-! ### in, not in: flat items -/
def flatV : V → Bool
  | .non => true
  | .bl _ => true
  | .int _ => true
  | .str _ => true
  | _ => false
/-- == of flat values -/
def eqV : V → V → Bool
  | .non, .non => true
  | .bl a, .bl b => a == b
  | .bl a, .int b => (if a then 1 else 0) == b
  | .int a, .bl b => a == (if b then 1 else 0)
  | .int a, .int b => a == b
  | .str a, .str b => a == b
  | _, _ => false
theorem eqAt_V {A : Around} {s : Shared} {y x : V} {u v : Value} (ry : RelV y u) (rx : RelV x v) (fy : flatV y = true) (fx : flatV x = true) : SeqAt.EqAt A s u v (eqV y x) := by
  cases y with
  | non =>
    cases ry
    cases x with
    | non => cases rx; exact SeqAt.EqAt.same _
    | bl b => cases rx; exact SeqAt.EqAt.none_bool b
    | int b => obtain ⟨t, rfl⟩ := rx; exact SeqAt.EqAt.none_int b t
    | str b => obtain ⟨t, rfl⟩ := rx; exact SeqAt.EqAt.none_str b t
    | _ => exact absurd (show false = true from fx) Bool.false_ne_true
  | bl a =>
    cases ry
    cases x with
    | non => cases rx; exact SeqAt.EqAt.bool_none a
    | bl b => cases rx; exact SeqAt.EqAt.bool_bool a b
    | int b => obtain ⟨t, rfl⟩ := rx; exact SeqAt.EqAt.bool_int a b t
    | str b => obtain ⟨t, rfl⟩ := rx; exact SeqAt.EqAt.bool_str a b t
    | _ => exact absurd (show false = true from fx) Bool.false_ne_true
  | int a =>
    obtain ⟨t', rfl⟩ := ry
    cases x with
    | non => cases rx; exact SeqAt.EqAt.int_none a t'
    | bl b => cases rx; exact SeqAt.EqAt.int_bool a t' b
    | int b => obtain ⟨t, rfl⟩ := rx; exact SeqAt.EqAt.int_int a t' b t
    | str b => obtain ⟨t, rfl⟩ := rx; exact SeqAt.EqAt.int_str a t' b t
    | _ => exact absurd (show false = true from fx) Bool.false_ne_true
  | str a =>
    obtain ⟨t', rfl⟩ := ry
    cases x with
    | non => cases rx; exact SeqAt.EqAt.str_none a t'
    | bl b => cases rx; exact SeqAt.EqAt.str_bool a t' b
    | int b => obtain ⟨t, rfl⟩ := rx; exact SeqAt.EqAt.str_int a t' b t
    | str b => obtain ⟨t, rfl⟩ := rx; exact SeqAt.EqAt.str_str a t' b t
    | _ => exact absurd (show false = true from fx) Bool.false_ne_true
  | _ => exact absurd (show false = true from fy) Bool.false_ne_true
/-- the items' answers, read off the values (a value's own answer does not lean on its token) -/
def eqU (x : V) (u : Value) : Bool := match u with
  | .none => eqV .non x
  | .bool b => eqV (.bl b) x
  | .int i _ => eqV (.int i) x
  | .str z _ => eqV (.str z) x
  | _ => false
theorem eqU_of {x y : V} {u : Value} (r : RelV y u) (f : flatV y = true) : eqU x u = eqV y x := by
  cases y with
  | non => cases r; rfl
  | bl b => cases r; rfl
  | int i => obtain ⟨t, rfl⟩ := r; rfl
  | str z => obtain ⟨t, rfl⟩ := r; rfl
  | _ => exact absurd (show false = true from f) Bool.false_ne_true
theorem any_eqU {x : V} : ∀ {xs : List V} {us : List Value}, Vals xs us → xs.all flatV = true → us.any (eqU x) = xs.any fun y => eqV y x
  | _, _, .nil, _ => rfl
  | y :: xs, u :: us, .cons r t, f => by
    rw [List.all_cons, Bool.and_eq_true] at f
    rw [List.any_cons, List.any_cons, eqU_of r f.1, any_eqU t f.2]
theorem mem_eqAt {A : Around} {s : Shared} {x : V} {v : Value} (rx : RelV x v) (fx : flatV x = true) : ∀ {xs : List V} {us : List Value}, Vals xs us → xs.all flatV = true → ∀ u ∈ us, SeqAt.EqAt A s u v (eqU x u)
  | _, _, .nil, _ => fun u hu => by cases hu
  | y :: xs, u :: us, .cons r t, f => fun u' hu => by
    rw [List.all_cons, Bool.and_eq_true] at f
    rcases List.mem_cons.mp hu with rfl | hu
    · rw [eqU_of r f.1]; exact eqAt_V r rx f.1 fx
    · exact mem_eqAt rx fx t f.2 u' hu
def inV (x : V) (xs : List V) : Bool := xs.any fun y => eqV y x
/-- x in a list or tuple of flat items -/
def rIn (K : PySem.W.Frag) (neg : Bool) : R2 := fun x y H Q => ∃ p xs, y = .ref p ∧ (SqL K H p xs ∨ SqT K H p xs) ∧ flatV x = true ∧ xs.all flatV = true ∧ Q (.bl (if neg then !inV x xs else inV x xs)) H
theorem op_in_seq : OpR X (compareOp .In) (rIn X.K false) := by
  intro pins s σ H x y v u Q I rx ry h
  obtain ⟨p, xs, rfl, hq, fx, fs, q⟩ := h
  cases ry
  rcases hq with hq | hq
  · obtain ⟨its, r, pl, hz⟩ := I.list hq
    refine SeqAt.in_listAt (eqU x) pl.isList (fun w hw => mem_eqAt rx fx r fs w (by simpa using hw)) ⟨.bl _, H, I, rfl, ?_⟩
    rw [show its.toArray.any (eqU x) = its.any (eqU x) by simp, any_eqU r fs]
    exact q
  · obtain ⟨its, r, pl, hz⟩ := I.tuple hq
    refine SeqAt.in_tupleAt (eqU x) pl (fun w hw => mem_eqAt rx fx r fs w (by simpa using hw)) ⟨.bl _, H, I, rfl, ?_⟩
    rw [show its.toArray.any (eqU x) = its.any (eqU x) by simp, any_eqU r fs]
    exact q
theorem op_notIn_seq : OpR X (compareOp .NotIn) (rIn X.K true) := by
  intro pins s σ H x y v u Q I rx ry h
  obtain ⟨p, xs, rfl, hq, fx, fs, q⟩ := h
  cases ry
  rcases hq with hq | hq
  · obtain ⟨its, r, pl, hz⟩ := I.list hq
    refine SeqAt.notIn_listAt (eqU x) pl.isList (fun w hw => mem_eqAt rx fx r fs w (by simpa using hw)) ⟨.bl _, H, I, rfl, ?_⟩
    rw [show its.toArray.any (eqU x) = its.any (eqU x) by simp, any_eqU r fs]
    exact q
  · obtain ⟨its, r, pl, hz⟩ := I.tuple hq
    refine SeqAt.notIn_tupleAt (eqU x) pl (fun w hw => mem_eqAt rx fx r fs w (by simpa using hw)) ⟨.bl _, H, I, rfl, ?_⟩
    rw [show its.toArray.any (eqU x) = its.any (eqU x) by simp, any_eqU r fs]
    exact q
theorem op_notIn_str : OpR X (compareOp .NotIn) (fun x y H Q => ∃ i j, x = .str i ∧ y = .str j ∧ Q (.bl (!(!(Builtin.Str.occurrences j i 0 j.length 1).isEmpty))) H) := by
  intro pins s σ H x y v u Q I rx ry h
  obtain ⟨i, j, rfl, rfl, q⟩ := h
  obtain ⟨t, rfl⟩ := rx
  obtain ⟨t', rfl⟩ := ry
  exact notIn_str ⟨.bl _, H, I, rfl, q⟩

/-! ### len, list(x), tuple(x) of any list or tuple that is read -/
theorem call_len_seq : CallR X (.builtin "len") (fun xs H Q => ∃ p ys, xs = [.ref p] ∧ (SqL X.K H p ys ∨ SqT X.K H p ys) ∧ Q (.int ys.length) H) := by
  intro pins s σ H xs us Q I r h
  obtain ⟨p, ys, rfl, hq, q⟩ := h
  obtain ⟨u, rfl, rx⟩ := vals1 r
  cases rx
  have hn := line63
  rcases hq with hq | hq
  · obtain ⟨its, r', pl, hz⟩ := I.list hq
    have hlen := r'.length
    exact Calls.call_len_list pl.isList (by simp only [List.size_toArray] <;> omega) ⟨.int ys.length, H, I.tok _, ⟨s.toks + 1, by rw [List.size_toArray, hlen]⟩, q⟩
  · obtain ⟨its, r', pl, hz⟩ := I.tuple hq
    have hlen := r'.length
    exact len_tuple pl (by simp only [List.size_toArray] <;> omega) ⟨.int ys.length, H, I.tok _, ⟨s.toks + 1, by rw [List.size_toArray, hlen]⟩, q⟩
theorem call_len_str : CallR X (.builtin "len") (fun xs H Q => ∃ z, xs = [.str z] ∧ z.length ≤ sizeLine ∧ Q (.int z.length) H) := by
  intro pins s σ H xs us Q I r h
  obtain ⟨z, rfl, hz, q⟩ := h
  obtain ⟨u, rfl, t, rfl⟩ := vals1 r
  have hn := line63
  exact len_str (by omega) ⟨.int z.length, H, I.tok _, ⟨_, rfl⟩, q⟩
theorem CallR.or {f : Value} {r r' : List V → Hp → VK → Prop} (h : CallR X f r) (h' : CallR X f r') : CallR X f (fun xs H Q => r xs H Q ∨ r' xs H Q) := by
  intro pins s σ H xs us Q I rs q
  rcases q with q | q
  · exact h pins s σ H xs us Q I rs q
  · exact h' pins s σ H xs us Q I rs q
theorem call_list_of : CallR X (.type "list") (fun xs H Q => ∃ p ys, xs = [.ref p] ∧ (SqL X.K H p ys ∨ SqT X.K H p ys) ∧ ∀ l, H l = none → Q (.ref l) (upd H l (.lst ys))) := by
  intro pins s σ H xs us Q I r h
  obtain ⟨p, ys, rfl, hq, q⟩ := h
  obtain ⟨u, rfl, rx⟩ := vals1 r
  cases rx
  have fin : ∀ (its : List Value), Vals ys its → ys.length ≤ sizeLine → ∀ (h' : Heap) (c' : Nat), (∀ b o', s.heap.get? b = some o' → h'.get? b = some o') →
      h'.get? s.heap.objs.size = some { cls := .type "list", dict := none, data := .seq its.toArray c', slots := #[] } → EP X pins σ Q (.ref s.heap.objs.size) { s with heap := h' } := fun its r' hz h' c' kp e =>
    ⟨.ref s.heap.objs.size, _, I.laid (t' := s.toks) kp (Nat.le_refl _) (show ObjOk X.prog X.w _ h' _ (.lst ys) from ⟨hz, its, c', r', e⟩), rfl, q _ (I.hok.fresh (Nat.le_refl _))⟩
  rcases hq with hq | hq
  · obtain ⟨its, r', pl, hz⟩ := I.list hq
    have hlen := r'.length
    obtain ⟨o, ho, hc, n, hd⟩ := pl.isList
    exact call_list_seq p (.inl rfl) ho hc hd (fun h' c' kp e => fin its r' hz h' c' kp e) (by simp only [List.size_toArray] <;> omega)
  · obtain ⟨its, r', pl, hz⟩ := I.tuple hq
    have hlen := r'.length
    obtain ⟨o, ho, hc, n, hd⟩ := pl
    exact call_list_seq p (.inr rfl) ho hc hd (fun h' c' kp e => fin its r' hz h' c' kp e) (by simp only [List.size_toArray] <;> omega)
theorem call_tuple_of : CallR X (.type "tuple") (fun xs H Q => ∃ p ys, xs = [.ref p] ∧ ((SqL X.K H p ys ∧ ∀ l, H l = none → Q (.ref l) (upd H l (.tup ys))) ∨ (SqT X.K H p ys ∧ Q (.ref p) H))) := by
  intro pins s σ H xs us Q I r h
  obtain ⟨p, ys, rfl, h⟩ := h
  obtain ⟨u, rfl, rx⟩ := vals1 r
  cases rx
  rcases h with ⟨hq, q⟩ | ⟨hq, q⟩
  · obtain ⟨its, r', pl, hz⟩ := I.list hq
    have hlen := r'.length
    refine call_tuple_list pl.isList (fun h' kp => ?_) (by simp only [List.size_toArray] <;> omega)
    have I1 : Inv X pins σ H { s with heap := h' } := I.kept (t' := s.toks) kp
    have I2 : Inv X pins σ (upd H h'.objs.size (.tup ys)) { s with heap := h'.push { cls := .type "tuple", data := .seq its.toArray } } :=
      I1.laid (t' := s.toks) (fun b o e => Heap.get?_push_of_some _ e) (Nat.le_refl _) (show ObjOk X.prog X.w _ _ _ (.tup ys) from ⟨hz, its, r', IsTup.new _ _⟩)
    exact ⟨.ref h'.objs.size, _, I2, rfl, q _ (I1.hok.fresh (Nat.le_refl _))⟩
  · obtain ⟨its, r', pl, hz⟩ := I.tuple hq
    exact call_tuple_same pl ⟨.ref p, H, I, rfl, q⟩

/-! ### the call of a builtin's method: o.m(..) -/
/-- the value is of that builtin type -/
def tyV (K : PySem.W.Frag) (T : String) (x : V) (H : Hp) : Prop := match x with
  | .str _ => T = "str"
  | .int _ => T = "int"
  | .ref p => (T = "list" ∧ ∃ xs, SqL K H p xs) ∨ (T = "tuple" ∧ ∃ o, K.lookup p = some o ∧ o.cls = .type "tuple" ∧ o.dict = none) ∨
      (T = "dict" ∧ ((∃ kvs, H p = some (.dK kvs)) ∨ ∃ kvs, H p = some (.dT kvs))) ∨ (T = "set" ∧ ∃ S n, H p = some (.set S n))
  | _ => False
theorem tyV_is {pins : List (Addr × Obj)} {σ : St} {H : Hp} {s : Shared} {T : String} {x : V} {v : Value} (I : Inv X pins σ H s) (r : RelV x v) (ty : tyV X.K T x H) :
    s.TypeIs v T ∧ ∀ a, v = .ref a → ∃ ob, s.heap.get? a = some ob ∧ ob.dict = none := by
  cases x with
  | str z =>
    obtain ⟨t, rfl⟩ := r
    cases (show T = "str" from ty)
    exact ⟨typeIs_str s z t, fun _ e => nomatch e⟩
  | int i =>
    obtain ⟨t, rfl⟩ := r
    cases (show T = "int" from ty)
    exact ⟨typeIs_int s i t, fun _ e => nomatch e⟩
  | ref p =>
    cases r
    rcases ty with ⟨rfl, xs, hq⟩ | ⟨rfl, o, hk, hc, hd⟩ | ⟨rfl, hk⟩ | ⟨rfl, S, n, hk⟩
    · obtain ⟨its, _, pl, _⟩ := I.list hq
      refine ⟨pl.isList.typeIs, fun a e => ?_⟩
      cases e
      obtain ⟨o, n, e, c, hd, _⟩ := pl
      exact ⟨o, e, hd⟩
    · refine ⟨⟨o, I.kIn p o hk, hc⟩, fun a e => ?_⟩
      cases e
      exact ⟨o, I.kIn _ o hk, hd⟩
    · have z : ∃ o, s.heap.get? p = some o ∧ o.ExactDict := by
        rcases hk with ⟨kvs, hk⟩ | ⟨kvs, hk⟩
        · obtain ⟨_, _, _, _, o, _, _, e, ex, _⟩ := I.hok p _ hk
          exact ⟨o, e, ex⟩
        · obtain ⟨_, _, _, _, o, _, _, e, ex, _⟩ := I.hok p _ hk
          exact ⟨o, e, ex⟩
      obtain ⟨o, e, ex⟩ := z
      refine ⟨⟨o, e, ex.1⟩, fun a e2 => ?_⟩
      cases e2
      exact ⟨o, e, ex.2.1⟩
    · obtain ⟨o, _, _, _, e, ex, _⟩ := I.hok p _ hk
      refine ⟨⟨o, e, ex.1⟩, fun a e2 => ?_⟩
      cases e2
      exact ⟨o, e, ex.2.1⟩
  | _ => exact False.elim ty
def tBM0 (K : PySem.W.Frag) (T : String) (r : V → List V → Hp → VK → Prop) (to : TE) : TE := fun σ H Q => to σ H fun x H1 => tyV K T x H1 ∧ r x [] H1 Q
def tBM (K : PySem.W.Frag) (T : String) (r : V → List V → Hp → VK → Prop) (to : TE) (t : TA) : TE := fun σ H Q => to σ H fun x H1 => tyV K T x H1 ∧ t σ H1 fun xs H2 => r x xs H2 Q
variable {o e : Expr} {es : List Expr} {to : TE} {t : TA} {name : Str} {apos cpos : Pos} {T id : String} {r : V → List V → Hp → VK → Prop}
theorem pe_bm0 (pa : PlainAttrs T) (slot : Slot T name id) (hty : typeOf (.builtin id) = pure (.type "method_descriptor")) (hm : MtR X id r) (ho : PE X o to)
    (hbase : attributeBase o name X.env (eval o X.env) = eval o X.env := by rfl) (hline : (apos.endLine == cpos.line) = true := by rfl) : PE X (.Call (.Attribute o name apos) [] [] cpos) (tBM0 X.K T r to) := by
  intro pins s σ H Q I h
  refine wpAny_Call_method0_late hbase hline (thn (ho pins s σ H _ I h) fun v s1 ⟨x, H1, I1, r1, ty, q1⟩ => ?_)
  obtain ⟨h1, h2⟩ := tyV_is I1 r1 ty
  exact ⟨T, id, pa, slot, hty, h1, h2, Calls.callWith_builtin rfl (PySem.evalArgs_none (hm pins s1 σ H1 x [] v [] Q I1 r1 .nil q1))⟩
theorem pe_bm (pa : PlainAttrs T) (slot : Slot T name id) (hty : typeOf (.builtin id) = pure (.type "method_descriptor")) (hm : MtR X id r) (ho : PE X o to) (ha : PA X (e :: es) t)
    (hbase : attributeBase o name X.env (eval o X.env) = eval o X.env := by rfl)
    (hfew : ((backTo cpos (starEach (e :: es) X.env)).all (fun x => !x.1) && (backToKw cpos (keywordEach [] X.env)).all (fun x => x.1.isSome)
      && decide ((e :: es).length + ([] : List Keyword).length + (if ([] : List Keyword).isEmpty then 0 else 1) < 30)) = true := by rfl)
    (hline : (apos.endLine == cpos.line) = true := by rfl) (hs : starEach (e :: es) X.env = (false, eval e X.env) :: starEach es X.env := by rfl) (hplain : (backTo cpos (starEach es X.env)).any (·.1) = false := by rfl) :
    PE X (.Call (.Attribute o name apos) (e :: es) [] cpos) (tBM X.K T r to t) := by
  intro pins s σ H Q I h
  refine wpAny_Call_method_late hbase hfew hline rfl (thn (ho pins s σ H _ I h) fun v s1 ⟨x, H1, I1, r1, ty, q1⟩ => ?_)
  obtain ⟨h1, h2⟩ := tyV_is I1 r1 ty
  refine ⟨T, id, pa, slot, hty, h1, h2, ?_⟩
  have hA := ha cpos pins s1 σ H1 _ I1 q1
  rw [hs] at hA ⊢
  refine Calls.callWith_builtin (by show (false || (backTo cpos (starEach es X.env)).any (·.1)) = false; rw [hplain] <;> rfl) (Calls.evalArgs_plain ?_)
  exact thn hA fun us s2 ⟨vs, H2, I2, r2, q2⟩ => hm pins s2 σ H2 x vs v us Q I2 r1 r2 q2
/- xs.append(e), list.index on a module's tuple .. are MtR facts of 06m -/
end
end L2

namespace L2
open PySem PySem.Spec PyProof.Rows

def MtM (X : Cx) (id : String) (r : V → List V → Hp → VK → Prop) : Prop :=
  ∀ (pins : List (Addr × Obj)) (s : Shared) (σ : St) (H : Hp) (x : V) (xs : List V) (v : Value) (us : List Value) (Q : VK), Inv X pins σ H s → RelV x v → Vals xs us → r x xs H Q →
    wpAny (model X.prog X.w) X.A (call (.builtin id) (v :: us)) (EP X pins σ Q) X.xe s

/-! ### lists of values -/
theorem Vals.one : ∀ {x : V} {us : List Value}, Vals [x] us → ∃ u, us = [u] ∧ RelV x u
  | _, _, .cons r .nil => ⟨_, rfl, r⟩
theorem Vals.two : ∀ {x y : V} {us : List Value}, Vals [x, y] us → ∃ u v, us = [u, v] ∧ RelV x u ∧ RelV y v
  | _, _, _, .cons r (.cons q .nil) => ⟨_, _, rfl, r, q⟩
theorem Vals.zero : ∀ {us : List Value}, Vals [] us → us = []
  | _, .nil => rfl
theorem Vals.dropLast {xs : List V} {us : List Value} (h : Vals xs us) : Vals xs.dropLast us.dropLast := by
  induction h with
  | nil => exact .nil
  | cons r t ih =>
    cases t with
    | nil => exact .nil
    | cons q t' => exact .cons r ih
theorem Vals.eraseIdx : ∀ {xs : List V} {us : List Value} (i : Nat), Vals xs us → Vals (xs.eraseIdx i) (us.eraseIdx i)
  | _, _, _, .nil => .nil
  | _, _, 0, .cons _ t => t
  | _, _, i + 1, .cons r t => .cons r (Vals.eraseIdx i t)
theorem Vals.reverse {xs : List V} {us : List Value} (h : Vals xs us) : Vals xs.reverse us.reverse := by
  induction h with
  | nil => exact .nil
  | cons r t ih => rw [List.reverse_cons, List.reverse_cons]; exact Vals.append ih (.cons r .nil)
theorem Vals.rep {xs : List V} {us : List Value} (h : Vals xs us) : ∀ k : Nat, Vals (List.replicate k xs).flatten (List.replicate k us).flatten
  | 0 => .nil
  | k + 1 => by
    rw [List.replicate_succ, List.replicate_succ, List.flatten_cons, List.flatten_cons]
    exact Vals.append h (Vals.rep h k)
theorem erase_last {α : Type} (l : List α) : l.eraseIdx (l.length - 1) = l.dropLast := by
  induction l with
  | nil => rfl
  | cons a r ih =>
    cases r with
    | nil => rfl
    | cons b r =>
      have e : (a :: b :: r).length - 1 = ((b :: r).length - 1) + 1 := by
        have h1 : (a :: b :: r).length = r.length + 2 := rfl
        have h2 : (b :: r).length = r.length + 1 := rfl
        omega
      rw [e, List.eraseIdx_cons_succ, ih]
      all_goals rfl
theorem len_erase {α : Type} : ∀ (l : List α) (i : Nat), (l.eraseIdx i).length ≤ l.length
  | [], _ => Nat.le_refl _
  | _ :: _, 0 => Nat.le_succ _
  | _ :: r, i + 1 => Nat.succ_le_succ (len_erase r i)
theorem foldl_rep (its : List Value) : ∀ (k : Nat) (acc : List Value),
    List.foldl (fun x1 x2 => x1 ++ x2) acc.toArray (List.replicate k its.toArray) = (acc ++ (List.replicate k its).flatten).toArray
  | 0, acc => by simp
  | k + 1, acc => by
    have e : acc.toArray ++ its.toArray = (acc ++ its).toArray := by simp
    have e2 : (acc ++ its) ++ (List.replicate k its).flatten = acc ++ (List.replicate (k + 1) its).flatten := by
      rw [List.replicate_succ, List.flatten_cons, List.append_assoc]
    rw [← e2, ← foldl_rep its k (acc ++ its), ← e, List.replicate_succ, List.foldl_cons]

section
variable {X : Cx} {pins : List (Addr × Obj)} {σ : St} {H : Hp} {s : Shared} {l b : Addr} {xs ys zs : List V}

/-! ### the two steps: a tracked list is rewritten, a new list is laid -/
theorem Inv.lset {its its' : List Value} {n : Nat} {f : Array Value → Array Value} {t' : Nat} (I : Inv X pins σ H s) (hH : H l = some (.lst xs))
    (e : s.heap.get? l = some { cls := .type "list", data := .seq its.toArray n }) (hf : f its.toArray = its'.toArray) (hv : Vals ys its') (hz : ys.length ≤ sizeLine) :
    Inv X pins σ (upd H l (.lst ys)) { s with heap := s.heap.update l (Obj.mapSeq f), toks := t' } := by
  have q := PySem.IsL.update e f
  rw [hf] at q
  refine I.write (x := l) (e := l) (by rw [hH]; exact trivial) (.inl rfl) (fun b' u hb hu => (Heap.get?_update_other s.heap (Obj.mapSeq f) (Ne.symm hb)).trans hu) ⟨_, q⟩ ?_
  exact ⟨hz, its', _, hv, q⟩
theorem Inv.lnew {its : List Value} {t' : Nat} (I : Inv X pins σ H s) (hv : Vals ys its) (hz : ys.length ≤ sizeLine) :
    Inv X pins σ (upd H s.heap.objs.size (.lst ys)) { s with heap := s.heap.push { cls := .type "list", data := .seq its.toArray }, toks := t' } :=
  I.laid (fun _ _ q => Heap.get?_push_of_some _ q) (Nat.le_refl _) ⟨hz, its, 0, hv, Heap.get?_push_size _ rfl⟩
theorem Inv.fresh (I : Inv X pins σ H s) : H s.heap.objs.size = none := I.hok.fresh (Nat.le_refl _)
theorem Inv.lstM (I : Inv X pins σ H s) (hH : H l = some (.lst xs)) : xs.length ≤ sizeLine ∧ ∃ (its : List Value) (n : Nat), Vals xs its ∧ xs.length = its.length ∧ s.heap.get? l = some { cls := .type "list", data := .seq its.toArray n } := by
  obtain ⟨z, its, n, r, e⟩ := I.hok l _ hH
  exact ⟨z, its, n, r, r.length, e⟩

theorem notLongL {n : Nat} (h : n ≤ sizeLine) : Builtin.List.listTooLong n = false := by
  unfold Builtin.List.listTooLong
  exact decide_eq_false (by omega)
end

section
variable {X : Cx}

/-! ### methods -/
def rAppend : V → List V → Hp → VK → Prop := fun x vs H Q => ∃ l xs y, x = .ref l ∧ vs = [y] ∧ H l = some (.lst xs) ∧ xs.length < sizeLine ∧ Q .non (upd H l (.lst (xs ++ [y])))
theorem mt_append : MtM X "list.append" rAppend := by
  intro pins s σ H x vs v us Q I rx rv h
  obtain ⟨l, xs, y, rfl, rfl, hH, hz, q⟩ := h
  cases rx
  obtain ⟨u, rfl, ru⟩ := rv.one
  obtain ⟨z, its, n, r, hl, e⟩ := I.lstM hH
  refine call_meets F.slot_list_append ⟨_, e, rfl⟩ F.entry_list_append (F.args_list_append_2 _ _) (PySem.list_append l its.toArray n u (by rw [List.size_toArray]; omega)) ⟨e, ?_⟩
  refine ⟨.non, _, I.lset (its' := its ++ [u]) hH e (by simp) (r.append (.cons ru .nil)) ?_, rfl, q⟩
  rw [List.length_append, List.length_singleton]
  omega

def rExtend : V → List V → Hp → VK → Prop := fun x vs H Q => ∃ l b xs zs, x = .ref l ∧ vs = [.ref b] ∧ H l = some (.lst xs) ∧ H b = some (.lst zs) ∧ xs.length + zs.length ≤ sizeLine ∧ Q .non (upd H l (.lst (xs ++ zs)))
theorem mt_extend : MtM X "list.extend" rExtend := by
  intro pins s σ H x vs v us Q I rx rv h
  obtain ⟨l, b, xs, zs, rfl, rfl, hH, hB, hz, q⟩ := h
  cases rx
  obtain ⟨u, rfl, ru⟩ := rv.one
  cases ru
  obtain ⟨z, its, n, r, hl, e⟩ := I.lstM hH
  obtain ⟨z2, its2, n2, r2, hl2, e2⟩ := I.lstM hB
  have hsz : its.toArray.size + its2.toArray.size ≤ sizeLine := by rw [List.size_toArray, List.size_toArray]; omega
  have hlong : ¬ (!its.toArray.isEmpty && Builtin.List.listTooLong (its.toArray.size + its2.toArray.size)) = true := by
    rw [notLongL hsz, Bool.and_false]
    exact Bool.false_ne_true
  refine call_meets F.slot_list_extend ⟨_, e, rfl⟩ F.entry_list_extend (F.args_list_extend_2 _ _)
    (AutoSeq1.list_extend_list_list_0 l its.toArray n b its2.toArray n2 hlong (by rw [List.size_toArray]; omega) (by omega)) ⟨e, e2, ?_⟩
  refine ⟨.non, _, I.lset (its' := its ++ its2) hH e (by simp) (r.append r2) ?_, rfl, q⟩
  rw [List.length_append]
  omega

def rPop : V → List V → Hp → VK → Prop := fun x vs H Q => ∃ l xs y, x = .ref l ∧ vs = [] ∧ H l = some (.lst xs) ∧ xs[xs.length - 1]? = some y ∧ Q y (upd H l (.lst xs.dropLast))
theorem mt_pop : MtM X "list.pop" rPop := by
  intro pins s σ H x vs v us Q I rx rv h
  obtain ⟨l, xs, y, rfl, rfl, hH, hy, q⟩ := h
  cases rx
  have hus := rv.zero
  subst hus
  obtain ⟨z, its, n, r, hl, e⟩ := I.lstM hH
  obtain ⟨u, hu, ru⟩ := r.get hy
  have hy' : its.toArray[its.toArray.size - 1]? = some u := by
    show its.toArray[its.length - 1]? = some u
    rw [← Array.getElem?_toList, ← hl]
    exact hu
  refine call_meets F.slot_list_pop ⟨_, e, rfl⟩ F.entry_list_pop (F.args_list_pop_1 _) (MeetsSeq.list_pop_last l its.toArray n u hy' (by rw [List.size_toArray]; omega)) ⟨e, ?_⟩
  refine ⟨y, _, I.lset (its' := its.dropLast) hH e ?_ r.dropLast ?_, ru, q⟩
  · show its.toArray.eraseIdxIfInBounds (its.toArray.size - 1) = its.dropLast.toArray
    rw [List.size_toArray, List.eraseIdxIfInBounds_toArray, erase_last]
  · rw [List.length_dropLast]
    omega

def rPopAt : V → List V → Hp → VK → Prop := fun x vs H Q => ∃ l xs i k y, x = .ref l ∧ vs = [.int i] ∧ H l = some (.lst xs) ∧ -(2 ^ 63) ≤ i ∧ i < 2 ^ 63 ∧ seqIndex? i xs.length = some k ∧ xs[k]? = some y ∧ Q y (upd H l (.lst (xs.eraseIdx k)))
theorem mt_popAt : MtM X "list.pop" rPopAt := by
  intro pins s σ H x vs v us Q I rx rv h
  obtain ⟨l, xs, i, k, y, rfl, rfl, hH, h1, h2, hk, hy, q⟩ := h
  cases rx
  obtain ⟨u, rfl, ru⟩ := rv.one
  obtain ⟨t, rfl⟩ := ru
  obtain ⟨z, its, n, r, hl, e⟩ := I.lstM hH
  obtain ⟨w, hw, rw'⟩ := r.get hy
  refine call_meets F.slot_list_pop ⟨_, e, rfl⟩ F.entry_list_pop (F.args_list_pop_2 _ _)
    (MeetsSeq.list_pop_at l its.toArray n i t k w (fitsIndex_both h1 h2) (by rw [List.size_toArray, ← hl]; exact hk) (by rw [← Array.getElem?_toList]; exact hw) (by rw [List.size_toArray]; omega)) ⟨e, ?_⟩
  refine ⟨y, _, I.lset (its' := its.eraseIdx k) hH e ?_ (r.eraseIdx k) ?_, rw', q⟩
  · show its.toArray.eraseIdxIfInBounds k = (its.eraseIdx k).toArray
    rw [List.eraseIdxIfInBounds_toArray]
  · have := len_erase xs k
    omega

def rReverse : V → List V → Hp → VK → Prop := fun x vs H Q => ∃ l xs, x = .ref l ∧ vs = [] ∧ H l = some (.lst xs) ∧ Q .non (upd H l (.lst xs.reverse))
theorem mt_reverse : MtM X "list.reverse" rReverse := by
  intro pins s σ H x vs v us Q I rx rv h
  obtain ⟨l, xs, rfl, rfl, hH, q⟩ := h
  cases rx
  have hus := rv.zero
  subst hus
  obtain ⟨z, its, n, r, hl, e⟩ := I.lstM hH
  refine call_meets F.slot_list_reverse ⟨_, e, rfl⟩ F.entry_list_reverse (F.args_list_reverse_1 _) (AutoSeq1.list_reverse_list_0 l its.toArray n (by rw [List.size_toArray]; omega)) ⟨e, ?_⟩
  refine ⟨.non, _, I.lset (its' := its.reverse) hH e (by simp) r.reverse ?_, rfl, q⟩
  rw [List.length_reverse]
  omega

def rClear : V → List V → Hp → VK → Prop := fun x vs H Q => ∃ l xs, x = .ref l ∧ vs = [] ∧ H l = some (.lst xs) ∧ Q .non (upd H l (.lst []))
theorem mt_clear : MtM X "list.clear" rClear := by
  intro pins s σ H x vs v us Q I rx rv h
  obtain ⟨l, xs, rfl, rfl, hH, q⟩ := h
  cases rx
  have hus := rv.zero
  subst hus
  obtain ⟨z, its, n, r, hl, e⟩ := I.lstM hH
  refine call_meets F.slot_list_clear ⟨_, e, rfl⟩ F.entry_list_clear (F.args_list_clear_1 _) (AutoSeq1.list_clear_list_0 l its.toArray n (by rw [List.size_toArray]; omega)) ⟨e, ?_⟩
  exact ⟨.non, _, I.lset (its' := []) (ys := []) hH e rfl .nil (Nat.zero_le _), rfl, q⟩

/-! ### list + list, list += list, list * int -/
def rCat : R2 := fun x y H Q => ∃ l b xs zs, x = .ref l ∧ y = .ref b ∧ H l = some (.lst xs) ∧ H b = some (.lst zs) ∧ xs.length + zs.length ≤ sizeLine ∧ ∀ p, H p = none → Q (.ref p) (upd H p (.lst (xs ++ zs)))
theorem op_cat : OpR X (binaryOp .Add) rCat := by
  intro pins s σ H x y v u Q I rx ry h
  obtain ⟨l, b, xs, zs, rfl, rfl, hH, hB, hz, q⟩ := h
  cases rx
  cases ry
  obtain ⟨z, its, n, r, hl, e⟩ := I.lstM hH
  obtain ⟨z2, its2, n2, r2, hl2, e2⟩ := I.lstM hB
  refine PySem.P.add_list e e2 ?_ (by rw [List.size_toArray, List.size_toArray]; omega)
  have ea : its.toArray ++ its2.toArray = (its ++ its2).toArray := by simp
  rw [ea]
  exact ⟨.ref _, _, I.lnew (t' := s.toks) (r.append r2) (by rw [List.length_append]; omega), rfl, q _ I.fresh⟩
/-- a list times an int (a negative one is nothing) -/
def rRep : R2 := fun x y H Q => ∃ l k xs, x = .ref l ∧ y = .int k ∧ H l = some (.lst xs) ∧ -(2 ^ 63) ≤ k ∧ k < 2 ^ 63 ∧ xs.length * k.toNat ≤ sizeLine ∧
  ∀ p, H p = none → Q (.ref p) (upd H p (.lst (List.replicate k.toNat xs).flatten))
theorem len_rep {α : Type} (xs : List α) (k : Nat) : (List.replicate k xs).flatten.length = k * xs.length := by
  induction k with
  | zero => simp
  | succ k ih => rw [List.replicate_succ, List.flatten_cons, List.length_append, ih, Nat.succ_mul, Nat.add_comm]
theorem op_rep : OpR X (binaryOp .Mult) rRep := by
  intro pins s σ H x y v u Q I rx ry h
  obtain ⟨l, k, xs, rfl, rfl, hH, h1, h2, hz, q⟩ := h
  cases rx
  obtain ⟨t, rfl⟩ := ry
  obtain ⟨z, its, n, r, hl, e⟩ := I.lstM hH
  have hlen : its.toArray.size * k.toNat ≤ sizeLine := by rw [List.size_toArray, ← hl]; exact hz
  have hcap : ¬ its.toArray.size * k.toNat > (2 ^ 63 - 1) / 8 := by
    have : (sizeLine : Nat) ≤ (2 ^ 63 - 1) / 8 := by decide
    omega
  have hfit : ¬ (!Builtin.List.listFitsIndex k) = true := by
    rw [fitsIndex_both h1 h2]
    exact Bool.false_ne_true
  have hlong : ¬ Builtin.List.listTooLong (its.toArray.size * k.toNat) = true := by
    rw [notLongL hlen]
    exact Bool.false_ne_true
  have hnew : List.foldl (fun x1 x2 => x1 ++ x2) #[] (List.replicate (if its.toArray.isEmpty = true then 0 else k.toNat) its.toArray) = (List.replicate k.toNat its).flatten.toArray := by
    have f0 : ∀ m : Nat, List.foldl (fun x1 x2 => x1 ++ x2) #[] (List.replicate m its.toArray) = (List.replicate m its).flatten.toArray := fun m => by
      have := foldl_rep its m []
      rw [List.nil_append] at this
      exact this
    rw [f0]
    cases its with
    | nil => simp
    | cons a r' => rw [if_neg (by simp)]
  refine wpAny_binaryOp_repeat_ref (T := "list") (U := "int") (by decide) ⟨_, e, rfl⟩ (fun s' => typeIs_int s' k t) noFill_list_mul F.fills_int_mul F.slot_int_rmul repeat_list F.slot_int_index.lookup
    (call_meets F.slot_int_rmul (typeIs_int s k t) F.entry_int_rmul (F.args_int_rmul_2 _ _) (int___rmul___int_list k t l its.toArray n)
      ⟨e, rfl, ⟨_, e, rfl⟩, call_meets F.slot_list_mul ⟨_, e, rfl⟩ F.entry_list_mul (F.args_list_mul_2 _ _) (AutoListH.list___mul___list_int_3 l its.toArray n k t hfit hcap hlong) ⟨e, ?_⟩⟩)
  rw [hnew]
  exact ⟨.ref _, _, I.lnew (t' := s.toks) (r.rep k.toNat) (by rw [len_rep, Nat.mul_comm]; exact hz), rfl, q _ I.fresh⟩

/-! ### del xs[i] -/
theorem del_list {pins : List (Addr × Obj)} {s : Shared} {σ : St} {H : Hp} {l : Addr} {xs : List V} {i : Int} {t : Tok} {k : Nat} {Q : Unit → Shared → Prop} (I : Inv X pins σ H s) (hH : H l = some (.lst xs))
    (h1 : -(2 ^ 63) ≤ i) (h2 : i < 2 ^ 63) (hk : seqIndex? i xs.length = some k) (h : ∀ s', Inv X pins σ (upd H l (.lst (xs.eraseIdx k))) s' → Q () s') :
    wpAny (model X.prog X.w) X.A (delItem (.ref l) (.int i t)) Q X.xe s := by
  obtain ⟨z, its, n, r, hl, e⟩ := I.lstM hH
  refine PySem.P.delItem_list (k := k) e (fitsIndex_both h1 h2) (by rw [List.size_toArray, ← hl]; exact hk) (h _ ?_) (by rw [List.size_toArray]; omega)
  refine I.lset (its' := its.eraseIdx k) (t' := s.toks) hH e ?_ (r.eraseIdx k) ?_
  · show its.toArray.eraseIdxIfInBounds k = (its.eraseIdx k).toArray
    rw [List.eraseIdxIfInBounds_toArray]
  · have := len_erase xs k
    omega
end

/-! ### xs[a:b] = ys -/
section
variable {prog : Program} {w : World} {A : Around} {E : Value → Shared → Prop} {s : Shared}
theorem splice_eq (its its2 : List Value) (a c : Nat) : its.toArray.extract 0 a ++ its2.toArray ++ its.toArray.extract c its.toArray.size = (its.take a ++ its2 ++ its.drop c).toArray := by
  apply Array.toList_inj.mp
  first
    | (simp
       exact List.take_of_length_le (by simp))
    | simp [List.take_of_length_le]
    | simp
theorem bounds_run {a c n : Nat} (hac : a ≤ c) (hc : c ≤ n) : sliceBounds (some (a : Int)) (some (c : Int)) none n = ((a : Int), (c : Int), 1) := by
  simp only [sliceBounds, Option.getD_none]
  have h1 : ¬ ((a : Int) < 0) := by omega
  have h2 : ¬ ((c : Int) < 0) := by omega
  simp only [h1, h2, if_false, show (1 : Int) > 0 by decide, if_true]
  congr 1
  · omega
  · congr 1; omega
set_option maxRecDepth 100000 in
/-- list.__setitem__ with a slice of step one and another list -/
theorem setItem_slice {l b sl : Addr} {items new : Array Value} {n n2 : Nat} {vl vu : Value} {a c : Nat} {Q : Unit → Shared → Prop}
    (e : s.heap.get? l = some { cls := .type "list", data := .seq items n }) (e2 : s.heap.get? b = some { cls := .type "list", data := .seq new n2 }) (hne : l ≠ b)
    (hs : s.heap.IsSliceOf sl vl vu .none) (pl : IsPart vl (some (a : Int))) (pu : IsPart vu (some (c : Int))) (hac : a ≤ c) (hc : c ≤ items.size)
    (hsz : items.size + new.size ≤ sizeLine) (h : Q () { s with heap := s.heap.update l (Obj.mapSeq fun xs => xs.extract 0 a ++ new ++ xs.extract c xs.size) }) :
    wpAny (model prog w) A (setItem (.ref l) (.ref sl) (.ref b)) Q E s := by
  have hl : s.heap.IsList l items := PySem.IsL.isList e
  have hb : s.heap.IsList b new := PySem.IsL.isList e2
  obtain ⟨os, hos, hcs, hds⟩ := id hs
  have hTs : s.TypeIs (.ref sl) "slice" := ⟨os, hos, hcs⟩
  have hstep : ¬ ((rawPart none == rawInt 0) = true) := Bool.false_ne_true
  have hsame : Builtin.List.listSameRef (.ref l) (.ref b) = false := by
    unfold Builtin.List.listSameRef
    exact beq_eq_false_iff_ne.mpr hne
  have hmax : (max (a : Int) (c : Int)).toNat = c := by omega
  have hz' : ((fun xs : Array Value => xs.extract 0 a ++ new ++ xs.extract c xs.size) items).size ≤ sizeLine + 1 := by
    simp only [Array.size_append, Array.size_extract]
    omega
  unfold setItem
  try with_reducible refine wpAny_holding ?_
  first | refine wpAny_bind (wpAny_pure ?_) | skip
  refine wpAny_bind (wpAny_sequenceKey hl.typeIs (by decide) ?_)
  refine wpAny_bind (wpAny_callSpecial?_slot (name := Str.ofString "__setitem__") hl.typeIs slot_list_setitem
    (wpAny_call_entry slot_list_setitem hl.typeIs entry_list_setitem ?_ (args_list_setitem _ _ _)))
  show wpAny _ _ (Builtin.List.listSubscript? (.ref sl) >>= _) _ _ s
  refine wpAny_bind ?_
  unfold Builtin.List.listSubscript?
  refine wpAny_bind (wpAny_specialOf hTs slice_no_index ?_)
  simp only [Option.isNone_none, if_true]
  refine wpAny_pure ?_
  show wpAny _ _ (typeOf (.ref sl) >>= _) _ _ s
  refine wpAny_bind (wpAny_typeOf hTs ?_)
  first
    | rw [if_neg (by decide)]
    | refine PySem.W.KFB.if_not (by decide) ?_
  rw [listSliceParts_eq]
  refine wpAny_bind (wpAny_bind (wpAny_field hos hds (x := .none) rfl (wpAny_bind (wpAny_listPart .none ?_))))
  rw [if_neg hstep]
  refine wpAny_bind (wpAny_field hos hds (x := vl) rfl (wpAny_bind (wpAny_listPart pl ?_)))
  refine wpAny_bind (wpAny_field hos hds (x := vu) rfl (wpAny_bind (wpAny_listPart pu (wpAny_pure ?_))))
  first
    | simp only [hsame, Bool.false_eq_true, if_false]
    | refine PySem.W.KFB.if_not hsame ?_
    | (dsimp only
       rw [if_neg (by rw [hsame]; exact Bool.false_ne_true)])
  refine wpAny_bind (m := Builtin.List.listAllItems (.ref b) "must assign iterable to extended slice") ?_
  unfold Builtin.List.listAllItems
  refine wpAny_bind (wpAny_typeOf hb.typeIs ?_)
  first
    | refine PySem.W.KFB.if_so (by decide) ?_
    | rw [if_pos (by decide)]
    | simp only [beq_self_eq_true, Bool.true_or, if_true]
  unfold Builtin.List.listItems
  refine wpAny_bind (wpAny_seqItems e2 rfl (wpAny_pure ?_))
  refine wpAny_bind (wpAny_bind (wpAny_seqItems e rfl (wpAny_pure ?_)))
  refine wpAny_bind (wpAny_of_eq ((sliceIndices_raw (some (a : Int)) (some (c : Int)) none items.size (by simp)).trans (congrArg (pure : Int × Int × Int → Sem (Int × Int × Int)) (bounds_run hac hc))) ?_)
  show wpAny _ _ (if ((1 : Int) == 1) = true then _ else _) _ _ s
  rw [if_pos (by decide)]
  refine wpAny_bind (wpAny_rule ?_)
  first
    | simp only [notLongL hsz, Bool.false_eq_true, if_false]
    | refine PySem.W.KFB.if_not (notLongL hsz) ?_
  first | refine wpAny_bind (wpAny_pure ?_) | skip
  show wpAny _ _ (updateSeq l (fun xs => xs.extract 0 ((a : Int)).toNat ++ new ++ xs.extract (max (a : Int) (c : Int)).toNat xs.size) >>= _) _ _ s
  rw [hmax, Int.toNat_natCast]
  refine wpAny_bind (wpAny_updateSeq (hz := Nat.le_trans (Nat.le_add_right _ _) hsz) (_hz' := hz') e rfl ?_)
  refine wpAny_bind (wpAny_letGo ?_)
  first
    | exact wpAny_bind (wpAny_pure (wpAny_pure ⟨.none, rfl, wpAny_pure h⟩))
    | exact wpAny_pure ⟨.none, rfl, wpAny_pure h⟩
end

section
variable {X : Cx}
/-- xs[a:c] = ys of another list, at the value level: sl is the slice object that was just made -/
theorem set_slice {pins : List (Addr × Obj)} {s : Shared} {σ : St} {H : Hp} {l b sl : Addr} {xs ys : List V} {a c : Int} {vl vu : Value} {Q : Unit → Shared → Prop} (I : Inv X pins σ H s)
    (hH : H l = some (.lst xs)) (hB : H b = some (.lst ys)) (hne : l ≠ b) (hs : s.heap.IsSliceOf sl vl vu .none) (ra : RelV (.int a) vl) (rc : RelV (.int c) vu) (h0 : 0 ≤ a) (hac : a ≤ c) (hc : c ≤ xs.length)
    (hz : xs.length + ys.length ≤ sizeLine) (h : ∀ s', Inv X pins σ (upd H l (.lst (xs.take a.toNat ++ ys ++ xs.drop c.toNat))) s' → Q () s') :
    wpAny (model X.prog X.w) X.A (setItem (.ref l) (.ref sl) (.ref b)) Q X.xe s := by
  obtain ⟨ta, rfl⟩ := ra
  obtain ⟨tc, rfl⟩ := rc
  obtain ⟨z, its, n, r, hl, e⟩ := I.lstM hH
  obtain ⟨z2, its2, n2, r2, hl2, e2⟩ := I.lstM hB
  obtain ⟨a', rfl⟩ := Int.eq_ofNat_of_zero_le h0
  obtain ⟨c', rfl⟩ := Int.eq_ofNat_of_zero_le (Int.le_trans h0 hac)
  simp only [Int.toNat_natCast] at h
  refine setItem_slice (a := a') (c := c') e e2 hne hs (.int _ _) (.int _ _) (by omega) (by rw [List.size_toArray]; omega) (by rw [List.size_toArray, List.size_toArray]; omega) (h _ ?_)
  refine I.lset (its' := its.take a' ++ its2 ++ its.drop c') (t' := s.toks) hH e ?_ (Vals.append (Vals.append (r.take _) r2) (r.drop _)) ?_
  · exact splice_eq its its2 a' c'
  · rw [List.length_append, List.length_append, List.length_take, List.length_drop]
    omega
end
end L2

namespace L2
open PySem PySem.Spec PyProof.Rows

/-! ### lists of pairs as tables -/
section
variable {κ : Type} [DecidableEq κ]
def valV (kvs : List (κ × V)) (k : κ) : Option V := (kvs.find? fun kv => decide (kv.1 = k)).map (·.2)
/-- in its place, or at the end -/
def putK (kvs : List (κ × V)) (k : κ) (v : V) : List (κ × V) :=
  if (kvs.any fun kv => decide (kv.1 = k)) = true then kvs.map (fun kv => if kv.1 = k then (kv.1, v) else kv) else kvs ++ [(k, v)]
def dropK (kvs : List (κ × V)) (k : κ) : List (κ × V) := kvs.filter fun kv => decide (kv.1 ≠ k)

theorem valV_nil {k : κ} : valV ([] : List (κ × V)) k = none := rfl
theorem valV_pos {p : κ × V} {r : List (κ × V)} {k : κ} (e : p.1 = k) : valV (p :: r) k = some p.2 := by simp [valV, List.find?_cons, e]
theorem valV_neg {p : κ × V} {r : List (κ × V)} {k : κ} (e : ¬ p.1 = k) : valV (p :: r) k = valV r k := by simp [valV, List.find?_cons, e]
theorem valV_any (k : κ) : ∀ kvs : List (κ × V), (kvs.any fun kv => decide (kv.1 = k)) = (valV kvs k).isSome
  | [] => rfl
  | p :: r => by
    rw [List.any_cons]
    by_cases e : p.1 = k
    · simp only [valV_pos e, decide_eq_true e, Bool.true_or, Option.isSome_some]
    · rw [valV_neg e, decide_eq_false e, Bool.false_or]; exact valV_any k r
theorem valV_map (k j : κ) (y : V) : ∀ kvs : List (κ × V), valV (kvs.map fun kv => if kv.1 = k then (kv.1, y) else kv) j = (valV kvs j).map fun x => if j = k then y else x
  | [] => rfl
  | p :: r => by
    have ih := valV_map k j y r
    rw [List.map_cons]
    by_cases h : p.1 = k
    · rw [if_pos h]
      by_cases e : p.1 = j
      · rw [valV_pos (p := (p.1, y)) e, valV_pos e, Option.map_some, if_pos (e.symm.trans h)]
      · rw [valV_neg (p := (p.1, y)) e, valV_neg e, ih]
    · rw [if_neg h]
      by_cases e : p.1 = j
      · rw [valV_pos (p := p) e, valV_pos e, Option.map_some, if_neg (fun z => h (e.trans z))]
      · rw [valV_neg (p := p) e, valV_neg e, ih]
theorem valV_snoc (k j : κ) (y : V) : ∀ kvs : List (κ × V), valV kvs k = none → valV (kvs ++ [(k, y)]) j = if j = k then some y else valV kvs j
  | [], _ => by
    by_cases e : k = j
    · rw [if_pos e.symm]; exact valV_pos (p := (k, y)) e
    · rw [if_neg (fun z => e z.symm)]; exact valV_neg (p := (k, y)) e
  | p :: r, hn => by
    rw [List.cons_append]
    have hk : ¬ p.1 = k := fun z => by rw [valV_pos z] at hn; cases hn
    rw [valV_neg hk] at hn
    have ih := valV_snoc k j y r hn
    by_cases e : p.1 = j
    · rw [valV_pos e, valV_pos e, if_neg (fun z => hk (e.trans z))]
    · rw [valV_neg e, valV_neg e, ih]
theorem valV_put (kvs : List (κ × V)) (k j : κ) (y : V) : valV (putK kvs k y) j = if j = k then some y else valV kvs j := by
  unfold putK
  by_cases a : (kvs.any fun kv => decide (kv.1 = k)) = true
  · rw [if_pos a, valV_map]
    rw [valV_any] at a
    by_cases e : j = k
    · obtain ⟨x, hx⟩ := Option.isSome_iff_exists.mp a
      rw [if_pos e, e, hx, Option.map_some, if_pos rfl]
    · rw [if_neg e]
      cases valV kvs j with
      | none => rfl
      | some x => rw [Option.map_some, if_neg e]
  · rw [if_neg a]
    refine valV_snoc k j y kvs ?_
    rw [valV_any] at a
    cases q : valV kvs k with
    | none => rfl
    | some x => rw [q] at a; exact (a rfl).elim
theorem length_putK (kvs : List (κ × V)) (k : κ) (v : V) : (putK kvs k v).length ≤ kvs.length + 1 := by
  unfold putK
  split
  · rw [List.length_map]; omega
  · rw [List.length_append, List.length_cons, List.length_nil]; omega
theorem putK_new {kvs : List (κ × V)} {k : κ} (v : V) (h : valV kvs k = none) : putK kvs k v = kvs ++ [(k, v)] := by
  unfold putK
  rw [valV_any, h]
  exact if_neg (by decide)

theorem RelO.isSome_eq {o : Option V} {u : Option Value} (r : RelO o u) : o.isSome = u.isSome := by
  cases o with
  | none => cases u with
    | none => rfl
    | some _ => exact (show False from r).elim
  | some _ => cases u with
    | none => exact (show False from r).elim
    | some _ => rfl
theorem RelO.getD {o : Option V} {u : Option Value} {d : V} {d' : Value} (r : RelO o u) (rd : RelV d d') : RelV (o.getD d) (u.getD d') := by
  cases o with
  | none => cases u with
    | none => exact rd
    | some _ => exact (show False from r).elim
  | some _ => cases u with
    | none => exact (show False from r).elim
    | some _ => exact r

/-- raw tables of the same keys -/
theorem KV.val {kvs : List (κ × V)} {vs : List (κ × Value)} (r : KV kvs vs) (k : κ) : RelO (valV kvs k) (valueAt vs k) := by
  unfold KV at r
  induction r with
  | nil => exact True.intro
  | @cons p q ps qs h t ih =>
    obtain ⟨h1, h2⟩ := h
    by_cases e : p.1 = k
    · have e' : q.1 = k := h1.symm.trans e
      have b : valueAt (q :: qs) k = some q.2 := by simp [valueAt, List.find?_cons, e']
      rw [valV_pos e, b]; exact h2
    · have e' : ¬ q.1 = k := fun z => e (h1.trans z)
      have b : valueAt (q :: qs) k = valueAt qs k := by simp [valueAt, List.find?_cons, e']
      rw [valV_neg e, b]; exact ih
theorem KV.any {kvs : List (κ × V)} {vs : List (κ × Value)} (r : KV kvs vs) (k : κ) : (kvs.any fun kv => decide (kv.1 = k)) = vs.any fun kv => decide (kv.1 = k) := by
  unfold KV at r
  induction r with
  | nil => rfl
  | cons h t ih => rw [List.any_cons, List.any_cons, ih, h.1]
theorem KV.repl {kvs : List (κ × V)} {vs : List (κ × Value)} (r : KV kvs vs) (k : κ) {y : V} {u : Value} (ry : RelV y u) :
    KV (kvs.map fun kv => if kv.1 = k then (kv.1, y) else kv) (vs.map fun kv => if kv.1 = k then (kv.1, u) else kv) := by
  unfold KV at r ⊢
  induction r with
  | nil => exact .nil
  | @cons p q ps qs h t ih =>
    rw [List.map_cons, List.map_cons]
    refine .cons ?_ ih
    obtain ⟨h1, h2⟩ := h
    by_cases e : p.1 = k
    · rw [if_pos e, if_pos (h1.symm.trans e)]; exact ⟨h1, ry⟩
    · rw [if_neg e, if_neg (fun z => e (h1.trans z))]; exact ⟨h1, h2⟩
theorem KV.put {kvs : List (κ × V)} {vs : List (κ × Value)} (r : KV kvs vs) (k : κ) {y : V} {u : Value} (ry : RelV y u) : KV (putK kvs k y) (stored vs k u) := by
  unfold putK stored
  rw [r.any k]
  by_cases e : (vs.any fun kv => decide (kv.1 = k)) = true
  · rw [if_pos e, if_pos e]; exact r.repl k ry
  · rw [if_neg e, if_neg e]; exact Paired.snoc r ⟨rfl, ry⟩
theorem KV.drop {kvs : List (κ × V)} {vs : List (κ × Value)} (r : KV kvs vs) (k : κ) : KV (dropK kvs k) (without vs k) := by
  unfold KV at r ⊢
  unfold dropK without
  induction r with
  | nil => exact .nil
  | @cons p q ps qs h t ih =>
    obtain ⟨h1, h2⟩ := h
    rw [List.filter_cons, List.filter_cons]
    by_cases e : p.1 = k
    · have a : ¬ decide (p.1 ≠ k) = true := by simp [e]
      have b : ¬ decide (q.1 ≠ k) = true := by simp [h1.symm.trans e]
      rw [if_neg a, if_neg b]; exact ih
    · have e' : ¬ q.1 = k := fun z => e (h1.trans z)
      have a : decide (p.1 ≠ k) = true := by simp [e]
      have b : decide (q.1 ≠ k) = true := by simp [e']
      rw [if_pos a, if_pos b]; exact .cons ⟨h1, h2⟩ ih
theorem KV.keys {kvs : List (κ × V)} {vs : List (κ × Value)} (r : KV kvs vs) : kvs.map (·.1) = vs.map (·.1) := by
  unfold KV at r
  induction r with
  | nil => rfl
  | cons h t ih => rw [List.map_cons, List.map_cons, ih, h.1]
theorem KV.length {kvs : List (κ × V)} {vs : List (κ × Value)} (r : KV kvs vs) : kvs.length = vs.length := Paired.length r
theorem dropK_le (kvs : List (κ × V)) (k : κ) : (dropK kvs k).length ≤ kvs.length := List.length_filter_le _ _
end


/-! ### a tracked dict, its keys ints and texts or tuples of these -/
theorem kV_is {P : Program} {w : World} {k : Key} {u : Value} (r : RelV (kV k) u) : (mixKind P w).is k u = true := by
  cases k with
  | inl i => obtain ⟨t, e⟩ := (show ∃ t, u = Value.int i t from r); subst e; exact mixKind_int P w i t
  | inr x => obtain ⟨t, e⟩ := (show ∃ t, u = Value.str x t from r); subst e; exact mixKind_str P w x t
theorem kV_inj {a b : Key} (e : kV a = kV b) : a = b := by
  cases a with
  | inl i => cases b with
    | inl j => have e' : V.int i = V.int j := e; injection e' with e'; rw [e']
    | inr y => exact nomatch (show V.int i = V.str y from e)
  | inr x => cases b with
    | inl j => exact nomatch (show V.str x = V.int j from e)
    | inr y => have e' : V.str x = V.str y := e; injection e' with e'; rw [e']
theorem kVs_inj : ∀ {a b : List Key}, a.map kV = b.map kV → a = b
  | [], [], _ => rfl
  | [], _ :: _, e => by simp at e
  | _ :: _, [], e => by simp at e
  | x :: xs, y :: ys, e => by
    rw [List.map_cons, List.map_cons] at e
    injection e with e1 e2
    rw [kV_inj e1, kVs_inj e2]
theorem items_are {P : Program} {w : World} : ∀ {ks : List Key} {us : List Value}, Vals (ks.map kV) us → ItemsAre (mixKind P w) ks us
  | [], _, r => by rw [List.map_nil] at r; cases r; exact .nil
  | k :: ks, _, r => by
    rw [List.map_cons] at r
    cases r with
    | cons h t => exact .cons (kV_is h) (items_are t)

/-- raw entries of a dict with tuple keys -/
abbrev KT (H : Hp) : List (List Key × V) → List (List Key × Addr × Value) → Prop := Paired fun p q => p.1 = q.1 ∧ H q.2.1 = some (.tup (p.1.map kV)) ∧ RelV p.2 q.2.2
theorem KT.val {H : Hp} {kvs : List (List Key × V)} {xs : List (List Key × Addr × Value)} (r : KT H kvs xs) (k : List Key) : RelO (valV kvs k) ((atKey xs k).map (·.2)) := by
  induction r with
  | nil => exact True.intro
  | @cons p q ps qs h t ih =>
    obtain ⟨h1, _, h2⟩ := h
    by_cases e : p.1 = k
    · have e' : q.1 = k := h1.symm.trans e
      have b : atKey (q :: qs) k = some q.2 := by simp [atKey, List.find?_cons, e']
      rw [valV_pos e, b]; exact h2
    · have e' : ¬ q.1 = k := fun z => e (h1.trans z)
      have b : atKey (q :: qs) k = atKey qs k := by simp [atKey, List.find?_cons, e']
      rw [valV_neg e, b]; exact ih
theorem KT.repl {H : Hp} {kvs : List (List Key × V)} {xs : List (List Key × Addr × Value)} (r : KT H kvs xs) (k : List Key) {y : V} {u : Value} (ry : RelV y u) :
    KT H (kvs.map fun kv => if kv.1 = k then (kv.1, y) else kv) (xs.map (putAt k u)) := by
  induction r with
  | nil => exact .nil
  | @cons p q ps qs h t ih =>
    rw [List.map_cons, List.map_cons]
    refine .cons ?_ ih
    obtain ⟨h1, h2, h3⟩ := h
    unfold putAt
    by_cases e : p.1 = k
    · rw [if_pos e, if_pos (h1.symm.trans e)]; exact ⟨h1, h2, ry⟩
    · rw [if_neg e, if_neg (fun z => e (h1.trans z))]; exact ⟨h1, h2, h3⟩
theorem KT.put {H : Hp} {kvs : List (List Key × V)} {xs : List (List Key × Addr × Value)} (r : KT H kvs xs) (k : List Key) {b : Addr} {y : V} {u : Value} (hb : H b = some (.tup (k.map kV))) (ry : RelV y u) :
    KT H (putK kvs k y) (storedH xs k b u) := by
  have e : (kvs.any fun kv => decide (kv.1 = k)) = (atKey xs k).isSome := by
    rw [valV_any, (r.val k).isSome_eq, Option.isSome_map]
  unfold putK storedH
  rw [e]
  by_cases q : (atKey xs k).isSome = true
  · rw [if_pos q, if_pos q]; exact r.repl k ry
  · rw [if_neg q, if_neg q]; exact Paired.snoc r ⟨rfl, hb, ry⟩
theorem KT.keeps {H H' : Hp} {kvs : List (List Key × V)} {xs : List (List Key × Addr × Value)} (r : KT H kvs xs) (ht : ∀ b ys, H b = some (.tup ys) → H' b = some (.tup ys)) : KT H' kvs xs :=
  Paired.mapP r fun _ _ z => ⟨z.1, ht _ _ z.2.1, z.2.2⟩

section
variable {P : Program} {w : World} {H : Hp} {h : Heap} {a : Addr}
theorem rd_of {u : HO} (ok : HOk P w H h) (e : Rd H a u) : ObjOk P w H h a u := e.ok ok
theorem dk_rd {kvs : List (Key × V)} (ok : HOk P w H h) (e : Rd H a (.dK kvs)) : kvs.length ≤ sizeLine ∧ (a == sysModules) = false ∧ ∃ vs, KV kvs vs ∧ h.DictOf (mixKind P w) a vs :=
  show ObjOk P w H h a (.dK kvs) from rd_of ok e
theorem dk_of {kvs : List (Key × V)} (ok : HOk P w H h) (e : H a = some (.dK kvs)) : kvs.length ≤ sizeLine ∧ (a == sysModules) = false ∧ ∃ vs, KV kvs vs ∧ h.DictOf (mixKind P w) a vs := dk_rd ok (.inl e)
/-- a tracked tuple of ints and texts is a key -/
theorem key_of {ks : List Key} (ok : HOk P w H h) (e : H a = some (.tup (ks.map kV))) : (tupleKind (mixKind P w)).is h ks a := by
  obtain ⟨_, its, r, o, h1, h2, n, h3⟩ := (show ObjOk P w H h a (.tup (ks.map kV)) from ok a _ e)
  exact ⟨o, its.toArray, n, h1, h2, h3, by simpa using items_are r⟩
theorem dt_rd {kvs : List (List Key × V)} (ok : HOk P w H h) (e : Rd H a (.dT kvs)) : kvs.length ≤ sizeLine ∧ (a == sysModules) = false ∧
    ∃ xs, KT H kvs xs ∧ h.DictOfH (tupleKind (mixKind P w)) a xs := by
  obtain ⟨z, y, xs, r, o, es, ep, h1, h2, h3, h4, h5⟩ := (show ObjOk P w H h a (.dT kvs) from rd_of ok e)
  refine ⟨z, y, xs, r, o, es, ep, h1, h2, h3, h4, fun x hx => ?_, h5⟩
  have all : ∀ {l : List (List Key × V)} {m : List (List Key × Addr × Value)}, KT H l m → ∀ x ∈ m, (tupleKind (mixKind P w)).is h x.1 x.2.1 := by
    intro l m q
    induction q with
    | nil => intro x hx; exact nomatch hx
    | @cons p q ps qs hq t ih =>
      intro x hx
      rcases List.mem_cons.mp hx with e | hx
      · subst e
        exact key_of ok (by rw [← hq.1]; exact hq.2.1)
      · exact ih x hx
  exact all r x hx
theorem dt_of {kvs : List (List Key × V)} (ok : HOk P w H h) (e : H a = some (.dT kvs)) : kvs.length ≤ sizeLine ∧ (a == sysModules) = false ∧
    ∃ xs, KT H kvs xs ∧ h.DictOfH (tupleKind (mixKind P w)) a xs := dt_rd ok (.inl e)
end

/-- what the dict at a holds at the key y -/
def DGet (H : Hp) (a : Addr) (y : V) (r : Option V) : Prop :=
  (∃ kvs k, Rd H a (.dK kvs) ∧ y = kV k ∧ r = valV kvs k) ∨ ∃ kvs k b, Rd H a (.dT kvs) ∧ y = .ref b ∧ H b = some (.tup (k.map kV)) ∧ r = valV kvs k
/-- the heap behind a[y] = v -/
def DPut (H : Hp) (a : Addr) (y v : V) (H' : Hp) : Prop :=
  (∃ kvs k, H a = some (.dK kvs) ∧ y = kV k ∧ kvs.length < sizeLine ∧ H' = upd H a (.dK (putK kvs k v))) ∨
  ∃ kvs k b, H a = some (.dT kvs) ∧ y = .ref b ∧ H b = some (.tup (k.map kV)) ∧ kvs.length < sizeLine ∧ H' = upd H a (.dT (putK kvs k v))
theorem DGet.k {H : Hp} {a : Addr} {kvs : List (Key × V)} {k : Key} (e : H a = some (.dK kvs)) : DGet H a (kV k) (valV kvs k) := .inl ⟨kvs, k, .inl e, rfl, rfl⟩
theorem DGet.t {H : Hp} {a b : Addr} {kvs : List (List Key × V)} {k : List Key} (e : H a = some (.dT kvs)) (eb : H b = some (.tup (k.map kV))) : DGet H a (.ref b) (valV kvs k) := .inr ⟨kvs, k, b, .inl e, rfl, eb, rfl⟩
theorem DPut.k {H : Hp} {a : Addr} {kvs : List (Key × V)} {k : Key} {v : V} (e : H a = some (.dK kvs)) (hl : kvs.length < sizeLine) : DPut H a (kV k) v (upd H a (.dK (putK kvs k v))) := .inl ⟨kvs, k, e, rfl, hl, rfl⟩
theorem DPut.t {H : Hp} {a b : Addr} {kvs : List (List Key × V)} {k : List Key} {v : V} (e : H a = some (.dT kvs)) (eb : H b = some (.tup (k.map kV))) (hl : kvs.length < sizeLine) :
    DPut H a (.ref b) v (upd H a (.dT (putK kvs k v))) := .inr ⟨kvs, k, b, e, rfl, eb, hl, rfl⟩


section
variable {X : Cx} {pins : List (Addr × Obj)} {σ : St} {H : Hp} {s : Shared} {a : Addr} {y v : V} {u r : Value} {o : Option V} {A : Around} {E : Value → Shared → Prop}

theorem Inv.big (I : Inv X pins σ H s) : sysModules < s.heap.objs.size := by
  have h : mainGlobals < s.heap.objs.size := (I.mod.glob.keeps I.bk).lt
  exact Nat.lt_trans (by decide) h

/-- d[y], there -/
theorem d_getItem {Q : Value → Shared → Prop} (hu : A.units + 1 < cLine) (I : Inv X pins σ H s) (g : DGet H a y (some v)) (ry : RelV y u) (h : ∀ w' s', Inv X pins σ H s' → RelV v w' → Q w' s') :
    wpAny (model X.prog X.w) A (getItem (.ref a) u) Q E s := by
  rcases g with ⟨kvs, k, e, ey, l⟩ | ⟨kvs, k, b, e, ey, eb, l⟩
  · subst ey
    obtain ⟨z, hd, vs, rel, dd⟩ := dk_rd I.hok e
    obtain ⟨w', hw, rw'⟩ := RelO.some_of (v := v) (o := valueAt vs k) (by rw [l]; exact rel.val k)
    exact wpAny_getItem_of (kV_is ry) dd.mapOf hw (h w' _ (I.tok _) rw')
  · subst ey
    cases (show u = Value.ref b from ry)
    obtain ⟨z, hd, xs, rel, dd⟩ := dt_rd I.hok e
    obtain ⟨w', hw, rw'⟩ := RelO.some_of (v := v) (o := (atKey xs k).map (·.2)) (by rw [l]; exact rel.val k)
    obtain ⟨p, hp, hp2⟩ := Option.map_eq_some_iff.mp hw
    refine wpAny_getItem_heap (tupleKind_room_in1 hu) (key_of I.hok eb) dd hp ?_
    rw [hp2]
    exact h w' _ (I.tok _) rw'
/-- y in d -/
theorem d_in {Q : Value → Shared → Prop} (hu : A.units + 1 < cLine) (I : Inv X pins σ H s) (g : DGet H a y o) (ry : RelV y u) (h : ∀ s', Inv X pins σ H s' → Q (.bool o.isSome) s') :
    wpAny (model X.prog X.w) A (compareOp .In u (.ref a)) Q E s := by
  rcases g with ⟨kvs, k, e, ey, l⟩ | ⟨kvs, k, b, e, ey, eb, l⟩
  · subst ey
    obtain ⟨z, hd, vs, rel, dd⟩ := dk_rd I.hok e
    refine wpAny_in_of (kV_is ry) hd dd.mapOf ?_
    rw [← (rel.val k).isSome_eq, ← l]
    exact h _ (I.tok _)
  · subst ey
    cases (show u = Value.ref b from ry)
    obtain ⟨z, hd, xs, rel, dd⟩ := dt_rd I.hok e
    refine wpAny_in_heap (tupleKind_room_in1 hu) (key_of I.hok eb) hd dd ?_
    have q := (rel.val k).isSome_eq
    rw [Option.isSome_map] at q
    rw [← q, ← l]
    exact h _ (I.tok _)
theorem d_notIn {Q : Value → Shared → Prop} (hu : A.units + 1 < cLine) (I : Inv X pins σ H s) (g : DGet H a y o) (ry : RelV y u) (h : ∀ s', Inv X pins σ H s' → Q (.bool (!o.isSome)) s') :
    wpAny (model X.prog X.w) A (compareOp .NotIn u (.ref a)) Q E s := by
  rcases g with ⟨kvs, k, e, ey, l⟩ | ⟨kvs, k, b, e, ey, eb, l⟩
  · subst ey
    obtain ⟨z, hd, vs, rel, dd⟩ := dk_rd I.hok e
    refine wpAny_notIn_of (kV_is ry) hd dd.mapOf ?_
    rw [← (rel.val k).isSome_eq, ← l]
    exact h _ (I.tok _)
  · subst ey
    cases (show u = Value.ref b from ry)
    obtain ⟨z, hd, xs, rel, dd⟩ := dt_rd I.hok e
    refine wpAny_notIn_heap (tupleKind_room_in1 hu) (key_of I.hok eb) hd dd ?_
    have q := (rel.val k).isSome_eq
    rw [Option.isSome_map] at q
    rw [← q, ← l]
    exact h _ (I.tok _)
/-- a dict's object is replaced -/
theorem d_write {h' : Heap} {t' : Nat} {ob : HO} (I : Inv X pins σ H s) (mu : Mut (H a)) (hs : Heap.SameBut a s.heap h') (he : ∃ q, h'.get? a = some q) (new : ObjOk X.prog X.w (upd H a ob) h' a ob) :
    Inv X pins σ (upd H a ob) { s with heap := h', toks := t' } :=
  I.write (x := a) (e := a) mu (.inl rfl) (fun b q hb z => (hs.2 b hb).trans z) he new
theorem dk_new {P : Program} {w : World} {H' : Hp} {h' : Heap} {kvs : List (Key × V)} {vs : List (Key × Value)} (z : kvs.length ≤ sizeLine) (hd : (a == sysModules) = false) (rel : KV kvs vs) (dd : h'.DictOf (mixKind P w) a vs) :
    ObjOk P w H' h' a (.dK kvs) := ⟨z, hd, vs, rel, dd⟩
/-- d[y] = v -/
theorem d_setItem {H' : Hp} {Q : Unit → Shared → Prop} (hu : A.units + 1 < cLine) (I : Inv X pins σ H s) (g : DPut H a y v H') (ry : RelV y u) (rv : RelV v r) (h : ∀ s', Inv X pins σ H' s' → Q () s') :
    wpAny (model X.prog X.w) A (setItem (.ref a) u r) Q E s := by
  rcases g with ⟨kvs, k, e, ey, l, eH⟩ | ⟨kvs, k, b, e, ey, eb, l, eH⟩
  · subst ey eH
    obtain ⟨z, hd, vs, rel, dd⟩ := dk_of I.hok e
    have hz : vs.length ≤ sizeLine := by rw [← rel.length]; exact z
    have hl : (putK kvs k v).length ≤ sizeLine := by have := length_putK kvs k v; omega
    refine wpAny_setItem_pairs (hsz := hz) (kV_is ry) dd fun h' dd' hs => h _ ?_
    have he : ∃ q, h'.get? a = some q := let ⟨q, _, _, hq, _⟩ := dd'; ⟨q, hq⟩
    exact d_write I (by rw [e]; exact True.intro) hs he (dk_new hl hd (rel.put k rv) dd')
  · subst ey eH
    cases (show u = Value.ref b from ry)
    obtain ⟨z, hd, xs, rel, dd⟩ := dt_of I.hok e
    have hz : xs.length ≤ sizeLine := by rw [← Paired.length rel]; exact z
    have hl : (putK kvs k v).length ≤ sizeLine := by have := length_putK kvs k v; omega
    refine wpAny_setItem_heap (hsz := hz) (tupleKind_room_in1 hu) (key_of I.hok eb) dd fun h' dd' hs => h _ ?_
    obtain ⟨q, es, ep, hq, h2, h3, h4, _, h5⟩ := dd'
    refine d_write I (by rw [e]; exact True.intro) hs ⟨q, hq⟩ ⟨hl, hd, _, (rel.put k eb rv).keeps fun c ys ec => ?_, q, es, ep, hq, h2, h3, h4, h5⟩
    rw [upd_ne (ne_of ec e (fun z => nomatch z))]
    exact ec
end

section
variable {X : Cx} {pins : List (Addr × Obj)} {σ : St} {H : Hp} {s : Shared} {a : Addr} {kvs : List (Key × V)} {k : Key} {u : Value} {A : Around} {E : Value → Shared → Prop}
/-- del d[k] -/
theorem d_delItem {Q : Unit → Shared → Prop} (I : Inv X pins σ H s) (e : H a = some (.dK kvs)) (ry : RelV (kV k) u) (l : (valV kvs k).isSome = true) (h : ∀ s', Inv X pins σ (upd H a (.dK (dropK kvs k))) s' → Q () s') :
    wpAny (model X.prog X.w) A (delItem (.ref a) u) Q E s := by
  obtain ⟨z, hd, vs, rel, dd⟩ := dk_of I.hok e
  refine wpAny_delItem_slot dd.typeIs (by decide) PySem.F.slot_dict_delitem
    (call_meetsIn PySem.F.slot_dict_delitem dd.typeIs PySem.F.entry_dict_delitem (PySem.F.args_dict_delitem_2 _ _) (meets_dict_delitem_pairs (mixKind X.prog X.w) a (kV_is ry)) ⟨vs, dd, by rw [← rel.length]; exact z, by rw [← (rel.val k).isSome_eq]; exact l, fun h' dd' hs => h _ ?_⟩)
  have he : ∃ q, h'.get? a = some q := let ⟨q, _, _, hq, _⟩ := dd'; ⟨q, hq⟩
  exact d_write I (by rw [e]; exact True.intro) hs he (dk_new (Nat.le_trans (dropK_le kvs k) z) hd (rel.drop k) dd')
/-- d.pop(k[, x]), there -/
theorem d_pop {v : V} {more : List Value} {Q : Value → Shared → Prop} (I : Inv X pins σ H s) (e : H a = some (.dK kvs)) (ry : RelV (kV k) u) (l : valV kvs k = some v) (hm : more = [] ∨ ∃ x, more = [x])
    (h : ∀ w' s', Inv X pins σ (upd H a (.dK (dropK kvs k))) s' → RelV v w' → Q w' s') : wpAny (model X.prog X.w) A (call (.builtin "dict.pop") (.ref a :: u :: more)) Q E s := by
  obtain ⟨z, hd, vs, rel, dd⟩ := dk_of I.hok e
  obtain ⟨w', hw, rw'⟩ := RelO.some_of (v := v) (o := valueAt vs k) (by rw [← l]; exact rel.val k)
  have hp : (keyPart u).isSome = true := by
    cases k with
    | inl i => obtain ⟨t, q⟩ := (show ∃ t, u = Value.int i t from ry); subst q; rfl
    | inr x => obtain ⟨t, q⟩ := (show ∃ t, u = Value.str x t from ry); subst q; rfl
  have ha : argsOk "dict.pop" ⟨.ref a :: u :: more, []⟩ := by
    rcases hm with q | ⟨x, q⟩
    · subst q; exact PySem.F.args_dict_pop_2 _ _
    · subst q; exact PySem.F.args_dict_pop_3 _ _ _
  refine call_meetsIn PySem.F.slot_dict_pop dd.typeIs PySem.F.entry_dict_pop ha (meets_dict_pop_there (mixKind X.prog X.w) a (kV_is ry) more hm hp)
    ⟨vs, w', dd, by rw [← rel.length]; exact z, hw, fun h' dd' hs => h w' _ ?_ rw'⟩
  have he : ∃ q, h'.get? a = some q := let ⟨q, _, _, hq, _⟩ := dd'; ⟨q, hq⟩
  exact d_write I (by rw [e]; exact True.intro) hs he (dk_new (Nat.le_trans (dropK_le kvs k) z) hd (rel.drop k) dd')
/-- d.pop(k, x), not there -/
theorem d_popD {r : Value} {Q : Value → Shared → Prop} (I : Inv X pins σ H s) (e : H a = some (.dK kvs)) (ry : RelV (kV k) u) (l : valV kvs k = none) (h : ∀ s', Inv X pins σ H s' → Q r s') :
    wpAny (model X.prog X.w) A (call (.builtin "dict.pop") [.ref a, u, r]) Q E s := by
  obtain ⟨z, hd, vs, rel, dd⟩ := dk_of I.hok e
  have hn : valueAt vs k = none := RelO.none_of (by rw [← l]; exact rel.val k)
  have hp : (keyPart u).isSome = true := by
    cases k with
    | inl i => obtain ⟨t, q⟩ := (show ∃ t, u = Value.int i t from ry); subst q; rfl
    | inr x => obtain ⟨t, q⟩ := (show ∃ t, u = Value.str x t from ry); subst q; rfl
  exact call_meetsIn PySem.F.slot_dict_pop dd.typeIs PySem.F.entry_dict_pop (PySem.F.args_dict_pop_3 _ _ _) (meets_dict_pop_default (mixKind X.prog X.w) a (kV_is ry) hd hp r) ⟨vs, dd, hn, h _ (I.tok _)⟩
/-- d.clear() -/
theorem d_clear {Q : Value → Shared → Prop} (I : Inv X pins σ H s) (e : H a = some (.dK kvs)) (h : ∀ s', Inv X pins σ (upd H a (.dK [])) s' → Q .none s') : wpAny (model X.prog X.w) A (call (.builtin "dict.clear") [.ref a]) Q E s := by
  obtain ⟨z, hd, vs, rel, dd⟩ := dk_of I.hok e
  refine call_meetsIn PySem.F.slot_dict_clear dd.typeIs PySem.F.entry_dict_clear (PySem.F.args_dict_clear_1 _) (meets_dict_clear (mixKind X.prog X.w) a) ⟨vs, dd, by rw [← rel.length]; exact z, fun h' dd' hs => h _ ?_⟩
  have he : ∃ q, h'.get? a = some q := let ⟨q, _, _, hq, _⟩ := dd'; ⟨q, hq⟩
  exact d_write (t' := s.toks) I (by rw [e]; exact True.intro) hs he (dk_new (Nat.zero_le _) hd .nil dd')
/-- len(d) -/
theorem d_len {Q : Value → Shared → Prop} (I : Inv X pins σ H s) (e : Rd H a (.dK kvs)) (h : ∀ t s', Inv X pins σ H s' → Q (.int kvs.length t) s') : wpAny (model X.prog X.w) A (call (.builtin "len") [.ref a]) Q E s := by
  obtain ⟨z, hd, vs, rel, dd⟩ := dk_rd I.hok e
  refine call_len_dict hd dd (by rw [← rel.length]; rw [sizeLine_eq] at z; omega) ?_
  rw [← rel.length]
  exact h _ _ (I.tok _)
/-- if d -/
theorem d_truth {Q : Bool → Shared → Prop} (I : Inv X pins σ H s) (e : Rd H a (.dK kvs)) (h : ∀ s', Inv X pins σ H s' → Q (!kvs.isEmpty) s') : wpAny (model X.prog X.w) A (truthy (.ref a)) Q E s := by
  obtain ⟨z, hd, vs, rel, dd⟩ := dk_rd I.hok e
  refine wpAny_truthy_dict hd dd (by rw [← rel.length]; rw [sizeLine_eq] at z; omega) ?_
  have q : kvs.isEmpty = vs.isEmpty := by cases rel <;> rfl
  rw [← q]
  exact h _ (I.tok _)
end


/-! ### readings and rules -/
/-- the element of a subscription, not a slice -/
def NoSl (i : Expr) : Prop := ∀ ov iv, subscripted i false ov iv = operate [ov, iv] (getItem ov iv)
theorem subD_of {prog : Program} {w : World} {A : Around} {E : Value → Shared → Prop} {s : Shared} {env : Env} {value slice : Expr} {pos : Pos} {T id : String} {Q : Value → Shared → Prop}
    (hl : typeLookup (.type T) "__getitem__" = pure (some (.builtin id))) (hs : NoSl slice)
    (h : wpAny (model prog w) A (eval value env) (fun o s₁ => wpAny (model prog w) A (eval slice env) (fun i s₂ => s₂.TypeIs o T ∧ wpAny (model prog w) A (getItem o i) Q E s₂) E s₁) E s) :
    wpAny (model prog w) A (eval (.Subscript value slice pos) env) Q E s := by
  refine Subscript_ (wpAny_mono h (fun o s₁ h₁ => wpAny_mono h₁ (fun i s₂ h₂ => ?_) fun _ _ x => x) fun _ _ x => x)
  obtain ⟨hT, h₂⟩ := h₂
  unfold subscriptTail
  refine wpAny_bind ?_
  rw [getitemInPython_of_ne hT.not_modules]
  refine wpAny_bind (wpAny_specialOf hT hl ?_)
  have fin : wpAny (model prog w) A (subscripted slice false o i) (fun r s₃ => wpAny (model prog w) A (letTemporaryGo value o r >>= fun _ => pure r) Q E s₃) E s₂ := by
    rw [hs o i]
    exact wpAny_operating (wpAny_mono h₂ (fun r s₃ h₃ => wpAny_bind (wpAny_letTemporaryGo (wpAny_pure h₃))) fun _ _ x => x)
  first
    | exact wpAny_pure (wpAny_bind fin)
    | exact wpAny_bind (wpAny_pure (wpAny_bind fin))
    | exact wpAny_bind fin

theorem dict_typeIs {X : Cx} {pins : List (Addr × Obj)} {σ : St} {H : Hp} {s : Shared} {a : Addr} {y : V} {o : Option V} (I : Inv X pins σ H s) (g : DGet H a y o) : s.TypeIs (.ref a) "dict" := by
  rcases g with ⟨kvs, k, e, _, _⟩ | ⟨kvs, k, b, e, _, _, _⟩
  · obtain ⟨_, _, vs, _, dd⟩ := dk_rd I.hok e
    exact dd.typeIs
  · obtain ⟨_, _, xs, _, dd⟩ := dt_rd I.hok e
    exact dd.typeIs
theorem dict_noDict {X : Cx} {pins : List (Addr × Obj)} {σ : St} {H : Hp} {s : Shared} {a : Addr} {y : V} {o : Option V} (I : Inv X pins σ H s) (g : DGet H a y o) :
    ∀ b, Value.ref a = .ref b → ∃ ob, s.heap.get? b = some ob ∧ ob.dict = none := fun b q => by
  cases q
  rcases g with ⟨kvs, k, e, _, _⟩ | ⟨kvs, k, b, e, _, _, _⟩
  · obtain ⟨_, _, vs, _, ob, _, _, h1, h2, _⟩ := dk_rd I.hok e
    exact ⟨ob, h1, h2.2.1⟩
  · obtain ⟨_, _, xs, _, ob, _, _, h1, h2, _⟩ := dt_rd I.hok e
    exact ⟨ob, h1, h2.2.1⟩

/-- d[y] -/
def tDGet (td ty : TE) : TE := fun σ H Q => td σ H fun x H1 => ty σ H1 fun y H2 => ∃ a v, x = .ref a ∧ DGet H2 a y (some v) ∧ Q v H2
/-- y in d, y not in d -/
def tDIn (ty td : TE) : TE := fun σ H Q => ty σ H fun y H1 => td σ H1 fun x H2 => ∃ a o, x = .ref a ∧ DGet H2 a y o ∧ Q (.bl o.isSome) H2
def tDNotIn (ty td : TE) : TE := fun σ H Q => ty σ H fun y H1 => td σ H1 fun x H2 => ∃ a o, x = .ref a ∧ DGet H2 a y o ∧ Q (.bl (!o.isSome)) H2
/-- d[y] = v -/
def sDPut (td ty tv : TE) : TS := fun D σ H => tv σ H fun v H1 => td σ H1 fun x H2 => ty σ H2 fun y H3 => ∃ a H4, x = .ref a ∧ DPut H3 a y v H4 ∧ D.nx σ H4
/-- d[y] op= v -/
def sDAug (td ty tv : TE) (rd : V → V → Hp → VK → Prop) : TS := fun D σ H => td σ H fun x H1 => ty σ H1 fun y H2 => ∃ a v, x = .ref a ∧ DGet H2 a y (some v) ∧
  tv σ H2 fun y2 H3 => rd v y2 H3 fun z H4 => ∃ H5, DPut H4 a y z H5 ∧ D.nx σ H5
/-- del d[y] -/
def sDDel (td ty : TE) : TS := fun D σ H => td σ H fun x H1 => ty σ H1 fun y H2 => ∃ a kvs k, x = .ref a ∧ H2 a = some (.dK kvs) ∧ y = kV k ∧ (valV kvs k).isSome = true ∧ D.nx σ (upd H2 a (.dK (dropK kvs k)))

section
variable {X : Cx} {o i e value : Expr} {pos pos' tpos : Pos} {td ty tv : TE}
theorem pe_dget (hu : X.A.units + 1 < cLine) (ho : PE X o td) (hi : PE X i ty) (hs : NoSl i) : PE X (.Subscript o i pos) (tDGet td ty) := by
  intro pins s σ H Q I h
  refine subD_of PySem.F.slot_dict_getitem.lookup hs (thn (ho pins s σ H _ I h) fun u s1 ⟨x, H1, I1, rx, q1⟩ => thn (hi pins s1 σ H1 _ I1 q1) fun iv s2 ⟨y, H2, I2, ry, a, v, ex, g, q2⟩ => ?_)
  subst ex
  obtain rfl : u = Value.ref a := rx
  exact ⟨dict_typeIs I2 g, d_getItem hu I2 g ry fun w' s3 I3 rw' => ⟨v, H2, I3, rw', q2⟩⟩
theorem pc_din (hu : X.A.units + 1 < cLine) (hi : PE X i ty) (ho : PE X o td) : PC X .In i o (tDIn ty td) := by
  intro pins s σ H Q I h
  refine thn (hi pins s σ H _ I h) fun iv s1 ⟨y, H1, I1, ry, q1⟩ => thn (ho pins s1 σ H1 _ I1 q1) fun u s2 ⟨x, H2, I2, rx, a, ov, ex, g, q2⟩ => ?_
  subst ex
  obtain rfl : u = Value.ref a := rx
  exact d_in hu I2 g ry fun s3 I3 => ⟨.bl ov.isSome, H2, I3, rfl, q2⟩
theorem pc_dnotin (hu : X.A.units + 1 < cLine) (hi : PE X i ty) (ho : PE X o td) : PC X .NotIn i o (tDNotIn ty td) := by
  intro pins s σ H Q I h
  refine thn (hi pins s σ H _ I h) fun iv s1 ⟨y, H1, I1, ry, q1⟩ => thn (ho pins s1 σ H1 _ I1 q1) fun u s2 ⟨x, H2, I2, rx, a, ov, ex, g, q2⟩ => ?_
  subst ex
  obtain rfl : u = Value.ref a := rx
  exact d_notIn hu I2 g ry fun s3 I3 => ⟨.bl (!ov.isSome), H2, I3, rfl, q2⟩
theorem ps_dput (hu : X.A.units + 1 < cLine) (ho : PE X o td) (hi : PE X i ty) (hv : PE X value tv) (hs : swapsWith value (some (.Subscript o i pos')) pos.line X.env = pure false) :
    PS X (.Assign [.Subscript o i pos'] value pos) (sDPut td ty tv) := by
  intro pins s σ H D I h
  refine wpAny_Assign_Subscript (thn (hv pins s σ H _ I h) fun r s1 ⟨v, H1, I1, rv, q1⟩ => thn (ho pins s1 σ H1 _ I1 q1) fun u s2 ⟨x, H2, I2, rx, q2⟩ => thn (hi pins s2 σ H2 _ I2 q2) fun iv s3 ⟨y, H3, I3, ry, a, H4, ex, g, q3⟩ => ?_) hs
  subst ex
  obtain rfl : u = Value.ref a := rx
  exact d_setItem hu I3 g ry rv fun s4 I4 => ⟨σ, H4, I4, q3⟩
theorem ps_daug {op : Operator} {rd : V → V → Hp → VK → Prop} (hu : X.A.units + 1 < cLine) (ho : PE X o td) (hi : PE X i ty) (hv : PE X value tv) (hop : InOp X op rd)
    (ha : ∀ ov iv new, augStore i ov iv new = (do holding [new, ov, iv] (setItem ov iv new); release [new, ov, iv] []; pure .next)) : PS X (.AugAssign (.Subscript o i tpos) op value pos) (sDAug td ty tv rd) := by
  intro pins s σ H D I h
  refine wpAny_AugAssign_SubscriptAny (thn (ho pins s σ H _ I h) fun u s1 ⟨x, H1, I1, rx, q1⟩ => thn (hi pins s1 σ H1 _ I1 q1) fun iv s2 ⟨y, H2, I2, ry, a, v, ex, g, q2⟩ => ?_) ha
  subst ex
  obtain rfl : u = Value.ref a := rx
  refine d_getItem hu I2 g ry fun w' s3 I3 rw' => thn (hv pins s3 σ H2 _ I3 q2) fun w2 s4 ⟨y2, H3, I4, ry2, q3⟩ => thn (hop pins s4 σ H3 v y2 w' w2 _ I4 rw' ry2 q3) fun w3 s5 ⟨z, H4, I5, rz, H5, g5, q4⟩ => ?_
  exact d_setItem hu I5 g5 ry rz fun s6 I6 => ⟨σ, H5, I6, q4⟩
theorem ps_ddel (ho : PE X o td) (hi : PE X i ty) : PS X (.Delete [.Subscript o i tpos] pos) (sDDel td ty) := by
  intro pins s σ H D I h
  refine wpAny_Delete (wpAny_deleteEach_cons (wpAny_delete_Subscript (thn (ho pins s σ H _ I h) fun u s1 ⟨x, H1, I1, rx, q1⟩ => thn (hi pins s1 σ H1 _ I1 q1) fun iv s2 ⟨y, H2, I2, ry, a, kvs, k, ex, e, ey, l, q2⟩ => ?_)))
  subst ex ey
  obtain rfl : u = Value.ref a := rx
  exact d_delItem I2 e ry l fun s3 I3 => wpAny_deleteEach_nil ⟨σ, _, I3, q2⟩
end


/-! ### displays -/
theorem dk_empty {P : Program} {w : World} {H : Hp} (h : Heap) (hb : sysModules < h.objs.size) : ObjOk P w H (h.push { cls := .type "dict", data := .dict #[] }) h.objs.size (.dK []) :=
  ⟨Nat.zero_le _, beq_eq_false_iff_ne.mpr (Ne.symm (Nat.ne_of_lt hb)), [], .nil, Heap.DictOf.new h⟩
theorem dt_empty {P : Program} {w : World} {H : Hp} (h : Heap) (hb : sysModules < h.objs.size) : ObjOk P w H (h.push { cls := .type "dict", data := .dict #[] }) h.objs.size (.dT []) :=
  ⟨Nat.zero_le _, beq_eq_false_iff_ne.mpr (Ne.symm (Nat.ne_of_lt hb)), [], .nil, _, #[], 0, Heap.get?_push_size _ rfl, ⟨rfl, rfl, rfl⟩, rfl, rfl, List.nodup_nil⟩
/-- {}, to be a dict of the kind that is wanted -/
def tDNewK : TE := fun _ H Q => ∀ p, H p = none → Q (.ref p) (upd H p (.dK []))
def tDNewT : TE := fun _ H Q => ∀ p, H p = none → Q (.ref p) (upd H p (.dT []))
section
variable {X : Cx} {pos : Pos}
theorem pe_dnewK : PE X (.Dict [] [] pos) tDNewK := fun pins s σ H Q I h =>
  wpAny_Dict_empty ⟨.ref s.heap.objs.size, _, I.laid (a := s.heap.objs.size) (o := .dK []) (t' := s.toks) (fun _ _ q => Heap.get?_push_of_some _ q) (Nat.le_refl _) (dk_empty s.heap I.big), rfl, h _ (I.hok.fresh (Nat.le_refl _))⟩
theorem pe_dnewT : PE X (.Dict [] [] pos) tDNewT := fun pins s σ H Q I h =>
  wpAny_Dict_empty ⟨.ref s.heap.objs.size, _, I.laid (a := s.heap.objs.size) (o := .dT []) (t' := s.toks) (fun _ _ q => Heap.get?_push_of_some _ q) (Nat.le_refl _) (dt_empty s.heap I.big), rfl, h _ (I.hok.fresh (Nat.le_refl _))⟩
end

/-- the pairs of a display, from the left -/
def tPairs : List (TE × TE) → St → Hp → (List (V × V) → Hp → Prop) → Prop
  | [], _, H, Q => Q [] H
  | (tk, tv) :: r, σ, H, Q => tk σ H fun x H1 => tv σ H1 fun y H2 => tPairs r σ H2 fun ps H3 => Q ((x, y) :: ps) H3
abbrev VV : List (V × V) → List (Value × Value) → Prop := Paired fun p q => RelV p.1 q.1 ∧ RelV p.2 q.2
def PPs (X : Cx) (pos : Pos) (keys : List (Option Expr)) (values : List Expr) (trs : List (TE × TE)) : Prop :=
  ∀ (pins : List (Addr × Obj)) (s : Shared) (σ : St) (H : Hp) (Q : List (V × V) → Hp → Prop), Inv X pins σ H s → tPairs trs σ H Q →
    wpAny (model X.prog X.w) X.A (evalPairs (pairTrees keys values X.env pos)) (fun vs s' => ∃ ps H', Inv X pins σ H' s' ∧ VV ps vs ∧ Q ps H') X.xe s
theorem pps_nil {X : Cx} {pos : Pos} : PPs X pos [] [] [] := fun pins s σ H Q I h => pairTrees_nil_walk ⟨[], H, I, .nil, h⟩
theorem pps_cons {X : Cx} {pos : Pos} {k v : Expr} {ks : List (Option Expr)} {vs : List Expr} {tk tv : TE} {trs : List (TE × TE)} (hk : PE X k tk) (hv : PE X v tv) (hr : PPs X pos ks vs trs) :
    PPs X pos (some k :: ks) (v :: vs) ((tk, tv) :: trs) := fun pins s σ H Q I h =>
  pairTrees_cons_walk (thn (hk pins s σ H _ I h) fun u s1 ⟨x, H1, I1, rx, q1⟩ => thn (hv pins s1 σ H1 _ I1 q1) fun w2 s2 ⟨y, H2, I2, ry, q2⟩ =>
    thn (hr pins s2 σ H2 _ I2 q2) fun ws s3 ⟨ps, H3, I3, rel, q3⟩ => ⟨(x, y) :: ps, H3, I3, .cons ⟨rx, ry⟩ rel, q3⟩)

def mergeK (kvs more : List (Key × V)) : List (Key × V) := more.foldl (fun acc kv => putK acc kv.1 kv.2) kvs
theorem KV.merge : ∀ {more : List (Key × V)} {rs : List (Key × Value)} {kvs : List (Key × V)} {vs : List (Key × Value)}, KV more rs → KV kvs vs → KV (mergeK kvs more) (merged vs rs) := by
  intro more rs kvs vs r
  unfold KV at r
  induction r generalizing kvs vs with
  | nil => intro q; exact q
  | @cons p q ps qs h t ih =>
    intro r0
    have e : KV (putK kvs p.1 p.2) (stored vs q.1 q.2) := by
      have := r0.put p.1 h.2
      rw [← h.1]; exact this
    exact ih e
theorem length_mergeK : ∀ (more kvs : List (Key × V)), (mergeK kvs more).length ≤ kvs.length + more.length
  | [], kvs => by show kvs.length ≤ kvs.length + 0; omega
  | p :: r, kvs => by
    have h1 := length_mergeK r (putK kvs p.1 p.2)
    have h2 := length_putK kvs p.1 p.2
    show (mergeK (putK kvs p.1 p.2) r).length ≤ _
    rw [List.length_cons]; omega
theorem carries_of {P : Program} {w : World} : ∀ {kvs : List (Key × V)} {ws : List (Value × Value)}, VV (kvs.map fun kv => (kV kv.1, kv.2)) ws → ∃ rs, Carries (mixKind P w) ws rs ∧ KV kvs rs
  | [], _, r => by rw [List.map_nil] at r; cases r; exact ⟨[], True.intro, .nil⟩
  | p :: kvs, _, r => by
    rw [List.map_cons] at r
    cases r with
    | @cons a b as bs h t =>
      obtain ⟨rs, c, q⟩ := carries_of (P := P) (w := w) t
      obtain ⟨b1, b2⟩ := b
      exact ⟨(p.1, b2) :: rs, ⟨kV_is h.1, rfl, c⟩, .cons ⟨rfl, h.2⟩ q⟩
/-- {k: v, ..} with keys ints and texts; the new dict stands empty while the pairs are made -/
def tDisp (trs : List (TE × TE)) : TE := fun σ H Q => ∀ p, H p = none → tPairs trs σ (upd H p (.dK [])) fun ps H2 => H2 p = some (.dK []) ∧ ∃ kvs : List (Key × V), ps = kvs.map (fun kv => (kV kv.1, kv.2)) ∧ kvs.length ≤ 15 ∧ Q (.ref p) (upd H2 p (.dK (mergeK [] kvs)))
theorem pe_disp {X : Cx} {pos : Pos} {keys : List (Option Expr)} {values : List Expr} {trs : List (TE × TE)} (h : PPs X pos keys values trs) (hall : keys.all (·.isSome) = true) (hl : keys.length = values.length) (h0 : keys ≠ [])
    (h15 : keys.length ≤ 15) : PE X (.Dict keys values pos) (tDisp trs) := by
  intro pins s σ H Q I q
  have hn := I.hok.fresh (Nat.le_refl s.heap.objs.size)
  have I1 := I.laid (a := s.heap.objs.size) (o := .dK []) (h' := s.heap.push { cls := .type "dict", data := .dict #[] }) (t' := s.toks) (fun _ _ q => Heap.get?_push_of_some _ q) (Nat.le_refl _) (dk_empty s.heap I.big)
  refine wpAny_Dict_walk (knd := mixKind X.prog X.w) hall hl h0 h15 (thn (h pins _ σ _ _ I1 (q _ hn)) fun ws s2 ⟨ps, H2, I2, rel, e, kvs, ep, lk, q2⟩ => ?_)
  subst ep
  obtain ⟨rs, c, rk⟩ := carries_of (P := X.prog) (w := X.w) rel
  obtain ⟨z, hd, vs0, r0, dd⟩ := dk_of I2.hok e
  cases r0
  refine ⟨rs, c, dd, fun h' dd' hs => ⟨.ref s.heap.objs.size, _, ?_, rfl, q2⟩⟩
  have hz : (mergeK [] kvs).length ≤ sizeLine := by
    have h1 := length_mergeK kvs []
    rw [List.length_nil] at h1
    rw [sizeLine_eq]; omega
  have he : ∃ q, h'.get? s.heap.objs.size = some q := let ⟨q, _, _, hq, _⟩ := dd'; ⟨q, hq⟩
  exact d_write I2 (by rw [e]; exact True.intro) hs he (dk_new hz hd (rk.merge .nil) dd')


/-! ### methods -/
/-- a method call o.m(e) of a built-in, with one argument: what must be seen of the text -/
structure M1 (X : Cx) (o : Expr) (m : Str) (apos : Pos) (e : Expr) (cpos : Pos) : Prop where
  base : attributeBase o m X.env (eval o X.env) = eval o X.env
  few : ((backTo cpos (starEach [e] X.env)).all (fun x => !x.1) && (backToKw cpos (keywordEach [] X.env)).all (fun x => x.1.isSome)
    && decide (([e] : List Expr).length + ([] : List Keyword).length + (if ([] : List Keyword).isEmpty then 0 else 1) < 30)) = true
  line : (apos.endLine == cpos.line) = true
  trees : backTo cpos (starEach [e] X.env) = [(false, eval e X.env)]
structure M2 (X : Cx) (o : Expr) (m : Str) (apos : Pos) (e f : Expr) (cpos : Pos) : Prop where
  base : attributeBase o m X.env (eval o X.env) = eval o X.env
  few : ((backTo cpos (starEach [e, f] X.env)).all (fun x => !x.1) && (backToKw cpos (keywordEach [] X.env)).all (fun x => x.1.isSome)
    && decide (([e, f] : List Expr).length + ([] : List Keyword).length + (if ([] : List Keyword).isEmpty then 0 else 1) < 30)) = true
  line : (apos.endLine == cpos.line) = true
  trees : backTo cpos (starEach [e, f] X.env) = [(false, eval e X.env), (false, eval f X.env)]

/-- a is a dict, whatever its keys -/
def IsD (H : Hp) (a : Addr) : Prop := (∃ kvs, Rd H a (.dK kvs)) ∨ ∃ kvs, Rd H a (.dT kvs)
theorem isD_at {X : Cx} {pins : List (Addr × Obj)} {σ : St} {H : Hp} {s : Shared} {a : Addr} (I : Inv X pins σ H s) (d : IsD H a) :
    s.TypeIs (.ref a) "dict" ∧ (∀ b, Value.ref a = .ref b → ∃ ob, s.heap.get? b = some ob ∧ ob.dict = none) ∧ (a == sysModules) = false := by
  rcases d with ⟨kvs, e⟩ | ⟨kvs, e⟩
  · obtain ⟨_, hd, vs, _, dd⟩ := dk_rd I.hok e
    refine ⟨dd.typeIs, fun b q => ?_, hd⟩
    cases q
    obtain ⟨ob, _, _, h1, h2, _⟩ := dd
    exact ⟨ob, h1, h2.2.1⟩
  · obtain ⟨_, hd, xs, _, dd⟩ := dt_rd I.hok e
    refine ⟨dd.typeIs, fun b q => ?_, hd⟩
    cases q
    obtain ⟨ob, _, _, h1, h2, _⟩ := dd
    exact ⟨ob, h1, h2.2.1⟩

section
variable {X : Cx} {pins : List (Addr × Obj)} {σ : St} {H : Hp} {s : Shared} {a : Addr} {y d : V} {u r : Value} {o : Option V} {A : Around} {E : Value → Shared → Prop}
/-- d.get(y) -/
theorem d_get1 {Q : Value → Shared → Prop} (hu : A.units + 1 < cLine) (I : Inv X pins σ H s) (g : DGet H a y o) (ry : RelV y u) (h : ∀ w' s', Inv X pins σ H s' → RelV (o.getD .non) w' → Q w' s') :
    wpAny (model X.prog X.w) A (call (.builtin "dict.get") [.ref a, u]) Q E s := by
  rcases g with ⟨kvs, k, e, ey, l⟩ | ⟨kvs, k, b, e, ey, eb, l⟩
  · subst ey
    obtain ⟨z, hd, vs, rel, dd⟩ := dk_rd I.hok e
    refine call_meetsIn PySem.F.slot_dict_get dd.typeIs PySem.F.entry_dict_get (PySem.F.args_dict_get_2 _ _) (meets_dict_get (mixKind X.prog X.w) a (kV_is ry) hd) ⟨_, dd.mapOf, h _ _ (I.tok _) ?_⟩
    rw [l]
    exact (rel.val k).getD rfl
  · subst ey
    cases (show u = Value.ref b from ry)
    obtain ⟨z, hd, xs, rel, dd⟩ := dt_rd I.hok e
    refine call_meetsIn PySem.F.slot_dict_get dd.typeIs PySem.F.entry_dict_get (PySem.F.args_dict_get_2 _ _) (meetsH_dict_get (tupleKind (mixKind X.prog X.w)) a b hd) ⟨tupleKind_room_in1 hu, k, xs, key_of I.hok eb, dd, h _ _ (I.tok _) ?_⟩
    rw [l]
    exact (rel.val k).getD rfl
/-- d.get(y, x) -/
theorem d_get2 {Q : Value → Shared → Prop} (hu : A.units + 1 < cLine) (I : Inv X pins σ H s) (g : DGet H a y o) (ry : RelV y u) (rd : RelV d r) (h : ∀ w' s', Inv X pins σ H s' → RelV (o.getD d) w' → Q w' s') :
    wpAny (model X.prog X.w) A (call (.builtin "dict.get") [.ref a, u, r]) Q E s := by
  rcases g with ⟨kvs, k, e, ey, l⟩ | ⟨kvs, k, b, e, ey, eb, l⟩
  · subst ey
    obtain ⟨z, hd, vs, rel, dd⟩ := dk_rd I.hok e
    refine call_meetsIn PySem.F.slot_dict_get dd.typeIs PySem.F.entry_dict_get (PySem.F.args_dict_get_3 _ _ _) (meets_dict_get_default (mixKind X.prog X.w) a (kV_is ry) hd r) ⟨_, dd.mapOf, h _ _ (I.tok _) ?_⟩
    rw [l]
    exact (rel.val k).getD rd
  · subst ey
    cases (show u = Value.ref b from ry)
    obtain ⟨z, hd, xs, rel, dd⟩ := dt_rd I.hok e
    refine call_meetsIn PySem.F.slot_dict_get dd.typeIs PySem.F.entry_dict_get (PySem.F.args_dict_get_3 _ _ _) (meetsH_dict_get_default (tupleKind (mixKind X.prog X.w)) a b hd r) ⟨tupleKind_room_in1 hu, k, xs, key_of I.hok eb, dd, h _ _ (I.tok _) ?_⟩
    rw [l]
    exact (rel.val k).getD rd
end

def tDGet1 (td ty : TE) : TE := fun σ H Q => td σ H fun x H1 => ∃ a, x = .ref a ∧ IsD H1 a ∧ ty σ H1 fun y H2 => ∃ o, DGet H2 a y o ∧ Q (o.getD .non) H2
def tDGet2 (td ty tx : TE) : TE := fun σ H Q => td σ H fun x H1 => ∃ a, x = .ref a ∧ IsD H1 a ∧ ty σ H1 fun y H2 => tx σ H2 fun z H3 => ∃ o, DGet H3 a y o ∧ Q (o.getD z) H3
/-- d.pop(k): there; d.pop(k, x): there or not -/
def tDPop1 (td ty : TE) : TE := fun σ H Q => td σ H fun x H1 => ∃ a, x = .ref a ∧ IsD H1 a ∧ ty σ H1 fun y H2 => ∃ kvs k v, H2 a = some (.dK kvs) ∧ y = kV k ∧ valV kvs k = some v ∧ Q v (upd H2 a (.dK (dropK kvs k)))
def tDPop2 (td ty tx : TE) : TE := fun σ H Q => td σ H fun x H1 => ∃ a, x = .ref a ∧ IsD H1 a ∧ ty σ H1 fun y H2 => tx σ H2 fun z H3 => ∃ kvs k, H3 a = some (.dK kvs) ∧ y = kV k ∧
  (∀ v, valV kvs k = some v → Q v (upd H3 a (.dK (dropK kvs k)))) ∧ (valV kvs k = none → Q z H3)
section
variable {X : Cx} {o e f : Expr} {apos cpos : Pos} {td ty tx : TE}
theorem pe_dget1 (hu : X.A.units + 1 < cLine) (ho : PE X o td) (he : PE X e ty) (m : M1 X o "get" apos e cpos) : PE X (.Call (.Attribute o "get" apos) [e] [] cpos) (tDGet1 td ty) := by
  intro pins s σ H Q I h
  refine wpAny_Call_method m.base m.few m.line PySem.F.plainAttrs_dict PySem.F.slot_dict_get PySem.F.type_dict_get (thn (ho pins s σ H _ I h) fun u s1 ⟨x, H1, I1, rx, a, ex, d, q1⟩ => ?_)
  subst ex
  obtain rfl : u = Value.ref a := rx
  obtain ⟨t1, t2, _⟩ := isD_at I1 d
  refine ⟨t1, t2, ?_⟩
  rw [m.trees]
  refine Calls.callWith_builtin rfl (Calls.evalArgs_plain (Calls.spliced_cons (thn (he pins s1 σ H1 _ I1 q1) fun iv s2 ⟨y, H2, I2, ry, ov, g, q2⟩ => Calls.spliced_nil ?_)))
  exact d_get1 hu I2 g ry fun w' s3 I3 rw' => ⟨_, H2, I3, rw', q2⟩
theorem pe_dget2 (hu : X.A.units + 1 < cLine) (ho : PE X o td) (he : PE X e ty) (hf : PE X f tx) (m : M2 X o "get" apos e f cpos) : PE X (.Call (.Attribute o "get" apos) [e, f] [] cpos) (tDGet2 td ty tx) := by
  intro pins s σ H Q I h
  refine wpAny_Call_method m.base m.few m.line PySem.F.plainAttrs_dict PySem.F.slot_dict_get PySem.F.type_dict_get (thn (ho pins s σ H _ I h) fun u s1 ⟨x, H1, I1, rx, a, ex, d, q1⟩ => ?_)
  subst ex
  obtain rfl : u = Value.ref a := rx
  obtain ⟨t1, t2, _⟩ := isD_at I1 d
  refine ⟨t1, t2, ?_⟩
  rw [m.trees]
  refine Calls.callWith_builtin rfl (Calls.evalArgs_plain (Calls.spliced_cons (thn (he pins s1 σ H1 _ I1 q1) fun iv s2 ⟨y, H2, I2, ry, q2⟩ =>
    Calls.spliced_cons (thn (hf pins s2 σ H2 _ I2 q2) fun fv s3 ⟨z, H3, I3, rz, ov, g, q3⟩ => Calls.spliced_nil ?_))))
  exact d_get2 hu I3 g ry rz fun w' s4 I4 rw' => ⟨_, H3, I4, rw', q3⟩
theorem pe_dpop1 (ho : PE X o td) (he : PE X e ty) (m : M1 X o "pop" apos e cpos) : PE X (.Call (.Attribute o "pop" apos) [e] [] cpos) (tDPop1 td ty) := by
  intro pins s σ H Q I h
  refine wpAny_Call_method m.base m.few m.line PySem.F.plainAttrs_dict PySem.F.slot_dict_pop PySem.F.type_dict_pop (thn (ho pins s σ H _ I h) fun u s1 ⟨x, H1, I1, rx, a, ex, d, q1⟩ => ?_)
  subst ex
  obtain rfl : u = Value.ref a := rx
  obtain ⟨t1, t2, _⟩ := isD_at I1 d
  refine ⟨t1, t2, ?_⟩
  rw [m.trees]
  refine Calls.callWith_builtin rfl (Calls.evalArgs_plain (Calls.spliced_cons (thn (he pins s1 σ H1 _ I1 q1) fun iv s2 ⟨y, H2, I2, ry, kvs, k, v, ea, ey, l, q2⟩ => Calls.spliced_nil ?_)))
  subst ey
  exact d_pop I2 ea ry l (.inl rfl) fun w' s3 I3 rw' => ⟨v, _, I3, rw', q2⟩
theorem pe_dpop2 (ho : PE X o td) (he : PE X e ty) (hf : PE X f tx) (m : M2 X o "pop" apos e f cpos) : PE X (.Call (.Attribute o "pop" apos) [e, f] [] cpos) (tDPop2 td ty tx) := by
  intro pins s σ H Q I h
  refine wpAny_Call_method m.base m.few m.line PySem.F.plainAttrs_dict PySem.F.slot_dict_pop PySem.F.type_dict_pop (thn (ho pins s σ H _ I h) fun u s1 ⟨x, H1, I1, rx, a, ex, d, q1⟩ => ?_)
  subst ex
  obtain rfl : u = Value.ref a := rx
  obtain ⟨t1, t2, _⟩ := isD_at I1 d
  refine ⟨t1, t2, ?_⟩
  rw [m.trees]
  refine Calls.callWith_builtin rfl (Calls.evalArgs_plain (Calls.spliced_cons (thn (he pins s1 σ H1 _ I1 q1) fun iv s2 ⟨y, H2, I2, ry, q2⟩ =>
    Calls.spliced_cons (thn (hf pins s2 σ H2 _ I2 q2) fun fv s3 ⟨z, H3, I3, rz, kvs, k, ea, ey, q3, q4⟩ => Calls.spliced_nil ?_))))
  subst ey
  cases l : valV kvs k with
  | some v => exact d_pop I3 ea ry l (.inr ⟨fv, rfl⟩) fun w' s4 I4 rw' => ⟨v, _, I4, rw', q3 v l⟩
  | none => exact d_popD I3 ea ry l fun s4 I4 => ⟨z, H3, I4, rz, q4 l⟩
end

/-! ### dict(d): a copy -/
section
variable {X : Cx} {pins : List (Addr × Obj)} {σ : St} {H : Hp} {s : Shared} {a : Addr} {kvs : List (Key × V)} {A : Around} {E : Value → Shared → Prop}
theorem d_copyOf {Q : Value → Shared → Prop} (I : Inv X pins σ H s) (e : Rd H a (.dK kvs)) (h : ∀ p s', H p = none → Inv X pins σ (upd H p (.dK kvs)) s' → Q (.ref p) s') : wpAny (model X.prog X.w) A (call (.type "dict") [.ref a]) Q E s := by
  obtain ⟨z, hd, vs, rel, dd⟩ := dk_rd I.hok e
  refine kt_call_dict hd dd (by rw [← rel.length]; exact z) fun h' dd' hs => ?_
  refine h _ _ (I.hok.fresh (Nat.le_refl _)) (I.laid (a := s.heap.objs.size) (o := .dK kvs) (t' := s.toks) (fun b q hq => ?_) (Nat.le_refl _) (dk_new z (beq_eq_false_iff_ne.mpr (Ne.symm (Nat.ne_of_lt I.big))) rel dd'))
  exact (hs.2 b (Nat.ne_of_lt (Heap.lt_size hq))).trans (Heap.get?_push_of_some _ hq)
end


section
variable {X : Cx} {pins : List (Addr × Obj)} {σ : St} {H : Hp} {s : Shared} {a : Addr} {y : V} {u : Value} {A : Around} {E : Value → Shared → Prop}
/-- d[y], not there: a KeyError -/
theorem d_missing {Q : Value → Shared → Prop} (hu : A.units + 1 < cLine) (hh : A.handled = none) (I : Inv X pins σ H s) (g : DGet H a y none) (ry : RelV y u)
    (h : ∀ h' e t', Heap.NewExc s.heap h' e "KeyError" → E (.ref e) { s with heap := h', toks := t' }) : wpAny (model X.prog X.w) A (getItem (.ref a) u) Q E s := by
  rcases g with ⟨kvs, k, e, ey, l⟩ | ⟨kvs, k, b, e, ey, eb, l⟩
  · subst ey
    obtain ⟨z, hd, vs, rel, dd⟩ := dk_rd I.hok e
    have hn : valueAt vs k = none := RelO.none_of (by rw [l]; exact rel.val k)
    exact wpAny_getItem_missing_of (kV_is ry) hd hh dd.mapOf hn fun h' ex ne => h h' ex _ ne
  · subst ey
    cases (show u = Value.ref b from ry)
    obtain ⟨z, hd, xs, rel, dd⟩ := dt_rd I.hok e
    have hn : (atKey xs k).map (·.2) = none := RelO.none_of (by rw [l]; exact rel.val k)
    exact wpAny_getItem_missing_heap (tupleKind_room_in1 hu) (key_of I.hok eb) hd hh dd (Option.map_eq_none_iff.mp hn) fun h' ex ne => h h' ex _ ne
end
end L2

namespace Att
open PySem PySem.W PySem.Calls PyProof.Rows

/-! ### the script -/
theorem ints_of_wellAll {P : Params} {h : Heap} : ∀ (ns : List Int) (vs : List Value), WellAll P h vs (ns.map WData.int) → IntsAre vs ns := by
  intro ns
  induction ns with
  | nil =>
    intro vs w
    rw [List.map_nil] at w
    cases w
    exact .nil
  | cons n ns ih =>
    intro vs w
    rw [List.map_cons] at w
    cases w with
    | cons a b =>
      cases a
      exact .cons _ _ (ih _ b)

theorem script_of {l : OpenLaw} {n : Nat} (hn : l.most = some n) {P : Params} {h : Heap} {args : List WData} {vals : List Value}
    (hpre : l.row.toRowW.claim.pre args = true) (hwl : WellAll P h vals args) :
    ∃ a vs ns, vals = [Value.ref a] ∧ args = [WData.list (ns.map WData.int)] ∧ h.get? a = some { cls := .type "list", data := .seq vs.toArray } ∧ IntsAre vs ns ∧ ns.length ≤ n := by
  have hsh : WShape.hasAll [] args [.list .int] = true := (pre_splitW hpre).1
  have hc : l.pre.holds [] { args := args } = true := (pre_splitW hpre).2
  obtain ⟨d, r, rfl, h1, h2⟩ := hasAllW_cons hsh
  obtain rfl := hasAllW_nil h2
  obtain ⟨xs, rfl, h3⟩ := hasW_list h1
  obtain ⟨ns, rfl⟩ := items_int h3
  have hlen : ns.length ≤ n := by
    unfold OpenLaw.pre at hc
    have h4 : (WTm.not (.lt (.lit (.int (n : Int))) (.len (.arg 0)))).holds [] { args := [.list (ns.map .int)] } = true := by
      have h4 := (holds_andW hc).1
      rw [hn] at h4
      exact h4
    have h5 := condW_of h4 (w_not (w_lt w_lit (w_len_list (w_arg rfl))))
    rw [List.length_map] at h5
    refine Nat.le_of_not_lt fun q => ?_
    have q' : (n : Int) < ((ns.length : Nat) : Int) := by omega
    first
      | (rw [decide_eq_true q'] at h5; exact absurd h5 (by decide))
      | (simp at h5; omega)
  cases hwl with
  | cons w1 w2 =>
    cases w2
    cases w1 with
    | list ho hall => exact ⟨_, _, ns, rfl, rfl, ho, ints_of_wellAll ns _ hall, hlen⟩

theorem post_true (l : OpenLaw) (args : List WData) : l.row.toRowW.claim.post args (.bool true) args = true :=
  postW_of (r := l.row.toRowW) (X := (true == true))
    (show WShape.has [] (.bool true) .bool = true by first | rfl | decide | simp [WShape.has, WShape.arms, WShape.armsAll])
    (show (WTm.eq .res (.lit (.bool true))).value [] { args := args, res := some (.bool true), after := args } = some (.bool (true == true)) from w_eq_bool (w_res rfl) w_lit) rfl

/-! ### the attachment: holds_open's last premise (the goal 'hc' behind k_head) from a wpAny of the law's body -/
theorem attach {l : OpenLaw} {n : Nat} {q : Program} {loose : List Str} {XP : (Str → Option Value) → Heap → Prop} {YP : World → Heap → Prop} {d : DefRec} {x : Str}
    (hn : l.most = some n) (hdf : d.params.defaults = [])
    (hbind : ∀ pm cd doc v : Value, bindArgs (docDef d.name d.params d.body d.scope pm cd doc) ⟨[v], []⟩ = pure [(x, v)])
    (hx : d.scope.names.lookup x = some .local ∨ d.scope.names.lookup x = some .cell)
    (hk : d.scope.kind = .function) (hco : d.scope.isCoroutine = false) (hgen : d.scope.isGenerator = false)
    (body : ∀ (w : World) (s₀ s₁ s : Shared) (mg mb : Str → Option Value) (fa : Addr) (o : Obj) (pm cd doc : Value) (a : Addr) (vs : List Value) (ns : List Int),
      Ground q loose [] XP w s₀ mg mb s₁.heap → YP w s₁.heap →
      s₁.heap.get? fa = some o → o.data = .func (docDef d.name d.params d.body d.scope pm cd doc) → s₁.heap.CodeRec cd d.name → mg d.name = some (.ref fa) →
      s₁.heap.get? a = some { cls := .type "list", data := .seq vs.toArray } → IntsAre vs ns → ns.length ≤ n →
      s.gens = #[] → s.os = s₁.os →
      Fr s₁.heap s₁.heap.objs.size s.heap (bindL (envOfC d.name d.scope s₁.heap.objs.size fa cd).kindOf [(x, .ref a)] fun _ => none) →
      Cl s₁.heap.objs.size (cellsFrom (s₁.heap.objs.size + 1) d.scope.names []) s.heap (bindC (envOfC d.name d.scope s₁.heap.objs.size fa cd).kindOf [(x, .ref a)] fun _ => none) →
      wpAny (model l.prog w) (callerA.deeper (envOfC d.name d.scope s₁.heap.objs.size fa cd)) (execs d.body (envOfC d.name d.scope s₁.heap.objs.size fa cd))
        (fun f s' => f = .ret (.bool true) ∧ OldK s₁.heap s'.heap ∧ s'.os = s₁.os ∧ AllBare s'.gens) (fun _ _ => False) s) :
    WalkO q loose XP YP l.row.toRowW d [] (fun f vs => PySem.call f vs) := by
  intro w s₀ s₁ mg mb G Y fa o pm cd doc dV kV ho hd hcd hD hmg hg args vals as hpre hlay hrd hwl hlo
  obtain rfl : dV = .none := Dflts.none hD hdf
  obtain rfl : kV = .none := Dflts.noKw hD
  obtain ⟨a, vs, ns, rfl, rfl, hobj, hints, hlen⟩ := script_of hn hpre hwl
  refine enter_call ?_
  refine call_cells_ret (o := o) (by rw [depth_caller]; decide) ho (fd_plain hd) G.T.nolimit hcd (hbind pm cd doc (.ref a)) (fun y hy => ?_) (fun h₁ tk F X => ?_) hco hgen hk
  · obtain rfl : y = (x, Value.ref a) := List.mem_singleton.mp hy
    rcases hx with e | e
    · exact .inl e
    · exact .inr ⟨e, cellsFrom_some _ _ _ (.inl e)⟩
  · refine wpAny_mono (body w s₀ s₁ { s₁ with heap := h₁, toks := tk } mg mb fa o pm cd doc a vs ns G Y ho (fd_plain hd) hcd hmg hobj hints hlen hg rfl F X) (fun f s' hq => ?_) (fun _ _ hq => hq)
    obtain ⟨rfl, h2, h3, h4⟩ := hq
    exact ⟨.inl ⟨.bool true, .bool true, [], rfl, fun _ => rfl, .bool true, post_true l _, fun _ => ⟨List.Pairwise.nil, fun _ hm => (nomatch hm)⟩⟩, h2, h3, h4⟩

/-- the same from a codeAny of the CALL (for a layer whose function contracts speak of calls) -/
theorem attach_call {l : OpenLaw} {n : Nat} {q : Program} {loose : List Str} {XP : (Str → Option Value) → Heap → Prop} {YP : World → Heap → Prop} {d : DefRec}
    (hn : l.most = some n) (hdf : d.params.defaults = [])
    (call : ∀ (w : World) (s₀ s₁ : Shared) (mg mb : Str → Option Value) (fa : Addr) (o : Obj) (pm cd doc : Value) (a : Addr) (vs : List Value) (ns : List Int),
      Ground q loose [] XP w s₀ mg mb s₁.heap → YP w s₁.heap →
      s₁.heap.get? fa = some o → o.data = .func (docDef d.name d.params d.body d.scope pm cd doc) → s₁.heap.CodeRec cd d.name → mg d.name = some (.ref fa) →
      s₁.heap.get? a = some { cls := .type "list", data := .seq vs.toArray } → IntsAre vs ns → ns.length ≤ n → s₁.gens = #[] →
      codeAny (model l.prog w) callerA (.call (.ref fa) ⟨[.ref a], []⟩) (fun r s' => r = .ok (.ret (.bool true)) ∧ OldK s₁.heap s'.heap ∧ s'.os = s₁.os ∧ AllBare s'.gens) s₁) :
    WalkO q loose XP YP l.row.toRowW d [] (fun f vs => PySem.call f vs) := by
  intro w s₀ s₁ mg mb G Y fa o pm cd doc dV kV ho hd hcd hD hmg hg args vals as hpre hlay hrd hwl hlo
  obtain rfl : dV = .none := Dflts.none hD hdf
  obtain rfl : kV = .none := Dflts.noKw hD
  obtain ⟨a, vs, ns, rfl, rfl, hobj, hints, hlen⟩ := script_of hn hpre hwl
  refine enter_call (codeAny_mono (call w s₀ s₁ mg mb fa o pm cd doc a vs ns G Y ho (fd_plain hd) hcd hmg hobj hints hlen hg) fun r s' hq => ?_)
  obtain ⟨rfl, h2, h3, h4⟩ := hq
  exact ⟨.inl ⟨.bool true, .bool true, [], rfl, fun _ => rfl, .bool true, post_true l _, fun _ => ⟨List.Pairwise.nil, fun _ hm => (nomatch hm)⟩⟩, h2, h3, h4⟩

/-- the same where the top left finished generators (o_head chose holds_openN): nothing may have changed at all and no generator may be left -/
theorem attachN {l : OpenLaw} {n : Nat} {q : Program} {loose : List Str} {XP : (Str → Option Value) → Heap → Prop} {YP : World → Heap → Prop} {d : DefRec} {x : Str}
    (hn : l.most = some n) (hdf : d.params.defaults = [])
    (hbind : ∀ pm cd doc v : Value, bindArgs (docDef d.name d.params d.body d.scope pm cd doc) ⟨[v], []⟩ = pure [(x, v)])
    (hx : d.scope.names.lookup x = some .local ∨ d.scope.names.lookup x = some .cell)
    (hk : d.scope.kind = .function) (hco : d.scope.isCoroutine = false) (hgen : d.scope.isGenerator = false)
    (body : ∀ (w : World) (s₀ s₁ s : Shared) (mg mb : Str → Option Value) (fa : Addr) (o : Obj) (pm cd doc : Value) (a : Addr) (vs : List Value) (ns : List Int),
      Ground q loose [] XP w s₀ mg mb s₁.heap → YP w s₁.heap →
      s₁.heap.get? fa = some o → o.data = .func (docDef d.name d.params d.body d.scope pm cd doc) → s₁.heap.CodeRec cd d.name → mg d.name = some (.ref fa) →
      s₁.heap.get? a = some { cls := .type "list", data := .seq vs.toArray } → IntsAre vs ns → ns.length ≤ n →
      s.gens = #[] → s.os = s₁.os →
      Fr s₁.heap s₁.heap.objs.size s.heap (bindL (envOfC d.name d.scope s₁.heap.objs.size fa cd).kindOf [(x, .ref a)] fun _ => none) →
      Cl s₁.heap.objs.size (cellsFrom (s₁.heap.objs.size + 1) d.scope.names []) s.heap (bindC (envOfC d.name d.scope s₁.heap.objs.size fa cd).kindOf [(x, .ref a)] fun _ => none) →
      wpAny (model l.prog w) (callerA.deeper (envOfC d.name d.scope s₁.heap.objs.size fa cd)) (execs d.body (envOfC d.name d.scope s₁.heap.objs.size fa cd))
        (fun f s' => f = .ret (.bool true) ∧ (∀ b o, s₁.heap.get? b = some o → s'.heap.get? b = some o) ∧ s'.os = s₁.os ∧ s'.gens = #[]) (fun _ _ => False) s) :
    WalkN q loose XP YP l.row.toRowW d [] (fun f vs => PySem.call f vs) := by
  intro w s₀ s₁ mg mb G Y fa o pm cd doc dV kV ho hd hcd hD hmg hg args vals as hpre hlay hrd hwl hlo
  obtain rfl : dV = .none := Dflts.none hD hdf
  obtain rfl : kV = .none := Dflts.noKw hD
  obtain ⟨a, vs, ns, rfl, rfl, hobj, hints, hlen⟩ := script_of hn hpre hwl
  refine enter_callW ?_
  refine call_cells_ret (o := o) (by rw [depth_caller]; decide) ho (fd_plain hd) G.T.nolimit hcd (hbind pm cd doc (.ref a)) (fun y hy => ?_) (fun h₁ tk F X => ?_) hco hgen hk
  · obtain rfl : y = (x, Value.ref a) := List.mem_singleton.mp hy
    rcases hx with e | e
    · exact .inl e
    · exact .inr ⟨e, cellsFrom_some _ _ _ (.inl e)⟩
  · refine wpAny_mono (body w s₀ s₁ { s₁ with heap := h₁, toks := tk } mg mb fa o pm cd doc a vs ns G Y ho (fd_plain hd) hcd hmg hobj hints hlen hg rfl F X) (fun f s' hq => ?_) (fun _ _ hq => hq)
    obtain ⟨rfl, h2, h3, h4⟩ := hq
    exact ⟨.inl ⟨.bool true, .bool true, [], rfl, fun _ => rfl, .bool true, post_true l _, fun _ => ⟨List.Pairwise.nil, fun _ hm => (nomatch hm)⟩⟩, h2, h3, h4⟩

/-! ### rules over ANY heap (no ledger) from facts about the written part K: the library's own take a ledger (News) for what they write -/
section
variable {prog : Program} {w : World} {A : Around} {E : Value → Shared → Prop} {s : Shared} {K : Frag}

/-- a def of the module, or a method (qual 'C.m'), entered: the frame is the next address; cells behind it -/
theorem call_fn {R : Result → Shared → Prop} {name qual : Str} {params : Arguments} {body : List Stmt} {scope : Scope} {dV kV doc pm cdv ct oc : Value} {an od : Option Addr} {osl : Array (Option Value)} {f : Addr} {args : Args} {binds : List (Str × Value)}
    (X : K.In s.heap) (hlim : s.heap.NoLimit) (ho : K.lookup f = some ⟨oc, od, .func (fnOf name qual params body scope dV kV doc pm an cdv ct), osl⟩) (hcd : codeIn K cdv qual = true) (hroom : A.depth < recursionLimit)
    (hbind : BindsTo s (fnOf name qual params body scope dV kV doc pm an cdv ct) args binds)
    (hkind : (binds.all fun y => scope.names.lookup y.1 == some .local || scope.names.lookup y.1 == some .cell) = true)
    (h : ∀ s₁, InCallC s s.heap.objs.size (bindL (envOfC qual scope s.heap.objs.size f cdv).kindOf binds fun _ => none) (cellsFrom (s.heap.objs.size + 1) scope.names [])
        (bindC (envOfC qual scope s.heap.objs.size f cdv).kindOf binds fun _ => none) s₁ →
      wpAny (model prog w) (A.deeper (envOfC qual scope s.heap.objs.size f cdv)) (execs body (envOfC qual scope s.heap.objs.size f cdv))
        (fun fl s' => R (.ok (.ret (match fl with | .ret v => v | _ => .none))) s')
        (fun e s' => wpAny (model prog w) (A.deeper (envOfC qual scope s.heap.objs.size f cdv)) (leaving (envOfC qual scope s.heap.objs.size f cdv) e) (fun _ s'' => R (.error e) s'') (fun e' s'' => R (.error e') s'') s') s₁)
    (hco : scope.isCoroutine = false) (hgen : scope.isGenerator = false) (hk : scope.kind = .function) : codeAny (model prog w) A (.call (.ref f) args) R s := by
  refine codeAny_call_function hroom (X _ _ ho) rfl hco hgen rfl (codeRec_of X hcd) (hbind _ _ _ _ ?_)
  refine wpAny_newFunctionEnv_cells hk (kindsX hkind _) fun env he s₁ x => ?_
  subst he
  exact ⟨hlim.keeps x.toInCall.keep, codeAny_func (h s₁ x)⟩

/-- C(..): dict at size, instance at size + 1, then __init__ -/
theorem make_obj {R : Result → Shared → Prop} {C fI : Addr} {rest : List Value} {kw : List (Str × Value)}
    (X : K.In s.heap) (hm : makesIn K C = true) (hi : findIn K (.ref C) "__init__" = some (some (.ref fI))) (hf : isFn K (.ref fI) = true)
    (h : codeAny (model prog w) (A.under (.builtin "type.__call__" ⟨.ref C :: rest, kw⟩)) (.call (.ref fI) ⟨.ref (s.heap.objs.size + 1) :: rest, kw⟩) (InitBack (s.heap.objs.size + 1) R)
      { s with heap := (s.heap.push emptyDict).push (instObj C s.heap.objs.size) }) : codeAny (model prog w) A (.call (.ref C) ⟨rest, kw⟩) R s := by
  obtain ⟨hh, g, d, t, os⟩ := s
  exact make_core (makes_of X hm) (looks_findIn X hi) (fun self => bind_fn X self (beq_iff_eq.mp hf)) (.inl rfl) h

/-- x.name where the instance's dict holds the name and the class does not -/
theorem get_field {x C : Addr} {ox : Obj} {es : List DictEntry} {n : Nat} {name : Str} {expr : Bool} {v : Value} {Q : Value → Shared → Prop}
    (X : K.In s.heap) (I : PySem.W.InstAt s.heap x ox C (some (dictOf es n))) (hg : plainGet K C name = true) (hh : hasDictIn K C = true) (ha : findIn K (.ref C) name = some none)
    (hl : getL name es = some (some v)) (hv : handedIn v = true) (h : Q v { s with toks := s.toks + 1 }) : wpAny (model prog w) A (getAttr (.ref x) name expr) Q E s :=
  get_value X I (plainGet_of hg).1 (findObj_own hh ha rfl hl) hv h

/-- x.m(..): the method found in the class -/
theorem get_method {x C f : Addr} {ox : Obj} {es : List DictEntry} {n : Nat} {name : Str} {pl : Sem Bool} {Q : Value × List Value → Shared → Prop}
    (X : K.In s.heap) (I : PySem.W.InstAt s.heap x ox C (some (dictOf es n))) (hg : plainGet K C name = true) (hf : findIn K (.ref C) name = some (some (.ref f))) (ht : isFn K (.ref f) = true)
    (hl : getL name es = some none) (h : Q (.ref f, [.ref x]) s) : wpAny (model prog w) A (getMethod (.ref x) name pl) Q E s :=
  method_fn X I (plainGet_of hg).1 (plainGet_of hg).2 hf (beq_iff_eq.mp ht) (by show (lookIn name (dictOf es n)).map _ = _; rw [lookIn_dict, hl]; rfl) h

/-! the whole heap as the ledger: makes every rule that writes through a ledger a rule over any heap -/
def noObjs (h : Heap) : Heap := { h with objs := #[] }
theorem noObjs_get (h : Heap) (b : Addr) : (noObjs h).get? b = none := by
  cases e : (noObjs h).get? b with
  | none => rfl
  | some o => exact absurd (Heap.lt_size e) (Nat.not_lt_zero _)
def ledger (h : Heap) (L d : Addr) : List (Addr × Obj) := (List.range h.objs.size).filterMap fun a => if a = L ∨ a = d then none else (h.get? a).map fun o => (a, o)
theorem mem_ledger {h : Heap} {L d a : Addr} {o : Obj} : (a, o) ∈ ledger h L d ↔ a ≠ L ∧ a ≠ d ∧ h.get? a = some o := by
  unfold ledger
  rw [List.mem_filterMap]
  constructor
  · rintro ⟨b, _, e⟩
    split at e
    · cases e
    · rename_i hb
      obtain ⟨o', ho, e'⟩ := Option.map_eq_some_iff.mp e
      cases e'
      exact ⟨fun q => hb (.inl q), fun q => hb (.inr q), ho⟩
  · rintro ⟨n1, n2, ho⟩
    refine ⟨a, List.mem_range.mpr (Heap.lt_size ho), ?_⟩
    rw [if_neg (show ¬ (a = L ∨ a = d) from fun q => q.elim n1 n2), ho] <;> rfl
theorem news_ledger {h : Heap} {L d : Addr} {od : Obj} (hne : d ≠ L) (ho : h.get? d = some od) : News (noObjs h) L h ([] ++ (d, od) :: ledger h L d) := by
  rintro ⟨a, o⟩ hp
  rcases List.mem_cons.mp hp with e | hp
  · cases e
    exact ⟨ho, hne, noObjs_get _ _⟩
  · obtain ⟨n1, n2, e⟩ := mem_ledger.mp hp
    exact ⟨e, n1, noObjs_get _ _⟩
theorem fr_all {h : Heap} {L : Addr} {m : Str → Option Value} (n : h.Ns L m) : Fr (noObjs h) L h m :=
  ⟨n, fun b o e => (by rw [noObjs_get] at e; cases e), Nat.zero_le _⟩
/-- Upd of the head entry (for append_K, setItem_K ..) -/
theorem upd_ledger {h : Heap} {L d : Addr} {o o' : Obj} : Upd d o o' ((d, o) :: ledger h L d) ((d, o') :: ledger h L d) :=
  .head fun ⟨_, _⟩ hp => (mem_ledger.mp hp).2.1

/-- x.name = v over any heap: L is any namespace of the heap (the frame's, say): its map stays, its object is not told; all else but the dict stays -/
theorem set_field {x C dx L : Addr} {ox : Obj} {m : Str → Option Value} {es es' : List DictEntry} {n n' : Nat} {name : Str} {v : Value} {Q : Unit → Shared → Prop}
    (X : K.In s.heap) (I : PySem.W.InstAt s.heap x ox C (some (dictOf es n))) (hd : ox.dict = some dx) (hL : s.heap.Ns L m) (hne : dx ≠ L)
    (hs : findIn K (.ref C) "__setattr__" = some (some (.builtin "object.__setattr__"))) (hp : plainOver K C = true) (ht : takerIn K C name = some none) (hh : hasDictIn K C = true) (hl : (getL name es).isSome = true)
    (e : (putL name (PyData.keyHash w.params name) (.str name (s.toks + 1)) v es, putN name es n) = (es', n')) (hz : es'.length ≤ 1000)
    (h : ∀ h' : Heap, h'.Ns L m → h'.get? dx = some (dictOf es' n') → (∀ b o, b ≠ dx → b ≠ L → s.heap.get? b = some o → h'.get? b = some o) → Q () { s with heap := h', toks := s.toks + 2 }) :
    wpAny (model prog w) A (setAttr (.ref x) name v) Q E s := by
  obtain ⟨e1, e2⟩ := Prod.mk.inj e
  have hdx : s.heap.get? dx = some (dictOf es n) := by
    have := I.dict
    rw [hd] at this
    exact this
  refine set_plain X I hs (osa_dict (s := { s with toks := s.toks + 1 }) (h₀ := noObjs s.heap) (L := L) (m := m) (od := dictOf es n) (od' := dictOf es' n') (es := es') (n := n') (pre := []) (post := ledger s.heap L dx)
    (fr_all hL) (news_ledger hne hdx) X I hd hp ht hh hl (fun _ q => nomatch q) (fun ⟨_, _⟩ q => (mem_ledger.mp q).2.1) (by rw [putName_dict, e1, e2]) rfl hz fun h' F' N' => ?_)
  exact h h' F'.ns (N'.get (List.Mem.head _)) fun b o n1 n2 ho => N'.get (List.Mem.tail _ (mem_ledger.mpr ⟨n2, n1, ho⟩))
end
end Att

namespace L2
open PySem PySem.Spec PyProof.Rows

theorem vals_ints : ∀ {vs : List Value} {ns : List Int}, IntsAre vs ns → Vals (ns.map V.int) vs
  | _, _, .nil => .nil
  | _, _, .cons n t h => .cons ⟨t, rfl⟩ (vals_ints h)

/-- nothing is tracked but the script, known to the object (or it is an object of the module) -/
def Only (H : Hp) : Prop := ∀ b, H b = none ∨ ∃ o xs, H b = some (.frz o (.lst xs))

/-- THE HEAD: the law's promise, at the heap behind the top. F, the promise of the law's def, may use that base is part of the heap (so K.In base, base.Ns mainGlobals mg stand in Mod) -/
theorem law_call {P : Program} {w : World} {K : PySem.W.Frag} {mg mb : Str → Option Value} {CX : CXT} {k : Nat} {fa a : Addr} {fd : FuncData} {x : Str} {sp : Sp} {s₁ : Shared} {vs : List Value} {ns : List Int}
    (KX : K.In s₁.heap) (hns : s₁.heap.Ns mainGlobals mg) (hb : s₁.heap.Ns builtinsNs mb) (hbb : ∀ x : Str, x ≠ "__name__" → mb x = bootBuiltins x) (hlim : s₁.heap.NoLimit) (hg : s₁.gens = #[])
    (ha : s₁.heap.get? a = some { cls := .type "list", data := .seq vs.toArray }) (hi : IntsAre vs ns) (hl : ns.length ≤ sizeLine) (hr : Room k callerA)
    (F : ∀ base : Heap, K.In base → base.Ns mainGlobals mg → FnOk P w K mg base CX k fa fd [x] sp) (hbind : ∀ (s : Shared) (u : Value), BindsTo s fd ⟨[u], []⟩ [(x, u)])
    (hsp : ∀ H : Hp, Only H → SqL K H a (ns.map V.int) → sp [.ref a] H (fun v _ => v = .bl true) fun _ _ _ => False)
    (hCX : ∀ H e s', CX [] H s₁ (fun _ _ _ => False) e s' → False) :
    codeAny (model P w) callerA (.call (.ref fa) ⟨[.ref a], []⟩) (fun r s' => r = .ok (.ret (.bool true)) ∧ OldK s₁.heap s'.heap ∧ s'.os = s₁.os ∧ AllBare s'.gens) s₁ := by
  have rv := vals_ints hi
  have lenV := hi.length
  -- from an abstract heap in which nothing but the script may be tracked
  have core : ∀ H : Hp, Only H → SqL K H a (ns.map V.int) → HOk P w H s₁.heap → (∀ b, H b ≠ none → b = a) → (H a ≠ none → K.lookup a = none) →
      codeAny (model P w) callerA (.call (.ref fa) ⟨[.ref a], []⟩) (fun r s' => r = .ok (.ret (.bool true)) ∧ OldK s₁.heap s'.heap ∧ s'.os = s₁.os ∧ AllBare s'.gens) s₁ := by
    intro H hO hS hok hA hK
    have base_of : ∀ {b : Addr} {o : Obj}, s₁.heap.get? b = some o → H b = none → (hidT s₁.heap H).get? b = some o := fun e n => hidT_get e n
    have noA : ∀ {b : Addr} {o : Obj} {es : Array DictEntry} {ep : Nat}, s₁.heap.get? b = some o → o.data = .dict es ep → H b = none := fun {b o es ep} e d => by
      cases q : H b with
      | none => rfl
      | some u =>
        have e' : b = a := hA b (by rw [q]; simp)
        subst e'
        rw [ha] at e; cases e
        have d' : Data.seq vs.toArray _ = Data.dict es ep := d
        cases d'
    have nsK : ∀ {b : Addr} {m : Str → Option Value}, s₁.heap.Ns b m → (hidT s₁.heap H).Ns b m := fun {b m} ⟨o, es, ep, e, d, r⟩ => ⟨o, es, ep, base_of e (noA e d), d, r⟩
    have hKb : K.In (hidT s₁.heap H) := fun b o e => base_of (KX b o e) (by
      cases q : H b with
      | none => rfl
      | some u =>
        have e' : b = a := hA b (by rw [q]; simp)
        subst e'
        rw [hK (by rw [q]; simp)] at e; cases e)
    have hM : Mod K mg (hidT s₁.heap H) := ⟨hKb, nsK hns, ⟨mb, nsK hb, hbb⟩, let ⟨mc, h1, h2⟩ := hlim; ⟨mc, nsK h1, h2⟩⟩
    have e0 : Env0 P w K mg (hidT s₁.heap H) callerA [] s₁ H := ⟨rfl, hM, fun b o e => of_hidT e, Nat.le_of_eq (hidT_size _ _), trivial, fun b hb => absurd (show b ∈ ([] : List Addr) from hb) (by simp), hok, .of_eq hg⟩
    refine codeAny_mono ((F _ hKb (nsK hns)).run callerA [] s₁ H ⟨[.ref a], []⟩ [.ref a] [.ref a] _ _ hr e0 (hbind s₁ (.ref a)) (.cons rfl .nil) (hsp H hO hS)) fun r s' h => ?_
    cases r with
    | error e => exact (hCX H e s' h).elim
    | ok fl =>
      cases fl with
      | next => exact False.elim h
      | brk => exact False.elim h
      | cont => exact False.elim h
      | ret u =>
        obtain ⟨v, H', os, bare, un, hok', r', q⟩ := h
        have q' : v = .bl true := q
        subst q'
        obtain rfl : u = Value.bool true := r'
        refine ⟨rfl, OldK.of_keep fun b o e => ?_, os, bare⟩
        cases q : H b with
        | none => exact un.keep b o e q (by intro z; exact absurd (show b ∈ ([] : List Addr) from z) (by simp)) (by simp)
        | some u =>
          rcases hO b with z | ⟨ob, xs, z⟩
          · rw [q] at z; cases z
          · have z2 := un.frzs b ob _ z
            obtain ⟨e1, _⟩ := hok b _ z
            obtain ⟨e2, _⟩ := hok' b _ z2
            rw [e] at e1; cases e1
            exact e2
  cases hk : K.lookup a with
  | some o =>
    -- the script is one of the module's own objects
    have e := KX a o hk
    rw [ha] at e
    cases e
    refine core (fun _ => none) (fun _ => .inl rfl) (.inr ⟨_, vs.toArray, _, hk, rfl, rfl, rfl, by rw [List.size_toArray, lenV]; exact hl, by simpa using rv⟩) (fun b u z => by have z' : (none : Option HO) = some u := z; cases z') (fun b z => absurd rfl z) fun z => absurd rfl z
  | none =>
    refine core (fun b => if b = a then some (.frz { cls := .type "list", data := .seq vs.toArray } (.lst (ns.map V.int))) else none) (fun b => ?_) (.inl (.inr ⟨{ cls := .type "list", data := .seq vs.toArray }, if_pos rfl⟩)) (fun b u z => ?_) (fun b z => ?_) fun _ => hk
    · by_cases hb : b = a
      · exact .inr ⟨_, _, if_pos hb⟩
      · exact .inl (if_neg hb)
    · by_cases hb : b = a
      · have z' := (if_pos hb).symm.trans z
        cases z'
        subst hb
        exact ⟨ha, by rw [List.length_map]; exact hl, vs, _, rv, ha⟩
      · have z' := (if_neg hb).symm.trans z
        cases z'
    · by_cases hb : b = a
      · exact hb
      · exact absurd (if_neg hb) z
end L2

namespace L2
open PySem PySem.Spec PyProof.Rows

abbrev KOf {K : PySem.W.Frag} {h : Heap} (_ : K.In h) : PySem.W.Frag := K

/-- the goal that k_head leaves (case hc), from the law's promise. F gives the function object fd (K's own) once, then the promise over every base -/
theorem walk_of {l : PySem.W.OpenLaw} {n k : Nat} {q : Program} {loose : List Str} {XP : (Str → Option Value) → Heap → Prop} {YP : World → Heap → Prop} {d : DefRec} {K : Params → PySem.W.Frag} {CX : World → CXT} {sp : World → Sp} {x : Str}
    (hn : l.most = some n) (hn2 : n ≤ sizeLine) (hdf : d.params.defaults = []) (hr : Room k callerA)
    (hY : ∀ (w : World) (h : Heap), YP w h → (K w.params).In h)
    (F : ∀ (w : World) (mg : Str → Option Value) (fa : Addr) (h : Heap), (K w.params).In h → h.Ns mainGlobals mg → mg d.name = some (.ref fa) →
      ∃ fd : FuncData, (∀ (s : Shared) (u : Value), BindsTo s fd ⟨[u], []⟩ [(x, u)]) ∧
        ∀ base : Heap, (K w.params).In base → base.Ns mainGlobals mg → FnOk l.prog w (K w.params) mg base (CX w) k fa fd [x] (sp w))
    (hsp : ∀ (w : World) (H : Hp) (a : Addr) (ns : List Int), ns.length ≤ n → Only H → SqL (K w.params) H a (ns.map V.int) → sp w [.ref a] H (fun v _ => v = .bl true) fun _ _ _ => False)
    (hCX : ∀ (w : World) (H : Hp) (s : Shared) (e : Value) (s' : Shared), CX w [] H s (fun _ _ _ => False) e s' → False) :
    PySem.W.WalkO q loose XP YP l.row.toRowW d [] (fun f vs => PySem.call f vs) := by
  refine Att.attach_call hn hdf fun w s₀ s₁ mg mb fa o pm cd doc a vs ns G Y ho hd hcd hmg hobj hints hlen hg => ?_
  have KX := hY w _ Y
  obtain ⟨fd, hb, hF⟩ := F w mg fa _ KX G.T.g hmg
  exact law_call KX G.T.g G.T.b G.T.builtins G.T.nolimit hg hobj hints (Nat.le_trans hlen hn2) hr hF hb (fun H hO hS => hsp w H a ns hlen hO hS) fun H e s' => hCX w H s₁ e s'
/-- the same where the promise hangs on the written part alone: (sp := My.sp_law), no hole under a binder -/
theorem walk_ofK {l : PySem.W.OpenLaw} {n k : Nat} {q : Program} {loose : List Str} {XP : (Str → Option Value) → Heap → Prop} {YP : World → Heap → Prop} {d : DefRec} {K : Params → PySem.W.Frag} {CX : CXT} {sp : PySem.W.Frag → Sp} {x : Str}
    (hn : l.most = some n) (hn2 : n ≤ sizeLine) (hdf : d.params.defaults = []) (hr : Room k callerA)
    (hY : ∀ (w : World) (h : Heap), YP w h → (K w.params).In h)
    (F : ∀ (w : World) (mg : Str → Option Value) (fa : Addr) (h : Heap), (K w.params).In h → h.Ns mainGlobals mg → mg d.name = some (.ref fa) →
      ∃ fd : FuncData, (∀ (s : Shared) (u : Value), BindsTo s fd ⟨[u], []⟩ [(x, u)]) ∧
        ∀ base : Heap, (K w.params).In base → base.Ns mainGlobals mg → FnOk l.prog w (K w.params) mg base CX k fa fd [x] (sp (K w.params)))
    (hsp : ∀ (K : PySem.W.Frag) (H : Hp) (a : Addr) (ns : List Int), ns.length ≤ n → Only H → SqL K H a (ns.map V.int) → sp K [.ref a] H (fun v _ => v = .bl true) fun _ _ _ => False)
    (hCX : ∀ (H : Hp) (s : Shared) (e : Value) (s' : Shared), CX [] H s (fun _ _ _ => False) e s' → False) :
    PySem.W.WalkO q loose XP YP l.row.toRowW d [] (fun f vs => PySem.call f vs) :=
  walk_of (K := K) (CX := fun _ => CX) (sp := fun w => sp (K w.params)) hn hn2 hdf hr hY F (fun w H a ns h1 h2 h3 => hsp (K w.params) H a ns h1 h2 h3) fun _ H s e s' => hCX H s e s'
end L2

/- THE LAST THEOREM (shape; LID, My.* are yours):
   My.Adr: a structure of the addresses that your layer names (classes, functions); My.Txt K t: a structure (Prop) of the equations over K;
   My.txt_mk : {K} {implicit addresses ..} (e1 : nsIn K mainGlobals "law" = some (some (.ref f))) (e2 : K.lookup f = some ⟨oc, od, .func (fnOf "law" "law" params body scope dV kV doc pm an cdv ct), sl⟩) (e3 : codeIn K cdv "law" = true) .. : ∃ t, My.Txt K t

set_option maxRecDepth 100000 in
set_option maxHeartbeats 0 in
theorem PySem.Challenge.cw_LID_holds : PySem.Challenge.rw_LID.Holds := by
  w_on; o_law; k_head; (case hw => w_witness2)
  k_fill
  refine L2.walk_of (l := PySem.Challenge.rw_LID) (n := 63) (k := 40) (x := "script") (CX := fun w => ..) (sp := fun _ => My.sp_law) rfl (by decide) rfl ⟨rfl, by decide, by decide⟩ (fun w h Y => PySem.W.kIn_of Y) ?F ?S ?C
  case F =>
    intro w mg fa h KX G hmg
    have T : ∃ t, My.Txt (L2.KOf KX) t := by
      dsimp only [L2.KOf]                          -- K must stand as «<heap const> w.params» for k_is
      refine' My.txt_mk ?e1 ?e2 ?e3 ..
      (case e1 => PySem.W.k_is)                    -- in the order: a name -> its address -> its object -> its parts
      (case e2 => PySem.W.k_is)
      ..
    obtain ⟨t, T⟩ := T
    have e0 := hmg.symm.trans (PySem.W.mg_of KX G T.law)
    cases e0                                       -- fa is the law's own address
    exact ⟨_, fun s u => .of_eq rfl, fun base kb nb => My.law_fn T kb nb⟩     -- if «.of_eq rfl» comes too early: refine' ⟨_, ?b, fun base kb nb => My.law_fn T kb nb⟩; exact fun s u => .of_eq rfl
  case S => exact fun w H a ns hl hO hS => ..
  case C => exact ..
(the tactic k_is has no namespace: write k_is) -/

/-! SHORT WORDS over the layer: a def of the text, its body, what a loop and a test want. -/
namespace L2
open PySem PySem.Spec PyProof.Rows

/-! ### the text by places -/
/-- the j-th statement of a class's body -/
def inClass (s : Stmt) (j : Nat) : Stmt := match s with
  | .ClassDef _ _ _ body _ _ _ _ _ _ _ => body.getD j (.Pass ⟨0, 0, 0, 0⟩)
  | _ => .Pass ⟨0, 0, 0, 0⟩
def defArgs (s : Stmt) : Arguments := match s with
  | .FunctionDef _ a _ _ _ _ _ _ _ _ => a
  | _ => { posonlyargs := [], args := [], vararg := none, kwonlyargs := [], kw_defaults := [], kwarg := none, defaults := [] }
def defBody (s : Stmt) : List Stmt := match s with
  | .FunctionDef _ _ b _ _ _ _ _ _ _ => b
  | _ => []
def defScope (s : Stmt) : Scope := match s with
  | .FunctionDef _ _ _ _ _ _ sc _ _ _ => sc
  | _ => { kind := .function, names := [], isGenerator := false, isCoroutine := false }

/-! ### no exception leaves a def -/
abbrev CX0 : CXT := fun _ _ _ _ _ _ => False
abbrev E0 : XK := fun _ _ _ => False
theorem pass0 {X : Cx} : Passes CX0 X E0 := fun _ _ _ _ _ _ _ h => h.elim

/-! ### a def (or method) of the text as it stands behind the top -/
structure Fun (K : PySem.W.Frag) (x qual : Str) (st : Stmt) (f : Addr) (fd : FuncData) : Prop where
  ex : ∃ (oc : Value) (od : Option Addr) (kV doc pm : Value) (an : Option Addr) (cdv ct : Value) (osl : Array (Option Value)),
    fd = PySem.W.fnOf x qual (defArgs st) (defBody st) (defScope st) .none kV doc pm an cdv ct ∧ K.lookup f = some ⟨oc, od, .func fd, osl⟩ ∧ PySem.W.codeIn K cdv qual = true
  kp : PySem.W.keepIn K (.ref f) = true
section
variable {P : Program} {w : World} {K : PySem.W.Frag} {mg : Str → Option Value} {base : Heap}
/-- THE RULE for a def: its body as a term of rules, and the reading of that term -/
theorem Fun.ok {x qual : Str} {st : Stmt} {f : Addr} {fd : FuncData} {N ps : List Str} {k : Nat} {sp : Sp} (F : Fun K x qual st f fd) (S : FnScope N ps (defScope st)) (len : ∀ vs H Q E, sp vs H Q E → vs.length = ps.length)
    (hbody : ∀ (cdv : Value) (A : Around) (outer : List Env) (s : Shared) (H : Hp) (vs : List V) (Q : VK) (E : XK), Room k (A.deeper (envOfC qual (defScope st) s.heap.objs.size f cdv)) → sp vs H Q E →
      ∃ t, PSs (cxOf CX0 P w K mg base N qual (defScope st) f cdv A outer s H E).nox (defBody st) t ∧ t { nx := fun _ H' => Q .non H', rt := Q } (start N vs) H) : FnOk P w K mg base CX0 (k + 1) f fd ps sp := by
  obtain ⟨oc, od, kV, doc, pm, an, cdv, ct, osl, rfl, lk, hcd⟩ := F.ex
  refine fn_of lk hcd S len fun A outer s H vs Q E hr hsp => ?_
  obtain ⟨t, h, q⟩ := hbody cdv A outer s H vs Q E hr hsp
  exact ⟨t, h.nox, q⟩
/-- how its arguments bind (no defaults): h is «fun _ _ _ _ _ _ us hl => match us, hl with | [_, _], _ => rfl», one _ a parameter -/
theorem Fun.binds {x qual : Str} {st : Stmt} {f : Addr} {fd : FuncData} {ps : List Str} (F : Fun K x qual st f fd)
    (h : ∀ (kV doc pm : Value) (an : Option Addr) (cdv ct : Value) (us : List Value), us.length = ps.length → bindArgs (PySem.W.fnOf x qual (defArgs st) (defBody st) (defScope st) .none kV doc pm an cdv ct) ⟨us, []⟩ = pure (ps.zip us)) : Binds K fd ps [] := by
  obtain ⟨oc, od, kV, doc, pm, an, cdv, ct, osl, rfl, lk, hcd⟩ := F.ex
  exact .all (h kV doc pm an cdv ct)
theorem fun_mk {x qual : Str} {st : Stmt} {f : Addr} {oc : Value} {od an : Option Addr} {osl : Array (Option Value)} {kV doc pm cdv ct : Value} (l : K.lookup f = some ⟨oc, od, .func (PySem.W.fnOf x qual (defArgs st) (defBody st) (defScope st) .none kV doc pm an cdv ct), osl⟩)
    (c : PySem.W.codeIn K cdv qual = true) (k : PySem.W.keepIn K (.ref f) = true) : Fun K x qual st f (PySem.W.fnOf x qual (defArgs st) (defBody st) (defScope st) .none kV doc pm an cdv ct) := ⟨⟨oc, od, kV, doc, pm, an, cdv, ct, osl, rfl, l, c⟩, k⟩
end
theorem hu_of {A : Around} {k : Nat} (hr : Room k A) : A.units + 1 < cLine := Nat.lt_of_le_of_lt (Nat.add_le_add_left (by decide : 1 ≤ 64) _) hr.units
theorem small1000 {n : Nat} (h : n ≤ 1000) : n < sizeLine := Nat.lt_of_le_of_lt h (by decide)

/-! ### expressions in short: the name that stands in the i-th slot -/
section
variable {X : Cx}
theorem pv (i : Nat) {x : Str} {pos : Pos} (hN : X.N[i]? = some x := by rfl) (hv : Vis X.env.scope x := by first | exact Or.inl rfl | exact Or.inr (Or.inl rfl) | exact Or.inr (Or.inr rfl)) (hd : (x == ("__debug__" : Str)) = false := by decide)
    (hcd : (x == ("__classdict__" : Str)) = false := by decide) : PE X (.Name x pos) (tVar i) := pe_var hN hv hd hcd
end

/-! ### tests -/
theorem iteF {A B : Prop} (h : B) : if false = true then A else B := by
  rw [if_neg Bool.false_ne_true]
  exact h
theorem iteT {A B : Prop} (h : A) : if true = true then A else B := by
  rw [if_pos rfl]
  exact h
theorem ite2 {c A B : Prop} [Decidable c] (h1 : c → A) (h2 : ¬ c → B) : if c then A else B := by
  by_cases h : c
  · rw [if_pos h]
    exact h1 h
  · rw [if_neg h]
    exact h2 h
theorem iteNS {c A B : Prop} [Decidable c] (hc : c) (h : B) : if (!decide c) = true then A else B := by
  rw [decide_eq_true hc]
  exact iteF h

/-! ### heaps -/
/-- all that was tracked is as it was -/
def Same (H H' : Hp) : Prop := ∀ b o, H b = some o → H' b = some o
theorem Same.refl (H : Hp) : Same H H := fun _ _ h => h
theorem Same.trans {H H1 H2 : Hp} (a : Same H H1) (b : Same H1 H2) : Same H H2 := fun c o h => b c o (a c o h)
theorem Same.free {H H' : Hp} (e : Same H H') {l : Addr} (h : H' l = Option.none) : H l = Option.none := by
  cases q : H l with
  | none => rfl
  | some o =>
    rw [e l o q] at h
    cases h
theorem Same.seq {K : PySem.W.Frag} {H H' : Hp} {a : Addr} {xs : List V} (e : Same H H') (h : SqL K H a xs) : SqL K H' a xs := by
  rcases h with (h | ⟨o, h⟩) | h
  · exact .inl (.inl (e _ _ h))
  · exact .inl (.inr ⟨o, e _ _ h⟩)
  · exact .inr h

end L2

namespace L2
open PySem PySem.Spec PyProof.Rows
section
variable {X : Cx}
/-- len of a dict -/
theorem call_lenD : CallR X (.builtin "len") (fun xs H Q => ∃ a kvs, xs = [V.ref a] ∧ H a = some (.dK kvs) ∧ Q (.int kvs.length) H) := by
  intro pins s σ H xs us Q I r h
  obtain ⟨a, kvs, rfl, ha, q⟩ := h
  obtain ⟨u, rfl, ru⟩ := vals1 r
  cases ru
  exact d_len I (.inl ha) fun t s' I' => ⟨.int kvs.length, H, I', ⟨t, rfl⟩, q⟩
end
/-! ### a dict's pairs: keys that differ -/
section
variable {κ : Type} [DecidableEq κ]
theorem valV_not {kvs : List (κ × V)} {k : κ} (h : valV kvs k = none) : ¬ k ∈ kvs.map (·.1) := by
  intro m
  obtain ⟨p, hp, e⟩ := List.mem_map.mp m
  have q : (kvs.any fun kv => decide (kv.1 = k)) = true := List.any_eq_true.mpr ⟨p, hp, decide_eq_true e⟩
  rw [valV_any, h] at q
  exact absurd q (by simp)
theorem valV_in {kvs : List (κ × V)} {k : κ} {v : V} (h : valV kvs k = some v) : k ∈ kvs.map (·.1) := by
  have q : (kvs.any fun kv => decide (kv.1 = k)) = true := by
    rw [valV_any, h]
    all_goals rfl
  obtain ⟨p, hp, e⟩ := List.any_eq_true.mp q
  exact List.mem_map.mpr ⟨p, hp, of_decide_eq_true e⟩
theorem nd_snoc : ∀ {l : List κ} {k : κ}, l.Nodup → ¬ k ∈ l → (l ++ [k]).Nodup
  | [], k, _, _ => by simp
  | a :: r, k, h, hk => by
    obtain ⟨h1, h2⟩ := List.nodup_cons.mp h
    show (a :: (r ++ [k])).Nodup
    refine List.nodup_cons.mpr ⟨fun m => ?_, nd_snoc h2 fun m => hk (List.mem_cons.mpr (Or.inr m))⟩
    rcases List.mem_append.mp m with q | q
    · exact h1 q
    · exact hk (List.mem_cons.mpr (Or.inl (List.mem_singleton.mp q).symm))
theorem nd_putK {kvs : List (κ × V)} {k : κ} (v : V) (hn : (kvs.map (·.1)).Nodup) (h : valV kvs k = none) : ((putK kvs k v).map (·.1)).Nodup := by
  rw [putK_new v h, List.map_append]
  exact nd_snoc hn (valV_not h)
theorem dropK_pos {p : κ × V} {r : List (κ × V)} {k : κ} (e : p.1 = k) : dropK (p :: r) k = dropK r k := by
  unfold dropK
  rw [List.filter_cons, if_neg (by simp [e])]
theorem dropK_neg {p : κ × V} {r : List (κ × V)} {k : κ} (e : ¬ p.1 = k) : dropK (p :: r) k = p :: dropK r k := by
  unfold dropK
  rw [List.filter_cons, if_pos (by simp [e])]
theorem dropK_no : ∀ {kvs : List (κ × V)} {k : κ}, ¬ k ∈ kvs.map (·.1) → dropK kvs k = kvs
  | [], _, _ => rfl
  | p :: r, k, h => by
    have h' : ¬ k ∈ r.map (·.1) := fun m => by
      obtain ⟨q, hq, e⟩ := List.mem_map.mp m
      exact h (List.mem_map.mpr ⟨q, List.mem_cons.mpr (Or.inr hq), e⟩)
    rw [dropK_neg fun e => h (List.mem_map.mpr ⟨p, List.mem_cons.mpr (Or.inl rfl), e⟩), dropK_no h']
theorem dropK_mem {kvs : List (κ × V)} {k : κ} {p : κ × V} (h : p ∈ dropK kvs k) : p ∈ kvs := (List.mem_filter.mp h).1
theorem nd_dropK : ∀ {kvs : List (κ × V)} {k : κ}, (kvs.map (·.1)).Nodup → ((dropK kvs k).map (·.1)).Nodup
  | [], _, _ => List.nodup_nil
  | p :: r, k, h => by
    have h : (p.1 :: r.map (·.1)).Nodup := h
    obtain ⟨h1, h2⟩ := List.nodup_cons.mp h
    by_cases e : p.1 = k
    · rw [dropK_pos e]
      exact nd_dropK h2
    · rw [dropK_neg e]
      show (p.1 :: (dropK r k).map (·.1)).Nodup
      refine List.nodup_cons.mpr ⟨fun m => h1 ?_, nd_dropK h2⟩
      obtain ⟨q, hq, eq⟩ := List.mem_map.mp m
      exact List.mem_map.mpr ⟨q, dropK_mem hq, eq⟩
theorem dropK_len : ∀ {kvs : List (κ × V)} {k : κ}, (kvs.map (·.1)).Nodup → k ∈ kvs.map (·.1) → (dropK kvs k).length + 1 = kvs.length
  | [], _, _, m => by simp at m
  | p :: r, k, h, m => by
    have h : (p.1 :: r.map (·.1)).Nodup := h
    have m : k = p.1 ∨ k ∈ r.map (·.1) := List.mem_cons.mp m
    obtain ⟨h1, h2⟩ := List.nodup_cons.mp h
    by_cases e : p.1 = k
    · subst e
      rw [dropK_pos rfl, dropK_no h1]
      all_goals rfl
    · have m' : k ∈ r.map (·.1) := m.resolve_left fun z => e z.symm
      have q := dropK_len h2 m'
      rw [dropK_neg e, List.length_cons, List.length_cons]
      omega
end
end L2
set_option Elab.async false
set_option linter.all false
set_option maxRecDepth 100000
namespace L2
open PySem PySem.Spec PyProof.Rows
/-! ### a list comprehension of one clause -/
def closeGo (env : Env) : List (Str × NameKind) → List (Str × Addr) → List (Str × Addr)
  | [], cs => cs
  | (x, k) :: r, cs => closeGo env r (if k == .free then (x, (env.cells.lookup x).getD 0) :: cs else cs)
theorem closureFor_go {env : Env} : ∀ (names : List (Str × NameKind)) (cs : List (Str × Addr)), (∀ p ∈ names, p.2 = .free → ∃ c, env.cells.lookup p.1 = some c) →
   (forIn (m := Sem) names cs fun (x : Str × NameKind) cs => if (x.2 == NameKind.free) = true then do
      let a ← cellOf env x.1
      pure (ForInStep.yield ((x.1, a) :: cs)) else pure (ForInStep.yield cs)) = pure (closeGo env names cs)
  | [], cs, _ => rfl
  | (x, k) :: r, cs, h => by
    rw [List.forIn_cons]
    have ih := closureFor_go (env := env) r
    by_cases hk : k = .free
    · subst hk
      obtain ⟨c, hc⟩ := h (x, .free) List.mem_cons_self rfl
      have e1 : cellOf env x = pure c := by unfold cellOf; rw [hc]
      simp only [beq_self_eq_true, if_true, closeGo, e1, hc, Option.getD_some, pure_bind]
      exact ih _ fun p hp => h p (List.mem_cons_of_mem _ hp)
    · have hb : (k == NameKind.free) = false := by simpa using hk
      simp only [hb, Bool.false_eq_true, if_false, closeGo, pure_bind]
      exact ih _ fun p hp => h p (List.mem_cons_of_mem _ hp)
theorem closureFor_eq {env : Env} {scope : Scope} (h : ∀ p ∈ scope.names, p.2 = .free → ∃ c, env.cells.lookup p.1 = some c) : closureFor scope env = pure (closeGo env scope.names []) := by
  have e := closureFor_go (env := env) scope.names [] h
  unfold closureFor
  refine Eq.trans (b := (forIn (m := Sem) scope.names [] fun (x : Str × NameKind) cs => if (x.2 == NameKind.free) = true then do
      let a ← cellOf env x.1
      pure (ForInStep.yield ((x.1, a) :: cs)) else pure (ForInStep.yield cs)) >>= pure) rfl ?_
  rw [e]
  rfl
theorem closeGo_lookup {env : Env} {x : Str} : ∀ (names : List (Str × NameKind)) (cs : List (Str × Addr)), (∀ p ∈ names, p.2 = .free → ∃ c, env.cells.lookup p.1 = some c) →
    (closeGo env names cs).lookup x = if (x, NameKind.free) ∈ names then env.cells.lookup x else cs.lookup x
  | [], cs, _ => by simp [closeGo]
  | (y, k) :: r, cs, h => by
    rw [closeGo, closeGo_lookup r _ fun p hp => h p (List.mem_cons_of_mem _ hp)]
    by_cases hm : (x, NameKind.free) ∈ r
    · rw [if_pos hm, if_pos (List.mem_cons_of_mem _ hm)]
    · rw [if_neg hm]
      by_cases hk : k = .free
      · subst hk
        obtain ⟨c, hc⟩ := h (y, .free) List.mem_cons_self rfl
        by_cases hx : x = y
        · subst hx
          rw [if_pos List.mem_cons_self]
          simp [List.lookup_cons, hc]
        · have nm : ¬ (x, NameKind.free) ∈ (y, NameKind.free) :: r := fun z => by
            rcases List.mem_cons.mp z with e | e
            · exact hx (by injection e)
            · exact hm e
          rw [if_neg nm]
          have hb : (x == y) = false := by simpa using hx
          simp [List.lookup_cons, hb]
      · have hb : (k == NameKind.free) = false := by simpa using hk
        have nm : ¬ (x, NameKind.free) ∈ (y, k) :: r := fun z => by
          rcases List.mem_cons.mp z with e | e
          · exact hk (by injection e with _ e2; exact e2.symm)
          · exact hm e
        rw [if_neg nm]
        simp [hb]

/-- the loop of a comprehension, whatever it walks -/
theorem codeAny_compLoop_go {prog : Program} {w : World} {A : Around} {R : Result → Shared → Prop} {s : Shared} {elt target iter : Expr} {ifs : List Expr} {scope : Scope} {pos : Pos} {it acc : Value} {env : Env} (I : Nat → Shared → Prop)
    (turn : ∀ n s, I n s → wpAny (model prog w) A (pyNext it) (fun r s₁ => match r with
      | none => R (.ok .next) s₁
      | some v => wpAny (model prog w) A (letOwnedTupleGo target it v) (fun _ s₁' => wpAny (model prog w) A (assign target env v) (fun _ s₂ =>
          wpAny (model prog w) A (forIn ifs true fun c r => if r = true then do let ok ← isTrue c env (eval c env); pure (ForInStep.yield ok) else pure (ForInStep.yield r)) (fun ok s₃ =>
            if ok = true then wpAny (model prog w) A (eval elt env) (fun x s₄ =>
              wpAny (model prog w) A (call (.builtin "list.append") [acc, x]) (fun _ s₅ => ∃ m, m < n ∧ I m s₅) (notedBy (model prog w) A env fun e s' => R (.error e) s') s₄) (notedBy (model prog w) A env fun e s' => R (.error e) s') s₃
            else ∃ m, m < n ∧ I m s₃) (notedBy (model prog w) A env fun e s' => R (.error e) s') s₂) (notedBy (model prog w) A env fun e s' => R (.error e) s') s₁') (notedBy (model prog w) A env fun e s' => R (.error e) s') s₁) (notedBy (model prog w) A env fun e s' => R (.error e) s') s)
    (n : Nat) (h : I n s) : codeAny (model prog w) A (.compLoop (.ListComp elt [⟨target, iter, ifs, 0⟩] scope pos) 0 it acc env) R s := by
  refine codeAny_loop rfl I (fun n s hI => ?_) n h
  show wpAny _ A ((compTurn (.ListComp elt [⟨target, iter, ifs, 0⟩] scope pos) 0 it acc env).onRaise (fun x => do noteFrame x env; theTreesLotGoes x)) _ _ s
  refine wpAny_noted ?_
  rw [compTurn_list]
  refine wpAny_bind (wpAny_standAt (wpAny_bind (wpAny_mono (turn n s hI) (fun r s₁ h₁ => ?_) fun _ _ h' => h')))
  cases r with
  | none => exact wpAny_pure h₁
  | some v =>
    refine wpAny_bind (wpAny_mono h₁ (fun _ s₁' h₁' => ?_) fun _ _ h' => h')
    refine wpAny_bind (wpAny_mono h₁' (fun _ s₂ h₂ => wpAny_bind (wpAny_mono h₂ (fun ok s₃ h₃ => ?_) fun _ _ h' => h')) fun _ _ h' => h')
    cases ok with
    | false => exact wpAny_pure ⟨rfl, h₃⟩
    | true =>
      exact wpAny_bind (wpAny_bind (wpAny_mono h₃ (fun x s₄ h₄ => wpAny_bind (wpAny_mono h₄ (fun _ s₅ h₅ => wpAny_pure (wpAny_pure ⟨rfl, h₅⟩)) fun _ _ h' => h')) fun _ _ h' => h'))
/-- the context of a comprehension's block: its names N (its own first, then those of the def around that it reads); no exception leaves it -/
abbrev cxB (X : Cx) (scope : Scope) (N : List Str) (cl : List (Str × Addr)) (C : Addr) (s : Shared) (H : Hp) (fp : List Addr) : Cx where
  prog := X.prog
  w := X.w
  K := X.K
  mg := X.mg
  base := X.base
  A := X.A
  N := N
  s₀ := s
  H₀ := H
  env := compEnvC scope cl C X.env
  outer := X.stack
  stack := X.stack
  ex := fp
  calm := X.calm
  fn := fun _ => false
  pn := []
  xe := fun _ _ => False
def blkS (nl : Nat) (caps : List Nat) (σ : St) : St := List.replicate nl none ++ caps.map fun j => σ.getD j none
def isCF : Option NameKind → Bool
  | some .cell => true
  | some .free => true
  | _ => false
/-- what the text must say of a comprehension's scope: sc, XN: the scope and the names around -/
structure CompSc (sc : Scope) (XN : List Str) (scope : Scope) (N : List Str) (nl : Nat) (caps : List Nat) : Prop where
  kind : scope.kind = .function
  nocell : ∀ x ∈ scope.names, x.2 ≠ .cell
  locs : ∀ x ∈ scope.names, x.2 = .local → scope.names.lookup x.1 = some .local
  free : ∀ x ∈ scope.names, x.2 = .free → isCF (sc.names.lookup x.1) = true
  len : N.length = nl + caps.length
  cap : ∀ k j, caps[k]? = some j → ∃ x, XN[j]? = some x ∧ N[nl + k]? = some x ∧ scope.names.lookup x = some .free ∧ isCF (sc.names.lookup x) = true
def compScB (sc : Scope) (XN : List Str) (scope : Scope) (N : List Str) (nl : Nat) (caps : List Nat) : Bool :=
  (scope.kind == .function) && scope.names.all (fun x => x.2 != .cell && (x.2 != .local || scope.names.lookup x.1 == some .local) && (x.2 != .free || isCF (sc.names.lookup x.1))) &&
  (N.length == nl + caps.length) && (caps.zipIdx.all fun jk => match XN[jk.1]? with
    | none => false
    | some x => N[nl + jk.2]? == some x && scope.names.lookup x == some .free && isCF (sc.names.lookup x))
theorem CompSc.of {sc : Scope} {XN : List Str} {scope : Scope} {N : List Str} {nl : Nat} {caps : List Nat} (h : compScB sc XN scope N nl caps = true) : CompSc sc XN scope N nl caps := by
  unfold compScB at h
  rw [Bool.and_eq_true, Bool.and_eq_true, Bool.and_eq_true] at h
  obtain ⟨⟨⟨h1, h2⟩, h3⟩, h4⟩ := h
  rw [List.all_eq_true] at h2 h4
  refine ⟨eq_of_beq h1, fun x hx => ?_, fun x hx e => ?_, fun x hx e => ?_, eq_of_beq h3, fun k j e => ?_⟩
  · have := h2 x hx
    rw [Bool.and_eq_true, Bool.and_eq_true] at this
    simpa using this.1.1
  · have := h2 x hx
    rw [Bool.and_eq_true, Bool.and_eq_true] at this
    have q := this.1.2
    rw [e] at q
    simpa using q
  · have := h2 x hx
    rw [Bool.and_eq_true, Bool.and_eq_true] at this
    have q := this.2
    rw [e] at q
    simpa using q
  · have m : (j, k) ∈ caps.zipIdx := by
      rw [List.mem_zipIdx_iff_getElem?]
      exact e
    have q := h4 _ m
    dsimp only at q
    split at q
    · cases q
    · rename_i x ex
      rw [Bool.and_eq_true, Bool.and_eq_true] at q
      exact ⟨x, ex, eq_of_beq q.1.1, eq_of_beq q.1.2, q.2⟩
theorem relabel_mem {scope : Scope} {env : Env} {x : Str} {k : NameKind} (h : (relabel scope env).names.lookup x = some k) : (x, k) ∈ scope.names ∨ (k = .cell ∧ (x, NameKind.free) ∈ scope.names) := by
  have m := PySem.mem_of_lookup h
  obtain ⟨⟨y, q⟩, hy, e⟩ := List.mem_map.mp m
  dsimp only at e
  split at e
  · rename_i hc
    injection e with e1 e2
    subst e1
    have hf : q = .free := by
      rw [Bool.and_eq_true, Bool.and_eq_true] at hc
      exact eq_of_beq hc.1.1
    subst hf
    exact .inr ⟨e2.symm, hy⟩
  · injection e with e1 e2
    subst e1; subst e2
    exact .inl hy
def tComp (wi : TI) (g : TG) (tc : TT) (te : TE) (nl : Nat) (caps : List Nat) : TE := fun σ H Q =>
  wi σ H fun J H1 => ∀ acc, H1 acc = none → ∃ W : Nat → Nat → St → Hp → Prop, (∃ m, W 0 m (blkS nl caps σ) (upd H1 acc (.lst []))) ∧
    ∀ i m σ' H', W i m σ' H' → (J.stop i H' ∧ Q (.ref acc) H') ∨
      (J.go i H' ∧ ∀ x H2, J.yld i H' x H2 → g x σ' H2 fun σ2 H3 => tc σ2 H3 fun b H4 =>
        if b = true then te σ2 H4 fun y H5 => ∃ ys, H5 acc = some (.lst ys) ∧ ys.length < sizeLine ∧ ∃ m', m' < m ∧ W (i + 1) m' σ2 (upd H5 acc (.lst (ys ++ [y])))
        else ∃ m', m' < m ∧ W (i + 1) m' σ2 H4)
section
variable {X : Cx} {elt target iter : Expr} {ifs : List Expr} {scope : Scope} {pos : Pos} {N : List Str} {nl : Nat} {caps : List Nat} {wi : TI} {g : TG} {tc : TT} {te : TE}
/-- the tests of a clause, as one -/
def PTs (X : Cx) (ifs : List Expr) (t : TT) : Prop :=
  ∀ (pins : List (Addr × Obj)) (s : Shared) (σ : St) (H : Hp) (Q : Bool → Hp → Prop), Inv X pins σ H s → t σ H Q →
    wpAny (model X.prog X.w) X.A (forIn ifs true fun c r => if r = true then do let ok ← isTrue c X.env (eval c X.env); pure (ForInStep.yield ok) else pure (ForInStep.yield r)) (TP X pins σ Q) X.xe s
def tYes : TT := fun _ H Q => Q true H
theorem pts_nil : PTs X [] tYes := fun _ _ _ H _ I h => wpAny_tests_nil ⟨H, I, h⟩
theorem pts_one {c : Expr} {t : TT} (h : PT X c t) : PTs X [c] t := fun pins s σ H Q I hw => wpAny_tests_one (h pins s σ H Q I hw)
/-- the block begins -/
theorem inv_block {pins : List (Addr × Obj)} {σ : St} {H : Hp} {s s4 : Shared} {cl : List (Str × Addr)} {fp : List Addr} (S : CompSc X.env.scope X.N scope N nl caps) (I : Inv X pins σ H s)
    (hcl : ∀ x, cl.lookup x = if (x, NameKind.free) ∈ scope.names then X.env.cells.lookup x else none)
    (hf : ∀ b ∈ fp, FpOk X pins H b) (hlt : ∀ b ∈ fp, b < s.heap.objs.size) (hos : s4.os = s.os) (hg : s4.gens = s.gens) (hn : ∃ m, s4.heap.Ns s.heap.objs.size m) (hk : ∀ b o, s.heap.get? b = some o → s4.heap.get? b = some o) :
    Inv (cxB X scope N cl s.heap.objs.size s H fp) [] (blkS nl caps σ) H s4 := by
  have clX : ∀ x c, cl.lookup x = some c → X.env.cells.lookup x = some c := fun x c e => by
    rw [hcl] at e
    split at e
    · exact e
    · cases e
  refine ⟨⟨I.ok.mod, ?_, I.ok.glob, I.ok.blt, Nat.le_refl _, fun x y c h1 h2 => I.ok.inj x y c (clX x c h1) (clX y c h2), fun x hx => ?_, fun x c z => ?_, I.ok.hd, I.ok.frames, .inl rfl, fun b hb => ⟨Nat.ne_of_lt (hlt b hb), fun x c e => (hf b hb).2.2.2.2.1 x c (clX x c e)⟩, I.bs, Nat.le_trans I.ok.bsz I.sz, fun b o e hb => ?_, fun b hb hs => ?_, I.stack, I.stkFree⟩,
    hos, ?_, Un.kept hk, ?_, fun x c e => ?_, I.hok.fresh (Nat.le_refl _), fun x c e => I.freeC x c (clX x c e), fun p hp => absurd (show p ∈ ([] : List (Addr × Obj)) from hp) (by simp), I.hok.kept hk, ?_⟩
  · show (relabel scope X.env).kind = .function
    exact S.kind
  · have hx : (relabel scope X.env).names.lookup x = some .cell ∨ (relabel scope X.env).names.lookup x = some .free := hx
    have hm : (x, NameKind.free) ∈ scope.names := by
      rcases hx with h | h
      · rcases relabel_mem h with m | ⟨_, m⟩
        · exact absurd rfl (S.nocell _ m)
        · exact m
      · rcases relabel_mem h with m | ⟨e, _⟩
        · exact m
        · cases e
    have hq := S.free _ hm rfl
    have hc : ∃ c, X.env.cells.lookup x = some c := by
      apply I.ok.has x
      show X.env.scope.names.lookup x = some .cell ∨ X.env.scope.names.lookup x = some .free
      cases e : X.env.scope.names.lookup x with
      | none => rw [e] at hq; cases hq
      | some k =>
        rw [e] at hq
        cases k <;> first
          | exact .inl rfl
          | exact .inr rfl
          | cases hq
    obtain ⟨c, e⟩ := hc
    exact ⟨c, by show cl.lookup x = some c; rw [hcl, if_pos hm]; exact e⟩
  · cases z
  · rcases (hf b hb).2.2.2.1 with z | z
    · exact I.ok.noex b o e z
    · exact absurd (Nat.lt_of_lt_of_le (Heap.lt_size (I.ok.bs b o e).1) z) (Nat.lt_irrefl _)
  · rcases List.mem_cons.mp (I.stkSub b hs) with z | z
    · exact (hf b hb).2.1 z
    · exact (hf b hb).2.2.1 z
  · rw [hg]; exact I.bare
  · obtain ⟨m, hn⟩ := hn
    refine ⟨m, hn, fun i x v h1 h2 h3 => ?_⟩
    have hN : N[i]? = some x := h1
    unfold blkS at h2
    by_cases hi : i < nl
    · rw [List.getElem?_append_left (by simpa using hi), List.getElem?_replicate, if_pos hi] at h2
      cases h2
    · rw [List.getElem?_append_right (by simpa using hi), List.length_replicate, List.getElem?_map] at h2
      cases e : caps[i - nl]? with
      | none => rw [e] at h2; cases h2
      | some j =>
        rw [e] at h2
        have h2 : σ.getD j none = some v := Option.some.inj h2
        obtain ⟨y, e1, e2, e3', e5⟩ := S.cap _ _ e
        have e3 : (y, NameKind.free) ∈ scope.names := PySem.mem_of_lookup e3'
        have e4 : Vis X.env.scope y := by
          cases q : X.env.scope.names.lookup y with
          | none => rw [q] at e5; cases e5
          | some k =>
            rw [q] at e5
            cases k <;> first
              | exact .inr (.inl q)
              | exact .inr (.inr q)
              | cases e5
        have ei : nl + (i - nl) = i := by omega
        rw [ei, hN] at e2
        cases e2
        have hs : σ[j]? = some (some v) := by
          rw [List.getD_eq_getElem?_getD] at h2
          cases q : σ[j]? with
          | none => rw [q] at h2; cases h2
          | some o => rw [q] at h2; exact congrArg some h2
        obtain ⟨m0, _, hl⟩ := I.loc
        obtain ⟨u, r, l⟩ := hl j x v e1 hs e4
        refine ⟨u, r, .inr ⟨?_, ?_⟩⟩
        · show (relabel scope X.env).names.lookup x = some .cell ∨ (relabel scope X.env).names.lookup x = some .free
          rcases h3 with h3 | h3 | h3
          · have h3 : (relabel scope X.env).names.lookup x = some .local := h3
            rcases relabel_mem h3 with z | ⟨z, _⟩
            · have z2 : scope.names.lookup x = some .local := S.locs _ z rfl
              rw [z2] at e3'; cases e3'
            · cases z
          · exact .inl h3
          · exact .inr h3
        · have hq : X.env.scope.names.lookup x ≠ some .local := fun z => by rw [z] at e5; cases e5
          rcases l with ⟨z, _⟩ | ⟨_, c, z1, z2⟩
          · exact absurd z hq
          · refine ⟨c, ?_, z2.keeps hk⟩
            show cl.lookup x = some c
            rw [hcl, if_pos e3]; exact z1
  · obtain ⟨v, z⟩ := I.cell x c (clX x c e)
    exact ⟨v, z.keeps hk⟩
  · show (blkS nl caps σ).length = N.length
    unfold blkS
    rw [List.length_append, List.length_replicate, List.length_map, S.len]
/-- the block is left -/
theorem inv_unblock {pins : List (Addr × Obj)} {σ σ' : St} {H H' : Hp} {s s' : Shared} {cl : List (Str × Addr)} {fp : List Addr} {h' : Heap} (I : Inv X pins σ H s) (hf : ∀ b ∈ fp, FpOk X pins H b)
    (J : Inv (cxB X scope N cl s.heap.objs.size s H fp) [] σ' H' s') (hs : Heap.SameBut s.heap.objs.size s'.heap h') : Inv X pins σ H' { s' with heap := h' } := by
  have ne : ∀ b o, s.heap.get? b = some o → b ≠ s.heap.objs.size := fun b o e => Nat.ne_of_lt (Heap.lt_size e)
  have u : Un (frs X.stack) fp H H' s.heap s'.heap := J.base
  have fr : H' s.heap.objs.size = none := J.free
  refine I.call' (ch := fp) (s' := { s' with heap := h' }) J.os ⟨fun b o e n hb hx => (hs.2 b (ne b o e)).trans (u.keep b o e n hb hx), fun b o e n hb hx => ?_, u.free, fun b o e hx => ?_, u.tups, u.frzs, u.tbls⟩ (fun b o e => ?_) J.bare fun b hb => ?_
  · obtain ⟨sl, q⟩ := u.slot b o e n hb hx
    exact ⟨sl, (hs.2 b (ne b o e)).trans q⟩
  · obtain ⟨o', q⟩ := u.there b o e hx
    exact ⟨o', (hs.2 b (ne b o e)).trans q⟩
  · refine (J.hok b o e).stay (fun c v hc q => (hs.2 c ?_).trans q) (fun _ q => q) fun _ _ q => q
    rintro rfl
    rcases hc with z | z
    · rw [← z, fr] at e; cases e
    · rw [fr] at z; cases z
  · obtain ⟨_, f1, _, f3, f4, f5⟩ := hf b hb
    exact ⟨f3, f1, f4, f5⟩
theorem comp_core {pins : List (Addr × Obj)} {σ : St} {s2 : Shared} {H2 : Hp} {it : Addr} {fp : List Addr} {tn : Nat → Heap → Prop} {J : It} {E : Value → Shared → Prop} {Q : Hp → Prop} {W : Nat → Nat → St → Hp → Prop} {m0 : Nat}
    (S : CompSc X.env.scope X.N scope N nl caps) (hc : X.calm = true) (I2 : Inv X pins σ H2 s2) (T : Turn X.prog X.w X.K target J fp it tn) (st2 : tn 0 s2.heap) (f2 : ∀ b ∈ fp, FpOk X pins H2 b)
    (hg : ∀ cl C s H fp, PG (cxB X scope N cl C s H fp) target g) (ht : ∀ cl C s H fp, PTs (cxB X scope N cl C s H fp) ifs tc) (he : ∀ cl C s H fp, PE (cxB X scope N cl C s H fp) elt te)
    (w0 : W 0 m0 (blkS nl caps σ) (upd H2 s2.heap.objs.size (.lst [])))
    (turn : ∀ i m σ' H', W i m σ' H' → (J.stop i H' ∧ Q H') ∨
      (J.go i H' ∧ ∀ x H3, J.yld i H' x H3 → g x σ' H3 fun σ2 H4 => tc σ2 H4 fun b H5 =>
        if b = true then te σ2 H5 fun y H6 => ∃ ys, H6 s2.heap.objs.size = some (.lst ys) ∧ ys.length < sizeLine ∧ ∃ m', m' < m ∧ W (i + 1) m' σ2 (upd H6 s2.heap.objs.size (.lst (ys ++ [y])))
        else ∃ m', m' < m ∧ W (i + 1) m' σ2 H5))
    (RR : Value → Addr → Result → Shared → Prop)
    (hRR : ∀ (C : Addr) s' H', (∃ m, s'.heap.Ns C m) → FpOk X pins H' C → (∀ h', Heap.SameBut C s'.heap h' → Inv X pins σ H' { s' with heap := h' }) → Q H' → RR (.ref s2.heap.objs.size) C (.ok .next) s') :
    wpAny (model X.prog X.w) X.A (newList []) (fun acc s₃ => wpAny (model X.prog X.w) X.A (newFunctionEnv scope X.env.globals (closeGo X.env scope.names []) [] X.env.qual none .none (some X.env)) (fun cenv s₄ =>
      codeAny (model X.prog X.w) X.A (.compStart (.ListComp elt [⟨target, iter, ifs, 0⟩] scope pos) 0 (.ref it) acc { cenv with scope := relabel scope X.env }) (RR acc cenv.locals) s₄) E s₃) E s2 := by
  have hfree : ∀ p ∈ scope.names, p.2 = .free → ∃ c, X.env.cells.lookup p.1 = some c := fun p hp e => by
    have q := S.free p hp e
    apply I2.ok.has p.1
    show X.env.scope.names.lookup p.1 = some .cell ∨ X.env.scope.names.lookup p.1 = some .free
    cases e2 : X.env.scope.names.lookup p.1 with
    | none => rw [e2] at q; cases q
    | some k =>
      rw [e2] at q
      cases k <;> first
        | exact .inl rfl
        | exact .inr rfl
        | cases q
  have hcl : ∀ x, (closeGo X.env scope.names []).lookup x = if (x, NameKind.free) ∈ scope.names then X.env.cells.lookup x else none := fun x => closeGo_lookup scope.names [] hfree
  have hacc : H2 s2.heap.objs.size = none := I2.hok.fresh (Nat.le_refl _)
  refine wpAny_newObj_type (wpAny_newFunctionEnv S.nocell (by intro y hy; simp at hy) (fun h₁ hns₁ hsb₁ => ?_) S.kind)
  dsimp only at hns₁ hsb₁ ⊢
  have I3 : Inv X pins σ (upd H2 s2.heap.objs.size (.lst [])) { s2 with heap := s2.heap.push { cls := .type "list", dict := none, data := .seq ([] : List Value).toArray } } := I2.lnew (its := []) (ys := []) (t' := s2.toks) .nil (Nat.zero_le _)
  generalize hs3 : ({ s2 with heap := s2.heap.push { cls := .type "list", dict := none, data := .seq ([] : List Value).toArray } } : Shared) = s3 at I3
  have hh3 : s2.heap.push { cls := .type "list", dict := none, data := .seq ([] : List Value).toArray } = s3.heap := by rw [← hs3]
  rw [hh3] at hns₁ hsb₁ ⊢
  have old3 : ∀ b o, s2.heap.get? b = some o → s3.heap.get? b = some o := fun b o e => by rw [← hh3]; exact Heap.get?_push_of_some _ e
  have size3 : s3.heap.objs.size = s2.heap.objs.size + 1 := by rw [← hh3, Heap.size_push]
  have keep4 : ∀ b o, s3.heap.get? b = some o → h₁.get? b = some o := fun b o e => hsb₁.extBut b o (Nat.ne_of_lt (Heap.lt_size e)) (Heap.get?_push_of_some _ e)
  have hlt2 : ∀ b ∈ fp, b < s2.heap.objs.size := fun b hb => by
    obtain ⟨o, e, _⟩ := T.obj 0 _ st2 b hb
    exact Heap.lt_size e
  have f3 : ∀ b ∈ fp, FpOk X pins (upd H2 s2.heap.objs.size (.lst [])) b := fun b hb => by
    obtain ⟨a0, a1⟩ := f2 b hb
    exact ⟨by rw [upd_ne (Nat.ne_of_lt (hlt2 b hb))]; exact a0, a1⟩
  have hlt3 : ∀ b ∈ fp, b < s3.heap.objs.size := fun b hb => by rw [size3]; exact Nat.lt_succ_of_lt (hlt2 b hb)
  have loop : ∀ s4 : Shared, s4 = { s3 with heap := h₁, toks := s2.toks + ([] : List (Str × Value)).length } →
      codeAny (model X.prog X.w) X.A (.compLoop (.ListComp elt [⟨target, iter, ifs, 0⟩] scope pos) 0 (.ref it) (.ref s2.heap.objs.size) (compEnvC scope (closeGo X.env scope.names []) s3.heap.objs.size X.env))
        (RR (.ref s2.heap.objs.size) s3.heap.objs.size) s4 := by
    intro s4 hs4
    have I4 : Inv (cxB X scope N (closeGo X.env scope.names []) s3.heap.objs.size s3 (upd H2 s2.heap.objs.size (.lst [])) fp) [] (blkS nl caps σ) (upd H2 s2.heap.objs.size (.lst [])) s4 :=
      inv_block S I3 hcl f3 hlt3 (by rw [hs4]) (by rw [hs4]) ⟨_, by rw [hs4]; exact hns₁⟩ (by rw [hs4]; exact keep4)
    have st4 : tn 0 s4.heap := T.keep 0 _ _ st2 fun b hb o e => by rw [hs4]; exact keep4 b o (old3 b o e)
    generalize hX : cxB X scope N (closeGo X.env scope.names []) s3.heap.objs.size s3 (upd H2 s2.heap.objs.size (.lst [])) fp = B at I4
    have stat : ∀ {H' : Hp}, (∀ b ∈ fp, H' b = none) → ∀ b ∈ fp, FpOk B [] H' b := fun {H'} hn b hb => by
      subst hX
      obtain ⟨a0, a1, a2, a3, a4, a5⟩ := f3 b hb
      refine ⟨hn b hb, Nat.ne_of_lt (hlt3 b hb), fun z => ?_, .inl hb, fun x c e => ?_, fun p hp => absurd (show p ∈ ([] : List (Addr × Obj)) from hp) (by simp)⟩
      · rcases List.mem_cons.mp (I3.stkSub b z) with q | q
        · exact a1 q
        · exact a2 q
      · have e : (closeGo X.env scope.names []).lookup x = some c := e
        rw [hcl] at e
        split at e
        · exact a4 x c e
        · cases e
    have hgB : PG B target g := by subst hX; exact hg _ _ _ _ _
    have htB : PTs B ifs tc := by subst hX; exact ht _ _ _ _ _
    have heB : PE B elt te := by subst hX; exact he _ _ _ _ _
    have eP : B.prog = X.prog := by subst hX; rfl
    have ew : B.w = X.w := by subst hX; rfl
    have eK : B.K = X.K := by subst hX; rfl
    have eA : B.A = X.A := by subst hX; rfl
    have eE : B.env = compEnvC scope (closeGo X.env scope.names []) s3.heap.objs.size X.env := by subst hX; rfl
    have ecalm : B.calm = true := by subst hX; exact hc
    have exe : B.xe = fun _ _ => False := by subst hX; rfl
    rw [← eP, ← ew, ← eA, ← eE]
    refine codeAny_compLoop_go (fun n s' => ∃ i σ' H', Inv B [] σ' H' s' ∧ tn i s'.heap ∧ (∀ b ∈ fp, H' b = none) ∧ W i n σ' H') ?_ m0 ⟨0, _, _, I4, st4, fun b hb => (f3 b hb).1, w0⟩
    rintro n s5 ⟨i, σ5, H5, I5, st5, fr5, w5⟩
    have away : ∀ {α : Type} {t : Sem α} {Qa : α → Shared → Prop} {Ea : Value → Shared → Prop} {sa : Shared}, wpAny (model B.prog B.w) B.A t Qa B.xe sa → wpAny (model B.prog B.w) B.A t Qa Ea sa := fun h => wpAny_mono h (fun _ _ q => q) fun e s' z => by rw [exe] at z; exact z.elim
    rcases turn i n σ5 H5 w5 with ⟨stop, q⟩ | ⟨go, step⟩
    · have d := T.done B eP ew eK ecalm i [] s5 σ5 H5 (notedBy (model B.prog B.w) B.A B.env fun e s' => RR (.ref s2.heap.objs.size) s3.heap.objs.size (.error e) s') I5 (stat fr5) st5 stop
      rw [← eP, ← ew] at d
      refine thn d fun r s6 ⟨hr, I6⟩ => ?_
      subst hr
      refine hRR _ s6 H5 ?_ (I3.fpOk (Nat.le_refl _) ?_) (fun h' hs' => ?_) q
      · obtain ⟨m, hn, _⟩ := I6.loc
        rw [eE] at hn
        exact ⟨m, hn⟩
      · have z := I6.free
        rw [eE] at z
        exact z
      · subst hX
        exact inv_unblock I3 f3 I6 hs'
    · have d := T.item B eP ew eK ecalm i [] s5 σ5 H5 (notedBy (model B.prog B.w) B.A B.env fun e s' => RR (.ref s2.heap.objs.size) s3.heap.objs.size (.error e) s') I5 (stat fr5) st5 go
      rw [← eP, ← ew] at d
      refine thn d fun r s6 ⟨u, hr, h6⟩ => ?_
      subst hr
      refine thn h6 fun _ s7 ⟨x, H7, I7, r7, y7, st7, fr7⟩ => ?_
      have I7' := I7.pinned (stat fr7) (T.obj _ _ st7)
      refine away (thn (hgB _ s7 σ5 H7 x u _ I7' r7 (step x H7 y7)) fun _ s8 ⟨σ8, H8, I8, q8⟩ => ?_)
      refine away (thn (htB _ s8 σ8 H8 _ I8 q8) fun b s9 ⟨H9, I9, q9⟩ => ?_)
      have again : ∀ {σa : St} {Ha : Hp} {sa : Shared}, Inv B ([] ++ pinsAt fp s7.heap) σa Ha sa → (∃ m', m' < n ∧ W (i + 1) m' σa Ha) → ∃ m, m < n ∧ ∃ i σ' H', Inv B [] σ' H' sa ∧ tn i sa.heap ∧ (∀ b ∈ fp, H' b = none) ∧ W i m σ' H' := fun {σa Ha sa} Ia ⟨m', hm, wa⟩ => by
        refine ⟨m', hm, i + 1, σa, Ha, Ia.unpinned, T.keep _ _ _ st7 fun b hb o e => (Ia.pin (b, o) (List.mem_append_right _ (List.mem_append_right _ (mem_pinsAt hb e)))).1, fun b hb => ?_, wa⟩
        obtain ⟨o, e, d⟩ := T.obj _ _ st7 b hb
        exact (Ia.pin (b, o) (List.mem_append_right _ (List.mem_append_right _ (mem_pinsAt hb e)))).2.1
      cases b with
      | false => exact again I9 q9
      | true =>
        show wpAny _ _ (eval elt B.env) _ _ s9
        refine away (thn (heB _ s9 σ8 H9 _ I9 q9) fun yv s10 ⟨y, H10, I10, ry, ys, ha, hz, q10⟩ => ?_)
        refine away (thn (mt_append _ s10 σ8 H10 (.ref s2.heap.objs.size) [y] (.ref s2.heap.objs.size) [yv] (fun _ H11 => H11 = upd H10 s2.heap.objs.size (.lst (ys ++ [y]))) I10 rfl (.cons ry .nil) ⟨_, ys, y, rfl, rfl, ha, hz, rfl⟩) fun _ s11 ⟨z, H11, I11, _, e11⟩ => ?_)
        subst e11
        exact again I11 q10
  exact codeAny_compStart_list (loop _ (by rw [← hs3])) (T.self X.A 0 _ _ _ (T.keep 0 _ _ st2 fun b hb o e => keep4 b o (old3 b o e)) (loop _ (by rw [← hs3])))
theorem hfree_of {pins : List (Addr × Obj)} {σ : St} {s : Shared} {H : Hp} (S : CompSc X.env.scope X.N scope N nl caps) (I : Inv X pins σ H s) : ∀ p ∈ scope.names, p.2 = .free → ∃ c, X.env.cells.lookup p.1 = some c := fun p hp e => by
  have q := S.free p hp e
  apply I.ok.has p.1
  show X.env.scope.names.lookup p.1 = some .cell ∨ X.env.scope.names.lookup p.1 = some .free
  cases e2 : X.env.scope.names.lookup p.1 with
  | none => rw [e2] at q; cases q
  | some k =>
    rw [e2] at q
    cases k <;> first
      | exact .inl rfl
      | exact .inr rfl
      | cases q
/-- [elt for target in iter if ..] as a value -/
theorem pe_comp (S : CompSc X.env.scope X.N scope N nl caps) (hc : X.calm = true) (hi : PI X target iter wi)
    (hg : ∀ cl C s H fp, PG (cxB X scope N cl C s H fp) target g) (ht : ∀ cl C s H fp, PTs (cxB X scope N cl C s H fp) ifs tc) (he : ∀ cl C s H fp, PE (cxB X scope N cl C s H fp) elt te)
    (hs : ∀ x, foldedSetIterable iter X.env x = pure x := by intro _; rfl) : PE X (.ListComp elt [⟨target, iter, ifs, 0⟩] scope pos) (tComp wi g tc te nl caps) := by
  intro pins s σ H Q I h
  rw [eval_ListComp]
  refine wpAny_comprehension_free (use := none) rfl hs (closureFor_eq (hfree_of S I)) S.kind S.locs ?_
  refine thn (hi pins s σ H _ I h) fun v s1 h1 => thn h1 fun itv s2 h2 => ?_
  obtain ⟨it, fp, tn, J, H2, e, I2, T, st2, f2, k⟩ := h2
  subst e
  obtain ⟨W, ⟨m0, w0⟩, turn⟩ := k s2.heap.objs.size (I2.hok.fresh (Nat.le_refl _))
  refine comp_core (Q := fun H' => Q (.ref s2.heap.objs.size) H') S hc I2 T st2 f2 hg ht he w0 turn (fun acc C => compPost (model X.prog X.w) X.A X.xe none (EP X pins σ Q) acc C) ?_
  intro C s' H' hn _ hI q
  obtain ⟨m, hn⟩ := hn
  exact ⟨m, hn, fun h' hs' => ⟨.ref s2.heap.objs.size, H', hI h' hs', rfl, q⟩⟩
/-- x = [elt for ..], the name stored ahead of the block's end -/
theorem ps_comp {i : Nat} {y : Str} {py spos : Pos} (S : CompSc X.env.scope X.N scope N nl caps) (hc : X.calm = true) (hN : X.N.Nodup) (hy : X.N[i]? = some y) (hl : X.env.kindOf y = some .local) (hi : PI X target iter wi)
    (hg : ∀ cl C s H fp, PG (cxB X scope N cl C s H fp) target g) (ht : ∀ cl C s H fp, PTs (cxB X scope N cl C s H fp) ifs tc) (he : ∀ cl C s H fp, PE (cxB X scope N cl C s H fp) elt te)
    (hsw : swapsWith (.ListComp elt [⟨target, iter, ifs, 0⟩] scope pos) (some (.Name y py)) spos.line X.env = pure true := by rfl)
    (hs : ∀ x, foldedSetIterable iter X.env x = pure x := by intro _; rfl) : PS X (.Assign [.Name y py] (.ListComp elt [⟨target, iter, ifs, 0⟩] scope pos) spos) (tAsg (tComp wi g tc te nl caps) (gName i)) := by
  intro pins s σ H De I h
  rw [exec_Assign_Name_used _ _ _ _ hsw]
  refine wpAny_bind (wpAny_standAt (wpAny_bind ?_))
  show wpAny _ X.A (do let _ ← comprehension (.ListComp elt [⟨target, iter, ifs, 0⟩] scope pos) scope X.env _ (newList []) false (eval iter X.env) (some (assign (.Name y py) X.env))) _ _ s
  refine wpAny_bind (wpAny_mono (wpAny_comprehension_free (use := some (assign (.Name y py) X.env)) (Q := fun _ s' => SP X pins De .next s') rfl hs (closureFor_eq (hfree_of S I)) S.kind S.locs ?_) (fun _ s' hq => wpAny_pure (wpAny_pure hq)) fun _ _ e => e)
  refine thn (hi pins s σ H _ I h) fun v s1 h1 => thn h1 fun itv s2 h2 => ?_
  obtain ⟨it, fp, tn, J, H2, e, I2, T, st2, f2, k⟩ := h2
  subst e
  obtain ⟨W, ⟨m0, w0⟩, turn⟩ := k s2.heap.objs.size (I2.hok.fresh (Nat.le_refl _))
  refine comp_core (Q := fun H' => De.nx (σ.set i (some (.ref s2.heap.objs.size))) H') S hc I2 T st2 f2 hg ht he w0 turn (fun acc C => compPost (model X.prog X.w) X.A X.xe (some (assign (.Name y py) X.env)) (fun _ s' => SP X pins De .next s') acc C) ?_
  intro C s' H' hn hC hI q
  obtain ⟨m, hn⟩ := hn
  show wpAny _ X.A (assign (.Name y py) X.env (.ref s2.heap.objs.size)) _ _ s'
  have I' : Inv X pins σ H' s' := hI s'.heap (Heap.SameBut.refl _ _)
  refine wpAny_assign_Name (store_ok2 (v := .ref s2.heap.objs.size) I' hN hy (.inl hl) (show RelV (V.ref _) _ from rfl) (fun s'' I'' hsb => ?_) (.inr hl))
  obtain ⟨a, hsa, ha⟩ := hsb
  obtain ⟨c0, c1, c2, c3, c4, c5⟩ := hC
  have nCa : C ≠ a := by
    rcases ha with z | z
    · rw [z]; exact c1
    · exact fun w => c4 y a z w.symm
  refine ⟨m, hn.sameBut hsa nCa, fun h' hs' => ?_⟩
  exact ⟨_, H', I''.turned (t' := s''.toks) (it := C) (fun b o hb e => (hs'.2 b hb).trans e) c0 c1 c3 c4 c5, q⟩
end
end L2
set_option Elab.async false
set_option linter.all false
namespace L3
open PySem L2
/-! the value layer: data trees, mirrors, and what relates them to the heap -/
inductive D where
  | non | bl (b : Bool) | int (i : Int) | str (x : Str)
  | tup (xs : List D) | lst (xs : List D) | scr (xs : List D)
  | dK (ks : List Key) (xs : List D) | dT (ks : List (List Key)) (xs : List D)
  | ins (C : Addr) (ns : List Str) (xs : List D)
def Sub (G H : Hp) : Prop := ∀ b o, G b = some o → H b = some o
theorem Sub.refl (G : Hp) : Sub G G := fun _ _ e => e
theorem Sub.trans {G H I : Hp} (a : Sub G H) (b : Sub H I) : Sub G I := fun c o e => b c o (a c o e)
theorem Sub.gone {G H : Hp} (a : Sub G H) {b : Addr} (h : H b = none) : G b = none := by
  cases e : G b with
  | none => rfl
  | some o => rw [a b o e] at h; cases h
theorem Sub.upd {G : Hp} {a : Addr} {o : HO} (h : G a = none) : Sub G (upd G a o) := fun b u e => by
  rw [upd_ne (ne_of_none e h)]; exact e
theorem Sub.upd2 {G H : Hp} {a : Addr} {o : HO} (s : Sub G H) (h : G a = none) : Sub G (L2.upd H a o) := fun b u e => by
  rw [upd_ne (ne_of_none e h)]; exact s b u e
theorem Sub.both {G H : Hp} {a : Addr} {o : HO} (s : Sub G H) : Sub (L2.upd G a o) (L2.upd H a o) := fun b u e => by
  by_cases hb : b = a
  · subst hb; rw [upd_same] at e ⊢; exact e
  · rw [upd_ne hb] at e ⊢; exact s b u e
theorem Sub.at {G H : Hp} {a : Addr} {o : HO} (s : Sub G H) (h : H a = some o) : Sub (L2.upd G a o) H := fun b u e => by
  by_cases hb : b = a
  · subst hb; rw [upd_same] at e; rw [h]; exact e
  · rw [upd_ne hb] at e; exact s b u e
structure Up (G H G' H' : Hp) : Prop where
  g : Sub G G'
  h : Sub H H'
  n : ∀ b, H b ≠ none → G' b = G b
theorem Sub.some {G H : Hp} (s : Sub G H) {b : Addr} (h : G b ≠ none) : H b ≠ none := fun z => h (s.gone z)
theorem Up.refl (G H : Hp) : Up G H G H := ⟨Sub.refl _, Sub.refl _, fun _ _ => rfl⟩
theorem Up.trans {G H G1 H1 G2 H2 : Hp} (a : Up G H G1 H1) (b : Up G1 H1 G2 H2) : Up G H G2 H2 := ⟨a.g.trans b.g, a.h.trans b.h, fun c hc => (b.n c (a.h.some hc)).trans (a.n c hc)⟩
theorem Up.lay {G H : Hp} {p : Addr} {o : HO} (s : Sub G H) (hp : H p = none) : Up G H (L2.upd G p o) (L2.upd H p o) := ⟨Sub.upd (s.gone hp), Sub.upd hp, fun b hb => by
  rw [upd_ne]
  intro e; subst e; exact hb hp⟩
theorem Up.lay0 {G H : Hp} {p : Addr} {o : HO} (hp : H p = none) : Up G H G (L2.upd H p o) := ⟨Sub.refl _, Sub.upd hp, fun _ _ => rfl⟩
/-- a thing that has come since is taken into the world -/
theorem Up.put {G H G' H' : Hp} {p : Addr} {o : HO} (u : Up G H G' H') (hp : H p = none) (hg : G' p = none) : Up G H (L2.upd G' p o) H' := ⟨u.g.trans (Sub.upd hg), u.h, fun b hb => by
  rw [upd_ne]
  · exact u.n b hb
  · intro e; subst e; exact hb hp⟩
theorem Rd.mono {G H : Hp} (s : Sub G H) {a : Addr} {u : HO} (r : Rd G a u) : Rd H a u := by
  rcases r with r | ⟨o, r⟩
  · exact .inl (s _ _ r)
  · exact .inr ⟨o, s _ _ r⟩
theorem SqL.mono {K : PySem.W.Frag} {G H : Hp} (s : Sub G H) {a : Addr} {xs : List V} (r : SqL K G a xs) : SqL K H a xs := by
  rcases r with r | r
  · exact .inl (Rd.mono s r)
  · exact .inr r
theorem SqT.mono {K : PySem.W.Frag} {G H : Hp} (s : Sub G H) {a : Addr} {xs : List V} (r : SqT K G a xs) : SqT K H a xs := by
  rcases r with r | r
  · exact .inl (Rd.mono s r)
  · exact .inr r
mutual
def At (K : PySem.W.Frag) (G : Hp) : D → V → Prop
  | .non, v => v = .non
  | .bl b, v => v = .bl b
  | .int i, v => v = .int i
  | .str x, v => v = .str x
  | .tup ds, v => ∃ a xs, v = .ref a ∧ SqT K G a xs ∧ AtL K G ds xs
  | .lst ds, v => ∃ a xs, v = .ref a ∧ G a = some (.lst xs) ∧ AtL K G ds xs
  | .scr ds, v => ∃ a xs, v = .ref a ∧ SqL K G a xs ∧ AtL K G ds xs
  | .dK ks ds, v => ∃ a xs, v = .ref a ∧ G a = some (.dK xs) ∧ xs.map (·.1) = ks ∧ AtL K G ds (xs.map (·.2))
  | .dT ks ds, v => ∃ a xs, v = .ref a ∧ G a = some (.dT xs) ∧ xs.map (·.1) = ks ∧ AtL K G ds (xs.map (·.2))
  | .ins C ns ds, v => ∃ a dx xs, v = .ref a ∧ G a = some (.ins C dx xs) ∧ xs.map (·.1) = ns ∧ AtL K G ds (xs.map (·.2))
def AtL (K : PySem.W.Frag) (G : Hp) : List D → List V → Prop
  | [], vs => vs = []
  | d :: ds, vs => ∃ v r, vs = v :: r ∧ At K G d v ∧ AtL K G ds r
end
mutual
theorem At.mono {K : PySem.W.Frag} {G H : Hp} (s : Sub G H) : ∀ {d : D} {v : V}, At K G d v → At K H d v
  | .non, _, h => by simpa only [At] using h
  | .bl _, _, h => by simpa only [At] using h
  | .int _, _, h => by simpa only [At] using h
  | .str _, _, h => by simpa only [At] using h
  | .tup _, _, h => by
    simp only [At] at h ⊢
    obtain ⟨a, xs, e, q, r⟩ := h
    exact ⟨a, xs, e, SqT.mono s q, AtL.mono s r⟩
  | .lst _, _, h => by
    simp only [At] at h ⊢
    obtain ⟨a, xs, e, q, r⟩ := h
    exact ⟨a, xs, e, s _ _ q, AtL.mono s r⟩
  | .scr _, _, h => by
    simp only [At] at h ⊢
    obtain ⟨a, xs, e, q, r⟩ := h
    exact ⟨a, xs, e, SqL.mono s q, AtL.mono s r⟩
  | .dK _ _, _, h => by
    simp only [At] at h ⊢
    obtain ⟨a, xs, e, q, k, r⟩ := h
    exact ⟨a, xs, e, s _ _ q, k, AtL.mono s r⟩
  | .dT _ _, _, h => by
    simp only [At] at h ⊢
    obtain ⟨a, xs, e, q, k, r⟩ := h
    exact ⟨a, xs, e, s _ _ q, k, AtL.mono s r⟩
  | .ins _ _ _, _, h => by
    simp only [At] at h ⊢
    obtain ⟨a, dx, xs, e, q, k, r⟩ := h
    exact ⟨a, dx, xs, e, s _ _ q, k, AtL.mono s r⟩
theorem AtL.mono {K : PySem.W.Frag} {G H : Hp} (s : Sub G H) : ∀ {ds : List D} {vs : List V}, AtL K G ds vs → AtL K H ds vs
  | [], _, h => by simpa only [AtL] using h
  | _ :: _, _, h => by
    simp only [AtL] at h ⊢
    obtain ⟨v, r, e, q, t⟩ := h
    exact ⟨v, r, e, At.mono s q, AtL.mono s t⟩
end
section
variable {K : PySem.W.Frag} {G : Hp}
theorem AtL.nil : AtL K G [] [] := by simp only [AtL]
theorem AtL.cons {d : D} {ds : List D} {v : V} {vs : List V} (h : At K G d v) (t : AtL K G ds vs) : AtL K G (d :: ds) (v :: vs) := by
  simp only [AtL]; exact ⟨v, vs, rfl, h, t⟩
theorem AtL.length : ∀ {ds : List D} {vs : List V}, AtL K G ds vs → ds.length = vs.length
  | [], _, h => by simp only [AtL] at h; subst h; rfl
  | _ :: _, _, h => by
    simp only [AtL] at h
    obtain ⟨v, r, rfl, _, t⟩ := h
    simp [AtL.length t]
theorem AtL.get : ∀ {ds : List D} {vs : List V} {i : Nat} {d : D}, AtL K G ds vs → ds[i]? = some d → ∃ v, vs[i]? = some v ∧ At K G d v
  | [], _, _, _, _, e => by simp at e
  | _ :: _, _, 0, _, h, e => by
    simp only [AtL] at h
    obtain ⟨v, r, rfl, q, t⟩ := h
    simp at e; subst e
    exact ⟨v, by simp, q⟩
  | _ :: _, _, i + 1, d, h, e => by
    simp only [AtL] at h
    obtain ⟨v, r, rfl, q, t⟩ := h
    obtain ⟨u, h1, h2⟩ := AtL.get (i := i) (d := d) t (by simpa using e)
    exact ⟨u, by simpa using h1, h2⟩
theorem AtL.getV {ds : List D} {vs : List V} {i : Nat} {v : V} (h : AtL K G ds vs) (e : vs[i]? = some v) : ∃ d, ds[i]? = some d ∧ At K G d v := by
  have hi : i < ds.length := by rw [h.length]; exact (List.getElem?_eq_some_iff.mp e).1
  obtain ⟨u, h1, h2⟩ := h.get (List.getElem?_eq_getElem hi)
  rw [e] at h1; cases h1
  exact ⟨_, List.getElem?_eq_getElem hi, h2⟩
theorem AtL.append : ∀ {ds es : List D} {vs ws : List V}, AtL K G ds vs → AtL K G es ws → AtL K G (ds ++ es) (vs ++ ws)
  | [], _, _, _, h, t => by simp only [AtL] at h; subst h; exact t
  | _ :: _, _, _, _, h, t => by
    simp only [AtL] at h
    obtain ⟨v, r, rfl, q, s⟩ := h
    exact .cons q (AtL.append s t)
theorem AtL.take : ∀ (n : Nat) {ds : List D} {vs : List V}, AtL K G ds vs → AtL K G (ds.take n) (vs.take n)
  | 0, _, _, _ => by simpa using AtL.nil
  | _ + 1, [], _, h => by simp only [AtL] at h; subst h; simpa using AtL.nil
  | n + 1, _ :: _, _, h => by
    simp only [AtL] at h
    obtain ⟨v, r, rfl, q, t⟩ := h
    exact .cons q (AtL.take n t)
theorem AtL.drop : ∀ (n : Nat) {ds : List D} {vs : List V}, AtL K G ds vs → AtL K G (ds.drop n) (vs.drop n)
  | 0, _, _, h => by simpa using h
  | _ + 1, [], _, h => by simp only [AtL] at h; subst h; simpa using AtL.nil
  | n + 1, _ :: _, _, h => by
    simp only [AtL] at h
    obtain ⟨v, r, rfl, q, t⟩ := h
    simpa using AtL.drop n t
theorem AtL.set {d : D} {v : V} (q : At K G d v) : ∀ (n : Nat) {ds : List D} {vs : List V}, AtL K G ds vs → AtL K G (ds.set n d) (vs.set n v)
  | _, [], _, h => by simp only [AtL] at h; subst h; simpa using AtL.nil
  | 0, _ :: _, _, h => by
    simp only [AtL] at h
    obtain ⟨u, r, rfl, _, t⟩ := h
    exact .cons q t
  | n + 1, _ :: _, _, h => by
    simp only [AtL] at h
    obtain ⟨u, r, rfl, p, t⟩ := h
    exact .cons p (AtL.set q n t)
theorem AtL.snoc {ds : List D} {vs : List V} {d : D} {v : V} (h : AtL K G ds vs) (q : At K G d v) : AtL K G (ds ++ [d]) (vs ++ [v]) := h.append (.cons q .nil)
end
/-! results -/
inductive R (α : Type) where
  | ok (a : α) | exc (c : Str) | bad
namespace R
def bind {α β : Type} : R α → (α → R β) → R β
  | .ok a, k => k a
  | .exc c, _ => .exc c
  | .bad, _ => .bad
def map {α β : Type} (f : α → β) (r : R α) : R β := r.bind fun a => .ok (f a)
theorem bind_ok {α β : Type} (a : α) (k : α → R β) : (R.ok a).bind k = k a := rfl
theorem bind_exc {α β : Type} (c : Str) (k : α → R β) : (R.exc c : R α).bind k = .exc c := rfl
theorem bind_bad {α β : Type} (k : α → R β) : (R.bad : R α).bind k = .bad := rfl
end R
/-! slots -/
inductive Sl where
  | un | fz (d : D) | ow (ds : List D)
abbrev Rho := List Sl
structure Fx where
  K : PySem.W.Frag
  G0 : Hp
  H0 : Hp
  EX : Str → Hp → Prop
structure Kp (F : Fx) (G H : Hp) : Prop where
  sub : Sub G H
  gg : Sub F.G0 G
  hh : Sub F.H0 H
  new : ∀ b, F.H0 b ≠ none → G b = F.G0 b
def SlOk (F : Fx) (G H : Hp) (o : Option V) : Sl → Prop
  | .un => True
  | .fz d => ∃ v, o = some v ∧ At F.K G d v
  | .ow ds => ∃ a xs, o = some (.ref a) ∧ H a = some (.lst xs) ∧ G a = none ∧ F.H0 a = none ∧ AtL F.K G ds xs
structure Rel (F : Fx) (G H : Hp) (σ : St) (ρ : Rho) : Prop where
  kp : Kp F G H
  len : σ.length = ρ.length
  sl : ∀ (i : Nat) (s : Sl), ρ[i]? = some s → ∃ o, σ[i]? = some o ∧ SlOk F G H o s
  ap : ∀ (i j : Nat) (a : Addr) (ds ds' : List D), ρ[i]? = some (.ow ds) → ρ[j]? = some (.ow ds') → σ[i]? = some (some (.ref a)) → σ[j]? = some (some (.ref a)) → i = j
def OwnAt (σ : St) (ρ : Rho) (a : Addr) : Prop := ∃ (i : Nat) (ds : List D), ρ[i]? = some (.ow ds) ∧ σ[i]? = some (some (.ref a))
section
variable {F : Fx} {G G' H H' : Hp} {σ : St} {ρ : Rho}
/-- the world grows; what is owned stays -/
theorem Rel.grow (r : Rel F G H σ ρ) (sg : Sub G G') (sh : Sub G' H') (hh : Sub H H') (nw : ∀ b, H b ≠ none → G' b = G b) : Rel F G' H' σ ρ := by
  refine ⟨⟨sh, r.kp.gg.trans sg, r.kp.hh.trans hh, fun b hb => ?_⟩, r.len, fun i s e => ?_, r.ap⟩
  · have h1 : H b ≠ none := by
      cases e : F.H0 b with
      | none => exact absurd e hb
      | some o => rw [r.kp.hh b o e]; exact fun z => by cases z
    rw [nw b h1]; exact r.kp.new b hb
  · obtain ⟨o, e1, q⟩ := r.sl i s e
    refine ⟨o, e1, ?_⟩
    cases s with
    | un => trivial
    | fz d => obtain ⟨v, e2, a⟩ := q; exact ⟨v, e2, a.mono sg⟩
    | ow ds =>
      obtain ⟨a, xs, e2, h1, h2, h3, h4⟩ := q
      exact ⟨a, xs, e2, hh a _ h1, by rw [nw a (by rw [h1]; exact fun z => by cases z)]; exact h2, h3, h4.mono sg⟩
/-- a new object is laid into the world -/
theorem Rel.lay (r : Rel F G H σ ρ) {p : Addr} {o : HO} (hp : H p = none) : Rel F (upd G p o) (upd H p o) σ ρ := by
  have gp : G p = none := r.kp.sub.gone hp
  refine r.grow (Sub.upd gp) (Sub.both r.kp.sub) (Sub.upd hp) fun b hb => ?_
  rw [upd_ne]
  intro e; subst e; exact hb hp
/-- a new object that is not of the world -/
theorem Rel.lay0 (r : Rel F G H σ ρ) {p : Addr} {o : HO} (hp : H p = none) : Rel F G (upd H p o) σ ρ :=
  r.grow (Sub.refl _) (Sub.upd2 r.kp.sub (r.kp.sub.gone hp)) (Sub.upd hp) fun _ _ => rfl
/-- a tracked object that nobody owns becomes part of the world -/
theorem Rel.take (r : Rel F G H σ ρ) {p : Addr} {o : HO} (hp : H p = some o) (hg : G p = none) (h0 : F.H0 p = none) (no : ¬ OwnAt σ ρ p) : Rel F (upd G p o) H σ ρ := by
  refine ⟨⟨Sub.at r.kp.sub hp, r.kp.gg.trans (Sub.upd hg), r.kp.hh, fun b hb => ?_⟩, r.len, fun i s e => ?_, r.ap⟩
  · rw [upd_ne]
    · exact r.kp.new b hb
    · intro e; subst e; exact hb h0
  · obtain ⟨u, e1, q⟩ := r.sl i s e
    refine ⟨u, e1, ?_⟩
    cases s with
    | un => trivial
    | fz d => obtain ⟨v, e2, a⟩ := q; exact ⟨v, e2, a.mono (Sub.upd hg)⟩
    | ow ds =>
      obtain ⟨a, xs, e2, h1, h2, h3, h4⟩ := q
      have ne : a ≠ p := fun z => no ⟨i, ds, e, by rw [e1, e2, z]⟩
      exact ⟨a, xs, e2, h1, by rw [upd_ne ne]; exact h2, h3, h4.mono (Sub.upd hg)⟩
theorem Rel.fz (r : Rel F G H σ ρ) {i : Nat} {d : D} (e : ρ[i]? = some (.fz d)) : ∃ v, σ[i]? = some (some v) ∧ At F.K G d v := by
  obtain ⟨o, e1, v, rfl, a⟩ := r.sl i _ e
  exact ⟨v, e1, a⟩
theorem get_set {α : Type} {l : List α} {i j : Nat} {x y : α} (e : (l.set i x)[j]? = some y) : (i = j ∧ y = x) ∨ (i ≠ j ∧ l[j]? = some y) := by
  rw [List.getElem?_set] at e
  by_cases h : i = j
  · rw [if_pos h] at e
    split at e
    · cases e; exact .inl ⟨h, rfl⟩
    · cases e
  · rw [if_neg h] at e; exact .inr ⟨h, e⟩
/-- a name is given a value of the world -/
theorem Rel.set (r : Rel F G H σ ρ) {i : Nat} {d : D} {v : V} (hi : i < ρ.length) (a : At F.K G d v) : Rel F G H (σ.set i (some v)) (ρ.set i (.fz d)) := by
  have hs : i < σ.length := by rw [r.len]; exact hi
  refine ⟨r.kp, by simp [r.len], fun j s e => ?_, fun j k b ds ds' e1 e2 e3 e4 => ?_⟩
  · rcases get_set e with ⟨rfl, rfl⟩ | ⟨ne, e⟩
    · exact ⟨some v, by simp [hs], v, rfl, a⟩
    · rw [List.getElem?_set_ne ne]; exact r.sl j s e
  · rcases get_set e1 with ⟨_, z⟩ | ⟨n1, e1⟩
    · cases z
    rcases get_set e2 with ⟨_, z⟩ | ⟨n2, e2⟩
    · cases z
    rw [List.getElem?_set_ne n1] at e3
    rw [List.getElem?_set_ne n2] at e4
    exact r.ap j k b ds ds' e1 e2 e3 e4
/-- a name is given a list of its own -/
theorem Rel.setO (r : Rel F G H σ ρ) {i : Nat} {ds : List D} {a : Addr} {xs : List V} (hi : i < ρ.length) (ha : H a = some (.lst xs)) (hg : G a = none) (h0 : F.H0 a = none) (q : AtL F.K G ds xs)
    (no : ∀ (j : Nat) (es : List D), j ≠ i → ρ[j]? = some (.ow es) → σ[j]? ≠ some (some (.ref a))) : Rel F G H (σ.set i (some (.ref a))) (ρ.set i (.ow ds)) := by
  have hs : i < σ.length := by rw [r.len]; exact hi
  refine ⟨r.kp, by simp [r.len], fun j s e => ?_, fun j k b ds1 ds2 e1 e2 e3 e4 => ?_⟩
  · rcases get_set e with ⟨rfl, rfl⟩ | ⟨ne, e⟩
    · exact ⟨some (.ref a), by simp [hs], a, xs, rfl, ha, hg, h0, q⟩
    · rw [List.getElem?_set_ne ne]; exact r.sl j s e
  · rcases get_set e1 with ⟨i1, z1⟩ | ⟨n1, e1⟩
    · rcases get_set e2 with ⟨i2, z2⟩ | ⟨n2, e2⟩
      · omega
      · subst i1
        rw [List.getElem?_set_self hs] at e3
        cases e3
        rw [List.getElem?_set_ne n2] at e4
        exact absurd e4 (no k ds2 (Ne.symm n2) e2)
    · rw [List.getElem?_set_ne n1] at e3
      rcases get_set e2 with ⟨i2, z2⟩ | ⟨n2, e2⟩
      · subst i2
        rw [List.getElem?_set_self hs] at e4
        cases e4
        exact absurd e3 (no j ds1 (Ne.symm n1) e1)
      · rw [List.getElem?_set_ne n2] at e4
        exact r.ap j k b ds1 ds2 e1 e2 e3 e4
/-- the list of a name is rewritten -/
theorem Rel.mut (r : Rel F G H σ ρ) {i : Nat} {ds ds' : List D} {a : Addr} {ys : List V} (e : ρ[i]? = some (.ow ds)) (ea : σ[i]? = some (some (.ref a))) (q : AtL F.K G ds' ys) :
    Rel F G (upd H a (.lst ys)) σ (ρ.set i (.ow ds')) := by
  have hi : i < ρ.length := (List.getElem?_eq_some_iff.mp e).1
  obtain ⟨o, e1, b, xs, e2, h1, h2, h3, h4⟩ := r.sl i _ e
  rw [ea] at e1
  have eo : o = some (.ref a) := (Option.some.inj e1).symm
  rw [eo] at e2
  have eb : b = a := by cases e2; rfl
  subst eb
  refine ⟨⟨Sub.upd2 r.kp.sub h2, r.kp.gg, fun c u z => ?_, r.kp.new⟩, by simp [r.len], fun j s z => ?_, fun j k c ds1 ds2 e3 e4 e5 e6 => ?_⟩
  · rw [upd_ne (ne_of_none z h3)]; exact r.kp.hh c u z
  · rcases get_set z with ⟨rfl, rfl⟩ | ⟨ne, z⟩
    · exact ⟨_, ea, b, ys, rfl, upd_same, h2, h3, q⟩
    · obtain ⟨u, z1, z2⟩ := r.sl j s z
      refine ⟨u, z1, ?_⟩
      cases s with
      | un => trivial
      | fz d => exact z2
      | ow es =>
        obtain ⟨c, zs, y1, y2, y3, y4, y5⟩ := z2
        have nc : c ≠ b := fun w => ne (r.ap i j b ds es e z ea (by rw [z1, y1, w]))
        exact ⟨c, zs, y1, by rw [upd_ne nc]; exact y2, y3, y4, y5⟩
  · have old : ∀ {m : Nat} {es : List D}, (ρ.set i (.ow ds'))[m]? = some (.ow es) → ∃ fs, ρ[m]? = some (.ow fs) := fun {m es} z => by
      rcases get_set z with ⟨rfl, _⟩ | ⟨_, z⟩
      · exact ⟨ds, e⟩
      · exact ⟨es, z⟩
    obtain ⟨f1, g1⟩ := old e3
    obtain ⟨f2, g2⟩ := old e4
    exact r.ap j k c f1 f2 g1 g2 e5 e6
/-- the list of a name becomes part of the world -/
theorem Rel.frz (r : Rel F G H σ ρ) {i : Nat} {ds : List D} (e : ρ[i]? = some (.ow ds)) : ∃ G', Rel F G' H σ (ρ.set i (.fz (.lst ds))) ∧ Sub G G' := by
  have hi : i < ρ.length := (List.getElem?_eq_some_iff.mp e).1
  obtain ⟨o, e1, a, xs, e2, h1, h2, h3, h4⟩ := r.sl i _ e
  subst e2
  refine ⟨upd G a (.lst xs), ⟨⟨Sub.at r.kp.sub h1, r.kp.gg.trans (Sub.upd h2), r.kp.hh, fun b hb => ?_⟩, by simp [r.len], fun j s z => ?_, fun j k c ds1 ds2 e3 e4 e5 e6 => ?_⟩, Sub.upd h2⟩
  · rw [upd_ne]
    · exact r.kp.new b hb
    · intro z; subst z; exact hb h3
  · rcases get_set z with ⟨rfl, rfl⟩ | ⟨ne, z⟩
    · refine ⟨_, e1, .ref a, rfl, ?_⟩
      simp only [At]
      exact ⟨a, xs, rfl, upd_same, h4.mono (Sub.upd h2)⟩
    · obtain ⟨u, z1, z2⟩ := r.sl j s z
      refine ⟨u, z1, ?_⟩
      cases s with
      | un => trivial
      | fz d => obtain ⟨v, y1, y2⟩ := z2; exact ⟨v, y1, y2.mono (Sub.upd h2)⟩
      | ow es =>
        obtain ⟨c, zs, y1, y2, y3, y4, y5⟩ := z2
        have nc : c ≠ a := fun w => ne (r.ap i j a ds es e z e1 (by rw [z1, y1, w]))
        exact ⟨c, zs, y1, y2, by rw [upd_ne nc]; exact y3, y4, y5.mono (Sub.upd h2)⟩
  · rcases get_set e3 with ⟨_, z⟩ | ⟨_, e3⟩
    · cases z
    rcases get_set e4 with ⟨_, z⟩ | ⟨_, e4⟩
    · cases z
    exact r.ap j k c ds1 ds2 e3 e4 e5 e6
end
end L3
set_option Elab.async false
set_option linter.all false
namespace L3
open PySem L2
/-! readings by mirrors -/
abbrev ME := Rho → R D
abbrev MT := Rho → R Bool
abbrev MA := Rho → R (List D)
inductive Fl where
  | nx (ρ : Rho) | rt (d : D) | ro (ds : List D) | bk (ρ : Rho) | ct (ρ : Rho)
abbrev MS := Rho → R Fl
def kX (F : Fx) (c : Str) : Prop := ∀ G' H', Kp F G' H' → F.EX c H'
def kE (F : Fx) (G H : Hp) (σ : St) (ρ : Rho) (Q : VK) : R D → Prop
  | .ok d => ∀ v H' G', Rel F G' H' σ ρ → Up G H G' H' → At F.K G' d v → Q v H'
  | .exc c => kX F c
  | .bad => False
def kT (F : Fx) (G H : Hp) (σ : St) (ρ : Rho) (Q : Bool → Hp → Prop) : R Bool → Prop
  | .ok b => ∀ H' G', Rel F G' H' σ ρ → Up G H G' H' → Q b H'
  | .exc c => kX F c
  | .bad => False
def kA (F : Fx) (G H : Hp) (σ : St) (ρ : Rho) (Q : List V → Hp → Prop) : R (List D) → Prop
  | .ok ds => ∀ vs H' G', Rel F G' H' σ ρ → Up G H G' H' → AtL F.K G' ds vs → Q vs H'
  | .exc c => kX F c
  | .bad => False
def kO (F : Fx) (G H : Hp) (σ : St) (ρ : Rho) (Q : VK) : R (List D) → Prop
  | .ok ds => ∀ a xs H' G', Rel F G' H' σ ρ → Up G H G' H' → H a = none → H' a = some (.lst xs) → G' a = none → AtL F.K G' ds xs → Q (.ref a) H'
  | .exc c => kX F c
  | .bad => False
def kS (F : Fx) (G : Hp) (De : Ends) : R Fl → Prop
  | .ok (.nx ρ') => ∀ σ' G' H', Rel F G' H' σ' ρ' → Sub G G' → De.nx σ' H'
  | .ok (.bk ρ') => ∀ σ' G' H', Rel F G' H' σ' ρ' → Sub G G' → De.bk σ' H'
  | .ok (.ct ρ') => ∀ σ' G' H', Rel F G' H' σ' ρ' → Sub G G' → De.ct σ' H'
  | .ok (.rt d) => ∀ v G' H', Kp F G' H' → At F.K G' d v → De.rt v H'
  | .ok (.ro ds) => ∀ a xs G' H', Kp F G' H' → G' a = none → F.H0 a = none → H' a = some (.lst xs) → AtL F.K G' ds xs → De.rt (.ref a) H'
  | .exc c => kX F c
  | .bad => False
def tE (F : Fx) (m : ME) : TE := fun σ H Q => ∃ G ρ, Rel F G H σ ρ ∧ kE F G H σ ρ Q (m ρ)
def tT (F : Fx) (m : MT) : TT := fun σ H Q => ∃ G ρ, Rel F G H σ ρ ∧ kT F G H σ ρ Q (m ρ)
def tA (F : Fx) (m : MA) : TA := fun σ H Q => ∃ G ρ, Rel F G H σ ρ ∧ kA F G H σ ρ Q (m ρ)
def tO (F : Fx) (m : MA) : TE := fun σ H Q => ∃ G ρ, Rel F G H σ ρ ∧ kO F G H σ ρ Q (m ρ)
def tS (F : Fx) (m : MS) : TS := fun De σ H => ∃ G ρ, Rel F G H σ ρ ∧ kS F G De (m ρ)
section
variable {F : Fx} {G G1 H H1 : Hp} {σ : St} {ρ : Rho}
theorem kE.mono {Q : VK} (s : Up G H G1 H1) : ∀ {r : R D}, kE F G H σ ρ Q r → kE F G1 H1 σ ρ Q r
  | .ok _, h => fun v H' G' r sg a => h v H' G' r (s.trans sg) a
  | .exc _, h => h
  | .bad, h => h
theorem kT.mono {Q : Bool → Hp → Prop} (s : Up G H G1 H1) : ∀ {r : R Bool}, kT F G H σ ρ Q r → kT F G1 H1 σ ρ Q r
  | .ok _, h => fun H' G' r sg => h H' G' r (s.trans sg)
  | .exc _, h => h
  | .bad, h => h
theorem kA.mono {Q : List V → Hp → Prop} (s : Up G H G1 H1) : ∀ {r : R (List D)}, kA F G H σ ρ Q r → kA F G1 H1 σ ρ Q r
  | .ok _, h => fun v H' G' r sg a => h v H' G' r (s.trans sg) a
  | .exc _, h => h
  | .bad, h => h
theorem kO.mono {Q : VK} (s : Up G H G1 H1) : ∀ {r : R (List D)}, kO F G H σ ρ Q r → kO F G1 H1 σ ρ Q r
  | .ok _, h => fun a xs H' G' r sg h1 h2 h3 h4 => h a xs H' G' r (s.trans sg) (s.h.gone h1) h2 h3 h4
  | .exc _, h => h
  | .bad, h => h
theorem kS.mono {De : Ends} (s : Sub G G1) : ∀ {r : R Fl}, kS F G De r → kS F G1 De r
  | .ok (.nx _), h => fun σ' G' H' r sg => h σ' G' H' r (s.trans sg)
  | .ok (.bk _), h => fun σ' G' H' r sg => h σ' G' H' r (s.trans sg)
  | .ok (.ct _), h => fun σ' G' H' r sg => h σ' G' H' r (s.trans sg)
  | .ok (.rt _), h => h
  | .ok (.ro _), h => h
  | .exc _, h => h
  | .bad, h => h
end
/-! a reading implies another -/
abbrev ImpE (t' t : TE) : Prop := ∀ σ H Q, t' σ H Q → t σ H Q
abbrev ImpT (t' t : TT) : Prop := ∀ σ H Q, t' σ H Q → t σ H Q
abbrev ImpA (t' t : TA) : Prop := ∀ σ H Q, t' σ H Q → t σ H Q
abbrev ImpS (t' t : TS) : Prop := ∀ De σ H, t' De σ H → t De σ H
/-! ### names, constants -/
def mVar (i : Nat) : ME := fun ρ => match ρ[i]? with
  | some (.fz d) => .ok d
  | _ => .bad
def mC (d : D) : ME := fun _ => .ok d
section
variable {F : Fx}
theorem i_var (i : Nat) : ImpE (tE F (mVar i)) (tVar i) := by
  rintro σ H Q ⟨G, ρ, r, h⟩
  unfold mVar at h
  cases e : ρ[i]? with
  | none => rw [e] at h; exact h.elim
  | some s =>
    rw [e] at h
    cases s with
    | un => exact h.elim
    | ow _ => exact h.elim
    | fz d =>
      obtain ⟨v, e1, a⟩ := r.fz e
      exact ⟨v, e1, h v H G r (Up.refl _ _) a⟩
theorem i_C {d : D} {v : V} (a : ∀ G, At F.K G d v) : ImpE (tE F (mC d)) (tC v) := by
  rintro σ H Q ⟨G, ρ, r, h⟩
  exact h v H G r (Up.refl _ _) (a G)
/-! ### two operands -/
def mBin (f : D → D → R D) (a b : ME) : ME := fun ρ => (a ρ).bind fun x => (b ρ).bind fun y => f x y
def OpOk (F : Fx) (r : R2) (f : D → D → R D) : Prop := ∀ σ ρ G H x y dx dy Q, Rel F G H σ ρ → At F.K G dx x → At F.K G dy y → kE F G H σ ρ Q (f dx dy) → r x y H Q
theorem i_bin {r : R2} {f : D → D → R D} {ma mb : ME} (ho : OpOk F r f) : ImpE (tE F (mBin f ma mb)) (tOp r (tE F ma) (tE F mb)) := by
  rintro σ H Q ⟨G, ρ, r, h⟩
  unfold mBin at h
  refine ⟨G, ρ, r, ?_⟩
  cases ea : ma ρ with
  | bad => rw [ea] at h; exact h.elim
  | exc c => rw [ea] at h; exact h
  | ok dx =>
    rw [ea, R.bind_ok] at h
    intro x H1 G1 r1 s1 ax
    refine ⟨G1, ρ, r1, ?_⟩
    cases eb : mb ρ with
    | bad => rw [eb] at h; exact h.elim
    | exc c => rw [eb] at h; exact h
    | ok dy =>
      rw [eb, R.bind_ok] at h
      intro y H2 G2 r2 s2 ay
      exact ho σ ρ G2 H2 x y dx dy Q r2 (ax.mono s2.g) ay (h.mono (s1.trans s2))
/-! ### one operand -/
def mUn (f : D → R D) (a : ME) : ME := fun ρ => (a ρ).bind f
def UnOk (F : Fx) (r : V → Hp → VK → Prop) (f : D → R D) : Prop := ∀ σ ρ G H x dx Q, Rel F G H σ ρ → At F.K G dx x → kE F G H σ ρ Q (f dx) → r x H Q
theorem i_un {r : V → Hp → VK → Prop} {f : D → R D} {ma : ME} (ho : UnOk F r f) : ImpE (tE F (mUn f ma)) (tUn r (tE F ma)) := by
  rintro σ H Q ⟨G, ρ, r, h⟩
  unfold mUn at h
  refine ⟨G, ρ, r, ?_⟩
  cases ea : ma ρ with
  | bad => rw [ea] at h; exact h.elim
  | exc c => rw [ea] at h; exact h
  | ok dx =>
    rw [ea, R.bind_ok] at h
    intro x H1 G1 r1 s1 ax
    exact ho σ ρ G1 H1 x dx Q r1 ax (h.mono s1)
/-! ### lists of expressions -/
def mNil : MA := fun _ => .ok []
def mCons (a : ME) (r : MA) : MA := fun ρ => (a ρ).bind fun x => (r ρ).bind fun xs => .ok (x :: xs)
theorem i_nil : ImpA (tA F mNil) tNil := by
  rintro σ H Q ⟨G, ρ, r, h⟩
  exact h [] H G r (Up.refl _ _) .nil
theorem i_cons {ma : ME} {mr : MA} : ImpA (tA F (mCons ma mr)) (tCons (tE F ma) (tA F mr)) := by
  rintro σ H Q ⟨G, ρ, r, h⟩
  unfold mCons at h
  refine ⟨G, ρ, r, ?_⟩
  cases ea : ma ρ with
  | bad => rw [ea] at h; exact h.elim
  | exc c => rw [ea] at h; exact h
  | ok dx =>
    rw [ea, R.bind_ok] at h
    intro x H1 G1 r1 s1 ax
    refine ⟨G1, ρ, r1, ?_⟩
    cases eb : mr ρ with
    | bad => rw [eb] at h; exact h.elim
    | exc c => rw [eb] at h; exact h
    | ok dy =>
      rw [eb, R.bind_ok] at h
      intro y H2 G2 r2 s2 ay
      exact h (x :: y) H2 G2 r2 (s1.trans s2) (.cons (ax.mono s2.g) ay)
def mTup (m : MA) : ME := fun ρ => (m ρ).bind fun xs => if xs.length ≤ 1000000 then .ok (.tup xs) else .bad
theorem i_tup {m : MA} : ImpE (tE F (mTup m)) (tTup (tA F m)) := by
  rintro σ H Q ⟨G, ρ, r, h⟩
  unfold mTup at h
  refine ⟨G, ρ, r, ?_⟩
  cases ea : m ρ with
  | bad => rw [ea] at h; exact h.elim
  | exc c => rw [ea] at h; exact h
  | ok ds =>
    rw [ea, R.bind_ok] at h
    intro vs H1 G1 r1 s1 a
    by_cases hl : ds.length ≤ 1000000
    · rw [if_pos hl] at h
      refine ⟨by rw [← a.length]; exact Nat.le_trans hl (by decide), fun p hp => ?_⟩
      refine h (.ref p) _ _ (r1.lay hp) (s1.trans (Up.lay r1.kp.sub hp)) ?_
      simp only [At]
      exact ⟨p, vs, rfl, SqT.of upd_same, a.mono (Sub.upd (r1.kp.sub.gone hp))⟩
    · rw [if_neg hl] at h; exact h.elim
theorem OwnAt.some (r : Rel F G H σ ρ) {a : Addr} (h : OwnAt σ ρ a) : ∃ xs, H a = some (.lst xs) := by
  obtain ⟨i, ds, e1, e2⟩ := h
  obtain ⟨o, e3, b, xs, e4, h1, _⟩ := r.sl i _ e1
  rw [e2] at e3; cases e3; cases e4
  exact ⟨xs, h1⟩
def lim (xs : List D) : R (List D) := if xs.length ≤ 1000000 then .ok xs else .bad
def mLim (m : MA) : MA := fun ρ => (m ρ).bind lim
theorem i_lst {m : MA} : ImpE (tO F (mLim m)) (tLst (tA F m)) := by
  rintro σ H Q ⟨G, ρ, r, h⟩
  unfold mLim lim at h
  refine ⟨G, ρ, r, ?_⟩
  cases ea : m ρ with
  | bad => rw [ea] at h; exact h.elim
  | exc c => rw [ea] at h; exact h
  | ok ds =>
    rw [ea, R.bind_ok] at h
    intro vs H1 G1 r1 s1 a
    by_cases hl : ds.length ≤ 1000000
    · rw [if_pos hl] at h
      refine ⟨by rw [← a.length]; exact Nat.le_trans hl (by decide), fun p hp => ?_⟩
      exact h p vs _ G1 (r1.lay0 hp) (s1.trans (Up.lay0 hp)) (s1.h.gone hp) upd_same (r1.kp.sub.gone hp) a
    · rw [if_neg hl] at h; exact h.elim
/-- a list of one's own is made part of the world -/
def mFz (m : MA) : ME := fun ρ => (m ρ).bind fun xs => .ok (.lst xs)
theorem i_fz {m : MA} : ImpE (tE F (mFz m)) (tO F m) := by
  rintro σ H Q ⟨G, ρ, r, h⟩
  unfold mFz at h
  refine ⟨G, ρ, r, ?_⟩
  cases ea : m ρ with
  | bad => rw [ea] at h; exact h.elim
  | exc c => rw [ea] at h; exact h
  | ok ds =>
    rw [ea, R.bind_ok] at h
    intro a xs H' G' r' s' hn ha hg q
    refine h (.ref a) H' _ (r'.take ha hg (r.kp.hh.gone hn) fun z => ?_) (s'.put hn hg) ?_
    · obtain ⟨ys, e⟩ := OwnAt.some r z
      rw [hn] at e; cases e
    simp only [At]
    exact ⟨a, xs, rfl, upd_same, q.mono (Sub.upd hg)⟩
/-! ### tests -/
def asB : D → R Bool
  | .bl b => .ok b
  | _ => .bad
def mB (m : ME) : MT := fun ρ => (m ρ).bind asB
theorem i_B {m : ME} : ImpT (tT F (mB m)) (tB (tE F m)) := by
  rintro σ H Q ⟨G, ρ, r, h⟩
  unfold mB at h
  refine ⟨G, ρ, r, ?_⟩
  cases ea : m ρ with
  | bad => rw [ea] at h; exact h.elim
  | exc c => rw [ea] at h; exact h
  | ok d =>
    rw [ea, R.bind_ok] at h
    intro x H1 G1 r1 s1 ax
    cases d <;> first
      | (exact h.elim)
      | (simp only [At] at ax; exact ⟨_, ax, h H1 G1 r1 s1⟩)
theorem i_Test {m : ME} : ImpT (tT F (mB m)) (tTest (tE F m)) := i_B
def mAnd (a b : MT) : MT := fun ρ => (a ρ).bind fun c => if c = true then b ρ else .ok false
def mOr (a b : MT) : MT := fun ρ => (a ρ).bind fun c => if c = true then .ok true else b ρ
def mNot (a : MT) : MT := fun ρ => (a ρ).bind fun c => .ok (!c)
theorem i_and {a b : MT} : ImpT (tT F (mAnd a b)) (tAnd (tT F a) (tT F b)) := by
  rintro σ H Q ⟨G, ρ, r, h⟩
  unfold mAnd at h
  refine ⟨G, ρ, r, ?_⟩
  cases ea : a ρ with
  | bad => rw [ea] at h; exact h.elim
  | exc c => rw [ea] at h; exact h
  | ok c =>
    rw [ea, R.bind_ok] at h
    intro H1 G1 r1 s1
    cases c with
    | true => exact ⟨G1, ρ, r1, kT.mono s1 h⟩
    | false => exact h H1 G1 r1 s1
theorem i_or {a b : MT} : ImpT (tT F (mOr a b)) (tOr (tT F a) (tT F b)) := by
  rintro σ H Q ⟨G, ρ, r, h⟩
  unfold mOr at h
  refine ⟨G, ρ, r, ?_⟩
  cases ea : a ρ with
  | bad => rw [ea] at h; exact h.elim
  | exc c => rw [ea] at h; exact h
  | ok c =>
    rw [ea, R.bind_ok] at h
    intro H1 G1 r1 s1
    cases c with
    | true => exact h H1 G1 r1 s1
    | false => exact ⟨G1, ρ, r1, kT.mono s1 h⟩
theorem i_not {a : MT} : ImpT (tT F (mNot a)) (tNot (tT F a)) := by
  rintro σ H Q ⟨G, ρ, r, h⟩
  unfold mNot at h
  refine ⟨G, ρ, r, ?_⟩
  cases ea : a ρ with
  | bad => rw [ea] at h; exact h.elim
  | exc c => rw [ea] at h; exact h
  | ok c => rw [ea, R.bind_ok] at h; exact h
def mAndV (a b : ME) : ME := fun ρ => (a ρ).bind fun x => (asB x).bind fun c => if c = true then b ρ else .ok (.bl false)
def mOrV (a b : ME) : ME := fun ρ => (a ρ).bind fun x => (asB x).bind fun c => if c = true then .ok (.bl true) else b ρ
def mNotV (a : ME) : ME := fun ρ => (a ρ).bind fun x => (asB x).bind fun c => .ok (.bl (!c))
theorem i_andV {a b : ME} : ImpE (tE F (mAndV a b)) (tAndV (tE F a) (tE F b)) := by
  rintro σ H Q ⟨G, ρ, r, h⟩
  unfold mAndV at h
  refine ⟨G, ρ, r, ?_⟩
  cases ea : a ρ with
  | bad => rw [ea] at h; exact h.elim
  | exc c => rw [ea] at h; exact h
  | ok d =>
    rw [ea, R.bind_ok] at h
    intro x H1 G1 r1 s1 ax
    cases d with
    | bl c =>
      simp only [At] at ax
      refine ⟨c, ax, ?_⟩
      cases c with
      | true => exact ⟨G1, ρ, r1, kE.mono s1 h⟩
      | false => exact h _ H1 G1 r1 s1 (by simp only [At])
    | _ => exact h.elim
theorem i_orV {a b : ME} : ImpE (tE F (mOrV a b)) (tOrV (tE F a) (tE F b)) := by
  rintro σ H Q ⟨G, ρ, r, h⟩
  unfold mOrV at h
  refine ⟨G, ρ, r, ?_⟩
  cases ea : a ρ with
  | bad => rw [ea] at h; exact h.elim
  | exc c => rw [ea] at h; exact h
  | ok d =>
    rw [ea, R.bind_ok] at h
    intro x H1 G1 r1 s1 ax
    cases d with
    | bl c =>
      simp only [At] at ax
      refine ⟨c, ax, ?_⟩
      cases c with
      | false => exact ⟨G1, ρ, r1, kE.mono s1 h⟩
      | true => exact h _ H1 G1 r1 s1 (by simp only [At])
    | _ => exact h.elim
theorem i_notV {a : ME} : ImpE (tE F (mNotV a)) (tNotV (tE F a)) := by
  rintro σ H Q ⟨G, ρ, r, h⟩
  unfold mNotV at h
  refine ⟨G, ρ, r, ?_⟩
  cases ea : a ρ with
  | bad => rw [ea] at h; exact h.elim
  | exc c => rw [ea] at h; exact h
  | ok d =>
    rw [ea, R.bind_ok] at h
    intro x H1 G1 r1 s1 ax
    cases d with
    | bl c =>
      simp only [At] at ax
      exact ⟨c, ax, h _ H1 G1 r1 s1 (by simp only [At])⟩
    | _ => exact h.elim
def mIf (c : MT) (a b : ME) : ME := fun ρ => (c ρ).bind fun k => if k = true then a ρ else b ρ
theorem i_if {c : MT} {a b : ME} : ImpE (tE F (mIf c a b)) (tIf (tT F c) (tE F a) (tE F b)) := by
  rintro σ H Q ⟨G, ρ, r, h⟩
  unfold mIf at h
  refine ⟨G, ρ, r, ?_⟩
  cases ea : c ρ with
  | bad => rw [ea] at h; exact h.elim
  | exc c => rw [ea] at h; exact h
  | ok k =>
    rw [ea, R.bind_ok] at h
    intro H1 G1 r1 s1
    cases k with
    | true => exact ⟨G1, ρ, r1, kE.mono s1 h⟩
    | false => exact ⟨G1, ρ, r1, kE.mono s1 h⟩
/-! ### statements -/
def mNext : MS := fun ρ => .ok (.nx ρ)
def mSeq (a b : MS) : MS := fun ρ => (a ρ).bind fun f => match f with
  | .nx ρ' => b ρ'
  | f => .ok f
theorem i_next : ImpS (tS F mNext) tNext := by
  rintro De σ H ⟨G, ρ, r, h⟩
  exact h σ G H r (Sub.refl _)
theorem i_seq {a b : MS} : ImpS (tS F (mSeq a b)) (tSeq (tS F a) (tS F b)) := by
  rintro De σ H ⟨G, ρ, r, h⟩
  unfold mSeq at h
  refine ⟨G, ρ, r, ?_⟩
  cases ea : a ρ with
  | bad => rw [ea] at h; exact h.elim
  | exc c => rw [ea] at h; exact h
  | ok f =>
    rw [ea, R.bind_ok] at h
    cases f with
    | nx ρ' => exact fun σ' G' H' r' s' => ⟨G', ρ', r', kS.mono s' h⟩
    | rt d => exact h
    | ro d => exact h
    | bk d => exact h
    | ct d => exact h
def mDrop (a : ME) : MS := fun ρ => (a ρ).bind fun _ => .ok (.nx ρ)
theorem i_drop {a : ME} : ImpS (tS F (mDrop a)) (tDrop (tE F a)) := by
  rintro De σ H ⟨G, ρ, r, h⟩
  unfold mDrop at h
  refine ⟨G, ρ, r, ?_⟩
  cases ea : a ρ with
  | bad => rw [ea] at h; exact h.elim
  | exc c => rw [ea] at h; exact h
  | ok d => rw [ea, R.bind_ok] at h; exact fun v H' G' r' s' _ => h σ G' H' r' s'.g
def mRet (a : ME) : MS := fun ρ => (a ρ).bind fun d => .ok (.rt d)
theorem i_ret {a : ME} : ImpS (tS F (mRet a)) (tRet (tE F a)) := by
  rintro De σ H ⟨G, ρ, r, h⟩
  unfold mRet at h
  refine ⟨G, ρ, r, ?_⟩
  cases ea : a ρ with
  | bad => rw [ea] at h; exact h.elim
  | exc c => rw [ea] at h; exact h
  | ok d => rw [ea, R.bind_ok] at h; exact fun v H' G' r' s' a => h v G' H' r'.kp a
def mRetO (a : MA) : MS := fun ρ => (a ρ).bind fun d => .ok (.ro d)
theorem i_retO {a : MA} : ImpS (tS F (mRetO a)) (tRet (tO F a)) := by
  rintro De σ H ⟨G, ρ, r, h⟩
  unfold mRetO at h
  refine ⟨G, ρ, r, ?_⟩
  cases ea : a ρ with
  | bad => rw [ea] at h; exact h.elim
  | exc c => rw [ea] at h; exact h
  | ok d => rw [ea, R.bind_ok] at h; exact fun a xs H' G' r' s' h1 h2 h3 h4 => h a xs G' H' r'.kp h3 (r.kp.hh.gone h1) h2 h4
/-- return x, x a name with a list of its own -/
def mVarO (i : Nat) : MA := fun ρ => match ρ[i]? with
  | some (.ow d) => .ok d
  | _ => .bad
theorem i_retV (i : Nat) : ImpS (tS F (mRetO (mVarO i))) (tRet (tVar i)) := by
  rintro De σ H ⟨G, ρ, r, h⟩
  unfold mRetO mVarO at h
  cases e : ρ[i]? with
  | none => rw [e] at h; exact h.elim
  | some s =>
    rw [e] at h
    cases s with
    | un => exact h.elim
    | fz _ => exact h.elim
    | ow ds =>
      obtain ⟨o, e1, a, xs, rfl, h1, h2, h3, h4⟩ := r.sl i _ e
      exact ⟨.ref a, e1, h a xs G H r.kp h2 h3 h1 h4⟩
theorem i_retN : ImpS (tS F (mRet (mC .non))) tRetN := by
  rintro De σ H ⟨G, ρ, r, h⟩
  exact h .non G H r.kp (by simp only [At])
def mIfS (c : MT) (a b : MS) : MS := fun ρ => (c ρ).bind fun k => if k = true then a ρ else b ρ
theorem i_ifS {c : MT} {a b : MS} : ImpS (tS F (mIfS c a b)) (tIfS (tT F c) (tS F a) (tS F b)) := by
  rintro De σ H ⟨G, ρ, r, h⟩
  unfold mIfS at h
  refine ⟨G, ρ, r, ?_⟩
  cases ea : c ρ with
  | bad => rw [ea] at h; exact h.elim
  | exc c => rw [ea] at h; exact h
  | ok k =>
    rw [ea, R.bind_ok] at h
    intro H1 G1 r1 s1
    cases k with
    | true => exact ⟨G1, ρ, r1, kS.mono s1.g h⟩
    | false => exact ⟨G1, ρ, r1, kS.mono s1.g h⟩
/-! ### assignments -/
def setV (i : Nat) (d : D) (ρ : Rho) : R Rho := if i < ρ.length then .ok (ρ.set i (.fz d)) else .bad
def mSet (i : Nat) (a : ME) : MS := fun ρ => (a ρ).bind fun d => (setV i d ρ).bind fun ρ' => .ok (.nx ρ')
theorem i_set {i : Nat} {a : ME} : ImpS (tS F (mSet i a)) (tAsg (tE F a) (gName i)) := by
  rintro De σ H ⟨G, ρ, r, h⟩
  unfold mSet setV at h
  refine ⟨G, ρ, r, ?_⟩
  cases ea : a ρ with
  | bad => rw [ea] at h; exact h.elim
  | exc c => rw [ea] at h; exact h
  | ok d =>
    rw [ea, R.bind_ok] at h
    intro v H1 G1 r1 s1 av
    by_cases hi : i < ρ.length
    · rw [if_pos hi] at h
      exact h _ G1 H1 (r1.set hi av) s1.g
    · rw [if_neg hi] at h; exact h.elim
def mSetO (i : Nat) (a : MA) : MS := fun ρ => (a ρ).bind fun ds => if i < ρ.length then .ok (.nx (ρ.set i (.ow ds))) else .bad
theorem i_setO {i : Nat} {a : MA} : ImpS (tS F (mSetO i a)) (tAsg (tO F a) (gName i)) := by
  rintro De σ H ⟨G, ρ, r, h⟩
  unfold mSetO at h
  refine ⟨G, ρ, r, ?_⟩
  cases ea : a ρ with
  | bad => rw [ea] at h; exact h.elim
  | exc c => rw [ea] at h; exact h
  | ok ds =>
    rw [ea, R.bind_ok] at h
    intro b xs H1 G1 r1 s1 h1 h2 h3 h4
    by_cases hi : i < ρ.length
    · rw [if_pos hi] at h
      refine h _ G1 H1 (r1.setO hi h2 h3 (r.kp.hh.gone h1) h4 fun j es _ e1 e2 => ?_) s1.g
      obtain ⟨ys, e⟩ := OwnAt.some r ⟨j, es, e1, e2⟩
      rw [h1] at e; cases e
    · rw [if_neg hi] at h; exact h.elim
/-! ### the world takes a name's list, for good or for a while -/
def frz1 (i : Nat) (ρ : Rho) : Rho := match ρ[i]? with
  | some (.ow ds) => ρ.set i (.fz (.lst ds))
  | _ => ρ
theorem Rel.frz1 {G H : Hp} {σ : St} {ρ : Rho} (r : Rel F G H σ ρ) (i : Nat) : ∃ G', Rel F G' H σ (L3.frz1 i ρ) ∧ Sub G G' := by
  unfold L3.frz1
  cases e : ρ[i]? with
  | none => exact ⟨G, r, Sub.refl _⟩
  | some s =>
    cases s with
    | un => exact ⟨G, r, Sub.refl _⟩
    | fz _ => exact ⟨G, r, Sub.refl _⟩
    | ow ds => exact r.frz e
def mFrz (i : Nat) (m : MS) : MS := fun ρ => m (frz1 i ρ)
theorem i_frz {i : Nat} {m : MS} : ImpS (tS F (mFrz i m)) (tS F m) := by
  rintro De σ H ⟨G, ρ, r, h⟩
  obtain ⟨G1, r1, s1⟩ := r.frz1 i
  exact ⟨G1, _, r1, kS.mono s1 h⟩
def scalD : D → Bool
  | .non => true | .bl _ => true | .int _ => true | .str _ => true
  | _ => false
theorem At.scal {K : PySem.W.Frag} {G G' : Hp} {d : D} {v : V} (h : scalD d = true) (a : At K G d v) : At K G' d v := by
  cases d <;> first
    | (simp only [At] at a ⊢; exact a)
    | (cases h)
def frzS : Sl → Sl
  | .ow ds => .fz (.lst ds)
  | s => s
def frzA (ρ : Rho) : Rho := ρ.map frzS
open Classical in
noncomputable def gPlus (σ : St) (ρ : Rho) (G H : Hp) : Hp := fun b => if OwnAt σ ρ b then H b else G b
theorem gPlus_sub {G H : Hp} {σ : St} {ρ : Rho} (r : Rel F G H σ ρ) : Sub G (gPlus σ ρ G H) := fun b o e => by
  unfold gPlus
  split
  · exact r.kp.sub b o e
  · exact e
theorem gPlus_own {G H : Hp} {σ : St} {ρ : Rho} {b : Addr} (h : OwnAt σ ρ b) : gPlus σ ρ G H b = H b := by
  unfold gPlus
  rw [if_pos h]
theorem Rel.plus {G H : Hp} {σ : St} {ρ : Rho} (r : Rel F G H σ ρ) : Rel F (gPlus σ ρ G H) H σ (frzA ρ) := by
  have sg := gPlus_sub r
  refine ⟨⟨fun b o e => ?_, r.kp.gg.trans sg, r.kp.hh, fun b hb => ?_⟩, by simp [frzA, r.len], fun i s e => ?_, fun i j a ds ds' e1 => ?_⟩
  · unfold gPlus at e
    split at e
    · exact e
    · exact r.kp.sub b o e
  · unfold gPlus
    split
    · rename_i z
      obtain ⟨i, ds, e1, e2⟩ := z
      obtain ⟨o, e3, c, xs, e4, _, _, h3, _⟩ := r.sl i _ e1
      rw [e2] at e3; cases e3; cases e4
      exact absurd h3 hb
    · exact r.kp.new b hb
  · unfold frzA at e
    rw [List.getElem?_map] at e
    cases e1 : ρ[i]? with
    | none => rw [e1] at e; cases e
    | some t =>
      rw [e1] at e
      have es : frzS t = s := Option.some.inj e
      obtain ⟨o, e2, q⟩ := r.sl i t e1
      refine ⟨o, e2, ?_⟩
      subst es
      cases t with
      | un => trivial
      | fz d => obtain ⟨v, e3, a⟩ := q; exact ⟨v, e3, a.mono sg⟩
      | ow ds =>
        obtain ⟨a, xs, e3, h1, h2, h3, h4⟩ := q
        subst e3
        refine ⟨.ref a, rfl, ?_⟩
        simp only [At]
        refine ⟨a, xs, rfl, ?_, h4.mono sg⟩
        rw [gPlus_own ⟨i, ds, e1, e2⟩]; exact h1
  · unfold frzA at e1
    rw [List.getElem?_map] at e1
    cases e2 : ρ[i]? with
    | none => rw [e2] at e1; cases e1
    | some t =>
      rw [e2] at e1
      have es : frzS t = .ow ds := Option.some.inj e1
      cases t <;> cases es
/-- back from the loan -/
theorem Rel.back {G H G' H' : Hp} {σ : St} {ρ : Rho} (r : Rel F G H σ ρ) (r' : Rel F G' H' σ (frzA ρ)) (s : Sub (gPlus σ ρ G H) G') : Rel F G H' σ ρ := by
  refine ⟨⟨(gPlus_sub r).trans (s.trans r'.kp.sub), r.kp.gg, r'.kp.hh, r.kp.new⟩, r.len, fun i t e => ?_, r.ap⟩
  obtain ⟨o, e1, q⟩ := r.sl i t e
  refine ⟨o, e1, ?_⟩
  cases t with
  | un => trivial
  | fz d => exact q
  | ow ds =>
    obtain ⟨a, xs, e3, h1, h2, h3, h4⟩ := q
    exact ⟨a, xs, e3, r'.kp.sub _ _ (s _ _ (by rw [gPlus_own ⟨i, ds, e, by rw [e1, e3]⟩]; exact h1)), h2, h3, h4⟩
def onlyS (d : D) : R D := if scalD d = true then .ok d else .bad
def mBor (m : ME) : ME := fun ρ => (m (frzA ρ)).bind onlyS
theorem i_bor {m : ME} : ImpE (tE F (mBor m)) (tE F m) := by
  rintro σ H Q ⟨G, ρ, r, h⟩
  refine ⟨gPlus σ ρ G H, frzA ρ, r.plus, ?_⟩
  unfold mBor onlyS at h
  cases ea : m (frzA ρ) with
  | bad => rw [ea] at h; exact h.elim
  | exc c => rw [ea] at h; exact h
  | ok d =>
    rw [ea, R.bind_ok] at h
    intro v H' G' r' s' a
    by_cases hd : scalD d = true
    · rw [if_pos hd] at h
      exact h v H' G (r.back r' s'.g) ⟨Sub.refl _, s'.h, fun _ _ => rfl⟩ (a.scal hd)
    · rw [if_neg hd] at h; exact h.elim
def mBorT (m : MT) : MT := fun ρ => m (frzA ρ)
theorem i_borT {m : MT} : ImpT (tT F (mBorT m)) (tT F m) := by
  rintro σ H Q ⟨G, ρ, r, h⟩
  refine ⟨gPlus σ ρ G H, frzA ρ, r.plus, ?_⟩
  unfold mBorT at h
  cases ea : m (frzA ρ) with
  | bad => rw [ea] at h; exact h.elim
  | exc c => rw [ea] at h; exact h
  | ok d =>
    rw [ea] at h
    exact fun H' G' r' s' => h H' G (r.back r' s'.g) ⟨Sub.refl _, s'.h, fun _ _ => rfl⟩
end
end L3
set_option Elab.async false
set_option linter.all false
namespace L3
open PySem L2
section
variable {F : Fx}
/-! ### what a loop walks -/
structure ItOk (K : PySem.W.Frag) (J : It) (ds : List D) (G : Hp) : Prop where
  go : ∀ (i : Nat) (H : Hp), Sub G H → i < ds.length → J.go i H
  yld : ∀ (i : Nat) (H : Hp) (x : V) (H' : Hp), Sub G H → i < ds.length → J.yld i H x H' → ∃ d, ds[i]? = some d ∧
    ((H' = H ∧ At K G d x) ∨ ∃ p xs es, H p = none ∧ H' = upd H p (.tup xs) ∧ x = .ref p ∧ d = .tup es ∧ AtL K G es xs)
  stop : ∀ (H : Hp), Sub G H → J.stop ds.length H
def kI (F : Fx) (G H : Hp) (σ : St) (ρ : Rho) (Q : It → Hp → Prop) : R (List D) → Prop
  | .ok ds => ∀ J H' G', Rel F G' H' σ ρ → Up G H G' H' → ItOk F.K J ds G' → Q J H'
  | .exc c => kX F c
  | .bad => False
def tI (F : Fx) (m : MA) : TI := fun σ H Q => ∃ G ρ, Rel F G H σ ρ ∧ kI F G H σ ρ Q (m ρ)
abbrev ImpI (t' t : TI) : Prop := ∀ σ H Q, t' σ H Q → t σ H Q
theorem ItOk.turn {J : It} {ds : List D} {G G1 H H' : Hp} {σ : St} {ρ : Rho} {i : Nat} {x : V} (t : ItOk F.K J ds G) (r : Rel F G1 H σ ρ) (s : Sub G G1) (hi : i < ds.length) (y : J.yld i H x H') :
    ∃ d G', ds[i]? = some d ∧ Rel F G' H' σ ρ ∧ Up G1 H G' H' ∧ At F.K G' d x := by
  obtain ⟨d, e, h⟩ := t.yld i H x H' (s.trans r.kp.sub) hi y
  rcases h with ⟨rfl, a⟩ | ⟨p, xs, es, hp, rfl, rfl, rfl, a⟩
  · exact ⟨d, G1, e, r, Up.refl _ _, a.mono s⟩
  · refine ⟨_, _, e, r.lay hp, Up.lay r.kp.sub hp, ?_⟩
    simp only [At]
    exact ⟨p, xs, rfl, SqT.of upd_same, (a.mono s).mono (Sub.upd (r.kp.sub.gone hp))⟩
/-! targets -/
def GOk (F : Fx) (g : TG) (set : D → Rho → R Rho) : Prop := ∀ σ ρ G H v d Q ρ', Rel F G H σ ρ → At F.K G d v → set d ρ = .ok ρ' → (∀ σ', Rel F G H σ' ρ' → Q σ' H) → g v σ H Q
theorem g_name (i : Nat) : GOk F (gName i) (setV i) := by
  intro σ ρ G H v d Q ρ' r a e h
  unfold setV at e
  by_cases hi : i < ρ.length
  · rw [if_pos hi] at e
    cases e
    exact h _ (r.set hi a)
  · rw [if_neg hi] at e; cases e
def setL : List (D → Rho → R Rho) → List D → Rho → R Rho
  | [], [], ρ => .ok ρ
  | f :: fs, d :: ds, ρ => (f d ρ).bind fun ρ' => setL fs ds ρ'
  | _, _, _ => .bad
def GsOk (F : Fx) (g : TGs) (set : List D → Rho → R Rho) : Prop := ∀ σ ρ G H vs ds Q ρ', Rel F G H σ ρ → AtL F.K G ds vs → set ds ρ = .ok ρ' → (∀ σ', Rel F G H σ' ρ' → Q σ' H) → g vs σ H Q
theorem g_nil : GsOk F gNil (setL []) := by
  intro σ ρ G H vs ds Q ρ' r a e h
  cases ds with
  | nil =>
    simp only [AtL] at a
    cases e
    exact ⟨a, h σ r⟩
  | cons d ds => cases e
theorem g_cons {g : TG} {gs : TGs} {f : D → Rho → R Rho} {fs : List (D → Rho → R Rho)} (h1 : GOk F g f) (h2 : GsOk F gs (setL fs)) : GsOk F (gCons g gs) (setL (f :: fs)) := by
  intro σ ρ G H vs ds Q ρ' r a e h
  cases ds with
  | nil => cases e
  | cons d ds =>
    simp only [AtL] at a
    obtain ⟨v, vr, rfl, av, ar⟩ := a
    simp only [setL] at e
    cases e1 : f d ρ with
    | bad => rw [e1] at e; cases e
    | exc c => rw [e1] at e; cases e
    | ok ρ1 =>
      rw [e1, R.bind_ok] at e
      refine ⟨v, vr, rfl, h1 σ ρ G H v d _ ρ1 r av e1 fun σ1 r1 => ?_⟩
      exact h2 σ1 ρ1 G H vr ds Q ρ' r1 ar e h
def setT (fs : List (D → Rho → R Rho)) : D → Rho → R Rho
  | .tup ds, ρ => setL fs ds ρ
  | _, _ => .bad
theorem setL_len : ∀ {fs : List (D → Rho → R Rho)} {ds : List D} {ρ ρ' : Rho}, setL fs ds ρ = .ok ρ' → ds.length = fs.length
  | [], [], _, _, _ => rfl
  | [], _ :: _, _, _, e => by cases e
  | _ :: _, [], _, _, e => by cases e
  | f :: fs, d :: ds, ρ, ρ', e => by
    simp only [setL] at e
    cases e1 : f d ρ with
    | bad => rw [e1] at e; cases e
    | exc c => rw [e1] at e; cases e
    | ok ρ1 =>
      rw [e1, R.bind_ok] at e
      simp [setL_len e]
theorem g_tup {gs : TGs} {fs : List (D → Rho → R Rho)} {n : Nat} (hn : n = fs.length) (h : GsOk F gs (setL fs)) : GOk F (gTup F.K n gs) (setT fs) := by
  intro σ ρ G H v d Q ρ' r a e k
  cases d with
  | tup ds =>
    simp only [At] at a
    obtain ⟨p, xs, rfl, hq, al⟩ := a
    refine ⟨p, xs, rfl, SqT.mono r.kp.sub hq, ?_, h σ ρ G H xs ds Q ρ' r al e k⟩
    rw [← al.length, hn]; exact setL_len e
  | _ => cases e
/-! ### for -/
def forGo (set : D → Rho → R Rho) (body : MS) : List D → Rho → R Fl
  | [], ρ => .ok (.nx ρ)
  | d :: ds, ρ => (set d ρ).bind fun ρ1 => (body ρ1).bind fun f => match f with
    | .nx ρ2 => forGo set body ds ρ2
    | .ct ρ2 => forGo set body ds ρ2
    | .bk ρ2 => .ok (.nx ρ2)
    | f => .ok f
def mFor (mi : MA) (set : D → Rho → R Rho) (body : MS) : MS := fun ρ => (mi ρ).bind fun ds => forGo set body ds ρ
theorem i_for {mi : MA} {set : D → Rho → R Rho} {body : MS} {g : TG} (hg : GOk F g set) (hx : ∀ d ρ c, set d ρ ≠ .exc c) : ImpS (tS F (mFor mi set body)) (tFor (tI F mi) g (tS F body)) := by
  rintro De σ H ⟨G, ρ, r, h⟩
  unfold mFor at h
  refine ⟨G, ρ, r, ?_⟩
  cases ea : mi ρ with
  | bad => rw [ea] at h; exact h.elim
  | exc c => rw [ea] at h; exact h
  | ok ds =>
    rw [ea, R.bind_ok] at h
    intro J H1 G1 r1 s1 it
    refine ⟨fun i m σ2 H2 => m = ds.length - i ∧ i ≤ ds.length ∧ ∃ G2 ρ2, Rel F G2 H2 σ2 ρ2 ∧ Sub G1 G2 ∧ kS F G2 De (forGo set body (ds.drop i) ρ2), ⟨ds.length, by simp, Nat.zero_le _, G1, ρ, r1, Sub.refl _, kS.mono s1.g (by simpa using h)⟩, ?_⟩
    rintro i m σ2 H2 ⟨rfl, hi, G2, ρ2, r2, s2, k2⟩
    by_cases hlt : i < ds.length
    · refine .inr ⟨it.go i H2 (s2.trans r2.kp.sub) hlt, fun σ3 H3 => ∃ G3 ρ3, Rel F G3 H3 σ3 ρ3 ∧ Sub G1 G3 ∧ kS F G3 De (forGo set body (ds.drop (i + 1)) ρ3), fun σ3 H3 ⟨G3, ρ3, r3, s3, k3⟩ => ⟨ds.length - (i + 1), by omega, rfl, hlt, G3, ρ3, r3, s3, k3⟩, fun x H3 y => ?_⟩
      obtain ⟨d, G3, e3, r3, s3, a3⟩ := it.turn r2 s2 hlt y
      have ed : ds.drop i = d :: ds.drop (i + 1) := by
        rw [List.drop_eq_getElem_cons hlt]
        have := List.getElem?_eq_getElem hlt
        rw [e3] at this
        rw [Option.some.inj this]
      rw [ed] at k2
      simp only [forGo] at k2
      cases e4 : set d ρ2 with
      | bad => rw [e4] at k2; exact k2.elim
      | exc c => exact absurd e4 (hx d ρ2 c)
      | ok ρ4 =>
        rw [e4, R.bind_ok] at k2
        refine hg σ2 ρ2 G3 H3 x d _ ρ4 r3 a3 e4 fun σ5 r5 => ⟨G3, ρ4, r5, ?_⟩
        have s25 : Sub G2 G3 := s3.g
        cases e6 : body ρ4 with
        | bad => rw [e6] at k2; exact k2.elim
        | exc c => rw [e6] at k2; exact k2
        | ok f =>
          rw [e6, R.bind_ok] at k2
          cases f with
          | nx ρ6 => exact fun σ7 G7 H7 r7 s7 => ⟨G7, ρ6, r7, s2.trans (s25.trans s7), kS.mono (s25.trans s7) k2⟩
          | ct ρ6 => exact fun σ7 G7 H7 r7 s7 => ⟨G7, ρ6, r7, s2.trans (s25.trans s7), kS.mono (s25.trans s7) k2⟩
          | bk ρ6 => exact fun σ7 G7 H7 r7 s7 => k2 σ7 G7 H7 r7 (s25.trans s7)
          | rt d => exact k2
          | ro ds => exact k2
    · have e : ds.drop i = [] := List.drop_eq_nil_of_le (by omega)
      rw [e] at k2
      have ei : i = ds.length := by omega
      subst ei
      exact .inl ⟨it.stop H2 (s2.trans r2.kp.sub), k2 σ2 G2 H2 r2 (Sub.refl _)⟩
theorem setV_noexc (i : Nat) : ∀ d ρ c, setV i d ρ ≠ .exc c := fun d ρ c => by
  unfold setV
  split <;> exact fun z => nomatch z
theorem setL_noexc : ∀ {fs : List (D → Rho → R Rho)}, (∀ f ∈ fs, ∀ d ρ c, f d ρ ≠ .exc c) → ∀ ds ρ c, setL fs ds ρ ≠ .exc c
  | [], _, [], _, _, e => nomatch e
  | [], _, _ :: _, _, _, e => nomatch e
  | _ :: _, _, [], _, _, e => nomatch e
  | f :: fs, h, d :: ds, ρ, c, e => by
    simp only [setL] at e
    cases e1 : f d ρ with
    | bad => rw [e1] at e; cases e
    | exc c => exact h f (by simp) d ρ c e1
    | ok ρ1 => rw [e1, R.bind_ok] at e; exact setL_noexc (fun g hg => h g (by simp [hg])) ds ρ1 c e
theorem setT_noexc {fs : List (D → Rho → R Rho)} (h : ∀ f ∈ fs, ∀ d ρ c, f d ρ ≠ .exc c) : ∀ d ρ c, setT fs d ρ ≠ .exc c := fun d ρ c e => by
  cases d <;> first
    | (exact setL_noexc h _ _ _ e)
    | (cases e)
/-! ### sources -/
theorem it_list {K : PySem.W.Frag} {G : Hp} {a : Addr} {xs : List V} {ds : List D} (h : SqL K G a xs) (q : AtL K G ds xs) : ItOk K (Itl K a) ds G where
  go := fun i H s hi => by
    obtain ⟨v, e, _⟩ := q.get (List.getElem?_eq_getElem hi)
    exact ⟨xs, v, SqL.mono s h, e⟩
  yld := fun i H x H' s hi y => by
    obtain ⟨rfl, y⟩ := y
    obtain ⟨d, e, a⟩ := q.getV (y xs (SqL.mono s h))
    exact ⟨d, e, .inl ⟨rfl, a⟩⟩
  stop := fun H s => ⟨xs, SqL.mono s h, by rw [← q.length]; exact Nat.le_refl _⟩
theorem it_tup {K : PySem.W.Frag} {G : Hp} {a : Addr} {xs : List V} {ds : List D} (h : SqT K G a xs) (q : AtL K G ds xs) : ItOk K (Itt K a) ds G where
  go := fun i H s hi => by
    obtain ⟨v, e, _⟩ := q.get (List.getElem?_eq_getElem hi)
    exact ⟨xs, v, SqT.mono s h, e⟩
  yld := fun i H x H' s hi y => by
    obtain ⟨rfl, y⟩ := y
    obtain ⟨d, e, a⟩ := q.getV (y xs (SqT.mono s h))
    exact ⟨d, e, .inl ⟨rfl, a⟩⟩
  stop := fun H s => ⟨xs, SqT.mono s h, by rw [← q.length]; exact Nat.le_refl _⟩
def rangeD (lo : Int) (n : Nat) : List D := (List.range n).map fun (i : Nat) => .int (lo + (i : Int))
theorem it_rng {K : PySem.W.Frag} {G : Hp} (lo : Int) (n : Nat) : ItOk K (Itr lo n) (rangeD lo n) G where
  go := fun i H s hi => by
    have h : i < n := by simpa [rangeD] using hi
    exact h
  yld := fun i H x H' s hi y => by
    have h : i < n := by simpa [rangeD] using hi
    obtain ⟨e1, e2⟩ := y
    refine ⟨.int (lo + (i : Int)), ?_, .inl ⟨e1, ?_⟩⟩
    · unfold rangeD
      rw [List.getElem?_map, List.getElem?_range h]
      rfl
    · simp only [At]; exact e2
  stop := fun H s => by
    have h : n ≤ (rangeD lo n).length := by simp [rangeD]
    exact h
def seqD : D → R (List D)
  | .lst ds => .ok ds
  | .scr ds => .ok ds
  | _ => .bad
def tupD : D → R (List D)
  | .tup ds => .ok ds
  | _ => .bad
def mIL (m : ME) : MA := fun ρ => (m ρ).bind seqD
theorem i_list {m : ME} : ImpI (tI F (mIL m)) (iList F.K (tE F m)) := by
  rintro σ H Q ⟨G, ρ, r, h⟩
  unfold mIL at h
  refine ⟨G, ρ, r, ?_⟩
  cases ea : m ρ with
  | bad => rw [ea] at h; exact h.elim
  | exc c => rw [ea] at h; exact h
  | ok d =>
    rw [ea, R.bind_ok] at h
    intro v H1 G1 r1 s1 a
    cases d with
    | lst ds =>
      simp only [At] at a
      obtain ⟨p, xs, e, hq, al⟩ := a
      exact ⟨p, e, ⟨xs, SqL.of (r1.kp.sub _ _ hq)⟩, h _ H1 G1 r1 s1 (it_list (SqL.of hq) al)⟩
    | scr ds =>
      simp only [At] at a
      obtain ⟨p, xs, e, hq, al⟩ := a
      exact ⟨p, e, ⟨xs, SqL.mono r1.kp.sub hq⟩, h _ H1 G1 r1 s1 (it_list hq al)⟩
    | _ => exact h.elim
def mIT (m : ME) : MA := fun ρ => (m ρ).bind tupD
theorem i_tupI {m : ME} : ImpI (tI F (mIT m)) (iTup F.K (tE F m)) := by
  rintro σ H Q ⟨G, ρ, r, h⟩
  unfold mIT at h
  refine ⟨G, ρ, r, ?_⟩
  cases ea : m ρ with
  | bad => rw [ea] at h; exact h.elim
  | exc c => rw [ea] at h; exact h
  | ok d =>
    rw [ea, R.bind_ok] at h
    intro v H1 G1 r1 s1 a
    cases d with
    | tup ds =>
      simp only [At] at a
      obtain ⟨p, xs, e, hq, al⟩ := a
      exact ⟨p, e, ⟨xs, SqT.mono r1.kp.sub hq⟩, h _ H1 G1 r1 s1 (it_tup hq al)⟩
    | _ => exact h.elim
def rng1 : List D → R (List D)
  | [.int j] => if -(2 ^ 62) ≤ j ∧ j < 2 ^ 62 then .ok (rangeD 0 j.toNat) else .bad
  | _ => .bad
def rng2 : List D → R (List D)
  | [.int i, .int j] => if -(2 ^ 62) ≤ i ∧ i < 2 ^ 62 ∧ -(2 ^ 62) ≤ j ∧ j < 2 ^ 62 then .ok (rangeD i (j - i).toNat) else .bad
  | _ => .bad
theorem AtL.ints1 {K : PySem.W.Frag} {G : Hp} {j : Int} {vs : List V} (a : AtL K G [.int j] vs) : vs = [.int j] := by
  simp only [AtL, At] at a
  obtain ⟨v, r, rfl, rfl, rfl⟩ := a
  rfl
theorem AtL.ints2 {K : PySem.W.Frag} {G : Hp} {i j : Int} {vs : List V} (a : AtL K G [.int i, .int j] vs) : vs = [.int i, .int j] := by
  simp only [AtL, At] at a
  obtain ⟨v, r, rfl, rfl, v, r, rfl, rfl, rfl⟩ := a
  rfl
def mR1 (m : MA) : MA := fun ρ => (m ρ).bind rng1
def mR2 (m : MA) : MA := fun ρ => (m ρ).bind rng2
theorem i_r1 {m : MA} : ImpI (tI F (mR1 m)) (iRng1 (tA F m)) := by
  rintro σ H Q ⟨G, ρ, r, h⟩
  unfold mR1 at h
  refine ⟨G, ρ, r, ?_⟩
  cases ea : m ρ with
  | bad => rw [ea] at h; exact h.elim
  | exc c => rw [ea] at h; exact h
  | ok ds =>
    rw [ea, R.bind_ok] at h
    intro vs H1 G1 r1 s1 a
    unfold rng1 at h
    split at h
    · rename_i j
      split at h
      · rename_i hj
        exact ⟨j, a.ints1, hj.1, hj.2, h _ H1 G1 r1 s1 (it_rng 0 j.toNat)⟩
      · exact h.elim
    · exact h.elim
theorem i_r2 {m : MA} : ImpI (tI F (mR2 m)) (iRng2 (tA F m)) := by
  rintro σ H Q ⟨G, ρ, r, h⟩
  unfold mR2 at h
  refine ⟨G, ρ, r, ?_⟩
  cases ea : m ρ with
  | bad => rw [ea] at h; exact h.elim
  | exc c => rw [ea] at h; exact h
  | ok ds =>
    rw [ea, R.bind_ok] at h
    intro vs H1 G1 r1 s1 a
    unfold rng2 at h
    split at h
    · rename_i i j
      split at h
      · rename_i hj
        exact ⟨i, j, a.ints2, hj, h _ H1 G1 r1 s1 (it_rng i (j - i).toNat)⟩
      · exact h.elim
    · exact h.elim
/-! ### a def -/
inductive Rt where
  | v (d : D) | o (ds : List D)
def fxOf (K : PySem.W.Frag) (G H : Hp) (EX : Str → Hp → Prop) : Fx := ⟨K, G, H, EX⟩
def kC (F : Fx) (Q : VK) : R Rt → Prop
  | .ok (.v d) => ∀ v G' H', Kp F G' H' → At F.K G' d v → Q v H'
  | .ok (.o ds) => ∀ a xs G' H', Kp F G' H' → G' a = none → F.H0 a = none → H' a = some (.lst xs) → AtL F.K G' ds xs → Q (.ref a) H'
  | .exc c => kX F c
  | .bad => False
def spM (K : PySem.W.Frag) (n : Nat) (xe : XK → Str → Hp → Prop) (mf : List D → R Rt) : Sp := fun vs H Q E => ∃ G ds, Sub G H ∧ AtL K G ds vs ∧ ds.length = n ∧ kC ⟨K, G, H, xe E⟩ Q (mf ds)
theorem spM_len {K : PySem.W.Frag} {n : Nat} {xe : XK → Str → Hp → Prop} {mf : List D → R Rt} : ∀ vs H Q E, spM K n xe mf vs H Q E → vs.length = n := fun vs H Q E h => by
  obtain ⟨G, ds, _, a, l, _⟩ := h
  rw [← a.length]; exact l
def outD : Fl → R Rt
  | .nx _ => .ok (.v .non)
  | .rt d => .ok (.v d)
  | .ro ds => .ok (.o ds)
  | _ => .bad
def ini (N : Nat) (ds : List D) : Rho := ds.map .fz ++ List.replicate (N - ds.length) .un
def mDef (N : Nat) (m : MS) (ds : List D) : R Rt := (m (ini N ds)).bind outD
def startN (N : Nat) (vs : List V) : St := vs.map some ++ List.replicate (N - vs.length) none
theorem rel_start {K : PySem.W.Frag} {G H : Hp} {EX : Str → Hp → Prop} {N : Nat} {ds : List D} {vs : List V} (s : Sub G H) (a : AtL K G ds vs) : Rel ⟨K, G, H, EX⟩ G H (startN N vs) (ini N ds) := by
  have hl := a.length
  refine ⟨⟨s, Sub.refl _, Sub.refl _, fun _ _ => rfl⟩, by simp [startN, ini, hl], fun i t e => ?_, fun i j b es es' e1 => ?_⟩
  · unfold ini at e
    unfold startN
    by_cases hi : i < ds.length
    · rw [List.getElem?_append_left (by simpa using hi), List.getElem?_map, List.getElem?_eq_getElem hi] at e
      obtain ⟨v, e1, av⟩ := a.get (List.getElem?_eq_getElem hi)
      rw [List.getElem?_append_left (by rw [List.length_map, ← hl]; exact hi), List.getElem?_map, e1]
      have et : Sl.fz ds[i] = t := Option.some.inj e
      subst et
      exact ⟨some v, rfl, v, rfl, av⟩
    · rw [List.getElem?_append_right (by simpa using hi), List.getElem?_replicate] at e
      rw [List.getElem?_append_right (by rw [List.length_map, ← hl]; omega), List.getElem?_replicate, List.length_map, ← hl]
      rw [List.length_map] at e
      split at e
      · rename_i hh
        rw [if_pos hh]
        cases e
        exact ⟨none, rfl, trivial⟩
      · cases e
  · exfalso
    unfold ini at e1
    by_cases hi : i < ds.length
    · rw [List.getElem?_append_left (by simpa using hi), List.getElem?_map, List.getElem?_eq_getElem hi] at e1
      cases e1
    · rw [List.getElem?_append_right (by simpa using hi), List.getElem?_replicate] at e1
      split at e1 <;> cases e1
theorem body_of {K : PySem.W.Frag} {xe : XK → Str → Hp → Prop} {n N : Nat} {m : MS} {vs : List V} {H : Hp} {Q : VK} {E : XK} (h : spM K n xe (mDef N m) vs H Q E) :
    ∃ G, tS ⟨K, G, H, xe E⟩ m { nx := fun _ H' => Q .non H', rt := Q } (startN N vs) H := by
  obtain ⟨G, ds, s, a, l, k⟩ := h
  refine ⟨G, G, ini N ds, rel_start s a, ?_⟩
  unfold mDef at k
  cases e : m (ini N ds) with
  | bad => rw [e] at k; exact k.elim
  | exc c => rw [e] at k; exact k
  | ok f =>
    rw [e, R.bind_ok] at k
    cases f with
    | nx ρ => exact fun σ' G' H' r _ => k .non G' H' r.kp (by simp only [At])
    | rt d => exact k
    | ro ds => exact k
    | bk ρ => exact k.elim
    | ct ρ => exact k.elim
/-! ### a call -/
theorem Kp.of {G H G' H' : Hp} {σ : St} {ρ : Rho} {EX : Str → Hp → Prop} (r : Rel F G H σ ρ) (k : Kp ⟨F.K, G, H, EX⟩ G' H') : Rel F G' H' σ ρ := r.grow k.gg k.sub k.hh fun b hb => k.new b hb
def rtD : Rt → R D
  | .v d => .ok d
  | .o ds => .ok (.lst ds)
def rtO : Rt → R (List D)
  | .o ds => .ok ds
  | _ => .bad
def mCall (n : Nat) (mf : List D → R Rt) (m : MA) : ME := fun ρ => (m ρ).bind fun ds => if ds.length = n then (mf ds).bind rtD else .bad
def mCallO (n : Nat) (mf : List D → R Rt) (m : MA) : MA := fun ρ => (m ρ).bind fun ds => if ds.length = n then (mf ds).bind rtO else .bad
theorem i_call {n : Nat} {mf : List D → R Rt} {m : MA} {xe : XK → Str → Hp → Prop} {E : XK} (hx : F.EX = xe E) : ImpE (tE F (mCall n mf m)) (tCall (spM F.K n xe mf) [] E (tA F m)) := by
  rintro σ H Q ⟨G, ρ, r, h⟩
  unfold mCall at h
  refine ⟨G, ρ, r, ?_⟩
  cases ea : m ρ with
  | bad => rw [ea] at h; exact h.elim
  | exc c => rw [ea] at h; exact h
  | ok ds =>
    rw [ea, R.bind_ok] at h
    intro vs H1 G1 r1 s1 a
    by_cases hn : ds.length = n
    · rw [if_pos hn] at h
      rw [List.append_nil]
      refine ⟨G1, ds, r1.kp.sub, a, hn, ?_⟩
      cases e : mf ds with
      | bad => rw [e] at h; exact h.elim
      | exc c =>
        rw [e] at h
        intro G' H' k
        have z := h G' H' (Kp.of r1 k).kp
        rw [hx] at z
        exact z
      | ok t =>
        rw [e, R.bind_ok] at h
        cases t with
        | v d => exact fun v G' H' k av => h v H' G' (Kp.of r1 k) (s1.trans ⟨k.gg, k.hh, k.new⟩) av
        | o es =>
          intro p xs G' H' k h1 h2 h3 h4
          have h2 : H1 p = none := h2
          have r' := Kp.of r1 k
          have no : ¬ OwnAt σ ρ p := fun z => by
            obtain ⟨ys, ey⟩ := OwnAt.some r1 z
            rw [ey] at h2; cases h2
          refine h (.ref p) H' _ (r'.take h3 h1 (r1.kp.hh.gone h2) no) ((s1.trans ⟨k.gg, k.hh, k.new⟩).put (s1.h.gone h2) h1) ?_
          simp only [At]
          exact ⟨p, xs, rfl, upd_same, h4.mono (Sub.upd h1)⟩
    · rw [if_neg hn] at h; exact h.elim
theorem i_callO {n : Nat} {mf : List D → R Rt} {m : MA} {xe : XK → Str → Hp → Prop} {E : XK} (hx : F.EX = xe E) : ImpE (tO F (mCallO n mf m)) (tCall (spM F.K n xe mf) [] E (tA F m)) := by
  rintro σ H Q ⟨G, ρ, r, h⟩
  unfold mCallO at h
  refine ⟨G, ρ, r, ?_⟩
  cases ea : m ρ with
  | bad => rw [ea] at h; exact h.elim
  | exc c => rw [ea] at h; exact h
  | ok ds =>
    rw [ea, R.bind_ok] at h
    intro vs H1 G1 r1 s1 a
    by_cases hn : ds.length = n
    · rw [if_pos hn] at h
      rw [List.append_nil]
      refine ⟨G1, ds, r1.kp.sub, a, hn, ?_⟩
      cases e : mf ds with
      | bad => rw [e] at h; exact h.elim
      | exc c =>
        rw [e] at h
        intro G' H' k
        have z := h G' H' (Kp.of r1 k).kp
        rw [hx] at z
        exact z
      | ok t =>
        rw [e, R.bind_ok] at h
        cases t with
        | v d => exact h.elim
        | o es =>
          intro p xs G' H' k h1 h2 h3 h4
          have h2 : H1 p = none := h2
          have r' := Kp.of r1 k
          exact h p xs H' G' r' (s1.trans ⟨k.gg, k.hh, k.new⟩) (s1.h.gone h2) h3 h1 h4
    · rw [if_neg hn] at h; exact h.elim
end
end L3
set_option Elab.async false
set_option linter.all false
set_option maxRecDepth 100000
namespace L3
open PySem PySem.Spec L2
/-! ### a comprehension -/
def capS : Sl → Sl
  | .fz d => .fz d
  | _ => .un
def blkR (nl : Nat) (caps : List Nat) (ρ : Rho) : Rho := List.replicate nl .un ++ caps.map fun j => capS (ρ.getD j .un)
def compGo (set : D → Rho → R Rho) (tst : MT) (elt : ME) : List D → Rho → List D → R (List D)
  | [], _, ws => .ok ws
  | d :: ds, ρ, ws => (set d ρ).bind fun ρ1 => (tst ρ1).bind fun b => if b = true then (elt ρ1).bind fun y => if ws.length < 1000000 then compGo set tst elt ds ρ1 (ws ++ [y]) else .bad else compGo set tst elt ds ρ1 ws
def noX {α : Type} : R α → R α
  | .exc _ => .bad
  | r => r
def mComp (nl : Nat) (caps : List Nat) (mi : MA) (set : D → Rho → R Rho) (tst : MT) (elt : ME) : MA := fun ρ => (mi ρ).bind fun ds => noX (compGo set tst elt ds (blkR nl caps ρ) [])
def fxB (K : PySem.W.Frag) (G H : Hp) : Fx := ⟨K, G, H, fun _ _ => False⟩
def xT (K : PySem.W.Frag) (m : MT) : TT := fun σ H Q => ∃ G0 H0, tT (fxB K G0 H0) m σ H Q
def xE (K : PySem.W.Frag) (m : ME) : TE := fun σ H Q => ∃ G0 H0, tE (fxB K G0 H0) m σ H Q
theorem kX_no {K : PySem.W.Frag} {G H : Hp} {σ : St} {ρ : Rho} {G' H' : Hp} (r : Rel (fxB K G H) G' H' σ ρ) {c : Str} (h : kX (fxB K G H) c) : False := h G' H' r.kp
def NoOw (ρ : Rho) : Prop := ∀ (i : Nat) (ds : List D), ρ[i]? ≠ some (.ow ds)
theorem noOw_blk (nl : Nat) (caps : List Nat) (ρ : Rho) : NoOw (blkR nl caps ρ) := fun i ds e1 => by
  unfold blkR at e1
  by_cases hi : i < nl
  · rw [List.getElem?_append_left (by simpa using hi), List.getElem?_replicate, if_pos hi] at e1
    cases e1
  · rw [List.getElem?_append_right (by simpa using hi), List.length_replicate, List.getElem?_map] at e1
    cases ej : caps[i - nl]? with
    | none => rw [ej] at e1; cases e1
    | some j =>
      rw [ej] at e1
      have es : capS (ρ.getD j .un) = .ow ds := Option.some.inj e1
      cases hs : ρ.getD j .un with
      | un => rw [hs] at es; cases es
      | fz d => rw [hs] at es; cases es
      | ow d => rw [hs] at es; cases es
def Keeps (set : D → Rho → R Rho) : Prop := ∀ d ρ ρ', set d ρ = .ok ρ' → NoOw ρ → NoOw ρ'
theorem setV_keeps (i : Nat) : Keeps (setV i) := fun d ρ ρ' e n j ds z => by
  unfold setV at e
  split at e
  · cases e
    rcases get_set z with ⟨_, z⟩ | ⟨_, z⟩
    · cases z
    · exact n j ds z
  · cases e
theorem setL_keeps : ∀ {fs : List (D → Rho → R Rho)}, (∀ f ∈ fs, Keeps f) → ∀ ds ρ ρ', setL fs ds ρ = .ok ρ' → NoOw ρ → NoOw ρ'
  | [], _, [], _, _, e, n => by cases e; exact n
  | [], _, _ :: _, _, _, e, _ => by cases e
  | _ :: _, _, [], _, _, e, _ => by cases e
  | f :: fs, h, d :: ds, ρ, ρ', e, n => by
    simp only [setL] at e
    cases e1 : f d ρ with
    | bad => rw [e1] at e; cases e
    | exc c => rw [e1] at e; cases e
    | ok ρ1 => rw [e1, R.bind_ok] at e; exact setL_keeps (fun g hg => h g (by simp [hg])) ds ρ1 ρ' e (h f (by simp) d ρ ρ1 e1 n)
theorem setT_keeps {fs : List (D → Rho → R Rho)} (h : ∀ f ∈ fs, Keeps f) : Keeps (setT fs) := fun d ρ ρ' e n => by
  cases d <;> first
    | (exact setL_keeps h _ _ _ e n)
    | (cases e)
section
variable {F : Fx}
theorem rel_block {G H : Hp} {σ : St} {ρ : Rho} (r : Rel F G H σ ρ) {acc : Addr} (ha : H acc = none) (nl : Nat) (caps : List Nat) :
    Rel (fxB F.K G H) G (upd H acc (.lst [])) (blkS nl caps σ) (blkR nl caps ρ) := by
  refine ⟨⟨Sub.upd2 r.kp.sub (r.kp.sub.gone ha), Sub.refl _, Sub.upd ha, fun _ _ => rfl⟩, by simp [blkS, blkR], fun i s e => ?_, fun i j b ds ds' e1 => ?_⟩
  · unfold blkR at e
    unfold blkS
    by_cases hi : i < nl
    · rw [List.getElem?_append_left (by simpa using hi), List.getElem?_replicate, if_pos hi] at e
      rw [List.getElem?_append_left (by simpa using hi), List.getElem?_replicate, if_pos hi]
      cases e
      exact ⟨none, rfl, trivial⟩
    · rw [List.getElem?_append_right (by simpa using hi), List.length_replicate, List.getElem?_map] at e
      rw [List.getElem?_append_right (by simpa using hi), List.length_replicate, List.getElem?_map]
      cases ej : caps[i - nl]? with
      | none => rw [ej] at e; cases e
      | some j =>
        rw [ej] at e
        refine ⟨σ.getD j none, rfl, ?_⟩
        have es : capS (ρ.getD j .un) = s := Option.some.inj e
        subst es
        cases er : ρ[j]? with
        | none =>
          have eg : ρ.getD j .un = .un := by rw [List.getD_eq_getElem?_getD, er]; rfl
          rw [eg]; exact trivial
        | some t =>
          have eg : ρ.getD j .un = t := by rw [List.getD_eq_getElem?_getD, er]; rfl
          rw [eg]
          obtain ⟨o, e1, q⟩ := r.sl j t er
          cases t with
          | un => exact trivial
          | ow ds => exact trivial
          | fz d =>
            obtain ⟨v, e2, a⟩ := q
            refine ⟨v, ?_, a⟩
            rw [List.getD_eq_getElem?_getD, e1, e2]
            rfl
  · exact absurd e1 (noOw_blk nl caps ρ i ds)
theorem i_comp {nl : Nat} {caps : List Nat} {mi : MA} {set : D → Rho → R Rho} {tst : MT} {elt : ME} {g : TG} (hg : ∀ G H, GOk (fxB F.K G H) g set) (hx : ∀ d ρ c, set d ρ ≠ .exc c) (hk : Keeps set) :
    ImpE (tO F (mComp nl caps mi set tst elt)) (tComp (tI F mi) g (xT F.K tst) (xE F.K elt) nl caps) := by
  rintro σ H Q ⟨G, ρ, r, h⟩
  unfold mComp at h
  refine ⟨G, ρ, r, ?_⟩
  cases ea : mi ρ with
  | bad => rw [ea] at h; exact h.elim
  | exc c => rw [ea] at h; exact h
  | ok ds =>
    rw [ea, R.bind_ok] at h
    intro J H1 G1 r1 u1 it acc ha
    cases er : compGo set tst elt ds (blkR nl caps ρ) [] with
    | bad => rw [er] at h; exact h.elim
    | exc c => rw [er] at h; exact h.elim
    | ok res =>
      rw [er] at h
      refine ⟨fun i m σ2 H2 => m = ds.length - i ∧ i ≤ ds.length ∧ ∃ G2 ρ2 ys ws, Rel (fxB F.K G1 H1) G2 H2 σ2 ρ2 ∧ NoOw ρ2 ∧ H2 acc = some (.lst ys) ∧ G2 acc = none ∧ AtL F.K G2 ws ys ∧ compGo set tst elt (ds.drop i) ρ2 ws = .ok res,
        ⟨ds.length, by simp, Nat.zero_le _, G1, _, [], [], rel_block r1 ha nl caps, noOw_blk _ _ _, upd_same, r1.kp.sub.gone ha, .nil, by simpa using er⟩, ?_⟩
      rintro i m σ2 H2 ⟨rfl, hi, G2, ρ2, ys, ws, r2, n2, h1, h2, h3, h4⟩
      have sg : Sub G1 G2 := r2.kp.gg
      by_cases hlt : i < ds.length
      · refine .inr ⟨it.go i H2 (sg.trans r2.kp.sub) hlt, fun x H3 y => ?_⟩
        obtain ⟨d, G3, e3, r3, u3, a3⟩ := ItOk.turn (F := fxB F.K G1 H1) it r2 sg hlt y
        have ed : ds.drop i = d :: ds.drop (i + 1) := by
          rw [List.drop_eq_getElem_cons hlt]
          have := List.getElem?_eq_getElem hlt
          rw [e3] at this
          rw [Option.some.inj this]
        rw [ed] at h4
        simp only [compGo] at h4
        cases e4 : set d ρ2 with
        | bad => rw [e4] at h4; cases h4
        | exc c => exact absurd e4 (hx d ρ2 c)
        | ok ρ4 =>
          rw [e4, R.bind_ok] at h4
          refine hg G1 H1 σ2 ρ2 G3 H3 x d _ ρ4 r3 a3 e4 fun σ5 r5 => ⟨G1, H1, G3, ρ4, r5, ?_⟩
          have n4 : NoOw ρ4 := hk d ρ2 ρ4 e4 n2
          have acc3 : H3 acc = some (.lst ys) := u3.h _ _ h1
          have g3 : G3 acc = none := by rw [u3.n acc (by rw [h1]; exact fun z => nomatch z)]; exact h2
          cases e5 : tst ρ4 with
          | bad => rw [e5] at h4; cases h4
          | exc c => rw [e5] at h4; cases h4
          | ok b =>
            rw [e5, R.bind_ok] at h4
            intro H6 G6 r6 u6
            have acc6 : H6 acc = some (.lst ys) := u6.h _ _ acc3
            have g6 : G6 acc = none := by rw [u6.n acc (by rw [acc3]; exact fun z => nomatch z)]; exact g3
            have a6 : AtL F.K G6 ws ys := (h3.mono u3.g).mono u6.g
            cases b with
            | false =>
              rw [if_neg Bool.false_ne_true] at h4
              rw [if_neg Bool.false_ne_true]
              exact ⟨_, by omega, rfl, hlt, G6, ρ4, ys, ws, r6, n4, acc6, g6, a6, h4⟩
            | true =>
              rw [if_pos rfl] at h4
              rw [if_pos rfl]
              refine ⟨G1, H1, G6, ρ4, r6, ?_⟩
              cases e7 : elt ρ4 with
              | bad => rw [e7] at h4; cases h4
              | exc c => rw [e7] at h4; cases h4
              | ok y =>
                rw [e7, R.bind_ok] at h4
                intro yv H8 G8 r8 u8 a8
                have acc8 : H8 acc = some (.lst ys) := u8.h _ _ acc6
                have g8 : G8 acc = none := by rw [u8.n acc (by rw [acc6]; exact fun z => nomatch z)]; exact g6
                by_cases hl : ws.length < 1000000
                · rw [if_pos hl] at h4
                  have al8 : AtL F.K G8 ws ys := a6.mono u8.g
                  refine ⟨ys, acc8, by rw [← al8.length]; exact Nat.lt_trans hl (by decide), _, by omega, rfl, hlt, G8, ρ4, ys ++ [yv], ws ++ [y], ?_, n4, upd_same, g8, al8.snoc a8, h4⟩
                  -- the heap with the longer list
                  have k0 : (fxB F.K G1 H1).H0 acc = none := ha
                  refine ⟨⟨Sub.upd2 r8.kp.sub g8, r8.kp.gg, fun c o z => ?_, r8.kp.new⟩, r8.len, fun j t z => ?_, r8.ap⟩
                  · rw [upd_ne (ne_of_none z k0)]; exact r8.kp.hh c o z
                  · obtain ⟨o, z1, z2⟩ := r8.sl j t z
                    refine ⟨o, z1, ?_⟩
                    cases t with
                    | un => exact trivial
                    | fz d => exact z2
                    | ow es => exact absurd z (n4 j es)
                · rw [if_neg hl] at h4; cases h4
      · have e : ds.drop i = [] := List.drop_eq_nil_of_le (by omega)
        rw [e] at h4
        simp only [compGo] at h4
        cases h4
        have ei : i = ds.length := by omega
        subst ei
        refine .inl ⟨it.stop H2 (sg.trans r2.kp.sub), ?_⟩
        have k : Kp ⟨F.K, G1, H1, fun _ _ => False⟩ G2 H2 := r2.kp
        exact h acc ys H2 G2 (Kp.of r1 k) (u1.trans ⟨k.gg, k.hh, k.new⟩) (u1.h.gone ha) h1 h2 h3
end
end L3
set_option Elab.async false
set_option linter.all false
set_option maxRecDepth 100000
namespace L3
open PySem PySem.Spec L2
/-! ### == of data -/
mutual
def eqD : D → D → Bool
  | .non, .non => true
  | .bl a, .bl b => a == b
  | .bl a, .int b => (if a then 1 else 0) == b
  | .int a, .bl b => a == (if b then 1 else 0)
  | .int a, .int b => a == b
  | .str a, .str b => a == b
  | .tup xs, .tup ys => eqL xs ys
  | .lst xs, .lst ys => eqL xs ys
  | .lst xs, .scr ys => eqL xs ys
  | .scr xs, .lst ys => eqL xs ys
  | .scr xs, .scr ys => eqL xs ys
  | _, _ => false
def eqL : List D → List D → Bool
  | [], [] => true
  | x :: xs, y :: ys => eqD x y && eqL xs ys
  | _, _ => false
end
def okN : Nat → D → Bool
  | _, .non => true
  | _, .bl _ => true
  | _, .int _ => true
  | _, .str _ => true
  | n + 1, .tup xs => xs.all (okN n)
  | n + 1, .lst xs => xs.all (okN n)
  | n + 1, .scr xs => xs.all (okN n)
  | _, _ => false
/-- what a tree is in the heap at hand -/
inductive Sh (s : Shared) (P : D → Value → Prop) : D → Value → Prop where
  | non : Sh s P .non .none
  | bl (b : Bool) : Sh s P (.bl b) (.bool b)
  | int (i : Int) (t : Tok) : Sh s P (.int i) (.int i t)
  | str (x : Str) (t : Tok) : Sh s P (.str x) (.str x t)
  | tup (a : Addr) (ds : List D) (its : List Value) (h : s.heap.IsTuple a its.toArray) (l : ds.length = its.length) (p : ∀ (i : Nat) d u, ds[i]? = some d → its[i]? = some u → P d u) : Sh s P (.tup ds) (.ref a)
  | lst (a : Addr) (ds : List D) (its : List Value) (h : s.heap.IsList a its.toArray) (l : ds.length = its.length) (p : ∀ (i : Nat) d u, ds[i]? = some d → its[i]? = some u → P d u) : Sh s P (.lst ds) (.ref a)
  | scr (a : Addr) (ds : List D) (its : List Value) (h : s.heap.IsList a its.toArray) (l : ds.length = its.length) (p : ∀ (i : Nat) d u, ds[i]? = some d → its[i]? = some u → P d u) : Sh s P (.scr ds) (.ref a)
def AtU (K : PySem.W.Frag) (G : Hp) (d : D) (u : Value) : Prop := ∃ x, At K G d x ∧ RelV x u
section
variable {X : Cx} {pins : List (Addr × Obj)} {σ : St} {H G : Hp} {s : Shared}
theorem items_at {K : PySem.W.Frag} {ds : List D} {xs : List V} {its : List Value} (q : AtL K G ds xs) (r : Vals xs its) : ∀ (i : Nat) d u, ds[i]? = some d → its[i]? = some u → AtU K G d u := fun i d u e1 e2 => by
  obtain ⟨v, e3, a⟩ := q.get e1
  obtain ⟨u', e4, rv⟩ := r.get e3
  rw [e2] at e4; cases e4
  exact ⟨v, a, rv⟩
theorem sh_of (I : Inv X pins σ H s) (sg : Sub G H) {d : D} {u : Value} {n : Nat} (ok : okN n d = true) (h : AtU X.K G d u) : Sh s (AtU X.K G) d u := by
  obtain ⟨x, a, r⟩ := h
  cases d with
  | non => simp only [At] at a; subst a; cases r; exact .non
  | bl b => simp only [At] at a; subst a; cases r; exact .bl b
  | int i => simp only [At] at a; subst a; obtain ⟨t, rfl⟩ := r; exact .int i t
  | str i => simp only [At] at a; subst a; obtain ⟨t, rfl⟩ := r; exact .str i t
  | tup ds =>
    simp only [At] at a
    obtain ⟨p, xs, rfl, hq, al⟩ := a
    cases r
    obtain ⟨its, rv, ht, _⟩ := I.tuple (SqT.mono sg hq)
    exact .tup p ds its ht (al.length.trans rv.length) (items_at al rv)
  | lst ds =>
    simp only [At] at a
    obtain ⟨p, xs, rfl, hq, al⟩ := a
    cases r
    obtain ⟨its, rv, ht, _⟩ := I.list (SqL.of (sg _ _ hq))
    exact .lst p ds its ht.isList (al.length.trans rv.length) (items_at al rv)
  | scr ds =>
    simp only [At] at a
    obtain ⟨p, xs, rfl, hq, al⟩ := a
    cases r
    obtain ⟨its, rv, ht, _⟩ := I.list (SqL.mono sg hq)
    exact .scr p ds its ht.isList (al.length.trans rv.length) (items_at al rv)
  | dK ks xs => cases n <;> cases ok
  | dT ks xs => cases n <;> cases ok
  | ins C ns xs => cases n <;> cases ok
theorem eqL_len : ∀ {xs ys : List D}, xs.length ≠ ys.length → eqL xs ys = false
  | [], [], h => absurd rfl h
  | [], _ :: _, _ => by simp only [eqL]
  | _ :: _, [], _ => by simp only [eqL]
  | x :: xs, y :: ys, h => by
    simp only [eqL]
    rw [eqL_len (fun e => h (by simp [e])), Bool.and_false]
def ixE (xs ys : List D) (j : Nat) : Bool := match xs[j]?, ys[j]? with
  | some x, some y => eqD x y
  | _, _ => true
theorem all_shift (f : Nat → Bool) (n : Nat) : (List.range (n + 1)).all f = (f 0 && (List.range n).all fun j => f (j + 1)) := by
  rw [List.range_succ_eq_map, List.all_cons, List.all_map]
  rfl
theorem eqL_range : ∀ {xs ys : List D}, xs.length = ys.length → (List.range xs.length).all (ixE xs ys) = eqL xs ys
  | [], [], _ => by simp [eqL]
  | [], _ :: _, h => by simp at h
  | _ :: _, [], h => by simp at h
  | x :: xs, y :: ys, h => by
    rw [List.length_cons, all_shift]
    have e : (fun j => ixE (x :: xs) (y :: ys) (j + 1)) = ixE xs ys := by
      funext j
      simp [ixE]
    rw [e, eqL_range (by simpa using h)]
    simp only [eqL]
    rfl
theorem in1_units (A : Around) : A.in1.units = A.units + 1 := rfl
theorem scal_eq {A : Around} {P : D → Value → Prop} {d1 d2 : D} {u v : Value} (h1 : Sh s P d1 u) (h2 : Sh s P d2 v) (o1 : scalD d1 = true) (o2 : scalD d2 = true) :
    SeqAt.EqAt A s u v (eqD d1 d2) ∧ SeqAt.RcAt A s u v (eqD d1 d2) ∧ SeqAt.RcNeAt A s u v (!eqD d1 d2) := by
  cases h1 with
  | non =>
    cases h2 with
    | non => simp only [eqD]; exact ⟨SeqAt.EqAt.same _, SeqAt.RcAt.none_none, SeqAt.RcNeAt.none_none⟩
    | bl b2 => simp only [eqD]; exact ⟨SeqAt.EqAt.none_bool _, SeqAt.RcAt.none_bool _, SeqAt.RcNeAt.none_bool _⟩
    | int i2 t2 => simp only [eqD]; exact ⟨SeqAt.EqAt.none_int _ _, SeqAt.RcAt.none_int _ _, SeqAt.RcNeAt.none_int _ _⟩
    | str x2 t2 => simp only [eqD]; exact ⟨SeqAt.EqAt.none_str _ _, SeqAt.RcAt.none_str _ _, SeqAt.RcNeAt.none_str _ _⟩
    | tup => cases o2
    | lst => cases o2
    | scr => cases o2
  | bl b1 =>
    cases h2 with
    | non => simp only [eqD]; exact ⟨SeqAt.EqAt.bool_none _, SeqAt.RcAt.bool_none _, SeqAt.RcNeAt.bool_none _⟩
    | bl b2 => simp only [eqD]; exact ⟨SeqAt.EqAt.bool_bool _ _, SeqAt.RcAt.bool_bool _ _, SeqAt.RcNeAt.bool_bool _ _⟩
    | int i2 t2 => simp only [eqD]; exact ⟨SeqAt.EqAt.bool_int _ _ _, SeqAt.RcAt.bool_int _ _ _, SeqAt.RcNeAt.bool_int _ _ _⟩
    | str x2 t2 => simp only [eqD]; exact ⟨SeqAt.EqAt.bool_str _ _ _, SeqAt.RcAt.bool_str _ _ _, SeqAt.RcNeAt.bool_str _ _ _⟩
    | tup => cases o2
    | lst => cases o2
    | scr => cases o2
  | int i1 t1 =>
    cases h2 with
    | non => simp only [eqD]; exact ⟨SeqAt.EqAt.int_none _ _, SeqAt.RcAt.int_none _ _, SeqAt.RcNeAt.int_none _ _⟩
    | bl b2 => simp only [eqD]; exact ⟨SeqAt.EqAt.int_bool _ _ _, SeqAt.RcAt.int_bool _ _ _, SeqAt.RcNeAt.int_bool _ _ _⟩
    | int i2 t2 => simp only [eqD]; exact ⟨SeqAt.EqAt.int_int _ _ _ _, SeqAt.RcAt.int_int _ _ _ _, SeqAt.RcNeAt.int_int _ _ _ _⟩
    | str x2 t2 => simp only [eqD]; exact ⟨SeqAt.EqAt.int_str _ _ _ _, SeqAt.RcAt.int_str _ _ _ _, SeqAt.RcNeAt.int_str _ _ _ _⟩
    | tup => cases o2
    | lst => cases o2
    | scr => cases o2
  | str x1 t1 =>
    cases h2 with
    | non => simp only [eqD]; exact ⟨SeqAt.EqAt.str_none _ _, SeqAt.RcAt.str_none _ _, SeqAt.RcNeAt.str_none _ _⟩
    | bl b2 => simp only [eqD]; exact ⟨SeqAt.EqAt.str_bool _ _ _, SeqAt.RcAt.str_bool _ _ _, SeqAt.RcNeAt.str_bool _ _ _⟩
    | int i2 t2 => simp only [eqD]; exact ⟨SeqAt.EqAt.str_int _ _ _ _, SeqAt.RcAt.str_int _ _ _ _, SeqAt.RcNeAt.str_int _ _ _ _⟩
    | str x2 t2 => simp only [eqD]; exact ⟨SeqAt.EqAt.str_str _ _ _ _, SeqAt.RcAt.str_str _ _ _ _, SeqAt.RcNeAt.str_str _ _ _ _⟩
    | tup => cases o2
    | lst => cases o2
    | scr => cases o2
  | tup => cases o1
  | lst => cases o1
  | scr => cases o1
theorem mix_eq {A : Around} {P : D → Value → Prop} {d1 d2 : D} {u v : Value} (hu : A.units < cLine) (h1 : Sh s P d1 u) (h2 : Sh s P d2 v) (o : scalD d1 = true ∧ scalD d2 = false ∨ scalD d1 = false ∧ scalD d2 = true) :
    SeqAt.EqAt A s u v (eqD d1 d2) ∧ SeqAt.RcAt A s u v (eqD d1 d2) ∧ SeqAt.RcNeAt A s u v (!eqD d1 d2) := by
  cases h1 with
  | non =>
    cases h2 with
    | non => rcases o with ⟨z1, z2⟩ | ⟨z1, z2⟩ <;> first | (cases z1; done) | (cases z2; done)
    | bl => rcases o with ⟨z1, z2⟩ | ⟨z1, z2⟩ <;> first | (cases z1; done) | (cases z2; done)
    | int => rcases o with ⟨z1, z2⟩ | ⟨z1, z2⟩ <;> first | (cases z1; done) | (cases z2; done)
    | str => rcases o with ⟨z1, z2⟩ | ⟨z1, z2⟩ <;> first | (cases z1; done) | (cases z2; done)
    | tup a2 ds2 its2 h2' l2 p2 => simp only [eqD, Bool.not_false]; exact ⟨SeqAt.EqAt.none_tuple h2' hu, SeqAt.RcAt.none_tuple h2' hu, SeqAt.RcNeAt.none_tuple h2' hu⟩
    | lst a2 ds2 its2 h2' l2 p2 => simp only [eqD, Bool.not_false]; exact ⟨SeqAt.EqAt.none_list h2' hu, SeqAt.RcAt.none_list h2' hu, SeqAt.RcNeAt.none_list h2' hu⟩
    | scr a2 ds2 its2 h2' l2 p2 => simp only [eqD, Bool.not_false]; exact ⟨SeqAt.EqAt.none_list h2' hu, SeqAt.RcAt.none_list h2' hu, SeqAt.RcNeAt.none_list h2' hu⟩
  | bl b1 =>
    cases h2 with
    | non => rcases o with ⟨z1, z2⟩ | ⟨z1, z2⟩ <;> first | (cases z1; done) | (cases z2; done)
    | bl => rcases o with ⟨z1, z2⟩ | ⟨z1, z2⟩ <;> first | (cases z1; done) | (cases z2; done)
    | int => rcases o with ⟨z1, z2⟩ | ⟨z1, z2⟩ <;> first | (cases z1; done) | (cases z2; done)
    | str => rcases o with ⟨z1, z2⟩ | ⟨z1, z2⟩ <;> first | (cases z1; done) | (cases z2; done)
    | tup a2 ds2 its2 h2' l2 p2 => simp only [eqD, Bool.not_false]; exact ⟨SeqAt.EqAt.bool_tuple _ h2' hu, SeqAt.RcAt.bool_tuple _ h2' hu, SeqAt.RcNeAt.bool_tuple _ h2' hu⟩
    | lst a2 ds2 its2 h2' l2 p2 => simp only [eqD, Bool.not_false]; exact ⟨SeqAt.EqAt.bool_list _ h2' hu, SeqAt.RcAt.bool_list _ h2' hu, SeqAt.RcNeAt.bool_list _ h2' hu⟩
    | scr a2 ds2 its2 h2' l2 p2 => simp only [eqD, Bool.not_false]; exact ⟨SeqAt.EqAt.bool_list _ h2' hu, SeqAt.RcAt.bool_list _ h2' hu, SeqAt.RcNeAt.bool_list _ h2' hu⟩
  | int i1 t1 =>
    cases h2 with
    | non => rcases o with ⟨z1, z2⟩ | ⟨z1, z2⟩ <;> first | (cases z1; done) | (cases z2; done)
    | bl => rcases o with ⟨z1, z2⟩ | ⟨z1, z2⟩ <;> first | (cases z1; done) | (cases z2; done)
    | int => rcases o with ⟨z1, z2⟩ | ⟨z1, z2⟩ <;> first | (cases z1; done) | (cases z2; done)
    | str => rcases o with ⟨z1, z2⟩ | ⟨z1, z2⟩ <;> first | (cases z1; done) | (cases z2; done)
    | tup a2 ds2 its2 h2' l2 p2 => simp only [eqD, Bool.not_false]; exact ⟨SeqAt.EqAt.int_tuple _ _ h2' hu, SeqAt.RcAt.int_tuple _ _ h2' hu, SeqAt.RcNeAt.int_tuple _ _ h2' hu⟩
    | lst a2 ds2 its2 h2' l2 p2 => simp only [eqD, Bool.not_false]; exact ⟨SeqAt.EqAt.int_list _ _ h2' hu, SeqAt.RcAt.int_list _ _ h2' hu, SeqAt.RcNeAt.int_list _ _ h2' hu⟩
    | scr a2 ds2 its2 h2' l2 p2 => simp only [eqD, Bool.not_false]; exact ⟨SeqAt.EqAt.int_list _ _ h2' hu, SeqAt.RcAt.int_list _ _ h2' hu, SeqAt.RcNeAt.int_list _ _ h2' hu⟩
  | str x1 t1 =>
    cases h2 with
    | non => rcases o with ⟨z1, z2⟩ | ⟨z1, z2⟩ <;> first | (cases z1; done) | (cases z2; done)
    | bl => rcases o with ⟨z1, z2⟩ | ⟨z1, z2⟩ <;> first | (cases z1; done) | (cases z2; done)
    | int => rcases o with ⟨z1, z2⟩ | ⟨z1, z2⟩ <;> first | (cases z1; done) | (cases z2; done)
    | str => rcases o with ⟨z1, z2⟩ | ⟨z1, z2⟩ <;> first | (cases z1; done) | (cases z2; done)
    | tup a2 ds2 its2 h2' l2 p2 => simp only [eqD, Bool.not_false]; exact ⟨SeqAt.EqAt.str_tuple _ _ h2' hu, SeqAt.RcAt.str_tuple _ _ h2' hu, SeqAt.RcNeAt.str_tuple _ _ h2' hu⟩
    | lst a2 ds2 its2 h2' l2 p2 => simp only [eqD, Bool.not_false]; exact ⟨SeqAt.EqAt.str_list _ _ h2' hu, SeqAt.RcAt.str_list _ _ h2' hu, SeqAt.RcNeAt.str_list _ _ h2' hu⟩
    | scr a2 ds2 its2 h2' l2 p2 => simp only [eqD, Bool.not_false]; exact ⟨SeqAt.EqAt.str_list _ _ h2' hu, SeqAt.RcAt.str_list _ _ h2' hu, SeqAt.RcNeAt.str_list _ _ h2' hu⟩
  | tup a1 ds1 its1 h1' l1 p1 =>
    cases h2 with
    | non => simp only [eqD, Bool.not_false]; exact ⟨SeqAt.EqAt.tuple_none h1' hu, SeqAt.RcAt.tuple_none h1' hu, SeqAt.RcNeAt.tuple_none h1' hu⟩
    | bl b2 => simp only [eqD, Bool.not_false]; exact ⟨SeqAt.EqAt.tuple_bool _ h1' hu, SeqAt.RcAt.tuple_bool _ h1' hu, SeqAt.RcNeAt.tuple_bool _ h1' hu⟩
    | int i2 t2 => simp only [eqD, Bool.not_false]; exact ⟨SeqAt.EqAt.tuple_int _ _ h1' hu, SeqAt.RcAt.tuple_int _ _ h1' hu, SeqAt.RcNeAt.tuple_int _ _ h1' hu⟩
    | str x2 t2 => simp only [eqD, Bool.not_false]; exact ⟨SeqAt.EqAt.tuple_str _ _ h1' hu, SeqAt.RcAt.tuple_str _ _ h1' hu, SeqAt.RcNeAt.tuple_str _ _ h1' hu⟩
    | tup => rcases o with ⟨z1, z2⟩ | ⟨z1, z2⟩ <;> first | (cases z1; done) | (cases z2; done)
    | lst => rcases o with ⟨z1, z2⟩ | ⟨z1, z2⟩ <;> first | (cases z1; done) | (cases z2; done)
    | scr => rcases o with ⟨z1, z2⟩ | ⟨z1, z2⟩ <;> first | (cases z1; done) | (cases z2; done)
  | lst a1 ds1 its1 h1' l1 p1 =>
    cases h2 with
    | non => simp only [eqD, Bool.not_false]; exact ⟨SeqAt.EqAt.list_none h1' hu, SeqAt.RcAt.list_none h1' hu, SeqAt.RcNeAt.list_none h1' hu⟩
    | bl b2 => simp only [eqD, Bool.not_false]; exact ⟨SeqAt.EqAt.list_bool _ h1' hu, SeqAt.RcAt.list_bool _ h1' hu, SeqAt.RcNeAt.list_bool _ h1' hu⟩
    | int i2 t2 => simp only [eqD, Bool.not_false]; exact ⟨SeqAt.EqAt.list_int _ _ h1' hu, SeqAt.RcAt.list_int _ _ h1' hu, SeqAt.RcNeAt.list_int _ _ h1' hu⟩
    | str x2 t2 => simp only [eqD, Bool.not_false]; exact ⟨SeqAt.EqAt.list_str _ _ h1' hu, SeqAt.RcAt.list_str _ _ h1' hu, SeqAt.RcNeAt.list_str _ _ h1' hu⟩
    | tup => rcases o with ⟨z1, z2⟩ | ⟨z1, z2⟩ <;> first | (cases z1; done) | (cases z2; done)
    | lst => rcases o with ⟨z1, z2⟩ | ⟨z1, z2⟩ <;> first | (cases z1; done) | (cases z2; done)
    | scr => rcases o with ⟨z1, z2⟩ | ⟨z1, z2⟩ <;> first | (cases z1; done) | (cases z2; done)
  | scr a1 ds1 its1 h1' l1 p1 =>
    cases h2 with
    | non => simp only [eqD, Bool.not_false]; exact ⟨SeqAt.EqAt.list_none h1' hu, SeqAt.RcAt.list_none h1' hu, SeqAt.RcNeAt.list_none h1' hu⟩
    | bl b2 => simp only [eqD, Bool.not_false]; exact ⟨SeqAt.EqAt.list_bool _ h1' hu, SeqAt.RcAt.list_bool _ h1' hu, SeqAt.RcNeAt.list_bool _ h1' hu⟩
    | int i2 t2 => simp only [eqD, Bool.not_false]; exact ⟨SeqAt.EqAt.list_int _ _ h1' hu, SeqAt.RcAt.list_int _ _ h1' hu, SeqAt.RcNeAt.list_int _ _ h1' hu⟩
    | str x2 t2 => simp only [eqD, Bool.not_false]; exact ⟨SeqAt.EqAt.list_str _ _ h1' hu, SeqAt.RcAt.list_str _ _ h1' hu, SeqAt.RcNeAt.list_str _ _ h1' hu⟩
    | tup => rcases o with ⟨z1, z2⟩ | ⟨z1, z2⟩ <;> first | (cases z1; done) | (cases z2; done)
    | lst => rcases o with ⟨z1, z2⟩ | ⟨z1, z2⟩ <;> first | (cases z1; done) | (cases z2; done)
    | scr => rcases o with ⟨z1, z2⟩ | ⟨z1, z2⟩ <;> first | (cases z1; done) | (cases z2; done)
theorem eqL_all : ∀ {xs ys : List D}, xs.length = ys.length → (∀ (i : Nat) x y, xs[i]? = some x → ys[i]? = some y → eqD x y = true) → eqL xs ys = true
  | [], [], _, _ => by simp only [eqL]
  | [], _ :: _, h, _ => by simp at h
  | _ :: _, [], h, _ => by simp at h
  | x :: xs, y :: ys, h, k => by
    simp only [eqL]
    rw [k 0 x y rfl rfl, eqL_all (by simpa using h) fun i a b e1 e2 => k (i + 1) a b (by simpa using e1) (by simpa using e2)]
    rfl
theorem scal_uniq {K : PySem.W.Frag} {d1 d2 : D} {x : V} (o1 : scalD d1 = true) (a1 : At K G d1 x) (a2 : At K G d2 x) : eqD d1 d2 = true := by
  cases d1 with
  | non =>
    simp only [At] at a1; subst a1
    cases d2 <;> simp only [At] at a2 <;> first | (simp only [eqD]; done) | (cases a2; done) | (obtain ⟨a, xs, e, _⟩ := a2; cases e; done) | (obtain ⟨a, dx, xs, e, _⟩ := a2; cases e; done)
  | bl b =>
    simp only [At] at a1; subst a1
    cases d2 <;> simp only [At] at a2 <;> first | (cases a2; simp only [eqD, beq_self_eq_true]; done) | (cases a2; done) | (obtain ⟨a, xs, e, _⟩ := a2; cases e; done) | (obtain ⟨a, dx, xs, e, _⟩ := a2; cases e; done)
  | int b =>
    simp only [At] at a1; subst a1
    cases d2 <;> simp only [At] at a2 <;> first | (cases a2; simp only [eqD, beq_self_eq_true]; done) | (cases a2; done) | (obtain ⟨a, xs, e, _⟩ := a2; cases e; done) | (obtain ⟨a, dx, xs, e, _⟩ := a2; cases e; done)
  | str b =>
    simp only [At] at a1; subst a1
    cases d2 <;> simp only [At] at a2 <;> first | (cases a2; simp only [eqD, beq_self_eq_true]; done) | (cases a2; done) | (obtain ⟨a, xs, e, _⟩ := a2; cases e; done) | (obtain ⟨a, dx, xs, e, _⟩ := a2; cases e; done)
  | _ => cases o1
theorem eqD_comm_scal {d1 d2 : D} (o2 : scalD d2 = true) (o1 : scalD d1 = false) {K : PySem.W.Frag} {x : V} (a1 : At K G d1 x) (a2 : At K G d2 x) : False := by
  cases d2 <;> first
    | (cases o2; done)
    | (simp only [At] at a2; subst a2
       cases d1 <;> first
        | (cases o1; done)
        | (simp only [At] at a1; obtain ⟨a, xs, e, _⟩ := a1; cases e; done)
        | (simp only [At] at a1; obtain ⟨a, dx, xs, e, _⟩ := a1; cases e; done))
/-- a tree that is a list or a tuple -/
inductive Sq (K : PySem.W.Frag) (G : Hp) : D → Addr → Bool → List D → List V → Prop where
  | tup {a ds xs} (h : SqT K G a xs) (q : AtL K G ds xs) : Sq K G (.tup ds) a true ds xs
  | lst {a ds xs} (h : G a = some (.lst xs)) (q : AtL K G ds xs) : Sq K G (.lst ds) a false ds xs
  | scr {a ds xs} (h : SqL K G a xs) (q : AtL K G ds xs) : Sq K G (.scr ds) a false ds xs
theorem sq_of {K : PySem.W.Frag} {n : Nat} {d : D} {x : V} (o : okN n d = true) (ns : scalD d = false) (a : At K G d x) : ∃ p b ds xs, x = .ref p ∧ Sq K G d p b ds xs ∧ ∃ m, n = m + 1 ∧ ds.all (okN m) = true := by
  cases d with
  | tup ds =>
    simp only [At] at a
    obtain ⟨p, xs, e, h, q⟩ := a
    cases n with
    | zero => cases o
    | succ m => exact ⟨p, _, ds, xs, e, .tup h q, m, rfl, o⟩
  | lst ds =>
    simp only [At] at a
    obtain ⟨p, xs, e, h, q⟩ := a
    cases n with
    | zero => cases o
    | succ m => exact ⟨p, _, ds, xs, e, .lst h q, m, rfl, o⟩
  | scr ds =>
    simp only [At] at a
    obtain ⟨p, xs, e, h, q⟩ := a
    cases n with
    | zero => cases o
    | succ m => exact ⟨p, _, ds, xs, e, .scr h q, m, rfl, o⟩
  | dK _ _ => cases n <;> cases o
  | dT _ _ => cases n <;> cases o
  | ins _ _ _ => cases n <;> cases o
  | _ => cases ns
theorem Sq.atl {K : PySem.W.Frag} {d : D} {p : Addr} {b : Bool} {ds : List D} {xs : List V} (h : Sq K G d p b ds xs) : AtL K G ds xs := by cases h <;> assumption
theorem Sq.eq {K : PySem.W.Frag} {d1 d2 : D} {p1 p2 : Addr} {b1 b2 : Bool} {ds1 ds2 : List D} {xs1 xs2 : List V} (h1 : Sq K G d1 p1 b1 ds1 xs1) (h2 : Sq K G d2 p2 b2 ds2 xs2) : eqD d1 d2 = (b1 == b2 && eqL ds1 ds2) := by
  cases h1 <;> cases h2 <;> simp [eqD]
theorem Sq.heap (I : Inv X pins σ H s) (sg : Sub G H) {d : D} {p : Addr} {b : Bool} {ds : List D} {xs : List V} (h : Sq X.K G d p b ds xs) :
    ∃ its : List Value, Vals xs its ∧ (b = true → s.heap.IsTuple p its.toArray) ∧ (b = false → s.heap.IsList p its.toArray) := by
  cases h with
  | tup h q => obtain ⟨its, rv, ht, _⟩ := I.tuple (SqT.mono sg h); exact ⟨its, rv, fun _ => ht, fun z => by cases z⟩
  | lst h q => obtain ⟨its, rv, ht, _⟩ := I.list (SqL.of (sg _ _ h)); exact ⟨its, rv, (fun z => by cases z), fun _ => ht.isList⟩
  | scr h q => obtain ⟨its, rv, ht, _⟩ := I.list (SqL.mono sg h); exact ⟨its, rv, (fun z => by cases z), fun _ => ht.isList⟩
theorem Sq.same (I : Inv X pins σ H s) (sg : Sub G H) {d1 d2 : D} {p : Addr} {b1 b2 : Bool} {ds1 ds2 : List D} {xs1 xs2 : List V} (h1 : Sq X.K G d1 p b1 ds1 xs1) (h2 : Sq X.K G d2 p b2 ds2 xs2) : b1 = b2 ∧ xs1 = xs2 := by
  obtain ⟨its1, r1, t1, l1⟩ := h1.heap I sg
  obtain ⟨its2, r2, t2, l2⟩ := h2.heap I sg
  cases b1 with
  | true =>
    cases b2 with
    | false => exact absurd rfl (SeqAt.ne_of_list_tuple (l2 rfl) (t1 rfl))
    | true =>
      refine ⟨rfl, ?_⟩
      cases h1; cases h2
      exact I.tuple_inj (SqT.mono sg (by assumption)) (SqT.mono sg (by assumption))
  | false =>
    cases b2 with
    | true => exact absurd rfl (SeqAt.ne_of_list_tuple (l1 rfl) (t2 rfl))
    | false =>
      refine ⟨rfl, ?_⟩
      have g1 : SqL X.K H p xs1 := by
        cases h1 with
        | lst h q => exact SqL.of (sg _ _ h)
        | scr h q => exact SqL.mono sg h
      have g2 : SqL X.K H p xs2 := by
        cases h2 with
        | lst h q => exact SqL.of (sg _ _ h)
        | scr h q => exact SqL.mono sg h
      exact I.list_inj g1 g2
theorem all_get {f : D → Bool} {ds : List D} (h : ds.all f = true) {i : Nat} {d : D} (e : ds[i]? = some d) : f d = true := List.all_eq_true.mp h d (List.mem_of_getElem? e)
theorem at_uniq (I : Inv X pins σ H s) (sg : Sub G H) : ∀ (n : Nat) {d1 d2 : D} {x : V}, okN n d1 = true → okN n d2 = true → At X.K G d1 x → At X.K G d2 x → eqD d1 d2 = true := by
  intro n
  induction n with
  | zero =>
    intro d1 d2 x o1 o2 a1 a2
    exact scal_uniq (by cases d1 <;> first | rfl | (cases o1)) a1 a2
  | succ n ih =>
    intro d1 d2 x o1 o2 a1 a2
    cases s1 : scalD d1 with
    | true => exact scal_uniq s1 a1 a2
    | false =>
      cases s2 : scalD d2 with
      | true => exact (eqD_comm_scal s2 s1 a1 a2).elim
      | false =>
        obtain ⟨p1, b1, ds1, xs1, e1, q1, m1, em1, k1⟩ := sq_of o1 s1 a1
        obtain ⟨p2, b2, ds2, xs2, e2, q2, m2, em2, k2⟩ := sq_of o2 s2 a2
        subst e1
        cases e2
        have : n = m1 := by omega
        subst this
        have : n = m2 := by omega
        subst this
        obtain ⟨eb, ex⟩ := q1.same I sg q2
        subst eb; subst ex
        rw [q1.eq q2, beq_self_eq_true, Bool.true_and]
        refine eqL_all (q1.atl.length.trans q2.atl.length.symm) fun i a b ea eb => ?_
        obtain ⟨v, ev, av⟩ := q1.atl.get ea
        obtain ⟨v', ev', bv⟩ := q2.atl.get eb
        rw [ev] at ev'; cases ev'
        exact ih (all_get k1 ea) (all_get k2 eb) av bv
/-- equality by the heap, to a depth -/
theorem eqAt_of (I : Inv X pins σ H s) (sg : Sub G H) : ∀ (n : Nat) {d1 d2 : D} {u v : Value} {A : Around}, okN n d1 = true → okN n d2 = true → AtU X.K G d1 u → AtU X.K G d2 v → A.units + n < cLine →
    SeqAt.EqAt A s u v (eqD d1 d2) ∧ SeqAt.RcAt A s u v (eqD d1 d2) ∧ SeqAt.RcNeAt A s u v (!eqD d1 d2) := by
  intro n
  induction n with
  | zero =>
    intro d1 d2 u v A o1 o2 a1 a2 hu
    refine scal_eq (sh_of I sg o1 a1) (sh_of I sg o2 a2) ?_ ?_
    · cases d1 <;> first | rfl | (cases o1)
    · cases d2 <;> first | rfl | (cases o2)
  | succ n ih =>
    intro d1 d2 u v A o1 o2 a1 a2 hu
    have hu0 : A.units < cLine := by omega
    cases s1 : scalD d1 with
    | true =>
      cases s2 : scalD d2 with
      | true => exact scal_eq (sh_of I sg o1 a1) (sh_of I sg o2 a2) s1 s2
      | false => exact mix_eq hu0 (sh_of I sg o1 a1) (sh_of I sg o2 a2) (.inl ⟨s1, s2⟩)
    | false =>
      cases s2 : scalD d2 with
      | true => exact mix_eq hu0 (sh_of I sg o1 a1) (sh_of I sg o2 a2) (.inr ⟨s1, s2⟩)
      | false =>
        obtain ⟨x1, at1, rx1⟩ := a1
        obtain ⟨x2, at2, rx2⟩ := a2
        obtain ⟨p1, b1, ds1, xs1, e1, q1, m1, em1, k1⟩ := sq_of o1 s1 at1
        obtain ⟨p2, b2, ds2, xs2, e2, q2, m2, em2, k2⟩ := sq_of o2 s2 at2
        subst e1; subst e2
        cases rx1
        cases rx2
        have : n = m1 := by omega
        subst this
        have : n = m2 := by omega
        subst this
        obtain ⟨its1, r1, t1, l1⟩ := q1.heap I sg
        obtain ⟨its2, r2, t2, l2⟩ := q2.heap I sg
        have len1 : ds1.length = its1.length := q1.atl.length.trans r1.length
        have len2 : ds2.length = its2.length := q2.atl.length.trans r2.length
        have item : ∀ j (h1 : j < its1.toArray.size) (h2 : j < its2.toArray.size), SeqAt.EqAt A.in1 s its1.toArray[j] its2.toArray[j] (ixE ds1 ds2 j) := fun j h1 h2 => by
          have j1 : j < ds1.length := by rw [len1]; simpa using h1
          have j2 : j < ds2.length := by rw [len2]; simpa using h2
          have g1 : AtU X.K G ds1[j] its1.toArray[j] := items_at q1.atl r1 j _ _ (List.getElem?_eq_getElem j1) (by simp at h1; simp [h1])
          have g2 : AtU X.K G ds2[j] its2.toArray[j] := items_at q2.atl r2 j _ _ (List.getElem?_eq_getElem j2) (by simp at h2; simp [h2])
          have := (ih (A := A.in1) (all_get k1 (List.getElem?_eq_getElem j1)) (all_get k2 (List.getElem?_eq_getElem j2)) g1 g2 (by rw [in1_units]; omega)).1
          unfold ixE
          rw [List.getElem?_eq_getElem j1, List.getElem?_eq_getElem j2]
          exact this
        have whole : SeqAt.RcAt A s (.ref p1) (.ref p2) (eqD d1 d2) ∧ SeqAt.RcNeAt A s (.ref p1) (.ref p2) (!eqD d1 d2) := by
          rw [q1.eq q2]
          cases b1 with
          | true =>
            cases b2 with
            | false => exact ⟨SeqAt.RcAt.tuple_list (t1 rfl) (l2 rfl) hu0, SeqAt.RcNeAt.tuple_list (t1 rfl) (l2 rfl) hu0⟩
            | true =>
              have c1 := SeqAt.RcAt.tuples (e := ixE ds1 ds2) (t1 rfl) (t2 rfl) hu0 item
              have c2 := SeqAt.RcNeAt.tuples (e := ixE ds1 ds2) (t1 rfl) (t2 rfl) hu0 item
              have eq : ((List.range (min its1.toArray.size its2.toArray.size)).all (ixE ds1 ds2) && its1.toArray.size == its2.toArray.size) = (true == true && eqL ds1 ds2) := by
                rw [List.size_toArray, List.size_toArray, ← len1, ← len2, beq_self_eq_true, Bool.true_and]
                by_cases hl : ds1.length = ds2.length
                · rw [← hl, Nat.min_self, eqL_range hl, beq_self_eq_true, Bool.and_true]
                · rw [eqL_len hl]
                  have : (ds1.length == ds2.length) = false := by simpa using hl
                  rw [this, Bool.and_false]
              rw [eq] at c1
              refine ⟨c1, ?_⟩
              first
                | (rw [eq] at c2; exact c2)
                | exact c2
          | false =>
            cases b2 with
            | true => exact ⟨SeqAt.RcAt.list_tuple (l1 rfl) (t2 rfl) hu0, SeqAt.RcNeAt.list_tuple (l1 rfl) (t2 rfl) hu0⟩
            | false =>
              rw [beq_self_eq_true, Bool.true_and]
              by_cases hl : ds1.length = ds2.length
              · have c1 := SeqAt.RcAt.lists (e := ixE ds1 ds2) (l1 rfl) (l2 rfl) (by rw [List.size_toArray, List.size_toArray, ← len1, ← len2]; exact hl) hu0 item
                have c2 := SeqAt.RcNeAt.lists (e := ixE ds1 ds2) (l1 rfl) (l2 rfl) (by rw [List.size_toArray, List.size_toArray, ← len1, ← len2]; exact hl) hu0 item
                rw [List.size_toArray, ← len1, eqL_range hl] at c1 c2
                exact ⟨c1, c2⟩
              · have hz : (its1.toArray.size != its2.toArray.size) = true := by
                  rw [List.size_toArray, List.size_toArray, ← len1, ← len2]; simpa using hl
                rw [eqL_len hl]
                exact ⟨SeqAt.RcAt.lists_lengths (l1 rfl) (l2 rfl) hz hu0, SeqAt.RcNeAt.lists_lengths (l1 rfl) (l2 rfl) hz hu0⟩
        refine ⟨?_, whole⟩
        by_cases hp : p1 = p2
        · subst hp
          rw [at_uniq I sg (n + 1) o1 o2 at1 at2]
          exact SeqAt.EqAt.same _
        · exact SeqAt.EqAt.of_refs hp whole.1
end
end L3
set_option Elab.async false
set_option linter.all false
set_option maxRecDepth 100000
namespace L3
open PySem PySem.Spec L2
def notStar : Expr → Bool
  | .Starred .. => false
  | _ => true
theorem starEach_cons' (e : Expr) (es : List Expr) (env : Env) (h : notStar e = true) : starEach (e :: es) env = (false, eval e env) :: starEach es env := by
  cases e <;> first | rfl | (cases h)
def notComp : Expr → Bool
  | .ListComp .. => false
  | .SetComp .. => false
  | .DictComp .. => false
  | _ => true
theorem swaps_no (e : Expr) (t : Option Expr) (l : Nat) (env : Env) (h : notComp e = true) : swapsWith e t l env = pure false := by
  cases e <;> first | rfl | (cases h)
def notSl : Expr → Bool
  | .Slice .. => false
  | _ => true
theorem px {b : Expr} (h : notSl b = true := by rfl) : PlainIx b := fun o i => by
  cases b <;> first | rfl | (cases h)
section
variable {X : Cx} {F : Fx} {e a b c : Expr} {es : List Expr} {pos : Pos}
/-! ### from readings to mirrors -/
theorem PE.imp {t t' : TE} (h : PE X e t) (i : ImpE t' t) : PE X e t' := fun pins s σ H Q I hw => h pins s σ H Q I (i σ H Q hw)
theorem PT.imp {t t' : TT} (h : PT X e t) (i : ImpT t' t) : PT X e t' := fun pins s σ H Q I hw => h pins s σ H Q I (i σ H Q hw)
theorem PW.imp {t t' : TT} (h : PW X e t) (i : ImpT t' t) : PW X e t' := fun wh pins s σ H Q I hw => h wh pins s σ H Q I (i σ H Q hw)
theorem PA.imp {t t' : TA} (h : PA X es t) (i : ImpA t' t) : PA X es t' := fun p pins s σ H Q I hw => h p pins s σ H Q I (i σ H Q hw)
theorem PS.imp {st : Stmt} {t t' : TS} (h : PS X st t) (i : ImpS t' t) : PS X st t' := fun pins s σ H De I hw => h pins s σ H De I (i De σ H hw)
theorem PSs.imp {st : List Stmt} {t t' : TS} (h : PSs X st t) (i : ImpS t' t) : PSs X st t' := fun pins s σ H De I hw => h pins s σ H De I (i De σ H hw)
theorem PI.imp {tg : Expr} {t t' : TI} (h : PI X tg e t) (i : ImpI t' t) : PI X tg e t' := fun pins s σ H Q I hw => h pins s σ H Q I (i σ H Q hw)
abbrev EM (X : Cx) (F : Fx) (e : Expr) (m : ME) : Prop := PE X e (tE F m)
abbrev EO (X : Cx) (F : Fx) (e : Expr) (m : MA) : Prop := PE X e (tO F m)
abbrev TM (X : Cx) (F : Fx) (e : Expr) (m : MT) : Prop := PT X e (tT F m)
abbrev WM (X : Cx) (F : Fx) (e : Expr) (m : MT) : Prop := PW X e (tT F m)
abbrev AM (X : Cx) (F : Fx) (es : List Expr) (m : MA) : Prop := PA X es (tA F m)
abbrev SM (X : Cx) (F : Fx) (st : Stmt) (m : MS) : Prop := PS X st (tS F m)
abbrev BM (X : Cx) (F : Fx) (st : List Stmt) (m : MS) : Prop := PSs X st (tS F m)
abbrev IM (X : Cx) (F : Fx) (tg e : Expr) (m : MA) : Prop := PI X tg e (tI F m)
/-! names and constants -/
theorem e_var (i : Nat) {x : Str} (hN : X.N[i]? = some x := by rfl) (hv : Vis X.env.scope x := by first | exact Or.inl rfl | exact Or.inr (Or.inl rfl) | exact Or.inr (Or.inr rfl))
    (hd : (x == ("__debug__" : Str)) = false := by decide) (hcd : (x == ("__classdict__" : Str)) = false := by decide) : EM X F (.Name x pos) (mVar i) := PE.imp (pe_var hN hv hd hcd) (i_var i)
theorem e_int {i : Int} {j} : EM X F (.Constant (.int i) j pos) (mC (.int i)) := PE.imp pe_int (i_C fun _ => by simp only [At])
theorem e_bl {i : Bool} {j} : EM X F (.Constant (.bool i) j pos) (mC (.bl i)) := PE.imp pe_bl (i_C fun _ => by simp only [At])
theorem e_str {i : Str} {j} : EM X F (.Constant (.str i) j pos) (mC (.str i)) := PE.imp pe_str (i_C fun _ => by simp only [At])
theorem e_non {j} : EM X F (.Constant .none j pos) (mC .non) := PE.imp pe_non (i_C fun _ => by simp only [At])
theorem e_glob {x : Str} {v : V} {u : Value} {d : D} (hm : X.mg x = some u) (r : RelV v u) (at' : ∀ G, At F.K G d v) (hg : Gl X x := by rfl) (hd : (x == ("__debug__" : Str)) = false := by decide) : EM X F (.Name x pos) (mC d) :=
  PE.imp (pe_glob hg hm r hd) (i_C at')
/-! lists of expressions -/
theorem a_nil : AM X F [] mNil := PA.imp pa_nil i_nil
theorem a_cons {m : ME} {r : MA} (h : EM X F e m) (t : AM X F es r) (hs : notStar e = true := by rfl) : AM X F (e :: es) (mCons m r) := PA.imp (pa_cons h t (starEach_cons' e es X.env hs)) i_cons
theorem e_tup {k} {m : MA} (h : AM X F es m) : EM X F (.Tuple es k pos) (mTup m) := PE.imp (pe_tup h) i_tup
theorem o_lst {m : MA} (h : AM X F es m) : EO X F (.List es pos) (mLim m) := PE.imp (pe_lst h) i_lst
theorem e_fz {m : MA} (h : EO X F e m) : EM X F e (mFz m) := PE.imp h i_fz
theorem e_bor {m : ME} (h : EM X F e m) : EM X F e (mBor m) := PE.imp h i_bor
theorem t_bor {m : MT} (h : TM X F e m) : TM X F e (mBorT m) := PT.imp h i_borT
/-! tests -/
theorem t_val {m : ME} (h : EM X F e m) (he : ∀ whole, isTrue e X.env whole = (do let v ← whole; standAt e.pos; holding [v] (truthy v)) := by intro _; rfl) : TM X F e (mB m) := PT.imp (pt_val h he) i_B
theorem w_and1 {m : MT} (h : TM X F a m) : WM X F (.BoolOp .And [a] pos) m := pw_and1 h
theorem w_or1 {m : MT} (h : TM X F a m) : WM X F (.BoolOp .Or [a] pos) m := pw_or1 h
theorem w_and {m n : MT} (h : TM X F a m) (k : WM X F (.BoolOp .And (b :: es) pos) n) : WM X F (.BoolOp .And (a :: b :: es) pos) (mAnd m n) := PW.imp (pw_and h k) i_and
theorem w_or {m n : MT} (h : TM X F a m) (k : WM X F (.BoolOp .Or (b :: es) pos) n) : WM X F (.BoolOp .Or (a :: b :: es) pos) (mOr m n) := PW.imp (pw_or h k) i_or
theorem t_w {m : MT} (h : WM X F e m) : TM X F e m := PW.pt h
theorem t_not {m : MT} (h : TM X F a m) : TM X F (.UnaryOp .Not a pos) (mNot m) := PT.imp (pt_not h) i_not
theorem e_one {op} {m : ME} (h : EM X F a m) : EM X F (.BoolOp op [a] pos) m := pe_one h
theorem e_and {m n : ME} (h : EM X F a m) (k : EM X F (.BoolOp .And (b :: es) pos) n) : EM X F (.BoolOp .And (a :: b :: es) pos) (mAndV m n) := PE.imp (pe_and h k) i_andV
theorem e_or {m n : ME} (h : EM X F a m) (k : EM X F (.BoolOp .Or (b :: es) pos) n) : EM X F (.BoolOp .Or (a :: b :: es) pos) (mOrV m n) := PE.imp (pe_or h k) i_orV
theorem e_not {m : ME} (h : EM X F a m) : EM X F (.UnaryOp .Not a pos) (mNotV m) := PE.imp (pe_not h) i_notV
theorem e_if {k : MT} {m n : ME} (h : TM X F c k) (ha : EM X F a m) (hb : EM X F b n) : EM X F (.IfExp c a b pos) (mIf k m n) := PE.imp (pe_ifExp h ha hb) i_if
/-! statements -/
variable {st : Stmt} {sts : List Stmt}
theorem s_nil : BM X F [] mNext := PSs.imp pss_nil i_next
theorem s_cons {m n : MS} (h : SM X F st m) (k : BM X F sts n) : BM X F (st :: sts) (mSeq m n) := PSs.imp (pss_cons h k) i_seq
theorem s_one {m : MS} (h : SM X F st m) : BM X F [st] m := pss_one h
theorem s_pass : SM X F (.Pass pos) mNext := PS.imp ps_pass i_next
theorem s_doc {x j pos'} : SM X F (.Expr (.Constant (.str x) j pos) pos') mNext := PS.imp ps_doc i_next
theorem s_expr {m : ME} (h : EM X F e m) (hs : notComp e = true := by rfl) : SM X F (.Expr e pos) (mDrop m) := PS.imp (ps_expr h (swaps_no _ _ _ _ hs)) i_drop
theorem s_ret {m : ME} (h : EM X F e m) : SM X F (.Return (some e) pos) (mRet m) := PS.imp (ps_ret h) i_ret
theorem s_retO {m : MA} (h : EO X F e m) : SM X F (.Return (some e) pos) (mRetO m) := PS.imp (ps_ret h) i_retO
theorem s_retV (i : Nat) {x : Str} {p : Pos} (hN : X.N[i]? = some x := by rfl) (hv : Vis X.env.scope x := by first | exact Or.inl rfl | exact Or.inr (Or.inl rfl) | exact Or.inr (Or.inr rfl)) (hd : (x == ("__debug__" : Str)) = false := by decide) (hcd : (x == ("__classdict__" : Str)) = false := by decide) :
    SM X F (.Return (some (.Name x p)) pos) (mRetO (mVarO i)) := PS.imp (ps_ret (pe_var hN hv hd hcd)) (i_retV i)
theorem s_retN : SM X F (.Return none pos) (mRet (mC .non)) := PS.imp ps_retN i_retN
theorem s_if {k : MT} {m n : MS} {xs ys : List Stmt} (h : TM X F c k) (ha : BM X F xs m) (hb : BM X F ys n) : SM X F (.If c xs ys pos) (mIfS k m n) := PS.imp (ps_if h ha hb) i_ifS
theorem s_frz {m : MS} (i : Nat) (h : SM X F st m) : SM X F st (mFrz i m) := PS.imp h i_frz
def mBk : MS := fun ρ => .ok (.bk ρ)
def mCt : MS := fun ρ => .ok (.ct ρ)
theorem s_break : SM X F (.Break pos) mBk := PS.imp ps_break fun De σ H ⟨G, ρ, r, h⟩ => h σ G H r (Sub.refl _)
theorem s_continue : SM X F (.Continue pos) mCt := PS.imp ps_continue fun De σ H ⟨G, ρ, r, h⟩ => h σ G H r (Sub.refl _)
theorem s_set (i : Nat) {x : Str} {p : Pos} {m : ME} (hN : X.N.Nodup) (he : EM X F e m) (hi : X.N[i]? = some x := by rfl) (hx : Loc X.env.scope x := by first | exact Or.inl rfl | exact Or.inr rfl) (hs : notComp e = true := by rfl)
    (hf : X.fn x = true ∨ X.env.scope.names.lookup x = some .local := by first | exact .inl rfl | exact .inr rfl) : SM X F (.Assign [.Name x p] e pos) (mSet i m) := PS.imp (ps_set hN hi hx he (swaps_no _ _ _ _ hs) hf) i_set
theorem s_setO (i : Nat) {x : Str} {p : Pos} {m : MA} (hN : X.N.Nodup) (he : EO X F e m) (hi : X.N[i]? = some x := by rfl) (hx : Loc X.env.scope x := by first | exact Or.inl rfl | exact Or.inr rfl) (hs : notComp e = true := by rfl)
    (hf : X.fn x = true ∨ X.env.scope.names.lookup x = some .local := by first | exact .inl rfl | exact .inr rfl) : SM X F (.Assign [.Name x p] e pos) (mSetO i m) := PS.imp (ps_set hN hi hx he (swaps_no _ _ _ _ hs) hf) i_setO
/-! ### operations -/
theorem e_bin {op : Operator} {r : R2} {f : D → D → R D} {m n : ME} (ho : OpR X (binaryOp op) r) (hf : OpOk F r f) (ha : EM X F a m) (hb : EM X F b n) : EM X F (.BinOp a op b pos) (mBin f m n) := PE.imp (pe_op ho ha hb) (i_bin hf)
theorem e_cmpR {op : CmpOp} {r : R2} {f : D → D → R D} {m n : ME} (ho : OpR X (compareOp op) r) (hf : OpOk F r f) (ha : EM X F a m) (hb : EM X F b n) (hm : behindInMarks op b = false) : EM X F (.Compare a [op] [b] pos) (mBin f m n) := PE.imp (pe_cmpR ho ha hb hm) (i_bin hf)
theorem t_cmpR {op : CmpOp} {r : R2} {f : D → D → R D} {m n : ME} (ho : OpR X (compareOp op) r) (hf : OpOk F r f) (ha : EM X F a m) (hb : EM X F b n) (hm : behindInMarks op b = false) : TM X F (.Compare a [op] [b] pos) (mB (mBin f m n)) :=
  PT.imp (pt_cmpR ho ha hb hm) fun σ H Q h => by
    obtain ⟨G, ρ, r, k⟩ := i_Test (F := F) (m := mBin f m n) σ H Q h
    exact i_bin hf σ H _ ⟨G, ρ, r, k⟩
theorem e_un {op : UnaryOp} {r : V → Hp → VK → Prop} {f : D → R D} {m : ME} (ho : UnR X (unaryOp op) r) (hf : UnOk F r f) (ha : EM X F a m) : EM X F (.UnaryOp op a pos) (mUn f m) := PE.imp (pe_un ho ha) (i_un hf)
theorem OpOk.or1 {r r' : R2} {f : D → D → R D} (h : ∀ σ ρ G H x y dx dy Q, Rel F G H σ ρ → At F.K G dx x → At F.K G dy y → kE F G H σ ρ Q (f dx dy) → r x y H Q ∨ r' x y H Q) : OpOk F (fun x y H Q => r x y H Q ∨ r' x y H Q) f := h
/-! ints -/
def intsD (f : Int → Int → R D) : D → D → R D
  | .int i, .int j => f i j
  | _, _ => .bad
theorem ok_ints0 {g : Int → Int → V} {f : Int → Int → D} (h : ∀ i j G, At F.K G (f i j) (g i j)) : OpOk F (rI0 g) (intsD fun i j => .ok (f i j)) := by
  intro σ ρ G H x y dx dy Q r ax ay k
  unfold intsD at k
  split at k
  · rename_i i j
    simp only [At] at ax ay
    exact ⟨i, j, ax, ay, k _ H G r (Up.refl _ _) (h i j G)⟩
  · exact k.elim
theorem ok_ints {C : Int → Int → Prop} [∀ i j, Decidable (C i j)] {g : Int → Int → V} {f : Int → Int → D} (h : ∀ i j G, At F.K G (f i j) (g i j)) : OpOk F (rI C g) (intsD fun i j => if C i j then .ok (f i j) else .bad) := by
  intro σ ρ G H x y dx dy Q r ax ay k
  unfold intsD at k
  split at k
  · rename_i i j
    simp only [At] at ax ay
    dsimp only at k
    split at k
    · rename_i hc
      exact ⟨i, j, ax, ay, hc, k _ H G r (Up.refl _ _) (h i j G)⟩
    · exact k.elim
  · exact k.elim
instance (i j : Int) : Decidable (CDiv i j) := by unfold CDiv; infer_instance
instance (i j : Int) : Decidable (CPow i j) := by unfold CPow; infer_instance
instance (i j : Int) : Decidable (CMul i j) := by unfold CMul; infer_instance
def subD := intsD fun i j => .ok (.int (i - j))
def mulD := intsD fun i j => if CMul i j then .ok (.int (i * j)) else .bad
def fdivD := intsD fun i j => if CDiv i j then .ok (.int (i / j)) else .bad
def modD := intsD fun i j => if 0 < j then .ok (.int (i % j)) else .bad
def powD := intsD fun i j => if CPow i j then .ok (.int (i ^ j.toNat)) else .bad
def ltD := intsD fun i j => .ok (.bl (decide (i < j)))
def leD := intsD fun i j => .ok (.bl (decide (i ≤ j)))
def gtD := intsD fun i j => .ok (.bl (decide (j < i)))
def geD := intsD fun i j => .ok (.bl (decide (j ≤ i)))
variable {m n : ME}
theorem e_sub (ha : EM X F a m) (hb : EM X F b n) : EM X F (.BinOp a .Sub b pos) (mBin subD m n) := e_bin op_sub (ok_ints0 fun _ _ _ => by simp only [At]) ha hb
theorem e_mul (ha : EM X F a m) (hb : EM X F b n) : EM X F (.BinOp a .Mult b pos) (mBin mulD m n) := e_bin op_mul (ok_ints fun _ _ _ => by simp only [At]) ha hb
theorem e_fdiv (ha : EM X F a m) (hb : EM X F b n) : EM X F (.BinOp a .FloorDiv b pos) (mBin fdivD m n) := e_bin op_fdiv (ok_ints fun _ _ _ => by simp only [At]) ha hb
theorem e_mod (ha : EM X F a m) (hb : EM X F b n) : EM X F (.BinOp a .Mod b pos) (mBin modD m n) := e_bin op_mod (ok_ints fun _ _ _ => by simp only [At]) ha hb
theorem e_pow (ha : EM X F a m) (hb : EM X F b n) : EM X F (.BinOp a .Pow b pos) (mBin powD m n) := e_bin op_pow (ok_ints fun _ _ _ => by simp only [At]) ha hb
theorem t_lt (ha : EM X F a m) (hb : EM X F b n) : TM X F (.Compare a [.Lt] [b] pos) (mB (mBin ltD m n)) := t_cmpR op_lt (ok_ints0 fun _ _ _ => by simp only [At]) ha hb (nomark _)
theorem t_le (ha : EM X F a m) (hb : EM X F b n) : TM X F (.Compare a [.LtE] [b] pos) (mB (mBin leD m n)) := t_cmpR op_le (ok_ints0 fun _ _ _ => by simp only [At]) ha hb (nomark _)
theorem t_gt (ha : EM X F a m) (hb : EM X F b n) : TM X F (.Compare a [.Gt] [b] pos) (mB (mBin gtD m n)) := t_cmpR op_gt (ok_ints0 fun _ _ _ => by simp only [At]) ha hb (nomark _)
theorem t_ge (ha : EM X F a m) (hb : EM X F b n) : TM X F (.Compare a [.GtE] [b] pos) (mB (mBin geD m n)) := t_cmpR op_ge (ok_ints0 fun _ _ _ => by simp only [At]) ha hb (nomark _)
theorem e_lt (ha : EM X F a m) (hb : EM X F b n) : EM X F (.Compare a [.Lt] [b] pos) (mBin ltD m n) := e_cmpR op_lt (ok_ints0 fun _ _ _ => by simp only [At]) ha hb (nomark _)
theorem e_le (ha : EM X F a m) (hb : EM X F b n) : EM X F (.Compare a [.LtE] [b] pos) (mBin leD m n) := e_cmpR op_le (ok_ints0 fun _ _ _ => by simp only [At]) ha hb (nomark _)
theorem e_gt (ha : EM X F a m) (hb : EM X F b n) : EM X F (.Compare a [.Gt] [b] pos) (mBin gtD m n) := e_cmpR op_gt (ok_ints0 fun _ _ _ => by simp only [At]) ha hb (nomark _)
theorem e_ge (ha : EM X F a m) (hb : EM X F b n) : EM X F (.Compare a [.GtE] [b] pos) (mBin geD m n) := e_cmpR op_ge (ok_ints0 fun _ _ _ => by simp only [At]) ha hb (nomark _)
def negD : D → R D
  | .int i => .ok (.int (-i))
  | _ => .bad
theorem e_neg (ha : EM X F a m) : EM X F (.UnaryOp .USub a pos) (mUn negD m) := e_un un_neg (fun σ ρ G H x dx Q r ax k => by
  unfold negD at k
  split at k
  · rename_i i
    simp only [At] at ax
    exact ⟨i, ax, k _ H G r (Up.refl _ _) (by simp only [At])⟩
  · exact k.elim) ha
/-! a + b -/
def addD : D → D → R D
  | .int i, .int j => .ok (.int (i + j))
  | .str x, .str y => if x.length + y.length ≤ 1000000 then .ok (.str (x ++ y)) else .bad
  | .lst xs, .lst ys => if xs.length + ys.length ≤ 1000000 then .ok (.lst (xs ++ ys)) else .bad
  | _, _ => .bad
theorem ok_add : OpOk F (fun x y H Q => rI0 (fun i j => .int (i + j)) x y H Q ∨ (∃ i j, x = .str i ∧ y = .str j ∧ i.length + j.length ≤ sizeLine ∧ Q (.str (i ++ j)) H) ∨ rCat x y H Q) addD := by
  intro σ ρ G H x y dx dy Q r ax ay k
  unfold addD at k
  split at k
  · rename_i i j
    simp only [At] at ax ay
    exact .inl ⟨i, j, ax, ay, k _ H G r (Up.refl _ _) (by simp only [At])⟩
  · rename_i i j
    simp only [At] at ax ay
    split at k
    · rename_i hl
      exact .inr (.inl ⟨i, j, ax, ay, Nat.le_trans hl (by decide), k _ H G r (Up.refl _ _) (by simp only [At])⟩)
    · exact k.elim
  · rename_i ds es
    simp only [At] at ax ay
    split at k
    · rename_i hl
      obtain ⟨p, xs, e1, h1, q1⟩ := ax
      obtain ⟨p2, ys, e2, h2, q2⟩ := ay
      refine .inr (.inr ⟨p, p2, xs, ys, e1, e2, r.kp.sub _ _ h1, r.kp.sub _ _ h2, by rw [← q1.length, ← q2.length]; exact Nat.le_trans hl (by decide), fun l hn => ?_⟩)
      refine k (.ref l) _ _ (r.lay hn) (Up.lay r.kp.sub hn) ?_
      simp only [At]
      exact ⟨l, xs ++ ys, rfl, upd_same, (q1.append q2).mono (Sub.upd (r.kp.sub.gone hn))⟩
    · exact k.elim
  · exact k.elim
theorem e_add (ha : EM X F a m) (hb : EM X F b n) : EM X F (.BinOp a .Add b pos) (mBin addD m n) := e_bin (op_add.or (op_add_str.or op_cat)) ok_add ha hb
/-! == and != -/
def eqR (b : Bool) (x y : D) : R D := if okN 8 x = true ∧ okN 8 y = true then .ok (.bl (if b then eqD x y else !eqD x y)) else .bad
def rEqW (F : Fx) (b : Bool) : R2 := fun x y H Q => ∃ G d1 d2, Sub G H ∧ At F.K G d1 x ∧ At F.K G d2 y ∧ okN 8 d1 = true ∧ okN 8 d2 = true ∧ Q (.bl (if b then eqD d1 d2 else !eqD d1 d2)) H
theorem op_eqW (hK : F.K = X.K) (hu : X.A.units + 64 < cLine) : OpR X (compareOp .Eq) (rEqW F true) := by
  intro pins s σ H x y v u Q I rx ry h
  obtain ⟨G, d1, d2, sg, a1, a2, o1, o2, q⟩ := h
  rw [hK] at a1 a2
  exact (eqAt_of I sg 8 (A := X.A) o1 o2 ⟨x, a1, rx⟩ ⟨y, a2, ry⟩ (by omega)).2.1 X.prog X.w X.xe _ ⟨.bl _, H, I, rfl, q⟩
theorem op_neW (hK : F.K = X.K) (hu : X.A.units + 64 < cLine) : OpR X (compareOp .NotEq) (rEqW F false) := by
  intro pins s σ H x y v u Q I rx ry h
  obtain ⟨G, d1, d2, sg, a1, a2, o1, o2, q⟩ := h
  rw [hK] at a1 a2
  exact (eqAt_of I sg 8 (A := X.A) o1 o2 ⟨x, a1, rx⟩ ⟨y, a2, ry⟩ (by omega)).2.2 X.prog X.w X.xe _ ⟨.bl _, H, I, rfl, q⟩
theorem ok_eqW (b : Bool) : OpOk F (rEqW F b) (eqR b) := by
  intro σ ρ G H x y dx dy Q r ax ay k
  unfold eqR at k
  split at k
  · rename_i ho
    exact ⟨G, dx, dy, r.kp.sub, ax, ay, ho.1, ho.2, k _ H G r (Up.refl _ _) (by simp only [At])⟩
  · exact k.elim
theorem t_eq (hu : X.A.units + 64 < cLine) (ha : EM X F a m) (hb : EM X F b n) (hK : F.K = X.K := by rfl) : TM X F (.Compare a [.Eq] [b] pos) (mB (mBin (eqR true) m n)) := t_cmpR (op_eqW hK hu) (ok_eqW true) ha hb (nomark _)
theorem t_ne (hu : X.A.units + 64 < cLine) (ha : EM X F a m) (hb : EM X F b n) (hK : F.K = X.K := by rfl) : TM X F (.Compare a [.NotEq] [b] pos) (mB (mBin (eqR false) m n)) := t_cmpR (op_neW hK hu) (ok_eqW false) ha hb (nomark _)
theorem e_eq (hu : X.A.units + 64 < cLine) (ha : EM X F a m) (hb : EM X F b n) (hK : F.K = X.K := by rfl) : EM X F (.Compare a [.Eq] [b] pos) (mBin (eqR true) m n) := e_cmpR (op_eqW hK hu) (ok_eqW true) ha hb (nomark _)
theorem e_ne (hu : X.A.units + 64 < cLine) (ha : EM X F a m) (hb : EM X F b n) (hK : F.K = X.K := by rfl) : EM X F (.Compare a [.NotEq] [b] pos) (mBin (eqR false) m n) := e_cmpR (op_neW hK hu) (ok_eqW false) ha hb (nomark _)
end
end L3
set_option Elab.async false
set_option linter.all false
set_option maxRecDepth 100000
namespace L3
open PySem PySem.Spec L2
section
variable {X : Cx} {F : Fx} {e a b c : Expr} {es : List Expr} {pos : Pos} {m n : ME}
/-! ### in, not in -/
theorem eqL_congr : ∀ {ds ds' : List D}, ds.length = ds'.length → (∀ (i : Nat) x y, ds[i]? = some x → ds'[i]? = some y → ∀ z, eqD x z = eqD y z) → ∀ es, eqL ds es = eqL ds' es
  | [], [], _, _, _ => rfl
  | [], _ :: _, h, _, _ => by simp at h
  | _ :: _, [], h, _, _ => by simp at h
  | x :: xs, y :: ys, h, k, [] => by simp only [eqL]
  | x :: xs, y :: ys, h, k, e :: es => by
    simp only [eqL]
    rw [k 0 x y rfl rfl e, eqL_congr (by simpa using h) (fun i a b e1 e2 => k (i + 1) a b (by simpa using e1) (by simpa using e2)) es]
theorem scal_same {K : PySem.W.Frag} {G : Hp} {d d' : D} {x : V} (o : scalD d = true) (a1 : At K G d x) (a2 : At K G d' x) : d = d' := by
  cases d with
  | non =>
    simp only [At] at a1; subst a1
    cases d' <;> simp only [At] at a2 <;> first | rfl | (cases a2; done) | (obtain ⟨a, xs, e, _⟩ := a2; cases e; done) | (obtain ⟨a, dx, xs, e, _⟩ := a2; cases e; done)
  | bl b =>
    simp only [At] at a1; subst a1
    cases d' <;> simp only [At] at a2 <;> first | (cases a2; rfl) | (cases a2; done) | (obtain ⟨a, xs, e, _⟩ := a2; cases e; done) | (obtain ⟨a, dx, xs, e, _⟩ := a2; cases e; done)
  | int b =>
    simp only [At] at a1; subst a1
    cases d' <;> simp only [At] at a2 <;> first | (cases a2; rfl) | (cases a2; done) | (obtain ⟨a, xs, e, _⟩ := a2; cases e; done) | (obtain ⟨a, dx, xs, e, _⟩ := a2; cases e; done)
  | str b =>
    simp only [At] at a1; subst a1
    cases d' <;> simp only [At] at a2 <;> first | (cases a2; rfl) | (cases a2; done) | (obtain ⟨a, xs, e, _⟩ := a2; cases e; done) | (obtain ⟨a, dx, xs, e, _⟩ := a2; cases e; done)
  | _ => cases o
theorem Sq.val {K : PySem.W.Frag} {G : Hp} {d : D} {p : Addr} {b : Bool} {ds : List D} {xs : List V} (h : Sq K G d p b ds xs) (e : D) : eqD d e = match e with
    | .tup es => b && eqL ds es
    | .lst es => !b && eqL ds es
    | .scr es => !b && eqL ds es
    | _ => false := by
  cases h <;> cases e <;> simp [eqD]
section
variable {pins : List (Addr × Obj)} {σ : St} {H G : Hp} {s : Shared}
theorem at_same (I : Inv X pins σ H s) (sg : Sub G H) : ∀ (n : Nat) {d d' : D} {x : V}, okN n d = true → okN n d' = true → At X.K G d x → At X.K G d' x → ∀ e, eqD d e = eqD d' e := by
  intro n
  induction n with
  | zero =>
    intro d d' x o1 o2 a1 a2 e
    rw [scal_same (by cases d <;> first | rfl | (cases o1)) a1 a2]
  | succ n ih =>
    intro d d' x o1 o2 a1 a2 e
    cases s1 : scalD d with
    | true => rw [scal_same s1 a1 a2]
    | false =>
      cases s2 : scalD d' with
      | true => exact (eqD_comm_scal s2 s1 a1 a2).elim
      | false =>
        obtain ⟨p1, b1, ds1, xs1, e1, q1, m1, em1, k1⟩ := sq_of o1 s1 a1
        obtain ⟨p2, b2, ds2, xs2, e2, q2, m2, em2, k2⟩ := sq_of o2 s2 a2
        subst e1
        cases e2
        have : n = m1 := by omega
        subst this
        have : n = m2 := by omega
        subst this
        obtain ⟨eb, ex⟩ := q1.same I sg q2
        subst eb; subst ex
        have el : ∀ es, eqL ds1 es = eqL ds2 es := eqL_congr (q1.atl.length.trans q2.atl.length.symm) fun i a b ea eb z => by
          obtain ⟨v, ev, av⟩ := q1.atl.get ea
          obtain ⟨v', ev', bv⟩ := q2.atl.get eb
          rw [ev] at ev'; cases ev'
          exact ih (all_get k1 ea) (all_get k2 eb) av bv z
        rw [q1.val, q2.val]
        cases e <;> first | rfl | (simp only [el])
open Classical in
noncomputable def ansU (K : PySem.W.Frag) (G : Hp) (d : D) (u : Value) : Bool := if h : ∃ d', okN 7 d' = true ∧ AtU K G d' u then eqD (Classical.choose h) d else false
theorem ansU_of (I : Inv X pins σ H s) (sg : Sub G H) {d d1 : D} {u : Value} (o : okN 7 d = true) (h : AtU X.K G d u) : ansU X.K G d1 u = eqD d d1 := by
  have hx : ∃ d', okN 7 d' = true ∧ AtU X.K G d' u := ⟨d, o, h⟩
  unfold ansU
  rw [dif_pos hx]
  obtain ⟨o', h'⟩ := Classical.choose_spec hx
  obtain ⟨x, a, r⟩ := h
  obtain ⟨x', a', r'⟩ := h'
  have : x' = x := r'.inj r
  subst this
  exact at_same I sg 7 o' o a' a d1
theorem any_ans (I : Inv X pins σ H s) (sg : Sub G H) {d1 : D} : ∀ {ds : List D} {xs : List V} {its : List Value}, AtL X.K G ds xs → Vals xs its → ds.all (okN 7) = true → its.any (ansU X.K G d1) = ds.any fun y => eqD y d1
  | [], _, _, q, r, _ => by simp only [AtL] at q; subst q; cases r; rfl
  | d :: ds, _, _, q, r, o => by
    simp only [AtL] at q
    obtain ⟨v, vr, rfl, av, ar⟩ := q
    cases r with
    | cons r1 r2 =>
      rw [List.all_cons, Bool.and_eq_true] at o
      rw [List.any_cons, List.any_cons, ansU_of I sg o.1 ⟨v, av, r1⟩, any_ans I sg ar r2 o.2]
theorem mem_ans (I : Inv X pins σ H s) (sg : Sub G H) {d1 : D} {x : V} {v : Value} {A : Around} (hu : A.units + 8 < cLine) (o1 : okN 7 d1 = true) (a1 : At X.K G d1 x) (rx : RelV x v) : ∀ {ds : List D} {xs : List V} {its : List Value}, AtL X.K G ds xs → Vals xs its → ds.all (okN 7) = true →
    ∀ u ∈ its, SeqAt.EqAt A s u v (ansU X.K G d1 u)
  | [], _, _, q, r, _ => by simp only [AtL] at q; subst q; cases r; exact fun u hu => nomatch hu
  | d :: ds, _, _, q, r, o => by
    simp only [AtL] at q
    obtain ⟨w, wr, rfl, av, ar⟩ := q
    cases r with
    | cons r1 r2 =>
      rw [List.all_cons, Bool.and_eq_true] at o
      intro u' hm
      rcases List.mem_cons.mp hm with e | hm
      · subst e
        rw [ansU_of I sg o.1 ⟨w, av, r1⟩]
        exact (eqAt_of I sg 7 (A := A) o.1 o1 ⟨w, av, r1⟩ ⟨x, a1, rx⟩ (by omega)).1
      · exact mem_ans I sg hu o1 a1 rx ar r2 o.2 u' hm
end
def seqI : D → Option (List D)
  | .tup ys => some ys
  | .lst ys => some ys
  | .scr ys => some ys
  | _ => none
def inD (b : Bool) (x y : D) : R D := match seqI y with
  | some ys => if okN 7 x = true ∧ ys.all (okN 7) = true then .ok (.bl (if b then ys.any (fun y => eqD y x) else !ys.any fun y => eqD y x)) else .bad
  | none => .bad
def rInW (F : Fx) (b : Bool) : R2 := fun x y H Q => ∃ G d1 d2 p ds xs k, Sub G H ∧ At F.K G d1 x ∧ y = .ref p ∧ Sq F.K G d2 p k ds xs ∧ okN 7 d1 = true ∧ ds.all (okN 7) = true ∧ Q (.bl (if b then ds.any (fun y => eqD y d1) else !ds.any fun y => eqD y d1)) H
theorem op_inW (hK : F.K = X.K) (hu : X.A.units + 64 < cLine) : OpR X (compareOp .In) (rInW F true) := by
  intro pins s σ H x y v u Q I rx ry h
  obtain ⟨G, d1, d2, p, ds, xs, k, sg, a1, rfl, sq, o1, o2, q⟩ := h
  rw [hK] at a1 sq
  cases ry
  obtain ⟨its, r1, t1, l1⟩ := sq.heap I sg
  have q : Q (.bl (ds.any fun y => eqD y d1)) H := q
  rw [← any_ans I sg sq.atl r1 o2] at q
  have hm := mem_ans I sg (A := X.A.in1) (d1 := d1) (by rw [in1_units]; omega) o1 a1 rx sq.atl r1 o2
  cases k with
  | true => exact SeqAt.in_tupleAt (ansU X.K G d1) (t1 rfl) (fun w hw => hm w (by simpa using hw)) ⟨.bl _, H, I, rfl, by simpa using q⟩
  | false => exact SeqAt.in_listAt (ansU X.K G d1) (l1 rfl) (fun w hw => hm w (by simpa using hw)) ⟨.bl _, H, I, rfl, by simpa using q⟩
theorem op_notInW (hK : F.K = X.K) (hu : X.A.units + 64 < cLine) : OpR X (compareOp .NotIn) (rInW F false) := by
  intro pins s σ H x y v u Q I rx ry h
  obtain ⟨G, d1, d2, p, ds, xs, k, sg, a1, rfl, sq, o1, o2, q⟩ := h
  rw [hK] at a1 sq
  cases ry
  obtain ⟨its, r1, t1, l1⟩ := sq.heap I sg
  have q : Q (.bl (!ds.any fun y => eqD y d1)) H := q
  rw [← any_ans I sg sq.atl r1 o2] at q
  have hm := mem_ans I sg (A := X.A.in1) (d1 := d1) (by rw [in1_units]; omega) o1 a1 rx sq.atl r1 o2
  cases k with
  | true => exact SeqAt.notIn_tupleAt (ansU X.K G d1) (t1 rfl) (fun w hw => hm w (by simpa using hw)) ⟨.bl _, H, I, rfl, by simpa using q⟩
  | false => exact SeqAt.notIn_listAt (ansU X.K G d1) (l1 rfl) (fun w hw => hm w (by simpa using hw)) ⟨.bl _, H, I, rfl, by simpa using q⟩
theorem sq_at {K : PySem.W.Frag} {G : Hp} {d : D} {x : V} {ds : List D} (e : seqI d = some ds) (a : At K G d x) : ∃ p xs k, x = .ref p ∧ Sq K G d p k ds xs := by
  cases d <;> first
    | (cases e; done)
    | (cases e
       simp only [At] at a
       obtain ⟨p, xs, e, h, q⟩ := a
       first
        | exact ⟨p, xs, _, e, .tup h q⟩
        | exact ⟨p, xs, _, e, .lst h q⟩
        | exact ⟨p, xs, _, e, .scr h q⟩)
theorem ok_inW (b : Bool) : OpOk F (rInW F b) (inD b) := by
  intro σ ρ G H x y dx dy Q r ax ay k
  unfold inD at k
  cases e : seqI dy with
  | none => rw [e] at k; exact k.elim
  | some ys =>
    rw [e] at k
    dsimp only at k
    split at k
    · rename_i ho
      obtain ⟨p, xs, kk, ey, sq⟩ := sq_at e ay
      exact ⟨G, dx, dy, p, ys, xs, kk, r.kp.sub, ax, ey, sq, ho.1, ho.2, k _ H G r (Up.refl _ _) (by simp only [At])⟩
    · exact k.elim
theorem t_in (hu : X.A.units + 64 < cLine) (ha : EM X F a m) (hb : EM X F b n) (hK : F.K = X.K := by rfl) (hm : behindInMarks .In b = false := by with_unfolding_all rfl) : TM X F (.Compare a [.In] [b] pos) (mB (mBin (inD true) m n)) := t_cmpR (op_inW hK hu) (ok_inW true) ha hb hm
theorem t_notIn (hu : X.A.units + 64 < cLine) (ha : EM X F a m) (hb : EM X F b n) (hK : F.K = X.K := by rfl) (hm : behindInMarks .NotIn b = false := by with_unfolding_all rfl) : TM X F (.Compare a [.NotIn] [b] pos) (mB (mBin (inD false) m n)) := t_cmpR (op_notInW hK hu) (ok_inW false) ha hb hm
theorem e_in (hu : X.A.units + 64 < cLine) (ha : EM X F a m) (hb : EM X F b n) (hK : F.K = X.K := by rfl) (hm : behindInMarks .In b = false := by with_unfolding_all rfl) : EM X F (.Compare a [.In] [b] pos) (mBin (inD true) m n) := e_cmpR (op_inW hK hu) (ok_inW true) ha hb hm
theorem e_notIn (hu : X.A.units + 64 < cLine) (ha : EM X F a m) (hb : EM X F b n) (hK : F.K = X.K := by rfl) (hm : behindInMarks .NotIn b = false := by with_unfolding_all rfl) : EM X F (.Compare a [.NotIn] [b] pos) (mBin (inD false) m n) := e_cmpR (op_notInW hK hu) (ok_inW false) ha hb hm
/-! ### is None -/
def isNon : D → Bool
  | .non => true
  | _ => false
def isND (b : Bool) : D → D → R D
  | x, .non => .ok (.bl (if b then isNon x else !isNon x))
  | _, _ => .bad
theorem isN_at {K : PySem.W.Frag} {G : Hp} {d : D} {x : V} (a : At K G d x) : isNon d = decide (x = .non) := by
  cases d <;> simp only [At] at a <;> first
    | (subst a; simp [isNon]; done)
    | (obtain ⟨p, xs, e, _⟩ := a; subst e; simp [isNon]; done)
    | (obtain ⟨p, dx, xs, e, _⟩ := a; subst e; simp [isNon]; done)
theorem t_isN (ha : EM X F a m) (hb : EM X F b n) : TM X F (.Compare a [.Is] [b] pos) (mB (mBin (isND true) m n)) := t_cmpR op_isN (fun σ ρ G H x y dx dy Q r ax ay k => by
  unfold isND at k
  split at k
  · simp only [At] at ay
    rw [isN_at ax] at k
    exact ⟨ay, k _ H G r (Up.refl _ _) (by simp only [At]; rfl)⟩
  · exact k.elim) ha hb (nomark _)
theorem t_notN (ha : EM X F a m) (hb : EM X F b n) : TM X F (.Compare a [.IsNot] [b] pos) (mB (mBin (isND false) m n)) := t_cmpR op_notN (fun σ ρ G H x y dx dy Q r ax ay k => by
  unfold isND at k
  split at k
  · simp only [At] at ay
    rw [isN_at ax] at k
    exact ⟨ay, k _ H G r (Up.refl _ _) (by simp only [At]; rfl)⟩
  · exact k.elim) ha hb (nomark _)
theorem e_isN (ha : EM X F a m) (hb : EM X F b n) : EM X F (.Compare a [.Is] [b] pos) (mBin (isND true) m n) := e_cmpR op_isN (fun σ ρ G H x y dx dy Q r ax ay k => by
  unfold isND at k
  split at k
  · simp only [At] at ay
    rw [isN_at ax] at k
    exact ⟨ay, k _ H G r (Up.refl _ _) (by simp only [At]; rfl)⟩
  · exact k.elim) ha hb (nomark _)
theorem e_notN (ha : EM X F a m) (hb : EM X F b n) : EM X F (.Compare a [.IsNot] [b] pos) (mBin (isND false) m n) := e_cmpR op_notN (fun σ ρ G H x y dx dy Q r ax ay k => by
  unfold isND at k
  split at k
  · simp only [At] at ay
    rw [isN_at ax] at k
    exact ⟨ay, k _ H G r (Up.refl _ _) (by simp only [At]; rfl)⟩
  · exact k.elim) ha hb (nomark _)
/-! ### a < b < c -/
def mChain (f g : D → D → R D) (a b c : ME) : ME := fun ρ => (a ρ).bind fun x => (b ρ).bind fun y => (f x y).bind fun z => (asB z).bind fun k => if k = true then (c ρ).bind fun w => g y w else .ok (.bl false)
def pureR : R D → Bool
  | .ok d => scalD d
  | .exc _ => false
  | .bad => true
theorem i_chain {r r' : R2} {f g : D → D → R D} {l : ME} (hf : OpOk F r f) (hg : OpOk F r' g) : ImpE (tE F (mChain f g m n l)) (tChain r r' (tE F m) (tE F n) (tE F l)) := by
  rintro σ H Q ⟨G, ρ, rl, h⟩
  unfold mChain at h
  refine ⟨G, ρ, rl, ?_⟩
  cases ea : m ρ with
  | bad => rw [ea] at h; exact h.elim
  | exc c => rw [ea] at h; exact h
  | ok dx =>
    rw [ea, R.bind_ok] at h
    intro x H1 G1 r1 s1 ax
    refine ⟨G1, ρ, r1, ?_⟩
    cases eb : n ρ with
    | bad => rw [eb] at h; exact h.elim
    | exc c => rw [eb] at h; exact h
    | ok dy =>
      rw [eb, R.bind_ok] at h
      intro y H2 G2 r2 s2 ay
      refine hf σ ρ G2 H2 x y dx dy _ r2 (ax.mono s2.g) ay ?_
      cases ef : f dx dy with
      | bad => rw [ef] at h; exact h.elim
      | exc c => rw [ef] at h; exact h
      | ok dz =>
        rw [ef, R.bind_ok] at h
        intro z H3 G3 r3 s3 az
        cases dz with
        | bl k =>
          simp only [At] at az
          refine ⟨k, az, ?_⟩
          have h : kE F G H σ ρ Q (if k = true then (l ρ).bind fun w => g dy w else .ok (.bl false)) := h
          cases k with
          | false =>
            rw [if_neg Bool.false_ne_true] at h ⊢
            exact h _ H3 G3 r3 (s1.trans (s2.trans s3)) (by simp only [At])
          | true =>
            rw [if_pos rfl] at h ⊢
            refine ⟨G3, ρ, r3, ?_⟩
            cases ec : l ρ with
            | bad => rw [ec] at h; exact h.elim
            | exc c => rw [ec] at h; exact h
            | ok dw =>
              rw [ec, R.bind_ok] at h
              intro w H4 G4 r4 s4 aw
              exact hg σ ρ G4 H4 y w dy dw Q r4 ((ay.mono s3.g).mono s4.g) aw (h.mono (s1.trans (s2.trans (s3.trans s4))))
        | _ => exact h.elim
theorem e_chain {op op' : CmpOp} {r r' : R2} {f g : D → D → R D} {l : ME} (ho : OpR X (compareOp op) r) (ho' : OpR X (compareOp op') r') (hf : OpOk F r f) (hg : OpOk F r' g) (ha : EM X F a m) (hb : EM X F b n) (hc : EM X F c l) (hm : lastMarks [op, op'] [b, c] = false := by with_unfolding_all rfl) :
    EM X F (.Compare a [op, op'] [b, c] pos) (mChain f g m n l) := PE.imp (pe_chain ho ho' ha hb hc hm) (i_chain hf hg)
theorem t_chain {op op' : CmpOp} {r r' : R2} {f g : D → D → R D} {l : ME} (ho : OpR X (compareOp op) r) (ho' : OpR X (compareOp op') r') (hf : OpOk F r f) (hg : OpOk F r' g) (ha : EM X F a m) (hb : EM X F b n) (hc : EM X F c l) (hm : lastMarks [op, op'] [b, c] = false := by with_unfolding_all rfl) :
    TM X F (.Compare a [op, op'] [b, c] pos) (mB (mChain f g m n l)) := PT.imp (pt_chain ho ho' ha hb hc hm) fun σ H Q h => by
    obtain ⟨G, ρ, r, k⟩ := i_Test (F := F) (m := mChain f g m n l) σ H Q h
    exact i_chain hf hg σ H _ ⟨G, ρ, r, k⟩
theorem ok_lt : OpOk F (rI0 fun i j => .bl (decide (i < j))) ltD := ok_ints0 fun _ _ _ => by simp only [At]
theorem ok_le : OpOk F (rI0 fun i j => .bl (decide (i ≤ j))) leD := ok_ints0 fun _ _ _ => by simp only [At]
theorem ok_gt : OpOk F (rI0 fun i j => .bl (decide (j < i))) gtD := ok_ints0 fun _ _ _ => by simp only [At]
theorem ok_ge : OpOk F (rI0 fun i j => .bl (decide (j ≤ i))) geD := ok_ints0 fun _ _ _ => by simp only [At]
end
end L3
set_option Elab.async false
set_option linter.all false
set_option maxRecDepth 100000
namespace L3
open PySem PySem.Spec L2
section
variable {X : Cx} {F : Fx} {e a b c : Expr} {es : List Expr} {pos p : Pos} {m n : ME} {ma : MA}
/-! ### calls of built-ins -/
def mCB (f : List D → R D) (m : MA) : ME := fun ρ => (m ρ).bind f
def CallOk (F : Fx) (r : List V → Hp → VK → Prop) (f : List D → R D) : Prop := ∀ σ ρ G H xs ds Q, Rel F G H σ ρ → AtL F.K G ds xs → kE F G H σ ρ Q (f ds) → r xs H Q
theorem i_cb {r : List V → Hp → VK → Prop} {f : List D → R D} (hf : CallOk F r f) : ImpE (tE F (mCB f ma)) (tCB r (tA F ma)) := by
  rintro σ H Q ⟨G, ρ, rl, h⟩
  unfold mCB at h
  refine ⟨G, ρ, rl, ?_⟩
  cases ea : ma ρ with
  | bad => rw [ea] at h; exact h.elim
  | exc c => rw [ea] at h; exact h
  | ok ds =>
    rw [ea, R.bind_ok] at h
    intro vs H1 G1 r1 s1 a
    exact hf σ ρ G1 H1 vs ds Q r1 a (h.mono s1)
theorem e_callB {x : Str} {id : String} {r : List V → Hp → VK → Prop} {f : List D → R D} (hc : CallR X (.builtin id) r) (hf : CallOk F r f) (hm : X.mg x = none) (hv : bootBuiltins x = some (.builtin id)) (ha : AM X F (e :: es) ma) (hg : Gl X x := by rfl) (hn : x ≠ "__name__" := by decide) (hdb : (x == ("__debug__" : Str)) = false := by decide)
    (he : starEach (e :: es) X.env = (false, eval e X.env) :: starEach es X.env := by rfl) (hpl : (backTo pos (starEach es X.env)).any (·.1) = false := by rfl) : EM X F (.Call (.Name x p) (e :: es) [] pos) (mCB f ma) :=
  PE.imp (pe_callB hc hg hm hv ha hn hdb he hpl) (i_cb hf)
theorem e_callT {x : Str} {T : String} {r : List V → Hp → VK → Prop} {f : List D → R D} (hc : CallR X (.type T) r) (hf : CallOk F r f) (hm : X.mg x = none) (hv : bootBuiltins x = some (.type T)) (ha : AM X F (e :: es) ma) (hg : Gl X x := by rfl) (hn : x ≠ "__name__" := by decide) (hdb : (x == ("__debug__" : Str)) = false := by decide)
    (he : starEach (e :: es) X.env = (false, eval e X.env) :: starEach es X.env := by rfl) (hpl : (backTo pos (starEach es X.env)).any (·.1) = false := by rfl) : EM X F (.Call (.Name x p) (e :: es) [] pos) (mCB f ma) :=
  PE.imp (pe_callTy hc hg hm hv ha hn hdb he hpl) (i_cb hf)
/-! len -/
def lenD : List D → R D
  | [.str x] => if x.length ≤ 1000000 then .ok (.int x.length) else .bad
  | [.lst xs] => .ok (.int xs.length)
  | [.scr xs] => .ok (.int xs.length)
  | [.tup xs] => .ok (.int xs.length)
  | _ => .bad
theorem AtL.one {K : PySem.W.Frag} {G : Hp} {d : D} {vs : List V} (a : AtL K G [d] vs) : ∃ v, vs = [v] ∧ At K G d v := by
  simp only [AtL] at a
  obtain ⟨v, r, rfl, h, rfl⟩ := a
  exact ⟨v, rfl, h⟩
theorem AtL.two {K : PySem.W.Frag} {G : Hp} {d e : D} {vs : List V} (a : AtL K G [d, e] vs) : ∃ v w, vs = [v, w] ∧ At K G d v ∧ At K G e w := by
  simp only [AtL] at a
  obtain ⟨v, r, rfl, h, w, r', rfl, h', rfl⟩ := a
  exact ⟨v, w, rfl, h, h'⟩
theorem ok_len (hK : F.K = X.K) : CallOk F (fun xs H Q => ∃ x n, xs = [x] ∧ LenV X.K x H n ∧ Q (.int n) H) lenD := by
  intro σ ρ G H xs ds Q r al k
  unfold lenD at k
  split at k
  · rename_i x
    obtain ⟨v, rfl, av⟩ := al.one
    simp only [At] at av; subst av
    split at k
    · rename_i hl
      exact ⟨_, x.length, rfl, ⟨Nat.le_trans hl (by decide), rfl⟩, k _ H G r (Up.refl _ _) (by simp only [At])⟩
    · exact k.elim
  · rename_i ys
    obtain ⟨v, rfl, av⟩ := al.one
    simp only [At] at av
    obtain ⟨q, xs, rfl, h, al⟩ := av
    rw [al.length] at k
    exact ⟨_, xs.length, rfl, .inl ⟨xs, SqL.of (r.kp.sub _ _ h), rfl⟩, k _ H G r (Up.refl _ _) (by simp only [At])⟩
  · rename_i ys
    obtain ⟨v, rfl, av⟩ := al.one
    simp only [At] at av
    obtain ⟨q, xs, rfl, h, al⟩ := av
    rw [al.length] at k
    rw [hK] at h
    exact ⟨_, xs.length, rfl, .inl ⟨xs, SqL.mono r.kp.sub h, rfl⟩, k _ H G r (Up.refl _ _) (by simp only [At])⟩
  · rename_i ys
    obtain ⟨v, rfl, av⟩ := al.one
    simp only [At] at av
    obtain ⟨q, xs, rfl, h, al⟩ := av
    rw [al.length] at k
    rw [hK] at h
    exact ⟨_, xs.length, rfl, .inr ⟨xs, SqT.mono r.kp.sub h, rfl⟩, k _ H G r (Up.refl _ _) (by simp only [At])⟩
  · exact k.elim
theorem e_len (hm : X.mg "len" = none) (ha : AM X F [e] ma) (hK : F.K = X.K := by rfl) (hg : Gl X "len" := by rfl) (he : starEach [e] X.env = (false, eval e X.env) :: starEach [] X.env := by rfl) (hpl : (backTo pos (starEach [] X.env)).any (·.1) = false := by rfl) :
    EM X F (.Call (.Name "len" p) [e] [] pos) (mCB lenD ma) := e_callB call_len (ok_len hK) hm PySem.boot_len ha hg (by decide) (by decide) he hpl
/-! isinstance(x, T), T a built-in type -/
def tyD : D → Option String
  | .non => some "NoneType"
  | .bl _ => some "bool"
  | .int _ => some "int"
  | .str _ => some "str"
  | .lst _ => some "list"
  | .scr _ => some "list"
  | .tup _ => some "tuple"
  | .dK _ _ => some "dict"
  | .dT _ _ => some "dict"
  | _ => none
def subTy (T U : String) : Bool := T == U || (T == "bool" && U == "int")
def isiD (U : String) (d : D) : R D := match tyD d with
  | some T => .ok (.bl (subTy T U))
  | none => .bad
/-- what the model says of two built-in types -/
def TyTab (K : PySem.W.Frag) (U : String) : Prop := ∀ T, T = "NoneType" ∨ T = "bool" ∨ T = "int" ∨ T = "str" ∨ T = "list" ∨ T = "tuple" ∨ T = "dict" → PySem.W.kitOne K (.type T) (.type U) = some (subTy T U)
theorem tt_int (K : PySem.W.Frag) : TyTab K "int" := fun T h => by rcases h with rfl | rfl | rfl | rfl | rfl | rfl | rfl <;> kernel_rfl
theorem tt_bool (K : PySem.W.Frag) : TyTab K "bool" := fun T h => by rcases h with rfl | rfl | rfl | rfl | rfl | rfl | rfl <;> kernel_rfl
theorem tt_str (K : PySem.W.Frag) : TyTab K "str" := fun T h => by rcases h with rfl | rfl | rfl | rfl | rfl | rfl | rfl <;> kernel_rfl
theorem tt_list (K : PySem.W.Frag) : TyTab K "list" := fun T h => by rcases h with rfl | rfl | rfl | rfl | rfl | rfl | rfl <;> kernel_rfl
theorem tt_tuple (K : PySem.W.Frag) : TyTab K "tuple" := fun T h => by rcases h with rfl | rfl | rfl | rfl | rfl | rfl | rfl <;> kernel_rfl
theorem tt_dict (K : PySem.W.Frag) : TyTab K "dict" := fun T h => by rcases h with rfl | rfl | rfl | rfl | rfl | rfl | rfl <;> kernel_rfl
theorem isi_core {pins : List (Addr × Obj)} {σ : St} {H G : Hp} {s : Shared} {Q : Value → Shared → Prop} {E : Value → Shared → Prop} {d : D} {x : V} {u : Value} {T U : String} {k : Bool} (I : Inv X pins σ H s) (sg : Sub G H) (at' : At X.K G d x) (rx : RelV x u) (e : tyD d = some T)
    (tt : PySem.W.kitOne X.K (.type T) (.type U) = some k) (h : ∀ tk, Q (.bool k) { s with toks := tk }) : wpAny (model X.prog X.w) X.A (call (.builtin "isinstance") [u, .type U]) Q E s := by
  cases d with
  | non =>
    cases e; simp only [At] at at'; subst at'; cases rx
    exact PySem.W.kia_one PySem.W.kitx_none I.kIn True.intro tt (fun z => nomatch z) h
  | bl b =>
    cases e; simp only [At] at at'; subst at'; cases rx
    exact PySem.W.kia_one PySem.W.kitx_bool I.kIn True.intro tt (fun z => nomatch z) h
  | int b =>
    cases e; simp only [At] at at'; subst at'; obtain ⟨t, rfl⟩ := rx
    exact PySem.W.kia_one PySem.W.kitx_int I.kIn True.intro tt (fun z => nomatch z) h
  | str b =>
    cases e; simp only [At] at at'; subst at'; obtain ⟨t, rfl⟩ := rx
    exact PySem.W.kia_one PySem.W.kitx_str I.kIn True.intro tt (fun z => nomatch z) h
  | lst ds =>
    cases e; simp only [At] at at'
    obtain ⟨q, xs, rfl, hq, _⟩ := at'
    cases rx
    obtain ⟨its, _, ⟨o, n, e1, e2, _⟩, _⟩ := I.list (SqL.of (sg _ _ hq))
    exact PySem.W.kia_one PySem.W.kitx_list I.kIn ⟨o, e1, e2⟩ tt (fun z => nomatch z) h
  | scr ds =>
    cases e; simp only [At] at at'
    obtain ⟨q, xs, rfl, hq, _⟩ := at'
    cases rx
    obtain ⟨its, _, ⟨o, n, e1, e2, _⟩, _⟩ := I.list (SqL.mono sg hq)
    exact PySem.W.kia_one PySem.W.kitx_list I.kIn ⟨o, e1, e2⟩ tt (fun z => nomatch z) h
  | tup ds =>
    cases e; simp only [At] at at'
    obtain ⟨q, xs, rfl, hq, _⟩ := at'
    cases rx
    obtain ⟨its, _, ⟨o, e1, e2, _⟩, _⟩ := I.tuple (SqT.mono sg hq)
    exact PySem.W.kia_one PySem.W.kitx_tuple I.kIn ⟨o, e1, e2⟩ tt (fun z => nomatch z) h
  | dK ks ds =>
    cases e; simp only [At] at at'
    obtain ⟨q, xs, rfl, hq, _⟩ := at'
    cases rx
    obtain ⟨_, _, vs, _, o, es, ep, h1, h2, _⟩ := (show ObjOk X.prog X.w H s.heap q (.dK xs) from I.hok q _ (sg _ _ hq))
    exact PySem.W.kia_one PySem.W.kitx_dict I.kIn ⟨o, h1, h2.1⟩ tt (fun z => nomatch z) h
  | dT ks ds =>
    cases e; simp only [At] at at'
    obtain ⟨q, xs, rfl, hq, _⟩ := at'
    cases rx
    obtain ⟨_, _, zs, _, o, es, ep, h1, h2, _⟩ := (show ObjOk X.prog X.w H s.heap q (.dT xs) from I.hok q _ (sg _ _ hq))
    exact PySem.W.kia_one PySem.W.kitx_dict I.kIn ⟨o, h1, h2.1⟩ tt (fun z => nomatch z) h
  | ins C ns ds => cases e
theorem tyD_of {d : D} {T : String} (e : tyD d = some T) : T = "NoneType" ∨ T = "bool" ∨ T = "int" ∨ T = "str" ∨ T = "list" ∨ T = "tuple" ∨ T = "dict" := by
  cases d <;> cases e <;> simp
def rIsi (F : Fx) (U : String) : List V → Hp → VK → Prop := fun xs H Q => ∃ G d x T, Sub G H ∧ xs = [x, .ty U] ∧ At F.K G d x ∧ tyD d = some T ∧ Q (.bl (subTy T U)) H
theorem call_isi {U : String} (hK : F.K = X.K) (tt : TyTab X.K U) : CallR X (.builtin "isinstance") (rIsi F U) := by
  intro pins s σ H xs us Q I r h
  obtain ⟨G, d, x, T, sg, rfl, a, e, q⟩ := h
  obtain ⟨u, w', rfl, rx, ru⟩ := vals2 r
  obtain rfl : w' = Value.type U := ru
  rw [hK] at a
  exact isi_core I sg a rx e (tt T (tyD_of e)) fun tk => ⟨.bl _, H, I.tok tk, rfl, q⟩
/-- isinstance(a, U) -/
theorem e_isi {U : Str} {T : String} {p2 : Pos} (tt : TyTab X.K T) (hm : X.mg "isinstance" = none) (hmU : X.mg U = none) (hU : bootBuiltins U = some (.type T)) (ha : EM X F a m) (hK : F.K = X.K := by rfl) (hg : Gl X "isinstance" := by rfl) (hgU : Gl X U := by rfl)
    (hnU : U ≠ "__name__" := by decide) (hdU : (U == ("__debug__" : Str)) = false := by decide)
    (hs2 : starEach [.Name U p2] X.env = (false, eval (.Name U p2) X.env) :: starEach [] X.env := by rfl)
    (he : starEach [a, .Name U p2] X.env = (false, eval a X.env) :: starEach [.Name U p2] X.env := by rfl) (hpl : (backTo pos (starEach [.Name U p2] X.env)).any (·.1) = false := by rfl) :
    EM X F (.Call (.Name "isinstance" p) [a, .Name U p2] [] pos) (mUn (isiD T) m) := by
  have hb : bootBuiltins "isinstance" = some (.builtin "isinstance") := by kernel_rfl
  refine PE.imp (pe_callB (call_isi hK tt) hg hm hb (pa_cons ha (pa_cons (pe_bltn hgU hmU hU (v := .ty T) rfl hnU hdU) pa_nil hs2) he) (by decide) (by decide) he hpl) ?_
  rintro σ H Q ⟨G, ρ, r, h⟩
  unfold mUn at h
  refine ⟨G, ρ, r, ?_⟩
  cases ea : m ρ with
  | bad => rw [ea] at h; exact h.elim
  | exc c => rw [ea] at h; exact h
  | ok d =>
    rw [ea, R.bind_ok] at h
    intro x H1 G1 r1 s1 ax
    unfold isiD at h
    cases e : tyD d with
    | none => rw [e] at h; exact h.elim
    | some T' =>
      rw [e] at h
      exact ⟨G1, d, x, T', r1.kp.sub, rfl, ax, e, h _ H1 G1 r1 s1 (by simp only [At])⟩
/-! ### items -/
def ixD : D → D → R D
  | .lst xs, .int i => match atI xs i with | some d => .ok d | none => .bad
  | .scr xs, .int i => match atI xs i with | some d => .ok d | none => .bad
  | .tup xs, .int i => match atI xs i with | some d => .ok d | none => .bad
  | .str x, .int i => if x.length ≤ 1000000 then match atI x.cps.toList i with | some c => .ok (.str ⟨#[c]⟩) | none => .bad else .bad
  | _, _ => .bad
theorem atI_at {K : PySem.W.Frag} {G : Hp} {ds : List D} {xs : List V} {i : Int} {d : D} (q : AtL K G ds xs) (e : atI ds i = some d) : ∃ v, atI xs i = some v ∧ At K G d v := by
  unfold atI at e ⊢
  rw [q.length] at e
  cases ej : ixN xs.length i with
  | none => rw [ej] at e; cases e
  | some j =>
    rw [ej] at e
    obtain ⟨v, e1, a⟩ := q.get e
    exact ⟨v, e1, a⟩
theorem ok_ix (hK : F.K = X.K) : OpOk F (rIx X.K) ixD := by
  intro σ ρ G H x y dx dy Q r ax ay k
  unfold ixD at k
  split at k
  · rename_i ds i
    simp only [At] at ax ay
    obtain ⟨p, xs, e, h, q⟩ := ax
    split at k
    · rename_i d ed
      obtain ⟨v, ev, av⟩ := atI_at q ed
      exact .inl ⟨p, xs, i, v, e, ay, SqL.of (r.kp.sub _ _ h), ev, k _ H G r (Up.refl _ _) av⟩
    · exact k.elim
  · rename_i ds i
    simp only [At] at ax ay
    obtain ⟨p, xs, e, h, q⟩ := ax
    split at k
    · rename_i d ed
      obtain ⟨v, ev, av⟩ := atI_at q ed
      have h' := h
      rw [hK] at h'
      exact .inl ⟨p, xs, i, v, e, ay, SqL.mono r.kp.sub h', ev, k _ H G r (Up.refl _ _) av⟩
    · exact k.elim
  · rename_i ds i
    simp only [At] at ax ay
    obtain ⟨p, xs, e, h, q⟩ := ax
    split at k
    · rename_i d ed
      obtain ⟨v, ev, av⟩ := atI_at q ed
      have h' := h
      rw [hK] at h'
      exact .inr (.inl ⟨p, xs, i, v, e, ay, SqT.mono r.kp.sub h', ev, k _ H G r (Up.refl _ _) av⟩)
    · exact k.elim
  · rename_i z i
    simp only [At] at ax ay
    split at k
    · rename_i hl
      split at k
      · rename_i c ec
        exact .inr (.inr ⟨z, i, c, ax, ay, Nat.le_trans hl (by decide), ec, k _ H G r (Up.refl _ _) (by simp only [At])⟩)
      · exact k.elim
    · exact k.elim
  · exact k.elim
theorem e_ix (ha : EM X F a m) (hb : EM X F b n) (hs : PlainIx b) (hK : F.K = X.K := by rfl) : EM X F (.Subscript a b pos) (mBin ixD m n) := PE.imp (pe_ix ix_seq ha hb hs) (i_bin (ok_ix hK))
end
end L3
set_option Elab.async false
set_option linter.all false
set_option maxRecDepth 100000
namespace L3
open PySem PySem.Spec L2
section
variable {X : Cx} {F : Fx} {e a b c : Expr} {es : List Expr} {pos p : Pos} {m n : ME} {ma : MA}
/-! ### slices -/
def cutL {α : Type} (xs : List α) (lo hi : Option Int) : List α := (xs.drop (HT.sIx xs.length 0 lo)).take (HT.sIx xs.length xs.length hi - HT.sIx xs.length 0 lo)
def cutS (x : Str) (lo hi : Option Int) : Str := ⟨(cutL x.cps.toList lo hi).toArray⟩
theorem strIx (lo hi : Option Int) (n : Nat) : Builtin.Str.strSliceIndices lo hi 1 n = (List.range (HT.sIx n n hi - HT.sIx n 0 lo)).map (HT.sIx n 0 lo + ·) := by
  rw [← sliceRange_one]
  unfold Builtin.Str.strSliceIndices
  simp only [show (1 : Int) > 0 by decide, if_true]
  congr 1
  · cases lo with
    | none => rfl
    | some i =>
      show max 0 (min (if i < 0 then i + (n : Int) else i) (n : Int)) = ((if i < 0 then (i + (n : Int)).toNat else min i.toNat n : Nat) : Int)
      split <;> omega
  · cases hi with
    | none => rfl
    | some i =>
      show max 0 (min (if i < 0 then i + (n : Int) else i) (n : Int)) = ((if i < 0 then (i + (n : Int)).toNat else min i.toNat n : Nat) : Int)
      split <;> omega
theorem sIx_le (n : Nat) (v : Option Int) {d : Nat} (hd : d ≤ n) : HT.sIx n d v ≤ n := by
  cases v with
  | none => exact hd
  | some i =>
    show (if i < 0 then (i + (n : Int)).toNat else min i.toNat n) ≤ n
    split <;> omega
theorem slice_cut (x : Str) (lo hi : Option Int) : Txt.slice x lo hi = cutS x lo hi := by
  have hl : x.cps.toList.length = x.length := by simp [Str.length]
  unfold Txt.slice cutS cutL
  rw [strIx, hl]
  split
  · rename_i h
    have h : HT.sIx x.length x.length hi - HT.sIx x.length 0 lo = x.length := by simpa using h
    have h1 := sIx_le x.length hi (Nat.le_refl _)
    have h2 : HT.sIx x.length 0 lo = 0 ∨ x.length = 0 := by omega
    have e : (x.cps.toList.drop (HT.sIx x.length 0 lo)).take (HT.sIx x.length x.length hi - HT.sIx x.length 0 lo) = x.cps.toList := by
      rw [h]
      rcases h2 with z | z
      · rw [z, List.drop_zero, List.take_of_length_le (by omega)]
      · have e0 : x.cps.toList = [] := List.length_eq_zero_iff.mp (by omega)
        rw [e0]; simp
    rw [e]
  · rw [pick_run]
def rSlS : V → Option Int → Option Int → Hp → VK → Prop := fun x lo hi H Q => ∃ z, x = .str z ∧ z.length ≤ sizeLine ∧ Q (.str (cutS z lo hi)) H
theorem part_is {v : Value} {o : Option Int} (h : IsPart v o) : ∃ l : Option (Int × Tok), v = partValue l ∧ l.map (·.1) = o := by
  cases h with
  | none => exact ⟨none, rfl, rfl⟩
  | int i t => exact ⟨some (i, t), rfl, rfl⟩
theorem sl_str : SlR X rSlS := by
  intro pins s σ H x v vl vu lo hi sl Q I rx hs pl pu h
  obtain ⟨z, rfl, hz, q⟩ := h
  obtain ⟨t, rfl⟩ := rx
  obtain ⟨l, rfl, el⟩ := part_is pl
  obtain ⟨u, rfl, eu⟩ := part_is pu
  refine ⟨"str", _, F.slot_str_getitem.lookup, typeIs_str s z t, wpAny_getItem_str_slice (l := l) (u := u) (st := none) ?_ rfl ?_⟩
  · obtain ⟨o, h1, h2, h3⟩ := hs
    exact ⟨o, h1, h2, h3⟩
  · have e : Txt.slice z lo hi = cutS z lo hi := slice_cut z lo hi
    have fin : ∀ t' k, EP X pins σ Q (.str (Txt.slice z lo hi) t') { s with toks := k } := fun t' k => ⟨.str (cutS z lo hi), H, I.tok k, ⟨t', by rw [e]⟩, q⟩
    unfold Txt.slice at fin
    subst el eu
    exact post_val_or_str ⟨Nat.le_trans (Txt.slice_le z _ _) hz, fin⟩
abbrev MP := Rho → R (Option Int)
def mNoP : MP := fun _ => .ok none
def intD : D → R (Option Int)
  | .int i => .ok (some i)
  | _ => .bad
def mPart (m : ME) : MP := fun ρ => (m ρ).bind intD
def kP (F : Fx) (G H : Hp) (σ : St) (ρ : Rho) (Q : Option Int → Hp → Prop) : R (Option Int) → Prop
  | .ok o => ∀ H' G', Rel F G' H' σ ρ → Up G H G' H' → Q o H'
  | .exc c => kX F c
  | .bad => False
def tP (F : Fx) (m : MP) : TO := fun σ H Q => ∃ G ρ, Rel F G H σ ρ ∧ kP F G H σ ρ Q (m ρ)
abbrev PM (X : Cx) (F : Fx) (e : Option Expr) (m : MP) : Prop := PO X e (tP F m)
theorem p_no : PM X F none mNoP := fun pins s σ H Q I h => by
  obtain ⟨G, ρ, r, k⟩ := h
  exact po_none pins s σ H Q I (k H G r (Up.refl _ _))
theorem p_some (h : EM X F e m) : PM X F (some e) (mPart m) := fun pins s σ H Q I hw => by
  obtain ⟨G, ρ, r, k⟩ := hw
  refine po_some h pins s σ H Q I ⟨G, ρ, r, ?_⟩
  unfold mPart at k
  cases ea : m ρ with
  | bad => rw [ea] at k; exact k.elim
  | exc c => rw [ea] at k; exact k
  | ok d =>
    rw [ea, R.bind_ok] at k
    intro x H1 G1 r1 s1 ax
    cases d with
    | int i => simp only [At] at ax; exact ⟨i, ax, k H1 G1 r1 s1⟩
    | _ => exact k.elim
def mSl (f : D → Option Int → Option Int → R D) (m : ME) (lo hi : MP) : ME := fun ρ => (m ρ).bind fun d => (lo ρ).bind fun l => (hi ρ).bind fun h => f d l h
def slD (d : D) (l h : Option Int) : R D := match d with
  | .lst xs => .ok (.lst (cutL xs l h))
  | .scr xs => .ok (.lst (cutL xs l h))
  | .str x => if x.length ≤ 1000000 then .ok (.str (cutS x l h)) else .bad
  | _ => .bad
theorem AtL.cut {K : PySem.W.Frag} {G : Hp} {ds : List D} {xs : List V} (q : AtL K G ds xs) (l h : Option Int) : AtL K G (cutL ds l h) (cutV xs l h) := by
  unfold cutL cutV
  rw [q.length]
  exact (q.drop _).take _
theorem i_sl (hK : F.K = X.K) {lo hi : MP} : ImpE (tE F (mSl slD m lo hi)) (tSl (fun x lo hi H Q => rSlL X.K x lo hi H Q ∨ rSlS x lo hi H Q) (tE F m) (tP F lo) (tP F hi)) := by
  rintro σ H Q ⟨G, ρ, r, h⟩
  unfold mSl at h
  refine ⟨G, ρ, r, ?_⟩
  cases ea : m ρ with
  | bad => rw [ea] at h; exact h.elim
  | exc c => rw [ea] at h; exact h
  | ok d =>
    rw [ea, R.bind_ok] at h
    intro x H1 G1 r1 s1 ax
    refine ⟨G1, ρ, r1, ?_⟩
    cases el : lo ρ with
    | bad => rw [el] at h; exact h.elim
    | exc c => rw [el] at h; exact h
    | ok l =>
      rw [el, R.bind_ok] at h
      intro H2 G2 r2 s2
      refine ⟨G2, ρ, r2, ?_⟩
      cases eh : hi ρ with
      | bad => rw [eh] at h; exact h.elim
      | exc c => rw [eh] at h; exact h
      | ok u =>
        rw [eh, R.bind_ok] at h
        intro H3 G3 r3 s3
        have up := s1.trans (s2.trans s3)
        have ax3 := (ax.mono s2.g).mono s3.g
        cases d with
        | lst ds =>
          simp only [At] at ax3
          obtain ⟨q, xs, rfl, hq, al⟩ := ax3
          refine .inl ⟨q, xs, rfl, SqL.of (r3.kp.sub _ _ hq), fun l2 hn => ?_⟩
          refine h (.ref l2) _ _ (r3.lay hn) (up.trans (Up.lay r3.kp.sub hn)) ?_
          simp only [At]
          exact ⟨l2, _, rfl, upd_same, (al.cut l u).mono (Sub.upd (r3.kp.sub.gone hn))⟩
        | scr ds =>
          simp only [At] at ax3
          obtain ⟨q, xs, rfl, hq, al⟩ := ax3
          have hq' := hq
          rw [hK] at hq'
          refine .inl ⟨q, xs, rfl, SqL.mono r3.kp.sub hq', fun l2 hn => ?_⟩
          refine h (.ref l2) _ _ (r3.lay hn) (up.trans (Up.lay r3.kp.sub hn)) ?_
          simp only [At]
          exact ⟨l2, _, rfl, upd_same, (al.cut l u).mono (Sub.upd (r3.kp.sub.gone hn))⟩
        | str z =>
          simp only [At] at ax3
          have h : kE F G H σ ρ Q (if z.length ≤ 1000000 then .ok (.str (cutS z l u)) else .bad) := h
          split at h
          · rename_i hz
            exact .inr ⟨z, ax3, Nat.le_trans hz (by decide), h _ H3 G3 r3 up (by simp only [At])⟩
          · exact h.elim
        | _ => exact h.elim
theorem e_sl {lo hi : Option Expr} {p2 : Pos} {ml mh : MP} (ha : EM X F a m) (hl : PM X F lo ml) (hh : PM X F hi mh) (hK : F.K = X.K := by rfl) : EM X F (.Subscript a (.Slice lo hi none p2) pos) (mSl slD m ml mh) := PE.imp (pe_slice (sl_list.or sl_str) ha hl hh) (i_sl hK)
/-! ### str(int), int(text), int(int), list(x), tuple(x) -/
def strD : List D → R D
  | [.int i] => if i.natAbs.log2 < 1920 then .ok (.str (toString i)) else .bad
  | _ => .bad
theorem ok_str : CallOk F (fun xs H Q => ∃ i, xs = [.int i] ∧ i.natAbs.log2 < 1920 ∧ Q (.str (toString i)) H) strD := by
  intro σ ρ G H xs ds Q r al k
  unfold strD at k
  split at k
  · rename_i i
    split at k
    · rename_i hl
      exact ⟨i, al.ints1, hl, k _ H G r (Up.refl _ _) (by simp only [At])⟩
    · exact k.elim
  · exact k.elim
theorem e_strI (hm : X.mg "str" = none) (ha : AM X F [e] ma) (hg : Gl X "str" := by rfl) (he : starEach [e] X.env = (false, eval e X.env) :: starEach [] X.env := by rfl) (hpl : (backTo pos (starEach [] X.env)).any (·.1) = false := by rfl) :
    EM X F (.Call (.Name "str" p) [e] [] pos) (mCB strD ma) := e_callT call_str_int ok_str hm (by kernel_rfl) ha hg (by decide) (by decide) he hpl
def toIntD : List D → R D
  | [.int i] => .ok (.int i)
  | [.str x] => if x.length ≤ 640 then match intText? x with | some i => .ok (.int i) | none => .bad else .bad
  | _ => .bad
theorem call_intT : CallR X (.type "int") (fun xs H Q => (∃ i, xs = [.int i] ∧ Q (.int i) H) ∨ ∃ x i, xs = [.str x] ∧ x.length ≤ 640 ∧ intText? x = some i ∧ Q (.int i) H) := by
  intro pins s σ H xs us Q I r h
  rcases h with ⟨i, rfl, q⟩ | ⟨x, i, rfl, hl, hi, q⟩
  · obtain ⟨u, rfl, t, rfl⟩ := vals1 r
    exact call_int_int ⟨.int i, H, I, ⟨_, rfl⟩, q⟩
  · obtain ⟨u, rfl, t, rfl⟩ := vals1 r
    exact PySem.W.KIN.call_text hi hl ⟨.int i, H, I.tok _, ⟨_, rfl⟩, q⟩
theorem ok_toInt : CallOk F (fun xs H Q => (∃ i, xs = [.int i] ∧ Q (.int i) H) ∨ ∃ x i, xs = [.str x] ∧ x.length ≤ 640 ∧ intText? x = some i ∧ Q (.int i) H) toIntD := by
  intro σ ρ G H xs ds Q r al k
  unfold toIntD at k
  split at k
  · rename_i i
    exact .inl ⟨i, al.ints1, k _ H G r (Up.refl _ _) (by simp only [At])⟩
  · rename_i x
    split at k
    · rename_i hl
      split at k
      · rename_i i hi
        obtain ⟨v, rfl, av⟩ := al.one
        simp only [At] at av; subst av
        exact .inr ⟨x, i, rfl, hl, hi, k _ H G r (Up.refl _ _) (by simp only [At])⟩
      · exact k.elim
    · exact k.elim
  · exact k.elim
theorem e_toInt (hm : X.mg "int" = none) (ha : AM X F [e] ma) (hg : Gl X "int" := by rfl) (he : starEach [e] X.env = (false, eval e X.env) :: starEach [] X.env := by rfl) (hpl : (backTo pos (starEach [] X.env)).any (·.1) = false := by rfl) :
    EM X F (.Call (.Name "int" p) [e] [] pos) (mCB toIntD ma) := e_callT call_intT ok_toInt hm (by kernel_rfl) ha hg (by decide) (by decide) he hpl
end
end L3
set_option Elab.async false
set_option linter.all false
set_option maxRecDepth 100000
namespace L2
open PySem PySem.Spec
section
variable {prog : Program} {w : World} {A : Around} {E : Value → Shared → Prop} {s : Shared}
/-! ### the next thing of a tuple's iterator -/
theorem nextOf_tuple_item {it t : Addr} {i : Nat} {items : Array Value} {x : Value} {Q : Value → Shared → Prop} (hit : s.heap.IsTupleIter it t i) (ht : s.heap.IsTuple t items) (hx : items[i]? = some x)
    (hQ : ∀ h', h'.IsTupleIter it t (i + 1) → Heap.SameBut it s.heap h' → Q x { s with heap := h' }) : wpAny (model prog w) A (Builtin.SmallTypes.nextOf (.ref it)) Q E s := by
  obtain ⟨o, ho, hc, hd⟩ := id hit
  obtain ⟨ol, hol, _, nl, hdl⟩ := ht
  unfold Builtin.SmallTypes.nextOf
  refine wpAny_bind (wpAny_callSpecial?_slot (name := Str.ofString "__next__") hit.typeIs F.slot_tuple_iterator_next
    (wpAny_call_entry F.slot_tuple_iterator_next hit.typeIs F.entry_tuple_iterator_next ?_ (F.args_tuple_iterator_next_1 _)))
  show wpAny _ _ (field (.ref it) 0 >>= _) _ _ s
  refine wpAny_bind (wpAny_field ho hd (x := .ref t) rfl ?_)
  show wpAny _ _ (if (Value.ref t == Value.none) = true then _ else _) _ _ s
  rw [if_neg (show ¬ ((Value.ref t == Value.none) = true) from Bool.false_ne_true)]
  show wpAny _ _ (field (.ref it) 1 >>= _) _ _ s
  refine wpAny_bind (wpAny_field ho hd (x := .int i 0) rfl ?_)
  show wpAny _ _ (seqItems? (.ref t) >>= _) _ _ s
  refine wpAny_bind (wpAny_seqItems hol hdl ?_)
  simp only [Int.toNat_natCast, hx]
  refine wpAny_bind (wpAny_setField ho hd (by simp) (wpAny_pure ⟨x, rfl, wpAny_pure (hQ _ ?_ (Heap.SameBut.update ..))⟩))
  exact ⟨_, Heap.get?_update_self _ ho (Obj.isFreed_of_fields (Obj.data_mapFields hd _)), (Obj.cls_mapFields ..).trans hc, by
    rw [Obj.data_mapFields hd]; simp [rawInt]⟩
theorem nextOf_tuple_end {it t : Addr} {i : Nat} {items : Array Value} {Q : Value → Shared → Prop} (hh : A.handled = none) (hit : s.heap.IsTupleIter it t i) (ht : s.heap.IsTuple t items) (hx : items[i]? = none)
    (hE : ∀ h' e, Heap.ExtBut it s.heap h' → (∃ o, h'.get? e = some o ∧ o.cls = .type "StopIteration") → E (.ref e) { s with heap := h' }) : wpAny (model prog w) A (Builtin.SmallTypes.nextOf (.ref it)) Q E s := by
  obtain ⟨o, ho, hc, hd⟩ := id hit
  obtain ⟨ol, hol, _, nl, hdl⟩ := ht
  unfold Builtin.SmallTypes.nextOf
  refine wpAny_bind (wpAny_callSpecial?_slot (name := Str.ofString "__next__") hit.typeIs F.slot_tuple_iterator_next
    (wpAny_call_entry F.slot_tuple_iterator_next hit.typeIs F.entry_tuple_iterator_next ?_ (F.args_tuple_iterator_next_1 _)))
  show wpAny _ _ (field (.ref it) 0 >>= _) _ _ s
  refine wpAny_bind (wpAny_field ho hd (x := .ref t) rfl ?_)
  show wpAny _ _ (if (Value.ref t == Value.none) = true then _ else _) _ _ s
  rw [if_neg (show ¬ ((Value.ref t == Value.none) = true) from Bool.false_ne_true)]
  show wpAny _ _ (field (.ref it) 1 >>= _) _ _ s
  refine wpAny_bind (wpAny_field ho hd (x := .int i 0) rfl ?_)
  show wpAny _ _ (seqItems? (.ref t) >>= _) _ _ s
  refine wpAny_bind (wpAny_seqItems hol hdl ?_)
  simp only [Int.toNat_natCast, hx]
  refine wpAny_bind (wpAny_rule (wpAny_bind (wpAny_setField ho hd (by simp) ?_)))
  show wpAny _ _ (newExc (.type "StopIteration") [] >>= _) _ _ _
  refine wpAny_bind ?_
  simp only [newExc, newTuple]
  refine wpAny_bind (wpAny_newObj_type ?_ (by size_fits))
  refine wpAny_bind (m := firstArgMember _ _) (wpAny_of_eq (a := Value.none) (by first | rfl | (simp only [firstArgMember]; rfl)) ?_)
  refine wpAny_newObj_type ?_ (by size_fits)
  simp only [raiseNew]
  refine wpAny_bind (wpAny_handled ?_)
  first | rw [show A.in1.handled = none from hh] | rw [hh]
  refine wpAny_bind (wpAny_pure (wpAny_throw ?_))
  exact hE _ _ (((Heap.SameBut.update ..).extBut.push _).push _) ⟨_, Heap.get?_push_size _ rfl, rfl⟩
theorem draws_tuple (hh : A.handled = none) (it l : Addr) (hne : l ≠ it) (items : Array Value) :
    Draws prog w A it [it, l] items.size (fun i v => items[i]? = some v) (fun i h => h.IsTupleIter it l i ∧ h.IsTuple l items) where
  live := fun _ _ st => let ⟨o, ho, _⟩ := st.1; ⟨o, ho⟩
  frame := fun _ _ _ st hk => ⟨st.1.at fun o e => hk it (by simp) o e, st.2.at fun o e => hk l (by simp) o e⟩
  item := fun i s Q E hi st hQ => by
    refine nextOf_tuple_item st.1 st.2 (x := items[i]) (by simp [hi]) fun h' hit' hs' => ?_
    exact hQ _ h' s.toks (by simp [hi]) ⟨hit', st.2.extBut hs'.extBut hne⟩ hs'
  done := fun s Q E st hE => nextOf_tuple_end hh st.1 st.2 (by simp) hE
/-! ### zip of two, each drawn by its own iterator -/
structure ZAp (z TI TO i1 i2 : Addr) (f1 f2 : List Addr) : Prop where
  TIz : TI ≠ z
  TOz : TO ≠ z
  TITO : TI ≠ TO
  TIi1 : TI ≠ i1
  TIi2 : TI ≠ i2
  TOi1 : TO ≠ i1
  TOi2 : TO ≠ i2
  i1z : i1 ≠ z
  i2z : i2 ≠ z
  i12 : i1 ≠ i2
  f1z : z ∉ f1
  f1TO : TO ∉ f1
  f1i2 : i2 ∉ f1
  f2z : z ∉ f2
  f2TO : TO ∉ f2
  f2i1 : i1 ∉ f2
theorem frz_of {fp : List Addr} {n : Nat} {P : Nat → Value → Prop} {St : Nat → Heap → Prop} {it b : Addr} {h h' : Heap} {i : Nat} (D : Draws prog w A it fp n P St) (st : St i h) (hs : Heap.SameBut b h h') (hb : b ∉ fp) : St i h' :=
  D.frame i h h' st fun c hc o e => hs.extBut c o (fun z => hb (z ▸ hc)) e
theorem zipD_item {z TI TO i1 i2 : Addr} {f1 f2 : List Addr} {n1 n2 i : Nat} {P1 P2 : Nat → Value → Prop} {St1 St2 : Nat → Heap → Prop} {a b : Value} {Q : Value → Shared → Prop} (D1 : Draws prog w A i1 f1 n1 P1 St1) (D2 : Draws prog w A i2 f2 n2 P2 St2) (ap : ZAp z TI TO i1 i2 f1 f2)
    (hz : IsZip s.heap z TI TO .none) (hTI : IsPair s.heap TI (.ref i1) (.ref i2)) (hTO : IsPair s.heap TO a b) (h1 : St1 i s.heap) (h2 : St2 i s.heap) (l1 : i < n1) (l2 : i < n2)
    (hQ : ∀ x y h' tk, P1 i x → P2 i y → IsZip h' z TI TO (rawInt s.heap.objs.size) → IsPair h' TO x y → St1 (i + 1) h' → St2 (i + 1) h' → IsPair h' s.heap.objs.size x y → h'.objs.size = s.heap.objs.size + 1 →
      (∀ c o, c ≠ z → c ≠ TO → c ≠ i1 → c ≠ i2 → s.heap.get? c = some o → h'.get? c = some o) → Q (.ref s.heap.objs.size) { s with heap := h', toks := tk }) :
    wpAny (model prog w) A (Builtin.«zip.__next__» ⟨[.ref z], []⟩) (fun fin s' => ∃ v, fin = .done (.ret v) ∧ Q v s') E s := by
  show wpAny _ _ (field (.ref z) 2 >>= _) _ _ _
  refine wpAny_bind (wpAny_field hz rfl (x := .bool false) rfl ?_)
  show wpAny _ _ (field (.ref z) 3 >>= _) _ _ _
  refine wpAny_bind (wpAny_field hz rfl (x := .ref TI) rfl ?_)
  refine wpAny_bind (wpAny_seqItems hTI rfl ?_)
  show wpAny _ _ (Builtin.SmallTypes.ownedTupleIsFree (.ref z) >>= _) _ _ _
  refine wpAny_bind ?_
  unfold Builtin.SmallTypes.ownedTupleIsFree
  refine wpAny_bind (wpAny_field hz rfl (x := .none) rfl (wpAny_pure ?_))
  simp only [if_true]
  refine wpAny_bind (wpAny_rule ?_)
  refine wpAny_bind (wpAny_field hz rfl (x := .ref TO) rfl ?_)
  refine wpAny_bind (wpAny_setField_rec hz (by simp) fun h₁ hz₁ hs₁ => ?_)
  replace hz₁ : IsZip h₁ z TI TO .ellipsis := hz₁
  refine wpAny_bind ?_
  simp only [List.zipIdx_cons, List.zipIdx_nil, List.forIn_cons, List.forIn_nil]
  refine wpAny_bind (wpAny_bind (wpAny_onRaise ?_))
  show wpAny _ _ (Builtin.SmallTypes.nextOf (.ref i1) >>= _) _ _ _
  refine wpAny_bind (D1.item i _ _ _ l1 (frz_of D1 h1 hs₁ ap.f1z) fun x h₂ t₂ hx st₂ hs₂ => wpAny_pure ?_)
  have hTO₂ : IsPair h₂ TO a b := hs₂.extBut _ _ ap.TOi1 (hs₁.extBut _ _ ap.TOz hTO)
  refine wpAny_bind (wpAny_seqItems hTO₂ rfl ?_)
  refine wpAny_bind (wpAny_updateSeq_pair hTO₂ fun h₃ hTO₃ hs₃ => ?_)
  replace hTO₃ : IsPair h₃ TO x b := hTO₃
  refine wpAny_bind (wpAny_letGo (wpAny_pure ?_))
  refine wpAny_bind (wpAny_bind (wpAny_onRaise ?_))
  show wpAny _ _ (Builtin.SmallTypes.nextOf (.ref i2) >>= _) _ _ _
  have st2₃ : St2 i h₃ := frz_of D2 (frz_of D2 (frz_of D2 h2 hs₁ ap.f2z) hs₂ ap.f2i1) hs₃ ap.f2TO
  refine wpAny_bind (D2.item i _ _ _ l2 st2₃ fun y h₄ t₄ hy st₄ hs₄ => wpAny_pure ?_)
  have hTO₄ : IsPair h₄ TO x b := hs₄.extBut _ _ ap.TOi2 hTO₃
  refine wpAny_bind (wpAny_seqItems hTO₄ rfl ?_)
  refine wpAny_bind (wpAny_updateSeq_pair hTO₄ fun h₅ hTO₅ hs₅ => ?_)
  replace hTO₅ : IsPair h₅ TO x y := hTO₅
  refine wpAny_bind (wpAny_letGo (wpAny_pure (wpAny_pure ?_)))
  refine wpAny_bind (wpAny_seqItems hTO₅ rfl ?_)
  refine wpAny_bind (wpAny_newTuple ?_)
  have hsz : h₅.objs.size = s.heap.objs.size := by rw [hs₅.1, hs₄.1, hs₃.1, hs₂.1, hs₁.1]
  have hz₅ : IsZip h₅ z TI TO .ellipsis := hs₅.extBut _ _ ap.TOz.symm (hs₄.extBut _ _ ap.i2z.symm (hs₃.extBut _ _ ap.TOz.symm (hs₂.extBut _ _ ap.i1z.symm hz₁)))
  have hk₅ : ∀ c o, c ≠ z → c ≠ TO → c ≠ i1 → c ≠ i2 → s.heap.get? c = some o → h₅.get? c = some o := fun c o c1 c2 c3 c4 e =>
    hs₅.extBut _ _ c2 (hs₄.extBut _ _ c4 (hs₃.extBut _ _ c2 (hs₂.extBut _ _ c3 (hs₁.extBut _ _ c1 e))))
  have st1₅ : St1 (i + 1) h₅ := frz_of D1 (frz_of D1 (frz_of D1 st₂ hs₃ ap.f1TO) hs₄ ap.f1i2) hs₅ ap.f1TO
  have st2₅ : St2 (i + 1) h₅ := frz_of D2 st₄ hs₅ ap.f2TO
  have hzlt : z < h₅.objs.size := Heap.lt_size hz₅
  show wpAny _ _ (Builtin.SmallTypes.ownedTupleHandOut (.ref z) (.ref h₅.objs.size) >>= _) _ _ _
  refine wpAny_bind ?_
  unfold Builtin.SmallTypes.ownedTupleHandOut
  have hz₆ : IsZip (h₅.push { cls := .type "tuple", data := .seq #[x, y] }) z TI TO .ellipsis := Heap.get?_push_of_some _ hz₅
  refine wpAny_bind (wpAny_setField_rec hz₆ (by simp) fun h₇ hz₇ hs₇ => ?_)
  replace hz₇ : IsZip h₇ z TI TO (rawInt h₅.objs.size) := hz₇
  refine wpAny_setField_rec hz₇ (by simp) fun h₈ hz₈ hs₈ => ?_
  replace hz₈ : IsZip h₈ z TI TO (rawInt h₅.objs.size) := hz₈
  have up : ∀ c o, c ≠ z → h₅.get? c = some o → h₈.get? c = some o := fun c o c1 e => hs₈.extBut _ _ c1 (hs₇.extBut _ _ c1 (Heap.get?_push_of_some _ e))
  have hT₈ : IsPair h₈ h₅.objs.size x y := hs₈.extBut _ _ (Nat.ne_of_gt hzlt) (hs₇.extBut _ _ (Nat.ne_of_gt hzlt) (Heap.get?_push_size _ rfl))
  have hz8 : h₈.objs.size = h₅.objs.size + 1 := by rw [hs₈.1, hs₇.1, Heap.size_push]
  rw [hsz] at hz₈ hT₈ hz8
  refine wpAny_pure ⟨_, rfl, ?_⟩
  show Q (.ref h₅.objs.size) _
  rw [hsz]
  exact hQ x y h₈ _ hx hy hz₈ (up _ _ ap.TOz hTO₅) (D1.frame _ _ _ st1₅ fun c hc o e => up c o (fun q => ap.f1z (q ▸ hc)) e) (D2.frame _ _ _ st2₅ fun c hc o e => up c o (fun q => ap.f2z (q ▸ hc)) e) hT₈ hz8 fun c o c1 c2 c3 c4 e => up c o c1 (hk₅ c o c1 c2 c3 c4 e)
theorem zipD_end {z TI TO i1 i2 : Addr} {f1 f2 : List Addr} {n1 n2 i : Nat} {P1 P2 : Nat → Value → Prop} {St1 St2 : Nat → Heap → Prop} {a b : Value} {Q : Fin → Shared → Prop} (D1 : Draws prog w A i1 f1 n1 P1 St1) (D2 : Draws prog w A i2 f2 n2 P2 St2) (ap : ZAp z TI TO i1 i2 f1 f2)
    (hz : IsZip s.heap z TI TO .none) (hTI : IsPair s.heap TI (.ref i1) (.ref i2)) (hTO : IsPair s.heap TO a b) (h1 : St1 i s.heap) (h2 : St2 i s.heap) (hend : i = n1 ∨ (i < n1 ∧ i = n2))
    (hE : ∀ h' e tk, (∀ c o, c ≠ z → c ≠ TO → c ≠ i1 → c ≠ i2 → s.heap.get? c = some o → h'.get? c = some o) → (∃ o, h'.get? e = some o ∧ o.cls = .type "StopIteration") → E (.ref e) { s with heap := h', toks := tk }) :
    wpAny (model prog w) A (Builtin.«zip.__next__» ⟨[.ref z], []⟩) Q E s := by
  show wpAny _ _ (field (.ref z) 2 >>= _) _ _ _
  refine wpAny_bind (wpAny_field hz rfl (x := .bool false) rfl ?_)
  show wpAny _ _ (field (.ref z) 3 >>= _) _ _ _
  refine wpAny_bind (wpAny_field hz rfl (x := .ref TI) rfl ?_)
  refine wpAny_bind (wpAny_seqItems hTI rfl ?_)
  show wpAny _ _ (Builtin.SmallTypes.ownedTupleIsFree (.ref z) >>= _) _ _ _
  refine wpAny_bind ?_
  unfold Builtin.SmallTypes.ownedTupleIsFree
  refine wpAny_bind (wpAny_field hz rfl (x := .none) rfl (wpAny_pure ?_))
  simp only [if_true]
  refine wpAny_bind (wpAny_rule ?_)
  refine wpAny_bind (wpAny_field hz rfl (x := .ref TO) rfl ?_)
  refine wpAny_bind (wpAny_setField_rec hz (by simp) fun h₁ hz₁ hs₁ => ?_)
  replace hz₁ : IsZip h₁ z TI TO .ellipsis := hz₁
  refine wpAny_bind ?_
  simp only [List.zipIdx_cons, List.zipIdx_nil, List.forIn_cons, List.forIn_nil]
  refine wpAny_bind (wpAny_bind (wpAny_onRaise ?_))
  show wpAny _ _ (Builtin.SmallTypes.nextOf (.ref i1) >>= _) _ _ _
  have st1 : St1 i h₁ := frz_of D1 h1 hs₁ ap.f1z
  rcases hend with e1 | ⟨l1, e2⟩
  · subst e1
    refine wpAny_bind (D1.done _ _ _ st1 fun h₂ e hs₂ he => ?_)
    obtain ⟨oe, hoe, hce⟩ := he
    have hz₂ : IsZip h₂ z TI TO .ellipsis := hs₂ _ _ ap.i1z.symm hz₁
    have hez : e ≠ z := fun x => by subst x; rw [hz₂] at hoe; cases hoe; simp at hce
    refine wpAny_setField_rec hz₂ (by simp) fun h₃ _ hs₃ => hE h₃ e s.toks (fun c o c1 _ c3 _ x => hs₃.extBut _ _ c1 (hs₂ _ _ c3 (hs₁.extBut _ _ c1 x))) ⟨oe, hs₃.extBut _ _ hez hoe, hce⟩
  · subst e2
    refine wpAny_bind (D1.item _ _ _ _ l1 st1 fun x h₂ t₂ hx st₂ hs₂ => wpAny_pure ?_)
    have hTO₂ : IsPair h₂ TO a b := hs₂.extBut _ _ ap.TOi1 (hs₁.extBut _ _ ap.TOz hTO)
    refine wpAny_bind (wpAny_seqItems hTO₂ rfl ?_)
    refine wpAny_bind (wpAny_updateSeq_pair hTO₂ fun h₃ hTO₃ hs₃ => ?_)
    refine wpAny_bind (wpAny_letGo (wpAny_pure ?_))
    refine wpAny_bind (wpAny_bind (wpAny_onRaise ?_))
    show wpAny _ _ (Builtin.SmallTypes.nextOf (.ref i2) >>= _) _ _ _
    refine wpAny_bind (D2.done _ _ _ (frz_of D2 (frz_of D2 (frz_of D2 h2 hs₁ ap.f2z) hs₂ ap.f2i1) hs₃ ap.f2TO) fun h₄ e hs₄ he => ?_)
    obtain ⟨oe, hoe, hce⟩ := he
    have hz₄ : IsZip h₄ z TI TO .ellipsis := hs₄ _ _ ap.i2z.symm (hs₃.extBut _ _ ap.TOz.symm (hs₂.extBut _ _ ap.i1z.symm hz₁))
    have hez : e ≠ z := fun x => by subst x; rw [hz₄] at hoe; cases hoe; simp at hce
    refine wpAny_setField_rec hz₄ (by simp) fun h₅ _ hs₅ => hE h₅ e t₂ (fun c o c1 c2 c3 c4 x => hs₅.extBut _ _ c1 (hs₄ _ _ c4 (hs₃.extBut _ _ c2 (hs₂.extBut _ _ c3 (hs₁.extBut _ _ c1 x))))) ⟨oe, hs₅.extBut _ _ hez hoe, hce⟩
theorem pyNext_zipD_item {z TI TO i1 i2 : Addr} {f1 f2 : List Addr} {n1 n2 i : Nat} {P1 P2 : Nat → Value → Prop} {St1 St2 : Nat → Heap → Prop} {a b : Value} {Q : Option Value → Shared → Prop} (D1 : Draws prog w A.in1 i1 f1 n1 P1 St1) (D2 : Draws prog w A.in1 i2 f2 n2 P2 St2) (ap : ZAp z TI TO i1 i2 f1 f2)
    (hz : IsZip s.heap z TI TO .none) (hTI : IsPair s.heap TI (.ref i1) (.ref i2)) (hTO : IsPair s.heap TO a b) (h1 : St1 i s.heap) (h2 : St2 i s.heap) (l1 : i < n1) (l2 : i < n2)
    (hQ : ∀ x y h' tk, P1 i x → P2 i y → IsZip h' z TI TO (rawInt s.heap.objs.size) → IsPair h' TO x y → St1 (i + 1) h' → St2 (i + 1) h' → IsPair h' s.heap.objs.size x y → h'.objs.size = s.heap.objs.size + 1 →
      (∀ c o, c ≠ z → c ≠ TO → c ≠ i1 → c ≠ i2 → s.heap.get? c = some o → h'.get? c = some o) → Q (some (.ref s.heap.objs.size)) { s with heap := h', toks := tk }) :
    wpAny (model prog w) A (pyNext (.ref z)) Q E s := by
  have hT : s.TypeIs (.ref z) "zip" := ⟨_, hz, rfl⟩
  unfold pyNext
  exact wpAny_bind (wpAny_attempt (wpAny_callSpecial?_slot (name := Str.ofString "__next__") hT F.slot_zip_next
    (wpAny_call_entry F.slot_zip_next hT F.entry_zip_next
      (zipD_item D1 D2 ap hz hTI hTO h1 h2 l1 l2 fun x y h' tk a1 a2 a3 a4 a5 a6 a7 a8 a9 => wpAny_pure (hQ x y h' tk a1 a2 a3 a4 a5 a6 a7 a8 a9)) (F.args_zip_next_1 _))))
theorem pyNext_zipD_end {z TI TO i1 i2 : Addr} {f1 f2 : List Addr} {n1 n2 i : Nat} {P1 P2 : Nat → Value → Prop} {St1 St2 : Nat → Heap → Prop} {a b : Value} {Q : Option Value → Shared → Prop} (D1 : Draws prog w A.in1 i1 f1 n1 P1 St1) (D2 : Draws prog w A.in1 i2 f2 n2 P2 St2) (ap : ZAp z TI TO i1 i2 f1 f2)
    (hz : IsZip s.heap z TI TO .none) (hTI : IsPair s.heap TI (.ref i1) (.ref i2)) (hTO : IsPair s.heap TO a b) (h1 : St1 i s.heap) (h2 : St2 i s.heap) (hend : i = n1 ∨ (i < n1 ∧ i = n2))
    (hQ : ∀ h' tk, (∀ c o, c ≠ z → c ≠ TO → c ≠ i1 → c ≠ i2 → s.heap.get? c = some o → h'.get? c = some o) → Q none { s with heap := h', toks := tk }) : wpAny (model prog w) A (pyNext (.ref z)) Q E s := by
  have hT : s.TypeIs (.ref z) "zip" := ⟨_, hz, rfl⟩
  unfold pyNext
  refine wpAny_bind (wpAny_attempt (wpAny_callSpecial?_slot (name := Str.ofString "__next__") hT F.slot_zip_next
    (wpAny_call_entry F.slot_zip_next hT F.entry_zip_next (zipD_end D1 D2 ap hz hTI hTO h1 h2 hend fun h' e tk hk he => ?_) (F.args_zip_next_1 _))))
  obtain ⟨o, ho, hc⟩ := he
  refine wpAny_bind (wpAny_isInstance (T := "StopIteration") (b := true) ⟨o, ho, hc⟩ isSubtype_stop ?_)
  exact wpAny_pure (hQ _ _ hk)
end
end L2
set_option Elab.async false
set_option linter.all false
set_option maxRecDepth 100000
namespace L2
open PySem PySem.Spec
/-! ### records turn, a tuple is laid -/
theorem Inv.turnL {X : Cx} {pins : List (Addr × Obj)} {σ : St} {H : Hp} {s : Shared} {h' : Heap} {t' : Nat} {ch : List Addr} (I : Inv X pins σ H s) (k : ∀ b o, b ∉ ch → s.heap.get? b = some o → h'.get? b = some o)
    (hf : ∀ b ∈ ch, FpOk X pins H b) : Inv X pins σ H { s with heap := h', toks := t' } := by
  have nit : ∀ b u, H b = some u → b ∉ ch := fun b u e z => by rw [(hf b z).1] at e; cases e
  refine I.step (g' := s.gens) (d' := s.drawn) (ch := ch) (fun b hb => ?_) (fun b o _ _ hc e _ => k b o hc e) (fun b o _ _ hc e _ => ⟨o.slots, k b o hc e⟩) (fun _ _ _ _ n => n)
    (fun b o hc e => ⟨o, k b o hc e⟩) (fun _ _ e => e) (fun _ _ _ e => e) (fun b ps e => ⟨#[], by rw [e]; simp⟩) (fun m hm => ?_) (fun b u e => ?_) I.bare
  · obtain ⟨_, f1, _, f3, f4, f5⟩ := hf b hb
    exact ⟨f3, f1, f4, f5⟩
  · obtain ⟨o, es, ep, ho, r⟩ := hm
    exact ⟨o, es, ep, k _ o (fun z => (hf _ z).2.1 rfl) ho, r⟩
  · refine (I.hok b u e).stay (fun c v hc q => k c v ?_ q) (fun _ q => q) fun _ _ q => q
    rcases hc with z | z
    · rw [z]; exact nit b u e
    · exact nit c _ z
theorem Inv.turnT {X : Cx} {pins : List (Addr × Obj)} {σ : St} {H : Hp} {s : Shared} {h' : Heap} {t' : Nat} {ch : List Addr} {T : Addr} {xs : List V} {its : List Value} (I : Inv X pins σ H s) (k : ∀ b o, b ∉ ch → s.heap.get? b = some o → h'.get? b = some o)
    (hf : ∀ b ∈ ch, FpOk X pins H b) (hT : s.heap.objs.size ≤ T) (ht : PyProof.Rows.IsTup h' T its.toArray) (rv : Vals xs its) (hz : xs.length ≤ sizeLine) : Inv X pins σ (upd H T (.tup xs)) { s with heap := h', toks := t' } := by
  have nit : ∀ b u, H b = some u → b ∉ ch := fun b u e z => by rw [(hf b z).1] at e; cases e
  have hn : H T = none := I.hok.fresh hT
  have neT : ∀ b o, s.heap.get? b = some o → b ≠ T := fun b o e => Nat.ne_of_lt (Nat.lt_of_lt_of_le (Heap.lt_size e) hT)
  refine I.step (g' := s.gens) (d' := s.drawn) (ch := ch) (fun b hb => ?_) (fun b o _ _ hc e _ => k b o hc e) (fun b o _ _ hc e _ => ⟨o.slots, k b o hc e⟩) (fun b o _ e n => by rw [upd_ne (neT b o e)]; exact n)
    (fun b o hc e => ⟨o, k b o hc e⟩) (fun b ys e => by rw [upd_ne (ne_of_none e hn)]; exact e) (fun b _ _ e => by rw [upd_ne (ne_of_none e hn)]; exact e) (fun b ps e => ⟨#[], by rw [upd_ne (ne_of_none e hn), e]; simp⟩) (fun m hm => ?_) (fun b u e => ?_) I.bare
  · obtain ⟨_, f1, _, f3, f4, f5⟩ := hf b hb
    exact ⟨f3, f1, f4, f5⟩
  · obtain ⟨o, es, ep, ho, r⟩ := hm
    exact ⟨o, es, ep, k _ o (fun z => (hf _ z).2.1 rfl) ho, r⟩
  · by_cases hb : b = T
    · subst hb
      rw [upd_same] at e; cases e
      exact ⟨hz, its, rv, ht⟩
    · rw [upd_ne hb] at e
      refine (I.hok b u e).stay (fun c v hc q => k c v ?_ q) (fun c q => by rw [upd_ne (ne_of_none q hn)]; exact q) fun c ys q => by rw [upd_ne (ne_of_none q hn)]; exact q
      rcases hc with z | z
      · rw [z]; exact nit b u e
      · exact nit c _ z
/-! ### a text's signs -/
def Its (x : Str) : It := ⟨fun i _ => i < x.cps.size, fun i H v H' => H' = H ∧ ∃ c, x.cps[i]? = some c ∧ v = .str ⟨#[c]⟩, fun i _ => i = x.cps.size⟩
theorem walks_str {prog : Program} {w : World} {A : Around} (hh : A.handled = none) (I : Addr) (x : Str) (t : Tok) : Walks prog w A I [I] [I] x.cps.size (SignAt x) (fun i h => h.IsStrIter I (strIterType x) x t i) := by
  unfold strIterType
  cases ha : x.cps.all (· < 128)
  · rw [if_neg Bool.false_ne_true]; exact Walks.strWide hh I x t
  · rw [if_pos rfl]; exact Walks.strAscii hh I x t
theorem draws_str {prog : Program} {w : World} {A : Around} (hh : A.handled = none) (I : Addr) (x : Str) (t : Tok) : Draws prog w A I [I] x.cps.size (fun i v => ∃ c u, x.cps[i]? = some c ∧ v = .str ⟨#[c]⟩ u) (fun i h => h.IsStrIter I (strIterType x) x t i) := by
  unfold strIterType
  cases ha : x.cps.all (· < 128)
  · rw [if_neg Bool.false_ne_true]; exact Draws.strWide hh I x t
  · rw [if_pos rfl]; exact Draws.strAscii hh I x t
theorem strIter_not (x : Str) : ["enumerate", "zip", "dict_itemiterator", "dict_reverseitemiterator", "odict_iterator", "itertools.zip_longest", "itertools.pairwise"].contains (strIterType x) = false := by
  unfold strIterType
  split <;> decide
theorem turn_str {P : Program} {w : World} {K : PySem.W.Frag} {tg : Expr} (it : Addr) (x : Str) (t : Tok) : Turn P w K tg (Its x) [it] it (fun i h => h.IsStrIter it (strIterType x) x t i) where
  mem := by simp
  obj := fun i h st b hb => by
    have e : b = it := by simpa using hb
    subst e
    obtain ⟨o, e, c, d⟩ := st
    exact ⟨o, e, fun v z => by rw [d] at z; cases z⟩
  keep := fun i h h' st k => by
    obtain ⟨o, e, r⟩ := st
    exact ⟨o, k it (by simp) o e, r⟩
  item := by
    intro X hP hw hK hc i pins s σ H E I hf st hg
    subst hP hw hK
    have W := walks_str (prog := X.prog) (w := X.w) (A := X.A) (I.ok.hd hc) it x t
    refine W.item i s _ _ hg st fun v h' tk hv st' kk => ?_
    obtain ⟨c, u, hc', rfl⟩ := hv
    have I1 : Inv X pins σ H { s with heap := h', toks := tk } := I.turnL (ch := [it]) kk hf
    obtain ⟨o, e, c1, d1⟩ := id st'
    exact ⟨_, rfl, go_of (s := { s with heap := h', toks := tk }) e c1 d1 (strIter_not x) ⟨.str ⟨#[c]⟩, H, I1, ⟨u, rfl⟩, ⟨rfl, c, hc', rfl⟩, st', fun b hb => (hf b hb).1⟩⟩
  done := by
    intro X hP hw hK hc i pins s σ H E I hf st hg
    subst hP hw hK
    have W := walks_str (prog := X.prog) (w := X.w) (A := X.A) (I.ok.hd hc) it x t
    have hi : i = x.cps.size := hg
    subst hi
    exact W.done s _ _ st fun h' tk kk => ⟨rfl, I.turnL (ch := [it]) kk hf⟩
  self := fun A i s Q E st h => by
    unfold strIterType at st
    cases ha : x.cps.all (· < 128)
    · rw [ha, if_neg Bool.false_ne_true] at st; exact wpAny_pyIter_striter_wide st h
    · rw [ha, if_pos rfl] at st; exact wpAny_pyIter_striter_ascii st h
section
variable {X : Cx} {tg : Expr}
def iStr (tl : TE) : TI := fun σ H R => tl σ H fun v H1 => ∃ x, v = .str x ∧ R (Its x) H1
theorem pi_str {l : Expr} {tl : TE} (hl : PE X l tl) : PI X tg l (iStr tl) := by
  intro pins s σ H R I h
  refine thn (hl pins s σ H _ I h) fun v s1 ⟨y, H1, I1, r1, q1⟩ => ?_
  obtain ⟨x, e, q⟩ := q1
  subst e
  obtain ⟨t, rfl⟩ := r1
  refine wpAny_pyIter_strU ?_
  refine ⟨s1.heap.objs.size, [s1.heap.objs.size], _, _, H1, rfl, I1.kept (t' := s1.toks) fun b o e => Heap.get?_push_of_some _ e, turn_str _ x t, ⟨_, Heap.get?_push_size _ rfl, rfl, rfl⟩, fun b hb => ?_, q⟩
  have e : b = s1.heap.objs.size := by simpa using hb
  subst e
  exact I1.fpOk (Nat.le_refl _) (I1.hok.fresh (Nat.le_refl _))
end
/-! ### enumerate(list) -/
def Ite (K : PySem.W.Frag) (l : Addr) : It := ⟨fun i H => ∃ xs x, SqL K H l xs ∧ xs[i]? = some x, fun i H v H' => ∃ p x, H p = none ∧ H' = upd H p (.tup [.int (i : Int), x]) ∧ v = .ref p ∧ ∀ xs, SqL K H l xs → xs[i]? = some x, fun i H => ∃ xs, SqL K H l xs ∧ xs.length = i⟩
theorem turn_enum {P : Program} {w : World} {K : PySem.W.Frag} {elts : List Expr} {kk : Nat} {pos : Pos} (e it l : Addr) (hei : e ≠ it) :
    Turn P w K (.Tuple elts kk pos) (Ite K l) [e, it] e (fun i h => (∃ old, IsEnum h e it i old) ∧ h.IsListIter it l i) where
  mem := by simp
  obj := fun i h st b hb => by
    obtain ⟨⟨old, he⟩, o, e1, c, d⟩ := st
    rcases List.mem_cons.mp hb with z | z
    · subst z
      exact ⟨_, he, fun v z => by
        have z' : Data.fields _ = Data.cell v := z
        cases z'⟩
    · have z : b = it := by simpa using z
      subst z
      exact ⟨o, e1, fun v z => by rw [d] at z; cases z⟩
  keep := fun i h h' st k => by
    obtain ⟨⟨old, he⟩, hit⟩ := st
    exact ⟨⟨old, k e (by simp) _ he⟩, hit.at fun o x => k it (by simp) o x⟩
  item := by
    intro X hP hw hK hc i pins s σ H E I hf st hg
    subst hP hw hK
    obtain ⟨xs, x, hq, hx⟩ := hg
    obtain ⟨its, rv, pl, hz⟩ := I.list hq
    obtain ⟨⟨old, he⟩, hit⟩ := st
    have hL := pl.isList
    have hle : l ≠ e := fun z => by
      subst z
      obtain ⟨o, ho, hco, _⟩ := hL
      rw [he] at ho; cases ho
      have hco : Value.type "enumerate" = Value.type "list" := hco
      injection hco with hco
      exact absurd hco (by decide)
    have hli : l ≠ it := fun z => by
      subst z
      obtain ⟨o, ho, hco, _⟩ := hL
      obtain ⟨o', ho', hco', _⟩ := hit
      rw [ho'] at ho; cases ho
      rw [hco] at hco'
      injection hco' with hco'
      exact absurd hco' (by decide)
    have W := WalksT.enumerate (prog := X.prog) (w := X.w) (A := X.A) (I.ok.hd hc) e it l hei hle hli its.toArray
    have hlen := rv.length
    have hil : i < xs.length := (List.getElem?_eq_some_iff.mp hx).1
    refine W.item i s _ _ (by rw [List.size_toArray, ← hlen]; exact hil) ⟨⟨old, he⟩, hit, hL⟩ fun T vals h' tk hP hT hTup hM hk => ?_
    obtain ⟨t, u, hu, rfl⟩ := hP
    obtain ⟨u', hu', ru⟩ := rv.get hx
    have eu : u' = u := by
      rw [List.getElem?_toArray] at hu
      rw [hu'] at hu; exact Option.some.inj hu
    subst eu
    refine ⟨_, rfl, ?_⟩
    refine W.go elts kk pos i T { s with heap := h', toks := tk } _ _ hM fun h2 st2 hk2 => ?_
    have hTw : T ∉ [e, it] := W.apart i T h' hM
    have keep : ∀ b o, b ∉ [e, it] → s.heap.get? b = some o → h2.get? b = some o := fun b o hb q => hk2 b o hb (hk b o hb q)
    have ht2 : PyProof.Rows.IsTup h2 T (#[.int i t, u'] : Array Value) := by
      obtain ⟨o, ho, r⟩ := hTup
      exact ⟨o, hk2 T o hTw ho, r⟩
    have hn : H T = none := I.hok.fresh hT
    have I2 : Inv X pins σ (upd H T (.tup [.int (i : Int), x])) { s with heap := h2, toks := tk } := I.turnT (its := [.int i t, u']) (ch := [e, it]) keep hf hT ht2 (.cons ⟨t, rfl⟩ (.cons ru .nil)) (by show 2 ≤ sizeLine; decide)
    refine ⟨.ref T, upd H T (.tup [.int (i : Int), x]), I2, rfl, ⟨T, x, hn, rfl, rfl, fun ys hy => by rw [I.list_inj hy hq]; exact hx⟩, ⟨st2.1, st2.2.1⟩, fun b hb => ?_⟩
    have nb : b ≠ T := fun z => hTw (z ▸ hb)
    rw [upd_ne nb]
    exact (hf b hb).1
  done := by
    intro X hP hw hK hc i pins s σ H E I hf st hg
    subst hP hw hK
    obtain ⟨xs, hq, hx⟩ := hg
    obtain ⟨its, rv, pl, hz⟩ := I.list hq
    obtain ⟨⟨old, he⟩, hit⟩ := st
    have hL := pl.isList
    have hle : l ≠ e := fun z => by
      subst z
      obtain ⟨o, ho, hco, _⟩ := hL
      rw [he] at ho; cases ho
      have hco : Value.type "enumerate" = Value.type "list" := hco
      injection hco with hco
      exact absurd hco (by decide)
    have hli : l ≠ it := fun z => by
      subst z
      obtain ⟨o, ho, hco, _⟩ := hL
      obtain ⟨o', ho', hco', _⟩ := hit
      rw [ho'] at ho; cases ho
      rw [hco] at hco'
      injection hco' with hco'
      exact absurd hco' (by decide)
    have W := WalksT.enumerate (prog := X.prog) (w := X.w) (A := X.A) (I.ok.hd hc) e it l hei hle hli its.toArray
    have ei : i = its.toArray.size := by rw [List.size_toArray, ← rv.length]; exact hx.symm
    subst ei
    exact W.done s _ _ ⟨⟨old, he⟩, hit, hL⟩ fun h' tk kk => ⟨rfl, I.turnL (ch := [e, it]) kk hf⟩
  self := fun A i s Q E st h => by
    obtain ⟨⟨old, he⟩, _⟩ := st
    exact wpAny_pyIter_enum he h
section
variable {X : Cx} {elts : List Expr} {kk : Nat} {tpos : Pos}
def iEnum (K : PySem.W.Frag) (ta : TA) : TI := fun σ H R => ta σ H fun vs H1 => ∃ l, vs = [.ref l] ∧ (∃ xs, SqL K H1 l xs) ∧ R (Ite K l) H1
theorem pi_enum {a : Expr} {ta : TA} {p pos : Pos} (hg : Gl X "enumerate") (hm : X.mg "enumerate" = none) (ha : PA X [a] ta) (hs : starEach [a] X.env = [(false, eval a X.env)] := by rfl) : PI X (.Tuple elts kk tpos) (.Call (.Name "enumerate" p) [a] [] pos) (iEnum X.K ta) := by
  have hb : bootBuiltins "enumerate" = some (.type "enumerate") := by kernel_rfl
  intro pins s σ H R I h
  refine PyProof.Rows.Call_ (ld_blt I hg hm hb (PyProof.Rows.callWith_type1 (thn (ha pos pins s σ H _ I h) fun us s1 ⟨vs, H1, I1, r1, q1⟩ => ?_) hs rfl))
  obtain ⟨l, e, ⟨xs, hq⟩, q⟩ := q1
  subst e
  obtain ⟨u, rfl, ru⟩ := vals1 r1
  cases ru
  obtain ⟨its, rv, pl, hz⟩ := I1.list hq
  refine call_enumerate_list pl.isList fun h' he hit hsz hk => ?_
  have I2 : Inv X pins σ H1 { s1 with heap := h' } := I1.kept (t' := s1.toks) hk
  refine wpAny_pyIter_enum he ?_
  refine ⟨s1.heap.objs.size + 1, [s1.heap.objs.size + 1, s1.heap.objs.size], _, _, H1, rfl, I2, turn_enum _ _ l (Nat.succ_ne_self _), ⟨⟨_, he⟩, hit⟩, fun b hb => ?_, q⟩
  have hb : b = s1.heap.objs.size + 1 ∨ b = s1.heap.objs.size := by simpa using hb
  rcases hb with z | z
  · subst z; exact I1.fpOk (Nat.le_succ _) (I1.hok.fresh (Nat.le_succ _))
  · subst z; exact I1.fpOk (Nat.le_refl _) (I1.hok.fresh (Nat.le_refl _))
end
/-! ### zip of a text and a tuple -/
abbrev zs1 (h : Heap) (x : Str) (t : Tok) : Heap := h.push { cls := .type (strIterType x), data := .fields #[.str x t, .int 0 0] }
abbrev zs2 (h : Heap) (x : Str) (t : Tok) (l : Addr) : Heap := (zs1 h x t).push { cls := .type "tuple_iterator", data := .fields #[.ref l, .int 0 0] }
abbrev zs3 (h : Heap) (x : Str) (t : Tok) (l : Addr) : Heap := (zs2 h x t l).push { cls := .type "tuple", data := .seq #[.ref h.objs.size, .ref (zs1 h x t).objs.size] }
abbrev zs4 (h : Heap) (x : Str) (t : Tok) (l : Addr) : Heap := (zs3 h x t l).push { cls := .type "tuple", data := .seq #[.none, .none] }
abbrev zs5 (h : Heap) (x : Str) (t : Tok) (l : Addr) : Heap := (zs4 h x t l).push { cls := .type "zip", data := .fields #[.none, .bool false, .bool false, .ref (zs2 h x t l).objs.size, .ref (zs3 h x t l).objs.size] }
set_option maxHeartbeats 4000000 in
theorem meets_zip_st (x : Str) (t : Tok) (l2 : Addr) (ys : Array Value) :
    Meets (Builtin.«zip.__new__» ⟨[.type "zip", .str x t, .ref l2], []⟩) (fun _ R s => s.heap.IsTuple l2 ys ∧ R (.ok (.ret (.ref (zs4 s.heap x t l2).objs.size))) { s with heap := zs5 s.heap x t l2 }) :=
  .of_wp fun prog w A R s h => by
    obtain ⟨hp, g, d, tk, os⟩ := s; obtain ⟨hl2, h⟩ := h
    have hsub := sub_zip
    have hL2 : Heap.IsTuple (Shared.heap ⟨hp.push { cls := .type (strIterType x), data := .fields #[.str x t, .int 0 0] }, g, d, tk, os⟩) l2 ys := Heap.IsTuple.push hl2 _
    wp_walk using wpAny_pyIter_strU, wpAny_pyIter_tuple hL2
    exact ⟨_, rfl, h⟩
theorem call_zip_st {prog : Program} {w : World} {A : Around} {E : Value → Shared → Prop} {s : Shared} {x : Str} {t : Tok} {l2 : Addr} {ys : Array Value} {Q : Value → Shared → Prop} (hl2 : s.heap.IsTuple l2 ys)
    (h : ∀ h', IsZip h' (s.heap.objs.size + 4) (s.heap.objs.size + 2) (s.heap.objs.size + 3) .none → IsPair h' (s.heap.objs.size + 2) (.ref s.heap.objs.size) (.ref (s.heap.objs.size + 1)) →
      IsPair h' (s.heap.objs.size + 3) .none .none → h'.IsStrIter s.heap.objs.size (strIterType x) x t 0 → h'.IsTupleIter (s.heap.objs.size + 1) l2 0 → h'.objs.size = s.heap.objs.size + 5 →
      (∀ c o, s.heap.get? c = some o → h'.get? c = some o) → Q (.ref (s.heap.objs.size + 4)) { s with heap := h' }) :
    wpAny (model prog w) A (call (.type "zip") [.str x t, .ref l2]) Q E s := by
  refine callType_new F.called_zip (by decide) (F.typeCall_zip_2 _ _) (F.newCall_zip_2 _ _) (fun obj => F.args_object_init_3 obj _ _) F.entry_zip_new (meets_zip_st x t l2 ys) ⟨hl2, ?_⟩
  have z1 : (zs1 s.heap x t).objs.size = s.heap.objs.size + 1 := Heap.size_push ..
  have z2 : (zs2 s.heap x t l2).objs.size = s.heap.objs.size + 2 := by rw [Heap.size_push, z1]
  have z3 : (zs3 s.heap x t l2).objs.size = s.heap.objs.size + 3 := by rw [Heap.size_push, z2]
  have z4 : (zs4 s.heap x t l2).objs.size = s.heap.objs.size + 4 := by rw [Heap.size_push, z3]
  have z5 : (zs5 s.heap x t l2).objs.size = s.heap.objs.size + 5 := by rw [Heap.size_push, z4]
  have g5 : (zs5 s.heap x t l2).get? (zs4 s.heap x t l2).objs.size = some _ := Heap.get?_push_size _ rfl
  have g4 : (zs5 s.heap x t l2).get? (zs3 s.heap x t l2).objs.size = some _ := Heap.get?_push_of_some _ (Heap.get?_push_size _ rfl)
  have g3 : (zs5 s.heap x t l2).get? (zs2 s.heap x t l2).objs.size = some _ := Heap.get?_push_of_some _ (Heap.get?_push_of_some _ (Heap.get?_push_size _ rfl))
  have g2 : (zs5 s.heap x t l2).get? (zs1 s.heap x t).objs.size = some _ := Heap.get?_push_of_some _ (Heap.get?_push_of_some _ (Heap.get?_push_of_some _ (Heap.get?_push_size _ rfl)))
  have g1 : (zs5 s.heap x t l2).get? s.heap.objs.size = some _ := Heap.get?_push_of_some _ (Heap.get?_push_of_some _ (Heap.get?_push_of_some _ (Heap.get?_push_of_some _ (Heap.get?_push_size _ rfl))))
  show _ ∧ _
  rw [z2, z3, z4] at g5
  rw [z1, z2] at g3
  rw [z3] at g4
  rw [z1] at g2
  rw [z4]
  exact ⟨⟨_, g5, rfl⟩, h _ g5 g3 g4 ⟨_, g1, rfl, rfl⟩ ⟨_, g2, rfl, rfl⟩ z5 fun c o x =>
    Heap.get?_push_of_some _ (Heap.get?_push_of_some _ (Heap.get?_push_of_some _ (Heap.get?_push_of_some _ (Heap.get?_push_of_some _ x))))⟩
def Itz (K : PySem.W.Frag) (x : Str) (l : Addr) : It := ⟨fun i H => i < x.cps.size ∧ ∃ ys y, SqT K H l ys ∧ ys[i]? = some y,
  fun i H v H' => ∃ p c y, x.cps[i]? = some c ∧ H p = none ∧ H' = upd H p (.tup [.str ⟨#[c]⟩, y]) ∧ v = .ref p ∧ ∀ ys, SqT K H l ys → ys[i]? = some y,
  fun i H => ∃ ys, SqT K H l ys ∧ i = min x.cps.size ys.length⟩
structure ZOk (z TI TO i1 i2 : Addr) : Prop where
  TIz : TI ≠ z
  TOz : TO ≠ z
  TITO : TI ≠ TO
  TIi1 : TI ≠ i1
  TIi2 : TI ≠ i2
  TOi1 : TO ≠ i1
  TOi2 : TO ≠ i2
  i1z : i1 ≠ z
  i2z : i2 ≠ z
  i12 : i1 ≠ i2
theorem turn_zip {P : Program} {w : World} {K : PySem.W.Frag} {elts : List Expr} {kk : Nat} {pos : Pos} (x : Str) (t : Tok) (l z TI TO i1 i2 : Addr) (ap : ZOk z TI TO i1 i2) :
    Turn P w K (.Tuple elts kk pos) (Itz K x l) [z, TI, TO, i1, i2] z (fun i h => IsZip h z TI TO .none ∧ IsPair h TI (.ref i1) (.ref i2) ∧ (∃ a b, IsPair h TO a b) ∧ h.IsStrIter i1 (strIterType x) x t i ∧ h.IsTupleIter i2 l i) where
  mem := by simp
  obj := fun i h st b hb => by
    obtain ⟨hz, hTI, ⟨a, b', hTO⟩, ⟨o1, e1, c1, d1⟩, o2, e2, c2, d2⟩ := st
    have hb : b = z ∨ b = TI ∨ b = TO ∨ b = i1 ∨ b = i2 := by simpa using hb
    rcases hb with q | q | q | q | q <;> subst q
    · exact ⟨_, hz, fun v z => by have z' : Data.fields _ = Data.cell v := z; cases z'⟩
    · exact ⟨_, hTI, fun v z => by have z' : Data.seq _ _ = Data.cell v := z; cases z'⟩
    · exact ⟨_, hTO, fun v z => by have z' : Data.seq _ _ = Data.cell v := z; cases z'⟩
    · exact ⟨o1, e1, fun v z => by rw [d1] at z; cases z⟩
    · exact ⟨o2, e2, fun v z => by rw [d2] at z; cases z⟩
  keep := fun i h h' st k => by
    obtain ⟨hz, hTI, ⟨a, b', hTO⟩, ⟨o1, e1, r1⟩, o2, e2, r2⟩ := st
    exact ⟨k z (by simp) _ hz, k TI (by simp) _ hTI, ⟨a, b', k TO (by simp) _ hTO⟩, ⟨o1, k i1 (by simp) _ e1, r1⟩, o2, k i2 (by simp) _ e2, r2⟩
  item := by
    intro X hP hw hK hc i pins s σ H E I hf st hg
    subst hP hw hK
    obtain ⟨hi, ys, y, hq, hy⟩ := hg
    obtain ⟨its, rv, ht, hz'⟩ := I.tuple hq
    obtain ⟨hz, hTI, ⟨a, b', hTO⟩, hs1, hs2⟩ := st
    have nl : ∀ b ∈ [z, TI, TO, i1, i2], l ≠ b := fun b hb q => by
      subst q
      rcases hq with (h | ⟨o, h⟩) | ⟨o, it', n, h, _⟩
      · rw [(hf l hb).1] at h; cases h
      · rw [(hf l hb).1] at h; cases h
      · have h1 := I.ok.mod.kin l o h
        rcases (hf l hb).2.2.2.1 with q | q
        · exact I.ok.noex l o h1 q
        · exact absurd (Nat.lt_of_lt_of_le (Heap.lt_size (I.ok.bs l o h1).1) q) (Nat.lt_irrefl _)
    have hh : X.A.in1.handled = none := I.ok.hd hc
    have D1 := draws_str (prog := X.prog) (w := X.w) (A := X.A.in1) hh i1 x t
    have D2 := draws_tuple (prog := X.prog) (w := X.w) (A := X.A.in1) hh i2 l (nl i2 (by simp)) its.toArray
    have hlen := rv.length
    have hil : i < ys.length := (List.getElem?_eq_some_iff.mp hy).1
    have az : ZAp z TI TO i1 i2 [i1] [i2, l] := ⟨ap.TIz, ap.TOz, ap.TITO, ap.TIi1, ap.TIi2, ap.TOi1, ap.TOi2, ap.i1z, ap.i2z, ap.i12, by simpa using ap.i1z.symm, by simpa using ap.TOi1, by simpa using ap.i12.symm,
      by simp only [List.mem_cons, List.not_mem_nil, or_false, not_or]; exact ⟨ap.i2z.symm, (nl z (by simp)).symm⟩, by simp only [List.mem_cons, List.not_mem_nil, or_false, not_or]; exact ⟨ap.TOi2, (nl TO (by simp)).symm⟩, by simp only [List.mem_cons, List.not_mem_nil, or_false, not_or]; exact ⟨ap.i12, (nl i1 (by simp)).symm⟩⟩
    refine pyNext_zipD_item D1 D2 az hz hTI hTO hs1 ⟨hs2, ht⟩ hi (by rw [List.size_toArray, ← hlen]; exact hil) fun u1 u2 h' tk p1 p2 a1 a2 a3 a4 a5 a6 hk => ?_
    obtain ⟨c, t1, hcx, rfl⟩ := p1
    obtain ⟨u', hu', ru⟩ := rv.get hy
    have eu : u' = u2 := by
      rw [List.getElem?_toArray] at p2
      rw [hu'] at p2; exact Option.some.inj p2
    subst eu
    refine ⟨_, rfl, ?_⟩
    refine wpAny_letOwnedTupleGo_zip a1 fun h2 hz2 hs2' => ?_
    have szlt : ∀ b ∈ [z, TI, TO, i1, i2], b < s.heap.objs.size := fun b hb => by
      have hb : b = z ∨ b = TI ∨ b = TO ∨ b = i1 ∨ b = i2 := by simpa using hb
      obtain ⟨o1, e1, _⟩ := hs1
      obtain ⟨o2, e2, _⟩ := hs2
      rcases hb with q | q | q | q | q <;> subst q
      · exact Heap.lt_size hz
      · exact Heap.lt_size hTI
      · exact Heap.lt_size hTO
      · exact Heap.lt_size e1
      · exact Heap.lt_size e2
    have nT : ∀ b ∈ [z, TI, TO, i1, i2], b ≠ s.heap.objs.size := fun b hb => Nat.ne_of_lt (szlt b hb)
    have keep : ∀ b o, b ∉ [z, TO, i1, i2] → s.heap.get? b = some o → h2.get? b = some o := fun b o hb q => by
      have hb : ¬ (b = z ∨ b = TO ∨ b = i1 ∨ b = i2) := fun w => hb (by simpa using w)
      exact hs2'.extBut b o (fun w => hb (.inl w)) (hk b o (fun w => hb (.inl w)) (fun w => hb (.inr (.inl w))) (fun w => hb (.inr (.inr (.inl w)))) (fun w => hb (.inr (.inr (.inr w)))) q)
    have ht2 : PyProof.Rows.IsTup h2 s.heap.objs.size ([.str ⟨#[c]⟩ t1, u'] : List Value).toArray := ⟨_, hs2'.extBut _ _ (nT z (by simp)).symm a5, rfl, _, rfl⟩
    have hn : H s.heap.objs.size = none := I.hok.fresh (Nat.le_refl _)
    have I2 : Inv X pins σ (upd H s.heap.objs.size (.tup [.str ⟨#[c]⟩, y])) { s with heap := h2, toks := tk } := I.turnT (its := [.str ⟨#[c]⟩ t1, u']) (ch := [z, TO, i1, i2]) keep (fun b hb => hf b (by
      have hb : b = z ∨ b = TO ∨ b = i1 ∨ b = i2 := by simpa using hb
      rcases hb with q | q | q | q <;> simp [q])) (Nat.le_refl _) ht2 (.cons ⟨t1, rfl⟩ (.cons ru .nil)) (by show 2 ≤ sizeLine; decide)
    refine ⟨.ref s.heap.objs.size, _, I2, rfl, ⟨s.heap.objs.size, c, y, hcx, hn, rfl, rfl, fun zs hzs => by rw [I.tuple_inj hzs hq]; exact hy⟩, ?_, fun b hb => ?_⟩
    · refine ⟨hz2, hs2'.extBut _ _ ap.TIz (hk _ _ ap.TIz ap.TITO ap.TIi1 ap.TIi2 hTI), ⟨_, _, hs2'.extBut _ _ ap.TOz a2⟩, ?_, ?_⟩
      · obtain ⟨o1, e1, r1⟩ := a3
        exact ⟨o1, hs2'.extBut _ _ ap.i1z e1, r1⟩
      · obtain ⟨⟨o2, e2, r2⟩, _⟩ := a4
        exact ⟨o2, hs2'.extBut _ _ ap.i2z e2, r2⟩
    · rw [upd_ne (nT b hb)]; exact (hf b hb).1
  done := by
    intro X hP hw hK hc i pins s σ H E I hf st hg
    subst hP hw hK
    obtain ⟨ys, hq, hi⟩ := hg
    obtain ⟨its, rv, ht, hz'⟩ := I.tuple hq
    obtain ⟨hz, hTI, ⟨a, b', hTO⟩, hs1, hs2⟩ := st
    have nl : ∀ b ∈ [z, TI, TO, i1, i2], l ≠ b := fun b hb q => by
      subst q
      rcases hq with (h | ⟨o, h⟩) | ⟨o, it', n, h, _⟩
      · rw [(hf l hb).1] at h; cases h
      · rw [(hf l hb).1] at h; cases h
      · have h1 := I.ok.mod.kin l o h
        rcases (hf l hb).2.2.2.1 with q | q
        · exact I.ok.noex l o h1 q
        · exact absurd (Nat.lt_of_lt_of_le (Heap.lt_size (I.ok.bs l o h1).1) q) (Nat.lt_irrefl _)
    have hh : X.A.in1.handled = none := I.ok.hd hc
    have D1 := draws_str (prog := X.prog) (w := X.w) (A := X.A.in1) hh i1 x t
    have D2 := draws_tuple (prog := X.prog) (w := X.w) (A := X.A.in1) hh i2 l (nl i2 (by simp)) its.toArray
    have hlen := rv.length
    have az : ZAp z TI TO i1 i2 [i1] [i2, l] := ⟨ap.TIz, ap.TOz, ap.TITO, ap.TIi1, ap.TIi2, ap.TOi1, ap.TOi2, ap.i1z, ap.i2z, ap.i12, by simpa using ap.i1z.symm, by simpa using ap.TOi1, by simpa using ap.i12.symm,
      by simp only [List.mem_cons, List.not_mem_nil, or_false, not_or]; exact ⟨ap.i2z.symm, (nl z (by simp)).symm⟩, by simp only [List.mem_cons, List.not_mem_nil, or_false, not_or]; exact ⟨ap.TOi2, (nl TO (by simp)).symm⟩, by simp only [List.mem_cons, List.not_mem_nil, or_false, not_or]; exact ⟨ap.i12, (nl i1 (by simp)).symm⟩⟩
    refine pyNext_zipD_end D1 D2 az hz hTI hTO hs1 ⟨hs2, ht⟩ ?_ fun h' tk kk => ⟨rfl, I.turnL (ch := [z, TO, i1, i2]) (fun b o hb q => ?_) fun b hb => hf b ?_⟩
    · have es : its.toArray.size = its.length := by simp
      rw [es, ← hlen]; omega
    · have hb : ¬ (b = z ∨ b = TO ∨ b = i1 ∨ b = i2) := fun w => hb (by simpa using w)
      exact kk b o (fun w => hb (.inl w)) (fun w => hb (.inr (.inl w))) (fun w => hb (.inr (.inr (.inl w)))) (fun w => hb (.inr (.inr (.inr w)))) q
    · have hb : b = z ∨ b = TO ∨ b = i1 ∨ b = i2 := by simpa using hb
      rcases hb with q | q | q | q <;> simp [q]
  self := fun A i s Q E st h => wpAny_pyIter_zip st.1 h
section
variable {X : Cx} {elts : List Expr} {kk : Nat} {tpos : Pos}
theorem zok (n : Nat) : ZOk (n + 4) (n + 2) (n + 3) n (n + 1) :=
  ⟨(show n + 2 ≠ n + 4 from Nat.ne_of_lt (show (n + 2 : Nat) < n + 4 by omega)),
   (show n + 3 ≠ n + 4 from Nat.ne_of_lt (show (n + 3 : Nat) < n + 4 by omega)),
   (show n + 2 ≠ n + 3 from Nat.ne_of_lt (show (n + 2 : Nat) < n + 3 by omega)),
   (show n + 2 ≠ n from Nat.ne_of_gt (show (n : Nat) < n + 2 by omega)),
   (show n + 2 ≠ n + 1 from Nat.ne_of_gt (show (n + 1 : Nat) < n + 2 by omega)),
   (show n + 3 ≠ n from Nat.ne_of_gt (show (n : Nat) < n + 3 by omega)),
   (show n + 3 ≠ n + 1 from Nat.ne_of_gt (show (n + 1 : Nat) < n + 3 by omega)),
   (show n ≠ n + 4 from Nat.ne_of_lt (show (n : Nat) < n + 4 by omega)),
   (show n + 1 ≠ n + 4 from Nat.ne_of_lt (show (n + 1 : Nat) < n + 4 by omega)),
   (show n ≠ n + 1 from Nat.ne_of_lt (show (n : Nat) < n + 1 by omega))⟩
def iZipST (K : PySem.W.Frag) (ta : TA) : TI := fun σ H R => ta σ H fun vs H1 => ∃ x l, vs = [.str x, .ref l] ∧ (∃ ys, SqT K H1 l ys) ∧ R (Itz K x l) H1
theorem pi_zipST {a b : Expr} {ta : TA} {p pos : Pos} (hg : Gl X "zip") (hm : X.mg "zip" = none) (ha : PA X [a, b] ta) (hs : starEach [a, b] X.env = [(false, eval a X.env), (false, eval b X.env)] := by rfl) (hs2 : starEach [b] X.env = [(false, eval b X.env)] := by rfl) :
    PI X (.Tuple elts kk tpos) (.Call (.Name "zip" p) [a, b] [] pos) (iZipST X.K ta) := by
  have hb : bootBuiltins "zip" = some (.type "zip") := by kernel_rfl
  intro pins s σ H R I h
  refine PyProof.Rows.Call_ (ld_blt I hg hm hb (PyProof.Rows.callWith_type1 (thn (ha pos pins s σ H _ I h) fun us s1 ⟨vs, H1, I1, r1, q1⟩ => ?_) (by rw [hs, hs2]) (by rw [hs2]; rfl)))
  obtain ⟨x, l, e, ⟨ys, hq⟩, q⟩ := q1
  subst e
  obtain ⟨u, u2, rfl, ⟨t, rfl⟩, ru⟩ := vals2 r1
  cases ru
  obtain ⟨its, rv, ht, hz⟩ := I1.tuple hq
  refine call_zip_st (show s1.heap.IsTuple l its.toArray from ht) fun h' a1 a2 a3 a4 a5 a6 hk => ?_
  have I2 : Inv X pins σ H1 { s1 with heap := h' } := I1.kept (t' := s1.toks) hk
  refine wpAny_pyIter_zip a1 ?_
  refine ⟨s1.heap.objs.size + 4, [s1.heap.objs.size + 4, s1.heap.objs.size + 2, s1.heap.objs.size + 3, s1.heap.objs.size, s1.heap.objs.size + 1], _, _, H1, rfl, I2, turn_zip x t l _ _ _ _ _ (zok s1.heap.objs.size), ⟨a1, a2, ⟨_, _, a3⟩, a4, a5⟩, fun b hb => ?_, q⟩
  have hb : s1.heap.objs.size ≤ b := by
    have hb : b = s1.heap.objs.size + 4 ∨ b = s1.heap.objs.size + 2 ∨ b = s1.heap.objs.size + 3 ∨ b = s1.heap.objs.size ∨ b = s1.heap.objs.size + 1 := by simpa using hb
    rcases hb with q | q | q | q | q
    · rw [q]; exact Nat.le_add_right _ _
    · rw [q]; exact Nat.le_add_right _ _
    · rw [q]; exact Nat.le_add_right _ _
    · rw [q]; exact Nat.le_refl _
    · rw [q]; exact Nat.le_add_right _ _
  exact I1.fpOk hb (I1.hok.fresh hb)
end
end L2
set_option Elab.async false
set_option linter.all false
set_option maxRecDepth 100000
namespace L3
open PySem PySem.Spec L2
section
variable {X : Cx} {F : Fx} {e a b c tg iter elt : Expr} {es : List Expr} {pos p : Pos} {m n : ME} {ma : MA}
/-! ### what is walked -/
def signD (c : Nat) : D := .str ⟨#[c]⟩
def signsD : D → R (List D)
  | .str x => .ok (x.cps.toList.map signD)
  | _ => .bad
theorem it_str {K : PySem.W.Frag} {G : Hp} (x : Str) : ItOk K (Its x) (x.cps.toList.map signD) G where
  go := fun i H s hi => by
    have h : i < x.cps.size := by simpa using hi
    exact h
  yld := fun i H v H' s hi y => by
    obtain ⟨e, c, hc, rfl⟩ := y
    refine ⟨signD c, ?_, .inl ⟨e, by unfold signD; simp only [At]⟩⟩
    rw [List.getElem?_map, Array.getElem?_toList, hc]
    rfl
  stop := fun H s => by
    have h : (x.cps.toList.map signD).length = x.cps.size := by simp
    exact h
def mIS (m : ME) : MA := fun ρ => (m ρ).bind signsD
theorem i_strI : ImpI (tI F (mIS m)) (iStr (tE F m)) := by
  rintro σ H Q ⟨G, ρ, r, h⟩
  unfold mIS at h
  refine ⟨G, ρ, r, ?_⟩
  cases ea : m ρ with
  | bad => rw [ea] at h; exact h.elim
  | exc c => rw [ea] at h; exact h
  | ok d =>
    rw [ea, R.bind_ok] at h
    intro v H1 G1 r1 s1 a
    cases d with
    | str x => simp only [At] at a; exact ⟨x, a, h _ H1 G1 r1 s1 (it_str x)⟩
    | _ => exact h.elim
def enumL (ds : List D) : List D := ds.zipIdx.map fun p => .tup [.int (p.2 : Int), p.1]
theorem enumL_get {ds : List D} {i : Nat} {d : D} (e : ds[i]? = some d) : (enumL ds)[i]? = some (.tup [.int (i : Int), d]) := by
  unfold enumL
  rw [List.getElem?_map, List.getElem?_zipIdx, e]
  simp
def enumD : List D → R (List D)
  | [.lst ds] => .ok (enumL ds)
  | [.scr ds] => .ok (enumL ds)
  | _ => .bad
theorem it_enum {K : PySem.W.Frag} {G : Hp} {l : Addr} {ds : List D} {xs : List V} (h : SqL K G l xs) (q : AtL K G ds xs) : ItOk K (Ite K l) (enumL ds) G where
  go := fun i H s hi => by
    have hi : i < ds.length := by simpa [enumL] using hi
    obtain ⟨v, e, _⟩ := q.get (List.getElem?_eq_getElem hi)
    exact ⟨xs, v, SqL.mono s h, e⟩
  yld := fun i H v H' s hi y => by
    obtain ⟨p, x, hp, rfl, rfl, y⟩ := y
    have ex := y xs (SqL.mono s h)
    obtain ⟨d, e, a⟩ := q.getV ex
    exact ⟨_, enumL_get e, .inr ⟨p, _, _, hp, rfl, rfl, rfl, .cons (by simp only [At]) (.cons a .nil)⟩⟩
  stop := fun H s => ⟨xs, SqL.mono s h, by simp [enumL, q.length]⟩
def mIE (m : MA) : MA := fun ρ => (m ρ).bind enumD
theorem i_enum (hK : F.K = X.K) : ImpI (tI F (mIE ma)) (iEnum X.K (tA F ma)) := by
  rintro σ H Q ⟨G, ρ, r, h⟩
  unfold mIE at h
  refine ⟨G, ρ, r, ?_⟩
  cases ea : ma ρ with
  | bad => rw [ea] at h; exact h.elim
  | exc c => rw [ea] at h; exact h
  | ok ds =>
    rw [ea, R.bind_ok] at h
    intro vs H1 G1 r1 s1 al
    unfold enumD at h
    split at h
    · rename_i ds
      obtain ⟨v, rfl, a⟩ := al.one
      simp only [At] at a
      obtain ⟨q, xs, rfl, hq, aq⟩ := a
      have sq : SqL X.K G1 q xs := SqL.of hq
      rw [← hK] at sq
      refine ⟨q, rfl, ⟨xs, by rw [← hK]; exact SqL.mono r1.kp.sub sq⟩, ?_⟩
      rw [← hK]
      exact h _ H1 G1 r1 s1 (it_enum sq aq)
    · rename_i ds
      obtain ⟨v, rfl, a⟩ := al.one
      simp only [At] at a
      obtain ⟨q, xs, rfl, hq, aq⟩ := a
      refine ⟨q, rfl, ⟨xs, by rw [← hK]; exact SqL.mono r1.kp.sub hq⟩, ?_⟩
      rw [← hK]
      exact h _ H1 G1 r1 s1 (it_enum hq aq)
    · exact h.elim
def zipL (xs : List Nat) (ys : List D) : List D := (xs.zip ys).map fun p => .tup [signD p.1, p.2]
def zipD : List D → R (List D)
  | [.str x, .tup ys] => .ok (zipL x.cps.toList ys)
  | _ => .bad
theorem it_zip {K : PySem.W.Frag} {G : Hp} {x : Str} {l : Addr} {ds : List D} {xs : List V} (h : SqT K G l xs) (q : AtL K G ds xs) : ItOk K (Itz K x l) (zipL x.cps.toList ds) G where
  go := fun i H s hi => by
    have hi : i < min x.cps.size ds.length := by simpa [zipL] using hi
    have h1 : i < ds.length := by omega
    obtain ⟨v, e, _⟩ := q.get (List.getElem?_eq_getElem h1)
    exact ⟨by omega, xs, v, SqT.mono s h, e⟩
  yld := fun i H v H' s hi y => by
    obtain ⟨p, c, y', hc, hp, rfl, rfl, y⟩ := y
    have ex := y xs (SqT.mono s h)
    obtain ⟨d, e, a⟩ := q.getV ex
    refine ⟨.tup [signD c, d], ?_, .inr ⟨p, _, _, hp, rfl, rfl, rfl, .cons (by unfold signD; simp only [At]) (.cons a .nil)⟩⟩
    unfold zipL
    rw [List.getElem?_map]
    have ez : (x.cps.toList.zip ds)[i]? = some (c, d) := by
      rw [List.getElem?_zip_eq_some]
      exact ⟨by rw [Array.getElem?_toList]; exact hc, e⟩
    rw [ez]
    rfl
  stop := fun H s => ⟨xs, SqT.mono s h, by simp [zipL, q.length]⟩
def mIZ (m : MA) : MA := fun ρ => (m ρ).bind zipD
theorem i_zip (hK : F.K = X.K) : ImpI (tI F (mIZ ma)) (iZipST X.K (tA F ma)) := by
  rintro σ H Q ⟨G, ρ, r, h⟩
  unfold mIZ at h
  refine ⟨G, ρ, r, ?_⟩
  cases ea : ma ρ with
  | bad => rw [ea] at h; exact h.elim
  | exc c => rw [ea] at h; exact h
  | ok ds =>
    rw [ea, R.bind_ok] at h
    intro vs H1 G1 r1 s1 al
    unfold zipD at h
    split at h
    · rename_i x ys
      obtain ⟨v, w, rfl, av, aw⟩ := al.two
      simp only [At] at av aw
      subst av
      obtain ⟨q, xs, rfl, hq, aq⟩ := aw
      refine ⟨x, q, rfl, ⟨xs, by rw [← hK]; exact SqT.mono r1.kp.sub hq⟩, ?_⟩
      rw [← hK]
      exact h _ H1 G1 r1 s1 (it_zip hq aq)
    · exact h.elim
theorem w_list (h : EM X F e m) (hK : F.K = X.K := by rfl) : IM X F tg e (mIL m) := PI.imp (pi_list h) (by rw [← hK]; exact i_list)
theorem w_tup (h : EM X F e m) (hK : F.K = X.K := by rfl) : IM X F tg e (mIT m) := PI.imp (pi_tup h) (by rw [← hK]; exact i_tupI)
theorem w_str (h : EM X F e m) : IM X F tg e (mIS m) := PI.imp (pi_str h) i_strI
theorem w_range1 (hm : X.mg "range" = none) (ha : AM X F [a] ma) (hg : Gl X "range" := by rfl) (hs : starEach [a] X.env = [(false, eval a X.env)] := by rfl) : IM X F tg (.Call (.Name "range" p) [a] [] pos) (mR1 ma) := PI.imp (pi_range1 hg hm ha hs) i_r1
theorem w_range2 (hm : X.mg "range" = none) (ha : AM X F [a, b] ma) (hg : Gl X "range" := by rfl) (hs : starEach [a, b] X.env = [(false, eval a X.env), (false, eval b X.env)] := by rfl) (hs2 : starEach [b] X.env = [(false, eval b X.env)] := by rfl) : IM X F tg (.Call (.Name "range" p) [a, b] [] pos) (mR2 ma) := PI.imp (pi_range2 hg hm ha hs hs2) i_r2
theorem w_enum {elts : List Expr} {k : Nat} {tp : Pos} (hm : X.mg "enumerate" = none) (ha : AM X F [a] ma) (hK : F.K = X.K := by rfl) (hg : Gl X "enumerate" := by rfl) (hs : starEach [a] X.env = [(false, eval a X.env)] := by rfl) : IM X F (.Tuple elts k tp) (.Call (.Name "enumerate" p) [a] [] pos) (mIE ma) := PI.imp (pi_enum hg hm ha hs) (i_enum hK)
theorem w_zip {elts : List Expr} {k : Nat} {tp : Pos} (hm : X.mg "zip" = none) (ha : AM X F [a, b] ma) (hK : F.K = X.K := by rfl) (hg : Gl X "zip" := by rfl) (hs : starEach [a, b] X.env = [(false, eval a X.env), (false, eval b X.env)] := by rfl) (hs2 : starEach [b] X.env = [(false, eval b X.env)] := by rfl) :
    IM X F (.Tuple elts k tp) (.Call (.Name "zip" p) [a, b] [] pos) (mIZ ma) := PI.imp (pi_zipST hg hm ha hs hs2) (i_zip hK)
/-! ### targets -/
structure GM (X : Cx) (tg : Expr) (set : D → Rho → R Rho) : Prop where
  ex : ∃ g, PG X tg g ∧ ∀ F : Fx, F.K = X.K → GOk F g set
  noX : ∀ d ρ c, set d ρ ≠ .exc c
  keeps : Keeps set
theorem n_name (i : Nat) {x : Str} (hN : X.N.Nodup) (hi : X.N[i]? = some x := by rfl) (hx : Loc X.env.scope x := by first | exact Or.inl rfl | exact Or.inr rfl) (hf : X.fn x = true ∨ X.env.scope.names.lookup x = some .local := by first | exact .inl rfl | exact .inr rfl) : GM X (.Name x pos) (setV i) :=
  ⟨⟨gName i, pg_name hN hi hx hf, fun _ _ => g_name i⟩, setV_noexc i, setV_keeps i⟩
structure GsM (X : Cx) (tgs : List Expr) (fs : List (D → Rho → R Rho)) : Prop where
  ex : ∃ g, PGs X tgs g ∧ ∀ F : Fx, F.K = X.K → GsOk F g (setL fs)
  noX : ∀ f ∈ fs, ∀ d ρ c, f d ρ ≠ .exc c
  keeps : ∀ f ∈ fs, Keeps f
theorem n_nil : GsM X [] [] := ⟨⟨gNil, pgs_nil, fun _ _ => g_nil⟩, (fun _ h => nomatch h), (fun _ h => nomatch h)⟩
theorem n_cons {f : D → Rho → R Rho} {fs : List (D → Rho → R Rho)} (h : GM X e f) (t : GsM X es fs) (hs : (assignEach (e :: es) X.env).map (·.2) = assign e X.env :: (assignEach es X.env).map (·.2) := by rfl) : GsM X (e :: es) (f :: fs) := by
  obtain ⟨⟨g, h1, h2⟩, h3, h4⟩ := h
  obtain ⟨⟨gs, t1, t2⟩, t3, t4⟩ := t
  exact ⟨⟨gCons g gs, pgs_cons h1 t1 hs, fun F hF => g_cons (h2 F hF) (t2 F hF)⟩, fun k hk => by rcases List.mem_cons.mp hk with rfl | hk; exact h3; exact t3 k hk, fun k hk => by rcases List.mem_cons.mp hk with rfl | hk; exact h4; exact t4 k hk⟩
theorem n_tup {k : Nat} {fs : List (D → Rho → R Rho)} (hc : X.calm = true) (h : GsM X es fs) (hn : (assignEach es X.env).length = fs.length := by rfl) (hst : (assignEach es X.env).findIdx? (·.1) = none := by rfl) : GM X (.Tuple es k pos) (setT fs) := by
  obtain ⟨⟨gs, t1, t2⟩, t3, t4⟩ := h
  exact ⟨⟨gTup X.K fs.length gs, pg_tup hc t1 hn hst, fun F hF => by rw [← hF]; exact g_tup rfl (t2 F hF)⟩, setT_noexc t3, setT_keeps t4⟩
/-! ### loops -/
theorem s_for {body : List Stmt} {mi : MA} {set : D → Rho → R Rho} {mb : MS} (hp : PassesOwn (model X.prog X.w) X.A X.env X.xe) (hi : IM X F tg iter mi) (hg : GM X tg set) (hb : BM X F body mb) (hc : X.calm = true := by rfl) (hK : F.K = X.K := by rfl) (hs : ∀ x, foldedSetIterable iter X.env x = pure x := by intro _; rfl) :
    SM X F (.For tg iter body [] pos) (mFor mi set mb) := by
  obtain ⟨⟨g, h1, h2⟩, h3, _⟩ := hg
  exact PS.imp (ps_for hp hc hi h1 hb hs) (i_for (h2 F hK) h3)
abbrev BlkE (X : Cx) (scope : Scope) (N : List Str) (e : Expr) (m : ME) : Prop := ∀ cl C s H fp G0 H0, EM (cxB X scope N cl C s H fp) (fxB X.K G0 H0) e m
abbrev BlkT (X : Cx) (scope : Scope) (N : List Str) (ifs : List Expr) (m : MT) : Prop := ∀ cl C s H fp G0 H0, PTs (cxB X scope N cl C s H fp) ifs (tT (fxB X.K G0 H0) m)
abbrev BlkG (X : Cx) (scope : Scope) (N : List Str) (tg : Expr) (set : D → Rho → R Rho) : Prop := ∃ g, (∀ cl C s H fp, PG (cxB X scope N cl C s H fp) tg g) ∧ (∀ G0 H0, GOk (fxB X.K G0 H0) g set)
theorem blk_g {scope : Scope} {N : List Str} {g : TG} {set : D → Rho → R Rho} (h : ∀ cl C s H fp, PG (cxB X scope N cl C s H fp) tg g) (k : ∀ F : Fx, F.K = X.K → GOk F g set) : BlkG X scope N tg set := ⟨g, h, fun G0 H0 => k (fxB X.K G0 H0) rfl⟩
def mYes : MT := fun _ => .ok true
theorem blk_yes {scope : Scope} {N : List Str} : BlkT X scope N [] mYes := fun cl C s H fp G0 H0 pins s' σ H' Q I h => by
  obtain ⟨G, ρ, r, k⟩ := h
  exact pts_nil pins s' σ H' Q I (k H' G r (Up.refl _ _))
theorem blk_one {scope : Scope} {N : List Str} {mt : MT} (h : ∀ cl C s H fp G0 H0, TM (cxB X scope N cl C s H fp) (fxB X.K G0 H0) c mt) : BlkT X scope N [c] mt := fun cl C s H fp G0 H0 => pts_one (h cl C s H fp G0 H0)
theorem comp_imp {scope : Scope} {N : List Str} {ifs : List Expr} {nl : Nat} {caps : List Nat} {mi : MA} {set : D → Rho → R Rho} {mt : MT} {me : ME} (hK : F.K = X.K) (hi : IM X F tg iter mi) (hg : BlkG X scope N tg set) (ht : BlkT X scope N ifs mt) (he : BlkE X scope N elt me) (hx : ∀ d ρ c, set d ρ ≠ .exc c) (hk : Keeps set)
    {Q : TE → Prop} (k : ∀ g, (∀ cl C s H fp, PG (cxB X scope N cl C s H fp) tg g) → (∀ cl C s H fp, PTs (cxB X scope N cl C s H fp) ifs (xT X.K mt)) → (∀ cl C s H fp, PE (cxB X scope N cl C s H fp) elt (xE X.K me)) → ImpE (tO F (mComp nl caps mi set mt me)) (tComp (tI F mi) g (xT X.K mt) (xE X.K me) nl caps) → Q (tO F (mComp nl caps mi set mt me))) : Q (tO F (mComp nl caps mi set mt me)) := by
  obtain ⟨g, g1, g2⟩ := hg
  refine k g g1 (fun cl C s H fp pins s' σ H' Q' I h => ?_) (fun cl C s H fp pins s' σ H' Q' I h => ?_) ?_
  · obtain ⟨G0, H0, h⟩ := h
    exact ht cl C s H fp G0 H0 pins s' σ H' Q' I h
  · obtain ⟨G0, H0, h⟩ := h
    exact he cl C s H fp G0 H0 pins s' σ H' Q' I h
  · have z := i_comp (F := F) (nl := nl) (caps := caps) (mi := mi) (tst := mt) (elt := me) (g := g) (set := set) (fun G0 H0 => by rw [hK]; exact g2 G0 H0) hx hk
    rw [hK] at z
    exact z
/-- [elt for tg in iter if ..] -/
theorem o_comp {scope : Scope} {N : List Str} {ifs : List Expr} {nl : Nat} {caps : List Nat} {mi : MA} {set : D → Rho → R Rho} {mt : MT} {me : ME} (S : CompSc X.env.scope X.N scope N nl caps) (hi : IM X F tg iter mi) (hg : BlkG X scope N tg set) (hx : ∀ d ρ c, set d ρ ≠ .exc c) (hk : Keeps set) (ht : BlkT X scope N ifs mt) (he : BlkE X scope N elt me)
    (hc : X.calm = true := by rfl) (hK : F.K = X.K := by rfl) (hs : ∀ x, foldedSetIterable iter X.env x = pure x := by intro _; rfl) : EO X F (.ListComp elt [⟨tg, iter, ifs, 0⟩] scope pos) (mComp nl caps mi set mt me) :=
  comp_imp (nl := nl) (caps := caps) (Q := fun t => PE X (.ListComp elt [⟨tg, iter, ifs, 0⟩] scope pos) t) hK hi hg ht he hx hk fun g g1 t1 e1 imp => PE.imp (pe_comp S hc hi g1 t1 e1 hs) imp
/-- y = [elt for tg in iter if ..] -/
theorem s_comp (i : Nat) {y : Str} {py : Pos} {scope : Scope} {N : List Str} {ifs : List Expr} {nl : Nat} {caps : List Nat} {mi : MA} {set : D → Rho → R Rho} {mt : MT} {me : ME} {cpos : Pos} (hN : X.N.Nodup) (S : CompSc X.env.scope X.N scope N nl caps) (hi : IM X F tg iter mi) (hg : BlkG X scope N tg set) (hx : ∀ d ρ c, set d ρ ≠ .exc c) (hk : Keeps set) (ht : BlkT X scope N ifs mt) (he : BlkE X scope N elt me)
    (hy : X.N[i]? = some y := by rfl) (hl : X.env.kindOf y = some .local := by rfl) (hsw : swapsWith (.ListComp elt [⟨tg, iter, ifs, 0⟩] scope cpos) (some (.Name y py)) pos.line X.env = pure true := by rfl) (hc : X.calm = true := by rfl) (hK : F.K = X.K := by rfl) (hs : ∀ x, foldedSetIterable iter X.env x = pure x := by intro _; rfl) :
    SM X F (.Assign [.Name y py] (.ListComp elt [⟨tg, iter, ifs, 0⟩] scope cpos) pos) (mSetO i (mComp nl caps mi set mt me)) := by
  refine PS.imp (t := tAsg (tO F (mComp nl caps mi set mt me)) (gName i)) ?_ i_setO
  refine comp_imp (nl := nl) (caps := caps) (Q := fun t => PS X (.Assign [.Name y py] (.ListComp elt [⟨tg, iter, ifs, 0⟩] scope cpos) pos) (tAsg t (gName i))) hK hi hg ht he hx hk fun g g1 t1 e1 imp => ?_
  exact PS.imp (ps_comp S hc hN hy hl hi g1 t1 e1 hsw hs) fun De σ H h => imp σ H _ h
end
end L3
set_option Elab.async false
set_option linter.all false
set_option maxRecDepth 100000
namespace L3
open PySem PySem.Spec L2
section
variable {X : Cx} {F : Fx} {e a b c : Expr} {es : List Expr} {pos p : Pos} {m n : ME} {ma : MA}
/-! ### all, any of bools -/
def boolsD : List D → Option (List Bool)
  | [] => some []
  | .bl b :: r => (boolsD r).map (b :: ·)
  | _ :: _ => none
theorem bools_at {K : PySem.W.Frag} {G : Hp} : ∀ {ds : List D} {xs : List V} {bs : List Bool}, AtL K G ds xs → boolsD ds = some bs → xs = bs.map V.bl
  | [], _, _, q, e => by simp only [AtL] at q; subst q; cases e; rfl
  | d :: ds, _, bs, q, e => by
    simp only [AtL] at q
    obtain ⟨v, r, rfl, a, ar⟩ := q
    cases d with
    | bl b =>
      simp only [At] at a; subst a
      simp only [boolsD] at e
      cases e1 : boolsD ds with
      | none => rw [e1] at e; cases e
      | some cs =>
        rw [e1] at e
        have eb : b :: cs = bs := Option.some.inj e
        subst eb
        rw [bools_at ar e1]; rfl
    | _ => cases e
theorem vals_bools : ∀ {bs : List Bool} {us : List Value}, Vals (bs.map V.bl) us → us = bs.map Value.bool
  | [], _, r => by cases r; rfl
  | b :: bs, _, r => by
    cases r with
    | cons r1 r2 => cases r1; rw [vals_bools r2]; rfl
theorem call_allL (hc : X.calm = true) (hcl : X.A.handled = none) : CallR X (.builtin "all") (fun xs H Q => ∃ (p : Addr) (bs : List Bool), xs = [.ref p] ∧ SqL X.K H p (bs.map V.bl) ∧ Q (.bl (bs.all id)) H) := by
  intro pins s σ H xs us Q I r h
  obtain ⟨p, bs, rfl, hq, q⟩ := h
  obtain ⟨u, rfl, ru⟩ := vals1 r
  cases ru
  obtain ⟨its, rv, pl, hz⟩ := I.list hq
  have ei := vals_bools rv
  refine call_all_walk (wpAny_pyIter_list pl.isList ?_)
  have hne : p ≠ s.heap.objs.size := by obtain ⟨o, ho, _⟩ := pl.isList; exact Nat.ne_of_lt (Heap.lt_size ho)
  refine ⟨s.heap.objs.size, _, _, _, _, _, fun i => (bs[i]?).getD true, rfl, Walks.list (prog := X.prog) (w := X.w) (A := X.A.in1) hcl s.heap.objs.size p hne its.toArray, ⟨⟨_, Heap.get?_push_size _ rfl, rfl, rfl⟩, pl.isList.push _⟩, ?_, fun h' tk kk => ?_⟩
  · intro i v s' Q' E' hP hQ'
    rw [ei] at hP
    have hP : (bs.map Value.bool)[i]? = some v := by simpa using hP
    rw [List.getElem?_map] at hP
    cases eb : bs[i]? with
    | none => rw [eb] at hP; cases hP
    | some b =>
      rw [eb] at hP
      have ev : Value.bool b = v := Option.some.inj hP
      subst ev
      dsimp only at hQ'
      rw [eb] at hQ'
      exact wpAny_truthy_bool hQ'
  · have hall : (List.range its.toArray.size).all (fun i => (bs[i]?).getD true) = bs.all id := by
      have hl : its.toArray.size = bs.length := by rw [ei]; simp
      rw [hl, Bool.eq_iff_iff, List.all_eq_true, List.all_eq_true]
      constructor
      · intro hh x hx
        obtain ⟨i, hi, rfl⟩ := List.mem_iff_getElem.mp hx
        have := hh i (List.mem_range.mpr hi)
        rw [List.getElem?_eq_getElem hi] at this
        exact this
      · intro hh i hi
        have hi := List.mem_range.mp hi
        rw [List.getElem?_eq_getElem hi]
        exact hh _ (List.getElem_mem hi)
    rw [hall]
    exact ⟨.bl _, H, I.kept (t' := tk) fun b o e2 => kk b o (by
      intro z
      have z : b = s.heap.objs.size := by simpa using z
      exact absurd (Heap.lt_size e2) (by rw [z]; exact Nat.lt_irrefl _)) (Heap.get?_push_of_some _ e2), rfl, q⟩
theorem call_anyL (hc : X.calm = true) (hcl : X.A.handled = none) : CallR X (.builtin "any") (fun xs H Q => ∃ (p : Addr) (bs : List Bool), xs = [.ref p] ∧ SqL X.K H p (bs.map V.bl) ∧ Q (.bl (bs.any id)) H) := by
  intro pins s σ H xs us Q I r h
  obtain ⟨p, bs, rfl, hq, q⟩ := h
  obtain ⟨u, rfl, ru⟩ := vals1 r
  cases ru
  obtain ⟨its, rv, pl, hz⟩ := I.list hq
  have ei := vals_bools rv
  refine call_any_walk (wpAny_pyIter_list pl.isList ?_)
  have hne : p ≠ s.heap.objs.size := by obtain ⟨o, ho, _⟩ := pl.isList; exact Nat.ne_of_lt (Heap.lt_size ho)
  refine ⟨s.heap.objs.size, _, _, _, _, _, fun i => (bs[i]?).getD false, rfl, Walks.list (prog := X.prog) (w := X.w) (A := X.A.in1) hcl s.heap.objs.size p hne its.toArray, ⟨⟨_, Heap.get?_push_size _ rfl, rfl, rfl⟩, pl.isList.push _⟩, ?_, fun h' tk kk => ?_⟩
  · intro i v s' Q' E' hP hQ'
    rw [ei] at hP
    have hP : (bs.map Value.bool)[i]? = some v := by simpa using hP
    rw [List.getElem?_map] at hP
    cases eb : bs[i]? with
    | none => rw [eb] at hP; cases hP
    | some b =>
      rw [eb] at hP
      have ev : Value.bool b = v := Option.some.inj hP
      subst ev
      dsimp only at hQ'
      rw [eb] at hQ'
      exact wpAny_truthy_bool hQ'
  · have hall : (List.range its.toArray.size).any (fun i => (bs[i]?).getD false) = bs.any id := by
      have hl : its.toArray.size = bs.length := by rw [ei]; simp
      rw [hl, Bool.eq_iff_iff, List.any_eq_true, List.any_eq_true]
      constructor
      · rintro ⟨i, hi, hh⟩
        have hi := List.mem_range.mp hi
        rw [List.getElem?_eq_getElem hi] at hh
        exact ⟨_, List.getElem_mem hi, hh⟩
      · rintro ⟨x, hx, hh⟩
        obtain ⟨i, hi, rfl⟩ := List.mem_iff_getElem.mp hx
        refine ⟨i, List.mem_range.mpr hi, ?_⟩
        rw [List.getElem?_eq_getElem hi]
        exact hh
    rw [hall]
    exact ⟨.bl _, H, I.kept (t' := tk) fun b o e2 => kk b o (by
      intro z
      have z : b = s.heap.objs.size := by simpa using z
      exact absurd (Heap.lt_size e2) (by rw [z]; exact Nat.lt_irrefl _)) (Heap.get?_push_of_some _ e2), rfl, q⟩
def allD : List D → R D
  | [.lst ds] => match boolsD ds with | some bs => .ok (.bl (bs.all id)) | none => .bad
  | _ => .bad
def anyD : List D → R D
  | [.lst ds] => match boolsD ds with | some bs => .ok (.bl (bs.any id)) | none => .bad
  | _ => .bad
theorem ok_all : CallOk F (fun xs H Q => ∃ (p : Addr) (bs : List Bool), xs = [.ref p] ∧ SqL X.K H p (bs.map V.bl) ∧ Q (.bl (bs.all id)) H) allD := by
  intro σ ρ G H xs ds Q r al k
  unfold allD at k
  split at k
  · rename_i ds
    split at k
    · rename_i bs eb
      obtain ⟨v, rfl, av⟩ := al.one
      simp only [At] at av
      obtain ⟨q, xs, rfl, hq, aq⟩ := av
      have := bools_at aq eb
      subst this
      exact ⟨q, bs, rfl, SqL.of (r.kp.sub _ _ hq), k _ H G r (Up.refl _ _) (by simp only [At])⟩
    · exact k.elim
  · exact k.elim
theorem ok_any : CallOk F (fun xs H Q => ∃ (p : Addr) (bs : List Bool), xs = [.ref p] ∧ SqL X.K H p (bs.map V.bl) ∧ Q (.bl (bs.any id)) H) anyD := by
  intro σ ρ G H xs ds Q r al k
  unfold anyD at k
  split at k
  · rename_i ds
    split at k
    · rename_i bs eb
      obtain ⟨v, rfl, av⟩ := al.one
      simp only [At] at av
      obtain ⟨q, xs, rfl, hq, aq⟩ := av
      have := bools_at aq eb
      subst this
      exact ⟨q, bs, rfl, SqL.of (r.kp.sub _ _ hq), k _ H G r (Up.refl _ _) (by simp only [At])⟩
    · exact k.elim
  · exact k.elim
theorem e_all {k : Nat} (hr : Room k X.A) (hm : X.mg "all" = none) (ha : AM X F [e] ma) (hc : X.calm = true := by rfl) (hg : Gl X "all" := by rfl) (he : starEach [e] X.env = (false, eval e X.env) :: starEach [] X.env := by rfl) (hpl : (backTo pos (starEach [] X.env)).any (·.1) = false := by rfl) :
    EM X F (.Call (.Name "all" p) [e] [] pos) (mCB allD ma) := e_callB (call_allL hc hr.hd) ok_all hm (by kernel_rfl) ha hg (by decide) (by decide) he hpl
theorem e_any {k : Nat} (hr : Room k X.A) (hm : X.mg "any" = none) (ha : AM X F [e] ma) (hc : X.calm = true := by rfl) (hg : Gl X "any" := by rfl) (he : starEach [e] X.env = (false, eval e X.env) :: starEach [] X.env := by rfl) (hpl : (backTo pos (starEach [] X.env)).any (·.1) = false := by rfl) :
    EM X F (.Call (.Name "any" p) [e] [] pos) (mCB anyD ma) := e_callB (call_anyL hc hr.hd) ok_any hm (by kernel_rfl) ha hg (by decide) (by decide) he hpl
end
end L3
set_option Elab.async false
set_option linter.all false
set_option maxRecDepth 100000
namespace L3
open PySem PySem.Spec L2
section
variable {X : Cx} {F : Fx} {e a b c : Expr} {es : List Expr} {pos p : Pos} {m n : ME} {ma : MA}
/-! ### x.append(e), x a name with a list of its own -/
def ownAt (i : Nat) (ρ : Rho) : R (List D) := match ρ[i]? with
  | some (.ow ds) => .ok ds
  | _ => .bad
def mApp (i : Nat) (m : ME) : MS := fun ρ => (ownAt i ρ).bind fun ds => (m ρ).bind fun d => if ds.length < 1000000 then .ok (.nx (ρ.set i (.ow (ds ++ [d])))) else .bad
theorem s_append (i : Nat) {x : Str} {px : Pos} {apos : Pos} {cpos : Pos} (he : EM X F e m) (hN : X.N[i]? = some x := by rfl) (hv : Vis X.env.scope x := by first | exact Or.inl rfl | exact Or.inr (Or.inl rfl) | exact Or.inr (Or.inr rfl)) (hd : (x == ("__debug__" : Str)) = false := by decide) (hcd : (x == ("__classdict__" : Str)) = false := by decide)
    (hbase : attributeBase (.Name x px) "append" X.env (eval (.Name x px) X.env) = eval (.Name x px) X.env := by rfl) (hline : (apos.endLine == cpos.line) = true := by rfl)
    (hfew : ((backTo cpos (starEach [e] X.env)).all (fun x => !x.1) && (backToKw cpos (keywordEach [] X.env)).all (fun x => x.1.isSome)
      && decide (([e] : List Expr).length + ([] : List Keyword).length + (if ([] : List Keyword).isEmpty then 0 else 1) < 30)) = true := by rfl)
    (hs : starEach [e] X.env = (false, eval e X.env) :: starEach [] X.env := by rfl) (hplain : (backTo cpos (starEach [] X.env)).any (·.1) = false := by rfl)
    (hK : F.K = X.K := by rfl) :
    SM X F (.Expr (.Call (.Attribute (.Name x px) "append" apos) [e] [] cpos) pos) (mApp i m) := by
  refine PS.imp (ps_expr (pe_bm PySem.F.plainAttrs_list PySem.F.slot_list_append PySem.F.type_list_append mt_append (pe_var hN hv hd hcd) (pa_cons he pa_nil hs) hbase hfew hline hs hplain) (swaps_no _ _ _ _ rfl)) ?_
  rintro De σ H ⟨G, ρ, r, h⟩
  unfold mApp ownAt at h
  cases er : ρ[i]? with
  | none => rw [er] at h; exact h.elim
  | some s =>
    rw [er] at h
    cases s with
    | un => exact h.elim
    | fz _ => exact h.elim
    | ow ds =>
      obtain ⟨o, e1, q, xs, e2, h1, h2, h3, h4⟩ := r.sl i _ er
      subst e2
      have h : kS F G De ((m ρ).bind fun d => if ds.length < 1000000 then .ok (.nx (ρ.set i (.ow (ds ++ [d])))) else .bad) := h
      refine ⟨.ref q, e1, .inl ⟨rfl, xs, SqL.of h1⟩, G, ρ, r, ?_⟩
      cases ea : m ρ with
      | bad => rw [ea] at h; exact h.elim
      | exc c => rw [ea] at h; exact h
      | ok d =>
        rw [ea, R.bind_ok] at h
        intro v H1 G1 r1 s1 av
        obtain ⟨o, e1', q', xs', e2', h1', h2', h3', h4'⟩ := r1.sl i _ er
        rw [e1] at e1'
        cases e1'
        cases e2'
        by_cases hl : ds.length < 1000000
        · rw [if_pos hl] at h
          refine ⟨q, xs', v, rfl, rfl, h1', by rw [← h4'.length]; exact Nat.lt_trans hl (by decide), ?_⟩
          exact h σ G1 _ (r1.mut er e1 (h4'.snoc av)) s1.g
        · rw [if_neg hl] at h; exact h.elim
end
end L3
set_option Elab.async false
set_option linter.all false
set_option maxRecDepth 100000
set_option autoImplicit false
namespace L3
open PySem PySem.Spec L2
abbrev sp0 (K : PySem.W.Frag) (n : Nat) (mf : List D → R Rt) : Sp := spM K n (fun _ _ _ => False) mf
/-- a def of the text, known by its mirror -/
structure Kn (P : Program) (w : World) (K : PySem.W.Frag) (mg : Str → Option Value) (base : Heap) (x : Str) (n k : Nat) (mf : List D → R Rt) : Prop where
  ex : ∃ (f : Addr) (fd : FuncData) (ps : List Str), ps.length = n ∧ FnOk P w K mg base CX0 k f fd ps (sp0 K n mf) ∧ mg x = some (.ref f) ∧ PySem.W.keepIn K (.ref f) = true ∧ Binds K fd ps []
section
variable {X : Cx} {F : Fx} {e : Expr} {es : List Expr} {pos p : Pos} {ma : MA} {x : Str} {n k : Nat} {mf : List D → R Rt}
theorem e_call (c : Kn X.prog X.w X.K X.mg X.base x n k mf) (hr : Room k X.A) (ha : AM X F (e :: es) ma) (hE : F.EX = fun _ _ => False := by rfl) (hK : F.K = X.K := by rfl) (hg : Gl X x := by rfl) (hdb : (x == ("__debug__" : Str)) = false := by decide)
    (he : starEach (e :: es) X.env = (false, eval e X.env) :: starEach es X.env := by rfl) (hpl : (backTo pos (starEach es X.env)).any (·.1) = false := by rfl) : EM X F (.Call (.Name x p) (e :: es) [] pos) (mCall n mf ma) := by
  obtain ⟨f, fd, ps, hn, fo, hm, hk, hb⟩ := c.ex
  refine PE.imp (pe_call fo hr hg hm hk hb .nil pass0 ha hdb he hpl) ?_
  rw [← hK]
  exact i_call (xe := fun _ _ _ => False) (E := E0) hE
theorem o_call (c : Kn X.prog X.w X.K X.mg X.base x n k mf) (hr : Room k X.A) (ha : AM X F (e :: es) ma) (hE : F.EX = fun _ _ => False := by rfl) (hK : F.K = X.K := by rfl) (hg : Gl X x := by rfl) (hdb : (x == ("__debug__" : Str)) = false := by decide)
    (he : starEach (e :: es) X.env = (false, eval e X.env) :: starEach es X.env := by rfl) (hpl : (backTo pos (starEach es X.env)).any (·.1) = false := by rfl) : EO X F (.Call (.Name x p) (e :: es) [] pos) (mCallO n mf ma) := by
  obtain ⟨f, fd, ps, hn, fo, hm, hk, hb⟩ := c.ex
  refine PE.imp (pe_call fo hr hg hm hk hb .nil pass0 ha hdb he hpl) ?_
  rw [← hK]
  exact i_callO (xe := fun _ _ _ => False) (E := E0) hE
end
/-- a def of the text as it stands: its object, its name, how its arguments bind -/
structure Fd (K : PySem.W.Frag) (mg : Str → Option Value) (x : Str) (st : Stmt) (ps : List Str) : Prop where
  ex : ∃ (f : Addr) (fd : FuncData), Fun K x x st f fd ∧ mg x = some (.ref f) ∧ Binds K fd ps []
theorem d_ok {P : Program} {w : World} {K : PySem.W.Frag} {mg : Str → Option Value} {base : Heap} {x : Str} {st : Stmt} {N ps : List Str} {k : Nat} {m : MS} (d : Fd K mg x st ps) (S : FnScope N ps (defScope st))
    (h : ∀ (f : Addr) (cdv : Value) (A : Around) (outer : List Env) (s : Shared) (H : Hp) (E : XK), Room k (A.deeper (PyProof.Rows.envOfC x (defScope st) s.heap.objs.size f cdv)) → ∀ G0 H0, BM (cxOf CX0 P w K mg base N x (defScope st) f cdv A outer s H E).nox (fxB K G0 H0) (defBody st) m) :
    Kn P w K mg base x ps.length (k + 1) (mDef N.length m) := by
  obtain ⟨f, fd, fn, hm, hb⟩ := d.ex
  refine ⟨f, fd, ps, rfl, fn.ok S spM_len fun cdv A outer s H vs Q E hr hs => ?_, hm, fn.kp, hb⟩
  obtain ⟨G, ht⟩ := body_of hs
  exact ⟨_, h f cdv A outer s H E hr G H, ht⟩
theorem fd_mk {K : PySem.W.Frag} {h : Heap} {mg : Str → Option Value} {x : Str} {st : Stmt} {ps : List Str} {f : Addr} {oc : Value} {od an : Option Addr} {osl : Array (Option Value)} {kV doc pm cdv ct : Value} (X : K.In h) (G : h.Ns mainGlobals mg)
    (a : PySem.W.nsIn K mainGlobals x = some (some (.ref f))) (l : K.lookup f = some ⟨oc, od, .func (PySem.W.fnOf x x (defArgs st) (defBody st) (defScope st) .none kV doc pm an cdv ct), osl⟩)
    (c : PySem.W.codeIn K cdv x = true) (k : PySem.W.keepIn K (.ref f) = true)
    (b : ∀ (kV doc pm : Value) (an : Option Addr) (cdv ct : Value) (us : List Value), us.length = ps.length → bindArgs (PySem.W.fnOf x x (defArgs st) (defBody st) (defScope st) .none kV doc pm an cdv ct) ⟨us, []⟩ = pure (ps.zip us)) : Fd K mg x st ps :=
  ⟨f, _, fun_mk (st := st) l c k, PySem.W.mg_of X G a, (fun_mk (st := st) l c k).binds b⟩
/-- the law's promise from its mirror -/
theorem law_sp {K : PySem.W.Frag} {mf : List D → R Rt} {H : Hp} {a : Addr} {ns : List Int} (hS : SqL K H a (ns.map V.int)) (h : mf [.scr (ns.map .int)] = .ok (.v (.bl true))) (E : XK) : sp0 K 1 mf [.ref a] H (fun v _ => v = .bl true) E := by
  refine ⟨H, [.scr (ns.map .int)], Sub.refl _, .cons ?_ .nil, rfl, ?_⟩
  · simp only [At]
    refine ⟨a, _, rfl, hS, ?_⟩
    induction ns with
    | nil => exact .nil
    | cons n r ih => exact .cons (by simp only [At]) (ih' r)
  · rw [h]
    intro v G' H' _ av
    simp only [At] at av
    exact av
where
  ih' {K : PySem.W.Frag} {H : Hp} : ∀ r : List Int, AtL K H (r.map .int) (r.map V.int)
    | [] => .nil
    | n :: r => .cons (by simp only [At]) (ih' r)
end L3
set_option Elab.async false
set_option linter.all false
set_option maxRecDepth 100000
set_option autoImplicit false
namespace L3
open PySem PySem.Spec L2
section
variable {X : Cx} {F : Fx} {e a b c tg iter elt : Expr} {es : List Expr} {pos p : Pos} {m n : ME} {ma : MA} {scope : Scope} {N : List Str}
/-- the target of a comprehension's clause -/
structure BG (X : Cx) (scope : Scope) (N : List Str) (tg : Expr) (set : D → Rho → R Rho) : Prop where
  g : BlkG X scope N tg set
  nx : ∀ d ρ c, set d ρ ≠ .exc c
  kp : Keeps set
theorem b_name (i : Nat) {x : Str} (hN : N.Nodup := by decide +kernel) (hi : N[i]? = some x := by rfl) (hl : (relabel scope X.env).names.lookup x = some .local := by rfl) : BG X scope N (.Name x pos) (setV i) :=
  ⟨blk_g (g := gName i) (fun cl C s H fp => pg_name (X := cxB X scope N cl C s H fp) hN hi (.inl hl) (.inr hl)) fun F _ => g_name i, setV_noexc i, setV_keeps i⟩
theorem b_pair (i j : Nat) {x y : Str} {px py : Pos} {k : Nat} (hc : X.calm = true := by rfl) (hN : N.Nodup := by decide +kernel) (hi : N[i]? = some x := by rfl) (hj : N[j]? = some y := by rfl) (hl : (relabel scope X.env).names.lookup x = some .local := by rfl) (hm : (relabel scope X.env).names.lookup y = some .local := by rfl) :
    BG X scope N (.Tuple [.Name x px, .Name y py] k pos) (setT [setV i, setV j]) := by
  refine ⟨blk_g (g := gTup X.K 2 (gCons (gName i) (gCons (gName j) gNil))) (fun cl C s H fp => ?_) (fun F hF => ?_), setT_noexc ?_, setT_keeps ?_⟩
  · exact pg_tup (X := cxB X scope N cl C s H fp) hc (pgs_cons (pg_name (X := cxB X scope N cl C s H fp) hN hi (.inl hl) (.inr hl)) (pgs_cons (pg_name (X := cxB X scope N cl C s H fp) hN hj (.inl hm) (.inr hm)) pgs_nil rfl) rfl) rfl rfl
  · rw [← hF]
    exact g_tup rfl (g_cons (g_name i) (g_cons (g_name j) g_nil))
  · intro f hf
    rcases List.mem_cons.mp hf with rfl | hf
    · exact setV_noexc i
    · rw [List.mem_singleton.mp hf]; exact setV_noexc j
  · intro f hf
    rcases List.mem_cons.mp hf with rfl | hf
    · exact setV_keeps i
    · rw [List.mem_singleton.mp hf]; exact setV_keeps j
theorem o_comp' (nl : Nat) (caps : List Nat) {ifs : List Expr} {mi : MA} {set : D → Rho → R Rho} {mt : MT} {me : ME} (S : compScB X.env.scope X.N scope N nl caps = true) (hi : IM X F tg iter mi) (hg : BG X scope N tg set) (ht : BlkT X scope N ifs mt) (he : BlkE X scope N elt me)
    (hc : X.calm = true := by rfl) (hK : F.K = X.K := by rfl) (hs : ∀ x, foldedSetIterable iter X.env x = pure x := by intro _; rfl) : EO X F (.ListComp elt [⟨tg, iter, ifs, 0⟩] scope pos) (mComp nl caps mi set mt me) :=
  o_comp (.of S) hi hg.g hg.nx hg.kp ht he hc hK hs
theorem s_comp' (i : Nat) (nl : Nat) (caps : List Nat) {y : Str} {py : Pos} {ifs : List Expr} {mi : MA} {set : D → Rho → R Rho} {mt : MT} {me : ME} {cpos : Pos} (hN : X.N.Nodup) (S : compScB X.env.scope X.N scope N nl caps = true) (hi : IM X F tg iter mi) (hg : BG X scope N tg set) (ht : BlkT X scope N ifs mt) (he : BlkE X scope N elt me)
    (hy : X.N[i]? = some y := by rfl) (hl : X.env.kindOf y = some .local := by rfl) (hsw : swapsWith (.ListComp elt [⟨tg, iter, ifs, 0⟩] scope cpos) (some (.Name y py)) pos.line X.env = pure true := by rfl) (hc : X.calm = true := by rfl) (hK : F.K = X.K := by rfl) (hs : ∀ x, foldedSetIterable iter X.env x = pure x := by intro _; rfl) :
    SM X F (.Assign [.Name y py] (.ListComp elt [⟨tg, iter, ifs, 0⟩] scope cpos) pos) (mSetO i (mComp nl caps mi set mt me)) :=
  s_comp i hN (.of S) hi hg.g hg.nx hg.kp ht he hy hl hsw hc hK hs
/-- the name keeps the list for good -/
def mSetF (i : Nat) (a : MA) : MS := fun ρ => ((mSetO i a) ρ).bind fun f => match f with
  | .nx ρ' => .ok (.nx (frz1 i ρ'))
  | f => .ok f
theorem s_setF {st : Stmt} {i : Nat} {a : MA} (h : SM X F st (mSetO i a)) : SM X F st (mSetF i a) := PS.imp h fun De σ H ⟨G, ρ, r, k⟩ => by
  refine ⟨G, ρ, r, ?_⟩
  unfold mSetF at k
  cases e : mSetO i a ρ with
  | bad => rw [e] at k; exact k.elim
  | exc c => rw [e] at k; exact k
  | ok f =>
    rw [e, R.bind_ok] at k
    cases f with
    | nx ρ' =>
      intro σ' G' H' r' s'
      obtain ⟨G2, r2, s2⟩ := r'.frz1 i
      exact k σ' G2 H' r2 (s'.trans s2)
    | rt d => exact k
    | ro d => exact k
    | bk d => exact k
    | ct d => exact k
/-- {} -/
def mDict0 : ME := fun _ => .ok (.dK [] [])
theorem e_dict0 {p : Pos} : EM X F (.Dict [] [] p) mDict0 := PE.imp pe_dnewK fun σ H Q ⟨G, ρ, r, h⟩ d hd => by
  refine h (.ref d) _ _ (r.lay hd) (Up.lay r.kp.sub hd) ?_
  simp only [At]
  exact ⟨d, [], rfl, upd_same, rfl, .nil⟩
end
/-! ### a module's constants -/
theorem tup_at {K : PySem.W.Frag} {c : Addr} {dd : Option Addr} {its : Array Value} {n : Nat} {sl : Array (Option Value)} {xs : List V} {ds : List D} (l : K.lookup c = some ⟨.type "tuple", dd, .seq its n, sl⟩) (hz : its.size ≤ sizeLine) (v : Vals xs its.toList) (a : ∀ G, AtL K G ds xs) :
    ∀ G, At K G (.tup ds) (.ref c) := fun G => by
  simp only [At]
  exact ⟨c, xs, rfl, .inr ⟨_, its, n, l, rfl, rfl, hz, v⟩, a G⟩
theorem rv_int (i : Int) (t : Tok) : RelV (.int i) (.int i t) := ⟨t, rfl⟩
theorem rv_str (x : Str) (t : Tok) : RelV (.str x) (.str x t) := ⟨t, rfl⟩
theorem a_int {K : PySem.W.Frag} {G : Hp} (i : Int) : At K G (.int i) (.int i) := by simp only [At]
theorem a_str {K : PySem.W.Frag} {G : Hp} (i : Str) : At K G (.str i) (.str i) := by simp only [At]
end L3
set_option Elab.async false
set_option linter.all false
set_option maxRecDepth 100000
set_option autoImplicit false
namespace L3
open PySem PySem.Spec L2
structure XEM (X : Cx) (F : Fx) (e : Expr) (m : ME) : Prop where
  o : PE X e (tE F m)
structure XEO (X : Cx) (F : Fx) (e : Expr) (m : MA) : Prop where
  o : PE X e (tO F m)
structure XTM (X : Cx) (F : Fx) (e : Expr) (m : MT) : Prop where
  o : PT X e (tT F m)
structure XWM (X : Cx) (F : Fx) (e : Expr) (m : MT) : Prop where
  o : PW X e (tT F m)
structure XAM (X : Cx) (F : Fx) (es : List Expr) (m : MA) : Prop where
  o : PA X es (tA F m)
structure XSM (X : Cx) (F : Fx) (st : Stmt) (m : MS) : Prop where
  o : PS X st (tS F m)
structure XBM (X : Cx) (F : Fx) (st : List Stmt) (m : MS) : Prop where
  o : PSs X st (tS F m)
structure XIM (X : Cx) (F : Fx) (tg e : Expr) (m : MA) : Prop where
  o : PI X tg e (tI F m)
structure XPM (X : Cx) (F : Fx) (e : Option Expr) (m : MP) : Prop where
  o : PO X e (tP F m)
section
variable {X : Cx} {F : Fx} {e a b c tg iter elt : Expr} {es : List Expr} {pos p : Pos} {m n : ME} {ma : MA} {st : Stmt} {sts : List Stmt}
theorem xe_var (i : Nat) {x : Str} (hN : X.N[i]? = some x := by rfl) (hv : Vis X.env.scope x := by first | exact Or.inl rfl | exact Or.inr (Or.inl rfl) | exact Or.inr (Or.inr rfl)) (hd : (x == ("__debug__" : Str)) = false := by decide) (hcd : (x == ("__classdict__" : Str)) = false := by decide) : XEM X F (.Name x pos) (mVar i) := ⟨L3.e_var (i := i) (hN := hN) (hv := hv) (hd := hd) (hcd := hcd)⟩
theorem xe_int {i : Int} {j} : XEM X F (.Constant (.int i) j pos) (mC (.int i)) := ⟨L3.e_int ⟩
theorem xe_bl {i : Bool} {j} : XEM X F (.Constant (.bool i) j pos) (mC (.bl i)) := ⟨L3.e_bl ⟩
theorem xe_str {i : Str} {j} : XEM X F (.Constant (.str i) j pos) (mC (.str i)) := ⟨L3.e_str ⟩
theorem xe_non {j} : XEM X F (.Constant .none j pos) (mC .non) := ⟨L3.e_non ⟩
theorem xe_glob {x : Str} {v : V} {u : Value} {d : D} (hm : X.mg x = some u) (r : RelV v u) (at' : ∀ G, At F.K G d v) (hg : Gl X x := by rfl) (hd : (x == ("__debug__" : Str)) = false := by decide) : XEM X F (.Name x pos) (mC d) := ⟨L3.e_glob (hm := hm) (r := r) (at' := at') (hg := hg) (hd := hd)⟩
theorem xa_nil  : XAM X F [] mNil := ⟨L3.a_nil ⟩
theorem xa_cons {m : ME} {r : MA} (h : XEM X F e m) (t : XAM X F es r) (hs : notStar e = true := by rfl) : XAM X F (e :: es) (mCons m r) := ⟨L3.a_cons (h := h.1) (t := t.1) (hs := hs)⟩
theorem xe_tup {k} {m : MA} (h : XAM X F es m) : XEM X F (.Tuple es k pos) (mTup m) := ⟨L3.e_tup (h := h.1)⟩
theorem xo_lst {m : MA} (h : XAM X F es m) : XEO X F (.List es pos) (mLim m) := ⟨L3.o_lst (h := h.1)⟩
theorem xe_fz {m : MA} (h : XEO X F e m) : XEM X F e (mFz m) := ⟨L3.e_fz (h := h.1)⟩
theorem xe_bor {m : ME} (h : XEM X F e m) : XEM X F e (mBor m) := ⟨L3.e_bor (h := h.1)⟩
theorem xt_bor {m : MT} (h : XTM X F e m) : XTM X F e (mBorT m) := ⟨L3.t_bor (h := h.1)⟩
theorem xt_val {m : ME} (h : XEM X F e m) (he : ∀ whole, isTrue e X.env whole = (do let v ← whole; standAt e.pos; holding [v] (truthy v)) := by intro _; rfl) : XTM X F e (mB m) := ⟨L3.t_val (h := h.1) (he := he)⟩
theorem xw_and1 {m : MT} (h : XTM X F a m) : XWM X F (.BoolOp .And [a] pos) m := ⟨L3.w_and1 (h := h.1)⟩
theorem xw_or1 {m : MT} (h : XTM X F a m) : XWM X F (.BoolOp .Or [a] pos) m := ⟨L3.w_or1 (h := h.1)⟩
theorem xw_and {m n : MT} (h : XTM X F a m) (k : XWM X F (.BoolOp .And (b :: es) pos) n) : XWM X F (.BoolOp .And (a :: b :: es) pos) (mAnd m n) := ⟨L3.w_and (h := h.1) (k := k.1)⟩
theorem xw_or {m n : MT} (h : XTM X F a m) (k : XWM X F (.BoolOp .Or (b :: es) pos) n) : XWM X F (.BoolOp .Or (a :: b :: es) pos) (mOr m n) := ⟨L3.w_or (h := h.1) (k := k.1)⟩
theorem xt_w {m : MT} (h : XWM X F e m) : XTM X F e m := ⟨L3.t_w (h := h.1)⟩
theorem xt_not {m : MT} (h : XTM X F a m) : XTM X F (.UnaryOp .Not a pos) (mNot m) := ⟨L3.t_not (h := h.1)⟩
theorem xe_one {op} {m : ME} (h : XEM X F a m) : XEM X F (.BoolOp op [a] pos) m := ⟨L3.e_one (h := h.1)⟩
theorem xe_and {m n : ME} (h : XEM X F a m) (k : XEM X F (.BoolOp .And (b :: es) pos) n) : XEM X F (.BoolOp .And (a :: b :: es) pos) (mAndV m n) := ⟨L3.e_and (h := h.1) (k := k.1)⟩
theorem xe_or {m n : ME} (h : XEM X F a m) (k : XEM X F (.BoolOp .Or (b :: es) pos) n) : XEM X F (.BoolOp .Or (a :: b :: es) pos) (mOrV m n) := ⟨L3.e_or (h := h.1) (k := k.1)⟩
theorem xe_not {m : ME} (h : XEM X F a m) : XEM X F (.UnaryOp .Not a pos) (mNotV m) := ⟨L3.e_not (h := h.1)⟩
theorem xe_if {k : MT} {m n : ME} (h : XTM X F c k) (ha : XEM X F a m) (hb : XEM X F b n) : XEM X F (.IfExp c a b pos) (mIf k m n) := ⟨L3.e_if (h := h.1) (ha := ha.1) (hb := hb.1)⟩
theorem xs_nil  : XBM X F [] mNext := ⟨L3.s_nil ⟩
theorem xs_cons {m n : MS} (h : XSM X F st m) (k : XBM X F sts n) : XBM X F (st :: sts) (mSeq m n) := ⟨L3.s_cons (h := h.1) (k := k.1)⟩
theorem xs_one {m : MS} (h : XSM X F st m) : XBM X F [st] m := ⟨L3.s_one (h := h.1)⟩
theorem xs_pass  : XSM X F (.Pass pos) mNext := ⟨L3.s_pass ⟩
theorem xs_doc {x j pos'} : XSM X F (.Expr (.Constant (.str x) j pos) pos') mNext := ⟨L3.s_doc ⟩
theorem xs_expr {m : ME} (h : XEM X F e m) (hs : notComp e = true := by rfl) : XSM X F (.Expr e pos) (mDrop m) := ⟨L3.s_expr (h := h.1) (hs := hs)⟩
theorem xs_ret {m : ME} (h : XEM X F e m) : XSM X F (.Return (some e) pos) (mRet m) := ⟨L3.s_ret (h := h.1)⟩
theorem xs_retO {m : MA} (h : XEO X F e m) : XSM X F (.Return (some e) pos) (mRetO m) := ⟨L3.s_retO (h := h.1)⟩
theorem xs_retV (i : Nat) {x : Str} {p : Pos} (hN : X.N[i]? = some x := by rfl) (hv : Vis X.env.scope x := by first | exact Or.inl rfl | exact Or.inr (Or.inl rfl) | exact Or.inr (Or.inr rfl)) (hd : (x == ("__debug__" : Str)) = false := by decide) (hcd : (x == ("__classdict__" : Str)) = false := by decide) : XSM X F (.Return (some (.Name x p)) pos) (mRetO (mVarO i)) := ⟨L3.s_retV (i := i) (hN := hN) (hv := hv) (hd := hd) (hcd := hcd)⟩
theorem xs_retN  : XSM X F (.Return none pos) (mRet (mC .non)) := ⟨L3.s_retN ⟩
theorem xs_if {k : MT} {m n : MS} {xs ys : List Stmt} (h : XTM X F c k) (ha : XBM X F xs m) (hb : XBM X F ys n) : XSM X F (.If c xs ys pos) (mIfS k m n) := ⟨L3.s_if (h := h.1) (ha := ha.1) (hb := hb.1)⟩
theorem xs_frz {m : MS} (i : Nat) (h : XSM X F st m) : XSM X F st (mFrz i m) := ⟨L3.s_frz (i := i) (h := h.1)⟩
theorem xs_break  : XSM X F (.Break pos) mBk := ⟨L3.s_break ⟩
theorem xs_continue  : XSM X F (.Continue pos) mCt := ⟨L3.s_continue ⟩
theorem xs_set (i : Nat) {x : Str} {p : Pos} {m : ME} (hN : X.N.Nodup) (he : XEM X F e m) (hi : X.N[i]? = some x := by rfl) (hx : Loc X.env.scope x := by first | exact Or.inl rfl | exact Or.inr rfl) (hs : notComp e = true := by rfl) (hf : X.fn x = true ∨ X.env.scope.names.lookup x = some .local := by first | exact .inl rfl | exact .inr rfl) : XSM X F (.Assign [.Name x p] e pos) (mSet i m) := ⟨L3.s_set (i := i) (hN := hN) (he := he.1) (hi := hi) (hx := hx) (hs := hs) (hf := hf)⟩
theorem xs_setO (i : Nat) {x : Str} {p : Pos} {m : MA} (hN : X.N.Nodup) (he : XEO X F e m) (hi : X.N[i]? = some x := by rfl) (hx : Loc X.env.scope x := by first | exact Or.inl rfl | exact Or.inr rfl) (hs : notComp e = true := by rfl) (hf : X.fn x = true ∨ X.env.scope.names.lookup x = some .local := by first | exact .inl rfl | exact .inr rfl) : XSM X F (.Assign [.Name x p] e pos) (mSetO i m) := ⟨L3.s_setO (i := i) (hN := hN) (he := he.1) (hi := hi) (hx := hx) (hs := hs) (hf := hf)⟩
theorem xe_sub (ha : XEM X F a m) (hb : XEM X F b n) : XEM X F (.BinOp a .Sub b pos) (mBin subD m n) := ⟨L3.e_sub (ha := ha.1) (hb := hb.1)⟩
theorem xe_mul (ha : XEM X F a m) (hb : XEM X F b n) : XEM X F (.BinOp a .Mult b pos) (mBin mulD m n) := ⟨L3.e_mul (ha := ha.1) (hb := hb.1)⟩
theorem xe_fdiv (ha : XEM X F a m) (hb : XEM X F b n) : XEM X F (.BinOp a .FloorDiv b pos) (mBin fdivD m n) := ⟨L3.e_fdiv (ha := ha.1) (hb := hb.1)⟩
theorem xe_mod (ha : XEM X F a m) (hb : XEM X F b n) : XEM X F (.BinOp a .Mod b pos) (mBin modD m n) := ⟨L3.e_mod (ha := ha.1) (hb := hb.1)⟩
theorem xe_pow (ha : XEM X F a m) (hb : XEM X F b n) : XEM X F (.BinOp a .Pow b pos) (mBin powD m n) := ⟨L3.e_pow (ha := ha.1) (hb := hb.1)⟩
theorem xt_lt (ha : XEM X F a m) (hb : XEM X F b n) : XTM X F (.Compare a [.Lt] [b] pos) (mB (mBin ltD m n)) := ⟨L3.t_lt (ha := ha.1) (hb := hb.1)⟩
theorem xt_le (ha : XEM X F a m) (hb : XEM X F b n) : XTM X F (.Compare a [.LtE] [b] pos) (mB (mBin leD m n)) := ⟨L3.t_le (ha := ha.1) (hb := hb.1)⟩
theorem xt_gt (ha : XEM X F a m) (hb : XEM X F b n) : XTM X F (.Compare a [.Gt] [b] pos) (mB (mBin gtD m n)) := ⟨L3.t_gt (ha := ha.1) (hb := hb.1)⟩
theorem xt_ge (ha : XEM X F a m) (hb : XEM X F b n) : XTM X F (.Compare a [.GtE] [b] pos) (mB (mBin geD m n)) := ⟨L3.t_ge (ha := ha.1) (hb := hb.1)⟩
theorem xe_lt (ha : XEM X F a m) (hb : XEM X F b n) : XEM X F (.Compare a [.Lt] [b] pos) (mBin ltD m n) := ⟨L3.e_lt (ha := ha.1) (hb := hb.1)⟩
theorem xe_le (ha : XEM X F a m) (hb : XEM X F b n) : XEM X F (.Compare a [.LtE] [b] pos) (mBin leD m n) := ⟨L3.e_le (ha := ha.1) (hb := hb.1)⟩
theorem xe_gt (ha : XEM X F a m) (hb : XEM X F b n) : XEM X F (.Compare a [.Gt] [b] pos) (mBin gtD m n) := ⟨L3.e_gt (ha := ha.1) (hb := hb.1)⟩
theorem xe_ge (ha : XEM X F a m) (hb : XEM X F b n) : XEM X F (.Compare a [.GtE] [b] pos) (mBin geD m n) := ⟨L3.e_ge (ha := ha.1) (hb := hb.1)⟩
theorem xe_neg (ha : XEM X F a m) : XEM X F (.UnaryOp .USub a pos) (mUn negD m) := ⟨L3.e_neg (ha := ha.1)⟩
theorem xe_add (ha : XEM X F a m) (hb : XEM X F b n) : XEM X F (.BinOp a .Add b pos) (mBin addD m n) := ⟨L3.e_add (ha := ha.1) (hb := hb.1)⟩
theorem xt_eq (hu : X.A.units + 64 < cLine) (ha : XEM X F a m) (hb : XEM X F b n) (hK : F.K = X.K := by rfl) : XTM X F (.Compare a [.Eq] [b] pos) (mB (mBin (eqR true) m n)) := ⟨L3.t_eq (hu := hu) (ha := ha.1) (hb := hb.1) (hK := hK)⟩
theorem xt_ne (hu : X.A.units + 64 < cLine) (ha : XEM X F a m) (hb : XEM X F b n) (hK : F.K = X.K := by rfl) : XTM X F (.Compare a [.NotEq] [b] pos) (mB (mBin (eqR false) m n)) := ⟨L3.t_ne (hu := hu) (ha := ha.1) (hb := hb.1) (hK := hK)⟩
theorem xe_eq (hu : X.A.units + 64 < cLine) (ha : XEM X F a m) (hb : XEM X F b n) (hK : F.K = X.K := by rfl) : XEM X F (.Compare a [.Eq] [b] pos) (mBin (eqR true) m n) := ⟨L3.e_eq (hu := hu) (ha := ha.1) (hb := hb.1) (hK := hK)⟩
theorem xe_ne (hu : X.A.units + 64 < cLine) (ha : XEM X F a m) (hb : XEM X F b n) (hK : F.K = X.K := by rfl) : XEM X F (.Compare a [.NotEq] [b] pos) (mBin (eqR false) m n) := ⟨L3.e_ne (hu := hu) (ha := ha.1) (hb := hb.1) (hK := hK)⟩
theorem xt_in (hu : X.A.units + 64 < cLine) (ha : XEM X F a m) (hb : XEM X F b n) (hK : F.K = X.K := by rfl) (hm : behindInMarks .In b = false := by with_unfolding_all rfl) : XTM X F (.Compare a [.In] [b] pos) (mB (mBin (inD true) m n)) := ⟨L3.t_in (hu := hu) (ha := ha.1) (hb := hb.1) (hK := hK) (hm := hm)⟩
theorem xt_notIn (hu : X.A.units + 64 < cLine) (ha : XEM X F a m) (hb : XEM X F b n) (hK : F.K = X.K := by rfl) (hm : behindInMarks .NotIn b = false := by with_unfolding_all rfl) : XTM X F (.Compare a [.NotIn] [b] pos) (mB (mBin (inD false) m n)) := ⟨L3.t_notIn (hu := hu) (ha := ha.1) (hb := hb.1) (hK := hK) (hm := hm)⟩
theorem xe_in (hu : X.A.units + 64 < cLine) (ha : XEM X F a m) (hb : XEM X F b n) (hK : F.K = X.K := by rfl) (hm : behindInMarks .In b = false := by with_unfolding_all rfl) : XEM X F (.Compare a [.In] [b] pos) (mBin (inD true) m n) := ⟨L3.e_in (hu := hu) (ha := ha.1) (hb := hb.1) (hK := hK) (hm := hm)⟩
theorem xe_notIn (hu : X.A.units + 64 < cLine) (ha : XEM X F a m) (hb : XEM X F b n) (hK : F.K = X.K := by rfl) (hm : behindInMarks .NotIn b = false := by with_unfolding_all rfl) : XEM X F (.Compare a [.NotIn] [b] pos) (mBin (inD false) m n) := ⟨L3.e_notIn (hu := hu) (ha := ha.1) (hb := hb.1) (hK := hK) (hm := hm)⟩
theorem xt_isN (ha : XEM X F a m) (hb : XEM X F b n) : XTM X F (.Compare a [.Is] [b] pos) (mB (mBin (isND true) m n)) := ⟨L3.t_isN (ha := ha.1) (hb := hb.1)⟩
theorem xt_notN (ha : XEM X F a m) (hb : XEM X F b n) : XTM X F (.Compare a [.IsNot] [b] pos) (mB (mBin (isND false) m n)) := ⟨L3.t_notN (ha := ha.1) (hb := hb.1)⟩
theorem xe_isN (ha : XEM X F a m) (hb : XEM X F b n) : XEM X F (.Compare a [.Is] [b] pos) (mBin (isND true) m n) := ⟨L3.e_isN (ha := ha.1) (hb := hb.1)⟩
theorem xe_notN (ha : XEM X F a m) (hb : XEM X F b n) : XEM X F (.Compare a [.IsNot] [b] pos) (mBin (isND false) m n) := ⟨L3.e_notN (ha := ha.1) (hb := hb.1)⟩
theorem xe_chain {op op' : CmpOp} {r r' : R2} {f g : D → D → R D} {l : ME} (ho : OpR X (compareOp op) r) (ho' : OpR X (compareOp op') r') (hf : OpOk F r f) (hg : OpOk F r' g) (ha : XEM X F a m) (hb : XEM X F b n) (hc : XEM X F c l) (hm : lastMarks [op, op'] [b, c] = false := by with_unfolding_all rfl) : XEM X F (.Compare a [op, op'] [b, c] pos) (mChain f g m n l) := ⟨L3.e_chain (ho := ho) (ho' := ho') (hf := hf) (hg := hg) (ha := ha.1) (hb := hb.1) (hc := hc.1) (hm := hm)⟩
theorem xt_chain {op op' : CmpOp} {r r' : R2} {f g : D → D → R D} {l : ME} (ho : OpR X (compareOp op) r) (ho' : OpR X (compareOp op') r') (hf : OpOk F r f) (hg : OpOk F r' g) (ha : XEM X F a m) (hb : XEM X F b n) (hc : XEM X F c l) (hm : lastMarks [op, op'] [b, c] = false := by with_unfolding_all rfl) : XTM X F (.Compare a [op, op'] [b, c] pos) (mB (mChain f g m n l)) := ⟨L3.t_chain (ho := ho) (ho' := ho') (hf := hf) (hg := hg) (ha := ha.1) (hb := hb.1) (hc := hc.1) (hm := hm)⟩
theorem xe_len (hm : X.mg "len" = none) (ha : XAM X F [e] ma) (hK : F.K = X.K := by rfl) (hg : Gl X "len" := by rfl) (he : starEach [e] X.env = (false, eval e X.env) :: starEach [] X.env := by rfl) (hpl : (backTo pos (starEach [] X.env)).any (·.1) = false := by rfl) : XEM X F (.Call (.Name "len" p) [e] [] pos) (mCB lenD ma) := ⟨L3.e_len (hm := hm) (ha := ha.1) (hK := hK) (hg := hg) (he := he) (hpl := hpl)⟩
theorem xe_isi {U : Str} {T : String} {p2 : Pos} (tt : TyTab X.K T) (hm : X.mg "isinstance" = none) (hmU : X.mg U = none) (hU : bootBuiltins U = some (.type T)) (ha : XEM X F a m) (hK : F.K = X.K := by rfl) (hg : Gl X "isinstance" := by rfl) (hgU : Gl X U := by rfl) (hnU : U ≠ "__name__" := by decide) (hdU : (U == ("__debug__" : Str)) = false := by decide) (hs2 : starEach [.Name U p2] X.env = (false, eval (.Name U p2) X.env) :: starEach [] X.env := by rfl) (he : starEach [a, .Name U p2] X.env = (false, eval a X.env) :: starEach [.Name U p2] X.env := by rfl) (hpl : (backTo pos (starEach [.Name U p2] X.env)).any (·.1) = false := by rfl) : XEM X F (.Call (.Name "isinstance" p) [a, .Name U p2] [] pos) (mUn (isiD T) m) := ⟨L3.e_isi (tt := tt) (hm := hm) (hmU := hmU) (hU := hU) (ha := ha.1) (hK := hK) (hg := hg) (hgU := hgU) (hnU := hnU) (hdU := hdU) (hs2 := hs2) (he := he) (hpl := hpl)⟩
theorem xe_ix (ha : XEM X F a m) (hb : XEM X F b n) (hs : PlainIx b) (hK : F.K = X.K := by rfl) : XEM X F (.Subscript a b pos) (mBin ixD m n) := ⟨L3.e_ix (ha := ha.1) (hb := hb.1) (hs := hs) (hK := hK)⟩
theorem xp_no  : XPM X F none mNoP := ⟨L3.p_no ⟩
theorem xp_some (h : XEM X F e m) : XPM X F (some e) (mPart m) := ⟨L3.p_some (h := h.1)⟩
theorem xe_sl {lo hi : Option Expr} {p2 : Pos} {ml mh : MP} (ha : XEM X F a m) (hl : XPM X F lo ml) (hh : XPM X F hi mh) (hK : F.K = X.K := by rfl) : XEM X F (.Subscript a (.Slice lo hi none p2) pos) (mSl slD m ml mh) := ⟨L3.e_sl (ha := ha.1) (hl := hl.1) (hh := hh.1) (hK := hK)⟩
theorem xe_strI (hm : X.mg "str" = none) (ha : XAM X F [e] ma) (hg : Gl X "str" := by rfl) (he : starEach [e] X.env = (false, eval e X.env) :: starEach [] X.env := by rfl) (hpl : (backTo pos (starEach [] X.env)).any (·.1) = false := by rfl) : XEM X F (.Call (.Name "str" p) [e] [] pos) (mCB strD ma) := ⟨L3.e_strI (hm := hm) (ha := ha.1) (hg := hg) (he := he) (hpl := hpl)⟩
theorem xe_toInt (hm : X.mg "int" = none) (ha : XAM X F [e] ma) (hg : Gl X "int" := by rfl) (he : starEach [e] X.env = (false, eval e X.env) :: starEach [] X.env := by rfl) (hpl : (backTo pos (starEach [] X.env)).any (·.1) = false := by rfl) : XEM X F (.Call (.Name "int" p) [e] [] pos) (mCB toIntD ma) := ⟨L3.e_toInt (hm := hm) (ha := ha.1) (hg := hg) (he := he) (hpl := hpl)⟩
theorem xw_list (h : XEM X F e m) (hK : F.K = X.K := by rfl) : XIM X F tg e (mIL m) := ⟨L3.w_list (h := h.1) (hK := hK)⟩
theorem xw_tup (h : XEM X F e m) (hK : F.K = X.K := by rfl) : XIM X F tg e (mIT m) := ⟨L3.w_tup (h := h.1) (hK := hK)⟩
theorem xw_str (h : XEM X F e m) : XIM X F tg e (mIS m) := ⟨L3.w_str (h := h.1)⟩
theorem xw_range1 (hm : X.mg "range" = none) (ha : XAM X F [a] ma) (hg : Gl X "range" := by rfl) (hs : starEach [a] X.env = [(false, eval a X.env)] := by rfl) : XIM X F tg (.Call (.Name "range" p) [a] [] pos) (mR1 ma) := ⟨L3.w_range1 (hm := hm) (ha := ha.1) (hg := hg) (hs := hs)⟩
theorem xw_range2 (hm : X.mg "range" = none) (ha : XAM X F [a, b] ma) (hg : Gl X "range" := by rfl) (hs : starEach [a, b] X.env = [(false, eval a X.env), (false, eval b X.env)] := by rfl) (hs2 : starEach [b] X.env = [(false, eval b X.env)] := by rfl) : XIM X F tg (.Call (.Name "range" p) [a, b] [] pos) (mR2 ma) := ⟨L3.w_range2 (hm := hm) (ha := ha.1) (hg := hg) (hs := hs) (hs2 := hs2)⟩
theorem xw_enum {elts : List Expr} {k : Nat} {tp : Pos} (hm : X.mg "enumerate" = none) (ha : XAM X F [a] ma) (hK : F.K = X.K := by rfl) (hg : Gl X "enumerate" := by rfl) (hs : starEach [a] X.env = [(false, eval a X.env)] := by rfl) : XIM X F (.Tuple elts k tp) (.Call (.Name "enumerate" p) [a] [] pos) (mIE ma) := ⟨L3.w_enum (hm := hm) (ha := ha.1) (hK := hK) (hg := hg) (hs := hs)⟩
theorem xw_zip {elts : List Expr} {k : Nat} {tp : Pos} (hm : X.mg "zip" = none) (ha : XAM X F [a, b] ma) (hK : F.K = X.K := by rfl) (hg : Gl X "zip" := by rfl) (hs : starEach [a, b] X.env = [(false, eval a X.env), (false, eval b X.env)] := by rfl) (hs2 : starEach [b] X.env = [(false, eval b X.env)] := by rfl) : XIM X F (.Tuple elts k tp) (.Call (.Name "zip" p) [a, b] [] pos) (mIZ ma) := ⟨L3.w_zip (hm := hm) (ha := ha.1) (hK := hK) (hg := hg) (hs := hs) (hs2 := hs2)⟩
theorem xs_for {body : List Stmt} {mi : MA} {set : D → Rho → R Rho} {mb : MS} (hp : PassesOwn (model X.prog X.w) X.A X.env X.xe) (hi : XIM X F tg iter mi) (hg : GM X tg set) (hb : XBM X F body mb) (hc : X.calm = true := by rfl) (hK : F.K = X.K := by rfl) (hs : ∀ x, foldedSetIterable iter X.env x = pure x := by intro _; rfl) : XSM X F (.For tg iter body [] pos) (mFor mi set mb) := ⟨L3.s_for (hp := hp) (hi := hi.1) (hg := hg) (hb := hb.1) (hc := hc) (hK := hK) (hs := hs)⟩
theorem xs_setF {st : Stmt} {i : Nat} {a : MA} (h : XSM X F st (mSetO i a)) : XSM X F st (mSetF i a) := ⟨L3.s_setF (h := h.1)⟩
theorem xe_dict0 {p : Pos} : XEM X F (.Dict [] [] p) mDict0 := ⟨L3.e_dict0 ⟩
theorem xe_all {k : Nat} (hr : Room k X.A) (hm : X.mg "all" = none) (ha : XAM X F [e] ma) (hc : X.calm = true := by rfl) (hg : Gl X "all" := by rfl) (he : starEach [e] X.env = (false, eval e X.env) :: starEach [] X.env := by rfl) (hpl : (backTo pos (starEach [] X.env)).any (·.1) = false := by rfl) : XEM X F (.Call (.Name "all" p) [e] [] pos) (mCB allD ma) := ⟨L3.e_all (hr := hr) (hm := hm) (ha := ha.1) (hc := hc) (hg := hg) (he := he) (hpl := hpl)⟩
theorem xe_any {k : Nat} (hr : Room k X.A) (hm : X.mg "any" = none) (ha : XAM X F [e] ma) (hc : X.calm = true := by rfl) (hg : Gl X "any" := by rfl) (he : starEach [e] X.env = (false, eval e X.env) :: starEach [] X.env := by rfl) (hpl : (backTo pos (starEach [] X.env)).any (·.1) = false := by rfl) : XEM X F (.Call (.Name "any" p) [e] [] pos) (mCB anyD ma) := ⟨L3.e_any (hr := hr) (hm := hm) (ha := ha.1) (hc := hc) (hg := hg) (he := he) (hpl := hpl)⟩
theorem xs_append (i : Nat) {x : Str} {px : Pos} {apos : Pos} {cpos : Pos} (he : XEM X F e m) (hN : X.N[i]? = some x := by rfl) (hv : Vis X.env.scope x := by first | exact Or.inl rfl | exact Or.inr (Or.inl rfl) | exact Or.inr (Or.inr rfl)) (hd : (x == ("__debug__" : Str)) = false := by decide) (hcd : (x == ("__classdict__" : Str)) = false := by decide) (hbase : attributeBase (.Name x px) "append" X.env (eval (.Name x px) X.env) = eval (.Name x px) X.env := by rfl) (hline : (apos.endLine == cpos.line) = true := by rfl) (hfew : ((backTo cpos (starEach [e] X.env)).all (fun x => !x.1) && (backToKw cpos (keywordEach [] X.env)).all (fun x => x.1.isSome)
      && decide (([e] : List Expr).length + ([] : List Keyword).length + (if ([] : List Keyword).isEmpty then 0 else 1) < 30)) = true := by rfl) (hs : starEach [e] X.env = (false, eval e X.env) :: starEach [] X.env := by rfl) (hplain : (backTo cpos (starEach [] X.env)).any (·.1) = false := by rfl) (hK : F.K = X.K := by rfl) : XSM X F (.Expr (.Call (.Attribute (.Name x px) "append" apos) [e] [] cpos) pos) (mApp i m) := ⟨L3.s_append (i := i) (he := he.1) (hN := hN) (hv := hv) (hd := hd) (hcd := hcd) (hbase := hbase) (hline := hline) (hfew := hfew) (hs := hs) (hplain := hplain) (hK := hK)⟩
theorem xe_call {x : Str} {n k : Nat} {mf : List D → R Rt} (c : Kn X.prog X.w X.K X.mg X.base x n k mf) (hr : Room k X.A) (ha : XAM X F (e :: es) ma) (hE : F.EX = fun _ _ => False := by rfl) (hK : F.K = X.K := by rfl) (hg : Gl X x := by rfl) (hdb : (x == ("__debug__" : Str)) = false := by decide) (he : starEach (e :: es) X.env = (false, eval e X.env) :: starEach es X.env := by rfl) (hpl : (backTo pos (starEach es X.env)).any (·.1) = false := by rfl) : XEM X F (.Call (.Name x p) (e :: es) [] pos) (mCall n mf ma) := ⟨L3.e_call (c := c) (hr := hr) (ha := ha.1) (hE := hE) (hK := hK) (hg := hg) (hdb := hdb) (he := he) (hpl := hpl)⟩
theorem xo_call {x : Str} {n k : Nat} {mf : List D → R Rt} (c : Kn X.prog X.w X.K X.mg X.base x n k mf) (hr : Room k X.A) (ha : XAM X F (e :: es) ma) (hE : F.EX = fun _ _ => False := by rfl) (hK : F.K = X.K := by rfl) (hg : Gl X x := by rfl) (hdb : (x == ("__debug__" : Str)) = false := by decide) (he : starEach (e :: es) X.env = (false, eval e X.env) :: starEach es X.env := by rfl) (hpl : (backTo pos (starEach es X.env)).any (·.1) = false := by rfl) : XEO X F (.Call (.Name x p) (e :: es) [] pos) (mCallO n mf ma) := ⟨L3.o_call (c := c) (hr := hr) (ha := ha.1) (hE := hE) (hK := hK) (hg := hg) (hdb := hdb) (he := he) (hpl := hpl)⟩
variable {scope : Scope} {N : List Str}
abbrev BE (X : Cx) (scope : Scope) (N : List Str) (e : Expr) (m : ME) : Prop := ∀ cl C s H fp G0 H0, XEM (cxB X scope N cl C s H fp) (fxB X.K G0 H0) e m
theorem xblk_one {mt : MT} (h : ∀ cl C s H fp G0 H0, XTM (cxB X scope N cl C s H fp) (fxB X.K G0 H0) c mt) : BlkT X scope N [c] mt := L3.blk_one fun cl C s H fp G0 H0 => (h cl C s H fp G0 H0).1
theorem xo_comp (nl : Nat) (caps : List Nat) {ifs : List Expr} {mi : MA} {set : D → Rho → R Rho} {mt : MT} {me : ME} (S : compScB X.env.scope X.N scope N nl caps = true) (hi : XIM X F tg iter mi) (hg : BG X scope N tg set) (ht : BlkT X scope N ifs mt) (he : BE X scope N elt me)
    (hc : X.calm = true := by rfl) (hK : F.K = X.K := by rfl) (hs : ∀ x, foldedSetIterable iter X.env x = pure x := by intro _; rfl) : XEO X F (.ListComp elt [⟨tg, iter, ifs, 0⟩] scope pos) (mComp nl caps mi set mt me) :=
  ⟨L3.o_comp' nl caps S hi.1 hg ht (fun cl C s H fp G0 H0 => (he cl C s H fp G0 H0).1) hc hK hs⟩
theorem xs_comp (i : Nat) (nl : Nat) (caps : List Nat) {y : Str} {py : Pos} {ifs : List Expr} {mi : MA} {set : D → Rho → R Rho} {mt : MT} {me : ME} {cpos : Pos} (hN : X.N.Nodup) (S : compScB X.env.scope X.N scope N nl caps = true) (hi : XIM X F tg iter mi) (hg : BG X scope N tg set) (ht : BlkT X scope N ifs mt) (he : BE X scope N elt me)
    (hy : X.N[i]? = some y := by rfl) (hl : X.env.kindOf y = some .local := by rfl) (hsw : swapsWith (.ListComp elt [⟨tg, iter, ifs, 0⟩] scope cpos) (some (.Name y py)) pos.line X.env = pure true := by rfl) (hc : X.calm = true := by rfl) (hK : F.K = X.K := by rfl) (hs : ∀ x, foldedSetIterable iter X.env x = pure x := by intro _; rfl) :
    XSM X F (.Assign [.Name y py] (.ListComp elt [⟨tg, iter, ifs, 0⟩] scope cpos) pos) (mSetO i (mComp nl caps mi set mt me)) :=
  ⟨L3.s_comp' i nl caps hN S hi.1 hg ht (fun cl C s H fp G0 H0 => (he cl C s H fp G0 H0).1) hy hl hsw hc hK hs⟩
end
theorem xd_ok {P : Program} {w : World} {K : PySem.W.Frag} {mg : Str → Option Value} {base : Heap} {x : Str} {st : Stmt} {N ps : List Str} {k : Nat} {m : MS} (d : Fd K mg x st ps) (S : FnScope N ps (defScope st))
    (h : ∀ (f : Addr) (cdv : Value) (A : Around) (outer : List Env) (s : Shared) (H : Hp) (E : XK), Room k (A.deeper (PyProof.Rows.envOfC x (defScope st) s.heap.objs.size f cdv)) → ∀ G0 H0, XBM (cxOf CX0 P w K mg base N x (defScope st) f cdv A outer s H E).nox (fxB K G0 H0) (defBody st) m) :
    Kn P w K mg base x ps.length (k + 1) (mDef N.length m) := L3.d_ok d S fun f cdv A outer s H E hr G0 H0 => (h f cdv A outer s H E hr G0 H0).1
structure Cst (K : PySem.W.Frag) (mg : Str → Option Value) (x : Str) (d : D) : Prop where
  ex : ∃ (v : V) (u : Value), mg x = some u ∧ RelV v u ∧ ∀ G, At K G d v
theorem xe_cst {X : Cx} {F : Fx} {x : Str} {d : D} {pos : Pos} (c : Cst X.K X.mg x d) (hK : F.K = X.K := by rfl) (hg : Gl X x := by rfl) (hd : (x == ("__debug__" : Str)) = false := by decide) : XEM X F (.Name x pos) (mC d) := by
  obtain ⟨v, u, h1, h2, h3⟩ := c.ex
  exact ⟨L3.e_glob h1 h2 (by rw [hK]; exact h3) hg hd⟩
end L3
set_option Elab.async false
set_option linter.all false
set_option maxRecDepth 100000
set_option autoImplicit false
namespace N1
open PySem PySem.Spec L2 L3
def top (i : Nat) : Stmt := PySem.Challenge.pw_nohalfway_k01_patterns.main.body.getD i (.Pass ⟨0, 0, 0, 0⟩)
abbrev s_is_whole : Stmt := top 1
abbrev s_is_whole_within : Stmt := top 2
abbrev s_is_address : Stmt := top 7
abbrev s_is_pattern : Stmt := top 8
abbrev s_fits : Stmt := top 9
abbrev s_addresses : Stmt := top 10
abbrev s_law_mix : Stmt := top 12
abbrev s_law_text : Stmt := top 13
abbrev s_law_spoiled : Stmt := top 14
abbrev s_law_due : Stmt := top 15
abbrev s_law_bits : Stmt := top 16
abbrev s_law_fits : Stmt := top 17
abbrev s_law_truth : Stmt := top 18
abbrev s_law_right : Stmt := top 19
abbrev s_law : Stmt := top 20
def c_GREATEST_ADDRESS : D := .int 15
def c_SIGNS : D := .tup [.str (PySem.Str.ofString "0"), .str (PySem.Str.ofString "1"), .str (PySem.Str.ofString "x")]
def c_WORTHS : D := .tup [.int 8, .int 4, .int 2, .int 1]
structure Tx (K : PySem.W.Frag) (mg : Str → Option Value) : Prop where
  f_is_whole : Fd K mg "is_whole" s_is_whole ["thing"]
  f_is_whole_within : Fd K mg "is_whole_within" s_is_whole_within ["thing", "least", "greatest"]
  f_is_address : Fd K mg "is_address" s_is_address ["thing"]
  f_is_pattern : Fd K mg "is_pattern" s_is_pattern ["thing"]
  f_fits : Fd K mg "fits" s_fits ["pattern", "address"]
  f_addresses : Fd K mg "addresses" s_addresses ["pattern"]
  f_law_mix : Fd K mg "_law_mix" s_law_mix ["_law_cell", "_law_k"]
  f_law_text : Fd K mg "_law_text" s_law_text ["_law_number"]
  f_law_spoiled : Fd K mg "_law_spoiled" s_law_spoiled ["_law_text_here", "_law_number"]
  f_law_due : Fd K mg "_law_due" s_law_due ["_law_thing"]
  f_law_bits : Fd K mg "_law_bits" s_law_bits ["_law_address"]
  f_law_fits : Fd K mg "_law_fits" s_law_fits ["_law_pattern", "_law_address"]
  f_law_truth : Fd K mg "_law_truth" s_law_truth ["_law_found", "_law_due_here"]
  f_law_right : Fd K mg "_law_right" s_law_right ["_law_pattern"]
  f_law : Fd K mg "law" s_law ["_law_script"]
  b_all : mg "all" = none
  b_bool : mg "bool" = none
  b_enumerate : mg "enumerate" = none
  b_int : mg "int" = none
  b_isinstance : mg "isinstance" = none
  b_len : mg "len" = none
  b_list : mg "list" = none
  b_range : mg "range" = none
  b_str : mg "str" = none
  b_zip : mg "zip" = none
  c_GREATEST_ADDRESS : Cst K mg "GREATEST_ADDRESS" c_GREATEST_ADDRESS
  c_SIGNS : Cst K mg "SIGNS" c_SIGNS
  c_WORTHS : Cst K mg "WORTHS" c_WORTHS
theorem sc_is_whole : FnScope ["thing"] ["thing"] (defScope s_is_whole) := ⟨rfl, rfl, rfl, by decide +kernel, rfl, by decide +kernel, by decide +kernel⟩
def b_is_whole : MS :=
    mRet (mAndV (mUn (isiD "int") (mVar 0)) (mNotV (mUn (isiD "bool") (mVar 0))))
def m_is_whole : List D → R Rt := mDef 1 b_is_whole
set_option maxHeartbeats 4000000 in
theorem bm_is_whole {P : Program} {w : World} {K : PySem.W.Frag} {mg : Str → Option Value} {base : Heap} (T : Tx K mg)  (f : Addr) (cdv : Value) (A : Around) (outer : List Env) (s : Shared) (H : Hp) (E : XK)
    (hr : Room 0 (A.deeper (PyProof.Rows.envOfC "is_whole" (defScope s_is_whole) s.heap.objs.size f cdv))) (G0 H0 : Hp) : XBM (cxOf CX0 P w K mg base ["thing"] "is_whole" (defScope s_is_whole) f cdv A outer s H E).nox (fxB K G0 H0) (defBody s_is_whole) b_is_whole :=
  xs_one (xs_ret (xe_and (xe_isi (tt_int _) T.b_isinstance T.b_int (by kernel_rfl) (xe_var 0)) (xe_one (xe_not (xe_isi (tt_bool _) T.b_isinstance T.b_bool (by kernel_rfl) (xe_var 0))))))
theorem kn_is_whole {P : Program} {w : World} {K : PySem.W.Frag} {mg : Str → Option Value} {base : Heap} (T : Tx K mg)  : Kn P w K mg base "is_whole" 1 1 m_is_whole := xd_ok T.f_is_whole sc_is_whole (bm_is_whole T )
theorem sc_is_whole_within : FnScope ["thing", "least", "greatest"] ["thing", "least", "greatest"] (defScope s_is_whole_within) := ⟨rfl, rfl, rfl, by decide +kernel, rfl, by decide +kernel, by decide +kernel⟩
def b_is_whole_within : MS :=
    mRet (mAndV (mCall 1 m_is_whole (mCons (mVar 0) (mNil))) (mChain leD leD (mVar 1) (mVar 0) (mVar 2)))
def m_is_whole_within : List D → R Rt := mDef 3 b_is_whole_within
set_option maxHeartbeats 4000000 in
theorem bm_is_whole_within {P : Program} {w : World} {K : PySem.W.Frag} {mg : Str → Option Value} {base : Heap} (T : Tx K mg) (c_is_whole : Kn P w K mg base "is_whole" 1 1 m_is_whole) (f : Addr) (cdv : Value) (A : Around) (outer : List Env) (s : Shared) (H : Hp) (E : XK)
    (hr : Room 1 (A.deeper (PyProof.Rows.envOfC "is_whole_within" (defScope s_is_whole_within) s.heap.objs.size f cdv))) (G0 H0 : Hp) : XBM (cxOf CX0 P w K mg base ["thing", "least", "greatest"] "is_whole_within" (defScope s_is_whole_within) f cdv A outer s H E).nox (fxB K G0 H0) (defBody s_is_whole_within) b_is_whole_within :=
  xs_one (xs_ret (xe_and (xe_call c_is_whole (hr.mono (by decide)) (xa_cons (xe_var 0) (xa_nil))) (xe_one (xe_chain op_le op_le ok_le ok_le (xe_var 1) (xe_var 0) (xe_var 2)))))
theorem kn_is_whole_within {P : Program} {w : World} {K : PySem.W.Frag} {mg : Str → Option Value} {base : Heap} (T : Tx K mg) (c_is_whole : Kn P w K mg base "is_whole" 1 1 m_is_whole) : Kn P w K mg base "is_whole_within" 3 2 m_is_whole_within := xd_ok T.f_is_whole_within sc_is_whole_within (bm_is_whole_within T c_is_whole)
theorem sc_is_address : FnScope ["thing"] ["thing"] (defScope s_is_address) := ⟨rfl, rfl, rfl, by decide +kernel, rfl, by decide +kernel, by decide +kernel⟩
def b_is_address : MS :=
    mRet (mCall 3 m_is_whole_within (mCons (mVar 0) (mCons (mC (.int 0)) (mCons (mC c_GREATEST_ADDRESS) (mNil)))))
def m_is_address : List D → R Rt := mDef 1 b_is_address
set_option maxHeartbeats 4000000 in
theorem bm_is_address {P : Program} {w : World} {K : PySem.W.Frag} {mg : Str → Option Value} {base : Heap} (T : Tx K mg) (c_is_whole_within : Kn P w K mg base "is_whole_within" 3 2 m_is_whole_within) (f : Addr) (cdv : Value) (A : Around) (outer : List Env) (s : Shared) (H : Hp) (E : XK)
    (hr : Room 2 (A.deeper (PyProof.Rows.envOfC "is_address" (defScope s_is_address) s.heap.objs.size f cdv))) (G0 H0 : Hp) : XBM (cxOf CX0 P w K mg base ["thing"] "is_address" (defScope s_is_address) f cdv A outer s H E).nox (fxB K G0 H0) (defBody s_is_address) b_is_address :=
  xs_one (xs_ret (xe_call c_is_whole_within (hr.mono (by decide)) (xa_cons (xe_var 0) (xa_cons (xe_int) (xa_cons (xe_cst T.c_GREATEST_ADDRESS) (xa_nil))))))
theorem kn_is_address {P : Program} {w : World} {K : PySem.W.Frag} {mg : Str → Option Value} {base : Heap} (T : Tx K mg) (c_is_whole_within : Kn P w K mg base "is_whole_within" 3 2 m_is_whole_within) : Kn P w K mg base "is_address" 1 3 m_is_address := xd_ok T.f_is_address sc_is_address (bm_is_address T c_is_whole_within)
theorem sc_is_pattern : FnScope ["thing"] ["thing"] (defScope s_is_pattern) := ⟨rfl, rfl, rfl, by decide +kernel, rfl, by decide +kernel, by decide +kernel⟩
def b_is_pattern : MS :=
    mSeq (mIfS (mOr (mNot (mB (mUn (isiD "str") (mVar 0)))) (mB (mBin (eqR false) (mCB lenD (mCons (mVar 0) (mNil))) (mCB lenD (mCons (mC c_WORTHS) (mNil)))))) (mRet (mC (.bl false))) (mNext))
    (mRet (mCB allD (mCons (mFz (mComp 1 [] (mIS (mVar 0)) (setV 0) (mYes) (mBin (inD true) (mVar 0) (mC c_SIGNS)))) (mNil))))
def m_is_pattern : List D → R Rt := mDef 1 b_is_pattern
set_option maxHeartbeats 4000000 in
theorem bm_is_pattern {P : Program} {w : World} {K : PySem.W.Frag} {mg : Str → Option Value} {base : Heap} (T : Tx K mg)  (f : Addr) (cdv : Value) (A : Around) (outer : List Env) (s : Shared) (H : Hp) (E : XK)
    (hr : Room 0 (A.deeper (PyProof.Rows.envOfC "is_pattern" (defScope s_is_pattern) s.heap.objs.size f cdv))) (G0 H0 : Hp) : XBM (cxOf CX0 P w K mg base ["thing"] "is_pattern" (defScope s_is_pattern) f cdv A outer s H E).nox (fxB K G0 H0) (defBody s_is_pattern) b_is_pattern :=
  xs_cons (xs_if (xt_w (xw_or (xt_not (xt_val (xe_isi (tt_str _) T.b_isinstance T.b_str (by kernel_rfl) (xe_var 0)))) (xw_or1 (xt_ne hr.units (xe_len T.b_len (xa_cons (xe_var 0) (xa_nil))) (xe_len T.b_len (xa_cons (xe_cst T.c_WORTHS) (xa_nil))))))) (xs_one (xs_ret (xe_bl))) (xs_nil))
    (xs_one (xs_ret (xe_all hr T.b_all (xa_cons (xe_fz (xo_comp (N := ["sign"]) 1 [] (by rfl) (xw_str (xe_var 0)) (b_name 0) (blk_yes) (fun _ _ _ _ _ _ _ => xe_in hr.units (xe_var 0) (xe_cst T.c_SIGNS)))) (xa_nil)))))
theorem kn_is_pattern {P : Program} {w : World} {K : PySem.W.Frag} {mg : Str → Option Value} {base : Heap} (T : Tx K mg)  : Kn P w K mg base "is_pattern" 1 1 m_is_pattern := xd_ok T.f_is_pattern sc_is_pattern (bm_is_pattern T )
theorem sc_fits : FnScope ["pattern", "address"] ["pattern", "address"] (defScope s_fits) := ⟨rfl, rfl, rfl, by decide +kernel, rfl, by decide +kernel, by decide +kernel⟩
def b_fits : MS :=
    mSeq (mIfS (mOr (mNot (mB (mCall 1 m_is_pattern (mCons (mVar 0) (mNil))))) (mNot (mB (mCall 1 m_is_address (mCons (mVar 1) (mNil)))))) (mRet (mC (.bl false))) (mNext))
    (mRet (mCB allD (mCons (mFz (mComp 2 [1] (mIZ (mCons (mVar 0) (mCons (mC c_WORTHS) (mNil)))) (setT [setV 0, setV 1]) (mYes) (mBin (inD true) (mVar 0) (mTup (mCons (mC (.str (PySem.Str.ofString "x"))) (mCons (mCB strD (mCons (mBin modD (mBin fdivD (mVar 2) (mVar 1)) (mC (.int 2))) (mNil))) (mNil))))))) (mNil))))
def m_fits : List D → R Rt := mDef 2 b_fits
set_option maxHeartbeats 4000000 in
theorem bm_fits {P : Program} {w : World} {K : PySem.W.Frag} {mg : Str → Option Value} {base : Heap} (T : Tx K mg) (c_is_address : Kn P w K mg base "is_address" 1 3 m_is_address) (c_is_pattern : Kn P w K mg base "is_pattern" 1 1 m_is_pattern) (f : Addr) (cdv : Value) (A : Around) (outer : List Env) (s : Shared) (H : Hp) (E : XK)
    (hr : Room 3 (A.deeper (PyProof.Rows.envOfC "fits" (defScope s_fits) s.heap.objs.size f cdv))) (G0 H0 : Hp) : XBM (cxOf CX0 P w K mg base ["pattern", "address"] "fits" (defScope s_fits) f cdv A outer s H E).nox (fxB K G0 H0) (defBody s_fits) b_fits :=
  xs_cons (xs_if (xt_w (xw_or (xt_not (xt_val (xe_call c_is_pattern (hr.mono (by decide)) (xa_cons (xe_var 0) (xa_nil))))) (xw_or1 (xt_not (xt_val (xe_call c_is_address (hr.mono (by decide)) (xa_cons (xe_var 1) (xa_nil)))))))) (xs_one (xs_ret (xe_bl))) (xs_nil))
    (xs_one (xs_ret (xe_all hr T.b_all (xa_cons (xe_fz (xo_comp (N := ["sign", "worth", "address"]) 2 [1] (by rfl) (xw_zip T.b_zip (xa_cons (xe_var 0) (xa_cons (xe_cst T.c_WORTHS) (xa_nil)))) (b_pair 0 1) (blk_yes) (fun _ _ _ _ _ _ _ => xe_in hr.units (xe_var 0) (xe_tup (xa_cons (xe_str) (xa_cons (xe_strI T.b_str (xa_cons (xe_mod (xe_fdiv (xe_var 2) (xe_var 1)) (xe_int)) (xa_nil))) (xa_nil))))))) (xa_nil)))))
theorem kn_fits {P : Program} {w : World} {K : PySem.W.Frag} {mg : Str → Option Value} {base : Heap} (T : Tx K mg) (c_is_address : Kn P w K mg base "is_address" 1 3 m_is_address) (c_is_pattern : Kn P w K mg base "is_pattern" 1 1 m_is_pattern) : Kn P w K mg base "fits" 2 4 m_fits := xd_ok T.f_fits sc_fits (bm_fits T c_is_address c_is_pattern)
theorem sc_addresses : FnScope ["pattern"] ["pattern"] (defScope s_addresses) := ⟨rfl, rfl, rfl, by decide +kernel, rfl, by decide +kernel, by decide +kernel⟩
def b_addresses : MS :=
    mRetO (mComp 1 [0] (mR1 (mCons (mBin addD (mC c_GREATEST_ADDRESS) (mC (.int 1))) (mNil))) (setV 0) (mB (mCall 2 m_fits (mCons (mVar 1) (mCons (mVar 0) (mNil))))) (mVar 0))
def m_addresses : List D → R Rt := mDef 1 b_addresses
set_option maxHeartbeats 4000000 in
theorem bm_addresses {P : Program} {w : World} {K : PySem.W.Frag} {mg : Str → Option Value} {base : Heap} (T : Tx K mg) (c_fits : Kn P w K mg base "fits" 2 4 m_fits) (f : Addr) (cdv : Value) (A : Around) (outer : List Env) (s : Shared) (H : Hp) (E : XK)
    (hr : Room 4 (A.deeper (PyProof.Rows.envOfC "addresses" (defScope s_addresses) s.heap.objs.size f cdv))) (G0 H0 : Hp) : XBM (cxOf CX0 P w K mg base ["pattern"] "addresses" (defScope s_addresses) f cdv A outer s H E).nox (fxB K G0 H0) (defBody s_addresses) b_addresses :=
  xs_one (xs_retO (xo_comp (N := ["address", "pattern"]) 1 [0] (by rfl) (xw_range1 T.b_range (xa_cons (xe_add (xe_cst T.c_GREATEST_ADDRESS) (xe_int)) (xa_nil))) (b_name 0) (xblk_one (fun _ _ _ _ _ _ _ => xt_val (xe_call c_fits (hr.mono (by decide)) (xa_cons (xe_var 1) (xa_cons (xe_var 0) (xa_nil)))))) (fun _ _ _ _ _ _ _ => xe_var 0)))
theorem kn_addresses {P : Program} {w : World} {K : PySem.W.Frag} {mg : Str → Option Value} {base : Heap} (T : Tx K mg) (c_fits : Kn P w K mg base "fits" 2 4 m_fits) : Kn P w K mg base "addresses" 1 5 m_addresses := xd_ok T.f_addresses sc_addresses (bm_addresses T c_fits)
theorem sc_law_mix : FnScope ["_law_cell", "_law_k"] ["_law_cell", "_law_k"] (defScope s_law_mix) := ⟨rfl, rfl, rfl, by decide +kernel, rfl, by decide +kernel, by decide +kernel⟩
def b_law_mix : MS :=
    mRet (mBin fdivD (mBin modD (mBin mulD (mBin addD (mBin modD (mVar 0) (mBin powD (mC (.int 10)) (mC (.int 30)))) (mC (.int 1))) (mBin addD (mBin addD (mC (.int 48271)) (mBin mulD (mBin mulD (mC (.int 2)) (mVar 1)) (mVar 1))) (mVar 1))) (mC (.int 2147483647))) (mC (.int 7)))
def m_law_mix : List D → R Rt := mDef 2 b_law_mix
set_option maxHeartbeats 4000000 in
theorem bm_law_mix {P : Program} {w : World} {K : PySem.W.Frag} {mg : Str → Option Value} {base : Heap} (T : Tx K mg)  (f : Addr) (cdv : Value) (A : Around) (outer : List Env) (s : Shared) (H : Hp) (E : XK)
    (hr : Room 0 (A.deeper (PyProof.Rows.envOfC "_law_mix" (defScope s_law_mix) s.heap.objs.size f cdv))) (G0 H0 : Hp) : XBM (cxOf CX0 P w K mg base ["_law_cell", "_law_k"] "_law_mix" (defScope s_law_mix) f cdv A outer s H E).nox (fxB K G0 H0) (defBody s_law_mix) b_law_mix :=
  xs_one (xs_ret (xe_fdiv (xe_mod (xe_mul (xe_add (xe_mod (xe_var 0) (xe_pow (xe_int) (xe_int))) (xe_int)) (xe_add (xe_add (xe_int) (xe_mul (xe_mul (xe_int) (xe_var 1)) (xe_var 1))) (xe_var 1))) (xe_int)) (xe_int)))
theorem kn_law_mix {P : Program} {w : World} {K : PySem.W.Frag} {mg : Str → Option Value} {base : Heap} (T : Tx K mg)  : Kn P w K mg base "_law_mix" 2 1 m_law_mix := xd_ok T.f_law_mix sc_law_mix (bm_law_mix T )
theorem sc_law_text : FnScope ["_law_number", "_law_signs", "_law_k"] ["_law_number"] (defScope s_law_text) := ⟨rfl, rfl, rfl, by decide +kernel, rfl, by decide +kernel, by decide +kernel⟩
def b_law_text : MS :=
    mSeq (mSet 1 (mC (.str (PySem.Str.ofString ""))))
    (mSeq (mFor (mR1 (mCons (mC (.int 4)) (mNil))) (setV 2) (mSeq (mSet 1 (mBin addD (mVar 1) (mBin ixD (mC (.str (PySem.Str.ofString "01x"))) (mBin modD (mVar 0) (mC (.int 3))))))
    (mSet 0 (mBin fdivD (mVar 0) (mC (.int 3))))))
    (mRet (mVar 1)))
def m_law_text : List D → R Rt := mDef 3 b_law_text
set_option maxHeartbeats 4000000 in
theorem bm_law_text {P : Program} {w : World} {K : PySem.W.Frag} {mg : Str → Option Value} {base : Heap} (T : Tx K mg)  (f : Addr) (cdv : Value) (A : Around) (outer : List Env) (s : Shared) (H : Hp) (E : XK)
    (hr : Room 0 (A.deeper (PyProof.Rows.envOfC "_law_text" (defScope s_law_text) s.heap.objs.size f cdv))) (G0 H0 : Hp) : XBM (cxOf CX0 P w K mg base ["_law_number", "_law_signs", "_law_k"] "_law_text" (defScope s_law_text) f cdv A outer s H E).nox (fxB K G0 H0) (defBody s_law_text) b_law_text :=
  xs_cons (xs_set 1 sc_law_text.nd (xe_str))
    (xs_cons (xs_for PassesOwn.never (xw_range1 T.b_range (xa_cons (xe_int) (xa_nil))) (n_name 2 sc_law_text.nd) (xs_cons (xs_set 1 sc_law_text.nd (xe_add (xe_var 1) (xe_ix (xe_str) (xe_mod (xe_var 0) (xe_int)) px)))
    (xs_one (xs_set 0 sc_law_text.nd (xe_fdiv (xe_var 0) (xe_int))))))
    (xs_one (xs_ret (xe_var 1))))
theorem kn_law_text {P : Program} {w : World} {K : PySem.W.Frag} {mg : Str → Option Value} {base : Heap} (T : Tx K mg)  : Kn P w K mg base "_law_text" 1 1 m_law_text := xd_ok T.f_law_text sc_law_text (bm_law_text T )
theorem sc_law_spoiled : FnScope ["_law_text_here", "_law_number", "_law_at", "_law_odd", "_law_kind"] ["_law_text_here", "_law_number"] (defScope s_law_spoiled) := ⟨rfl, rfl, rfl, by decide +kernel, rfl, by decide +kernel, by decide +kernel⟩
def b_law_spoiled : MS :=
    mSeq (mSet 2 (mBin modD (mVar 1) (mC (.int 5))))
    (mSeq (mSet 3 (mBin ixD (mFz (mLim (mCons (mC (.str (PySem.Str.ofString "2"))) (mCons (mC (.str (PySem.Str.ofString "X"))) (mCons (mC (.str (PySem.Str.ofString " "))) (mCons (mC (.str (PySem.Str.ofString ""))) (mCons (mC (.str (PySem.Str.ofString "xx"))) (mCons (mC (.str (PySem.Str.ofString "01"))) (mCons (mC (.str (PySem.Str.ofString "a"))) (mCons (mC (.str (PySem.Str.ofString "O"))) (mCons (mC (.str (PySem.Str.ofString "-"))) (mCons (mC (.str (PySem.Str.ofString "."))) (mCons (mC (.str (PySem.Str.ofString "*"))) (mCons (mC (.str (PySem.Str.ofString "9"))) (mCons (mC (.str (PySem.Str.ofString "l"))) (mCons (mC (.str (PySem.Str.ofString "~"))) (mNil))))))))))))))))) (mBin modD (mBin fdivD (mVar 1) (mC (.int 40))) (mC (.int 14)))))
    (mSeq (mSet 4 (mBin modD (mBin fdivD (mVar 1) (mC (.int 5))) (mC (.int 4))))
    (mSeq (mIfS (mB (mBin (eqR true) (mVar 4) (mC (.int 0)))) (mRet (mBin addD (mBin addD (mSl slD (mVar 0) (mNoP) (mPart (mVar 2))) (mVar 3)) (mSl slD (mVar 0) (mPart (mBin addD (mVar 2) (mC (.int 1)))) (mNoP)))) (mNext))
    (mSeq (mIfS (mB (mBin (eqR true) (mVar 4) (mC (.int 1)))) (mRet (mBin addD (mSl slD (mVar 0) (mNoP) (mPart (mVar 2))) (mSl slD (mVar 0) (mPart (mBin addD (mVar 2) (mC (.int 1)))) (mNoP)))) (mNext))
    (mSeq (mIfS (mB (mBin (eqR true) (mVar 4) (mC (.int 2)))) (mRet (mBin addD (mBin addD (mSl slD (mVar 0) (mNoP) (mPart (mVar 2))) (mSl slD (mVar 0) (mPart (mVar 2)) (mPart (mBin addD (mVar 2) (mC (.int 1)))))) (mSl slD (mVar 0) (mPart (mVar 2)) (mNoP)))) (mNext))
    (mRet (mBin addD (mBin addD (mSl slD (mVar 0) (mNoP) (mPart (mVar 2))) (mVar 3)) (mSl slD (mVar 0) (mPart (mVar 2)) (mNoP)))))))))
def m_law_spoiled : List D → R Rt := mDef 5 b_law_spoiled
set_option maxHeartbeats 4000000 in
theorem bm_law_spoiled {P : Program} {w : World} {K : PySem.W.Frag} {mg : Str → Option Value} {base : Heap} (T : Tx K mg)  (f : Addr) (cdv : Value) (A : Around) (outer : List Env) (s : Shared) (H : Hp) (E : XK)
    (hr : Room 0 (A.deeper (PyProof.Rows.envOfC "_law_spoiled" (defScope s_law_spoiled) s.heap.objs.size f cdv))) (G0 H0 : Hp) : XBM (cxOf CX0 P w K mg base ["_law_text_here", "_law_number", "_law_at", "_law_odd", "_law_kind"] "_law_spoiled" (defScope s_law_spoiled) f cdv A outer s H E).nox (fxB K G0 H0) (defBody s_law_spoiled) b_law_spoiled :=
  xs_cons (xs_set 2 sc_law_spoiled.nd (xe_mod (xe_var 1) (xe_int)))
    (xs_cons (xs_set 3 sc_law_spoiled.nd (xe_ix (xe_fz (xo_lst (xa_cons (xe_str) (xa_cons (xe_str) (xa_cons (xe_str) (xa_cons (xe_str) (xa_cons (xe_str) (xa_cons (xe_str) (xa_cons (xe_str) (xa_cons (xe_str) (xa_cons (xe_str) (xa_cons (xe_str) (xa_cons (xe_str) (xa_cons (xe_str) (xa_cons (xe_str) (xa_cons (xe_str) (xa_nil))))))))))))))))) (xe_mod (xe_fdiv (xe_var 1) (xe_int)) (xe_int)) px))
    (xs_cons (xs_set 4 sc_law_spoiled.nd (xe_mod (xe_fdiv (xe_var 1) (xe_int)) (xe_int)))
    (xs_cons (xs_if (xt_eq hr.units (xe_var 4) (xe_int)) (xs_one (xs_ret (xe_add (xe_add (xe_sl (xe_var 0) (xp_no) (xp_some (xe_var 2))) (xe_var 3)) (xe_sl (xe_var 0) (xp_some (xe_add (xe_var 2) (xe_int))) (xp_no))))) (xs_nil))
    (xs_cons (xs_if (xt_eq hr.units (xe_var 4) (xe_int)) (xs_one (xs_ret (xe_add (xe_sl (xe_var 0) (xp_no) (xp_some (xe_var 2))) (xe_sl (xe_var 0) (xp_some (xe_add (xe_var 2) (xe_int))) (xp_no))))) (xs_nil))
    (xs_cons (xs_if (xt_eq hr.units (xe_var 4) (xe_int)) (xs_one (xs_ret (xe_add (xe_add (xe_sl (xe_var 0) (xp_no) (xp_some (xe_var 2))) (xe_sl (xe_var 0) (xp_some (xe_var 2)) (xp_some (xe_add (xe_var 2) (xe_int))))) (xe_sl (xe_var 0) (xp_some (xe_var 2)) (xp_no))))) (xs_nil))
    (xs_one (xs_ret (xe_add (xe_add (xe_sl (xe_var 0) (xp_no) (xp_some (xe_var 2))) (xe_var 3)) (xe_sl (xe_var 0) (xp_some (xe_var 2)) (xp_no))))))))))
theorem kn_law_spoiled {P : Program} {w : World} {K : PySem.W.Frag} {mg : Str → Option Value} {base : Heap} (T : Tx K mg)  : Kn P w K mg base "_law_spoiled" 2 1 m_law_spoiled := xd_ok T.f_law_spoiled sc_law_spoiled (bm_law_spoiled T )
theorem sc_law_due : FnScope ["_law_thing"] ["_law_thing"] (defScope s_law_due) := ⟨rfl, rfl, rfl, by decide +kernel, rfl, by decide +kernel, by decide +kernel⟩
def b_law_due : MS :=
    mSeq (mIfS (mOr (mNot (mB (mUn (isiD "str") (mVar 0)))) (mB (mBin (eqR false) (mCB lenD (mCons (mVar 0) (mNil))) (mC (.int 4))))) (mRet (mC (.bl false))) (mNext))
    (mRet (mCB allD (mCons (mFz (mComp 1 [] (mIS (mVar 0)) (setV 0) (mYes) (mBin (inD true) (mVar 0) (mFz (mLim (mCons (mC (.str (PySem.Str.ofString "0"))) (mCons (mC (.str (PySem.Str.ofString "1"))) (mCons (mC (.str (PySem.Str.ofString "x"))) (mNil))))))))) (mNil))))
def m_law_due : List D → R Rt := mDef 1 b_law_due
set_option maxHeartbeats 4000000 in
theorem bm_law_due {P : Program} {w : World} {K : PySem.W.Frag} {mg : Str → Option Value} {base : Heap} (T : Tx K mg)  (f : Addr) (cdv : Value) (A : Around) (outer : List Env) (s : Shared) (H : Hp) (E : XK)
    (hr : Room 0 (A.deeper (PyProof.Rows.envOfC "_law_due" (defScope s_law_due) s.heap.objs.size f cdv))) (G0 H0 : Hp) : XBM (cxOf CX0 P w K mg base ["_law_thing"] "_law_due" (defScope s_law_due) f cdv A outer s H E).nox (fxB K G0 H0) (defBody s_law_due) b_law_due :=
  xs_cons (xs_if (xt_w (xw_or (xt_not (xt_val (xe_isi (tt_str _) T.b_isinstance T.b_str (by kernel_rfl) (xe_var 0)))) (xw_or1 (xt_ne hr.units (xe_len T.b_len (xa_cons (xe_var 0) (xa_nil))) (xe_int))))) (xs_one (xs_ret (xe_bl))) (xs_nil))
    (xs_one (xs_ret (xe_all hr T.b_all (xa_cons (xe_fz (xo_comp (N := ["_law_sign"]) 1 [] (by rfl) (xw_str (xe_var 0)) (b_name 0) (blk_yes) (fun _ _ _ _ _ _ _ => xe_in hr.units (xe_var 0) (xe_fz (xo_lst (xa_cons (xe_str) (xa_cons (xe_str) (xa_cons (xe_str) (xa_nil))))))))) (xa_nil)))))
theorem kn_law_due {P : Program} {w : World} {K : PySem.W.Frag} {mg : Str → Option Value} {base : Heap} (T : Tx K mg)  : Kn P w K mg base "_law_due" 1 1 m_law_due := xd_ok T.f_law_due sc_law_due (bm_law_due T )
theorem sc_law_bits : FnScope ["_law_address"] ["_law_address"] (defScope s_law_bits) := ⟨rfl, rfl, rfl, by decide +kernel, rfl, by decide +kernel, by decide +kernel⟩
def b_law_bits : MS :=
    mRetO (mLim (mCons (mBin modD (mBin fdivD (mVar 0) (mC (.int 8))) (mC (.int 2))) (mCons (mBin modD (mBin fdivD (mVar 0) (mC (.int 4))) (mC (.int 2))) (mCons (mBin modD (mBin fdivD (mVar 0) (mC (.int 2))) (mC (.int 2))) (mCons (mBin modD (mVar 0) (mC (.int 2))) (mNil))))))
def m_law_bits : List D → R Rt := mDef 1 b_law_bits
set_option maxHeartbeats 4000000 in
theorem bm_law_bits {P : Program} {w : World} {K : PySem.W.Frag} {mg : Str → Option Value} {base : Heap} (T : Tx K mg)  (f : Addr) (cdv : Value) (A : Around) (outer : List Env) (s : Shared) (H : Hp) (E : XK)
    (hr : Room 0 (A.deeper (PyProof.Rows.envOfC "_law_bits" (defScope s_law_bits) s.heap.objs.size f cdv))) (G0 H0 : Hp) : XBM (cxOf CX0 P w K mg base ["_law_address"] "_law_bits" (defScope s_law_bits) f cdv A outer s H E).nox (fxB K G0 H0) (defBody s_law_bits) b_law_bits :=
  xs_one (xs_retO (xo_lst (xa_cons (xe_mod (xe_fdiv (xe_var 0) (xe_int)) (xe_int)) (xa_cons (xe_mod (xe_fdiv (xe_var 0) (xe_int)) (xe_int)) (xa_cons (xe_mod (xe_fdiv (xe_var 0) (xe_int)) (xe_int)) (xa_cons (xe_mod (xe_var 0) (xe_int)) (xa_nil)))))))
theorem kn_law_bits {P : Program} {w : World} {K : PySem.W.Frag} {mg : Str → Option Value} {base : Heap} (T : Tx K mg)  : Kn P w K mg base "_law_bits" 1 1 m_law_bits := xd_ok T.f_law_bits sc_law_bits (bm_law_bits T )
theorem sc_law_fits : FnScope ["_law_pattern", "_law_address", "_law_bits_here", "_law_k"] ["_law_pattern", "_law_address"] (defScope s_law_fits) := ⟨rfl, rfl, rfl, by decide +kernel, rfl, by decide +kernel, by decide +kernel⟩
def b_law_fits : MS :=
    mSeq (mSet 2 (mFz (mCallO 1 m_law_bits (mCons (mVar 1) (mNil)))))
    (mSeq (mFor (mR1 (mCons (mC (.int 4)) (mNil))) (setV 3) (mIfS (mAnd (mB (mBin (eqR false) (mBin ixD (mVar 0) (mVar 3)) (mC (.str (PySem.Str.ofString "x"))))) (mB (mBin (eqR false) (mCB toIntD (mCons (mBin ixD (mVar 0) (mVar 3)) (mNil))) (mBin ixD (mVar 2) (mVar 3))))) (mRet (mC (.bl false))) (mNext)))
    (mRet (mC (.bl true))))
def m_law_fits : List D → R Rt := mDef 4 b_law_fits
set_option maxHeartbeats 4000000 in
theorem bm_law_fits {P : Program} {w : World} {K : PySem.W.Frag} {mg : Str → Option Value} {base : Heap} (T : Tx K mg) (c_law_bits : Kn P w K mg base "_law_bits" 1 1 m_law_bits) (f : Addr) (cdv : Value) (A : Around) (outer : List Env) (s : Shared) (H : Hp) (E : XK)
    (hr : Room 1 (A.deeper (PyProof.Rows.envOfC "_law_fits" (defScope s_law_fits) s.heap.objs.size f cdv))) (G0 H0 : Hp) : XBM (cxOf CX0 P w K mg base ["_law_pattern", "_law_address", "_law_bits_here", "_law_k"] "_law_fits" (defScope s_law_fits) f cdv A outer s H E).nox (fxB K G0 H0) (defBody s_law_fits) b_law_fits :=
  xs_cons (xs_set 2 sc_law_fits.nd (xe_fz (xo_call c_law_bits (hr.mono (by decide)) (xa_cons (xe_var 1) (xa_nil)))))
    (xs_cons (xs_for PassesOwn.never (xw_range1 T.b_range (xa_cons (xe_int) (xa_nil))) (n_name 3 sc_law_fits.nd) (xs_one (xs_if (xt_w (xw_and (xt_ne hr.units (xe_ix (xe_var 0) (xe_var 3) px) (xe_str)) (xw_and1 (xt_ne hr.units (xe_toInt T.b_int (xa_cons (xe_ix (xe_var 0) (xe_var 3) px) (xa_nil))) (xe_ix (xe_var 2) (xe_var 3) px))))) (xs_one (xs_ret (xe_bl))) (xs_nil))))
    (xs_one (xs_ret (xe_bl))))
theorem kn_law_fits {P : Program} {w : World} {K : PySem.W.Frag} {mg : Str → Option Value} {base : Heap} (T : Tx K mg) (c_law_bits : Kn P w K mg base "_law_bits" 1 1 m_law_bits) : Kn P w K mg base "_law_fits" 2 2 m_law_fits := xd_ok T.f_law_fits sc_law_fits (bm_law_fits T c_law_bits)
theorem sc_law_truth : FnScope ["_law_found", "_law_due_here"] ["_law_found", "_law_due_here"] (defScope s_law_truth) := ⟨rfl, rfl, rfl, by decide +kernel, rfl, by decide +kernel, by decide +kernel⟩
def b_law_truth : MS :=
    mRet (mAndV (mUn (isiD "bool") (mVar 0)) (mBin (eqR true) (mVar 0) (mVar 1)))
def m_law_truth : List D → R Rt := mDef 2 b_law_truth
set_option maxHeartbeats 4000000 in
theorem bm_law_truth {P : Program} {w : World} {K : PySem.W.Frag} {mg : Str → Option Value} {base : Heap} (T : Tx K mg)  (f : Addr) (cdv : Value) (A : Around) (outer : List Env) (s : Shared) (H : Hp) (E : XK)
    (hr : Room 0 (A.deeper (PyProof.Rows.envOfC "_law_truth" (defScope s_law_truth) s.heap.objs.size f cdv))) (G0 H0 : Hp) : XBM (cxOf CX0 P w K mg base ["_law_found", "_law_due_here"] "_law_truth" (defScope s_law_truth) f cdv A outer s H E).nox (fxB K G0 H0) (defBody s_law_truth) b_law_truth :=
  xs_one (xs_ret (xe_and (xe_isi (tt_bool _) T.b_isinstance T.b_bool (by kernel_rfl) (xe_var 0)) (xe_one (xe_eq hr.units (xe_var 0) (xe_var 1)))))
theorem kn_law_truth {P : Program} {w : World} {K : PySem.W.Frag} {mg : Str → Option Value} {base : Heap} (T : Tx K mg)  : Kn P w K mg base "_law_truth" 2 1 m_law_truth := xd_ok T.f_law_truth sc_law_truth (bm_law_truth T )
theorem sc_law_right : FnScope ["_law_pattern", "_law_due_here", "_law_address", "_law_found"] ["_law_pattern"] (defScope s_law_right) := ⟨rfl, rfl, rfl, by decide +kernel, rfl, by decide +kernel, by decide +kernel⟩
def b_law_right : MS :=
    mSeq (mSetF 1 (mComp 1 [0] (mR1 (mCons (mC (.int 16)) (mNil))) (setV 0) (mB (mCall 2 m_law_fits (mCons (mVar 1) (mCons (mVar 0) (mNil))))) (mVar 0)))
    (mSeq (mFor (mR1 (mCons (mC (.int 16)) (mNil))) (setV 2) (mIfS (mNot (mB (mCall 2 m_law_truth (mCons (mCall 2 m_fits (mCons (mVar 0) (mCons (mVar 2) (mNil)))) (mCons (mBin (inD true) (mVar 2) (mVar 1)) (mNil)))))) (mRet (mC (.bl false))) (mNext)))
    (mSeq (mSetO 3 (mCallO 1 m_addresses (mCons (mVar 0) (mNil))))
    (mSeq (mIfS (mBorT (mOr (mNot (mB (mUn (isiD "list") (mVar 3)))) (mOr (mB (mBin (eqR false) (mVar 3) (mVar 1))) (mNot (mB (mCB allD (mCons (mFz (mComp 1 [] (mIL (mVar 3)) (setV 0) (mYes) (mUn (isiD "int") (mVar 0)))) (mNil)))))))) (mRet (mC (.bl false))) (mNext))
    (mSeq (mApp 3 (mC (.int 16)))
    (mRet (mBin (eqR true) (mFz (mCallO 1 m_addresses (mCons (mVar 0) (mNil)))) (mVar 1)))))))
def m_law_right : List D → R Rt := mDef 4 b_law_right
set_option maxHeartbeats 4000000 in
theorem bm_law_right {P : Program} {w : World} {K : PySem.W.Frag} {mg : Str → Option Value} {base : Heap} (T : Tx K mg) (c_addresses : Kn P w K mg base "addresses" 1 5 m_addresses) (c_fits : Kn P w K mg base "fits" 2 4 m_fits) (c_law_truth : Kn P w K mg base "_law_truth" 2 1 m_law_truth) (c_law_fits : Kn P w K mg base "_law_fits" 2 2 m_law_fits) (f : Addr) (cdv : Value) (A : Around) (outer : List Env) (s : Shared) (H : Hp) (E : XK)
    (hr : Room 5 (A.deeper (PyProof.Rows.envOfC "_law_right" (defScope s_law_right) s.heap.objs.size f cdv))) (G0 H0 : Hp) : XBM (cxOf CX0 P w K mg base ["_law_pattern", "_law_due_here", "_law_address", "_law_found"] "_law_right" (defScope s_law_right) f cdv A outer s H E).nox (fxB K G0 H0) (defBody s_law_right) b_law_right :=
  xs_cons (xs_setF (xs_comp (N := ["_law_address", "_law_pattern"]) 1 1 [0] sc_law_right.nd (by rfl) (xw_range1 T.b_range (xa_cons (xe_int) (xa_nil))) (b_name 0) (xblk_one (fun _ _ _ _ _ _ _ => xt_val (xe_call c_law_fits (hr.mono (by decide)) (xa_cons (xe_var 1) (xa_cons (xe_var 0) (xa_nil)))))) (fun _ _ _ _ _ _ _ => xe_var 0)))
    (xs_cons (xs_for PassesOwn.never (xw_range1 T.b_range (xa_cons (xe_int) (xa_nil))) (n_name 2 sc_law_right.nd) (xs_one (xs_if (xt_not (xt_val (xe_call c_law_truth (hr.mono (by decide)) (xa_cons (xe_call c_fits (hr.mono (by decide)) (xa_cons (xe_var 0) (xa_cons (xe_var 2) (xa_nil)))) (xa_cons (xe_in hr.units (xe_var 2) (xe_var 1)) (xa_nil)))))) (xs_one (xs_ret (xe_bl))) (xs_nil))))
    (xs_cons (xs_setO 3 sc_law_right.nd (xo_call c_addresses (hr.mono (by decide)) (xa_cons (xe_var 0) (xa_nil))))
    (xs_cons (xs_if (xt_bor (xt_w (xw_or (xt_not (xt_val (xe_isi (tt_list _) T.b_isinstance T.b_list (by kernel_rfl) (xe_var 3)))) (xw_or (xt_ne hr.units (xe_var 3) (xe_var 1)) (xw_or1 (xt_not (xt_val (xe_all hr T.b_all (xa_cons (xe_fz (xo_comp (N := ["_law_one"]) 1 [] (by rfl) (xw_list (xe_var 3)) (b_name 0) (blk_yes) (fun _ _ _ _ _ _ _ => xe_isi (tt_int _) T.b_isinstance T.b_int (by kernel_rfl) (xe_var 0)))) (xa_nil)))))))))) (xs_one (xs_ret (xe_bl))) (xs_nil))
    (xs_cons (xs_append 3 (xe_int))
    (xs_one (xs_ret (xe_eq hr.units (xe_fz (xo_call c_addresses (hr.mono (by decide)) (xa_cons (xe_var 0) (xa_nil)))) (xe_var 1))))))))
theorem kn_law_right {P : Program} {w : World} {K : PySem.W.Frag} {mg : Str → Option Value} {base : Heap} (T : Tx K mg) (c_addresses : Kn P w K mg base "addresses" 1 5 m_addresses) (c_fits : Kn P w K mg base "fits" 2 4 m_fits) (c_law_truth : Kn P w K mg base "_law_truth" 2 1 m_law_truth) (c_law_fits : Kn P w K mg base "_law_fits" 2 2 m_law_fits) : Kn P w K mg base "_law_right" 1 6 m_law_right := xd_ok T.f_law_right sc_law_right (bm_law_right T c_addresses c_fits c_law_truth c_law_fits)
theorem sc_law : FnScope ["_law_script", "_law_thing", "_law_k", "_law_cell", "_law_text_here", "_law_other"] ["_law_script"] (defScope s_law) := ⟨rfl, rfl, rfl, by decide +kernel, rfl, by decide +kernel, by decide +kernel⟩
def b_law : MS :=
    mSeq (mFor (mIL (mFz (mLim (mCons (mC .non) (mCons (mC (.int 0)) (mCons (mC (.int 1111)) (mCons (mC (.bl true)) (mCons (mFz (mLim (mCons (mC (.str (PySem.Str.ofString "0"))) (mCons (mC (.str (PySem.Str.ofString "1"))) (mCons (mC (.str (PySem.Str.ofString "x"))) (mCons (mC (.str (PySem.Str.ofString "x"))) (mNil))))))) (mCons (mTup (mCons (mC (.str (PySem.Str.ofString "x"))) (mCons (mC (.str (PySem.Str.ofString "x"))) (mCons (mC (.str (PySem.Str.ofString "x"))) (mCons (mC (.str (PySem.Str.ofString "x"))) (mNil)))))) (mCons (mDict0) (mCons (mC (.str (PySem.Str.ofString ""))) (mCons (mC (.str (PySem.Str.ofString "xxx"))) (mCons (mC (.str (PySem.Str.ofString "xxxxx"))) (mCons (mTup (mCons (mC (.int 1)) (mNil))) (mNil))))))))))))))) (setV 1) (mIfS (mNot (mB (mCall 2 m_law_truth (mCons (mCall 1 m_is_pattern (mCons (mVar 1) (mNil))) (mCons (mC (.bl false)) (mNil)))))) (mRet (mC (.bl false))) (mNext)))
    (mSeq (mFor (mIE (mCons (mBin addD (mFz (mLim (mCons (mC (.int 0)) (mCons (mC (.int 5)) (mNil))))) (mSl slD (mVar 0) (mNoP) (mPart (mC (.int 63))))) (mNil))) (setT [setV 2, setV 3]) (mSeq (mSet 4 (mCall 1 m_law_text (mCons (mCall 2 m_law_mix (mCons (mVar 3) (mCons (mVar 2) (mNil)))) (mNil))))
    (mSeq (mSet 5 (mCall 2 m_law_spoiled (mCons (mVar 4) (mCons (mCall 2 m_law_mix (mCons (mVar 3) (mCons (mBin addD (mC (.int 70)) (mVar 2)) (mNil)))) (mNil)))))
    (mSeq (mIfS (mOr (mNot (mB (mCall 2 m_law_truth (mCons (mCall 1 m_is_pattern (mCons (mVar 4) (mNil))) (mCons (mC (.bl true)) (mNil)))))) (mNot (mB (mCall 2 m_law_truth (mCons (mCall 1 m_is_pattern (mCons (mVar 5) (mNil))) (mCons (mCall 1 m_law_due (mCons (mVar 5) (mNil))) (mNil))))))) (mRet (mC (.bl false))) (mNext))
    (mIfS (mNot (mB (mCall 1 m_law_right (mCons (mVar 4) (mNil))))) (mRet (mC (.bl false))) (mNext))))))
    (mRet (mC (.bl true))))
def m_law : List D → R Rt := mDef 6 b_law
set_option maxHeartbeats 4000000 in
theorem bm_law {P : Program} {w : World} {K : PySem.W.Frag} {mg : Str → Option Value} {base : Heap} (T : Tx K mg) (c_law_right : Kn P w K mg base "_law_right" 1 6 m_law_right) (c_law_due : Kn P w K mg base "_law_due" 1 1 m_law_due) (c_is_pattern : Kn P w K mg base "is_pattern" 1 1 m_is_pattern) (c_law_truth : Kn P w K mg base "_law_truth" 2 1 m_law_truth) (c_law_mix : Kn P w K mg base "_law_mix" 2 1 m_law_mix) (c_law_spoiled : Kn P w K mg base "_law_spoiled" 2 1 m_law_spoiled) (c_law_text : Kn P w K mg base "_law_text" 1 1 m_law_text) (f : Addr) (cdv : Value) (A : Around) (outer : List Env) (s : Shared) (H : Hp) (E : XK)
    (hr : Room 6 (A.deeper (PyProof.Rows.envOfC "law" (defScope s_law) s.heap.objs.size f cdv))) (G0 H0 : Hp) : XBM (cxOf CX0 P w K mg base ["_law_script", "_law_thing", "_law_k", "_law_cell", "_law_text_here", "_law_other"] "law" (defScope s_law) f cdv A outer s H E).nox (fxB K G0 H0) (defBody s_law) b_law :=
  xs_cons (xs_for PassesOwn.never (xw_list (xe_fz (xo_lst (xa_cons (xe_non) (xa_cons (xe_int) (xa_cons (xe_int) (xa_cons (xe_bl) (xa_cons (xe_fz (xo_lst (xa_cons (xe_str) (xa_cons (xe_str) (xa_cons (xe_str) (xa_cons (xe_str) (xa_nil))))))) (xa_cons (xe_tup (xa_cons (xe_str) (xa_cons (xe_str) (xa_cons (xe_str) (xa_cons (xe_str) (xa_nil)))))) (xa_cons (xe_dict0) (xa_cons (xe_str) (xa_cons (xe_str) (xa_cons (xe_str) (xa_cons (xe_tup (xa_cons (xe_int) (xa_nil))) (xa_nil))))))))))))))) (n_name 1 sc_law.nd) (xs_one (xs_if (xt_not (xt_val (xe_call c_law_truth (hr.mono (by decide)) (xa_cons (xe_call c_is_pattern (hr.mono (by decide)) (xa_cons (xe_var 1) (xa_nil))) (xa_cons (xe_bl) (xa_nil)))))) (xs_one (xs_ret (xe_bl))) (xs_nil))))
    (xs_cons (xs_for PassesOwn.never (xw_enum T.b_enumerate (xa_cons (xe_add (xe_fz (xo_lst (xa_cons (xe_int) (xa_cons (xe_int) (xa_nil))))) (xe_sl (xe_var 0) (xp_no) (xp_some (xe_int)))) (xa_nil))) (n_tup rfl (n_cons (n_name 2 sc_law.nd) (n_cons (n_name 3 sc_law.nd) (n_nil)))) (xs_cons (xs_set 4 sc_law.nd (xe_call c_law_text (hr.mono (by decide)) (xa_cons (xe_call c_law_mix (hr.mono (by decide)) (xa_cons (xe_var 3) (xa_cons (xe_var 2) (xa_nil)))) (xa_nil))))
    (xs_cons (xs_set 5 sc_law.nd (xe_call c_law_spoiled (hr.mono (by decide)) (xa_cons (xe_var 4) (xa_cons (xe_call c_law_mix (hr.mono (by decide)) (xa_cons (xe_var 3) (xa_cons (xe_add (xe_int) (xe_var 2)) (xa_nil)))) (xa_nil)))))
    (xs_cons (xs_if (xt_w (xw_or (xt_not (xt_val (xe_call c_law_truth (hr.mono (by decide)) (xa_cons (xe_call c_is_pattern (hr.mono (by decide)) (xa_cons (xe_var 4) (xa_nil))) (xa_cons (xe_bl) (xa_nil)))))) (xw_or1 (xt_not (xt_val (xe_call c_law_truth (hr.mono (by decide)) (xa_cons (xe_call c_is_pattern (hr.mono (by decide)) (xa_cons (xe_var 5) (xa_nil))) (xa_cons (xe_call c_law_due (hr.mono (by decide)) (xa_cons (xe_var 5) (xa_nil))) (xa_nil))))))))) (xs_one (xs_ret (xe_bl))) (xs_nil))
    (xs_one (xs_if (xt_not (xt_val (xe_call c_law_right (hr.mono (by decide)) (xa_cons (xe_var 4) (xa_nil))))) (xs_one (xs_ret (xe_bl))) (xs_nil)))))))
    (xs_one (xs_ret (xe_bl))))
theorem kn_law {P : Program} {w : World} {K : PySem.W.Frag} {mg : Str → Option Value} {base : Heap} (T : Tx K mg) (c_law_right : Kn P w K mg base "_law_right" 1 6 m_law_right) (c_law_due : Kn P w K mg base "_law_due" 1 1 m_law_due) (c_is_pattern : Kn P w K mg base "is_pattern" 1 1 m_is_pattern) (c_law_truth : Kn P w K mg base "_law_truth" 2 1 m_law_truth) (c_law_mix : Kn P w K mg base "_law_mix" 2 1 m_law_mix) (c_law_spoiled : Kn P w K mg base "_law_spoiled" 2 1 m_law_spoiled) (c_law_text : Kn P w K mg base "_law_text" 1 1 m_law_text) : Kn P w K mg base "law" 1 7 m_law := xd_ok T.f_law sc_law (bm_law T c_law_right c_law_due c_is_pattern c_law_truth c_law_mix c_law_spoiled c_law_text)

end N1
set_option Elab.async false
set_option linter.all false
set_option maxRecDepth 100000
set_option autoImplicit false
namespace N1
open PySem PySem.Spec L2 L3
def isT : R Rt → Bool
  | .ok (.v (.bl true)) => true
  | _ => false
theorem of_isT {r : R Rt} (h : isT r = true) : r = .ok (.v (.bl true)) := by
  unfold isT at h; split at h
  · rfl
  · cases h
def sg (n : Nat) : Nat := if n = 0 then 48 else if n = 1 then 49 else 120
def txt (a b c d : Nat) : Str := ⟨#[sg a, sg b, sg c, sg d]⟩
def t3 : List Nat := [0, 1, 2]
def txts : List Str := (List.range 81).map fun n => txt (n % 3) (n / 3 % 3) (n / 9 % 3) (n / 27 % 3)
theorem right1 : isT (m_law_right [.str (txt 0 1 2 0)]) = true := by decide +kernel
theorem pat1 : isT (m_is_pattern [.str (txt 0 1 2 0)]) = true := by decide +kernel
theorem truth_ok (a b : Bool) : m_law_truth [.bl a, .bl b] = .ok (.v (.bl (a == b))) := by cases a <;> cases b <;> rfl
end N1
set_option Elab.async false
set_option linter.all false
set_option maxRecDepth 100000
set_option autoImplicit false
namespace N1
open PySem PySem.Spec L2 L3
theorem rights : (txts.all fun t => isT (m_law_right [.str t]) && isT (m_is_pattern [.str t])) = true := by decide +kernel
/-! the mixer -/
theorem mix_ok (c k : Int) (h0 : 0 ≤ k) (h1 : k ≤ 200) : ∃ n : Int, m_law_mix [.int c, .int k] = .ok (.v (.int n)) := by
  have hk : 0 ≤ k * k := Int.mul_nonneg h0 h0
  have hk2 : k * k ≤ 200 * 200 := Int.mul_le_mul h1 h1 h0 (by omega)
  have e1 : CPow 10 30 := ⟨by decide, by decide, by decide⟩
  have e2 : CMul 2 k := .inl ⟨by decide, by decide⟩
  have e3 : CMul (2 * k) k := .inr ⟨by omega, by omega⟩
  have hm : 2 * k * k = 2 * (k * k) := Int.mul_assoc 2 k k
  have e4 : ∀ x, CMul x (48271 + 2 * k * k + k) := fun x => .inr ⟨by omega, by omega⟩
  have e5 : ∀ x, CDiv x 7 := fun x => ⟨by decide, by decide⟩
  refine ⟨((c % 10 ^ (30 : Int).toNat + 1) * (48271 + 2 * k * k + k) % 2147483647) / 7, ?_⟩
  show ((b_law_mix [.fz (.int c), .fz (.int k)]).bind outD) = _
  simp only [b_law_mix, mRet, mBin, mVar, mC, R.bind, List.getElem?_cons_zero, List.getElem?_cons_succ, powD, modD, mulD, addD, fdivD, intsD, if_pos e1, if_pos e2, if_pos e3, if_pos (e4 _), if_pos (e5 _), if_pos (show (0:Int) < 2147483647 by decide), if_pos (show (0:Int) < 10 ^ (30 : Int).toNat by decide), outD]
end N1
set_option Elab.async false
set_option linter.all false
set_option maxRecDepth 100000
set_option autoImplicit false
namespace N1
open PySem PySem.Spec L2 L3
/-! a number's text -/
def sgn (n : Int) : Nat := sg (n % 3).toNat
theorem mod3 (n : Int) : n % 3 = 0 ∨ n % 3 = 1 ∨ n % 3 = 2 := by omega
theorem pick3 (n : Int) : ixD (.str (PySem.Str.ofString "01x")) (.int (n % 3)) = .ok (.str ⟨#[sgn n]⟩) := by
  unfold sgn
  rcases mod3 n with h | h | h <;> rw [h] <;> rfl
def textBody : MS := (mSeq (mSet 1 (mBin addD (mVar 1) (mBin ixD (mC (.str (PySem.Str.ofString "01x"))) (mBin modD (mVar 0) (mC (.int 3))))))
    (mSet 0 (mBin fdivD (mVar 0) (mC (.int 3)))))
theorem text_step (n k : Int) (s : Str) (hs : s.length ≤ 10) (x : Sl) (ds : List D) :
    forGo (setV 2) textBody (.int k :: ds) [.fz (.int n), .fz (.str s), x] = forGo (setV 2) textBody ds [.fz (.int (n / 3)), .fz (.str (s ++ ⟨#[sgn n]⟩)), .fz (.int k)] := by
  have h1 : s.length + (⟨#[sgn n]⟩ : Str).length ≤ 1000000 := by
    have : (⟨#[sgn n]⟩ : Str).length = 1 := rfl
    omega
  have e5 : CDiv n 3 := ⟨by decide, by decide⟩
  have e0 : setV 2 (.int k) [.fz (.int n), .fz (.str s), x] = .ok [.fz (.int n), .fz (.str s), .fz (.int k)] := rfl
  have e1 : textBody [.fz (.int n), .fz (.str s), .fz (.int k)] = .ok (.nx [.fz (.int (n / 3)), .fz (.str (s ++ ⟨#[sgn n]⟩)), .fz (.int k)]) := by
    simp only [textBody, mSeq, mSet, mBin, mVar, mC, R.bind, List.getElem?_cons_zero, List.getElem?_cons_succ, modD, intsD, if_pos (show (0:Int) < 3 by decide), pick3, addD, if_pos h1]
    simp only [setV, List.length_cons, List.length_nil, List.set_cons_succ, List.set_cons_zero, fdivD, intsD, if_pos e5, R.bind, List.getElem?_cons_zero]
    rfl
  simp only [forGo, e0, e1, R.bind]
theorem text_ok (n : Int) : m_law_text [.int n] = .ok (.v (.str (txt (n % 3).toNat (n / 3 % 3).toNat (n / 3 / 3 % 3).toNat (n / 3 / 3 / 3 % 3).toNat))) := by
  show (b_law_text [.fz (.int n), .un, .un]).bind outD = _
  have e : b_law_text [.fz (.int n), .un, .un] = (forGo (setV 2) textBody [.int 0, .int 1, .int 2, .int 3] [.fz (.int n), .fz (.str (PySem.Str.ofString "")), .un]).bind fun f => match f with
      | .nx ρ' => mRet (mVar 1) ρ'
      | f => .ok f := rfl
  rw [e, text_step _ _ _ (by decide), text_step _ _ _ (by exact Nat.le_of_ble_eq_true rfl), text_step _ _ _ (by exact Nat.le_of_ble_eq_true rfl), text_step _ _ _ (by exact Nat.le_of_ble_eq_true rfl)]
  rfl
theorem txt_mem : ∀ a ∈ t3, ∀ b ∈ t3, ∀ c ∈ t3, ∀ d ∈ t3, txt a b c d ∈ txts := by decide +kernel
theorem t3_mem (n : Int) : (n % 3).toNat ∈ t3 := by
  rcases mod3 n with h | h | h <;> rw [h] <;> decide
theorem text_mem (n : Int) : ∃ t, t ∈ txts ∧ m_law_text [.int n] = .ok (.v (.str t)) :=
  ⟨_, txt_mem _ (t3_mem _) _ (t3_mem _) _ (t3_mem _) _ (t3_mem _), text_ok n⟩
/-! patterns or not -/
def isSg (c : Nat) : Bool := [D.str (PySem.Str.ofString "0"), .str (PySem.Str.ofString "1"), .str (PySem.Str.ofString "x")].any fun y => eqD y (signD c)
theorem inS (c : Nat) : inD true (signD c) c_SIGNS = .ok (.bl (isSg c)) := rfl
theorem inL (c : Nat) : inD true (signD c) (.lst [.str (PySem.Str.ofString "0"), .str (PySem.Str.ofString "1"), .str (PySem.Str.ofString "x")]) = .ok (.bl (isSg c)) := rfl
theorem comp_map {elt : ME} (h : ∀ c, elt [.fz (signD c)] = .ok (.bl (isSg c))) : ∀ (cs : List Nat) (a : Sl) (ws : List D), ws.length + cs.length ≤ 1000 →
    compGo (setV 0) mYes elt (cs.map signD) [a] ws = .ok (ws ++ cs.map fun c => .bl (isSg c))
  | [], a, ws, _ => by simp only [List.map_nil, compGo, List.append_nil]
  | c :: cs, a, ws, hl => by
    simp only [List.length_cons] at hl
    have e : setV 0 (signD c) [a] = .ok [.fz (signD c)] := rfl
    simp only [List.map_cons, compGo, e, R.bind, mYes, h, if_true, if_pos (show ws.length < 1000000 by omega)]
    rw [comp_map h cs _ _ (by simp only [List.length_append, List.length_cons, List.length_nil]; omega)]
    simp only [List.append_assoc, List.cons_append, List.nil_append]
theorem bools_map (f : Nat → Bool) : ∀ cs : List Nat, boolsD (cs.map fun c => .bl (f c)) = some (cs.map f)
  | [] => rfl
  | c :: cs => by simp only [List.map_cons, boolsD, bools_map f cs, Option.map_some]
def patB (x : Str) : Bool := if (x.length : Int) == 4 then (x.cps.toList.map isSg).all id else false
theorem str_list (x : Str) : x.cps.toList.length = x.length := rfl
theorem pat_ok (x : Str) (hl : x.length ≤ 1000) : m_is_pattern [.str x] = .ok (.v (.bl (patB x))) := by
  show (b_is_pattern [.fz (.str x)]).bind outD = _
  have e1 : (mOr (mNot (mB (mUn (isiD "str") (mVar 0)))) (mB (mBin (eqR false) (mCB lenD (mCons (mVar 0) (mNil))) (mCB lenD (mCons (mC c_WORTHS) (mNil)))))) [.fz (.str x)] = .ok (!((x.length : Int) == 4)) := by
    simp only [mOr, mNot, mB, mUn, mVar, R.bind, List.getElem?_cons_zero, mBin, mCB, mCons, mNil, lenD, if_pos (show x.length ≤ 1000000 by omega), mC]
    rfl
  have e2 : (mComp 1 [] (mIS (mVar 0)) (setV 0) (mYes) (mBin (inD true) (mVar 0) (mC c_SIGNS))) [.fz (.str x)] = .ok (x.cps.toList.map fun c => .bl (isSg c)) := by
    show noX (compGo (setV 0) mYes _ (x.cps.toList.map signD) [.un] []) = _
    rw [comp_map (fun c => rfl) _ _ _ (by rw [str_list]; simpa using hl)]
    rfl
  unfold patB
  simp only [b_is_pattern, mSeq, mIfS, e1, R.bind]
  cases hb : ((x.length : Int) == 4)
  · rfl
  · simp only [Bool.not_true, Bool.false_eq_true, if_false, if_true, mNext, mRet, mCB, mCons, mFz, e2, R.bind, mNil, allD, bools_map, outD]
theorem due_ok (x : Str) (hl : x.length ≤ 1000) : m_law_due [.str x] = .ok (.v (.bl (patB x))) := by
  show (b_law_due [.fz (.str x)]).bind outD = _
  have e1 : (mOr (mNot (mB (mUn (isiD "str") (mVar 0)))) (mB (mBin (eqR false) (mCB lenD (mCons (mVar 0) (mNil))) (mC (.int 4))))) [.fz (.str x)] = .ok (!((x.length : Int) == 4)) := by
    simp only [mOr, mNot, mB, mUn, mVar, R.bind, List.getElem?_cons_zero, mBin, mCB, mCons, mNil, lenD, if_pos (show x.length ≤ 1000000 by omega), mC]
    rfl
  have e2 : (mComp 1 [] (mIS (mVar 0)) (setV 0) (mYes) (mBin (inD true) (mVar 0) (mFz (mLim (mCons (mC (.str (PySem.Str.ofString "0"))) (mCons (mC (.str (PySem.Str.ofString "1"))) (mCons (mC (.str (PySem.Str.ofString "x"))) (mNil)))))))) [.fz (.str x)] = .ok (x.cps.toList.map fun c => .bl (isSg c)) := by
    show noX (compGo (setV 0) mYes _ (x.cps.toList.map signD) [.un] []) = _
    rw [comp_map (fun c => rfl) _ _ _ (by rw [str_list]; simpa using hl)]
    rfl
  unfold patB
  simp only [b_law_due, mSeq, mIfS, e1, R.bind]
  cases hb : ((x.length : Int) == 4)
  · rfl
  · simp only [Bool.not_true, Bool.false_eq_true, if_false, if_true, mNext, mRet, mCB, mCons, mFz, e2, R.bind, mNil, allD, bools_map, outD]
end N1
set_option Elab.async false
set_option linter.all false
set_option maxRecDepth 100000
set_option autoImplicit false
namespace N1
open PySem PySem.Spec L2 L3
theorem cutL_le {α : Type} (xs : List α) (l h : Option Int) : (cutL xs l h).length ≤ xs.length := by
  unfold cutL
  rw [List.length_take, List.length_drop]
  omega
theorem cutS_le (x : Str) (l h : Option Int) : (cutS x l h).length ≤ x.length := by
  have := cutL_le x.cps.toList l h
  rw [str_list] at this
  exact this
theorem sl_ok (x : Str) (l h : Option Int) (hx : x.length ≤ 10) : ∃ y : Str, y.length ≤ 10 ∧ slD (.str x) l h = .ok (.str y) :=
  ⟨cutS x l h, Nat.le_trans (cutS_le x l h) hx, by simp only [slD, if_pos (show x.length ≤ 1000000 by omega)]⟩
theorem app_len (x y : Str) : (x ++ y).length = x.length + y.length := by
  show (x.cps ++ y.cps).size = _
  rw [Array.size_append]; rfl
theorem add_ok {x y : Str} {a b : Nat} (hx : x.length ≤ a) (hy : y.length ≤ b) (h : a + b ≤ 1000000) : ∃ z : Str, z.length ≤ a + b ∧ addD (.str x) (.str y) = .ok (.str z) :=
  ⟨x ++ y, by rw [app_len]; omega, by simp only [addD, if_pos (show x.length + y.length ≤ 1000000 by omega)]⟩
def odds : List D := ["2", "X", " ", "", "xx", "01", "a", "O", "-", ".", "*", "9", "l", "~"].map fun s => .str (PySem.Str.ofString s)
theorem odd_ok (m : Int) : ∃ o : Str, o.length ≤ 10 ∧ ixD (.lst odds) (.int (m % 14)) = .ok (.str o) := by
  have h : m % 14 = 0 ∨ m % 14 = 1 ∨ m % 14 = 2 ∨ m % 14 = 3 ∨ m % 14 = 4 ∨ m % 14 = 5 ∨ m % 14 = 6 ∨ m % 14 = 7 ∨ m % 14 = 8 ∨ m % 14 = 9 ∨ m % 14 = 10 ∨ m % 14 = 11 ∨ m % 14 = 12 ∨ m % 14 = 13 := by omega
  rcases h with h | h | h | h | h | h | h | h | h | h | h | h | h | h <;> rw [h] <;> exact ⟨_, by decide, rfl⟩
theorem bind_ok' {α β : Type} (a : α) (k : α → R β) : (R.ok a).bind k = k a := rfl
theorem seq_nx {a b : MS} {ρ ρ' : Rho} (h : a ρ = .ok (.nx ρ')) : mSeq a b ρ = b ρ' := by simp only [mSeq, h, bind_ok']
theorem seq_ret {c : MT} {e : ME} {b : MS} {ρ : Rho} {k : Bool} {d : D} (hc : c ρ = .ok k) (he : e ρ = .ok d) : mSeq (mIfS c (mRet e) mNext) b ρ = if k = true then .ok (.rt d) else b ρ := by
  cases k
  · simp only [mSeq, mIfS, hc, bind_ok', mNext]; rfl
  · simp only [mSeq, mIfS, hc, bind_ok', mRet, he]; rfl
theorem spoiled_ok (t : Str) (n : Int) (ht : t.length ≤ 10) : ∃ o : Str, o.length ≤ 1000 ∧ m_law_spoiled [.str t, .int n] = .ok (.v (.str o)) := by
  obtain ⟨o, ho, eo⟩ := odd_ok (n / 40)
  obtain ⟨l, hl, el⟩ := sl_ok t none (some (n % 5)) ht
  obtain ⟨r, hr, er⟩ := sl_ok t (some (n % 5)) none ht
  obtain ⟨q, hq, eq⟩ := sl_ok t (some (n % 5 + 1)) none ht
  obtain ⟨m, hm, em⟩ := sl_ok t (some (n % 5)) (some (n % 5 + 1)) ht
  obtain ⟨a1, h1, e1⟩ := add_ok hl ho (by omega)
  obtain ⟨a2, h2, e2⟩ := add_ok h1 hq (by omega)
  obtain ⟨a3, h3, e3⟩ := add_ok hl hq (by omega)
  obtain ⟨a4, h4, e4⟩ := add_ok hl hm (by omega)
  obtain ⟨a5, h5, e5⟩ := add_ok h4 hr (by omega)
  obtain ⟨a6, h6, e6⟩ := add_ok h1 hr (by omega)
  have d40 : CDiv n 40 := ⟨by decide, by decide⟩
  have d5 : CDiv n 5 := ⟨by decide, by decide⟩
  have s2 : (mSet 2 (mBin modD (mVar 1) (mC (.int 5)))) [.fz (.str t), .fz (.int n), .un, .un, .un] = .ok (.nx [.fz (.str t), .fz (.int n), .fz (.int (n % 5)), .un, .un]) := rfl
  have o0 : (mFz (mLim (mCons (mC (.str (PySem.Str.ofString "2"))) (mCons (mC (.str (PySem.Str.ofString "X"))) (mCons (mC (.str (PySem.Str.ofString " "))) (mCons (mC (.str (PySem.Str.ofString ""))) (mCons (mC (.str (PySem.Str.ofString "xx"))) (mCons (mC (.str (PySem.Str.ofString "01"))) (mCons (mC (.str (PySem.Str.ofString "a"))) (mCons (mC (.str (PySem.Str.ofString "O"))) (mCons (mC (.str (PySem.Str.ofString "-"))) (mCons (mC (.str (PySem.Str.ofString "."))) (mCons (mC (.str (PySem.Str.ofString "*"))) (mCons (mC (.str (PySem.Str.ofString "9"))) (mCons (mC (.str (PySem.Str.ofString "l"))) (mCons (mC (.str (PySem.Str.ofString "~"))) (mNil))))))))))))))))) = fun _ => R.ok (.lst odds) := rfl
  have s4 : (mSet 4 (mBin modD (mBin fdivD (mVar 1) (mC (.int 5))) (mC (.int 4)))) [.fz (.str t), .fz (.int n), .fz (.int (n % 5)), .fz (.str o), .un] = .ok (.nx [.fz (.str t), .fz (.int n), .fz (.int (n % 5)), .fz (.str o), .fz (.int (n / 5 % 4))]) := by
    simp only [mSet, mBin, mVar, mC, bind_ok', List.getElem?_cons_zero, List.getElem?_cons_succ, fdivD, modD, intsD, if_pos d5]
    rfl
  have s3 : (mSet 3 (mBin ixD (fun _ => R.ok (.lst odds)) (mBin modD (mBin fdivD (mVar 1) (mC (.int 40))) (mC (.int 14))))) [.fz (.str t), .fz (.int n), .fz (.int (n % 5)), .un, .un] = .ok (.nx [.fz (.str t), .fz (.int n), .fz (.int (n % 5)), .fz (.str o), .un]) := by
    simp only [mSet, mBin, mVar, mC, bind_ok', List.getElem?_cons_zero, List.getElem?_cons_succ, fdivD, modD, intsD, if_pos d40, if_pos (show (0:Int) < 14 by decide), eo]
    rfl
  have c0 : ∀ i j : Int, eqR true (.int i) (.int j) = .ok (.bl (i == j)) := fun i j => rfl
  have x0 : (mBin addD (mBin addD (mSl slD (mVar 0) (mNoP) (mPart (mVar 2))) (mVar 3)) (mSl slD (mVar 0) (mPart (mBin addD (mVar 2) (mC (.int 1)))) (mNoP))) [.fz (.str t), .fz (.int n), .fz (.int (n % 5)), .fz (.str o), .fz (.int (n / 5 % 4))] = .ok (.str a2) := by
    show (((slD (.str t) none (some (n % 5))).bind fun x => addD x (.str o)).bind fun x => (slD (.str t) (some (n % 5 + 1)) none).bind fun y => addD x y) = _
    rw [el, bind_ok', e1, bind_ok', eq, bind_ok', e2]
  have x1 : (mBin addD (mSl slD (mVar 0) (mNoP) (mPart (mVar 2))) (mSl slD (mVar 0) (mPart (mBin addD (mVar 2) (mC (.int 1)))) (mNoP))) [.fz (.str t), .fz (.int n), .fz (.int (n % 5)), .fz (.str o), .fz (.int (n / 5 % 4))] = .ok (.str a3) := by
    show ((slD (.str t) none (some (n % 5))).bind fun x => (slD (.str t) (some (n % 5 + 1)) none).bind fun y => addD x y) = _
    rw [el, bind_ok', eq, bind_ok', e3]
  have x2 : (mBin addD (mBin addD (mSl slD (mVar 0) (mNoP) (mPart (mVar 2))) (mSl slD (mVar 0) (mPart (mVar 2)) (mPart (mBin addD (mVar 2) (mC (.int 1)))))) (mSl slD (mVar 0) (mPart (mVar 2)) (mNoP))) [.fz (.str t), .fz (.int n), .fz (.int (n % 5)), .fz (.str o), .fz (.int (n / 5 % 4))] = .ok (.str a5) := by
    show (((slD (.str t) none (some (n % 5))).bind fun x => (slD (.str t) (some (n % 5)) (some (n % 5 + 1))).bind fun y => addD x y).bind fun x => (slD (.str t) (some (n % 5)) none).bind fun y => addD x y) = _
    rw [el, bind_ok', em, bind_ok', e4, bind_ok', er, bind_ok', e5]
  have x3 : (mBin addD (mBin addD (mSl slD (mVar 0) (mNoP) (mPart (mVar 2))) (mVar 3)) (mSl slD (mVar 0) (mPart (mVar 2)) (mNoP))) [.fz (.str t), .fz (.int n), .fz (.int (n % 5)), .fz (.str o), .fz (.int (n / 5 % 4))] = .ok (.str a6) := by
    show (((slD (.str t) none (some (n % 5))).bind fun x => addD x (.str o)).bind fun x => (slD (.str t) (some (n % 5)) none).bind fun y => addD x y) = _
    rw [el, bind_ok', e1, bind_ok', er, bind_ok', e6]
  have cc : ∀ j : Int, (mB (mBin (eqR true) (mVar 4) (mC (.int j)))) [.fz (.str t), .fz (.int n), .fz (.int (n % 5)), .fz (.str o), .fz (.int (n / 5 % 4))] = .ok (n / 5 % 4 == j) := fun j => rfl
  show ∃ o : Str, o.length ≤ 1000 ∧ (b_law_spoiled [.fz (.str t), .fz (.int n), .un, .un, .un]).bind outD = _
  unfold b_law_spoiled
  rw [o0, seq_nx s2, seq_nx s3, seq_nx s4, seq_ret (cc 0) x0, seq_ret (cc 1) x1, seq_ret (cc 2) x2]
  by_cases k0 : (n / 5 % 4 == (0:Int)) = true
  · exact ⟨a2, by omega, by rw [if_pos k0]; rfl⟩
  · by_cases k1 : (n / 5 % 4 == (1:Int)) = true
    · exact ⟨a3, by omega, by rw [if_neg k0, if_pos k1]; rfl⟩
    · by_cases k2 : (n / 5 % 4 == (2:Int)) = true
      · exact ⟨a5, by omega, by rw [if_neg k0, if_neg k1, if_pos k2]; rfl⟩
      · exact ⟨a6, by omega, by rw [if_neg k0, if_neg k1, if_neg k2, mRet, x3]; rfl⟩
/-! the law's loops -/
theorem step_ok {b : MS} {ρ ρ' : Rho} (h : b ρ = .ok (.nx ρ')) : b ρ = .ok (.nx ρ') := h
def lawBody : MS := (mSeq (mSet 4 (mCall 1 m_law_text (mCons (mCall 2 m_law_mix (mCons (mVar 3) (mCons (mVar 2) (mNil)))) (mNil))))
    (mSeq (mSet 5 (mCall 2 m_law_spoiled (mCons (mVar 4) (mCons (mCall 2 m_law_mix (mCons (mVar 3) (mCons (mBin addD (mC (.int 70)) (mVar 2)) (mNil)))) (mNil)))))
    (mSeq (mIfS (mOr (mNot (mB (mCall 2 m_law_truth (mCons (mCall 1 m_is_pattern (mCons (mVar 4) (mNil))) (mCons (mC (.bl true)) (mNil)))))) (mNot (mB (mCall 2 m_law_truth (mCons (mCall 1 m_is_pattern (mCons (mVar 5) (mNil))) (mCons (mCall 1 m_law_due (mCons (mVar 5) (mNil))) (mNil))))))) (mRet (mC (.bl false))) (mNext))
    (mIfS (mNot (mB (mCall 1 m_law_right (mCons (mVar 4) (mNil))))) (mRet (mC (.bl false))) (mNext)))))
theorem call1 {f : List D → R Rt} {a : ME} {ρ : Rho} {x y : D} (ha : a ρ = .ok x) (h : f [x] = .ok (.v y)) : mCall 1 f (mCons a mNil) ρ = .ok y := by
  simp only [mCall, mCons, mNil, ha, bind_ok', List.length_cons, List.length_nil, if_true, h, rtD]
theorem call2 {f : List D → R Rt} {a b : ME} {ρ : Rho} {x z y : D} (ha : a ρ = .ok x) (hb : b ρ = .ok z) (h : f [x, z] = .ok (.v y)) : mCall 2 f (mCons a (mCons b mNil)) ρ = .ok y := by
  simp only [mCall, mCons, mNil, ha, hb, bind_ok', List.length_cons, List.length_nil, if_true, h, rtD]
theorem mB_ok {a : ME} {ρ : Rho} {c : Bool} (ha : a ρ = .ok (.bl c)) : mB a ρ = .ok c := by simp only [mB, ha, bind_ok', asB]
theorem mNot_ok {a : MT} {ρ : Rho} {c : Bool} (ha : a ρ = .ok c) : mNot a ρ = .ok (!c) := by simp only [mNot, ha, bind_ok']
theorem mOr_f {a b : MT} {ρ : Rho} (ha : a ρ = .ok false) (hb : b ρ = .ok false) : mOr a b ρ = .ok false := by
  simp only [mOr, ha, hb, bind_ok']; rfl
theorem txts_len : ∀ t ∈ txts, t.length ≤ 10 := by decide +kernel
theorem txts_right {t : Str} (h : t ∈ txts) : m_law_right [.str t] = .ok (.v (.bl true)) ∧ m_is_pattern [.str t] = .ok (.v (.bl true)) := by
  have := List.all_eq_true.mp rights t h
  rw [Bool.and_eq_true] at this
  exact ⟨of_isT this.1, of_isT this.2⟩
theorem law_step (k c : Int) (h0 : 0 ≤ k) (h1 : k ≤ 100) (a0 a1 a4 a5 : Sl) : ∃ s4 s5, lawBody [a0, a1, .fz (.int k), .fz (.int c), a4, a5] = .ok (.nx [a0, a1, .fz (.int k), .fz (.int c), s4, s5]) := by
  obtain ⟨n1, en1⟩ := mix_ok c k h0 (by omega)
  obtain ⟨n2, en2⟩ := mix_ok c (70 + k) (by omega) (by omega)
  obtain ⟨t, ht, et⟩ := text_mem n1
  obtain ⟨o, ho, eo⟩ := spoiled_ok t n2 (txts_len t ht)
  obtain ⟨er, ep⟩ := txts_right ht
  have s4 : (mSet 4 (mCall 1 m_law_text (mCons (mCall 2 m_law_mix (mCons (mVar 3) (mCons (mVar 2) (mNil)))) (mNil)))) [a0, a1, .fz (.int k), .fz (.int c), a4, a5] = .ok (.nx [a0, a1, .fz (.int k), .fz (.int c), .fz (.str t), a5]) := by
    have z : (mCall 1 m_law_text (mCons (mCall 2 m_law_mix (mCons (mVar 3) (mCons (mVar 2) (mNil)))) (mNil))) [a0, a1, .fz (.int k), .fz (.int c), a4, a5] = .ok (.str t) := call1 (call2 rfl rfl en1) et
    rw [mSet, z]; rfl
  have s5 : (mSet 5 (mCall 2 m_law_spoiled (mCons (mVar 4) (mCons (mCall 2 m_law_mix (mCons (mVar 3) (mCons (mBin addD (mC (.int 70)) (mVar 2)) (mNil)))) (mNil))))) [a0, a1, .fz (.int k), .fz (.int c), .fz (.str t), a5] = .ok (.nx [a0, a1, .fz (.int k), .fz (.int c), .fz (.str t), .fz (.str o)]) := by
    have z : (mCall 2 m_law_spoiled (mCons (mVar 4) (mCons (mCall 2 m_law_mix (mCons (mVar 3) (mCons (mBin addD (mC (.int 70)) (mVar 2)) (mNil)))) (mNil)))) [a0, a1, .fz (.int k), .fz (.int c), .fz (.str t), a5] = .ok (.str o) := call2 rfl (call2 rfl rfl en2) eo
    rw [mSet, z]; rfl
  refine ⟨.fz (.str t), .fz (.str o), ?_⟩
  unfold lawBody
  rw [seq_nx s4, seq_nx s5, seq_ret (k := false) (mOr_f (mNot_ok (c := true) (mB_ok (call2 (call1 rfl ep) rfl (truth_ok true true)))) (mNot_ok (c := true) (mB_ok (by
    have := truth_ok (patB o) (patB o)
    rw [beq_self_eq_true] at this
    exact call2 (call1 rfl (pat_ok o ho)) (call1 rfl (due_ok o ho)) this)))) rfl]
  rw [if_neg (by decide), mIfS, mNot_ok (c := true) (mB_ok (call1 rfl er))]
  rfl
def IsPair (d : D) : Prop := ∃ k c : Int, d = .tup [.int k, .int c] ∧ 0 ≤ k ∧ k ≤ 100
theorem law_loop : ∀ (ds : List D), (∀ d ∈ ds, IsPair d) → ∀ a0 a1 a2 a3 a4 a5 : Sl, ∃ ρ', forGo (setT [setV 2, setV 3]) lawBody ds [a0, a1, a2, a3, a4, a5] = .ok (.nx ρ')
  | [], _, a0, a1, a2, a3, a4, a5 => ⟨_, rfl⟩
  | d :: ds, h, a0, a1, a2, a3, a4, a5 => by
    obtain ⟨k, c, rfl, h0, h1⟩ := h d (List.mem_cons_self ..)
    obtain ⟨s4, s5, e⟩ := law_step k c h0 h1 a0 a1 a4 a5
    have e0 : setT [setV 2, setV 3] (.tup [.int k, .int c]) [a0, a1, a2, a3, a4, a5] = .ok [a0, a1, .fz (.int k), .fz (.int c), a4, a5] := rfl
    rw [forGo, e0, bind_ok', e, bind_ok']
    exact law_loop ds (fun d hd => h d (List.mem_cons_of_mem _ hd)) _ _ _ _ _ _
def things : List D := [.non, .int 0, .int 1111, .bl true, .lst (["0", "1", "x", "x"].map fun s => .str (PySem.Str.ofString s)), .tup (["x", "x", "x", "x"].map fun s => .str (PySem.Str.ofString s)), .dK [] [], .str (PySem.Str.ofString ""), .str (PySem.Str.ofString "xxx"), .str (PySem.Str.ofString "xxxxx"), .tup [.int 1]]
def thingBody : MS := (mIfS (mNot (mB (mCall 2 m_law_truth (mCons (mCall 1 m_is_pattern (mCons (mVar 1) (mNil))) (mCons (mC (.bl false)) (mNil)))))) (mRet (mC (.bl false))) (mNext))
def isF : R Rt → Bool
  | .ok (.v (.bl false)) => true
  | _ => false
theorem of_isF {r : R Rt} (h : isF r = true) : r = .ok (.v (.bl false)) := by
  unfold isF at h; split at h
  · rfl
  · cases h
theorem things_no : (things.all fun d => isF (m_is_pattern [d])) = true := by decide +kernel
theorem thing_loop : ∀ (ds : List D), (∀ d ∈ ds, m_is_pattern [d] = .ok (.v (.bl false))) → ∀ a0 a1 a2 a3 a4 a5 : Sl, ∃ b1, forGo (setV 1) thingBody ds [a0, a1, a2, a3, a4, a5] = .ok (.nx [a0, b1, a2, a3, a4, a5])
  | [], _, a0, a1, a2, a3, a4, a5 => ⟨_, rfl⟩
  | d :: ds, h, a0, a1, a2, a3, a4, a5 => by
    have e := h d (List.mem_cons_self ..)
    have e0 : setV 1 d [a0, a1, a2, a3, a4, a5] = .ok [a0, .fz d, a2, a3, a4, a5] := rfl
    have e1 : thingBody [a0, .fz d, a2, a3, a4, a5] = .ok (.nx [a0, .fz d, a2, a3, a4, a5]) := by
      unfold thingBody
      rw [mIfS, mNot_ok (c := true) (mB_ok (call2 (call1 rfl e) rfl (truth_ok false false)))]
      rfl
    rw [forGo, e0, bind_ok', e1, bind_ok']
    exact thing_loop ds (fun d hd => h d (List.mem_cons_of_mem _ hd)) _ _ _ _ _ _
theorem for_nx {mi : MA} {set : D → Rho → R Rho} {body : MS} {ds : List D} {ρ ρ' : Rho} (hi : mi ρ = .ok ds) (h : forGo set body ds ρ = .ok (.nx ρ')) : mFor mi set body ρ = .ok (.nx ρ') := by
  rw [mFor, hi]; exact h
theorem cut63 (ns : List Int) : cutL (ns.map D.int) none (some 63) = (ns.take (min 63 ns.length)).map D.int := by
  have : HT.sIx (ns.map D.int).length (ns.map D.int).length (some 63) = min 63 ns.length := by
    have := HT.sIx_nat (ns.map D.int).length (ns.map D.int).length 63
    rw [List.length_map] at this ⊢
    exact this
  unfold cutL
  rw [this]
  show ((ns.map D.int).drop 0).take (min 63 ns.length - 0) = _
  rw [List.drop_zero, Nat.sub_zero, List.map_take]
theorem enum_pairs (cs : List Int) (h : cs.length ≤ 100) : ∀ d ∈ enumL (cs.map D.int), IsPair d := by
  intro d hd
  unfold enumL at hd
  obtain ⟨p, hp, rfl⟩ := List.mem_map.mp hd
  obtain ⟨i, hi, e⟩ := List.getElem_of_mem hp
  rw [List.getElem_zipIdx] at e
  subst e
  rw [List.length_zipIdx, List.length_map] at hi
  refine ⟨((0 + i : Nat) : Int), cs[i], ?_, by omega, by omega⟩
  simp only [List.getElem_map]
theorem law_true (ns : List Int) : m_law [.scr (ns.map D.int)] = .ok (.v (.bl true)) := by
  show (b_law [.fz (.scr (ns.map D.int)), .un, .un, .un, .un, .un]).bind outD = _
  obtain ⟨b1, e1⟩ := thing_loop things (fun d hd => of_isF (List.all_eq_true.mp things_no d hd)) (.fz (.scr (ns.map D.int))) .un .un .un .un .un
  have f1 := for_nx (mi := (mIL (mFz (mLim (mCons (mC .non) (mCons (mC (.int 0)) (mCons (mC (.int 1111)) (mCons (mC (.bl true)) (mCons (mFz (mLim (mCons (mC (.str (PySem.Str.ofString "0"))) (mCons (mC (.str (PySem.Str.ofString "1"))) (mCons (mC (.str (PySem.Str.ofString "x"))) (mCons (mC (.str (PySem.Str.ofString "x"))) (mNil))))))) (mCons (mTup (mCons (mC (.str (PySem.Str.ofString "x"))) (mCons (mC (.str (PySem.Str.ofString "x"))) (mCons (mC (.str (PySem.Str.ofString "x"))) (mCons (mC (.str (PySem.Str.ofString "x"))) (mNil)))))) (mCons (mDict0) (mCons (mC (.str (PySem.Str.ofString ""))) (mCons (mC (.str (PySem.Str.ofString "xxx"))) (mCons (mC (.str (PySem.Str.ofString "xxxxx"))) (mCons (mTup (mCons (mC (.int 1)) (mNil))) (mNil)))))))))))))))) rfl e1
  have hl : ((0 : Int) :: 5 :: ns.take (min 63 ns.length)).length ≤ 100 := by
    simp only [List.length_cons, List.length_take]; omega
  obtain ⟨ρ', e2⟩ := law_loop (enumL (((0 : Int) :: 5 :: ns.take (min 63 ns.length)).map D.int)) (enum_pairs _ hl) (.fz (.scr (ns.map D.int))) b1 .un .un .un .un
  have g2 : (mIE (mCons (mBin addD (mFz (mLim (mCons (mC (.int 0)) (mCons (mC (.int 5)) (mNil))))) (mSl slD (mVar 0) (mNoP) (mPart (mC (.int 63))))) (mNil))) [.fz (.scr (ns.map D.int)), b1, .un, .un, .un, .un] = .ok (enumL (((0 : Int) :: 5 :: ns.take (min 63 ns.length)).map D.int)) := by
    show ((addD (.lst [.int 0, .int 5]) (.lst (cutL (ns.map D.int) none (some 63)))).bind fun x => R.ok [x]).bind enumD = _
    have hs : ([D.int 0, D.int 5]).length + ((ns.take (min 63 ns.length)).map D.int).length ≤ 1000000 := by
      simp only [List.length_cons, List.length_nil, List.length_map, List.length_take]; omega
    rw [cut63, addD, if_pos hs]
    rfl
  have f2 := for_nx g2 e2
  unfold b_law
  unfold thingBody at f1
  unfold lawBody at f2
  rw [seq_nx f1]
  rw [seq_nx f2]
  rfl
end N1
set_option Elab.async false
set_option linter.all false
set_option maxRecDepth 100000
set_option autoImplicit false
namespace N1
open PySem PySem.Spec L2 L3
theorem xf_ok {P : Program} {w : World} {K : PySem.W.Frag} {mg : Str → Option Value} {base : Heap} {x : Str} {st : Stmt} {N ps : List Str} {k : Nat} {m : MS} {f : Addr} {fd : FuncData} (fn : Fun K x x st f fd) (S : FnScope N ps (defScope st))
    (h : ∀ (f : Addr) (cdv : Value) (A : Around) (outer : List Env) (s : Shared) (H : Hp) (E : XK), Room k (A.deeper (PyProof.Rows.envOfC x (defScope st) s.heap.objs.size f cdv)) → ∀ G0 H0, XBM (cxOf CX0 P w K mg base N x (defScope st) f cdv A outer s H E).nox (fxB K G0 H0) (defBody st) m) :
    FnOk P w K mg base CX0 (k + 1) f fd ps (sp0 K ps.length (mDef N.length m)) := fn.ok S spM_len fun cdv A outer s H vs Q E hr hs => by
  obtain ⟨G, ht⟩ := body_of hs
  exact ⟨_, (h f cdv A outer s H E hr G H).1, ht⟩
set_option maxHeartbeats 4000000 in
theorem fn_law {P : Program} {w : World} {K : PySem.W.Frag} {mg : Str → Option Value} {base : Heap} {f : Addr} {fd : FuncData} (fn : Fun K "law" "law" s_law f fd) (T : Tx K mg) (c_law_right : Kn P w K mg base "_law_right" 1 6 m_law_right) (c_law_due : Kn P w K mg base "_law_due" 1 1 m_law_due) (c_is_pattern : Kn P w K mg base "is_pattern" 1 1 m_is_pattern) (c_law_truth : Kn P w K mg base "_law_truth" 2 1 m_law_truth) (c_law_mix : Kn P w K mg base "_law_mix" 2 1 m_law_mix) (c_law_spoiled : Kn P w K mg base "_law_spoiled" 2 1 m_law_spoiled) (c_law_text : Kn P w K mg base "_law_text" 1 1 m_law_text) : FnOk P w K mg base CX0 7 f fd ["_law_script"] (sp0 K 1 m_law) := xf_ok fn sc_law (bm_law T c_law_right c_law_due c_is_pattern c_law_truth c_law_mix c_law_spoiled c_law_text)
theorem tx_mk {K : PySem.W.Frag} {h : Heap} {mg : Str → Option Value} {f0 : Addr} {od0 an0 : Option Addr} {sl0 : Array (Option Value)} {oc0 kV0 dc0 pm0 cd0 ct0 : Value} {f1 : Addr} {od1 an1 : Option Addr} {sl1 : Array (Option Value)} {oc1 kV1 dc1 pm1 cd1 ct1 : Value} {f2 : Addr} {od2 an2 : Option Addr} {sl2 : Array (Option Value)} {oc2 kV2 dc2 pm2 cd2 ct2 : Value} {f3 : Addr} {od3 an3 : Option Addr} {sl3 : Array (Option Value)} {oc3 kV3 dc3 pm3 cd3 ct3 : Value} {f4 : Addr} {od4 an4 : Option Addr} {sl4 : Array (Option Value)} {oc4 kV4 dc4 pm4 cd4 ct4 : Value} {f5 : Addr} {od5 an5 : Option Addr} {sl5 : Array (Option Value)} {oc5 kV5 dc5 pm5 cd5 ct5 : Value} {f6 : Addr} {od6 an6 : Option Addr} {sl6 : Array (Option Value)} {oc6 kV6 dc6 pm6 cd6 ct6 : Value} {f7 : Addr} {od7 an7 : Option Addr} {sl7 : Array (Option Value)} {oc7 kV7 dc7 pm7 cd7 ct7 : Value} {f8 : Addr} {od8 an8 : Option Addr} {sl8 : Array (Option Value)} {oc8 kV8 dc8 pm8 cd8 ct8 : Value} {f9 : Addr} {od9 an9 : Option Addr} {sl9 : Array (Option Value)} {oc9 kV9 dc9 pm9 cd9 ct9 : Value} {f10 : Addr} {od10 an10 : Option Addr} {sl10 : Array (Option Value)} {oc10 kV10 dc10 pm10 cd10 ct10 : Value} {f11 : Addr} {od11 an11 : Option Addr} {sl11 : Array (Option Value)} {oc11 kV11 dc11 pm11 cd11 ct11 : Value} {f12 : Addr} {od12 an12 : Option Addr} {sl12 : Array (Option Value)} {oc12 kV12 dc12 pm12 cd12 ct12 : Value} {f13 : Addr} {od13 an13 : Option Addr} {sl13 : Array (Option Value)} {oc13 kV13 dc13 pm13 cd13 ct13 : Value} {f14 : Addr} {od14 an14 : Option Addr} {sl14 : Array (Option Value)} {oc14 kV14 dc14 pm14 cd14 ct14 : Value} {t_GREATEST_ADDRESS_0 : Tok} {A_SIGNS : Addr} {dd_SIGNS : Option Addr} {n_SIGNS : Nat} {sl_SIGNS : Array (Option Value)} {t_SIGNS_0 t_SIGNS_1 t_SIGNS_2 : Tok} {A_WORTHS : Addr} {dd_WORTHS : Option Addr} {n_WORTHS : Nat} {sl_WORTHS : Array (Option Value)} {t_WORTHS_0 t_WORTHS_1 t_WORTHS_2 t_WORTHS_3 : Tok} (X : K.In h) (G : h.Ns mainGlobals mg)
    (a0 : PySem.W.nsIn K mainGlobals "is_whole" = some (some (.ref f0))) (l0 : K.lookup f0 = some ⟨oc0, od0, .func (PySem.W.fnOf "is_whole" "is_whole" (defArgs s_is_whole) (defBody s_is_whole) (defScope s_is_whole) .none kV0 dc0 pm0 an0 cd0 ct0), sl0⟩) (c0 : PySem.W.codeIn K cd0 "is_whole" = true) (k0 : PySem.W.keepIn K (.ref f0) = true)
    (a1 : PySem.W.nsIn K mainGlobals "is_whole_within" = some (some (.ref f1))) (l1 : K.lookup f1 = some ⟨oc1, od1, .func (PySem.W.fnOf "is_whole_within" "is_whole_within" (defArgs s_is_whole_within) (defBody s_is_whole_within) (defScope s_is_whole_within) .none kV1 dc1 pm1 an1 cd1 ct1), sl1⟩) (c1 : PySem.W.codeIn K cd1 "is_whole_within" = true) (k1 : PySem.W.keepIn K (.ref f1) = true)
    (a2 : PySem.W.nsIn K mainGlobals "is_address" = some (some (.ref f2))) (l2 : K.lookup f2 = some ⟨oc2, od2, .func (PySem.W.fnOf "is_address" "is_address" (defArgs s_is_address) (defBody s_is_address) (defScope s_is_address) .none kV2 dc2 pm2 an2 cd2 ct2), sl2⟩) (c2 : PySem.W.codeIn K cd2 "is_address" = true) (k2 : PySem.W.keepIn K (.ref f2) = true)
    (a3 : PySem.W.nsIn K mainGlobals "is_pattern" = some (some (.ref f3))) (l3 : K.lookup f3 = some ⟨oc3, od3, .func (PySem.W.fnOf "is_pattern" "is_pattern" (defArgs s_is_pattern) (defBody s_is_pattern) (defScope s_is_pattern) .none kV3 dc3 pm3 an3 cd3 ct3), sl3⟩) (c3 : PySem.W.codeIn K cd3 "is_pattern" = true) (k3 : PySem.W.keepIn K (.ref f3) = true)
    (a4 : PySem.W.nsIn K mainGlobals "fits" = some (some (.ref f4))) (l4 : K.lookup f4 = some ⟨oc4, od4, .func (PySem.W.fnOf "fits" "fits" (defArgs s_fits) (defBody s_fits) (defScope s_fits) .none kV4 dc4 pm4 an4 cd4 ct4), sl4⟩) (c4 : PySem.W.codeIn K cd4 "fits" = true) (k4 : PySem.W.keepIn K (.ref f4) = true)
    (a5 : PySem.W.nsIn K mainGlobals "addresses" = some (some (.ref f5))) (l5 : K.lookup f5 = some ⟨oc5, od5, .func (PySem.W.fnOf "addresses" "addresses" (defArgs s_addresses) (defBody s_addresses) (defScope s_addresses) .none kV5 dc5 pm5 an5 cd5 ct5), sl5⟩) (c5 : PySem.W.codeIn K cd5 "addresses" = true) (k5 : PySem.W.keepIn K (.ref f5) = true)
    (a6 : PySem.W.nsIn K mainGlobals "_law_mix" = some (some (.ref f6))) (l6 : K.lookup f6 = some ⟨oc6, od6, .func (PySem.W.fnOf "_law_mix" "_law_mix" (defArgs s_law_mix) (defBody s_law_mix) (defScope s_law_mix) .none kV6 dc6 pm6 an6 cd6 ct6), sl6⟩) (c6 : PySem.W.codeIn K cd6 "_law_mix" = true) (k6 : PySem.W.keepIn K (.ref f6) = true)
    (a7 : PySem.W.nsIn K mainGlobals "_law_text" = some (some (.ref f7))) (l7 : K.lookup f7 = some ⟨oc7, od7, .func (PySem.W.fnOf "_law_text" "_law_text" (defArgs s_law_text) (defBody s_law_text) (defScope s_law_text) .none kV7 dc7 pm7 an7 cd7 ct7), sl7⟩) (c7 : PySem.W.codeIn K cd7 "_law_text" = true) (k7 : PySem.W.keepIn K (.ref f7) = true)
    (a8 : PySem.W.nsIn K mainGlobals "_law_spoiled" = some (some (.ref f8))) (l8 : K.lookup f8 = some ⟨oc8, od8, .func (PySem.W.fnOf "_law_spoiled" "_law_spoiled" (defArgs s_law_spoiled) (defBody s_law_spoiled) (defScope s_law_spoiled) .none kV8 dc8 pm8 an8 cd8 ct8), sl8⟩) (c8 : PySem.W.codeIn K cd8 "_law_spoiled" = true) (k8 : PySem.W.keepIn K (.ref f8) = true)
    (a9 : PySem.W.nsIn K mainGlobals "_law_due" = some (some (.ref f9))) (l9 : K.lookup f9 = some ⟨oc9, od9, .func (PySem.W.fnOf "_law_due" "_law_due" (defArgs s_law_due) (defBody s_law_due) (defScope s_law_due) .none kV9 dc9 pm9 an9 cd9 ct9), sl9⟩) (c9 : PySem.W.codeIn K cd9 "_law_due" = true) (k9 : PySem.W.keepIn K (.ref f9) = true)
    (a10 : PySem.W.nsIn K mainGlobals "_law_bits" = some (some (.ref f10))) (l10 : K.lookup f10 = some ⟨oc10, od10, .func (PySem.W.fnOf "_law_bits" "_law_bits" (defArgs s_law_bits) (defBody s_law_bits) (defScope s_law_bits) .none kV10 dc10 pm10 an10 cd10 ct10), sl10⟩) (c10 : PySem.W.codeIn K cd10 "_law_bits" = true) (k10 : PySem.W.keepIn K (.ref f10) = true)
    (a11 : PySem.W.nsIn K mainGlobals "_law_fits" = some (some (.ref f11))) (l11 : K.lookup f11 = some ⟨oc11, od11, .func (PySem.W.fnOf "_law_fits" "_law_fits" (defArgs s_law_fits) (defBody s_law_fits) (defScope s_law_fits) .none kV11 dc11 pm11 an11 cd11 ct11), sl11⟩) (c11 : PySem.W.codeIn K cd11 "_law_fits" = true) (k11 : PySem.W.keepIn K (.ref f11) = true)
    (a12 : PySem.W.nsIn K mainGlobals "_law_truth" = some (some (.ref f12))) (l12 : K.lookup f12 = some ⟨oc12, od12, .func (PySem.W.fnOf "_law_truth" "_law_truth" (defArgs s_law_truth) (defBody s_law_truth) (defScope s_law_truth) .none kV12 dc12 pm12 an12 cd12 ct12), sl12⟩) (c12 : PySem.W.codeIn K cd12 "_law_truth" = true) (k12 : PySem.W.keepIn K (.ref f12) = true)
    (a13 : PySem.W.nsIn K mainGlobals "_law_right" = some (some (.ref f13))) (l13 : K.lookup f13 = some ⟨oc13, od13, .func (PySem.W.fnOf "_law_right" "_law_right" (defArgs s_law_right) (defBody s_law_right) (defScope s_law_right) .none kV13 dc13 pm13 an13 cd13 ct13), sl13⟩) (c13 : PySem.W.codeIn K cd13 "_law_right" = true) (k13 : PySem.W.keepIn K (.ref f13) = true)
    (a14 : PySem.W.nsIn K mainGlobals "law" = some (some (.ref f14))) (l14 : K.lookup f14 = some ⟨oc14, od14, .func (PySem.W.fnOf "law" "law" (defArgs s_law) (defBody s_law) (defScope s_law) .none kV14 dc14 pm14 an14 cd14 ct14), sl14⟩) (c14 : PySem.W.codeIn K cd14 "law" = true) (k14 : PySem.W.keepIn K (.ref f14) = true)
    (z_all : PySem.W.nsIn K mainGlobals "all" = some none)
    (z_bool : PySem.W.nsIn K mainGlobals "bool" = some none)
    (z_enumerate : PySem.W.nsIn K mainGlobals "enumerate" = some none)
    (z_int : PySem.W.nsIn K mainGlobals "int" = some none)
    (z_isinstance : PySem.W.nsIn K mainGlobals "isinstance" = some none)
    (z_len : PySem.W.nsIn K mainGlobals "len" = some none)
    (z_list : PySem.W.nsIn K mainGlobals "list" = some none)
    (z_range : PySem.W.nsIn K mainGlobals "range" = some none)
    (z_str : PySem.W.nsIn K mainGlobals "str" = some none)
    (z_zip : PySem.W.nsIn K mainGlobals "zip" = some none)
    (z_GREATEST_ADDRESS : PySem.W.nsIn K mainGlobals "GREATEST_ADDRESS" = some (some (.int 15 t_GREATEST_ADDRESS_0)))
    (z_SIGNS : PySem.W.nsIn K mainGlobals "SIGNS" = some (some (.ref A_SIGNS))) (y_SIGNS : K.lookup A_SIGNS = some ⟨.type "tuple", dd_SIGNS, .seq #[.str (PySem.Str.ofString "0") t_SIGNS_0, .str (PySem.Str.ofString "1") t_SIGNS_1, .str (PySem.Str.ofString "x") t_SIGNS_2] n_SIGNS, sl_SIGNS⟩)
    (z_WORTHS : PySem.W.nsIn K mainGlobals "WORTHS" = some (some (.ref A_WORTHS))) (y_WORTHS : K.lookup A_WORTHS = some ⟨.type "tuple", dd_WORTHS, .seq #[.int 8 t_WORTHS_0, .int 4 t_WORTHS_1, .int 2 t_WORTHS_2, .int 1 t_WORTHS_3] n_WORTHS, sl_WORTHS⟩) : Tx K mg where
  f_is_whole := fd_mk (st := s_is_whole) X G a0 l0 c0 k0 fun _ _ _ _ _ _ us hl => match us, hl with | [_], _ => rfl
  f_is_whole_within := fd_mk (st := s_is_whole_within) X G a1 l1 c1 k1 fun _ _ _ _ _ _ us hl => match us, hl with | [_, _, _], _ => rfl
  f_is_address := fd_mk (st := s_is_address) X G a2 l2 c2 k2 fun _ _ _ _ _ _ us hl => match us, hl with | [_], _ => rfl
  f_is_pattern := fd_mk (st := s_is_pattern) X G a3 l3 c3 k3 fun _ _ _ _ _ _ us hl => match us, hl with | [_], _ => rfl
  f_fits := fd_mk (st := s_fits) X G a4 l4 c4 k4 fun _ _ _ _ _ _ us hl => match us, hl with | [_, _], _ => rfl
  f_addresses := fd_mk (st := s_addresses) X G a5 l5 c5 k5 fun _ _ _ _ _ _ us hl => match us, hl with | [_], _ => rfl
  f_law_mix := fd_mk (st := s_law_mix) X G a6 l6 c6 k6 fun _ _ _ _ _ _ us hl => match us, hl with | [_, _], _ => rfl
  f_law_text := fd_mk (st := s_law_text) X G a7 l7 c7 k7 fun _ _ _ _ _ _ us hl => match us, hl with | [_], _ => rfl
  f_law_spoiled := fd_mk (st := s_law_spoiled) X G a8 l8 c8 k8 fun _ _ _ _ _ _ us hl => match us, hl with | [_, _], _ => rfl
  f_law_due := fd_mk (st := s_law_due) X G a9 l9 c9 k9 fun _ _ _ _ _ _ us hl => match us, hl with | [_], _ => rfl
  f_law_bits := fd_mk (st := s_law_bits) X G a10 l10 c10 k10 fun _ _ _ _ _ _ us hl => match us, hl with | [_], _ => rfl
  f_law_fits := fd_mk (st := s_law_fits) X G a11 l11 c11 k11 fun _ _ _ _ _ _ us hl => match us, hl with | [_, _], _ => rfl
  f_law_truth := fd_mk (st := s_law_truth) X G a12 l12 c12 k12 fun _ _ _ _ _ _ us hl => match us, hl with | [_, _], _ => rfl
  f_law_right := fd_mk (st := s_law_right) X G a13 l13 c13 k13 fun _ _ _ _ _ _ us hl => match us, hl with | [_], _ => rfl
  f_law := fd_mk (st := s_law) X G a14 l14 c14 k14 fun _ _ _ _ _ _ us hl => match us, hl with | [_], _ => rfl
  b_all := PySem.W.mg_none_of X G z_all
  b_bool := PySem.W.mg_none_of X G z_bool
  b_enumerate := PySem.W.mg_none_of X G z_enumerate
  b_int := PySem.W.mg_none_of X G z_int
  b_isinstance := PySem.W.mg_none_of X G z_isinstance
  b_len := PySem.W.mg_none_of X G z_len
  b_list := PySem.W.mg_none_of X G z_list
  b_range := PySem.W.mg_none_of X G z_range
  b_str := PySem.W.mg_none_of X G z_str
  b_zip := PySem.W.mg_none_of X G z_zip
  c_GREATEST_ADDRESS := ⟨⟨_, _, PySem.W.mg_of X G z_GREATEST_ADDRESS, (rv_int _ _), fun _ => (a_int _)⟩⟩
  c_SIGNS := ⟨⟨.ref A_SIGNS, _, PySem.W.mg_of X G z_SIGNS, rfl, tup_at y_SIGNS (Nat.le_of_ble_eq_true rfl) (.cons (rv_str _ _) (.cons (rv_str _ _) (.cons (rv_str _ _) .nil))) fun _ => (.cons (a_str _) (.cons (a_str _) (.cons (a_str _) .nil)))⟩⟩
  c_WORTHS := ⟨⟨.ref A_WORTHS, _, PySem.W.mg_of X G z_WORTHS, rfl, tup_at y_WORTHS (Nat.le_of_ble_eq_true rfl) (.cons (rv_int _ _) (.cons (rv_int _ _) (.cons (rv_int _ _) (.cons (rv_int _ _) .nil)))) fun _ => (.cons (a_int _) (.cons (a_int _) (.cons (a_int _) (.cons (a_int _) .nil))))⟩⟩
theorem all_mk {l : PySem.W.OpenLaw} {w : World} {K : PySem.W.Frag} {h : Heap} {mg : Str → Option Value} {fa : Addr} {f0 : Addr} {od0 an0 : Option Addr} {sl0 : Array (Option Value)} {oc0 kV0 dc0 pm0 cd0 ct0 : Value} {f1 : Addr} {od1 an1 : Option Addr} {sl1 : Array (Option Value)} {oc1 kV1 dc1 pm1 cd1 ct1 : Value} {f2 : Addr} {od2 an2 : Option Addr} {sl2 : Array (Option Value)} {oc2 kV2 dc2 pm2 cd2 ct2 : Value} {f3 : Addr} {od3 an3 : Option Addr} {sl3 : Array (Option Value)} {oc3 kV3 dc3 pm3 cd3 ct3 : Value} {f4 : Addr} {od4 an4 : Option Addr} {sl4 : Array (Option Value)} {oc4 kV4 dc4 pm4 cd4 ct4 : Value} {f5 : Addr} {od5 an5 : Option Addr} {sl5 : Array (Option Value)} {oc5 kV5 dc5 pm5 cd5 ct5 : Value} {f6 : Addr} {od6 an6 : Option Addr} {sl6 : Array (Option Value)} {oc6 kV6 dc6 pm6 cd6 ct6 : Value} {f7 : Addr} {od7 an7 : Option Addr} {sl7 : Array (Option Value)} {oc7 kV7 dc7 pm7 cd7 ct7 : Value} {f8 : Addr} {od8 an8 : Option Addr} {sl8 : Array (Option Value)} {oc8 kV8 dc8 pm8 cd8 ct8 : Value} {f9 : Addr} {od9 an9 : Option Addr} {sl9 : Array (Option Value)} {oc9 kV9 dc9 pm9 cd9 ct9 : Value} {f10 : Addr} {od10 an10 : Option Addr} {sl10 : Array (Option Value)} {oc10 kV10 dc10 pm10 cd10 ct10 : Value} {f11 : Addr} {od11 an11 : Option Addr} {sl11 : Array (Option Value)} {oc11 kV11 dc11 pm11 cd11 ct11 : Value} {f12 : Addr} {od12 an12 : Option Addr} {sl12 : Array (Option Value)} {oc12 kV12 dc12 pm12 cd12 ct12 : Value} {f13 : Addr} {od13 an13 : Option Addr} {sl13 : Array (Option Value)} {oc13 kV13 dc13 pm13 cd13 ct13 : Value} {f14 : Addr} {od14 an14 : Option Addr} {sl14 : Array (Option Value)} {oc14 kV14 dc14 pm14 cd14 ct14 : Value} {t_GREATEST_ADDRESS_0 : Tok} {A_SIGNS : Addr} {dd_SIGNS : Option Addr} {n_SIGNS : Nat} {sl_SIGNS : Array (Option Value)} {t_SIGNS_0 t_SIGNS_1 t_SIGNS_2 : Tok} {A_WORTHS : Addr} {dd_WORTHS : Option Addr} {n_WORTHS : Nat} {sl_WORTHS : Array (Option Value)} {t_WORTHS_0 t_WORTHS_1 t_WORTHS_2 t_WORTHS_3 : Tok} (X : K.In h) (G : h.Ns mainGlobals mg) (hfa : mg "law" = some (.ref fa))
    (a0 : PySem.W.nsIn K mainGlobals "is_whole" = some (some (.ref f0))) (l0 : K.lookup f0 = some ⟨oc0, od0, .func (PySem.W.fnOf "is_whole" "is_whole" (defArgs s_is_whole) (defBody s_is_whole) (defScope s_is_whole) .none kV0 dc0 pm0 an0 cd0 ct0), sl0⟩) (c0 : PySem.W.codeIn K cd0 "is_whole" = true) (k0 : PySem.W.keepIn K (.ref f0) = true)
    (a1 : PySem.W.nsIn K mainGlobals "is_whole_within" = some (some (.ref f1))) (l1 : K.lookup f1 = some ⟨oc1, od1, .func (PySem.W.fnOf "is_whole_within" "is_whole_within" (defArgs s_is_whole_within) (defBody s_is_whole_within) (defScope s_is_whole_within) .none kV1 dc1 pm1 an1 cd1 ct1), sl1⟩) (c1 : PySem.W.codeIn K cd1 "is_whole_within" = true) (k1 : PySem.W.keepIn K (.ref f1) = true)
    (a2 : PySem.W.nsIn K mainGlobals "is_address" = some (some (.ref f2))) (l2 : K.lookup f2 = some ⟨oc2, od2, .func (PySem.W.fnOf "is_address" "is_address" (defArgs s_is_address) (defBody s_is_address) (defScope s_is_address) .none kV2 dc2 pm2 an2 cd2 ct2), sl2⟩) (c2 : PySem.W.codeIn K cd2 "is_address" = true) (k2 : PySem.W.keepIn K (.ref f2) = true)
    (a3 : PySem.W.nsIn K mainGlobals "is_pattern" = some (some (.ref f3))) (l3 : K.lookup f3 = some ⟨oc3, od3, .func (PySem.W.fnOf "is_pattern" "is_pattern" (defArgs s_is_pattern) (defBody s_is_pattern) (defScope s_is_pattern) .none kV3 dc3 pm3 an3 cd3 ct3), sl3⟩) (c3 : PySem.W.codeIn K cd3 "is_pattern" = true) (k3 : PySem.W.keepIn K (.ref f3) = true)
    (a4 : PySem.W.nsIn K mainGlobals "fits" = some (some (.ref f4))) (l4 : K.lookup f4 = some ⟨oc4, od4, .func (PySem.W.fnOf "fits" "fits" (defArgs s_fits) (defBody s_fits) (defScope s_fits) .none kV4 dc4 pm4 an4 cd4 ct4), sl4⟩) (c4 : PySem.W.codeIn K cd4 "fits" = true) (k4 : PySem.W.keepIn K (.ref f4) = true)
    (a5 : PySem.W.nsIn K mainGlobals "addresses" = some (some (.ref f5))) (l5 : K.lookup f5 = some ⟨oc5, od5, .func (PySem.W.fnOf "addresses" "addresses" (defArgs s_addresses) (defBody s_addresses) (defScope s_addresses) .none kV5 dc5 pm5 an5 cd5 ct5), sl5⟩) (c5 : PySem.W.codeIn K cd5 "addresses" = true) (k5 : PySem.W.keepIn K (.ref f5) = true)
    (a6 : PySem.W.nsIn K mainGlobals "_law_mix" = some (some (.ref f6))) (l6 : K.lookup f6 = some ⟨oc6, od6, .func (PySem.W.fnOf "_law_mix" "_law_mix" (defArgs s_law_mix) (defBody s_law_mix) (defScope s_law_mix) .none kV6 dc6 pm6 an6 cd6 ct6), sl6⟩) (c6 : PySem.W.codeIn K cd6 "_law_mix" = true) (k6 : PySem.W.keepIn K (.ref f6) = true)
    (a7 : PySem.W.nsIn K mainGlobals "_law_text" = some (some (.ref f7))) (l7 : K.lookup f7 = some ⟨oc7, od7, .func (PySem.W.fnOf "_law_text" "_law_text" (defArgs s_law_text) (defBody s_law_text) (defScope s_law_text) .none kV7 dc7 pm7 an7 cd7 ct7), sl7⟩) (c7 : PySem.W.codeIn K cd7 "_law_text" = true) (k7 : PySem.W.keepIn K (.ref f7) = true)
    (a8 : PySem.W.nsIn K mainGlobals "_law_spoiled" = some (some (.ref f8))) (l8 : K.lookup f8 = some ⟨oc8, od8, .func (PySem.W.fnOf "_law_spoiled" "_law_spoiled" (defArgs s_law_spoiled) (defBody s_law_spoiled) (defScope s_law_spoiled) .none kV8 dc8 pm8 an8 cd8 ct8), sl8⟩) (c8 : PySem.W.codeIn K cd8 "_law_spoiled" = true) (k8 : PySem.W.keepIn K (.ref f8) = true)
    (a9 : PySem.W.nsIn K mainGlobals "_law_due" = some (some (.ref f9))) (l9 : K.lookup f9 = some ⟨oc9, od9, .func (PySem.W.fnOf "_law_due" "_law_due" (defArgs s_law_due) (defBody s_law_due) (defScope s_law_due) .none kV9 dc9 pm9 an9 cd9 ct9), sl9⟩) (c9 : PySem.W.codeIn K cd9 "_law_due" = true) (k9 : PySem.W.keepIn K (.ref f9) = true)
    (a10 : PySem.W.nsIn K mainGlobals "_law_bits" = some (some (.ref f10))) (l10 : K.lookup f10 = some ⟨oc10, od10, .func (PySem.W.fnOf "_law_bits" "_law_bits" (defArgs s_law_bits) (defBody s_law_bits) (defScope s_law_bits) .none kV10 dc10 pm10 an10 cd10 ct10), sl10⟩) (c10 : PySem.W.codeIn K cd10 "_law_bits" = true) (k10 : PySem.W.keepIn K (.ref f10) = true)
    (a11 : PySem.W.nsIn K mainGlobals "_law_fits" = some (some (.ref f11))) (l11 : K.lookup f11 = some ⟨oc11, od11, .func (PySem.W.fnOf "_law_fits" "_law_fits" (defArgs s_law_fits) (defBody s_law_fits) (defScope s_law_fits) .none kV11 dc11 pm11 an11 cd11 ct11), sl11⟩) (c11 : PySem.W.codeIn K cd11 "_law_fits" = true) (k11 : PySem.W.keepIn K (.ref f11) = true)
    (a12 : PySem.W.nsIn K mainGlobals "_law_truth" = some (some (.ref f12))) (l12 : K.lookup f12 = some ⟨oc12, od12, .func (PySem.W.fnOf "_law_truth" "_law_truth" (defArgs s_law_truth) (defBody s_law_truth) (defScope s_law_truth) .none kV12 dc12 pm12 an12 cd12 ct12), sl12⟩) (c12 : PySem.W.codeIn K cd12 "_law_truth" = true) (k12 : PySem.W.keepIn K (.ref f12) = true)
    (a13 : PySem.W.nsIn K mainGlobals "_law_right" = some (some (.ref f13))) (l13 : K.lookup f13 = some ⟨oc13, od13, .func (PySem.W.fnOf "_law_right" "_law_right" (defArgs s_law_right) (defBody s_law_right) (defScope s_law_right) .none kV13 dc13 pm13 an13 cd13 ct13), sl13⟩) (c13 : PySem.W.codeIn K cd13 "_law_right" = true) (k13 : PySem.W.keepIn K (.ref f13) = true)
    (a14 : PySem.W.nsIn K mainGlobals "law" = some (some (.ref f14))) (l14 : K.lookup f14 = some ⟨oc14, od14, .func (PySem.W.fnOf "law" "law" (defArgs s_law) (defBody s_law) (defScope s_law) .none kV14 dc14 pm14 an14 cd14 ct14), sl14⟩) (c14 : PySem.W.codeIn K cd14 "law" = true) (k14 : PySem.W.keepIn K (.ref f14) = true)
    (z_all : PySem.W.nsIn K mainGlobals "all" = some none)
    (z_bool : PySem.W.nsIn K mainGlobals "bool" = some none)
    (z_enumerate : PySem.W.nsIn K mainGlobals "enumerate" = some none)
    (z_int : PySem.W.nsIn K mainGlobals "int" = some none)
    (z_isinstance : PySem.W.nsIn K mainGlobals "isinstance" = some none)
    (z_len : PySem.W.nsIn K mainGlobals "len" = some none)
    (z_list : PySem.W.nsIn K mainGlobals "list" = some none)
    (z_range : PySem.W.nsIn K mainGlobals "range" = some none)
    (z_str : PySem.W.nsIn K mainGlobals "str" = some none)
    (z_zip : PySem.W.nsIn K mainGlobals "zip" = some none)
    (z_GREATEST_ADDRESS : PySem.W.nsIn K mainGlobals "GREATEST_ADDRESS" = some (some (.int 15 t_GREATEST_ADDRESS_0)))
    (z_SIGNS : PySem.W.nsIn K mainGlobals "SIGNS" = some (some (.ref A_SIGNS))) (y_SIGNS : K.lookup A_SIGNS = some ⟨.type "tuple", dd_SIGNS, .seq #[.str (PySem.Str.ofString "0") t_SIGNS_0, .str (PySem.Str.ofString "1") t_SIGNS_1, .str (PySem.Str.ofString "x") t_SIGNS_2] n_SIGNS, sl_SIGNS⟩)
    (z_WORTHS : PySem.W.nsIn K mainGlobals "WORTHS" = some (some (.ref A_WORTHS))) (y_WORTHS : K.lookup A_WORTHS = some ⟨.type "tuple", dd_WORTHS, .seq #[.int 8 t_WORTHS_0, .int 4 t_WORTHS_1, .int 2 t_WORTHS_2, .int 1 t_WORTHS_3] n_WORTHS, sl_WORTHS⟩) :
    ∃ fd : FuncData, (∀ (s : Shared) (v : Value), BindsTo s fd ⟨[v], []⟩ [("_law_script", v)]) ∧ ∀ base : Heap, K.In base → base.Ns mainGlobals mg → FnOk l.prog w K mg base CX0 7 fa fd ["_law_script"] (sp0 K 1 m_law) := by
  have e := hfa.symm.trans (PySem.W.mg_of X G a14)
  cases e
  have T : Tx K mg := tx_mk X G a0 l0 c0 k0 a1 l1 c1 k1 a2 l2 c2 k2 a3 l3 c3 k3 a4 l4 c4 k4 a5 l5 c5 k5 a6 l6 c6 k6 a7 l7 c7 k7 a8 l8 c8 k8 a9 l9 c9 k9 a10 l10 c10 k10 a11 l11 c11 k11 a12 l12 c12 k12 a13 l13 c13 k13 a14 l14 c14 k14 z_all z_bool z_enumerate z_int z_isinstance z_len z_list z_range z_str z_zip z_GREATEST_ADDRESS z_SIGNS y_SIGNS z_WORTHS y_WORTHS
  refine ⟨PySem.W.fnOf "law" "law" (defArgs s_law) (defBody s_law) (defScope s_law) .none kV14 dc14 pm14 an14 cd14 ct14, fun s v => .of_eq rfl, fun base _ _ => ?_⟩
  have q_is_whole : Kn l.prog w K mg base "is_whole" 1 1 m_is_whole := kn_is_whole T 
  have q_is_whole_within : Kn l.prog w K mg base "is_whole_within" 3 2 m_is_whole_within := kn_is_whole_within T q_is_whole
  have q_is_address : Kn l.prog w K mg base "is_address" 1 3 m_is_address := kn_is_address T q_is_whole_within
  have q_is_pattern : Kn l.prog w K mg base "is_pattern" 1 1 m_is_pattern := kn_is_pattern T 
  have q_fits : Kn l.prog w K mg base "fits" 2 4 m_fits := kn_fits T q_is_address q_is_pattern
  have q_addresses : Kn l.prog w K mg base "addresses" 1 5 m_addresses := kn_addresses T q_fits
  have q_law_mix : Kn l.prog w K mg base "_law_mix" 2 1 m_law_mix := kn_law_mix T 
  have q_law_text : Kn l.prog w K mg base "_law_text" 1 1 m_law_text := kn_law_text T 
  have q_law_spoiled : Kn l.prog w K mg base "_law_spoiled" 2 1 m_law_spoiled := kn_law_spoiled T 
  have q_law_due : Kn l.prog w K mg base "_law_due" 1 1 m_law_due := kn_law_due T 
  have q_law_bits : Kn l.prog w K mg base "_law_bits" 1 1 m_law_bits := kn_law_bits T 
  have q_law_fits : Kn l.prog w K mg base "_law_fits" 2 2 m_law_fits := kn_law_fits T q_law_bits
  have q_law_truth : Kn l.prog w K mg base "_law_truth" 2 1 m_law_truth := kn_law_truth T 
  have q_law_right : Kn l.prog w K mg base "_law_right" 1 6 m_law_right := kn_law_right T q_addresses q_fits q_law_truth q_law_fits
  exact fn_law (fun_mk (st := s_law) l14 c14 k14) T q_law_right q_law_due q_is_pattern q_law_truth q_law_mix q_law_spoiled q_law_text
theorem lawsp (K : PySem.W.Frag) (H : Hp) (a : Addr) (ns : List Int) (hS : SqL K H a (ns.map V.int)) : sp0 K 1 m_law [.ref a] H (fun v _ => v = .bl true) (fun _ _ _ => False) :=
  law_sp (K := K) (mf := m_law) (H := H) (a := a) (ns := ns) hS (law_true ns) (fun _ _ _ => False)
theorem walk {l : PySem.W.OpenLaw} {q : Program} {loose : List Str} {XP : (Str → Option Value) → Heap → Prop} {YP : World → Heap → Prop} {d : DefRec} {K : Params → PySem.W.Frag} (hn : l.most = some 63) (hdf : d.params.defaults = [])
    (hY : ∀ (w : World) (h : Heap), YP w h → (K w.params).In h)
    (F : ∀ (w : World) (mg : Str → Option Value) (fa : Addr) (h : Heap), (K w.params).In h → h.Ns mainGlobals mg → mg d.name = some (.ref fa) →
      ∃ fd : FuncData, (∀ (s : Shared) (u : Value), BindsTo s fd ⟨[u], []⟩ [("_law_script", u)]) ∧ ∀ base : Heap, (K w.params).In base → base.Ns mainGlobals mg → FnOk l.prog w (K w.params) mg base CX0 7 fa fd ["_law_script"] (sp0 (K w.params) 1 m_law)) :
    PySem.W.WalkO q loose XP YP l.row.toRowW d [] (fun f vs => PySem.call f vs) :=
  L2.walk_of (n := 63) (k := 7) (x := "_law_script") (CX := fun _ => CX0) (sp := fun w => sp0 (K w.params) 1 m_law) hn (by decide) hdf ⟨rfl, by decide, by decide⟩ hY F (fun w H a ns _ _ hS => lawsp (K w.params) H a ns hS) fun _ _ _ _ _ z => z
end N1
set_option Elab.async false
set_option linter.all false
set_option maxRecDepth 100000
open PySem PySem.W PyProof.Rows
set_option maxRecDepth 100000 in
set_option maxHeartbeats 0 in
theorem PySem.Challenge.cw_nohalfway_k01_patterns_holds : PySem.Challenge.rw_nohalfway_k01_patterns.Holds := by
  w_on; o_law; k_head; (case hw => w_witness2)
  k_fill
  refine N1.walk (l := PySem.Challenge.rw_nohalfway_k01_patterns) rfl rfl (fun w h Y => PySem.W.kIn_of Y) ?F
  case F =>
    intro w mg fa h KX G hmg
    refine' N1.all_mk KX G hmg ?a0 ?l0 ?c0 ?k0 ?a1 ?l1 ?c1 ?k1 ?a2 ?l2 ?c2 ?k2 ?a3 ?l3 ?c3 ?k3 ?a4 ?l4 ?c4 ?k4 ?a5 ?l5 ?c5 ?k5 ?a6 ?l6 ?c6 ?k6 ?a7 ?l7 ?c7 ?k7 ?a8 ?l8 ?c8 ?k8 ?a9 ?l9 ?c9 ?k9 ?a10 ?l10 ?c10 ?k10 ?a11 ?l11 ?c11 ?k11 ?a12 ?l12 ?c12 ?k12 ?a13 ?l13 ?c13 ?k13 ?a14 ?l14 ?c14 ?k14 ?z_all ?z_bool ?z_enumerate ?z_int ?z_isinstance ?z_len ?z_list ?z_range ?z_str ?z_zip ?z_GREATEST_ADDRESS ?z_SIGNS ?y_SIGNS ?z_WORTHS ?y_WORTHS
    (case a0 => k_is)
    (case l0 => k_is)
    (case c0 => k_is)
    (case k0 => k_is)
    (case a1 => k_is)
    (case l1 => k_is)
    (case c1 => k_is)
    (case k1 => k_is)
    (case a2 => k_is)
    (case l2 => k_is)
    (case c2 => k_is)
    (case k2 => k_is)
    (case a3 => k_is)
    (case l3 => k_is)
    (case c3 => k_is)
    (case k3 => k_is)
    (case a4 => k_is)
    (case l4 => k_is)
    (case c4 => k_is)
    (case k4 => k_is)
    (case a5 => k_is)
    (case l5 => k_is)
    (case c5 => k_is)
    (case k5 => k_is)
    (case a6 => k_is)
    (case l6 => k_is)
    (case c6 => k_is)
    (case k6 => k_is)
    (case a7 => k_is)
    (case l7 => k_is)
    (case c7 => k_is)
    (case k7 => k_is)
    (case a8 => k_is)
    (case l8 => k_is)
    (case c8 => k_is)
    (case k8 => k_is)
    (case a9 => k_is)
    (case l9 => k_is)
    (case c9 => k_is)
    (case k9 => k_is)
    (case a10 => k_is)
    (case l10 => k_is)
    (case c10 => k_is)
    (case k10 => k_is)
    (case a11 => k_is)
    (case l11 => k_is)
    (case c11 => k_is)
    (case k11 => k_is)
    (case a12 => k_is)
    (case l12 => k_is)
    (case c12 => k_is)
    (case k12 => k_is)
    (case a13 => k_is)
    (case l13 => k_is)
    (case c13 => k_is)
    (case k13 => k_is)
    (case a14 => k_is)
    (case l14 => k_is)
    (case c14 => k_is)
    (case k14 => k_is)
    (case z_all => k_is)
    (case z_bool => k_is)
    (case z_enumerate => k_is)
    (case z_int => k_is)
    (case z_isinstance => k_is)
    (case z_len => k_is)
    (case z_list => k_is)
    (case z_range => k_is)
    (case z_str => k_is)
    (case z_zip => k_is)
    (case z_GREATEST_ADDRESS => k_is)
    (case z_SIGNS => k_is)
    (case y_SIGNS => k_is)
    (case z_WORTHS => k_is)
    (case y_WORTHS => k_is)
