import PyProof.Rows.All
import Wide.All
import OpenK.AllK
import Wide.FinOn
import Lean
import PyProof.EqAt
import PyProof.EqKinds
import PyProof.TupleCall
import PySem.Challenge.RW_selfsay_k07_no_saying
set_option Elab.async false
set_option linter.all false
set_option maxRecDepth 100000
set_option Elab.async false
set_option linter.all false
set_option maxRecDepth 100000
/-! THE HAND LAYER, for ints, bools, texts, own classes, LISTS and tuples (index, slices, in, append, pop ..), calls, loops. Paste it whole ahead of your own text; what your proof does not reach may be deleted. -/
namespace L2
open PySem PySem.Spec PyProof.Rows

/-- a key: an int or a str -/
abbrev Key := Sum Int Str
def keyIs : Key → Value → Bool
  | .inl k, v => Value.isInt k v
  | .inr x, v => Value.isStrOf x v
def keyH (w : World) : Key → Int
  | .inl k => hashInt k
  | .inr x => hashStr w x
theorem keyIs_shape : ∀ {k : Key} {v : Value}, keyIs k v = true → (∃ i t, k = Sum.inl i ∧ v = Value.int i t) ∨ (∃ x t, k = Sum.inr x ∧ v = Value.str x t)
  | .inl i, v, h => by
    obtain ⟨t, e⟩ := Value.isInt_shape (k := i) (v := v) h
    exact .inl ⟨i, t, rfl, e⟩
  | .inr x, v, h => by
    obtain ⟨t, e⟩ := Value.isStrOf_shape (x := x) (v := v) h
    exact .inr ⟨x, t, rfl, e⟩
theorem keyIs_int (i : Int) (t : Tok) : keyIs (.inl i) (.int i t) = true := by simp [keyIs, Value.isInt]
theorem keyIs_str (x : Str) (t : Tok) : keyIs (.inr x) (.str x t) = true := by simp [keyIs, Value.isStrOf]
theorem key_ll (a b : Int) : decide ((Sum.inl a : Key) = Sum.inl b) = (a == b) := by
  by_cases e : a = b
  · subst e; simp
  · have h : ¬ (Sum.inl a : Key) = Sum.inl b := fun q => e (Sum.inl.inj q)
    rw [decide_eq_false h]
    exact (beq_eq_false_iff_ne.mpr e).symm
theorem key_rr (a b : Str) : decide ((Sum.inr a : Key) = Sum.inr b) = decide (a = b) := by
  by_cases e : a = b
  · subst e; simp
  · have h : ¬ (Sum.inr a : Key) = Sum.inr b := fun q => e (Sum.inr.inj q)
    rw [decide_eq_false h, decide_eq_false e]
theorem key_lr (a : Int) (b : Str) : decide ((Sum.inl a : Key) = Sum.inr b) = false := decide_eq_false (fun q => nomatch q)
theorem key_rl (a : Str) (b : Int) : decide ((Sum.inr a : Key) = Sum.inl b) = false := decide_eq_false (fun q => nomatch q)

def mixKind (prog : Program) (w : World) : PySem.KeyKind prog w Key where
  is := keyIs
  hash := keyH w
  inj := fun v a b ha hb => by
    rcases keyIs_shape ha with ⟨i, t, rfl, rfl⟩ | ⟨x, t, rfl, rfl⟩
    · rcases keyIs_shape hb with ⟨j, u, rfl, e⟩ | ⟨y, u, rfl, e⟩
      · injection e with e1 _; rw [e1]
      · exact nomatch e
    · rcases keyIs_shape hb with ⟨j, u, rfl, e⟩ | ⟨y, u, rfl, e⟩
      · exact nomatch e
      · injection e with e1 _; rw [e1]
  byValue := fun k v h => by
    rcases keyIs_shape h with ⟨i, t, rfl, rfl⟩ | ⟨x, t, rfl, rfl⟩ <;> rfl
  pyHash := fun hv h => by
    rcases keyIs_shape hv with ⟨i, t, rfl, rfl⟩ | ⟨x, t, rfl, rfl⟩
    · exact wpAny_pyHash_int h
    · exact wpAny_pyHash_str h
  eqBool := fun hu hv h => by
    rcases keyIs_shape hu with ⟨i, t, rfl, rfl⟩ | ⟨x, t, rfl, rfl⟩
    · rcases keyIs_shape hv with ⟨j, u, rfl, rfl⟩ | ⟨y, u, rfl, rfl⟩
      · rw [key_ll] at h; exact wpAny_eqBool_int h
      · rw [key_lr] at h; exact SeqAt.EqAt.int_str i t y u _ _ _ _ h
    · rcases keyIs_shape hv with ⟨j, u, rfl, rfl⟩ | ⟨y, u, rfl, rfl⟩
      · rw [key_rl] at h; exact SeqAt.EqAt.str_int x t j u _ _ _ _ h
      · rw [key_rr] at h; exact wpAny_eqBool_str h
  «strs» := fun k x t v h => by
    rcases keyIs_shape h with ⟨i, u, rfl, e⟩ | ⟨y, u, rfl, e⟩
    · exact nomatch e
    · injection e with e1 _
      subst e1
      cases v <;> rfl

theorem mixKind_is (prog : Program) (w : World) (k : Key) (v : Value) : (mixKind prog w).is k v = keyIs k v := rfl
theorem mixKind_int (prog : Program) (w : World) (i : Int) (t : Tok) : (mixKind prog w).is (.inl i) (.int i t) = true := keyIs_int i t
theorem mixKind_str (prog : Program) (w : World) (x : Str) (t : Tok) : (mixKind prog w).is (.inr x) (.str x t) = true := keyIs_str x t
end L2

namespace L2
open PySem PySem.Spec PyProof.Rows

/-- a value, without the heap -/
inductive V where
  | non | bl (b : Bool) | int (i : Int) | str (x : Str) | byt (b : Array UInt8) | flt (b : UInt64) | ref (a : Addr) | ty (n : String)
  deriving DecidableEq

def RelV : V → Value → Prop
  | .non, u => u = Value.none
  | .bl b, u => u = Value.bool b
  | .int i, u => ∃ t, u = Value.int i t
  | .str x, u => ∃ t, u = Value.str x t
  | .byt b, u => ∃ t, u = Value.bytes b t
  | .flt b, u => ∃ t, u = Value.float b t
  | .ref a, u => u = Value.ref a
  | .ty n, u => u = Value.type n

abbrev Vals : List V → List Value → Prop := Paired RelV
theorem Vals.length {xs : List V} {us : List Value} (r : Vals xs us) : xs.length = us.length := Paired.length r
theorem Vals.get : ∀ {xs : List V} {us : List Value} {i : Nat} {x : V}, Vals xs us → xs[i]? = some x → ∃ u, us[i]? = some u ∧ RelV x u
  | _, _, _, _, .nil, e => by simp at e
  | _, _, 0, _, .cons r _, e => by simp at e; subst e; exact ⟨_, rfl, r⟩
  | _, _, i + 1, x, .cons _ t, e => by
    obtain ⟨u, h1, h2⟩ := Vals.get (i := i) (x := x) t (by simpa using e)
    exact ⟨u, by simpa using h1, h2⟩
theorem Vals.set {x : V} {u : Value} (r : RelV x u) : ∀ {xs : List V} {us : List Value} (i : Nat), Vals xs us → Vals (xs.set i x) (us.set i u)
  | _, _, _, .nil => .nil
  | _, _, 0, .cons _ t => .cons r t
  | _, _, i + 1, .cons q t => .cons q (Vals.set r i t)
theorem Vals.append : ∀ {xs ys : List V} {us ws : List Value}, Vals xs us → Vals ys ws → Vals (xs ++ ys) (us ++ ws)
  | _, _, _, _, .nil, s => s
  | _, _, _, _, .cons r t, s => .cons r (Vals.append t s)
theorem Vals.take : ∀ {xs : List V} {us : List Value} (n : Nat), Vals xs us → Vals (xs.take n) (us.take n)
  | _, _, 0, _ => .nil
  | _, _, _ + 1, .nil => .nil
  | _, _, n + 1, .cons r t => .cons r (Vals.take n t)
theorem Vals.drop : ∀ {xs : List V} {us : List Value} (n : Nat), Vals xs us → Vals (xs.drop n) (us.drop n)
  | _, _, 0, r => r
  | _, _, _ + 1, .nil => .nil
  | _, _, n + 1, .cons _ t => Vals.drop n t
theorem Vals.none_of : ∀ {xs : List V} {us : List Value} {i : Nat}, Vals xs us → xs[i]? = none → us[i]? = none := fun {xs us i} r e => by
  have h1 := r.length
  have h2 : xs.length ≤ i := List.getElem?_eq_none_iff.mp e
  exact List.getElem?_eq_none_iff.mpr (by omega)

def RelO : Option V → Option Value → Prop
  | some v, some u => RelV v u
  | none, none => True
  | _, _ => False
def KV {κ : Type} : List (κ × V) → List (κ × Value) → Prop := Paired fun (p : κ × V) (q : κ × Value) => p.1 = q.1 ∧ RelV p.2 q.2

/-- a key of a dict (00_mix): an int or a text -/
def kV : Key → V
  | .inl i => .int i
  | .inr x => .str x

/-- what stands at a tracked address -/
inductive HO where
  /-- a list -/
  | lst (xs : List V)
  /-- a tuple (never changes) -/
  | tup (xs : List V)
  /-- a dict whose keys are ints and texts; one whose keys are tuples of ints and texts (the empty one is both) -/
  | dK (kvs : List (Key × V)) | dT (kvs : List (List Key × V))
  /-- a set of ints: its members, its size -/
  | set (S : Int → Bool) (n : Nat)
  /-- an instance of the class at C, its dict at dx, its attributes -/
  | ins (C dx : Addr) (fs : List (Str × V))
  /-- the dict of the instance at x -/
  | own (x : Addr)
  /-- the dict of an exception -/
  | xd (fs : List (Str × V))
  /-- a bound method, f of x -/
  | met (f x : Addr)
  /-- a range object lo, lo + 1, .. below hi -/
  | rng (lo hi : Int)
  /-- a thing that is known to the object (the script; a dict while a loop walks it): read, never written while it is so -/
  | frz (o : Obj) (u : HO)
  /-- a code object's table -/
  | tbl (ps : Array Value)
  /-- any other thing, by what is true of its one object (a def of one's own: SetO a S n := HO.ext fun h => ..) -/
  | ext (φ : Heap → Prop)

abbrev Hp := Addr → Option HO
def upd (H : Hp) (a : Addr) (o : HO) : Hp := fun b => if b = a then some o else H b
theorem upd_same {H : Hp} {a : Addr} {o : HO} : upd H a o a = some o := by unfold upd; rw [if_pos rfl]
theorem upd_ne {H : Hp} {a b : Addr} {o : HO} (h : b ≠ a) : upd H a o b = H b := by unfold upd; rw [if_neg h]
theorem upd_upd {H : Hp} {a : Addr} {o u : HO} : upd (upd H a o) a u = upd H a u := by
  funext b; unfold upd; split <;> rfl
/-- two objects of different content stand apart -/
theorem ne_of {H : Hp} {a b : Addr} {o u : HO} (h : H a = some o) (h' : H b = some u) (d : o ≠ u) : a ≠ b := by
  intro e; subst e; rw [h] at h'; exact d (Option.some.inj h')
theorem ne_of_none {H : Hp} {a b : Addr} {o : HO} (h : H a = some o) (h' : H b = none) : a ≠ b := by
  intro e; subst e; rw [h] at h'; cases h'

section
variable (P : Program) (w : World)
def ObjOk (H : Hp) (h : Heap) (a : Addr) : HO → Prop
  | .lst xs => xs.length ≤ sizeLine ∧ ∃ (its : List Value) (n : Nat), Vals xs its ∧ h.get? a = some { cls := .type "list", data := .seq its.toArray n }
  | .tup xs => xs.length ≤ sizeLine ∧ ∃ its : List Value, Vals xs its ∧ IsTup h a its.toArray
  | .dK kvs => kvs.length ≤ sizeLine ∧ (a == sysModules) = false ∧ ∃ vs, KV kvs vs ∧ h.DictOf (mixKind P w) a vs
  | .dT kvs => kvs.length ≤ sizeLine ∧ (a == sysModules) = false ∧ ∃ xs : List (List Key × Addr × Value),
      Paired (fun (p : List Key × V) (q : List Key × Addr × Value) => p.1 = q.1 ∧ H q.2.1 = some (.tup (p.1.map kV)) ∧ RelV p.2 q.2.2) kvs xs ∧
      ∃ o es ep, h.get? a = some o ∧ o.ExactDict ∧ o.data = .dict es ep ∧ es.toList = xs.map (entryOfKey (tupleKind (mixKind P w))) ∧ (xs.map (·.1)).Nodup
  | .set S n => h.SetOf (intKind P w) a S n
  | .ins C dx fs => H dx = some (.own a) ∧ fs.length ≤ 1000 ∧ dx ≠ a ∧ h.get? a = some (PySem.W.instObj C dx) ∧
      ∃ mA, h.Ns1 dx mA ∧ (∀ f, RelO (fs.lookup f) (mA f)) ∧ PySem.Within mA (fs.map (·.1))
  | .own _ => ∃ o, h.get? a = some o
  | .xd fs => ∃ mA, h.Ns1 a mA ∧ ∀ f, RelO (fs.lookup f) (mA f)
  | .rng lo hi => ∃ t u v, h.get? a = some { cls := .type "range", data := .fields #[.int lo t, .int hi u, .int 1 v] }
  | .frz o u => h.get? a = some o ∧ ObjOk H h a u
  | .tbl ps => h.get? a = some { cls := .none, data := .fields ps }
  | .met f x => h.get? a = some (PySem.W.methodObj (.ref f) (.ref x))
  | .ext φ => φ h ∧ (∃ o, h.get? a = some o) ∧ ∀ h1 h2 : Heap, φ h1 → (∀ o, h1.get? a = some o → h2.get? a = some o) → φ h2
/-- the abstract heap is held -/
def HOk (H : Hp) (h : Heap) : Prop := ∀ a o, H a = some o → ObjOk P w H h a o
end

section
variable {P : Program} {w : World} {H H' : Hp} {h h' : Heap} {a : Addr} {o : HO}
theorem ObjOk.lt (x : ObjOk P w H h a o) : a < h.objs.size := by
  cases o with
  | lst xs => obtain ⟨_, _, _, _, e⟩ := x; exact Heap.lt_size e
  | tup xs => obtain ⟨_, _, _, p⟩ := x; exact p.lt
  | dK kvs => obtain ⟨_, _, _, _, o, _, _, e, _⟩ := x; exact Heap.lt_size e
  | dT kvs => obtain ⟨_, _, _, _, o, _, _, e, _⟩ := x; exact Heap.lt_size e
  | set S n => obtain ⟨o, _, _, _, e, _⟩ := x; exact Heap.lt_size e
  | ins C dx fs => obtain ⟨_, _, _, e, _⟩ := x; exact Heap.lt_size e
  | own y => obtain ⟨_, e⟩ := x; exact Heap.lt_size e
  | xd fs => obtain ⟨_, ⟨_, _, _, e, _⟩, _⟩ := x; exact Heap.lt_size e
  | rng lo hi => obtain ⟨_, _, _, e⟩ := x; exact Heap.lt_size e
  | frz ob u => obtain ⟨e, _⟩ := x; exact Heap.lt_size e
  | tbl ps => exact Heap.lt_size (show h.get? a = some _ from x)
  | met f y => exact Heap.lt_size (show h.get? a = some _ from x)
  | ext φ => obtain ⟨_, ⟨_, e⟩, _⟩ := x; exact Heap.lt_size e
theorem Paired.mapP {α β : Type} {F G : α → β → Prop} : ∀ {l₁ : List α} {l₂ : List β}, Paired F l₁ l₂ → (∀ a b, F a b → G a b) → Paired G l₁ l₂
  | _, _, .nil, _ => .nil
  | _, _, .cons r t, f => .cons (f _ _ r) (Paired.mapP t f)
theorem Paired.imp' {α β : Type} {F G : α → β → Prop} (f : ∀ a b, F a b → G a b) {l₁ : List α} {l₂ : List β} (r : Paired F l₁ l₂) : Paired G l₁ l₂ := Paired.mapP r f
/-- what an object's description leans on: its own object, its own dict, the tuples -/
theorem ObjOk.stay (x : ObjOk P w H h a o) (k : ∀ b u, (b = a ∨ H b = some (.own a)) → h.get? b = some u → h'.get? b = some u)
    (ho : ∀ b, H b = some (.own a) → H' b = some (.own a)) (ht : ∀ b xs, H b = some (.tup xs) → H' b = some (.tup xs)) : ObjOk P w H' h' a o := by
  induction o with
  | lst xs => obtain ⟨z, its, n, r, e⟩ := x; exact ⟨z, its, n, r, k _ _ (.inl rfl) e⟩
  | tup xs => obtain ⟨z, its, r, ob, e, c⟩ := x; exact ⟨z, its, r, ob, k _ _ (.inl rfl) e, c⟩
  | dK kvs => obtain ⟨z, y, vs, r, ob, es, ep, e, c⟩ := x; exact ⟨z, y, vs, r, ob, es, ep, k _ _ (.inl rfl) e, c⟩
  | dT kvs =>
    obtain ⟨z, y, xs, r, ob, es, ep, e, c⟩ := x
    exact ⟨z, y, xs, Paired.mapP r fun p q z => ⟨z.1, ht _ _ z.2.1, z.2.2⟩, ob, es, ep, k _ _ (.inl rfl) e, c⟩
  | set S n => obtain ⟨ob, es, ep, t, e, c⟩ := x; exact ⟨ob, es, ep, t, k _ _ (.inl rfl) e, c⟩
  | ins C dx fs =>
    obtain ⟨d, z, ne, e, mA, ⟨od, es, ep, e2, c⟩, r⟩ := x
    exact ⟨ho _ d, z, ne, k _ _ (.inl rfl) e, mA, ⟨od, es, ep, k _ _ (.inr d) e2, c⟩, r⟩
  | own y => obtain ⟨ob, e⟩ := x; exact ⟨ob, k _ _ (.inl rfl) e⟩
  | xd fs => obtain ⟨mA, ⟨od, es, ep, e, c⟩, r⟩ := x; exact ⟨mA, ⟨od, es, ep, k _ _ (.inl rfl) e, c⟩, r⟩
  | rng lo hi => obtain ⟨t, u, v, e⟩ := x; exact ⟨t, u, v, k _ _ (.inl rfl) e⟩
  | frz ob u ih => obtain ⟨e, q⟩ := x; exact ⟨k _ _ (.inl rfl) e, ih q⟩
  | tbl ps =>
    have e : h.get? a = some { cls := .none, data := .fields ps } := x
    show h'.get? a = some { cls := .none, data := .fields ps }
    exact k a _ (.inl rfl) e
  | met f y =>
    have e : h.get? a = some (PySem.W.methodObj (.ref f) (.ref y)) := x
    show h'.get? a = some (PySem.W.methodObj (.ref f) (.ref y))
    exact k a _ (.inl rfl) e
  | ext φ => obtain ⟨p, ⟨o, e⟩, st⟩ := x; exact ⟨st _ _ p fun o q => k _ _ (.inl rfl) q, ⟨o, k _ _ (.inl rfl) e⟩, st⟩
theorem HOk.lt (x : HOk P w H h) (e : H a = some o) : a < h.objs.size := (x a o e).lt
theorem HOk.fresh (x : HOk P w H h) (e : h.objs.size ≤ a) : H a = none := by
  cases q : H a with
  | none => rfl
  | some u => exact absurd (Nat.lt_of_lt_of_le (x.lt q) e) (Nat.lt_irrefl _)
/-- every object of the heap is kept -/
theorem HOk.kept (x : HOk P w H h) (k : ∀ b u, h.get? b = some u → h'.get? b = some u) : HOk P w H h' := fun a o e =>
  (x a o e).stay (fun b u _ q => k b u q) (fun _ q => q) fun _ _ q => q
/-- a new object is laid and tracked -/
theorem HOk.laid (x : HOk P w H h) (k : ∀ b u, h.get? b = some u → h'.get? b = some u) (hp : h.objs.size ≤ a) (new : ObjOk P w (upd H a o) h' a o) : HOk P w (upd H a o) h' := fun b u e => by
  have hn := x.fresh hp
  by_cases hb : b = a
  · subst hb; rw [upd_same] at e; cases e; exact new
  · rw [upd_ne hb] at e
    exact (x b u e).stay (fun c v _ q => k c v q) (fun c q => by rw [upd_ne (ne_of_none q hn)]; exact q) fun c xs q => by rw [upd_ne (ne_of_none q hn)]; exact q
end

/-- what may be read as u: it is u, or a known u -/
def Rd (H : Hp) (a : Addr) (u : HO) : Prop := H a = some u ∨ ∃ o, H a = some (.frz o u)
theorem Rd.of {H : Hp} {a : Addr} {u : HO} (h : H a = some u) : Rd H a u := .inl h
theorem Rd.ok {P : Program} {w : World} {H : Hp} {h : Heap} {a : Addr} {u : HO} (r : Rd H a u) (x : HOk P w H h) : ObjOk P w H h a u := by
  rcases r with r | ⟨o, r⟩
  · exact x a u r
  · obtain ⟨_, q⟩ := x a _ r
    exact q
/-- what may be written -/
def Mut : Option HO → Prop
  | some (.lst _) => True
  | some (.dK _) => True
  | some (.dT _) => True
  | some (.set _ _) => True
  | some (.ins _ _ _) => True
  | some (.ext _) => True
  | _ => False
section
variable {P : Program} {w : World} {H : Hp} {h h' : Heap} {x e : Addr} {o' : HO}
/-- the object at e is changed: x itself, or the dict of the instance x -/
theorem HOk.write (ok : HOk P w H h) (mu : Mut (H x)) (he : e = x ∨ H e = some (.own x)) (k : ∀ b u, b ≠ e → h.get? b = some u → h'.get? b = some u) (heo : ∃ u, h'.get? e = some u)
    (new : ObjOk P w (upd H x o') h' x o') : HOk P w (upd H x o') h' := fun b u q => by
  have nown : ∀ c y, H c = some (.own y) → c ≠ x := fun c y r z => by subst z; rw [r] at mu; exact mu
  have ntup : ∀ c xs, H c = some (.tup xs) → c ≠ x := fun c xs r z => by subst z; rw [r] at mu; exact mu
  by_cases hb : b = x
  · subst hb; rw [upd_same] at q; cases q; exact new
  · rw [upd_ne hb] at q
    by_cases hbe : b = e
    · have q' : H b = some (.own x) := by
        rcases he with z | z
        · exact absurd (hbe.trans z) hb
        · rw [hbe]; exact z
      rw [q] at q'; cases q'
      obtain ⟨v, hv⟩ := heo
      exact ⟨v, by rw [hbe]; exact hv⟩
    · refine (ok b u q).stay (fun c v hc r => k c v ?_ r) (fun c r => by rw [upd_ne (nown c b r)]; exact r) fun c xs r => by rw [upd_ne (ntup c xs r)]; exact r
      rcases hc with rfl | hc
      · exact hbe
      · rintro rfl
        rcases he with z | z
        · exact nown c b hc z
        · rw [hc] at z; cases z; exact hb rfl
end

/-! ### kept unless tracked; of the frames at fs (the callers') the slots may change (an exception that passes writes there); of the records at ex (iterators) nothing is said -/
structure Un (fs ex : List Addr) (H H' : Hp) (h h' : Heap) : Prop where
  keep : ∀ b o, h.get? b = some o → H b = none → b ∉ fs → b ∉ ex → h'.get? b = some o
  slot : ∀ b o, h.get? b = some o → H b = none → b ∈ fs → b ∉ ex → ∃ sl, h'.get? b = some { o with slots := sl }
  free : ∀ b o, h.get? b = some o → H b = none → b ∉ ex → H' b = none
  there : ∀ b o, h.get? b = some o → b ∉ ex → ∃ o', h'.get? b = some o'
  tups : ∀ b xs, H b = some (.tup xs) → H' b = some (.tup xs)
  frzs : ∀ b o u, H b = some (.frz o u) → H' b = some (.frz o u)
  tbls : ∀ b ps, H b = some (.tbl ps) → ∃ more, H' b = some (.tbl (ps ++ more))
section
variable {fs fs' ex ex' : List Addr} {H H1 H2 : Hp} {h h1 h2 h' : Heap} {a x e : Addr} {o : HO}
theorem Un.any (u : Un fs ex H H1 h h1) {b : Addr} {ob : Obj} (q : h.get? b = some ob) (n : H b = none) (hx : b ∉ ex) : ∃ sl, h1.get? b = some { ob with slots := sl } := by
  by_cases hb : b ∈ fs
  · exact u.slot b ob q n hb hx
  · exact ⟨ob.slots, u.keep b ob q n hb hx⟩
theorem Un.trans (a : Un fs ex H H1 h h1) (b : Un fs ex H1 H2 h1 h2) : Un fs ex H H2 h h2 where
  keep := fun c ob q n hc hx => b.keep c ob (a.keep c ob q n hc hx) (a.free c ob q n hx) hc hx
  slot := fun c ob q n hc hx => by
    obtain ⟨sl, e1⟩ := a.slot c ob q n hc hx
    obtain ⟨sl', e2⟩ := b.slot c _ e1 (a.free c ob q n hx) hc hx
    exact ⟨sl', e2⟩
  free := fun c ob q n hx => by
    obtain ⟨o', e1⟩ := a.there c ob q hx
    exact b.free c o' e1 (a.free c ob q n hx) hx
  there := fun c ob q hx => by
    obtain ⟨o', e1⟩ := a.there c ob q hx
    exact b.there c o' e1 hx
  tups := fun c xs q => b.tups c xs (a.tups c xs q)
  frzs := fun c ob xs q => b.frzs c ob xs (a.frzs c ob xs q)
  tbls := fun c ps q => by
    obtain ⟨m1, e1⟩ := a.tbls c ps q
    obtain ⟨m2, e2⟩ := b.tbls c _ e1
    exact ⟨m1 ++ m2, by rw [e2, Array.append_assoc]⟩
theorem Un.kept (k : ∀ b u, h.get? b = some u → h'.get? b = some u) : Un fs ex H H h h' :=
  ⟨fun b ob q _ _ _ => k b ob q, fun b ob q _ _ _ => ⟨ob.slots, k b ob q⟩, fun _ _ _ n _ => n, fun b ob q _ => ⟨ob, k b ob q⟩, fun _ _ q => q, fun _ _ _ q => q, fun _ ps q => ⟨#[], by rw [q]; simp⟩⟩
theorem Un.refl : Un fs ex H H h h := Un.kept fun _ _ q => q
theorem Un.laid (k : ∀ b u, h.get? b = some u → h'.get? b = some u) (hp : h.objs.size ≤ a) (hn : H a = none) : Un fs ex H (upd H a o) h h' where
  keep := fun b u q _ _ _ => k b u q
  slot := fun b u q _ _ _ => ⟨u.slots, k b u q⟩
  free := fun b u q n _ => by rw [upd_ne (Nat.ne_of_lt (Nat.lt_of_lt_of_le (Heap.lt_size q) hp))]; exact n
  there := fun b u q _ => ⟨u, k b u q⟩
  tups := fun b xs q => by rw [upd_ne (ne_of_none q hn)]; exact q
  frzs := fun b u xs q => by rw [upd_ne (ne_of_none q hn)]; exact q
  tbls := fun b ps q => ⟨#[], by rw [upd_ne (ne_of_none q hn), q]; simp⟩
theorem Un.write (mu : Mut (H x)) (he : e = x ∨ H e = some (.own x)) (k : ∀ b u, b ≠ e → h.get? b = some u → h'.get? b = some u) (heo : ∃ u, h'.get? e = some u) : Un fs ex H (upd H x o) h h' := by
  have hx : ∀ b, H b = none → b ≠ x := fun b n z => by subst z; rw [n] at mu; exact mu
  have hb : ∀ b, H b = none → b ≠ e := fun b n z => by
    subst z
    rcases he with r | r
    · exact hx b n r
    · rw [n] at r; cases r
  have hm : ∀ b u, H b = some u → ¬ Mut (some u) → b ≠ x := fun b u q nm z => by subst z; rw [q] at mu; exact nm mu
  refine ⟨fun b u q n _ _ => k b u (hb b n) q, fun b u q n _ _ => ⟨u.slots, k b u (hb b n) q⟩, fun b u q n _ => by rw [upd_ne (hx b n)]; exact n, fun b u q _ => ?_,
    fun b xs q => by rw [upd_ne (hm b _ q fun z => z)]; exact q, fun b u xs q => by rw [upd_ne (hm b _ q fun z => z)]; exact q, fun b ps q => ⟨#[], by rw [upd_ne (hm b _ q fun z => z), q]; simp⟩⟩
  by_cases hbe : b = e
  · subst hbe; exact heo
  · exact ⟨u, k b u hbe q⟩
theorem Un.mono (u : Un fs ex H H1 h h1) (hs : ∀ b ∈ fs, b ∈ fs') (hx : ∀ b ∈ ex, b ∈ ex') : Un fs' ex' H H1 h h1 :=
  ⟨fun b ob q n hb he => u.keep b ob q n (fun z => hb (hs b z)) fun z => he (hx b z), fun _ _ q n _ he => u.any q n fun z => he (hx _ z), fun b ob q n he => u.free b ob q n fun z => he (hx b z), fun b ob q he => u.there b ob q fun z => he (hx b z), u.tups, u.frzs, u.tbls⟩
end

/-! ### the heap without what is tracked -/
def trk (h : Heap) (H : Hp) : List Addr := (List.range h.objs.size).filter fun a => (H a).isSome
def hidT (h : Heap) (H : Hp) : Heap := PySem.W.hideAll h (trk h H)
theorem hidT_size (h : Heap) (H : Hp) : (hidT h H).objs.size = h.objs.size := PySem.W.hideAll_size _ _
theorem hidT_get {h : Heap} {H : Hp} {b : Addr} {o : Obj} (e : h.get? b = some o) (n : H b = none) : (hidT h H).get? b = some o :=
  PySem.W.hideAll_get _ e fun hm => by
    have q : (H b).isSome = true := (List.mem_filter.mp hm).2
    rw [n] at q; simp at q
theorem of_hidT {h : Heap} {H : Hp} {b : Addr} {o : Obj} (e : (hidT h H).get? b = some o) : h.get? b = some o ∧ H b = none := by
  have e' : h.get? b = some o := PySem.W.of_hideAll (trk h H) e
  refine ⟨e', ?_⟩
  cases q : H b with
  | none => rfl
  | some x =>
    have hm : b ∈ trk h H := List.mem_filter.mpr ⟨List.mem_range.mpr (Heap.lt_size e'), by simp [q]⟩
    have z : (hidT h H).get? b = none := PySem.W.hideAll_none (trk h H) hm
    rw [z] at e; cases e

/-! ### OpenK's ledger, filled with every new object but one -/
def allNews (g h : Heap) (L : Addr) : List (Addr × Obj) := (List.range h.objs.size).filterMap fun a => if a = L ∨ (g.get? a).isSome = true then none else (h.get? a).map fun o => (a, o)
theorem mem_allNews {g h : Heap} {L a : Addr} {o : Obj} (h1 : a ≠ L) (h2 : g.get? a = none) (h3 : h.get? a = some o) : (a, o) ∈ allNews g h L :=
  List.mem_filterMap.mpr ⟨a, List.mem_range.mpr (Heap.lt_size h3), by simp [h1, h2, h3]⟩
theorem of_mem_allNews {g h : Heap} {L : Addr} {p : Addr × Obj} (hp : p ∈ allNews g h L) : p.1 ≠ L ∧ g.get? p.1 = none ∧ h.get? p.1 = some p.2 := by
  obtain ⟨b, _, e⟩ := List.mem_filterMap.mp hp
  split at e
  · cases e
  · rename_i hn
    cases q : h.get? b with
    | none => rw [q] at e; simp at e
    | some u =>
      rw [q] at e
      simp only [Option.map_some, Option.some.injEq] at e
      subst e
      refine ⟨fun z => hn (.inl z), ?_, q⟩
      show g.get? b = none
      cases r : g.get? b with
      | none => rfl
      | some v => exact (hn (.inr (by simp [r]))).elim
def rest (g h : Heap) (L d : Addr) : List (Addr × Obj) := (allNews g h L).filter fun p => decide (p.1 ≠ d)
theorem rest_ne {g h : Heap} {L d : Addr} : ∀ p ∈ rest g h L d, p.1 ≠ d := fun p hp => of_decide_eq_true (List.mem_filter.mp hp).2
theorem mem_rest {g h : Heap} {L d a : Addr} {o : Obj} (h1 : a ≠ L) (h2 : g.get? a = none) (h3 : h.get? a = some o) (h4 : a ≠ d) : (a, o) ∈ rest g h L d :=
  List.mem_filter.mpr ⟨mem_allNews h1 h2 h3, decide_eq_true h4⟩
theorem news_all {g h : Heap} {L : Addr} : News g L h (allNews g h L) := fun p hp => let ⟨a, b, c⟩ := of_mem_allNews hp; ⟨c, a, b⟩
theorem news_at {g h : Heap} {L d : Addr} {o : Obj} (h1 : d ≠ L) (h2 : g.get? d = none) (h3 : h.get? d = some o) : News g L h ((d, o) :: rest g h L d) := fun p hp => by
  rcases List.mem_cons.mp hp with rfl | hp
  · exact ⟨h3, h1, h2⟩
  · exact news_all p (List.mem_filter.mp hp).1
/-- behind a rule that changed d alone: all else but the frame is kept -/
theorem kept_of_news {g h h' : Heap} {L d : Addr} {m : Str → Option Value} (k : ∀ b o, g.get? b = some o → h.get? b = some o) (F : Fr g L h' m) (N : News g L h' (rest g h L d)) :
    ∀ b o, b ≠ L → b ≠ d → h.get? b = some o → h'.get? b = some o := fun b o h1 h2 e => by
  cases q : g.get? b with
  | some u =>
    have := k b u q
    rw [e] at this; cases this
    exact F.keep b _ q
  | none => exact (N (b, o) (mem_rest h1 q e h2)).1
end L2

namespace L2
open PySem PySem.Spec PyProof.Rows

/-- the module's facts, over the base: the heap at the law's entry without what is tracked there -/
structure Mod (K : PySem.W.Frag) (mg : Str → Option Value) (base : Heap) : Prop where
  kin : K.In base
  glob : base.Ns mainGlobals mg
  blt : ∃ mb, base.Ns builtinsNs mb ∧ ∀ x : Str, x ≠ "__name__" → mb x = bootBuiltins x
  nolimit : base.NoLimit

/-- the context: a def's body (or a comprehension's block) running. base: fixed through the whole law; s₀, H₀: the entry; outer: the frames whose slots others may change (a def's callers); stack: all frames that run;
   ex: iterators that were made ahead of the entry and are walked here (a comprehension's); fn: the names whose cells were made at the entry (a def: all; a comprehension's block: its own); calm: not within an except suite; pn: pins that every state bears; xe: what is wanted of an exception that leaves the code -/
structure Cx where
  prog : Program
  w : World
  K : PySem.W.Frag
  mg : Str → Option Value
  base : Heap
  A : Around
  N : List Str
  s₀ : Shared
  H₀ : Hp
  env : Env
  outer : List Env
  stack : List Env
  ex : List Addr
  fn : Str → Bool
  calm : Bool
  pn : List (Addr × Obj)
  xe : Value → Shared → Prop
/-- the callers' frames -/
def frs (l : List Env) : List Addr := l.filterMap (·.frame)
abbrev Cx.fs (X : Cx) : List Addr := frs X.outer

def Vis (sc : Scope) (x : Str) : Prop := sc.names.lookup x = some .local ∨ sc.names.lookup x = some .cell ∨ sc.names.lookup x = some .free
def Loc (sc : Scope) (x : Str) : Prop := sc.names.lookup x = some .local ∨ sc.names.lookup x = some .cell
def Look (env : Env) (h : Heap) (m : Str → Option Value) (x : Str) (u : Value) : Prop :=
  (env.kindOf x = some .local ∧ m x = some u) ∨ ((env.kindOf x = some .cell ∨ env.kindOf x = some .free) ∧ ∃ c, env.cells.lookup x = some c ∧ h.IsCell c (some u))

structure Cx.Ok (X : Cx) : Prop where
  mod : Mod X.K X.mg X.base
  kind : X.env.scope.kind = .function
  glob : X.env.globals = mainGlobals
  blt : X.env.builtins = builtinsNs
  above : X.s₀.heap.objs.size ≤ X.env.locals
  inj : ∀ x y c, X.env.cells.lookup x = some c → X.env.cells.lookup y = some c → x = y
  has : ∀ x, (X.env.kindOf x = some .cell ∨ X.env.kindOf x = some .free) → ∃ c, X.env.cells.lookup x = some c
  cab : ∀ x c, X.fn x = true → X.env.cells.lookup x = some c → X.s₀.heap.objs.size ≤ c
  hd : X.calm = true → X.A.handled = none
  frames : X.A.frames = some X.stack
  stk : X.stack = X.outer ∨ (X.stack = X.env :: X.outer ∧ X.env.frame = some X.env.locals)
  exf : ∀ b ∈ X.ex, b ≠ X.env.locals ∧ ∀ x c, X.env.cells.lookup x = some c → c ≠ b
  bs : ∀ b o, X.base.get? b = some o → X.s₀.heap.get? b = some o ∧ X.H₀ b = none
  bsz : X.base.objs.size ≤ X.s₀.heap.objs.size
  noex : ∀ b o, X.base.get? b = some o → b ∉ X.ex
  exfs : ∀ b ∈ X.ex, b ∉ X.fs
  funs : X.s₀.heap.FunFrames X.base X.outer
  frf : ∀ b ∈ X.fs, X.H₀ b = none

structure Inv (X : Cx) (pins : List (Addr × Obj)) (σ : List (Option V)) (H : Hp) (s : Shared) : Prop where
  ok : X.Ok
  os : s.os = X.s₀.os
  bare : AllBare s.gens
  base : Un X.fs X.ex X.H₀ H X.s₀.heap s.heap
  loc : ∃ m, s.heap.Ns X.env.locals m ∧ ∀ (i : Nat) (x : Str) (v : V), X.N[i]? = some x → σ[i]? = some (some v) → Vis X.env.scope x → ∃ u, RelV v u ∧ Look X.env s.heap m x u
  cell : ∀ x c, X.env.cells.lookup x = some c → ∃ v, s.heap.IsCell c v
  free : H X.env.locals = none
  freeC : ∀ x c, X.env.cells.lookup x = some c → H c = none
  pin : ∀ p ∈ X.pn ++ pins, s.heap.get? p.1 = some p.2 ∧ H p.1 = none ∧ p.1 ≠ X.env.locals ∧ p.1 ∉ X.fs ∧ ∀ v, p.2.data ≠ .cell v
  hok : HOk X.prog X.w H s.heap
  len : σ.length = X.N.length

section
variable {X : Cx} {pins : List (Addr × Obj)} {σ : List (Option V)} {H H' : Hp} {s : Shared} {h' : Heap}

theorem Cx.Ok.nofr (ok : X.Ok) {b : Addr} {o : Obj} (e : X.base.get? b = some o) : b ∉ X.fs := fun hb => by
  have := (ok.funs.mem hb).1
  rw [e] at this; cases this
theorem Inv.bs (I : Inv X pins σ H s) : ∀ b o, X.base.get? b = some o → s.heap.get? b = some o ∧ H b = none := fun b o e =>
  ⟨I.base.keep b o (I.ok.bs b o e).1 (I.ok.bs b o e).2 (I.ok.nofr e) (I.ok.noex b o e), I.base.free b o (I.ok.bs b o e).1 (I.ok.bs b o e).2 (I.ok.noex b o e)⟩
theorem Inv.bk (I : Inv X pins σ H s) : ∀ b o, X.base.get? b = some o → s.heap.get? b = some o := fun b o e => (I.bs b o e).1
theorem Inv.mod (I : Inv X pins σ H s) : Mod X.K X.mg X.base := I.ok.mod
theorem Inv.kIn (I : Inv X pins σ H s) : X.K.In s.heap := I.ok.mod.kin.keeps I.bk
theorem Inv.nolimit (I : Inv X pins σ H s) : s.heap.NoLimit := I.ok.mod.nolimit.keeps I.bk
/-- the frame over the base: for OpenK's rules (K.In X.base is I.mod.kin) -/
theorem Inv.fr (I : Inv X pins σ H s) : ∃ m, Fr X.base X.env.locals s.heap m :=
  let ⟨m, hn, _⟩ := I.loc
  ⟨m, hn, I.bk, Nat.le_trans I.ok.bsz I.ok.above⟩
theorem Inv.lt (I : Inv X pins σ H s) : X.env.locals < s.heap.objs.size := let ⟨_, hn, _⟩ := I.loc; hn.lt
theorem Inv.sz (I : Inv X pins σ H s) : X.s₀.heap.objs.size ≤ s.heap.objs.size := Nat.le_trans I.ok.above (Nat.le_of_lt I.lt)
theorem Inv.nofs (I : Inv X pins σ H s) {a : Addr} (h : s.heap.objs.size ≤ a) : a ∉ X.fs := fun hb => by
  obtain ⟨_, o, ho, _⟩ := I.ok.funs.mem hb
  exact absurd (Nat.lt_of_lt_of_le (Heap.lt_size ho) (Nat.le_trans I.sz h)) (Nat.lt_irrefl _)
theorem Inv.cne (I : Inv X pins σ H s) : ∀ x c, X.env.cells.lookup x = some c → c ≠ X.env.locals := fun x c e z => by
  obtain ⟨v, o, ho, hd⟩ := I.cell x c e
  obtain ⟨m, ⟨o', es, ep, ho', hd', _⟩, _⟩ := I.loc
  rw [z, ho'] at ho; cases ho; rw [hd'] at hd; cases hd
theorem Inv.funs (I : Inv X pins σ H s) : s.heap.FunFrames X.base X.outer := by
  have all : ∀ (l : List Env), (∀ b ∈ frs l, b ∈ X.fs) → X.s₀.heap.FunFrames X.base l → s.heap.FunFrames X.base l := by
    intro l
    induction l with
    | nil => intro _ _; trivial
    | cons env r ih =>
      intro hs hl
      obtain ⟨hk, ⟨L, o, hf, hn, ho, hd⟩, hr⟩ := hl
      have hL : L ∈ X.fs := hs L (by unfold frs; rw [List.filterMap_cons, hf]; exact List.mem_cons_self)
      obtain ⟨sl, e⟩ := I.base.slot L o ho (I.ok.frf L hL) hL fun z => I.ok.exfs L z hL
      exact ⟨hk, ⟨L, _, hf, hn, e, hd⟩, ih (fun b hb => hs b (by unfold frs; rw [List.filterMap_cons, hf]; exact List.mem_cons_of_mem _ hb)) hr⟩
  exact all X.outer (fun _ hb => hb) I.ok.funs

/-- the frames that run, for a call -/
theorem Inv.stack (I : Inv X pins σ H s) : s.heap.FunFrames X.base X.stack := by
  rcases I.ok.stk with e | ⟨e, hf⟩
  · rw [e]; exact I.funs
  · rw [e]
    obtain ⟨m, hn, _⟩ := I.loc
    refine .cons (by rw [I.ok.kind]; decide) hf hn ?_ I.funs
    exact Heap.get?_none_of_le (Nat.le_trans I.ok.bsz I.ok.above)
theorem Inv.stkSub (I : Inv X pins σ H s) : ∀ b ∈ frs X.stack, b ∈ X.env.locals :: X.fs := fun b hb => by
  rcases I.ok.stk with e | ⟨e, hf⟩
  · rw [e] at hb; exact List.mem_cons_of_mem _ hb
  · rw [e] at hb
    unfold frs at hb
    rw [List.filterMap_cons, hf] at hb
    exact hb
theorem Inv.stkFree (I : Inv X pins σ H s) : ∀ b ∈ frs X.stack, H b = none := fun b hb => by
  rcases List.mem_cons.mp (I.stkSub b hb) with e | hb
  · rw [e]; exact I.free
  · obtain ⟨_, o, ho, _⟩ := I.ok.funs.mem hb
    exact I.base.free b o ho (I.ok.frf b hb) fun z => I.ok.exfs b z hb

/-- THE STEP: the untracked objects but the frame and the records at ch are kept (the callers' frames up to slots), the frame's map is kept, the new abstract heap is held -/
theorem Inv.step {g' : Array GenState} {t' : Nat} {d' : Drawn} {ch : List Addr} (I : Inv X pins σ H s)
    (hch : ∀ b ∈ ch, (b ∈ X.ex ∨ X.s₀.heap.objs.size ≤ b) ∧ b ≠ X.env.locals ∧ (∀ x c, X.env.cells.lookup x = some c → c ≠ b) ∧ ∀ p ∈ X.pn ++ pins, p.1 ≠ b)
    (keep : ∀ b o, b ≠ X.env.locals → b ∉ X.fs → b ∉ ch → s.heap.get? b = some o → H b = none → h'.get? b = some o)
    (slot : ∀ b o, b ≠ X.env.locals → b ∈ X.fs → b ∉ ch → s.heap.get? b = some o → H b = none → ∃ sl, h'.get? b = some { o with slots := sl }) (free : ∀ b o, b ∉ ch → s.heap.get? b = some o → H b = none → H' b = none)
    (there : ∀ b o, b ∉ ch → s.heap.get? b = some o → ∃ o', h'.get? b = some o')
    (tups : ∀ b xs, H b = some (.tup xs) → H' b = some (.tup xs)) (frzs : ∀ b o u, H b = some (.frz o u) → H' b = some (.frz o u)) (tbls : ∀ b ps, H b = some (.tbl ps) → ∃ more, H' b = some (.tbl (ps ++ more)))
    (ns : ∀ m, s.heap.Ns X.env.locals m → h'.Ns X.env.locals m) (hok : HOk X.prog X.w H' h') (hg : AllBare g') :
    Inv X pins σ H' { s with heap := h', gens := g', drawn := d', toks := t' } := by
  have neL : ∀ b o, X.s₀.heap.get? b = some o → b ≠ X.env.locals := fun b o e => Nat.ne_of_lt (Nat.lt_of_lt_of_le (Heap.lt_size e) I.ok.above)
  have neC : ∀ b o, X.s₀.heap.get? b = some o → b ∉ X.ex → b ∉ ch := fun b o e hx hb => by
    rcases (hch b hb).1 with z | z
    · exact hx z
    · exact absurd (Nat.lt_of_lt_of_le (Heap.lt_size e) z) (Nat.lt_irrefl _)
  have cellK : ∀ x c, X.env.cells.lookup x = some c → ∀ v, s.heap.IsCell c v → h'.IsCell c v := fun x c e v ⟨o, ho, hd⟩ => by
    have nch : c ∉ ch := fun z => (hch c z).2.2.1 x c e rfl
    by_cases hc : c ∈ X.fs
    · obtain ⟨sl, q⟩ := slot c o (I.cne x c e) hc nch ho (I.freeC x c e)
      exact ⟨_, q, hd⟩
    · exact ⟨o, keep c o (I.cne x c e) hc nch ho (I.freeC x c e), hd⟩
  refine ⟨I.ok, I.os, hg, ⟨fun b o e n hb hx => ?_, fun b o e n hb hx => ?_, fun b o e n hx => ?_, fun b o e hx => ?_, fun b xs e => tups b xs (I.base.tups b xs e), fun b o xs e => frzs b o xs (I.base.frzs b o xs e), fun b ps e => ?_⟩, ?_, fun x c e => ?_, ?_, fun x c e => ?_, fun p hp => ?_, hok, I.len⟩
  · exact keep b o (neL b o e) hb (neC b o e hx) (I.base.keep b o e n hb hx) (I.base.free b o e n hx)
  · obtain ⟨sl, e1⟩ := I.base.slot b o e n hb hx
    obtain ⟨sl', e2⟩ := slot b _ (neL b o e) hb (neC b o e hx) e1 (I.base.free b o e n hx)
    exact ⟨sl', e2⟩
  · obtain ⟨o', e1⟩ := I.base.there b o e hx
    exact free b o' (neC b o e hx) e1 (I.base.free b o e n hx)
  · obtain ⟨o', e1⟩ := I.base.there b o e hx
    exact there b o' (neC b o e hx) e1
  · obtain ⟨m1, e1⟩ := I.base.tbls b ps e
    obtain ⟨m2, e2⟩ := tbls b _ e1
    exact ⟨m1 ++ m2, by rw [e2, Array.append_assoc]⟩
  · obtain ⟨m, hn, hl⟩ := I.loc
    refine ⟨m, ns m hn, fun i x v e1 e2 e3 => ?_⟩
    obtain ⟨u, r, l⟩ := hl i x v e1 e2 e3
    refine ⟨u, r, ?_⟩
    rcases l with l | ⟨k, c, e, z⟩
    · exact .inl l
    · exact .inr ⟨k, c, e, cellK x c e _ z⟩
  · obtain ⟨v, z⟩ := I.cell x c e
    exact ⟨v, cellK x c e v z⟩
  · obtain ⟨m, ⟨o, _, _, ho, _⟩, _⟩ := I.loc
    exact free _ o (fun z => (hch _ z).2.1 rfl) ho I.free
  · obtain ⟨v, o, ho, hd⟩ := I.cell x c e
    exact free c o (fun z => (hch c z).2.2.1 x c e rfl) ho (I.freeC x c e)
  · obtain ⟨e, n, ne, nf, d⟩ := I.pin p hp
    have nch : p.1 ∉ ch := fun z => (hch p.1 z).2.2.2 p hp rfl
    exact ⟨keep p.1 p.2 ne nf nch e n, free p.1 p.2 nch e n, ne, nf, d⟩
/-- .. where the frame's own object is kept too -/
theorem Inv.un {t' : Nat} (I : Inv X pins σ H s) (u : Un X.fs [] H H' s.heap h') (hok : HOk X.prog X.w H' h') : Inv X pins σ H' { s with heap := h', toks := t' } := by
  obtain ⟨m, ⟨o, es, ep, ho, r⟩, _⟩ := id I.loc
  obtain ⟨sl, hL⟩ := u.any ho I.free (by simp)
  exact I.step (g' := s.gens) (d' := s.drawn) (ch := []) (fun _ z => nomatch z) (fun b o _ hb _ e n => u.keep b o e n hb (by simp)) (fun b o _ hb _ e n => u.slot b o e n hb (by simp)) (fun b o _ e n => u.free b o e n (by simp)) (fun b o _ e => u.there b o e (by simp)) u.tups u.frzs u.tbls (fun m' hm => by
    obtain ⟨o', es', ep', ho', r'⟩ := hm
    rw [ho] at ho'; cases ho'
    exact ⟨_, es', ep', hL, r'⟩) hok I.bare
/-- behind a call (or a comprehension's block): the slots of this frame may have changed too, the records at ch may have turned -/
theorem Inv.call {g' : Array GenState} {t' : Nat} {d' : Drawn} {ch : List Addr} (I : Inv X pins σ H s) (u : Un (frs X.stack) ch H H' s.heap h') (hok : HOk X.prog X.w H' h') (hg : AllBare g')
    (hch : ∀ b ∈ ch, (b ∈ X.ex ∨ X.s₀.heap.objs.size ≤ b) ∧ b ≠ X.env.locals ∧ (∀ x c, X.env.cells.lookup x = some c → c ≠ b) ∧ ∀ p ∈ X.pn ++ pins, p.1 ≠ b) :
    Inv X pins σ H' { s with heap := h', gens := g', drawn := d', toks := t' } := by
  obtain ⟨m, ⟨o, es, ep, ho, r⟩, _⟩ := id I.loc
  obtain ⟨sl, hL⟩ := u.any ho I.free fun z => (hch _ z).2.1 rfl
  exact I.step (ch := ch) hch (fun b o hL hb hc e n => u.keep b o e n (fun z => (List.mem_cons.mp (I.stkSub b z)).elim hL hb) hc) (fun b o _ _ hc e n => u.any e n hc) (fun b o hc e n => u.free b o e n hc) (fun b o hc e => u.there b o e hc) u.tups u.frzs u.tbls (fun m' hm => by
    obtain ⟨o', es', ep', ho', r'⟩ := hm
    rw [ho] at ho'; cases ho'
    exact ⟨_, es', ep', hL, r'⟩) hok hg
/-- an untracked record of ours (an iterator) has turned -/
theorem Inv.turned {t' : Nat} {it : Addr} (I : Inv X pins σ H s) (k : ∀ b o, b ≠ it → s.heap.get? b = some o → h'.get? b = some o) (hn : H it = none) (hL : it ≠ X.env.locals)
    (h1 : it ∈ X.ex ∨ X.s₀.heap.objs.size ≤ it) (h2 : ∀ x c, X.env.cells.lookup x = some c → c ≠ it) (h3 : ∀ p ∈ X.pn ++ pins, p.1 ≠ it) : Inv X pins σ H { s with heap := h', toks := t' } := by
  have nit : ∀ b u, H b = some u → b ≠ it := fun b u e z => by rw [z, hn] at e; cases e
  refine I.step (g' := s.gens) (d' := s.drawn) (ch := [it]) (fun b hb => ?_) (fun b o _ _ hc e _ => k b o (fun z => hc (by simp [z])) e) (fun b o _ _ hc e _ => ⟨o.slots, k b o (fun z => hc (by simp [z])) e⟩) (fun _ _ _ _ n => n)
    (fun b o hc e => ⟨o, k b o (fun z => hc (by simp [z])) e⟩) (fun _ _ e => e) (fun _ _ _ e => e) (fun b ps e => ⟨#[], by rw [e]; simp⟩) (fun m hm => ?_) (fun b u e => ?_) I.bare
  · have e : b = it := by simpa using hb
    subst e
    exact ⟨h1, hL, h2, h3⟩
  · obtain ⟨o, es, ep, ho, r⟩ := hm
    exact ⟨o, es, ep, k _ o (Ne.symm hL) ho, r⟩
  · refine (I.hok b u e).stay (fun c v hc q => k c v ?_ q) (fun _ q => q) fun _ _ q => q
    rcases hc with z | z
    · rw [z]; exact nit b u e
    · exact nit c _ z
theorem Inv.tok (I : Inv X pins σ H s) (t : Nat) : Inv X pins σ H { s with toks := t } := I.un (h' := s.heap) (t' := t) Un.refl I.hok
/-- all objects kept -/
theorem Inv.kept {t' : Nat} (I : Inv X pins σ H s) (k : ∀ b u, s.heap.get? b = some u → h'.get? b = some u) : Inv X pins σ H { s with heap := h', toks := t' } := I.un (Un.kept k) (I.hok.kept k)
/-- a new object laid and tracked -/
theorem Inv.laid {a : Addr} {o : HO} {t' : Nat} (I : Inv X pins σ H s) (k : ∀ b u, s.heap.get? b = some u → h'.get? b = some u) (hp : s.heap.objs.size ≤ a) (new : ObjOk X.prog X.w (upd H a o) h' a o) :
    Inv X pins σ (upd H a o) { s with heap := h', toks := t' } := I.un (Un.laid k hp (I.hok.fresh hp)) (I.hok.laid k hp new)
/-- an object written -/
theorem Inv.write {x e : Addr} {o : HO} {t' : Nat} (I : Inv X pins σ H s) (mu : Mut (H x)) (he : e = x ∨ H e = some (.own x)) (k : ∀ b u, b ≠ e → s.heap.get? b = some u → h'.get? b = some u) (heo : ∃ u, h'.get? e = some u)
    (new : ObjOk X.prog X.w (upd H x o) h' x o) : Inv X pins σ (upd H x o) { s with heap := h', toks := t' } := I.un (Un.write mu he k heo) (I.hok.write mu he k heo new)
/-- forgetting slots, pins -/
theorem Inv.weak {σ' : List (Option V)} (I : Inv X pins σ H s) (hl : σ'.length = σ.length) (w : ∀ (i : Nat) v, σ'[i]? = some (some v) → σ[i]? = some (some v)) : Inv X pins σ' H s :=
  ⟨I.ok, I.os, I.bare, I.base, let ⟨m, hn, hl'⟩ := I.loc; ⟨m, hn, fun i x v e1 e2 e3 => hl' i x v e1 (w i v e2) e3⟩, I.cell, I.free, I.freeC, I.pin, I.hok, hl.trans I.len⟩
theorem Inv.pins_of {pins' : List (Addr × Obj)} (I : Inv X pins σ H s) (h : ∀ p ∈ pins', s.heap.get? p.1 = some p.2 ∧ H p.1 = none ∧ p.1 ≠ X.env.locals ∧ p.1 ∉ X.fs ∧ ∀ v, p.2.data ≠ .cell v) : Inv X pins' σ H s :=
  ⟨I.ok, I.os, I.bare, I.base, I.loc, I.cell, I.free, I.freeC, fun p hp => (List.mem_append.mp hp).elim (fun z => I.pin p (List.mem_append_left _ z)) (h p), I.hok, I.len⟩

theorem nodup_ix {N : List Str} (hN : N.Nodup) {i j : Nat} {x : Str} (a : N[i]? = some x) (b : N[j]? = some x) : i = j := by
  obtain ⟨h1, e1⟩ := List.getElem?_eq_some_iff.mp a
  obtain ⟨h2, e2⟩ := List.getElem?_eq_some_iff.mp b
  exact (List.getElem_inj hN).mp (e1.trans e2.symm)

/-- a name is stored; what changed -/
theorem store_ok2 {M : Model} {A : Around} {E : Value → Shared → Prop} {i : Nat} {x : Str} {v : V} {u : Value} {Q : Unit → Shared → Prop} (I : Inv X pins σ H s) (hN : X.N.Nodup) (hi : X.N[i]? = some x) (hx : Loc X.env.scope x) (r : RelV v u)
    (h : ∀ s', Inv X pins (σ.set i (some v)) H s' → (∃ a, Heap.SameBut a s.heap s'.heap ∧ (a = X.env.locals ∨ X.env.cells.lookup x = some a)) → Q () s') (hf : X.fn x = true ∨ X.env.scope.names.lookup x = some .local := by first | exact .inl rfl | exact .inr rfl | assumption) : wpAny M A (storeName X.env x u) Q E s := by
  obtain ⟨m, hn, hl⟩ := id I.loc
  have hcls : (X.env.scope.kind == .class || (X.env.scope.kind == .module && X.env.locals != X.env.globals)) = false := by rw [I.ok.kind]; rfl
  have hiσ : i < σ.length := by rw [I.len]; exact (List.getElem?_eq_some_iff.mp hi).1
  have cne := I.cne
  have tracked : ∀ {a : Addr} {h' : Heap}, (∃ o, s.heap.get? a = some o ∧ H a = none) → Heap.SameBut a s.heap h' → HOk X.prog X.w H h' := fun {a h'} ha hs b ob e => by
    obtain ⟨_, _, hfree⟩ := ha
    refine (I.hok b ob e).stay (fun c w' hc q => (hs.2 c ?_).trans q) (fun _ q => q) fun _ _ q => q
    rintro rfl
    rcases hc with rfl | hc
    · rw [hfree] at e; cases e
    · rw [hfree] at hc; cases hc
  rcases hx with hk | hk
  · refine wpAny_storeName_local hk hn (fun h' hn' hs => ?_) hcls
    obtain ⟨oL, _, _, hoL, _⟩ := id hn
    refine h _ ⟨I.ok, I.os, I.bare, ⟨fun b o e n hb hx => ?_, fun b o e n hb hx => ?_, I.base.free, fun b o e hx => ?_, I.base.tups, I.base.frzs, I.base.tbls⟩, ⟨_, hn', fun j y v' e1 e2 e3 => ?_⟩, fun y c e => ?_, I.free, I.freeC, fun p hp => ?_, tracked ⟨oL, hoL, I.free⟩ hs, by simpa using I.len⟩ ⟨_, hs, .inl rfl⟩
    · exact (hs.2 b (Nat.ne_of_lt (Nat.lt_of_lt_of_le (Heap.lt_size e) I.ok.above))).trans (I.base.keep b o e n hb hx)
    · obtain ⟨sl, e1⟩ := I.base.slot b o e n hb hx
      exact ⟨sl, (hs.2 b (Nat.ne_of_lt (Nat.lt_of_lt_of_le (Heap.lt_size e) I.ok.above))).trans e1⟩
    · obtain ⟨o', e1⟩ := I.base.there b o e hx
      exact ⟨o', (hs.2 b (Nat.ne_of_lt (Nat.lt_of_lt_of_le (Heap.lt_size e) I.ok.above))).trans e1⟩
    · by_cases hj : j = i
      · subst hj
        rw [hi] at e1; cases e1
        rw [List.getElem?_set_self hiσ] at e2
        cases e2
        exact ⟨u, r, .inl ⟨hk, by simp⟩⟩
      · rw [List.getElem?_set_ne (Ne.symm hj)] at e2
        obtain ⟨u', r', q⟩ := hl j y v' e1 e2 e3
        refine ⟨u', r', ?_⟩
        rcases q with ⟨k, e⟩ | ⟨k, c, e, z⟩
        · refine .inl ⟨k, ?_⟩
          have : y ≠ x := fun e => hj (nodup_ix hN e1 (e ▸ hi))
          simp [this, e]
        · exact .inr ⟨k, c, e, z.sameBut hs (cne y c e)⟩
    · obtain ⟨w', z⟩ := I.cell y c e
      exact ⟨w', z.sameBut hs (cne y c e)⟩
    · obtain ⟨e, n, ne, nf, d⟩ := I.pin p hp
      exact ⟨(hs.2 p.1 ne).trans e, n, ne, nf, d⟩
  · have hfn : X.fn x = true := by
      rcases hf with z | z
      · exact z
      · rw [z] at hk; cases hk
    obtain ⟨c, hc⟩ := I.ok.has x (.inl hk)
    obtain ⟨w', z⟩ := I.cell x c hc
    refine wpAny_storeName_cell I.ok.kind hk hc z (fun h' hc' hs => ?_)
    obtain ⟨oc, hoc, hocd⟩ := id z
    refine h { s with heap := h' } ⟨I.ok, I.os, I.bare, ⟨fun b o e n hb hx => ?_, fun b o e n hb hx => ?_, I.base.free, fun b o e hx => ?_, I.base.tups, I.base.frzs, I.base.tbls⟩, ⟨m, hn.sameBut hs (Ne.symm (cne x c hc)), fun j y v' e1 e2 e3 => ?_⟩, fun y c' e => ?_, I.free, I.freeC, fun p hp => ?_, tracked ⟨oc, hoc, I.freeC x c hc⟩ hs, by simpa using I.len⟩ ⟨c, hs, .inr hc⟩
    · exact (hs.2 b (Nat.ne_of_lt (Nat.lt_of_lt_of_le (Heap.lt_size e) (I.ok.cab x c hfn hc)))).trans (I.base.keep b o e n hb hx)
    · obtain ⟨sl, e1⟩ := I.base.slot b o e n hb hx
      exact ⟨sl, (hs.2 b (Nat.ne_of_lt (Nat.lt_of_lt_of_le (Heap.lt_size e) (I.ok.cab x c hfn hc)))).trans e1⟩
    · obtain ⟨o', e1⟩ := I.base.there b o e hx
      exact ⟨o', (hs.2 b (Nat.ne_of_lt (Nat.lt_of_lt_of_le (Heap.lt_size e) (I.ok.cab x c hfn hc)))).trans e1⟩
    · by_cases hj : j = i
      · subst hj
        rw [hi] at e1; cases e1
        rw [List.getElem?_set_self hiσ] at e2
        cases e2
        exact ⟨u, r, .inr ⟨.inl hk, c, hc, hc'⟩⟩
      · rw [List.getElem?_set_ne (Ne.symm hj)] at e2
        obtain ⟨u', r', q⟩ := hl j y v' e1 e2 e3
        refine ⟨u', r', ?_⟩
        rcases q with q | ⟨k, c', e, z'⟩
        · exact .inl q
        · refine .inr ⟨k, c', e, z'.sameBut hs ?_⟩
          rintro rfl
          exact hj (nodup_ix hN e1 (I.ok.inj _ _ _ e hc ▸ hi))
    · by_cases hcc : c' = c
      · subst hcc; exact ⟨_, hc'⟩
      · obtain ⟨w2, z2⟩ := I.cell y c' e
        exact ⟨w2, z2.sameBut hs hcc⟩
    · obtain ⟨e, n, ne, nf, d⟩ := I.pin p hp
      refine ⟨(hs.2 p.1 ?_).trans e, n, ne, nf, d⟩
      intro q
      rw [q, hoc] at e
      have q' : oc = p.2 := Option.some.inj e
      exact d w' (by rw [← q']; exact hocd)
theorem store_ok {M : Model} {A : Around} {E : Value → Shared → Prop} {i : Nat} {x : Str} {v : V} {u : Value} {Q : Unit → Shared → Prop} (I : Inv X pins σ H s) (hN : X.N.Nodup) (hi : X.N[i]? = some x) (hx : Loc X.env.scope x) (r : RelV v u)
    (h : ∀ s', Inv X pins (σ.set i (some v)) H s' → Q () s') (hf : X.fn x = true ∨ X.env.scope.names.lookup x = some .local := by first | exact .inl rfl | exact .inr rfl | assumption) : wpAny M A (storeName X.env x u) Q E s :=
  store_ok2 I hN hi hx r (fun s' I' _ => h s' I') hf
/-- behind a call or a block, the state as it is -/
theorem Inv.call' {s' : Shared} {ch : List Addr} (I : Inv X pins σ H s) (ho : s'.os = s.os) (u : Un (frs X.stack) ch H H' s.heap s'.heap) (hok : HOk X.prog X.w H' s'.heap) (hg : AllBare s'.gens)
    (hch : ∀ b ∈ ch, (b ∈ X.ex ∨ X.s₀.heap.objs.size ≤ b) ∧ b ≠ X.env.locals ∧ (∀ x c, X.env.cells.lookup x = some c → c ≠ b) ∧ ∀ p ∈ X.pn ++ pins, p.1 ≠ b) : Inv X pins σ H' s' := by
  obtain ⟨h', g', d', t', o'⟩ := s'
  have e : o' = s.os := ho
  subst e
  exact I.call (g' := g') (t' := t') (d' := d') u hok hg hch
end

/-! ### the judgements -/
/-- an exception: its class, its own dict's address (where it has one), the abstract heap behind it -/
abbrev XK := Value → Option Addr → Hp → Prop
abbrev St := List (Option V)
abbrev VK := V → Hp → Prop
/-- an expression's reading; a test's; an argument list's -/
abbrev TE := St → Hp → VK → Prop
abbrev TT := St → Hp → (Bool → Hp → Prop) → Prop
abbrev TA := St → Hp → (List V → Hp → Prop) → Prop
/-- what is wanted behind a statement -/
structure Ends where
  nx : St → Hp → Prop
  rt : VK
  bk : St → Hp → Prop := fun _ _ => False
  ct : St → Hp → Prop := fun _ _ => False
abbrev TS := Ends → St → Hp → Prop

def EP (X : Cx) (pins : List (Addr × Obj)) (σ : St) (Q : VK) (u : Value) (s' : Shared) : Prop := ∃ v H', Inv X pins σ H' s' ∧ RelV v u ∧ Q v H'
def TP (X : Cx) (pins : List (Addr × Obj)) (σ : St) (Q : Bool → Hp → Prop) (b : Bool) (s' : Shared) : Prop := ∃ H', Inv X pins σ H' s' ∧ Q b H'
def AP (X : Cx) (pins : List (Addr × Obj)) (σ : St) (Q : List V → Hp → Prop) (us : List Value) (s' : Shared) : Prop := ∃ vs H', Inv X pins σ H' s' ∧ Vals vs us ∧ Q vs H'
def SP (X : Cx) (pins : List (Addr × Obj)) (D : Ends) (f : Flow) (s' : Shared) : Prop :=
  match f with
  | .next => ∃ σ' H', Inv X pins σ' H' s' ∧ D.nx σ' H'
  | .brk => ∃ σ' H', Inv X pins σ' H' s' ∧ D.bk σ' H'
  | .cont => ∃ σ' H', Inv X pins σ' H' s' ∧ D.ct σ' H'
  | .ret u => ∃ v σ' H', Inv X pins σ' H' s' ∧ RelV v u ∧ D.rt v H'

def PE (X : Cx) (e : Expr) (t : TE) : Prop :=
  ∀ (pins : List (Addr × Obj)) (s : Shared) (σ : St) (H : Hp) (Q : VK), Inv X pins σ H s → t σ H Q → wpAny (model X.prog X.w) X.A (eval e X.env) (EP X pins σ Q) X.xe s
def PT (X : Cx) (e : Expr) (t : TT) : Prop :=
  ∀ (pins : List (Addr × Obj)) (s : Shared) (σ : St) (H : Hp) (Q : Bool → Hp → Prop), Inv X pins σ H s → t σ H Q → wpAny (model X.prog X.w) X.A (isTrue e X.env (eval e X.env)) (TP X pins σ Q) X.xe s
/-- a test whatever its 'whole' is (and, or) -/
def PW (X : Cx) (e : Expr) (t : TT) : Prop :=
  ∀ (whole : Sem Value) (pins : List (Addr × Obj)) (s : Shared) (σ : St) (H : Hp) (Q : Bool → Hp → Prop), Inv X pins σ H s → t σ H Q → wpAny (model X.prog X.w) X.A (isTrue e X.env whole) (TP X pins σ Q) X.xe s
theorem PW.pt {X : Cx} {e : Expr} {t : TT} (h : PW X e t) : PT X e t := h _
/-- an argument list (no star), from the left -/
def PA (X : Cx) (es : List Expr) (t : TA) : Prop :=
  ∀ (pos : Pos) (pins : List (Addr × Obj)) (s : Shared) (σ : St) (H : Hp) (Q : List V → Hp → Prop), Inv X pins σ H s → t σ H Q → wpAny (model X.prog X.w) X.A (spliced (backTo pos (starEach es X.env))) (AP X pins σ Q) X.xe s
def PS (X : Cx) (st : Stmt) (t : TS) : Prop :=
  ∀ (pins : List (Addr × Obj)) (s : Shared) (σ : St) (H : Hp) (D : Ends), Inv X pins σ H s → t D σ H → wpAny (model X.prog X.w) X.A (exec st X.env) (SP X pins D) X.xe s
def PSs (X : Cx) (st : List Stmt) (t : TS) : Prop :=
  ∀ (pins : List (Addr × Obj)) (s : Shared) (σ : St) (H : Hp) (D : Ends), Inv X pins σ H s → t D σ H → wpAny (model X.prog X.w) X.A (execs st X.env) (SP X pins D) X.xe s
/-- weaken the end -/
theorem thn {α : Type} {t : Sem α} {Q Q' : α → Shared → Prop} {M : Model} {A : Around} {E : Value → Shared → Prop} {s : Shared} (h : wpAny M A t Q E s) (hQ : ∀ a s, Q a s → Q' a s) : wpAny M A t Q' E s := wpAny_mono h hQ fun _ _ x => x
end L2

namespace L2
open PySem PySem.Spec PyProof.Rows
section
variable {X : Cx}

/-- two expressions in a row -/
theorem bin {a b : Expr} {ta tb : TE} (ha : PE X a ta) (hb : PE X b tb) {pins : List (Addr × Obj)} {s : Shared} {σ : St} {H : Hp} {R : V → V → Hp → Prop} (I : Inv X pins σ H s) (h : ta σ H fun x H1 => tb σ H1 fun y H2 => R x y H2)
    {α : Type} {Q : α → Shared → Prop} {f : Value → Value → Sem α}
    (hf : ∀ v u s2 x y H2, Inv X pins σ H2 s2 → RelV x v → RelV y u → R x y H2 → wpAny (model X.prog X.w) X.A (f v u) Q X.xe s2) :
    wpAny (model X.prog X.w) X.A (eval a X.env) (fun v s₁ => wpAny (model X.prog X.w) X.A (eval b X.env) (fun u s₂ => wpAny (model X.prog X.w) X.A (f v u) Q X.xe s₂) X.xe s₁) X.xe s := by
  refine thn (ha pins s σ H _ I h) fun v s1 ⟨x, H1, I1, r1, q1⟩ => ?_
  refine thn (hb pins s1 σ H1 _ I1 q1) fun u s2 ⟨y, H2, I2, r2, q2⟩ => ?_
  exact hf v u s2 x y H2 I2 r1 r2 q2

/-! ### names and constants -/
def tVar (i : Nat) : TE := fun σ H Q => ∃ v, σ[i]? = some (some v) ∧ Q v H
def tC (v : V) : TE := fun _ H Q => Q v H
theorem pe_var {i : Nat} {x : Str} {pos : Pos} (hN : X.N[i]? = some x) (hv : Vis X.env.scope x) (hd : (x == ("__debug__" : Str)) = false := by decide) (hcd : (x == ("__classdict__" : Str)) = false := by decide) : PE X (.Name x pos) (tVar i) := by
  intro pins s σ H Q I h
  obtain ⟨v, e, h⟩ := h
  obtain ⟨m, hn, hl⟩ := I.loc
  obtain ⟨u, r, l⟩ := hl i x v hN e hv
  have fin : EP X pins σ Q u s := ⟨v, H, I, r, h⟩
  rcases l with ⟨hk, hm⟩ | ⟨hk, c, hc, hcell⟩
  · exact wpAny_Name (wpAny_loadName_local I.ok.kind hk hn hm fin) hd
  · rcases hk with hk | hk
    · exact wpAny_Name (wpAny_loadName_cell I.ok.kind hk hc hcell fin) hd
    · exact wpAny_Name (wpAny_loadName_free I.ok.kind hk hc hcell fin hcd) hd
theorem pe_int {i j pos} : PE X (.Constant (.int i) j pos) (tC (.int i)) := fun _ _ _ H _ I h => wpAny_Constant_int ⟨.int i, H, I.tok _, ⟨_, rfl⟩, h⟩
theorem pe_bl {b j pos} : PE X (.Constant (.bool b) j pos) (tC (.bl b)) := fun _ _ _ H _ I h => Constant_bool ⟨.bl b, H, I, rfl, h⟩
theorem pe_non {j pos} : PE X (.Constant .none j pos) (tC .non) := fun _ _ _ H _ I h => Constant_none ⟨.non, H, I, rfl, h⟩
theorem pe_str {x j pos} : PE X (.Constant (.str x) j pos) (tC (.str x)) := fun _ _ _ H _ I h => Calls.Constant_str ⟨.str x, H, I.tok _, ⟨_, rfl⟩, h⟩

/-- a global name of the def -/
def Gl (X : Cx) (x : Str) : Prop := X.env.kindOf x = some .globalImplicit
theorem ld_glob {E : Value → Shared → Prop} {pins : List (Addr × Obj)} {s : Shared} {σ : St} {H : Hp} {x : Str} {u : Value} {pos : Pos} {Q : Value → Shared → Prop} (I : Inv X pins σ H s) (hg : Gl X x) (hm : X.mg x = some u) (h : Q u s)
    (hd : (x == ("__debug__" : Str)) = false := by decide) : wpAny (model X.prog X.w) X.A (eval (.Name x pos) X.env) Q E s :=
  Calls.Name_function_global I.ok.kind hg (Calls.loadGlobal_global (by rw [I.ok.glob]; exact I.mod.glob.keeps I.bk) hm h) hd
theorem ld_blt {E : Value → Shared → Prop} {pins : List (Addr × Obj)} {s : Shared} {σ : St} {H : Hp} {x : Str} {u : Value} {pos : Pos} {Q : Value → Shared → Prop} (I : Inv X pins σ H s) (hg : Gl X x) (hm : X.mg x = none) (hv : bootBuiltins x = some u) (h : Q u s)
    (hn : x ≠ "__name__" := by decide) (hd : (x == ("__debug__" : Str)) = false := by decide) : wpAny (model X.prog X.w) X.A (eval (.Name x pos) X.env) Q E s := by
  obtain ⟨mb, h1, h2⟩ := I.mod.blt
  exact Calls.Name_function_global I.ok.kind hg (Calls.loadGlobal_builtin (by rw [I.ok.glob]; exact I.mod.glob.keeps I.bk) hm (by rw [I.ok.blt]; exact h1.keeps I.bk) ((h2 x hn).trans hv) h) hd
/-- a module's constant, a class, a function, as a value -/
theorem pe_glob {x : Str} {v : V} {u : Value} {pos : Pos} (hg : Gl X x) (hm : X.mg x = some u) (r : RelV v u) (hd : (x == ("__debug__" : Str)) = false := by decide) : PE X (.Name x pos) (tC v) :=
  fun _ _ _ H _ I h => ld_glob I hg hm ⟨v, H, I, r, h⟩ hd
theorem pe_bltn {x : Str} {v : V} {u : Value} {pos : Pos} (hg : Gl X x) (hm : X.mg x = none) (hv : bootBuiltins x = some u) (r : RelV v u) (hn : x ≠ "__name__" := by decide) (hd : (x == ("__debug__" : Str)) = false := by decide) : PE X (.Name x pos) (tC v) :=
  fun _ _ _ H _ I h => ld_blt I hg hm hv ⟨v, H, I, r, h⟩ hn hd

/-! ### arithmetic -/
/-- two ints -/
def t2I (ta tb : TE) (k : Int → Int → Hp → Prop) : St → Hp → Prop := fun σ H => ta σ H fun x H1 => tb σ H1 fun y H2 => ∃ i j, x = .int i ∧ y = .int j ∧ k i j H2
def tAdd (ta tb : TE) : TE := fun σ H Q => t2I ta tb (fun i j H2 => Q (.int (i + j)) H2) σ H
def tSub (ta tb : TE) : TE := fun σ H Q => t2I ta tb (fun i j H2 => Q (.int (i - j)) H2) σ H
/-- the left factor below 2^64 -/
def tMul (ta tb : TE) : TE := fun σ H Q => t2I ta tb (fun i j H2 => (-(2 ^ 64) < i ∧ i < 2 ^ 64) ∧ Q (.int (i * j)) H2) σ H
variable {a b : Expr} {ta tb : TE} {pos : Pos}
theorem pe_add (ha : PE X a ta) (hb : PE X b tb) : PE X (.BinOp a .Add b pos) (tAdd ta tb) := by
  intro pins s σ H Q I h
  refine wpAny_BinOp (bin ha hb I h fun v u s2 x y H2 I2 rx ry q => ?_)
  obtain ⟨i, j, rfl, rfl, q⟩ := q
  obtain ⟨t, rfl⟩ := rx
  obtain ⟨t', rfl⟩ := ry
  exact add_int ⟨.int _, H2, I2.tok _, ⟨_, rfl⟩, q⟩
theorem pe_sub (ha : PE X a ta) (hb : PE X b tb) : PE X (.BinOp a .Sub b pos) (tSub ta tb) := by
  intro pins s σ H Q I h
  refine wpAny_BinOp (bin ha hb I h fun v u s2 x y H2 I2 rx ry q => ?_)
  obtain ⟨i, j, rfl, rfl, q⟩ := q
  obtain ⟨t, rfl⟩ := rx
  obtain ⟨t', rfl⟩ := ry
  exact sub_int ⟨.int _, H2, I2.tok _, ⟨_, rfl⟩, q⟩
theorem pe_mul (ha : PE X a ta) (hb : PE X b tb) : PE X (.BinOp a .Mult b pos) (tMul ta tb) := by
  intro pins s σ H Q I h
  refine wpAny_BinOp (bin ha hb I h fun v u s2 x y H2 I2 rx ry q => ?_)
  obtain ⟨i, j, rfl, rfl, ⟨q1, q2⟩, q⟩ := q
  obtain ⟨t, rfl⟩ := rx
  obtain ⟨t', rfl⟩ := ry
  exact mul_int ⟨.int _, H2, I2.tok _, ⟨_, rfl⟩, q⟩ (.of_left (intBits_le_64 q1 q2))

/-! ### comparisons -/
def PC (X : Cx) (op : CmpOp) (a b : Expr) (t : TE) : Prop :=
  ∀ (pins : List (Addr × Obj)) (s : Shared) (σ : St) (H : Hp) (Q : VK), Inv X pins σ H s → t σ H Q →
    wpAny (model X.prog X.w) X.A (eval a X.env) (fun v s₁ => wpAny (model X.prog X.w) X.A (eval b X.env) (fun u s₂ => wpAny (model X.prog X.w) X.A (compareOp op v u) (EP X pins σ Q) X.xe s₂) X.xe s₁) X.xe s
theorem nobehind (b : Expr) {op : CmpOp} (h : op ≠ .In) (h2 : op ≠ .NotIn) : behindInMarks op b = false := by
  have e1 : (op == CmpOp.In) = false := by cases op <;> first | rfl | exact absurd rfl h
  have e2 : (op == CmpOp.NotIn) = false := by cases op <;> first | rfl | exact absurd rfl h2
  cases b <;> simp [behindInMarks, e1, e2]
def tCmp (p : Int → Int → Bool) (ta tb : TE) : TE := fun σ H Q => t2I ta tb (fun i j H2 => Q (.bl (p i j)) H2) σ H
abbrev tLt : TE → TE → TE := tCmp fun i j => decide (i < j)
abbrev tLe : TE → TE → TE := tCmp fun i j => decide (i ≤ j)
abbrev tGt : TE → TE → TE := tCmp fun i j => decide (j < i)
abbrev tGe : TE → TE → TE := tCmp fun i j => decide (j ≤ i)
abbrev tEqI : TE → TE → TE := tCmp fun i j => decide (i = j)
abbrev tNeI : TE → TE → TE := tCmp fun i j => !decide (i = j)
/-- a comparison of two ints, by its rule -/
theorem pc_int {op : CmpOp} {p : Int → Int → Bool} (ha : PE X a ta) (hb : PE X b tb)
    (rule : ∀ (i j : Int) (t u : Tok) (Q : Value → Shared → Prop) (s : Shared), Q (.bool (p i j)) s → wpAny (model X.prog X.w) X.A (compareOp op (.int i t) (.int j u)) Q X.xe s) : PC X op a b (tCmp p ta tb) := by
  intro pins s σ H Q I h
  refine bin ha hb I h fun v u s2 x y H2 I2 rx ry q => ?_
  obtain ⟨i, j, rfl, rfl, q⟩ := q
  obtain ⟨t, rfl⟩ := rx
  obtain ⟨t', rfl⟩ := ry
  exact rule i j t t' _ s2 ⟨.bl _, H2, I2, rfl, q⟩
theorem pc_lt (ha : PE X a ta) (hb : PE X b tb) : PC X .Lt a b (tLt ta tb) := pc_int ha hb fun _ _ _ _ _ _ h => lt_int h
theorem pc_le (ha : PE X a ta) (hb : PE X b tb) : PC X .LtE a b (tLe ta tb) := pc_int ha hb fun _ _ _ _ _ _ h => le_int h
theorem pc_gt (ha : PE X a ta) (hb : PE X b tb) : PC X .Gt a b (tGt ta tb) := pc_int ha hb fun _ _ _ _ _ _ h => gt_int h
theorem pc_ge (ha : PE X a ta) (hb : PE X b tb) : PC X .GtE a b (tGe ta tb) := pc_int ha hb fun _ _ _ _ _ _ h => ge_int h
theorem pc_eqI (ha : PE X a ta) (hb : PE X b tb) : PC X .Eq a b (tEqI ta tb) := pc_int ha hb fun _ _ _ _ _ _ h => eq_int (by rw [Bool.beq_eq_decide_eq]; exact h)
theorem pc_neI (ha : PE X a ta) (hb : PE X b tb) : PC X .NotEq a b (tNeI ta tb) := pc_int ha hb fun _ _ _ _ _ _ h => ne_int (by rw [bne, Bool.beq_eq_decide_eq]; exact h)
/-- is None -/
def tIsN (ta : TE) : TE := fun σ H Q => ta σ H fun x H1 => Q (.bl (decide (x = .non))) H1
def tNotN (ta : TE) : TE := fun σ H Q => ta σ H fun x H1 => Q (.bl (!decide (x = .non))) H1
theorem RelV.none_iff {x : V} {v : Value} (r : RelV x v) : (v == Value.none) = decide (x = .non) := by
  cases x with
  | non => cases r; rfl
  | bl _ => cases r; rfl
  | int _ => obtain ⟨t, rfl⟩ := r; rfl
  | str _ => obtain ⟨t, rfl⟩ := r; rfl
  | byt _ => obtain ⟨t, rfl⟩ := r; rfl
  | flt _ => obtain ⟨t, rfl⟩ := r; rfl
  | ref _ => cases r; rfl
  | ty _ => cases r; rfl
theorem pc_isN {j pos'} (ha : PE X a ta) : PC X .Is a (.Constant .none j pos') (tIsN ta) := by
  intro pins s σ H Q I h
  refine thn (ha pins s σ H _ I h) fun v s1 ⟨x, H1, I1, r1, q1⟩ => ?_
  exact Constant_none (is_none_gen ⟨.bl _, H1, I1, by rw [r1.none_iff]; rfl, q1⟩)
theorem pc_notN {j pos'} (ha : PE X a ta) : PC X .IsNot a (.Constant .none j pos') (tNotN ta) := by
  intro pins s σ H Q I h
  refine thn (ha pins s σ H _ I h) fun v s1 ⟨x, H1, I1, r1, q1⟩ => ?_
  exact Constant_none (isnot_none_gen ⟨.bl _, H1, I1, by rw [r1.none_iff]; rfl, q1⟩)
/-- a comparison as a value, as a test -/
def tB (t : TE) : TT := fun σ H Q => t σ H fun x H1 => ∃ c, x = .bl c ∧ Q c H1
theorem pe_cmp {op : CmpOp} {t : TE} (h : PC X op a b t) (h1 : behindInMarks op b = false := by first | exact nobehind _ (by decide) (by decide) | rfl) : PE X (.Compare a [op] [b] pos) t := fun pins s σ H Q I hw => wpAny_Compare1 (h pins s σ H Q I hw) h1
theorem pt_cmp {op : CmpOp} {t : TE} (h : PC X op a b t) (h1 : behindInMarks op b = false := by first | exact nobehind _ (by decide) (by decide) | rfl) : PT X (.Compare a [op] [b] pos) (tB t) := by
  intro pins s σ H Q I hw
  refine wpAny_isTrue_Compare1 (thn (h pins s σ H _ I hw) fun v s1 h1 => thn h1 fun u s2 h2 => thn h2 fun c s3 ⟨x, H1, I1, r1, q1⟩ => ?_) h1
  obtain ⟨d, rfl, q⟩ := q1
  cases r1
  exact wpAny_truthy_bool ⟨H1, I1, q⟩
/-- an expression whose value is a bool, as a test -/
theorem pt_val {e : Expr} {t : TE} (h : PE X e t) (he : ∀ whole, isTrue e X.env whole = (do let v ← whole; standAt e.pos; holding [v] (truthy v)) := by intro _; rfl) : PT X e (tB t) := by
  intro pins s σ H Q I hw
  refine isTrue_plain (thn (h pins s σ H _ I hw) fun v s1 ⟨x, H1, I1, r1, q1⟩ => ?_) (he _)
  obtain ⟨d, rfl, q⟩ := q1
  cases r1
  exact wpAny_truthy_bool ⟨H1, I1, q⟩

/-! ### and, or, not -/
variable {tA tB' : TT} {rest : List Expr}
def tAnd (t u : TT) : TT := fun σ H Q => t σ H fun c H1 => if c = true then u σ H1 Q else Q false H1
def tOr (t u : TT) : TT := fun σ H Q => t σ H fun c H1 => if c = true then Q true H1 else u σ H1 Q
def tNot (t : TT) : TT := fun σ H Q => t σ H fun c H1 => Q (!c) H1
theorem pw_and1 (ha : PT X a tA) : PW X (.BoolOp .And [a] pos) tA := by
  intro wh pins s σ H Q I h
  refine isTrue_and (thn (ha pins s σ H Q I h) fun c s1 e => ?_)
  cases c with
  | true => exact isTrue_and_nil e
  | false => exact e
theorem pw_or1 (ha : PT X a tA) : PW X (.BoolOp .Or [a] pos) tA := by
  intro wh pins s σ H Q I h
  refine isTrue_or (thn (ha pins s σ H Q I h) fun c s1 e => ?_)
  cases c with
  | false => exact isTrue_or_nil e
  | true => exact e
theorem pw_and (ha : PT X a tA) (hb : PW X (.BoolOp .And (b :: rest) pos) tB') : PW X (.BoolOp .And (a :: b :: rest) pos) (tAnd tA tB') := by
  intro wh pins s σ H Q I h
  refine isTrue_and (thn (ha pins s σ H _ I h) fun c s1 ⟨H1, I1, q1⟩ => ?_)
  cases c with
  | true => exact hb wh pins s1 σ H1 Q I1 q1
  | false => exact ⟨H1, I1, q1⟩
theorem pw_or (ha : PT X a tA) (hb : PW X (.BoolOp .Or (b :: rest) pos) tB') : PW X (.BoolOp .Or (a :: b :: rest) pos) (tOr tA tB') := by
  intro wh pins s σ H Q I h
  refine isTrue_or (thn (ha pins s σ H _ I h) fun c s1 ⟨H1, I1, q1⟩ => ?_)
  cases c with
  | true => exact ⟨H1, I1, q1⟩
  | false => exact hb wh pins s1 σ H1 Q I1 q1
theorem pt_not (ha : PT X a tA) : PT X (.UnaryOp .Not a pos) (tNot tA) := by
  intro pins s σ H Q I h
  exact isTrue_not (ha pins s σ H (fun c H1 => Q (!c) H1) I h)
/-- .. as values (bools) -/
def tAndV (ta tb : TE) : TE := fun σ H Q => ta σ H fun x H1 => ∃ c, x = .bl c ∧ if c = true then tb σ H1 Q else Q (.bl false) H1
def tOrV (ta tb : TE) : TE := fun σ H Q => ta σ H fun x H1 => ∃ c, x = .bl c ∧ if c = true then Q (.bl true) H1 else tb σ H1 Q
def tNotV (ta : TE) : TE := fun σ H Q => ta σ H fun x H1 => ∃ c, x = .bl c ∧ Q (.bl (!c)) H1
theorem pe_one {op} {t : TE} (h : PE X a t) : PE X (.BoolOp op [a] pos) t := fun pins s σ H Q I hw => BoolOp_one (h pins s σ H Q I hw)
theorem pe_and (ha : PE X a ta) (hb : PE X (.BoolOp .And (b :: rest) pos) tb) : PE X (.BoolOp .And (a :: b :: rest) pos) (tAndV ta tb) := by
  intro pins s σ H Q I h
  refine BoolOp_and (thn (ha pins s σ H _ I h) fun v s1 ⟨x, H1, I1, r1, q1⟩ => ?_)
  obtain ⟨c, rfl, q1⟩ := q1
  cases r1
  refine wpAny_truthy_bool ?_
  cases c with
  | true => exact hb pins s1 σ H1 Q I1 q1
  | false => exact ⟨.bl false, H1, I1, rfl, q1⟩
theorem pe_or (ha : PE X a ta) (hb : PE X (.BoolOp .Or (b :: rest) pos) tb) : PE X (.BoolOp .Or (a :: b :: rest) pos) (tOrV ta tb) := by
  intro pins s σ H Q I h
  refine BoolOp_or (thn (ha pins s σ H _ I h) fun v s1 ⟨x, H1, I1, r1, q1⟩ => ?_)
  obtain ⟨c, rfl, q1⟩ := q1
  cases r1
  refine wpAny_truthy_bool ?_
  cases c with
  | false => exact hb pins s1 σ H1 Q I1 q1
  | true => exact ⟨.bl true, H1, I1, rfl, q1⟩
theorem pe_not (ha : PE X a ta) : PE X (.UnaryOp .Not a pos) (tNotV ta) := by
  intro pins s σ H Q I h
  refine UnaryOp_ (thn (ha pins s σ H _ I h) fun v s1 ⟨x, H1, I1, r1, q1⟩ => ?_)
  obtain ⟨c, rfl, q1⟩ := q1
  cases r1
  exact not_of (wpAny_truthy_bool ⟨.bl (!c), H1, I1, rfl, q1⟩)
/-- a if t else b -/
def tIf (t : TT) (ta tb : TE) : TE := fun σ H Q => t σ H fun c H1 => if c = true then ta σ H1 Q else tb σ H1 Q
theorem pe_ifExp {c : Expr} (hc : PT X c tA) (ha : PE X a ta) (hb : PE X b tb) : PE X (.IfExp c a b pos) (tIf tA ta tb) := by
  intro pins s σ H Q I h
  refine wpAny_IfExp (thn (hc pins s σ H _ I h) fun d s1 ⟨H1, I1, q1⟩ => ?_)
  cases d with
  | true => exact ha pins s1 σ H1 Q I1 q1
  | false => exact hb pins s1 σ H1 Q I1 q1
end
end L2

namespace L2
open PySem PySem.Spec PyProof.Rows

/-! ### a list, a tuple that is read: tracked, frozen, or an object of the module -/
def SqL (K : PySem.W.Frag) (H : Hp) (a : Addr) (xs : List V) : Prop :=
  Rd H a (.lst xs) ∨
    ∃ (o : Obj) (its : Array Value) (n : Nat), K.lookup a = some o ∧ o.cls = .type "list" ∧ o.dict = none ∧ o.data = .seq its n ∧ its.size ≤ sizeLine ∧ Vals xs its.toList
def SqT (K : PySem.W.Frag) (H : Hp) (a : Addr) (xs : List V) : Prop :=
  Rd H a (.tup xs) ∨
    ∃ (o : Obj) (its : Array Value) (n : Nat), K.lookup a = some o ∧ o.cls = .type "tuple" ∧ o.data = .seq its n ∧ its.size ≤ sizeLine ∧ Vals xs its.toList
def absV : Value → Option V
  | .none => some .non
  | .bool b => some (.bl b)
  | .int i _ => some (.int i)
  | .str x _ => some (.str x)
  | .bytes b _ => some (.byt b)
  | .float b _ => some (.flt b)
  | .ref a => some (.ref a)
  | .type n => some (.ty n)
  | _ => none
theorem RelV.abs {x : V} {u : Value} (r : RelV x u) : absV u = some x := by
  cases x with
  | non => cases r; rfl
  | bl _ => cases r; rfl
  | int _ => obtain ⟨t, rfl⟩ := r; rfl
  | str _ => obtain ⟨t, rfl⟩ := r; rfl
  | byt _ => obtain ⟨t, rfl⟩ := r; rfl
  | flt _ => obtain ⟨t, rfl⟩ := r; rfl
  | ref _ => cases r; rfl
  | ty _ => cases r; rfl
theorem RelV.inj {x y : V} {u : Value} (r : RelV x u) (q : RelV y u) : x = y := Option.some.inj (r.abs.symm.trans q.abs)
theorem Vals.inj : ∀ {xs ys : List V} {us : List Value}, Vals xs us → Vals ys us → xs = ys
  | _, _, _, .nil, .nil => rfl
  | _, _, _, .cons r t, .cons r' t' => by rw [r.inj r', Vals.inj t t']
section
variable {X : Cx} {pins : List (Addr × Obj)} {σ : St} {H : Hp} {s : Shared} {a : Addr} {xs ys : List V}
theorem SqL.of {K : PySem.W.Frag} (h : H a = some (.lst xs)) : SqL K H a xs := .inl (.inl h)
theorem SqT.of {K : PySem.W.Frag} (h : H a = some (.tup xs)) : SqT K H a xs := .inl (.inl h)
theorem Inv.list (I : Inv X pins σ H s) (h : SqL X.K H a xs) : ∃ its : List Value, Vals xs its ∧ PlainL s.heap a its.toArray ∧ xs.length ≤ sizeLine := by
  rcases h with h | ⟨o, its, n, hk, hc, hd, hs, hz, r⟩
  · obtain ⟨z, its, n, r, e⟩ := h.ok I.hok
    exact ⟨its, r, ⟨_, n, e, rfl, rfl, rfl⟩, z⟩
  · refine ⟨its.toList, r, ⟨o, n, I.kIn a o hk, hc, hd, by simpa using hs⟩, ?_⟩
    have e := r.length
    simp only [Array.length_toList] at e
    omega
theorem Inv.tuple (I : Inv X pins σ H s) (h : SqT X.K H a xs) : ∃ its : List Value, Vals xs its ∧ IsTup s.heap a its.toArray ∧ xs.length ≤ sizeLine := by
  rcases h with h | ⟨o, its, n, hk, hc, hs, hz, r⟩
  · obtain ⟨z, its, r, p⟩ := h.ok I.hok
    exact ⟨its, r, p, z⟩
  · refine ⟨its.toList, r, ⟨o, I.kIn a o hk, hc, n, by simpa using hs⟩, ?_⟩
    have e := r.length
    simp only [Array.length_toList] at e
    omega
theorem Inv.list_inj (I : Inv X pins σ H s) (h : SqL X.K H a xs) (h' : SqL X.K H a ys) : xs = ys := by
  obtain ⟨its, r, ⟨o, n, e, _, _, d⟩, _⟩ := I.list h
  obtain ⟨its', r', ⟨o', n', e', _, _, d'⟩, _⟩ := I.list h'
  rw [e] at e'; cases e'
  rw [d] at d'
  injection d' with d1 _
  have : its = its' := by simpa using congrArg Array.toList d1
  subst this
  exact r.inj r'
theorem Inv.tuple_inj (I : Inv X pins σ H s) (h : SqT X.K H a xs) (h' : SqT X.K H a ys) : xs = ys := by
  obtain ⟨its, r, ⟨o, e, _, n, d⟩, _⟩ := I.tuple h
  obtain ⟨its', r', ⟨o', e', _, n', d'⟩, _⟩ := I.tuple h'
  rw [e] at e'; cases e'
  rw [d] at d'
  injection d' with d1 _
  have : its = its' := by simpa using congrArg Array.toList d1
  subst this
  exact r.inj r'
end

/-! ### another wish about exceptions -/
abbrev Cx.wish (X : Cx) (E : Value → Shared → Prop) : Cx := { X with xe := E }
/-- no exception leaves -/
abbrev Cx.nox (X : Cx) : Cx := X.wish fun _ _ => False
theorem Cx.Ok.wish {X : Cx} (ok : X.Ok) (E : Value → Shared → Prop) : (X.wish E).Ok :=
  ⟨ok.mod, ok.kind, ok.glob, ok.blt, ok.above, ok.inj, ok.has, ok.cab, ok.hd, ok.frames, ok.stk, ok.exf, ok.bs, ok.bsz, ok.noex, ok.exfs, ok.funs, ok.frf⟩
theorem Cx.Ok.unwish {X : Cx} {E : Value → Shared → Prop} (ok : (X.wish E).Ok) : X.Ok :=
  ⟨ok.mod, ok.kind, ok.glob, ok.blt, ok.above, ok.inj, ok.has, ok.cab, ok.hd, ok.frames, ok.stk, ok.exf, ok.bs, ok.bsz, ok.noex, ok.exfs, ok.funs, ok.frf⟩
section
variable {X : Cx} {pins : List (Addr × Obj)} {σ : St} {H : Hp} {s : Shared} {E : Value → Shared → Prop}
theorem Inv.wish (I : Inv X pins σ H s) (E : Value → Shared → Prop) : Inv (X.wish E) pins σ H s := ⟨I.ok.wish E, I.os, I.bare, I.base, I.loc, I.cell, I.free, I.freeC, I.pin, I.hok, I.len⟩
theorem Inv.unwish (I : Inv (X.wish E) pins σ H s) : Inv X pins σ H s := ⟨I.ok.unwish, I.os, I.bare, I.base, I.loc, I.cell, I.free, I.freeC, I.pin, I.hok, I.len⟩
theorem SP.unwish {D : Ends} {f : Flow} {s' : Shared} (h : SP (X.wish E) pins D f s') : SP X pins D f s' := by
  cases f with
  | next => obtain ⟨σ', H', I, q⟩ := h; exact ⟨σ', H', I.unwish, q⟩
  | brk => obtain ⟨σ', H', I, q⟩ := h; exact ⟨σ', H', I.unwish, q⟩
  | cont => obtain ⟨σ', H', I, q⟩ := h; exact ⟨σ', H', I.unwish, q⟩
  | ret u => obtain ⟨v, σ', H', I, r, q⟩ := h; exact ⟨v, σ', H', I.unwish, r, q⟩
theorem PE.nox {e : Expr} {t : TE} (h : PE X.nox e t) : PE X e t := fun pins s σ H Q I hw =>
  wpAny_mono (h pins s σ H Q (I.wish _) hw) (fun _ _ ⟨v, H', I', r, q⟩ => ⟨v, H', I'.unwish, r, q⟩) fun _ _ z => False.elim z
theorem PT.nox {e : Expr} {t : TT} (h : PT X.nox e t) : PT X e t := fun pins s σ H Q I hw =>
  wpAny_mono (h pins s σ H Q (I.wish _) hw) (fun _ _ ⟨H', I', q⟩ => ⟨H', I'.unwish, q⟩) fun _ _ z => False.elim z
theorem PSs.nox {st : List Stmt} {t : TS} (h : PSs X.nox st t) : PSs X st t := fun pins s σ H D I hw =>
  wpAny_mono (h pins s σ H D (I.wish _) hw) (fun _ _ q => q.unwish) fun _ _ z => False.elim z
end

/-! ### blocks and small statements -/
section
variable {X : Cx} {st : Stmt} {rest : List Stmt} {t u : TS} {e : Expr} {te : TE} {pos : Pos}
def tNext : TS := fun D σ H => D.nx σ H
def tSeq (t u : TS) : TS := fun D σ H => t { D with nx := u D } σ H
theorem pss_nil : PSs X [] tNext := fun _ _ σ H _ I h => wpAny_execs_nil ⟨σ, H, I, h⟩
theorem pss_cons (h1 : PS X st t) (h2 : PSs X rest u) : PSs X (st :: rest) (tSeq t u) := by
  intro pins s σ H D I h
  refine wpAny_execs_cons (thn (h1 pins s σ H { D with nx := u D } I h) fun f s1 q => ?_)
  cases f with
  | next =>
    obtain ⟨σ', H', I', q⟩ := q
    exact h2 pins s1 σ' H' D I' q
  | ret v => exact q
  | brk => exact q
  | cont => exact q
theorem pss_one (h1 : PS X st t) : PSs X [st] t := by
  intro pins s σ H D I h
  refine wpAny_execs_cons (thn (h1 pins s σ H D I h) fun f s1 q => ?_)
  cases f with
  | next => exact wpAny_execs_nil q
  | ret v => exact q
  | brk => exact q
  | cont => exact q
def tBreak : TS := fun D σ H => D.bk σ H
def tCont : TS := fun D σ H => D.ct σ H
theorem ps_pass : PS X (.Pass pos) tNext := fun _ _ σ H _ I h => wpAny_Pass ⟨σ, H, I, h⟩
theorem ps_break : PS X (.Break pos) tBreak := fun _ _ σ H _ I h => wpAny_Break ⟨σ, H, I, h⟩
theorem ps_continue : PS X (.Continue pos) tCont := fun _ _ σ H _ I h => wpAny_Continue ⟨σ, H, I, h⟩
/-- in a def's body nothing is shown -/
theorem Inv.quiet {pins : List (Addr × Obj)} {σ : St} {H : Hp} {s : Shared} (I : Inv X pins σ H s) : interactive X.env = false := by simp [interactive, I.ok.kind]
/-- a docstring -/
theorem ps_doc {x j pos pos'} : PS X (.Expr (.Constant (.str x) j pos) pos') tNext := fun _ s σ H _ I h => wpAny_Expr (Calls.Constant_str (show SP X _ _ .next { s with toks := s.toks + 1 } from ⟨σ, H, I.tok _, h⟩)) I.quiet
/-- an expression whose value is dropped -/
def tDrop (te : TE) : TS := fun D σ H => te σ H fun _ H1 => D.nx σ H1
theorem ps_expr (he : PE X e te) (hs : swapsWith e none pos.line X.env = pure false := by rfl) : PS X (.Expr e pos) (tDrop te) := by
  intro pins s σ H D I h
  exact wpAny_Expr_any (thn (he pins s σ H _ I h) fun v s1 ⟨x, H1, I1, r1, q1⟩ => ⟨σ, H1, I1, q1⟩) I.quiet hs
def tRet (te : TE) : TS := fun D σ H => te σ H D.rt
theorem ps_ret (he : PE X e te) : PS X (.Return (some e) pos) (tRet te) := by
  intro pins s σ H D I h
  exact wpAny_Return_some (thn (he pins s σ H _ I h) fun v s1 ⟨x, H1, I1, r1, q1⟩ => ⟨x, σ, H1, I1, r1, q1⟩)
def tRetN : TS := fun D _ H => D.rt .non H
theorem ps_retN : PS X (.Return none pos) tRetN := fun _ _ σ H _ I h => wpAny_Return_none ⟨.non, σ, H, I, rfl, h⟩
def tIfS (c : TT) (t u : TS) : TS := fun D σ H => c σ H fun b H1 => if b = true then t D σ H1 else u D σ H1
theorem ps_if {c : Expr} {a b : List Stmt} {tc : TT} (hc : PT X c tc) (ha : PSs X a t) (hb : PSs X b u) : PS X (.If c a b pos) (tIfS tc t u) := by
  intro pins s σ H D I h
  refine wpAny_If (thn (hc pins s σ H _ I h) fun d s1 ⟨H1, I1, q1⟩ => ?_)
  cases d with
  | true => exact ha pins s1 σ H1 D I1 q1
  | false => exact hb pins s1 σ H1 D I1 q1
/-- code that the proof never comes to -/
def tNever : TS := fun _ _ _ => False
theorem ps_never : PS X st tNever := fun _ _ _ _ _ _ h => h.elim
theorem pss_never {sts : List Stmt} : PSs X sts tNever := fun _ _ _ _ _ _ h => h.elim
end

/-! ### targets -/
abbrev TG := V → St → Hp → (St → Hp → Prop) → Prop
abbrev TGs := List V → St → Hp → (St → Hp → Prop) → Prop
def PG (X : Cx) (target : Expr) (t : TG) : Prop :=
  ∀ (pins : List (Addr × Obj)) (s : Shared) (σ : St) (H : Hp) (v : V) (u : Value) (Q : St → Hp → Prop), Inv X pins σ H s → RelV v u → t v σ H Q →
    wpAny (model X.prog X.w) X.A (assign target X.env u) (fun _ s' => ∃ σ' H', Inv X pins σ' H' s' ∧ Q σ' H') X.xe s
/-- several targets, one after another -/
def PGs (X : Cx) (ts : List Expr) (t : TGs) : Prop :=
  ∀ (pins : List (Addr × Obj)) (s : Shared) (σ : St) (H : Hp) (vs : List V) (us : List Value) (Q : St → Hp → Prop), Inv X pins σ H s → Vals vs us → t vs σ H Q →
    wpAny (model X.prog X.w) X.A (assignInOrder ((assignEach ts X.env).map (·.2)) us) (fun _ s' => ∃ σ' H', Inv X pins σ' H' s' ∧ Q σ' H') X.xe s
/-- o[i] = v, by values -/
abbrev TSet := V → V → V → Hp → (Hp → Prop) → Prop
def PSet (X : Cx) (t : TSet) : Prop :=
  ∀ (pins : List (Addr × Obj)) (s : Shared) (σ : St) (H : Hp) (o i v : V) (ov iv u : Value) (Q : Hp → Prop), Inv X pins σ H s → RelV o ov → RelV i iv → RelV v u → t o i v H Q →
    wpAny (model X.prog X.w) X.A (setItem ov iv u) (fun _ s' => ∃ H', Inv X pins σ H' s' ∧ Q H') X.xe s
/-- a op= b, by values -/
abbrev TIp := V → V → Hp → VK → Prop
def PIp (X : Cx) (op : Operator) (t : TIp) : Prop :=
  ∀ (pins : List (Addr × Obj)) (s : Shared) (σ : St) (H : Hp) (x y : V) (v u : Value) (Q : VK), Inv X pins σ H s → RelV x v → RelV y u → t x y H Q →
    wpAny (model X.prog X.w) X.A (inplaceOp op v u) (EP X pins σ Q) X.xe s
section
variable {X : Cx} {pos : Pos}
def gName (i : Nat) : TG := fun v σ H Q => Q (σ.set i (some v)) H
theorem pg_name {i : Nat} {x : Str} (hN : X.N.Nodup) (hi : X.N[i]? = some x) (hx : Loc X.env.scope x) (hf : X.fn x = true ∨ X.env.scope.names.lookup x = some .local := by first | exact .inl rfl | exact .inr rfl | assumption) : PG X (.Name x pos) (gName i) := by
  intro pins s σ H v u Q I r h
  exact wpAny_assign_Name (store_ok I hN hi hx r (fun s' I' => ⟨_, H, I', h⟩) hf)
def gNil : TGs := fun vs σ H Q => vs = [] ∧ Q σ H
def gCons (t : TG) (u : TGs) : TGs := fun vs σ H Q => ∃ v r, vs = v :: r ∧ t v σ H fun σ' H' => u r σ' H' Q
theorem pgs_nil : PGs X [] gNil := by
  intro pins s σ H vs us Q I r h
  obtain ⟨e, h⟩ := h
  subst e
  cases r
  exact assignInOrder_nil ⟨σ, H, I, h⟩
theorem pgs_cons {e : Expr} {es : List Expr} {t : TG} {u : TGs} (h1 : PG X e t) (h2 : PGs X es u)
    (hs : (assignEach (e :: es) X.env).map (·.2) = assign e X.env :: (assignEach es X.env).map (·.2) := by rfl) : PGs X (e :: es) (gCons t u) := by
  intro pins s σ H vs us Q I r h
  obtain ⟨v, vr, e1, h⟩ := h
  subst e1
  cases r with
  | cons r rr =>
    rw [hs]
    refine assignInOrder_cons (thn (h1 pins s σ H _ _ _ I r h) fun _ s1 ⟨σ1, H1, I1, q1⟩ => ?_)
    exact h2 pins s1 σ1 H1 _ _ Q I1 rr q1
/-- (a, b, ..) = a tuple of that length -/
def gTup (K : PySem.W.Frag) (n : Nat) (t : TGs) : TG := fun v σ H Q => ∃ a xs, v = .ref a ∧ SqT K H a xs ∧ xs.length = n ∧ t xs σ H Q
theorem pg_tup {es : List Expr} {k : Nat} {t : TGs} {n : Nat} (hc : X.calm = true) (h : PGs X es t)
    (hn : (assignEach es X.env).length = n := by rfl) (hst : (assignEach es X.env).findIdx? (·.1) = none := by rfl) : PG X (.Tuple es k pos) (gTup X.K n t) := by
  intro pins s σ H v u Q I r hw
  obtain ⟨a, xs, e1, hq, hl, hw⟩ := hw
  subst e1
  cases r
  obtain ⟨its, rv, ht, hz⟩ := I.tuple hq
  refine assign_Tuple_tuple (I.ok.hd hc) ht (by simp [hn, ← hl, rv.length]) hst fun h' hx => ?_
  have I1 : Inv X pins σ H { s with heap := h' } := I.kept (t' := s.toks) fun b o e => hx b o (Nat.ne_of_lt (Heap.lt_size e)) e
  exact h pins _ σ H xs _ Q I1 (by simpa using rv) hw
/-- o[i] = .. -/
def gSub (to ti : TE) (t : TSet) : TG := fun v σ H Q => to σ H fun o H1 => ti σ H1 fun i H2 => t o i v H2 fun H3 => Q σ H3
theorem pg_sub {o i : Expr} {to ti : TE} {t : TSet} (ho : PE X o to) (hi : PE X i ti) (hs : PSet X t)
    (ha : ∀ v, assign (.Subscript o i pos) X.env v = (do
      let ov ← holding [v] (eval o X.env)
      let iv ← holding [v, ov] (eval i X.env)
      standAt pos
      holding [v, ov, iv] (setItem ov iv v)
      release [v, ov, iv] []) := by intro _; rfl) : PG X (.Subscript o i pos) (gSub to ti t) := by
  intro pins s σ H v u Q I r h
  rw [ha]
  refine wpAny_bind (wpAny_holding (thn (ho pins s σ H _ I h) fun ov s1 ⟨x, H1, I1, r1, q1⟩ => ?_))
  refine wpAny_bind (wpAny_holding (thn (hi pins s1 σ H1 _ I1 q1) fun iv s2 ⟨y, H2, I2, r2, q2⟩ => ?_))
  refine wpAny_bind (wpAny_standAt (wpAny_bind (wpAny_holding (thn (hs pins s2 σ H2 x y v ov iv u _ I2 r1 r2 r q2) fun _ s3 ⟨H3, I3, q3⟩ => ?_))))
  exact wpAny_release ⟨σ, H3, I3, q3⟩
/-- target = value -/
def tAsg (te : TE) (g : TG) : TS := fun D σ H => te σ H fun x H1 => g x σ H1 D.nx
theorem ps_asg {tg e : Expr} {te : TE} {g : TG} (he : PE X e te) (hg : PG X tg g) (hs : swapsWithSole [tg] e pos.line X.env = pure false := by rfl) (hw : swappedStores [tg] e X.env = pure none := by rfl)
    (h1 : (assignEach [tg] X.env).map (·.2) = [assign tg X.env] := by rfl) : PS X (.Assign [tg] e pos) (tAsg te g) := by
  intro pins s σ H D I h
  refine wpAny_Assign_stores (thn (he pins s σ H _ I h) fun v s1 ⟨x, H1, I1, r1, q1⟩ => ?_) hs hw
  rw [h1]
  exact thn (hg pins s1 σ H1 x v _ I1 r1 q1) fun _ s2 q => q
/-- name = value -/
theorem ps_set {i : Nat} {x : Str} {e : Expr} {te : TE} {pos' : Pos} (hN : X.N.Nodup) (hi : X.N[i]? = some x) (hx : Loc X.env.scope x) (he : PE X e te) (hs : swapsWith e (some (.Name x pos')) pos.line X.env = pure false := by rfl) (hf : X.fn x = true ∨ X.env.scope.names.lookup x = some .local := by first | exact .inl rfl | exact .inr rfl | assumption) :
    PS X (.Assign [.Name x pos'] e pos) (tAsg te (gName i)) := by
  intro pins s σ H D I h
  refine wpAny_Assign_Name (thn (he pins s σ H _ I h) fun v s1 ⟨y, H1, I1, r1, q1⟩ => ?_) hs
  exact store_ok I1 hN hi hx r1 (fun s2 I2 => ⟨_, H1, I2, q1⟩) hf
/-- a, b = x, y with plain local names: stored from the right; the pair itself is not tracked (the opening rows as in PyProof/Rows/TupAssign.lean:23) -/
def tPar (i j : Nat) (ta : TA) : TS := fun D σ H => ta σ H fun vs H1 => ∃ v w, vs = [v, w] ∧ D.nx ((σ.set i (some v)).set j (some w)) H1
theorem ps_par {i j : Nat} {x y : Str} {a b : Expr} {ta : TA} {px py pt : Pos} {kt k2 pt2} (hc : X.calm = true) (hN : X.N.Nodup) (hi : X.N[i]? = some x) (hj : X.N[j]? = some y) (hij : i ≠ j)
    (hx : X.env.scope.names.lookup x = some .local) (hy : X.env.scope.names.lookup y = some .local) (ha : PA X [a, b] ta)
    (hw : swappedStores [.Tuple [.Name x px, .Name y py] kt pt] (.Tuple [a, b] k2 pt2) X.env = pure (some [x, y]))
    (hs : swapsWithSole [.Tuple [.Name x px, .Name y py] kt pt] (.Tuple [a, b] k2 pt2) pos.line X.env = pure false := by rfl) :
    PS X (.Assign [.Tuple [.Name x px, .Name y py] kt pt] (.Tuple [a, b] k2 pt2) pos) (tPar i j ta) := by
  intro pins s σ H D I h
  rw [exec_Assign_arm]
  refine wpAny_bind (wpAny_standAt ?_)
  rw [hs]
  refine wpAny_bind (wpAny_pure ?_)
  rw [if_neg (by decide)]
  refine wpAny_bind (Tuple_ (thn (ha _ pins s σ H _ I h) fun us s1 ⟨vs, H1, I1, r1, q1⟩ => ?_))
  obtain ⟨v, w, e1, q1⟩ := q1
  subst e1
  obtain ⟨u1, u2, rfl, rv, rw'⟩ : ∃ u1 u2, us = [u1, u2] ∧ RelV v u1 ∧ RelV w u2 := by
    cases r1 with
    | cons p q =>
      cases q with
      | cons p' q' =>
        cases q'
        exact ⟨_, _, rfl, p, p'⟩
  refine wpAny_newObj_type ?_ (by show 2 ≤ sizeLine; decide)
  have I2 : Inv X pins σ H1 { s1 with heap := s1.heap.push { cls := .type "tuple", data := .seq [u1, u2].toArray } } := I1.kept (t' := s1.toks) fun b o e => Heap.get?_push_of_some _ e
  rw [hw]
  refine wpAny_bind (wpAny_pure ?_)
  show wpAny (model X.prog X.w) X.A (do rule "assign.swapped-stores"; let items ← unpackItems (.ref s1.heap.objs.size) 2 none; assignInOrder [fun v => bindName X.env y v, fun v => bindName X.env x v] items.reverse; pure Flow.next) _ _ _
  refine wpAny_bind (wpAny_rule (wpAny_bind (unpackItems_tuple (items := #[u1, u2]) (I.ok.hd hc) (IsTup.new s1.heap _) fun h' hx' => ?_)))
  have I3 := I2.kept (h' := h') (t' := s1.toks) fun b o e => hx' b o (Nat.ne_of_lt (Heap.lt_size e)) e
  show wpAny _ _ (assignInOrder [fun v => bindName X.env y v, fun v => bindName X.env x v] [u2, u1] >>= fun _ => pure Flow.next) _ _ _
  refine wpAny_bind (assignInOrder_cons (wpAny_bindName (store_ok I3 hN hj (.inl hy) rw' (fun s2 I4 => ?_) (.inr hy))))
  refine assignInOrder_cons (wpAny_bindName (store_ok I4 hN hi (.inl hx) rv (fun s3 I5 => assignInOrder_nil (wpAny_pure ?_)) (.inr hx)))
  rw [List.set_comm _ _ (Ne.symm hij)] at I5
  exact ⟨_, H1, I5, q1⟩
/-- name op= e -/
def tAug (i : Nat) (te : TE) (ti : TIp) : TS := fun D σ H => ∃ x, σ[i]? = some (some x) ∧ te σ H fun y H1 => ti x y H1 fun z H2 => D.nx (σ.set i (some z)) H2
theorem ps_aug {i : Nat} {x : Str} {e : Expr} {te : TE} {op : Operator} {ti : TIp} {pos' : Pos} (hN : X.N.Nodup) (hi : X.N[i]? = some x) (hx : Loc X.env.scope x) (he : PE X e te) (ho : PIp X op ti) (hf : X.fn x = true ∨ X.env.scope.names.lookup x = some .local := by first | exact .inl rfl | exact .inr rfl | assumption) :
    PS X (.AugAssign (.Name x pos') op e pos) (tAug i te ti) := by
  intro pins s σ H D I h
  obtain ⟨v, e1, h⟩ := h
  obtain ⟨m, hn, hl⟩ := I.loc
  have vis : Vis X.env.scope x := by rcases hx with k | k; exact .inl k; exact .inr (.inl k)
  obtain ⟨u, r, l⟩ := hl i x v hi e1 vis
  refine wpAny_AugAssign_Name ?_
  have go : wpAny (model X.prog X.w) X.A (eval e X.env) (fun w s₂ => wpAny (model X.prog X.w) X.A (inplaceOp op u w) (fun r s₃ => wpAny (model X.prog X.w) X.A (storeName X.env x r) (fun _ => SP X pins D .next) X.xe s₃) X.xe s₂) X.xe s := by
    refine thn (he pins s σ H _ I h) fun w s1 ⟨y, H1, I1, r1, q1⟩ => ?_
    refine thn (ho pins s1 σ H1 v y u w _ I1 r r1 q1) fun z s2 ⟨zv, H2, I2, r2, q2⟩ => ?_
    exact store_ok I2 hN hi hx r2 (fun s3 I3 => ⟨_, H2, I3, q2⟩) hf
  rcases l with ⟨hk, hm⟩ | ⟨hk, c, hc, hcell⟩
  · exact wpAny_loadName_local I.ok.kind hk hn hm go
  · rcases hk with hk | hk
    · exact wpAny_loadName_cell I.ok.kind hk hc hcell go
    · rcases hx with k | k
      · have : X.env.scope.names.lookup x = some .free := hk
        rw [k] at this; cases this
      · have : X.env.scope.names.lookup x = some .free := hk
        rw [k] at this; cases this
/-- o[i] op= e -/
def tAugS (to ti te : TE) (tget : V → V → Hp → VK → Prop) (tip : TIp) (tset : TSet) : TS := fun D σ H => to σ H fun o H1 => ti σ H1 fun i H2 => tget o i H2 fun x H3 => te σ H3 fun y H4 => tip x y H4 fun z H5 => tset o i z H5 fun H6 => D.nx σ H6
/-- o[i], by values -/
def PGet (X : Cx) (t : V → V → Hp → VK → Prop) : Prop :=
  ∀ (pins : List (Addr × Obj)) (s : Shared) (σ : St) (H : Hp) (o i : V) (ov iv : Value) (Q : VK), Inv X pins σ H s → RelV o ov → RelV i iv → t o i H Q →
    wpAny (model X.prog X.w) X.A (getItem ov iv) (EP X pins σ Q) X.xe s
theorem ps_augS {o i e : Expr} {to ti te : TE} {tget : V → V → Hp → VK → Prop} {tip : TIp} {tset : TSet} {op : Operator} {tpos : Pos} (ho : PE X o to) (hi : PE X i ti) (hg : PGet X tget) (he : PE X e te) (hp : PIp X op tip) (hs : PSet X tset)
    (ha : ∀ ov iv new, augStore i ov iv new = (do holding [new, ov, iv] (setItem ov iv new); release [new, ov, iv] []; pure .next) := by intros; rfl) : PS X (.AugAssign (.Subscript o i tpos) op e pos) (tAugS to ti te tget tip tset) := by
  intro pins s σ H D I h
  refine wpAny_AugAssign_SubscriptAny (thn (ho pins s σ H _ I h) fun ov s1 ⟨x1, H1, I1, r1, q1⟩ => ?_) ha
  refine thn (hi pins s1 σ H1 _ I1 q1) fun iv s2 ⟨x2, H2, I2, r2, q2⟩ => ?_
  refine thn (hg pins s2 σ H2 x1 x2 ov iv _ I2 r1 r2 q2) fun old s3 ⟨x3, H3, I3, r3, q3⟩ => ?_
  refine thn (he pins s3 σ H3 _ I3 q3) fun v s4 ⟨x4, H4, I4, r4, q4⟩ => ?_
  refine thn (hp pins s4 σ H4 x3 x4 old v _ I4 r3 r4 q4) fun new s5 ⟨x5, H5, I5, r5, q5⟩ => ?_
  exact thn (hs pins s5 σ H5 x1 x2 x5 ov iv new _ I5 r1 r2 r5 q5) fun _ s6 ⟨H6, I6, q6⟩ => ⟨σ, H6, I6, q6⟩
/-- ints -/
def ipI (f : Int → Int → Int) : TIp := fun x y H Q => ∃ i j, x = .int i ∧ y = .int j ∧ Q (.int (f i j)) H
theorem ip_add : PIp X .Add (ipI fun i j => i + j) := by
  intro pins s σ H x y v u Q I r1 r2 h
  obtain ⟨i, j, e1, e2, q⟩ := h
  subst e1; subst e2
  obtain ⟨t, rfl⟩ := r1
  obtain ⟨t', rfl⟩ := r2
  exact iadd_int ⟨.int _, H, I.tok _, ⟨_, rfl⟩, q⟩
theorem ip_sub : PIp X .Sub (ipI fun i j => i - j) := by
  intro pins s σ H x y v u Q I r1 r2 h
  obtain ⟨i, j, e1, e2, q⟩ := h
  subst e1; subst e2
  obtain ⟨t, rfl⟩ := r1
  obtain ⟨t', rfl⟩ := r2
  exact isub_int ⟨.int _, H, I.tok _, ⟨_, rfl⟩, q⟩
end

/-! ### while -/
section
variable {X : Cx} {pos : Pos}
/-- the invariant W with its measure -/
def tWhile (c : TT) (tb : TS) : TS := fun D σ H => ∃ W : Nat → St → Hp → Prop, (∃ m, W m σ H) ∧ ∀ m σ H, W m σ H →
  c σ H fun b H1 => if b = true then ∃ N : St → Hp → Prop, (∀ σ' H', N σ' H' → ∃ m', m' < m ∧ W m' σ' H') ∧ tb { D with nx := N, ct := N, bk := D.nx } σ H1 else D.nx σ H1
theorem ps_while {c : Expr} {body : List Stmt} {tc : TT} {tb : TS} (hp : PassesOwn (model X.prog X.w) X.A X.env X.xe) (hc : PT X c tc) (hb : PSs X body tb) : PS X (.While c body [] pos) (tWhile tc tb) := by
  intro pins s σ H D I h
  obtain ⟨W, ⟨m0, w0⟩, turn⟩ := h
  refine wpAny_While (codeAny_whileLoop (fun n s' => ∃ σ' H', Inv X pins σ' H' s' ∧ W n σ' H') ?_ m0 ⟨σ, H, I, w0⟩)
  rintro n s1 ⟨σ1, H1, I1, w1⟩
  refine wpAny_passesOwn hp (thn (hc pins s1 σ1 H1 _ I1 (turn n σ1 H1 w1)) fun b s2 ⟨H2, I2, q2⟩ => ?_)
  cases b with
  | true =>
    obtain ⟨N, hN, q2⟩ := q2
    rw [if_pos rfl]
    refine wpAny_passesOwn hp (thn (hb pins s2 σ1 H2 _ I2 q2) fun f s3 q3 => ?_)
    cases f with
    | next =>
      obtain ⟨σ3, H3, I3, n3⟩ := q3
      obtain ⟨m', hm, w3⟩ := hN σ3 H3 n3
      exact ⟨m', hm, σ3, H3, I3, w3⟩
    | cont =>
      obtain ⟨σ3, H3, I3, n3⟩ := q3
      obtain ⟨m', hm, w3⟩ := hN σ3 H3 n3
      exact ⟨m', hm, σ3, H3, I3, w3⟩
    | brk => exact q3
    | ret v => exact q3
  | false =>
    rw [if_neg Bool.false_ne_true]
    exact wpAny_execs_nil ⟨σ1, H2, I2, q2⟩
end

/-! ### what a loop or a comprehension walks -/
/-- at turn i: it yields x (the heap may grow), or it stops -/
structure It where
  go : Nat → Hp → Prop
  yld : Nat → Hp → V → Hp → Prop
  stop : Nat → Hp → Prop
/-- the iterator's own objects may turn: they are not the frame's, not pinned, younger than the entry (or a comprehension's own) -/
def FpOk (X : Cx) (pins : List (Addr × Obj)) (H : Hp) (b : Addr) : Prop :=
  H b = none ∧ b ≠ X.env.locals ∧ b ∉ X.fs ∧ (b ∈ X.ex ∨ X.s₀.heap.objs.size ≤ b) ∧ (∀ x c, X.env.cells.lookup x = some c → c ≠ b) ∧ ∀ p ∈ X.pn ++ pins, p.1 ≠ b
theorem Inv.fpOk {X : Cx} {pins : List (Addr × Obj)} {σ : St} {H H' : Hp} {s : Shared} {b : Addr} (I : Inv X pins σ H s) (hb : s.heap.objs.size ≤ b) (hn : H' b = none) : FpOk X pins H' b := by
  refine ⟨hn, Nat.ne_of_gt (Nat.lt_of_lt_of_le I.lt hb), I.nofs hb, .inr (Nat.le_trans I.sz hb), fun x c e z => ?_, fun p hp z => ?_⟩
  · obtain ⟨v, q⟩ := I.cell x c e
    exact absurd (Nat.lt_of_lt_of_le q.lt (by rw [z]; exact hb)) (Nat.lt_irrefl _)
  · exact absurd (Nat.lt_of_lt_of_le (Heap.lt_size (I.pin p hp).1) (by rw [z]; exact hb)) (Nat.lt_irrefl _)
structure Turn (P : Program) (w : World) (K : PySem.W.Frag) (tg : Expr) (J : It) (fp : List Addr) (it : Addr) (tn : Nat → Heap → Prop) : Prop where
  mem : it ∈ fp
  obj : ∀ i h, tn i h → ∀ b ∈ fp, ∃ o, h.get? b = some o ∧ ∀ v, o.data ≠ .cell v
  keep : ∀ i h h', tn i h → (∀ b ∈ fp, ∀ o, h.get? b = some o → h'.get? b = some o) → tn i h'
  item : ∀ (X : Cx), X.prog = P → X.w = w → X.K = K → X.calm = true → ∀ (i : Nat) (pins : List (Addr × Obj)) (s : Shared) (σ : St) (H : Hp) (E : Value → Shared → Prop), Inv X pins σ H s → (∀ b ∈ fp, FpOk X pins H b) → tn i s.heap → J.go i H →
    wpAny (model P w) X.A (pyNext (.ref it)) (fun r s1 => ∃ u, r = some u ∧
      wpAny (model P w) X.A (letOwnedTupleGo tg (.ref it) u) (fun _ s2 => ∃ x H', Inv X pins σ H' s2 ∧ RelV x u ∧ J.yld i H x H' ∧ tn (i + 1) s2.heap ∧ ∀ b ∈ fp, H' b = none) E s1) E s
  done : ∀ (X : Cx), X.prog = P → X.w = w → X.K = K → X.calm = true → ∀ (i : Nat) (pins : List (Addr × Obj)) (s : Shared) (σ : St) (H : Hp) (E : Value → Shared → Prop), Inv X pins σ H s → (∀ b ∈ fp, FpOk X pins H b) → tn i s.heap → J.stop i H →
    wpAny (model P w) X.A (pyNext (.ref it)) (fun r s1 => r = none ∧ Inv X pins σ H s1) E s
  self : ∀ (A : Around) (i : Nat) (s : Shared) (Q : Value → Shared → Prop) (E : Value → Shared → Prop), tn i s.heap → Q (.ref it) s → wpAny (model P w) A (pyIter (.ref it)) Q E s
abbrev TI := St → Hp → (It → Hp → Prop) → Prop
/-- an iterator has come -/
def PIE (X : Cx) (pins : List (Addr × Obj)) (σ : St) (tg : Expr) (R : It → Hp → Prop) (itv : Value) (s2 : Shared) : Prop :=
  ∃ (it : Addr) (fp : List Addr) (tn : Nat → Heap → Prop) (J : It) (H' : Hp), itv = .ref it ∧ Inv X pins σ H' s2 ∧ Turn X.prog X.w X.K tg J fp it tn ∧ tn 0 s2.heap ∧ (∀ b ∈ fp, FpOk X pins H' b) ∧ R J H'
def PI (X : Cx) (tg iter : Expr) (wi : TI) : Prop :=
  ∀ (pins : List (Addr × Obj)) (s : Shared) (σ : St) (H : Hp) (R : It → Hp → Prop), Inv X pins σ H s → wi σ H R →
    wpAny (model X.prog X.w) X.A (eval iter X.env) (fun v s1 => wpAny (model X.prog X.w) X.A (pyIter v) (PIE X pins σ tg R) X.xe s1) X.xe s

/-- the step ahead of the store is nothing for an iterator that keeps no tuple -/
theorem go_of {M : Model} {A : Around} {E : Value → Shared → Prop} {s : Shared} {tg : Expr} {it : Addr} {u : Value} {o : Obj} {n : String} {vs : Array Value} {Q : Unit → Shared → Prop} (ho : s.heap.get? it = some o) (hc : o.cls = .type n) (hd : o.data = .fields vs)
    (hn : ["enumerate", "zip", "dict_itemiterator", "dict_reverseitemiterator", "odict_iterator", "itertools.zip_longest", "itertools.pairwise"].contains n = false) (hQ : Q () s) : wpAny M A (letOwnedTupleGo tg (.ref it) u) Q E s := by
  unfold letOwnedTupleGo
  cases tg <;> first
    | exact wpAny_pure hQ
    | (cases u <;> first
        | exact wpAny_pure hQ
        | (refine wpAny_bind (wpAny_load ho ?_)
           rw [hc, hd]
           show wpAny M A (if (["enumerate", "zip", "dict_itemiterator", "dict_reverseitemiterator", "odict_iterator", "itertools.zip_longest", "itertools.pairwise"].contains n && vs[0]? == some (rawInt _)) = true then _ else _) Q E s
           rw [if_neg (by intro h; rw [hn, Bool.false_and] at h; cases h)]
           exact wpAny_pure hQ))

/-- the list at a, as it stands at each turn (a loop may append to it) -/
def Itl (K : PySem.W.Frag) (a : Addr) : It :=
  ⟨fun i H => ∃ xs x, SqL K H a xs ∧ xs[i]? = some x, fun i H x H' => H' = H ∧ ∀ xs, SqL K H a xs → xs[i]? = some x, fun i H => ∃ xs, SqL K H a xs ∧ xs.length ≤ i⟩
def Itt (K : PySem.W.Frag) (a : Addr) : It :=
  ⟨fun i H => ∃ xs x, SqT K H a xs ∧ xs[i]? = some x, fun i H x H' => H' = H ∧ ∀ xs, SqT K H a xs → xs[i]? = some x, fun i H => ∃ xs, SqT K H a xs ∧ xs.length ≤ i⟩
/-- lo, lo + 1, .. (n of them) -/
def Itr (lo : Int) (n : Nat) : It := ⟨fun i _ => i < n, fun i H x H' => H' = H ∧ x = .int (lo + i), fun i _ => n ≤ i⟩
theorem turn_list {P : Program} {w : World} {K : PySem.W.Frag} {tg : Expr} (a it : Addr) : Turn P w K tg (Itl K a) [it] it (fun i h => h.IsListIter it a i) where
  mem := by simp
  obj := fun i h st b hb => by
    have e : b = it := by simpa using hb
    subst e
    obtain ⟨o, e, c, d⟩ := st
    exact ⟨o, e, fun v z => by rw [d] at z; cases z⟩
  keep := fun i h h' st k => st.at fun o e => k it (by simp) o e
  item := by
    intro X hP hw hK hc i pins s σ H E I hf st hg
    subst hP hw hK
    obtain ⟨xs, x, hq, hx⟩ := hg
    obtain ⟨its, rv, p, hz⟩ := I.list hq
    obtain ⟨u, hu, ru⟩ := rv.get hx
    obtain ⟨f0, f1, f2, f3, f4, f5⟩ := hf it (by simp)
    refine wpAny_pyNext_list_item st p.isList (x := u) (by simpa using hu) fun h' st' sb => ?_
    have I1 : Inv X pins σ H { s with heap := h' } := I.turned (t' := s.toks) (fun b o hb e => (sb.2 b hb).trans e) f0 f1 f3 f4 f5
    obtain ⟨o, e, c, d⟩ := id st'
    exact ⟨u, rfl, go_of (s := { s with heap := h' }) e c d (by decide) ⟨x, H, I1, ru, ⟨rfl, fun ys hy => by rw [I.list_inj hy hq]; exact hx⟩, st', fun b hb => (hf b hb).1⟩⟩
  done := by
    intro X hP hw hK hc i pins s σ H E I hf st hg
    subst hP hw hK
    obtain ⟨xs, hq, hx⟩ := hg
    obtain ⟨its, rv, p, hz⟩ := I.list hq
    obtain ⟨f0, f1, f2, f3, f4, f5⟩ := hf it (by simp)
    have hl := rv.length
    exact wpAny_pyNext_list_end (I.ok.hd hc) st p.isList (by simp; omega) fun h' eb => ⟨rfl, I.turned (t' := s.toks) (fun b o hb e => eb b o hb e) f0 f1 f3 f4 f5⟩
  self := fun _ _ _ _ _ st h => wpAny_pyIter_listiter st h
theorem turn_tuple {P : Program} {w : World} {K : PySem.W.Frag} {tg : Expr} (a it : Addr) : Turn P w K tg (Itt K a) [it] it (fun i h => h.IsTupleIter it a i) where
  mem := by simp
  obj := fun i h st b hb => by
    have e : b = it := by simpa using hb
    subst e
    obtain ⟨o, e, c, d⟩ := st
    exact ⟨o, e, fun v z => by rw [d] at z; cases z⟩
  keep := fun i h h' st k => st.at fun o e => k it (by simp) o e
  item := by
    intro X hP hw hK hc i pins s σ H E I hf st hg
    subst hP hw hK
    obtain ⟨xs, x, hq, hx⟩ := hg
    obtain ⟨its, rv, p, hz⟩ := I.tuple hq
    obtain ⟨u, hu, ru⟩ := rv.get hx
    obtain ⟨f0, f1, f2, f3, f4, f5⟩ := hf it (by simp)
    refine wpAny_pyNext_tuple_item st (show s.heap.IsTuple a its.toArray from p) (x := u) (by simpa using hu) fun h' st' sb => ?_
    have I1 : Inv X pins σ H { s with heap := h' } := I.turned (t' := s.toks) (fun b o hb e => (sb.2 b hb).trans e) f0 f1 f3 f4 f5
    obtain ⟨o, e, c, d⟩ := id st'
    exact ⟨u, rfl, go_of (s := { s with heap := h' }) e c d (by decide) ⟨x, H, I1, ru, ⟨rfl, fun ys hy => by rw [I.tuple_inj hy hq]; exact hx⟩, st', fun b hb => (hf b hb).1⟩⟩
  done := by
    intro X hP hw hK hc i pins s σ H E I hf st hg
    subst hP hw hK
    obtain ⟨xs, hq, hx⟩ := hg
    obtain ⟨its, rv, p, hz⟩ := I.tuple hq
    obtain ⟨f0, f1, f2, f3, f4, f5⟩ := hf it (by simp)
    have hl := rv.length
    exact wpAny_pyNext_tuple_end (I.ok.hd hc) st (show s.heap.IsTuple a its.toArray from p) (by simp; omega) fun h' eb => ⟨rfl, I.turned (t' := s.toks) (fun b o hb e => eb b o hb e) f0 f1 f3 f4 f5⟩
  self := fun _ _ _ _ _ st h => wpAny_pyIter_tupleiter st h
theorem turn_range {P : Program} {w : World} {K : PySem.W.Frag} {tg : Expr} (it : Addr) (lo : Int) (n : Nat) : Turn P w K tg (Itr lo n) [it] it (fun i h => IsRangeIter h it (lo + (i : Nat) * 1) ((n : Int) - (i : Nat)) 1) where
  mem := by simp
  obj := fun i h st b hb => by
    have e : b = it := by simpa using hb
    subst e
    exact ⟨_, st, fun v z => by
      have z' : Data.fields _ = Data.cell v := z
      cases z'⟩
  keep := fun i h h' st k => k it (by simp) _ st
  item := by
    intro X hP hw hK hc i pins s σ H E I hf st hg
    subst hP hw hK
    obtain ⟨f0, f1, f2, f3, f4, f5⟩ := hf it (by simp)
    have W := Walks.range (prog := X.prog) (w := X.w) (I.ok.hd hc) it lo 1 n
    refine W.item i s _ _ hg st fun v h' tk hv st' kk => ?_
    obtain ⟨t, rfl⟩ := hv
    have I1 : Inv X pins σ H { s with heap := h', toks := tk } := I.turned (fun b o hb e => kk b o (by simpa using hb) e) f0 f1 f3 f4 f5
    refine ⟨_, rfl, go_of (s := { s with heap := h', toks := tk }) (n := "range_iterator") st' rfl rfl (by decide) ⟨.int (lo + i), H, I1, ⟨t, ?_⟩, ⟨rfl, rfl⟩, st', fun b hb => (hf b hb).1⟩⟩
    rw [Int.mul_one]
  done := by
    intro X hP hw hK hc i pins s σ H E I hf st hg
    subst hP hw hK
    obtain ⟨f0, f1, f2, f3, f4, f5⟩ := hf it (by simp)
    exact wpAny_pyNext_range_end (I.ok.hd hc) st (by have : n ≤ i := hg; omega) fun h' eb => ⟨rfl, I.turned (t' := s.toks) (fun b o hb e => eb b o hb e) f0 f1 f3 f4 f5⟩
  self := fun _ _ _ _ _ st h => wpAny_pyIter_rangeiter st h
end L2

namespace L2
open PySem PySem.Spec PyProof.Rows
section
variable {X : Cx} {tg : Expr}
def iList (K : PySem.W.Frag) (tl : TE) : TI := fun σ H R => tl σ H fun x H1 => ∃ a, x = .ref a ∧ (∃ xs, SqL K H1 a xs) ∧ R (Itl K a) H1
def iTup (K : PySem.W.Frag) (tl : TE) : TI := fun σ H R => tl σ H fun x H1 => ∃ a, x = .ref a ∧ (∃ xs, SqT K H1 a xs) ∧ R (Itt K a) H1
theorem pi_list {l : Expr} {tl : TE} (hl : PE X l tl) : PI X tg l (iList X.K tl) := by
  intro pins s σ H R I h
  refine thn (hl pins s σ H _ I h) fun v s1 ⟨x, H1, I1, r1, q1⟩ => ?_
  obtain ⟨a, e, ⟨xs, hq⟩, q⟩ := q1
  subst e
  cases r1
  obtain ⟨its, rv, p, hz⟩ := I1.list hq
  refine wpAny_pyIter_list p.isList ?_
  refine ⟨s1.heap.objs.size, [s1.heap.objs.size], _, _, H1, rfl, I1.kept (t' := s1.toks) fun b o e => Heap.get?_push_of_some _ e, turn_list a _, ⟨_, Heap.get?_push_size _ rfl, rfl, rfl⟩, fun b hb => ?_, q⟩
  have e : b = s1.heap.objs.size := by simpa using hb
  subst e
  exact I1.fpOk (Nat.le_refl _) (I1.hok.fresh (Nat.le_refl _))
theorem pi_tup {l : Expr} {tl : TE} (hl : PE X l tl) : PI X tg l (iTup X.K tl) := by
  intro pins s σ H R I h
  refine thn (hl pins s σ H _ I h) fun v s1 ⟨x, H1, I1, r1, q1⟩ => ?_
  obtain ⟨a, e, ⟨xs, hq⟩, q⟩ := q1
  subst e
  cases r1
  obtain ⟨its, rv, p, hz⟩ := I1.tuple hq
  refine wpAny_pyIter_tuple (show s1.heap.IsTuple a its.toArray from p) ?_
  refine ⟨s1.heap.objs.size, [s1.heap.objs.size], _, _, H1, rfl, I1.kept (t' := s1.toks) fun b o e => Heap.get?_push_of_some _ e, turn_tuple a _, ⟨_, Heap.get?_push_size _ rfl, rfl, rfl⟩, fun b hb => ?_, q⟩
  have e : b = s1.heap.objs.size := by simpa using hb
  subst e
  exact I1.fpOk (Nat.le_refl _) (I1.hok.fresh (Nat.le_refl _))
/-- a range object just made, walked -/
theorem range_it {pins : List (Addr × Obj)} {σ : St} {H : Hp} {s : Shared} {R : It → Hp → Prop} {E : Value → Shared → Prop} {lo hi : Int} {t u v : Tok} {tk : Nat} (I : Inv X pins σ H s) (h1 : -(2 ^ 62) ≤ lo) (h2 : lo < 2 ^ 62) (h3 : -(2 ^ 62) ≤ hi) (h4 : hi < 2 ^ 62)
    (q : R (Itr lo (hi - lo).toNat) H) : wpAny (model X.prog X.w) X.A (pyIter (.ref s.heap.objs.size)) (PIE X pins σ tg R) E { s with heap := s.heap.push { cls := .type "range", data := .fields #[.int lo t, .int hi u, .int 1 v] }, toks := tk } := by
  refine wpAny_pyIter_range (IsRange.new ..) (small_one h1 h2 h3 h4) ?_
  have I1 : Inv X pins σ H { s with heap := s.heap.push { cls := .type "range", data := .fields #[.int lo t, .int hi u, .int 1 v] }, toks := tk } := I.kept fun b o e => Heap.get?_push_of_some _ e
  refine ⟨(s.heap.push { cls := .type "range", data := .fields #[.int lo t, .int hi u, .int 1 v] }).objs.size, [(s.heap.push { cls := .type "range", data := .fields #[.int lo t, .int hi u, .int 1 v] }).objs.size], _, _, H, rfl,
    I1.kept (t' := tk) fun b o e => Heap.get?_push_of_some _ e, turn_range _ lo (hi - lo).toNat, ?_, fun b hb => ?_, q⟩
  · have e1 : lo + ((0 : Nat) : Int) * 1 = lo := by simp
    have e2 : (((hi - lo).toNat : Nat) : Int) - ((0 : Nat) : Int) = Builtin.Range.rangeSize lo hi 1 := by rw [rangeSize_one]; split <;> omega
    show IsRangeIter _ _ (lo + ((0 : Nat) : Int) * 1) ((((hi - lo).toNat : Nat) : Int) - ((0 : Nat) : Int)) 1
    rw [e1, e2]
    exact Heap.get?_push_size _ rfl
  · have e : b = (s.heap.push { cls := .type "range", data := .fields #[.int lo t, .int hi u, .int 1 v] }).objs.size := by simpa using hb
    subst e
    exact I1.fpOk (Nat.le_refl _) (I1.hok.fresh (Nat.le_refl _))
def iRng1 (ta : TA) : TI := fun σ H R => ta σ H fun vs H1 => ∃ j : Int, vs = [.int j] ∧ -(2 ^ 62) ≤ j ∧ j < 2 ^ 62 ∧ R (Itr 0 j.toNat) H1
def iRng2 (ta : TA) : TI := fun σ H R => ta σ H fun vs H1 => ∃ i j : Int, vs = [.int i, .int j] ∧ (-(2 ^ 62) ≤ i ∧ i < 2 ^ 62 ∧ -(2 ^ 62) ≤ j ∧ j < 2 ^ 62) ∧ R (Itr i (j - i).toNat) H1
theorem pi_range1 {a : Expr} {ta : TA} {p pos : Pos} (hg : Gl X "range") (hm : X.mg "range" = none) (ha : PA X [a] ta) (hs : starEach [a] X.env = [(false, eval a X.env)] := by rfl) : PI X tg (.Call (.Name "range" p) [a] [] pos) (iRng1 ta) := by
  intro pins s σ H R I h
  refine Call_ (ld_blt I hg hm boot_range (PyProof.Rows.callWith_type1 (thn (ha pos pins s σ H _ I h) fun us s1 ⟨vs, H1, I1, r1, q1⟩ => ?_) hs rfl))
  obtain ⟨j, e, q1, q2, q⟩ := q1
  subst e
  cases r1 with
  | cons r rr =>
    cases rr
    obtain ⟨t, rfl⟩ := r
    exact call_range_1 (range_it I1 (by omega) (by omega) q1 q2 (by simpa using q))
theorem pi_range2 {a b : Expr} {ta : TA} {p pos : Pos} (hg : Gl X "range") (hm : X.mg "range" = none) (ha : PA X [a, b] ta) (hs : starEach [a, b] X.env = [(false, eval a X.env), (false, eval b X.env)] := by rfl) (hs2 : starEach [b] X.env = [(false, eval b X.env)] := by rfl) :
    PI X tg (.Call (.Name "range" p) [a, b] [] pos) (iRng2 ta) := by
  intro pins s σ H R I h
  refine Call_ (ld_blt I hg hm boot_range (PyProof.Rows.callWith_type1 (thn (ha pos pins s σ H _ I h) fun us s1 ⟨vs, H1, I1, r1, q1⟩ => ?_) (by rw [hs, hs2]) (by rw [hs2]; rfl)))
  obtain ⟨i, j, e, ⟨q1, q2, q3, q4⟩, q⟩ := q1
  subst e
  cases r1 with
  | cons r rr =>
    cases rr with
    | cons r' rr =>
      cases rr
      obtain ⟨t, rfl⟩ := r
      obtain ⟨t', rfl⟩ := r'
      exact call_range_2 (range_it I1 q1 q2 q3 q4 q)

/-! ### for -/
/-- W: the invariant by the turn and a measure; N: what the body is to reach -/
def tFor (wi : TI) (g : TG) (tb : TS) : TS := fun D σ H => wi σ H fun J H1 => ∃ W : Nat → Nat → St → Hp → Prop, (∃ m, W 0 m σ H1) ∧ ∀ i m σ H, W i m σ H →
  (J.stop i H ∧ D.nx σ H) ∨ (J.go i H ∧ ∃ N : St → Hp → Prop, (∀ σ' H', N σ' H' → ∃ m', m' < m ∧ W (i + 1) m' σ' H') ∧ ∀ x H', J.yld i H x H' → g x σ H' fun σ2 H2 => tb { D with nx := N, ct := N, bk := D.nx } σ2 H2)
/-- the records at fp as they stand -/
def pinsAt (fp : List Addr) (h : Heap) : List (Addr × Obj) := fp.filterMap fun b => (h.get? b).map fun o => (b, o)
theorem mem_pinsAt {fp : List Addr} {h : Heap} {b : Addr} {o : Obj} (hb : b ∈ fp) (e : h.get? b = some o) : (b, o) ∈ pinsAt fp h := List.mem_filterMap.mpr ⟨b, hb, by rw [e]; rfl⟩
theorem of_pinsAt {fp : List Addr} {h : Heap} {p : Addr × Obj} (hp : p ∈ pinsAt fp h) : p.1 ∈ fp ∧ h.get? p.1 = some p.2 := by
  obtain ⟨b, hb, e⟩ := List.mem_filterMap.mp hp
  cases q : h.get? b with
  | none => rw [q] at e; cases e
  | some o =>
    rw [q] at e
    have e' : (b, o) = p := Option.some.inj e
    subst e'
    exact ⟨hb, q⟩
theorem Inv.pinned {pins : List (Addr × Obj)} {σ : St} {H : Hp} {s : Shared} {fp : List Addr} (I : Inv X pins σ H s) (hf : ∀ b ∈ fp, FpOk X pins H b) (ho : ∀ b ∈ fp, ∃ o, s.heap.get? b = some o ∧ ∀ v, o.data ≠ .cell v) : Inv X (pins ++ pinsAt fp s.heap) σ H s :=
  I.pins_of fun p hp => (List.mem_append.mp hp).elim (fun z => I.pin p (List.mem_append_right _ z)) fun z => by
    obtain ⟨hb, e⟩ := of_pinsAt z
    obtain ⟨f0, f1, f2, _⟩ := hf p.1 hb
    obtain ⟨o, e', d⟩ := ho p.1 hb
    rw [e] at e'; cases e'
    exact ⟨e, f0, f1, f2, d⟩
theorem Inv.unpinned {pins pl : List (Addr × Obj)} {σ : St} {H : Hp} {s : Shared} (I : Inv X (pins ++ pl) σ H s) : Inv X pins σ H s := I.pins_of fun p hp => I.pin p (List.mem_append_right _ (List.mem_append_left _ hp))
theorem ps_for {iter : Expr} {body : List Stmt} {wi : TI} {g : TG} {tb : TS} {pos : Pos} (hp : PassesOwn (model X.prog X.w) X.A X.env X.xe) (hc : X.calm = true) (hi : PI X tg iter wi) (hg : PG X tg g) (hb : PSs X body tb)
    (hs : ∀ x, foldedSetIterable iter X.env x = pure x := by intro _; rfl) : PS X (.For tg iter body [] pos) (tFor wi g tb) := by
  intro pins s σ H D I h
  refine wpAny_For (thn (hi pins s σ H _ I h) fun v s1 h1 => thn h1 fun itv s2 h2 => ?_) hs
  obtain ⟨it, fp, tn, J, H2, e, I2, T, st2, f2, W, ⟨m0, w0⟩, turn⟩ := h2
  subst e
  -- what stays true of the iterator's objects through the loop
  have stat : ∀ {H' : Hp}, (∀ b ∈ fp, H' b = none) → ∀ b ∈ fp, FpOk X pins H' b := fun hn b hb => ⟨hn b hb, (f2 b hb).2⟩
  refine codeAny_forLoop_any (fun n s' => ∃ i σ' H', Inv X pins σ' H' s' ∧ tn i s'.heap ∧ (∀ b ∈ fp, H' b = none) ∧ W i n σ' H') ?_ m0 ⟨0, σ, H2, I2, st2, fun b hb => (f2 b hb).1, w0⟩
  rintro n s3 ⟨i, σ3, H3, I3, st3, fr3, w3⟩
  rcases turn i n σ3 H3 w3 with ⟨stop, qn⟩ | ⟨go, N, hN, step⟩
  · refine wpAny_passesOwn hp (thn (T.done X rfl rfl rfl hc i pins s3 σ3 H3 X.xe I3 (stat fr3) st3 stop) fun r s4 ⟨hr, I4⟩ => ?_)
    subst hr
    exact wpAny_execs_nil ⟨σ3, H3, I4, qn⟩
  · refine wpAny_passesOwn hp (thn (T.item X rfl rfl rfl hc i pins s3 σ3 H3 X.xe I3 (stat fr3) st3 go) fun r s4 ⟨u, hr, h4⟩ => ?_)
    subst hr
    refine wpAny_passesOwn hp (thn h4 fun _ s5 ⟨x, H5, I5, r5, y5, st5, fr5⟩ => ?_)
    have I5' := I5.pinned (stat fr5) (T.obj _ _ st5)
    refine wpAny_passesOwn hp (thn (hg _ s5 σ3 H5 x u _ I5' r5 (step x H5 y5)) fun _ s6 ⟨σ6, H6, I6, q6⟩ => ?_)
    refine wpAny_passesOwn hp (thn (hb _ s6 σ6 H6 _ I6 q6) fun f s7 q7 => ?_)
    have again : ∀ {σ7 : St} {H7 : Hp}, Inv X (pins ++ pinsAt fp s5.heap) σ7 H7 s7 → N σ7 H7 → ∃ m, m < n ∧ ∃ i σ' H', Inv X pins σ' H' s7 ∧ tn i s7.heap ∧ (∀ b ∈ fp, H' b = none) ∧ W i m σ' H' := fun {σ7 H7} I7 n7 => by
      obtain ⟨m', hm, w7⟩ := hN σ7 H7 n7
      refine ⟨m', hm, i + 1, σ7, H7, I7.unpinned, T.keep _ _ _ st5 fun b hb o e => (I7.pin (b, o) (List.mem_append_right _ (List.mem_append_right _ (mem_pinsAt hb e)))).1, fun b hb => ?_, w7⟩
      obtain ⟨o, e, d⟩ := T.obj _ _ st5 b hb
      exact (I7.pin (b, o) (List.mem_append_right _ (List.mem_append_right _ (mem_pinsAt hb e)))).2.1
    cases f with
    | next => obtain ⟨σ7, H7, I7, n7⟩ := q7; exact again I7 n7
    | cont => obtain ⟨σ7, H7, I7, n7⟩ := q7; exact again I7 n7
    | brk => obtain ⟨σ7, H7, I7, q7⟩ := q7; exact ⟨σ7, H7, I7.unpinned, q7⟩
    | ret v => obtain ⟨x7, σ7, H7, I7, r7, q7⟩ := q7; exact ⟨x7, σ7, H7, I7.unpinned, r7, q7⟩
end

/-! ### the forms one uses -/
/-- over a list that the body leaves as it is -/
theorem for_list {K : PySem.W.Frag} {a : Addr} {xs : List V} {g : TG} {tb : TS} {D : Ends} {σ : St} {H : Hp} (Pv : Nat → St → Hp → Prop) (h0 : Pv 0 σ H) (hl : ∀ i σ H, i ≤ xs.length → Pv i σ H → SqL K H a xs)
    (hs : ∀ i x σ H, xs[i]? = some x → Pv i σ H → g x σ H fun σ2 H2 => tb { D with nx := Pv (i + 1), ct := Pv (i + 1), bk := D.nx } σ2 H2) (hd : ∀ σ H, Pv xs.length σ H → D.nx σ H) :
    ∃ W : Nat → Nat → St → Hp → Prop, (∃ m, W 0 m σ H) ∧ ∀ i m σ H, W i m σ H →
      ((Itl K a).stop i H ∧ D.nx σ H) ∨ ((Itl K a).go i H ∧ ∃ N : St → Hp → Prop, (∀ σ' H', N σ' H' → ∃ m', m' < m ∧ W (i + 1) m' σ' H') ∧ ∀ x H', (Itl K a).yld i H x H' → g x σ H' fun σ2 H2 => tb { D with nx := N, ct := N, bk := D.nx } σ2 H2) := by
  refine ⟨fun i m σ H => m = xs.length - i ∧ i ≤ xs.length ∧ Pv i σ H, ⟨xs.length, by simp, Nat.zero_le _, h0⟩, ?_⟩
  rintro i m σ H ⟨rfl, hi, p⟩
  have q := hl i σ H hi p
  by_cases hlt : i < xs.length
  · refine .inr ⟨⟨xs, xs[i], q, by simp [hlt]⟩, Pv (i + 1), fun σ' H' p' => ⟨xs.length - (i + 1), by omega, rfl, hlt, p'⟩, fun x H' y => ?_⟩
    obtain ⟨e, y⟩ := y
    subst e
    exact hs i x σ _ (y xs q) p
  · have e : i = xs.length := by omega
    subst e
    exact .inl ⟨⟨xs, q, Nat.le_refl _⟩, hd σ H p⟩
theorem for_tup {K : PySem.W.Frag} {a : Addr} {xs : List V} {g : TG} {tb : TS} {D : Ends} {σ : St} {H : Hp} (Pv : Nat → St → Hp → Prop) (h0 : Pv 0 σ H) (hl : ∀ i σ H, i ≤ xs.length → Pv i σ H → SqT K H a xs)
    (hs : ∀ i x σ H, xs[i]? = some x → Pv i σ H → g x σ H fun σ2 H2 => tb { D with nx := Pv (i + 1), ct := Pv (i + 1), bk := D.nx } σ2 H2) (hd : ∀ σ H, Pv xs.length σ H → D.nx σ H) :
    ∃ W : Nat → Nat → St → Hp → Prop, (∃ m, W 0 m σ H) ∧ ∀ i m σ H, W i m σ H →
      ((Itt K a).stop i H ∧ D.nx σ H) ∨ ((Itt K a).go i H ∧ ∃ N : St → Hp → Prop, (∀ σ' H', N σ' H' → ∃ m', m' < m ∧ W (i + 1) m' σ' H') ∧ ∀ x H', (Itt K a).yld i H x H' → g x σ H' fun σ2 H2 => tb { D with nx := N, ct := N, bk := D.nx } σ2 H2) := by
  refine ⟨fun i m σ H => m = xs.length - i ∧ i ≤ xs.length ∧ Pv i σ H, ⟨xs.length, by simp, Nat.zero_le _, h0⟩, ?_⟩
  rintro i m σ H ⟨rfl, hi, p⟩
  have q := hl i σ H hi p
  by_cases hlt : i < xs.length
  · refine .inr ⟨⟨xs, xs[i], q, by simp [hlt]⟩, Pv (i + 1), fun σ' H' p' => ⟨xs.length - (i + 1), by omega, rfl, hlt, p'⟩, fun x H' y => ?_⟩
    obtain ⟨e, y⟩ := y
    subst e
    exact hs i x σ _ (y xs q) p
  · have e : i = xs.length := by omega
    subst e
    exact .inl ⟨⟨xs, q, Nat.le_refl _⟩, hd σ H p⟩
theorem for_range {lo : Int} {n : Nat} {g : TG} {tb : TS} {D : Ends} {σ : St} {H : Hp} (Pv : Nat → St → Hp → Prop) (h0 : Pv 0 σ H)
    (hs : ∀ i σ H, i < n → Pv i σ H → g (.int (lo + i)) σ H fun σ2 H2 => tb { D with nx := Pv (i + 1), ct := Pv (i + 1), bk := D.nx } σ2 H2) (hd : ∀ σ H, Pv n σ H → D.nx σ H) :
    ∃ W : Nat → Nat → St → Hp → Prop, (∃ m, W 0 m σ H) ∧ ∀ i m σ H, W i m σ H →
      ((Itr lo n).stop i H ∧ D.nx σ H) ∨ ((Itr lo n).go i H ∧ ∃ N : St → Hp → Prop, (∀ σ' H', N σ' H' → ∃ m', m' < m ∧ W (i + 1) m' σ' H') ∧ ∀ x H', (Itr lo n).yld i H x H' → g x σ H' fun σ2 H2 => tb { D with nx := N, ct := N, bk := D.nx } σ2 H2) := by
  refine ⟨fun i m σ H => m = n - i ∧ i ≤ n ∧ Pv i σ H, ⟨n, by simp, Nat.zero_le _, h0⟩, ?_⟩
  rintro i m σ H ⟨rfl, hi, p⟩
  by_cases hlt : i < n
  · refine .inr ⟨hlt, Pv (i + 1), fun σ' H' p' => ⟨n - (i + 1), by omega, rfl, hlt, p'⟩, fun x H' y => ?_⟩
    obtain ⟨e, y⟩ := y
    subst e y
    exact hs i σ _ hlt p
  · have e : i = n := by omega
    subst e
    exact .inl ⟨Nat.le_refl _, hd σ H p⟩
/-- while, by a word and a measure of the state -/
theorem while_by {c : TT} {tb : TS} {D : Ends} {σ : St} {H : Hp} (Pv : St → Hp → Prop) (μ : St → Hp → Nat) (h0 : Pv σ H)
    (hs : ∀ σ H, Pv σ H → c σ H fun b H1 => if b = true then tb { D with nx := fun σ' H' => Pv σ' H' ∧ μ σ' H' < μ σ H, ct := fun σ' H' => Pv σ' H' ∧ μ σ' H' < μ σ H, bk := D.nx } σ H1 else D.nx σ H1)
    (mono : ∀ σ H Q Q', (∀ b H1, Q b H1 → Q' b H1) → c σ H Q → c σ H Q') : tWhile c tb D σ H := by
  refine ⟨fun m σ H => m = μ σ H ∧ Pv σ H, ⟨_, rfl, h0⟩, ?_⟩
  rintro m σ H ⟨rfl, p⟩
  refine mono σ H _ _ (fun b H1 q => ?_) (hs σ H p)
  cases b with
  | true => exact ⟨_, fun σ' H' ⟨p', l⟩ => ⟨_, l, rfl, p'⟩, q⟩
  | false => exact q
end L2

namespace L2
open PySem PySem.Spec PyProof.Rows

abbrev R2 := V → V → Hp → VK → Prop
/-- a two-place operation on values: f is binaryOp op, inplaceOp op or compareOp op -/
def OpR (X : Cx) (f : Value → Value → Sem Value) (r : R2) : Prop :=
  ∀ (pins : List (Addr × Obj)) (s : Shared) (σ : St) (H : Hp) (x y : V) (v u : Value) (Q : VK), Inv X pins σ H s → RelV x v → RelV y u → r x y H Q →
    wpAny (model X.prog X.w) X.A (f v u) (EP X pins σ Q) X.xe s
/-- a one-place operation -/
def UnR (X : Cx) (f : Value → Sem Value) (r : V → Hp → VK → Prop) : Prop :=
  ∀ (pins : List (Addr × Obj)) (s : Shared) (σ : St) (H : Hp) (x : V) (v : Value) (Q : VK), Inv X pins σ H s → RelV x v → r x H Q →
    wpAny (model X.prog X.w) X.A (f v) (EP X pins σ Q) X.xe s
/-- a call of a value that is known (a builtin, a type) with values -/
def CallR (X : Cx) (f : Value) (r : List V → Hp → VK → Prop) : Prop :=
  ∀ (pins : List (Addr × Obj)) (s : Shared) (σ : St) (H : Hp) (xs : List V) (us : List Value) (Q : VK), Inv X pins σ H s → Vals xs us → r xs H Q →
    wpAny (model X.prog X.w) X.A (call f us) (EP X pins σ Q) X.xe s
/-- a value's truth -/
def TruR (X : Cx) (r : V → Hp → (Bool → Hp → Prop) → Prop) : Prop :=
  ∀ (pins : List (Addr × Obj)) (s : Shared) (σ : St) (H : Hp) (x : V) (v : Value) (Q : Bool → Hp → Prop), Inv X pins σ H s → RelV x v → r x H Q →
    wpAny (model X.prog X.w) X.A (truthy v) (TP X pins σ Q) X.xe s

def tOp (r : R2) (ta tb : TE) : TE := fun σ H Q => ta σ H fun x H1 => tb σ H1 fun y H2 => r x y H2 Q
def tUn (r : V → Hp → VK → Prop) (ta : TE) : TE := fun σ H Q => ta σ H fun x H1 => r x H1 Q
/-- ints in, under C, and a value out -/
def rI (C : Int → Int → Prop) (g : Int → Int → V) : R2 := fun x y H Q => ∃ i j, x = .int i ∧ y = .int j ∧ C i j ∧ Q (g i j) H
def rI0 (g : Int → Int → V) : R2 := fun x y H Q => ∃ i j, x = .int i ∧ y = .int j ∧ Q (g i j) H
def rU (g : Int → V) : V → Hp → VK → Prop := fun x H Q => ∃ i, x = .int i ∧ Q (g i) H

section
variable {X : Cx} {a b c : Expr} {ta tb tc : TE} {pos : Pos}

theorem binT (ha : PE X a ta) (hb : PE X b tb) {pins : List (Addr × Obj)} {s : Shared} {σ : St} {H : Hp} {R : V → V → Hp → Prop} (I : Inv X pins σ H s)
    (h : ta σ H fun x H1 => tb σ H1 fun y H2 => R x y H2) {Q : Value → Shared → Prop} {f : Value → Value → Sem Value}
    (hf : ∀ v u s2 x y H2, Inv X pins σ H2 s2 → RelV x v → RelV y u → R x y H2 → wpAny (model X.prog X.w) X.A (f v u) Q X.xe s2) :
    wpAny (model X.prog X.w) X.A (eval a X.env) (fun v s₁ => wpAny (model X.prog X.w) X.A (eval b X.env) (fun u s₂ => wpAny (model X.prog X.w) X.A (f v u) Q X.xe s₂) X.xe s₁) X.xe s := by
  refine thn (ha pins s σ H _ I h) fun v s1 ⟨x, H1, I1, r1, q1⟩ => ?_
  refine thn (hb pins s1 σ H1 _ I1 q1) fun u s2 ⟨y, H2, I2, r2, q2⟩ => ?_
  exact hf v u s2 x y H2 I2 r1 r2 q2

theorem pe_op {op : Operator} {r : R2} (ho : OpR X (binaryOp op) r) (ha : PE X a ta) (hb : PE X b tb) : PE X (.BinOp a op b pos) (tOp r ta tb) := by
  intro pins s σ H Q I h
  exact wpAny_BinOp (binT ha hb I h fun v u s2 x y H2 I2 rx ry q => ho pins s2 σ H2 x y v u Q I2 rx ry q)
theorem pe_un {op : UnaryOp} {r : V → Hp → VK → Prop} (ho : UnR X (unaryOp op) r) (ha : PE X a ta) : PE X (.UnaryOp op a pos) (tUn r ta) := by
  intro pins s σ H Q I h
  exact UnaryOp_ (thn (ha pins s σ H _ I h) fun v s1 ⟨x, H1, I1, r1, q1⟩ => ho pins s1 σ H1 x v Q I1 r1 q1)
/-- a op= e at a name: the name's slot i -/
theorem augR {op : Operator} {r : R2} (ho : OpR X (inplaceOp op) r) {pins : List (Addr × Obj)} {s : Shared} {σ : St} {H : Hp} {x y : V} {v u : Value} {Q : VK} (I : Inv X pins σ H s)
    (rx : RelV x v) (ry : RelV y u) (q : r x y H Q) : wpAny (model X.prog X.w) X.A (inplaceOp op v u) (EP X pins σ Q) X.xe s := ho pins s σ H x y v u Q I rx ry q

/-! ### ints -/
theorem opI {f : Value → Value → Sem Value} {C : Int → Int → Prop} {g : Int → Int → Int}
    (rule : ∀ (i j : Int) (t u : Tok) (s : Shared) (Q : Value → Shared → Prop) (E : Value → Shared → Prop), C i j → Q (.int (g i j) s.toks) { s with toks := s.toks + 1 } → wpAny (model X.prog X.w) X.A (f (.int i t) (.int j u)) Q E s) :
    OpR X f (rI C fun i j => .int (g i j)) := by
  intro pins s σ H x y v u Q I rx ry h
  obtain ⟨i, j, rfl, rfl, hc, q⟩ := h
  obtain ⟨t, rfl⟩ := rx
  obtain ⟨t', rfl⟩ := ry
  exact rule i j t t' s _ _ hc ⟨.int (g i j), H, I.tok _, ⟨_, rfl⟩, q⟩
theorem opI0 {f : Value → Value → Sem Value} {g : Int → Int → Int}
    (rule : ∀ (i j : Int) (t u : Tok) (s : Shared) (Q : Value → Shared → Prop) (E : Value → Shared → Prop), Q (.int (g i j) s.toks) { s with toks := s.toks + 1 } → wpAny (model X.prog X.w) X.A (f (.int i t) (.int j u)) Q E s) :
    OpR X f (rI0 fun i j => .int (g i j)) := by
  intro pins s σ H x y v u Q I rx ry h
  obtain ⟨i, j, rfl, rfl, q⟩ := h
  obtain ⟨t, rfl⟩ := rx
  obtain ⟨t', rfl⟩ := ry
  exact rule i j t t' s _ _ ⟨.int (g i j), H, I.tok _, ⟨_, rfl⟩, q⟩
theorem opB0 {f : Value → Value → Sem Value} {g : Int → Int → Bool}
    (rule : ∀ (i j : Int) (t u : Tok) (s : Shared) (Q : Value → Shared → Prop) (E : Value → Shared → Prop), Q (.bool (g i j)) s → wpAny (model X.prog X.w) X.A (f (.int i t) (.int j u)) Q E s) :
    OpR X f (rI0 fun i j => .bl (g i j)) := by
  intro pins s σ H x y v u Q I rx ry h
  obtain ⟨i, j, rfl, rfl, q⟩ := h
  obtain ⟨t, rfl⟩ := rx
  obtain ⟨t', rfl⟩ := ry
  exact rule i j t t' s _ _ ⟨.bl (g i j), H, I, rfl, q⟩

def CDiv (i j : Int) : Prop := 0 < j ∧ j < 1073741824
def CDivN (i j : Int) : Prop := j ≠ 0 ∧ j.natAbs < 1073741824
def CPow (i j : Int) : Prop := 0 ≤ j ∧ j ≤ 1000000 ∧ i.natAbs < 2 ^ 64
def CMul (i j : Int) : Prop := (-(2 ^ 64) < i ∧ i < 2 ^ 64) ∨ (-(2 ^ 64) < j ∧ j < 2 ^ 64)
theorem CMul.ok {i j : Int} (h : CMul i j) : IntMulOk i j := by
  rcases h with ⟨h1, h2⟩ | ⟨h1, h2⟩
  · exact .of_left (intBits_le_64 h1 h2)
  · exact .of_right (intBits_le_64 h1 h2)
theorem two_pow_nn (k : Nat) : (0 : Int) ≤ 2 ^ k := by
  rw [two_pow_cast]
  exact Int.natCast_nonneg _

theorem op_add : OpR X (binaryOp .Add) (rI0 fun i j => .int (i + j)) := opI0 fun _ _ _ _ _ _ _ q => add_int q
theorem op_sub : OpR X (binaryOp .Sub) (rI0 fun i j => .int (i - j)) := opI0 fun _ _ _ _ _ _ _ q => sub_int q
theorem op_mul : OpR X (binaryOp .Mult) (rI CMul fun i j => .int (i * j)) := opI fun _ _ _ _ _ _ _ hc q => mul_int q hc.ok
/-- // by a positive divisor -/
theorem op_fdiv : OpR X (binaryOp .FloorDiv) (rI CDiv fun i j => .int (i / j)) := opI fun i j _ _ _ _ _ hc q => by
  have h1 : (0 : Int) < j := hc.1
  have h2 : j < 1073741824 := hc.2
  exact floordiv_int (by omega) (by rw [Int.fdiv_eq_ediv_of_nonneg i (by omega)]; exact q) (.inl (PyProof.noPylong_small (by omega)))
theorem op_fdivN : OpR X (binaryOp .FloorDiv) (rI CDivN fun i j => .int (i.fdiv j)) := opI fun _ _ _ _ _ _ _ hc q => floordiv_int hc.1 q (.inl (PyProof.noPylong_small hc.2))
/-- % by a positive divisor of any size -/
theorem op_mod : OpR X (binaryOp .Mod) (rI (fun _ j => 0 < j) fun i j => .int (i % j)) := opI fun i j _ _ _ _ _ hc q => by
  have h1 : (0 : Int) < j := hc
  exact mod_int' (by omega) (by rw [Int.fmod_eq_emod_of_nonneg i (by omega)]; exact q)
theorem op_modN : OpR X (binaryOp .Mod) (rI (fun _ j => j ≠ 0) fun i j => .int (i.fmod j)) := opI fun _ _ _ _ _ _ _ hc q => mod_int' hc q
theorem op_pow : OpR X (binaryOp .Pow) (rI CPow fun i j => .int (i ^ j.toNat)) := opI fun _ _ _ _ _ _ _ hc q => pow_int_small hc.1 hc.2.1 hc.2.2 q
theorem op_shl : OpR X (binaryOp .LShift) (rI CPow fun i j => .int (i * 2 ^ j.toNat)) := opI fun _ _ _ _ _ _ _ hc q => lshift_int_small hc.1 hc.2.1 hc.2.2 q
theorem op_shr : OpR X (binaryOp .RShift) (rI (fun _ j => 0 ≤ j) fun i j => .int (i / 2 ^ j.toNat)) := opI fun i j _ _ _ _ _ hc q =>
  rshift_int hc (by rw [Int.fdiv_eq_ediv_of_nonneg i (two_pow_nn _)]; exact q)
theorem op_and : OpR X (binaryOp .BitAnd) (rI0 fun i j => .int (Builtin.bitAnd i j)) := opI0 fun _ _ _ _ _ _ _ q => and_int q
theorem op_or : OpR X (binaryOp .BitOr) (rI0 fun i j => .int (Builtin.bitOr i j)) := opI0 fun _ _ _ _ _ _ _ q => or_int q
theorem op_xor : OpR X (binaryOp .BitXor) (rI0 fun i j => .int (Builtin.bitXor i j)) := opI0 fun _ _ _ _ _ _ _ q => xor_int q

theorem iop_add : OpR X (inplaceOp .Add) (rI0 fun i j => .int (i + j)) := opI0 fun _ _ _ _ _ _ _ q => iadd_int q
theorem iop_sub : OpR X (inplaceOp .Sub) (rI0 fun i j => .int (i - j)) := opI0 fun _ _ _ _ _ _ _ q => isub_int q
theorem iop_mul : OpR X (inplaceOp .Mult) (rI CMul fun i j => .int (i * j)) := opI fun _ _ _ _ _ _ _ hc q => imul_int q hc.ok
theorem iop_fdiv : OpR X (inplaceOp .FloorDiv) (rI CDiv fun i j => .int (i / j)) := opI fun i j _ _ _ _ _ hc q => by
  have h1 : (0 : Int) < j := hc.1
  have h2 : j < 1073741824 := hc.2
  exact ifloordiv_int (by omega) (by rw [Int.fdiv_eq_ediv_of_nonneg i (by omega)]; exact q) (.inl (PyProof.noPylong_small (by omega)))
theorem iop_mod : OpR X (inplaceOp .Mod) (rI (fun _ j => 0 < j) fun i j => .int (i % j)) := opI fun i j _ _ _ _ _ hc q => by
  have h1 : (0 : Int) < j := hc
  exact imod_int (by omega) (by rw [Int.fmod_eq_emod_of_nonneg i (by omega)]; exact q)
theorem iop_shl : OpR X (inplaceOp .LShift) (rI CPow fun i j => .int (i * 2 ^ j.toNat)) := opI fun _ _ _ _ _ _ _ hc q => ilshift_int_small hc.1 hc.2.1 hc.2.2 q
theorem iop_shr : OpR X (inplaceOp .RShift) (rI (fun _ j => 0 ≤ j) fun i j => .int (i / 2 ^ j.toNat)) := opI fun i j _ _ _ _ _ hc q =>
  irshift_int hc (by rw [Int.fdiv_eq_ediv_of_nonneg i (two_pow_nn _)]; exact q)
theorem iop_and : OpR X (inplaceOp .BitAnd) (rI0 fun i j => .int (Builtin.bitAnd i j)) := opI0 fun _ _ _ _ _ _ _ q => iand_int q
theorem iop_or : OpR X (inplaceOp .BitOr) (rI0 fun i j => .int (Builtin.bitOr i j)) := opI0 fun _ _ _ _ _ _ _ q => ior_int q
theorem iop_xor : OpR X (inplaceOp .BitXor) (rI0 fun i j => .int (Builtin.bitXor i j)) := opI0 fun _ _ _ _ _ _ _ q => ixor_int q

theorem unI {f : Value → Sem Value} {g : Int → Int}
    (rule : ∀ (i : Int) (t : Tok) (s : Shared) (Q : Value → Shared → Prop) (E : Value → Shared → Prop), Q (.int (g i) s.toks) { s with toks := s.toks + 1 } → wpAny (model X.prog X.w) X.A (f (.int i t)) Q E s) :
    UnR X f (rU fun i => .int (g i)) := by
  intro pins s σ H x v Q I rx h
  obtain ⟨i, rfl, q⟩ := h
  obtain ⟨t, rfl⟩ := rx
  exact rule i t s _ _ ⟨.int (g i), H, I.tok _, ⟨_, rfl⟩, q⟩
theorem un_neg : UnR X (unaryOp .USub) (rU fun i => .int (-i)) := unI fun _ _ _ _ _ q => neg_int q
theorem un_inv : UnR X (unaryOp .Invert) (rU fun i => .int (Builtin.bitNot i)) := unI fun _ _ _ _ _ q => invert_int q

/-! ### bools among ints: n += (a < b) -/
theorem op_add_ib : OpR X (binaryOp .Add) (fun x y H Q => ∃ i k, x = .int i ∧ y = .bl k ∧ Q (.int (i + b2i k)) H) := by
  intro pins s σ H x y v u Q I rx ry h
  obtain ⟨i, k, rfl, rfl, q⟩ := h
  obtain ⟨t, rfl⟩ := rx
  cases ry
  exact add_int_bool ⟨.int (i + b2i k), H, I.tok _, ⟨_, rfl⟩, q⟩
end

/-! ### comparisons -/
/-- the scalars that == tells apart as data does -/
def scal : V → V → Bool
  | .non, .non => true | .non, .int _ => true | .int _, .non => true | .non, .bl _ => true | .bl _, .non => true | .non, .str _ => true | .str _, .non => true
  | .int _, .int _ => true | .bl _, .bl _ => true | .str _, .str _ => true | .byt _, .byt _ => true
  | .int _, .str _ => true | .str _, .int _ => true | .bl _, .str _ => true | .str _, .bl _ => true
  | _, _ => false
def rEq : R2 := fun x y H Q => scal x y = true ∧ Q (.bl (decide (x = y))) H
def rNe : R2 := fun x y H Q => scal x y = true ∧ Q (.bl (!decide (x = y))) H

theorem dec_int {i j : Int} : decide (V.int i = V.int j) = (i == j) := by
  rw [Bool.eq_iff_iff]
  simp
theorem dec_bl {i j : Bool} : decide (V.bl i = V.bl j) = (i == j) := by
  rw [Bool.eq_iff_iff]
  simp
theorem dec_str {i j : Str} : decide (V.str i = V.str j) = (i == j) := by
  rw [Bool.eq_iff_iff]
  simp
theorem dec_byt {i j : Array UInt8} : decide (V.byt i = V.byt j) = (i.toList == j.toList) := by
  rw [Bool.eq_iff_iff]
  cases i
  cases j
  simp

section
variable {X : Cx} {a b c : Expr} {ta tb tc : TE} {pos : Pos}
theorem fin_bl {pins : List (Addr × Obj)} {σ : St} {H : Hp} {s : Shared} {Q : VK} {k k' : Bool} (I : Inv X pins σ H s) (q : Q (.bl k) H) (e : k = k') : EP X pins σ Q (.bool k') s := by
  subst e
  exact ⟨.bl k, H, I, rfl, q⟩
theorem op_eq : OpR X (compareOp .Eq) rEq := by
  intro pins s σ H x y v u Q I rx ry h
  obtain ⟨hs, q⟩ := h
  cases x with
  | non =>
    cases rx
    cases y with
    | non => cases ry; exact PySem.EqNone.eq_none_none (fin_bl I q (by simp))
    | bl j => cases ry; exact PySem.EqNone.eq_none_bool (fin_bl I q (by simp))
    | int j => obtain ⟨t', rfl⟩ := ry; exact PySem.EqNone.eq_none_int (fin_bl I q (by simp))
    | str j => obtain ⟨t', rfl⟩ := ry; exact PySem.EqNone.eq_none_str (fin_bl I q (by simp))
    | _ => exact absurd (show false = true from hs) Bool.false_ne_true
  | bl i =>
    cases rx
    cases y with
    | non => cases ry; exact PySem.EqNone.eq_bool_none (fin_bl I q (by simp))
    | bl j => cases ry; exact eq_bool (fin_bl I q dec_bl)
    | str j => obtain ⟨t', rfl⟩ := ry; exact PySem.EqMixed.eq_bool_str (fin_bl I q (by simp))
    | _ => exact absurd (show false = true from hs) Bool.false_ne_true
  | int i =>
    obtain ⟨t, rfl⟩ := rx
    cases y with
    | non => cases ry; exact PySem.EqNone.eq_int_none (fin_bl I q (by simp))
    | int j => obtain ⟨t', rfl⟩ := ry; exact eq_int (fin_bl I q dec_int)
    | str j => obtain ⟨t', rfl⟩ := ry; exact PySem.EqMixed.eq_int_str (fin_bl I q (by simp))
    | _ => exact absurd (show false = true from hs) Bool.false_ne_true
  | str i =>
    obtain ⟨t, rfl⟩ := rx
    cases y with
    | non => cases ry; exact PySem.EqNone.eq_str_none (fin_bl I q (by simp))
    | bl j => cases ry; exact PySem.EqMixed.eq_str_bool (fin_bl I q (by simp))
    | int j => obtain ⟨t', rfl⟩ := ry; exact PySem.EqMixed.eq_str_int (fin_bl I q (by simp))
    | str j => obtain ⟨t', rfl⟩ := ry; exact eq_str (fin_bl I q dec_str)
    | _ => exact absurd (show false = true from hs) Bool.false_ne_true
  | byt i =>
    obtain ⟨t, rfl⟩ := rx
    cases y with
    | byt j => obtain ⟨t', rfl⟩ := ry; exact PySem.W.eq_bytes (fin_bl I q dec_byt)
    | _ => exact absurd (show false = true from hs) Bool.false_ne_true
  | _ => cases y <;> exact absurd (show false = true from hs) Bool.false_ne_true
theorem op_ne : OpR X (compareOp .NotEq) rNe := by
  intro pins s σ H x y v u Q I rx ry h
  obtain ⟨hs, q⟩ := h
  cases x with
  | non =>
    cases rx
    cases y with
    | non => cases ry; exact PySem.EqNone.ne_none_none (fin_bl I q (by simp))
    | bl j => cases ry; exact PySem.EqNone.ne_none_bool (fin_bl I q (by simp))
    | int j => obtain ⟨t', rfl⟩ := ry; exact PySem.EqNone.ne_none_int (fin_bl I q (by simp))
    | str j => obtain ⟨t', rfl⟩ := ry; exact PySem.EqNone.ne_none_str (fin_bl I q (by simp))
    | _ => exact absurd (show false = true from hs) Bool.false_ne_true
  | bl i =>
    cases rx
    cases y with
    | non => cases ry; exact PySem.EqNone.ne_bool_none (fin_bl I q (by simp))
    | bl j => cases ry; exact ne_bool (fin_bl I q (congrArg not dec_bl))
    | str j => obtain ⟨t', rfl⟩ := ry; exact PySem.EqMixed.ne_bool_str (fin_bl I q (by simp))
    | _ => exact absurd (show false = true from hs) Bool.false_ne_true
  | int i =>
    obtain ⟨t, rfl⟩ := rx
    cases y with
    | non => cases ry; exact PySem.EqNone.ne_int_none (fin_bl I q (by simp))
    | int j => obtain ⟨t', rfl⟩ := ry; exact ne_int (fin_bl I q (congrArg not dec_int))
    | str j => obtain ⟨t', rfl⟩ := ry; exact PySem.EqMixed.ne_int_str (fin_bl I q (by simp))
    | _ => exact absurd (show false = true from hs) Bool.false_ne_true
  | str i =>
    obtain ⟨t, rfl⟩ := rx
    cases y with
    | non => cases ry; exact PySem.EqNone.ne_str_none (fin_bl I q (by simp))
    | bl j => cases ry; exact PySem.EqMixed.ne_str_bool (fin_bl I q (by simp))
    | int j => obtain ⟨t', rfl⟩ := ry; exact PySem.EqMixed.ne_str_int (fin_bl I q (by simp))
    | str j => obtain ⟨t', rfl⟩ := ry; exact ne_str (fin_bl I q (congrArg not dec_str))
    | _ => exact absurd (show false = true from hs) Bool.false_ne_true
  | byt i =>
    obtain ⟨t, rfl⟩ := rx
    cases y with
    | byt j => obtain ⟨t', rfl⟩ := ry; exact PySem.W.ne_bytes (fin_bl I q (congrArg not dec_byt))
    | _ => exact absurd (show false = true from hs) Bool.false_ne_true
  | _ => cases y <;> exact absurd (show false = true from hs) Bool.false_ne_true

theorem op_lt : OpR X (compareOp .Lt) (rI0 fun i j => .bl (decide (i < j))) := opB0 fun _ _ _ _ _ _ _ q => lt_int q
theorem op_le : OpR X (compareOp .LtE) (rI0 fun i j => .bl (decide (i ≤ j))) := opB0 fun _ _ _ _ _ _ _ q => le_int q
theorem op_gt : OpR X (compareOp .Gt) (rI0 fun i j => .bl (decide (j < i))) := opB0 fun _ _ _ _ _ _ _ q => gt_int q
theorem op_ge : OpR X (compareOp .GtE) (rI0 fun i j => .bl (decide (j ≤ i))) := opB0 fun _ _ _ _ _ _ _ q => ge_int q
theorem op_lt_str : OpR X (compareOp .Lt) (fun x y H Q => ∃ i j, x = .str i ∧ y = .str j ∧ Q (.bl (decide (i.cps.toList < j.cps.toList))) H) := by
  intro pins s σ H x y v u Q I rx ry h
  obtain ⟨i, j, rfl, rfl, q⟩ := h
  obtain ⟨t, rfl⟩ := rx
  obtain ⟨t', rfl⟩ := ry
  exact lt_str (fin_bl I q rfl)
/-- the one string within the other -/
theorem op_in_str : OpR X (compareOp .In) (fun x y H Q => ∃ i j, x = .str i ∧ y = .str j ∧ Q (.bl (!(Builtin.Str.occurrences j i 0 j.length 1).isEmpty)) H) := by
  intro pins s σ H x y v u Q I rx ry h
  obtain ⟨i, j, rfl, rfl, q⟩ := h
  obtain ⟨t, rfl⟩ := rx
  obtain ⟨t', rfl⟩ := ry
  exact in_str (fin_bl I q rfl)

/-- is None, is not None: the right side a value none -/
theorem op_isN : OpR X (compareOp .Is) (fun x y H Q => y = .non ∧ Q (.bl (decide (x = .non))) H) := by
  intro pins s σ H x y v u Q I rx ry h
  obtain ⟨rfl, q⟩ := h
  cases ry
  refine is_none_gen (fin_bl I q ?_)
  cases x <;> first
    | (cases rx; rfl)
    | (obtain ⟨t, rfl⟩ := rx; rfl)
theorem op_notN : OpR X (compareOp .IsNot) (fun x y H Q => y = .non ∧ Q (.bl (!decide (x = .non))) H) := by
  intro pins s σ H x y v u Q I rx ry h
  obtain ⟨rfl, q⟩ := h
  cases ry
  refine isnot_none_gen (fin_bl I q ?_)
  cases x <;> first
    | (cases rx; rfl)
    | (obtain ⟨t, rfl⟩ := rx; rfl)

theorem op_notin_str : OpR X (compareOp .NotIn) (fun x y H Q => ∃ i j, x = .str i ∧ y = .str j ∧ Q (.bl (!(!(Builtin.Str.occurrences j i 0 j.length 1).isEmpty))) H) := by
  intro pins s σ H x y v u Q I rx ry h
  obtain ⟨i, j, rfl, rfl, q⟩ := h
  obtain ⟨t, rfl⟩ := rx
  obtain ⟨t', rfl⟩ := ry
  exact notIn_str (fin_bl I q rfl)
/-- is, is not of two objects that are tracked lists or instances -/
def isObj : HO → Bool
  | .lst _ => true
  | .ins _ _ _ => true
  | _ => false
theorem obj_there {pins : List (Addr × Obj)} {s : Shared} {σ : St} {H : Hp} {a : Addr} {o : HO} (I : Inv X pins σ H s) (h : H a = some o) (p : isObj o = true) : ∃ ob, s.heap.get? a = some ob ∧ ob.cls ≠ .type "tuple" := by
  cases o with
  | lst xs =>
    obtain ⟨_, its, n, _, e⟩ : xs.length ≤ sizeLine ∧ ∃ (its : List Value) (n : Nat), Vals xs its ∧ s.heap.get? a = some { cls := .type "list", data := .seq its.toArray n } := I.hok a _ h
    exact ⟨_, e, (by show Value.type "list" ≠ .type "tuple"; decide +kernel)⟩
  | ins C dx fs =>
    have x := I.hok a _ h
    obtain ⟨_, _, _, e, _⟩ := x
    exact ⟨_, e, (by show Value.ref C ≠ .type "tuple"; exact fun z => by cases z)⟩
  | _ => exact absurd (show false = true from p) Bool.false_ne_true
theorem op_is_ref : OpR X (compareOp .Is) (fun x y H Q => ∃ a b oa ob, x = .ref a ∧ y = .ref b ∧ H a = some oa ∧ isObj oa = true ∧ H b = some ob ∧ isObj ob = true ∧ Q (.bl (decide (a = b))) H) := by
  intro pins s σ H x y v u Q I rx ry h
  obtain ⟨a, b, oa, ob, rfl, rfl, ha, pa, hb, pb, q⟩ := h
  cases rx
  cases ry
  obtain ⟨o1, e1, n1⟩ := obj_there I ha pa
  obtain ⟨o2, e2, _⟩ := obj_there I hb pb
  by_cases z : a = b
  · subst z
    exact wpAny_is_ref_self (fin_bl I q (by simp))
  · exact wpAny_is_ref_other z e1 e2 n1 (fin_bl I q (by simp [z]))
theorem op_isnot_ref : OpR X (compareOp .IsNot) (fun x y H Q => ∃ a b oa ob, x = .ref a ∧ y = .ref b ∧ H a = some oa ∧ isObj oa = true ∧ H b = some ob ∧ isObj ob = true ∧ Q (.bl (!decide (a = b))) H) := by
  intro pins s σ H x y v u Q I rx ry h
  obtain ⟨a, b, oa, ob, rfl, rfl, ha, pa, hb, pb, q⟩ := h
  cases rx
  cases ry
  obtain ⟨o1, e1, n1⟩ := obj_there I ha pa
  obtain ⟨o2, e2, _⟩ := obj_there I hb pb
  by_cases z : a = b
  · subst z
    exact wpAny_isNot_ref_self (fin_bl I q (by simp))
  · exact wpAny_isNot_ref_other z e1 e2 n1 (fin_bl I q (by simp [z]))

/-- two rules for one operation: by cases -/
theorem OpR.or {f : Value → Value → Sem Value} {r r' : R2} (h : OpR X f r) (h' : OpR X f r') : OpR X f (fun x y H Q => r x y H Q ∨ r' x y H Q) := by
  intro pins s σ H x y v u Q I rx ry q
  rcases q with q | q
  · exact h pins s σ H x y v u Q I rx ry q
  · exact h' pins s σ H x y v u Q I rx ry q

theorem nomark (b : Expr) {op : CmpOp} (h : op ≠ .In := by decide) (h2 : op ≠ .NotIn := by decide) : behindInMarks op b = false := by
  have e1 : (op == CmpOp.In) = false := by cases op <;> first | rfl | exact absurd rfl h
  have e2 : (op == CmpOp.NotIn) = false := by cases op <;> first | rfl | exact absurd rfl h2
  cases b <;> simp [behindInMarks, e1, e2]
/-- a comparison as a value; hm: nomark b, or (for in, not in) by with_unfolding_all rfl -/
theorem pe_cmpR {op : CmpOp} {r : R2} (ho : OpR X (compareOp op) r) (ha : PE X a ta) (hb : PE X b tb) (hm : behindInMarks op b = false) : PE X (.Compare a [op] [b] pos) (tOp r ta tb) := by
  intro pins s σ H Q I h
  exact wpAny_Compare1 (binT ha hb I h fun v u s2 x y H2 I2 rx ry q => ho pins s2 σ H2 x y v u Q I2 rx ry q) hm
/-- a reading of a value as a test -/
def tTest (t : TE) : TT := fun σ H Q => t σ H fun x H' => ∃ k, x = .bl k ∧ Q k H'
theorem pt_cmpR {op : CmpOp} {r : R2} (ho : OpR X (compareOp op) r) (ha : PE X a ta) (hb : PE X b tb) (hm : behindInMarks op b = false) : PT X (.Compare a [op] [b] pos) (tTest (tOp r ta tb)) := by
  intro pins s σ H Q I h
  refine wpAny_isTrue_Compare1 (thn (ha pins s σ H _ I h) fun v s1 ⟨x, H1, I1, r1, q1⟩ => thn (hb pins s1 σ H1 _ I1 q1) fun u s2 ⟨y, H2, I2, r2, q2⟩ =>
    thn (ho pins s2 σ H2 x y v u _ I2 r1 r2 q2) fun c s3 ⟨z, H3, I3, r3, k, e, q3⟩ => ?_) hm
  subst e
  cases r3
  exact wpAny_truthy_bool ⟨H3, I3, q3⟩
/-- a op1 b op2 c -/
def tChain (r r' : R2) (ta tb tc : TE) : TE := fun σ H Q => ta σ H fun x H1 => tb σ H1 fun y H2 => r x y H2 fun z H3 => ∃ k, z = .bl k ∧
  (if k = true then tc σ H3 fun w' H4 => r' y w' H4 Q else Q (.bl false) H3)
theorem pe_chain {op op' : CmpOp} {r r' : R2} (ho : OpR X (compareOp op) r) (ho' : OpR X (compareOp op') r') (ha : PE X a ta) (hb : PE X b tb) (hc : PE X c tc)
    (hm : lastMarks [op, op'] [b, c] = false := by with_unfolding_all rfl) : PE X (.Compare a [op, op'] [b, c] pos) (tChain r r' ta tb tc) := by
  intro pins s σ H Q I h
  refine Compare_chain (thn (ha pins s σ H _ I h) fun v s1 ⟨x, H1, I1, r1, q1⟩ => chain_link (thn (hb pins s1 σ H1 _ I1 q1) fun u s2 ⟨y, H2, I2, r2, q2⟩ =>
    thn (ho pins s2 σ H2 x y v u _ I2 r1 r2 q2) fun d s3 ⟨z, H3, I3, r3, k, e, q3⟩ => ?_)) hm
  subst e
  cases r3
  refine wpAny_truthy_bool ?_
  cases k with
  | false => exact ite_ff ⟨.bl false, H3, I3, rfl, q3⟩
  | true => exact ite_tt (chain_last (thn (hc pins s3 σ H3 _ I3 q3) fun w' s4 ⟨z', H4, I4, r4, q4⟩ => ho' pins s4 σ H4 y z' u w' Q I4 r2 r4 q4))
theorem pt_chain {op op' : CmpOp} {r r' : R2} (ho : OpR X (compareOp op) r) (ho' : OpR X (compareOp op') r') (ha : PE X a ta) (hb : PE X b tb) (hc : PE X c tc)
    (hm : lastMarks [op, op'] [b, c] = false := by with_unfolding_all rfl) : PT X (.Compare a [op, op'] [b, c] pos) (tTest (tChain r r' ta tb tc)) := by
  intro pins s σ H Q I h
  refine isTrue_chain (thn (ha pins s σ H _ I h) fun v s1 ⟨x, H1, I1, r1, q1⟩ => test_link (thn (hb pins s1 σ H1 _ I1 q1) fun u s2 ⟨y, H2, I2, r2, q2⟩ =>
    thn (ho pins s2 σ H2 x y v u _ I2 r1 r2 q2) fun d s3 ⟨z, H3, I3, r3, k, e, q3⟩ => ?_)) hm
  subst e
  cases r3
  refine wpAny_truthy_bool ?_
  cases k with
  | false =>
    obtain ⟨k', e', q'⟩ := q3
    cases e'
    exact ite_ff ⟨H3, I3, q'⟩
  | true =>
    refine ite_tt (test_last (thn (hc pins s3 σ H3 _ I3 q3) fun w' s4 ⟨z', H4, I4, r4, q4⟩ => thn (ho' pins s4 σ H4 y z' u w' _ I4 r2 r4 q4) fun d' s5 ⟨z2, H5, I5, r5, k2, e2, q5⟩ => ?_))
    subst e2
    cases r5
    exact wpAny_truthy_bool ⟨H5, I5, q5⟩

/-! ### truth -/
/-- a value's truth by the abstract heap -/
def TruV (K : PySem.W.Frag) (x : V) (H : Hp) (k : Bool) : Prop :=
  match x with
  | .non => k = false
  | .bl b => k = b
  | .int i => k = (i != 0)
  | .str y => y.length ≤ sizeLine ∧ k = ((y.length : Int) != 0)
  | .byt y => y.size ≤ sizeLine ∧ k = ((y.size : Int) != 0)
  | .ref p => (∃ xs, SqL K H p xs ∧ k = !xs.isEmpty) ∨ (∃ xs, SqT K H p xs ∧ k = !xs.isEmpty) ∨ ∃ kvs, H p = some (.dK kvs) ∧ k = !kvs.isEmpty
  | _ => False
theorem isEmpty_kv {κ : Type} {kvs : List (κ × V)} {vs : List (κ × Value)} (r : KV kvs vs) : (!vs.isEmpty) = !kvs.isEmpty := by
  cases r <;> rfl
theorem isEmpty_of {xs : List V} {its : List Value} (r : Vals xs its) : (!its.toArray.isEmpty) = !xs.isEmpty := by
  cases r <;> simp
theorem line63 : (sizeLine : Nat) < 2 ^ 63 := by rw [sizeLine_eq]; decide
theorem tru_ok : TruR X (fun x H Q => ∃ k, TruV X.K x H k ∧ Q k H) := by
  intro pins s σ H x v Q I rx h
  obtain ⟨k, e, q⟩ := h
  have hl := line63
  have hs : sizeLine = 16777216 := sizeLine_eq
  cases x with
  | non =>
    cases rx
    have e' : k = false := e
    subst e'
    exact truthy_none ⟨H, I, q⟩
  | bl b =>
    cases rx
    have e' : k = b := e
    subst e'
    exact wpAny_truthy_bool ⟨H, I, q⟩
  | int i =>
    obtain ⟨t, rfl⟩ := rx
    have e' : k = (i != 0) := e
    subst e'
    exact PySem.P.truthy_int ⟨H, I, q⟩
  | str y =>
    obtain ⟨t, rfl⟩ := rx
    obtain ⟨hy, e'⟩ : y.length ≤ sizeLine ∧ k = ((y.length : Int) != 0) := e
    subst e'
    exact PySem.P.truthy_str (by omega) ⟨H, I.tok _, q⟩
  | byt y =>
    obtain ⟨t, rfl⟩ := rx
    obtain ⟨hy, e'⟩ : y.size ≤ sizeLine ∧ k = ((y.size : Int) != 0) := e
    subst e'
    exact PySem.W.truthy_bytes (by omega) ⟨H, I.tok _, q⟩
  | ref p =>
    cases rx
    have e' : (∃ xs, SqL X.K H p xs ∧ k = !xs.isEmpty) ∨ (∃ xs, SqT X.K H p xs ∧ k = !xs.isEmpty) ∨ ∃ kvs, H p = some (.dK kvs) ∧ k = !kvs.isEmpty := e
    rcases e' with ⟨xs, hx, e'⟩ | ⟨xs, hx, e'⟩ | ⟨kvs, hx, e'⟩
    · subst e'
      obtain ⟨its, r, pl, hz⟩ := I.list hx
      have hlen := r.length
      exact wpAny_truthy_list pl.isList (by simp only [List.size_toArray]; omega) ⟨H, I.tok _, by rw [isEmpty_of r]; exact q⟩
    · subst e'
      obtain ⟨its, r, pl, hz⟩ := I.tuple hx
      have hlen := r.length
      exact truthy_tuple pl (by simp only [List.size_toArray]; omega) ⟨H, I.tok _, by rw [isEmpty_of r]; exact q⟩
    · subst e'
      obtain ⟨hz, hS, vs, r, m⟩ : kvs.length ≤ sizeLine ∧ (p == sysModules) = false ∧ ∃ vs, KV kvs vs ∧ s.heap.DictOf (mixKind X.prog X.w) p vs := I.hok p _ hx
      have hlen : kvs.length = vs.length := Paired.length r
      exact wpAny_truthy_dict hS m (by omega) ⟨H, I.tok _, by rw [isEmpty_kv r]; exact q⟩
  | _ => exact (show False from e).elim
/-- any expression whose test is its value's truth (a name, a call, a subscript, a field ..: he by fun _ => rfl) -/
theorem pt_truth (ha : PE X a ta) (he : ∀ whole, isTrue a X.env whole = (do let v ← whole; standAt a.pos; holding [v] (truthy v))) :
    PT X a (fun σ H Q => ta σ H fun x H' => ∃ k, TruV X.K x H' k ∧ Q k H') := by
  intro pins s σ H Q I h
  exact isTrue_plain (thn (ha pins s σ H _ I h) fun v s1 ⟨x, H1, I1, r1, q1⟩ => tru_ok pins s1 σ H1 x v Q I1 r1 q1) (he _)

/-! ### strs and bytes -/
theorem pe_byt {x : List UInt8} {k : Nat} : PE X (.Constant (.bytes x) k pos) (fun _ H Q => Q (.byt x.toArray) H) := fun _ _ _ H _ I h => PySem.W.Constant_bytes ⟨.byt x.toArray, H, I.tok _, ⟨_, rfl⟩, h⟩
theorem op_add_str : OpR X (binaryOp .Add) (fun x y H Q => ∃ i j, x = .str i ∧ y = .str j ∧ i.length + j.length ≤ sizeLine ∧ Q (.str (i ++ j)) H) := by
  intro pins s σ H x y v u Q I rx ry h
  obtain ⟨i, j, rfl, rfl, hz, q⟩ := h
  obtain ⟨t, rfl⟩ := rx
  obtain ⟨t', rfl⟩ := ry
  exact add_str (fun t' tk => ⟨.str (i ++ j), H, I.tok _, ⟨_, rfl⟩, q⟩) hz
theorem iop_add_str : OpR X (inplaceOp .Add) (fun x y H Q => ∃ i j, x = .str i ∧ y = .str j ∧ i.length + j.length ≤ sizeLine ∧ Q (.str (i ++ j)) H) := by
  intro pins s σ H x y v u Q I rx ry h
  obtain ⟨i, j, rfl, rfl, hz, q⟩ := h
  obtain ⟨t, rfl⟩ := rx
  obtain ⟨t', rfl⟩ := ry
  exact iadd_str (fun t' tk => ⟨.str (i ++ j), H, I.tok _, ⟨_, rfl⟩, q⟩) hz
theorem op_add_byt : OpR X (binaryOp .Add) (fun x y H Q => ∃ i j, x = .byt i ∧ y = .byt j ∧ i.size + j.size ≤ 16777216 ∧ Q (.byt (i ++ j)) H) := by
  intro pins s σ H x y v u Q I rx ry h
  obtain ⟨i, j, rfl, rfl, hz, q⟩ := h
  obtain ⟨t, rfl⟩ := rx
  obtain ⟨t', rfl⟩ := ry
  exact PySem.W.KBy.add_bytes hz (fun t' tk => ⟨.byt (i ++ j), H, I.tok _, ⟨_, rfl⟩, q⟩)

def PlainIxT (b : Expr) : Prop := ∀ o i, subscripted b false o i = operate [o, i] (getItem o i)
/-- s[i], 0 ≤ i < len -/
theorem pe_item_str (ha : PE X a ta) (hb : PE X b tb) (hs : PlainIxT b) :
    PE X (.Subscript a b pos) (tOp (fun x y H Q => ∃ z i c, x = .str z ∧ y = .int i ∧ 0 ≤ i ∧ i < 2 ^ 63 ∧ i < z.length ∧ z.cps[i.toNat]? = some c ∧ Q (.str ⟨#[c]⟩) H) ta tb) := by
  intro pins s σ H Q I h
  refine Subscript_ (binT ha hb I h fun v u s2 x y H2 I2 rx ry q => ?_)
  obtain ⟨z, i, c, rfl, rfl, h0, h63, h1, hc, q⟩ := q
  obtain ⟨t, rfl⟩ := rx
  obtain ⟨t', rfl⟩ := ry
  have e : seqIndex? i z.length = some i.toNat := PySem.StrLaws.seqIndex_nonneg h0 h1
  exact tail_any (typeIs_str s2 z t) slot_str_getitem.lookup (getItem_str (c := c) (by
    have e1 : decide (i < -(2 ^ 63 : Int)) = false := decide_eq_false (by omega)
    have e2 : decide (i ≥ 2 ^ 63) = false := decide_eq_false (by omega)
    rw [e1, e2] <;> rfl) (by rw [e]; exact hc) ⟨.str ⟨#[c]⟩, H2, I2.tok _, ⟨_, rfl⟩, q⟩) (hs _ _)
/-- b[i], 0 ≤ i < len -/
theorem pe_item_byt (ha : PE X a ta) (hb : PE X b tb) (hs : PlainIxT b) :
    PE X (.Subscript a b pos) (tOp (fun x y H Q => ∃ (z : List UInt8) (i : Int), x = .byt z.toArray ∧ y = .int i ∧ z.length ≤ sizeLine ∧ 0 ≤ i ∧ i < z.length ∧ Q (.int ((z.getD i.toNat 0).toNat : Nat)) H) ta tb) := by
  intro pins s σ H Q I h
  refine Subscript_ (binT ha hb I h fun v u s2 x y H2 I2 rx ry q => ?_)
  obtain ⟨z, i, rfl, rfl, hz, h0, h1, q⟩ := q
  obtain ⟨t, rfl⟩ := rx
  obtain ⟨t', rfl⟩ := ry
  have hl : sizeLine = 16777216 := sizeLine_eq
  exact tail_any (PySem.W.typeIs_bytes s2 z.toArray t) PySem.W.FB.slot_bytes_getitem.lookup (PySem.W.getItem_bytes (by omega) h0 h1 ⟨.int ((z.getD i.toNat 0).toNat : Nat), H2, I2.tok _, ⟨_, rfl⟩, q⟩) (hs _ _)

/-! ### scalar builtins, by CallR -/
theorem vals1 {x : V} {us : List Value} (r : Vals [x] us) : ∃ u, us = [u] ∧ RelV x u := by
  cases r with
  | cons r1 r2 => cases r2; exact ⟨_, rfl, r1⟩
theorem vals2 {x y : V} {us : List Value} (r : Vals [x, y] us) : ∃ u w', us = [u, w'] ∧ RelV x u ∧ RelV y w' := by
  cases r with
  | cons r1 r2 =>
    cases r2 with
    | cons r3 r4 => cases r4; exact ⟨_, _, rfl, r1, r3⟩
theorem call_abs : CallR X (.builtin "abs") (fun xs H Q => ∃ i, xs = [.int i] ∧ Q (.int (if i < 0 then -i else i)) H) := by
  intro pins s σ H xs us Q I r h
  obtain ⟨i, rfl, q⟩ := h
  obtain ⟨u, rfl, t, rfl⟩ := vals1 r
  exact call_abs_int fun u tk => ⟨.int (if i < 0 then -i else i), H, I.tok _, ⟨_, rfl⟩, q⟩
theorem call_max2 (hc : X.calm = true) : CallR X (.builtin "max") (fun xs H Q => ∃ i j, xs = [.int i, .int j] ∧ Q (.int (if j > i then j else i)) H) := by
  intro pins s σ H xs us Q I r h
  obtain ⟨i, j, rfl, q⟩ := h
  obtain ⟨u, w', rfl, ⟨t, rfl⟩, ⟨t', rfl⟩⟩ := vals2 r
  refine max_two_ints (I.ok.hd hc) fun h' tk k => ⟨_, H, I.kept k, ?_, q⟩
  by_cases hj : j > i
  · rw [if_pos hj, if_pos hj]; exact ⟨_, rfl⟩
  · rw [if_neg hj, if_neg hj]; exact ⟨_, rfl⟩
theorem call_min2 (hc : X.calm = true) : CallR X (.builtin "min") (fun xs H Q => ∃ i j, xs = [.int i, .int j] ∧ Q (.int (if j < i then j else i)) H) := by
  intro pins s σ H xs us Q I r h
  obtain ⟨i, j, rfl, q⟩ := h
  obtain ⟨u, w', rfl, ⟨t, rfl⟩, ⟨t', rfl⟩⟩ := vals2 r
  refine min_two_ints (I.ok.hd hc) fun h' tk k => ⟨_, H, I.kept k, ?_, q⟩
  by_cases hj : j < i
  · rw [if_pos hj, if_pos hj]; exact ⟨_, rfl⟩
  · rw [if_neg hj, if_neg hj]; exact ⟨_, rfl⟩
theorem call_int1 : CallR X (.type "int") (fun xs H Q => (∃ i, xs = [.int i] ∧ Q (.int i) H) ∨ ∃ k, xs = [.bl k] ∧ Q (.int (if k then 1 else 0)) H) := by
  intro pins s σ H xs us Q I r h
  rcases h with ⟨i, rfl, q⟩ | ⟨k, rfl, q⟩
  · obtain ⟨u, rfl, t, rfl⟩ := vals1 r
    exact call_int_int ⟨.int i, H, I, ⟨_, rfl⟩, q⟩
  · obtain ⟨u, rfl, r1⟩ := vals1 r
    cases r1
    exact call_int_bool ⟨.int (if k then 1 else 0), H, I.tok _, ⟨_, rfl⟩, q⟩
theorem call_bool1 : CallR X (.type "bool") (fun xs H Q => (∃ i, xs = [.int i] ∧ Q (.bl (i != 0)) H) ∨ ∃ k, xs = [.bl k] ∧ Q (.bl k) H) := by
  intro pins s σ H xs us Q I r h
  rcases h with ⟨i, rfl, q⟩ | ⟨k, rfl, q⟩
  · obtain ⟨u, rfl, t, rfl⟩ := vals1 r
    exact call_bool_int ⟨.bl (i != 0), H, I, rfl, q⟩
  · obtain ⟨u, rfl, r1⟩ := vals1 r
    cases r1
    exact call_bool_bool ⟨.bl k, H, I, rfl, q⟩
theorem call_str_int : CallR X (.type "str") (fun xs H Q => ∃ i, xs = [.int i] ∧ i.natAbs.log2 < 1920 ∧ Q (.str (toString i)) H) := by
  intro pins s σ H xs us Q I r h
  obtain ⟨i, rfl, hz, q⟩ := h
  obtain ⟨u, rfl, t, rfl⟩ := vals1 r
  exact PySem.P.str_of_int hz ⟨.str _, H, I.tok _, ⟨_, rfl⟩, q⟩
theorem call_ord : CallR X (.builtin "ord") (fun xs H Q => ∃ x, xs = [.str x] ∧ x.length = 1 ∧ Q (.int (x.cps.getD 0 0 : Nat)) H) := by
  intro pins s σ H xs us Q I r h
  obtain ⟨x, rfl, hz, q⟩ := h
  obtain ⟨u, rfl, t, rfl⟩ := vals1 r
  exact ord_of_one hz ⟨.int _, H, I.tok _, ⟨_, rfl⟩, q⟩
theorem call_chr : CallR X (.builtin "chr") (fun xs H Q => ∃ i, xs = [.int i] ∧ 0 ≤ i ∧ i ≤ 1114111 ∧ Q (.str ⟨#[i.toNat]⟩) H) := by
  intro pins s σ H xs us Q I r h
  obtain ⟨i, rfl, h0, h1, q⟩ := h
  obtain ⟨u, rfl, t, rfl⟩ := vals1 r
  exact chr_of_range h0 h1 ⟨.str _, H, I.tok _, ⟨_, rfl⟩, q⟩
/-- len of a str, a bytes, a list, a tuple -/
def LenV (K : PySem.W.Frag) (x : V) (H : Hp) (n : Nat) : Prop :=
  match x with
  | .str y => y.length ≤ sizeLine ∧ n = y.length
  | .byt y => y.size ≤ sizeLine ∧ n = y.size
  | .ref p => (∃ xs, SqL K H p xs ∧ n = xs.length) ∨ ∃ xs, SqT K H p xs ∧ n = xs.length
  | _ => False
theorem call_len : CallR X (.builtin "len") (fun xs H Q => ∃ x n, xs = [x] ∧ LenV X.K x H n ∧ Q (.int n) H) := by
  intro pins s σ H xs us Q I r h
  obtain ⟨x, n, rfl, e, q⟩ := h
  obtain ⟨u, rfl, rx⟩ := vals1 r
  have hl := line63
  have hs : sizeLine = 16777216 := sizeLine_eq
  cases x with
  | str y =>
    obtain ⟨t, rfl⟩ := rx
    obtain ⟨hy, e'⟩ : y.length ≤ sizeLine ∧ n = y.length := e
    subst e'
    exact len_str (by omega) ⟨.int _, H, I.tok _, ⟨_, rfl⟩, q⟩
  | byt y =>
    obtain ⟨t, rfl⟩ := rx
    obtain ⟨hy, e'⟩ : y.size ≤ sizeLine ∧ n = y.size := e
    subst e'
    exact PySem.W.len_bytes (by omega) ⟨.int _, H, I.tok _, ⟨_, rfl⟩, q⟩
  | ref p =>
    cases rx
    have e' : (∃ xs, SqL X.K H p xs ∧ n = xs.length) ∨ ∃ xs, SqT X.K H p xs ∧ n = xs.length := e
    rcases e' with ⟨xs, hx, e'⟩ | ⟨xs, hx, e'⟩
    · subst e'
      obtain ⟨its, r', pl, hz⟩ := I.list hx
      have hlen := r'.length
      exact Calls.call_len_list pl.isList (by simp only [List.size_toArray]; omega) ⟨.int xs.length, H, I.tok _, ⟨_, by simp only [List.size_toArray]; rw [hlen]⟩, q⟩
    · subst e'
      obtain ⟨its, r', pl, hz⟩ := I.tuple hx
      have hlen := r'.length
      exact len_tuple pl (by simp only [List.size_toArray]; omega) ⟨.int xs.length, H, I.tok _, ⟨_, by simp only [List.size_toArray]; rw [hlen]⟩, q⟩
  | _ => exact (show False from e).elim
/-- divmod: a new tuple -/
theorem call_divmod : CallR X (.builtin "divmod") (fun xs H Q => ∃ i j, xs = [.int i, .int j] ∧ CDiv i j ∧ ∀ p, H p = none → Q (.ref p) (upd H p (.tup [.int (i / j), .int (i % j)]))) := by
  intro pins s σ H xs us Q I r h
  obtain ⟨i, j, rfl, ⟨h1, h2⟩, q⟩ := h
  obtain ⟨u, w', rfl, ⟨t, rfl⟩, ⟨t', rfl⟩⟩ := vals2 r
  refine divmod_int (by omega) ?_ (.inl (PyProof.noPylong_small (by omega)))
  rw [Int.fdiv_eq_ediv_of_nonneg i (by omega), Int.fmod_eq_emod_of_nonneg i (by omega)]
  have hn : H s.heap.objs.size = none := I.hok.fresh (Nat.le_refl _)
  refine ⟨.ref s.heap.objs.size, _, ?_, rfl, q _ hn⟩
  refine I.laid (fun b o e => Heap.get?_push_of_some _ e) (Nat.le_refl _) ⟨by simp only [List.length_cons, List.length_nil]; rw [sizeLine_eq]; decide, [.int (i / j) s.toks, .int (i % j) (s.toks + 1)], .cons ⟨_, rfl⟩ (.cons ⟨_, rfl⟩ .nil), ?_⟩
  exact ⟨_, Heap.get?_push_size s.heap rfl, rfl, 0, rfl⟩
end
end L2

namespace L2
open PySem PySem.Spec PyProof.Rows

/-! ### an instance, its attributes a map -/
structure ObjM (h : Heap) (x dx C : Addr) (mA : Str → Option Value) : Prop where
  obj : h.get? x = some (PySem.W.instObj C dx)
  ns : h.Ns1 dx mA
  ne : dx ≠ x

theorem lookIn_ns {h : Heap} {dx : Addr} {mA : Str → Option Value} (n : h.Ns1 dx mA) : ∃ od, h.get? dx = some od ∧ ∀ name, PySem.W.lookIn name od = some (mA name) := by
  obtain ⟨o, es, ep, ho, hd, hk, _, hm⟩ := n
  refine ⟨o, ho, fun name => ?_⟩
  have e := hm name
  unfold nsFind findBy at e
  rw [← Array.find?_toList] at e
  unfold PySem.W.lookIn
  rw [hd]
  dsimp only
  split
  · rename_i y q
    rw [q] at e
    exact congrArg some e
  · rename_i q
    rw [q] at e
    have a : es.toList.any (·.refKey) = false := by
      rw [List.any_eq_false]
      intro y hy
      obtain ⟨z, t, hkey⟩ := hk y (Array.mem_toList_iff.mp hy)
      simp [DictEntry.refKey, hkey]
    have a' : ¬ es.toList.any (·.refKey) = true := by rw [a]; exact Bool.false_ne_true
    rw [if_neg a']
    exact congrArg some e

theorem ObjM.look {h : Heap} {x dx C : Addr} {mA : Str → Option Value} (I : ObjM h x dx C mA) : ∃ od, PySem.W.InstAt h x (PySem.W.instObj C dx) C (some od) ∧ ∀ name, PySem.W.lookIn name od = some (mA name) :=
  let ⟨od, ho, hl⟩ := lookIn_ns I.ns
  ⟨od, ⟨I.obj, rfl, rfl, ho⟩, hl⟩

section
variable {prog : Program} {w : World} {A : Around} {E : Value → Shared → Prop} {s : Shared} {K : PySem.W.Frag} {x dx C f : Addr} {mA : Str → Option Value} {name : Str} {v : Value}

theorem get_map {expr : Bool} {Q : Value → Shared → Prop} (X : K.In s.heap) (I : ObjM s.heap x dx C mA) (hg : PySem.W.plainGet K C name = true) (hh : PySem.W.hasDictIn K C = true)
    (ha : PySem.W.findIn K (.ref C) name = some none) (hv : mA name = some v) (hv' : PySem.W.handedIn v = true) (h : Q v { s with toks := s.toks + 1 }) :
    wpAny (model prog w) A (getAttr (.ref x) name expr) Q E s := by
  obtain ⟨od, J, hl⟩ := I.look
  exact PySem.W.get_value X J (PySem.W.plainGet_of hg).1 (PySem.W.findObj_own hh ha rfl (by rw [hl, hv])) hv' h

theorem get_const {expr : Bool} {a : Value} {Q : Value → Shared → Prop} (X : K.In s.heap) (I : ObjM s.heap x dx C mA) (hg : PySem.W.plainGet K C name = true) (hh : PySem.W.hasDictIn K C = true)
    (ha : PySem.W.findIn K (.ref C) name = some (some a)) (hn : PySem.W.specialIn K a "__get__" = some none) (hc : PySem.W.copiedNames.contains name = false) (hv : mA name = none) (hv' : PySem.W.handedIn a = true)
    (h : Q a { s with toks := s.toks + 1 }) : wpAny (model prog w) A (getAttr (.ref x) name expr) Q E s := by
  obtain ⟨od, J, hl⟩ := I.look
  exact PySem.W.get_value X J (PySem.W.plainGet_of hg).1 (PySem.W.findObj_cls hh ha hn hv' hc (by rw [hl, hv])) hv' h

theorem get_meth {pl : Sem Bool} {Q : Value × List Value → Shared → Prop} (X : K.In s.heap) (I : ObjM s.heap x dx C mA) (hg : PySem.W.plainGet K C name = true)
    (hf : PySem.W.findIn K (.ref C) name = some (some (.ref f))) (ht : PySem.W.isFn K (.ref f) = true) (hv : mA name = none) (h : Q (.ref f, [.ref x]) s) :
    wpAny (model prog w) A (getMethod (.ref x) name pl) Q E s := by
  obtain ⟨od, J, hl⟩ := I.look
  exact PySem.W.method_fn X J (PySem.W.plainGet_of hg).1 (PySem.W.plainGet_of hg).2 hf (beq_iff_eq.mp ht) (by show (PySem.W.lookIn name od).map (·.isSome) = some false; rw [hl, hv]; rfl) h

theorem set_map {ns : List Str} {Q : Unit → Shared → Prop} (X : K.In s.heap) (I : ObjM s.heap x dx C mA)
    (hs : PySem.W.findIn K (.ref C) "__setattr__" = some (some (.builtin "object.__setattr__"))) (hp : PySem.W.plainOver K C = true) (ht : PySem.W.takerIn K C name = some none) (hh : PySem.W.hasDictIn K C = true)
    (hw : PySem.Within mA ns) (hsz : ns.length ≤ sizeLine)
    (h : ∀ h', ObjM h' x dx C (fun y => if y = name then some v else mA y) → Heap.SameBut dx s.heap h' → Q () { s with heap := h', toks := s.toks + 2 }) :
    wpAny (model prog w) A (setAttr (.ref x) name v) Q E s := by
  obtain ⟨od, J, hl⟩ := I.look
  refine PySem.W.set_plain X J hs (PySem.W.osa_open (s := { s with toks := s.toks + 1 }) (r := none) X J hp ht fun b => ?_)
  obtain ⟨cd, hc, hd'⟩ := PySem.W.any_some hh
  have hx : s.heap.get? x = some ⟨.ref C, some dx, .plain, #[]⟩ := I.obj
  refine wpAny_bind (wpAny_pure (wpAny_bind (wpAny_bind (wpAny_loadPart hx (wpAny_bind (PySem.W.Looks.here (s := { s with toks := s.toks + 1 }) (PySem.W.looks_clsIn X hc) ?_))))))
  rw [hd']
  refine wpAny_pure (a := some dx) (wpAny_bind (wpAny_pure (wpAny_bind ?_)))
  refine wpAny_nsSet1 (s := { s with toks := s.toks + 1 }) I.ns fun h' hn2 hs2 => ?_
  obtain ⟨oD, esD, epD, hoD, hdD, hcD⟩ := hn2.count (PySem.Within.cons name v hw)
  refine wpAny_bind (wpAny_lookBehind hoD (by rw [hdD]; exact pastItsLine_dict (Nat.le_trans hcD (by rw [List.length_cons]; omega))) ?_)
  exact wpAny_pure (h _ ⟨(hs2.2 _ (Ne.symm I.ne)).trans I.obj, hn2, I.ne⟩ hs2)

/-- C(..): the dict at the heap's end, the instance behind it; then its __init__ -/
theorem make_map {R : Result → Shared → Prop} {vs : List Value} {kw : List (Str × Value)} (X : K.In s.heap) (hm : PySem.W.makesIn K C = true)
    (hi : PySem.W.findIn K (.ref C) "__init__" = some (some (.ref f))) (hf : PySem.W.typeIn K (.ref f) = some (.type "function"))
    (h : codeAny (model prog w) (A.under (.builtin "type.__call__" ⟨.ref C :: vs, kw⟩)) (.call (.ref f) ⟨.ref (s.heap.objs.size + 1) :: vs, kw⟩) (PySem.W.InitBack (s.heap.objs.size + 1) R)
      { s with heap := (s.heap.push PySem.W.emptyDict).push (PySem.W.instObj C s.heap.objs.size) }) :
    codeAny (model prog w) A (.call (.ref C) ⟨vs, kw⟩) R s := by
  obtain ⟨hh, g, d, t, os⟩ := s
  exact PySem.W.make_core (PySem.W.makes_of X hm) (PySem.W.looks_findIn X hi) (fun self => PySem.W.bind_fn X self hf) (.inl rfl) h
/-- C() where there is no __init__ but object's -/
theorem make_map0 {R : Result → Shared → Prop} (X : K.In s.heap) (hm : PySem.W.makesIn K C = true)
    (hi : PySem.W.findIn K (.ref C) "__init__" = some (some (.builtin "object.__init__")))
    (hb : ∀ self, PySem.W.Looks (model prog w) s.heap (bindSpecial (.builtin "object.__init__") self) (.builtin "object.__init__", [self]))
    (h : codeAny (model prog w) (A.under (.builtin "type.__call__" ⟨[.ref C], []⟩)) (.call (.builtin "object.__init__") ⟨[.ref (s.heap.objs.size + 1)], []⟩) (PySem.W.InitBack (s.heap.objs.size + 1) R)
      { s with heap := (s.heap.push PySem.W.emptyDict).push (PySem.W.instObj C s.heap.objs.size) }) :
    codeAny (model prog w) A (.call (.ref C) ⟨[], []⟩) R s := by
  obtain ⟨hh, g, d, t, os⟩ := s
  exact PySem.W.make_core (PySem.W.makes_of X hm) (PySem.W.looks_findIn X hi) hb (.inr ⟨rfl, rfl⟩) h
end

/-! ### the attributes as a list of pairs -/
def putF (f : Str) (v : V) : List (Str × V) → List (Str × V)
  | [] => [(f, v)]
  | (g, x) :: r => if g = f then (g, v) :: r else (g, x) :: putF f v r
theorem lookup_putF (f g : Str) (v : V) : ∀ fs : List (Str × V), (putF f v fs).lookup g = if g = f then some v else fs.lookup g
  | [] => by
    show List.lookup g [(f, v)] = _
    by_cases h : g = f
    · have hb : (g == f) = true := beq_iff_eq.mpr h
      simp only [List.lookup, hb, if_pos h]
    · have hb : (g == f) = false := beq_eq_false_iff_ne.mpr h
      simp only [List.lookup, hb, if_neg h]
  | (k, x) :: r => by
    have ih := lookup_putF f g v r
    rw [show putF f v ((k, x) :: r) = (if k = f then (k, v) :: r else (k, x) :: putF f v r) from rfl]
    by_cases hk : k = f
    · rw [if_pos hk]
      by_cases h : g = k
      · have hb : (g == k) = true := beq_iff_eq.mpr h
        simp only [List.lookup, hb, if_pos (h.trans hk)]
      · have hb : (g == k) = false := beq_eq_false_iff_ne.mpr h
        simp only [List.lookup, hb, if_neg (fun e : g = f => h (e.trans hk.symm))]
    · rw [if_neg hk]
      by_cases h : g = k
      · have hb : (g == k) = true := beq_iff_eq.mpr h
        simp only [List.lookup, hb, if_neg (fun e : g = f => hk (h.symm.trans e))]
      · have hb : (g == k) = false := beq_eq_false_iff_ne.mpr h
        simp only [List.lookup, hb]
        exact ih
theorem keys_putF (f : Str) (v : V) : ∀ fs : List (Str × V), f ∈ (putF f v fs).map (·.1) ∧ ∀ g, g ∈ fs.map (·.1) → g ∈ (putF f v fs).map (·.1)
  | [] => ⟨by simp [putF], fun g h => by simp at h⟩
  | (k, x) :: r => by
    obtain ⟨i1, i2⟩ := keys_putF f v r
    rw [show putF f v ((k, x) :: r) = (if k = f then (k, v) :: r else (k, x) :: putF f v r) from rfl]
    by_cases hk : k = f
    · rw [if_pos hk]
      subst hk
      exact ⟨by simp, fun g h => by simpa using h⟩
    · rw [if_neg hk]
      refine ⟨?_, fun g h => ?_⟩
      · rw [List.map_cons]
        exact List.mem_cons_of_mem _ i1
      · rw [List.map_cons] at h ⊢
        rcases List.mem_cons.mp h with e | e
        · exact List.mem_cons.mpr (.inl e)
        · exact List.mem_cons_of_mem _ (i2 g e)
theorem length_putF (f : Str) (v : V) : ∀ fs : List (Str × V), (putF f v fs).length ≤ fs.length + 1
  | [] => by simp [putF]
  | (k, x) :: r => by
    have ih := length_putF f v r
    rw [show putF f v ((k, x) :: r) = (if k = f then (k, v) :: r else (k, x) :: putF f v r) from rfl]
    by_cases hk : k = f
    · rw [if_pos hk, List.length_cons, List.length_cons]; omega
    · rw [if_neg hk, List.length_cons, List.length_cons]; omega

theorem RelO.some_of {v : V} {o : Option Value} (r : RelO (some v) o) : ∃ u, o = some u ∧ RelV v u := by
  cases o with
  | none => exact (show False from r).elim
  | some u => exact ⟨u, rfl, r⟩
theorem RelO.none_of {o : Option Value} (r : RelO none o) : o = none := by
  cases o with
  | none => rfl
  | some u => exact (show False from r).elim
theorem handed_of {v : V} {u : Value} (r : RelV v u) : PySem.W.handedIn u = true := by
  cases v with
  | non => cases (show u = Value.none from r); rfl
  | bl b => cases (show u = Value.bool b from r); rfl
  | int i => obtain ⟨t, e⟩ := (show ∃ t, u = Value.int i t from r); cases e; rfl
  | str x => obtain ⟨t, e⟩ := (show ∃ t, u = Value.str x t from r); cases e; rfl
  | byt b => obtain ⟨t, e⟩ := (show ∃ t, u = Value.bytes b t from r); cases e; rfl
  | flt b => obtain ⟨t, e⟩ := (show ∃ t, u = Value.float b t from r); cases e; rfl
  | ref a => cases (show u = Value.ref a from r); rfl
  | ty n => cases (show u = Value.type n from r); rfl

section
variable {P : Program} {w : World} {H H' : Hp} {h h' : Heap} {a C dx : Addr} {fs fs' : List (Str × V)}
theorem ins_get (hok : HOk P w H h) (e : H a = some (.ins C dx fs)) : ∃ mA, ObjM h a dx C mA ∧ (∀ f, RelO (fs.lookup f) (mA f)) ∧ PySem.Within mA (fs.map (·.1)) ∧ fs.length ≤ 1000 ∧ H dx = some (.own a) := by
  obtain ⟨d, z, ne, ob, mA, n, r, q⟩ := (show ObjOk P w H h a (.ins C dx fs) from hok a _ e)
  exact ⟨mA, ⟨ob, n, ne⟩, r, q, z, d⟩
end

/-! ### what of the text a class must have -/
structure Cls (K : PySem.W.Frag) (C : Addr) : Prop where
  pg : PySem.W.plainGet K C Str.empty = true
  hd : PySem.W.hasDictIn K C = true
  po : PySem.W.plainOver K C = true
  sa : PySem.W.findIn K (.ref C) "__setattr__" = some (some (.builtin "object.__setattr__"))
theorem Cls.get {K : PySem.W.Frag} {C : Addr} (c : Cls K C) (f : Str) : PySem.W.plainGet K C f = true := c.pg
/-- no class of it has the name -/
def NoAttr (K : PySem.W.Frag) (C : Addr) (f : Str) : Prop := PySem.W.findIn K (.ref C) f = some none
theorem NoAttr.taker {K : PySem.W.Frag} {C : Addr} {f : Str} (n : NoAttr K C f) : PySem.W.takerIn K C f = some none := by
  unfold PySem.W.takerIn
  rw [show PySem.W.findIn K (.ref C) f = some none from n]
  rfl
/-- a constant of the class -/
structure Con (K : PySem.W.Frag) (C : Addr) (f : Str) (v : V) (u : Value) : Prop where
  at_ : PySem.W.findIn K (.ref C) f = some (some u)
  rel : RelV v u
  get : PySem.W.specialIn K u "__get__" = some none
  cp : PySem.W.copiedNames.contains f = false
/-- a method: a plain def of the class or of one above it -/
structure Meth (K : PySem.W.Frag) (C : Addr) (m : Str) (f : Addr) : Prop where
  at_ : PySem.W.findIn K (.ref C) m = some (some (.ref f))
  fn : PySem.W.isFn K (.ref f) = true
  kp : PySem.W.keepIn K (.ref f) = true

section
variable {X : Cx} {pins : List (Addr × Obj)} {σ : St} {H : Hp} {s : Shared} {a C dx : Addr} {fs : List (Str × V)} {f : Str} {v : V} {A : Around} {E : Value → Shared → Prop}

theorem getattr_ok {b : Bool} {Q : Value → Shared → Prop} (I : Inv X pins σ H s) (e : H a = some (.ins C dx fs)) (c : Cls X.K C) (n : NoAttr X.K C f) (l : fs.lookup f = some v)
    (h : ∀ u s', Inv X pins σ H s' → RelV v u → Q u s') : wpAny (model X.prog X.w) A (getAttr (.ref a) f b) Q E s := by
  obtain ⟨mA, O, r, _, _, _⟩ := ins_get I.hok e
  obtain ⟨u, hu, ru⟩ := RelO.some_of (v := v) (o := mA f) (by rw [← l]; exact r f)
  exact get_map I.kIn O (c.get f) c.hd n hu (handed_of ru) (h u _ (I.tok _) ru)

theorem getcon_ok {b : Bool} {u : Value} {Q : Value → Shared → Prop} (I : Inv X pins σ H s) (e : H a = some (.ins C dx fs)) (c : Cls X.K C) (k : Con X.K C f v u) (l : fs.lookup f = none)
    (h : ∀ s', Inv X pins σ H s' → Q u s') : wpAny (model X.prog X.w) A (getAttr (.ref a) f b) Q E s := by
  obtain ⟨mA, O, r, _, _, _⟩ := ins_get I.hok e
  have hn : mA f = none := RelO.none_of (by rw [← l]; exact r f)
  exact get_const I.kIn O (c.get f) c.hd k.at_ k.get k.cp hn (handed_of k.rel) (h _ (I.tok _))

theorem getmeth_ok {m : Str} {g : Addr} {pl : Sem Bool} {Q : Value × List Value → Shared → Prop} (I : Inv X pins σ H s) (e : H a = some (.ins C dx fs)) (c : Cls X.K C) (k : Meth X.K C m g) (l : fs.lookup m = none)
    (h : Q (.ref g, [.ref a]) s) : wpAny (model X.prog X.w) A (getMethod (.ref a) m pl) Q E s := by
  obtain ⟨mA, O, r, _, _, _⟩ := ins_get I.hok e
  have hn : mA m = none := RelO.none_of (by rw [← l]; exact r m)
  exact get_meth I.kIn O (c.get m) k.at_ k.fn hn h

theorem setattr_ok {y : V} {u : Value} {Q : Unit → Shared → Prop} (I : Inv X pins σ H s) (e : H a = some (.ins C dx fs)) (c : Cls X.K C) (n : NoAttr X.K C f) (hl : fs.length < 1000) (ry : RelV y u)
    (h : ∀ s', Inv X pins σ (upd H a (.ins C dx (putF f y fs))) s' → Q () s') : wpAny (model X.prog X.w) A (setAttr (.ref a) f u) Q E s := by
  obtain ⟨mA, O, r, wi, _, ho⟩ := ins_get I.hok e
  have hz : (fs.map (·.1)).length ≤ sizeLine := by rw [List.length_map, sizeLine_eq]; omega
  refine set_map I.kIn O c.sa c.po n.taker c.hd wi hz fun h' O' sb => h _ ?_
  have hd : ∃ o, h'.get? dx = some o := let ⟨o, _, _, e', _⟩ := O'.ns; ⟨o, e'⟩
  refine I.write (x := a) (e := dx) (by rw [e]; exact True.intro) (.inr ho) (fun b q hb z => (sb.2 b hb).trans z) hd ?_
  refine ⟨by rw [upd_ne O.ne]; exact ho, ?_, O.ne, O'.obj, _, O'.ns, fun g => ?_, fun g hg => ?_⟩
  · have := length_putF f y fs; omega
  · show RelO ((putF f y fs).lookup g) (if g = f then some u else mA g)
    rw [lookup_putF]
    by_cases q : g = f
    · rw [if_pos q, if_pos q]; exact ry
    · rw [if_neg q, if_neg q]; exact r g
  · by_cases q : g = f
    · rw [q]; exact (keys_putF f y fs).1
    · refine (keys_putF f y fs).2 g (wi g fun z => hg ?_)
      show (if g = f then some u else mA g) = none
      rw [if_neg q]; exact z

/-- a new instance, tracked, without attributes -/
theorem Inv.made (I : Inv X pins σ H s) : Inv X pins σ (upd (upd H s.heap.objs.size (.own (s.heap.objs.size + 1))) (s.heap.objs.size + 1) (.ins C s.heap.objs.size []))
    { s with heap := (s.heap.push PySem.W.emptyDict).push (PySem.W.instObj C s.heap.objs.size) } := by
  have e1 : (s.heap.push PySem.W.emptyDict).get? s.heap.objs.size = some PySem.W.emptyDict := Heap.get?_push_size s.heap rfl
  have e2 : ((s.heap.push PySem.W.emptyDict).push (PySem.W.instObj C s.heap.objs.size)).get? (s.heap.objs.size + 1) = some (PySem.W.instObj C s.heap.objs.size) := by
    have := Heap.get?_push_size (s.heap.push PySem.W.emptyDict) (o := PySem.W.instObj C s.heap.objs.size) rfl
    rwa [Heap.size_push] at this
  have e3 : (s.heap.push PySem.W.emptyDict).Ns s.heap.objs.size (fun _ => none) := ⟨PySem.W.emptyDict, #[], _, e1, rfl, (fun e he => absurd he (by simp)), fun _ => rfl⟩
  have I1 := I.laid (a := s.heap.objs.size) (o := .own (s.heap.objs.size + 1)) (h' := s.heap.push PySem.W.emptyDict) (t' := s.toks) (fun b u q => Heap.get?_push_of_some _ q) (Nat.le_refl _) ⟨_, e1⟩
  refine I1.laid (a := s.heap.objs.size + 1) (o := .ins C s.heap.objs.size []) (t' := s.toks) (fun b u q => Heap.get?_push_of_some _ q) (Nat.le_of_eq (Heap.size_push _ _)) ?_
  have ne : s.heap.objs.size ≠ s.heap.objs.size + 1 := Nat.ne_of_lt (Nat.lt_succ_self _)
  refine ⟨by rw [upd_ne ne, upd_same], Nat.zero_le _, ne, e2, fun _ => none, (Heap.Ns1.of_empty e3).at fun o q => Heap.get?_push_of_some _ q, fun _ => True.intro, fun y hy => absurd rfl hy⟩

/-- e.f where nothing but the object is asked: through attributeBase (super) and the last hold -/
theorem attr_of {prog : Program} {w : World} {env : Env} {e : Expr} {f : Str} {pos : Pos} {s : Shared} {Q : Value → Shared → Prop} (hb : attributeBase e f env (eval e env) = eval e env)
    (h : wpAny (model prog w) A (eval e env) (fun o s₁ => wpAny (model prog w) A (getAttr o f true) Q E s₁) E s) : wpAny (model prog w) A (eval (.Attribute e f pos) env) Q E s :=
  Attribute_any_ h (by rw [arm_eval_Attribute, hb])
end

/-! ### readings and rules -/
/-- e.f, an attribute of the instance -/
def tFld (K : PySem.W.Frag) (ta : TE) (f : Str) : TE := fun σ H Q => ta σ H fun x H1 => ∃ a C dx fs v, x = .ref a ∧ H1 a = some (.ins C dx fs) ∧ Cls K C ∧ NoAttr K C f ∧ fs.lookup f = some v ∧ Q v H1
/-- e.f, a constant of the class -/
def tCon (K : PySem.W.Frag) (ta : TE) (f : Str) : TE := fun σ H Q => ta σ H fun x H1 => ∃ a C dx fs v u, x = .ref a ∧ H1 a = some (.ins C dx fs) ∧ Cls K C ∧ Con K C f v u ∧ fs.lookup f = none ∧ Q v H1
/-- e.f = value -/
def sFld (K : PySem.W.Frag) (ta tv : TE) (f : Str) : TS := fun D σ H => tv σ H fun y H1 => ta σ H1 fun x H2 => ∃ a C dx fs, x = .ref a ∧ H2 a = some (.ins C dx fs) ∧ Cls K C ∧ NoAttr K C f ∧ fs.length < 1000 ∧
  D.nx σ (upd H2 a (.ins C dx (putF f y fs)))
/-- an augmented operator on two values -/
def InOp (X : Cx) (op : Operator) (rd : V → V → Hp → VK → Prop) : Prop :=
  ∀ (pins : List (Addr × Obj)) (s : Shared) (σ : St) (H : Hp) (x y : V) (u v : Value) (Q : VK), Inv X pins σ H s → RelV x u → RelV y v → rd x y H Q → wpAny (model X.prog X.w) X.A (inplaceOp op u v) (EP X pins σ Q) X.xe s
/-- e.f op= value -/
def sFldAug (K : PySem.W.Frag) (ta tv : TE) (rd : V → V → Hp → VK → Prop) (f : Str) : TS := fun D σ H => ta σ H fun x H1 => ∃ a C dx fs v, x = .ref a ∧ H1 a = some (.ins C dx fs) ∧ Cls K C ∧ NoAttr K C f ∧ fs.lookup f = some v ∧
  tv σ H1 fun y H2 => rd v y H2 fun z H3 => ∃ dx' fs', H3 a = some (.ins C dx' fs') ∧ fs'.length < 1000 ∧ D.nx σ (upd H3 a (.ins C dx' (putF f z fs')))

section
variable {X : Cx} {o e value : Expr} {f : Str} {pos pos' tpos : Pos} {ta tv : TE}
theorem pe_fld (he : PE X e ta) (hb : attributeBase e f X.env (eval e X.env) = eval e X.env) : PE X (.Attribute e f pos) (tFld X.K ta f) := by
  intro pins s σ H Q I h
  refine attr_of hb (thn (he pins s σ H _ I h) fun u s1 ⟨x, H1, I1, rx, a, C, dx, fs, v, ex, ea, c, n, l, q⟩ => ?_)
  subst ex
  obtain rfl : u = Value.ref a := rx
  exact getattr_ok I1 ea c n l fun u' s2 I2 ru => ⟨v, H1, I2, ru, q⟩
theorem pe_con (he : PE X e ta) (hb : attributeBase e f X.env (eval e X.env) = eval e X.env) : PE X (.Attribute e f pos) (tCon X.K ta f) := by
  intro pins s σ H Q I h
  refine attr_of hb (thn (he pins s σ H _ I h) fun u s1 ⟨x, H1, I1, rx, a, C, dx, fs, v, u0, ex, ea, c, k, l, q⟩ => ?_)
  subst ex
  obtain rfl : u = Value.ref a := rx
  exact getcon_ok I1 ea c k l fun s2 I2 => ⟨v, H1, I2, k.rel, q⟩
theorem ps_fld (ha : PE X o ta) (hv : PE X value tv) (hs : swapsWith value (some (.Attribute o f pos')) pos.line X.env = pure false) : PS X (.Assign [.Attribute o f pos'] value pos) (sFld X.K ta tv f) := by
  intro pins s σ H D I h
  refine plainObj_wpAny_Assign_Attribute (thn (hv pins s σ H _ I h) fun u s1 ⟨y, H1, I1, ry, q⟩ => thn (ha pins s1 σ H1 _ I1 q) fun ov s2 ⟨x, H2, I2, rx, a, C, dx, fs, ex, ea, c, n, l, q2⟩ => ?_) hs
  subst ex
  obtain rfl : ov = Value.ref a := rx
  exact setattr_ok I2 ea c n l ry fun s3 I3 => ⟨σ, _, I3, q2⟩
theorem ps_fldaug {op : Operator} {rd : V → V → Hp → VK → Prop} (ha : PE X o ta) (hv : PE X value tv) (hop : InOp X op rd) : PS X (.AugAssign (.Attribute o f tpos) op value pos) (sFldAug X.K ta tv rd f) := by
  intro pins s σ H D I h
  refine wpAny_AugAssign_AttributeAny (thn (ha pins s σ H _ I h) fun ov s1 ⟨x, H1, I1, rx, a, C, dx, fs, v, ex, ea, c, n, l, q⟩ => ?_)
  subst ex
  obtain rfl : ov = Value.ref a := rx
  refine getattr_ok I1 ea c n l fun u s2 I2 ru => thn (hv pins s2 σ H1 _ I2 q) fun w3 s3 ⟨y, H2, I3, ry, q3⟩ => thn (hop pins s3 σ H2 v y u w3 _ I3 ru ry q3) fun w4 s4 ⟨z, H3, I4, rz, dx', fs', ea', l', q4⟩ => ?_
  exact setattr_ok I4 ea' c n l' rz fun s5 I5 => ⟨σ, _, I5, q4⟩
def rAdd : V → V → Hp → VK → Prop := fun x y H Q => ∃ i j, x = .int i ∧ y = .int j ∧ Q (.int (i + j)) H
def rSub : V → V → Hp → VK → Prop := fun x y H Q => ∃ i j, x = .int i ∧ y = .int j ∧ Q (.int (i - j)) H
theorem in_add : InOp X .Add rAdd := by
  rintro pins s σ H x y u v Q I rx ry ⟨i, j, rfl, rfl, q⟩
  obtain ⟨t, rfl⟩ := (show ∃ t, u = Value.int i t from rx)
  obtain ⟨t', rfl⟩ := (show ∃ t', v = Value.int j t' from ry)
  exact PyProof.Rows.iadd_int ⟨.int (i + j), H, I.tok _, ⟨_, rfl⟩, q⟩
theorem in_sub : InOp X .Sub rSub := by
  rintro pins s σ H x y u v Q I rx ry ⟨i, j, rfl, rfl, q⟩
  obtain ⟨t, rfl⟩ := (show ∃ t, u = Value.int i t from rx)
  obtain ⟨t', rfl⟩ := (show ∃ t', v = Value.int j t' from ry)
  exact PyProof.Rows.isub_int ⟨.int (i - j), H, I.tok _, ⟨_, rfl⟩, q⟩

/-- what is between an instance and its method: the tree of a method call -/
theorem methcall_of {pl : Sem Bool} {m : Str} {apos : Pos} {args : List Expr} {pins : List (Addr × Obj)} {s : Shared} {σ : St} {H : Hp} {Q : Value → Shared → Prop} {te : TE} (he : PE X e te) (I : Inv X pins σ H s)
    (h : te σ H fun x H1 => ∃ a C dx fs g, x = .ref a ∧ H1 a = some (.ins C dx fs) ∧ Cls X.K C ∧ Meth X.K C m g ∧ fs.lookup m = none ∧
      ∀ s1, Inv X pins σ H1 s1 → wpAny (model X.prog X.w) X.A (callWith pos (.ref g) [.ref a] (backTo pos (starEach args X.env)) (backToKw pos (keywordEach [] X.env))) Q X.xe s1)
    (ht : eval (.Call (.Attribute e m apos) args [] pos) X.env = (do
      let ov ← eval e X.env
      standAt apos.atName
      let (f, first) ← holding [ov] (getMethod ov m pl)
      callWith pos f first (backTo pos (starEach args X.env)) (backToKw pos (keywordEach [] X.env)))) :
    wpAny (model X.prog X.w) X.A (eval (.Call (.Attribute e m apos) args [] pos) X.env) Q X.xe s := by
  refine PySem.W.methodCall_KW (pl := pl) (thn (he pins s σ H _ I h) fun u s1 ⟨x, H1, I1, rx, a, C, dx, fs, g, ex, ea, c, k, l, q⟩ => ?_) ht
  subst ex
  obtain rfl : u = Value.ref a := rx
  exact getmeth_ok I1 ea c k l (q s1 I1)
end

/-! ### isinstance -/
section
variable {X : Cx} {pins : List (Addr × Obj)} {σ : St} {H : Hp} {s : Shared} {A : Around} {E : Value → Shared → Prop} {Q : Value → Shared → Prop} {c : Value} {b : Bool}
/-- the type of a value, as the fragment's deciders take it; for an instance its class -/
inductive TyOf (K : PySem.W.Frag) (H : Hp) : V → Value → Prop where
  | non : TyOf K H .non (.type "NoneType")
  | bl (x : Bool) : TyOf K H (.bl x) (.type "bool")
  | int (i : Int) : TyOf K H (.int i) (.type "int")
  | str (x : Str) : TyOf K H (.str x) (.type "str")
  | flt (x : UInt64) : TyOf K H (.flt x) (.type "float")
  | lst {a : Addr} {xs : List V} (e : H a = some (.lst xs)) : TyOf K H (.ref a) (.type "list")
  | frz {a : Addr} {o : Obj} {xs : List V} (e : H a = some (.frz o (.lst xs))) : TyOf K H (.ref a) (.type "list")
  | tup {a : Addr} {xs : List V} (e : H a = some (.tup xs)) : TyOf K H (.ref a) (.type "tuple")
  | dK {a : Addr} {kvs : List (Key × V)} (e : H a = some (.dK kvs)) : TyOf K H (.ref a) (.type "dict")
  | dT {a : Addr} {kvs : List (List Key × V)} (e : H a = some (.dT kvs)) : TyOf K H (.ref a) (.type "dict")
  | ins {a C dx : Addr} {fs : List (Str × V)} (e : H a = some (.ins C dx fs)) (cl : Cls K C) (ha : PySem.W.findIn K (.ref C) "__class__" = some (some (.builtin "object.__class__")))
      (hn : PySem.W.specialIn K (.builtin "object.__class__") "__get__" = some (some (.builtin "getset_descriptor.__get__"))) (htk : PySem.W.takesIn K (.builtin "object.__class__") = some true)
      (hm : PySem.W.mroIn K C (.type "object") = some true) : TyOf K H (.ref a) (.ref C)
/-- isinstance(x, c) for one class c, a built-in or an own one: kitOne's answer -/
theorem isinst_ok {x : V} {u t : Value} (I : Inv X pins σ H s) (rx : RelV x u) (ty : TyOf X.K H x t) (e : PySem.W.kitOne X.K t c = some b) (h : ∀ tk, Q (.bool b) { s with toks := tk }) :
    wpAny (model X.prog X.w) A (call (.builtin "isinstance") [u, c]) Q E s := by
  cases ty with
  | non => cases (show u = Value.none from rx); exact PySem.W.kia_one PySem.W.kitx_none I.kIn True.intro e (fun z => nomatch z) h
  | bl y => cases (show u = Value.bool y from rx); exact PySem.W.kia_one PySem.W.kitx_bool I.kIn True.intro e (fun z => nomatch z) h
  | int i => obtain ⟨t, q⟩ := (show ∃ t, u = Value.int i t from rx); cases q; exact PySem.W.kia_one PySem.W.kitx_int I.kIn True.intro e (fun z => nomatch z) h
  | str y => obtain ⟨t, q⟩ := (show ∃ t, u = Value.str y t from rx); cases q; exact PySem.W.kia_one PySem.W.kitx_str I.kIn True.intro e (fun z => nomatch z) h
  | flt y => obtain ⟨t, q⟩ := (show ∃ t, u = Value.float y t from rx); cases q; exact PySem.W.kia_one PySem.W.kitx_float I.kIn True.intro e (fun z => nomatch z) h
  | @lst a xs ea =>
    cases (show u = Value.ref a from rx)
    obtain ⟨_, _, n, _, h1⟩ := (show ObjOk X.prog X.w H s.heap a (.lst xs) from I.hok a _ ea)
    exact PySem.W.kia_one PySem.W.kitx_list I.kIn ⟨_, h1, rfl⟩ e (fun z => nomatch z) h
  | @frz a ob xs ea =>
    cases (show u = Value.ref a from rx)
    obtain ⟨_, _, _, n, _, h1⟩ := (show ObjOk X.prog X.w H s.heap a (.frz ob (.lst xs)) from I.hok a _ ea)
    exact PySem.W.kia_one PySem.W.kitx_list I.kIn ⟨_, h1, rfl⟩ e (fun z => nomatch z) h
  | @tup a xs ea =>
    cases (show u = Value.ref a from rx)
    obtain ⟨_, _, _, p⟩ := (show ObjOk X.prog X.w H s.heap a (.tup xs) from I.hok a _ ea)
    obtain ⟨o, h1, h2, _⟩ := p
    exact PySem.W.kia_one PySem.W.kitx_tuple I.kIn ⟨o, h1, h2⟩ e (fun z => nomatch z) h
  | @dK a kvs ea =>
    cases (show u = Value.ref a from rx)
    obtain ⟨_, _, vs, _, p⟩ := (show ObjOk X.prog X.w H s.heap a (.dK kvs) from I.hok a _ ea)
    obtain ⟨o, es, ep, h1, h2, _⟩ := p
    exact PySem.W.kia_one PySem.W.kitx_dict I.kIn ⟨o, h1, h2.1⟩ e (fun z => nomatch z) h
  | @dT a kvs ea =>
    cases (show u = Value.ref a from rx)
    obtain ⟨_, _, xs, _, o, es, ep, h1, h2, _⟩ := (show ObjOk X.prog X.w H s.heap a (.dT kvs) from I.hok a _ ea)
    exact PySem.W.kia_one PySem.W.kitx_dict I.kIn ⟨o, h1, h2.1⟩ e (fun z => nomatch z) h
  | @ins a C dx fs ea cl ha hn htk hm =>
    cases (show u = Value.ref a from rx)
    obtain ⟨mA, O, _⟩ := ins_get I.hok ea
    obtain ⟨od, J, _⟩ := O.look
    exact PySem.W.kia_one (PySem.W.kitx_own (cl.get _) cl.hd ha hn htk hm) I.kIn J e (fun z => nomatch z) h
end
end L2

namespace L2
open PySem PySem.Spec PyProof.Rows

/-! ### room -/
structure Room (k : Nat) (A : Around) : Prop where
  hd : A.handled = none
  dp : A.depth + 3 * k + 5 < recursionLimit
  un : A.units + 16 * k + 200 < cLine
theorem Room.mono {j k : Nat} {A : Around} (r : Room k A) (h : j ≤ k) : Room j A := ⟨r.hd, by have := r.dp; omega, by have := r.un; omega⟩
theorem Room.deeper {k : Nat} {A : Around} (r : Room (k + 1) A) (env : Env) : Room k (A.deeper env) :=
  ⟨r.hd, by have := r.dp; show A.depth + 1 + 3 * k + 5 < _; omega, by have := r.un; show A.units + 3 + 16 * k + 200 < _; omega⟩
theorem Room.in1 {k : Nat} {A : Around} (r : Room (k + 1) A) : Room k A.in1 :=
  ⟨r.hd, by have := r.dp; show A.depth + 3 * k + 5 < _; omega, by have := r.un; show A.units + 1 + 16 * k + 200 < _; omega⟩
theorem make_depth {A : Around} {C : Addr} {us : List Value} {kw : List (Str × Value)} : (A.under (.builtin "type.__call__" ⟨.ref C :: us, kw⟩)).depth = A.depth + 1 := by
  first | rfl | simp [Around.under, Code.weight, Code.isCreation, Code.isGuard, Code.isCaller, Code.frames, Code.isFrame, guardIds]
theorem make_units {A : Around} {C : Addr} {us : List Value} {kw : List (Str × Value)} : (A.under (.builtin "type.__call__" ⟨.ref C :: us, kw⟩)).units = A.units + 1 := by
  first | rfl | simp [Around.under, Code.cUnits, Code.frames, Code.isFrame]
theorem Room.make {k : Nat} {A : Around} (r : Room (k + 1) A) (C : Addr) (us : List Value) (kw : List (Str × Value)) : Room k (A.under (.builtin "type.__call__" ⟨.ref C :: us, kw⟩)) :=
  ⟨r.hd, by have := r.dp; rw [make_depth]; omega, by have := r.un; rw [make_units]; omega⟩
theorem Room.depth {k : Nat} {A : Around} (r : Room k A) : A.depth < recursionLimit := by have := r.dp; omega
theorem Room.units {k : Nat} {A : Around} (r : Room k A) : A.units + 64 < cLine := by have := r.un; omega
theorem Room.units0 {k : Nat} {A : Around} (r : Room k A) : A.units < cLine := by have := r.un; omega

/-! ### argument lists and displays -/
def tNil : TA := fun _ H Q => Q [] H
def tCons (ta : TE) (tr : TA) : TA := fun σ H Q => ta σ H fun x H1 => tr σ H1 fun xs H2 => Q (x :: xs) H2
section
variable {X : Cx} {e : Expr} {es : List Expr} {te : TE} {t : TA} {pos : Pos}
theorem pa_nil : PA X [] tNil := fun _ _ _ _ H Q I h => Calls.spliced_nil ⟨[], H, I, .nil, h⟩
theorem pa_cons (ha : PE X e te) (hr : PA X es t) (hs : starEach (e :: es) X.env = (false, eval e X.env) :: starEach es X.env := by rfl) : PA X (e :: es) (tCons te t) := by
  intro pos pins s σ H Q I h
  rw [hs]
  show wpAny _ _ (spliced ((false, eval e X.env) :: backTo pos (starEach es X.env))) _ _ s
  refine Calls.spliced_cons (thn (ha pins s σ H _ I h) fun u s1 ⟨x, H1, I1, r1, q1⟩ => ?_)
  exact thn (hr pos pins s1 σ H1 _ I1 q1) fun us s2 ⟨xs, H2, I2, r2, q2⟩ => ⟨x :: xs, H2, I2, .cons r1 r2, q2⟩

/-- a tuple, a list of written items -/
def tTup (t : TA) : TE := fun σ H Q => t σ H fun xs H1 => xs.length ≤ sizeLine ∧ ∀ p, H1 p = none → Q (.ref p) (upd H1 p (.tup xs))
def tLst (t : TA) : TE := fun σ H Q => t σ H fun xs H1 => xs.length ≤ sizeLine ∧ ∀ p, H1 p = none → Q (.ref p) (upd H1 p (.lst xs))
theorem pe_tup {x1} (h : PA X es t) : PE X (.Tuple es x1 pos) (tTup t) := by
  intro pins s σ H Q I hq
  refine wpAny_Tuple_spliced (thn (h pos pins s σ H _ I hq) fun us s1 ⟨xs, H1, I1, r, z, q⟩ => ⟨by rw [← r.length]; exact z, ?_⟩)
  have hf : H1 s1.heap.objs.size = none := I1.hok.fresh (Nat.le_refl _)
  refine ⟨.ref s1.heap.objs.size, upd H1 s1.heap.objs.size (.tup xs), I1.laid (t' := s1.toks) (fun b u e => Heap.get?_push_of_some _ e) (Nat.le_refl _) ?_, rfl, q _ hf⟩
  exact ⟨z, us, r, ⟨_, Heap.get?_push_size _ rfl, rfl, _, rfl⟩⟩
theorem pe_lst (h : PA X es t) : PE X (.List es pos) (tLst t) := by
  intro pins s σ H Q I hq
  refine wpAny_List_spliced (thn (h pos pins s σ H _ I hq) fun us s1 ⟨xs, H1, I1, r, z, q⟩ => ⟨by rw [← r.length]; exact z, ?_⟩)
  have hf : H1 s1.heap.objs.size = none := I1.hok.fresh (Nat.le_refl _)
  refine ⟨.ref s1.heap.objs.size, upd H1 s1.heap.objs.size (.lst xs), I1.laid (t' := s1.toks) (fun b u e => Heap.get?_push_of_some _ e) (Nat.le_refl _) ?_, rfl, q _ hf⟩
  exact ⟨z, us, 0, r, Heap.get?_push_size _ rfl⟩
end

/-! ### what a def promises -/
/-- a def's promise: the bound arguments in the parameters' order, the heap, the wanted end, the wanted exception -/
abbrev Sp := List V → Hp → VK → XK → Prop
/-- how an exception lies behind a call (file 08 gives it): the callers' frames, abstract heap and state ahead of the call, the wish, the exception, the state -/
abbrev CXT := List Env → Hp → Shared → XK → Value → Shared → Prop

/-- the state at a call -/
structure Env0 (P : Program) (w : World) (K : PySem.W.Frag) (mg : Str → Option Value) (base : Heap) (A : Around) (outer : List Env) (s : Shared) (H : Hp) : Prop where
  frames : A.frames = some outer
  mod : Mod K mg base
  bs : ∀ b o, base.get? b = some o → s.heap.get? b = some o ∧ H b = none
  bsz : base.objs.size ≤ s.heap.objs.size
  funs : s.heap.FunFrames base outer
  frf : ∀ b ∈ frs outer, H b = none
  hok : HOk P w H s.heap
  bare : AllBare s.gens
/-- a call's end -/
def CE (outer : List Env) (P : Program) (w : World) (H : Hp) (s : Shared) (Q : VK) (u : Value) (s' : Shared) : Prop :=
  ∃ v H', s'.os = s.os ∧ AllBare s'.gens ∧ Un (frs outer) [] H H' s.heap s'.heap ∧ HOk P w H' s'.heap ∧ RelV v u ∧ Q v H'
def CR (CX : CXT) (outer : List Env) (P : Program) (w : World) (H : Hp) (s : Shared) (Q : VK) (E : XK) (r : Result) (s' : Shared) : Prop :=
  match r with
  | .ok (.ret u) => CE outer P w H s Q u s'
  | .ok _ => False
  | .error e => CX outer H s E e s'
structure FnOk (P : Program) (w : World) (K : PySem.W.Frag) (mg : Str → Option Value) (base : Heap) (CX : CXT) (k : Nat) (f : Addr) (fd : FuncData) (ps : List Str) (sp : Sp) : Prop where
  len : ∀ vs H Q E, sp vs H Q E → vs.length = ps.length
  run : ∀ (A : Around) (outer : List Env) (s : Shared) (H : Hp) (args : Args) (us : List Value) (vs : List V) (Q : VK) (E : XK), Room k A → Env0 P w K mg base A outer s H → BindsTo s fd args (ps.zip us) → Vals vs us → sp vs H Q E →
    codeAny (model P w) A (.call (.ref f) args) (CR CX outer P w H s Q E) s
theorem FnOk.mono {P : Program} {w : World} {K : PySem.W.Frag} {mg : Str → Option Value} {base : Heap} {CX : CXT} {j k : Nat} {f : Addr} {fd : FuncData} {ps : List Str} {sp : Sp} (F : FnOk P w K mg base CX j f fd ps sp) (h : j ≤ k) :
    FnOk P w K mg base CX k f fd ps sp := ⟨F.len, fun A outer s H args us vs Q E hr => F.run A outer s H args us vs Q E (hr.mono h)⟩
/-- a weaker promise -/
theorem FnOk.imp {P : Program} {w : World} {K : PySem.W.Frag} {mg : Str → Option Value} {base : Heap} {CX : CXT} {k : Nat} {f : Addr} {fd : FuncData} {ps : List Str} {sp sp' : Sp} (F : FnOk P w K mg base CX k f fd ps sp)
    (h : ∀ vs H Q E, sp' vs H Q E → sp vs H Q E) : FnOk P w K mg base CX k f fd ps sp' :=
  ⟨fun vs H Q E q => F.len vs H Q E (h _ _ _ _ q), fun A outer s H args us vs Q E hr he hb hv hs => F.run A outer s H args us vs Q E hr he hb hv (h _ _ _ _ hs)⟩

theorem Env0.make {P : Program} {w : World} {K : PySem.W.Frag} {mg : Str → Option Value} {base : Heap} {A : Around} {outer : List Env} {s : Shared} {H : Hp} (e : Env0 P w K mg base A outer s H) (C : Addr) (us : List Value) (kw : List (Str × Value)) :
    Env0 P w K mg base (A.under (.builtin "type.__call__" ⟨.ref C :: us, kw⟩)) outer s H := ⟨by first | exact e.frames | (simpa [Around.under, Code.envs, Code.isFrame, pushEnvs] using e.frames), e.mod, e.bs, e.bsz, e.funs, e.frf, e.hok, e.bare⟩
theorem Env0.in1 {P : Program} {w : World} {K : PySem.W.Frag} {mg : Str → Option Value} {base : Heap} {A : Around} {outer : List Env} {s : Shared} {H : Hp} (e : Env0 P w K mg base A outer s H) :
    Env0 P w K mg base A.in1 outer s H := ⟨e.frames, e.mod, e.bs, e.bsz, e.funs, e.frf, e.hok, e.bare⟩

section
variable {X : Cx} {pins : List (Addr × Obj)} {σ : St} {H : Hp} {s s' : Shared}
/-- from a body: what a callee wants -/
theorem Inv.env0 (I : Inv X pins σ H s) : Env0 X.prog X.w X.K X.mg X.base X.A X.stack s H :=
  ⟨I.ok.frames, I.ok.mod, I.bs, Nat.le_trans I.ok.bsz I.sz, I.stack, I.stkFree, I.hok, I.bare⟩
/-- behind a call -/
theorem Inv.after {Q : VK} {u : Value} (I : Inv X pins σ H s) (h : CE X.stack X.prog X.w H s Q u s') : EP X pins σ Q u s' := by
  obtain ⟨v, H', os, bare, un, hok, r, q⟩ := h
  obtain ⟨hh, g, d, t, os'⟩ := s'
  obtain rfl : os' = s.os := os
  exact ⟨v, H', I.call (h' := hh) (g' := g) (d' := d) (t' := t) (ch := []) un hok bare (fun b z => absurd z (by simp)), r, q⟩
end

/-! ### calls -/
/-- f(..): the written arguments, then the defaults dvs; E: what is wanted of an exception -/
def tCall (sp : Sp) (dvs : List V) (E : XK) (t : TA) : TE := fun σ H Q => t σ H fun vs H1 => sp (vs ++ dvs) H1 Q E
/-- o.m(..) of an instance of the class at C -/
def tMeth (C : Addr) (m : Str) (sp : Sp) (dvs : List V) (E : XK) (ta : TE) (t : TA) : TE := fun σ H Q => ta σ H fun x H1 => ∃ a dx fs, x = .ref a ∧ H1 a = some (.ins C dx fs) ∧ fs.lookup m = none ∧
  t σ H1 fun vs H2 => sp (x :: (vs ++ dvs)) H2 Q E
/-- C(..): a new instance and its dict, then __init__ -/
def tMake (C : Addr) (sp : Sp) (dvs : List V) (E : XK) (t : TA) : TE := fun σ H Q => t σ H fun vs H1 => ∀ x dx, H1 x = none → H1 dx = none → dx ≠ x →
  sp (.ref x :: (vs ++ dvs)) (upd (upd H1 dx (.own x)) x (.ins C dx [])) (fun v H2 => v = .non ∧ Q (.ref x) H2) E

/-- how the parameters are bound: us the positional arguments, kw the keywords' values by name, ds the defaults that fill up -/
def Binds (K : PySem.W.Frag) (fd : FuncData) (ps : List Str) (ds : List Value) : Prop :=
  ∀ (s : Shared) (us : List Value), K.In s.heap → (us ++ ds).length = ps.length → BindsTo s fd ⟨us, []⟩ (ps.zip (us ++ ds))
/-- every parameter is given -/
theorem Binds.all {K : PySem.W.Frag} {fd : FuncData} {ps : List Str} (h : ∀ us : List Value, us.length = ps.length → bindArgs fd ⟨us, []⟩ = pure (ps.zip us)) : Binds K fd ps [] := fun s us _ hl => by
  rw [List.append_nil] at hl ⊢
  exact .of_eq (h us hl)

/-- an exception of a callee reaches what this body wants of exceptions -/
def Passes (CX : CXT) (X : Cx) (E : XK) : Prop := ∀ (pins : List (Addr × Obj)) (σ : St) (H : Hp) (s : Shared) (e : Value) (s' : Shared), Inv X pins σ H s → CX X.stack H s E e s' → X.xe e s'

section
variable {X : Cx} {CX : CXT} {k : Nat} {f C : Addr} {fd : FuncData} {ps : List Str} {sp : Sp} {dvs : List V} {ds : List Value} {E : XK} {x m : Str} {p pos apos : Pos} {e o : Expr} {es : List Expr} {ta : TE} {t : TA}

/-- the callee runs -/
theorem run_fn {pins : List (Addr × Obj)} {σ : St} {H : Hp} {s : Shared} {Q : VK} {us : List Value} {vs : List V} (F : FnOk X.prog X.w X.K X.mg X.base CX k f fd ps sp) (hr : Room k X.A) (hb : Binds X.K fd ps ds) (hd : Vals dvs ds) (hx : Passes CX X E)
    (I : Inv X pins σ H s) (r : Vals vs us) (h : sp (vs ++ dvs) H Q E) : wpAny (model X.prog X.w) X.A (call (.ref f) us) (EP X pins σ Q) X.xe s := by
  have r2 : Vals (vs ++ dvs) (us ++ ds) := r.append hd
  have hl : (us ++ ds).length = ps.length := by rw [← r2.length]; exact F.len _ _ _ _ h
  refine wpAny_call (codeAny_mono (F.run X.A X.stack s H ⟨us, []⟩ (us ++ ds) (vs ++ dvs) Q E hr I.env0 (hb s us I.kIn hl) r2 h) fun r s' hq => ?_)
  cases r with
  | error e => exact hx pins σ H s e s' I hq
  | ok fl =>
    cases fl with
    | ret u => exact I.after hq
    | next => exact False.elim hq
    | brk => exact False.elim hq
    | cont => exact False.elim hq

theorem pe_call (F : FnOk X.prog X.w X.K X.mg X.base CX k f fd ps sp) (hr : Room k X.A) (hg : Gl X x) (hm : X.mg x = some (.ref f)) (hk : PySem.W.keepIn X.K (.ref f) = true) (hb : Binds X.K fd ps ds) (hd : Vals dvs ds) (hx : Passes CX X E)
    (ha : PA X (e :: es) t) (hdb : (x == ("__debug__" : Str)) = false := by decide) (he : starEach (e :: es) X.env = (false, eval e X.env) :: starEach es X.env := by rfl) (hpl : (backTo pos (starEach es X.env)).any (·.1) = false := by rfl) :
    PE X (.Call (.Name x p) (e :: es) [] pos) (tCall sp dvs E t) := by
  intro pins s σ H Q I h
  refine wpAny_Call_Name_kw (ld_glob I hg hm ?_ hdb)
  refine PySem.W.callWith_K (h₀ := X.base) I.ok.mod.kin hk (thn (ha pos pins s σ H _ I h) fun us s1 ⟨vs, H1, I1, r, q⟩ => ⟨I1.kIn, ?_⟩) he hpl
  exact run_fn F hr hb hd hx I1 r q
theorem pe_call0 (F : FnOk X.prog X.w X.K X.mg X.base CX k f fd ps sp) (hr : Room k X.A) (hg : Gl X x) (hm : X.mg x = some (.ref f)) (hk : PySem.W.keepIn X.K (.ref f) = true) (hb : Binds X.K fd ps ds) (hd : Vals dvs ds) (hx : Passes CX X E)
    (hdb : (x == ("__debug__" : Str)) = false := by decide) : PE X (.Call (.Name x p) [] [] pos) (tCall sp dvs E tNil) := by
  intro pins s σ H Q I h
  refine wpAny_Call_Name_kw (ld_glob I hg hm ?_ hdb)
  exact PySem.W.callWith_K0 I.kIn hk (run_fn (us := []) F hr hb hd hx I .nil h)

/-- o.m(e, ..) -/
theorem pe_meth {pl : Sem Bool} (he : PE X o ta) (c : Cls X.K C) (hm : Meth X.K C m f) (F : FnOk X.prog X.w X.K X.mg X.base CX k f fd ps sp) (hr : Room k X.A) (hb : Binds X.K fd ps ds) (hd : Vals dvs ds) (hx : Passes CX X E) (ha : PA X (e :: es) t)
    (hst : starEach (e :: es) X.env = (false, eval e X.env) :: starEach es X.env := by rfl) (hpl : (backTo pos (starEach es X.env)).any (·.1) = false := by rfl)
    (ht : eval (.Call (.Attribute o m apos) (e :: es) [] pos) X.env = (do
      let ov ← eval o X.env
      standAt apos.atName
      let (f, first) ← holding [ov] (getMethod ov m pl)
      callWith pos f first (backTo pos (starEach (e :: es) X.env)) (backToKw pos (keywordEach [] X.env))) := by rfl) :
    PE X (.Call (.Attribute o m apos) (e :: es) [] pos) (tMeth C m sp dvs E ta t) := by
  intro pins s σ H Q I h
  refine PySem.W.methodCall_KW (pl := pl) (thn (he pins s σ H _ I h) fun u s1 ⟨x, H1, I1, rx, a, dx, fs, ex, ea, l, q⟩ => ?_) ht
  subst ex
  obtain rfl : u = Value.ref a := rx
  refine getmeth_ok I1 ea c hm l ?_
  refine PySem.W.callWith_K (first := [.ref a]) (h₀ := X.base) I.ok.mod.kin hm.kp (thn (ha pos pins s1 σ H1 _ I1 q) fun us s2 ⟨vs, H2, I2, r, q2⟩ => ⟨I2.kIn, ?_⟩) hst hpl
  exact run_fn (us := .ref a :: us) (vs := .ref a :: vs) F hr hb hd hx I2 (.cons rfl r) q2
/-- o.m() -/
theorem pe_meth0 {pl : Sem Bool} (he : PE X o ta) (c : Cls X.K C) (hm : Meth X.K C m f) (F : FnOk X.prog X.w X.K X.mg X.base CX k f fd ps sp) (hr : Room k X.A) (hb : Binds X.K fd ps ds) (hd : Vals dvs ds) (hx : Passes CX X E)
    (ht : eval (.Call (.Attribute o m apos) [] [] pos) X.env = (do
      let ov ← eval o X.env
      standAt apos.atName
      let (f, first) ← holding [ov] (getMethod ov m pl)
      callWith pos f first (backTo pos (starEach [] X.env)) (backToKw pos (keywordEach [] X.env))) := by rfl) :
    PE X (.Call (.Attribute o m apos) [] [] pos) (tMeth C m sp dvs E ta tNil) := by
  intro pins s σ H Q I h
  refine PySem.W.methodCall_KW (pl := pl) (thn (he pins s σ H _ I h) fun u s1 ⟨x, H1, I1, rx, a, dx, fs, ex, ea, l, q⟩ => ?_) ht
  subst ex
  obtain rfl : u = Value.ref a := rx
  refine getmeth_ok I1 ea c hm l ?_
  exact PySem.W.callWith_K0 (first := [.ref a]) I1.kIn hm.kp (run_fn (us := [.ref a]) (vs := [.ref a]) F hr hb hd hx I1 (.cons rfl .nil) q)

/-- what a class must have to be made -/
structure Mk (K : PySem.W.Frag) (C f : Addr) : Prop where
  makes : PySem.W.makesIn K C = true
  init : PySem.W.findIn K (.ref C) "__init__" = some (some (.ref f))
  fn : PySem.W.isFn K (.ref f) = true
  kp : PySem.W.keepIn K (.ref C) = true

theorem run_make {pins : List (Addr × Obj)} {σ : St} {H : Hp} {s : Shared} {Q : VK} {us : List Value} {vs : List V} (M : Mk X.K C f) (F : FnOk X.prog X.w X.K X.mg X.base CX k f fd ps sp) (hr : Room (k + 1) X.A) (hb : Binds X.K fd ps ds) (hd : Vals dvs ds)
    (hx : Passes CX X E) (I : Inv X pins σ H s) (r : Vals vs us)
    (h : ∀ x dx, H x = none → H dx = none → dx ≠ x → sp (.ref x :: (vs ++ dvs)) (upd (upd H dx (.own x)) x (.ins C dx [])) (fun v H2 => v = .non ∧ Q (.ref x) H2) E) :
    wpAny (model X.prog X.w) X.A (call (.ref C) us) (EP X pins σ Q) X.xe s := by
  have hq := h (s.heap.objs.size + 1) s.heap.objs.size (I.hok.fresh (Nat.le_succ _)) (I.hok.fresh (Nat.le_refl _)) (Nat.ne_of_lt (Nat.lt_succ_self _))
  have I2 := Inv.made (C := C) I
  have r2 : Vals (V.ref (s.heap.objs.size + 1) :: (vs ++ dvs)) (Value.ref (s.heap.objs.size + 1) :: (us ++ ds)) := .cons rfl (r.append hd)
  have hl : (Value.ref (s.heap.objs.size + 1) :: us ++ ds).length = ps.length := by
    have e := r2.length
    rw [F.len _ _ _ _ hq] at e
    exact e.symm
  refine wpAny_call (make_map (f := f) I.kIn M.makes M.init (beq_iff_eq.mp M.fn) (codeAny_mono (F.run _ X.stack _ _ ⟨Value.ref (s.heap.objs.size + 1) :: us, []⟩ (Value.ref (s.heap.objs.size + 1) :: (us ++ ds)) _ _ E (hr.make C us [])
    (I2.env0.make C us []) (hb _ (Value.ref (s.heap.objs.size + 1) :: us) I2.kIn hl) r2 hq) fun r s' hq' => ?_))
  cases r with
  | error e => exact hx pins σ _ _ e s' I2 hq'
  | ok fl =>
    cases fl with
    | ret u =>
      obtain ⟨v, H', I3, rv, ev, q3⟩ := I2.after hq'
      subst ev
      exact ⟨rv, ⟨V.ref (s.heap.objs.size + 1), H', I3, rfl, q3⟩⟩
    | next => exact False.elim hq'
    | brk => exact False.elim hq'
    | cont => exact False.elim hq'
theorem pe_make (M : Mk X.K C f) (F : FnOk X.prog X.w X.K X.mg X.base CX k f fd ps sp) (hr : Room (k + 1) X.A) (hg : Gl X x) (hm : X.mg x = some (.ref C)) (hb : Binds X.K fd ps ds) (hd : Vals dvs ds) (hx : Passes CX X E)
    (ha : PA X (e :: es) t) (hdb : (x == ("__debug__" : Str)) = false := by decide) (he : starEach (e :: es) X.env = (false, eval e X.env) :: starEach es X.env := by rfl) (hpl : (backTo pos (starEach es X.env)).any (·.1) = false := by rfl) :
    PE X (.Call (.Name x p) (e :: es) [] pos) (tMake C sp dvs E t) := by
  intro pins s σ H Q I h
  refine wpAny_Call_Name_kw (ld_glob I hg hm ?_ hdb)
  refine PySem.W.callWith_K (h₀ := X.base) I.ok.mod.kin M.kp (thn (ha pos pins s σ H _ I h) fun us s1 ⟨vs, H1, I1, r, q⟩ => ⟨I1.kIn, ?_⟩) he hpl
  exact run_make M F hr hb hd hx I1 r q
theorem pe_make0 (M : Mk X.K C f) (F : FnOk X.prog X.w X.K X.mg X.base CX k f fd ps sp) (hr : Room (k + 1) X.A) (hg : Gl X x) (hm : X.mg x = some (.ref C)) (hb : Binds X.K fd ps ds) (hd : Vals dvs ds) (hx : Passes CX X E)
    (hdb : (x == ("__debug__" : Str)) = false := by decide) : PE X (.Call (.Name x p) [] [] pos) (tMake C sp dvs E tNil) := by
  intro pins s σ H Q I h
  refine wpAny_Call_Name_kw (ld_glob I hg hm ?_ hdb)
  exact PySem.W.callWith_K0 I.kIn M.kp (run_make (us := []) M F hr hb hd hx I .nil h)
end

/-! ### keywords -/
/-- the values of the keywords, from the left -/
def PK (X : Cx) (kws : List Keyword) (t : TA) : Prop :=
  ∀ (pos : Pos) (pins : List (Addr × Obj)) (s : Shared) (σ : St) (H : Hp) (Q : List V → Hp → Prop), Inv X pins σ H s → t σ H Q → wpAny (model X.prog X.w) X.A (evalAll ((backToKw pos (keywordEach kws X.env)).map (·.2))) (AP X pins σ Q) X.xe s
section
variable {X : Cx} {CX : CXT} {k : Nat} {f C : Addr} {fd : FuncData} {ps ks : List Str} {sp : Sp} {E : XK} {x m : Str} {p pos apos kpos : Pos} {e o : Expr} {es : List Expr} {kws : List Keyword} {te ta : TE} {t tk : TA} {nm : Option Str}
theorem pk_nil : PK X [] tNil := fun _ _ _ _ H Q I h => wpAny_evalAll_nil ⟨[], H, I, .nil, h⟩
theorem pk_cons (ha : PE X e te) (hr : PK X kws t) : PK X (⟨nm, e, kpos⟩ :: kws) (tCons te t) := by
  intro pos pins s σ H Q I h
  show wpAny _ _ (evalAll ((do let v ← eval e X.env; standAt pos; pure v) :: (backToKw pos (keywordEach kws X.env)).map (·.2))) _ _ s
  refine wpAny_evalAll_cons (wpAny_bind (thn (ha pins s σ H _ I h) fun u s1 ⟨x, H1, I1, r1, q1⟩ => wpAny_bind (wpAny_standAt (wpAny_pure ?_))))
  exact thn (hr pos pins s1 σ H1 _ I1 q1) fun us s2 ⟨xs, H2, I2, r2, q2⟩ => ⟨x :: xs, H2, I2, .cons r1 r2, q2⟩

/-- how a call with keywords binds: g puts the positional values us and the keywords' values ws (names ks) in the parameters' order, defaults among them -/
structure KBinds (K : PySem.W.Frag) (fd : FuncData) (ps ks : List Str) (g : List Value → List Value → List Value) (gV : List V → List V → List V) : Prop where
  to : ∀ (s : Shared) (us ws : List Value), K.In s.heap → (g us ws).length = ps.length → BindsTo s fd ⟨us, ks.zip ws⟩ (ps.zip (g us ws))
  rel : ∀ {vs : List V} {us : List Value} {zs : List V} {ws : List Value}, Vals vs us → Vals zs ws → Vals (gV vs zs) (g us ws)
def tCallK (sp : Sp) (gV : List V → List V → List V) (E : XK) (t tk : TA) : TE := fun σ H Q => t σ H fun vs H1 => tk σ H1 fun zs H2 => sp (gV vs zs) H2 Q E
variable {g : List Value → List Value → List Value} {gV : List V → List V → List V}
theorem run_fnk {pins : List (Addr × Obj)} {σ : St} {H : Hp} {s : Shared} {Q : VK} {us ws : List Value} {vs zs : List V} (F : FnOk X.prog X.w X.K X.mg X.base CX k f fd ps sp) (hr : Room k X.A) (hb : KBinds X.K fd ps ks g gV) (hx : Passes CX X E)
    (I : Inv X pins σ H s) (r : Vals vs us) (rz : Vals zs ws) (h : sp (gV vs zs) H Q E) : wpAny (model X.prog X.w) X.A (call (.ref f) us (ks.zip ws)) (EP X pins σ Q) X.xe s := by
  have r2 := hb.rel r rz
  have hl : (g us ws).length = ps.length := by rw [← r2.length]; exact F.len _ _ _ _ h
  refine wpAny_call (codeAny_mono (F.run X.A X.stack s H ⟨us, ks.zip ws⟩ (g us ws) (gV vs zs) Q E hr I.env0 (hb.to s us ws I.kIn hl) r2 h) fun r s' hq => ?_)
  cases r with
  | error e => exact hx pins σ H s e s' I hq
  | ok fl =>
    cases fl with
    | ret u => exact I.after hq
    | next => exact False.elim hq
    | brk => exact False.elim hq
    | cont => exact False.elim hq
/-- f(e, .., k = v, ..) -/
theorem pe_callK (F : FnOk X.prog X.w X.K X.mg X.base CX k f fd ps sp) (hr : Room k X.A) (hg : Gl X x) (hm : X.mg x = some (.ref f)) (hk : PySem.W.keepIn X.K (.ref f) = true) (hb : KBinds X.K fd ps ks g gV) (hx : Passes CX X E)
    (ha : PA X (e :: es) t) (hkw : PK X kws tk) (hall : (backToKw pos (keywordEach kws X.env)).all (·.1.isSome) = true := by rfl) (hks : (backToKw pos (keywordEach kws X.env)).filterMap (·.1) = ks := by rfl)
    (hdb : (x == ("__debug__" : Str)) = false := by decide) (he : starEach (e :: es) X.env = (false, eval e X.env) :: starEach es X.env := by rfl)
    (hpl : ((backTo pos (starEach (e :: es) X.env)).any (·.1) || (backToKw pos (keywordEach kws X.env)).any (·.1.isNone)) = false := by rfl) :
    PE X (.Call (.Name x p) (e :: es) kws pos) (tCallK sp gV E t tk) := by
  intro pins s σ H Q I h
  refine wpAny_Call_Name_kw (ld_glob I hg hm ?_ hdb)
  refine PySem.W.callWith_KW (h₀ := X.base) I.ok.mod.kin hk hall (thn (ha pos pins s σ H _ I h) fun us s1 ⟨vs, H1, I1, r, q⟩ => ?_) hpl he
  refine thn (hkw pos pins s1 σ H1 _ I1 q) fun ws s2 ⟨zs, H2, I2, rz, q2⟩ => ⟨I2.kIn, ?_⟩
  rw [hks]
  exact run_fnk F hr hb hx I2 r rz q2
end

/-! ### a def's body keeps its promise -/
/-- names: the parameters first -/
structure FnScope (N P : List Str) (sc : Scope) : Prop where
  kind : sc.kind = .function
  co : sc.isCoroutine = false
  gen : sc.isGenerator = false
  nd : N.Nodup
  pre : N.take P.length = P
  par : ∀ x ∈ P, sc.names.lookup x = some .local ∨ sc.names.lookup x = some .cell
  nofree : ∀ y ∈ sc.names, y.2 ≠ .free

theorem bindL_out {kindOf : Str → Option NameKind} {x : Str} : ∀ {binds : List (Str × Value)} {m : Str → Option Value}, (∀ v, (x, v) ∉ binds) → bindL kindOf binds m x = m x
  | [], _, _ => rfl
  | (n, v) :: r, m, h => by
    unfold bindL
    rw [bindL_out fun w hw => h w (List.mem_cons_of_mem _ hw)]
    split
    · have : x ≠ n := by rintro rfl; exact h v List.mem_cons_self
      simp [this]
    · rfl
theorem bindC_out {kindOf : Str → Option NameKind} {x : Str} : ∀ {binds : List (Str × Value)} {m : Str → Option Value}, (∀ v, (x, v) ∉ binds) → bindC kindOf binds m x = m x
  | [], _, _ => rfl
  | (n, v) :: r, m, h => by
    unfold bindC
    rw [bindC_out fun w hw => h w (List.mem_cons_of_mem _ hw)]
    split
    · rfl
    · have : x ≠ n := by rintro rfl; exact h v List.mem_cons_self
      simp [this]
theorem bindL_get {kindOf : Str → Option NameKind} {x : Str} {v : Value} : ∀ {P : List Str} {vs : List Value} {i : Nat} {m : Str → Option Value}, P.Nodup → P[i]? = some x → vs[i]? = some v → kindOf x = some .local →
    bindL kindOf (P.zip vs) m x = some v
  | [], _, _, _, _, h, _, _ => by simp at h
  | _ :: _, [], _, _, _, _, h, _ => by simp at h
  | p :: P, w :: vs, 0, m, nd, h1, h2, hk => by
    simp at h1 h2; subst h1; subst h2
    show bindL kindOf ((p, w) :: P.zip vs) m p = _
    unfold bindL
    rw [bindL_out fun v hv => (List.nodup_cons.mp nd).1 (List.of_mem_zip hv).1, if_pos hk]
    simp
  | p :: P, w :: vs, i + 1, m, nd, h1, h2, hk => by
    show bindL kindOf ((p, w) :: P.zip vs) m x = _
    unfold bindL
    exact bindL_get (i := i) (List.nodup_cons.mp nd).2 (by simpa using h1) (by simpa using h2) hk
theorem bindC_get {kindOf : Str → Option NameKind} {x : Str} {v : Value} : ∀ {P : List Str} {vs : List Value} {i : Nat} {m : Str → Option Value}, P.Nodup → P[i]? = some x → vs[i]? = some v → kindOf x ≠ some .local →
    bindC kindOf (P.zip vs) m x = some v
  | [], _, _, _, _, h, _, _ => by simp at h
  | _ :: _, [], _, _, _, _, h, _ => by simp at h
  | p :: P, w :: vs, 0, m, nd, h1, h2, hk => by
    simp at h1 h2; subst h1; subst h2
    show bindC kindOf ((p, w) :: P.zip vs) m p = _
    unfold bindC
    rw [bindC_out fun v hv => (List.nodup_cons.mp nd).1 (List.of_mem_zip hv).1, if_neg hk]
    simp
  | p :: P, w :: vs, i + 1, m, nd, h1, h2, hk => by
    show bindC kindOf ((p, w) :: P.zip vs) m x = _
    unfold bindC
    exact bindC_get (i := i) (List.nodup_cons.mp nd).2 (by simpa using h1) (by simpa using h2) hk

/-- the names' values at the entry -/
def start (N : List Str) (vs : List V) : St := vs.map some ++ List.replicate (N.length - vs.length) none

/-- the context of a def's body, at its entry; an exception leaves the frame, then lies as CX says -/
def cxOf (CX : CXT) (P : Program) (w : World) (K : PySem.W.Frag) (mg : Str → Option Value) (base : Heap) (N : List Str) (qual : Str) (scope : Scope) (f : Addr) (cd : Value) (A : Around) (outer : List Env) (s : Shared) (H : Hp) (E : XK) : Cx where
  prog := P
  w := w
  K := K
  mg := mg
  base := base
  A := A.deeper (envOfC qual scope s.heap.objs.size f cd)
  N := N
  s₀ := s
  H₀ := H
  env := envOfC qual scope s.heap.objs.size f cd
  outer := outer
  stack := envOfC qual scope s.heap.objs.size f cd :: outer
  ex := []
  calm := true
  fn := fun _ => true
  pn := []
  xe := fun e s' => wpAny (model P w) (A.deeper (envOfC qual scope s.heap.objs.size f cd)) (leaving (envOfC qual scope s.heap.objs.size f cd) e) (fun _ s'' => CX outer H s E e s'') (fun e' s'' => CX outer H s E e' s'') s'

theorem cell_has {sc : Scope} {n : Nat} {x : Str} (h : sc.names.lookup x = some .cell) : ∃ c, (cellsFrom n sc.names []).lookup x = some c := by
  have q := PySem.W.cellsFrom_some sc.names n [] (.inl h)
  exact Option.isSome_iff_exists.mp q

theorem inv_start {CX : CXT} {P : Program} {w : World} {K : PySem.W.Frag} {mg : Str → Option Value} {base : Heap} {N ps : List Str} {qual : Str} {scope : Scope} {f : Addr} {cd : Value} {A : Around} {outer : List Env} {s s1 : Shared} {H : Hp} {E : XK} {us : List Value} {vs : List V}
    (S : FnScope N ps scope) (hd : A.handled = none) (e0 : Env0 P w K mg base A outer s H) (hl : vs.length = ps.length) (r : Vals vs us)
    (x : InCallC s s.heap.objs.size (bindL (envOfC qual scope s.heap.objs.size f cd).kindOf (ps.zip us) fun _ => none) (cellsFrom (s.heap.objs.size + 1) scope.names []) (bindC (envOfC qual scope s.heap.objs.size f cd).kindOf (ps.zip us) fun _ => none) s1) :
    Inv (cxOf CX P w K mg base N qual scope f cd A outer s H E) [] (start N vs) H s1 := by
  have hpl : ps.length ≤ N.length := by have := congrArg List.length S.pre; rw [List.length_take] at this; omega
  obtain ⟨h1, tk, rfl, hk⟩ := x.done
  have noA : ∀ b : Addr, b ∉ (cxOf CX P w K mg base N qual scope f cd A outer s H E).ex := fun b z => absurd (show b ∈ ([] : List Addr) from z) (by simp)
  refine ⟨⟨e0.mod, S.kind, rfl, rfl, Nat.le_refl _, fun y z c h1 h2 => ?_, fun y hy => ?_, fun y c _ h => ?_, fun _ => hd, Around.frames_deeper e0.frames, .inr ⟨rfl, rfl⟩, fun b z => absurd z (noA b), e0.bs, e0.bsz, fun b _ _ => noA b, fun b z => absurd z (noA b), e0.funs, e0.frf⟩,
    rfl, e0.bare, Un.kept hk, ⟨_, x.toInCall.ns, fun i y v h1 h2 h3 => ?_⟩, fun y c h => ⟨_, x.cell y c h⟩, e0.hok.fresh (Nat.le_refl _), fun y c h => ?_, fun p hp => absurd (show p ∈ ([] : List (Addr × Obj)) from hp) (by simp), e0.hok.kept hk, ?_⟩
  · exact name_of_addr x.apart (PySem.mem_of_lookup h1) (PySem.mem_of_lookup h2)
  · have hy : scope.names.lookup y = some .cell ∨ scope.names.lookup y = some .free := hy
    rcases hy with hy | hy
    · exact cell_has hy
    · exact absurd rfl (S.nofree _ (PySem.mem_of_lookup hy))
  · exact Nat.le_of_lt (x.above y c (PySem.mem_of_lookup h))
  · have hi : i < vs.length := by
      unfold start at h2
      by_cases hi : i < vs.length
      · exact hi
      · rw [List.getElem?_append_right (by simpa using hi)] at h2
        rw [List.getElem?_replicate] at h2
        split at h2 <;> cases h2
    have ha : vs[i]? = some v := by
      unfold start at h2
      rw [List.getElem?_append_left (by simpa using hi), List.getElem?_map] at h2
      cases e : vs[i]? with
      | none => rw [e] at h2; cases h2
      | some a => rw [e] at h2; cases h2; rfl
    obtain ⟨u, hu, rv⟩ := r.get ha
    have hp : ps[i]? = some y := by
      rw [← S.pre, List.getElem?_take_of_lt (by omega)]; exact h1
    have ndP : ps.Nodup := by rw [← S.pre]; exact S.nd.sublist (List.take_sublist _ _)
    refine ⟨u, rv, ?_⟩
    rcases S.par y (List.mem_of_getElem? hp) with k | k
    · exact .inl ⟨k, bindL_get ndP hp hu k⟩
    · obtain ⟨c, e⟩ := cell_has (n := s.heap.objs.size + 1) k
      refine .inr ⟨.inl k, c, e, ?_⟩
      have q := x.cell y c e
      rw [bindC_get ndP hp hu (by show scope.names.lookup y ≠ _; rw [k]; decide)] at q
      exact q
  · exact e0.hok.fresh (Nat.le_of_lt (x.above y c (PySem.mem_of_lookup h)))
  · unfold start
    show _ = N.length
    rw [List.length_append, List.length_map, List.length_replicate]
    omega

/-- THE RULE: a def (or a method) of the text, by its body. The body's reading t is chosen for each entry; it is run at the parameters' values -/
theorem fn_of {CX : CXT} {P : Program} {w : World} {K : PySem.W.Frag} {mg : Str → Option Value} {base : Heap} {k : Nat} {f : Addr} {name qual : Str} {params : Arguments} {body : List Stmt} {scope : Scope} {dV kV doc pm cdv ct oc : Value} {an od : Option Addr}
    {osl : Array (Option Value)} {N ps : List Str} {sp : Sp} (lk : K.lookup f = some ⟨oc, od, .func (PySem.W.fnOf name qual params body scope dV kV doc pm an cdv ct), osl⟩) (hcd : PySem.W.codeIn K cdv qual = true) (S : FnScope N ps scope)
    (len : ∀ vs H Q E, sp vs H Q E → vs.length = ps.length)
    (hbody : ∀ (A : Around) (outer : List Env) (s : Shared) (H : Hp) (vs : List V) (Q : VK) (E : XK), Room k (A.deeper (envOfC qual scope s.heap.objs.size f cdv)) → sp vs H Q E →
      ∃ t, PSs (cxOf CX P w K mg base N qual scope f cdv A outer s H E) body t ∧ t { nx := fun _ H' => Q .non H', rt := Q } (start N vs) H) :
    FnOk P w K mg base CX (k + 1) f (PySem.W.fnOf name qual params body scope dV kV doc pm an cdv ct) ps sp := by
  refine ⟨len, fun A outer s H args us vs Q E hr e0 hb r hsp => ?_⟩
  have hl := len _ _ _ _ hsp
  have KX : K.In s.heap := e0.mod.kin.keeps fun b o e => (e0.bs b o e).1
  have lim : s.heap.NoLimit := e0.mod.nolimit.keeps fun b o e => (e0.bs b o e).1
  have hkind : ∀ y ∈ ps.zip us, scope.names.lookup y.1 = some .local ∨ (scope.names.lookup y.1 = some .cell ∧ ((cellsFrom (s.heap.objs.size + 1) scope.names []).lookup y.1).isSome = true) := fun ⟨n, v⟩ hy => by
    rcases S.par n (List.of_mem_zip hy).1 with q | q
    · exact .inl q
    · exact .inr ⟨q, PySem.W.cellsFrom_some _ _ _ (.inl q)⟩
  refine codeAny_call_function hr.depth (KX _ _ lk) rfl S.co S.gen rfl (PySem.W.codeRec_of KX hcd) (hb _ _ _ _ ?_)
  refine wpAny_newFunctionEnv_cells S.kind hkind fun env he s1 x => ?_
  subst he
  refine ⟨lim.keeps x.toInCall.keep, codeAny_func ?_⟩
  obtain ⟨t, ht, hq⟩ := hbody A outer s H vs Q E (hr.deeper _) hsp
  have I : Inv (cxOf CX P w K mg base N qual scope f cdv A outer s H E) [] (start N vs) H s1 := inv_start S hr.hd e0 hl r x
  refine wpAny_mono (ht [] s1 (start N vs) H _ I hq) (fun fl s' hs => ?_) fun e s' hs => hs
  have fin : ∀ {σ' : St} {H' : Hp} {v : V} {u : Value}, Inv (cxOf CX P w K mg base N qual scope f cdv A outer s H E) [] σ' H' s' → RelV v u → Q v H' → CE outer P w H s Q u s' :=
    fun {σ' H' v u} J rv q => ⟨v, H', J.os, J.bare, J.base, J.hok, rv, q⟩
  cases fl with
  | ret u =>
    obtain ⟨v, σ', H', J, rv, q⟩ := hs
    exact fin J rv q
  | next =>
    obtain ⟨σ', H', J, q⟩ := hs
    exact fin (v := V.non) (u := Value.none) J rfl q
  | brk =>
    obtain ⟨_, _, _, q⟩ := hs
    exact False.elim q
  | cont =>
    obtain ⟨_, _, _, q⟩ := hs
    exact False.elim q
end L2

namespace L2
open PySem PySem.Spec PyProof.Rows
section
variable {X : Cx} {x : Str} {p pos : Pos} {e : Expr} {es : List Expr} {t : TA} {id T : String} {r : List V → Hp → VK → Prop}

def tCB (r : List V → Hp → VK → Prop) (t : TA) : TE := fun σ H Q => t σ H fun vs H1 => r vs H1 Q
/-- f(e, ..), f a built-in function -/
theorem pe_callB (hc : CallR X (.builtin id) r) (hg : Gl X x) (hm : X.mg x = none) (hv : bootBuiltins x = some (.builtin id)) (ha : PA X (e :: es) t) (hn : x ≠ "__name__" := by decide) (hdb : (x == ("__debug__" : Str)) = false := by decide)
    (he : starEach (e :: es) X.env = (false, eval e X.env) :: starEach es X.env := by rfl) (hpl : (backTo pos (starEach es X.env)).any (·.1) = false := by rfl) : PE X (.Call (.Name x p) (e :: es) [] pos) (tCB r t) := by
  intro pins s σ H Q I h
  refine wpAny_Call_Name_kw (ld_blt I hg hm hv ?_ hn hdb)
  exact PyProof.Rows.callWith_builtin1 (thn (ha pos pins s σ H _ I h) fun us s1 ⟨vs, H1, I1, r1, q1⟩ => hc pins s1 σ H1 vs us Q I1 r1 q1) he hpl
/-- T(e, ..), T a built-in type -/
theorem pe_callTy (hc : CallR X (.type T) r) (hg : Gl X x) (hm : X.mg x = none) (hv : bootBuiltins x = some (.type T)) (ha : PA X (e :: es) t) (hn : x ≠ "__name__" := by decide) (hdb : (x == ("__debug__" : Str)) = false := by decide)
    (he : starEach (e :: es) X.env = (false, eval e X.env) :: starEach es X.env := by rfl) (hpl : (backTo pos (starEach es X.env)).any (·.1) = false := by rfl) : PE X (.Call (.Name x p) (e :: es) [] pos) (tCB r t) := by
  intro pins s σ H Q I h
  refine wpAny_Call_Name_kw (ld_blt I hg hm hv ?_ hn hdb)
  exact PyProof.Rows.callWith_type1 (thn (ha pos pins s σ H _ I h) fun us s1 ⟨vs, H1, I1, r1, q1⟩ => hc pins s1 σ H1 vs us Q I1 r1 q1) he hpl
/-- T() -/
theorem pe_callTy0 (hc : CallR X (.type T) r) (hg : Gl X x) (hm : X.mg x = none) (hv : bootBuiltins x = some (.type T)) (hn : x ≠ "__name__" := by decide) (hdb : (x == ("__debug__" : Str)) = false := by decide) :
    PE X (.Call (.Name x p) [] [] pos) (tCB r tNil) := by
  intro pins s σ H Q I h
  refine wpAny_Call_Name_kw (ld_blt I hg hm hv ?_ hn hdb)
  exact PyProof.Rows.callWith_type0 (hc pins s σ H [] [] Q I .nil h)
end
end L2

namespace L2
open PySem PySem.Spec PyProof.Rows

/-! ### lists of pairs as tables -/
section
variable {κ : Type} [DecidableEq κ]
def valV (kvs : List (κ × V)) (k : κ) : Option V := (kvs.find? fun kv => decide (kv.1 = k)).map (·.2)
/-- in its place, or at the end -/
def putK (kvs : List (κ × V)) (k : κ) (v : V) : List (κ × V) :=
  if (kvs.any fun kv => decide (kv.1 = k)) = true then kvs.map (fun kv => if kv.1 = k then (kv.1, v) else kv) else kvs ++ [(k, v)]
def dropK (kvs : List (κ × V)) (k : κ) : List (κ × V) := kvs.filter fun kv => decide (kv.1 ≠ k)

theorem valV_nil {k : κ} : valV ([] : List (κ × V)) k = none := rfl
theorem valV_pos {p : κ × V} {r : List (κ × V)} {k : κ} (e : p.1 = k) : valV (p :: r) k = some p.2 := by simp [valV, List.find?_cons, e]
theorem valV_neg {p : κ × V} {r : List (κ × V)} {k : κ} (e : ¬ p.1 = k) : valV (p :: r) k = valV r k := by simp [valV, List.find?_cons, e]
theorem valV_any (k : κ) : ∀ kvs : List (κ × V), (kvs.any fun kv => decide (kv.1 = k)) = (valV kvs k).isSome
  | [] => rfl
  | p :: r => by
    rw [List.any_cons]
    by_cases e : p.1 = k
    · simp only [valV_pos e, decide_eq_true e, Bool.true_or, Option.isSome_some]
    · rw [valV_neg e, decide_eq_false e, Bool.false_or]; exact valV_any k r
theorem valV_map (k j : κ) (y : V) : ∀ kvs : List (κ × V), valV (kvs.map fun kv => if kv.1 = k then (kv.1, y) else kv) j = (valV kvs j).map fun x => if j = k then y else x
  | [] => rfl
  | p :: r => by
    have ih := valV_map k j y r
    rw [List.map_cons]
    by_cases h : p.1 = k
    · rw [if_pos h]
      by_cases e : p.1 = j
      · rw [valV_pos (p := (p.1, y)) e, valV_pos e, Option.map_some, if_pos (e.symm.trans h)]
      · rw [valV_neg (p := (p.1, y)) e, valV_neg e, ih]
    · rw [if_neg h]
      by_cases e : p.1 = j
      · rw [valV_pos (p := p) e, valV_pos e, Option.map_some, if_neg (fun z => h (e.trans z))]
      · rw [valV_neg (p := p) e, valV_neg e, ih]
theorem valV_snoc (k j : κ) (y : V) : ∀ kvs : List (κ × V), valV kvs k = none → valV (kvs ++ [(k, y)]) j = if j = k then some y else valV kvs j
  | [], _ => by
    by_cases e : k = j
    · rw [if_pos e.symm]; exact valV_pos (p := (k, y)) e
    · rw [if_neg (fun z => e z.symm)]; exact valV_neg (p := (k, y)) e
  | p :: r, hn => by
    rw [List.cons_append]
    have hk : ¬ p.1 = k := fun z => by rw [valV_pos z] at hn; cases hn
    rw [valV_neg hk] at hn
    have ih := valV_snoc k j y r hn
    by_cases e : p.1 = j
    · rw [valV_pos e, valV_pos e, if_neg (fun z => hk (e.trans z))]
    · rw [valV_neg e, valV_neg e, ih]
theorem valV_put (kvs : List (κ × V)) (k j : κ) (y : V) : valV (putK kvs k y) j = if j = k then some y else valV kvs j := by
  unfold putK
  by_cases a : (kvs.any fun kv => decide (kv.1 = k)) = true
  · rw [if_pos a, valV_map]
    rw [valV_any] at a
    by_cases e : j = k
    · obtain ⟨x, hx⟩ := Option.isSome_iff_exists.mp a
      rw [if_pos e, e, hx, Option.map_some, if_pos rfl]
    · rw [if_neg e]
      cases valV kvs j with
      | none => rfl
      | some x => rw [Option.map_some, if_neg e]
  · rw [if_neg a]
    refine valV_snoc k j y kvs ?_
    rw [valV_any] at a
    cases q : valV kvs k with
    | none => rfl
    | some x => rw [q] at a; exact (a rfl).elim
theorem length_putK (kvs : List (κ × V)) (k : κ) (v : V) : (putK kvs k v).length ≤ kvs.length + 1 := by
  unfold putK
  split
  · rw [List.length_map]; omega
  · rw [List.length_append, List.length_cons, List.length_nil]; omega
theorem putK_new {kvs : List (κ × V)} {k : κ} (v : V) (h : valV kvs k = none) : putK kvs k v = kvs ++ [(k, v)] := by
  unfold putK
  rw [valV_any, h]
  exact if_neg (by decide)

theorem RelO.isSome_eq {o : Option V} {u : Option Value} (r : RelO o u) : o.isSome = u.isSome := by
  cases o with
  | none => cases u with
    | none => rfl
    | some _ => exact (show False from r).elim
  | some _ => cases u with
    | none => exact (show False from r).elim
    | some _ => rfl
theorem RelO.getD {o : Option V} {u : Option Value} {d : V} {d' : Value} (r : RelO o u) (rd : RelV d d') : RelV (o.getD d) (u.getD d') := by
  cases o with
  | none => cases u with
    | none => exact rd
    | some _ => exact (show False from r).elim
  | some _ => cases u with
    | none => exact (show False from r).elim
    | some _ => exact r

/-- raw tables of the same keys -/
theorem KV.val {kvs : List (κ × V)} {vs : List (κ × Value)} (r : KV kvs vs) (k : κ) : RelO (valV kvs k) (valueAt vs k) := by
  unfold KV at r
  induction r with
  | nil => exact True.intro
  | @cons p q ps qs h t ih =>
    obtain ⟨h1, h2⟩ := h
    by_cases e : p.1 = k
    · have e' : q.1 = k := h1.symm.trans e
      have b : valueAt (q :: qs) k = some q.2 := by simp [valueAt, List.find?_cons, e']
      rw [valV_pos e, b]; exact h2
    · have e' : ¬ q.1 = k := fun z => e (h1.trans z)
      have b : valueAt (q :: qs) k = valueAt qs k := by simp [valueAt, List.find?_cons, e']
      rw [valV_neg e, b]; exact ih
theorem KV.any {kvs : List (κ × V)} {vs : List (κ × Value)} (r : KV kvs vs) (k : κ) : (kvs.any fun kv => decide (kv.1 = k)) = vs.any fun kv => decide (kv.1 = k) := by
  unfold KV at r
  induction r with
  | nil => rfl
  | cons h t ih => rw [List.any_cons, List.any_cons, ih, h.1]
theorem KV.repl {kvs : List (κ × V)} {vs : List (κ × Value)} (r : KV kvs vs) (k : κ) {y : V} {u : Value} (ry : RelV y u) :
    KV (kvs.map fun kv => if kv.1 = k then (kv.1, y) else kv) (vs.map fun kv => if kv.1 = k then (kv.1, u) else kv) := by
  unfold KV at r ⊢
  induction r with
  | nil => exact .nil
  | @cons p q ps qs h t ih =>
    rw [List.map_cons, List.map_cons]
    refine .cons ?_ ih
    obtain ⟨h1, h2⟩ := h
    by_cases e : p.1 = k
    · rw [if_pos e, if_pos (h1.symm.trans e)]; exact ⟨h1, ry⟩
    · rw [if_neg e, if_neg (fun z => e (h1.trans z))]; exact ⟨h1, h2⟩
theorem KV.put {kvs : List (κ × V)} {vs : List (κ × Value)} (r : KV kvs vs) (k : κ) {y : V} {u : Value} (ry : RelV y u) : KV (putK kvs k y) (stored vs k u) := by
  unfold putK stored
  rw [r.any k]
  by_cases e : (vs.any fun kv => decide (kv.1 = k)) = true
  · rw [if_pos e, if_pos e]; exact r.repl k ry
  · rw [if_neg e, if_neg e]; exact Paired.snoc r ⟨rfl, ry⟩
theorem KV.drop {kvs : List (κ × V)} {vs : List (κ × Value)} (r : KV kvs vs) (k : κ) : KV (dropK kvs k) (without vs k) := by
  unfold KV at r ⊢
  unfold dropK without
  induction r with
  | nil => exact .nil
  | @cons p q ps qs h t ih =>
    obtain ⟨h1, h2⟩ := h
    rw [List.filter_cons, List.filter_cons]
    by_cases e : p.1 = k
    · have a : ¬ decide (p.1 ≠ k) = true := by simp [e]
      have b : ¬ decide (q.1 ≠ k) = true := by simp [h1.symm.trans e]
      rw [if_neg a, if_neg b]; exact ih
    · have e' : ¬ q.1 = k := fun z => e (h1.trans z)
      have a : decide (p.1 ≠ k) = true := by simp [e]
      have b : decide (q.1 ≠ k) = true := by simp [e']
      rw [if_pos a, if_pos b]; exact .cons ⟨h1, h2⟩ ih
theorem KV.keys {kvs : List (κ × V)} {vs : List (κ × Value)} (r : KV kvs vs) : kvs.map (·.1) = vs.map (·.1) := by
  unfold KV at r
  induction r with
  | nil => rfl
  | cons h t ih => rw [List.map_cons, List.map_cons, ih, h.1]
theorem KV.length {kvs : List (κ × V)} {vs : List (κ × Value)} (r : KV kvs vs) : kvs.length = vs.length := Paired.length r
theorem dropK_le (kvs : List (κ × V)) (k : κ) : (dropK kvs k).length ≤ kvs.length := List.length_filter_le _ _
end


/-! ### a tracked dict, its keys ints and texts or tuples of these -/
theorem kV_is {P : Program} {w : World} {k : Key} {u : Value} (r : RelV (kV k) u) : (mixKind P w).is k u = true := by
  cases k with
  | inl i => obtain ⟨t, e⟩ := (show ∃ t, u = Value.int i t from r); subst e; exact mixKind_int P w i t
  | inr x => obtain ⟨t, e⟩ := (show ∃ t, u = Value.str x t from r); subst e; exact mixKind_str P w x t
theorem kV_inj {a b : Key} (e : kV a = kV b) : a = b := by
  cases a with
  | inl i => cases b with
    | inl j => have e' : V.int i = V.int j := e; injection e' with e'; rw [e']
    | inr y => exact nomatch (show V.int i = V.str y from e)
  | inr x => cases b with
    | inl j => exact nomatch (show V.str x = V.int j from e)
    | inr y => have e' : V.str x = V.str y := e; injection e' with e'; rw [e']
theorem kVs_inj : ∀ {a b : List Key}, a.map kV = b.map kV → a = b
  | [], [], _ => rfl
  | [], _ :: _, e => by simp at e
  | _ :: _, [], e => by simp at e
  | x :: xs, y :: ys, e => by
    rw [List.map_cons, List.map_cons] at e
    injection e with e1 e2
    rw [kV_inj e1, kVs_inj e2]
theorem items_are {P : Program} {w : World} : ∀ {ks : List Key} {us : List Value}, Vals (ks.map kV) us → ItemsAre (mixKind P w) ks us
  | [], _, r => by rw [List.map_nil] at r; cases r; exact .nil
  | k :: ks, _, r => by
    rw [List.map_cons] at r
    cases r with
    | cons h t => exact .cons (kV_is h) (items_are t)

/-- raw entries of a dict with tuple keys -/
abbrev KT (H : Hp) : List (List Key × V) → List (List Key × Addr × Value) → Prop := Paired fun p q => p.1 = q.1 ∧ H q.2.1 = some (.tup (p.1.map kV)) ∧ RelV p.2 q.2.2
theorem KT.val {H : Hp} {kvs : List (List Key × V)} {xs : List (List Key × Addr × Value)} (r : KT H kvs xs) (k : List Key) : RelO (valV kvs k) ((atKey xs k).map (·.2)) := by
  induction r with
  | nil => exact True.intro
  | @cons p q ps qs h t ih =>
    obtain ⟨h1, _, h2⟩ := h
    by_cases e : p.1 = k
    · have e' : q.1 = k := h1.symm.trans e
      have b : atKey (q :: qs) k = some q.2 := by simp [atKey, List.find?_cons, e']
      rw [valV_pos e, b]; exact h2
    · have e' : ¬ q.1 = k := fun z => e (h1.trans z)
      have b : atKey (q :: qs) k = atKey qs k := by simp [atKey, List.find?_cons, e']
      rw [valV_neg e, b]; exact ih
theorem KT.repl {H : Hp} {kvs : List (List Key × V)} {xs : List (List Key × Addr × Value)} (r : KT H kvs xs) (k : List Key) {y : V} {u : Value} (ry : RelV y u) :
    KT H (kvs.map fun kv => if kv.1 = k then (kv.1, y) else kv) (xs.map (putAt k u)) := by
  induction r with
  | nil => exact .nil
  | @cons p q ps qs h t ih =>
    rw [List.map_cons, List.map_cons]
    refine .cons ?_ ih
    obtain ⟨h1, h2, h3⟩ := h
    unfold putAt
    by_cases e : p.1 = k
    · rw [if_pos e, if_pos (h1.symm.trans e)]; exact ⟨h1, h2, ry⟩
    · rw [if_neg e, if_neg (fun z => e (h1.trans z))]; exact ⟨h1, h2, h3⟩
theorem KT.put {H : Hp} {kvs : List (List Key × V)} {xs : List (List Key × Addr × Value)} (r : KT H kvs xs) (k : List Key) {b : Addr} {y : V} {u : Value} (hb : H b = some (.tup (k.map kV))) (ry : RelV y u) :
    KT H (putK kvs k y) (storedH xs k b u) := by
  have e : (kvs.any fun kv => decide (kv.1 = k)) = (atKey xs k).isSome := by
    rw [valV_any, (r.val k).isSome_eq, Option.isSome_map]
  unfold putK storedH
  rw [e]
  by_cases q : (atKey xs k).isSome = true
  · rw [if_pos q, if_pos q]; exact r.repl k ry
  · rw [if_neg q, if_neg q]; exact Paired.snoc r ⟨rfl, hb, ry⟩
theorem KT.keeps {H H' : Hp} {kvs : List (List Key × V)} {xs : List (List Key × Addr × Value)} (r : KT H kvs xs) (ht : ∀ b ys, H b = some (.tup ys) → H' b = some (.tup ys)) : KT H' kvs xs :=
  Paired.mapP r fun _ _ z => ⟨z.1, ht _ _ z.2.1, z.2.2⟩

section
variable {P : Program} {w : World} {H : Hp} {h : Heap} {a : Addr}
theorem rd_of {u : HO} (ok : HOk P w H h) (e : Rd H a u) : ObjOk P w H h a u := e.ok ok
theorem dk_rd {kvs : List (Key × V)} (ok : HOk P w H h) (e : Rd H a (.dK kvs)) : kvs.length ≤ sizeLine ∧ (a == sysModules) = false ∧ ∃ vs, KV kvs vs ∧ h.DictOf (mixKind P w) a vs :=
  show ObjOk P w H h a (.dK kvs) from rd_of ok e
theorem dk_of {kvs : List (Key × V)} (ok : HOk P w H h) (e : H a = some (.dK kvs)) : kvs.length ≤ sizeLine ∧ (a == sysModules) = false ∧ ∃ vs, KV kvs vs ∧ h.DictOf (mixKind P w) a vs := dk_rd ok (.inl e)
/-- a tracked tuple of ints and texts is a key -/
theorem key_of {ks : List Key} (ok : HOk P w H h) (e : H a = some (.tup (ks.map kV))) : (tupleKind (mixKind P w)).is h ks a := by
  obtain ⟨_, its, r, o, h1, h2, n, h3⟩ := (show ObjOk P w H h a (.tup (ks.map kV)) from ok a _ e)
  exact ⟨o, its.toArray, n, h1, h2, h3, by simpa using items_are r⟩
theorem dt_rd {kvs : List (List Key × V)} (ok : HOk P w H h) (e : Rd H a (.dT kvs)) : kvs.length ≤ sizeLine ∧ (a == sysModules) = false ∧
    ∃ xs, KT H kvs xs ∧ h.DictOfH (tupleKind (mixKind P w)) a xs := by
  obtain ⟨z, y, xs, r, o, es, ep, h1, h2, h3, h4, h5⟩ := (show ObjOk P w H h a (.dT kvs) from rd_of ok e)
  refine ⟨z, y, xs, r, o, es, ep, h1, h2, h3, h4, fun x hx => ?_, h5⟩
  have all : ∀ {l : List (List Key × V)} {m : List (List Key × Addr × Value)}, KT H l m → ∀ x ∈ m, (tupleKind (mixKind P w)).is h x.1 x.2.1 := by
    intro l m q
    induction q with
    | nil => intro x hx; exact nomatch hx
    | @cons p q ps qs hq t ih =>
      intro x hx
      rcases List.mem_cons.mp hx with e | hx
      · subst e
        exact key_of ok (by rw [← hq.1]; exact hq.2.1)
      · exact ih x hx
  exact all r x hx
theorem dt_of {kvs : List (List Key × V)} (ok : HOk P w H h) (e : H a = some (.dT kvs)) : kvs.length ≤ sizeLine ∧ (a == sysModules) = false ∧
    ∃ xs, KT H kvs xs ∧ h.DictOfH (tupleKind (mixKind P w)) a xs := dt_rd ok (.inl e)
end

/-- what the dict at a holds at the key y -/
def DGet (H : Hp) (a : Addr) (y : V) (r : Option V) : Prop :=
  (∃ kvs k, Rd H a (.dK kvs) ∧ y = kV k ∧ r = valV kvs k) ∨ ∃ kvs k b, Rd H a (.dT kvs) ∧ y = .ref b ∧ H b = some (.tup (k.map kV)) ∧ r = valV kvs k
/-- the heap behind a[y] = v -/
def DPut (H : Hp) (a : Addr) (y v : V) (H' : Hp) : Prop :=
  (∃ kvs k, H a = some (.dK kvs) ∧ y = kV k ∧ kvs.length < sizeLine ∧ H' = upd H a (.dK (putK kvs k v))) ∨
  ∃ kvs k b, H a = some (.dT kvs) ∧ y = .ref b ∧ H b = some (.tup (k.map kV)) ∧ kvs.length < sizeLine ∧ H' = upd H a (.dT (putK kvs k v))
theorem DGet.k {H : Hp} {a : Addr} {kvs : List (Key × V)} {k : Key} (e : H a = some (.dK kvs)) : DGet H a (kV k) (valV kvs k) := .inl ⟨kvs, k, .inl e, rfl, rfl⟩
theorem DGet.t {H : Hp} {a b : Addr} {kvs : List (List Key × V)} {k : List Key} (e : H a = some (.dT kvs)) (eb : H b = some (.tup (k.map kV))) : DGet H a (.ref b) (valV kvs k) := .inr ⟨kvs, k, b, .inl e, rfl, eb, rfl⟩
theorem DPut.k {H : Hp} {a : Addr} {kvs : List (Key × V)} {k : Key} {v : V} (e : H a = some (.dK kvs)) (hl : kvs.length < sizeLine) : DPut H a (kV k) v (upd H a (.dK (putK kvs k v))) := .inl ⟨kvs, k, e, rfl, hl, rfl⟩
theorem DPut.t {H : Hp} {a b : Addr} {kvs : List (List Key × V)} {k : List Key} {v : V} (e : H a = some (.dT kvs)) (eb : H b = some (.tup (k.map kV))) (hl : kvs.length < sizeLine) :
    DPut H a (.ref b) v (upd H a (.dT (putK kvs k v))) := .inr ⟨kvs, k, b, e, rfl, eb, hl, rfl⟩


section
variable {X : Cx} {pins : List (Addr × Obj)} {σ : St} {H : Hp} {s : Shared} {a : Addr} {y v : V} {u r : Value} {o : Option V} {A : Around} {E : Value → Shared → Prop}

theorem Inv.big (I : Inv X pins σ H s) : sysModules < s.heap.objs.size := by
  have h : mainGlobals < s.heap.objs.size := (I.mod.glob.keeps I.bk).lt
  exact Nat.lt_trans (by decide) h

/-- d[y], there -/
theorem d_getItem {Q : Value → Shared → Prop} (hu : A.units + 1 < cLine) (I : Inv X pins σ H s) (g : DGet H a y (some v)) (ry : RelV y u) (h : ∀ w' s', Inv X pins σ H s' → RelV v w' → Q w' s') :
    wpAny (model X.prog X.w) A (getItem (.ref a) u) Q E s := by
  rcases g with ⟨kvs, k, e, ey, l⟩ | ⟨kvs, k, b, e, ey, eb, l⟩
  · subst ey
    obtain ⟨z, hd, vs, rel, dd⟩ := dk_rd I.hok e
    obtain ⟨w', hw, rw'⟩ := RelO.some_of (v := v) (o := valueAt vs k) (by rw [l]; exact rel.val k)
    exact wpAny_getItem_of (kV_is ry) dd.mapOf hw (h w' _ (I.tok _) rw')
  · subst ey
    cases (show u = Value.ref b from ry)
    obtain ⟨z, hd, xs, rel, dd⟩ := dt_rd I.hok e
    obtain ⟨w', hw, rw'⟩ := RelO.some_of (v := v) (o := (atKey xs k).map (·.2)) (by rw [l]; exact rel.val k)
    obtain ⟨p, hp, hp2⟩ := Option.map_eq_some_iff.mp hw
    refine wpAny_getItem_heap (tupleKind_room_in1 hu) (key_of I.hok eb) dd hp ?_
    rw [hp2]
    exact h w' _ (I.tok _) rw'
/-- y in d -/
theorem d_in {Q : Value → Shared → Prop} (hu : A.units + 1 < cLine) (I : Inv X pins σ H s) (g : DGet H a y o) (ry : RelV y u) (h : ∀ s', Inv X pins σ H s' → Q (.bool o.isSome) s') :
    wpAny (model X.prog X.w) A (compareOp .In u (.ref a)) Q E s := by
  rcases g with ⟨kvs, k, e, ey, l⟩ | ⟨kvs, k, b, e, ey, eb, l⟩
  · subst ey
    obtain ⟨z, hd, vs, rel, dd⟩ := dk_rd I.hok e
    refine wpAny_in_of (kV_is ry) hd dd.mapOf ?_
    rw [← (rel.val k).isSome_eq, ← l]
    exact h _ (I.tok _)
  · subst ey
    cases (show u = Value.ref b from ry)
    obtain ⟨z, hd, xs, rel, dd⟩ := dt_rd I.hok e
    refine wpAny_in_heap (tupleKind_room_in1 hu) (key_of I.hok eb) hd dd ?_
    have q := (rel.val k).isSome_eq
    rw [Option.isSome_map] at q
    rw [← q, ← l]
    exact h _ (I.tok _)
theorem d_notIn {Q : Value → Shared → Prop} (hu : A.units + 1 < cLine) (I : Inv X pins σ H s) (g : DGet H a y o) (ry : RelV y u) (h : ∀ s', Inv X pins σ H s' → Q (.bool (!o.isSome)) s') :
    wpAny (model X.prog X.w) A (compareOp .NotIn u (.ref a)) Q E s := by
  rcases g with ⟨kvs, k, e, ey, l⟩ | ⟨kvs, k, b, e, ey, eb, l⟩
  · subst ey
    obtain ⟨z, hd, vs, rel, dd⟩ := dk_rd I.hok e
    refine wpAny_notIn_of (kV_is ry) hd dd.mapOf ?_
    rw [← (rel.val k).isSome_eq, ← l]
    exact h _ (I.tok _)
  · subst ey
    cases (show u = Value.ref b from ry)
    obtain ⟨z, hd, xs, rel, dd⟩ := dt_rd I.hok e
    refine wpAny_notIn_heap (tupleKind_room_in1 hu) (key_of I.hok eb) hd dd ?_
    have q := (rel.val k).isSome_eq
    rw [Option.isSome_map] at q
    rw [← q, ← l]
    exact h _ (I.tok _)
/-- a dict's object is replaced -/
theorem d_write {h' : Heap} {t' : Nat} {ob : HO} (I : Inv X pins σ H s) (mu : Mut (H a)) (hs : Heap.SameBut a s.heap h') (he : ∃ q, h'.get? a = some q) (new : ObjOk X.prog X.w (upd H a ob) h' a ob) :
    Inv X pins σ (upd H a ob) { s with heap := h', toks := t' } :=
  I.write (x := a) (e := a) mu (.inl rfl) (fun b q hb z => (hs.2 b hb).trans z) he new
theorem dk_new {P : Program} {w : World} {H' : Hp} {h' : Heap} {kvs : List (Key × V)} {vs : List (Key × Value)} (z : kvs.length ≤ sizeLine) (hd : (a == sysModules) = false) (rel : KV kvs vs) (dd : h'.DictOf (mixKind P w) a vs) :
    ObjOk P w H' h' a (.dK kvs) := ⟨z, hd, vs, rel, dd⟩
/-- d[y] = v -/
theorem d_setItem {H' : Hp} {Q : Unit → Shared → Prop} (hu : A.units + 1 < cLine) (I : Inv X pins σ H s) (g : DPut H a y v H') (ry : RelV y u) (rv : RelV v r) (h : ∀ s', Inv X pins σ H' s' → Q () s') :
    wpAny (model X.prog X.w) A (setItem (.ref a) u r) Q E s := by
  rcases g with ⟨kvs, k, e, ey, l, eH⟩ | ⟨kvs, k, b, e, ey, eb, l, eH⟩
  · subst ey eH
    obtain ⟨z, hd, vs, rel, dd⟩ := dk_of I.hok e
    have hz : vs.length ≤ sizeLine := by rw [← rel.length]; exact z
    have hl : (putK kvs k v).length ≤ sizeLine := by have := length_putK kvs k v; omega
    refine wpAny_setItem_pairs (hsz := hz) (kV_is ry) dd fun h' dd' hs => h _ ?_
    have he : ∃ q, h'.get? a = some q := let ⟨q, _, _, hq, _⟩ := dd'; ⟨q, hq⟩
    exact d_write I (by rw [e]; exact True.intro) hs he (dk_new hl hd (rel.put k rv) dd')
  · subst ey eH
    cases (show u = Value.ref b from ry)
    obtain ⟨z, hd, xs, rel, dd⟩ := dt_of I.hok e
    have hz : xs.length ≤ sizeLine := by rw [← Paired.length rel]; exact z
    have hl : (putK kvs k v).length ≤ sizeLine := by have := length_putK kvs k v; omega
    refine wpAny_setItem_heap (hsz := hz) (tupleKind_room_in1 hu) (key_of I.hok eb) dd fun h' dd' hs => h _ ?_
    obtain ⟨q, es, ep, hq, h2, h3, h4, _, h5⟩ := dd'
    refine d_write I (by rw [e]; exact True.intro) hs ⟨q, hq⟩ ⟨hl, hd, _, (rel.put k eb rv).keeps fun c ys ec => ?_, q, es, ep, hq, h2, h3, h4, h5⟩
    rw [upd_ne (ne_of ec e (fun z => nomatch z))]
    exact ec
end

section
variable {X : Cx} {pins : List (Addr × Obj)} {σ : St} {H : Hp} {s : Shared} {a : Addr} {kvs : List (Key × V)} {k : Key} {u : Value} {A : Around} {E : Value → Shared → Prop}
/-- del d[k] -/
theorem d_delItem {Q : Unit → Shared → Prop} (I : Inv X pins σ H s) (e : H a = some (.dK kvs)) (ry : RelV (kV k) u) (l : (valV kvs k).isSome = true) (h : ∀ s', Inv X pins σ (upd H a (.dK (dropK kvs k))) s' → Q () s') :
    wpAny (model X.prog X.w) A (delItem (.ref a) u) Q E s := by
  obtain ⟨z, hd, vs, rel, dd⟩ := dk_of I.hok e
  refine wpAny_delItem_slot dd.typeIs (by decide) PySem.F.slot_dict_delitem
    (call_meetsIn PySem.F.slot_dict_delitem dd.typeIs PySem.F.entry_dict_delitem (PySem.F.args_dict_delitem_2 _ _) (meets_dict_delitem_pairs (mixKind X.prog X.w) a (kV_is ry)) ⟨vs, dd, by rw [← rel.length]; exact z, by rw [← (rel.val k).isSome_eq]; exact l, fun h' dd' hs => h _ ?_⟩)
  have he : ∃ q, h'.get? a = some q := let ⟨q, _, _, hq, _⟩ := dd'; ⟨q, hq⟩
  exact d_write I (by rw [e]; exact True.intro) hs he (dk_new (Nat.le_trans (dropK_le kvs k) z) hd (rel.drop k) dd')
/-- d.pop(k[, x]), there -/
theorem d_pop {v : V} {more : List Value} {Q : Value → Shared → Prop} (I : Inv X pins σ H s) (e : H a = some (.dK kvs)) (ry : RelV (kV k) u) (l : valV kvs k = some v) (hm : more = [] ∨ ∃ x, more = [x])
    (h : ∀ w' s', Inv X pins σ (upd H a (.dK (dropK kvs k))) s' → RelV v w' → Q w' s') : wpAny (model X.prog X.w) A (call (.builtin "dict.pop") (.ref a :: u :: more)) Q E s := by
  obtain ⟨z, hd, vs, rel, dd⟩ := dk_of I.hok e
  obtain ⟨w', hw, rw'⟩ := RelO.some_of (v := v) (o := valueAt vs k) (by rw [← l]; exact rel.val k)
  have hp : (keyPart u).isSome = true := by
    cases k with
    | inl i => obtain ⟨t, q⟩ := (show ∃ t, u = Value.int i t from ry); subst q; rfl
    | inr x => obtain ⟨t, q⟩ := (show ∃ t, u = Value.str x t from ry); subst q; rfl
  have ha : argsOk "dict.pop" ⟨.ref a :: u :: more, []⟩ := by
    rcases hm with q | ⟨x, q⟩
    · subst q; exact PySem.F.args_dict_pop_2 _ _
    · subst q; exact PySem.F.args_dict_pop_3 _ _ _
  refine call_meetsIn PySem.F.slot_dict_pop dd.typeIs PySem.F.entry_dict_pop ha (meets_dict_pop_there (mixKind X.prog X.w) a (kV_is ry) more hm hp)
    ⟨vs, w', dd, by rw [← rel.length]; exact z, hw, fun h' dd' hs => h w' _ ?_ rw'⟩
  have he : ∃ q, h'.get? a = some q := let ⟨q, _, _, hq, _⟩ := dd'; ⟨q, hq⟩
  exact d_write I (by rw [e]; exact True.intro) hs he (dk_new (Nat.le_trans (dropK_le kvs k) z) hd (rel.drop k) dd')
/-- d.pop(k, x), not there -/
theorem d_popD {r : Value} {Q : Value → Shared → Prop} (I : Inv X pins σ H s) (e : H a = some (.dK kvs)) (ry : RelV (kV k) u) (l : valV kvs k = none) (h : ∀ s', Inv X pins σ H s' → Q r s') :
    wpAny (model X.prog X.w) A (call (.builtin "dict.pop") [.ref a, u, r]) Q E s := by
  obtain ⟨z, hd, vs, rel, dd⟩ := dk_of I.hok e
  have hn : valueAt vs k = none := RelO.none_of (by rw [← l]; exact rel.val k)
  have hp : (keyPart u).isSome = true := by
    cases k with
    | inl i => obtain ⟨t, q⟩ := (show ∃ t, u = Value.int i t from ry); subst q; rfl
    | inr x => obtain ⟨t, q⟩ := (show ∃ t, u = Value.str x t from ry); subst q; rfl
  exact call_meetsIn PySem.F.slot_dict_pop dd.typeIs PySem.F.entry_dict_pop (PySem.F.args_dict_pop_3 _ _ _) (meets_dict_pop_default (mixKind X.prog X.w) a (kV_is ry) hd hp r) ⟨vs, dd, hn, h _ (I.tok _)⟩
/-- d.clear() -/
theorem d_clear {Q : Value → Shared → Prop} (I : Inv X pins σ H s) (e : H a = some (.dK kvs)) (h : ∀ s', Inv X pins σ (upd H a (.dK [])) s' → Q .none s') : wpAny (model X.prog X.w) A (call (.builtin "dict.clear") [.ref a]) Q E s := by
  obtain ⟨z, hd, vs, rel, dd⟩ := dk_of I.hok e
  refine call_meetsIn PySem.F.slot_dict_clear dd.typeIs PySem.F.entry_dict_clear (PySem.F.args_dict_clear_1 _) (meets_dict_clear (mixKind X.prog X.w) a) ⟨vs, dd, by rw [← rel.length]; exact z, fun h' dd' hs => h _ ?_⟩
  have he : ∃ q, h'.get? a = some q := let ⟨q, _, _, hq, _⟩ := dd'; ⟨q, hq⟩
  exact d_write (t' := s.toks) I (by rw [e]; exact True.intro) hs he (dk_new (Nat.zero_le _) hd .nil dd')
/-- len(d) -/
theorem d_len {Q : Value → Shared → Prop} (I : Inv X pins σ H s) (e : Rd H a (.dK kvs)) (h : ∀ t s', Inv X pins σ H s' → Q (.int kvs.length t) s') : wpAny (model X.prog X.w) A (call (.builtin "len") [.ref a]) Q E s := by
  obtain ⟨z, hd, vs, rel, dd⟩ := dk_rd I.hok e
  refine call_len_dict hd dd (by rw [← rel.length]; rw [sizeLine_eq] at z; omega) ?_
  rw [← rel.length]
  exact h _ _ (I.tok _)
/-- if d -/
theorem d_truth {Q : Bool → Shared → Prop} (I : Inv X pins σ H s) (e : Rd H a (.dK kvs)) (h : ∀ s', Inv X pins σ H s' → Q (!kvs.isEmpty) s') : wpAny (model X.prog X.w) A (truthy (.ref a)) Q E s := by
  obtain ⟨z, hd, vs, rel, dd⟩ := dk_rd I.hok e
  refine wpAny_truthy_dict hd dd (by rw [← rel.length]; rw [sizeLine_eq] at z; omega) ?_
  have q : kvs.isEmpty = vs.isEmpty := by cases rel <;> rfl
  rw [← q]
  exact h _ (I.tok _)
end


/-! ### readings and rules -/
/-- the element of a subscription, not a slice -/
def NoSl (i : Expr) : Prop := ∀ ov iv, subscripted i false ov iv = operate [ov, iv] (getItem ov iv)
theorem subD_of {prog : Program} {w : World} {A : Around} {E : Value → Shared → Prop} {s : Shared} {env : Env} {value slice : Expr} {pos : Pos} {T id : String} {Q : Value → Shared → Prop}
    (hl : typeLookup (.type T) "__getitem__" = pure (some (.builtin id))) (hs : NoSl slice)
    (h : wpAny (model prog w) A (eval value env) (fun o s₁ => wpAny (model prog w) A (eval slice env) (fun i s₂ => s₂.TypeIs o T ∧ wpAny (model prog w) A (getItem o i) Q E s₂) E s₁) E s) :
    wpAny (model prog w) A (eval (.Subscript value slice pos) env) Q E s := by
  refine Subscript_ (wpAny_mono h (fun o s₁ h₁ => wpAny_mono h₁ (fun i s₂ h₂ => ?_) fun _ _ x => x) fun _ _ x => x)
  obtain ⟨hT, h₂⟩ := h₂
  unfold subscriptTail
  refine wpAny_bind ?_
  rw [getitemInPython_of_ne hT.not_modules]
  refine wpAny_bind (wpAny_specialOf hT hl ?_)
  have fin : wpAny (model prog w) A (subscripted slice false o i) (fun r s₃ => wpAny (model prog w) A (letTemporaryGo value o r >>= fun _ => pure r) Q E s₃) E s₂ := by
    rw [hs o i]
    exact wpAny_operating (wpAny_mono h₂ (fun r s₃ h₃ => wpAny_bind (wpAny_letTemporaryGo (wpAny_pure h₃))) fun _ _ x => x)
  first
    | exact wpAny_pure (wpAny_bind fin)
    | exact wpAny_bind (wpAny_pure (wpAny_bind fin))
    | exact wpAny_bind fin

theorem dict_typeIs {X : Cx} {pins : List (Addr × Obj)} {σ : St} {H : Hp} {s : Shared} {a : Addr} {y : V} {o : Option V} (I : Inv X pins σ H s) (g : DGet H a y o) : s.TypeIs (.ref a) "dict" := by
  rcases g with ⟨kvs, k, e, _, _⟩ | ⟨kvs, k, b, e, _, _, _⟩
  · obtain ⟨_, _, vs, _, dd⟩ := dk_rd I.hok e
    exact dd.typeIs
  · obtain ⟨_, _, xs, _, dd⟩ := dt_rd I.hok e
    exact dd.typeIs
theorem dict_noDict {X : Cx} {pins : List (Addr × Obj)} {σ : St} {H : Hp} {s : Shared} {a : Addr} {y : V} {o : Option V} (I : Inv X pins σ H s) (g : DGet H a y o) :
    ∀ b, Value.ref a = .ref b → ∃ ob, s.heap.get? b = some ob ∧ ob.dict = none := fun b q => by
  cases q
  rcases g with ⟨kvs, k, e, _, _⟩ | ⟨kvs, k, b, e, _, _, _⟩
  · obtain ⟨_, _, vs, _, ob, _, _, h1, h2, _⟩ := dk_rd I.hok e
    exact ⟨ob, h1, h2.2.1⟩
  · obtain ⟨_, _, xs, _, ob, _, _, h1, h2, _⟩ := dt_rd I.hok e
    exact ⟨ob, h1, h2.2.1⟩

/-- d[y] -/
def tDGet (td ty : TE) : TE := fun σ H Q => td σ H fun x H1 => ty σ H1 fun y H2 => ∃ a v, x = .ref a ∧ DGet H2 a y (some v) ∧ Q v H2
/-- y in d, y not in d -/
def tDIn (ty td : TE) : TE := fun σ H Q => ty σ H fun y H1 => td σ H1 fun x H2 => ∃ a o, x = .ref a ∧ DGet H2 a y o ∧ Q (.bl o.isSome) H2
def tDNotIn (ty td : TE) : TE := fun σ H Q => ty σ H fun y H1 => td σ H1 fun x H2 => ∃ a o, x = .ref a ∧ DGet H2 a y o ∧ Q (.bl (!o.isSome)) H2
/-- d[y] = v -/
def sDPut (td ty tv : TE) : TS := fun D σ H => tv σ H fun v H1 => td σ H1 fun x H2 => ty σ H2 fun y H3 => ∃ a H4, x = .ref a ∧ DPut H3 a y v H4 ∧ D.nx σ H4
/-- d[y] op= v -/
def sDAug (td ty tv : TE) (rd : V → V → Hp → VK → Prop) : TS := fun D σ H => td σ H fun x H1 => ty σ H1 fun y H2 => ∃ a v, x = .ref a ∧ DGet H2 a y (some v) ∧
  tv σ H2 fun y2 H3 => rd v y2 H3 fun z H4 => ∃ H5, DPut H4 a y z H5 ∧ D.nx σ H5
/-- del d[y] -/
def sDDel (td ty : TE) : TS := fun D σ H => td σ H fun x H1 => ty σ H1 fun y H2 => ∃ a kvs k, x = .ref a ∧ H2 a = some (.dK kvs) ∧ y = kV k ∧ (valV kvs k).isSome = true ∧ D.nx σ (upd H2 a (.dK (dropK kvs k)))

section
variable {X : Cx} {o i e value : Expr} {pos pos' tpos : Pos} {td ty tv : TE}
theorem pe_dget (hu : X.A.units + 1 < cLine) (ho : PE X o td) (hi : PE X i ty) (hs : NoSl i) : PE X (.Subscript o i pos) (tDGet td ty) := by
  intro pins s σ H Q I h
  refine subD_of PySem.F.slot_dict_getitem.lookup hs (thn (ho pins s σ H _ I h) fun u s1 ⟨x, H1, I1, rx, q1⟩ => thn (hi pins s1 σ H1 _ I1 q1) fun iv s2 ⟨y, H2, I2, ry, a, v, ex, g, q2⟩ => ?_)
  subst ex
  obtain rfl : u = Value.ref a := rx
  exact ⟨dict_typeIs I2 g, d_getItem hu I2 g ry fun w' s3 I3 rw' => ⟨v, H2, I3, rw', q2⟩⟩
theorem pc_din (hu : X.A.units + 1 < cLine) (hi : PE X i ty) (ho : PE X o td) : PC X .In i o (tDIn ty td) := by
  intro pins s σ H Q I h
  refine thn (hi pins s σ H _ I h) fun iv s1 ⟨y, H1, I1, ry, q1⟩ => thn (ho pins s1 σ H1 _ I1 q1) fun u s2 ⟨x, H2, I2, rx, a, ov, ex, g, q2⟩ => ?_
  subst ex
  obtain rfl : u = Value.ref a := rx
  exact d_in hu I2 g ry fun s3 I3 => ⟨.bl ov.isSome, H2, I3, rfl, q2⟩
theorem pc_dnotin (hu : X.A.units + 1 < cLine) (hi : PE X i ty) (ho : PE X o td) : PC X .NotIn i o (tDNotIn ty td) := by
  intro pins s σ H Q I h
  refine thn (hi pins s σ H _ I h) fun iv s1 ⟨y, H1, I1, ry, q1⟩ => thn (ho pins s1 σ H1 _ I1 q1) fun u s2 ⟨x, H2, I2, rx, a, ov, ex, g, q2⟩ => ?_
  subst ex
  obtain rfl : u = Value.ref a := rx
  exact d_notIn hu I2 g ry fun s3 I3 => ⟨.bl (!ov.isSome), H2, I3, rfl, q2⟩
theorem ps_dput (hu : X.A.units + 1 < cLine) (ho : PE X o td) (hi : PE X i ty) (hv : PE X value tv) (hs : swapsWith value (some (.Subscript o i pos')) pos.line X.env = pure false) :
    PS X (.Assign [.Subscript o i pos'] value pos) (sDPut td ty tv) := by
  intro pins s σ H D I h
  refine wpAny_Assign_Subscript (thn (hv pins s σ H _ I h) fun r s1 ⟨v, H1, I1, rv, q1⟩ => thn (ho pins s1 σ H1 _ I1 q1) fun u s2 ⟨x, H2, I2, rx, q2⟩ => thn (hi pins s2 σ H2 _ I2 q2) fun iv s3 ⟨y, H3, I3, ry, a, H4, ex, g, q3⟩ => ?_) hs
  subst ex
  obtain rfl : u = Value.ref a := rx
  exact d_setItem hu I3 g ry rv fun s4 I4 => ⟨σ, H4, I4, q3⟩
theorem ps_daug {op : Operator} {rd : V → V → Hp → VK → Prop} (hu : X.A.units + 1 < cLine) (ho : PE X o td) (hi : PE X i ty) (hv : PE X value tv) (hop : InOp X op rd)
    (ha : ∀ ov iv new, augStore i ov iv new = (do holding [new, ov, iv] (setItem ov iv new); release [new, ov, iv] []; pure .next)) : PS X (.AugAssign (.Subscript o i tpos) op value pos) (sDAug td ty tv rd) := by
  intro pins s σ H D I h
  refine wpAny_AugAssign_SubscriptAny (thn (ho pins s σ H _ I h) fun u s1 ⟨x, H1, I1, rx, q1⟩ => thn (hi pins s1 σ H1 _ I1 q1) fun iv s2 ⟨y, H2, I2, ry, a, v, ex, g, q2⟩ => ?_) ha
  subst ex
  obtain rfl : u = Value.ref a := rx
  refine d_getItem hu I2 g ry fun w' s3 I3 rw' => thn (hv pins s3 σ H2 _ I3 q2) fun w2 s4 ⟨y2, H3, I4, ry2, q3⟩ => thn (hop pins s4 σ H3 v y2 w' w2 _ I4 rw' ry2 q3) fun w3 s5 ⟨z, H4, I5, rz, H5, g5, q4⟩ => ?_
  exact d_setItem hu I5 g5 ry rz fun s6 I6 => ⟨σ, H5, I6, q4⟩
theorem ps_ddel (ho : PE X o td) (hi : PE X i ty) : PS X (.Delete [.Subscript o i tpos] pos) (sDDel td ty) := by
  intro pins s σ H D I h
  refine wpAny_Delete (wpAny_deleteEach_cons (wpAny_delete_Subscript (thn (ho pins s σ H _ I h) fun u s1 ⟨x, H1, I1, rx, q1⟩ => thn (hi pins s1 σ H1 _ I1 q1) fun iv s2 ⟨y, H2, I2, ry, a, kvs, k, ex, e, ey, l, q2⟩ => ?_)))
  subst ex ey
  obtain rfl : u = Value.ref a := rx
  exact d_delItem I2 e ry l fun s3 I3 => wpAny_deleteEach_nil ⟨σ, _, I3, q2⟩
end


/-! ### displays -/
theorem dk_empty {P : Program} {w : World} {H : Hp} (h : Heap) (hb : sysModules < h.objs.size) : ObjOk P w H (h.push { cls := .type "dict", data := .dict #[] }) h.objs.size (.dK []) :=
  ⟨Nat.zero_le _, beq_eq_false_iff_ne.mpr (Ne.symm (Nat.ne_of_lt hb)), [], .nil, Heap.DictOf.new h⟩
theorem dt_empty {P : Program} {w : World} {H : Hp} (h : Heap) (hb : sysModules < h.objs.size) : ObjOk P w H (h.push { cls := .type "dict", data := .dict #[] }) h.objs.size (.dT []) :=
  ⟨Nat.zero_le _, beq_eq_false_iff_ne.mpr (Ne.symm (Nat.ne_of_lt hb)), [], .nil, _, #[], 0, Heap.get?_push_size _ rfl, ⟨rfl, rfl, rfl⟩, rfl, rfl, List.nodup_nil⟩
/-- {}, to be a dict of the kind that is wanted -/
def tDNewK : TE := fun _ H Q => ∀ p, H p = none → Q (.ref p) (upd H p (.dK []))
def tDNewT : TE := fun _ H Q => ∀ p, H p = none → Q (.ref p) (upd H p (.dT []))
section
variable {X : Cx} {pos : Pos}
theorem pe_dnewK : PE X (.Dict [] [] pos) tDNewK := fun pins s σ H Q I h =>
  wpAny_Dict_empty ⟨.ref s.heap.objs.size, _, I.laid (a := s.heap.objs.size) (o := .dK []) (t' := s.toks) (fun _ _ q => Heap.get?_push_of_some _ q) (Nat.le_refl _) (dk_empty s.heap I.big), rfl, h _ (I.hok.fresh (Nat.le_refl _))⟩
theorem pe_dnewT : PE X (.Dict [] [] pos) tDNewT := fun pins s σ H Q I h =>
  wpAny_Dict_empty ⟨.ref s.heap.objs.size, _, I.laid (a := s.heap.objs.size) (o := .dT []) (t' := s.toks) (fun _ _ q => Heap.get?_push_of_some _ q) (Nat.le_refl _) (dt_empty s.heap I.big), rfl, h _ (I.hok.fresh (Nat.le_refl _))⟩
end

/-- the pairs of a display, from the left -/
def tPairs : List (TE × TE) → St → Hp → (List (V × V) → Hp → Prop) → Prop
  | [], _, H, Q => Q [] H
  | (tk, tv) :: r, σ, H, Q => tk σ H fun x H1 => tv σ H1 fun y H2 => tPairs r σ H2 fun ps H3 => Q ((x, y) :: ps) H3
abbrev VV : List (V × V) → List (Value × Value) → Prop := Paired fun p q => RelV p.1 q.1 ∧ RelV p.2 q.2
def PPs (X : Cx) (pos : Pos) (keys : List (Option Expr)) (values : List Expr) (trs : List (TE × TE)) : Prop :=
  ∀ (pins : List (Addr × Obj)) (s : Shared) (σ : St) (H : Hp) (Q : List (V × V) → Hp → Prop), Inv X pins σ H s → tPairs trs σ H Q →
    wpAny (model X.prog X.w) X.A (evalPairs (pairTrees keys values X.env pos)) (fun vs s' => ∃ ps H', Inv X pins σ H' s' ∧ VV ps vs ∧ Q ps H') X.xe s
theorem pps_nil {X : Cx} {pos : Pos} : PPs X pos [] [] [] := fun pins s σ H Q I h => pairTrees_nil_walk ⟨[], H, I, .nil, h⟩
theorem pps_cons {X : Cx} {pos : Pos} {k v : Expr} {ks : List (Option Expr)} {vs : List Expr} {tk tv : TE} {trs : List (TE × TE)} (hk : PE X k tk) (hv : PE X v tv) (hr : PPs X pos ks vs trs) :
    PPs X pos (some k :: ks) (v :: vs) ((tk, tv) :: trs) := fun pins s σ H Q I h =>
  pairTrees_cons_walk (thn (hk pins s σ H _ I h) fun u s1 ⟨x, H1, I1, rx, q1⟩ => thn (hv pins s1 σ H1 _ I1 q1) fun w2 s2 ⟨y, H2, I2, ry, q2⟩ =>
    thn (hr pins s2 σ H2 _ I2 q2) fun ws s3 ⟨ps, H3, I3, rel, q3⟩ => ⟨(x, y) :: ps, H3, I3, .cons ⟨rx, ry⟩ rel, q3⟩)

def mergeK (kvs more : List (Key × V)) : List (Key × V) := more.foldl (fun acc kv => putK acc kv.1 kv.2) kvs
theorem KV.merge : ∀ {more : List (Key × V)} {rs : List (Key × Value)} {kvs : List (Key × V)} {vs : List (Key × Value)}, KV more rs → KV kvs vs → KV (mergeK kvs more) (merged vs rs) := by
  intro more rs kvs vs r
  unfold KV at r
  induction r generalizing kvs vs with
  | nil => intro q; exact q
  | @cons p q ps qs h t ih =>
    intro r0
    have e : KV (putK kvs p.1 p.2) (stored vs q.1 q.2) := by
      have := r0.put p.1 h.2
      rw [← h.1]; exact this
    exact ih e
theorem length_mergeK : ∀ (more kvs : List (Key × V)), (mergeK kvs more).length ≤ kvs.length + more.length
  | [], kvs => by show kvs.length ≤ kvs.length + 0; omega
  | p :: r, kvs => by
    have h1 := length_mergeK r (putK kvs p.1 p.2)
    have h2 := length_putK kvs p.1 p.2
    show (mergeK (putK kvs p.1 p.2) r).length ≤ _
    rw [List.length_cons]; omega
theorem carries_of {P : Program} {w : World} : ∀ {kvs : List (Key × V)} {ws : List (Value × Value)}, VV (kvs.map fun kv => (kV kv.1, kv.2)) ws → ∃ rs, Carries (mixKind P w) ws rs ∧ KV kvs rs
  | [], _, r => by rw [List.map_nil] at r; cases r; exact ⟨[], True.intro, .nil⟩
  | p :: kvs, _, r => by
    rw [List.map_cons] at r
    cases r with
    | @cons a b as bs h t =>
      obtain ⟨rs, c, q⟩ := carries_of (P := P) (w := w) t
      obtain ⟨b1, b2⟩ := b
      exact ⟨(p.1, b2) :: rs, ⟨kV_is h.1, rfl, c⟩, .cons ⟨rfl, h.2⟩ q⟩
/-- {k: v, ..} with keys ints and texts; the new dict stands empty while the pairs are made -/
def tDisp (trs : List (TE × TE)) : TE := fun σ H Q => ∀ p, H p = none → tPairs trs σ (upd H p (.dK [])) fun ps H2 => H2 p = some (.dK []) ∧ ∃ kvs : List (Key × V), ps = kvs.map (fun kv => (kV kv.1, kv.2)) ∧ kvs.length ≤ 15 ∧ Q (.ref p) (upd H2 p (.dK (mergeK [] kvs)))
theorem pe_disp {X : Cx} {pos : Pos} {keys : List (Option Expr)} {values : List Expr} {trs : List (TE × TE)} (h : PPs X pos keys values trs) (hall : keys.all (·.isSome) = true) (hl : keys.length = values.length) (h0 : keys ≠ [])
    (h15 : keys.length ≤ 15) : PE X (.Dict keys values pos) (tDisp trs) := by
  intro pins s σ H Q I q
  have hn := I.hok.fresh (Nat.le_refl s.heap.objs.size)
  have I1 := I.laid (a := s.heap.objs.size) (o := .dK []) (h' := s.heap.push { cls := .type "dict", data := .dict #[] }) (t' := s.toks) (fun _ _ q => Heap.get?_push_of_some _ q) (Nat.le_refl _) (dk_empty s.heap I.big)
  refine wpAny_Dict_walk (knd := mixKind X.prog X.w) hall hl h0 h15 (thn (h pins _ σ _ _ I1 (q _ hn)) fun ws s2 ⟨ps, H2, I2, rel, e, kvs, ep, lk, q2⟩ => ?_)
  subst ep
  obtain ⟨rs, c, rk⟩ := carries_of (P := X.prog) (w := X.w) rel
  obtain ⟨z, hd, vs0, r0, dd⟩ := dk_of I2.hok e
  cases r0
  refine ⟨rs, c, dd, fun h' dd' hs => ⟨.ref s.heap.objs.size, _, ?_, rfl, q2⟩⟩
  have hz : (mergeK [] kvs).length ≤ sizeLine := by
    have h1 := length_mergeK kvs []
    rw [List.length_nil] at h1
    rw [sizeLine_eq]; omega
  have he : ∃ q, h'.get? s.heap.objs.size = some q := let ⟨q, _, _, hq, _⟩ := dd'; ⟨q, hq⟩
  exact d_write I2 (by rw [e]; exact True.intro) hs he (dk_new hz hd (rk.merge .nil) dd')


/-! ### methods -/
/-- a method call o.m(e) of a built-in, with one argument: what must be seen of the text -/
structure M1 (X : Cx) (o : Expr) (m : Str) (apos : Pos) (e : Expr) (cpos : Pos) : Prop where
  base : attributeBase o m X.env (eval o X.env) = eval o X.env
  few : ((backTo cpos (starEach [e] X.env)).all (fun x => !x.1) && (backToKw cpos (keywordEach [] X.env)).all (fun x => x.1.isSome)
    && decide (([e] : List Expr).length + ([] : List Keyword).length + (if ([] : List Keyword).isEmpty then 0 else 1) < 30)) = true
  line : (apos.endLine == cpos.line) = true
  trees : backTo cpos (starEach [e] X.env) = [(false, eval e X.env)]
structure M2 (X : Cx) (o : Expr) (m : Str) (apos : Pos) (e f : Expr) (cpos : Pos) : Prop where
  base : attributeBase o m X.env (eval o X.env) = eval o X.env
  few : ((backTo cpos (starEach [e, f] X.env)).all (fun x => !x.1) && (backToKw cpos (keywordEach [] X.env)).all (fun x => x.1.isSome)
    && decide (([e, f] : List Expr).length + ([] : List Keyword).length + (if ([] : List Keyword).isEmpty then 0 else 1) < 30)) = true
  line : (apos.endLine == cpos.line) = true
  trees : backTo cpos (starEach [e, f] X.env) = [(false, eval e X.env), (false, eval f X.env)]

/-- a is a dict, whatever its keys -/
def IsD (H : Hp) (a : Addr) : Prop := (∃ kvs, Rd H a (.dK kvs)) ∨ ∃ kvs, Rd H a (.dT kvs)
theorem isD_at {X : Cx} {pins : List (Addr × Obj)} {σ : St} {H : Hp} {s : Shared} {a : Addr} (I : Inv X pins σ H s) (d : IsD H a) :
    s.TypeIs (.ref a) "dict" ∧ (∀ b, Value.ref a = .ref b → ∃ ob, s.heap.get? b = some ob ∧ ob.dict = none) ∧ (a == sysModules) = false := by
  rcases d with ⟨kvs, e⟩ | ⟨kvs, e⟩
  · obtain ⟨_, hd, vs, _, dd⟩ := dk_rd I.hok e
    refine ⟨dd.typeIs, fun b q => ?_, hd⟩
    cases q
    obtain ⟨ob, _, _, h1, h2, _⟩ := dd
    exact ⟨ob, h1, h2.2.1⟩
  · obtain ⟨_, hd, xs, _, dd⟩ := dt_rd I.hok e
    refine ⟨dd.typeIs, fun b q => ?_, hd⟩
    cases q
    obtain ⟨ob, _, _, h1, h2, _⟩ := dd
    exact ⟨ob, h1, h2.2.1⟩

section
variable {X : Cx} {pins : List (Addr × Obj)} {σ : St} {H : Hp} {s : Shared} {a : Addr} {y d : V} {u r : Value} {o : Option V} {A : Around} {E : Value → Shared → Prop}
/-- d.get(y) -/
theorem d_get1 {Q : Value → Shared → Prop} (hu : A.units + 1 < cLine) (I : Inv X pins σ H s) (g : DGet H a y o) (ry : RelV y u) (h : ∀ w' s', Inv X pins σ H s' → RelV (o.getD .non) w' → Q w' s') :
    wpAny (model X.prog X.w) A (call (.builtin "dict.get") [.ref a, u]) Q E s := by
  rcases g with ⟨kvs, k, e, ey, l⟩ | ⟨kvs, k, b, e, ey, eb, l⟩
  · subst ey
    obtain ⟨z, hd, vs, rel, dd⟩ := dk_rd I.hok e
    refine call_meetsIn PySem.F.slot_dict_get dd.typeIs PySem.F.entry_dict_get (PySem.F.args_dict_get_2 _ _) (meets_dict_get (mixKind X.prog X.w) a (kV_is ry) hd) ⟨_, dd.mapOf, h _ _ (I.tok _) ?_⟩
    rw [l]
    exact (rel.val k).getD rfl
  · subst ey
    cases (show u = Value.ref b from ry)
    obtain ⟨z, hd, xs, rel, dd⟩ := dt_rd I.hok e
    refine call_meetsIn PySem.F.slot_dict_get dd.typeIs PySem.F.entry_dict_get (PySem.F.args_dict_get_2 _ _) (meetsH_dict_get (tupleKind (mixKind X.prog X.w)) a b hd) ⟨tupleKind_room_in1 hu, k, xs, key_of I.hok eb, dd, h _ _ (I.tok _) ?_⟩
    rw [l]
    exact (rel.val k).getD rfl
/-- d.get(y, x) -/
theorem d_get2 {Q : Value → Shared → Prop} (hu : A.units + 1 < cLine) (I : Inv X pins σ H s) (g : DGet H a y o) (ry : RelV y u) (rd : RelV d r) (h : ∀ w' s', Inv X pins σ H s' → RelV (o.getD d) w' → Q w' s') :
    wpAny (model X.prog X.w) A (call (.builtin "dict.get") [.ref a, u, r]) Q E s := by
  rcases g with ⟨kvs, k, e, ey, l⟩ | ⟨kvs, k, b, e, ey, eb, l⟩
  · subst ey
    obtain ⟨z, hd, vs, rel, dd⟩ := dk_rd I.hok e
    refine call_meetsIn PySem.F.slot_dict_get dd.typeIs PySem.F.entry_dict_get (PySem.F.args_dict_get_3 _ _ _) (meets_dict_get_default (mixKind X.prog X.w) a (kV_is ry) hd r) ⟨_, dd.mapOf, h _ _ (I.tok _) ?_⟩
    rw [l]
    exact (rel.val k).getD rd
  · subst ey
    cases (show u = Value.ref b from ry)
    obtain ⟨z, hd, xs, rel, dd⟩ := dt_rd I.hok e
    refine call_meetsIn PySem.F.slot_dict_get dd.typeIs PySem.F.entry_dict_get (PySem.F.args_dict_get_3 _ _ _) (meetsH_dict_get_default (tupleKind (mixKind X.prog X.w)) a b hd r) ⟨tupleKind_room_in1 hu, k, xs, key_of I.hok eb, dd, h _ _ (I.tok _) ?_⟩
    rw [l]
    exact (rel.val k).getD rd
end

def tDGet1 (td ty : TE) : TE := fun σ H Q => td σ H fun x H1 => ∃ a, x = .ref a ∧ IsD H1 a ∧ ty σ H1 fun y H2 => ∃ o, DGet H2 a y o ∧ Q (o.getD .non) H2
def tDGet2 (td ty tx : TE) : TE := fun σ H Q => td σ H fun x H1 => ∃ a, x = .ref a ∧ IsD H1 a ∧ ty σ H1 fun y H2 => tx σ H2 fun z H3 => ∃ o, DGet H3 a y o ∧ Q (o.getD z) H3
/-- d.pop(k): there; d.pop(k, x): there or not -/
def tDPop1 (td ty : TE) : TE := fun σ H Q => td σ H fun x H1 => ∃ a, x = .ref a ∧ IsD H1 a ∧ ty σ H1 fun y H2 => ∃ kvs k v, H2 a = some (.dK kvs) ∧ y = kV k ∧ valV kvs k = some v ∧ Q v (upd H2 a (.dK (dropK kvs k)))
def tDPop2 (td ty tx : TE) : TE := fun σ H Q => td σ H fun x H1 => ∃ a, x = .ref a ∧ IsD H1 a ∧ ty σ H1 fun y H2 => tx σ H2 fun z H3 => ∃ kvs k, H3 a = some (.dK kvs) ∧ y = kV k ∧
  (∀ v, valV kvs k = some v → Q v (upd H3 a (.dK (dropK kvs k)))) ∧ (valV kvs k = none → Q z H3)
section
variable {X : Cx} {o e f : Expr} {apos cpos : Pos} {td ty tx : TE}
theorem pe_dget1 (hu : X.A.units + 1 < cLine) (ho : PE X o td) (he : PE X e ty) (m : M1 X o "get" apos e cpos) : PE X (.Call (.Attribute o "get" apos) [e] [] cpos) (tDGet1 td ty) := by
  intro pins s σ H Q I h
  refine wpAny_Call_method m.base m.few m.line PySem.F.plainAttrs_dict PySem.F.slot_dict_get PySem.F.type_dict_get (thn (ho pins s σ H _ I h) fun u s1 ⟨x, H1, I1, rx, a, ex, d, q1⟩ => ?_)
  subst ex
  obtain rfl : u = Value.ref a := rx
  obtain ⟨t1, t2, _⟩ := isD_at I1 d
  refine ⟨t1, t2, ?_⟩
  rw [m.trees]
  refine Calls.callWith_builtin rfl (Calls.evalArgs_plain (Calls.spliced_cons (thn (he pins s1 σ H1 _ I1 q1) fun iv s2 ⟨y, H2, I2, ry, ov, g, q2⟩ => Calls.spliced_nil ?_)))
  exact d_get1 hu I2 g ry fun w' s3 I3 rw' => ⟨_, H2, I3, rw', q2⟩
theorem pe_dget2 (hu : X.A.units + 1 < cLine) (ho : PE X o td) (he : PE X e ty) (hf : PE X f tx) (m : M2 X o "get" apos e f cpos) : PE X (.Call (.Attribute o "get" apos) [e, f] [] cpos) (tDGet2 td ty tx) := by
  intro pins s σ H Q I h
  refine wpAny_Call_method m.base m.few m.line PySem.F.plainAttrs_dict PySem.F.slot_dict_get PySem.F.type_dict_get (thn (ho pins s σ H _ I h) fun u s1 ⟨x, H1, I1, rx, a, ex, d, q1⟩ => ?_)
  subst ex
  obtain rfl : u = Value.ref a := rx
  obtain ⟨t1, t2, _⟩ := isD_at I1 d
  refine ⟨t1, t2, ?_⟩
  rw [m.trees]
  refine Calls.callWith_builtin rfl (Calls.evalArgs_plain (Calls.spliced_cons (thn (he pins s1 σ H1 _ I1 q1) fun iv s2 ⟨y, H2, I2, ry, q2⟩ =>
    Calls.spliced_cons (thn (hf pins s2 σ H2 _ I2 q2) fun fv s3 ⟨z, H3, I3, rz, ov, g, q3⟩ => Calls.spliced_nil ?_))))
  exact d_get2 hu I3 g ry rz fun w' s4 I4 rw' => ⟨_, H3, I4, rw', q3⟩
theorem pe_dpop1 (ho : PE X o td) (he : PE X e ty) (m : M1 X o "pop" apos e cpos) : PE X (.Call (.Attribute o "pop" apos) [e] [] cpos) (tDPop1 td ty) := by
  intro pins s σ H Q I h
  refine wpAny_Call_method m.base m.few m.line PySem.F.plainAttrs_dict PySem.F.slot_dict_pop PySem.F.type_dict_pop (thn (ho pins s σ H _ I h) fun u s1 ⟨x, H1, I1, rx, a, ex, d, q1⟩ => ?_)
  subst ex
  obtain rfl : u = Value.ref a := rx
  obtain ⟨t1, t2, _⟩ := isD_at I1 d
  refine ⟨t1, t2, ?_⟩
  rw [m.trees]
  refine Calls.callWith_builtin rfl (Calls.evalArgs_plain (Calls.spliced_cons (thn (he pins s1 σ H1 _ I1 q1) fun iv s2 ⟨y, H2, I2, ry, kvs, k, v, ea, ey, l, q2⟩ => Calls.spliced_nil ?_)))
  subst ey
  exact d_pop I2 ea ry l (.inl rfl) fun w' s3 I3 rw' => ⟨v, _, I3, rw', q2⟩
theorem pe_dpop2 (ho : PE X o td) (he : PE X e ty) (hf : PE X f tx) (m : M2 X o "pop" apos e f cpos) : PE X (.Call (.Attribute o "pop" apos) [e, f] [] cpos) (tDPop2 td ty tx) := by
  intro pins s σ H Q I h
  refine wpAny_Call_method m.base m.few m.line PySem.F.plainAttrs_dict PySem.F.slot_dict_pop PySem.F.type_dict_pop (thn (ho pins s σ H _ I h) fun u s1 ⟨x, H1, I1, rx, a, ex, d, q1⟩ => ?_)
  subst ex
  obtain rfl : u = Value.ref a := rx
  obtain ⟨t1, t2, _⟩ := isD_at I1 d
  refine ⟨t1, t2, ?_⟩
  rw [m.trees]
  refine Calls.callWith_builtin rfl (Calls.evalArgs_plain (Calls.spliced_cons (thn (he pins s1 σ H1 _ I1 q1) fun iv s2 ⟨y, H2, I2, ry, q2⟩ =>
    Calls.spliced_cons (thn (hf pins s2 σ H2 _ I2 q2) fun fv s3 ⟨z, H3, I3, rz, kvs, k, ea, ey, q3, q4⟩ => Calls.spliced_nil ?_))))
  subst ey
  cases l : valV kvs k with
  | some v => exact d_pop I3 ea ry l (.inr ⟨fv, rfl⟩) fun w' s4 I4 rw' => ⟨v, _, I4, rw', q3 v l⟩
  | none => exact d_popD I3 ea ry l fun s4 I4 => ⟨z, H3, I4, rz, q4 l⟩
end

/-! ### dict(d): a copy -/
section
variable {X : Cx} {pins : List (Addr × Obj)} {σ : St} {H : Hp} {s : Shared} {a : Addr} {kvs : List (Key × V)} {A : Around} {E : Value → Shared → Prop}
theorem d_copyOf {Q : Value → Shared → Prop} (I : Inv X pins σ H s) (e : Rd H a (.dK kvs)) (h : ∀ p s', H p = none → Inv X pins σ (upd H p (.dK kvs)) s' → Q (.ref p) s') : wpAny (model X.prog X.w) A (call (.type "dict") [.ref a]) Q E s := by
  obtain ⟨z, hd, vs, rel, dd⟩ := dk_rd I.hok e
  refine kt_call_dict hd dd (by rw [← rel.length]; exact z) fun h' dd' hs => ?_
  refine h _ _ (I.hok.fresh (Nat.le_refl _)) (I.laid (a := s.heap.objs.size) (o := .dK kvs) (t' := s.toks) (fun b q hq => ?_) (Nat.le_refl _) (dk_new z (beq_eq_false_iff_ne.mpr (Ne.symm (Nat.ne_of_lt I.big))) rel dd'))
  exact (hs.2 b (Nat.ne_of_lt (Heap.lt_size hq))).trans (Heap.get?_push_of_some _ hq)
end


section
variable {X : Cx} {pins : List (Addr × Obj)} {σ : St} {H : Hp} {s : Shared} {a : Addr} {y : V} {u : Value} {A : Around} {E : Value → Shared → Prop}
/-- d[y], not there: a KeyError -/
theorem d_missing {Q : Value → Shared → Prop} (hu : A.units + 1 < cLine) (hh : A.handled = none) (I : Inv X pins σ H s) (g : DGet H a y none) (ry : RelV y u)
    (h : ∀ h' e t', Heap.NewExc s.heap h' e "KeyError" → E (.ref e) { s with heap := h', toks := t' }) : wpAny (model X.prog X.w) A (getItem (.ref a) u) Q E s := by
  rcases g with ⟨kvs, k, e, ey, l⟩ | ⟨kvs, k, b, e, ey, eb, l⟩
  · subst ey
    obtain ⟨z, hd, vs, rel, dd⟩ := dk_rd I.hok e
    have hn : valueAt vs k = none := RelO.none_of (by rw [l]; exact rel.val k)
    exact wpAny_getItem_missing_of (kV_is ry) hd hh dd.mapOf hn fun h' ex ne => h h' ex _ ne
  · subst ey
    cases (show u = Value.ref b from ry)
    obtain ⟨z, hd, xs, rel, dd⟩ := dt_rd I.hok e
    have hn : (atKey xs k).map (·.2) = none := RelO.none_of (by rw [l]; exact rel.val k)
    exact wpAny_getItem_missing_heap (tupleKind_room_in1 hu) (key_of I.hok eb) hd hh dd (Option.map_eq_none_iff.mp hn) fun h' ex ne => h h' ex _ ne
end
end L2

namespace HT
open PySem PyProof.Rows

/-- t < u of tuples of ints -/
def lexLt : List Int → List Int → Bool
  | [], [] => false
  | [], _ :: _ => true
  | _ :: _, [] => false
  | x :: xs, y :: ys => if x = y then lexLt xs ys else decide (x < y)
theorem lexLt_cons (x y : Int) (xs ys : List Int) : lexLt (x :: xs) (y :: ys) = if x = y then lexLt xs ys else decide (x < y) := rfl
theorem lexLt_nil_nil : lexLt [] [] = false := rfl
theorem lexLt_nil_cons (y : Int) (ys : List Int) : lexLt [] (y :: ys) = true := rfl
theorem lexLt_cons_nil (x : Int) (xs : List Int) : lexLt (x :: xs) [] = false := rfl

theorem eqAt_int (A : Around) (s : Shared) (a : Int) (t : Tok) (c : Int) (u : Tok) : ∃ e, SeqAt.EqAt A s (.int a t) (.int c u) e ∧ (e = true ↔ a = c) :=
  ⟨(a == c), SeqAt.EqAt.int_int a t c u, by simp⟩
theorem rcLt_int (A : Around) (s : Shared) (a : Int) (t : Tok) (c : Int) (u : Tok) (prog : Program) (w : World) (E : Value → Shared → Prop) (Q : Value → Shared → Prop) (h : Q (.bool (decide (a < c))) s) :
    wpAny (model prog w) A (richCompare .Lt (.int a t) (.int c u)) Q E s :=
  (PyProof.Rows.lt_int h : wpAny (model prog w) A (compareOp .Lt (.int a t) (.int c u)) Q E s)

section
open PySem.SeqAt
open PySem.AutoSeq1 (wpAny_loadPart')
open PySem.MeetsSeq PySem.MeetsSeq2 PySem.MeetsSeq3

theorem tuple_lt_ints (l b : Addr) (items items2 : Array Value) (n n2 : Nat) (dd dd2 : Option Addr) (sl sl2 : Array (Option Value)) (ns ms : List Int) (hi : IntsAre items.toList ns) (hj : IntsAre items2.toList ms) :
    Meets (Builtin.«tuple.__lt__» ⟨[.ref l, .ref b], []⟩)
      (fun _ R s => s.heap.get? l = some { cls := .type "tuple", dict := dd, data := .seq items n, slots := sl } ∧ s.heap.get? b = some { cls := .type "tuple", dict := dd2, data := .seq items2 n2, slots := sl2 } ∧
        R (.ok (.ret (.bool (lexLt ns ms)))) s) :=
  .of_wp fun prog w A R s h => by
    obtain ⟨hp, g, d, tk, os⟩ := s; obtain ⟨hl, hb, h⟩ := h
    have f2 := AutoSeq1.sub_tuple_tuple
    have z1 : items.size = ns.length := by rw [← hi.length]; simp
    have z2 : items2.size = ms.length := by rw [← hj.length]; simp
    wp_walk using wpAny_loadPart' hl, wpAny_loadPart' hb, wpAny_forIn_list _ (fun rest b s' => b.1 = none ∧ s' = ⟨hp, g, d, tk, os⟩ ∧ ∃ (vs ws : List Value) (ns' ms' : List Int), rest = vs.zip ws ∧
      IntsAre vs ns' ∧ IntsAre ws ms' ∧ ns'.length + items2.size = ms'.length + items.size ∧ R (.ok (.ret (.bool (lexLt ns' ms')))) ⟨hp, g, d, tk, os⟩) _
    case turn =>
      rintro ⟨y, x⟩ rest b s' ⟨hb', rfl, vs, ws, ns', ms', hz, hvi, hwi, hlen, hR⟩
      cases hvi with
      | nil => rw [List.zip_nil_left] at hz; cases hz
      | cons a t hvi' =>
        cases hwi with
        | nil => rw [List.zip_nil_right] at hz; cases hz
        | cons c u hwi' =>
          rw [List.zip_cons_cons] at hz
          injection hz with hyx hrest
          injection hyx with hy hx
          subst hy hx
          rw [lexLt_cons] at hR
          simp only [List.length_cons] at hlen
          obtain ⟨e, he, hiff⟩ := eqAt_int A.in1 ⟨hp, g, d, tk, os⟩ a t c u
          refine wpAny_bind (he prog w _ _ ?_)
          cases e with
          | true =>
            rw [if_pos (hiff.mp rfl)] at hR
            wp_walk
            exact ⟨rfl, rfl, _, _, _, _, hrest, hvi', hwi', by omega, hR⟩
          | false =>
            rw [if_neg (fun q => absurd (hiff.mpr q) Bool.false_ne_true)] at hR
            have hri := rcLt_int A.in1 ⟨hp, g, d, tk, os⟩ a t c u prog w
            wp_walk using hri
            exact ⟨_, rfl, by simpa using hR⟩
    case fin =>
      rintro ⟨b1, b2⟩ s' ⟨hb', rfl, vs, ws, ns', ms', hz, hvi, hwi, hlen, hR⟩
      simp only at hb'
      subst hb'
      have hv : lexLt ns' ms' = decide (items.size < items2.size) := by
        cases hvi with
        | nil =>
          cases hwi with
          | nil =>
            simp only [List.length_nil] at hlen
            rw [lexLt_nil_nil]
            exact (decide_eq_false (by omega)).symm
          | cons c u hw =>
            simp only [List.length_nil, List.length_cons] at hlen
            rw [lexLt_nil_cons]
            exact (decide_eq_true (by omega)).symm
        | cons a t hv =>
          cases hwi with
          | nil =>
            simp only [List.length_nil, List.length_cons] at hlen
            rw [lexLt_cons_nil]
            exact (decide_eq_false (by omega)).symm
          | cons c u hw =>
            rw [List.zip_cons_cons] at hz
            cases hz
      rw [hv] at hR
      wp_walk
      exact ⟨_, rfl, by simpa [Builtin.Tuple.tupleCompareSizes] using hR⟩
    case h =>
      exact ⟨rfl, rfl, items.toList, items2.toList, ns, ms, rfl, hi, hj, by omega, h⟩
end

section
variable {prog : Program} {w : World} {A : Around} {E : Value → Shared → Prop} {s : Shared}

theorem lt_tupInts {l b : Addr} {items items2 : Array Value} {ns ms : List Int} {Q : Value → Shared → Prop} (hl : IsTup s.heap l items) (hb : IsTup s.heap b items2) (hi : IntsAre items.toList ns) (hj : IntsAre items2.toList ms)
    (hu : A.units < cLine) (h : Q (.bool (lexLt ns ms)) s) : wpAny (model prog w) A (compareOp .Lt (.ref l) (.ref b)) Q E s := by
  obtain ⟨⟨cls, dd, data, sl⟩, ho, hc, n, hd⟩ := id hl
  obtain ⟨⟨cls2, dd2, data2, sl2⟩, ho2, hc2, n2, hd2⟩ := id hb
  simp only at hc hd hc2 hd2
  subst hc hd hc2 hd2
  exact richCompare_meets_room (op := .Lt) ⟨_, ho, rfl⟩ ⟨_, ho2, rfl⟩ PySem.F.slot_tuple_lt PySem.F.entry_tuple_lt (PySem.F.args_tuple_lt_2 _ _) (tuple_lt_ints l b items items2 n n2 dd dd2 sl sl2 ns ms hi hj)
    ⟨ho, ho2, show Value.bool (lexLt ns ms) ≠ Value.notImplemented ∧ Q (.bool (lexLt ns ms)) s from ⟨(fun x => nomatch x), h⟩⟩ hu

/-- t + u, t not empty -/
theorem cat_tup {t b : Addr} {vs ws : List Value} {Q : Value → Shared → Prop} (ht : IsTup s.heap t vs.toArray) (hb : IsTup s.heap b ws.toArray) (hv : vs ≠ [])
    (h1 : ws = [] → Q (.ref t) s) (h2 : ws ≠ [] → Q (.ref s.heap.objs.size) { s with heap := s.heap.push { cls := .type "tuple", data := .seq (vs ++ ws).toArray } })
    (hsz : vs.length + ws.length ≤ sizeLine) : wpAny (model prog w) A (binaryOp .Add (.ref t) (.ref b)) Q E s := by
  obtain ⟨⟨cls, dd, data, sl⟩, ho, hc, n, hd⟩ := id ht
  obtain ⟨⟨cls2, dd2, data2, sl2⟩, ho2, hc2, n2, hd2⟩ := id hb
  simp only at hc hd hc2 hd2
  subst hc hd hc2 hd2
  have e : vs.toArray ++ ws.toArray = (vs ++ ws).toArray := by simp
  by_cases hw : ws = []
  · exact concat_meets ⟨_, ho, rfl⟩ ⟨_, ho2, rfl⟩ noFill_tuple_add seq_tuple_add PySem.F.slot_tuple_add PySem.F.entry_tuple_add (PySem.F.args_tuple_add_2 _ _)
      (tuple_addW1 t b vs.toArray ws.toArray n n2 dd dd2 sl sl2 (by simpa using hv) (by simp [hw])) ⟨ho, ho2, h1 hw⟩
  · refine concat_meets ⟨_, ho, rfl⟩ ⟨_, ho2, rfl⟩ noFill_tuple_add seq_tuple_add PySem.F.slot_tuple_add PySem.F.entry_tuple_add (PySem.F.args_tuple_add_2 _ _)
      (tuple_addW2 t b vs.toArray ws.toArray n n2 dd dd2 sl sl2 (by simpa using hv) (by simpa using hw) (by rw [List.size_toArray, List.size_toArray]; exact hsz)) ⟨ho, ho2, ?_⟩
    rw [e]
    exact h2 hw

/-! ### t[a:b], not the whole -/
/-- a slice's bound as a place among n (d where it is left out) -/
def sIx (n d : Nat) : Option Int → Nat
  | none => d
  | some v => if v < 0 then (v + (n : Int)).toNat else min v.toNat n
theorem sIx_none (n d : Nat) : sIx n d none = d := rfl
theorem sIx_nat (n d k : Nat) : sIx n d (some (k : Int)) = min k n := by
  show (if (k : Int) < 0 then ((k : Int) + (n : Int)).toNat else min (k : Int).toNat n) = min k n
  rw [if_neg (by omega), Int.toNat_natCast]
theorem sIx_le (n d : Nat) (hd : d ≤ n) (o : Option Int) : sIx n d o ≤ n := by
  cases o with
  | none => exact hd
  | some v =>
    show (if v < 0 then (v + (n : Int)).toNat else min v.toNat n) ≤ n
    by_cases hv : v < 0
    · rw [if_pos hv]; omega
    · rw [if_neg hv]; exact Nat.min_le_right _ _
theorem clip_eq (v : Int) (n d : Nat) : (if v < 0 then max (v + (n : Int)) 0 else min v (n : Int)) = ((sIx n d (some v) : Nat) : Int) := by
  show (if v < 0 then max (v + (n : Int)) 0 else min v (n : Int)) = (((if v < 0 then (v + (n : Int)).toNat else min v.toNat n) : Nat) : Int)
  by_cases hv : v < 0
  · simp only [if_pos hv]; omega
  · simp only [if_neg hv]; omega
theorem adjust_gen (lo hi : Option Int) (n : Nat) : Builtin.Slice.sliceAdjust lo hi 1 (n : Int) = (((sIx n 0 lo : Nat) : Int), ((sIx n n hi : Nat) : Int)) := by
  have h1 : ¬ ((1 : Int) < 0) := by omega
  unfold Builtin.Slice.sliceAdjust
  simp only [h1, if_false]
  refine Prod.ext ?_ ?_
  · cases lo with
    | none => rfl
    | some v => exact clip_eq v n 0
  · cases hi with
    | none => rfl
    | some v => exact clip_eq v n n
theorem places_gen (i j : Nat) : Builtin.Slice.slicePlaces (i : Int) (j : Int) 1 = j - i := by
  unfold Builtin.Slice.slicePlaces
  have h1 : (1 : Int) > 0 := by omega
  simp only [h1, if_true, Int.ediv_one]
  split <;> omega
theorem slicePart_ {v : Value} {o : Option Int} {Q : Option Int → Shared → Prop} (p : IsPart v o) (h : Q o s) : wpAny (model prog w) A (Builtin.Slice.slicePartIndex v) Q E s := by
  cases p with
  | none => exact slicePart_none h
  | int i t => exact slicePart_int h
theorem sliceApplied_gen {sl : Addr} {vl vu : Value} {lo hi : Option Int} {n : Nat} {Q : Int × Int × Nat → Shared → Prop} (hs : s.heap.IsSliceOf sl vl vu .none) (pl : IsPart vl lo) (pu : IsPart vu hi)
    (h : Q (((sIx n 0 lo : Nat) : Int), 1, sIx n n hi - sIx n 0 lo) s) : wpAny (model prog w) A (Builtin.Slice.sliceApplied (.ref sl) (pure (n : Int))) Q E s := by
  obtain ⟨os, hos, hcs, hds⟩ := id hs
  unfold Builtin.Slice.sliceApplied Builtin.Slice.sliceFields
  refine wpAny_bind (wpAny_bind (wpAny_field hos hds (x := vl) rfl (wpAny_bind (wpAny_field hos hds (x := vu) rfl (wpAny_bind (wpAny_field hos hds (x := .none) rfl (wpAny_pure ?_)))))))
  refine wpAny_bind (slicePart_none ?_)
  show wpAny _ _ (if ((1 : Int) == 0) = true then _ else _) _ _ s
  rw [if_neg (by decide)]
  refine wpAny_bind (slicePart_ pl (wpAny_bind (slicePart_ pu (wpAny_bind (wpAny_pure ?_)))))
  show wpAny _ _ (match Builtin.Slice.sliceAdjust lo hi 1 (n : Int) with | (lo, hi) => pure (lo, (1 : Int), Builtin.Slice.slicePlaces lo hi 1)) _ _ s
  rw [adjust_gen lo hi n]
  show wpAny _ _ (pure (((sIx n 0 lo : Nat) : Int), (1 : Int), Builtin.Slice.slicePlaces ((sIx n 0 lo : Nat) : Int) ((sIx n n hi : Nat) : Int) 1)) _ _ s
  rw [places_gen]
  exact wpAny_pure h
theorem pick_gen (xs : Array Value) (i k : Nat) : ((List.range k).filterMap fun (m : Nat) => xs[((i : Int) + (m : Int) * 1).toNat]?).toArray = ((xs.toList.drop i).take k).toArray := by
  have e : (fun (m : Nat) => xs[((i : Int) + (m : Int) * 1).toNat]?) = fun m => xs[i + m]? := by
    funext m
    have : ((i : Int) + (m : Int) * 1).toNat = i + m := by omega
    rw [this]
  rw [e]
  have := pick_run xs i k
  rw [List.filterMap_map] at this
  have e2 : ((fun x => xs[x]?) ∘ fun x => i + x) = fun m => xs[i + m]? := rfl
  rw [e2] at this
  rw [this]

theorem getItem_tuple_cut {t sl : Addr} {items : Array Value} {vl vu : Value} {lo hi : Option Int} {Q : Value → Shared → Prop} (ht : IsTup s.heap t items) (hs : s.heap.IsSliceOf sl vl vu .none) (pl : IsPart vl lo) (pu : IsPart vu hi)
    (hw : ¬ (sIx items.size 0 lo = 0 ∧ sIx items.size items.size hi = items.size))
    (h : Q (.ref s.heap.objs.size) { s with heap := s.heap.push { cls := .type "tuple", data := .seq ((items.toList.drop (sIx items.size 0 lo)).take (sIx items.size items.size hi - sIx items.size 0 lo)).toArray } })
    (hsz : items.size ≤ sizeLine) : wpAny (model prog w) A (getItem (.ref t) (.ref sl)) Q E s := by
  have htake : sizeOk (.seq ((items.toList.drop (sIx items.size 0 lo)).take (sIx items.size items.size hi - sIx items.size 0 lo)).toArray) := by
    show ((items.toList.drop (sIx items.size 0 lo)).take (sIx items.size items.size hi - sIx items.size 0 lo)).toArray.size ≤ sizeLine
    rw [List.size_toArray, List.length_take, List.length_drop, Array.length_toList]
    omega
  have hj : sIx items.size items.size hi ≤ items.size := sIx_le _ _ (Nat.le_refl _) hi
  obtain ⟨os, hos, hcs, hds⟩ := id hs
  have hTs : s.TypeIs (.ref sl) "slice" := ⟨os, hos, hcs⟩
  unfold getItem
  try with_reducible refine wpAny_holding ?_
  first | refine wpAny_bind (wpAny_pure ?_) | skip
  refine wpAny_bind (wpAny_sequenceKey ht.typeIs (by decide) ?_)
  refine wpAny_bind (wpAny_callSpecial?_slot (name := Str.ofString "__getitem__") ht.typeIs PyProof.Rows.slot_tuple_getitem
    (wpAny_call_entry PyProof.Rows.slot_tuple_getitem ht.typeIs entry_tuple_getitem ?_ (args_tuple_getitem _ _)))
  show wpAny _ _ (Builtin.Tuple.tupleItemsOf (.ref t) >>= _) _ _ s
  refine wpAny_bind (tupleItemsOf_ ht ?_)
  refine wpAny_bind (wpAny_typeOf hTs ?_)
  rw [if_pos (by decide)]
  refine wpAny_bind (sliceApplied_gen hs pl pu ?_)
  have hno : ¬ ((((sIx items.size 0 lo : Nat) : Int) == 0 && (1 : Int) == 1 && (sIx items.size items.size hi - sIx items.size 0 lo) == items.size) = true) := by
    intro q
    rw [Bool.and_eq_true, Bool.and_eq_true] at q
    have q1 : ((sIx items.size 0 lo : Nat) : Int) = 0 := eq_of_beq q.1.1
    have q2 : sIx items.size items.size hi - sIx items.size 0 lo = items.size := eq_of_beq q.2
    exact hw ⟨by omega, by omega⟩
  show wpAny _ _ (if (((sIx items.size 0 lo : Nat) : Int) == 0 && (1 : Int) == 1 && (sIx items.size items.size hi - sIx items.size 0 lo) == items.size) = true then _ else _) _ _ s
  rw [if_neg hno, pick_gen]
  first
    | exact wpAny_bind (m := Builtin.Tuple.tupleExact _) (wpAny_newObj_type (wpAny_pure ⟨_, rfl, wpAny_pure h⟩) htake)
    | exact wpAny_bind (m := Builtin.Tuple.tupleExact _) (wpAny_newObj_type (wpAny_bind (wpAny_pure (wpAny_pure ⟨_, rfl, wpAny_pure h⟩))) htake)
    | exact wpAny_bind (wpAny_bind (m := Builtin.Tuple.tupleExact _) (wpAny_newObj_type (wpAny_pure (wpAny_pure ⟨_, rfl, wpAny_pure h⟩)) htake))
    | exact wpAny_bind (wpAny_bind (m := Builtin.Tuple.tupleExact _) (wpAny_newObj_type (wpAny_pure ⟨_, rfl, wpAny_pure h⟩) htake))
end
end HT

namespace L2
open PySem PySem.Spec PyProof.Rows

/-! ### the parts of a slice -/
abbrev TO := St → Hp → (Option Int → Hp → Prop) → Prop
/-- a slice's part (left out, or an int) -/
def PO (X : Cx) (e : Option Expr) (t : TO) : Prop :=
  ∀ (pins : List (Addr × Obj)) (s : Shared) (σ : St) (H : Hp) (Q : Option Int → Hp → Prop), Inv X pins σ H s → t σ H Q →
    wpAny (model X.prog X.w) X.A (evalPart e X.env) (fun u s' => ∃ o H', Inv X pins σ H' s' ∧ IsPart u o ∧ Q o H') X.xe s
def tNoPart : TO := fun _ H Q => Q none H
def tPart (t : TE) : TO := fun σ H Q => t σ H fun x H1 => ∃ i, x = .int i ∧ Q (some i) H1

theorem intsAre_of {ns : List Int} : ∀ {us : List Value}, Vals (ns.map V.int) us → IntsAre us ns := by
  induction ns with
  | nil => intro us r; rw [List.map_nil] at r; cases r; exact .nil
  | cons n ns ih =>
    intro us r
    rw [List.map_cons] at r
    cases r with
    | cons r1 r2 =>
      obtain ⟨t, e⟩ := r1
      subst e
      exact .cons n t (ih r2)

section
variable {X : Cx} {e : Expr} {te : TE} {lo hi : Option Expr} {tl th : TO} {pos p2 : Pos}

theorem po_none : PO X none tNoPart := by
  intro pins s σ H Q I h
  rw [evalPart_none]
  exact wpAny_pure ⟨none, H, I, .none, h⟩
theorem po_some (h : PE X e te) : PO X (some e) (tPart te) := by
  intro pins s σ H Q I hw
  rw [evalPart_some]
  refine thn (h pins s σ H _ I hw) fun u s1 ⟨x, H1, I1, r1, q1⟩ => ?_
  obtain ⟨i, rfl, q⟩ := q1
  obtain ⟨t, rfl⟩ := r1
  exact ⟨some i, H1, I1, .int i t, q⟩

/-- what a slice of a value is, by values: the slice object stands at sl -/
def SlR (X : Cx) (r : V → Option Int → Option Int → Hp → VK → Prop) : Prop :=
  ∀ (pins : List (Addr × Obj)) (s : Shared) (σ : St) (H : Hp) (x : V) (v vl vu : Value) (lo hi : Option Int) (sl : Addr) (Q : VK), Inv X pins σ H s → RelV x v → s.heap.IsSliceOf sl vl vu .none → IsPart vl lo → IsPart vu hi → r x lo hi H Q →
    ∃ T id, typeLookup (.type T) "__getitem__" = pure (some (.builtin id)) ∧ s.TypeIs v T ∧ wpAny (model X.prog X.w) X.A (getItem v (.ref sl)) (EP X pins σ Q) X.xe s
theorem SlR.or {r r' : V → Option Int → Option Int → Hp → VK → Prop} (h : SlR X r) (h' : SlR X r') : SlR X (fun x lo hi H Q => r x lo hi H Q ∨ r' x lo hi H Q) := by
  intro pins s σ H x v vl vu lo hi sl Q I rx hs pl pu q
  rcases q with q | q
  · exact h pins s σ H x v vl vu lo hi sl Q I rx hs pl pu q
  · exact h' pins s σ H x v vl vu lo hi sl Q I rx hs pl pu q
def tSl (r : V → Option Int → Option Int → Hp → VK → Prop) (te : TE) (tl th : TO) : TE := fun σ H Q => te σ H fun x H1 => tl σ H1 fun l H2 => th σ H2 fun u H3 => r x l u H3 Q
/-- a[lo:hi], any a -/
theorem pe_slice {r : V → Option Int → Option Int → Hp → VK → Prop} (hr : SlR X r) (he : PE X e te) (hl : PO X lo tl) (hu : PO X hi th) : PE X (.Subscript e (.Slice lo hi none p2) pos) (tSl r te tl th) := by
  intro pins s σ H Q I h
  refine Subscript_ (thn (he pins s σ H _ I h) fun v s1 ⟨x, H1, I1, r1, q1⟩ => ?_)
  refine wpAny_Slice (thn (hl pins s1 σ H1 _ I1 q1) fun vl s2 ⟨l, H2, I2, pl, q2⟩ => thn (hu pins s2 σ H2 _ I2 q2) fun vu s3 ⟨u, H3, I3, pu, q3⟩ => ?_)
  rw [evalPart_none]
  refine wpAny_pure ?_
  have I4 : Inv X pins σ H3 { s3 with heap := s3.heap.push { cls := .type "slice", data := .fields #[vl, vu, .none] } } := I3.kept (t' := s3.toks) fun b ob q => Heap.get?_push_of_some _ q
  obtain ⟨T, id, hT, ht, hg⟩ := hr pins { s3 with heap := s3.heap.push { cls := .type "slice", data := .fields #[vl, vu, .none] } } σ H3 x v vl vu l u s3.heap.objs.size Q I4 r1 (Heap.IsSliceOf.new ..) pl pu q3
  show wpAny (model X.prog X.w) X.A (subscriptTail e (.Slice lo hi none p2) v (.ref s3.heap.objs.size)) (EP X pins σ Q) X.xe { s3 with heap := s3.heap.push { cls := .type "slice", data := .fields #[vl, vu, .none] } }
  exact tail_any (ops := [.ref s3.heap.objs.size, v]) ht hT hg (by with_unfolding_all rfl)

/-- the items of xs[lo:hi] -/
def cutV (xs : List V) (lo hi : Option Int) : List V := (xs.drop (HT.sIx xs.length 0 lo)).take (HT.sIx xs.length xs.length hi - HT.sIx xs.length 0 lo)
theorem cutV_length (xs : List V) (lo hi : Option Int) : (cutV xs lo hi).length ≤ xs.length := by
  unfold cutV
  rw [List.length_take, List.length_drop]
  omega
/-- t[lo:hi], not the whole of it (the whole would be t itself) -/
def rSlT (K : PySem.W.Frag) : V → Option Int → Option Int → Hp → VK → Prop := fun x lo hi H Q => ∃ a xs, x = .ref a ∧ SqT K H a xs ∧
  ¬ (HT.sIx xs.length 0 lo = 0 ∧ HT.sIx xs.length xs.length hi = xs.length) ∧ ∀ p, H p = none → Q (.ref p) (upd H p (.tup (cutV xs lo hi)))
theorem sl_tup : SlR X (rSlT X.K) := by
  intro pins s σ H x v vl vu lo hi sl Q I rx hs pl pu h
  obtain ⟨a, xs, rfl, hx, hw, q⟩ := h
  cases rx
  obtain ⟨its, r, ht, hz⟩ := I.tuple hx
  have hlen : its.toArray.size = xs.length := by rw [List.size_toArray]; exact r.length.symm
  refine ⟨"tuple", _, PyProof.Rows.slot_tuple_getitem.lookup, ht.typeIs, ?_⟩
  refine HT.getItem_tuple_cut ht hs pl pu (by rw [hlen]; exact hw) ?_ (by rw [hlen]; exact hz)
  rw [hlen]
  refine ⟨.ref s.heap.objs.size, _, I.laid (t' := s.toks) (o := .tup (cutV xs lo hi)) (fun b ob q => Heap.get?_push_of_some _ q) (Nat.le_refl _) ?_, rfl, q _ (I.hok.fresh (Nat.le_refl _))⟩
  exact ⟨Nat.le_trans (cutV_length xs lo hi) hz, _, (r.drop (HT.sIx xs.length 0 lo)).take (HT.sIx xs.length xs.length hi - HT.sIx xs.length 0 lo), IsTup.new _ _⟩

/-! ### t < u, t + u -/
def rLtT (K : PySem.W.Frag) : R2 := fun x y H Q => ∃ a b ns ms, x = .ref a ∧ y = .ref b ∧ SqT K H a (ns.map V.int) ∧ SqT K H b (ms.map V.int) ∧ Q (.bl (HT.lexLt ns ms)) H
theorem op_ltT (hu : X.A.units < cLine) : OpR X (compareOp .Lt) (rLtT X.K) := by
  intro pins s σ H x y v u Q I rx ry h
  obtain ⟨a, b, ns, ms, rfl, rfl, ha, hb, q⟩ := h
  cases rx
  cases ry
  obtain ⟨its, r1, p1, _⟩ := I.tuple ha
  obtain ⟨its2, r2, p2, _⟩ := I.tuple hb
  have i1 : IntsAre its.toArray.toList ns := intsAre_of r1
  have i2 : IntsAre its2.toArray.toList ms := intsAre_of r2
  exact HT.lt_tupInts p1 p2 i1 i2 hu ⟨.bl (HT.lexLt ns ms), H, I, rfl, q⟩
/-- t + u, t not empty: u empty gives t itself -/
def rCatT (K : PySem.W.Frag) : R2 := fun x y H Q => ∃ a b xs ys, x = .ref a ∧ y = .ref b ∧ SqT K H a xs ∧ SqT K H b ys ∧ xs ≠ [] ∧ xs.length + ys.length ≤ sizeLine ∧
  (ys = [] → Q (.ref a) H) ∧ (ys ≠ [] → ∀ p, H p = none → Q (.ref p) (upd H p (.tup (xs ++ ys))))
theorem Vals.nil_iff {xs : List V} {us : List Value} (r : Vals xs us) : us = [] ↔ xs = [] := by
  cases r with
  | nil => simp
  | cons _ _ => simp
theorem op_catT : OpR X (binaryOp .Add) (rCatT X.K) := by
  intro pins s σ H x y v u Q I rx ry h
  obtain ⟨a, b, xs, ys, rfl, rfl, ha, hb, hx, hz, q1, q2⟩ := h
  cases rx
  cases ry
  obtain ⟨its, r1, p1, _⟩ := I.tuple ha
  obtain ⟨its2, r2, p2, _⟩ := I.tuple hb
  refine HT.cat_tup p1 p2 (fun z => hx (r1.nil_iff.mp z)) (fun z => ⟨.ref a, H, I, rfl, q1 (r2.nil_iff.mp z)⟩) (fun z => ?_) (by rw [← r1.length, ← r2.length]; exact hz)
  refine ⟨.ref s.heap.objs.size, _, I.laid (t' := s.toks) (o := .tup (xs ++ ys)) (fun b ob q => Heap.get?_push_of_some _ q) (Nat.le_refl _) ?_, rfl, q2 (fun w => z (r2.nil_iff.mpr w)) _ (I.hok.fresh (Nat.le_refl _))⟩
  exact ⟨by rw [List.length_append]; exact hz, _, r1.append r2, IsTup.new _ _⟩
/-- tuple(t) -/
theorem call_tupleT : CallR X (.type "tuple") (fun xs H Q => ∃ a ys, xs = [.ref a] ∧ SqT X.K H a ys ∧ Q (.ref a) H) := by
  intro pins s σ H xs us Q I r h
  obtain ⟨a, ys, rfl, ha, q⟩ := h
  obtain ⟨u, rfl, ru⟩ := vals1 r
  cases ru
  obtain ⟨its, _, p1, _⟩ := I.tuple ha
  exact call_tuple_same (items := its.toArray) p1 ⟨.ref a, H, I, rfl, q⟩
end
end L2

namespace L2
open PySem PySem.Spec PyProof.Rows

/-! ### places -/
/-- the place that an index of any sign means -/
def ixN (n : Nat) (i : Int) : Option Nat := if 0 ≤ i then (if i < n then some i.toNat else none) else if -(n : Int) ≤ i then some (i + n).toNat else none
def atI {α : Type} (xs : List α) (i : Int) : Option α := (ixN xs.length i).bind fun j => xs[j]?
theorem ixN_seq {n : Nat} {i : Int} {j : Nat} (h : ixN n i = some j) : seqIndex? i n = some j ∧ j < n ∧ -(n : Int) ≤ i ∧ i < n := by
  unfold ixN at h
  by_cases h0 : 0 ≤ i
  · rw [if_pos h0] at h
    by_cases h1 : i < n
    · rw [if_pos h1] at h
      have e : i.toNat = j := Option.some.inj h
      exact ⟨by rw [seqIndex_of h0 h1, e], by omega, by omega, h1⟩
    · rw [if_neg h1] at h; cases h
  · rw [if_neg h0] at h
    by_cases h1 : -(n : Int) ≤ i
    · rw [if_pos h1] at h
      have e : (i + n).toNat = j := Option.some.inj h
      exact ⟨by rw [seqIndex_neg (by omega) h1, e], by omega, h1, by omega⟩
    · rw [if_neg h1] at h; cases h
theorem atI_get {α : Type} {xs : List α} {i : Int} {v : α} (h : atI xs i = some v) : ∃ j, seqIndex? i xs.length = some j ∧ xs[j]? = some v ∧ j < xs.length ∧ -(xs.length : Int) ≤ i ∧ i < xs.length := by
  unfold atI at h
  cases e : ixN xs.length i with
  | none => rw [e] at h; cases h
  | some j =>
    rw [e] at h
    obtain ⟨h1, h2, h3, h4⟩ := ixN_seq e
    exact ⟨j, h1, h, h2, h3, h4⟩
theorem atI_nat {α : Type} {xs : List α} {j : Nat} {v : α} (h : xs[j]? = some v) : atI xs (j : Int) = some v := by
  have hj : j < xs.length := (List.getElem?_eq_some_iff.mp h).1
  have e : ixN xs.length (j : Int) = some j := by
    unfold ixN
    rw [if_pos (by omega), if_pos (by omega)]; simp
  unfold atI; rw [e]; exact h
theorem atI_last {α : Type} (xs : List α) (v : α) : atI (xs ++ [v]) (-1) = some v := by
  have hl : (xs ++ [v]).length = xs.length + 1 := by simp
  have e : ixN (xs ++ [v]).length (-1) = some xs.length := by
    unfold ixN
    rw [hl, if_neg (by decide), if_pos (by omega)]
    congr 1
    omega
  unfold atI
  rw [e]
  show (xs ++ [v])[xs.length]? = some v
  simp

/-! ### what may be subscripted -/
/-- what stands as an index of a plain subscript -/
def PlainIx (b : Expr) : Prop := ∀ o i, subscripted b false o i = operate [o, i] (getItem o i)
/-- a subscript by values -/
def IxR (X : Cx) (r : R2) : Prop :=
  ∀ (value slice : Expr) (pins : List (Addr × Obj)) (s : Shared) (σ : St) (H : Hp) (x y : V) (v u : Value) (Q : VK), Inv X pins σ H s → RelV x v → RelV y u → r x y H Q →
    subscripted slice false v u = operate [v, u] (getItem v u) → wpAny (model X.prog X.w) X.A (subscriptTail value slice v u) (EP X pins σ Q) X.xe s
/-- a call of a builtin's method by values: the receiver, the arguments -/
def MtR (X : Cx) (id : String) (r : V → List V → Hp → VK → Prop) : Prop :=
  ∀ (pins : List (Addr × Obj)) (s : Shared) (σ : St) (H : Hp) (x : V) (xs : List V) (v : Value) (us : List Value) (Q : VK), Inv X pins σ H s → RelV x v → Vals xs us → r x xs H Q →
    wpAny (model X.prog X.w) X.A (call (.builtin id) (v :: us)) (EP X pins σ Q) X.xe s
section
variable {X : Cx} {a b : Expr} {ta tb : TE} {pos : Pos}
theorem IxR.or {r r' : R2} (h : IxR X r) (h' : IxR X r') : IxR X (fun x y H Q => r x y H Q ∨ r' x y H Q) := by
  intro value slice pins s σ H x y v u Q I rx ry q hs
  rcases q with q | q
  · exact h value slice pins s σ H x y v u Q I rx ry q hs
  · exact h' value slice pins s σ H x y v u Q I rx ry q hs
theorem MtR.or {id : String} {r r' : V → List V → Hp → VK → Prop} (h : MtR X id r) (h' : MtR X id r') : MtR X id (fun x xs H Q => r x xs H Q ∨ r' x xs H Q) := by
  intro pins s σ H x xs v us Q I rx rs q
  rcases q with q | q
  · exact h pins s σ H x xs v us Q I rx rs q
  · exact h' pins s σ H x xs v us Q I rx rs q
/-- a[b] -/
theorem pe_ix {r : R2} (hr : IxR X r) (ha : PE X a ta) (hb : PE X b tb) (hs : PlainIx b) : PE X (.Subscript a b pos) (tOp r ta tb) := by
  intro pins s σ H Q I h
  exact Subscript_ (binT ha hb I h fun v u s2 x y H2 I2 rx ry q => hr a b pins s2 σ H2 x y v u Q I2 rx ry q (hs _ _))

def rIxL (K : PySem.W.Frag) : R2 := fun x y H Q => ∃ p xs i v, x = .ref p ∧ y = .int i ∧ SqL K H p xs ∧ atI xs i = some v ∧ Q v H
def rIxT (K : PySem.W.Frag) : R2 := fun x y H Q => ∃ p xs i v, x = .ref p ∧ y = .int i ∧ SqT K H p xs ∧ atI xs i = some v ∧ Q v H
def rIxS : R2 := fun x y H Q => ∃ z i c, x = .str z ∧ y = .int i ∧ z.length ≤ sizeLine ∧ atI z.cps.toList i = some c ∧ Q (.str ⟨#[c]⟩) H
theorem ix_list : IxR X (rIxL X.K) := by
  intro value slice pins s σ H x y v u Q I rx ry h hs
  obtain ⟨p, xs, i, z, rfl, rfl, hq, he, q⟩ := h
  cases rx
  obtain ⟨t, rfl⟩ := ry
  obtain ⟨its, r, pl, hz⟩ := I.list hq
  obtain ⟨j, h1, h2, h3, h4, h5⟩ := atI_get he
  obtain ⟨w, ew, rw'⟩ := r.get h2
  have hl := r.length
  have hn := line63
  have fin : EP X pins σ Q w s := ⟨z, H, I, rw', q⟩
  by_cases h0 : 0 ≤ i
  · have hj : i.toNat = j := by
      rw [seqIndex_of h0 h5] at h1
      exact Option.some.inj h1
    exact item_listR pl.isList h0 (by omega) (by rw [hj]; simpa using ew) fin hs
  · have hj : (i + (its.toArray.size : Int)).toNat = j := by
      rw [seqIndex_neg (by omega) h4] at h1
      rw [List.size_toArray, ← hl]
      exact Option.some.inj h1
    exact subscriptTail_builtinR (x := w) pl.isList.typeIs slot_list_getitem.lookup
      (wpAny_getItem_list_neg (Q := fun r s' => r = w ∧ EP X pins σ Q r s') pl.isList (by omega) (by rw [List.size_toArray] <;> omega) (by omega) (by rw [hj]; simpa using ew) ⟨rfl, fin⟩) hs
theorem ix_tup : IxR X (rIxT X.K) := by
  intro value slice pins s σ H x y v u Q I rx ry h hs
  obtain ⟨p, xs, i, z, rfl, rfl, hq, he, q⟩ := h
  cases rx
  obtain ⟨t, rfl⟩ := ry
  obtain ⟨its, r, pl, hz⟩ := I.tuple hq
  obtain ⟨j, h1, h2, h3, h4, h5⟩ := atI_get he
  obtain ⟨w, ew, rw'⟩ := r.get h2
  have hl := r.length
  have hn := line63
  have fin : EP X pins σ Q w s := ⟨z, H, I, rw', q⟩
  exact subscriptTail_builtinR (x := w) pl.typeIs slot_tuple_getitem.lookup
    (getItem_tuple (j := j) (Q := fun r s' => r = w ∧ EP X pins σ Q r s') pl (by omega) (by omega) (by rw [List.size_toArray, ← hl]; exact h1) (by simpa using ew) ⟨rfl, fin⟩) hs
theorem ix_str : IxR X rIxS := by
  intro value slice pins s σ H x y v u Q I rx ry h hs
  obtain ⟨z, i, c, rfl, rfl, hz, he, q⟩ := h
  obtain ⟨t, rfl⟩ := rx
  obtain ⟨t', rfl⟩ := ry
  obtain ⟨j, h1, h2, h3, h4, h5⟩ := atI_get he
  have hl : z.cps.toList.length = z.length := by simp [Str.length]
  rw [hl] at h1 h4 h5
  have hn := line63
  exact tail_any (typeIs_str s z t) slot_str_getitem.lookup (getItem_str (c := c) (by
    have e1 : decide (i < -(2 ^ 63 : Int)) = false := decide_eq_false (by omega)
    have e2 : decide (i ≥ 2 ^ 63) = false := decide_eq_false (by omega)
    rw [e1, e2, Bool.or_false]) (by rw [h1]; simpa using h2) ⟨.str ⟨#[c]⟩, H, I.tok _, ⟨_, rfl⟩, q⟩) hs
/-- list, tuple or str -/
def rIx (K : PySem.W.Frag) : R2 := fun x y H Q => rIxL K x y H Q ∨ rIxT K x y H Q ∨ rIxS x y H Q
theorem ix_seq : IxR X (rIx X.K) := ix_list.or (ix_tup.or ix_str)

/-! ### xs[i] = v, any sign -/
/-- the list's object behind a store -/
theorem mapSeq_set (its : List Value) (n j : Nat) (u : Value) : Obj.mapSeq (·.setIfInBounds j u) { cls := .type "list", data := .seq its.toArray n } = { cls := .type "list", data := .seq (its.set j u).toArray n } := by
  simp [Obj.mapSeq]
theorem Inv.lst {pins : List (Addr × Obj)} {σ : St} {H : Hp} {s : Shared} {p : Addr} {xs : List V} (I : Inv X pins σ H s) (h : H p = some (.lst xs)) :
    ∃ (its : List Value) (n : Nat), Vals xs its ∧ s.heap.get? p = some { cls := .type "list", data := .seq its.toArray n } ∧ xs.length ≤ sizeLine := by
  obtain ⟨z, its, n, r, e⟩ := I.hok p _ h
  exact ⟨its, n, r, e, z⟩
/-- the list at p is written by an update of its object -/
theorem Inv.lstUpd {pins : List (Addr × Obj)} {σ : St} {H : Hp} {s : Shared} {p : Addr} {xs ys : List V} {its its' : List Value} {n n' : Nat} {f : Obj → Obj} (I : Inv X pins σ H s) (h : H p = some (.lst xs))
    (ho : s.heap.get? p = some { cls := .type "list", data := .seq its.toArray n }) (hf : f { cls := .type "list", data := .seq its.toArray n } = { cls := .type "list", data := .seq its'.toArray n' }) (r : Vals ys its') (hz : ys.length ≤ sizeLine) (t : Nat) :
    Inv X pins σ (upd H p (.lst ys)) { s with heap := s.heap.update p f, toks := t } := by
  have e : (s.heap.update p f).get? p = some { cls := .type "list", data := .seq its'.toArray n' } := by
    rw [Heap.get?_update_self f ho (by rw [hf] <;> rfl), hf]
  refine I.write (x := p) (e := p) (by rw [h]; trivial) (.inl rfl) (fun b u hb q => (Heap.get?_update_other _ _ (Ne.symm hb)).trans q) ⟨_, e⟩ ?_
  exact ⟨hz, its', n', r, e⟩
def rSetL : V → V → V → Hp → (Hp → Prop) → Prop := fun o i v H Q => ∃ p xs k j, o = .ref p ∧ i = .int k ∧ H p = some (.lst xs) ∧ ixN xs.length k = some j ∧ Q (upd H p (.lst (xs.set j v)))
theorem set_list : PSet X rSetL := by
  intro pins s σ H o i v ov iv u Q I ro ri rv h
  obtain ⟨p, xs, k, j, rfl, rfl, hp, hj, q⟩ := h
  cases ro
  obtain ⟨t, rfl⟩ := ri
  obtain ⟨its, n, r, ho, hz⟩ := I.lst hp
  obtain ⟨h1, h2, h3, h4⟩ := ixN_seq hj
  have hl := r.length
  have hn := line63
  have I' : Inv X pins σ (upd H p (.lst (xs.set j v))) { s with heap := s.heap.update p (Obj.mapSeq (·.setIfInBounds j u)) } :=
    I.lstUpd hp ho (mapSeq_set its n j u) (r.set rv j) (by rw [List.length_set]; exact hz) s.toks
  by_cases h0 : 0 ≤ k
  · have hk : k.toNat = j := by
      rw [seqIndex_of h0 h4] at h1
      exact Option.some.inj h1
    exact PySem.W.ki_setAt ho h0 (by omega) (by rw [List.size_toArray, ← hl]; exact h4) (by rw [hk]; exact ⟨_, I', q⟩)
  · have hk : (k + (its.toArray.size : Int)).toNat = j := by
      rw [seqIndex_neg (by omega) h3] at h1
      rw [List.size_toArray, ← hl]
      exact Option.some.inj h1
    exact PySem.W.ki_setBack ho (by omega) (by rw [List.size_toArray, ← hl]; exact h3) (by omega) (by rw [hk]; exact ⟨_, I', q⟩)

/-! ### slices -/
theorem slice_bounds (lo hi : Option Int) (n : Nat) : (sliceBounds lo hi none n).1 = ((HT.sIx n 0 lo : Nat) : Int) ∧ (sliceBounds lo hi none n).2.1 = ((HT.sIx n n hi : Nat) : Int) ∧ (sliceBounds lo hi none n).2.2 = 1 := by
  refine ⟨?_, ?_, rfl⟩
  · cases lo with
    | none => simp [sliceBounds, HT.sIx]
    | some i =>
      simp only [sliceBounds, HT.sIx, Option.getD_none, show (1 : Int) > 0 by decide, if_true]
      by_cases h : i < 0
      · simp only [h, if_true] <;> omega
      · simp only [h, if_false] <;> omega
  · cases hi with
    | none => simp [sliceBounds, HT.sIx]
    | some i =>
      simp only [sliceBounds, HT.sIx, Option.getD_none, show (1 : Int) > 0 by decide, if_true]
      by_cases h : i < 0
      · simp only [h, if_true] <;> omega
      · simp only [h, if_false] <;> omega
theorem slicePick_cut (its : List Value) (lo hi : Option Int) : slicePick its.toArray lo hi none = ((its.drop (HT.sIx its.length 0 lo)).take (HT.sIx its.length its.length hi - HT.sIx its.length 0 lo)).toArray := by
  obtain ⟨h1, h2, h3⟩ := slice_bounds lo hi its.toArray.size
  unfold slicePick
  rw [h1, h2, h3]
  simp only [sliceRange_one, pick_run, List.size_toArray] <;> rfl
/-- xs[lo:hi] of a list: a new list -/
def rSlL (K : PySem.W.Frag) : V → Option Int → Option Int → Hp → VK → Prop := fun x lo hi H Q => ∃ a xs, x = .ref a ∧ SqL K H a xs ∧ ∀ p, H p = none → Q (.ref p) (upd H p (.lst (cutV xs lo hi)))
theorem sl_list : SlR X (rSlL X.K) := by
  intro pins s σ H x v vl vu lo hi sl Q I rx hs pl pu h
  obtain ⟨a, xs, rfl, hx, q⟩ := h
  cases rx
  obtain ⟨its, r, ht, hz⟩ := I.list hx
  have hlen := r.length
  refine ⟨"list", _, slot_list_getitem.lookup, ht.isList.typeIs, ?_⟩
  refine wpAny_getItem_list_slice ht.isList hs pl pu .none (by simp) ?_ (by rw [List.size_toArray] <;> omega)
  rw [slicePick_cut, ← hlen]
  refine ⟨.ref s.heap.objs.size, _, I.laid (t' := s.toks) (o := .lst (cutV xs lo hi)) (fun b ob q => Heap.get?_push_of_some _ q) (Nat.le_refl _) ?_, rfl, q _ (I.hok.fresh (Nat.le_refl _))⟩
  exact ⟨Nat.le_trans (cutV_length xs lo hi) hz, _, 0, (r.drop (HT.sIx xs.length 0 lo)).take (HT.sIx xs.length xs.length hi - HT.sIx xs.length 0 lo), Heap.get?_push_size _ rfl⟩

/-! ### in, not in: flat items -/
def flatV : V → Bool
  | .non => true
  | .bl _ => true
  | .int _ => true
  | .str _ => true
  | _ => false
/-- == of flat values -/
def eqV : V → V → Bool
  | .non, .non => true
  | .bl a, .bl b => a == b
  | .bl a, .int b => (if a then 1 else 0) == b
  | .int a, .bl b => a == (if b then 1 else 0)
  | .int a, .int b => a == b
  | .str a, .str b => a == b
  | _, _ => false
theorem eqAt_V {A : Around} {s : Shared} {y x : V} {u v : Value} (ry : RelV y u) (rx : RelV x v) (fy : flatV y = true) (fx : flatV x = true) : SeqAt.EqAt A s u v (eqV y x) := by
  cases y with
  | non =>
    cases ry
    cases x with
    | non => cases rx; exact SeqAt.EqAt.same _
    | bl b => cases rx; exact SeqAt.EqAt.none_bool b
    | int b => obtain ⟨t, rfl⟩ := rx; exact SeqAt.EqAt.none_int b t
    | str b => obtain ⟨t, rfl⟩ := rx; exact SeqAt.EqAt.none_str b t
    | _ => exact absurd (show false = true from fx) Bool.false_ne_true
  | bl a =>
    cases ry
    cases x with
    | non => cases rx; exact SeqAt.EqAt.bool_none a
    | bl b => cases rx; exact SeqAt.EqAt.bool_bool a b
    | int b => obtain ⟨t, rfl⟩ := rx; exact SeqAt.EqAt.bool_int a b t
    | str b => obtain ⟨t, rfl⟩ := rx; exact SeqAt.EqAt.bool_str a b t
    | _ => exact absurd (show false = true from fx) Bool.false_ne_true
  | int a =>
    obtain ⟨t', rfl⟩ := ry
    cases x with
    | non => cases rx; exact SeqAt.EqAt.int_none a t'
    | bl b => cases rx; exact SeqAt.EqAt.int_bool a t' b
    | int b => obtain ⟨t, rfl⟩ := rx; exact SeqAt.EqAt.int_int a t' b t
    | str b => obtain ⟨t, rfl⟩ := rx; exact SeqAt.EqAt.int_str a t' b t
    | _ => exact absurd (show false = true from fx) Bool.false_ne_true
  | str a =>
    obtain ⟨t', rfl⟩ := ry
    cases x with
    | non => cases rx; exact SeqAt.EqAt.str_none a t'
    | bl b => cases rx; exact SeqAt.EqAt.str_bool a t' b
    | int b => obtain ⟨t, rfl⟩ := rx; exact SeqAt.EqAt.str_int a t' b t
    | str b => obtain ⟨t, rfl⟩ := rx; exact SeqAt.EqAt.str_str a t' b t
    | _ => exact absurd (show false = true from fx) Bool.false_ne_true
  | _ => exact absurd (show false = true from fy) Bool.false_ne_true
/-- the items' answers, read off the values (a value's own answer does not lean on its token) -/
def eqU (x : V) (u : Value) : Bool := match u with
  | .none => eqV .non x
  | .bool b => eqV (.bl b) x
  | .int i _ => eqV (.int i) x
  | .str z _ => eqV (.str z) x
  | _ => false
theorem eqU_of {x y : V} {u : Value} (r : RelV y u) (f : flatV y = true) : eqU x u = eqV y x := by
  cases y with
  | non => cases r; rfl
  | bl b => cases r; rfl
  | int i => obtain ⟨t, rfl⟩ := r; rfl
  | str z => obtain ⟨t, rfl⟩ := r; rfl
  | _ => exact absurd (show false = true from f) Bool.false_ne_true
theorem any_eqU {x : V} : ∀ {xs : List V} {us : List Value}, Vals xs us → xs.all flatV = true → us.any (eqU x) = xs.any fun y => eqV y x
  | _, _, .nil, _ => rfl
  | y :: xs, u :: us, .cons r t, f => by
    rw [List.all_cons, Bool.and_eq_true] at f
    rw [List.any_cons, List.any_cons, eqU_of r f.1, any_eqU t f.2]
theorem mem_eqAt {A : Around} {s : Shared} {x : V} {v : Value} (rx : RelV x v) (fx : flatV x = true) : ∀ {xs : List V} {us : List Value}, Vals xs us → xs.all flatV = true → ∀ u ∈ us, SeqAt.EqAt A s u v (eqU x u)
  | _, _, .nil, _ => fun u hu => by cases hu
  | y :: xs, u :: us, .cons r t, f => fun u' hu => by
    rw [List.all_cons, Bool.and_eq_true] at f
    rcases List.mem_cons.mp hu with rfl | hu
    · rw [eqU_of r f.1]; exact eqAt_V r rx f.1 fx
    · exact mem_eqAt rx fx t f.2 u' hu
def inV (x : V) (xs : List V) : Bool := xs.any fun y => eqV y x
/-- x in a list or tuple of flat items -/
def rIn (K : PySem.W.Frag) (neg : Bool) : R2 := fun x y H Q => ∃ p xs, y = .ref p ∧ (SqL K H p xs ∨ SqT K H p xs) ∧ flatV x = true ∧ xs.all flatV = true ∧ Q (.bl (if neg then !inV x xs else inV x xs)) H
theorem op_in_seq : OpR X (compareOp .In) (rIn X.K false) := by
  intro pins s σ H x y v u Q I rx ry h
  obtain ⟨p, xs, rfl, hq, fx, fs, q⟩ := h
  cases ry
  rcases hq with hq | hq
  · obtain ⟨its, r, pl, hz⟩ := I.list hq
    refine SeqAt.in_listAt (eqU x) pl.isList (fun w hw => mem_eqAt rx fx r fs w (by simpa using hw)) ⟨.bl _, H, I, rfl, ?_⟩
    rw [show its.toArray.any (eqU x) = its.any (eqU x) by simp, any_eqU r fs]
    exact q
  · obtain ⟨its, r, pl, hz⟩ := I.tuple hq
    refine SeqAt.in_tupleAt (eqU x) pl (fun w hw => mem_eqAt rx fx r fs w (by simpa using hw)) ⟨.bl _, H, I, rfl, ?_⟩
    rw [show its.toArray.any (eqU x) = its.any (eqU x) by simp, any_eqU r fs]
    exact q
theorem op_notIn_seq : OpR X (compareOp .NotIn) (rIn X.K true) := by
  intro pins s σ H x y v u Q I rx ry h
  obtain ⟨p, xs, rfl, hq, fx, fs, q⟩ := h
  cases ry
  rcases hq with hq | hq
  · obtain ⟨its, r, pl, hz⟩ := I.list hq
    refine SeqAt.notIn_listAt (eqU x) pl.isList (fun w hw => mem_eqAt rx fx r fs w (by simpa using hw)) ⟨.bl _, H, I, rfl, ?_⟩
    rw [show its.toArray.any (eqU x) = its.any (eqU x) by simp, any_eqU r fs]
    exact q
  · obtain ⟨its, r, pl, hz⟩ := I.tuple hq
    refine SeqAt.notIn_tupleAt (eqU x) pl (fun w hw => mem_eqAt rx fx r fs w (by simpa using hw)) ⟨.bl _, H, I, rfl, ?_⟩
    rw [show its.toArray.any (eqU x) = its.any (eqU x) by simp, any_eqU r fs]
    exact q
theorem op_notIn_str : OpR X (compareOp .NotIn) (fun x y H Q => ∃ i j, x = .str i ∧ y = .str j ∧ Q (.bl (!(!(Builtin.Str.occurrences j i 0 j.length 1).isEmpty))) H) := by
  intro pins s σ H x y v u Q I rx ry h
  obtain ⟨i, j, rfl, rfl, q⟩ := h
  obtain ⟨t, rfl⟩ := rx
  obtain ⟨t', rfl⟩ := ry
  exact notIn_str ⟨.bl _, H, I, rfl, q⟩

/-! ### len, list(x), tuple(x) of any list or tuple that is read -/
theorem call_len_seq : CallR X (.builtin "len") (fun xs H Q => ∃ p ys, xs = [.ref p] ∧ (SqL X.K H p ys ∨ SqT X.K H p ys) ∧ Q (.int ys.length) H) := by
  intro pins s σ H xs us Q I r h
  obtain ⟨p, ys, rfl, hq, q⟩ := h
  obtain ⟨u, rfl, rx⟩ := vals1 r
  cases rx
  have hn := line63
  rcases hq with hq | hq
  · obtain ⟨its, r', pl, hz⟩ := I.list hq
    have hlen := r'.length
    exact Calls.call_len_list pl.isList (by simp only [List.size_toArray] <;> omega) ⟨.int ys.length, H, I.tok _, ⟨s.toks + 1, by rw [List.size_toArray, hlen]⟩, q⟩
  · obtain ⟨its, r', pl, hz⟩ := I.tuple hq
    have hlen := r'.length
    exact len_tuple pl (by simp only [List.size_toArray] <;> omega) ⟨.int ys.length, H, I.tok _, ⟨s.toks + 1, by rw [List.size_toArray, hlen]⟩, q⟩
theorem call_len_str : CallR X (.builtin "len") (fun xs H Q => ∃ z, xs = [.str z] ∧ z.length ≤ sizeLine ∧ Q (.int z.length) H) := by
  intro pins s σ H xs us Q I r h
  obtain ⟨z, rfl, hz, q⟩ := h
  obtain ⟨u, rfl, t, rfl⟩ := vals1 r
  have hn := line63
  exact len_str (by omega) ⟨.int z.length, H, I.tok _, ⟨_, rfl⟩, q⟩
theorem CallR.or {f : Value} {r r' : List V → Hp → VK → Prop} (h : CallR X f r) (h' : CallR X f r') : CallR X f (fun xs H Q => r xs H Q ∨ r' xs H Q) := by
  intro pins s σ H xs us Q I rs q
  rcases q with q | q
  · exact h pins s σ H xs us Q I rs q
  · exact h' pins s σ H xs us Q I rs q
theorem call_list_of : CallR X (.type "list") (fun xs H Q => ∃ p ys, xs = [.ref p] ∧ (SqL X.K H p ys ∨ SqT X.K H p ys) ∧ ∀ l, H l = none → Q (.ref l) (upd H l (.lst ys))) := by
  intro pins s σ H xs us Q I r h
  obtain ⟨p, ys, rfl, hq, q⟩ := h
  obtain ⟨u, rfl, rx⟩ := vals1 r
  cases rx
  have fin : ∀ (its : List Value), Vals ys its → ys.length ≤ sizeLine → ∀ (h' : Heap) (c' : Nat), (∀ b o', s.heap.get? b = some o' → h'.get? b = some o') →
      h'.get? s.heap.objs.size = some { cls := .type "list", dict := none, data := .seq its.toArray c', slots := #[] } → EP X pins σ Q (.ref s.heap.objs.size) { s with heap := h' } := fun its r' hz h' c' kp e =>
    ⟨.ref s.heap.objs.size, _, I.laid (t' := s.toks) kp (Nat.le_refl _) (show ObjOk X.prog X.w _ h' _ (.lst ys) from ⟨hz, its, c', r', e⟩), rfl, q _ (I.hok.fresh (Nat.le_refl _))⟩
  rcases hq with hq | hq
  · obtain ⟨its, r', pl, hz⟩ := I.list hq
    have hlen := r'.length
    obtain ⟨o, ho, hc, n, hd⟩ := pl.isList
    exact call_list_seq p (.inl rfl) ho hc hd (fun h' c' kp e => fin its r' hz h' c' kp e) (by simp only [List.size_toArray] <;> omega)
  · obtain ⟨its, r', pl, hz⟩ := I.tuple hq
    have hlen := r'.length
    obtain ⟨o, ho, hc, n, hd⟩ := pl
    exact call_list_seq p (.inr rfl) ho hc hd (fun h' c' kp e => fin its r' hz h' c' kp e) (by simp only [List.size_toArray] <;> omega)
theorem call_tuple_of : CallR X (.type "tuple") (fun xs H Q => ∃ p ys, xs = [.ref p] ∧ ((SqL X.K H p ys ∧ ∀ l, H l = none → Q (.ref l) (upd H l (.tup ys))) ∨ (SqT X.K H p ys ∧ Q (.ref p) H))) := by
  intro pins s σ H xs us Q I r h
  obtain ⟨p, ys, rfl, h⟩ := h
  obtain ⟨u, rfl, rx⟩ := vals1 r
  cases rx
  rcases h with ⟨hq, q⟩ | ⟨hq, q⟩
  · obtain ⟨its, r', pl, hz⟩ := I.list hq
    have hlen := r'.length
    refine call_tuple_list pl.isList (fun h' kp => ?_) (by simp only [List.size_toArray] <;> omega)
    have I1 : Inv X pins σ H { s with heap := h' } := I.kept (t' := s.toks) kp
    have I2 : Inv X pins σ (upd H h'.objs.size (.tup ys)) { s with heap := h'.push { cls := .type "tuple", data := .seq its.toArray } } :=
      I1.laid (t' := s.toks) (fun b o e => Heap.get?_push_of_some _ e) (Nat.le_refl _) (show ObjOk X.prog X.w _ _ _ (.tup ys) from ⟨hz, its, r', IsTup.new _ _⟩)
    exact ⟨.ref h'.objs.size, _, I2, rfl, q _ (I1.hok.fresh (Nat.le_refl _))⟩
  · obtain ⟨its, r', pl, hz⟩ := I.tuple hq
    exact call_tuple_same pl ⟨.ref p, H, I, rfl, q⟩

/-! ### the call of a builtin's method: o.m(..) -/
/-- the value is of that builtin type -/
def tyV (K : PySem.W.Frag) (T : String) (x : V) (H : Hp) : Prop := match x with
  | .str _ => T = "str"
  | .int _ => T = "int"
  | .ref p => (T = "list" ∧ ∃ xs, SqL K H p xs) ∨ (T = "tuple" ∧ ∃ o, K.lookup p = some o ∧ o.cls = .type "tuple" ∧ o.dict = none) ∨
      (T = "dict" ∧ ((∃ kvs, H p = some (.dK kvs)) ∨ ∃ kvs, H p = some (.dT kvs))) ∨ (T = "set" ∧ ∃ S n, H p = some (.set S n))
  | _ => False
theorem tyV_is {pins : List (Addr × Obj)} {σ : St} {H : Hp} {s : Shared} {T : String} {x : V} {v : Value} (I : Inv X pins σ H s) (r : RelV x v) (ty : tyV X.K T x H) :
    s.TypeIs v T ∧ ∀ a, v = .ref a → ∃ ob, s.heap.get? a = some ob ∧ ob.dict = none := by
  cases x with
  | str z =>
    obtain ⟨t, rfl⟩ := r
    cases (show T = "str" from ty)
    exact ⟨typeIs_str s z t, fun _ e => nomatch e⟩
  | int i =>
    obtain ⟨t, rfl⟩ := r
    cases (show T = "int" from ty)
    exact ⟨typeIs_int s i t, fun _ e => nomatch e⟩
  | ref p =>
    cases r
    rcases ty with ⟨rfl, xs, hq⟩ | ⟨rfl, o, hk, hc, hd⟩ | ⟨rfl, hk⟩ | ⟨rfl, S, n, hk⟩
    · obtain ⟨its, _, pl, _⟩ := I.list hq
      refine ⟨pl.isList.typeIs, fun a e => ?_⟩
      cases e
      obtain ⟨o, n, e, c, hd, _⟩ := pl
      exact ⟨o, e, hd⟩
    · refine ⟨⟨o, I.kIn p o hk, hc⟩, fun a e => ?_⟩
      cases e
      exact ⟨o, I.kIn _ o hk, hd⟩
    · have z : ∃ o, s.heap.get? p = some o ∧ o.ExactDict := by
        rcases hk with ⟨kvs, hk⟩ | ⟨kvs, hk⟩
        · obtain ⟨_, _, _, _, o, _, _, e, ex, _⟩ := I.hok p _ hk
          exact ⟨o, e, ex⟩
        · obtain ⟨_, _, _, _, o, _, _, e, ex, _⟩ := I.hok p _ hk
          exact ⟨o, e, ex⟩
      obtain ⟨o, e, ex⟩ := z
      refine ⟨⟨o, e, ex.1⟩, fun a e2 => ?_⟩
      cases e2
      exact ⟨o, e, ex.2.1⟩
    · obtain ⟨o, _, _, _, e, ex, _⟩ := I.hok p _ hk
      refine ⟨⟨o, e, ex.1⟩, fun a e2 => ?_⟩
      cases e2
      exact ⟨o, e, ex.2.1⟩
  | _ => exact False.elim ty
def tBM0 (K : PySem.W.Frag) (T : String) (r : V → List V → Hp → VK → Prop) (to : TE) : TE := fun σ H Q => to σ H fun x H1 => tyV K T x H1 ∧ r x [] H1 Q
def tBM (K : PySem.W.Frag) (T : String) (r : V → List V → Hp → VK → Prop) (to : TE) (t : TA) : TE := fun σ H Q => to σ H fun x H1 => tyV K T x H1 ∧ t σ H1 fun xs H2 => r x xs H2 Q
variable {o e : Expr} {es : List Expr} {to : TE} {t : TA} {name : Str} {apos cpos : Pos} {T id : String} {r : V → List V → Hp → VK → Prop}
theorem pe_bm0 (pa : PlainAttrs T) (slot : Slot T name id) (hty : typeOf (.builtin id) = pure (.type "method_descriptor")) (hm : MtR X id r) (ho : PE X o to)
    (hbase : attributeBase o name X.env (eval o X.env) = eval o X.env := by rfl) (hline : (apos.endLine == cpos.line) = true := by rfl) : PE X (.Call (.Attribute o name apos) [] [] cpos) (tBM0 X.K T r to) := by
  intro pins s σ H Q I h
  refine wpAny_Call_method0_late hbase hline (thn (ho pins s σ H _ I h) fun v s1 ⟨x, H1, I1, r1, ty, q1⟩ => ?_)
  obtain ⟨h1, h2⟩ := tyV_is I1 r1 ty
  exact ⟨T, id, pa, slot, hty, h1, h2, Calls.callWith_builtin rfl (PySem.evalArgs_none (hm pins s1 σ H1 x [] v [] Q I1 r1 .nil q1))⟩
theorem pe_bm (pa : PlainAttrs T) (slot : Slot T name id) (hty : typeOf (.builtin id) = pure (.type "method_descriptor")) (hm : MtR X id r) (ho : PE X o to) (ha : PA X (e :: es) t)
    (hbase : attributeBase o name X.env (eval o X.env) = eval o X.env := by rfl)
    (hfew : ((backTo cpos (starEach (e :: es) X.env)).all (fun x => !x.1) && (backToKw cpos (keywordEach [] X.env)).all (fun x => x.1.isSome)
      && decide ((e :: es).length + ([] : List Keyword).length + (if ([] : List Keyword).isEmpty then 0 else 1) < 30)) = true := by rfl)
    (hline : (apos.endLine == cpos.line) = true := by rfl) (hs : starEach (e :: es) X.env = (false, eval e X.env) :: starEach es X.env := by rfl) (hplain : (backTo cpos (starEach es X.env)).any (·.1) = false := by rfl) :
    PE X (.Call (.Attribute o name apos) (e :: es) [] cpos) (tBM X.K T r to t) := by
  intro pins s σ H Q I h
  refine wpAny_Call_method_late hbase hfew hline rfl (thn (ho pins s σ H _ I h) fun v s1 ⟨x, H1, I1, r1, ty, q1⟩ => ?_)
  obtain ⟨h1, h2⟩ := tyV_is I1 r1 ty
  refine ⟨T, id, pa, slot, hty, h1, h2, ?_⟩
  have hA := ha cpos pins s1 σ H1 _ I1 q1
  rw [hs] at hA ⊢
  refine Calls.callWith_builtin (by show (false || (backTo cpos (starEach es X.env)).any (·.1)) = false; rw [hplain] <;> rfl) (Calls.evalArgs_plain ?_)
  exact thn hA fun us s2 ⟨vs, H2, I2, r2, q2⟩ => hm pins s2 σ H2 x vs v us Q I2 r1 r2 q2
/- xs.append(e), list.index on a module's tuple .. are MtR facts of 06m -/
end
end L2

namespace L2
open PySem PySem.Spec PyProof.Rows

def MtM (X : Cx) (id : String) (r : V → List V → Hp → VK → Prop) : Prop :=
  ∀ (pins : List (Addr × Obj)) (s : Shared) (σ : St) (H : Hp) (x : V) (xs : List V) (v : Value) (us : List Value) (Q : VK), Inv X pins σ H s → RelV x v → Vals xs us → r x xs H Q →
    wpAny (model X.prog X.w) X.A (call (.builtin id) (v :: us)) (EP X pins σ Q) X.xe s

/-! ### lists of values -/
theorem Vals.one : ∀ {x : V} {us : List Value}, Vals [x] us → ∃ u, us = [u] ∧ RelV x u
  | _, _, .cons r .nil => ⟨_, rfl, r⟩
theorem Vals.two : ∀ {x y : V} {us : List Value}, Vals [x, y] us → ∃ u v, us = [u, v] ∧ RelV x u ∧ RelV y v
  | _, _, _, .cons r (.cons q .nil) => ⟨_, _, rfl, r, q⟩
theorem Vals.zero : ∀ {us : List Value}, Vals [] us → us = []
  | _, .nil => rfl
theorem Vals.dropLast {xs : List V} {us : List Value} (h : Vals xs us) : Vals xs.dropLast us.dropLast := by
  induction h with
  | nil => exact .nil
  | cons r t ih =>
    cases t with
    | nil => exact .nil
    | cons q t' => exact .cons r ih
theorem Vals.eraseIdx : ∀ {xs : List V} {us : List Value} (i : Nat), Vals xs us → Vals (xs.eraseIdx i) (us.eraseIdx i)
  | _, _, _, .nil => .nil
  | _, _, 0, .cons _ t => t
  | _, _, i + 1, .cons r t => .cons r (Vals.eraseIdx i t)
theorem Vals.reverse {xs : List V} {us : List Value} (h : Vals xs us) : Vals xs.reverse us.reverse := by
  induction h with
  | nil => exact .nil
  | cons r t ih => rw [List.reverse_cons, List.reverse_cons]; exact Vals.append ih (.cons r .nil)
theorem Vals.rep {xs : List V} {us : List Value} (h : Vals xs us) : ∀ k : Nat, Vals (List.replicate k xs).flatten (List.replicate k us).flatten
  | 0 => .nil
  | k + 1 => by
    rw [List.replicate_succ, List.replicate_succ, List.flatten_cons, List.flatten_cons]
    exact Vals.append h (Vals.rep h k)
theorem erase_last {α : Type} (l : List α) : l.eraseIdx (l.length - 1) = l.dropLast := by
  induction l with
  | nil => rfl
  | cons a r ih =>
    cases r with
    | nil => rfl
    | cons b r =>
      have e : (a :: b :: r).length - 1 = ((b :: r).length - 1) + 1 := by
        have h1 : (a :: b :: r).length = r.length + 2 := rfl
        have h2 : (b :: r).length = r.length + 1 := rfl
        omega
      rw [e, List.eraseIdx_cons_succ, ih]
      all_goals rfl
theorem len_erase {α : Type} : ∀ (l : List α) (i : Nat), (l.eraseIdx i).length ≤ l.length
  | [], _ => Nat.le_refl _
  | _ :: _, 0 => Nat.le_succ _
  | _ :: r, i + 1 => Nat.succ_le_succ (len_erase r i)
theorem foldl_rep (its : List Value) : ∀ (k : Nat) (acc : List Value),
    List.foldl (fun x1 x2 => x1 ++ x2) acc.toArray (List.replicate k its.toArray) = (acc ++ (List.replicate k its).flatten).toArray
  | 0, acc => by simp
  | k + 1, acc => by
    have e : acc.toArray ++ its.toArray = (acc ++ its).toArray := by simp
    have e2 : (acc ++ its) ++ (List.replicate k its).flatten = acc ++ (List.replicate (k + 1) its).flatten := by
      rw [List.replicate_succ, List.flatten_cons, List.append_assoc]
    rw [← e2, ← foldl_rep its k (acc ++ its), ← e, List.replicate_succ, List.foldl_cons]

section
variable {X : Cx} {pins : List (Addr × Obj)} {σ : St} {H : Hp} {s : Shared} {l b : Addr} {xs ys zs : List V}

/-! ### the two steps: a tracked list is rewritten, a new list is laid -/
theorem Inv.lset {its its' : List Value} {n : Nat} {f : Array Value → Array Value} {t' : Nat} (I : Inv X pins σ H s) (hH : H l = some (.lst xs))
    (e : s.heap.get? l = some { cls := .type "list", data := .seq its.toArray n }) (hf : f its.toArray = its'.toArray) (hv : Vals ys its') (hz : ys.length ≤ sizeLine) :
    Inv X pins σ (upd H l (.lst ys)) { s with heap := s.heap.update l (Obj.mapSeq f), toks := t' } := by
  have q := PySem.IsL.update e f
  rw [hf] at q
  refine I.write (x := l) (e := l) (by rw [hH]; exact trivial) (.inl rfl) (fun b' u hb hu => (Heap.get?_update_other s.heap (Obj.mapSeq f) (Ne.symm hb)).trans hu) ⟨_, q⟩ ?_
  exact ⟨hz, its', _, hv, q⟩
theorem Inv.lnew {its : List Value} {t' : Nat} (I : Inv X pins σ H s) (hv : Vals ys its) (hz : ys.length ≤ sizeLine) :
    Inv X pins σ (upd H s.heap.objs.size (.lst ys)) { s with heap := s.heap.push { cls := .type "list", data := .seq its.toArray }, toks := t' } :=
  I.laid (fun _ _ q => Heap.get?_push_of_some _ q) (Nat.le_refl _) ⟨hz, its, 0, hv, Heap.get?_push_size _ rfl⟩
theorem Inv.fresh (I : Inv X pins σ H s) : H s.heap.objs.size = none := I.hok.fresh (Nat.le_refl _)
theorem Inv.lstM (I : Inv X pins σ H s) (hH : H l = some (.lst xs)) : xs.length ≤ sizeLine ∧ ∃ (its : List Value) (n : Nat), Vals xs its ∧ xs.length = its.length ∧ s.heap.get? l = some { cls := .type "list", data := .seq its.toArray n } := by
  obtain ⟨z, its, n, r, e⟩ := I.hok l _ hH
  exact ⟨z, its, n, r, r.length, e⟩

theorem notLongL {n : Nat} (h : n ≤ sizeLine) : Builtin.List.listTooLong n = false := by
  unfold Builtin.List.listTooLong
  exact decide_eq_false (by omega)
end

section
variable {X : Cx}

/-! ### methods -/
def rAppend : V → List V → Hp → VK → Prop := fun x vs H Q => ∃ l xs y, x = .ref l ∧ vs = [y] ∧ H l = some (.lst xs) ∧ xs.length < sizeLine ∧ Q .non (upd H l (.lst (xs ++ [y])))
theorem mt_append : MtM X "list.append" rAppend := by
  intro pins s σ H x vs v us Q I rx rv h
  obtain ⟨l, xs, y, rfl, rfl, hH, hz, q⟩ := h
  cases rx
  obtain ⟨u, rfl, ru⟩ := rv.one
  obtain ⟨z, its, n, r, hl, e⟩ := I.lstM hH
  refine call_meets F.slot_list_append ⟨_, e, rfl⟩ F.entry_list_append (F.args_list_append_2 _ _) (PySem.list_append l its.toArray n u (by rw [List.size_toArray]; omega)) ⟨e, ?_⟩
  refine ⟨.non, _, I.lset (its' := its ++ [u]) hH e (by simp) (r.append (.cons ru .nil)) ?_, rfl, q⟩
  rw [List.length_append, List.length_singleton]
  omega

def rExtend : V → List V → Hp → VK → Prop := fun x vs H Q => ∃ l b xs zs, x = .ref l ∧ vs = [.ref b] ∧ H l = some (.lst xs) ∧ H b = some (.lst zs) ∧ xs.length + zs.length ≤ sizeLine ∧ Q .non (upd H l (.lst (xs ++ zs)))
theorem mt_extend : MtM X "list.extend" rExtend := by
  intro pins s σ H x vs v us Q I rx rv h
  obtain ⟨l, b, xs, zs, rfl, rfl, hH, hB, hz, q⟩ := h
  cases rx
  obtain ⟨u, rfl, ru⟩ := rv.one
  cases ru
  obtain ⟨z, its, n, r, hl, e⟩ := I.lstM hH
  obtain ⟨z2, its2, n2, r2, hl2, e2⟩ := I.lstM hB
  have hsz : its.toArray.size + its2.toArray.size ≤ sizeLine := by rw [List.size_toArray, List.size_toArray]; omega
  have hlong : ¬ (!its.toArray.isEmpty && Builtin.List.listTooLong (its.toArray.size + its2.toArray.size)) = true := by
    rw [notLongL hsz, Bool.and_false]
    exact Bool.false_ne_true
  refine call_meets F.slot_list_extend ⟨_, e, rfl⟩ F.entry_list_extend (F.args_list_extend_2 _ _)
    (AutoSeq1.list_extend_list_list_0 l its.toArray n b its2.toArray n2 hlong (by rw [List.size_toArray]; omega) (by omega)) ⟨e, e2, ?_⟩
  refine ⟨.non, _, I.lset (its' := its ++ its2) hH e (by simp) (r.append r2) ?_, rfl, q⟩
  rw [List.length_append]
  omega

def rPop : V → List V → Hp → VK → Prop := fun x vs H Q => ∃ l xs y, x = .ref l ∧ vs = [] ∧ H l = some (.lst xs) ∧ xs[xs.length - 1]? = some y ∧ Q y (upd H l (.lst xs.dropLast))
theorem mt_pop : MtM X "list.pop" rPop := by
  intro pins s σ H x vs v us Q I rx rv h
  obtain ⟨l, xs, y, rfl, rfl, hH, hy, q⟩ := h
  cases rx
  have hus := rv.zero
  subst hus
  obtain ⟨z, its, n, r, hl, e⟩ := I.lstM hH
  obtain ⟨u, hu, ru⟩ := r.get hy
  have hy' : its.toArray[its.toArray.size - 1]? = some u := by
    show its.toArray[its.length - 1]? = some u
    rw [← Array.getElem?_toList, ← hl]
    exact hu
  refine call_meets F.slot_list_pop ⟨_, e, rfl⟩ F.entry_list_pop (F.args_list_pop_1 _) (MeetsSeq.list_pop_last l its.toArray n u hy' (by rw [List.size_toArray]; omega)) ⟨e, ?_⟩
  refine ⟨y, _, I.lset (its' := its.dropLast) hH e ?_ r.dropLast ?_, ru, q⟩
  · show its.toArray.eraseIdxIfInBounds (its.toArray.size - 1) = its.dropLast.toArray
    rw [List.size_toArray, List.eraseIdxIfInBounds_toArray, erase_last]
  · rw [List.length_dropLast]
    omega

def rPopAt : V → List V → Hp → VK → Prop := fun x vs H Q => ∃ l xs i k y, x = .ref l ∧ vs = [.int i] ∧ H l = some (.lst xs) ∧ -(2 ^ 63) ≤ i ∧ i < 2 ^ 63 ∧ seqIndex? i xs.length = some k ∧ xs[k]? = some y ∧ Q y (upd H l (.lst (xs.eraseIdx k)))
theorem mt_popAt : MtM X "list.pop" rPopAt := by
  intro pins s σ H x vs v us Q I rx rv h
  obtain ⟨l, xs, i, k, y, rfl, rfl, hH, h1, h2, hk, hy, q⟩ := h
  cases rx
  obtain ⟨u, rfl, ru⟩ := rv.one
  obtain ⟨t, rfl⟩ := ru
  obtain ⟨z, its, n, r, hl, e⟩ := I.lstM hH
  obtain ⟨w, hw, rw'⟩ := r.get hy
  refine call_meets F.slot_list_pop ⟨_, e, rfl⟩ F.entry_list_pop (F.args_list_pop_2 _ _)
    (MeetsSeq.list_pop_at l its.toArray n i t k w (fitsIndex_both h1 h2) (by rw [List.size_toArray, ← hl]; exact hk) (by rw [← Array.getElem?_toList]; exact hw) (by rw [List.size_toArray]; omega)) ⟨e, ?_⟩
  refine ⟨y, _, I.lset (its' := its.eraseIdx k) hH e ?_ (r.eraseIdx k) ?_, rw', q⟩
  · show its.toArray.eraseIdxIfInBounds k = (its.eraseIdx k).toArray
    rw [List.eraseIdxIfInBounds_toArray]
  · have := len_erase xs k
    omega

def rReverse : V → List V → Hp → VK → Prop := fun x vs H Q => ∃ l xs, x = .ref l ∧ vs = [] ∧ H l = some (.lst xs) ∧ Q .non (upd H l (.lst xs.reverse))
theorem mt_reverse : MtM X "list.reverse" rReverse := by
  intro pins s σ H x vs v us Q I rx rv h
  obtain ⟨l, xs, rfl, rfl, hH, q⟩ := h
  cases rx
  have hus := rv.zero
  subst hus
  obtain ⟨z, its, n, r, hl, e⟩ := I.lstM hH
  refine call_meets F.slot_list_reverse ⟨_, e, rfl⟩ F.entry_list_reverse (F.args_list_reverse_1 _) (AutoSeq1.list_reverse_list_0 l its.toArray n (by rw [List.size_toArray]; omega)) ⟨e, ?_⟩
  refine ⟨.non, _, I.lset (its' := its.reverse) hH e (by simp) r.reverse ?_, rfl, q⟩
  rw [List.length_reverse]
  omega

def rClear : V → List V → Hp → VK → Prop := fun x vs H Q => ∃ l xs, x = .ref l ∧ vs = [] ∧ H l = some (.lst xs) ∧ Q .non (upd H l (.lst []))
theorem mt_clear : MtM X "list.clear" rClear := by
  intro pins s σ H x vs v us Q I rx rv h
  obtain ⟨l, xs, rfl, rfl, hH, q⟩ := h
  cases rx
  have hus := rv.zero
  subst hus
  obtain ⟨z, its, n, r, hl, e⟩ := I.lstM hH
  refine call_meets F.slot_list_clear ⟨_, e, rfl⟩ F.entry_list_clear (F.args_list_clear_1 _) (AutoSeq1.list_clear_list_0 l its.toArray n (by rw [List.size_toArray]; omega)) ⟨e, ?_⟩
  exact ⟨.non, _, I.lset (its' := []) (ys := []) hH e rfl .nil (Nat.zero_le _), rfl, q⟩

/-! ### list + list, list += list, list * int -/
def rCat : R2 := fun x y H Q => ∃ l b xs zs, x = .ref l ∧ y = .ref b ∧ H l = some (.lst xs) ∧ H b = some (.lst zs) ∧ xs.length + zs.length ≤ sizeLine ∧ ∀ p, H p = none → Q (.ref p) (upd H p (.lst (xs ++ zs)))
theorem op_cat : OpR X (binaryOp .Add) rCat := by
  intro pins s σ H x y v u Q I rx ry h
  obtain ⟨l, b, xs, zs, rfl, rfl, hH, hB, hz, q⟩ := h
  cases rx
  cases ry
  obtain ⟨z, its, n, r, hl, e⟩ := I.lstM hH
  obtain ⟨z2, its2, n2, r2, hl2, e2⟩ := I.lstM hB
  refine PySem.P.add_list e e2 ?_ (by rw [List.size_toArray, List.size_toArray]; omega)
  have ea : its.toArray ++ its2.toArray = (its ++ its2).toArray := by simp
  rw [ea]
  exact ⟨.ref _, _, I.lnew (t' := s.toks) (r.append r2) (by rw [List.length_append]; omega), rfl, q _ I.fresh⟩
/-- a list times an int (a negative one is nothing) -/
def rRep : R2 := fun x y H Q => ∃ l k xs, x = .ref l ∧ y = .int k ∧ H l = some (.lst xs) ∧ -(2 ^ 63) ≤ k ∧ k < 2 ^ 63 ∧ xs.length * k.toNat ≤ sizeLine ∧
  ∀ p, H p = none → Q (.ref p) (upd H p (.lst (List.replicate k.toNat xs).flatten))
theorem len_rep {α : Type} (xs : List α) (k : Nat) : (List.replicate k xs).flatten.length = k * xs.length := by
  induction k with
  | zero => simp
  | succ k ih => rw [List.replicate_succ, List.flatten_cons, List.length_append, ih, Nat.succ_mul, Nat.add_comm]
theorem op_rep : OpR X (binaryOp .Mult) rRep := by
  intro pins s σ H x y v u Q I rx ry h
  obtain ⟨l, k, xs, rfl, rfl, hH, h1, h2, hz, q⟩ := h
  cases rx
  obtain ⟨t, rfl⟩ := ry
  obtain ⟨z, its, n, r, hl, e⟩ := I.lstM hH
  have hlen : its.toArray.size * k.toNat ≤ sizeLine := by rw [List.size_toArray, ← hl]; exact hz
  have hcap : ¬ its.toArray.size * k.toNat > (2 ^ 63 - 1) / 8 := by
    have : (sizeLine : Nat) ≤ (2 ^ 63 - 1) / 8 := by decide
    omega
  have hfit : ¬ (!Builtin.List.listFitsIndex k) = true := by
    rw [fitsIndex_both h1 h2]
    exact Bool.false_ne_true
  have hlong : ¬ Builtin.List.listTooLong (its.toArray.size * k.toNat) = true := by
    rw [notLongL hlen]
    exact Bool.false_ne_true
  have hnew : List.foldl (fun x1 x2 => x1 ++ x2) #[] (List.replicate (if its.toArray.isEmpty = true then 0 else k.toNat) its.toArray) = (List.replicate k.toNat its).flatten.toArray := by
    have f0 : ∀ m : Nat, List.foldl (fun x1 x2 => x1 ++ x2) #[] (List.replicate m its.toArray) = (List.replicate m its).flatten.toArray := fun m => by
      have := foldl_rep its m []
      rw [List.nil_append] at this
      exact this
    rw [f0]
    cases its with
    | nil => simp
    | cons a r' => rw [if_neg (by simp)]
  refine wpAny_binaryOp_repeat_ref (T := "list") (U := "int") (by decide) ⟨_, e, rfl⟩ (fun s' => typeIs_int s' k t) noFill_list_mul F.fills_int_mul F.slot_int_rmul repeat_list F.slot_int_index.lookup
    (call_meets F.slot_int_rmul (typeIs_int s k t) F.entry_int_rmul (F.args_int_rmul_2 _ _) (int___rmul___int_list k t l its.toArray n)
      ⟨e, rfl, ⟨_, e, rfl⟩, call_meets F.slot_list_mul ⟨_, e, rfl⟩ F.entry_list_mul (F.args_list_mul_2 _ _) (AutoListH.list___mul___list_int_3 l its.toArray n k t hfit hcap hlong) ⟨e, ?_⟩⟩)
  rw [hnew]
  exact ⟨.ref _, _, I.lnew (t' := s.toks) (r.rep k.toNat) (by rw [len_rep, Nat.mul_comm]; exact hz), rfl, q _ I.fresh⟩

/-! ### del xs[i] -/
theorem del_list {pins : List (Addr × Obj)} {s : Shared} {σ : St} {H : Hp} {l : Addr} {xs : List V} {i : Int} {t : Tok} {k : Nat} {Q : Unit → Shared → Prop} (I : Inv X pins σ H s) (hH : H l = some (.lst xs))
    (h1 : -(2 ^ 63) ≤ i) (h2 : i < 2 ^ 63) (hk : seqIndex? i xs.length = some k) (h : ∀ s', Inv X pins σ (upd H l (.lst (xs.eraseIdx k))) s' → Q () s') :
    wpAny (model X.prog X.w) X.A (delItem (.ref l) (.int i t)) Q X.xe s := by
  obtain ⟨z, its, n, r, hl, e⟩ := I.lstM hH
  refine PySem.P.delItem_list (k := k) e (fitsIndex_both h1 h2) (by rw [List.size_toArray, ← hl]; exact hk) (h _ ?_) (by rw [List.size_toArray]; omega)
  refine I.lset (its' := its.eraseIdx k) (t' := s.toks) hH e ?_ (r.eraseIdx k) ?_
  · show its.toArray.eraseIdxIfInBounds k = (its.eraseIdx k).toArray
    rw [List.eraseIdxIfInBounds_toArray]
  · have := len_erase xs k
    omega
end

/-! ### xs[a:b] = ys -/
section
variable {prog : Program} {w : World} {A : Around} {E : Value → Shared → Prop} {s : Shared}
theorem splice_eq (its its2 : List Value) (a c : Nat) : its.toArray.extract 0 a ++ its2.toArray ++ its.toArray.extract c its.toArray.size = (its.take a ++ its2 ++ its.drop c).toArray := by
  apply Array.toList_inj.mp
  first
    | (simp
       exact List.take_of_length_le (by simp))
    | simp [List.take_of_length_le]
    | simp
theorem bounds_run {a c n : Nat} (hac : a ≤ c) (hc : c ≤ n) : sliceBounds (some (a : Int)) (some (c : Int)) none n = ((a : Int), (c : Int), 1) := by
  simp only [sliceBounds, Option.getD_none]
  have h1 : ¬ ((a : Int) < 0) := by omega
  have h2 : ¬ ((c : Int) < 0) := by omega
  simp only [h1, h2, if_false, show (1 : Int) > 0 by decide, if_true]
  congr 1
  · omega
  · congr 1; omega
set_option maxRecDepth 100000 in
/-- list.__setitem__ with a slice of step one and another list -/
theorem setItem_slice {l b sl : Addr} {items new : Array Value} {n n2 : Nat} {vl vu : Value} {a c : Nat} {Q : Unit → Shared → Prop}
    (e : s.heap.get? l = some { cls := .type "list", data := .seq items n }) (e2 : s.heap.get? b = some { cls := .type "list", data := .seq new n2 }) (hne : l ≠ b)
    (hs : s.heap.IsSliceOf sl vl vu .none) (pl : IsPart vl (some (a : Int))) (pu : IsPart vu (some (c : Int))) (hac : a ≤ c) (hc : c ≤ items.size)
    (hsz : items.size + new.size ≤ sizeLine) (h : Q () { s with heap := s.heap.update l (Obj.mapSeq fun xs => xs.extract 0 a ++ new ++ xs.extract c xs.size) }) :
    wpAny (model prog w) A (setItem (.ref l) (.ref sl) (.ref b)) Q E s := by
  have hl : s.heap.IsList l items := PySem.IsL.isList e
  have hb : s.heap.IsList b new := PySem.IsL.isList e2
  obtain ⟨os, hos, hcs, hds⟩ := id hs
  have hTs : s.TypeIs (.ref sl) "slice" := ⟨os, hos, hcs⟩
  have hstep : ¬ ((rawPart none == rawInt 0) = true) := Bool.false_ne_true
  have hsame : Builtin.List.listSameRef (.ref l) (.ref b) = false := by
    unfold Builtin.List.listSameRef
    exact beq_eq_false_iff_ne.mpr hne
  have hmax : (max (a : Int) (c : Int)).toNat = c := by omega
  have hz' : ((fun xs : Array Value => xs.extract 0 a ++ new ++ xs.extract c xs.size) items).size ≤ sizeLine + 1 := by
    simp only [Array.size_append, Array.size_extract]
    omega
  unfold setItem
  try with_reducible refine wpAny_holding ?_
  first | refine wpAny_bind (wpAny_pure ?_) | skip
  refine wpAny_bind (wpAny_sequenceKey hl.typeIs (by decide) ?_)
  refine wpAny_bind (wpAny_callSpecial?_slot (name := Str.ofString "__setitem__") hl.typeIs slot_list_setitem
    (wpAny_call_entry slot_list_setitem hl.typeIs entry_list_setitem ?_ (args_list_setitem _ _ _)))
  show wpAny _ _ (Builtin.List.listSubscript? (.ref sl) >>= _) _ _ s
  refine wpAny_bind ?_
  unfold Builtin.List.listSubscript?
  refine wpAny_bind (wpAny_specialOf hTs slice_no_index ?_)
  simp only [Option.isNone_none, if_true]
  refine wpAny_pure ?_
  show wpAny _ _ (typeOf (.ref sl) >>= _) _ _ s
  refine wpAny_bind (wpAny_typeOf hTs ?_)
  first
    | rw [if_neg (by decide)]
    | refine PySem.W.KFB.if_not (by decide) ?_
  rw [listSliceParts_eq]
  refine wpAny_bind (wpAny_bind (wpAny_field hos hds (x := .none) rfl (wpAny_bind (wpAny_listPart .none ?_))))
  rw [if_neg hstep]
  refine wpAny_bind (wpAny_field hos hds (x := vl) rfl (wpAny_bind (wpAny_listPart pl ?_)))
  refine wpAny_bind (wpAny_field hos hds (x := vu) rfl (wpAny_bind (wpAny_listPart pu (wpAny_pure ?_))))
  first
    | simp only [hsame, Bool.false_eq_true, if_false]
    | refine PySem.W.KFB.if_not hsame ?_
    | (dsimp only
       rw [if_neg (by rw [hsame]; exact Bool.false_ne_true)])
  refine wpAny_bind (m := Builtin.List.listAllItems (.ref b) "must assign iterable to extended slice") ?_
  unfold Builtin.List.listAllItems
  refine wpAny_bind (wpAny_typeOf hb.typeIs ?_)
  first
    | refine PySem.W.KFB.if_so (by decide) ?_
    | rw [if_pos (by decide)]
    | simp only [beq_self_eq_true, Bool.true_or, if_true]
  unfold Builtin.List.listItems
  refine wpAny_bind (wpAny_seqItems e2 rfl (wpAny_pure ?_))
  refine wpAny_bind (wpAny_bind (wpAny_seqItems e rfl (wpAny_pure ?_)))
  refine wpAny_bind (wpAny_of_eq ((sliceIndices_raw (some (a : Int)) (some (c : Int)) none items.size (by simp)).trans (congrArg (pure : Int × Int × Int → Sem (Int × Int × Int)) (bounds_run hac hc))) ?_)
  show wpAny _ _ (if ((1 : Int) == 1) = true then _ else _) _ _ s
  rw [if_pos (by decide)]
  refine wpAny_bind (wpAny_rule ?_)
  first
    | simp only [notLongL hsz, Bool.false_eq_true, if_false]
    | refine PySem.W.KFB.if_not (notLongL hsz) ?_
  first | refine wpAny_bind (wpAny_pure ?_) | skip
  show wpAny _ _ (updateSeq l (fun xs => xs.extract 0 ((a : Int)).toNat ++ new ++ xs.extract (max (a : Int) (c : Int)).toNat xs.size) >>= _) _ _ s
  rw [hmax, Int.toNat_natCast]
  refine wpAny_bind (wpAny_updateSeq (hz := Nat.le_trans (Nat.le_add_right _ _) hsz) (_hz' := hz') e rfl ?_)
  refine wpAny_bind (wpAny_letGo ?_)
  first
    | exact wpAny_bind (wpAny_pure (wpAny_pure ⟨.none, rfl, wpAny_pure h⟩))
    | exact wpAny_pure ⟨.none, rfl, wpAny_pure h⟩
end

section
variable {X : Cx}
/-- xs[a:c] = ys of another list, at the value level: sl is the slice object that was just made -/
theorem set_slice {pins : List (Addr × Obj)} {s : Shared} {σ : St} {H : Hp} {l b sl : Addr} {xs ys : List V} {a c : Int} {vl vu : Value} {Q : Unit → Shared → Prop} (I : Inv X pins σ H s)
    (hH : H l = some (.lst xs)) (hB : H b = some (.lst ys)) (hne : l ≠ b) (hs : s.heap.IsSliceOf sl vl vu .none) (ra : RelV (.int a) vl) (rc : RelV (.int c) vu) (h0 : 0 ≤ a) (hac : a ≤ c) (hc : c ≤ xs.length)
    (hz : xs.length + ys.length ≤ sizeLine) (h : ∀ s', Inv X pins σ (upd H l (.lst (xs.take a.toNat ++ ys ++ xs.drop c.toNat))) s' → Q () s') :
    wpAny (model X.prog X.w) X.A (setItem (.ref l) (.ref sl) (.ref b)) Q X.xe s := by
  obtain ⟨ta, rfl⟩ := ra
  obtain ⟨tc, rfl⟩ := rc
  obtain ⟨z, its, n, r, hl, e⟩ := I.lstM hH
  obtain ⟨z2, its2, n2, r2, hl2, e2⟩ := I.lstM hB
  obtain ⟨a', rfl⟩ := Int.eq_ofNat_of_zero_le h0
  obtain ⟨c', rfl⟩ := Int.eq_ofNat_of_zero_le (Int.le_trans h0 hac)
  simp only [Int.toNat_natCast] at h
  refine setItem_slice (a := a') (c := c') e e2 hne hs (.int _ _) (.int _ _) (by omega) (by rw [List.size_toArray]; omega) (by rw [List.size_toArray, List.size_toArray]; omega) (h _ ?_)
  refine I.lset (its' := its.take a' ++ its2 ++ its.drop c') (t' := s.toks) hH e ?_ (Vals.append (Vals.append (r.take _) r2) (r.drop _)) ?_
  · exact splice_eq its its2 a' c'
  · rw [List.length_append, List.length_append, List.length_take, List.length_drop]
    omega
end
end L2

namespace Att
open PySem PySem.W PySem.Calls PyProof.Rows

/-! ### the script -/
theorem ints_of_wellAll {P : Params} {h : Heap} : ∀ (ns : List Int) (vs : List Value), WellAll P h vs (ns.map WData.int) → IntsAre vs ns := by
  intro ns
  induction ns with
  | nil =>
    intro vs w
    rw [List.map_nil] at w
    cases w
    exact .nil
  | cons n ns ih =>
    intro vs w
    rw [List.map_cons] at w
    cases w with
    | cons a b =>
      cases a
      exact .cons _ _ (ih _ b)

theorem script_of {l : OpenLaw} {n : Nat} (hn : l.most = some n) {P : Params} {h : Heap} {args : List WData} {vals : List Value}
    (hpre : l.row.toRowW.claim.pre args = true) (hwl : WellAll P h vals args) :
    ∃ a vs ns, vals = [Value.ref a] ∧ args = [WData.list (ns.map WData.int)] ∧ h.get? a = some { cls := .type "list", data := .seq vs.toArray } ∧ IntsAre vs ns ∧ ns.length ≤ n := by
  have hsh : WShape.hasAll [] args [.list .int] = true := (pre_splitW hpre).1
  have hc : l.pre.holds [] { args := args } = true := (pre_splitW hpre).2
  obtain ⟨d, r, rfl, h1, h2⟩ := hasAllW_cons hsh
  obtain rfl := hasAllW_nil h2
  obtain ⟨xs, rfl, h3⟩ := hasW_list h1
  obtain ⟨ns, rfl⟩ := items_int h3
  have hlen : ns.length ≤ n := by
    unfold OpenLaw.pre at hc
    have h4 : (WTm.not (.lt (.lit (.int (n : Int))) (.len (.arg 0)))).holds [] { args := [.list (ns.map .int)] } = true := by
      have h4 := (holds_andW hc).1
      rw [hn] at h4
      exact h4
    have h5 := condW_of h4 (w_not (w_lt w_lit (w_len_list (w_arg rfl))))
    rw [List.length_map] at h5
    refine Nat.le_of_not_lt fun q => ?_
    have q' : (n : Int) < ((ns.length : Nat) : Int) := by omega
    first
      | (rw [decide_eq_true q'] at h5; exact absurd h5 (by decide))
      | (simp at h5; omega)
  cases hwl with
  | cons w1 w2 =>
    cases w2
    cases w1 with
    | list ho hall => exact ⟨_, _, ns, rfl, rfl, ho, ints_of_wellAll ns _ hall, hlen⟩

theorem post_true (l : OpenLaw) (args : List WData) : l.row.toRowW.claim.post args (.bool true) args = true :=
  postW_of (r := l.row.toRowW) (X := (true == true))
    (show WShape.has [] (.bool true) .bool = true by first | rfl | decide | simp [WShape.has, WShape.arms, WShape.armsAll])
    (show (WTm.eq .res (.lit (.bool true))).value [] { args := args, res := some (.bool true), after := args } = some (.bool (true == true)) from w_eq_bool (w_res rfl) w_lit) rfl

/-! ### the attachment: holds_open's last premise (the goal 'hc' behind k_head) from a wpAny of the law's body -/
theorem attach {l : OpenLaw} {n : Nat} {q : Program} {loose : List Str} {XP : (Str → Option Value) → Heap → Prop} {YP : World → Heap → Prop} {d : DefRec} {x : Str}
    (hn : l.most = some n) (hdf : d.params.defaults = [])
    (hbind : ∀ pm cd doc v : Value, bindArgs (docDef d.name d.params d.body d.scope pm cd doc) ⟨[v], []⟩ = pure [(x, v)])
    (hx : d.scope.names.lookup x = some .local ∨ d.scope.names.lookup x = some .cell)
    (hk : d.scope.kind = .function) (hco : d.scope.isCoroutine = false) (hgen : d.scope.isGenerator = false)
    (body : ∀ (w : World) (s₀ s₁ s : Shared) (mg mb : Str → Option Value) (fa : Addr) (o : Obj) (pm cd doc : Value) (a : Addr) (vs : List Value) (ns : List Int),
      Ground q loose [] XP w s₀ mg mb s₁.heap → YP w s₁.heap →
      s₁.heap.get? fa = some o → o.data = .func (docDef d.name d.params d.body d.scope pm cd doc) → s₁.heap.CodeRec cd d.name → mg d.name = some (.ref fa) →
      s₁.heap.get? a = some { cls := .type "list", data := .seq vs.toArray } → IntsAre vs ns → ns.length ≤ n →
      s.gens = #[] → s.os = s₁.os →
      Fr s₁.heap s₁.heap.objs.size s.heap (bindL (envOfC d.name d.scope s₁.heap.objs.size fa cd).kindOf [(x, .ref a)] fun _ => none) →
      Cl s₁.heap.objs.size (cellsFrom (s₁.heap.objs.size + 1) d.scope.names []) s.heap (bindC (envOfC d.name d.scope s₁.heap.objs.size fa cd).kindOf [(x, .ref a)] fun _ => none) →
      wpAny (model l.prog w) (callerA.deeper (envOfC d.name d.scope s₁.heap.objs.size fa cd)) (execs d.body (envOfC d.name d.scope s₁.heap.objs.size fa cd))
        (fun f s' => f = .ret (.bool true) ∧ OldK s₁.heap s'.heap ∧ s'.os = s₁.os ∧ AllBare s'.gens) (fun _ _ => False) s) :
    WalkO q loose XP YP l.row.toRowW d [] (fun f vs => PySem.call f vs) := by
  intro w s₀ s₁ mg mb G Y fa o pm cd doc dV kV ho hd hcd hD hmg hg args vals as hpre hlay hrd hwl hlo
  obtain rfl : dV = .none := Dflts.none hD hdf
  obtain rfl : kV = .none := Dflts.noKw hD
  obtain ⟨a, vs, ns, rfl, rfl, hobj, hints, hlen⟩ := script_of hn hpre hwl
  refine enter_call ?_
  refine call_cells_ret (o := o) (by rw [depth_caller]; decide) ho (fd_plain hd) G.T.nolimit hcd (hbind pm cd doc (.ref a)) (fun y hy => ?_) (fun h₁ tk F X => ?_) hco hgen hk
  · obtain rfl : y = (x, Value.ref a) := List.mem_singleton.mp hy
    rcases hx with e | e
    · exact .inl e
    · exact .inr ⟨e, cellsFrom_some _ _ _ (.inl e)⟩
  · refine wpAny_mono (body w s₀ s₁ { s₁ with heap := h₁, toks := tk } mg mb fa o pm cd doc a vs ns G Y ho (fd_plain hd) hcd hmg hobj hints hlen hg rfl F X) (fun f s' hq => ?_) (fun _ _ hq => hq)
    obtain ⟨rfl, h2, h3, h4⟩ := hq
    exact ⟨.inl ⟨.bool true, .bool true, [], rfl, fun _ => rfl, .bool true, post_true l _, fun _ => ⟨List.Pairwise.nil, fun _ hm => (nomatch hm)⟩⟩, h2, h3, h4⟩

/-- the same from a codeAny of the CALL (for a layer whose function contracts speak of calls) -/
theorem attach_call {l : OpenLaw} {n : Nat} {q : Program} {loose : List Str} {XP : (Str → Option Value) → Heap → Prop} {YP : World → Heap → Prop} {d : DefRec}
    (hn : l.most = some n) (hdf : d.params.defaults = [])
    (call : ∀ (w : World) (s₀ s₁ : Shared) (mg mb : Str → Option Value) (fa : Addr) (o : Obj) (pm cd doc : Value) (a : Addr) (vs : List Value) (ns : List Int),
      Ground q loose [] XP w s₀ mg mb s₁.heap → YP w s₁.heap →
      s₁.heap.get? fa = some o → o.data = .func (docDef d.name d.params d.body d.scope pm cd doc) → s₁.heap.CodeRec cd d.name → mg d.name = some (.ref fa) →
      s₁.heap.get? a = some { cls := .type "list", data := .seq vs.toArray } → IntsAre vs ns → ns.length ≤ n → s₁.gens = #[] →
      codeAny (model l.prog w) callerA (.call (.ref fa) ⟨[.ref a], []⟩) (fun r s' => r = .ok (.ret (.bool true)) ∧ OldK s₁.heap s'.heap ∧ s'.os = s₁.os ∧ AllBare s'.gens) s₁) :
    WalkO q loose XP YP l.row.toRowW d [] (fun f vs => PySem.call f vs) := by
  intro w s₀ s₁ mg mb G Y fa o pm cd doc dV kV ho hd hcd hD hmg hg args vals as hpre hlay hrd hwl hlo
  obtain rfl : dV = .none := Dflts.none hD hdf
  obtain rfl : kV = .none := Dflts.noKw hD
  obtain ⟨a, vs, ns, rfl, rfl, hobj, hints, hlen⟩ := script_of hn hpre hwl
  refine enter_call (codeAny_mono (call w s₀ s₁ mg mb fa o pm cd doc a vs ns G Y ho (fd_plain hd) hcd hmg hobj hints hlen hg) fun r s' hq => ?_)
  obtain ⟨rfl, h2, h3, h4⟩ := hq
  exact ⟨.inl ⟨.bool true, .bool true, [], rfl, fun _ => rfl, .bool true, post_true l _, fun _ => ⟨List.Pairwise.nil, fun _ hm => (nomatch hm)⟩⟩, h2, h3, h4⟩

/-- the same where the top left finished generators (o_head chose holds_openN): nothing may have changed at all and no generator may be left -/
theorem attachN {l : OpenLaw} {n : Nat} {q : Program} {loose : List Str} {XP : (Str → Option Value) → Heap → Prop} {YP : World → Heap → Prop} {d : DefRec} {x : Str}
    (hn : l.most = some n) (hdf : d.params.defaults = [])
    (hbind : ∀ pm cd doc v : Value, bindArgs (docDef d.name d.params d.body d.scope pm cd doc) ⟨[v], []⟩ = pure [(x, v)])
    (hx : d.scope.names.lookup x = some .local ∨ d.scope.names.lookup x = some .cell)
    (hk : d.scope.kind = .function) (hco : d.scope.isCoroutine = false) (hgen : d.scope.isGenerator = false)
    (body : ∀ (w : World) (s₀ s₁ s : Shared) (mg mb : Str → Option Value) (fa : Addr) (o : Obj) (pm cd doc : Value) (a : Addr) (vs : List Value) (ns : List Int),
      Ground q loose [] XP w s₀ mg mb s₁.heap → YP w s₁.heap →
      s₁.heap.get? fa = some o → o.data = .func (docDef d.name d.params d.body d.scope pm cd doc) → s₁.heap.CodeRec cd d.name → mg d.name = some (.ref fa) →
      s₁.heap.get? a = some { cls := .type "list", data := .seq vs.toArray } → IntsAre vs ns → ns.length ≤ n →
      s.gens = #[] → s.os = s₁.os →
      Fr s₁.heap s₁.heap.objs.size s.heap (bindL (envOfC d.name d.scope s₁.heap.objs.size fa cd).kindOf [(x, .ref a)] fun _ => none) →
      Cl s₁.heap.objs.size (cellsFrom (s₁.heap.objs.size + 1) d.scope.names []) s.heap (bindC (envOfC d.name d.scope s₁.heap.objs.size fa cd).kindOf [(x, .ref a)] fun _ => none) →
      wpAny (model l.prog w) (callerA.deeper (envOfC d.name d.scope s₁.heap.objs.size fa cd)) (execs d.body (envOfC d.name d.scope s₁.heap.objs.size fa cd))
        (fun f s' => f = .ret (.bool true) ∧ (∀ b o, s₁.heap.get? b = some o → s'.heap.get? b = some o) ∧ s'.os = s₁.os ∧ s'.gens = #[]) (fun _ _ => False) s) :
    WalkN q loose XP YP l.row.toRowW d [] (fun f vs => PySem.call f vs) := by
  intro w s₀ s₁ mg mb G Y fa o pm cd doc dV kV ho hd hcd hD hmg hg args vals as hpre hlay hrd hwl hlo
  obtain rfl : dV = .none := Dflts.none hD hdf
  obtain rfl : kV = .none := Dflts.noKw hD
  obtain ⟨a, vs, ns, rfl, rfl, hobj, hints, hlen⟩ := script_of hn hpre hwl
  refine enter_callW ?_
  refine call_cells_ret (o := o) (by rw [depth_caller]; decide) ho (fd_plain hd) G.T.nolimit hcd (hbind pm cd doc (.ref a)) (fun y hy => ?_) (fun h₁ tk F X => ?_) hco hgen hk
  · obtain rfl : y = (x, Value.ref a) := List.mem_singleton.mp hy
    rcases hx with e | e
    · exact .inl e
    · exact .inr ⟨e, cellsFrom_some _ _ _ (.inl e)⟩
  · refine wpAny_mono (body w s₀ s₁ { s₁ with heap := h₁, toks := tk } mg mb fa o pm cd doc a vs ns G Y ho (fd_plain hd) hcd hmg hobj hints hlen hg rfl F X) (fun f s' hq => ?_) (fun _ _ hq => hq)
    obtain ⟨rfl, h2, h3, h4⟩ := hq
    exact ⟨.inl ⟨.bool true, .bool true, [], rfl, fun _ => rfl, .bool true, post_true l _, fun _ => ⟨List.Pairwise.nil, fun _ hm => (nomatch hm)⟩⟩, h2, h3, h4⟩

/-! ### rules over ANY heap (no ledger) from facts about the written part K: the library's own take a ledger (News) for what they write -/
section
variable {prog : Program} {w : World} {A : Around} {E : Value → Shared → Prop} {s : Shared} {K : Frag}

/-- a def of the module, or a method (qual 'C.m'), entered: the frame is the next address; cells behind it -/
theorem call_fn {R : Result → Shared → Prop} {name qual : Str} {params : Arguments} {body : List Stmt} {scope : Scope} {dV kV doc pm cdv ct oc : Value} {an od : Option Addr} {osl : Array (Option Value)} {f : Addr} {args : Args} {binds : List (Str × Value)}
    (X : K.In s.heap) (hlim : s.heap.NoLimit) (ho : K.lookup f = some ⟨oc, od, .func (fnOf name qual params body scope dV kV doc pm an cdv ct), osl⟩) (hcd : codeIn K cdv qual = true) (hroom : A.depth < recursionLimit)
    (hbind : BindsTo s (fnOf name qual params body scope dV kV doc pm an cdv ct) args binds)
    (hkind : (binds.all fun y => scope.names.lookup y.1 == some .local || scope.names.lookup y.1 == some .cell) = true)
    (h : ∀ s₁, InCallC s s.heap.objs.size (bindL (envOfC qual scope s.heap.objs.size f cdv).kindOf binds fun _ => none) (cellsFrom (s.heap.objs.size + 1) scope.names [])
        (bindC (envOfC qual scope s.heap.objs.size f cdv).kindOf binds fun _ => none) s₁ →
      wpAny (model prog w) (A.deeper (envOfC qual scope s.heap.objs.size f cdv)) (execs body (envOfC qual scope s.heap.objs.size f cdv))
        (fun fl s' => R (.ok (.ret (match fl with | .ret v => v | _ => .none))) s')
        (fun e s' => wpAny (model prog w) (A.deeper (envOfC qual scope s.heap.objs.size f cdv)) (leaving (envOfC qual scope s.heap.objs.size f cdv) e) (fun _ s'' => R (.error e) s'') (fun e' s'' => R (.error e') s'') s') s₁)
    (hco : scope.isCoroutine = false) (hgen : scope.isGenerator = false) (hk : scope.kind = .function) : codeAny (model prog w) A (.call (.ref f) args) R s := by
  refine codeAny_call_function hroom (X _ _ ho) rfl hco hgen rfl (codeRec_of X hcd) (hbind _ _ _ _ ?_)
  refine wpAny_newFunctionEnv_cells hk (kindsX hkind _) fun env he s₁ x => ?_
  subst he
  exact ⟨hlim.keeps x.toInCall.keep, codeAny_func (h s₁ x)⟩

/-- C(..): dict at size, instance at size + 1, then __init__ -/
theorem make_obj {R : Result → Shared → Prop} {C fI : Addr} {rest : List Value} {kw : List (Str × Value)}
    (X : K.In s.heap) (hm : makesIn K C = true) (hi : findIn K (.ref C) "__init__" = some (some (.ref fI))) (hf : isFn K (.ref fI) = true)
    (h : codeAny (model prog w) (A.under (.builtin "type.__call__" ⟨.ref C :: rest, kw⟩)) (.call (.ref fI) ⟨.ref (s.heap.objs.size + 1) :: rest, kw⟩) (InitBack (s.heap.objs.size + 1) R)
      { s with heap := (s.heap.push emptyDict).push (instObj C s.heap.objs.size) }) : codeAny (model prog w) A (.call (.ref C) ⟨rest, kw⟩) R s := by
  obtain ⟨hh, g, d, t, os⟩ := s
  exact make_core (makes_of X hm) (looks_findIn X hi) (fun self => bind_fn X self (beq_iff_eq.mp hf)) (.inl rfl) h

/-- x.name where the instance's dict holds the name and the class does not -/
theorem get_field {x C : Addr} {ox : Obj} {es : List DictEntry} {n : Nat} {name : Str} {expr : Bool} {v : Value} {Q : Value → Shared → Prop}
    (X : K.In s.heap) (I : PySem.W.InstAt s.heap x ox C (some (dictOf es n))) (hg : plainGet K C name = true) (hh : hasDictIn K C = true) (ha : findIn K (.ref C) name = some none)
    (hl : getL name es = some (some v)) (hv : handedIn v = true) (h : Q v { s with toks := s.toks + 1 }) : wpAny (model prog w) A (getAttr (.ref x) name expr) Q E s :=
  get_value X I (plainGet_of hg).1 (findObj_own hh ha rfl hl) hv h

/-- x.m(..): the method found in the class -/
theorem get_method {x C f : Addr} {ox : Obj} {es : List DictEntry} {n : Nat} {name : Str} {pl : Sem Bool} {Q : Value × List Value → Shared → Prop}
    (X : K.In s.heap) (I : PySem.W.InstAt s.heap x ox C (some (dictOf es n))) (hg : plainGet K C name = true) (hf : findIn K (.ref C) name = some (some (.ref f))) (ht : isFn K (.ref f) = true)
    (hl : getL name es = some none) (h : Q (.ref f, [.ref x]) s) : wpAny (model prog w) A (getMethod (.ref x) name pl) Q E s :=
  method_fn X I (plainGet_of hg).1 (plainGet_of hg).2 hf (beq_iff_eq.mp ht) (by show (lookIn name (dictOf es n)).map _ = _; rw [lookIn_dict, hl]; rfl) h

/-! the whole heap as the ledger: makes every rule that writes through a ledger a rule over any heap -/
def noObjs (h : Heap) : Heap := { h with objs := #[] }
theorem noObjs_get (h : Heap) (b : Addr) : (noObjs h).get? b = none := by
  cases e : (noObjs h).get? b with
  | none => rfl
  | some o => exact absurd (Heap.lt_size e) (Nat.not_lt_zero _)
def ledger (h : Heap) (L d : Addr) : List (Addr × Obj) := (List.range h.objs.size).filterMap fun a => if a = L ∨ a = d then none else (h.get? a).map fun o => (a, o)
theorem mem_ledger {h : Heap} {L d a : Addr} {o : Obj} : (a, o) ∈ ledger h L d ↔ a ≠ L ∧ a ≠ d ∧ h.get? a = some o := by
  unfold ledger
  rw [List.mem_filterMap]
  constructor
  · rintro ⟨b, _, e⟩
    split at e
    · cases e
    · rename_i hb
      obtain ⟨o', ho, e'⟩ := Option.map_eq_some_iff.mp e
      cases e'
      exact ⟨fun q => hb (.inl q), fun q => hb (.inr q), ho⟩
  · rintro ⟨n1, n2, ho⟩
    refine ⟨a, List.mem_range.mpr (Heap.lt_size ho), ?_⟩
    rw [if_neg (show ¬ (a = L ∨ a = d) from fun q => q.elim n1 n2), ho] <;> rfl
theorem news_ledger {h : Heap} {L d : Addr} {od : Obj} (hne : d ≠ L) (ho : h.get? d = some od) : News (noObjs h) L h ([] ++ (d, od) :: ledger h L d) := by
  rintro ⟨a, o⟩ hp
  rcases List.mem_cons.mp hp with e | hp
  · cases e
    exact ⟨ho, hne, noObjs_get _ _⟩
  · obtain ⟨n1, n2, e⟩ := mem_ledger.mp hp
    exact ⟨e, n1, noObjs_get _ _⟩
theorem fr_all {h : Heap} {L : Addr} {m : Str → Option Value} (n : h.Ns L m) : Fr (noObjs h) L h m :=
  ⟨n, fun b o e => (by rw [noObjs_get] at e; cases e), Nat.zero_le _⟩
/-- Upd of the head entry (for append_K, setItem_K ..) -/
theorem upd_ledger {h : Heap} {L d : Addr} {o o' : Obj} : Upd d o o' ((d, o) :: ledger h L d) ((d, o') :: ledger h L d) :=
  .head fun ⟨_, _⟩ hp => (mem_ledger.mp hp).2.1

/-- x.name = v over any heap: L is any namespace of the heap (the frame's, say): its map stays, its object is not told; all else but the dict stays -/
theorem set_field {x C dx L : Addr} {ox : Obj} {m : Str → Option Value} {es es' : List DictEntry} {n n' : Nat} {name : Str} {v : Value} {Q : Unit → Shared → Prop}
    (X : K.In s.heap) (I : PySem.W.InstAt s.heap x ox C (some (dictOf es n))) (hd : ox.dict = some dx) (hL : s.heap.Ns L m) (hne : dx ≠ L)
    (hs : findIn K (.ref C) "__setattr__" = some (some (.builtin "object.__setattr__"))) (hp : plainOver K C = true) (ht : takerIn K C name = some none) (hh : hasDictIn K C = true) (hl : (getL name es).isSome = true)
    (e : (putL name (PyData.keyHash w.params name) (.str name (s.toks + 1)) v es, putN name es n) = (es', n')) (hz : es'.length ≤ 1000)
    (h : ∀ h' : Heap, h'.Ns L m → h'.get? dx = some (dictOf es' n') → (∀ b o, b ≠ dx → b ≠ L → s.heap.get? b = some o → h'.get? b = some o) → Q () { s with heap := h', toks := s.toks + 2 }) :
    wpAny (model prog w) A (setAttr (.ref x) name v) Q E s := by
  obtain ⟨e1, e2⟩ := Prod.mk.inj e
  have hdx : s.heap.get? dx = some (dictOf es n) := by
    have := I.dict
    rw [hd] at this
    exact this
  refine set_plain X I hs (osa_dict (s := { s with toks := s.toks + 1 }) (h₀ := noObjs s.heap) (L := L) (m := m) (od := dictOf es n) (od' := dictOf es' n') (es := es') (n := n') (pre := []) (post := ledger s.heap L dx)
    (fr_all hL) (news_ledger hne hdx) X I hd hp ht hh hl (fun _ q => nomatch q) (fun ⟨_, _⟩ q => (mem_ledger.mp q).2.1) (by rw [putName_dict, e1, e2]) rfl hz fun h' F' N' => ?_)
  exact h h' F'.ns (N'.get (List.Mem.head _)) fun b o n1 n2 ho => N'.get (List.Mem.tail _ (mem_ledger.mpr ⟨n2, n1, ho⟩))
end
end Att

namespace L2
open PySem PySem.Spec PyProof.Rows

theorem vals_ints : ∀ {vs : List Value} {ns : List Int}, IntsAre vs ns → Vals (ns.map V.int) vs
  | _, _, .nil => .nil
  | _, _, .cons n t h => .cons ⟨t, rfl⟩ (vals_ints h)

/-- nothing is tracked but the script, known to the object (or it is an object of the module) -/
def Only (H : Hp) : Prop := ∀ b, H b = none ∨ ∃ o xs, H b = some (.frz o (.lst xs))

/-- THE HEAD: the law's promise, at the heap behind the top. F, the promise of the law's def, may use that base is part of the heap (so K.In base, base.Ns mainGlobals mg stand in Mod) -/
theorem law_call {P : Program} {w : World} {K : PySem.W.Frag} {mg mb : Str → Option Value} {CX : CXT} {k : Nat} {fa a : Addr} {fd : FuncData} {x : Str} {sp : Sp} {s₁ : Shared} {vs : List Value} {ns : List Int}
    (KX : K.In s₁.heap) (hns : s₁.heap.Ns mainGlobals mg) (hb : s₁.heap.Ns builtinsNs mb) (hbb : ∀ x : Str, x ≠ "__name__" → mb x = bootBuiltins x) (hlim : s₁.heap.NoLimit) (hg : s₁.gens = #[])
    (ha : s₁.heap.get? a = some { cls := .type "list", data := .seq vs.toArray }) (hi : IntsAre vs ns) (hl : ns.length ≤ sizeLine) (hr : Room k callerA)
    (F : ∀ base : Heap, K.In base → base.Ns mainGlobals mg → FnOk P w K mg base CX k fa fd [x] sp) (hbind : ∀ (s : Shared) (u : Value), BindsTo s fd ⟨[u], []⟩ [(x, u)])
    (hsp : ∀ H : Hp, Only H → SqL K H a (ns.map V.int) → sp [.ref a] H (fun v _ => v = .bl true) fun _ _ _ => False)
    (hCX : ∀ H e s', CX [] H s₁ (fun _ _ _ => False) e s' → False) :
    codeAny (model P w) callerA (.call (.ref fa) ⟨[.ref a], []⟩) (fun r s' => r = .ok (.ret (.bool true)) ∧ OldK s₁.heap s'.heap ∧ s'.os = s₁.os ∧ AllBare s'.gens) s₁ := by
  have rv := vals_ints hi
  have lenV := hi.length
  -- from an abstract heap in which nothing but the script may be tracked
  have core : ∀ H : Hp, Only H → SqL K H a (ns.map V.int) → HOk P w H s₁.heap → (∀ b, H b ≠ none → b = a) → (H a ≠ none → K.lookup a = none) →
      codeAny (model P w) callerA (.call (.ref fa) ⟨[.ref a], []⟩) (fun r s' => r = .ok (.ret (.bool true)) ∧ OldK s₁.heap s'.heap ∧ s'.os = s₁.os ∧ AllBare s'.gens) s₁ := by
    intro H hO hS hok hA hK
    have base_of : ∀ {b : Addr} {o : Obj}, s₁.heap.get? b = some o → H b = none → (hidT s₁.heap H).get? b = some o := fun e n => hidT_get e n
    have noA : ∀ {b : Addr} {o : Obj} {es : Array DictEntry} {ep : Nat}, s₁.heap.get? b = some o → o.data = .dict es ep → H b = none := fun {b o es ep} e d => by
      cases q : H b with
      | none => rfl
      | some u =>
        have e' : b = a := hA b (by rw [q]; simp)
        subst e'
        rw [ha] at e; cases e
        have d' : Data.seq vs.toArray _ = Data.dict es ep := d
        cases d'
    have nsK : ∀ {b : Addr} {m : Str → Option Value}, s₁.heap.Ns b m → (hidT s₁.heap H).Ns b m := fun {b m} ⟨o, es, ep, e, d, r⟩ => ⟨o, es, ep, base_of e (noA e d), d, r⟩
    have hKb : K.In (hidT s₁.heap H) := fun b o e => base_of (KX b o e) (by
      cases q : H b with
      | none => rfl
      | some u =>
        have e' : b = a := hA b (by rw [q]; simp)
        subst e'
        rw [hK (by rw [q]; simp)] at e; cases e)
    have hM : Mod K mg (hidT s₁.heap H) := ⟨hKb, nsK hns, ⟨mb, nsK hb, hbb⟩, let ⟨mc, h1, h2⟩ := hlim; ⟨mc, nsK h1, h2⟩⟩
    have e0 : Env0 P w K mg (hidT s₁.heap H) callerA [] s₁ H := ⟨rfl, hM, fun b o e => of_hidT e, Nat.le_of_eq (hidT_size _ _), trivial, fun b hb => absurd (show b ∈ ([] : List Addr) from hb) (by simp), hok, .of_eq hg⟩
    refine codeAny_mono ((F _ hKb (nsK hns)).run callerA [] s₁ H ⟨[.ref a], []⟩ [.ref a] [.ref a] _ _ hr e0 (hbind s₁ (.ref a)) (.cons rfl .nil) (hsp H hO hS)) fun r s' h => ?_
    cases r with
    | error e => exact (hCX H e s' h).elim
    | ok fl =>
      cases fl with
      | next => exact False.elim h
      | brk => exact False.elim h
      | cont => exact False.elim h
      | ret u =>
        obtain ⟨v, H', os, bare, un, hok', r', q⟩ := h
        have q' : v = .bl true := q
        subst q'
        obtain rfl : u = Value.bool true := r'
        refine ⟨rfl, OldK.of_keep fun b o e => ?_, os, bare⟩
        cases q : H b with
        | none => exact un.keep b o e q (by intro z; exact absurd (show b ∈ ([] : List Addr) from z) (by simp)) (by simp)
        | some u =>
          rcases hO b with z | ⟨ob, xs, z⟩
          · rw [q] at z; cases z
          · have z2 := un.frzs b ob _ z
            obtain ⟨e1, _⟩ := hok b _ z
            obtain ⟨e2, _⟩ := hok' b _ z2
            rw [e] at e1; cases e1
            exact e2
  cases hk : K.lookup a with
  | some o =>
    -- the script is one of the module's own objects
    have e := KX a o hk
    rw [ha] at e
    cases e
    refine core (fun _ => none) (fun _ => .inl rfl) (.inr ⟨_, vs.toArray, _, hk, rfl, rfl, rfl, by rw [List.size_toArray, lenV]; exact hl, by simpa using rv⟩) (fun b u z => by have z' : (none : Option HO) = some u := z; cases z') (fun b z => absurd rfl z) fun z => absurd rfl z
  | none =>
    refine core (fun b => if b = a then some (.frz { cls := .type "list", data := .seq vs.toArray } (.lst (ns.map V.int))) else none) (fun b => ?_) (.inl (.inr ⟨{ cls := .type "list", data := .seq vs.toArray }, if_pos rfl⟩)) (fun b u z => ?_) (fun b z => ?_) fun _ => hk
    · by_cases hb : b = a
      · exact .inr ⟨_, _, if_pos hb⟩
      · exact .inl (if_neg hb)
    · by_cases hb : b = a
      · have z' := (if_pos hb).symm.trans z
        cases z'
        subst hb
        exact ⟨ha, by rw [List.length_map]; exact hl, vs, _, rv, ha⟩
      · have z' := (if_neg hb).symm.trans z
        cases z'
    · by_cases hb : b = a
      · exact hb
      · exact absurd (if_neg hb) z
end L2

namespace L2
open PySem PySem.Spec PyProof.Rows

abbrev KOf {K : PySem.W.Frag} {h : Heap} (_ : K.In h) : PySem.W.Frag := K

/-- the goal that k_head leaves (case hc), from the law's promise. F gives the function object fd (K's own) once, then the promise over every base -/
theorem walk_of {l : PySem.W.OpenLaw} {n k : Nat} {q : Program} {loose : List Str} {XP : (Str → Option Value) → Heap → Prop} {YP : World → Heap → Prop} {d : DefRec} {K : Params → PySem.W.Frag} {CX : World → CXT} {sp : World → Sp} {x : Str}
    (hn : l.most = some n) (hn2 : n ≤ sizeLine) (hdf : d.params.defaults = []) (hr : Room k callerA)
    (hY : ∀ (w : World) (h : Heap), YP w h → (K w.params).In h)
    (F : ∀ (w : World) (mg : Str → Option Value) (fa : Addr) (h : Heap), (K w.params).In h → h.Ns mainGlobals mg → mg d.name = some (.ref fa) →
      ∃ fd : FuncData, (∀ (s : Shared) (u : Value), BindsTo s fd ⟨[u], []⟩ [(x, u)]) ∧
        ∀ base : Heap, (K w.params).In base → base.Ns mainGlobals mg → FnOk l.prog w (K w.params) mg base (CX w) k fa fd [x] (sp w))
    (hsp : ∀ (w : World) (H : Hp) (a : Addr) (ns : List Int), ns.length ≤ n → Only H → SqL (K w.params) H a (ns.map V.int) → sp w [.ref a] H (fun v _ => v = .bl true) fun _ _ _ => False)
    (hCX : ∀ (w : World) (H : Hp) (s : Shared) (e : Value) (s' : Shared), CX w [] H s (fun _ _ _ => False) e s' → False) :
    PySem.W.WalkO q loose XP YP l.row.toRowW d [] (fun f vs => PySem.call f vs) := by
  refine Att.attach_call hn hdf fun w s₀ s₁ mg mb fa o pm cd doc a vs ns G Y ho hd hcd hmg hobj hints hlen hg => ?_
  have KX := hY w _ Y
  obtain ⟨fd, hb, hF⟩ := F w mg fa _ KX G.T.g hmg
  exact law_call KX G.T.g G.T.b G.T.builtins G.T.nolimit hg hobj hints (Nat.le_trans hlen hn2) hr hF hb (fun H hO hS => hsp w H a ns hlen hO hS) fun H e s' => hCX w H s₁ e s'
/-- the same where the promise hangs on the written part alone: (sp := My.sp_law), no hole under a binder -/
theorem walk_ofK {l : PySem.W.OpenLaw} {n k : Nat} {q : Program} {loose : List Str} {XP : (Str → Option Value) → Heap → Prop} {YP : World → Heap → Prop} {d : DefRec} {K : Params → PySem.W.Frag} {CX : CXT} {sp : PySem.W.Frag → Sp} {x : Str}
    (hn : l.most = some n) (hn2 : n ≤ sizeLine) (hdf : d.params.defaults = []) (hr : Room k callerA)
    (hY : ∀ (w : World) (h : Heap), YP w h → (K w.params).In h)
    (F : ∀ (w : World) (mg : Str → Option Value) (fa : Addr) (h : Heap), (K w.params).In h → h.Ns mainGlobals mg → mg d.name = some (.ref fa) →
      ∃ fd : FuncData, (∀ (s : Shared) (u : Value), BindsTo s fd ⟨[u], []⟩ [(x, u)]) ∧
        ∀ base : Heap, (K w.params).In base → base.Ns mainGlobals mg → FnOk l.prog w (K w.params) mg base CX k fa fd [x] (sp (K w.params)))
    (hsp : ∀ (K : PySem.W.Frag) (H : Hp) (a : Addr) (ns : List Int), ns.length ≤ n → Only H → SqL K H a (ns.map V.int) → sp K [.ref a] H (fun v _ => v = .bl true) fun _ _ _ => False)
    (hCX : ∀ (H : Hp) (s : Shared) (e : Value) (s' : Shared), CX [] H s (fun _ _ _ => False) e s' → False) :
    PySem.W.WalkO q loose XP YP l.row.toRowW d [] (fun f vs => PySem.call f vs) :=
  walk_of (K := K) (CX := fun _ => CX) (sp := fun w => sp (K w.params)) hn hn2 hdf hr hY F (fun w H a ns h1 h2 h3 => hsp (K w.params) H a ns h1 h2 h3) fun _ H s e s' => hCX H s e s'
end L2


/-! SHORT WORDS over the layer: a def of the text, its body, what a loop and a test want. -/
namespace L2
open PySem PySem.Spec PyProof.Rows

/-! ### the text by places -/
/-- the j-th statement of a class's body -/
def inClass (s : Stmt) (j : Nat) : Stmt := match s with
  | .ClassDef _ _ _ body _ _ _ _ _ _ _ => body.getD j (.Pass ⟨0, 0, 0, 0⟩)
  | _ => .Pass ⟨0, 0, 0, 0⟩
def defArgs (s : Stmt) : Arguments := match s with
  | .FunctionDef _ a _ _ _ _ _ _ _ _ => a
  | _ => { posonlyargs := [], args := [], vararg := none, kwonlyargs := [], kw_defaults := [], kwarg := none, defaults := [] }
def defBody (s : Stmt) : List Stmt := match s with
  | .FunctionDef _ _ b _ _ _ _ _ _ _ => b
  | _ => []
def defScope (s : Stmt) : Scope := match s with
  | .FunctionDef _ _ _ _ _ _ sc _ _ _ => sc
  | _ => { kind := .function, names := [], isGenerator := false, isCoroutine := false }

/-! ### no exception leaves a def -/
abbrev CX0 : CXT := fun _ _ _ _ _ _ => False
abbrev E0 : XK := fun _ _ _ => False
theorem pass0 {X : Cx} : Passes CX0 X E0 := fun _ _ _ _ _ _ _ h => h.elim

/-! ### a def (or method) of the text as it stands behind the top -/
structure Fun (K : PySem.W.Frag) (x qual : Str) (st : Stmt) (f : Addr) (fd : FuncData) : Prop where
  ex : ∃ (oc : Value) (od : Option Addr) (kV doc pm : Value) (an : Option Addr) (cdv ct : Value) (osl : Array (Option Value)),
    fd = PySem.W.fnOf x qual (defArgs st) (defBody st) (defScope st) .none kV doc pm an cdv ct ∧ K.lookup f = some ⟨oc, od, .func fd, osl⟩ ∧ PySem.W.codeIn K cdv qual = true
  kp : PySem.W.keepIn K (.ref f) = true
section
variable {P : Program} {w : World} {K : PySem.W.Frag} {mg : Str → Option Value} {base : Heap}
/-- THE RULE for a def: its body as a term of rules, and the reading of that term -/
theorem Fun.ok {x qual : Str} {st : Stmt} {f : Addr} {fd : FuncData} {N ps : List Str} {k : Nat} {sp : Sp} (F : Fun K x qual st f fd) (S : FnScope N ps (defScope st)) (len : ∀ vs H Q E, sp vs H Q E → vs.length = ps.length)
    (hbody : ∀ (cdv : Value) (A : Around) (outer : List Env) (s : Shared) (H : Hp) (vs : List V) (Q : VK) (E : XK), Room k (A.deeper (envOfC qual (defScope st) s.heap.objs.size f cdv)) → sp vs H Q E →
      ∃ t, PSs (cxOf CX0 P w K mg base N qual (defScope st) f cdv A outer s H E).nox (defBody st) t ∧ t { nx := fun _ H' => Q .non H', rt := Q } (start N vs) H) : FnOk P w K mg base CX0 (k + 1) f fd ps sp := by
  obtain ⟨oc, od, kV, doc, pm, an, cdv, ct, osl, rfl, lk, hcd⟩ := F.ex
  refine fn_of lk hcd S len fun A outer s H vs Q E hr hsp => ?_
  obtain ⟨t, h, q⟩ := hbody cdv A outer s H vs Q E hr hsp
  exact ⟨t, h.nox, q⟩
/-- how its arguments bind (no defaults): h is «fun _ _ _ _ _ _ us hl => match us, hl with | [_, _], _ => rfl», one _ a parameter -/
theorem Fun.binds {x qual : Str} {st : Stmt} {f : Addr} {fd : FuncData} {ps : List Str} (F : Fun K x qual st f fd)
    (h : ∀ (kV doc pm : Value) (an : Option Addr) (cdv ct : Value) (us : List Value), us.length = ps.length → bindArgs (PySem.W.fnOf x qual (defArgs st) (defBody st) (defScope st) .none kV doc pm an cdv ct) ⟨us, []⟩ = pure (ps.zip us)) : Binds K fd ps [] := by
  obtain ⟨oc, od, kV, doc, pm, an, cdv, ct, osl, rfl, lk, hcd⟩ := F.ex
  exact .all (h kV doc pm an cdv ct)
theorem fun_mk {x qual : Str} {st : Stmt} {f : Addr} {oc : Value} {od an : Option Addr} {osl : Array (Option Value)} {kV doc pm cdv ct : Value} (l : K.lookup f = some ⟨oc, od, .func (PySem.W.fnOf x qual (defArgs st) (defBody st) (defScope st) .none kV doc pm an cdv ct), osl⟩)
    (c : PySem.W.codeIn K cdv qual = true) (k : PySem.W.keepIn K (.ref f) = true) : Fun K x qual st f (PySem.W.fnOf x qual (defArgs st) (defBody st) (defScope st) .none kV doc pm an cdv ct) := ⟨⟨oc, od, kV, doc, pm, an, cdv, ct, osl, rfl, l, c⟩, k⟩
end
theorem hu_of {A : Around} {k : Nat} (hr : Room k A) : A.units + 1 < cLine := Nat.lt_of_le_of_lt (Nat.add_le_add_left (by decide : 1 ≤ 64) _) hr.units
theorem small1000 {n : Nat} (h : n ≤ 1000) : n < sizeLine := Nat.lt_of_le_of_lt h (by decide)

/-! ### expressions in short: the name that stands in the i-th slot -/
section
variable {X : Cx}
theorem pv (i : Nat) {x : Str} {pos : Pos} (hN : X.N[i]? = some x := by rfl) (hv : Vis X.env.scope x := by first | exact Or.inl rfl | exact Or.inr (Or.inl rfl) | exact Or.inr (Or.inr rfl)) (hd : (x == ("__debug__" : Str)) = false := by decide)
    (hcd : (x == ("__classdict__" : Str)) = false := by decide) : PE X (.Name x pos) (tVar i) := pe_var hN hv hd hcd
/-- len of a dict -/
theorem call_lenD : CallR X (.builtin "len") (fun xs H Q => ∃ a kvs, xs = [V.ref a] ∧ H a = some (.dK kvs) ∧ Q (.int kvs.length) H) := by
  intro pins s σ H xs us Q I r h
  obtain ⟨a, kvs, rfl, ha, q⟩ := h
  obtain ⟨u, rfl, ru⟩ := vals1 r
  cases ru
  exact d_len I (.inl ha) fun t s' I' => ⟨.int kvs.length, H, I', ⟨t, rfl⟩, q⟩
end

/-! ### tests -/
theorem iteF {A B : Prop} (h : B) : if false = true then A else B := by
  rw [if_neg Bool.false_ne_true]
  exact h
theorem iteT {A B : Prop} (h : A) : if true = true then A else B := by
  rw [if_pos rfl]
  exact h
theorem ite2 {c A B : Prop} [Decidable c] (h1 : c → A) (h2 : ¬ c → B) : if c then A else B := by
  by_cases h : c
  · rw [if_pos h]
    exact h1 h
  · rw [if_neg h]
    exact h2 h
theorem iteNS {c A B : Prop} [Decidable c] (hc : c) (h : B) : if (!decide c) = true then A else B := by
  rw [decide_eq_true hc]
  exact iteF h

/-! ### heaps -/
/-- all that was tracked is as it was -/
def Same (H H' : Hp) : Prop := ∀ b o, H b = some o → H' b = some o
theorem Same.refl (H : Hp) : Same H H := fun _ _ h => h
theorem Same.trans {H H1 H2 : Hp} (a : Same H H1) (b : Same H1 H2) : Same H H2 := fun c o h => b c o (a c o h)
theorem Same.free {H H' : Hp} (e : Same H H') {l : Addr} (h : H' l = Option.none) : H l = Option.none := by
  cases q : H l with
  | none => rfl
  | some o =>
    rw [e l o q] at h
    cases h
theorem Same.seq {K : PySem.W.Frag} {H H' : Hp} {a : Addr} {xs : List V} (e : Same H H') (h : SqL K H a xs) : SqL K H' a xs := by
  rcases h with (h | ⟨o, h⟩) | h
  · exact .inl (.inl (e _ _ h))
  · exact .inl (.inr ⟨o, e _ _ h⟩)
  · exact .inr h

/-! ### a dict's pairs: keys that differ -/
section
variable {κ : Type} [DecidableEq κ]
theorem valV_not {kvs : List (κ × V)} {k : κ} (h : valV kvs k = none) : ¬ k ∈ kvs.map (·.1) := by
  intro m
  obtain ⟨p, hp, e⟩ := List.mem_map.mp m
  have q : (kvs.any fun kv => decide (kv.1 = k)) = true := List.any_eq_true.mpr ⟨p, hp, decide_eq_true e⟩
  rw [valV_any, h] at q
  exact absurd q (by simp)
theorem valV_in {kvs : List (κ × V)} {k : κ} {v : V} (h : valV kvs k = some v) : k ∈ kvs.map (·.1) := by
  have q : (kvs.any fun kv => decide (kv.1 = k)) = true := by
    rw [valV_any, h]
    all_goals rfl
  obtain ⟨p, hp, e⟩ := List.any_eq_true.mp q
  exact List.mem_map.mpr ⟨p, hp, of_decide_eq_true e⟩
theorem nd_snoc : ∀ {l : List κ} {k : κ}, l.Nodup → ¬ k ∈ l → (l ++ [k]).Nodup
  | [], k, _, _ => by simp
  | a :: r, k, h, hk => by
    obtain ⟨h1, h2⟩ := List.nodup_cons.mp h
    show (a :: (r ++ [k])).Nodup
    refine List.nodup_cons.mpr ⟨fun m => ?_, nd_snoc h2 fun m => hk (List.mem_cons.mpr (Or.inr m))⟩
    rcases List.mem_append.mp m with q | q
    · exact h1 q
    · exact hk (List.mem_cons.mpr (Or.inl (List.mem_singleton.mp q).symm))
theorem nd_putK {kvs : List (κ × V)} {k : κ} (v : V) (hn : (kvs.map (·.1)).Nodup) (h : valV kvs k = none) : ((putK kvs k v).map (·.1)).Nodup := by
  rw [putK_new v h, List.map_append]
  exact nd_snoc hn (valV_not h)
theorem dropK_pos {p : κ × V} {r : List (κ × V)} {k : κ} (e : p.1 = k) : dropK (p :: r) k = dropK r k := by
  unfold dropK
  rw [List.filter_cons, if_neg (by simp [e])]
theorem dropK_neg {p : κ × V} {r : List (κ × V)} {k : κ} (e : ¬ p.1 = k) : dropK (p :: r) k = p :: dropK r k := by
  unfold dropK
  rw [List.filter_cons, if_pos (by simp [e])]
theorem dropK_no : ∀ {kvs : List (κ × V)} {k : κ}, ¬ k ∈ kvs.map (·.1) → dropK kvs k = kvs
  | [], _, _ => rfl
  | p :: r, k, h => by
    have h' : ¬ k ∈ r.map (·.1) := fun m => by
      obtain ⟨q, hq, e⟩ := List.mem_map.mp m
      exact h (List.mem_map.mpr ⟨q, List.mem_cons.mpr (Or.inr hq), e⟩)
    rw [dropK_neg fun e => h (List.mem_map.mpr ⟨p, List.mem_cons.mpr (Or.inl rfl), e⟩), dropK_no h']
theorem dropK_mem {kvs : List (κ × V)} {k : κ} {p : κ × V} (h : p ∈ dropK kvs k) : p ∈ kvs := (List.mem_filter.mp h).1
theorem nd_dropK : ∀ {kvs : List (κ × V)} {k : κ}, (kvs.map (·.1)).Nodup → ((dropK kvs k).map (·.1)).Nodup
  | [], _, _ => List.nodup_nil
  | p :: r, k, h => by
    have h : (p.1 :: r.map (·.1)).Nodup := h
    obtain ⟨h1, h2⟩ := List.nodup_cons.mp h
    by_cases e : p.1 = k
    · rw [dropK_pos e]
      exact nd_dropK h2
    · rw [dropK_neg e]
      show (p.1 :: (dropK r k).map (·.1)).Nodup
      refine List.nodup_cons.mpr ⟨fun m => h1 ?_, nd_dropK h2⟩
      obtain ⟨q, hq, eq⟩ := List.mem_map.mp m
      exact List.mem_map.mpr ⟨q, dropK_mem hq, eq⟩
theorem dropK_len : ∀ {kvs : List (κ × V)} {k : κ}, (kvs.map (·.1)).Nodup → k ∈ kvs.map (·.1) → (dropK kvs k).length + 1 = kvs.length
  | [], _, _, m => by simp at m
  | p :: r, k, h, m => by
    have h : (p.1 :: r.map (·.1)).Nodup := h
    have m : k = p.1 ∨ k ∈ r.map (·.1) := List.mem_cons.mp m
    obtain ⟨h1, h2⟩ := List.nodup_cons.mp h
    by_cases e : p.1 = k
    · subst e
      rw [dropK_pos rfl, dropK_no h1]
      all_goals rfl
    · have m' : k ∈ r.map (·.1) := m.resolve_left fun z => e z.symm
      have q := dropK_len h2 m'
      rw [dropK_neg e, List.length_cons, List.length_cons]
      omega
end
end L2
namespace My
open PySem

/-! ### sayings, their texts, the pieces that a text is written of -/
inductive Jn where
  | and | or | if_
  deriving DecidableEq
def Jn.word : Jn → Str
  | .and => "and"
  | .or => "or"
  | .if_ => "if"
def Jn.sign : Jn → Str
  | .and => "&"
  | .or => "|"
  | .if_ => ">"
inductive Sg where
  | no
  | lt (x : Str)
  | not (a : Sg)
  | shown (a : Sg)
  | bin (j : Jn) (a b : Sg)
  deriving DecidableEq
def Sg.Wf : Sg → Prop
  | .no => True
  | .lt x => x = "p" ∨ x = "q" ∨ x = "r"
  | .not a => a.Wf
  | .shown a => a.Wf
  | .bin _ a b => a.Wf ∧ b.Wf
def Sg.txt : Sg → Str
  | .no => "0"
  | .lt x => x
  | .not a => "~" ++ a.txt
  | .shown a => "[" ++ a.txt ++ "]"
  | .bin j a b => "(" ++ a.txt ++ j.sign ++ b.txt ++ ")"
def Sg.wt : Sg → Nat
  | .no => 2
  | .lt x => 2 + x.length
  | .not a => 2 + a.wt
  | .shown a => 3 + a.wt
  | .bin _ a b => 4 + a.wt + b.wt
def Sg.ht : Sg → Nat
  | .no => 1
  | .lt _ => 1
  | .not a => 1 + a.ht
  | .shown a => 1 + a.ht
  | .bin _ a b => 1 + a.ht + b.ht
theorem Sg.ht_le : ∀ a : Sg, 2 * a.ht ≤ a.wt
  | .no => by decide
  | .lt x => by show 2 * 1 ≤ 2 + x.length; omega
  | .not a => by have := a.ht_le; show 2 * (1 + a.ht) ≤ 2 + a.wt; omega
  | .shown a => by have := a.ht_le; show 2 * (1 + a.ht) ≤ 3 + a.wt; omega
  | .bin _ a b => by have := a.ht_le; have := b.ht_le; show 2 * (1 + a.ht + b.ht) ≤ 4 + a.wt + b.wt; omega
theorem Sg.ht_pos : ∀ a : Sg, 1 ≤ a.ht
  | .no => Nat.le_refl _
  | .lt _ => Nat.le_refl _
  | .not a => by show 1 ≤ 1 + a.ht; omega
  | .shown a => by show 1 ≤ 1 + a.ht; omega
  | .bin _ a b => by show 1 ≤ 1 + a.ht + b.ht; omega
theorem Jn.sign_len (j : Jn) : j.sign.length = 1 := by cases j <;> decide +kernel
theorem len0 : (("0" : Str)).length = 1 := by decide +kernel
theorem lenN : (("~" : Str)).length = 1 := by decide +kernel
theorem lenL : (("[" : Str)).length = 1 := by decide +kernel
theorem lenR : (("]" : Str)).length = 1 := by decide +kernel
theorem lenA : (("(" : Str)).length = 1 := by decide +kernel
theorem lenB : ((")" : Str)).length = 1 := by decide +kernel
theorem Sg.txt_le : ∀ a : Sg, a.txt.length + 1 ≤ a.wt
  | .no => by show (("0" : Str)).length + 1 ≤ 2; rw [len0]; exact Nat.le_refl _
  | .lt x => by show x.length + 1 ≤ 2 + x.length; omega
  | .not a => by
    have := a.txt_le
    show (("~" : Str) ++ a.txt).length + 1 ≤ 2 + a.wt
    rw [Str.length_append, lenN]; omega
  | .shown a => by
    have := a.txt_le
    show (("[" : Str) ++ a.txt ++ ("]" : Str)).length + 1 ≤ 3 + a.wt
    rw [Str.length_append, Str.length_append, lenL, lenR]; omega
  | .bin j a b => by
    have := a.txt_le
    have := b.txt_le
    show (("(" : Str) ++ a.txt ++ j.sign ++ b.txt ++ (")" : Str)).length + 1 ≤ 4 + a.wt + b.wt
    rw [Str.length_append, Str.length_append, Str.length_append, Str.length_append, lenA, lenB, j.sign_len]; omega

/-- a piece: a sign or letter as it stands, or a saying yet to be written -/
inductive Pc where
  | s (x : Str)
  | g (a : Sg)
def Pc.txt : Pc → Str
  | .s x => x
  | .g a => a.txt
def Pc.wt : Pc → Nat
  | .s _ => 1
  | .g a => a.wt
def Sg.pcs : Sg → List Pc
  | .no => [.s "0"]
  | .lt x => [.s x]
  | .not a => [.s "~", .g a]
  | .shown a => [.s "[", .g a, .s "]"]
  | .bin j a b => [.s "(", .g a, .s j.sign, .g b, .s ")"]
/-- the text of pieces, the first one first -/
def out : List Pc → Str
  | [] => Str.empty
  | p :: r => p.txt ++ out r
def wts : List Pc → Nat
  | [] => 0
  | p :: r => p.wt + wts r
theorem out_append : ∀ a b : List Pc, out (a ++ b) = out a ++ out b
  | [], b => by show out b = Str.empty ++ out b; rw [Str.empty_append]
  | p :: r, b => by show p.txt ++ out (r ++ b) = p.txt ++ out r ++ out b; rw [out_append r b, Str.append_assoc]
theorem wts_append : ∀ a b : List Pc, wts (a ++ b) = wts a + wts b
  | [], b => by show wts b = 0 + wts b; omega
  | p :: r, b => by show p.wt + wts (r ++ b) = p.wt + wts r + wts b; rw [wts_append r b]; omega
theorem wts_reverse : ∀ a : List Pc, wts a.reverse = wts a
  | [] => rfl
  | p :: r => by
    rw [List.reverse_cons, wts_append, wts_reverse r]
    show wts r + (p.wt + 0) = p.wt + wts r
    omega
theorem Sg.wt_pos (a : Sg) : 2 ≤ a.wt := by have := a.ht_le; have := a.ht_pos; omega
theorem wts_len : ∀ a : List Pc, a.length ≤ wts a
  | [] => Nat.le_refl _
  | .s x :: r => by have := wts_len r; show r.length + 1 ≤ 1 + wts r; omega
  | .g a :: r => by have := wts_len r; have := a.wt_pos; show r.length + 1 ≤ a.wt + wts r; omega
theorem out_pcs (a : Sg) : out a.pcs = a.txt := by
  cases a with
  | no => exact Str.append_empty _
  | lt x => exact Str.append_empty _
  | not a => show ("~" : Str) ++ (a.txt ++ Str.empty) = _; rw [Str.append_empty]; rfl
  | shown a =>
    show ("[" : Str) ++ (a.txt ++ (("]" : Str) ++ Str.empty)) = ("[" : Str) ++ a.txt ++ ("]" : Str)
    rw [Str.append_empty, Str.append_assoc]
  | bin j a b =>
    show ("(" : Str) ++ (a.txt ++ (j.sign ++ (b.txt ++ ((")" : Str) ++ Str.empty)))) = ("(" : Str) ++ a.txt ++ j.sign ++ b.txt ++ (")" : Str)
    rw [Str.append_empty, Str.append_assoc, Str.append_assoc, Str.append_assoc]
theorem wts_pcs (a : Sg) : wts a.pcs < a.wt := by
  cases a with
  | no => decide
  | lt x => show 1 + 0 < 2 + x.length; omega
  | not a => show 1 + (a.wt + 0) < 2 + a.wt; omega
  | shown a => show 1 + (a.wt + (1 + 0)) < 3 + a.wt; omega
  | bin j a b => show 1 + (a.wt + (1 + (b.wt + (1 + 0)))) < 4 + a.wt + b.wt; omega
/-- all signs behind one another -/
def cat : List Str → Str
  | [] => Str.empty
  | x :: r => x ++ cat r
theorem cat_append : ∀ a b : List Str, cat (a ++ b) = cat a ++ cat b
  | [], b => by show cat b = Str.empty ++ cat b; rw [Str.empty_append]
  | x :: r, b => by show x ++ cat (r ++ b) = x ++ cat r ++ cat b; rw [cat_append r b, Str.append_assoc]
theorem join_cat : ∀ a : List Str, Str.join Str.empty a = cat a
  | [] => rfl
  | [x] => by show x = x ++ Str.empty; rw [Str.append_empty]
  | x :: y :: r => by
    show x ++ Str.empty ++ Str.join Str.empty (y :: r) = x ++ cat (y :: r)
    rw [join_cat (y :: r), Str.append_empty]
theorem cat_len : ∀ a : List Str, (a.map (·.length)).sum = (cat a).length
  | [] => rfl
  | x :: r => by
    show (x.length :: r.map (·.length)).sum = (x ++ cat r).length
    rw [List.sum_cons, cat_len r, Str.length_append]

/-! ### how great a stack of sayings is -/
def pot : List Sg → Nat
  | [] => 0
  | a :: r => (a.wt + 4) + pot r
theorem pot_append : ∀ a b : List Sg, pot (a ++ b) = pot a + pot b
  | [], b => by show pot b = 0 + pot b; omega
  | x :: r, b => by show (x.wt + 4) + pot (r ++ b) = (x.wt + 4) + pot r + pot b; rw [pot_append r b]; omega
theorem pot_snoc (a : List Sg) (x : Sg) : pot (a ++ [x]) = pot a + (x.wt + 4) := by
  rw [pot_append]; rfl
def AllWf (ss : List Sg) : Prop := ∀ s ∈ ss, s.Wf
theorem AllWf.nil : AllWf [] := fun _ h => by simp at h
theorem AllWf.snoc {ss : List Sg} {x : Sg} (h : AllWf ss) (hx : x.Wf) : AllWf (ss ++ [x]) := fun s hs => by
  rcases List.mem_append.mp hs with h1 | h1
  · exact h s h1
  · rw [List.mem_singleton.mp h1]; exact hx
theorem AllWf.inv {ss : List Sg} {x : Sg} (h : AllWf (ss ++ [x])) : AllWf ss ∧ x.Wf := ⟨fun s hs => h s (List.mem_append_left _ hs), h x (List.mem_append_right _ (List.mem_singleton.mpr rfl))⟩
theorem pot_len : ∀ a : List Sg, 6 * a.length ≤ pot a
  | [] => Nat.le_refl _
  | x :: r => by have := pot_len r; have := x.wt_pos; show 6 * (r.length + 1) ≤ (x.wt + 4) + pot r; omega
end My
namespace My
open PySem
/-! ### reading a text, sign by sign -/
/-- what waits: a not, a shown, a join whose first saying is to come, a join with its first saying -/
inductive Wt where
  | neg | sh | op
  | jn (j : Jn) (a : Sg)
def dn : Sg → List Wt → Sg × List Wt
  | s, .neg :: W => dn (.not s) W
  | s, [] => (s, [])
  | s, .sh :: W => (s, .sh :: W)
  | s, .op :: W => (s, .op :: W)
  | s, .jn j a :: W => (s, .jn j a :: W)
abbrev RdSt := Option Sg × List Wt
def dn' (s : Sg) (W : List Wt) : RdSt := (some (dn s W).1, (dn s W).2)
def begin1 (c : Nat) (W : List Wt) : Option RdSt :=
  if c = 126 then some (none, .neg :: W) else if c = 91 then some (none, .sh :: W) else if c = 40 then some (none, .op :: W)
  else if c = 48 then some (dn' .no W) else if c = 112 then some (dn' (.lt "p") W) else if c = 113 then some (dn' (.lt "q") W) else if c = 114 then some (dn' (.lt "r") W) else none
def joinOf (c : Nat) : Option Jn := if c = 38 then some .and else if c = 124 then some .or else if c = 62 then some .if_ else none
def goOn (c : Nat) (a : Sg) : List Wt → Option RdSt
  | [] => none
  | .neg :: _ => none
  | .op :: W => (joinOf c).map fun j => (none, .jn j a :: W)
  | .sh :: W => if c = 93 then some (dn' (.shown a) W) else none
  | .jn j b :: W => if c = 41 then some (dn' (.bin j b a) W) else none
def step (c : Nat) : RdSt → Option RdSt
  | (none, W) => begin1 c W
  | (some a, W) => goOn c a W
def run : List Nat → RdSt → Option RdSt
  | [], st => some st
  | c :: r, st => (step c st).bind (run r)
theorem run_append : ∀ (a b : List Nat) (st : RdSt), run (a ++ b) st = (run a st).bind (run b)
  | [], b, st => rfl
  | c :: a, b, st => by
    show (step c st).bind (run (a ++ b)) = ((step c st).bind (run a)).bind (run b)
    cases step c st with
    | none => rfl
    | some st' => exact run_append a b st'
theorem cps_app (a b : Str) : (a ++ b).cps.toList = a.cps.toList ++ b.cps.toList := by
  rw [Str.cps_append, Array.toList_append]
theorem cN : (("~" : Str)).cps.toList = [126] := by decide +kernel
theorem c0 : (("0" : Str)).cps.toList = [48] := by decide +kernel
theorem cL : (("[" : Str)).cps.toList = [91] := by decide +kernel
theorem cR : (("]" : Str)).cps.toList = [93] := by decide +kernel
theorem cA : (("(" : Str)).cps.toList = [40] := by decide +kernel
theorem cB : ((")" : Str)).cps.toList = [41] := by decide +kernel
theorem cp : (("p" : Str)).cps.toList = [112] := by decide +kernel
theorem cq : (("q" : Str)).cps.toList = [113] := by decide +kernel
theorem cr : (("r" : Str)).cps.toList = [114] := by decide +kernel
theorem cJ (j : Jn) : ∃ c, j.sign.cps.toList = [c] ∧ joinOf c = some j := by
  cases j with
  | and => exact ⟨38, by decide +kernel, rfl⟩
  | or => exact ⟨124, by decide +kernel, rfl⟩
  | if_ => exact ⟨62, by decide +kernel, rfl⟩
theorem run_txt : ∀ (s : Sg), s.Wf → ∀ W, run s.txt.cps.toList (none, W) = some (dn' s W)
  | .no, _, W => by
    show run (("0" : Str)).cps.toList (none, W) = _
    rw [c0]; rfl
  | .lt x, h, W => by
    show run x.cps.toList (none, W) = _
    rcases h with rfl | rfl | rfl
    · rw [cp]; rfl
    · rw [cq]; rfl
    · rw [cr]; rfl
  | .not a, h, W => by
    show run (("~" : Str) ++ a.txt).cps.toList (none, W) = _
    rw [cps_app, cN, run_append]
    show run a.txt.cps.toList (none, .neg :: W) = _
    rw [run_txt a h]
    rfl
  | .shown a, h, W => by
    show run (("[" : Str) ++ a.txt ++ ("]" : Str)).cps.toList (none, W) = _
    rw [cps_app, cps_app, cL, cR, run_append, run_append]
    show ((run a.txt.cps.toList (none, .sh :: W)).bind (run [93])) = _
    rw [run_txt a h]
    rfl
  | .bin j a b, h, W => by
    obtain ⟨c, ec, ej⟩ := cJ j
    show run (("(" : Str) ++ a.txt ++ j.sign ++ b.txt ++ (")" : Str)).cps.toList (none, W) = _
    rw [cps_app, cps_app, cps_app, cps_app, cA, cB, ec, run_append, run_append, run_append, run_append]
    show ((((run a.txt.cps.toList (none, .op :: W)).bind (run [c])).bind (run b.txt.cps.toList)).bind (run [41])) = _
    rw [run_txt a h.1]
    show (((run [c] (some a, .op :: W)).bind (run b.txt.cps.toList)).bind (run [41])) = _
    have e1 : run [c] (some a, .op :: W) = some (none, .jn j a :: W) := by
      show ((joinOf c).map fun j => ((none, .jn j a :: W) : RdSt)).bind (run []) = _
      rw [ej]
      rfl
    rw [e1]
    show ((run b.txt.cps.toList (none, .jn j a :: W)).bind (run [41])) = _
    rw [run_txt b h.2]
    rfl
theorem run_whole (s : Sg) (h : s.Wf) : run s.txt.cps.toList (none, []) = some (some s, []) := run_txt s h []
theorem dn_len : ∀ (s : Sg) (W : List Wt), (dn s W).2.length ≤ W.length
  | s, .neg :: W => by
    have := dn_len (.not s) W
    show (dn (.not s) W).2.length ≤ W.length + 1
    omega
  | s, [] => Nat.le_refl _
  | s, .sh :: W => Nat.le_refl _
  | s, .op :: W => Nat.le_refl _
  | s, .jn j a :: W => Nat.le_refl _
theorem step_len {c : Nat} {st st' : RdSt} (h : step c st = some st') : st'.2.length ≤ st.2.length + 1 := by
  obtain ⟨o, W⟩ := st
  cases o with
  | none =>
    have h' : begin1 c W = some st' := h
    unfold begin1 at h'
    have l1 := dn_len .no W
    have l2 := dn_len (.lt "p") W
    have l3 := dn_len (.lt "q") W
    have l4 := dn_len (.lt "r") W
    repeat (split at h'; (cases h'; first | exact Nat.le_refl _ | (simp only [dn']; omega)))
    cases h'
  | some a =>
    have h' : goOn c a W = some st' := h
    cases W with
    | nil => cases h'
    | cons f W =>
      cases f with
      | neg => cases h'
      | op =>
        obtain ⟨j, _, e⟩ := Option.map_eq_some_iff.mp h'
        cases e
        exact Nat.le_succ _
      | sh =>
        have h2 : (if c = 93 then some (dn' (.shown a) W) else none) = some st' := h'
        have l := dn_len (.shown a) W
        split at h2
        · cases h2; simp only [dn', List.length_cons]; omega
        · cases h2
      | jn j b =>
        have h2 : (if c = 41 then some (dn' (.bin j b a) W) else none) = some st' := h'
        have l := dn_len (.bin j b a) W
        split at h2
        · cases h2; simp only [dn', List.length_cons]; omega
        · cases h2
/-- what a tuple or word holds -/
inductive Dt where
  | str (x : Str)
  | sg (s : Sg)
def Dt.ht : Dt → Nat
  | .str _ => 0
  | .sg s => s.ht
def Sg.items : Sg → List Dt
  | .no => [.str "no"]
  | .lt x => [.str "letter", .str x]
  | .not a => [.str "not", .sg a]
  | .shown a => [.str "shown", .sg a]
  | .bin j a b => [.str j.word, .sg a, .sg b]
theorem items_ht (s : Sg) : ∀ d ∈ s.items, d.ht < s.ht := by
  cases s with
  | no => intro d h; simp [Sg.items] at h; subst h; exact Nat.one_pos
  | lt x => intro d h; simp [Sg.items] at h; rcases h with rfl | rfl <;> exact Nat.one_pos
  | not a => intro d h; simp [Sg.items] at h; rcases h with rfl | rfl <;> simp only [Dt.ht, Sg.ht] <;> omega
  | shown a => intro d h; simp [Sg.items] at h; rcases h with rfl | rfl <;> simp only [Dt.ht, Sg.ht] <;> omega
  | bin j a b => intro d h; simp [Sg.items] at h; rcases h with rfl | rfl | rfl <;> simp only [Dt.ht, Sg.ht] <;> omega
theorem items_len (s : Sg) : 1 ≤ s.items.length ∧ s.items.length ≤ 3 := by
  cases s <;> simp [Sg.items]
end My
namespace My
open PySem
/-! ### where a text stops being a saying's -/
/-- the place that is refused: the first sign that cannot stand, or the end -/
def bad : List Nat → Nat → RdSt → Option Nat
  | [], i, (some _, []) => none
  | [], i, _ => some i
  | c :: r, i, st => match step c st with
    | none => some i
    | some st' => bad r (i + 1) st'
/-- the same, told by what is wanted next -/
def stepW (c : Nat) : List Str → Option (List Str)
  | [] => none
  | x :: r => if x = "saying" then
      (if c = 48 ∨ c = 112 ∨ c = 113 ∨ c = 114 then some r else if c = 126 then some ("saying" :: r) else if c = 91 then some ("saying" :: "]" :: r) else if c = 40 then some ("saying" :: "&|>" :: "saying" :: ")" :: r) else none)
    else if c ∈ x.cps.toList then some r else none
def badW : List Nat → Nat → List Str → Option Nat
  | [], _, [] => none
  | [], i, _ :: _ => some i
  | c :: r, i, w => match stepW c w with
    | none => some i
    | some w' => badW r (i + 1) w'
def wantT : List Wt → List Str
  | [] => []
  | .neg :: W => wantT W
  | .sh :: W => "]" :: wantT W
  | .op :: W => "&|>" :: "saying" :: ")" :: wantT W
  | .jn _ _ :: W => ")" :: wantT W
def want : RdSt → List Str
  | (none, W) => "saying" :: wantT W
  | (some _, W) => wantT W
theorem want_dn : ∀ (s : Sg) (W : List Wt), wantT (dn s W).2 = wantT W
  | s, .neg :: W => want_dn (.not s) W
  | _, [] => rfl
  | _, .sh :: _ => rfl
  | _, .op :: _ => rfl
  | _, .jn _ _ :: _ => rfl
/-- a not never waits behind a whole saying -/
def Cl : RdSt → Prop
  | (none, _) => True
  | (some _, W) => ∀ V, W ≠ .neg :: V
theorem cl_dn : ∀ (s : Sg) (W : List Wt), Cl (dn' s W)
  | s, .neg :: W => cl_dn (.not s) W
  | _, [] => fun _ h => nomatch h
  | _, .sh :: _ => fun _ h => nomatch h
  | _, .op :: _ => fun _ h => nomatch h
  | _, .jn _ _ :: _ => fun _ h => nomatch h
theorem w1 : (("]" : Str)) ≠ "saying" := by decide +kernel
theorem w2 : (("&|>" : Str)) ≠ "saying" := by decide +kernel
theorem w3 : ((")" : Str)) ≠ "saying" := by decide +kernel
theorem cps1 : (("]" : Str)).cps.toList = [93] := by decide +kernel
theorem cps2 : (("&|>" : Str)).cps.toList = [38, 124, 62] := by decide +kernel
theorem cps3 : ((")" : Str)).cps.toList = [41] := by decide +kernel
theorem stepW_say (c : Nat) (r : List Str) : stepW c ("saying" :: r) = (if c = 48 ∨ c = 112 ∨ c = 113 ∨ c = 114 then some r else if c = 126 then some ("saying" :: r) else if c = 91 then some ("saying" :: "]" :: r) else if c = 40 then some ("saying" :: "&|>" :: "saying" :: ")" :: r) else none) := by
  unfold stepW
  simp only [if_true]
theorem stepW_lit (c : Nat) {x : Str} (r : List Str) (h : x ≠ "saying") : stepW c (x :: r) = if c ∈ x.cps.toList then some r else none := by
  unfold stepW
  simp only [h, if_false]
theorem step_want {c : Nat} {st : RdSt} (cl : Cl st) : (step c st).map want = stepW c (want st) := by
  obtain ⟨o, W⟩ := st
  cases o with
  | none =>
    show (begin1 c W).map want = stepW c ("saying" :: wantT W)
    unfold begin1
    rw [stepW_say]
    by_cases h1 : c = 126
    · subst h1; rfl
    · by_cases h2 : c = 91
      · subst h2; rfl
      · by_cases h3 : c = 40
        · subst h3; rfl
        · have d : ∀ s, want (dn' s W) = wantT W := fun s => want_dn s W
          by_cases h4 : c = 48
          · subst h4; exact congrArg some (d _)
          · by_cases h5 : c = 112
            · subst h5; exact congrArg some (d _)
            · by_cases h6 : c = 113
              · subst h6; exact congrArg some (d _)
              · by_cases h7 : c = 114
                · subst h7; exact congrArg some (d _)
                · simp only [h1, h2, h3, h4, h5, h6, h7, if_false, or_self]
                  rfl
  | some a =>
    cases W with
    | nil => rfl
    | cons f W =>
      cases f with
      | neg => exact absurd rfl (cl W)
      | op =>
        show ((joinOf c).map fun j => ((none, .jn j a :: W) : RdSt)).map want = stepW c ("&|>" :: "saying" :: ")" :: wantT W)
        unfold joinOf
        rw [stepW_lit c _ w2, cps2]
        by_cases h1 : c = 38
        · subst h1; rfl
        · by_cases h2 : c = 124
          · subst h2; rfl
          · by_cases h3 : c = 62
            · subst h3; rfl
            · rw [if_neg h1, if_neg h2, if_neg h3, if_neg (by simp [h1, h2, h3])]
              rfl
      | sh =>
        show (if c = 93 then some (dn' (.shown a) W) else none).map want = stepW c ("]" :: wantT W)
        rw [stepW_lit c _ w1, cps1]
        by_cases h : c = 93
        · subst h; exact congrArg some (want_dn _ W)
        · rw [if_neg h, if_neg (by simp [h])]; rfl
      | jn j b =>
        show (if c = 41 then some (dn' (.bin j b a) W) else none).map want = stepW c (")" :: wantT W)
        rw [stepW_lit c _ w3, cps3]
        by_cases h : c = 41
        · subst h; exact congrArg some (want_dn _ W)
        · rw [if_neg h, if_neg (by simp [h])]; rfl
/-- the ways a step goes -/
theorem step_inv {c : Nat} {st st' : RdSt} (h : step c st = some st') : (∃ W, st'.1 = none ∧ st' = (none, W)) ∨ ∃ s W, st' = dn' s W := by
  obtain ⟨o, W⟩ := st'
  cases o with
  | none => exact .inl ⟨W, rfl, rfl⟩
  | some z =>
    refine .inr ?_
    obtain ⟨o, V⟩ := st
    cases o with
    | none =>
      have h' : begin1 c V = some (some z, W) := h
      unfold begin1 at h'
      have no : ∀ {U : List Wt}, some ((none, U) : RdSt) = some (some z, W) → False := fun e => by cases e
      have ye : ∀ {s : Sg}, some (dn' s V) = some (some z, W) → ∃ s W_1, ((some z, W) : RdSt) = dn' s W_1 := fun {s} e => ⟨s, V, (Option.some.inj e).symm⟩
      split at h'
      · exact (no h').elim
      · split at h'
        · exact (no h').elim
        · split at h'
          · exact (no h').elim
          · split at h'
            · exact ye h'
            · split at h'
              · exact ye h'
              · split at h'
                · exact ye h'
                · split at h'
                  · exact ye h'
                  · cases h'
    | some a =>
      have h' : goOn c a V = some (some z, W) := h
      cases V with
      | nil => cases h'
      | cons f V =>
        cases f with
        | neg => cases h'
        | op => obtain ⟨j, _, e⟩ := Option.map_eq_some_iff.mp h'; cases e
        | sh =>
          have h2 : (if c = 93 then some (dn' (.shown a) V) else none) = some (some z, W) := h'
          split at h2
          · injection h2 with e; exact ⟨_, V, e.symm⟩
          · cases h2
        | jn j b =>
          have h2 : (if c = 41 then some (dn' (.bin j b a) V) else none) = some (some z, W) := h'
          split at h2
          · injection h2 with e; exact ⟨_, V, e.symm⟩
          · cases h2
theorem step_cl {c : Nat} {st st' : RdSt} (h : step c st = some st') : Cl st' := by
  rcases step_inv h with ⟨W, _, rfl⟩ | ⟨s, W, rfl⟩
  · trivial
  · exact cl_dn s W
theorem bad_eq : ∀ (cs : List Nat) (i : Nat) (st : RdSt), Cl st → bad cs i st = badW cs i (want st)
  | [], i, (none, W), _ => rfl
  | [], i, (some s, []), _ => rfl
  | [], i, (some s, .neg :: W), cl => absurd rfl (cl W)
  | [], i, (some s, .sh :: W), _ => rfl
  | [], i, (some s, .op :: W), _ => rfl
  | [], i, (some s, .jn _ _ :: W), _ => rfl
  | c :: r, i, st, cl => by
    have e := step_want (c := c) cl
    unfold bad badW
    cases h : step c st with
    | none => rw [h] at e; rw [← e]; rfl
    | some st' => rw [h] at e; rw [← e]; exact bad_eq r (i + 1) st' (step_cl h)

/-! ### what was read is the text -/
def outW : List Wt → List Nat
  | [] => []
  | .neg :: W => outW W ++ [126]
  | .sh :: W => outW W ++ [91]
  | .op :: W => outW W ++ [40]
  | .jn j a :: W => outW W ++ [40] ++ a.txt.cps.toList ++ j.sign.cps.toList
def outS : RdSt → List Nat
  | (none, W) => outW W
  | (some s, W) => outW W ++ s.txt.cps.toList
theorem out_dn : ∀ (s : Sg) (W : List Wt), outS (dn' s W) = outW W ++ s.txt.cps.toList
  | s, .neg :: W => by
    show outS (dn' (.not s) W) = outW W ++ [126] ++ s.txt.cps.toList
    rw [out_dn (.not s) W]
    show outW W ++ (("~" : Str) ++ s.txt).cps.toList = _
    rw [cps_app, cN, List.append_assoc]
  | _, [] => rfl
  | _, .sh :: _ => rfl
  | _, .op :: _ => rfl
  | _, .jn _ _ :: _ => rfl
def WfW : List Wt → Prop
  | [] => True
  | .jn _ a :: W => a.Wf ∧ WfW W
  | _ :: W => WfW W
def WfS : RdSt → Prop
  | (none, W) => WfW W
  | (some s, W) => s.Wf ∧ WfW W
theorem wf_dn : ∀ (s : Sg) (W : List Wt), s.Wf → WfW W → WfS (dn' s W)
  | s, .neg :: W, h, g => wf_dn (.not s) W h g
  | _, [], h, g => ⟨h, g⟩
  | _, .sh :: _, h, g => ⟨h, g⟩
  | _, .op :: _, h, g => ⟨h, g⟩
  | _, .jn _ _ :: _, h, g => ⟨h, g⟩
theorem joinOf_sign {c : Nat} {j : Jn} (h : joinOf c = some j) : j.sign.cps.toList = [c] := by
  unfold joinOf at h
  split at h
  · rename_i e; cases h; subst e; decide +kernel
  · split at h
    · rename_i e; cases h; subst e; decide +kernel
    · split at h
      · rename_i e; cases h; subst e; decide +kernel
      · cases h
theorem step_out {c : Nat} {st st' : RdSt} (h : step c st = some st') (g : WfS st) : outS st' = outS st ++ [c] ∧ WfS st' := by
  obtain ⟨o, W⟩ := st
  cases o with
  | none =>
    have h' : begin1 c W = some st' := h
    unfold begin1 at h'
    split at h'
    · rename_i e; cases h'; subst e; exact ⟨rfl, g⟩
    · split at h'
      · rename_i e; cases h'; subst e; exact ⟨rfl, g⟩
      · split at h'
        · rename_i e; cases h'; subst e; exact ⟨rfl, g⟩
        · split at h'
          · rename_i e; cases h'; subst e; exact ⟨by rw [out_dn]; show outW W ++ (("0" : Str)).cps.toList = _; rw [c0]; rfl, wf_dn _ W trivial g⟩
          · split at h'
            · rename_i e; cases h'; subst e; exact ⟨by rw [out_dn]; show outW W ++ (("p" : Str)).cps.toList = _; rw [cp]; rfl, wf_dn _ W (.inl rfl) g⟩
            · split at h'
              · rename_i e; cases h'; subst e; exact ⟨by rw [out_dn]; show outW W ++ (("q" : Str)).cps.toList = _; rw [cq]; rfl, wf_dn _ W (.inr (.inl rfl)) g⟩
              · split at h'
                · rename_i e; cases h'; subst e; exact ⟨by rw [out_dn]; show outW W ++ (("r" : Str)).cps.toList = _; rw [cr]; rfl, wf_dn _ W (.inr (.inr rfl)) g⟩
                · cases h'
  | some a =>
    have h' : goOn c a W = some st' := h
    obtain ⟨ga, gW⟩ := g
    cases W with
    | nil => cases h'
    | cons f W =>
      cases f with
      | neg => cases h'
      | op =>
        obtain ⟨j, ej, e⟩ := Option.map_eq_some_iff.mp h'
        cases e
        refine ⟨?_, ga, gW⟩
        show outW W ++ [40] ++ a.txt.cps.toList ++ j.sign.cps.toList = outW W ++ [40] ++ a.txt.cps.toList ++ [c]
        rw [joinOf_sign ej]
      | sh =>
        have h2 : (if c = 93 then some (dn' (.shown a) W) else none) = some st' := h'
        split at h2
        · rename_i e
          cases h2; subst e
          refine ⟨?_, wf_dn _ W ga gW⟩
          rw [out_dn]
          show outW W ++ (("[" : Str) ++ a.txt ++ ("]" : Str)).cps.toList = outW W ++ [91] ++ a.txt.cps.toList ++ [93]
          rw [cps_app, cps_app, cL, cR]
          simp only [List.append_assoc]
        · cases h2
      | jn j b =>
        have h2 : (if c = 41 then some (dn' (.bin j b a) W) else none) = some st' := h'
        split at h2
        · rename_i e
          cases h2; subst e
          refine ⟨?_, wf_dn _ W ⟨gW.1, ga⟩ gW.2⟩
          rw [out_dn]
          show outW W ++ (("(" : Str) ++ b.txt ++ j.sign ++ a.txt ++ (")" : Str)).cps.toList = outW W ++ [40] ++ b.txt.cps.toList ++ j.sign.cps.toList ++ a.txt.cps.toList ++ [41]
          rw [cps_app, cps_app, cps_app, cps_app, cA, cB]
          simp only [List.append_assoc]
        · cases h2
/-- without a refused place a text is read to a saying whose text it is -/
theorem bad_none : ∀ (cs : List Nat) (i : Nat) (st : RdSt), WfS st → bad cs i st = none → ∃ s : Sg, run cs st = some (some s, []) ∧ s.Wf ∧ s.txt.cps.toList = outS st ++ cs
  | [], i, (some s, []), g, _ => ⟨s, rfl, g.1, by show _ = ([] ++ s.txt.cps.toList) ++ []; simp⟩
  | [], i, (none, W), _, h => by cases h
  | [], i, (some s, f :: W), _, h => by cases h
  | c :: r, i, st, g, h => by
    unfold bad at h
    cases e : step c st with
    | none => rw [e] at h; cases h
    | some st' =>
      rw [e] at h
      obtain ⟨o1, g1⟩ := step_out e g
      obtain ⟨s, h1, h2, h3⟩ := bad_none r (i + 1) st' g1 h
      refine ⟨s, ?_, h2, ?_⟩
      · show (step c st).bind (run r) = _
        rw [e]; exact h1
      · rw [h3, o1, List.append_assoc]; rfl
theorem Sg.small : ∀ s : Sg, s.Wf → s.ht ≤ s.txt.length ∧ s.wt ≤ 3 * s.txt.length
  | .no, _ => by show 1 ≤ (("0" : Str)).length ∧ 2 ≤ 3 * (("0" : Str)).length; rw [len0]; omega
  | .lt x, h => by
    have e : x.length = 1 := by rcases h with rfl | rfl | rfl <;> decide +kernel
    show 1 ≤ x.length ∧ 2 + x.length ≤ 3 * x.length
    omega
  | .not a, h => by
    have := Sg.small a h
    show 1 + a.ht ≤ (("~" : Str) ++ a.txt).length ∧ 2 + a.wt ≤ 3 * (("~" : Str) ++ a.txt).length
    rw [Str.length_append, lenN]; omega
  | .shown a, h => by
    have := Sg.small a h
    show 1 + a.ht ≤ (("[" : Str) ++ a.txt ++ ("]" : Str)).length ∧ 3 + a.wt ≤ 3 * (("[" : Str) ++ a.txt ++ ("]" : Str)).length
    rw [Str.length_append, Str.length_append, lenL, lenR]; omega
  | .bin j a b, h => by
    have := Sg.small a h.1
    have := Sg.small b h.2
    show 1 + a.ht + b.ht ≤ (("(" : Str) ++ a.txt ++ j.sign ++ b.txt ++ (")" : Str)).length ∧ 4 + a.wt + b.wt ≤ 3 * (("(" : Str) ++ a.txt ++ j.sign ++ b.txt ++ (")" : Str)).length
    rw [Str.length_append, Str.length_append, Str.length_append, Str.length_append, lenA, lenB, j.sign_len]; omega
end My
namespace My
open PySem PySem.Spec PyProof.Rows L2

/-! ### pairs of lists, taken from the end -/
theorem psnoc_inv {α β : Type} {R : α → β → Prop} {xs : List α} {ys : List β} (h : Paired R xs ys) : 1 ≤ xs.length → ∃ xs' x ys' y, xs = xs' ++ [x] ∧ ys = ys' ++ [y] ∧ Paired R xs' ys' ∧ R x y := by
  induction h with
  | nil => intro h; exact absurd h (Nat.not_succ_le_zero 0)
  | @cons a b l1 l2 r h ih =>
    intro _
    cases l1 with
    | nil => cases h; exact ⟨[], a, [], b, rfl, rfl, .nil, r⟩
    | cons c l =>
      obtain ⟨xs', x, ys', y, e1, e2, h', r'⟩ := ih (Nat.succ_le_succ (Nat.zero_le _))
      exact ⟨a :: xs', x, b :: ys', y, by rw [e1]; rfl, by rw [e2]; rfl, .cons r h', r'⟩
theorem papp {α β : Type} {R : α → β → Prop} {xs zs : List α} {ys ws : List β} (h : Paired R xs ys) (g : Paired R zs ws) : Paired R (xs ++ zs) (ys ++ ws) := by
  induction h with
  | nil => exact g
  | cons r _ ih => exact .cons r ih
theorem prevs {α β : Type} {R : α → β → Prop} {xs : List α} {ys : List β} (h : Paired R xs ys) : Paired R xs.reverse ys.reverse := by
  induction h with
  | nil => exact .nil
  | cons r _ ih => rw [List.reverse_cons, List.reverse_cons]; exact ih.snoc r

/-! ### heaps: tuples stay -/
def TuS (H H' : Hp) : Prop := ∀ b xs, Rd H b (.tup xs) → Rd H' b (.tup xs)
theorem TuS.refl (H : Hp) : TuS H H := fun _ _ h => h
theorem TuS.trans {H H1 H2 : Hp} (a : TuS H H1) (b : TuS H1 H2) : TuS H H2 := fun c xs h => b c xs (a c xs h)
theorem Same_ts {H H' : Hp} (e : Same H H') : TuS H H' := fun b xs h => h.elim (fun h => .inl (e _ _ h)) fun ⟨o, h⟩ => .inr ⟨o, e _ _ h⟩
theorem TuS.new {H : Hp} {l : Addr} {o : HO} (h : H l = none) : TuS H (upd H l o) := fun b xs r => by
  have nb : b ≠ l := fun e => by
    subst e
    rcases r with r | ⟨_, r⟩ <;> rw [h] at r <;> cases r
  unfold Rd
  rw [upd_ne nb]
  exact r
theorem TuS.lst {H : Hp} {l : Addr} {o : HO} {ys : List V} (h : H l = some (.lst ys)) : TuS H (upd H l o) := fun b xs r => by
  have nb : b ≠ l := fun e => by
    subst e
    rcases r with r | ⟨_, r⟩ <;> rw [h] at r <;> cases r
  unfold Rd
  rw [upd_ne nb]
  exact r
theorem TuS.sq {K : PySem.W.Frag} {H H' : Hp} {a : Addr} {xs : List V} (e : TuS H H') (h : SqT K H a xs) : SqT K H' a xs := h.elim (fun h => .inl (e _ _ h)) .inr
theorem same_new {H : Hp} {l : Addr} {o : HO} (h : H l = none) : Same H (upd H l o) := fun b u e => by rw [upd_ne (ne_of_none e h)]; exact e
theorem same_own {H H1 : Hp} {l : Addr} {o : HO} (s : Same H H1) (h : H l = none) : Same H (upd H1 l o) := fun b u e => by rw [upd_ne (ne_of_none e h)]; exact s b u e

/-! ### places -/
theorem at0 {α : Type} {x : α} {r : List α} : atI (x :: r) 0 = some x := atI_nat (j := 0) rfl
theorem at1 {α : Type} {x y : α} {r : List α} : atI (x :: y :: r) 1 = some y := atI_nat (j := 1) rfl
theorem at2 {α : Type} {x y z : α} {r : List α} : atI (x :: y :: z :: r) 2 = some z := atI_nat (j := 2) rfl
theorem atI_lt {α : Type} {xs : List α} {i : Int} (h0 : 0 ≤ i) (h1 : i < xs.length) : ∃ v, atI xs i = some v ∧ v ∈ xs := by
  obtain ⟨j, rfl⟩ := Int.eq_ofNat_of_zero_le h0
  have hj : j < xs.length := by omega
  exact ⟨xs[j], atI_nat (List.getElem?_eq_getElem hj), List.getElem_mem hj⟩
theorem ixN_last {α : Type} (xs : List α) (x : α) : ixN (xs ++ [x]).length (-1) = some xs.length := by
  have e : (xs ++ [x]).length = xs.length + 1 := by rw [List.length_append]; rfl
  unfold ixN
  rw [e, if_neg (by decide), if_pos (by omega)]
  congr 1
  omega
theorem set_last {α : Type} : ∀ (xs : List α) (x y : α), (xs ++ [x]).set xs.length y = xs ++ [y]
  | [], _, _ => rfl
  | a :: xs, x, y => by show a :: (xs ++ [x]).set xs.length y = _; rw [set_last xs x y]; rfl
theorem last_of {α : Type} (xs : List α) (x : α) : (xs ++ [x])[(xs ++ [x]).length - 1]? = some x := by
  rw [List.length_append]
  simp
theorem drop_of {α : Type} (xs : List α) (x : α) : (xs ++ [x]).dropLast = xs := by simp
theorem ifT {c A B : Prop} [Decidable c] (hc : c) (h : A) : if decide c = true then A else B := by
  rw [decide_eq_true hc]
  exact iteT h
theorem ifF {c A B : Prop} [Decidable c] (hc : ¬ c) (h : B) : if decide c = true then A else B := by
  rw [decide_eq_false hc]
  exact iteF h
theorem small {n : Nat} (h : n ≤ 100000) : n ≤ sizeLine := Nat.le_trans h (by decide)
theorem small' {n : Nat} (h : n ≤ 100000) : n < sizeLine := Nat.lt_of_le_of_lt h (by decide)

section
variable {X : Cx}
/-! ### isinstance(x, str), of a text or of a tuple -/
theorem kit_str (K : PySem.W.Frag) : PySem.W.kitOne K (.type "str") (.type "str") = some true := rfl
theorem kit_tup (K : PySem.W.Frag) : PySem.W.kitOne K (.type "tuple") (.type "str") = some false := by
  show (if (Value.type "tuple" == Value.type "str") = true then some true else if PySem.W.kitMeta "str" = true then (fastBuiltinMro "tuple").map (·.contains (Value.type "str")) else none) = some false
  decide +kernel
theorem call_isStr : CallR X (.builtin "isinstance") (fun xs H Q => ∃ x, xs = [x, .ty "str"] ∧ ((∃ z, x = .str z ∧ Q (.bl true) H) ∨ ∃ a ys, x = .ref a ∧ SqT X.K H a ys ∧ Q (.bl false) H)) := by
  intro pins s σ H xs us Q I r h
  obtain ⟨x, rfl, h⟩ := h
  obtain ⟨u, w', rfl, rx, ry⟩ := vals2 r
  cases (show w' = Value.type "str" from ry)
  rcases h with ⟨z, rfl, q⟩ | ⟨a, ys, rfl, hq, q⟩
  · exact isinst_ok I rx (.str z) (kit_str _) fun tk => ⟨.bl true, H, I.tok tk, rfl, q⟩
  · cases (show u = Value.ref a from rx)
    obtain ⟨its, r', pl, hz⟩ := I.tuple hq
    obtain ⟨o, h1, h2, _⟩ := pl
    exact PySem.W.kia_one PySem.W.kitx_tuple I.kIn ⟨o, h1, h2⟩ (kit_tup _) (fun z => nomatch z) fun tk => ⟨.bl false, H, I.tok tk, rfl, q⟩

/-! ### a dict of the top rows, looked up at a text -/
def GD (K : PySem.W.Frag) (pr : Params) (d : Addr) : Prop := ∃ es n, K.lookup d = some ⟨.type "dict", none, .dict es n, #[]⟩ ∧ PySem.W.KeysLit pr es.toList
def rGD (K : PySem.W.Frag) (pr : Params) : R2 := fun x y H Q => ∃ d k v u, x = .ref d ∧ y = .str k ∧ GD K pr d ∧ PySem.W.nsIn K d k = some (some u) ∧ RelV v u ∧ Q v H
theorem ix_gdict : IxR X (rGD X.K X.w.params) := by
  intro value slice pins s σ H x y v u Q I rx ry h hs
  obtain ⟨d, k, z, u', rfl, rfl, ⟨es, n, hl, hk⟩, e, rz, q⟩ := h
  cases rx
  obtain ⟨t, rfl⟩ := ry
  have hm := PySem.W.mapOf_K (prog := X.prog) I.kIn hl hk
  exact tail_any hm.typeIs slot_dict_getitem.lookup (wpAny_getItem_of (strKind_is X.prog X.w k t) hm (PySem.W.find_K hl e) ⟨z, H, I.tok _, rz, q⟩) hs

/-! ### ''.join(xs) -/
theorem strsAre_of {ys : List Str} : ∀ {us : List Value}, Vals (ys.map V.str) us → StrsAre us ys := by
  induction ys with
  | nil => intro us r; cases r; exact .nil
  | cons y ys ih =>
    intro us r
    cases r with
    | cons h r =>
      obtain ⟨t, rfl⟩ := h
      exact .cons y t (ih r)
def rJoin (K : PySem.W.Frag) : V → List V → Hp → VK → Prop := fun x vs H Q => ∃ z l ys, x = .str z ∧ vs = [.ref l] ∧ SqL K H l (ys.map V.str) ∧ (ys.map (·.length)).sum + ys.length * z.length ≤ 16777216 ∧ Q (.str (Str.join z ys)) H
theorem mt_join : MtR X "str.join" (rJoin X.K) := by
  intro pins s σ H x vs v us Q I rx rv h
  obtain ⟨z, l, ys, rfl, rfl, hl, hz, q⟩ := h
  obtain ⟨t, rfl⟩ := rx
  obtain ⟨u, rfl, ru⟩ := vals1 rv
  cases ru
  obtain ⟨its, r, pl, _⟩ := I.list hl
  refine join_list pl.isList (ys := ys) (by simpa using strsAre_of r) hz fun t' k => ?_
  refine ⟨.str (Str.join z ys), H, I.tok k, ⟨t', ?_⟩, q⟩
  rw [show Txt.join z ys = Str.join z ys from StrLaws.glued_eq_join z ys]
end
end My
namespace My
open PySem PySem.Spec PyProof.Rows L2

/-! ### a saying as it stands in the heap -/
inductive Sy (K : PySem.W.Frag) (H : Hp) : V → Sg → Prop
  | no {a : Addr} (h : SqT K H a [.str "no"]) : Sy K H (.ref a) .no
  | lt {a : Addr} {x : Str} (h : SqT K H a [.str "letter", .str x]) : Sy K H (.ref a) (.lt x)
  | not {a : Addr} {v : V} {s : Sg} (h : SqT K H a [.str "not", v]) (hv : Sy K H v s) : Sy K H (.ref a) (.not s)
  | shown {a : Addr} {v : V} {s : Sg} (h : SqT K H a [.str "shown", v]) (hv : Sy K H v s) : Sy K H (.ref a) (.shown s)
  | bin {a : Addr} {v u : V} {j : Jn} {s t : Sg} (h : SqT K H a [.str j.word, v, u]) (hv : Sy K H v s) (hu : Sy K H u t) : Sy K H (.ref a) (.bin j s t)
theorem Sy.stay {K : PySem.W.Frag} {H H' : Hp} (e : TuS H H') {v : V} {s : Sg} (h : Sy K H v s) : Sy K H' v s := by
  induction h with
  | no h => exact .no (e.sq h)
  | lt h => exact .lt (e.sq h)
  | not h _ ih => exact .not (e.sq h) ih
  | shown h _ ih => exact .shown (e.sq h) ih
  | bin h _ _ ih1 ih2 => exact .bin (e.sq h) ih1 ih2
theorem Sy.ref {K : PySem.W.Frag} {H : Hp} {v : V} {s : Sg} (h : Sy K H v s) : ∃ a xs, v = .ref a ∧ SqT K H a xs := by
  cases h with
  | no h => exact ⟨_, _, rfl, h⟩
  | lt h => exact ⟨_, _, rfl, h⟩
  | not h _ => exact ⟨_, _, rfl, h⟩
  | shown h _ => exact ⟨_, _, rfl, h⟩
  | bin h _ _ => exact ⟨_, _, rfl, h⟩
theorem strne {a b : Str} (h : ¬ a = b) : ¬ V.str a = V.str b := fun e => h (V.str.inj e)
theorem w_ln : ¬ V.str "letter" = V.str "no" := strne (by decide +kernel)
theorem w_nn : ¬ V.str "not" = V.str "no" := strne (by decide +kernel)
theorem w_nl : ¬ V.str "not" = V.str "letter" := strne (by decide +kernel)
theorem w_sn : ¬ V.str "shown" = V.str "no" := strne (by decide +kernel)
theorem w_sl : ¬ V.str "shown" = V.str "letter" := strne (by decide +kernel)
theorem w_st : ¬ V.str "shown" = V.str "not" := strne (by decide +kernel)
theorem w_jn (j : Jn) : ¬ V.str j.word = V.str "no" := by cases j <;> exact strne (by decide +kernel)
theorem w_jl (j : Jn) : ¬ V.str j.word = V.str "letter" := by cases j <;> exact strne (by decide +kernel)
theorem w_jt (j : Jn) : ¬ V.str j.word = V.str "not" := by cases j <;> exact strne (by decide +kernel)
theorem w_js (j : Jn) : ¬ V.str j.word = V.str "shown" := by cases j <;> exact strne (by decide +kernel)

/-- a stack of sayings -/
abbrev Stk (K : PySem.W.Frag) (H : Hp) : List V → List Sg → Prop := Paired fun v s => Sy K H v s
theorem Stk.stay {K : PySem.W.Frag} {H H' : Hp} (e : TuS H H') {vs : List V} {ss : List Sg} (h : Stk K H vs ss) : Stk K H' vs ss := Paired.imp' (fun _ _ => Sy.stay e) h
def PcR (K : PySem.W.Frag) (H : Hp) (v : V) (p : Pc) : Prop := match p with
  | .s x => v = .str x
  | .g a => Sy K H v a
theorem PcR.stay {K : PySem.W.Frag} {H H' : Hp} (e : TuS H H') {v : V} {p : Pc} (h : PcR K H v p) : PcR K H' v p := by
  cases p with
  | s x => exact h
  | g a => exact Sy.stay e h
theorem pcs_stay {K : PySem.W.Frag} {H H' : Hp} (e : TuS H H') {vs : List V} {ps : List Pc} (h : Paired (PcR K H) vs ps) : Paired (PcR K H') vs ps := Paired.imp' (fun _ _ => PcR.stay e) h

/-! ### words drawn by a place -/
theorem three {i : Int} (h0 : 0 ≤ i) (h1 : i < 3) : i = 0 ∨ i = 1 ∨ i = 2 := by omega
theorem jw {i : Int} (h0 : 0 ≤ i) (h1 : i < 3) : ∃ j : Jn, atI [V.str "and", V.str "or", V.str "if"] i = some (V.str j.word) := by
  rcases three h0 h1 with rfl | rfl | rfl
  · exact ⟨.and, at0⟩
  · exact ⟨.or, at1⟩
  · exact ⟨.if_, at2⟩
theorem uw {i : Int} (h0 : 0 ≤ i) (h1 : i < 3) : ∃ b : Bool, atI [V.str "not", V.str "shown", V.str "shown"] i = some (V.str (if b then "not" else "shown")) := by
  rcases three h0 h1 with rfl | rfl | rfl
  · exact ⟨true, at0⟩
  · exact ⟨false, at1⟩
  · exact ⟨false, at2⟩
theorem at3 {α : Type} {x y z u : α} {r : List α} : atI (x :: y :: z :: u :: r) 3 = some u := atI_nat (j := 3) rfl
theorem leaf4 {K : PySem.W.Frag} {H : Hp} {a b c d : V} {i : Int} (ha : Sy K H a .no) (hb : Sy K H b (.lt "p")) (hc : Sy K H c (.lt "q")) (hd : Sy K H d (.lt "r")) (h0 : 0 ≤ i) (h1 : i < 4) :
    ∃ v s, atI [a, b, c, d] i = some v ∧ Sy K H v s ∧ s.wt ≤ 3 ∧ s.Wf := by
  have e : i = 0 ∨ i = 1 ∨ i = 2 ∨ i = 3 := by omega
  rcases e with rfl | rfl | rfl | rfl
  · exact ⟨a, _, at0, ha, by decide, True.intro⟩
  · exact ⟨b, _, at1, hb, by decide +kernel, .inl rfl⟩
  · exact ⟨c, _, at2, hc, by decide +kernel, .inr (.inl rfl)⟩
  · exact ⟨d, _, at3, hd, by decide +kernel, .inr (.inr rfl)⟩
def un (b : Bool) (s : Sg) : Sg := if b then .not s else .shown s
theorem Sy.un {K : PySem.W.Frag} {H : Hp} {a : Addr} {v : V} {s : Sg} (b : Bool) (h : SqT K H a [.str (if b then "not" else "shown"), v]) (hv : Sy K H v s) : Sy K H (.ref a) (un b s) := by
  cases b with
  | true => exact .not h hv
  | false => exact .shown h hv
theorem un_wf (b : Bool) {s : Sg} (h : s.Wf) : (un b s).Wf := by cases b <;> exact h
theorem un_wt (b : Bool) (s : Sg) : (un b s).wt ≤ 3 + s.wt := by
  cases b with
  | true => show 2 + s.wt ≤ 3 + s.wt; omega
  | false => exact Nat.le_refl _
theorem q3 : (0 : Int) < 3 := by decide
theorem q4 : (0 : Int) < 4 := by decide
theorem q9 : (0 : Int) < 9 := by decide
theorem q15 : (0 : Int) < 15 := by decide
theorem q20 : (0 : Int) < 20 := by decide
theorem q30 : (0 : Int) < 30 := by decide
theorem q40 : (0 : Int) < 40 := by decide
theorem qA : (0 : Int) < 2147483647 := by decide
theorem qB : (0 : Int) < 1000000007 := by decide
end My
/-! ### list comprehensions: one for, at most one test, captured names -/
namespace My
open PySem PySem.Spec PyProof.Rows L2
def AllIn (cells : List (Str × Addr)) : List (Str × Addr) → Prop
  | [] => True
  | p :: r => cells.lookup p.1 = some p.2 ∧ AllIn cells r
theorem allIn_sub {cells : List (Str × Addr)} : ∀ {cl : List (Str × Addr)}, AllIn cells cl → ∀ y c, cl.lookup y = some c → cells.lookup y = some c
  | [], _, _, _, h => by simp at h
  | (z, d) :: r, a, y, c, h => by
    cases e : y == z with
    | true =>
      rw [List.lookup_cons, e] at h
      have h' : d = c := Option.some.inj h
      have e' : y = z := eq_of_beq e
      rw [e', ← h']
      exact a.1
    | false =>
      rw [List.lookup_cons, e] at h
      exact allIn_sub a.2 y c h
def hasAll (cl : List (Str × Addr)) (names : List (Str × NameKind)) : Bool := names.all fun p => !(p.2 == .cell || p.2 == .free) || (cl.lookup p.1).isSome
theorem hasAll_of {cl : List (Str × Addr)} {y : Str} : ∀ {names : List (Str × NameKind)}, hasAll cl names = true → (names.lookup y = some .cell ∨ names.lookup y = some .free) → ∃ c, cl.lookup y = some c
  | [], _, h => by rcases h with h | h <;> simp at h
  | (z, k) :: r, a, h => by
    have a' : (!(k == .cell || k == .free) || (cl.lookup z).isSome) = true ∧ hasAll cl r = true := by
      unfold hasAll at a
      rw [List.all_cons, Bool.and_eq_true] at a
      exact a
    cases e : y == z with
    | true =>
      rw [List.lookup_cons, e] at h
      have e' : y = z := eq_of_beq e
      subst e'
      have hk : (k == NameKind.cell || k == NameKind.free) = true := by
        rcases h with h | h
        · have : k = .cell := Option.some.inj h
          subst this; rfl
        · have : k = .free := Option.some.inj h
          subst this; rfl
      have := a'.1
      rw [hk] at this
      exact Option.isSome_iff_exists.mp this
    | false =>
      rw [List.lookup_cons, e] at h
      exact hasAll_of a'.2 h
def CapOk (X : Cx) (scope : Scope) (cl : List (Str × Addr)) : List (Str × Nat) → Prop
  | [] => True
  | p :: r => (X.N[p.2]? = some p.1 ∧ (X.env.scope.names.lookup p.1 = some .cell ∨ X.env.scope.names.lookup p.1 = some .free) ∧ (cl.lookup p.1).isSome = true ∧
      ((relabel scope X.env).names.lookup p.1 = some .cell ∨ (relabel scope X.env).names.lookup p.1 = some .free)) ∧ CapOk X scope cl r
theorem CapOk.at {X : Cx} {scope : Scope} {cl : List (Str × Addr)} : ∀ {ys : List (Str × Nat)} {j : Nat} {p : Str × Nat}, CapOk X scope cl ys → ys[j]? = some p →
    X.N[p.2]? = some p.1 ∧ (X.env.scope.names.lookup p.1 = some .cell ∨ X.env.scope.names.lookup p.1 = some .free) ∧ (cl.lookup p.1).isSome = true ∧ ((relabel scope X.env).names.lookup p.1 = some .cell ∨ (relabel scope X.env).names.lookup p.1 = some .free)
  | [], _, _, _, h => by simp at h
  | q :: r, 0, p, a, h => by
    have e : q = p := Option.some.inj h
    subst e
    exact a.1
  | q :: r, j + 1, p, a, h => CapOk.at a.2 h
def capσ (σ : L2.St) (ys : List (Str × Nat)) : L2.St := ys.map fun p => (σ[p.2]?).join
/-- the block's own context -/
def cxComp (X : Cx) (scope : Scope) (cl : List (Str × Addr)) (C : Addr) (s₀ : Shared) (H₀ : Hp) (ex : List Addr) (x : Str) (ys : List (Str × Nat)) : Cx where
  prog := X.prog
  w := X.w
  K := X.K
  mg := X.mg
  base := X.base
  A := X.A
  N := x :: ys.map (·.1)
  s₀ := s₀
  H₀ := H₀
  env := compEnvC scope cl C X.env
  outer := X.stack
  stack := X.stack
  ex := ex
  fn := fun _ => false
  calm := X.calm
  pn := []
  xe := fun _ _ => False
section
variable {X : Cx} {scope : Scope} {cl : List (Str × Addr)} {C : Addr} {x : Str} {ys : List (Str × Nat)} {pins : List (Addr × Obj)} {σ : L2.St} {H : Hp} {s : Shared} {ex : List Addr}
theorem comp_ok (I : Inv X pins σ H s) (hkind : scope.kind = .function) (hsub : AllIn X.env.cells cl) (hhas : hasAll cl (relabel scope X.env).names = true) (hC : s.heap.objs.size ≤ C)
    (hf : ∀ b ∈ ex, FpOk X pins H b) (hlt : ∀ b ∈ ex, b < s.heap.objs.size) : (cxComp X scope cl C s H ex x ys).Ok where
  mod := I.ok.mod
  kind := hkind
  glob := I.ok.glob
  blt := I.ok.blt
  above := hC
  inj := fun y z c h1 h2 => I.ok.inj y z c (allIn_sub hsub y c h1) (allIn_sub hsub z c h2)
  has := fun y h => hasAll_of hhas h
  cab := fun _ _ h => absurd h Bool.false_ne_true
  hd := I.ok.hd
  frames := I.ok.frames
  stk := .inl rfl
  exf := fun b hb => ⟨Nat.ne_of_lt (Nat.lt_of_lt_of_le (hlt b hb) hC), fun y c h => (hf b hb).2.2.2.2.1 y c (allIn_sub hsub y c h)⟩
  bs := I.bs
  bsz := Nat.le_trans I.ok.bsz I.sz
  noex := fun b o e hb => by
    obtain ⟨_, _, _, h3, _⟩ := hf b hb
    rcases h3 with h3 | h3
    · exact I.ok.noex b o e h3
    · exact absurd (Nat.lt_of_lt_of_le (Heap.lt_size (I.ok.bs b o e).1) h3) (Nat.lt_irrefl _)
  exfs := fun b hb hs => by
    rcases List.mem_cons.mp (I.stkSub b hs) with e | e
    · exact (hf b hb).2.1 e
    · exact (hf b hb).2.2.1 e
  funs := I.stack
  frf := I.stkFree
theorem comp_start {h₁ : Heap} {t : Nat} {m : Str → Option Value} (I : Inv X pins σ H s) (hkind : scope.kind = .function) (hsub : AllIn X.env.cells cl) (hhas : hasAll cl (relabel scope X.env).names = true) (hcap : CapOk X scope cl ys) (hC : s.heap.objs.size ≤ C)
    (hf : ∀ b ∈ ex, FpOk X pins H b) (hlt : ∀ b ∈ ex, b < s.heap.objs.size) (hk : ∀ b o, s.heap.get? b = some o → h₁.get? b = some o) (hn : h₁.Ns C m) :
    Inv (cxComp X scope cl C s H ex x ys) [] (none :: capσ σ ys) H { s with heap := h₁, toks := t } where
  ok := comp_ok I hkind hsub hhas hC hf hlt
  os := rfl
  bare := I.bare
  base := Un.kept hk
  loc := by
    refine ⟨m, hn, fun i y v e1 e2 e3 => ?_⟩
    cases i with
    | zero => cases e2
    | succ j =>
      have e1' : (ys.map (·.1))[j]? = some y := e1
      have e2' : (capσ σ ys)[j]? = some (some v) := e2
      rw [List.getElem?_map] at e1'
      unfold capσ at e2'
      rw [List.getElem?_map] at e2'
      cases q : ys[j]? with
      | none => rw [q] at e1'; cases e1'
      | some p =>
        rw [q] at e1' e2'
        have ey : p.1 = y := Option.some.inj e1'
        have ev : (σ[p.2]?).join = some v := Option.some.inj e2'
        subst ey
        have ev' : σ[p.2]? = some (some v) := by
          cases z : σ[p.2]? with
          | none => rw [z] at ev; cases ev
          | some o => rw [z] at ev; exact congrArg some ev
        obtain ⟨a1, a2, a3, a4⟩ := hcap.at q
        obtain ⟨m0, _, hl⟩ := I.loc
        obtain ⟨u, ru, lk⟩ := hl p.2 p.1 v a1 ev' (.inr a2)
        refine ⟨u, ru, .inr ⟨a4, ?_⟩⟩
        rcases lk with ⟨k1, _⟩ | ⟨_, c, ec, o, ho, hd⟩
        · have k1' : X.env.scope.names.lookup p.1 = some .local := k1
          rcases a2 with a2 | a2 <;> rw [k1'] at a2 <;> cases a2
        · obtain ⟨c', ec'⟩ := Option.isSome_iff_exists.mp a3
          have := allIn_sub hsub _ _ ec'
          rw [ec] at this
          cases this
          exact ⟨c, ec', o, hk c o ho, hd⟩
  cell := fun y c h => by
    obtain ⟨v, o, ho, hd⟩ := I.cell y c (allIn_sub hsub y c h)
    exact ⟨v, o, hk c o ho, hd⟩
  free := I.hok.fresh hC
  freeC := fun y c h => I.freeC y c (allIn_sub hsub y c h)
  pin := fun p hp => nomatch hp
  hok := I.hok.kept hk
  len := by simp [cxComp, capσ]
theorem comp_end {σ' : L2.St} {H' : Hp} {s' : Shared} {h' : Heap} (I : Inv X pins σ H s) (I' : Inv (cxComp X scope cl C s H ex x ys) [] σ' H' s') (hC : s.heap.objs.size ≤ C) (hf : ∀ b ∈ ex, FpOk X pins H b) (hs : Heap.SameBut C s'.heap h') :
    Inv X pins σ H' { s' with heap := h' } := by
  have u := I'.base
  have nC : ∀ b o, s.heap.get? b = some o → b ≠ C := fun b o e => Nat.ne_of_lt (Nat.lt_of_lt_of_le (Heap.lt_size e) hC)
  have kp : ∀ b o, b ≠ C → s'.heap.get? b = some o → h'.get? b = some o := fun b o hb e => (hs.2 b hb).trans e
  have fC : H' C = none := I'.free
  have nt : ∀ b o, H' b = some o → b ≠ C := fun b o e z => by rw [z, fC] at e; cases e
  refine I.call' (ch := ex) (s' := { s' with heap := h' }) I'.os ⟨fun b o e n hb hx => kp b o (nC b o e) (u.keep b o e n hb hx), fun b o e n hb hx => ?_, fun b o e n hx => u.free b o e n hx, fun b o e hx => ?_, u.tups, u.frzs, u.tbls⟩ (fun b o e => ?_) I'.bare fun b hb => ?_
  · obtain ⟨sl, q⟩ := u.slot b o e n hb hx
    exact ⟨sl, kp b _ (nC b o e) q⟩
  · obtain ⟨o', q⟩ := u.there b o e hx
    exact ⟨o', kp b _ (nC b o e) q⟩
  · refine (I'.hok b o e).stay (fun c v hc q => kp c v ?_ q) (fun _ q => q) fun _ _ q => q
    rcases hc with z | z
    · rw [z]; exact nt b o e
    · exact nt c _ z
  · obtain ⟨_, f1, _, f3, f4, f5⟩ := hf b hb
    exact ⟨f3, f1, f4, f5⟩
end
/-- the tests of a comprehension -/
def PTs (X : Cx) (ifs : List Expr) (t : TT) : Prop :=
  ∀ (pins : List (Addr × Obj)) (s : Shared) (σ : L2.St) (H : Hp) (E : Value → Shared → Prop) (Q : Bool → Hp → Prop), Inv X pins σ H s → t σ H Q →
    wpAny (model X.prog X.w) X.A (forIn ifs true fun c r => if r = true then do let ok ← isTrue c X.env (eval c X.env); pure (ForInStep.yield ok) else pure (ForInStep.yield r)) (TP X pins σ Q) E s
def tYes : TT := fun _ H Q => Q true H
theorem pts_nil {X : Cx} : PTs X [] tYes := fun _ _ _ H _ _ I h => wpAny_tests_nil ⟨H, I, h⟩
theorem pts_one {X : Cx} {c : Expr} {t : TT} (hx : X.xe = fun _ _ => False) (h : PT X c t) : PTs X [c] t := fun pins s σ H E Q I q =>
  wpAny_tests_one (wpAny_mono (h pins s σ H Q I q) (fun _ _ z => z) fun e s' z => by rw [hx] at z; exact z.elim)
def tComp (ys : List (Str × Nat)) (wi : TI) (tt : TT) (te : TE) : TE := fun σ H Q => wi σ H fun J H1 => ∀ D, H1 D = none → ∃ W : Nat → Nat → Hp → Prop, (∃ m, W 0 m (upd H1 D (.lst []))) ∧ ∀ i m H2, W i m H2 →
  (J.stop i H2 ∧ Q (.ref D) H2) ∨ (J.go i H2 ∧ ∃ N : Hp → Prop, (∀ H', N H' → ∃ m', m' < m ∧ W (i + 1) m' H') ∧ ∀ x H3, J.yld i H2 x H3 → tt (some x :: capσ σ ys) H3 fun ok H4 =>
    if ok = true then te (some x :: capσ σ ys) H4 fun y H5 => ∃ xs, H5 D = some (.lst xs) ∧ xs.length < sizeLine ∧ N (upd H5 D (.lst (xs ++ [y]))) else N H4)
section
variable {X : Cx} {scope : Scope} {cl : List (Str × Addr)} {x : Str} {px pos : Pos} {ys : List (Str × Nat)} {elt iter : Expr} {ifs : List Expr} {wi : TI} {tt : TT} {te : TE}
theorem pe_comp (hc : X.calm = true) (ys : List (Str × Nat)) (hi : PI X (.Name x px) iter wi) (ht : ∀ C s₀ H₀ ex, PTs (cxComp X scope cl C s₀ H₀ ex x ys) ifs tt) (he : ∀ C s₀ H₀ ex, PE (cxComp X scope cl C s₀ H₀ ex x ys) elt te)
    (hclos : closureFor scope X.env = pure cl := by rfl) (hsub : AllIn X.env.cells cl := by repeat (first | exact True.intro | refine And.intro rfl ?_)) (hhas : hasAll cl (relabel scope X.env).names = true := by rfl)
    (hcap : CapOk X scope cl ys := by repeat (first | exact True.intro | refine And.intro ⟨rfl, .inl rfl, rfl, .inl rfl⟩ ?_))
    (hcell : ∀ y ∈ scope.names, y.2 ≠ .cell := by decide +kernel) (hkind : scope.kind = .function := by rfl) (hnames : ∀ y ∈ scope.names, y.2 = .local → scope.names.lookup y.1 = some .local := by decide +kernel)
    (hx : scope.names.lookup x = some .local := by rfl) (hnd : (x :: ys.map (·.1)).Nodup := by decide +kernel) (hs : ∀ z, foldedSetIterable iter X.env z = pure z := by intro _; rfl) :
    PE X (.ListComp elt [⟨.Name x px, iter, ifs, 0⟩] scope pos) (tComp ys wi tt te) := by
  intro pins s σ H Q I h
  rw [eval_ListComp]
  refine wpAny_comprehension_free (use := none) rfl hs hclos hkind hnames (thn (hi pins s σ H _ I h) fun v s1 h1 => thn h1 fun itv s2 h2 => ?_)
  obtain ⟨it, fp, tn, J, H2, rfl, I2, T, st2, f2, q⟩ := h2
  refine wpAny_newObj_type (wpAny_newFunctionEnv hcell (by intro y hy; simp at hy) (fun h₁ hns₁ hsb₁ => ?_) hkind)
  have hD : H2 s2.heap.objs.size = none := I2.hok.fresh (Nat.le_refl _)
  have I3 : Inv X pins σ (upd H2 s2.heap.objs.size (.lst [])) { s2 with heap := s2.heap.push { cls := .type "list", dict := none, data := .seq ([] : List Value).toArray } } := I2.lnew (its := []) (t' := s2.toks) .nil (Nat.zero_le _)
  obtain ⟨W, ⟨m0, w0⟩, turn⟩ := q _ hD
  have hlt : ∀ b ∈ fp, b < s2.heap.objs.size := fun b hb => let ⟨o, e, _⟩ := T.obj _ _ st2 b hb; Heap.lt_size e
  have hDn : ∀ b ∈ fp, b ≠ s2.heap.objs.size := fun b hb => Nat.ne_of_lt (hlt b hb)
  dsimp only at hns₁ hsb₁ ⊢
  generalize hH3 : s2.heap.push { cls := .type "list", dict := none, data := .seq ([] : List Value).toArray } = h3 at hns₁ hsb₁ I3 ⊢
  have hsz3 : h3.objs.size = s2.heap.objs.size + 1 := by rw [← hH3, Heap.size_push]
  have hlt3 : ∀ b ∈ fp, b < h3.objs.size := fun b hb => by rw [hsz3]; exact Nat.lt_succ_of_lt (hlt b hb)
  have f3 : ∀ b ∈ fp, FpOk X pins (upd H2 s2.heap.objs.size (.lst [])) b := fun b hb => by
    obtain ⟨a0, a⟩ := f2 b hb
    exact ⟨by rw [upd_ne (hDn b hb)]; exact a0, a⟩
  have old : ∀ b o, h3.get? b = some o → h₁.get? b = some o := fun b o e => hsb₁.extBut b o (Nat.ne_of_lt (Heap.lt_size e)) (Heap.get?_push_of_some _ e)
  have old2 : ∀ b o, s2.heap.get? b = some o → h₁.get? b = some o := fun b o e => old b o (by rw [← hH3]; exact Heap.get?_push_of_some _ e)
  have I4 := comp_start (x := x) (C := h3.objs.size) (h₁ := h₁) (t := s2.toks + ([] : List (Str × Value)).length) I3 hkind hsub hhas hcap (Nat.le_refl _) f3 hlt3 old hns₁
  have hxl : (relabel scope X.env).names.lookup x = some .local := lookup_relabel_local hx
  have fY : ∀ {H' : Hp}, (∀ b ∈ fp, H' b = none) → ∀ b ∈ fp, FpOk (cxComp X scope cl h3.objs.size { s2 with heap := h3 } (upd H2 s2.heap.objs.size (.lst [])) fp x ys) [] H' b := fun hn b hb =>
    ⟨hn b hb, (I4.ok.exf b hb).1, I4.ok.exfs b hb, .inl hb, (I4.ok.exf b hb).2, fun p hp => nomatch hp⟩
  have loop : ∀ s₃ : Shared, s₃ = { s2 with heap := h₁, toks := s2.toks + ([] : List (Str × Value)).length } →
      codeAny (model X.prog X.w) X.A (.compLoop (.ListComp elt [⟨.Name x px, iter, ifs, 0⟩] scope pos) 0 (.ref it) (.ref s2.heap.objs.size) (compEnvC scope cl h3.objs.size X.env))
        (compPost (model X.prog X.w) X.A X.xe none (EP X pins σ Q) (.ref s2.heap.objs.size) h3.objs.size) s₃ := by
    rintro s₃ rfl
    refine codeAny_compLoop_tests (fun n s' => ∃ i H' v0, Inv (cxComp X scope cl h3.objs.size { s2 with heap := h3 } (upd H2 s2.heap.objs.size (.lst [])) fp x ys) [] (v0 :: capσ σ ys) H' s' ∧ tn i s'.heap ∧ (∀ b ∈ fp, H' b = none) ∧ W i n H') ?_ m0
      ⟨0, _, none, I4, T.keep _ _ _ st2 fun b _ o e => old2 b o e, fun b hb => (f3 b hb).1, w0⟩
    rintro n s5 ⟨i, H5, v0, I5, st5, fr5, w5⟩
    rcases turn i n H5 w5 with ⟨stop, qn⟩ | ⟨go, N, hN, step⟩
    · refine thn (T.done (cxComp X scope cl h3.objs.size { s2 with heap := h3 } (upd H2 s2.heap.objs.size (.lst [])) fp x ys) rfl rfl rfl hc i [] s5 _ H5 _ I5 (fY fr5) st5 stop) fun r s6 ⟨hr, I6⟩ => ?_
      subst hr
      obtain ⟨m, hn, _⟩ := id I6.loc
      exact ⟨m, hn, fun h' hs' => ⟨.ref _, H5, comp_end I3 I6 (Nat.le_refl _) f3 hs', rfl, qn⟩⟩
    · refine thn (T.item (cxComp X scope cl h3.objs.size { s2 with heap := h3 } (upd H2 s2.heap.objs.size (.lst [])) fp x ys) rfl rfl rfl hc i [] s5 _ H5 _ I5 (fY fr5) st5 go) fun r s6 ⟨u, hr, h6⟩ => ?_
      subst hr
      show wpAny _ _ (assign (.Name x px) (compEnvC scope cl h3.objs.size X.env) u) _ _ s6
      rw [show assign (.Name x px) (compEnvC scope cl h3.objs.size X.env) u = (letOwnedTupleGo (.Name x px) (.ref it) u >>= fun _ => assign (.Name x px) (compEnvC scope cl h3.objs.size X.env) u) from by
        rw [show letOwnedTupleGo (.Name x px) (.ref it) u = pure () from rfl, pure_bind]]
      refine wpAny_bind (thn h6 fun _ s7 ⟨x7, H7, I7, r7, y7, st7, fr7⟩ => ?_)
      have I7' := I7.pinned (fY fr7) (T.obj _ _ st7)
      have hg : PG (cxComp X scope cl h3.objs.size { s2 with heap := h3 } (upd H2 s2.heap.objs.size (.lst [])) fp x ys) (.Name x px) (gName 0) := pg_name hnd rfl (.inl hxl) (.inr hxl)
      refine wpAny_mono (hg _ s7 _ H7 x7 u (fun σ' H' => σ' = some x7 :: capσ σ ys ∧ tt (some x7 :: capσ σ ys) H' fun ok H4 =>
        if ok = true then te (some x7 :: capσ σ ys) H4 fun y H5 => ∃ xs, H5 s2.heap.objs.size = some (.lst xs) ∧ xs.length < sizeLine ∧ N (upd H5 s2.heap.objs.size (.lst (xs ++ [y]))) else N H4) I7' r7 ⟨rfl, step x7 H7 y7⟩)
        (fun _ s8 ⟨σ8, H8, I8, e8, q8⟩ => ?_) (fun _ _ z => z.elim)
      subst e8
      have again : ∀ {H9 : Hp} {s9 : Shared}, Inv (cxComp X scope cl h3.objs.size { s2 with heap := h3 } (upd H2 s2.heap.objs.size (.lst [])) fp x ys) ([] ++ pinsAt fp s7.heap) (some x7 :: capσ σ ys) H9 s9 → N H9 →
          ∃ m, m < n ∧ ∃ i H' v0, Inv (cxComp X scope cl h3.objs.size { s2 with heap := h3 } (upd H2 s2.heap.objs.size (.lst [])) fp x ys) [] (v0 :: capσ σ ys) H' s9 ∧ tn i s9.heap ∧ (∀ b ∈ fp, H' b = none) ∧ W i m H' := fun {H9 s9} I9 n9 => by
        obtain ⟨m', hm, w9⟩ := hN H9 n9
        refine ⟨m', hm, i + 1, H9, some x7, I9.unpinned, T.keep _ _ _ st7 fun b hb o e => (I9.pin (b, o) (List.mem_append_right _ (List.mem_append_right _ (mem_pinsAt hb e)))).1, fun b hb => ?_, w9⟩
        obtain ⟨o, e, d⟩ := T.obj _ _ st7 b hb
        exact (I9.pin (b, o) (List.mem_append_right _ (List.mem_append_right _ (mem_pinsAt hb e)))).2.1
      refine thn (ht _ _ _ _ _ s8 _ H8 _ _ I8 q8) fun ok s9 ⟨H9, I9, q9⟩ => ?_
      cases ok with
      | false =>
        rw [if_neg Bool.false_ne_true] at q9 ⊢
        exact again I9 q9
      | true =>
        rw [if_pos rfl] at q9 ⊢
        refine wpAny_mono (he _ _ _ _ _ s9 _ H9 _ I9 q9) (fun y s10 ⟨vy, H10, I10, ry, xs, e10, hz, n10⟩ => ?_) (fun _ _ z => z.elim)
        exact wpAny_mono (mt_append (X := cxComp X scope cl h3.objs.size { s2 with heap := h3 } (upd H2 s2.heap.objs.size (.lst [])) fp x ys) _ s10 _ H10 (.ref s2.heap.objs.size) [vy] (.ref s2.heap.objs.size) [y] (fun _ H' => N H') I10 rfl (.cons ry .nil) ⟨_, xs, vy, rfl, rfl, e10, hz, n10⟩)
          (fun _ s11 ⟨_, H11, I11, _, n11⟩ => again I11 n11) (fun _ _ z => z.elim)
  exact codeAny_compStart_list (loop _ rfl) (T.self X.A 0 _ _ _ (T.keep _ _ _ st2 fun b _ o e => old2 b o e) (loop _ rfl))
end
end My
/-! ### rules for reading: enumerate over a text, tuples held against one another, membership in a dict of the top, all(..) -/
namespace My
open PySem PySem.Spec PyProof.Rows L2
section
variable {X : Cx} {pins : List (Addr × Obj)} {σ : L2.St} {H : Hp} {s : Shared} {h' : Heap}
theorem turnedL {t' : Nat} {fp : List Addr} (I : Inv X pins σ H s) (k : ∀ b o, b ∉ fp → s.heap.get? b = some o → h'.get? b = some o) (hf : ∀ b ∈ fp, FpOk X pins H b) : Inv X pins σ H { s with heap := h', toks := t' } := by
  have nit : ∀ b u, H b = some u → b ∉ fp := fun b u e z => by rw [(hf b z).1] at e; cases e
  refine I.step (g' := s.gens) (d' := s.drawn) (ch := fp) (fun b hb => ?_) (fun b o _ _ hc e _ => k b o hc e) (fun b o _ _ hc e _ => ⟨o.slots, k b o hc e⟩) (fun _ _ _ _ n => n)
    (fun b o hc e => ⟨o, k b o hc e⟩) (fun _ _ e => e) (fun _ _ _ e => e) (fun b ps e => ⟨#[], by rw [e]; simp⟩) (fun m hm => ?_) (fun b u e => ?_) I.bare
  · obtain ⟨_, h1, _, h3, h4, h5⟩ := hf b hb
    exact ⟨h3, h1, h4, h5⟩
  · obtain ⟨o, es, ep, ho, r⟩ := hm
    exact ⟨o, es, ep, k _ o (fun z => (hf _ z).2.1 rfl) ho, r⟩
  · refine (I.hok b u e).stay (fun c v hc q => k c v ?_ q) (fun _ q => q) fun _ _ q => q
    rcases hc with z | z
    · rw [z]; exact nit b u e
    · exact nit c _ z
end
/-- enumerate over the text x -/
def Ite (x : Str) : It := ⟨fun i _ => i < x.cps.size, fun i H v H' => ∃ t c, v = .ref t ∧ H t = none ∧ H' = upd H t (.tup [.int i, .str ⟨#[c]⟩]) ∧ x.cps[i]? = some c, fun i _ => x.cps.size ≤ i⟩
theorem drawsS {prog : Program} {w : World} {A : Around} (hh : A.handled = none) (it : Addr) (x : Str) (t : Tok) :
    Draws prog w A it [it] x.cps.size (fun i v => ∃ c u, x.cps[i]? = some c ∧ v = .str ⟨#[c]⟩ u) (fun i h => h.IsStrIter it (strIterType x) x t i) := by
  unfold strIterType
  split
  · exact Draws.strAscii hh it x t
  · exact Draws.strWide hh it x t
theorem turn_enum {P : Program} {w : World} {K : PySem.W.Frag} {elts : List Expr} {k1 : Nat} {pos : Pos} (e it : Addr) (hne : e ≠ it) (x : Str) (t : Tok) :
    Turn P w K (.Tuple elts k1 pos) (Ite x) [e, it] e (fun i h => i ≤ x.cps.size ∧ (∃ old, IsEnum h e it i old) ∧ h.IsStrIter it (strIterType x) x t i) where
  mem := by simp
  obj := fun i h st b hb => by
    obtain ⟨_, ⟨old, he⟩, o, ho, hc, hd⟩ := st
    rcases List.mem_cons.mp hb with rfl | hb
    · exact ⟨_, he, fun v z => by cases z⟩
    · rw [List.mem_singleton.mp hb]
      exact ⟨o, ho, fun v z => by rw [hd] at z; cases z⟩
  keep := fun i h h' st k => by
    obtain ⟨a, ⟨old, he⟩, o, ho, hc, hd⟩ := st
    exact ⟨a, ⟨old, k e (by simp) _ he⟩, o, k it (by simp) o ho, hc, hd⟩
  item := by
    intro X hP hw hK hc i pins s σ H E I hf st hg
    subst hP hw hK
    obtain ⟨a, ⟨old, he⟩, hs⟩ := st
    have hh : X.A.handled = none := I.ok.hd hc
    have hi : i < x.cps.size := hg
    refine wpAny_pyNext_enum_itemD (drawsS (A := X.A.in1) hh it x t) he hs hi hne (by simpa using hne) fun y h' tk hPy ho hs' hT hsz hk => ?_
    obtain ⟨c, u, ec, rfl⟩ := hPy
    refine ⟨_, rfl, wpAny_letOwnedTupleGo_enum ho fun h'' he'' hs'' => ?_⟩
    have elt : e < s.heap.objs.size := Heap.lt_size he
    have ilt : it < s.heap.objs.size := by obtain ⟨o, ho', _⟩ := hs; exact Heap.lt_size ho'
    have hTn : H s.heap.objs.size = none := I.hok.fresh (Nat.le_refl _)
    -- the tuple laid, then the records turned
    have I1 : Inv X pins σ (upd H s.heap.objs.size (.tup [.int i, .str ⟨#[c]⟩])) { s with heap := s.heap.push { cls := .type "tuple", data := .seq #[.int i tk, .str ⟨#[c]⟩ u] } } :=
      I.laid (t' := s.toks) (fun b o z => Heap.get?_push_of_some _ z) (Nat.le_refl _) ⟨by show 2 ≤ sizeLine; decide, [.int i tk, .str ⟨#[c]⟩ u], .cons ⟨tk, rfl⟩ (.cons ⟨u, rfl⟩ .nil), ⟨_, Heap.get?_push_size _ rfl, rfl, _, rfl⟩⟩
    have ne : ∀ b ∈ [e, it], b ≠ s.heap.objs.size := fun b hb => by
      rcases List.mem_cons.mp hb with rfl | hb
      · exact Nat.ne_of_lt elt
      · rw [List.mem_singleton.mp hb]; exact Nat.ne_of_lt ilt
    have f1 : ∀ b ∈ [e, it], FpOk X pins (upd H s.heap.objs.size (.tup [.int i, .str ⟨#[c]⟩])) b := fun b hb => by
      obtain ⟨a0, a⟩ := hf b hb
      exact ⟨by rw [upd_ne (ne b hb)]; exact a0, a⟩
    have I2 : Inv X pins σ (upd H s.heap.objs.size (.tup [.int i, .str ⟨#[c]⟩])) { s with heap := h'', toks := tk + 1 } := turnedL (s := { s with heap := s.heap.push { cls := .type "tuple", data := .seq #[.int i tk, .str ⟨#[c]⟩ u] } }) I1 (fun b o hb z => by
      have hbe : b ≠ e := fun q => hb (by simp [q])
      have hbi : b ≠ it := fun q => hb (by simp [q])
      refine (hs''.2 b hbe).trans ?_
      rcases Heap.get?_push_cases z with ⟨hb1, ho1⟩ | z2
      · rw [hb1, ho1]
        exact hT
      · exact hk b o hbe hbi z2) f1
    exact ⟨.ref s.heap.objs.size, _, I2, rfl, ⟨_, c, rfl, hTn, rfl, ec⟩, ⟨hi, ⟨_, by simpa using he''⟩, by
      obtain ⟨o, ho', hr⟩ := hs'
      exact ⟨o, (hs''.2 it hne.symm).trans ho', hr⟩⟩, fun b hb => (f1 b hb).1⟩
  done := by
    intro X hP hw hK hc i pins s σ H E I hf st hg
    subst hP hw hK
    obtain ⟨a, ⟨old, he⟩, hs⟩ := st
    have hh : X.A.handled = none := I.ok.hd hc
    have e1 : i = x.cps.size := Nat.le_antisymm a hg
    subst e1
    refine wpAny_pyNext_enum_endD (drawsS (A := X.A.in1) hh it x t) he hs fun h' hx => ⟨rfl, ?_⟩
    exact turnedL (t' := s.toks) I (fun b o hb z => hx b o (fun q => hb (by simp [q])) z) hf
  self := fun _ i s Q E st h => by
    obtain ⟨_, ⟨old, he⟩, _⟩ := st
    exact wpAny_pyIter_enum he h
section
variable {X : Cx} {elts : List Expr} {k1 : Nat} {tpos : Pos}
def iEnum (ta : TA) : TI := fun σ H R => ta σ H fun vs H1 => ∃ x, vs = [.str x] ∧ R (Ite x) H1
theorem pi_enum {a : Expr} {ta : TA} {p pos : Pos} (hg : Gl X "enumerate") (hm : X.mg "enumerate" = none) (ha : PA X [a] ta) (hs : starEach [a] X.env = [(false, eval a X.env)] := by rfl) : PI X (.Tuple elts k1 tpos) (.Call (.Name "enumerate" p) [a] [] pos) (iEnum ta) := by
  intro pins s σ H R I h
  refine Call_ (ld_blt I hg hm boot_enumerate (PyProof.Rows.callWith_type1 (thn (ha pos pins s σ H _ I h) fun us s1 ⟨vs, H1, I1, r1, q1⟩ => ?_) hs rfl))
  obtain ⟨x, rfl, q⟩ := q1
  obtain ⟨u, rfl, ru⟩ := vals1 r1
  obtain ⟨t, rfl⟩ := ru
  refine call_enumerate_str fun h' he hi hz hk => wpAny_pyIter_enum (s := { s1 with heap := h' }) he ?_
  have I2 : Inv X pins σ H1 { s1 with heap := h' } := I1.kept (t' := s1.toks) hk
  have fr : ∀ b, s1.heap.objs.size ≤ b → H1 b = none := fun b hb => I1.hok.fresh hb
  refine ⟨_, [_, _], _, Ite x, H1, rfl, I2, turn_enum (s1.heap.objs.size + 1) s1.heap.objs.size (Nat.ne_of_gt (Nat.lt_succ_self _)) x t, ⟨Nat.zero_le _, ⟨_, he⟩, hi⟩, fun b hb => ?_, q⟩
  rcases List.mem_cons.mp hb with rfl | hb
  · exact I1.fpOk (Nat.le_succ _) (fr _ (Nat.le_succ _))
  · rw [List.mem_singleton.mp hb]
    exact I1.fpOk (Nat.le_refl _) (fr _ (Nat.le_refl _))
end
theorem for_enum {x : Str} {g : TG} {tb : TS} {D : Ends} {σ : L2.St} {H : Hp} (Pv : Nat → L2.St → Hp → Prop) (h0 : Pv 0 σ H)
    (hs : ∀ i c t σ H, x.cps[i]? = some c → H t = none → Pv i σ H → g (.ref t) σ (upd H t (.tup [.int i, .str ⟨#[c]⟩])) fun σ2 H2 => tb { D with nx := Pv (i + 1), ct := Pv (i + 1), bk := D.nx } σ2 H2) (hd : ∀ σ H, Pv x.cps.size σ H → D.nx σ H) :
    ∃ W : Nat → Nat → L2.St → Hp → Prop, (∃ m, W 0 m σ H) ∧ ∀ i m σ H, W i m σ H →
      ((Ite x).stop i H ∧ D.nx σ H) ∨ ((Ite x).go i H ∧ ∃ N : L2.St → Hp → Prop, (∀ σ' H', N σ' H' → ∃ m', m' < m ∧ W (i + 1) m' σ' H') ∧ ∀ y H', (Ite x).yld i H y H' → g y σ H' fun σ2 H2 => tb { D with nx := N, ct := N, bk := D.nx } σ2 H2) := by
  refine ⟨fun i m σ H => m = x.cps.size - i ∧ i ≤ x.cps.size ∧ Pv i σ H, ⟨_, rfl, Nat.zero_le _, h0⟩, ?_⟩
  rintro i m σ H ⟨rfl, hi, p⟩
  by_cases hlt : i < x.cps.size
  · refine .inr ⟨hlt, Pv (i + 1), fun σ' H' p' => ⟨x.cps.size - (i + 1), by omega, rfl, hlt, p'⟩, fun y H' z => ?_⟩
    obtain ⟨t, c, rfl, ht, rfl, ec⟩ := z
    exact hs i c t σ H ec ht p
  · have e : i = x.cps.size := by omega
    subst e
    exact .inl ⟨Nat.le_refl _, hd σ H p⟩
/-! ### tuples held against one another: their first items, as far as both go, are flat -/
def eqAll : List V → List V → Bool
  | x :: xs, y :: ys => eqV x y && eqAll xs ys
  | [], [] => true
  | _, _ => false
def flats : List V → List V → Bool
  | x :: xs, y :: ys => flatV x && flatV y && flats xs ys
  | _, _ => true
theorem flats_at : ∀ {xs ys : List V} {j : Nat} {x y : V}, flats xs ys = true → xs[j]? = some x → ys[j]? = some y → flatV x = true ∧ flatV y = true
  | a :: xs, b :: ys, 0, x, y, h, h1, h2 => by
    have e1 : a = x := Option.some.inj h1
    have e2 : b = y := Option.some.inj h2
    subst e1 e2
    have h' : (flatV a && flatV b && flats xs ys) = true := h
    rw [Bool.and_eq_true, Bool.and_eq_true] at h'
    exact h'.1
  | a :: xs, b :: ys, j + 1, x, y, h, h1, h2 => by
    have h' : (flatV a && flatV b && flats xs ys) = true := h
    rw [Bool.and_eq_true, Bool.and_eq_true] at h'
    exact flats_at h'.2 h1 h2
  | [], _, _, _, _, _, h1, _ => by simp at h1
  | _ :: _, [], _, _, _, _, _, h2 => by simp at h2
def eqJ (xs ys : List V) (j : Nat) : Bool := match xs[j]?, ys[j]? with
  | some x, some y => eqV x y
  | _, _ => true
theorem eqAll_eq : ∀ (xs ys : List V), ((List.range (min xs.length ys.length)).all (eqJ xs ys) && xs.length == ys.length) = eqAll xs ys
  | [], [] => rfl
  | [], y :: ys => by simp [eqAll]
  | x :: xs, [] => by simp [eqAll]
  | x :: xs, y :: ys => by
    have ih := eqAll_eq xs ys
    have e : min (x :: xs).length (y :: ys).length = min xs.length ys.length + 1 := by simp only [List.length_cons]; omega
    rw [e, List.range_succ_eq_map, List.all_cons, List.all_map]
    have e2 : (eqJ (x :: xs) (y :: ys) ∘ Nat.succ) = eqJ xs ys := by
      funext j
      show eqJ (x :: xs) (y :: ys) (j + 1) = _
      unfold eqJ
      rw [List.getElem?_cons_succ, List.getElem?_cons_succ]
    rw [e2]
    show (eqV x y && (List.range (min xs.length ys.length)).all (eqJ xs ys) && ((xs.length + 1) == (ys.length + 1))) = (eqV x y && eqAll xs ys)
    rw [← ih, Bool.and_assoc]
    congr 2
    rw [Bool.eq_iff_iff, beq_iff_eq, beq_iff_eq]
    omega
section
variable {X : Cx}
def rEqT (K : PySem.W.Frag) : R2 := fun x y H Q => ∃ a b xs ys, x = .ref a ∧ y = .ref b ∧ SqT K H a xs ∧ SqT K H b ys ∧ flats xs ys = true ∧ Q (.bl (eqAll xs ys)) H
theorem op_eqT (hu : X.A.units < cLine) : OpR X (compareOp .Eq) (rEqT X.K) := by
  intro pins s σ H x y v u Q I rx ry h
  obtain ⟨a, b, xs, ys, rfl, rfl, hx, hy, hf, q⟩ := h
  cases rx
  cases ry
  obtain ⟨its, r, pl, hz⟩ := I.tuple hx
  obtain ⟨its2, r2, pl2, hz2⟩ := I.tuple hy
  have l1 := r.length
  have l2 := r2.length
  refine SeqAt.eq_tupleAt (e := eqJ xs ys) pl pl2 hu (fun j h1 h2 => ?_) ⟨.bl (eqAll xs ys), H, I, ?_, q⟩
  · have h1' : j < its.length := by simpa using h1
    have h2' : j < its2.length := by simpa using h2
    have g1 : xs[j]? = some xs[j] := List.getElem?_eq_getElem (by omega)
    have g2 : ys[j]? = some ys[j] := List.getElem?_eq_getElem (by omega)
    obtain ⟨u1, e1, ru1⟩ := r.get g1
    obtain ⟨u2, e2, ru2⟩ := r2.get g2
    obtain ⟨f1, f2⟩ := flats_at hf g1 g2
    have k1 : its.toArray[j] = u1 := by
      have := (List.getElem?_eq_some_iff.mp e1).2
      simpa using this
    have k2 : its2.toArray[j] = u2 := by
      have := (List.getElem?_eq_some_iff.mp e2).2
      simpa using this
    rw [k1, k2, show eqJ xs ys j = eqV xs[j] ys[j] from by unfold eqJ; rw [g1, g2]]
    exact eqAt_V ru1 ru2 f1 f2
  · show Value.bool _ = Value.bool _
    rw [← eqAll_eq, List.size_toArray, List.size_toArray, l1, l2]
/-! ### k in d, d a dict of the top -/
theorem op_in_gd : OpR X (compareOp .In) (fun x y H Q => ∃ d k r, x = .str k ∧ y = .ref d ∧ GD X.K X.w.params d ∧ (d == sysModules) = false ∧ PySem.W.nsIn X.K d k = some r ∧ Q (.bl r.isSome) H) := by
  intro pins s σ H x y v u Q I rx ry h
  obtain ⟨d, k, r, rfl, rfl, ⟨es, n, hl, hk⟩, lo, e, q⟩ := h
  obtain ⟨t, rfl⟩ := rx
  cases ry
  have hm := PySem.W.mapOf_K (prog := X.prog) I.kIn hl hk
  refine wpAny_in_of (strKind_is X.prog X.w k t) lo hm ?_
  rw [PySem.W.find_K hl e]
  exact ⟨.bl r.isSome, H, I.tok _, rfl, q⟩
/-! ### isinstance(x, tuple) -/
theorem kit_tt (K : PySem.W.Frag) : PySem.W.kitOne K (.type "tuple") (.type "tuple") = some true := rfl
theorem call_isTup : CallR X (.builtin "isinstance") (fun xs H Q => ∃ a ys, xs = [.ref a, .ty "tuple"] ∧ SqT X.K H a ys ∧ Q (.bl true) H) := by
  intro pins s σ H xs us Q I r h
  obtain ⟨a, ys, rfl, hq, q⟩ := h
  obtain ⟨u, w', rfl, rx, ry⟩ := vals2 r
  cases (show w' = Value.type "tuple" from ry)
  cases (show u = Value.ref a from rx)
  obtain ⟨its, r', pl, hz⟩ := I.tuple hq
  obtain ⟨o, h1, h2, _⟩ := pl
  exact PySem.W.kia_one PySem.W.kitx_tuple I.kIn ⟨o, h1, h2⟩ (kit_tt _) (fun z => nomatch z) fun tk => ⟨.bl true, H, I.tok tk, rfl, q⟩
/-! ### all(xs) of truths -/
theorem call_all (hc : X.calm = true) : CallR X (.builtin "all") (fun xs H Q => ∃ (l : Addr) (bs : List Bool), xs = [.ref l] ∧ SqL X.K H l (bs.map V.bl) ∧ Q (.bl (bs.all id)) H) := by
  intro pins s σ H xs us Q I r h
  obtain ⟨l, bs, rfl, hl, q⟩ := h
  obtain ⟨u, rfl, ru⟩ := vals1 r
  cases ru
  obtain ⟨its, r', pl, hz⟩ := I.list hl
  have hh : X.A.handled = none := I.ok.hd hc
  have hln : bs.length = its.length := by rw [← r'.length, List.length_map]
  have nl : l ≠ s.heap.objs.size := fun e => by
    obtain ⟨o, ho, _⟩ := pl.isList
    exact Nat.lt_irrefl _ (e ▸ Heap.lt_size ho)
  refine call_all_walk (wpAny_pyIter_list pl.isList ?_)
  refine ⟨s.heap.objs.size, _, _, _, _, _, fun i => (bs[i]?).getD true, rfl, Walks.list (A := X.A.in1) hh s.heap.objs.size l nl its.toArray, ⟨⟨_, Heap.get?_push_size _ rfl, rfl, rfl⟩, pl.isList.at fun o e => Heap.get?_push_of_some _ e⟩, fun i v s' Q' E' hv hq' => ?_, fun h' tk hk => ?_⟩
  · have hv' : its[i]? = some v := by simpa using hv
    have hi : i < its.length := (List.getElem?_eq_some_iff.mp hv').1
    have g : (bs.map V.bl)[i]? = some (V.bl bs[i]) := by
      rw [List.getElem?_map, List.getElem?_eq_getElem (by omega)]
      rfl
    obtain ⟨u1, e1, ru1⟩ := r'.get g
    rw [hv'] at e1
    cases e1
    cases (show v = Value.bool bs[i] from ru1)
    have hq2 : Q' ((bs[i]?).getD true) s' := hq'
    rw [List.getElem?_eq_getElem (by omega)] at hq2
    exact wpAny_truthy_bool hq2
  · have kp : ∀ b o, s.heap.get? b = some o → h'.get? b = some o := fun b o e => hk b o (by simpa using Nat.ne_of_lt (Heap.lt_size e)) (Heap.get?_push_of_some _ e)
    refine ⟨.bl (bs.all id), H, I.kept (t' := tk) kp, ?_, q⟩
    show Value.bool _ = Value.bool _
    congr 1
    rw [List.size_toArray, ← hln]
    rw [Bool.eq_iff_iff, List.all_eq_true, List.all_eq_true]
    constructor
    · intro h b hb
      obtain ⟨i, hi, rfl⟩ := List.getElem_of_mem hb
      have := h i (List.mem_range.mpr hi)
      rw [List.getElem?_eq_getElem hi] at this
      exact this
    · intro h i hi
      have hi' := List.mem_range.mp hi
      rw [List.getElem?_eq_getElem hi']
      exact h _ (List.getElem_mem hi')
end
/-- a comprehension over range(n) -/
theorem comp_range {lo : Int} {n : Nat} {tt : TT} {te : TE} {τ : L2.St} {H1 : Hp} {D : Addr} {Q : VK} (Pv : Nat → Hp → Prop) (h0 : Pv 0 (upd H1 D (.lst [])))
    (hs : ∀ i H, i < n → Pv i H → tt (some (.int (lo + i)) :: τ) H fun ok H4 => if ok = true then te (some (.int (lo + i)) :: τ) H4 fun y H5 => ∃ xs, H5 D = some (.lst xs) ∧ xs.length < sizeLine ∧ Pv (i + 1) (upd H5 D (.lst (xs ++ [y]))) else Pv (i + 1) H4)
    (hd : ∀ H, Pv n H → Q (.ref D) H) :
    ∃ W : Nat → Nat → Hp → Prop, (∃ m, W 0 m (upd H1 D (.lst []))) ∧ ∀ i m H2, W i m H2 →
      ((Itr lo n).stop i H2 ∧ Q (.ref D) H2) ∨ ((Itr lo n).go i H2 ∧ ∃ N : Hp → Prop, (∀ H', N H' → ∃ m', m' < m ∧ W (i + 1) m' H') ∧ ∀ x H3, (Itr lo n).yld i H2 x H3 → tt (some x :: τ) H3 fun ok H4 =>
        if ok = true then te (some x :: τ) H4 fun y H5 => ∃ xs, H5 D = some (.lst xs) ∧ xs.length < sizeLine ∧ N (upd H5 D (.lst (xs ++ [y]))) else N H4) := by
  refine ⟨fun i m H => m = n - i ∧ i ≤ n ∧ Pv i H, ⟨_, rfl, Nat.zero_le _, h0⟩, ?_⟩
  rintro i m H ⟨rfl, hi, p⟩
  by_cases hlt : i < n
  · refine .inr ⟨hlt, Pv (i + 1), fun H' p' => ⟨n - (i + 1), by omega, rfl, hlt, p'⟩, fun x H' y => ?_⟩
    obtain ⟨e, y⟩ := y
    subst e y
    exact hs i _ hlt p
  · have e : i = n := by omega
    subst e
    exact .inl ⟨Nat.le_refl _, hd H p⟩
end My
namespace Fl
open PySem

/-- the head of an exception's entries: none yet, or an entry T whose mark is fl -/
inductive Head (h : Heap) (x : Addr) (vs : Array Value) (lo : Nat) : List Addr → Value → Prop
  | none : vs[1]? = some .none → Head h x vs lo [] .none
  | at {T : Addr} {o : Obj} {ts : Array Value} {fl : Value} : vs[1]? = some (.ref T) → T ≠ x → lo ≤ T → h.get? T = some o → o.data = .fields ts → ts[3]? = some fl → Head h x vs lo [T] fl

theorem Head.facts {h : Heap} {x : Addr} {vs : Array Value} {lo : Nat} {ts : List Addr} {fl : Value} (d : Head h x vs lo ts fl) : ∀ T ∈ ts, T ≠ x ∧ lo ≤ T ∧ ∃ o ws, h.get? T = some o ∧ o.data = .fields ws := by
  cases d with
  | none _ => intro T z; cases z
  | «at» _ a b c e _ => intro T z; rw [List.mem_singleton.mp z]; exact ⟨a, b, _, _, c, e⟩

abbrev frs (l : List Env) : List Addr := l.filterMap (·.frame)

/-- what a look at the frame does to the heap: the slots of the frames, the exception's first entry, the entries ts -/
structure Noted (l : List Env) (x : Addr) (ts : List Addr) (h h' : Heap) : Prop where
  keep : ∀ b o, b ∉ frs l → b ≠ x → b ∉ ts → h.get? b = some o → h'.get? b = some o
  slot : ∀ b o, b ≠ x → b ∉ ts → h.get? b = some o → ∃ sl, h'.get? b = some { o with slots := sl }
  there : ∀ b o, h.get? b = some o → ∃ o', h'.get? b = some o'

section
variable {M : Model} {A : Around} {E : Value → Shared → Prop} {s : Shared}

theorem set_there {h : Heap} {a b : Addr} {o oa : Obj} {vs : Array Value} {f : Array Value → Array Value} (ha : h.get? a = some oa) (hd : oa.data = .fields vs) (e : h.get? b = some o) : ∃ o', (h.update a (Obj.mapFields f)).get? b = some o' := by
  by_cases q : a = b
  · subst q
    exact ⟨_, Heap.get?_update_self _ ha (Obj.isFreed_of_fields (Obj.data_mapFields hd f))⟩
  · exact ⟨o, (Heap.get?_update_other _ _ q).trans e⟩

/-- a new entry for this frame -/
theorem enter {base : Heap} {env : Env} {outer : List Env} {L x : Addr} {oe : Obj} {vs : Array Value} {head : Value} {hn : Bool} {lo : Nat} {Q : Unit → Shared → Prop}
    (hfr : A.frames = some (env :: outer)) (hl : s.heap.FunFrames base (env :: outer)) (hf : env.frame = some L) (he : s.heap.get? x = some oe) (hd : oe.data = .fields vs) (hsz : 1 < vs.size) (hlo : lo ≤ s.heap.objs.size)
    (h : ∀ h' T, s.heap.objs.size ≤ T → Noted (env :: outer) x [] s.heap h' → h'.get? x = some (oe.mapFields (·.setIfInBounds 1 (.ref T))) → Head h' x (vs.setIfInBounds 1 (.ref T)) lo [T] (rawInt L) → Q () { s with heap := h' }) :
    wpAny M A (do let a ← frameOf env; let pl ← entryPlaceOf L hn; let b ← EntryCells.newEntry head a .none (rawInt L) .none pl; setField (.ref x) 1 b) Q E s := by
  have nx : x ∉ frs (env :: outer) := fun hm => by
    obtain ⟨_, o, ho, hnf⟩ := hl.mem hm
    have q := Option.some.inj (he.symm.trans ho)
    exact hnf vs (q ▸ hd)
  refine wpAny_bind (wpAny_frameOf_fun hfr hl hf fun h1 s1 => wpAny_bind (wpAny_entryPlaceOf fun pl hpl => ?_))
  unfold EntryCells.newEntry newFields
  refine wpAny_bind (wpAny_newObj_type ?_ (hpl.sizeOk5 _ _ _ _ _))
  have x1 : h1.get? x = some oe := (s1.2.1 x nx).trans he
  generalize htb : ({ cls := .type "traceback", dict := none, data := .fields ([head, .ref L, .none, rawInt L, .none] ++ (if pl.isEmpty then List.replicate 6 Value.none else pl)).toArray } : Obj) = tb
  have x2 : (h1.push tb).get? x = some oe := Heap.get?_push_of_some _ x1
  refine wpAny_setField x2 hd hsz (h _ h1.objs.size (Nat.le_of_eq s1.1.symm) ⟨fun b o hb hx _ e => ?_, fun b o hx _ e => ?_, fun b o e => ?_⟩ ?_ ?_)
  · exact (Heap.get?_update_other _ _ (Ne.symm hx)).trans (Heap.get?_push_of_some _ ((s1.2.1 b hb).trans e))
  · obtain ⟨sl, e1⟩ := s1.2.2 b o e
    exact ⟨sl, (Heap.get?_update_other _ _ (Ne.symm hx)).trans (Heap.get?_push_of_some _ e1)⟩
  · obtain ⟨sl, e1⟩ := s1.2.2 b o e
    exact set_there x2 hd (Heap.get?_push_of_some _ e1)
  · exact Heap.get?_update_self _ x2 (Obj.isFreed_of_fields (Obj.data_mapFields hd _))
  · have ne : h1.objs.size ≠ x := Nat.ne_of_gt (Heap.lt_size x1)
    refine Head.at (o := tb) (ts := ([head, .ref L, .none, rawInt L, .none] ++ (if pl.isEmpty then List.replicate 6 Value.none else pl)).toArray) (by simp [hsz]) ne (by rw [s1.1]; exact hlo) ((Heap.get?_update_other _ _ (Ne.symm ne)).trans (Heap.get?_push_size h1 ?_)) (by rw [← htb]) (by simp)
    rw [← htb]
    rfl

/-- the frame is noted: a new entry, or the one that is marked so stays -/
theorem note {base : Heap} {env : Env} {outer : List Env} {L x : Addr} {oe : Obj} {vs : Array Value} {ts : List Addr} {fl : Value} {lo : Nat} {Q : Unit → Shared → Prop}
    (hfr : A.frames = some (env :: outer)) (hl : s.heap.FunFrames base (env :: outer)) (hf : env.frame = some L) (he : s.heap.get? x = some oe) (hd : oe.data = .fields vs) (hsz : 1 < vs.size) (hlo : lo ≤ s.heap.objs.size)
    (hh : Head s.heap x vs lo ts fl) (hfl : fl = .none ∨ fl = rawInt L)
    (h : ∀ h' vs' T, (T ∈ ts ∨ s.heap.objs.size ≤ T) → Noted (env :: outer) x ts s.heap h' → h'.get? x = some { oe with data := .fields vs' } → vs'.size = vs.size → Head h' x vs' lo [T] (rawInt L) → Q () { s with heap := h' }) :
    wpAny M A (noteFrame (.ref x) env) Q E s := by
  unfold noteFrame
  simp only [hf]
  have eqm : ∀ v, oe.mapFields (·.setIfInBounds 1 v) = { oe with data := .fields (vs.setIfInBounds 1 v) } := fun v => by
    obtain ⟨c, d, dt, sl⟩ := oe; cases hd; rfl
  cases hh with
  | none h1 =>
    refine wpAny_bind (wpAny_field he hd h1 ?_)
    rw [if_neg (by decide)]
    exact enter hfr hl hf he hd hsz hlo fun h' T lt n e hd' => h h' _ T (.inr lt) n (e.trans (congrArg some (eqm _))) (by simp) hd'
  | @«at» T o ws _ h1 ne hlT hT hdT h3 =>
    refine wpAny_bind (wpAny_field he hd h1 ?_)
    rw [if_pos (show (Value.ref T != Value.none) = true from by simp)]
    refine wpAny_bind (wpAny_field hT hdT h3 ?_)
    rcases hfl with rfl | rfl
    · rw [if_neg (show ¬ ((Value.none == rawInt L) = true) from by simp [rawInt])]
      refine wpAny_bind (wpAny_setField hT hdT (Array.getElem?_eq_some_iff.mp h3).1 ?_)
      have oth : ∀ b, b ≠ T → (s.heap.update T (Obj.mapFields (·.setIfInBounds 3 Value.none))).get? b = s.heap.get? b := fun b hb => Heap.get?_update_other _ _ (Ne.symm hb)
      have nT : ∀ b o, s.heap.get? b = some o → (∀ ws, o.data ≠ .fields ws) → b ≠ T := fun b o hb hnf q => by
        subst q
        exact hnf ws (Option.some.inj (hT.symm.trans hb) ▸ hdT)
      refine enter hfr (hl.of_keeps fun b o hb hnf => ⟨o, (oth b (nT b o hb hnf)).trans hb, rfl⟩) hf ((oth x (Ne.symm ne)).trans he) hd hsz (by rw [Heap.size_after_update]; exact hlo) fun h' T' lt n e hd' => ?_
      refine h h' _ T' (.inr (by rw [Heap.size_after_update] at lt; exact lt)) ⟨fun b o hb hx hn q => n.keep b o hb hx (by simp) ((oth b (fun z => hn (by simp [z]))).trans q), fun b o hx hn q => n.slot b o hx (by simp) ((oth b (fun z => hn (by simp [z]))).trans q), fun b o q => ?_⟩ (e.trans (congrArg some (eqm _))) (by simp) hd'
      obtain ⟨o', q'⟩ := set_there hT hdT q
      exact n.there b o' q'
    · rw [if_pos (show (rawInt L == rawInt L) = true from by simp)]
      exact wpAny_pure (h s.heap vs T (.inl (List.mem_singleton.mpr rfl)) ⟨fun _ _ _ _ _ q => q, fun _ o _ _ q => ⟨o.slots, q⟩, fun _ o q => ⟨o, q⟩⟩ (he.trans (by obtain ⟨c, d, dt, sl⟩ := oe; cases hd; rfl)) rfl (.at h1 ne hlT hT hdT h3))

/-- its mark is set -/
theorem mark {x : Addr} {oe : Obj} {vs : Array Value} {T : Addr} {fl : Value} {lo : Nat} {f : Option Addr} {Q : Unit → Shared → Prop} (he : s.heap.get? x = some oe) (hd : oe.data = .fields vs) (hh : Head s.heap x vs lo [T] fl)
    (h : ∀ h', (∀ b, b ≠ T → h'.get? b = s.heap.get? b) → (∃ o, h'.get? T = some o) → Head h' x vs lo [T] (f.elim .none fun a => rawInt a) → Q () { s with heap := h' }) :
    wpAny M A (setFlight (.ref x) f) Q E s := by
  cases hh with
  | @«at» _ o ws _ h1 ne hlT hT hdT h3 =>
    have sz : 3 < ws.size := (Array.getElem?_eq_some_iff.mp h3).1
    unfold setFlight
    refine wpAny_bind (wpAny_field he hd h1 ?_)
    rw [if_pos (show (Value.ref T != Value.none) = true from by simp)]
    have tT := Heap.get?_update_self (Obj.mapFields (·.setIfInBounds 3 (f.elim Value.none fun a => rawInt a))) hT (Obj.isFreed_of_fields (Obj.data_mapFields hdT _))
    exact wpAny_setField hT hdT sz (h _ (fun b hb => Heap.get?_update_other _ _ (Ne.symm hb)) ⟨_, tT⟩ (.at h1 ne hlT tT (Obj.data_mapFields hdT _) (by simp [sz])))
end
end Fl
set_option maxHeartbeats 1000000
namespace Ex
open PySem PySem.W PySem.Calls PyProof.Rows Builtin Builtin.ObjectAttr

abbrev bmV : List Value := [.type "ValueError", .type "Exception", .type "BaseException", .type "object"]
abbrev tupO (vs : List Value) : Obj := { cls := .type "tuple", data := .seq vs.toArray }
abbrev newX (C t : Addr) : Obj := { cls := .ref C, data := .fields #[.ref t, .none, .none, .none, .bool false, .none] }

/-- what a class of refusals is -/
structure XCls (K : Frag) (C : Addr) : Prop where
  obj : ∃ nm q N bs bm sn sub ab col dd k0 k1 k2 k3 k5, K.lookup C = some (excClassObj nm q C N bs bm true sn sub ab col dd k0 k1 k2 k3 k5 "ValueError.__new__") ∧ tailIn K bmV bm = true
  call : specialIn K (.ref C) "__call__" = some (some (.builtin "type.__call__"))
  typ : instIn K (.ref C) (.type "type") = some true
  sa : findIn K (.ref C) "__setattr__" = some (some (.builtin "object.__setattr__"))
  ga : findIn K (.ref C) "__getattribute__" = some (some (.builtin "BaseException.__getattribute__"))
  gh : findIn K (.ref C) "__getattr__" = some none
  gc : findIn K (.ref C) "__class__" = some (some (.builtin "object.__class__"))

theorem passes {h : Heap} {l : List Value} (self : Value) (T : OwnTail h bmV l) : refuseLoop self "__setattr__" l = pure () := by
  induction T with
  | base => exact PySem.F.store_ValueError.passes self
  | own _ _ _ _ ih => rw [refuseLoop_ref]; exact ih

section
variable {prog : Program} {w : World} {A : Around} {E : Value → Shared → Prop} {R : Result → Shared → Prop} {s : Shared} {K : Frag} {C x f : Addr}

theorem XCls.cls (Z : XCls K C) : ∃ cd, clsIn K C = some cd ∧ cd.hasDict = true ∧ ∃ bm, cd.mro = .ref C :: bm ∧ tailIn K bmV bm = true := by
  obtain ⟨nm, q, N, bs, bm, sn, sub, ab, col, dd, k0, k1, k2, k3, k5, l0, tl⟩ := Z.obj
  have e : clsIn K C = some { name := nm, bases := bs, mro := .ref C :: bm, ns := N, qualname := q, hasDict := true, slotNames := sn, subclasses := sub, abstract := ab, collection := col, hasDel := false } := by
    unfold clsIn
    rw [l0]
  exact ⟨_, e, rfl, bm, rfl, tl⟩
theorem XCls.sub (Z : XCls K C) {h : Heap} (X : K.In h) {T : String} (hb : bmV.contains (.type T) = true) : mroIn K C (.type T) = some true := by
  obtain ⟨cd, h1, _, bm, h2, h3⟩ := Z.cls
  unfold mroIn
  rw [h1, Option.bind_some, h2, if_neg (by simp), List.contains_cons, (tail_of_in X h3).hasType hb, Bool.or_true]
theorem XCls.self (Z : XCls K C) : mroIn K C (.ref C) = some true := by
  obtain ⟨cd, h1, _, bm, h2, h3⟩ := Z.cls
  unfold mroIn
  rw [h1, Option.bind_some, h2, if_neg (by simp)]
  simp

/-- an exception is made: the tuple of its arguments, itself; then its own __init__ -/
theorem make {vs : List Value} (X : K.In s.heap) (Z : XCls K C) (hi : findIn K (.ref C) "__init__" = some (some (.ref f))) (hf : typeIn K (.ref f) = some (.type "function")) (hl : vs.length ≤ sizeLine)
    (h : codeAny (model prog w) (A.under (.builtin "type.__call__" ⟨.ref C :: vs, []⟩)) (.call (.ref f) ⟨.ref (s.heap.objs.size + 1) :: vs, []⟩) (InitBack (s.heap.objs.size + 1) R) { s with heap := (s.heap.push (tupO vs)).push (newX C s.heap.objs.size) }) :
    codeAny (model prog w) A (.call (.ref C) ⟨vs, []⟩) R s := by
  have self := Z.self
  obtain ⟨nm, q, N, bs, bm, sn, sub, ab, col, dd, k0, k1, k2, k3, k5, l0, tl⟩ := Z.obj
  obtain ⟨hh, g, d, t, os⟩ := s
  have hC := X _ _ l0
  have T := tail_of_in (bmB := bmV) X tl
  have F := PySem.F.excBase_ValueError
  have lc := looks_specialIn (M := model prog w) X Z.call
  have lt := looks_instIn (M := model prog w) X Z.typ
  refine codeAny_of_tree (show wpAny (model prog w) _ (callAny (.ref C) ⟨vs, []⟩) _ _ _ from nd_load hC (show wpAny (model prog w) _ (callAny.viaDunder (.ref C) ⟨vs, []⟩) _ _ _ from ?_))
  unfold callAny.viaDunder
  refine wpAny_bind (lc.at ?_)
  dsimp only
  rw [tc_bind]
  refine wpAny_bind (wpAny_pure (wpAny_bind (wpAny_pure (wpAny_pure (a := Fin.again (.call (.builtin "type.__call__") ⟨.ref C :: vs, []⟩)) (And.intro rfl ?_)))))
  refine codeAny_call_builtin_at (Code.quiet_builtin _ (by decide +kernel)) entry_typeCall (check_slot tc_kind tc_split lt (tc_args (.ref C) vs []) ?_)
  unfold Builtin.«type.__call__»
  have hm : Looks (model prog w) hh (mroOf (.ref C)) (.ref C :: bm) := ((Looks.ld (part := none) hC).andThen .now).andThen .now
  have mb : Looks (model prog w) hh (Bind.madeBy (.ref C)) (some "ValueError.__new__") := fun A Q E s k z => by
    obtain ⟨h', g', d', t', os'⟩ := s
    exact wpAny_madeBy_exc (k _ _ hC) z
  repeat (first | with_reducible refine wpAny_call ?_ | lk)
  refine codeAny_call_builtin_code (Code.quiet_builtin _ F.quiet) (wpAny_check_new_subT F T hC (codeAny_exc_new_subT F T hC ?_ hl))
  have k : ∀ b o, hh.get? b = some o → ((hh.push (tupO vs)).push (newX C hh.objs.size)).get? b = some o := fun b o e => Heap.get?_push_of_some _ (Heap.get?_push_of_some _ e)
  have hx : ((hh.push (tupO vs)).push (newX C hh.objs.size)).get? (hh.objs.size + 1) = some (newX C hh.objs.size) := by heap_get
  have t1 : Looks (model prog w) ((hh.push (tupO vs)).push (newX C hh.objs.size)) (typeOf (.ref (hh.objs.size + 1))) (.ref C) := (Looks.ld hx).andThen .now
  have s1 := (looks_mroIn (M := model prog w) X self).keeps k
  have i1 := (looks_findIn (M := model prog w) X hi).keeps k
  have b1 := (bind_fn (M := model prog w) X (.ref (hh.objs.size + 1)) hf).keeps k
  unfold isInstance callSpecial? specialOf
  repeat (first | with_reducible refine wpAny_call ?_ | lk)
  refine codeAny_mono h fun r s' z => ?_
  rcases r with e | (v | _ | _ | _) <;> first | exact z | exact z.elim | skip
  obtain ⟨rfl, z⟩ := z
  exact wpAny_pure (wpAny_pure z)

/-- .. where there is no __init__ but the built-in one -/
theorem make0 {Q : Value → Shared → Prop} (X : K.In s.heap) (Z : XCls K C) (hi : ∀ cd, clsIn K C = some cd → nsOkIn K cd.ns = true ∧ nsIn K cd.ns "__init__" = some none)
    (h : ∀ h' e, Heap.MadeExcOf s.heap h' e (.ref C) [] → Q (.ref e) { s with heap := h' }) : wpAny (model prog w) A (call (.ref C) []) Q E s := by
  obtain ⟨nm, q, N, bs, bm, sn, sub, ab, col, dd, k0, k1, k2, k3, k5, l0, tl⟩ := Z.obj
  obtain ⟨hh, g, d, t, os⟩ := s
  obtain ⟨n1, n2⟩ := hi _ (by unfold clsIn; rw [l0])
  exact wpAny_call_exc_subT PySem.F.excBase_ValueError (tail_of_in X tl) (X _ _ l0) (.of_isNs (isNs_of_in X n1)) (nsMap_none_of_in X n1 n2) h (Nat.zero_le _)

/-- the first attribute of an exception is stored -/
theorem store {ox : Obj} {fs : Array Value} {name : Str} {v : Value} {Q : Unit → Shared → Prop} (X : K.In s.heap) (Z : XCls K C) (hn : findIn K (.ref C) name = some none)
    (hx : s.heap.get? x = some ox) (hc : ox.cls = .ref C) (hd : ox.dict = none) (hf : ox.data = .fields fs)
    (h : ∀ h', h'.get? x = some { ox with dict := some s.heap.objs.size } → h'.Ns1 s.heap.objs.size (fun y => if y = name then some v else none) → (∀ b o, b ≠ x → s.heap.get? b = some o → h'.get? b = some o) → Q () { s with heap := h', toks := s.toks + 2 }) :
    wpAny (model prog w) A (setAttr (.ref x) name v) Q E s := by
  obtain ⟨hh, g, d, t, os⟩ := s
  have I : InstAt hh x ox C none := ⟨hx, hc, by unfold notCls; rw [hf], by rw [hd]; trivial⟩
  obtain ⟨cd, c1, c2, bm, c3, c4⟩ := Z.cls
  have SF := PySem.F.store_object
  have sub : Looks (model prog w) hh (isInstance (.ref x) (.type "object")) true := I.type.andThen (looks_mroIn X (Z.sub X (T := "object") (by decide +kernel)))
  refine set_plain (s := ⟨hh, g, d, t, os⟩) X I Z.sa ?_
  refine codeAny_call_builtin SF.slot.plain SF.entry (@check_slot (model prog w) _ _ ⟨hh, g, d, t + 1, os⟩ "object.__setattr__" "object" "__setattr__" (.ref x) [.str name t, v] [] _ SF.kind SF.split sub (SF.args (.ref x) (.str name t) v) ?_)
  rw [osa_eq, refuse_eq]
  have hm : Looks (model prog w) hh (mroOf (.ref C)) cd.mro := (looks_clsIn X c1).andThen .now
  have L0 := I.type (M := model prog w)
  have L1 := looks_findIn (M := model prog w) X hn
  have L2 := looks_clsIn (M := model prog w) X c1
  refine wpAny_bind (wpAny_bind (L0.at (wpAny_bind (hm.at ?_))))
  rw [c3, refuseLoop_ref, passes _ (tail_of_in X c4)]
  refine wpAny_pure (wpAny_bind (L0.at (wpAny_bind (L1.at (wpAny_bind (wpAny_pure ?_))))))
  have hxs : x ≠ hh.objs.size := Nat.ne_of_lt (Heap.lt_size hx)
  obtain ⟨oc, od, oda, osl⟩ := ox
  dsimp only at hc hd hf
  subst hc hd hf
  refine wpAny_bind (wpAny_pure (wpAny_bind (wpAny_bind (wpAny_loadPart hx (wpAny_bind (L2.at ?_))))))
  rw [c2]
  have e0 : (hh.push emptyDict).get? hh.objs.size = some emptyDict := Heap.get?_push_size hh rfl
  have x0 : (hh.push emptyDict).get? x = some ⟨.ref C, none, .fields fs, osl⟩ := Heap.get?_push_of_some _ hx
  have x1 : ((hh.push emptyDict).update x fun o => { o with dict := some hh.objs.size }).get? x = some ⟨.ref C, some hh.objs.size, .fields fs, osl⟩ := Heap.get?_update_self _ x0 rfl
  have n1 : ((hh.push emptyDict).update x fun o => { o with dict := some hh.objs.size }).Ns hh.objs.size fun _ => none :=
    ⟨emptyDict, #[], _, (Heap.get?_update_other _ _ hxs).trans e0, rfl, fun e he => absurd he (by simp), fun _ => rfl⟩
  refine wpAny_bind (wpAny_alloc (wpAny_bind (wpAny_update (Heap.get?_push_of_some _ hx) (wpAny_pure (wpAny_bind (wpAny_pure (wpAny_bind ?_)))))))
  refine wpAny_nsSet1 (s := ⟨(hh.push emptyDict).update x fun o => { o with dict := some hh.objs.size }, g, d, t + 1, os⟩) (Heap.Ns1.of_empty n1) fun h' n2 sb => ?_
  obtain ⟨oD, esD, epD, hoD, hdD, hcD⟩ := n2.count (PySem.Within.cons name v PySem.Within.nil)
  refine wpAny_bind (wpAny_lookBehind hoD (by rw [hdD]; exact pastItsLine_dict (Nat.le_trans hcD (by rw [List.length_cons, List.length_nil, sizeLine_eq]; omega))) (wpAny_pure ?_))
  exact h h' ((sb.2 x hxs).trans x1) n2 fun b o hb e => (sb.2 b (Nat.ne_of_lt (Heap.lt_size e))).trans ((Heap.get?_update_other _ _ (Ne.symm hb)).trans (Heap.get?_push_of_some _ e))

/-- .. and read -/
theorem get {ox od : Obj} {name : Str} {v : Value} {expr : Bool} {Q : Value → Shared → Prop} (X : K.In s.heap) (Z : XCls K C) (hn : findIn K (.ref C) name = some none) (I : InstAt s.heap x ox C (some od)) (hl : lookIn name od = some (some v)) (hv : handedIn v = true)
    (h : Q v { s with toks := s.toks + 1 }) : wpAny (model prog w) A (getAttr (.ref x) name expr) Q E s := by
  obtain ⟨hh, g, d, t, os⟩ := s
  obtain ⟨cd, c1, c2, bm, c3, c4⟩ := Z.cls
  have FB := PySem.F.attrBase_ValueError
  have L0 := I.type (M := model prog w)
  have L1 := looks_findIn (M := model prog w) X Z.ga
  have L2 := looks_findIn (M := model prog w) X Z.gh
  have hf : findObj K C (some od) name = some (.value v) := by
    unfold findObj
    rw [c1, Option.bind_some, hn, Option.bind_some]
    dsimp only [Option.bind_some]
    unfold PySem.W.ownOf
    rw [c2, if_pos rfl]
    dsimp only
    rw [hl]
    rfl
  have L3 := looks_find (M := model prog w) X I hf
  have L5 : Looks (model prog w) hh (handedOut v) v := Looks.of_pure (handedOut_of hv)
  have L4 : Looks (model prog w) hh (isInstance (.ref x) (.type "BaseException")) true := L0.andThen (looks_mroIn X (Z.sub X (by decide +kernel)))
  unfold getAttr getAttrBy
  refine wpAny_bind (wpAny_mkText (wpAny_holding (wpAny_bind (L0.at (wpAny_bind (L1.at ?_))))))
  show wpAny _ _ (getAttrByItsOwn _ _ _ _ _ _) _ _ _
  unfold getAttrByItsOwn hookBefore callGetattribute boundAndCalled
  refine wpAny_bind (L2.at (wpAny_bind (wpAny_attempt (wpAny_holding ?_))))
  rw [if_neg (by cases expr <;> decide), FB.ga.bind]
  refine wpAny_bind (wpAny_pure (wpAny_call ?_))
  have kd : builtinKind "BaseException.__getattribute__" = some .slot := by decide +kernel
  have sp : splitId "BaseException.__getattribute__" = some ("BaseException", "__getattribute__") := by decide +kernel
  refine codeAny_call_builtin FB.ga.plain F.entry_bexc_ga (@check_slot (model prog w) _ _ ⟨hh, g, d, t + 1, os⟩ "BaseException.__getattribute__" "BaseException" "__getattribute__" (.ref x) [.str name t] [] _ kd sp L4 (F.args_bexc_ga (.ref x) (.str name t)) ?_)
  unfold Builtin.«object.__getattribute__»
  repeat lk
  exact h

/-- an exception that was made is raised -/
theorem raised {env : Env} {M : Model} {t : Sem Value} {Q : Flow → Shared → Prop}
    (h : wpAny M A t (fun v s₁ => ∃ a C oe vs, v = .ref a ∧ s₁.heap.get? a = some oe ∧ oe.cls = .ref C ∧ oe.data = .fields vs ∧ vs[1]? = some .none ∧ ∃ K, K.In s₁.heap ∧ XCls K C ∧ E (.ref a) s₁) E s) (hh : A.handled = none) :
    wpAny M A (raiseStmt env (some t) none) Q E s := by
  unfold raiseStmt
  refine wpAny_bind (wpAny_mono h (fun v s₁ h₁ => ?_) fun _ _ z => z)
  obtain ⟨a, C, oe, vs, rfl, ho, hc, hd, h1, K, X, Z, hE⟩ := h₁
  obtain ⟨hp, g, d, tk, os⟩ := s₁
  obtain ⟨nm, q, N, bs, bm, sn, sub, ab, col, dd, k0, k1, k2, k3, k5, l0, tl⟩ := Z.obj
  have hC := X _ _ l0
  have L0 : Looks M hp (typeOf (.ref a)) (.ref C) := hc ▸ (Looks.ld ho).andThen .now
  have L1 : Looks M hp (isSubtype (.ref C) (.type "BaseException")) true := looks_mroIn X (Z.sub X (by decide +kernel))
  have L2 : Looks M hp (typeOf (.ref C)) (.type "type") := (Looks.ld hC).andThen .now
  have L3 : Looks M hp (isType (.ref a)) false := by
    intro A' Q' E' s' k q
    unfold isType loadHead
    refine wpAny_bind (wpAny_loadPart (k _ _ ho) ?_)
    rw [hd]
    exact wpAny_pure q
  unfold excFromValue isExcClass isInstance raisedInstance setFlight
  repeat (first | with_reducible exact wpAny_raiseNew_none hh hE | with_reducible refine wpAny_field ho hd h1 ?_ | lk)

/-- an except clause with a class of refusals -/
theorem matched {M : Model} {a S : Addr} {oe : Obj} {Q : Bool → Shared → Prop} (X : K.In s.heap) (Z : XCls K S) (ho : s.heap.get? a = some oe) (hc : oe.cls = .ref C) (hm : mroIn K C (.ref S) = some true) (h : Q true s) :
    wpAny M A (excMatches (.ref a) (.ref S)) Q E s := by
  obtain ⟨hp, g, d, tk, os⟩ := s
  obtain ⟨nm, q, N, bs, bm, sn, sub, ab, col, dd, k0, k1, k2, k3, k5, l0, tl⟩ := Z.obj
  have hC := X _ _ l0
  have L0 : Looks M hp (typeOf (.ref a)) (.ref C) := hc ▸ (Looks.ld ho).andThen .now
  have L1 : Looks M hp (isSubtype (.ref S) (.type "BaseException")) true := looks_mroIn X (Z.sub X (by decide +kernel))
  have L2 : Looks M hp (typeOf (.ref S)) (.type "type") := (Looks.ld hC).andThen .now
  have L3 : Looks M hp (isType (.ref S)) true := by
    intro A' Q' E' s' k q
    unfold isType loadHead
    exact wpAny_bind (wpAny_loadPart (k _ _ hC) (wpAny_pure q))
  have L4 : Looks M hp (isSubtype (.type "type") (.type "tuple")) false := Looks.of_pure tc_notTuple
  have L5 := looks_mroIn (M := M) X hm
  unfold excMatches isInstance isExcClass
  repeat lk
  exact h

theorem cls_get (K : Frag) : specialIn K (.builtin "object.__class__") "__get__" = some (some (.builtin "getset_descriptor.__get__")) := by kernel_rfl
theorem cls_takes (K : Frag) : takesIn K (.builtin "object.__class__") = some true := by kernel_rfl
/-- its class, asked as an attribute -/
theorem class_of {ox : Obj} {od : Option Obj} {Q : Option Value → Shared → Prop} (X : K.In s.heap) (Z : XCls K C) (I : InstAt s.heap x ox C od) (h : Q (some (.ref C)) { s with toks := s.toks + 1 }) :
    wpAny (model prog w) A (getAttr? (.ref x) "__class__") Q E s := by
  obtain ⟨hh, g, d, t, os⟩ := s
  obtain ⟨cd, c1, c2, bm, c3, c4⟩ := Z.cls
  have FB := PySem.F.attrBase_ValueError
  have L0 := I.type (M := model prog w)
  have L1 := looks_findIn (M := model prog w) X Z.ga
  have L2 := looks_findIn (M := model prog w) X Z.gh
  have hf : findObj K C od "__class__" = some (.bind (.builtin "getset_descriptor.__get__") (.builtin "object.__class__")) := by
    unfold findObj
    rw [c1, Option.bind_some, Z.gc, Option.bind_some]
    dsimp only
    rw [cls_get, Option.bind_some]
    dsimp only
    rw [cls_takes, Option.bind_some]
  have L3 := looks_find (M := model prog w) X I hf
  have L4 : Looks (model prog w) hh (isInstance (.ref x) (.type "BaseException")) true := L0.andThen (looks_mroIn X (Z.sub X (by decide +kernel)))
  have L5 : Looks (model prog w) hh (handedOut (.ref C)) (.ref C) := .now
  unfold getAttr? getAttrBy? getAttrBy
  refine wpAny_bind (wpAny_mkText (wpAny_bind (wpAny_attempt (wpAny_holding (wpAny_bind (L0.at (wpAny_bind (L1.at ?_))))))))
  show wpAny _ _ (getAttrByItsOwn _ _ _ _ _ _) _ _ _
  unfold getAttrByItsOwn hookBefore callGetattribute boundAndCalled
  refine wpAny_bind (L2.at (wpAny_bind (wpAny_attempt (wpAny_holding ?_))))
  rw [if_neg (by decide), FB.ga.bind]
  refine wpAny_bind (wpAny_pure (wpAny_call ?_))
  have kd : builtinKind "BaseException.__getattribute__" = some .slot := by decide +kernel
  have sp : splitId "BaseException.__getattribute__" = some ("BaseException", "__getattribute__") := by decide +kernel
  refine codeAny_call_builtin FB.ga.plain F.entry_bexc_ga (@check_slot (model prog w) _ _ ⟨hh, g, d, t + 1, os⟩ "BaseException.__getattribute__" "BaseException" "__getattribute__" (.ref x) [.str "__class__" t] [] _ kd sp L4 (F.args_bexc_ga (.ref x) (.str "__class__" t)) ?_)
  unfold Builtin.«object.__getattribute__»
  refine wpAny_bind (wpAny_pure (wpAny_bind (wpAny_pure (wpAny_bind (L0.at (wpAny_bind (L3.at ?_)))))))
  unfold bindTo
  refine wpAny_bind (wpAny_holding (wpAny_call ?_))
  refine class_get (s := ⟨hh, g, d, t + 1, os⟩) X I (Z.sub X (by decide +kernel)) ?_
  repeat lk
  exact h
end
end Ex
set_option maxHeartbeats 1000000
namespace Ex
open PySem PySem.W PySem.Calls PyProof.Rows
theorem kitx {K : Frag} {C x : Addr} {ox : Obj} {od : Option Obj} (Z : XCls K C) : KitX K (.ref x) (.ref C) (fun h => InstAt h x ox C od) where
  ty := fun _ _ _ I => I.type
  it := fun _ _ X _ => by
    obtain ⟨nm, q, N, bs, bm, sn, sub, ab, col, dd, k0, k1, k2, k3, k5, l0, tl⟩ := Z.obj
    intro A' Q' E' s' k z
    unfold isType loadHead
    exact wpAny_bind (wpAny_loadPart (k _ _ (X _ _ l0)) (wpAny_pure z))
  ne := fun h tp dd its n sl X htp => Bool.eq_false_iff.mpr fun z => by
    have e : C = tp := Value.ref.inj (beq_iff_eq.mp z)
    subst e
    obtain ⟨nm, q, N, bs, bm, sn, sub, ab, col, dd, k0, k1, k2, k3, k5, l0, tl⟩ := Z.obj
    have y := congrArg (fun o => o.map Obj.cls) ((X _ _ l0).symm.trans htp)
    exact absurd (Value.type.inj (Option.some.inj y)) (by decide)
  ca := fun X I k => class_of X Z I k
end Ex
namespace My
open PySem PySem.Spec PyProof.Rows L2

/-! ### exceptions in the heap: one that was only made, one that may have flown -/
def XN (x C : Addr) (dx : Option Addr) : HO := .ext fun h => ∃ t sl, h.get? x = some { cls := .ref C, dict := dx, data := .fields #[.ref t, .none, .none, .none, .bool false, .none], slots := sl }
def XO (x C : Addr) (dx : Option Addr) : HO := .ext fun h => ∃ vs sl, h.get? x = some { cls := .ref C, dict := dx, data := .fields vs, slots := sl } ∧ vs.size = 6
def IsX (H : Hp) (x C : Addr) (dx : Option Addr) : Prop := H x = some (XN x C dx) ∨ H x = some (XO x C dx)
section
variable {P : Program} {w : World} {H : Hp} {h : Heap} {x C : Addr} {dx : Option Addr}
theorem xn_ok {t : Addr} {sl : Array (Option Value)} (e : h.get? x = some { cls := .ref C, dict := dx, data := .fields #[.ref t, .none, .none, .none, .bool false, .none], slots := sl }) : ObjOk P w H h x (XN x C dx) :=
  ⟨⟨t, sl, e⟩, ⟨_, e⟩, fun _ _ ⟨t, sl, q⟩ k => ⟨t, sl, k _ q⟩⟩
theorem xo_ok {vs : Array Value} {sl : Array (Option Value)} (e : h.get? x = some { cls := .ref C, dict := dx, data := .fields vs, slots := sl }) (z : vs.size = 6) : ObjOk P w H h x (XO x C dx) :=
  ⟨⟨vs, sl, e, z⟩, ⟨_, e⟩, fun _ _ ⟨vs, sl, q, z⟩ k => ⟨vs, sl, k _ q, z⟩⟩
theorem IsX.obj (r : IsX H x C dx) (ok : HOk P w H h) : ∃ vs sl, h.get? x = some { cls := .ref C, dict := dx, data := .fields vs, slots := sl } ∧ vs.size = 6 := by
  rcases r with r | r
  · obtain ⟨⟨t, sl, e⟩, _⟩ := (show ObjOk P w H h x (XN x C dx) from ok x _ r)
    exact ⟨_, sl, e, rfl⟩
  · obtain ⟨⟨vs, sl, e, z⟩, _⟩ := (show ObjOk P w H h x (XO x C dx) from ok x _ r)
    exact ⟨vs, sl, e, z⟩
end

/-! ### exceptions in flight -/
structure FlyS (h : Heap) (H : Hp) (x C : Addr) (dx : Option Addr) (lo : Nat) (ts : List Addr) (fl : Value) : Prop where
  isx : H x = some (XO x C dx)
  obj : ∃ vs sl, h.get? x = some { cls := .ref C, dict := dx, data := .fields vs, slots := sl } ∧ vs.size = 6 ∧ Fl.Head h x vs lo ts fl
  fre : ∀ T ∈ ts, H T = none
/-- how an exception lies behind a call -/
def CX1 (P : Program) (w : World) : CXT := fun outer H s E e s' => ∃ x C dx H' T, e = .ref x ∧ s'.os = s.os ∧ AllBare s'.gens ∧ Un (frs outer) [] H H' s.heap s'.heap ∧ HOk P w H' s'.heap ∧ FlyS s'.heap H' x C dx s.heap.objs.size [T] .none ∧ E (.ref x) dx H'
/-- what is wanted of an exception, by the names' values -/
abbrev XW := L2.St → XK
def FlyG (X : Cx) (W : XW) (R : List Addr → Value → Prop) : Value → Shared → Prop := fun e s' => ∃ x C dx σ H' ts fl, e = .ref x ∧ Inv X [] σ H' s' ∧ FlyS s'.heap H' x C dx X.s₀.heap.objs.size ts fl ∧ R ts fl ∧ (∀ T ∈ ts, ∀ p ∈ X.pn, p.1 ≠ T) ∧ W σ (.ref x) dx H'
abbrev FlyAt (X : Cx) (W : XW) : Value → Shared → Prop := FlyG X W fun _ fl => fl = .none ∨ fl = rawInt X.env.locals
/-- a def's own frame -/
structure Own (X : Cx) : Prop where
  stk : X.stack = X.env :: X.outer
  frm : X.env.frame = some X.env.locals

theorem noted_inv {X : Cx} {σ : L2.St} {H : Hp} {s : Shared} {h' : Heap} {x C : Addr} {dx : Option Addr} {ts : List Addr} (I : Inv X [] σ H s) (isx : H x = some (XO x C dx)) (n : Fl.Noted X.stack x ts s.heap h') (new : ObjOk X.prog X.w H h' x (XO x C dx))
    (hts : ∀ T ∈ ts, H T = none ∧ X.s₀.heap.objs.size ≤ T ∧ (∃ o ws, s.heap.get? T = some o ∧ o.data = .fields ws) ∧ ∀ p ∈ X.pn, p.1 ≠ T) : Inv X [] σ H { s with heap := h' } := by
  have nx : ∀ b, H b = none → b ≠ x := fun b e z => by rw [z, isx] at e; cases e
  have nfr : ∀ b u, H b = some u → b ∉ frs X.stack := fun b u e z => by rw [I.stkFree b z] at e; cases e
  have nt : ∀ b u, H b = some u → b ∉ ts := fun b u e z => by rw [(hts b z).1] at e; cases e
  obtain ⟨m0, ⟨oL, esL, epL, hL, dL, rL⟩, _⟩ := id I.loc
  have tL : ∀ T ∈ ts, T ≠ X.env.locals := fun T hT z => by
    obtain ⟨o, ws, e, d⟩ := (hts T hT).2.2.1
    rw [z, hL] at e
    cases e
    rw [dL] at d
    cases d
  refine I.step (h' := h') (g' := s.gens) (t' := s.toks) (d' := s.drawn) (ch := ts) (fun b hb => ⟨.inr (hts b hb).2.1, tL b hb, fun y c e z => ?_, fun p hp => ?_⟩)
    (fun b o hl hf hc e hn => n.keep b o (fun z => (List.mem_cons.mp (I.stkSub b z)).elim hl hf) (nx b hn) hc e) (fun b o _ _ hc e hn => n.slot b o (nx b hn) hc e) (fun _ _ _ _ q => q) (fun b o _ e => n.there b o e) (fun _ _ q => q) (fun _ _ _ q => q)
    (fun b ps q => ⟨#[], by rw [q]; simp⟩) (fun m hm => ?_) (fun b u e => ?_) I.bare
  · obtain ⟨v, o, ho, hd⟩ := I.cell y c e
    obtain ⟨o', ws, e', d'⟩ := (hts b hb).2.2.1
    rw [z, e'] at ho
    cases ho
    rw [d'] at hd
    cases hd
  · rw [List.append_nil] at hp
    exact (hts b hb).2.2.2 p hp
  · obtain ⟨o, es, ep, ho, d, r⟩ := hm
    obtain ⟨sl, q⟩ := n.slot X.env.locals o (nx _ I.free) (fun z => tL _ z rfl) ho
    exact ⟨_, es, ep, q, d, r⟩
  · by_cases hb : b = x
    · subst hb
      rw [isx] at e
      cases e
      exact new
    · refine (I.hok b u e).stay (fun c o hc q => ?_) (fun _ q => q) fun _ _ q => q
      have hcH : ∃ v, H c = some v ∧ c ≠ x := by
        rcases hc with rfl | hc
        · exact ⟨u, e, hb⟩
        · refine ⟨_, hc, fun z => ?_⟩
          rw [z, isx] at hc
          cases hc
      obtain ⟨v, hv, hcx⟩ := hcH
      exact n.keep c o (nfr c v hv) hcx (nt c v hv) q

section
variable {X : Cx} {W : XW} {M : Model} {A : Around} {E : Value → Shared → Prop} {Q : Unit → Shared → Prop} {e : Value} {s : Shared} {R : List Addr → Value → Prop}
theorem fly_note (hA : A.frames = some X.stack) (O : Own X) (g : FlyAt X W e s) (k : ∀ s', FlyG X W (fun ts fl => (∃ T, ts = [T]) ∧ fl = rawInt X.env.locals) e s' → Q () s') : wpAny M A (noteFrame e X.env) Q E s := by
  obtain ⟨x, C, dx, σ, H, ts, fl, rfl, I, F, hfl, hpn, hw⟩ := g
  obtain ⟨vs, sl, ho, hz, hd⟩ := F.obj
  have hl := I.stack
  rw [O.stk] at hl hA
  have hsz := I.sz
  have hts : ∀ T ∈ ts, H T = none ∧ X.s₀.heap.objs.size ≤ T ∧ (∃ o ws, s.heap.get? T = some o ∧ o.data = .fields ws) ∧ ∀ p ∈ X.pn, p.1 ≠ T := fun T hT => ⟨F.fre T hT, (hd.facts T hT).2.1, (hd.facts T hT).2.2, hpn T hT⟩
  refine Fl.note hA hl O.frm ho rfl (by rw [hz]; decide) hsz hd hfl fun h' vs' T hT n e' z' hd' => k _ ?_
  refine ⟨x, C, dx, σ, H, [T], _, rfl, noted_inv I F.isx (by rw [O.stk]; exact n) (xo_ok e' (z'.trans hz)) hts, ⟨F.isx, ⟨vs', sl, e', z'.trans hz, hd'⟩, fun T' h' => ?_⟩, ⟨⟨T, rfl⟩, rfl⟩, fun T' h' p hp => ?_, hw⟩
  · rw [List.mem_singleton.mp h']
    rcases hT with hT | hT
    · exact F.fre T hT
    · exact I.hok.fresh hT
  · rw [List.mem_singleton.mp h']
    rcases hT with hT | hT
    · exact hpn T hT p hp
    · exact Nat.ne_of_lt (Nat.lt_of_lt_of_le (Heap.lt_size (I.pin p (List.mem_append_left _ hp)).1) hT)
theorem fly_mark {f : Option Addr} (g : FlyG X W (fun ts fl => (∃ T, ts = [T]) ∧ R ts fl) e s) (k : ∀ s', FlyG X W (fun ts fl => (∃ T, ts = [T]) ∧ fl = f.elim .none fun a => rawInt a) e s' → Q () s') : wpAny M A (setFlight e f) Q E s := by
  obtain ⟨x, C, dx, σ, H, ts, fl, rfl, I, F, ⟨⟨T, rfl⟩, _⟩, hpn, hw⟩ := g
  obtain ⟨vs, sl, ho, hz, hd⟩ := F.obj
  have ft := hd.facts T (List.mem_singleton.mpr rfl)
  refine Fl.mark ho rfl hd fun h' oth hT hd' => k _ ?_
  have nx : x ≠ T := Ne.symm ft.1
  refine ⟨x, C, dx, σ, H, [T], _, rfl, noted_inv (ts := [T]) I F.isx ⟨fun b o _ _ hb q => (oth b (fun z => hb (by simp [z]))).trans q, fun b o _ hb q => ⟨o.slots, (oth b (fun z => hb (by simp [z]))).trans q⟩, fun b o q => ?_⟩ (xo_ok ((oth x nx).trans ho) hz)
    (fun T' h' => by rw [List.mem_singleton.mp h']; exact ⟨F.fre T (List.mem_singleton.mpr rfl), ft.2.1, ft.2.2, hpn T (List.mem_singleton.mpr rfl)⟩), ⟨F.isx, ⟨vs, sl, (oth x nx).trans ho, hz, hd'⟩, F.fre⟩, ⟨⟨T, rfl⟩, rfl⟩, hpn, hw⟩
  by_cases hb : b = T
  · rw [hb]; exact hT
  · exact ⟨o, (oth b hb).trans q⟩
theorem FlyG.imp {R' : List Addr → Value → Prop} (g : FlyG X W R e s) (k : ∀ ts fl, R ts fl → R' ts fl) : FlyG X W R' e s := by
  obtain ⟨x, C, dx, σ, H, ts, fl, a, b, c, d, r⟩ := g
  exact ⟨x, C, dx, σ, H, ts, fl, a, b, c, k _ _ d, r⟩
/-- an exception passes a loop of its own frame -/
theorem fly_own (hA : A.frames = some X.stack) (O : Own X) : PassesOwn M A X.env (FlyAt X W) := fun e s' g => by
  refine fly_note hA O g fun s1 g1 => ?_
  obtain ⟨x, C, dx, σ, H, ts, fl, rfl, I, F, ⟨⟨T, rfl⟩, hfl⟩, hpn, hw⟩ := id g1
  obtain ⟨vs, sl, ho, hz, hd⟩ := F.obj
  have h1 : vs[1]? = some (.ref T) := by cases hd; assumption
  refine wpAny_bind (wpAny_field ho rfl h1 ?_)
  rw [if_neg (by simp)]
  refine fly_mark (R := fun _ _ => True) (g1.imp fun _ _ z => ⟨z.1, trivial⟩) fun s2 g2 => g2.imp fun _ _ z => .inr ?_
  rw [z.2, O.frm]
  rfl
/-- an exception leaves the frame -/
theorem fly_leave (hA : A.frames = some X.stack) (O : Own X) (hex : X.ex = []) {E' : XK} (g : FlyAt X (fun _ => E') e s) : wpAny M A (leaving X.env e) (fun _ s' => CX1 X.prog X.w X.outer X.H₀ X.s₀ E' e s') E s := by
  unfold leaving
  refine wpAny_bind (fly_note hA O g fun s1 g1 => ?_)
  refine fly_mark (R := fun _ _ => True) (g1.imp fun _ _ z => ⟨z.1, trivial⟩) fun s2 g2 => ?_
  obtain ⟨x, C, dx, σ, H, ts, fl, rfl, I, F, ⟨⟨T, rfl⟩, hfl⟩, hpn, hw⟩ := g2
  subst hfl
  have b := I.base
  rw [hex] at b
  exact ⟨x, C, dx, H, T, rfl, I.os, I.bare, b, I.hok, F, hw⟩
end
theorem FlyG.frames {X : Cx} {W : XW} {R : List Addr → Value → Prop} {e : Value} {s : Shared} (g : FlyG X W R e s) : X.A.frames = some X.stack := by
  obtain ⟨x, C, dx, σ, H, ts, fl, _, I, _⟩ := g
  exact I.ok.frames
theorem fly_loop {X : Cx} {W : XW} {M : Model} (O : Own X) : PassesOwn M X.A X.env (FlyAt X W) := fun e s' g => fly_own g.frames O e s' g
theorem fly_body {X : Cx} {E : XK} {st : List Stmt} {t : TS} (O : Own X) (hex : X.ex = []) (hxe : ∀ e s', wpAny (model X.prog X.w) X.A (leaving X.env e) (fun _ s'' => CX1 X.prog X.w X.outer X.H₀ X.s₀ E e s'') (fun e' s'' => CX1 X.prog X.w X.outer X.H₀ X.s₀ E e' s'') s' → X.xe e s')
    (h : PSs (X.wish (FlyAt X fun _ => E)) st t) : PSs X st t := fun pins s σ H D I hw =>
  wpAny_mono (h pins s σ H D (I.wish _) hw) (fun _ _ q => q.unwish) fun e s' g => hxe e s' (fly_leave g.frames O hex g)
/-- an exception of a callee, by the names' values -/
def PassesX (CX : CXT) (X : Cx) (W : XW) : Prop := ∀ (pins : List (Addr × Obj)) (σ : L2.St) (H : Hp) (s : Shared) (e : Value) (s' : Shared), Inv X pins σ H s → CX X.stack H s (W σ) e s' → X.xe e s'
theorem fly_pass {X : Cx} {W : XW} : PassesX (CX1 X.prog X.w) (X.wish (FlyAt X W)) W := by
  rintro pins σ H s e s' I' ⟨x, C, dx, H', T, rfl, os, bare, un, hok, F, hw⟩
  have I := I'.unwish
  obtain ⟨vs, sl, ho, hz, hd⟩ := F.obj
  have I2 : Inv X pins σ H' s' := I.call' (ch := []) os un hok bare (fun b z => absurd z (by simp))
  refine ⟨x, C, dx, σ, H', [T], .none, rfl, I2.pins_of (fun p z => absurd z (by simp)), ⟨F.isx, ⟨vs, sl, ho, hz, ?_⟩, F.fre⟩, .inl rfl, fun T' h' p hp => ?_, hw⟩
  · cases hd with
    | «at» a b c d e f => exact .at a b (Nat.le_trans I.sz c) d e f
  · rw [List.mem_singleton.mp h']
    exact Nat.ne_of_lt (Nat.lt_of_lt_of_le (Heap.lt_size (I.pin p (List.mem_append_left _ hp)).1) (hd.facts T (List.mem_singleton.mpr rfl)).2.1)
end My
namespace My
open PySem PySem.Spec PyProof.Rows L2

theorem obj_some {P : Program} {w : World} {H : Hp} {h : Heap} {a : Addr} {o : HO} (x : ObjOk P w H h a o) : ∃ u, h.get? a = some u := by
  cases o with
  | lst xs => obtain ⟨_, _, _, _, e⟩ := x; exact ⟨_, e⟩
  | tup xs => obtain ⟨_, _, _, o, e, _⟩ := x; exact ⟨_, e⟩
  | dK kvs => obtain ⟨_, _, _, _, o, _, _, e, _⟩ := x; exact ⟨_, e⟩
  | dT kvs => obtain ⟨_, _, _, _, o, _, _, e, _⟩ := x; exact ⟨_, e⟩
  | set S n => obtain ⟨o, _, _, _, e, _⟩ := x; exact ⟨_, e⟩
  | ins C dx fs => obtain ⟨_, _, _, e, _⟩ := x; exact ⟨_, e⟩
  | own y => exact x
  | xd fs => obtain ⟨_, ⟨_, _, _, e, _⟩, _⟩ := x; exact ⟨_, e⟩
  | rng lo hi => obtain ⟨_, _, _, e⟩ := x; exact ⟨_, e⟩
  | frz ob u => obtain ⟨e, _⟩ := x; exact ⟨_, e⟩
  | tbl ps => exact ⟨_, (show h.get? a = some _ from x)⟩
  | met f y => exact ⟨_, (show h.get? a = some _ from x)⟩
  | ext φ => exact x.2.1
theorem free_of {P : Program} {w : World} {H : Hp} {h : Heap} {a : Addr} (x : HOk P w H h) (e : h.get? a = none) : H a = none := by
  cases q : H a with
  | none => rfl
  | some u =>
    obtain ⟨o, z⟩ := obj_some (x a u q)
    rw [e] at z
    cases z
section
variable {X : Cx} {pins : List (Addr × Obj)} {σ : L2.St} {H : Hp} {s : Shared} {h' : Heap}
/-- a new object at a place that was free -/
theorem inv_new {a : Addr} {o : HO} {t' : Nat} (I : Inv X pins σ H s) (k : ∀ b u, s.heap.get? b = some u → h'.get? b = some u) (hp : s.heap.get? a = none) (new : ObjOk X.prog X.w (upd H a o) h' a o) :
    Inv X pins σ (upd H a o) { s with heap := h', toks := t' } := by
  have hn := free_of I.hok hp
  have nb : ∀ b u, s.heap.get? b = some u → b ≠ a := fun b u e z => by rw [z, hp] at e; cases e
  refine I.un ⟨fun b u e _ _ _ => k b u e, fun b u e _ _ _ => ⟨u.slots, k b u e⟩, fun b u e n _ => by rw [upd_ne (nb b u e)]; exact n, fun b u e _ => ⟨u, k b u e⟩, fun b xs q => by rw [upd_ne (ne_of_none q hn)]; exact q,
    fun b u xs q => by rw [upd_ne (ne_of_none q hn)]; exact q, fun b ps q => ⟨#[], by rw [upd_ne (ne_of_none q hn), q]; simp⟩⟩ fun b u e => ?_
  by_cases hb : b = a
  · subst hb; rw [upd_same] at e; cases e; exact new
  · rw [upd_ne hb] at e
    exact (I.hok b u e).stay (fun c v _ q => k c v q) (fun c q => by rw [upd_ne (ne_of_none q hn)]; exact q) fun c xs q => by rw [upd_ne (ne_of_none q hn)]; exact q
/-- an exception gets its dict -/
theorem inv_attr {x C dx : Addr} {fs : List (Str × V)} {t' : Nat} (I : Inv X pins σ H s) (ex : H x = some (XN x C none)) (hdx : s.heap.objs.size = dx) (k : ∀ b u, b ≠ x → s.heap.get? b = some u → h'.get? b = some u)
    (newx : ObjOk X.prog X.w (upd (upd H dx (.xd fs)) x (XN x C (some dx))) h' x (XN x C (some dx))) (newd : ObjOk X.prog X.w (upd (upd H dx (.xd fs)) x (XN x C (some dx))) h' dx (.xd fs)) :
    Inv X pins σ (upd (upd H dx (.xd fs)) x (XN x C (some dx))) { s with heap := h', toks := t' } := by
  have hn : H dx = none := I.hok.fresh (Nat.le_of_eq hdx)
  have nxd : dx ≠ x := fun z => by rw [z, ex] at hn; cases hn
  have nx : ∀ b, H b = none → b ≠ x := fun b e z => by rw [z, ex] at e; cases e
  have low : ∀ b u, s.heap.get? b = some u → b ≠ dx := fun b u e => Nat.ne_of_lt (hdx ▸ Heap.lt_size e)
  have off : ∀ b, b ≠ x → b ≠ dx → upd (upd H dx (.xd fs)) x (XN x C (some dx)) b = H b := fun b h1 h2 => by rw [upd_ne h1, upd_ne h2]
  have oth : ∀ b u, H b = some u → u ≠ XN x C none → upd (upd H dx (.xd fs)) x (XN x C (some dx)) b = some u := fun b u e hu => by
    rw [off b (fun z => by rw [z, ex] at e; exact hu (Option.some.inj e).symm) (ne_of_none e hn)]
    exact e
  obtain ⟨ux, hux⟩ := obj_some newx
  refine I.un ⟨fun b u e n _ _ => k b u (nx b n) e, fun b u e n _ _ => ⟨u.slots, k b u (nx b n) e⟩, fun b u e n _ => by rw [off b (nx b n) (low b u e)]; exact n, fun b u e _ => ?_, fun b xs q => oth b _ q (fun z => by cases z), fun b u xs q => oth b _ q (fun z => by cases z),
    fun b ps q => ⟨#[], by rw [oth b _ q (fun z => by cases z)]; simp⟩⟩ fun b u e => ?_
  · by_cases hb : b = x
    · rw [hb]; exact ⟨ux, hux⟩
    · exact ⟨u, k b u hb e⟩
  · by_cases hb : b = x
    · subst hb; rw [upd_same] at e; cases e; exact newx
    · by_cases hd : b = dx
      · subst hd; rw [upd_ne hb, upd_same] at e; cases e; exact newd
      · rw [off b hb hd] at e
        refine (I.hok b u e).stay (fun c v hc q => k c v (fun z => ?_) q) (fun c q => oth c _ q (fun z => by cases z)) fun c xs q => oth c _ q (fun z => by cases z)
        rcases hc with rfl | hc
        · exact hb z
        · rw [z, ex] at hc; cases hc
/-- an exception that was made may fly -/
theorem inv_loose {x C : Addr} {dx : Option Addr} (I : Inv X pins σ H s) (ex : H x = some (XN x C dx)) : Inv X pins σ (upd H x (XO x C dx)) s := by
  obtain ⟨vs, sl, e, z⟩ := IsX.obj (.inl ex) I.hok
  exact I.write (e := x) (h' := s.heap) (t' := s.toks) (by rw [ex]; trivial) (.inl rfl) (fun _ _ _ q => q) ⟨_, e⟩ (xo_ok e z)
end

section
variable {X : Cx} {C f : Addr} {k : Nat} {fd : FuncData} {ps : List Str} {sp : Sp} {x : Str} {p pos pos' apos : Pos} {e o value : Expr} {es : List Expr} {t : TA} {ta tv te : TE} {nm : Str}
/-! ### made -/
def tXMake (C : Addr) (sp : Sp) (t : TA) : TE := fun σ H Q => t σ H fun vs H1 => ∀ a, H1 a = none → sp (.ref a :: vs) (upd H1 a (XN a C none)) (fun v H2 => v = .non ∧ Q (.ref a) H2) E0
theorem run_xmake {pins : List (Addr × Obj)} {σ : L2.St} {H : Hp} {s : Shared} {Q : VK} {us : List Value} {vs : List V} (Z : Ex.XCls X.K C) (hi : PySem.W.findIn X.K (.ref C) "__init__" = some (some (.ref f))) (hf : PySem.W.isFn X.K (.ref f) = true)
    (F : FnOk X.prog X.w X.K X.mg X.base CX0 k f fd ps sp) (hr : Room (k + 1) X.A) (hb : Binds X.K fd ps []) (I : Inv X pins σ H s) (r : Vals vs us) (hl : us.length ≤ sizeLine)
    (h : ∀ a, H a = none → sp (.ref a :: vs) (upd H a (XN a C none)) (fun v H2 => v = .non ∧ Q (.ref a) H2) E0) : wpAny (model X.prog X.w) X.A (call (.ref C) us) (EP X pins σ Q) X.xe s := by
  have hq := h (s.heap.objs.size + 1) (I.hok.fresh (Nat.le_succ _))
  have e2 : ((s.heap.push (Ex.tupO us)).push (Ex.newX C s.heap.objs.size)).get? (s.heap.objs.size + 1) = some (Ex.newX C s.heap.objs.size) := by
    have := Heap.get?_push_size (s.heap.push (Ex.tupO us)) (o := Ex.newX C s.heap.objs.size) rfl
    rwa [Heap.size_push] at this
  have I2 : Inv X pins σ (upd H (s.heap.objs.size + 1) (XN (s.heap.objs.size + 1) C none)) { s with heap := (s.heap.push (Ex.tupO us)).push (Ex.newX C s.heap.objs.size) } :=
    inv_new (t' := s.toks) I (fun b u q => Heap.get?_push_of_some _ (Heap.get?_push_of_some _ q)) (Heap.get?_none_of_le (Nat.le_succ _)) (xn_ok e2)
  have r2 : Vals (V.ref (s.heap.objs.size + 1) :: vs) (Value.ref (s.heap.objs.size + 1) :: us) := .cons rfl r
  have hl2 : (Value.ref (s.heap.objs.size + 1) :: us ++ []).length = ps.length := by rw [List.append_nil, ← r2.length]; exact F.len _ _ _ _ hq
  have bb := hb _ (Value.ref (s.heap.objs.size + 1) :: us) I2.kIn hl2
  rw [List.append_nil] at bb
  refine wpAny_call (Ex.make (f := f) I.kIn Z hi (beq_iff_eq.mp hf) hl (codeAny_mono (F.run _ X.stack _ _ ⟨Value.ref (s.heap.objs.size + 1) :: us, []⟩ (Value.ref (s.heap.objs.size + 1) :: us) _ _ E0 (hr.make C us []) (I2.env0.make C us []) bb r2 hq) fun r s' hq' => ?_))
  cases r with
  | error e => exact hq'.elim
  | ok fl =>
    cases fl with
    | ret u =>
      obtain ⟨v, H', I3, rv, ev, q3⟩ := I2.after hq'
      subst ev
      exact ⟨rv, ⟨V.ref (s.heap.objs.size + 1), H', I3, rfl, q3⟩⟩
    | next => exact False.elim hq'
    | brk => exact False.elim hq'
    | cont => exact False.elim hq'
theorem pe_xmake (Z : Ex.XCls X.K C) (hi : PySem.W.findIn X.K (.ref C) "__init__" = some (some (.ref f))) (hf : PySem.W.isFn X.K (.ref f) = true) (F : FnOk X.prog X.w X.K X.mg X.base CX0 k f fd ps sp) (hr : Room (k + 1) X.A) (hg : Gl X x) (hm : X.mg x = some (.ref C)) (hk : PySem.W.keepIn X.K (.ref C) = true)
    (hb : Binds X.K fd ps []) (hl : ps.length ≤ 100) (ha : PA X (e :: es) t) (hdb : (x == ("__debug__" : Str)) = false := by decide) (he : starEach (e :: es) X.env = (false, eval e X.env) :: starEach es X.env := by rfl) (hpl : (backTo pos (starEach es X.env)).any (·.1) = false := by rfl) :
    PE X (.Call (.Name x p) (e :: es) [] pos) (tXMake C sp t) := by
  intro pins s σ H Q I h
  refine wpAny_Call_Name_kw (ld_glob I hg hm ?_ hdb)
  refine PySem.W.callWith_K (h₀ := X.base) I.ok.mod.kin hk (thn (ha pos pins s σ H _ I h) fun us s1 ⟨vs, H1, I1, r, q⟩ => ⟨I1.kIn, ?_⟩) he hpl
  have z := F.len _ _ _ _ (q (s1.heap.objs.size) (I1.hok.fresh (Nat.le_refl _)))
  have z2 := r.length
  rw [List.length_cons] at z
  exact run_xmake (us := us) Z hi hf F hr hb I1 r (small (n := us.length) (by omega)) q
def tXMake0 (C : Addr) : TE := fun _ H Q => ∀ a, H a = none → Q (.ref a) (upd H a (XN a C none))
theorem pe_xmake0 (Z : Ex.XCls X.K C) (hi : ∀ cd, PySem.W.clsIn X.K C = some cd → PySem.W.nsOkIn X.K cd.ns = true ∧ PySem.W.nsIn X.K cd.ns "__init__" = some none) (hg : Gl X x) (hm : X.mg x = some (.ref C)) (hk : PySem.W.keepIn X.K (.ref C) = true) (hdb : (x == ("__debug__" : Str)) = false := by decide) :
    PE X (.Call (.Name x p) [] [] pos) (tXMake0 C) := by
  intro pins s σ H Q I h
  refine wpAny_Call_Name_kw (ld_glob I hg hm ?_ hdb)
  refine PySem.W.callWith_K0 I.kIn hk (Ex.make0 I.kIn Z hi fun h' a m => ?_)
  obtain ⟨tt, he, _⟩ := m.there
  exact ⟨.ref a, _, inv_new (t' := s.toks) I m.keeps m.new (xn_ok he), rfl, h a (free_of I.hok m.new)⟩

/-! ### its attribute stored, read -/
def sXFld (K : PySem.W.Frag) (ta tv : TE) (nm : Str) : TS := fun D σ H => tv σ H fun y H1 => ta σ H1 fun v H2 => ∃ a C, v = .ref a ∧ H2 a = some (XN a C none) ∧ Ex.XCls K C ∧ PySem.W.findIn K (.ref C) nm = some none ∧
  ∀ dx, H2 dx = none → D.nx σ (upd (upd H2 dx (.xd [(nm, y)])) a (XN a C (some dx)))
theorem ps_xfld (ha : PE X o ta) (hv : PE X value tv) (hs : swapsWith value (some (.Attribute o nm pos')) pos.line X.env = pure false) : PS X (.Assign [.Attribute o nm pos'] value pos) (sXFld X.K ta tv nm) := by
  intro pins s σ H D I h
  refine plainObj_wpAny_Assign_Attribute (thn (hv pins s σ H _ I h) fun u s1 ⟨y, H1, I1, ry, q⟩ => thn (ha pins s1 σ H1 _ I1 q) fun ov s2 ⟨v, H2, I2, rx, a, C, ev, ea, Z, hn, q2⟩ => ?_) hs
  subst ev
  obtain rfl : ov = Value.ref a := rx
  obtain ⟨⟨tt, sl, eo⟩, _⟩ := (show ObjOk X.prog X.w H2 s2.heap a (XN a C none) from I2.hok a _ ea)
  refine Ex.store I2.kIn Z hn eo rfl rfl rfl fun h' e1 ns keep => ?_
  exact ⟨σ, _, inv_attr I2 ea rfl keep (xn_ok e1) ⟨_, ns, fun g => by
    by_cases hg : g = nm
    · subst hg
      rw [if_pos rfl, List.lookup_cons_self]
      exact ry
    · rw [if_neg hg]
      have : (g == nm) = false := by simpa using hg
      rw [List.lookup_cons, this]
      trivial⟩, q2 _ (I2.hok.fresh (Nat.le_refl _))⟩
def tXFld (K : PySem.W.Frag) (ta : TE) (nm : Str) : TE := fun σ H Q => ta σ H fun v H1 => ∃ a C dx fs u, v = .ref a ∧ IsX H1 a C (some dx) ∧ Ex.XCls K C ∧ PySem.W.findIn K (.ref C) nm = some none ∧ H1 dx = some (.xd fs) ∧ fs.lookup nm = some u ∧ Q u H1
theorem pe_xfld (he : PE X e ta) (hb : attributeBase e nm X.env (eval e X.env) = eval e X.env) : PE X (.Attribute e nm pos) (tXFld X.K ta nm) := by
  intro pins s σ H Q I h
  refine attr_of hb (thn (he pins s σ H _ I h) fun u s1 ⟨v, H1, I1, rx, a, C, dx, fs, y, ev, ex, Z, hn, hd, hl, q⟩ => ?_)
  subst ev
  obtain rfl : u = Value.ref a := rx
  obtain ⟨vs, sl, eo, _⟩ := ex.obj I1.hok
  obtain ⟨mA, ns, rel⟩ := (show ObjOk X.prog X.w H1 s1.heap dx (.xd fs) from I1.hok dx _ hd)
  obtain ⟨u', hu, ru⟩ := RelO.some_of (v := y) (o := mA nm) (by rw [← hl]; exact rel nm)
  obtain ⟨od, ho, hlk⟩ := lookIn_ns ns
  exact Ex.get I1.kIn Z hn ⟨eo, rfl, rfl, ho⟩ (by rw [hlk, hu]) (handed_of ru) ⟨y, H1, I1.tok _, ru, q⟩
/-! ### isinstance -/
theorem call_isX : CallR X (.builtin "isinstance") (fun xs H Q => ∃ a C dx c u b, xs = [.ref a, c] ∧ ((∃ D, c = .ref D ∧ u = .ref D) ∨ ∃ T, c = .ty T ∧ u = .type T) ∧ IsX H a C dx ∧ (∀ d, dx = some d → ∃ fs, H d = some (.xd fs)) ∧ Ex.XCls X.K C ∧ PySem.W.kitOne X.K (.ref C) u = some b ∧ Q (.bl b) H) := by
  intro pins s σ H xs us Q I r h
  obtain ⟨a, C, dx, c, u, b, rfl, rc, ex, hd, Z, kit, q⟩ := h
  obtain ⟨u1, u2, rfl, r1, r2⟩ := vals2 r
  cases (show u1 = Value.ref a from r1)
  have eu : u2 = u := by
    rcases rc with ⟨D, rfl, rfl⟩ | ⟨T, rfl, rfl⟩
    · exact r2
    · exact r2
  subst eu
  obtain ⟨vs, sl, eo, _⟩ := ex.obj I.hok
  have od : ∃ od, PySem.W.InstAt s.heap a { cls := .ref C, dict := dx, data := .fields vs, slots := sl } C od := by
    cases dx with
    | none => exact ⟨none, eo, rfl, rfl, trivial⟩
    | some d =>
      obtain ⟨fs, hf⟩ := hd d rfl
      obtain ⟨z, hz⟩ := obj_some (I.hok d _ hf)
      exact ⟨some z, eo, rfl, rfl, hz⟩
  obtain ⟨od, J⟩ := od
  exact PySem.W.kia_one (Ex.kitx Z) I.kIn J kit (fun z => nomatch z) fun tk => ⟨.bl b, H, I.tok tk, rfl, q⟩
end
end My
namespace My
open PySem PySem.Spec PyProof.Rows L2
section
variable {X : Cx} {W : XW}
/-! ### raised -/
def tRaise (K : PySem.W.Frag) (W : XW) (te : TE) : TS := fun _ σ H => te σ H fun v H1 => ∃ a C dx, v = .ref a ∧ H1 a = some (XN a C dx) ∧ Ex.XCls K C ∧ W σ (.ref a) dx (upd H1 a (XO a C dx))
theorem ps_raise {e : Expr} {te : TE} {pos : Pos} (hc : X.calm = true) (he : PE (X.wish (FlyAt X W)) e te) : PS (X.wish (FlyAt X W)) (.Raise (some e) none pos) (tRaise X.K W te) := by
  intro pins s σ H D I h
  rw [arm_exec_Raise]
  refine wpAny_bind (wpAny_standAt (Ex.raised (wpAny_bind (thn (he pins s σ H _ I h) fun v s1 ⟨y, H1, I1, ry, q⟩ => wpAny_bind (wpAny_standAt (wpAny_pure ?_)))) (I.ok.unwish.hd hc)))
  obtain ⟨a, C, dx, rfl, ea, Z, hw⟩ := q
  obtain rfl : v = Value.ref a := ry
  obtain ⟨⟨tt, sl, eo⟩, _⟩ := (show ObjOk X.prog X.w H1 s1.heap a (XN a C dx) from I1.hok a _ ea)
  have J := inv_loose I1.unwish ea
  exact ⟨a, C, _, _, rfl, eo, rfl, rfl, rfl, X.K, I1.kIn, Z, ⟨a, C, dx, σ, _, [], .none, rfl, J.pins_of (fun p z => absurd z (by simp)), ⟨upd_same, ⟨_, sl, eo, rfl, .none rfl⟩, fun T z => absurd z (by simp)⟩, .inl rfl, fun T z => absurd z (by simp), hw⟩⟩

/-! ### a call that may raise -/
def tCallX (sp : Sp) (W : XW) (t : TA) : TE := fun σ H Q => t σ H fun vs H1 => sp vs H1 Q (W σ)
theorem pe_callX {k : Nat} {f : Addr} {fd : FuncData} {ps : List Str} {sp : Sp} {x : Str} {p pos : Pos} {e : Expr} {es : List Expr} {t : TA} (F : FnOk X.prog X.w X.K X.mg X.base (CX1 X.prog X.w) k f fd ps sp) (hr : Room k X.A) (hg : Gl X x) (hm : X.mg x = some (.ref f))
    (hk : PySem.W.keepIn X.K (.ref f) = true) (hb : Binds X.K fd ps []) (ha : PA (X.wish (FlyAt X W)) (e :: es) t) (hdb : (x == ("__debug__" : Str)) = false := by decide) (he : starEach (e :: es) X.env = (false, eval e X.env) :: starEach es X.env := by rfl)
    (hpl : (backTo pos (starEach es X.env)).any (·.1) = false := by rfl) : PE (X.wish (FlyAt X W)) (.Call (.Name x p) (e :: es) [] pos) (tCallX sp W t) := by
  intro pins s σ H Q I h
  refine wpAny_Call_Name_kw (ld_glob I hg hm ?_ hdb)
  refine PySem.W.callWith_K (h₀ := X.base) I.ok.mod.kin hk (thn (ha pos pins s σ H _ I h) fun us s1 ⟨vs, H1, I1, r, q⟩ => ⟨I1.kIn, ?_⟩) he hpl
  have hl : (us ++ []).length = ps.length := by rw [List.append_nil, ← r.length]; exact F.len _ _ _ _ q
  have bb := hb s1 us I1.kIn hl
  rw [List.append_nil] at bb
  refine wpAny_call (codeAny_mono (F.run X.A X.stack s1 H1 ⟨us, []⟩ us vs Q (W σ) hr I1.env0 bb r q) fun r s' hq => ?_)
  cases r with
  | error e => exact fly_pass pins σ H1 s1 e s' I1 hq
  | ok fl =>
    cases fl with
    | ret u => exact I1.after hq
    | next => exact False.elim hq
    | brk => exact False.elim hq
    | cont => exact False.elim hq

/-! ### a def out of which exceptions fly -/
theorem fun_okX {P : Program} {w : World} {K : PySem.W.Frag} {mg : Str → Option Value} {base : Heap} {x qual : Str} {st : Stmt} {f : Addr} {fd : FuncData} {N ps : List Str} {k : Nat} {sp : Sp} (F : Fun K x qual st f fd) (S : FnScope N ps (defScope st)) (len : ∀ vs H Q E, sp vs H Q E → vs.length = ps.length)
    (hbody : ∀ (cdv : Value) (A : Around) (outer : List Env) (s : Shared) (H : Hp) (vs : List V) (Q : VK) (E : XK), Room k (A.deeper (envOfC qual (defScope st) s.heap.objs.size f cdv)) → sp vs H Q E →
      ∃ t, PSs ((cxOf (CX1 P w) P w K mg base N qual (defScope st) f cdv A outer s H E).wish (FlyAt (cxOf (CX1 P w) P w K mg base N qual (defScope st) f cdv A outer s H E) fun _ => E)) (defBody st) t ∧ t { nx := fun _ H' => Q .non H', rt := Q } (start N vs) H) :
    FnOk P w K mg base (CX1 P w) (k + 1) f fd ps sp := by
  obtain ⟨oc, od, kV, doc, pm, an, cdv, ct, osl, rfl, lk, hcd⟩ := F.ex
  refine fn_of lk hcd S len fun A outer s H vs Q E hr hsp => ?_
  obtain ⟨t, h, q⟩ := hbody cdv A outer s H vs Q E hr hsp
  exact ⟨t, fly_body ⟨rfl, rfl⟩ rfl (fun _ _ z => z) h, q⟩

/-! ### try -/
/-- the name of an except clause goes -/
theorem unbind {M : Model} {A : Around} {E : Value → Shared → Prop} {pins : List (Addr × Obj)} {σ : L2.St} {H : Hp} {s : Shared} {i : Nat} {n : Str} {pos : Pos} {Q : Unit → Shared → Prop} (I : Inv X pins σ H s) (hN : X.N.Nodup) (hi : X.N[i]? = some n) (hx : X.env.scope.names.lookup n = some .local)
    (h : ∀ s', Inv X pins (σ.set i none) H s' → Q () s') : wpAny M A (do bindName X.env n .none; unbindBehindTheSuite X.env n pos) Q E s := by
  obtain ⟨m, hn, hl⟩ := id I.loc
  have hcls : (X.env.scope.kind == .class || (X.env.scope.kind == .module && X.env.locals != X.env.globals)) = false := by rw [I.ok.kind]; rfl
  have hiσ : i < σ.length := by rw [I.len]; exact (List.getElem?_eq_some_iff.mp hi).1
  refine wpAny_nameGoes_keeps hx hn hcls fun h' v hn' hs => ?_
  obtain ⟨oL, _, _, hoL, _⟩ := id hn
  have neL : ∀ b o, X.s₀.heap.get? b = some o → b ≠ X.env.locals := fun b o e => Nat.ne_of_lt (Nat.lt_of_lt_of_le (Heap.lt_size e) I.ok.above)
  refine h _ (Inv.tok (s := { s with heap := h' }) ⟨I.ok, I.os, I.bare, ⟨fun b o e n hb hx => (hs.2 b (neL b o e)).trans (I.base.keep b o e n hb hx), fun b o e n hb hx => ?_, I.base.free, fun b o e hx => ?_, I.base.tups, I.base.frzs, I.base.tbls⟩, ⟨_, hn', fun j y v' e1 e2 e3 => ?_⟩,
    fun y c e => ?_, I.free, I.freeC, fun p hp => ?_, fun b u e => ?_, by simpa using I.len⟩ _)
  · obtain ⟨sl, e1⟩ := I.base.slot b o e n hb hx
    exact ⟨sl, (hs.2 b (neL b o e)).trans e1⟩
  · obtain ⟨o', e1⟩ := I.base.there b o e hx
    exact ⟨o', (hs.2 b (neL b o e)).trans e1⟩
  · by_cases hj : j = i
    · subst hj
      rw [List.getElem?_set_self hiσ] at e2
      cases e2
    · rw [List.getElem?_set_ne (Ne.symm hj)] at e2
      obtain ⟨u', r', q⟩ := hl j y v' e1 e2 e3
      refine ⟨u', r', ?_⟩
      rcases q with ⟨k, e⟩ | ⟨k, c, e, z⟩
      · refine .inl ⟨k, ?_⟩
        have : y ≠ n := fun e => hj (nodup_ix hN e1 (e ▸ hi))
        simp [this, e]
      · exact .inr ⟨k, c, e, z.sameBut hs (I.cne y c e)⟩
  · obtain ⟨w', z⟩ := I.cell y c e
    exact ⟨w', z.sameBut hs (I.cne y c e)⟩
  · obtain ⟨e, n, ne, nf, d⟩ := I.pin p hp
    exact ⟨(hs.2 p.1 ne).trans e, n, ne, nf, d⟩
  · refine (I.hok b u e).stay (fun c w' hc q => (hs.2 c ?_).trans q) (fun _ q => q) fun _ _ q => q
    rintro rfl
    rcases hc with rfl | hc
    · rw [I.free] at e; cases e
    · rw [I.free] at hc; cases hc
abbrev Cx.pinned (X : Cx) (pn : List (Addr × Obj)) : Cx := { X with pn := pn }
abbrev Cx.held (X : Cx) (a : Addr) : Cx := { X with A := X.A.mark (some (.ref a)), calm := false }
end
end My
namespace My
open PySem PySem.Spec PyProof.Rows L2
section
variable {X : Cx} {σ : L2.St} {H : Hp} {s : Shared} {pins pn : List (Addr × Obj)}
theorem ok_pinned (ok : X.Ok) : (Cx.pinned X pn).Ok := ⟨ok.mod, ok.kind, ok.glob, ok.blt, ok.above, ok.inj, ok.has, ok.cab, ok.hd, ok.frames, ok.stk, ok.exf, ok.bs, ok.bsz, ok.noex, ok.exfs, ok.funs, ok.frf⟩
theorem ok_unpin (ok : (Cx.pinned X pn).Ok) : X.Ok := ⟨ok.mod, ok.kind, ok.glob, ok.blt, ok.above, ok.inj, ok.has, ok.cab, ok.hd, ok.frames, ok.stk, ok.exf, ok.bs, ok.bsz, ok.noex, ok.exfs, ok.funs, ok.frf⟩
theorem inv_pin (I : Inv X pins σ H s) : Inv (Cx.pinned X (X.pn ++ pins)) [] σ H s := ⟨ok_pinned I.ok, I.os, I.bare, I.base, I.loc, I.cell, I.free, I.freeC, fun p hp => I.pin p (by rw [List.append_nil] at hp; exact hp), I.hok, I.len⟩
theorem inv_unpin (I : Inv (Cx.pinned X (X.pn ++ pins)) [] σ H s) : Inv X pins σ H s := ⟨ok_unpin I.ok, I.os, I.bare, I.base, I.loc, I.cell, I.free, I.freeC, fun p hp => I.pin p (by rw [List.append_nil]; exact hp), I.hok, I.len⟩
theorem ok_held {a : Addr} (ok : X.Ok) : (Cx.held X a).Ok := ⟨ok.mod, ok.kind, ok.glob, ok.blt, ok.above, ok.inj, ok.has, ok.cab, (fun z => nomatch z), ok.frames, ok.stk, ok.exf, ok.bs, ok.bsz, ok.noex, ok.exfs, ok.funs, ok.frf⟩
theorem inv_held {a : Addr} (I : Inv X pins σ H s) : Inv (Cx.held X a).nox pins σ H s := ⟨(ok_held I.ok).wish _, I.os, I.bare, I.base, I.loc, I.cell, I.free, I.freeC, I.pin, I.hok, I.len⟩
theorem inv_unheld {a : Addr} (ok : X.Ok) (I : Inv (Cx.held X a).nox pins σ H s) : Inv X pins σ H s := ⟨ok, I.os, I.bare, I.base, I.loc, I.cell, I.free, I.freeC, I.pin, I.hok, I.len⟩
/-- try: body; except S as n: suite -/
def tTry (K : PySem.W.Frag) (S : Addr) (i : Nat) (tb : XW → TS) (ts : TS) : TS := fun D σ H => ∃ W : XW, tb W D σ H ∧ ∀ σ' a dx H', W σ' (.ref a) dx H' → ∃ C, H' a = some (XO a C dx) ∧ PySem.W.mroIn K C (.ref S) = some true ∧
  ts { nx := fun σ2 H2 => D.nx (σ2.set i none) H2, rt := D.rt, bk := fun σ2 H2 => D.bk (σ2.set i none) H2, ct := fun σ2 H2 => D.ct (σ2.set i none) H2 } (σ'.set i (some (.ref a))) H'
theorem ps_try {body suite : List Stmt} {b₀ : Stmt} {x n : Str} {np hpos pos : Pos} {S : Addr} {i : Nat} {tb : XW → TS} {ts : TS} (O : Own X) (hN : X.N.Nodup) (hi : X.N[i]? = some n) (hx : X.env.scope.names.lookup n = some .local) (hg : Gl X x) (hm : X.mg x = some (.ref S)) (Z : Ex.XCls X.K S)
    (hb : ∀ pn W, PSs ((Cx.pinned X pn).wish (FlyAt (Cx.pinned X pn) W)) body (tb W)) (hs : ∀ pn a, PSs (Cx.held (Cx.pinned X pn) a).nox (b₀ :: suite) ts) (hdb : (x == ("__debug__" : Str)) = false := by decide) :
    PS X (.Try body [.ExceptHandler (some (.Name x np)) (some n) (b₀ :: suite) hpos] [] [] pos) (tTry X.K S i tb ts) := by
  intro pins s σ H D I h
  obtain ⟨W, h1, h2⟩ := h
  refine wpAny_Try_except (wpAny_mono (hb (X.pn ++ pins) W [] s σ H D ((inv_pin I).wish _) h1) (fun f s1 q => ?_) fun e s1 g => ?_)
  · have q' := q.unwish
    cases f with
    | next => obtain ⟨σ', H', J, z⟩ := q'; exact wpAny_execs_nil ⟨σ', H', inv_unpin J, z⟩
    | brk => obtain ⟨σ', H', J, z⟩ := q'; exact ⟨σ', H', inv_unpin J, z⟩
    | cont => obtain ⟨σ', H', J, z⟩ := q'; exact ⟨σ', H', inv_unpin J, z⟩
    | ret u => obtain ⟨v, σ', H', J, r, z⟩ := q'; exact ⟨v, σ', H', inv_unpin J, r, z⟩
  · refine fly_note (X := Cx.pinned X (X.pn ++ pins)) g.frames ⟨O.stk, O.frm⟩ g fun s2 g2 => ?_
    refine fly_mark (R := fun _ _ => True) (g2.imp fun _ _ z => ⟨z.1, trivial⟩) fun s3 g3 => ?_
    obtain ⟨a, C, dx, σ', H', es, fl, rfl, J, F, _, hpn, hw⟩ := id g3
    obtain ⟨C', ex', hmro, hts⟩ := h2 σ' a dx H' hw
    obtain ⟨vs, sl, ho, hz⟩ := IsX.obj (.inr ex') J.hok
    have J2 : Inv (Cx.held (Cx.pinned X (X.pn ++ pins)) a).nox [] σ' H' s3 := inv_held J
    refine wpAny_handleBy_cons (codeAny_handlers_test (ld_glob J2 hg hm (Ex.matched J.kIn Z ho rfl hmro (codeAny_handlers_suite_as ?_)) hdb)) (by intro q; cases q)
    refine fly_mark (R := fun _ _ => True) (g3.imp fun _ _ z => ⟨z.1, trivial⟩) fun s4 g4 => ?_
    obtain ⟨a', C4, dx', σ4, H4, es4, fl4, ea, J4, F4, _, _, hw4⟩ := g4
    cases ea
    obtain ⟨_, _, _, hts4⟩ := h2 σ4 a dx' H4 hw4
    refine store_ok (X := (Cx.held (Cx.pinned X (X.pn ++ pins)) a).nox) (inv_held J4) hN hi (.inl hx) (v := .ref a) rfl (fun s5 J5 => ?_) (.inr hx)
    refine wpAny_mono (hs (X.pn ++ pins) a [] s5 _ H4 _ J5 hts4) (fun f s6 q => ?_) fun _ _ z => z.elim
    have key : ∀ {σ6 : L2.St} {H6 : Hp} {Q : Unit → Shared → Prop}, Inv (Cx.held (Cx.pinned X (X.pn ++ pins)) a).nox [] σ6 H6 s6 → (∀ s7, Inv X pins (σ6.set i none) H6 s7 → Q () s7) → wpAny (model X.prog X.w) X.A (do bindName X.env n .none; unbindBehindTheSuite X.env n hpos) Q X.xe s6 := fun {σ6 H6 Q} J6 z =>
      unbind (X := Cx.pinned X (X.pn ++ pins)) (inv_unheld J.ok J6) hN hi hx fun s7 J7 => z s7 (inv_unpin J7)
    cases f with
    | next => obtain ⟨σ6, H6, J6, z⟩ := q; exact key J6 fun s7 J7 => ⟨_, H6, J7, z⟩
    | brk => obtain ⟨σ6, H6, J6, z⟩ := q; exact key J6 fun s7 J7 => ⟨_, H6, J7, z⟩
    | cont => obtain ⟨σ6, H6, J6, z⟩ := q; exact key J6 fun s7 J7 => ⟨_, H6, J7, z⟩
    | ret u => obtain ⟨v, σ6, H6, J6, r, z⟩ := q; exact key J6 fun s7 J7 => ⟨v, _, H6, J7, r, z⟩
end
end My
/-! ### any nested lists and tuples held against one another -/
namespace My
open PySem PySem.Spec PyProof.Rows L2
inductive Dv where
  | f (v : V)
  | t (xs : List Dv)
  | l (xs : List Dv)
mutual
def DvR (K : PySem.W.Frag) (H : Hp) : Dv → V → Prop
  | .f x, v => v = x ∧ flatV x = true
  | .t ds, v => ∃ a vs, v = .ref a ∧ SqT K H a vs ∧ DvRs K H ds vs
  | .l ds, v => ∃ a vs, v = .ref a ∧ SqL K H a vs ∧ DvRs K H ds vs
def DvRs (K : PySem.W.Frag) (H : Hp) : List Dv → List V → Prop
  | [], [] => True
  | d :: ds, v :: vs => DvR K H d v ∧ DvRs K H ds vs
  | _, _ => False
end
mutual
def dq : Dv → Dv → Bool
  | .f x, .f y => eqV x y
  | .t xs, .t ys => dqs xs ys
  | .l xs, .l ys => dqs xs ys
  | _, _ => false
def dqs : List Dv → List Dv → Bool
  | [], [] => true
  | x :: xs, y :: ys => dq x y && dqs xs ys
  | _, _ => false
end
mutual
def Dv.dp : Dv → Nat
  | .f _ => 0
  | .t xs => 1 + dps xs
  | .l xs => 1 + dps xs
def dps : List Dv → Nat
  | [] => 0
  | x :: xs => max x.dp (dps xs)
end
theorem dps_mem : ∀ {xs : List Dv} {x : Dv}, x ∈ xs → x.dp ≤ dps xs
  | y :: ys, x, h => by
    show x.dp ≤ max y.dp (dps ys)
    rcases List.mem_cons.mp h with rfl | h
    · exact Nat.le_max_left _ _
    · exact Nat.le_trans (dps_mem h) (Nat.le_max_right _ _)
theorem dvrs_len {K : PySem.W.Frag} {H : Hp} : ∀ {ds : List Dv} {vs : List V}, DvRs K H ds vs → ds.length = vs.length
  | [], [], _ => rfl
  | _ :: ds, _ :: vs, h => by rw [List.length_cons, List.length_cons, dvrs_len (show DvRs K H ds vs from h.2)]
  | [], _ :: _, h => h.elim
  | _ :: _, [], h => h.elim
theorem dvrs_at {K : PySem.W.Frag} {H : Hp} : ∀ {ds : List Dv} {vs : List V} {j : Nat} {v : V}, DvRs K H ds vs → vs[j]? = some v → ∃ d, ds[j]? = some d ∧ DvR K H d v
  | [], [], _, _, _, e => by simp at e
  | d :: ds, v :: vs, 0, _, h, e => ⟨d, rfl, by rw [← Option.some.inj e]; exact h.1⟩
  | d :: ds, v :: vs, j + 1, u, h, e => dvrs_at (ds := ds) (vs := vs) (j := j) h.2 e
  | [], _ :: _, _, _, h, _ => h.elim
  | _ :: _, [], _, _, h, _ => h.elim
def dqj (xs ys : List Dv) (j : Nat) : Bool := match xs[j]?, ys[j]? with
  | some x, some y => dq x y
  | _, _ => true
theorem dqs_eq : ∀ (xs ys : List Dv), ((List.range (min xs.length ys.length)).all (dqj xs ys) && xs.length == ys.length) = dqs xs ys
  | [], [] => rfl
  | [], y :: ys => by simp [dqs]
  | x :: xs, [] => by simp [dqs]
  | x :: xs, y :: ys => by
    have ih := dqs_eq xs ys
    have e : min (x :: xs).length (y :: ys).length = min xs.length ys.length + 1 := by simp only [List.length_cons]; omega
    rw [e, List.range_succ_eq_map, List.all_cons, List.all_map]
    have e2 : (dqj (x :: xs) (y :: ys) ∘ Nat.succ) = dqj xs ys := by
      funext j
      show dqj (x :: xs) (y :: ys) (j + 1) = _
      unfold dqj
      simp
    have e3 : dqj (x :: xs) (y :: ys) 0 = dq x y := rfl
    have e4 : ((x :: xs).length == (y :: ys).length) = (xs.length == ys.length) := by
      rw [List.length_cons, List.length_cons]
      by_cases h : xs.length = ys.length
      · rw [h]; simp
      · rw [beq_eq_false_iff_ne.mpr h, beq_eq_false_iff_ne.mpr (by omega)]
    rw [e2, e3, e4, Bool.and_assoc, ih]
    rfl
theorem eqV_self {v : V} (h : flatV v = true) : eqV v v = true := by
  cases v with
  | non => rfl
  | bl b => simp [eqV]
  | int i => simp [eqV]
  | str x => simp [eqV]
  | _ => exact absurd h (fun z => by cases z)
section
variable {X : Cx} {pins : List (Addr × Obj)} {σ : L2.St} {H : Hp} {sh : Shared}
mutual
/-- one thing, told in two ways -/
theorem dq_det (I : Inv X pins σ H sh) : ∀ (d e : Dv) (v : V), DvR X.K H d v → DvR X.K H e v → dq d e = true
  | .f x, .f y, v, h, g => by
    have e : x = y := h.1.symm.trans g.1
    subst e
    exact eqV_self h.2
  | .f x, .t es, v, h, g => by
    obtain ⟨a, vs, rfl, _⟩ := g
    have q := h.2
    rw [← h.1] at q
    cases q
  | .f x, .l es, v, h, g => by
    obtain ⟨a, vs, rfl, _⟩ := g
    have q := h.2
    rw [← h.1] at q
    cases q
  | .t ds, .f y, v, h, g => by
    obtain ⟨a, vs, rfl, _⟩ := h
    have q := g.2
    rw [← g.1] at q
    cases q
  | .l ds, .f y, v, h, g => by
    obtain ⟨a, vs, rfl, _⟩ := h
    have q := g.2
    rw [← g.1] at q
    cases q
  | .t ds, .t es, v, h, g => by
    obtain ⟨a, vs, rfl, h1, h2⟩ := h
    obtain ⟨a', ws, e, g1, g2⟩ := g
    cases e
    have := I.tuple_inj h1 g1
    subst this
    exact dqs_det I ds es vs h2 g2
  | .l ds, .l es, v, h, g => by
    obtain ⟨a, vs, rfl, h1, h2⟩ := h
    obtain ⟨a', ws, e, g1, g2⟩ := g
    cases e
    have := I.list_inj h1 g1
    subst this
    exact dqs_det I ds es vs h2 g2
  | .t ds, .l es, v, h, g => by
    obtain ⟨a, vs, rfl, h1, h2⟩ := h
    obtain ⟨a', ws, e, g1, g2⟩ := g
    cases e
    obtain ⟨_, _, ⟨o, e1, c1, _⟩, _⟩ := I.tuple h1
    obtain ⟨_, _, ⟨o', n', e2, c2, _⟩, _⟩ := I.list g1
    rw [e1] at e2
    cases e2
    rw [c1] at c2
    exact absurd (Value.type.inj c2) (by decide)
  | .l ds, .t es, v, h, g => by
    obtain ⟨a, vs, rfl, h1, h2⟩ := h
    obtain ⟨a', ws, e, g1, g2⟩ := g
    cases e
    obtain ⟨_, _, ⟨o, e1, c1, _⟩, _⟩ := I.tuple g1
    obtain ⟨_, _, ⟨o', n', e2, c2, _⟩, _⟩ := I.list h1
    rw [e1] at e2
    cases e2
    rw [c1] at c2
    exact absurd (Value.type.inj c2) (by decide)
theorem dqs_det (I : Inv X pins σ H sh) : ∀ (ds es : List Dv) (vs : List V), DvRs X.K H ds vs → DvRs X.K H es vs → dqs ds es = true
  | [], [], _, _, _ => rfl
  | d :: ds, e :: es, v :: vs, h, g => by
    show (dq d e && dqs ds es) = true
    rw [dq_det I d e v h.1 g.1, dqs_det I ds es vs h.2 g.2]
    rfl
  | [], _ :: _, [], _, g => g.elim
  | [], _ :: _, _ :: _, h, _ => h.elim
  | _ :: _, [], [], h, _ => h.elim
  | _ :: _, [], _ :: _, _, g => g.elim
  | _ :: _, _ :: _, [], h, _ => h.elim
end
/-- the items of two rows, one by one -/
theorem dq_items {A : Around} {xs ys : List V} {ds es : List Dv} {us ws : List Value} (hx : DvRs X.K H ds xs) (hy : DvRs X.K H es ys) (ru : Vals xs us) (rw' : Vals ys ws)
    (ih : ∀ d e v u x y, d ∈ ds → DvR X.K H d v → DvR X.K H e u → RelV v x → RelV u y → SeqAt.EqAt A sh x y (dq d e)) :
    ∀ j (h1 : j < us.toArray.size) (h2 : j < ws.toArray.size), SeqAt.EqAt A sh us.toArray[j] ws.toArray[j] (dqj ds es j) := by
  intro j h1 h2
  have h1' : j < us.length := by simpa using h1
  have h2' : j < ws.length := by simpa using h2
  have lx := ru.length
  have ly := rw'.length
  have g1 : xs[j]? = some xs[j] := List.getElem?_eq_getElem (by omega)
  have g2 : ys[j]? = some ys[j] := List.getElem?_eq_getElem (by omega)
  obtain ⟨u1, e1, r1⟩ := ru.get g1
  obtain ⟨u2, e2, r2⟩ := rw'.get g2
  obtain ⟨m1, f1, q1⟩ := dvrs_at hx g1
  obtain ⟨m2, f2, q2⟩ := dvrs_at hy g2
  have k1 : us.toArray[j] = u1 := by
    have := (List.getElem?_eq_some_iff.mp e1).2
    simpa using this
  have k2 : ws.toArray[j] = u2 := by
    have := (List.getElem?_eq_some_iff.mp e2).2
    simpa using this
  rw [k1, k2, show dqj ds es j = dq m1 m2 from by unfold dqj; rw [f1, f2]]
  exact ih m1 m2 _ _ u1 u2 (List.mem_of_getElem? f1) q1 q2 r1 r2
theorem lists_eq {A : Around} {a b : Addr} {xs ys : List V} {ds es : List Dv} {us ws : List Value} (hx : DvRs X.K H ds xs) (hy : DvRs X.K H es ys) (ru : Vals xs us) (rw' : Vals ys ws) (ha : sh.heap.IsList a us.toArray) (hb : sh.heap.IsList b ws.toArray) (hu : A.units < cLine)
    (it : ∀ j (h1 : j < us.toArray.size) (h2 : j < ws.toArray.size), SeqAt.EqAt A.in1 sh us.toArray[j] ws.toArray[j] (dqj ds es j)) : SeqAt.RcAt A sh (.ref a) (.ref b) (dqs ds es) ∧ SeqAt.RcNeAt A sh (.ref a) (.ref b) (!dqs ds es) := by
  have lx := ru.length
  have ly := rw'.length
  have l1 := dvrs_len hx
  have l2 := dvrs_len hy
  by_cases h : us.toArray.size = ws.toArray.size
  · have e : (List.range us.toArray.size).all (dqj ds es) = dqs ds es := by
      rw [← dqs_eq]
      have hs : us.length = ws.length := by simpa using h
      rw [List.size_toArray, show min ds.length es.length = us.length by omega, show (ds.length == es.length) = true from beq_iff_eq.mpr (by omega), Bool.and_true]
    have a1 := SeqAt.RcAt.lists ha hb h hu it
    have a2 := SeqAt.RcNeAt.lists ha hb h hu it
    rw [e] at a1 a2
    exact ⟨a1, a2⟩
  · have e : dqs ds es = false := by
      rw [← dqs_eq]
      have hs : ¬ us.length = ws.length := by simpa using h
      rw [show (ds.length == es.length) = false from beq_eq_false_iff_ne.mpr (by omega), Bool.and_false]
    rw [e]
    exact ⟨SeqAt.RcAt.lists_lengths ha hb (by simpa using h) hu, SeqAt.RcNeAt.lists_lengths ha hb (by simpa using h) hu⟩
theorem tuples_eq {A : Around} {a b : Addr} {xs ys : List V} {ds es : List Dv} {us ws : List Value} (hx : DvRs X.K H ds xs) (hy : DvRs X.K H es ys) (ru : Vals xs us) (rw' : Vals ys ws) (ha : sh.heap.IsTuple a us.toArray) (hb : sh.heap.IsTuple b ws.toArray) (hu : A.units < cLine)
    (it : ∀ j (h1 : j < us.toArray.size) (h2 : j < ws.toArray.size), SeqAt.EqAt A.in1 sh us.toArray[j] ws.toArray[j] (dqj ds es j)) : SeqAt.RcAt A sh (.ref a) (.ref b) (dqs ds es) ∧ SeqAt.RcNeAt A sh (.ref a) (.ref b) (!dqs ds es) := by
  have e : ((List.range (min us.toArray.size ws.toArray.size)).all (dqj ds es) && us.toArray.size == ws.toArray.size) = dqs ds es := by
    have lx := ru.length
    have ly := rw'.length
    have l1 := dvrs_len hx
    have l2 := dvrs_len hy
    rw [← dqs_eq, List.size_toArray, List.size_toArray, ← lx, ← ly, ← l1, ← l2]
  have a1 := SeqAt.RcAt.tuples ha hb hu it
  have a2 := SeqAt.RcNeAt.tuples ha hb hu it
  rw [e] at a1 a2
  exact ⟨a1, a2⟩
theorem eq_dv (I : Inv X pins σ H sh) : ∀ (n : Nat) (A : Around) (d e : Dv) (v u : V) (x y : Value), d.dp ≤ n → A.units + 2 * n + 2 < cLine → DvR X.K H d v → DvR X.K H e u → RelV v x → RelV u y → SeqAt.EqAt A sh x y (dq d e) := by
  intro n
  induction n with
  | zero =>
    intro A d e v u x y hd hu h g rv ru
    have hu0 : A.units < cLine := by omega
    cases d with
    | t xs => exact absurd hd (by show ¬ (1 + dps xs ≤ 0); omega)
    | l xs => exact absurd hd (by show ¬ (1 + dps xs ≤ 0); omega)
    | f p =>
      obtain ⟨rfl, hf⟩ := h
      cases e with
      | f q =>
        obtain ⟨rfl, hg⟩ := g
        exact eqAt_V rv ru hf hg
      | t es =>
        obtain ⟨a, vs, rfl, h1, _⟩ := g
        cases ru
        obtain ⟨its, r, pl, _⟩ := I.tuple h1
        cases v with
        | non => cases rv; exact SeqAt.EqAt.none_tuple pl hu0
        | bl b => cases rv; exact SeqAt.EqAt.bool_tuple b pl hu0
        | int b => obtain ⟨t, rfl⟩ := rv; exact SeqAt.EqAt.int_tuple b t pl hu0
        | str b => obtain ⟨t, rfl⟩ := rv; exact SeqAt.EqAt.str_tuple b t pl hu0
        | _ => cases hf
      | l es =>
        obtain ⟨a, vs, rfl, h1, _⟩ := g
        cases ru
        obtain ⟨its, r, pl, _⟩ := I.list h1
        cases v with
        | non => cases rv; exact SeqAt.EqAt.none_list pl.isList hu0
        | bl b => cases rv; exact SeqAt.EqAt.bool_list b pl.isList hu0
        | int b => obtain ⟨t, rfl⟩ := rv; exact SeqAt.EqAt.int_list b t pl.isList hu0
        | str b => obtain ⟨t, rfl⟩ := rv; exact SeqAt.EqAt.str_list b t pl.isList hu0
        | _ => cases hf
  | succ n ih =>
    intro A d e v u x y hd hu h g rv ru
    have hu0 : A.units < cLine := by omega
    have hu1 : A.in1.units + 2 * n + 2 < cLine := by show A.units + 1 + 2 * n + 2 < cLine; omega
    cases d with
    | f p => exact (fun (z : SeqAt.EqAt A sh x y (dq (.f p) e)) => z) (by
        obtain ⟨rfl, hf⟩ := h
        cases e with
        | f q =>
          obtain ⟨rfl, hg⟩ := g
          exact eqAt_V rv ru hf hg
        | t es =>
          obtain ⟨a, vs, rfl, h1, _⟩ := g
          cases ru
          obtain ⟨its, r, pl, _⟩ := I.tuple h1
          cases v with
          | non => cases rv; exact SeqAt.EqAt.none_tuple pl hu0
          | bl b => cases rv; exact SeqAt.EqAt.bool_tuple b pl hu0
          | int b => obtain ⟨t, rfl⟩ := rv; exact SeqAt.EqAt.int_tuple b t pl hu0
          | str b => obtain ⟨t, rfl⟩ := rv; exact SeqAt.EqAt.str_tuple b t pl hu0
          | _ => cases hf
        | l es =>
          obtain ⟨a, vs, rfl, h1, _⟩ := g
          cases ru
          obtain ⟨its, r, pl, _⟩ := I.list h1
          cases v with
          | non => cases rv; exact SeqAt.EqAt.none_list pl.isList hu0
          | bl b => cases rv; exact SeqAt.EqAt.bool_list b pl.isList hu0
          | int b => obtain ⟨t, rfl⟩ := rv; exact SeqAt.EqAt.int_list b t pl.isList hu0
          | str b => obtain ⟨t, rfl⟩ := rv; exact SeqAt.EqAt.str_list b t pl.isList hu0
          | _ => cases hf)
    | t ds =>
      obtain ⟨a, vs, rfl, h1, h2⟩ := id h
      cases rv
      obtain ⟨us, r1, pl1, _⟩ := I.tuple h1
      have hds : dps ds ≤ n := by have : 1 + dps ds ≤ n + 1 := hd; omega
      cases e with
      | f q =>
        obtain ⟨rfl, hg⟩ := g
        cases u with
        | non => cases ru; exact SeqAt.EqAt.tuple_none pl1 hu0
        | bl b => cases ru; exact SeqAt.EqAt.tuple_bool b pl1 hu0
        | int b => obtain ⟨t, rfl⟩ := ru; exact SeqAt.EqAt.tuple_int b t pl1 hu0
        | str b => obtain ⟨t, rfl⟩ := ru; exact SeqAt.EqAt.tuple_str b t pl1 hu0
        | _ => cases hg
      | t es =>
        obtain ⟨b, ws', rfl, g1, g2⟩ := id g
        cases ru
        obtain ⟨ws, r2, pl2, _⟩ := I.tuple g1
        by_cases hab : a = b
        · subst hab
          rw [dq_det I _ _ _ h g]
          exact SeqAt.EqAt.same _
        · exact SeqAt.EqAt.of_refs hab (tuples_eq h2 g2 r1 r2 pl1 pl2 hu0 (dq_items h2 g2 r1 r2 fun d e v u x y hm hv hu' rx ry => ih A.in1 d e v u x y (Nat.le_trans (dps_mem hm) hds) hu1 hv hu' rx ry)).1
      | l es =>
        obtain ⟨b, ws', rfl, g1, g2⟩ := g
        cases ru
        obtain ⟨ws, r2, pl2, _⟩ := I.list g1
        exact SeqAt.EqAt.tuple_list pl1 pl2.isList hu0
    | l ds =>
      obtain ⟨a, vs, rfl, h1, h2⟩ := id h
      cases rv
      obtain ⟨us, r1, pl1, _⟩ := I.list h1
      have hds : dps ds ≤ n := by have : 1 + dps ds ≤ n + 1 := hd; omega
      cases e with
      | f q =>
        obtain ⟨rfl, hg⟩ := g
        cases u with
        | non => cases ru; exact SeqAt.EqAt.list_none pl1.isList hu0
        | bl b => cases ru; exact SeqAt.EqAt.list_bool b pl1.isList hu0
        | int b => obtain ⟨t, rfl⟩ := ru; exact SeqAt.EqAt.list_int b t pl1.isList hu0
        | str b => obtain ⟨t, rfl⟩ := ru; exact SeqAt.EqAt.list_str b t pl1.isList hu0
        | _ => cases hg
      | l es =>
        obtain ⟨b, ws', rfl, g1, g2⟩ := id g
        cases ru
        obtain ⟨ws, r2, pl2, _⟩ := I.list g1
        by_cases hab : a = b
        · subst hab
          rw [dq_det I _ _ _ h g]
          exact SeqAt.EqAt.same _
        · exact SeqAt.EqAt.of_refs hab (lists_eq h2 g2 r1 r2 pl1.isList pl2.isList hu0 (dq_items h2 g2 r1 r2 fun d e v u x y hm hv hu' rx ry => ih A.in1 d e v u x y (Nat.le_trans (dps_mem hm) hds) hu1 hv hu' rx ry)).1
      | t es =>
        obtain ⟨b, ws', rfl, g1, g2⟩ := g
        cases ru
        obtain ⟨ws, r2, pl2, _⟩ := I.tuple g1
        exact SeqAt.EqAt.list_tuple pl1.isList pl2 hu0
end
section
variable {X : Cx}
/-- x == y, x != y, both lists or both tuples -/
def rDv (K : PySem.W.Frag) (n : Nat) (neg : Bool) : R2 := fun x y H Q => ∃ d e, DvR K H d x ∧ DvR K H e y ∧ d.dp ≤ n ∧ ((∃ ds es, d = .t ds ∧ e = .t es) ∨ ∃ ds es, d = .l ds ∧ e = .l es) ∧ Q (.bl (xor neg (dq d e))) H
theorem op_eqD {n : Nat} (hu : X.A.units + 2 * n + 4 < cLine) : OpR X (compareOp .Eq) (rDv X.K n false) := by
  intro pins s σ H x y v u Q I rx ry h
  obtain ⟨d, e, hd, he, hn, hk, q⟩ := h
  rw [Bool.false_xor] at q
  rcases hk with ⟨ds, es, rfl, rfl⟩ | ⟨ds, es, rfl, rfl⟩
  · obtain ⟨a, vs, rfl, h1, h2⟩ := hd
    obtain ⟨b, ws', rfl, g1, g2⟩ := he
    cases rx
    cases ry
    obtain ⟨us, r1, pl1, _⟩ := I.tuple h1
    obtain ⟨ws, r2, pl2, _⟩ := I.tuple g1
    exact (tuples_eq h2 g2 r1 r2 pl1 pl2 (by omega) (dq_items h2 g2 r1 r2 fun d e v u x y hm hv hu' rx ry => eq_dv I n _ d e v u x y (by have := dps_mem hm; have : 1 + dps ds ≤ n := hn; omega) (by show X.A.units + 1 + 2 * n + 2 < cLine; omega) hv hu' rx ry)).1 X.prog X.w _ _ ⟨.bl _, H, I, rfl, q⟩
  · obtain ⟨a, vs, rfl, h1, h2⟩ := hd
    obtain ⟨b, ws', rfl, g1, g2⟩ := he
    cases rx
    cases ry
    obtain ⟨us, r1, pl1, _⟩ := I.list h1
    obtain ⟨ws, r2, pl2, _⟩ := I.list g1
    exact (lists_eq h2 g2 r1 r2 pl1.isList pl2.isList (by omega) (dq_items h2 g2 r1 r2 fun d e v u x y hm hv hu' rx ry => eq_dv I n _ d e v u x y (by have := dps_mem hm; have : 1 + dps ds ≤ n := hn; omega) (by show X.A.units + 1 + 2 * n + 2 < cLine; omega) hv hu' rx ry)).1 X.prog X.w _ _ ⟨.bl _, H, I, rfl, q⟩
theorem op_neDv {n : Nat} (hu : X.A.units + 2 * n + 4 < cLine) : OpR X (compareOp .NotEq) (rDv X.K n true) := by
  intro pins s σ H x y v u Q I rx ry h
  obtain ⟨d, e, hd, he, hn, hk, q⟩ := h
  rw [Bool.true_xor] at q
  rcases hk with ⟨ds, es, rfl, rfl⟩ | ⟨ds, es, rfl, rfl⟩
  · obtain ⟨a, vs, rfl, h1, h2⟩ := hd
    obtain ⟨b, ws', rfl, g1, g2⟩ := he
    cases rx
    cases ry
    obtain ⟨us, r1, pl1, _⟩ := I.tuple h1
    obtain ⟨ws, r2, pl2, _⟩ := I.tuple g1
    exact (tuples_eq h2 g2 r1 r2 pl1 pl2 (by omega) (dq_items h2 g2 r1 r2 fun d e v u x y hm hv hu' rx ry => eq_dv I n _ d e v u x y (by have := dps_mem hm; have : 1 + dps ds ≤ n := hn; omega) (by show X.A.units + 1 + 2 * n + 2 < cLine; omega) hv hu' rx ry)).2 X.prog X.w _ _ ⟨.bl _, H, I, rfl, q⟩
  · obtain ⟨a, vs, rfl, h1, h2⟩ := hd
    obtain ⟨b, ws', rfl, g1, g2⟩ := he
    cases rx
    cases ry
    obtain ⟨us, r1, pl1, _⟩ := I.list h1
    obtain ⟨ws, r2, pl2, _⟩ := I.list g1
    exact (lists_eq h2 g2 r1 r2 pl1.isList pl2.isList (by omega) (dq_items h2 g2 r1 r2 fun d e v u x y hm hv hu' rx ry => eq_dv I n _ d e v u x y (by have := dps_mem hm; have : 1 + dps ds ≤ n := hn; omega) (by show X.A.units + 1 + 2 * n + 2 < cLine; omega) hv hu' rx ry)).2 X.prog X.w _ _ ⟨.bl _, H, I, rfl, q⟩
end
end My
/-! ### a part of a text -/
namespace My
open PySem PySem.Spec PyProof.Rows L2 PySem.Builtin
theorem slice_ix (x : Str) (l u : Option Int) : (PySem.Txt.slice x l u).length ≤ (Builtin.Str.strSliceIndices l u 1 x.length).length := by
  unfold PySem.Txt.slice
  split
  · rename_i h
    have e := beq_iff_eq.mp (Bool.and_eq_true_iff.mp h).2
    exact Nat.le_of_eq e.symm
  · show (List.filterMap _ _).toArray.size ≤ _
    rw [List.size_toArray]
    exact List.length_filterMap_le _ _
theorem slice_to (x : Str) {j : Int} (h0 : 0 ≤ j) : ((PySem.Txt.slice x none (some j)).length : Int) ≤ j := by
  have h := slice_ix x none (some j)
  have e : ((Builtin.Str.strSliceIndices none (some j) 1 x.length).length : Int) ≤ j := by
    unfold Builtin.Str.strSliceIndices sliceRange
    simp only [show (1 : Int) > 0 by decide, if_true, List.length_map, List.length_range]
    (repeat' split) <;> (try simp only [Int.ediv_one]) <;> omega
  omega
theorem slice_from (x : Str) {i : Int} (h0 : 0 ≤ i) : ((PySem.Txt.slice x (some i) none).length : Int) ≤ max 0 ((x.length : Int) - i) := by
  have h := slice_ix x (some i) none
  have e : ((Builtin.Str.strSliceIndices (some i) none 1 x.length).length : Int) ≤ max 0 ((x.length : Int) - i) := by
    unfold Builtin.Str.strSliceIndices sliceRange
    simp only [show (1 : Int) > 0 by decide, if_true, List.length_map, List.length_range]
    (repeat' split) <;> (try simp only [Int.ediv_one]) <;> omega
  omega
theorem slice_le' (x : Str) (l u : Option Int) : (PySem.Txt.slice x l u).length ≤ x.length := PyProof.Txt.length_slice_le x l u
section
variable {X : Cx}
def rSlS : V → Option Int → Option Int → Hp → VK → Prop := fun x lo hi H Q => ∃ z, x = .str z ∧ z.length ≤ sizeLine ∧ Q (.str (PySem.Txt.slice z lo hi)) H
theorem sl_str : SlR X rSlS := by
  intro pins s σ H x v vl vu lo hi sl Q I rx hs pl pu h
  obtain ⟨z, rfl, hz, q⟩ := h
  obtain ⟨t, rfl⟩ := rx
  refine ⟨"str", _, F.slot_str_getitem.lookup, typeIs_str _ _ _, ?_⟩
  have fin : ∀ (t' : Tok) (k : Nat), EP X pins σ Q (.str (PySem.Txt.slice z lo hi) t') { s with toks := k } := fun t' k => ⟨.str (PySem.Txt.slice z lo hi), H, I.tok k, ⟨t', rfl⟩, q⟩
  have hl := Nat.le_trans (slice_le' z lo hi) hz
  obtain ⟨o, ho, hc, hd⟩ := hs
  cases pl with
  | none =>
    cases pu with
    | none => exact wpAny_getItem_str_slice (l := none) (u := none) (st := none) ⟨o, ho, hc, hd⟩ rfl (post_val_or_str ⟨hl, fin⟩)
    | int j uj => exact wpAny_getItem_str_slice (l := none) (u := some (j, uj)) (st := none) ⟨o, ho, hc, hd⟩ rfl (post_val_or_str ⟨hl, fin⟩)
  | int i ui =>
    cases pu with
    | none => exact wpAny_getItem_str_slice (l := some (i, ui)) (u := none) (st := none) ⟨o, ho, hc, hd⟩ rfl (post_val_or_str ⟨hl, fin⟩)
    | int j uj => exact wpAny_getItem_str_slice (l := some (i, ui)) (u := some (j, uj)) (st := none) ⟨o, ho, hc, hd⟩ rfl (post_val_or_str ⟨hl, fin⟩)
end
end My
namespace My
open PySem PySem.Spec PyProof.Rows L2
section
variable {X : Cx}
theorem kit_ii (K : PySem.W.Frag) : PySem.W.kitOne K (.type "int") (.type "int") = some true := rfl
theorem kit_ib (K : PySem.W.Frag) : PySem.W.kitOne K (.type "int") (.type "bool") = some false := by
  show (if (Value.type "int" == Value.type "bool") = true then some true else if PySem.W.kitMeta "bool" = true then (fastBuiltinMro "int").map (·.contains (Value.type "bool")) else none) = some false
  decide +kernel
theorem call_isInt : CallR X (.builtin "isinstance") (fun xs H Q => ∃ (i : Int) (c : String), xs = [.int i, .ty c] ∧ ((c = "int" ∧ Q (.bl true) H) ∨ (c = "bool" ∧ Q (.bl false) H))) := by
  intro pins s σ H xs us Q I r h
  obtain ⟨i, c, rfl, h⟩ := h
  obtain ⟨u, w', rfl, rx, ry⟩ := vals2 r
  cases (show w' = Value.type c from ry)
  rcases h with ⟨rfl, q⟩ | ⟨rfl, q⟩
  · exact isinst_ok I rx (.int i) (kit_ii _) fun tk => ⟨.bl true, H, I.tok tk, rfl, q⟩
  · exact isinst_ok I rx (.int i) (kit_ib _) fun tk => ⟨.bl false, H, I.tok tk, rfl, q⟩
end
end My
/-! ### classes of refusals under one class -/
namespace My
open PySem PySem.Spec PyProof.Rows L2
structure CI (K : PySem.W.Frag) (S C N : Addr) : Prop where
  obj : ∃ nm q bs sn sub ab col dd k0 k1 k2 k3 k5, K.lookup C = some (excClassObj nm q C N bs (.ref S :: Ex.bmV) true sn sub ab col dd k0 k1 k2 k3 k5 "ValueError.__new__")
section
variable {K : PySem.W.Frag} {S C D N M : Addr}
theorem CI.cls (h : CI K S C N) : ∃ cd, PySem.W.clsIn K C = some cd ∧ cd.mro = .ref C :: .ref S :: Ex.bmV ∧ cd.ns = N := by
  obtain ⟨nm, q, bs, sn, sub, ab, col, dd, k0, k1, k2, k3, k5, l⟩ := h.obj
  have e : PySem.W.clsIn K C = some { name := nm, bases := bs, mro := .ref C :: .ref S :: Ex.bmV, ns := N, qualname := q, hasDict := true, slotNames := sn, subclasses := sub, abstract := ab, collection := col, hasDel := false } := by
    unfold PySem.W.clsIn
    rw [l]
  exact ⟨_, e, rfl, rfl⟩
theorem CI.typ (h : CI K S C N) : PySem.W.typeIn K (.ref C) = some (.type "type") := by
  obtain ⟨nm, q, bs, sn, sub, ab, col, dd, k0, k1, k2, k3, k5, l⟩ := h.obj
  show (K.lookup C).map (·.cls) = _
  rw [l]
  rfl
theorem CI.mro (h : CI K S C N) (v : Value) : PySem.W.mroIn K C v = some ((Value.ref C :: .ref S :: Ex.bmV).contains v) := by
  obtain ⟨cd, h1, h2, _⟩ := h.cls
  unfold PySem.W.mroIn
  rw [h1, Option.bind_some, h2, if_neg (by simp)]
theorem CI.mr (h : CI K S C N) : PySem.W.mroIn K C (.ref S) = some true := by
  rw [h.mro]
  simp
theorem CI.kit (h : CI K S C N) (g : CI K S D M) (hS : D ≠ S) : PySem.W.kitOne K (.ref C) (.ref D) = some (decide (D = C)) := by
  unfold PySem.W.kitOne
  by_cases e : C = D
  · subst e
    rw [if_pos (by simp), decide_eq_true rfl]
  · rw [if_neg (by simpa using e)]
    obtain ⟨cd, g1, _⟩ := g.cls
    show (if ((PySem.W.clsIn K D).isSome && PySem.W.typeIn K (.ref D) == some (.type "type")) = true then PySem.W.subIn K (.ref C) (.ref D) else none) = _
    rw [g1, g.typ, if_pos (by simp)]
    show PySem.W.mroIn K C (.ref D) = _
    rw [h.mro]
    simp [Ne.symm e, hS, Ex.bmV]
theorem kit_up (h : CI K S C N) {T : Value} (hc : (Value.ref C == T) = false) (ht : PySem.W.kitCls K (.ref C) T = PySem.W.mroIn K C T) (hm : (Value.ref C :: .ref S :: Ex.bmV).contains T = true) : PySem.W.kitOne K (.ref C) T = some true := by
  unfold PySem.W.kitOne
  rw [if_neg (by rw [hc]; exact Bool.false_ne_true), ht, h.mro, hm]
theorem CI.kS (h : CI K S C N) (hS : (PySem.W.clsIn K S).isSome = true) (tS : PySem.W.typeIn K (.ref S) = some (.type "type")) (ne : C ≠ S) : PySem.W.kitOne K (.ref C) (.ref S) = some true := by
  refine kit_up h (by simpa using ne) ?_ (by simp)
  show (if ((PySem.W.clsIn K S).isSome && PySem.W.typeIn K (.ref S) == some (.type "type")) = true then PySem.W.subIn K (.ref C) (.ref S) else none) = _
  rw [hS, tS, if_pos (by simp)]
  rfl
theorem CI.kV (h : CI K S C N) : PySem.W.kitOne K (.ref C) (.type "ValueError") = some true := by
  refine kit_up h rfl ?_ (by simp [Ex.bmV])
  show (if PySem.W.kitMeta "ValueError" = true then PySem.W.subIn K (.ref C) (.type "ValueError") else none) = _
  rw [if_pos (by decide +kernel)]
  rfl
theorem CI.no (h : CI K S C N) (h1 : PySem.W.nsOkIn K N = true) (h2 : PySem.W.nsIn K N "__init__" = some none) : ∀ cd, PySem.W.clsIn K C = some cd → PySem.W.nsOkIn K cd.ns = true ∧ PySem.W.nsIn K cd.ns "__init__" = some none := fun cd e => by
  obtain ⟨cd', e', _, n⟩ := h.cls
  rw [e] at e'
  cases e'
  rw [n]
  exact ⟨h1, h2⟩
theorem CI.xcls (h : CI K S C N) (tl : PySem.W.tailIn K Ex.bmV (.ref S :: Ex.bmV) = true) (a1 : PySem.W.specialIn K (.ref C) "__call__" = some (some (.builtin "type.__call__"))) (a2 : PySem.W.instIn K (.ref C) (.type "type") = some true)
    (a3 : PySem.W.findIn K (.ref C) "__setattr__" = some (some (.builtin "object.__setattr__"))) (a4 : PySem.W.findIn K (.ref C) "__getattribute__" = some (some (.builtin "BaseException.__getattribute__"))) (a5 : PySem.W.findIn K (.ref C) "__getattr__" = some none)
    (a6 : PySem.W.findIn K (.ref C) "__class__" = some (some (.builtin "object.__class__"))) : Ex.XCls K C := by
  obtain ⟨nm, q, bs, sn, sub, ab, col, dd, k0, k1, k2, k3, k5, l⟩ := h.obj
  exact ⟨⟨nm, q, N, bs, _, sn, sub, ab, col, dd, k0, k1, k2, k3, k5, l, tl⟩, a1, a2, a3, a4, a5, a6⟩
end
end My
namespace My
open PySem PySem.Spec PyProof.Rows L2
/-! ### the text by places -/
def top (i : Nat) : Stmt := PySem.Challenge.pw_selfsay_k07_no_saying.main.body.getD i (.Pass ⟨0, 0, 0, 0⟩)
abbrev sI1 : Stmt := inClass (top 2) 0
abbrev sI2 : Stmt := inClass (top 3) 0
abbrev sI3 : Stmt := inClass (top 4) 0
abbrev sRd : Stmt := top 14
abbrev sBg : Stmt := top 15
abbrev sGo : Stmt := top 16
abbrev sDn : Stmt := top 17
abbrev sMix : Stmt := top 19
abbrev sBt : Stmt := top 20
abbrev sTx : Stmt := top 21
abbrev sBp : Stmt := top 22
abbrev sSp : Stmt := top 23
abbrev sTd : Stmt := top 24
abbrev sKd : Stmt := top 25
abbrev sMw : Stmt := top 26
abbrev sAs : Stmt := top 27
abbrev sLaw : Stmt := top 28
/-! ### promises -/
def spMix (K : PySem.W.Frag) : Sp := fun vs H Q _ => ∃ (a : Addr) (ns : List Int) (k : Int), vs = [.ref a, .int k] ∧ SqL K H a (ns.map V.int) ∧ ns.length ≤ 63 ∧ 0 ≤ k ∧ k ≤ 1000 ∧ ∀ z : Int, 0 ≤ z → Q (.int z) H
def spBuilt (K : PySem.W.Frag) : Sp := fun vs H Q _ => ∃ (a : Addr) (ns : List Int) (k c : Int), vs = [.ref a, .int k, .int c] ∧ SqL K H a (ns.map V.int) ∧ ns.length ≤ 63 ∧ 0 ≤ k ∧ k ≤ 100 ∧ 1 ≤ c ∧ c ≤ 40 ∧
  ∀ (v : V) (s : Sg) (H' : Hp), Same H H' → Sy K H' v s → s.wt ≤ 7 * c.toNat → s.Wf → Q v H'
def spText (K : PySem.W.Frag) (n : Nat) : Sp := fun vs H Q _ => ∃ (v : V) (s : Sg), vs = [v] ∧ Sy K H v s ∧ s.ht ≤ n ∧ s.wt ≤ 100000 ∧ ∀ H', Same H H' → Q (.str s.txt) H'
def spLaw (K : PySem.W.Frag) : Sp := fun vs H Q _ => ∃ (a : Addr) (ns : List Int), vs = [.ref a] ∧ SqL K H a (ns.map V.int) ∧ ns.length ≤ 63 ∧ ∀ H', Q (.bl true) H'
structure Txt (K : PySem.W.Frag) (pr : Params) (mg : Str → Option Value) : Prop where
  isi : mg "isinstance" = none
  int : mg "int" = none
  bool : mg "bool" = none
  val : mg "ValueError" = none
  len : mg "len" = none
  range : mg "range" = none
end My
namespace My
open PySem PySem.Spec PyProof.Rows L2
section
variable {P : Program} {w : World} {K : PySem.W.Frag} {mg : Str → Option Value} {base : Heap}
/-! ### _law_built -/
theorem scB : FnScope ["_law_script", "_law_at", "_law_count", "_law_stack", "_law_k", "_law_cell", "_law_way", "_law_leaf", "_law_other"] ["_law_script", "_law_at", "_law_count"] (defScope sBt) := ⟨rfl, rfl, rfl, by decide +kernel, rfl, by decide +kernel, by decide +kernel⟩
/-- the stack at l, its sayings, how great they are at most -/
def StkAt (K : PySem.W.Frag) (H H2 : Hp) (l : Addr) (m : Nat) (n : Nat) : Prop := ∃ (vs : List V) (ss : List Sg), Same H H2 ∧ H2 l = some (.lst vs) ∧ Stk K H2 vs ss ∧ pot ss ≤ m ∧ n ≤ vs.length ∧ AllWf ss
theorem StkAt.new {H H2 : Hp} {l b : Addr} {o : HO} {m n : Nat} (h : StkAt K H H2 l m n) (hb : H2 b = none) : StkAt K H (upd H2 b o) l m n := by
  obtain ⟨vs, ss, s, e, st, p, q, f⟩ := h
  exact ⟨vs, ss, s.trans (same_new hb), by rw [upd_ne (ne_of_none e hb)]; exact e, Stk.stay (TuS.new hb) st, p, q, f⟩
/-- two joined: what stood last and ahead of it goes, the new one is there -/
theorem join2 {H H2 H3 : Hp} {l t : Addr} {vs : List V} {ss : List Sg} {x y : V} {a b : Sg} {j : Jn} (hl : H l = none) (s3 : Same H H3) (e3 : H3 l = some (.lst (vs ++ [x]))) (st : Stk K H3 vs ss) (hx : Sy K H3 x a) (hy : Sy K H3 y b)
    (ht : H3 t = none) (wf : AllWf ss) (wa : a.Wf) (wb : b.Wf) : StkAt K H (upd (upd H3 t (.tup [.str j.word, x, y])) l (.lst (vs ++ [.ref t]))) l (pot (ss ++ [.bin j a b])) (vs.length + 1) := by
  have nt : l ≠ t := ne_of_none e3 ht
  have e4 : upd H3 t (.tup [.str j.word, x, y]) l = some (.lst (vs ++ [x])) := by rw [upd_ne nt]; exact e3
  have ts : TuS H3 (upd (upd H3 t (.tup [.str j.word, x, y])) l (.lst (vs ++ [.ref t]))) := (TuS.new ht).trans (TuS.lst e4)
  have ht2 : SqT K (upd (upd H3 t (.tup [.str j.word, x, y])) l (.lst (vs ++ [.ref t]))) t [.str j.word, x, y] := (TuS.lst e4).sq (SqT.of upd_same)
  exact ⟨vs ++ [.ref t], _, same_own (s3.trans (same_new ht)) hl, upd_same, (Stk.stay ts st).snoc (.bin ht2 (hx.stay ts) (hy.stay ts)), Nat.le_refl _, (by rw [List.length_append]; exact Nat.le_refl _), wf.snoc ⟨wa, wb⟩⟩
set_option maxHeartbeats 8000000 in
theorem ok_built {f fM : Addr} {fd fdM : FuncData} (F : Fun K "_law_built" "_law_built" sBt f fd) (T : Txt K w.params mg) (G : FnOk P w K mg base CX0 1 fM fdM ["_law_script", "_law_k"] (spMix K)) (kM : PySem.W.keepIn K (.ref fM) = true) (bM : Binds K fdM ["_law_script", "_law_k"] []) (mM : mg "_law_mix" = some (.ref fM)) :
    FnOk P w K mg base CX0 2 f fd ["_law_script", "_law_at", "_law_count"] (spBuilt K) := by
  refine F.ok scB (fun vs H Q E h => ?_) (fun cdv A outer s H vs Q E hr h => ?_)
  · obtain ⟨a, ns, k, c, rfl, _⟩ := h
    rfl
  · obtain ⟨a, ns, k, c, rfl, hS, hlen, k0, k1, c0, c1, q⟩ := h
    refine ⟨_, pss_cons (ps_set (i := 3) scB.nd rfl (Or.inl rfl) (pe_lst pa_nil))
      (pss_cons (ps_for PassesOwn.never rfl (pi_range1 rfl T.range (pa_cons (pv 2) pa_nil)) (pg_name (i := 4) scB.nd rfl (Or.inl rfl))
        (pss_cons (ps_set (i := 5) scB.nd rfl (Or.inl rfl) (pe_call G hr rfl mM kM bM .nil pass0 (pa_cons (pv 0) (pa_cons (pe_op op_add (pv 1) (pv 4)) pa_nil))))
        (pss_cons (ps_set (i := 6) scB.nd rfl (Or.inl rfl) (pe_op op_mod (pv 5) pe_int))
        (pss_cons (ps_set (i := 7) scB.nd rfl (Or.inl rfl) (pe_ix ix_list (pe_lst (pa_cons (pe_tup (pa_cons pe_str pa_nil)) (pa_cons (pe_tup (pa_cons pe_str (pa_cons pe_str pa_nil))) (pa_cons (pe_tup (pa_cons pe_str (pa_cons pe_str pa_nil))) (pa_cons (pe_tup (pa_cons pe_str (pa_cons pe_str pa_nil))) pa_nil)))))
          (pe_op op_mod (pe_op op_fdiv (pv 5) pe_int) pe_int) (fun _ _ => rfl)))
        (pss_one (ps_if (pw_or (pt_cmpR op_lt (pv 6) pe_int (nomark _)) (pw_or1 (pt_cmpR op_eq (pe_callB call_len_seq (by rfl) T.len PySem.boot_len (pa_cons (pv 3) pa_nil)) pe_int (nomark _)))).pt
          (pss_one (ps_expr (pe_bm PySem.F.plainAttrs_list PySem.F.slot_list_append PySem.F.type_list_append mt_append (pv 3) (pa_cons (pv 7) pa_nil))))
          (pss_one (ps_if (pt_cmpR op_lt (pv 6) pe_int (nomark _))
            (pss_one (ps_asg (pe_tup (pa_cons (pe_ix ix_list (pe_lst (pa_cons pe_str (pa_cons pe_str (pa_cons pe_str pa_nil)))) (pe_op op_sub (pv 6) pe_int) (fun _ _ => rfl)) (pa_cons (pe_ix ix_list (pv 3) (pe_un un_neg pe_int) (fun _ _ => rfl)) pa_nil)))
              (pg_sub (pv 3) (pe_un un_neg pe_int) set_list)))
            (pss_one (ps_if (pt_cmpR op_gt (pe_callB call_len_seq (by rfl) T.len PySem.boot_len (pa_cons (pv 3) pa_nil)) pe_int (nomark _))
              (pss_cons (ps_set (i := 8) scB.nd rfl (Or.inl rfl) (pe_bm0 PySem.F.plainAttrs_list PySem.F.slot_list_pop PySem.F.type_list_pop mt_pop (pv 3)))
              (pss_one (ps_asg (pe_tup (pa_cons (pe_ix ix_list (pe_lst (pa_cons pe_str (pa_cons pe_str (pa_cons pe_str pa_nil)))) (pe_op op_mod (pe_op op_fdiv (pv 5) pe_int) pe_int) (fun _ _ => rfl)) (pa_cons (pe_ix ix_list (pv 3) (pe_un un_neg pe_int) (fun _ _ => rfl)) (pa_cons (pv 8) pa_nil))))
                (pg_sub (pv 3) (pe_un un_neg pe_int) set_list))))
              pss_nil))))))))))
      (pss_cons (ps_while PassesOwn.never (pt_cmpR op_gt (pe_callB call_len_seq (by rfl) T.len PySem.boot_len (pa_cons (pv 3) pa_nil)) pe_int (nomark _))
        (pss_cons (ps_set (i := 8) scB.nd rfl (Or.inl rfl) (pe_bm0 PySem.F.plainAttrs_list PySem.F.slot_list_pop PySem.F.type_list_pop mt_pop (pv 3)))
        (pss_one (ps_asg (pe_tup (pa_cons (pe_ix ix_list (pe_lst (pa_cons pe_str (pa_cons pe_str (pa_cons pe_str pa_nil)))) (pe_op op_mod (pe_callB call_len_seq (by rfl) T.len PySem.boot_len (pa_cons (pv 3) pa_nil)) pe_int) (fun _ _ => rfl)) (pa_cons (pe_ix ix_list (pv 3) (pe_un un_neg pe_int) (fun _ _ => rfl)) (pa_cons (pv 8) pa_nil))))
          (pg_sub (pv 3) (pe_un un_neg pe_int) set_list)))))
      (pss_one (ps_ret (pe_ix ix_list (pv 3) pe_int (fun _ _ => rfl)))))), ?_⟩
    -- stack = []
    refine ⟨small (Nat.le_of_ble_eq_true rfl), fun l hl => ?_⟩
    have hc : ((c.toNat : Nat) : Int) = c := Int.toNat_of_nonneg (by omega)
    have c40 : c.toNat ≤ 40 := by omega
    refine ⟨_, rfl, c, rfl, by omega, by omega, for_range (lo := 0) (n := c.toNat) (fun i σ H2 => ∃ v4 v5 v6 v7 v8, σ = [some (.ref a), some (.int k), some (.int c), some (.ref l), v4, v5, v6, v7, v8] ∧ StkAt K H H2 l (7 * i) (min i 1)) ?_ ?_ ?_⟩
    · exact ⟨none, none, none, none, none, rfl, [], [], same_new hl, upd_same, .nil, Nat.le_refl _, Nat.le_refl _, AllWf.nil⟩
    · rintro i σ H2 hi ⟨v4, v5, v6, v7, v8, rfl, S2⟩
      obtain ⟨vs, ss, s2, e2, st, hp, hm, wf⟩ := id S2
      have lv := st.length
      have lp := pot_len ss
      -- cell = mix(..)
      refine ⟨_, rfl, _, rfl, _, rfl, _, _, rfl, rfl, a, ns, _, rfl, s2.seq hS, hlen, by omega, by omega, fun z z0 => ?_⟩
      -- way
      refine ⟨_, rfl, _, _, rfl, rfl, q9, ?_⟩
      have w0 : 0 ≤ z % 9 := Int.emod_nonneg _ (by decide)
      have w1 : z % 9 < 9 := Int.emod_lt_of_pos _ (by decide)
      -- leaf
      refine ⟨small (Nat.le_of_ble_eq_true rfl), fun t1 h1 => ⟨small (Nat.le_of_ble_eq_true rfl), fun t2 h2 => ⟨small (Nat.le_of_ble_eq_true rfl), fun t3 h3 => ⟨small (Nat.le_of_ble_eq_true rfl), fun t4 h4 => ⟨small (Nat.le_of_ble_eq_true rfl), fun l4 h5 => ?_⟩⟩⟩⟩⟩
      have S3 := ((((S2.new (o := .tup [.str "no"]) h1).new (o := .tup [.str "letter", .str "p"]) h2).new (o := .tup [.str "letter", .str "q"]) h3).new (o := .tup [.str "letter", .str "r"]) h4).new (o := .lst [.ref t1, .ref t2, .ref t3, .ref t4]) h5
      have y5 := TuS.new (o := .lst [.ref t1, .ref t2, .ref t3, .ref t4]) h5
      have y4 := (TuS.new (o := .tup [.str "letter", .str "r"]) h4).trans y5
      have y3 := (TuS.new (o := .tup [.str "letter", .str "q"]) h3).trans y4
      have y2 := (TuS.new (o := .tup [.str "letter", .str "p"]) h2).trans y3
      have j0 : 0 ≤ z / 9 % 4 := Int.emod_nonneg _ (by decide)
      have j1 : z / 9 % 4 < 4 := Int.emod_lt_of_pos _ (by decide)
      obtain ⟨vl, sl, el, yl, wl, fl⟩ := leaf4 (K := K) (.no (y2.sq (SqT.of upd_same))) (.lt (y3.sq (SqT.of upd_same))) (.lt (y4.sq (SqT.of upd_same))) (.lt (y5.sq (SqT.of upd_same))) j0 j1
      refine ⟨_, rfl, _, _, rfl, rfl, ⟨by decide, by decide⟩, _, _, rfl, rfl, q4, l4, _, _, vl, rfl, rfl, SqL.of upd_same, el, ?_⟩
      clear el y2 y3 y4 y5 S2 st e2 s2
      revert S3 yl
      generalize upd (upd (upd (upd (upd H2 t1 (.tup [.str "no"])) t2 (.tup [.str "letter", .str "p"])) t3 (.tup [.str "letter", .str "q"])) t4 (.tup [.str "letter", .str "r"])) l4 (.lst [.ref t1, .ref t2, .ref t3, .ref t4]) = H3
      intro S3 yl
      obtain ⟨vs, ss, s3, e3, st, hp, hm, wf⟩ := S3
      have lv := st.length
      have lp := pot_len ss
      -- the end of each way
      have app : tDrop (tBM K "list" rAppend (tVar 3) (tCons (tVar 7) tNil)) { nx := fun σ H' => ∃ v4 v5 v6 v7 w8, σ = [some (.ref a), some (.int k), some (.int c), some (.ref l), v4, v5, v6, v7, w8] ∧ StkAt K H H' l (7 * (i + 1)) (min (i + 1) 1), rt := Q }
          [some (.ref a), some (.int k), some (.int c), some (.ref l), some (.int (0 + (i : Int))), some (.int z), some (.int (z % 9)), some vl, v8] H3 := by
        refine ⟨_, rfl, .inl ⟨rfl, _, SqL.of e3⟩, _, rfl, l, _, _, rfl, rfl, e3, small' (by omega), ?_⟩
        refine ⟨_, _, _, _, _, rfl, vs ++ [vl], ss ++ [sl], same_own s3 hl, upd_same, (Stk.stay (TuS.lst e3) st).snoc (yl.stay (TuS.lst e3)), by rw [pot_snoc]; omega, (by rw [List.length_append]; show min (i + 1) 1 ≤ vs.length + 1; omega), wf.snoc fl⟩
      refine ⟨_, rfl, _, _, rfl, rfl, _, rfl, ?_⟩
      refine ite2 (fun _ => iteT app) (fun hw => ?_)
      have hw4 : ¬ z % 9 < 4 := fun h => hw (decide_eq_true h)
      refine ⟨_, rfl, l, _, rfl, .inl (SqL.of e3), rfl, _, rfl, ?_⟩
      refine ite2 (fun _ => app) (fun hn => ?_)
      have hn1 : 1 ≤ vs.length := by
        rcases Nat.eq_zero_or_pos vs.length with h | h
        · exact absurd (decide_eq_true (by rw [h]; rfl)) hn
        · exact h
      obtain ⟨vs', x, ss', y, rfl, rfl, st', yx⟩ := psnoc_inv st hn1
      obtain ⟨wf', wy⟩ := wf.inv
      rw [pot_snoc] at hp
      refine ⟨_, rfl, _, _, rfl, rfl, _, rfl, ?_⟩
      refine ite2 (fun hw7 => ?_) (fun _ => ?_)
      · -- not, shown
        have hw7' : z % 9 < 7 := of_decide_eq_true hw7
        obtain ⟨b, eb⟩ := uw (i := z % 9 - 4) (by omega) (by omega)
        refine ⟨small (Nat.le_of_ble_eq_true rfl), fun l5 h6 => ⟨_, rfl, _, _, rfl, rfl, l5, _, _, _, rfl, rfl, SqL.of upd_same, eb, ?_⟩⟩
        have e4 : upd H3 l5 (.lst [.str "not", .str "shown", .str "shown"]) l = some (.lst (vs' ++ [x])) := by rw [upd_ne (ne_of_none e3 h6)]; exact e3
        refine ⟨_, rfl, _, rfl, l, _, _, x, rfl, rfl, SqL.of e4, atI_last _ _, small (Nat.le_of_ble_eq_true rfl), fun t h7 => ?_⟩
        have e5 : upd (upd H3 l5 (.lst [.str "not", .str "shown", .str "shown"])) t (.tup [.str (if b then "not" else "shown"), x]) l = some (.lst (vs' ++ [x])) := by rw [upd_ne (ne_of_none e4 h7)]; exact e4
        refine ⟨_, rfl, _, rfl, l, _, _, _, rfl, rfl, e5, ixN_last _ _, ?_⟩
        rw [set_last]
        have ts : TuS H3 (upd (upd (upd H3 l5 (.lst [.str "not", .str "shown", .str "shown"])) t (.tup [.str (if b then "not" else "shown"), x])) l (.lst (vs' ++ [.ref t]))) := ((TuS.new h6).trans (TuS.new h7)).trans (TuS.lst e5)
        refine ⟨_, _, _, _, _, rfl, vs' ++ [.ref t], ss' ++ [un b y], same_own ((s3.trans (same_new h6)).trans (same_new h7)) hl, upd_same, (Stk.stay ts st').snoc (Sy.un b ((TuS.lst e5).sq (SqT.of upd_same)) (yx.stay ts)), ?_, ?_, wf'.snoc (un_wf b wy)⟩
        · have := un_wt b y
          rw [pot_snoc]
          omega
        · rw [List.length_append]
          show min (i + 1) 1 ≤ vs'.length + 1
          omega
      · -- and, or, if
        refine ⟨_, rfl, l, _, rfl, .inl (SqL.of e3), _, _, rfl, rfl, _, rfl, ?_⟩
        refine ite2 (fun h2 => ?_) (fun _ => ?_)
        · have h2' : (1 : Int) < ((vs' ++ [x]).length : Int) := of_decide_eq_true h2
          have l1 : (vs' ++ [x]).length = vs'.length + 1 := by rw [List.length_append]; rfl
          obtain ⟨vs2, x2, ss2, y2, rfl, rfl, st2, yx2⟩ := psnoc_inv st' (by omega)
          obtain ⟨wf2, wy2⟩ := wf'.inv
          refine ⟨_, rfl, .inl ⟨rfl, _, SqL.of e3⟩, l, _, x, rfl, rfl, e3, last_of _ _, ?_⟩
          rw [drop_of]
          have e4 : upd H3 l (.lst (vs2 ++ [x2])) l = some (.lst (vs2 ++ [x2])) := upd_same
          have ts := TuS.lst (o := .lst (vs2 ++ [x2])) e3
          have s4 : Same H (upd H3 l (.lst (vs2 ++ [x2]))) := same_own s3 hl
          obtain ⟨j, ej⟩ := jw (i := z / 9 % 3) (Int.emod_nonneg _ (by decide)) (Int.emod_lt_of_pos _ (by decide))
          refine ⟨small (Nat.le_of_ble_eq_true rfl), fun l5 h6 => ⟨_, rfl, _, _, rfl, rfl, ⟨by decide, by decide⟩, _, _, rfl, rfl, q3, l5, _, _, _, rfl, rfl, SqL.of upd_same, ej, ?_⟩⟩
          have e5 : upd (upd H3 l (.lst (vs2 ++ [x2]))) l5 (.lst [.str "and", .str "or", .str "if"]) l = some (.lst (vs2 ++ [x2])) := by rw [upd_ne (ne_of_none e4 h6)]; exact e4
          refine ⟨_, rfl, _, rfl, l, _, _, x2, rfl, rfl, SqL.of e5, atI_last _ _, _, rfl, small (Nat.le_of_ble_eq_true rfl), fun t h7 => ?_⟩
          have e6 : upd (upd (upd H3 l (.lst (vs2 ++ [x2]))) l5 (.lst [.str "and", .str "or", .str "if"])) t (.tup [.str j.word, x2, x]) l = some (.lst (vs2 ++ [x2])) := by rw [upd_ne (ne_of_none e5 h7)]; exact e5
          refine ⟨_, rfl, _, rfl, l, _, _, _, rfl, rfl, e6, ixN_last _ _, ?_⟩
          rw [set_last]
          have ts2 := ts.trans (TuS.new (o := .lst [.str "and", .str "or", .str "if"]) h6)
          obtain ⟨vs3, ss3, a1, a2, a3, a4, a5, a6⟩ := join2 (H2 := H) (j := j) hl (s4.trans (same_new h6)) e5 (Stk.stay ts2 st2) (yx2.stay ts2) (yx.stay ts2) h7 wf2 wy2 wy
          refine ⟨_, _, _, _, _, rfl, vs3, ss3, a1, a2, a3, ?_, by omega, a6⟩
          rw [pot_snoc] at a4 hp
          have : (Sg.bin j y2 y).wt = 4 + y2.wt + y.wt := rfl
          omega
        · refine ⟨_, _, _, _, _, rfl, vs' ++ [x], ss' ++ [y], s3, e3, st, ?_, ?_, wf⟩
          · rw [pot_snoc]
            omega
          · rw [List.length_append]
            show min (i + 1) 1 ≤ vs'.length + 1
            omega
    · rintro σ H2 ⟨v4, v5, v6, v7, v8, rfl, S2⟩
      -- the while
      refine ⟨fun m σ H2 => ∃ v8, σ = [some (.ref a), some (.int k), some (.int c), some (.ref l), v4, v5, v6, v7, v8] ∧ ∃ (vs : List V) (ss : List Sg), Same H H2 ∧ H2 l = some (.lst vs) ∧ Stk K H2 vs ss ∧ pot ss ≤ 7 * c.toNat ∧ 1 ≤ vs.length ∧ AllWf ss ∧ m = vs.length, ?_, ?_⟩
      · obtain ⟨vs, ss, s2, e2, st, hp, hm, wf⟩ := S2
        exact ⟨vs.length, v8, rfl, vs, ss, s2, e2, st, by omega, by omega, wf, rfl⟩
      · rintro m σ H2 ⟨v8, rfl, vs, ss, s3, e3, st, hp, hm, wf, rfl⟩
        have lv := st.length
        have lp := pot_len ss
        refine ⟨_, rfl, l, _, rfl, .inl (SqL.of e3), _, _, rfl, rfl, _, rfl, ?_⟩
        refine ite2 (fun h2 => ?_) (fun h2 => ?_)
        · have h2' : (1 : Int) < (vs.length : Int) := of_decide_eq_true h2
          obtain ⟨vs', x, ss', y, rfl, rfl, st', yx⟩ := psnoc_inv st hm
          have l1 : (vs' ++ [x]).length = vs'.length + 1 := by rw [List.length_append]; rfl
          obtain ⟨vs2, x2, ss2, y2, rfl, rfl, st2, yx2⟩ := psnoc_inv st' (by omega)
          obtain ⟨wf', wy⟩ := wf.inv
          obtain ⟨wf2, wy2⟩ := wf'.inv
          refine ⟨_, fun _ _ h => h, ?_⟩
          refine ⟨_, rfl, .inl ⟨rfl, _, SqL.of e3⟩, l, _, x, rfl, rfl, e3, last_of _ _, ?_⟩
          rw [drop_of]
          have e4 : upd H2 l (.lst (vs2 ++ [x2])) l = some (.lst (vs2 ++ [x2])) := upd_same
          have ts := TuS.lst (o := .lst (vs2 ++ [x2])) e3
          have s4 : Same H (upd H2 l (.lst (vs2 ++ [x2]))) := same_own s3 hl
          obtain ⟨j, ej⟩ := jw (i := ((vs2 ++ [x2]).length : Int) % 3) (Int.emod_nonneg _ (by decide)) (Int.emod_lt_of_pos _ (by decide))
          refine ⟨small (Nat.le_of_ble_eq_true rfl), fun l5 h6 => ?_⟩
          have e5 : upd (upd H2 l (.lst (vs2 ++ [x2]))) l5 (.lst [.str "and", .str "or", .str "if"]) l = some (.lst (vs2 ++ [x2])) := by rw [upd_ne (ne_of_none e4 h6)]; exact e4
          refine ⟨_, rfl, l, _, rfl, .inl (SqL.of e5), _, _, rfl, rfl, q3, l5, _, _, _, rfl, rfl, SqL.of upd_same, ej, ?_⟩
          refine ⟨_, rfl, _, rfl, l, _, _, x2, rfl, rfl, SqL.of e5, atI_last _ _, _, rfl, small (Nat.le_of_ble_eq_true rfl), fun t h7 => ?_⟩
          have e6 : upd (upd (upd H2 l (.lst (vs2 ++ [x2]))) l5 (.lst [.str "and", .str "or", .str "if"])) t (.tup [.str j.word, x2, x]) l = some (.lst (vs2 ++ [x2])) := by rw [upd_ne (ne_of_none e5 h7)]; exact e5
          refine ⟨_, rfl, _, rfl, l, _, _, _, rfl, rfl, e6, ixN_last _ _, ?_⟩
          rw [set_last]
          have ts2 := ts.trans (TuS.new (o := .lst [.str "and", .str "or", .str "if"]) h6)
          have e7 : vs2.length + 1 < ((vs2 ++ [x2]) ++ [x]).length := by
            rw [List.length_append, List.length_append]
            show vs2.length + 1 < vs2.length + 1 + 1
            omega
          have lw : (vs2 ++ [V.ref t]).length = vs2.length + 1 := by rw [List.length_append]; rfl
          have js := join2 (H2 := H) (j := j) hl (s4.trans (same_new h6)) e5 (Stk.stay ts2 st2) (yx2.stay ts2) (yx.stay ts2) h7 wf2 wy2 wy
          obtain ⟨vs3, ss3, a1, a2, a3, a4, a5, a6⟩ := js
          have ev : vs3 = vs2 ++ [.ref t] := by
            have := upd_same.symm.trans a2
            injection this with this
            injection this with this
            exact this.symm
          subst ev
          refine ⟨vs2.length + 1, e7, _, rfl, vs2 ++ [.ref t], ss3, a1, a2, a3, ?_, by omega, a6, lw.symm⟩
          rw [pot_snoc] at a4
          rw [pot_snoc, pot_snoc] at hp
          have : (Sg.bin j y2 y).wt = 4 + y2.wt + y.wt := rfl
          omega
        · have h2' : ¬ (1 : Int) < (vs.length : Int) := fun h => h2 (decide_eq_true h)
          obtain ⟨vs', x, ss', y, rfl, rfl, st', yx⟩ := psnoc_inv st hm
          have l1 : (vs' ++ [x]).length = vs'.length + 1 := by rw [List.length_append]; rfl
          have e0 : vs' = [] := List.eq_nil_of_length_eq_zero (by omega)
          subst e0
          rw [pot_snoc] at hp
          exact ⟨_, rfl, l, _, _, x, rfl, rfl, SqL.of e3, at0, q x y H2 s3 yx (by omega) wf.inv.2⟩

end
end My
namespace My
open PySem PySem.Spec PyProof.Rows L2
section
variable {P : Program} {w : World} {K : PySem.W.Frag} {mg : Str → Option Value} {base : Heap}
/-! ### _law_text -/
theorem scX : FnScope ["_law_saying", "_law_sign"] ["_law_saying"] (defScope sTx) := ⟨rfl, rfl, rfl, by decide +kernel, rfl, by decide +kernel, by decide +kernel⟩
theorem sgn_at (j : Jn) : (some (V.str j.sign) : Option V) = valV (mergeK [] [((Sum.inr "and" : Key), V.str "&"), (Sum.inr "or", V.str "|"), (Sum.inr "if", V.str ">")]) (Sum.inr j.word : Key) := by
  cases j <;> decide +kernel
theorem lens {x y : Str} {n : Nat} (h : x.length + y.length ≤ n) (hn : n ≤ 100000) : x.length + y.length ≤ sizeLine := small (by omega)
set_option maxHeartbeats 8000000 in
theorem ok_text {n : Nat} {f : Addr} {fd : FuncData} (F : Fun K "_law_text" "_law_text" sTx f fd) (b : Binds K fd ["_law_saying"] []) (m : mg "_law_text" = some (.ref f)) (G : FnOk P w K mg base CX0 (n + 1) f fd ["_law_saying"] (spText K n)) :
    FnOk P w K mg base CX0 (n + 2) f fd ["_law_saying"] (spText K (n + 1)) := by
  refine F.ok scX (fun vs H Q E h => ?_) (fun cdv A outer s H vs Q E hr h => ?_)
  · obtain ⟨v, s, rfl, _⟩ := h
    rfl
  · obtain ⟨v, s, rfl, hy, hh, hw, q⟩ := h
    have hu := hu_of hr
    refine ⟨_, pss_cons (ps_if (pt_cmpR op_eq (pe_ix ix_tup (pv 0) pe_int (fun _ _ => rfl)) pe_str (nomark _)) (pss_one (ps_ret pe_str)) pss_nil)
      (pss_cons (ps_if (pt_cmpR op_eq (pe_ix ix_tup (pv 0) pe_int (fun _ _ => rfl)) pe_str (nomark _)) (pss_one (ps_ret (pe_ix ix_tup (pv 0) pe_int (fun _ _ => rfl)))) pss_nil)
      (pss_cons (ps_if (pt_cmpR op_eq (pe_ix ix_tup (pv 0) pe_int (fun _ _ => rfl)) pe_str (nomark _)) (pss_one (ps_ret (pe_op op_add_str pe_str (pe_call G hr rfl m F.kp b .nil pass0 (pa_cons (pe_ix ix_tup (pv 0) pe_int (fun _ _ => rfl)) pa_nil))))) pss_nil)
      (pss_cons (ps_if (pt_cmpR op_eq (pe_ix ix_tup (pv 0) pe_int (fun _ _ => rfl)) pe_str (nomark _)) (pss_one (ps_ret (pe_op op_add_str (pe_op op_add_str pe_str (pe_call G hr rfl m F.kp b .nil pass0 (pa_cons (pe_ix ix_tup (pv 0) pe_int (fun _ _ => rfl)) pa_nil))) pe_str))) pss_nil)
      (pss_cons (ps_set (i := 1) scX.nd rfl (Or.inl rfl) (pe_dget hu (pe_disp (pps_cons pe_str pe_str (pps_cons pe_str pe_str (pps_cons pe_str pe_str pps_nil))) rfl rfl (by simp) (by decide)) (pe_ix ix_tup (pv 0) pe_int (fun _ _ => rfl)) (fun _ _ => rfl)))
      (pss_one (ps_ret (pe_op op_add_str (pe_op op_add_str (pe_op op_add_str (pe_op op_add_str pe_str
        (pe_call G hr rfl m F.kp b .nil pass0 (pa_cons (pe_ix ix_tup (pv 0) pe_int (fun _ _ => rfl)) pa_nil))) (pv 1))
        (pe_call G hr rfl m F.kp b .nil pass0 (pa_cons (pe_ix ix_tup (pv 0) pe_int (fun _ _ => rfl)) pa_nil))) pe_str))))))), ?_⟩
    cases hy with
    | @no a h =>
      refine ⟨_, rfl, a, _, _, _, rfl, rfl, h, at0, rfl, _, rfl, ifT rfl ?_⟩
      exact q H (Same.refl H)
    | @lt a x h =>
      refine ⟨_, rfl, a, _, _, _, rfl, rfl, h, at0, rfl, _, rfl, ifF w_ln ?_⟩
      refine ⟨_, rfl, a, _, _, _, rfl, rfl, h, at0, rfl, _, rfl, ifT rfl ?_⟩
      exact ⟨_, rfl, a, _, _, _, rfl, rfl, h, at1, q H (Same.refl H)⟩
    | @not a v1 s1 h h1 =>
      have hh1 : s1.ht ≤ n := by have e : (Sg.not s1).ht = 1 + s1.ht := rfl; omega
      have hw1 : s1.wt + 2 ≤ 100000 := by have e : (Sg.not s1).wt = 2 + s1.wt := rfl; omega
      have tl := s1.txt_le
      refine ⟨_, rfl, a, _, _, _, rfl, rfl, h, at0, rfl, _, rfl, ifF w_nn ?_⟩
      refine ⟨_, rfl, a, _, _, _, rfl, rfl, h, at0, rfl, _, rfl, ifF w_nl ?_⟩
      refine ⟨_, rfl, a, _, _, _, rfl, rfl, h, at0, rfl, _, rfl, ifT rfl ?_⟩
      refine ⟨_, rfl, a, _, _, _, rfl, rfl, h, at1, v1, s1, rfl, h1, hh1, by omega, fun H' sm => ?_⟩
      exact ⟨_, _, rfl, rfl, small (by rw [lenN]; omega), q H' sm⟩
    | @shown a v1 s1 h h1 =>
      have hh1 : s1.ht ≤ n := by have e : (Sg.shown s1).ht = 1 + s1.ht := rfl; omega
      have hw1 : s1.wt + 3 ≤ 100000 := by have e : (Sg.shown s1).wt = 3 + s1.wt := rfl; omega
      have tl := s1.txt_le
      refine ⟨_, rfl, a, _, _, _, rfl, rfl, h, at0, rfl, _, rfl, ifF w_sn ?_⟩
      refine ⟨_, rfl, a, _, _, _, rfl, rfl, h, at0, rfl, _, rfl, ifF w_sl ?_⟩
      refine ⟨_, rfl, a, _, _, _, rfl, rfl, h, at0, rfl, _, rfl, ifF w_st ?_⟩
      refine ⟨_, rfl, a, _, _, _, rfl, rfl, h, at0, rfl, _, rfl, ifT rfl ?_⟩
      refine ⟨_, rfl, a, _, _, _, rfl, rfl, h, at1, v1, s1, rfl, h1, hh1, by omega, fun H' sm => ?_⟩
      exact ⟨_, _, rfl, rfl, small (by rw [lenL]; omega), _, _, rfl, rfl, small (by rw [Str.length_append, lenL, lenR]; omega), q H' sm⟩
    | @bin a v1 v2 j s1 s2 h h1 h2 =>
      have hh1 : s1.ht + s2.ht ≤ n := by have e : (Sg.bin j s1 s2).ht = 1 + s1.ht + s2.ht := rfl; omega
      have hw1 : s1.wt + s2.wt + 4 ≤ 100000 := by have e : (Sg.bin j s1 s2).wt = 4 + s1.wt + s2.wt := rfl; omega
      have t1 := s1.txt_le
      have t2 := s2.txt_le
      have js := j.sign_len
      refine ⟨_, rfl, a, _, _, _, rfl, rfl, h, at0, rfl, _, rfl, ifF (w_jn j) ?_⟩
      refine ⟨_, rfl, a, _, _, _, rfl, rfl, h, at0, rfl, _, rfl, ifF (w_jl j) ?_⟩
      refine ⟨_, rfl, a, _, _, _, rfl, rfl, h, at0, rfl, _, rfl, ifF (w_jt j) ?_⟩
      refine ⟨_, rfl, a, _, _, _, rfl, rfl, h, at0, rfl, _, rfl, ifF (w_js j) ?_⟩
      intro p hp
      refine ⟨upd_same, [((Sum.inr "and" : Key), V.str "&"), (Sum.inr "or", V.str "|"), (Sum.inr "if", V.str ">")], rfl, (by decide), ?_⟩
      rw [upd_upd]
      have ts : TuS H (upd H p (.dK (mergeK [] [((Sum.inr "and" : Key), V.str "&"), (Sum.inr "or", V.str "|"), (Sum.inr "if", V.str ">")]))) := TuS.new hp
      have sm0 : Same H (upd H p (.dK (mergeK [] [((Sum.inr "and" : Key), V.str "&"), (Sum.inr "or", V.str "|"), (Sum.inr "if", V.str ">")]))) := same_new hp
      refine ⟨_, rfl, a, _, _, _, rfl, rfl, ts.sq h, at0, p, .str j.sign, rfl, .inl ⟨_, Sum.inr j.word, .inl upd_same, rfl, sgn_at j⟩, ?_⟩
      refine ⟨_, rfl, a, _, _, _, rfl, rfl, ts.sq h, at1, v1, s1, rfl, h1.stay ts, by omega, by omega, fun H1 sm1 => ?_⟩
      refine ⟨_, _, rfl, rfl, small (by rw [lenA]; omega), _, rfl, _, _, rfl, rfl, small (by rw [Str.length_append, lenA]; omega), ?_⟩
      have ts1 := ts.trans (Same_ts sm1)
      refine ⟨_, rfl, a, _, _, _, rfl, rfl, ts1.sq h, at2, v2, s2, rfl, h2.stay ts1, by omega, by omega, fun H2 sm2 => ?_⟩
      refine ⟨_, _, rfl, rfl, small (by rw [Str.length_append, Str.length_append, lenA]; omega), _, _, rfl, rfl, small (by rw [Str.length_append, Str.length_append, Str.length_append, lenA, lenB]; omega), ?_⟩
      exact q H2 ((sm0.trans sm1).trans sm2)
theorem text_all {f : Addr} {fd : FuncData} (F : Fun K "_law_text" "_law_text" sTx f fd) (b : Binds K fd ["_law_saying"] []) (m : mg "_law_text" = some (.ref f)) : ∀ n : Nat, FnOk P w K mg base CX0 (n + 1) f fd ["_law_saying"] (spText K n)
  | 0 => ⟨fun vs H Q E h => (by obtain ⟨v, s, rfl, _⟩ := h; rfl), fun A outer s H args us vs Q E _ _ _ _ h => (by obtain ⟨v, s, rfl, _, hh, _⟩ := h; have := s.ht_pos; omega)⟩
  | n + 1 => ok_text F b m (text_all F b m n)

end
end My
namespace My
open PySem PySem.Spec PyProof.Rows L2
section
variable {P : Program} {w : World} {K : PySem.W.Frag} {mg : Str → Option Value} {base : Heap}
theorem scM : FnScope ["_law_script", "_law_k", "_law_cell"] ["_law_script", "_law_k"] (defScope sMix) := ⟨rfl, rfl, rfl, by decide +kernel, rfl, by decide +kernel, by decide +kernel⟩
theorem ok_mix {f : Addr} {fd : FuncData} (F : Fun K "_law_mix" "_law_mix" sMix f fd) (T : Txt K w.params mg) : FnOk P w K mg base CX0 1 f fd ["_law_script", "_law_k"] (spMix K) := by
  refine F.ok scM (fun vs H Q E h => ?_) (fun cdv A outer s H vs Q E hr h => ?_)
  · obtain ⟨a, ns, k, rfl, _⟩ := h
    rfl
  · obtain ⟨a, ns, k, rfl, hS, hl, k0, k1, q⟩ := h
    refine ⟨_, pss_cons (ps_set (i := 2) scM.nd rfl (Or.inl rfl) pe_int)
      (pss_cons (ps_if (pt_cmpR op_lt (pv 1) (pe_callB call_len_seq (by rfl) T.len PySem.boot_len (pa_cons (pv 0) pa_nil)) (nomark _)) (pss_one (ps_set (i := 2) scM.nd rfl (Or.inl rfl) (pe_ix ix_list (pv 0) (pv 1) (fun _ _ => rfl)))) pss_nil)
      (pss_one (ps_ret (pe_op op_mod (pe_op op_mul (pe_op op_mod (pe_op op_mul (pe_op op_add (pe_op op_add (pv 2) (pe_op op_mul (pe_op op_mul pe_int (pv 1)) (pv 1))) pe_int) pe_int) pe_int) pe_int) pe_int)))), ?_⟩
    refine ⟨_, rfl, _, rfl, a, _, rfl, .inl hS, _, _, rfl, rfl, _, rfl, ?_⟩
    refine ite2 (fun hc => ?_) (fun _ => ?_)
    · have hk : k < ((ns.map V.int).length : Int) := of_decide_eq_true hc
      obtain ⟨v, hv, hm⟩ := atI_lt k0 hk
      obtain ⟨z, _, rfl⟩ := List.mem_map.mp hm
      refine ⟨_, rfl, _, rfl, a, _, _, _, rfl, rfl, hS, hv, ?_⟩
      refine ⟨_, rfl, _, rfl, _, _, rfl, rfl, .inl ⟨by decide, by decide⟩, _, rfl, _, _, rfl, rfl, .inr ⟨by omega, by omega⟩, _, _, rfl, rfl, _, _, rfl, rfl, _, _, rfl, rfl, .inr ⟨by decide, by decide⟩, _, _, rfl, rfl, qA, _, _, rfl, rfl, .inr ⟨by decide, by decide⟩, _, _, rfl, rfl, qB, ?_⟩
      exact q _ (Int.emod_nonneg _ (by decide))
    · refine ⟨_, rfl, _, rfl, _, _, rfl, rfl, .inl ⟨by decide, by decide⟩, _, rfl, _, _, rfl, rfl, .inr ⟨by omega, by omega⟩, _, _, rfl, rfl, _, _, rfl, rfl, _, _, rfl, rfl, .inr ⟨by decide, by decide⟩, _, _, rfl, rfl, qA, _, _, rfl, rfl, .inr ⟨by decide, by decide⟩, _, _, rfl, rfl, qB, ?_⟩
      exact q _ (Int.emod_nonneg _ (by decide))

end
end My
namespace My
open PySem PySem.Spec PyProof.Rows L2
/-! ### reading: what waits and what is whole, in the heap -/
def WhR (K : PySem.W.Frag) (H : Hp) (v : V) (o : Option Sg) : Prop := match o with
  | none => v = .non
  | some s => Sy K H v s
theorem WhR.stay {K : PySem.W.Frag} {H H' : Hp} (e : TuS H H') {v : V} {o : Option Sg} (h : WhR K H v o) : WhR K H' v o := by
  cases o with
  | none => exact h
  | some s => exact Sy.stay e h
def WtR (K : PySem.W.Frag) (H : Hp) (v : V) (f : Wt) : Prop := match f with
  | .neg => ∃ a, v = .ref a ∧ SqT K H a [.str "not"]
  | .sh => ∃ a, v = .ref a ∧ SqT K H a [.str "shown"]
  | .op => ∃ a, v = .ref a ∧ SqT K H a []
  | .jn j s => ∃ a u, v = .ref a ∧ SqT K H a [.str j.word, u] ∧ Sy K H u s
theorem WtR.stay {K : PySem.W.Frag} {H H' : Hp} (e : TuS H H') {v : V} {f : Wt} (h : WtR K H v f) : WtR K H' v f := by
  cases f with
  | neg => obtain ⟨a, r, h⟩ := h; exact ⟨a, r, e.sq h⟩
  | sh => obtain ⟨a, r, h⟩ := h; exact ⟨a, r, e.sq h⟩
  | op => obtain ⟨a, r, h⟩ := h; exact ⟨a, r, e.sq h⟩
  | jn j s => obtain ⟨a, u, r, h, y⟩ := h; exact ⟨a, u, r, e.sq h, y.stay e⟩
abbrev Wts (K : PySem.W.Frag) (H : Hp) (xs : List V) (W : List Wt) : Prop := Paired (WtR K H) xs W.reverse
theorem Wts.stay {K : PySem.W.Frag} {H H' : Hp} (e : TuS H H') {xs : List V} {W : List Wt} (h : Wts K H xs W) : Wts K H' xs W := Paired.imp' (fun _ _ => WtR.stay e) h
theorem Wts.len {K : PySem.W.Frag} {H : Hp} {xs : List V} {W : List Wt} (h : Wts K H xs W) : xs.length = W.length := by
  have := Paired.length h
  rw [List.length_reverse] at this
  exact this
theorem Wts.top {K : PySem.W.Frag} {H : Hp} {xs : List V} {f : Wt} {W : List Wt} (h : Wts K H xs (f :: W)) : ∃ xs' v, xs = xs' ++ [v] ∧ Wts K H xs' W ∧ WtR K H v f := by
  have hl := Wts.len h
  obtain ⟨xs', x, ys', y, e1, e2, p, r⟩ := psnoc_inv h (by rw [hl]; exact Nat.succ_le_succ (Nat.zero_le _))
  rw [List.reverse_cons] at e2
  obtain ⟨e3, e4⟩ := List.append_inj' e2 rfl
  have e5 : f = y := by injection e4
  subst e5
  subst e3
  exact ⟨xs', x, e1, p, r⟩
theorem Wts.push {K : PySem.W.Frag} {H : Hp} {xs : List V} {v : V} {f : Wt} {W : List Wt} (h : Wts K H xs W) (r : WtR K H v f) : Wts K H (xs ++ [v]) (f :: W) := by
  show Paired _ _ (f :: W).reverse
  rw [List.reverse_cons]
  exact Paired.snoc h r
theorem Wts.nil {K : PySem.W.Frag} {H : Hp} {xs : List V} (h : Wts K H xs []) : xs = [] := List.eq_nil_of_length_eq_zero (Wts.len h)
/-- all but the list at l is as it was -/
def ButL (l : Addr) (H H' : Hp) : Prop := ∀ b o, b ≠ l → H b = some o → H' b = some o
theorem ButL.refl {l : Addr} {H : Hp} : ButL l H H := fun _ _ _ e => e
theorem ButL.trans {l : Addr} {H H1 H2 : Hp} (a : ButL l H H1) (b : ButL l H1 H2) : ButL l H H2 := fun c o n e => b c o n (a c o n e)
theorem ButL.new {l t : Addr} {H H1 : Hp} {o : HO} (a : ButL l H H1) (ht : H1 t = none) : ButL l H (upd H1 t o) := fun c u n e => by rw [upd_ne (ne_of_none (a c u n e) ht)]; exact a c u n e
theorem ButL.at {l : Addr} {H H1 : Hp} {o : HO} (a : ButL l H H1) : ButL l H (upd H1 l o) := fun c u n e => by rw [upd_ne n]; exact a c u n e
theorem ButL.ts {l : Addr} {H H' : Hp} {xs : List V} (a : ButL l H H') (hl : H l = some (.lst xs)) : TuS H H' := fun b ys r => by
  rcases r with r | ⟨o, r⟩
  · exact .inl (a b _ (ne_of r hl (by intro z; cases z)) r)
  · exact .inr ⟨o, a b _ (ne_of r hl (by intro z; cases z)) r⟩
/-- a new list of one's own, then all but it: all is as it was -/
theorem ButL.same {l : Addr} {H H1 H' : Hp} (s : Same H H1) (hl : H l = none) (a : ButL l H1 H') : Same H H' := fun b o e => a b o (ne_of_none e hl) (s b o e)
/-! ### promises -/
def spDn (K : PySem.W.Frag) : Sp := fun vs H Q _ => ∃ (v : V) (l : Addr) (s : Sg) (xs : List V) (W : List Wt), vs = [v, .ref l] ∧ Sy K H v s ∧ H l = some (.lst xs) ∧ Wts K H xs W ∧
  ∀ (v' : V) (H' : Hp) (xs' : List V), ButL l H H' → H' l = some (.lst xs') → Sy K H' v' (dn s W).1 → Wts K H' xs' (dn s W).2 → Q v' H'
def spBg (K : PySem.W.Frag) : Sp := fun vs H Q _ => ∃ (c : Nat) (k : Int) (l : Addr) (xs : List V) (W : List Wt) (st : RdSt), vs = [.str ⟨#[c]⟩, .int k, .ref l] ∧ H l = some (.lst xs) ∧ Wts K H xs W ∧ xs.length ≤ 50000 ∧ begin1 c W = some st ∧
  ∀ (v' : V) (H' : Hp) (xs' : List V), ButL l H H' → H' l = some (.lst xs') → WhR K H' v' st.1 → Wts K H' xs' st.2 → Q v' H'
def spGo (K : PySem.W.Frag) : Sp := fun vs H Q _ => ∃ (v : V) (s : Sg) (c : Nat) (k : Int) (l : Addr) (xs : List V) (W : List Wt) (st : RdSt), vs = [v, .str ⟨#[c]⟩, .int k, .ref l] ∧ Sy K H v s ∧ H l = some (.lst xs) ∧ Wts K H xs W ∧ xs.length ≤ 50000 ∧ goOn c s W = some st ∧
  ∀ (v' : V) (H' : Hp) (xs' : List V), ButL l H H' → H' l = some (.lst xs') → WhR K H' v' st.1 → Wts K H' xs' st.2 → Q v' H'
def spRead (K : PySem.W.Frag) : Sp := fun vs H Q _ => ∃ s : Sg, vs = [.str s.txt] ∧ s.Wf ∧ s.wt ≤ 50000 ∧ ∀ (v : V) (H' : Hp), Same H H' → Sy K H' v s → Q v H'
def VR (K : PySem.W.Frag) (H : Hp) (v : V) (d : Dt) : Prop := match d with
  | .str x => v = .str x
  | .sg s => Sy K H v s
theorem VR.stay {K : PySem.W.Frag} {H H' : Hp} (e : TuS H H') {v : V} {d : Dt} (h : VR K H v d) : VR K H' v d := by
  cases d with
  | str x => exact h
  | sg s => exact Sy.stay e h
theorem Sy.items {K : PySem.W.Frag} {H : Hp} {v : V} {s : Sg} (h : Sy K H v s) : ∃ a xs, v = .ref a ∧ SqT K H a xs ∧ Paired (VR K H) xs s.items := by
  cases h with
  | no h => exact ⟨_, _, rfl, h, .cons rfl .nil⟩
  | lt h => exact ⟨_, _, rfl, h, .cons rfl (.cons rfl .nil)⟩
  | not h h1 => exact ⟨_, _, rfl, h, .cons rfl (.cons h1 .nil)⟩
  | shown h h1 => exact ⟨_, _, rfl, h, .cons rfl (.cons h1 .nil)⟩
  | bin h h1 h2 => exact ⟨_, _, rfl, h, .cons rfl (.cons h1 (.cons h2 .nil))⟩
def spSame (K : PySem.W.Frag) (n : Nat) : Sp := fun vs H Q _ => ∃ (v u : V) (d : Dt), vs = [v, u] ∧ VR K H v d ∧ VR K H u d ∧ d.ht < n ∧ ∀ H', Same H H' → Q (.bl true) H'
theorem paired_get {α β : Type} {R : α → β → Prop} {xs : List α} {ys : List β} (p : Paired R xs ys) : ∀ {i : Nat} {x : α}, xs[i]? = some x → ∃ y, ys[i]? = some y ∧ R x y := by
  induction p with
  | nil => intro i x h; simp at h
  | cons r p ih =>
    intro i x h
    cases i with
    | zero => exact ⟨_, rfl, by rw [← Option.some.inj h]; exact r⟩
    | succ i => exact ih h
end My
namespace My
open PySem PySem.Spec PyProof.Rows L2
/-- a tuple of the top rows -/
def TK (K : PySem.W.Frag) (a : Addr) (xs : List V) : Prop := ∃ (o : Obj) (its : Array Value) (n : Nat), K.lookup a = some o ∧ o.cls = .type "tuple" ∧ o.data = .seq its n ∧ its.size ≤ sizeLine ∧ Vals xs its.toList
theorem TK.sq {K : PySem.W.Frag} {H : Hp} {a : Addr} {xs : List V} (h : TK K a xs) : SqT K H a xs := .inr h
def Lt (x : Str) : Prop := x = "p" ∨ x = "q" ∨ x = "r"
structure Txt6 (K : PySem.W.Frag) (pr : Params) (mg : Str → Option Value) : Prop where
  le : ∃ d, mg "LEAVES" = some (.ref d) ∧ GD K pr d ∧ (d == sysModules) = false ∧ (∃ a, PySem.W.nsIn K d "0" = some (some (.ref a)) ∧ TK K a [.str "no"]) ∧ ∀ x, Lt x → ∃ a, PySem.W.nsIn K d x = some (some (.ref a)) ∧ TK K a [.str "letter", .str x]
  bg : ∃ d, mg "BEGINNINGS" = some (.ref d) ∧ GD K pr d ∧ (d == sysModules) = false ∧ (∃ a, PySem.W.nsIn K d "~" = some (some (.ref a)) ∧ TK K a [.str "not"]) ∧ (∃ a, PySem.W.nsIn K d "[" = some (some (.ref a)) ∧ TK K a [.str "shown"]) ∧
    (∃ a, PySem.W.nsIn K d "(" = some (some (.ref a)) ∧ TK K a []) ∧ PySem.W.nsIn K d "0" = some none ∧ ∀ x, Lt x → PySem.W.nsIn K d x = some none
  jo : ∃ d, mg "JOINS" = some (.ref d) ∧ GD K pr d ∧ (d == sysModules) = false ∧ ∀ j : Jn, ∃ t, PySem.W.nsIn K d j.sign = some (some (.str j.word t))
  enu : mg "enumerate" = none
  all : mg "all" = none
  tup : mg "tuple" = none
theorem ch126 : (⟨#[126]⟩ : Str) = "~" := by decide +kernel
theorem ch91 : (⟨#[91]⟩ : Str) = "[" := by decide +kernel
theorem ch93 : (⟨#[93]⟩ : Str) = "]" := by decide +kernel
theorem ch40 : (⟨#[40]⟩ : Str) = "(" := by decide +kernel
theorem ch41 : (⟨#[41]⟩ : Str) = ")" := by decide +kernel
theorem ch48 : (⟨#[48]⟩ : Str) = "0" := by decide +kernel
theorem ch112 : (⟨#[112]⟩ : Str) = "p" := by decide +kernel
theorem ch113 : (⟨#[113]⟩ : Str) = "q" := by decide +kernel
theorem ch114 : (⟨#[114]⟩ : Str) = "r" := by decide +kernel
theorem chJ {c : Nat} {j : Jn} (h : joinOf c = some j) : (⟨#[c]⟩ : Str) = j.sign := by
  unfold joinOf at h
  split at h
  · rename_i e
    cases h; subst e; decide +kernel
  · split at h
    · rename_i e
      cases h; subst e; decide +kernel
    · split at h
      · rename_i e
        cases h; subst e; decide +kernel
      · cases h
/-- the ways in which a saying may begin -/
theorem begin_cases {c : Nat} {W : List Wt} {st : RdSt} (h : begin1 c W = some st) : (c = 126 ∧ st = (none, .neg :: W)) ∨ (c = 91 ∧ st = (none, .sh :: W)) ∨ (c = 40 ∧ st = (none, .op :: W)) ∨ (c = 48 ∧ st = dn' .no W) ∨ ∃ x, Lt x ∧ (⟨#[c]⟩ : Str) = x ∧ st = dn' (.lt x) W := by
  unfold begin1 at h
  split at h
  · rename_i e; exact .inl ⟨e, (Option.some.inj h).symm⟩
  · split at h
    · rename_i e; exact .inr (.inl ⟨e, (Option.some.inj h).symm⟩)
    · split at h
      · rename_i e; exact .inr (.inr (.inl ⟨e, (Option.some.inj h).symm⟩))
      · split at h
        · rename_i e; exact .inr (.inr (.inr (.inl ⟨e, (Option.some.inj h).symm⟩)))
        · refine .inr (.inr (.inr (.inr ?_)))
          split at h
          · rename_i e; subst e; exact ⟨"p", .inl rfl, ch112, (Option.some.inj h).symm⟩
          · split at h
            · rename_i e; subst e; exact ⟨"q", .inr (.inl rfl), ch113, (Option.some.inj h).symm⟩
            · split at h
              · rename_i e; subst e; exact ⟨"r", .inr (.inr rfl), ch114, (Option.some.inj h).symm⟩
              · cases h
theorem ne_snoc {α : Type} (xs : List α) (x : α) : (!(xs ++ [x]).isEmpty) = true := by cases xs <;> rfl
section
variable {P : Program} {w : World} {K : PySem.W.Frag} {mg : Str → Option Value} {base : Heap}
/-! ### denied -/
theorem scD : FnScope ["whole", "waiting"] ["whole", "waiting"] (defScope sDn) := ⟨rfl, rfl, rfl, by decide +kernel, rfl, by decide +kernel, by decide +kernel⟩
theorem e_nn : eqAll [V.str "not"] [V.str "not"] = true := by decide +kernel
theorem e_sn : eqAll [V.str "shown"] [V.str "not"] = false := by decide +kernel
theorem e_on : eqAll [] [V.str "not"] = false := rfl
theorem e_jn (j : Jn) (u : V) : eqAll [V.str j.word, u] [V.str "not"] = false := by
  show (eqV (V.str j.word) (V.str "not") && false) = false
  rw [Bool.and_false]
set_option maxHeartbeats 4000000 in
theorem ok_dn {f : Addr} {fd : FuncData} (F : Fun K "denied" "denied" sDn f fd) : FnOk P w K mg base CX0 1 f fd ["whole", "waiting"] (spDn K) := by
  refine F.ok scD (fun vs H Q E h => ?_) (fun cdv A outer s H vs Q E hr h => ?_)
  · obtain ⟨v, l, s, xs, W, rfl, _⟩ := h
    rfl
  · obtain ⟨v, l, s, xs, W, rfl, hy, hl, hw, q⟩ := h
    have hu := hr.units0
    refine ⟨_, pss_cons (ps_while PassesOwn.never (PW.pt (pw_and (pt_truth (pv 1) (fun _ => rfl)) (pw_and1 (pt_cmpR (op_eqT hu) (pe_ix ix_list (pv 1) (pe_un un_neg pe_int) (fun _ _ => rfl)) (pe_tup (pa_cons pe_str pa_nil)) (nomark _)))))
        (pss_cons (ps_expr (pe_bm0 PySem.F.plainAttrs_list PySem.F.slot_list_pop PySem.F.type_list_pop mt_pop (pv 1))) (pss_one (ps_set (i := 0) scD.nd rfl (Or.inl rfl) (pe_tup (pa_cons pe_str (pa_cons (pv 0) pa_nil)))))))
      (pss_one (ps_ret (pv 0))), ?_⟩
    refine ⟨fun m σ H2 => ∃ (v2 : V) (s2 : Sg) (xs2 : List V) (W2 : List Wt), σ = [some v2, some (.ref l)] ∧ ButL l H H2 ∧ H2 l = some (.lst xs2) ∧ Wts K H2 xs2 W2 ∧ Sy K H2 v2 s2 ∧ dn s2 W2 = dn s W ∧ m = W2.length, ⟨_, v, s, xs, W, rfl, ButL.refl, hl, hw, hy, rfl, rfl⟩, ?_⟩
    rintro m σ H2 ⟨v2, s2, xs2, W2, rfl, b2, e2, w2, y2, d2, rfl⟩
    have stop : ∀ H3 : Hp, TuS H2 H3 → ButL l H H3 → H3 l = some (.lst xs2) → dn s2 W2 = (s2, W2) → Q v2 H3 := fun H3 ts b3 e3 dd => by
      have d3 : dn s W = (s2, W2) := d2.symm.trans dd
      refine q v2 H3 xs2 b3 e3 ?_ ?_
      · rw [d3]; exact y2.stay ts
      · rw [d3]; exact Wts.stay ts w2
    cases W2 with
    | nil =>
      have ex := Wts.nil w2
      subst ex
      exact ⟨_, rfl, false, .inl ⟨[], SqL.of e2, rfl⟩, iteF (iteF ⟨_, rfl, stop H2 (TuS.refl _) b2 e2 rfl⟩)⟩
    | cons g W' =>
      obtain ⟨xs', vf, rfl, w', rf⟩ := Wts.top w2
      refine ⟨_, rfl, true, .inl ⟨_, SqL.of e2, (ne_snoc _ _).symm⟩, iteT ?_⟩
      refine ⟨_, rfl, _, rfl, l, _, _, vf, rfl, rfl, SqL.of e2, atI_last _ _, small (Nat.le_of_ble_eq_true rfl), fun t ht => ?_⟩
      have ts := TuS.new (o := .tup [.str "not"]) ht
      have b3 : ButL l H (upd H2 t (.tup [.str "not"])) := b2.new ht
      have e3 : upd H2 t (.tup [.str "not"]) l = some (.lst (xs' ++ [vf])) := by rw [upd_ne (ne_of_none e2 ht)]; exact e2
      cases g with
      | neg =>
        obtain ⟨a, rfl, hs⟩ := rf
        refine ⟨a, t, _, _, rfl, rfl, ts.sq hs, SqT.of upd_same, rfl, true, congrArg V.bl e_nn, iteT ⟨_, fun _ _ h => h, ?_⟩⟩
        refine ⟨_, rfl, .inl ⟨rfl, _, SqL.of e3⟩, l, _, _, rfl, rfl, e3, last_of _ _, ?_⟩
        rw [drop_of]
        have ts2 := ts.trans (TuS.lst (o := .lst xs') e3)
        refine ⟨_, rfl, small (Nat.le_of_ble_eq_true rfl), fun t2 ht2 => ?_⟩
        have ts3 := ts2.trans (TuS.new (o := .tup [.str "not", v2]) ht2)
        have e4 : upd (upd H2 t (.tup [.str "not"])) l (.lst xs') l = some (.lst xs') := upd_same
        exact ⟨W'.length, Nat.lt_succ_self _, .ref t2, .not s2, xs', W', rfl, (ButL.at b3).new ht2, by rw [upd_ne (ne_of_none e4 ht2)]; exact e4, Wts.stay ts3 w', .not (SqT.of upd_same) (y2.stay ts3), d2, rfl⟩
      | sh =>
        obtain ⟨a, rfl, hs⟩ := rf
        exact ⟨a, t, _, _, rfl, rfl, ts.sq hs, SqT.of upd_same, rfl, false, congrArg V.bl e_sn, iteF ⟨_, rfl, stop _ ts b3 e3 rfl⟩⟩
      | op =>
        obtain ⟨a, rfl, hs⟩ := rf
        exact ⟨a, t, _, _, rfl, rfl, ts.sq hs, SqT.of upd_same, rfl, false, congrArg V.bl e_on, iteF ⟨_, rfl, stop _ ts b3 e3 rfl⟩⟩
      | jn j b =>
        obtain ⟨a, u, rfl, hs, _⟩ := rf
        exact ⟨a, t, _, _, rfl, rfl, ts.sq hs, SqT.of upd_same, rfl, false, congrArg V.bl (e_jn j u), iteF ⟨_, rfl, stop _ ts b3 e3 rfl⟩⟩
end
end My
namespace My
open PySem PySem.Spec PyProof.Rows L2
/-! ### keys of a dict of the top that are not there -/
def keysIn (es : List DictEntry) (xs : List Str) : Bool := es.all fun e => match e.key with
  | .str x _ => xs.contains x
  | _ => false
theorem ns_out {K : PySem.W.Frag} {d : Addr} {es : Array DictEntry} {n : Nat} {xs : List Str} {k : Str} (l : K.lookup d = some ⟨.type "dict", none, .dict es n, #[]⟩) (h : keysIn es.toList xs = true) (hk : k ∉ xs) : PySem.W.nsIn K d k = some none := by
  have all : ∀ e ∈ es.toList, ∃ x t, e.key = .str x t ∧ x ∈ xs := fun e he => by
    have q := List.all_eq_true.mp h e he
    split at q
    · rename_i x t e2
      exact ⟨x, t, e2, by simpa using q⟩
    · cases q
  have f : es.toList.find? (·.key.isStr k) = none := List.find?_eq_none.mpr fun e he z => by
    obtain ⟨x, t, e2, hx⟩ := all e he
    rw [e2, PySem.W.isStr_of] at z
    have e3 : x = k := by
      have : Value.isStrOf k (.str x t) = true := z
      simpa [Value.isStrOf] using this
    exact hk (e3 ▸ hx)
  have r : es.toList.any (·.refKey) = false := List.any_eq_false.mpr fun e he => by
    obtain ⟨x, t, e2, _⟩ := all e he
    simp [DictEntry.refKey, e2]
  unfold PySem.W.nsIn
  rw [l]
  dsimp only
  rw [f]
  dsimp only
  rw [r, if_neg Bool.false_ne_true]
/-! ### what is refused, in the heap -/
/-- an exception of the class at C, its one attribute -/
def Ex1 (C : Addr) (nm : Str) (y : V) (H : Hp) (a : Addr) (dx : Option Addr) : Prop := ∃ d, dx = some d ∧ H a = some (XO a C dx) ∧ H d = some (.xd [(nm, y)])
theorem ex1_mk {H : Hp} {a d C : Addr} {nm : Str} {y : V} (ha : H a = none) (hd : upd H a (XN a C none) d = none) :
    Same H (upd (upd (upd (upd H a (XN a C none)) d (.xd [(nm, y)])) a (XN a C (some d))) a (XO a C (some d))) ∧ Ex1 C nm y (upd (upd (upd (upd H a (XN a C none)) d (.xd [(nm, y)])) a (XN a C (some d))) a (XO a C (some d))) a (some d) := by
  have nd : d ≠ a := fun z => by rw [z, upd_same] at hd; cases hd
  have hd' : H d = none := by rw [upd_ne nd] at hd; exact hd
  refine ⟨fun b o e => ?_, d, rfl, upd_same, ?_⟩
  · rw [upd_ne (ne_of_none e ha), upd_ne (ne_of_none e ha), upd_ne (ne_of_none e hd'), upd_ne (ne_of_none e ha)]
    exact e
  · rw [upd_ne nd, upd_ne nd, upd_same]
def spInit (C : Addr) (nm : Str) : Sp := fun vs H Q _ => ∃ (a : Addr) (y : V), vs = [.ref a, y] ∧ H a = some (XN a C none) ∧ ∀ d, H d = none → Q .non (upd (upd H d (.xd [(nm, y)])) a (XN a C (some d)))
/-- a class of refusals with one field -/
structure Fld (K : PySem.W.Frag) (C f : Addr) (nm : Str) : Prop where
  cls : Ex.XCls K C
  init : PySem.W.findIn K (.ref C) "__init__" = some (some (.ref f))
  fn : PySem.W.isFn K (.ref f) = true
  at_ : PySem.W.findIn K (.ref C) nm = some none
  kp : PySem.W.keepIn K (.ref C) = true
section
variable {P : Program} {w : World} {K : PySem.W.Frag} {mg : Str → Option Value} {base : Heap}
theorem sc1 : FnScope ["self", "place"] ["self", "place"] (defScope sI1) := ⟨rfl, rfl, rfl, by decide +kernel, rfl, by decide +kernel, by decide +kernel⟩
theorem sc2 : FnScope ["self", "room"] ["self", "room"] (defScope sI2) := ⟨rfl, rfl, rfl, by decide +kernel, rfl, by decide +kernel, by decide +kernel⟩
theorem sc3 : FnScope ["self", "letter"] ["self", "letter"] (defScope sI3) := ⟨rfl, rfl, rfl, by decide +kernel, rfl, by decide +kernel, by decide +kernel⟩
theorem ok_i1 {f C : Addr} {fd : FuncData} (F : Fun K "__init__" "NoSaying.__init__" sI1 f fd) (Z : Fld K C f "place") : FnOk P w K mg base CX0 1 f fd ["self", "place"] (spInit C "place") := by
  refine F.ok sc1 (fun vs H Q E h => ?_) (fun cdv A outer s H vs Q E hr h => ?_)
  · obtain ⟨a, y, rfl, _⟩ := h
    rfl
  · obtain ⟨a, y, rfl, ex, q⟩ := h
    exact ⟨_, pss_one (ps_xfld (pv 0) (pv 1) rfl), _, rfl, _, rfl, a, C, rfl, ex, Z.cls, Z.at_, fun d hd => q d hd⟩
theorem ok_i2 {f C : Addr} {fd : FuncData} (F : Fun K "__init__" "NoTree.__init__" sI2 f fd) (Z : Fld K C f "room") : FnOk P w K mg base CX0 1 f fd ["self", "room"] (spInit C "room") := by
  refine F.ok sc2 (fun vs H Q E h => ?_) (fun cdv A outer s H vs Q E hr h => ?_)
  · obtain ⟨a, y, rfl, _⟩ := h
    rfl
  · obtain ⟨a, y, rfl, ex, q⟩ := h
    exact ⟨_, pss_one (ps_xfld (pv 0) (pv 1) rfl), _, rfl, _, rfl, a, C, rfl, ex, Z.cls, Z.at_, fun d hd => q d hd⟩
theorem ok_i3 {f C : Addr} {fd : FuncData} (F : Fun K "__init__" "HasLetter.__init__" sI3 f fd) (Z : Fld K C f "letter") : FnOk P w K mg base CX0 1 f fd ["self", "letter"] (spInit C "letter") := by
  refine F.ok sc3 (fun vs H Q E h => ?_) (fun cdv A outer s H vs Q E hr h => ?_)
  · obtain ⟨a, y, rfl, _⟩ := h
    rfl
  · obtain ⟨a, y, rfl, ex, q⟩ := h
    exact ⟨_, pss_one (ps_xfld (pv 0) (pv 1) rfl), _, rfl, _, rfl, a, C, rfl, ex, Z.cls, Z.at_, fun d hd => q d hd⟩
end
/-! ### promises -/
theorem ButL.of_same {l : Addr} {H H1 H2 : Hp} (a : ButL l H H1) (s : Same H1 H2) : ButL l H H2 := fun b o n e => s b o (a b o n e)
def Ref (C : Addr) (k : Int) (l : Addr) (H : Hp) (E : XK) : Prop := ∀ a dx H', ButL l H H' → Ex1 C "place" (.int k) H' a dx → E (.ref a) dx H'
def spBg7 (K : PySem.W.Frag) (C : Addr) : Sp := fun vs H Q E => ∃ (c : Nat) (k : Int) (l : Addr) (xs : List V) (W : List Wt), vs = [.str ⟨#[c]⟩, .int k, .ref l] ∧ H l = some (.lst xs) ∧ Wts K H xs W ∧ xs.length ≤ 50000 ∧
  (∀ st, begin1 c W = some st → ∀ (v' : V) (H' : Hp) (xs' : List V), ButL l H H' → H' l = some (.lst xs') → WhR K H' v' st.1 → Wts K H' xs' st.2 → Q v' H') ∧ (begin1 c W = none → Ref C k l H E)
def spGo7 (K : PySem.W.Frag) (C : Addr) : Sp := fun vs H Q E => ∃ (v : V) (s : Sg) (c : Nat) (k : Int) (l : Addr) (xs : List V) (W : List Wt), vs = [v, .str ⟨#[c]⟩, .int k, .ref l] ∧ Sy K H v s ∧ H l = some (.lst xs) ∧ Wts K H xs W ∧ xs.length ≤ 50000 ∧ Cl (some s, W) ∧
  (∀ st, goOn c s W = some st → ∀ (v' : V) (H' : Hp) (xs' : List V), ButL l H H' → H' l = some (.lst xs') → WhR K H' v' st.1 → Wts K H' xs' st.2 → Q v' H') ∧ (goOn c s W = none → Ref C k l H E)
def spRd7 (K : PySem.W.Frag) (C : Addr) : Sp := fun vs H Q E => ∃ x : Str, vs = [.str x] ∧ x.length ≤ 50000 ∧ (∀ (s : Sg) (v : V) (H' : Hp), bad x.cps.toList 0 (none, []) = none → s.Wf → s.txt = x → Same H H' → Sy K H' v s → Q v H') ∧
  ∀ (k : Nat) a dx H', bad x.cps.toList 0 (none, []) = some k → Same H H' → Ex1 C "place" (.int k) H' a dx → E (.ref a) dx H'
/-- the dicts of signs have no other keys -/
structure Txt7 (K : PySem.W.Frag) (mg : Str → Option Value) : Prop where
  le : ∃ d es n, mg "LEAVES" = some (.ref d) ∧ K.lookup d = some ⟨.type "dict", none, .dict es n, #[]⟩ ∧ keysIn es.toList ["0", "p", "q", "r"] = true
  bg : ∃ d es n, mg "BEGINNINGS" = some (.ref d) ∧ K.lookup d = some ⟨.type "dict", none, .dict es n, #[]⟩ ∧ keysIn es.toList ["~", "[", "("] = true
  jo : ∃ d es n, mg "JOINS" = some (.ref d) ∧ K.lookup d = some ⟨.type "dict", none, .dict es n, #[]⟩ ∧ keysIn es.toList ["&", "|", ">"] = true
theorem sign_ne {c d : Nat} {x : Str} (hx : (⟨#[d]⟩ : Str) = x) (h : c ≠ d) : (⟨#[c]⟩ : Str) ≠ x := fun e => by
  have e2 : (⟨#[c]⟩ : Str) = ⟨#[d]⟩ := e.trans hx.symm
  injection e2 with e3
  have e4 : #[c].toList = #[d].toList := congrArg Array.toList e3
  exact h (List.cons.inj e4).1
theorem begin_none {c : Nat} {W : List Wt} (h : begin1 c W = none) : (⟨#[c]⟩ : Str) ∉ (["0", "p", "q", "r"] : List Str) ∧ (⟨#[c]⟩ : Str) ∉ (["~", "[", "("] : List Str) := by
  unfold begin1 at h
  have ne : c ≠ 126 ∧ c ≠ 91 ∧ c ≠ 40 ∧ c ≠ 48 ∧ c ≠ 112 ∧ c ≠ 113 ∧ c ≠ 114 := by
    refine ⟨?_, ?_, ?_, ?_, ?_, ?_, ?_⟩ <;> (rintro rfl; simp at h)
  obtain ⟨n1, n2, n3, n4, n5, n6, n7⟩ := ne
  simp [sign_ne ch48 n4, sign_ne ch112 n5, sign_ne ch113 n6, sign_ne ch114 n7, sign_ne ch126 n1, sign_ne ch91 n2, sign_ne ch40 n3]
theorem ch38 : (⟨#[38]⟩ : Str) = "&" := by decide +kernel
theorem ch124 : (⟨#[124]⟩ : Str) = "|" := by decide +kernel
theorem ch62 : (⟨#[62]⟩ : Str) = ">" := by decide +kernel
theorem join_none {c : Nat} (h : joinOf c = none) : (⟨#[c]⟩ : Str) ∉ (["&", "|", ">"] : List Str) := by
  unfold joinOf at h
  have ne : c ≠ 38 ∧ c ≠ 124 ∧ c ≠ 62 := by
    refine ⟨?_, ?_, ?_⟩ <;> (rintro rfl; simp at h)
  simp [sign_ne ch38 ne.1, sign_ne ch124 ne.2.1, sign_ne ch62 ne.2.2]
end My
namespace My
open PySem PySem.Spec PyProof.Rows L2
section
variable {P : Program} {w : World} {K : PySem.W.Frag} {mg : Str → Option Value} {base : Heap}
/-! ### begun -/
theorem scG : FnScope ["sign", "place", "waiting"] ["sign", "place", "waiting"] (defScope sBg) := ⟨rfl, rfl, rfl, by decide +kernel, rfl, by decide +kernel, by decide +kernel⟩
set_option maxHeartbeats 4000000 in
theorem ok_bg7 {f fD fI C : Addr} {fd fdD fdI : FuncData} (F : Fun K "begun" "begun" sBg f fd) (T : Txt6 K w.params mg) (T7 : Txt7 K mg) (FD : Fun K "denied" "denied" sDn fD fdD) (bD : Binds K fdD ["whole", "waiting"] []) (mD : mg "denied" = some (.ref fD))
    (GI : FnOk P w K mg base CX0 1 fI fdI ["self", "place"] (spInit C "place")) (bI : Binds K fdI ["self", "place"] []) (Z : Fld K C fI "place") (mC : mg "NoSaying" = some (.ref C)) :
    FnOk P w K mg base (CX1 P w) 3 f fd ["sign", "place", "waiting"] (spBg7 K C) := by
  have G : FnOk P w K mg base CX0 1 fD fdD ["whole", "waiting"] (spDn K) := ok_dn FD
  obtain ⟨dL, mL, gL, oL, l0, lx⟩ := T.le
  obtain ⟨dB, mB, gB, oB, b1, b2, b3, b0, bx⟩ := T.bg
  refine fun_okX F scG (fun vs H Q E h => ?_) (fun cdv A outer s H vs Q E hr h => ?_)
  · obtain ⟨c, k, l, xs, W, rfl, _⟩ := h
    rfl
  · obtain ⟨c, k, l, xs, W, rfl, hl, hw, hz, q, qe⟩ := h
    have hr1 : Room 1 _ := hr.mono (by decide)
    refine ⟨_, pss_cons (ps_if (pt_cmpR op_in_gd (pv 0) (pe_glob rfl mB (v := .ref dB) rfl) rfl)
        (pss_cons (ps_expr (pe_bm PySem.F.plainAttrs_list PySem.F.slot_list_append PySem.F.type_list_append mt_append (pv 2) (pa_cons (pe_ix ix_gdict (pe_glob rfl mB (v := .ref dB) rfl) (pv 0) (fun _ _ => rfl)) pa_nil))) (pss_one (ps_ret pe_non))) pss_nil)
      (pss_cons (ps_if (pt_cmpR op_in_gd (pv 0) (pe_glob rfl mL (v := .ref dL) rfl) rfl)
        (pss_one (ps_ret (pe_call G hr1 rfl mD FD.kp bD .nil pass0 (pa_cons (pe_ix ix_gdict (pe_glob rfl mL (v := .ref dL) rfl) (pv 0) (fun _ _ => rfl)) (pa_cons (pv 2) pa_nil))))) pss_nil)
      (pss_one (ps_raise (W := fun _ => E) rfl (pe_xmake Z.cls Z.init Z.fn GI hr rfl mC Z.kp bI (by decide) (pa_cons (pv 1) pa_nil))))), ?_⟩
    cases hb : begin1 c W with
    | none =>
      obtain ⟨n1, n2⟩ := begin_none hb
      obtain ⟨d, es, n, md, ld, kd⟩ := T7.bg
      obtain ⟨d', es', n', md', ld', kd'⟩ := T7.le
      obtain rfl : d = dB := Value.ref.inj (Option.some.inj (md.symm.trans mB))
      obtain rfl : d' = dL := Value.ref.inj (Option.some.inj (md'.symm.trans mL))
      refine ⟨_, rfl, d, _, _, rfl, rfl, gB, oB, ns_out ld kd n2, false, rfl, iteF ?_⟩
      refine ⟨_, rfl, d', _, _, rfl, rfl, gL, oL, ns_out ld' kd' n1, false, rfl, iteF ?_⟩
      refine ⟨_, rfl, fun a ha => ⟨a, .int k, rfl, upd_same, fun e he => ⟨rfl, a, C, some e, rfl, upd_same, Z.cls, ?_⟩⟩⟩
      obtain ⟨sm, ex⟩ := ex1_mk (nm := "place") (y := .int k) ha he
      exact qe hb a (some e) _ (ButL.refl.of_same sm) ex
    | some st =>
    have cls : (∃ (g : Wt) (a : Addr), PySem.W.nsIn K dB ⟨#[c]⟩ = some (some (.ref a)) ∧ (∀ H', WtR K H' (.ref a) g) ∧ st = (none, g :: W)) ∨
        (PySem.W.nsIn K dB ⟨#[c]⟩ = some none ∧ ∃ (a : Addr) (s : Sg), PySem.W.nsIn K dL ⟨#[c]⟩ = some (some (.ref a)) ∧ (∀ H', Sy K H' (.ref a) s) ∧ st = dn' s W) := by
      rcases begin_cases hb with ⟨rfl, e⟩ | ⟨rfl, e⟩ | ⟨rfl, e⟩ | ⟨rfl, e⟩ | ⟨x, hx, ex, e⟩
      · obtain ⟨a, h1, h2⟩ := b1
        exact .inl ⟨.neg, a, by rw [ch126]; exact h1, fun H' => ⟨a, rfl, h2.sq⟩, e⟩
      · obtain ⟨a, h1, h2⟩ := b2
        exact .inl ⟨.sh, a, by rw [ch91]; exact h1, fun H' => ⟨a, rfl, h2.sq⟩, e⟩
      · obtain ⟨a, h1, h2⟩ := b3
        exact .inl ⟨.op, a, by rw [ch40]; exact h1, fun H' => ⟨a, rfl, h2.sq⟩, e⟩
      · obtain ⟨a, h1, h2⟩ := l0
        exact .inr ⟨by rw [ch48]; exact b0, a, .no, by rw [ch48]; exact h1, fun H' => .no h2.sq, e⟩
      · obtain ⟨a, h1, h2⟩ := lx x hx
        exact .inr ⟨by rw [ex]; exact bx x hx, a, .lt x, by rw [ex]; exact h1, fun H' => .lt h2.sq, e⟩
    rcases cls with ⟨g, a, n1, r1, rfl⟩ | ⟨n0, a, s1, n1, r1, rfl⟩
    · refine ⟨_, rfl, dB, _, _, rfl, rfl, gB, oB, n1, true, rfl, iteT ?_⟩
      refine ⟨_, rfl, .inl ⟨rfl, _, SqL.of hl⟩, _, rfl, dB, _, .ref a, _, rfl, rfl, gB, n1, rfl, l, _, _, rfl, rfl, hl, small' (by omega), ?_⟩
      exact q _ hb .non _ (xs ++ [.ref a]) (ButL.at ButL.refl) upd_same rfl ((Wts.stay (TuS.lst hl) hw).push (r1 _))
    · refine ⟨_, rfl, dB, _, _, rfl, rfl, gB, oB, n0, false, rfl, iteF ?_⟩
      refine ⟨_, rfl, dL, _, _, rfl, rfl, gL, oL, n1, true, rfl, iteT ?_⟩
      refine ⟨_, rfl, dL, _, .ref a, _, rfl, rfl, gL, n1, rfl, _, rfl, _, l, s1, xs, W, rfl, r1 _, hl, hw, fun v' H' xs' b' e' y' w' => ?_⟩
      exact q _ hb v' H' xs' b' e' y' w'
end
end My
namespace My
open PySem PySem.Spec PyProof.Rows L2
section
variable {P : Program} {w : World} {K : PySem.W.Frag} {mg : Str → Option Value} {base : Heap}
/-! ### gone_on -/
theorem scO : FnScope ["whole", "sign", "place", "waiting", "outer"] ["whole", "sign", "place", "waiting"] (defScope sGo) := ⟨rfl, rfl, rfl, by decide +kernel, rfl, by decide +kernel, by decide +kernel⟩
theorem f_so : eqAll [V.str "shown"] [] = false := rfl
theorem f_ss : eqAll [V.str "shown"] [V.str "shown"] = true := by decide +kernel
theorem f_os : eqAll [] [V.str "shown"] = false := rfl
theorem f_js (j : Jn) (u : V) : eqAll [V.str j.word, u] [V.str "shown"] = false := by
  show (eqV (V.str j.word) (V.str "shown") && false) = false
  rw [Bool.and_false]
set_option maxHeartbeats 8000000 in
theorem ok_go7 {f fD fI C : Addr} {fd fdD fdI : FuncData} (F : Fun K "gone_on" "gone_on" sGo f fd) (T : Txt K w.params mg) (T6 : Txt6 K w.params mg) (T7 : Txt7 K mg) (FD : Fun K "denied" "denied" sDn fD fdD) (bD : Binds K fdD ["whole", "waiting"] []) (mD : mg "denied" = some (.ref fD))
    (GI : FnOk P w K mg base CX0 1 fI fdI ["self", "place"] (spInit C "place")) (bI : Binds K fdI ["self", "place"] []) (Z : Fld K C fI "place") (mC : mg "NoSaying" = some (.ref C)) :
    FnOk P w K mg base (CX1 P w) 3 f fd ["whole", "sign", "place", "waiting"] (spGo7 K C) := by
  have G : FnOk P w K mg base CX0 1 fD fdD ["whole", "waiting"] (spDn K) := ok_dn FD
  obtain ⟨dJ, mJ, gJ, oJ, jx⟩ := T6.jo
  refine fun_okX F scO (fun vs H Q E h => ?_) (fun cdv A outer s H vs Q E hr h => ?_)
  · obtain ⟨v, s, c, k, l, xs, W, rfl, _⟩ := h
    rfl
  · obtain ⟨v, s, c, k, l, xs, W, rfl, hy, hl, hw, hz, cl, q, qe⟩ := h
    have hu := hr.units0
    have hr1 : Room 1 _ := hr.mono (by decide)
    refine ⟨_, pss_cons (ps_if (pt_not (pt_truth (pv 3) (fun _ => rfl))) (pss_one (ps_raise (W := fun _ => E) rfl (pe_xmake Z.cls Z.init Z.fn GI hr rfl mC Z.kp bI (by decide) (pa_cons (pv 2) pa_nil)))) pss_nil)
      (pss_cons (ps_set (i := 4) scO.nd rfl (Or.inl rfl) (pe_bm0 PySem.F.plainAttrs_list PySem.F.slot_list_pop PySem.F.type_list_pop mt_pop (pv 3)))
      (pss_cons (ps_if (PW.pt (pw_and (pt_cmpR (op_eqT hu) (pv 4) (pe_tup pa_nil) (nomark _)) (pw_and1 (pt_cmpR op_in_gd (pv 1) (pe_glob rfl mJ (v := .ref dJ) rfl) rfl))))
        (pss_cons (ps_expr (pe_bm PySem.F.plainAttrs_list PySem.F.slot_list_append PySem.F.type_list_append mt_append (pv 3) (pa_cons (pe_tup (pa_cons (pe_ix ix_gdict (pe_glob rfl mJ (v := .ref dJ) rfl) (pv 1) (fun _ _ => rfl)) (pa_cons (pv 0) pa_nil))) pa_nil))) (pss_one (ps_ret pe_non))) pss_nil)
      (pss_cons (ps_if (PW.pt (pw_and (pt_cmpR (op_eqT hu) (pv 4) (pe_tup (pa_cons pe_str pa_nil)) (nomark _)) (pw_and1 (pt_cmpR op_eq (pv 1) pe_str (nomark _)))))
        (pss_one (ps_ret (pe_call G hr1 rfl mD FD.kp bD .nil pass0 (pa_cons (pe_tup (pa_cons pe_str (pa_cons (pv 0) pa_nil))) (pa_cons (pv 3) pa_nil))))) pss_nil)
      (pss_cons (ps_if (PW.pt (pw_and (pt_cmpR op_eq (pe_callB call_len_seq (by rfl) T.len PySem.boot_len (pa_cons (pv 4) pa_nil)) pe_int (nomark _)) (pw_and1 (pt_cmpR op_eq (pv 1) pe_str (nomark _)))))
        (pss_one (ps_ret (pe_call G hr1 rfl mD FD.kp bD .nil pass0 (pa_cons (pe_op op_catT (pv 4) (pe_tup (pa_cons (pv 0) pa_nil))) (pa_cons (pv 3) pa_nil))))) pss_nil)
      (pss_one (ps_raise (W := fun _ => E) rfl (pe_xmake Z.cls Z.init Z.fn GI hr rfl mC Z.kp bI (by decide) (pa_cons (pv 2) pa_nil)))))))), ?_⟩
    -- the refusal, from a heap that has changed but in the list
    have refuse : goOn c s W = none → ∀ H1, ButL l H H1 → ∀ a, H1 a = none → ∀ e, upd H1 a (XN a C none) e = none → E (.ref a) (some e) (upd (upd (upd (upd H1 a (XN a C none)) e (.xd [("place", .int k)])) a (XN a C (some e))) a (XO a C (some e))) := fun hb H1 b1 a ha e he => by
      obtain ⟨sm, ex⟩ := ex1_mk (nm := "place") (y := .int k) ha he
      exact qe hb a (some e) _ (b1.of_same sm) ex
    cases W with
    | nil =>
      have ex := Wts.nil hw
      subst ex
      refine ⟨_, rfl, false, .inl ⟨[], SqL.of hl, rfl⟩, iteT ?_⟩
      exact ⟨_, rfl, fun a ha => ⟨a, .int k, rfl, upd_same, fun e he => ⟨rfl, a, C, some e, rfl, upd_same, Z.cls, refuse rfl H ButL.refl a ha e he⟩⟩⟩
    | cons g W' =>
      obtain ⟨xs', vf, rfl, w', rf⟩ := Wts.top hw
      refine ⟨_, rfl, true, .inl ⟨_, SqL.of hl, (ne_snoc _ _).symm⟩, iteF ?_⟩
      refine ⟨_, rfl, .inl ⟨rfl, _, SqL.of hl⟩, l, _, vf, rfl, rfl, hl, last_of _ _, ?_⟩
      rw [drop_of]
      have ts1 := TuS.lst (o := .lst xs') hl
      have e1 : upd H l (.lst xs') l = some (.lst xs') := upd_same
      have b1 : ButL l H (upd H l (.lst xs')) := ButL.at ButL.refl
      have lx : (xs' ++ [vf]).length = xs'.length + 1 := by rw [List.length_append]; rfl
      refine ⟨_, rfl, small (Nat.le_of_ble_eq_true rfl), fun t1 ht1 => ?_⟩
      have ts2 := ts1.trans (TuS.new (o := .tup []) ht1)
      have e2 : upd (upd H l (.lst xs')) t1 (.tup []) l = some (.lst xs') := by rw [upd_ne (ne_of_none e1 ht1)]; exact e1
      have b2 : ButL l H (upd (upd H l (.lst xs')) t1 (.tup [])) := b1.new ht1
      cases g with
      | neg => exact absurd rfl (cl W')
      | op =>
        obtain ⟨a, rfl, hs⟩ := rf
        have hg : goOn c s (.op :: W') = (joinOf c).map fun j => ((none, .jn j s :: W') : RdSt) := rfl
        cases hj : joinOf c with
        | none =>
          rw [hj] at hg
          obtain ⟨d, es, n, md, ld, kd⟩ := T7.jo
          obtain rfl : d = dJ := Value.ref.inj (Option.some.inj (md.symm.trans mJ))
          refine ⟨a, t1, _, _, rfl, rfl, ts2.sq hs, SqT.of upd_same, rfl, true, rfl, iteT ?_⟩
          refine ⟨_, rfl, d, _, _, rfl, rfl, gJ, oJ, ns_out ld kd (join_none hj), false, rfl, iteF ?_⟩
          refine ⟨_, rfl, small (Nat.le_of_ble_eq_true rfl), fun t2 ht2 => ?_⟩
          have ts3 := ts2.trans (TuS.new (o := .tup [.str "shown"]) ht2)
          have b3 := b2.new (o := .tup [.str "shown"]) ht2
          refine ⟨a, t2, _, _, rfl, rfl, ts3.sq hs, SqT.of upd_same, rfl, false, congrArg V.bl f_os, iteF (iteF ?_)⟩
          refine ⟨_, rfl, a, _, rfl, .inr (ts3.sq hs), rfl, _, rfl, ifF (fun z => by cases z) (iteF ?_)⟩
          exact ⟨_, rfl, fun a2 ha => ⟨a2, .int k, rfl, upd_same, fun e he => ⟨rfl, a2, C, some e, rfl, upd_same, Z.cls, refuse hg _ b3 a2 ha e he⟩⟩⟩
        | some j =>
          rw [hj] at hg
          obtain ⟨t, jt⟩ := jx j
          refine ⟨a, t1, _, _, rfl, rfl, ts2.sq hs, SqT.of upd_same, rfl, true, rfl, iteT ?_⟩
          refine ⟨_, rfl, dJ, _, _, rfl, rfl, gJ, oJ, (by rw [chJ hj]; exact jt), true, rfl, iteT ?_⟩
          refine ⟨_, rfl, .inl ⟨rfl, _, SqL.of e2⟩, _, rfl, dJ, _, .str j.word, _, rfl, rfl, gJ, (by rw [chJ hj]; exact jt), ⟨t, rfl⟩, _, rfl, small (Nat.le_of_ble_eq_true rfl), fun t2 ht2 => ?_⟩
          have e3 : upd (upd (upd H l (.lst xs')) t1 (.tup [])) t2 (.tup [.str j.word, v]) l = some (.lst xs') := by rw [upd_ne (ne_of_none e2 ht2)]; exact e2
          refine ⟨l, _, _, rfl, rfl, e3, small' (by omega), ?_⟩
          have ts3 := (ts2.trans (TuS.new (o := .tup [.str j.word, v]) ht2)).trans (TuS.lst (o := .lst (xs' ++ [.ref t2])) e3)
          exact q _ hg .non _ (xs' ++ [.ref t2]) (ButL.at (b2.new ht2)) upd_same rfl ((Wts.stay ts3 w').push ⟨t2, v, rfl, (TuS.lst e3).sq (SqT.of upd_same), hy.stay ts3⟩)
      | sh =>
        obtain ⟨a, rfl, hs⟩ := rf
        have hg : goOn c s (.sh :: W') = if c = 93 then some (dn' (.shown s) W') else none := rfl
        refine ⟨a, t1, _, _, rfl, rfl, ts2.sq hs, SqT.of upd_same, rfl, false, rfl, iteF (iteF ?_)⟩
        refine ⟨_, rfl, small (Nat.le_of_ble_eq_true rfl), fun t2 ht2 => ?_⟩
        have ts3 := ts2.trans (TuS.new (o := .tup [.str "shown"]) ht2)
        have e3 : upd (upd (upd H l (.lst xs')) t1 (.tup [])) t2 (.tup [.str "shown"]) l = some (.lst xs') := by rw [upd_ne (ne_of_none e2 ht2)]; exact e2
        have b3 := b2.new (o := .tup [.str "shown"]) ht2
        refine ⟨a, t2, _, _, rfl, rfl, ts3.sq hs, SqT.of upd_same, rfl, true, congrArg V.bl f_ss, iteT ?_⟩
        by_cases hc : c = 93
        · rw [if_pos hc] at hg
          subst hc
          refine ⟨_, rfl, rfl, _, rfl, ifT (congrArg V.str ch93) ?_⟩
          refine ⟨_, rfl, small (Nat.le_of_ble_eq_true rfl), fun t3 ht3 => ?_⟩
          have ts4 := ts3.trans (TuS.new (o := .tup [.str "shown", v]) ht3)
          have e4 : upd (upd (upd (upd H l (.lst xs')) t1 (.tup [])) t2 (.tup [.str "shown"])) t3 (.tup [.str "shown", v]) l = some (.lst xs') := by rw [upd_ne (ne_of_none e3 ht3)]; exact e3
          have b4 := b3.new (o := .tup [.str "shown", v]) ht3
          exact ⟨_, rfl, .ref t3, l, .shown s, xs', W', rfl, .shown (SqT.of upd_same) (hy.stay ts4), e4, Wts.stay ts4 w', fun v' H' xs2 b' e' y' w'' => q _ hg v' H' xs2 (b4.trans b') e' y' w''⟩
        · rw [if_neg hc] at hg
          refine ⟨_, rfl, rfl, _, rfl, ifF (strne (sign_ne ch93 hc)) ?_⟩
          refine ⟨_, rfl, a, _, rfl, .inr (ts3.sq hs), rfl, _, rfl, ifF (fun z => by cases z) (iteF ?_)⟩
          exact ⟨_, rfl, fun a2 ha => ⟨a2, .int k, rfl, upd_same, fun e he => ⟨rfl, a2, C, some e, rfl, upd_same, Z.cls, refuse hg _ b3 a2 ha e he⟩⟩⟩
      | jn j b =>
        obtain ⟨a, u, rfl, hs, yb⟩ := rf
        have hg : goOn c s (.jn j b :: W') = if c = 41 then some (dn' (.bin j b s) W') else none := rfl
        refine ⟨a, t1, _, _, rfl, rfl, ts2.sq hs, SqT.of upd_same, rfl, false, rfl, iteF (iteF ?_)⟩
        refine ⟨_, rfl, small (Nat.le_of_ble_eq_true rfl), fun t2 ht2 => ?_⟩
        have ts3 := ts2.trans (TuS.new (o := .tup [.str "shown"]) ht2)
        have e3 : upd (upd (upd H l (.lst xs')) t1 (.tup [])) t2 (.tup [.str "shown"]) l = some (.lst xs') := by rw [upd_ne (ne_of_none e2 ht2)]; exact e2
        have b3 := b2.new (o := .tup [.str "shown"]) ht2
        refine ⟨a, t2, _, _, rfl, rfl, ts3.sq hs, SqT.of upd_same, rfl, false, congrArg V.bl (f_js j u), iteF (iteF ?_)⟩
        refine ⟨_, rfl, a, _, rfl, .inr (ts3.sq hs), rfl, _, rfl, ifT rfl ?_⟩
        by_cases hc : c = 41
        · rw [if_pos hc] at hg
          subst hc
          refine ⟨_, rfl, rfl, _, rfl, ifT (congrArg V.str ch41) ?_⟩
          refine ⟨_, rfl, _, rfl, small (Nat.le_of_ble_eq_true rfl), fun t3 ht3 => ?_⟩
          have ts4 := ts3.trans (TuS.new (o := .tup [v]) ht3)
          have e4 : upd (upd (upd (upd H l (.lst xs')) t1 (.tup [])) t2 (.tup [.str "shown"])) t3 (.tup [v]) l = some (.lst xs') := by rw [upd_ne (ne_of_none e3 ht3)]; exact e3
          have b4 := b3.new (o := .tup [v]) ht3
          refine ⟨a, t3, _, _, rfl, rfl, ts4.sq hs, SqT.of upd_same, (by simp), small (Nat.le_of_ble_eq_true rfl), (fun z => by cases z), fun _ t4 ht4 => ?_⟩
          have ts5 := ts4.trans (TuS.new (o := .tup [.str j.word, u, v]) ht4)
          have e5 : upd (upd (upd (upd (upd H l (.lst xs')) t1 (.tup [])) t2 (.tup [.str "shown"])) t3 (.tup [v])) t4 (.tup [.str j.word, u, v]) l = some (.lst xs') := by rw [upd_ne (ne_of_none e4 ht4)]; exact e4
          have b5 := b4.new (o := .tup [.str j.word, u, v]) ht4
          exact ⟨_, rfl, .ref t4, l, .bin j b s, xs', W', rfl, .bin (SqT.of upd_same) (yb.stay ts5) (hy.stay ts5), e5, Wts.stay ts5 w', fun v' H' xs2 b' e' y' w'' => q _ hg v' H' xs2 (b5.trans b') e' y' w''⟩
        · rw [if_neg hc] at hg
          refine ⟨_, rfl, rfl, _, rfl, ifF (strne (sign_ne ch41 hc)) ?_⟩
          exact ⟨_, rfl, fun a2 ha => ⟨a2, .int k, rfl, upd_same, fun e he => ⟨rfl, a2, C, some e, rfl, upd_same, Z.cls, refuse hg _ b3 a2 ha e he⟩⟩⟩
end
end My
namespace My
open PySem PySem.Spec PyProof.Rows L2
theorem drop_at {α : Type} {l : List α} {i : Nat} {c : α} (h : l[i]? = some c) : l.drop i = c :: l.drop (i + 1) := by
  obtain ⟨hi, e⟩ := List.getElem?_eq_some_iff.mp h
  rw [List.drop_eq_getElem_cons hi, e]
theorem take_at {α : Type} {l : List α} {i : Nat} {c : α} (h : l[i]? = some c) : l.take (i + 1) = l.take i ++ [c] := by
  rw [List.take_add_one, h]
  rfl
theorem str_ext {x y : Str} (h : x.cps.toList = y.cps.toList) : x = y := by
  obtain ⟨a⟩ := x
  obtain ⟨b⟩ := y
  exact congrArg Str.mk (Array.toList_inj.mp h)
section
variable {P : Program} {w : World} {K : PySem.W.Frag} {mg : Str → Option Value} {base : Heap}
/-! ### read -/
theorem scR : FnScope ["text", "waiting", "whole", "place", "sign"] ["text"] (defScope sRd) := ⟨rfl, rfl, rfl, by decide +kernel, rfl, by decide +kernel, by decide +kernel⟩
set_option maxHeartbeats 4000000 in
theorem ok_rd7 {f fB fG fI C : Addr} {fd fdB fdG fdI : FuncData} (F : Fun K "read" "read" sRd f fd) (T : Txt K w.params mg) (T6 : Txt6 K w.params mg)
    (GB : FnOk P w K mg base (CX1 P w) 3 fB fdB ["sign", "place", "waiting"] (spBg7 K C)) (kB : PySem.W.keepIn K (.ref fB) = true) (bB : Binds K fdB ["sign", "place", "waiting"] []) (mB : mg "begun" = some (.ref fB))
    (GG : FnOk P w K mg base (CX1 P w) 3 fG fdG ["whole", "sign", "place", "waiting"] (spGo7 K C)) (kG : PySem.W.keepIn K (.ref fG) = true) (bG : Binds K fdG ["whole", "sign", "place", "waiting"] []) (mG : mg "gone_on" = some (.ref fG))
    (GI : FnOk P w K mg base CX0 1 fI fdI ["self", "place"] (spInit C "place")) (bI : Binds K fdI ["self", "place"] []) (Z : Fld K C fI "place") (mC : mg "NoSaying" = some (.ref C)) :
    FnOk P w K mg base (CX1 P w) 4 f fd ["text"] (spRd7 K C) := by
  refine fun_okX F scR (fun vs H Q E h => ?_) (fun cdv A outer s H vs Q E hr h => ?_)
  · obtain ⟨x, rfl, _⟩ := h
    rfl
  · obtain ⟨x, rfl, hz, q, qe⟩ := h
    have hr2 : Room 2 _ := hr.mono (by decide)
    refine ⟨_, pss_cons (ps_set (i := 1) scR.nd rfl (Or.inl rfl) (pe_lst pa_nil))
      (pss_cons (ps_set (i := 2) scR.nd rfl (Or.inl rfl) pe_non)
      (pss_cons (ps_for (fly_loop ⟨rfl, rfl⟩) rfl (pi_enum rfl T6.enu (pa_cons (pv 0) pa_nil)) (pg_tup rfl (pgs_cons (pg_name (i := 3) scR.nd rfl (Or.inl rfl)) (pgs_cons (pg_name (i := 4) scR.nd rfl (Or.inl rfl)) pgs_nil)))
        (pss_one (ps_if (pt_cmpR op_isN (pv 2) pe_non (nomark _))
          (pss_one (ps_set (i := 2) scR.nd rfl (Or.inl rfl) (pe_callX (W := fun _ => E) GB hr rfl mB kB bB (pa_cons (pv 4) (pa_cons (pv 3) (pa_cons (pv 1) pa_nil))))))
          (pss_one (ps_set (i := 2) scR.nd rfl (Or.inl rfl) (pe_callX (W := fun _ => E) GG hr rfl mG kG bG (pa_cons (pv 2) (pa_cons (pv 4) (pa_cons (pv 3) (pa_cons (pv 1) pa_nil))))))))))
      (pss_cons (ps_if (PW.pt (pw_or (pt_cmpR op_isN (pv 2) pe_non (nomark _)) (pw_or1 (pt_truth (pv 1) (fun _ => rfl)))))
        (pss_one (ps_raise (W := fun _ => E) rfl (pe_xmake Z.cls Z.init Z.fn GI hr2 rfl mC Z.kp bI (by decide) (pa_cons (pe_callB call_len_str (by rfl) T.len PySem.boot_len (pa_cons (pv 0) pa_nil)) pa_nil)))) pss_nil)
      (pss_one (ps_ret (pv 2)))))), ?_⟩
    refine ⟨small (Nat.le_of_ble_eq_true rfl), fun l hl => ?_⟩
    have sz : x.cps.size = x.length := rfl
    refine ⟨_, rfl, x, rfl, for_enum (fun i σ H2 => ∃ (v2 : V) (v3 v4 : Option V) (st : RdSt) (xs : List V), σ = [some (.str x), some (.ref l), some v2, v3, v4] ∧ Same H H2 ∧ H2 l = some (.lst xs) ∧ WhR K H2 v2 st.1 ∧ Wts K H2 xs st.2 ∧
      bad (x.cps.toList.drop i) i st = bad x.cps.toList 0 (none, []) ∧ WfS st ∧ Cl st ∧ outS st = x.cps.toList.take i ∧ xs.length ≤ i) ?_ ?_ ?_⟩
    · exact ⟨.non, none, none, (none, []), [], rfl, same_new hl, upd_same, rfl, Paired.nil, rfl, trivial, trivial, rfl, Nat.le_refl _⟩
    · rintro i c t σ H2 hc ht ⟨v2, v3, v4, st, xs, rfl, s2, e2, wh, ws, hrun, wf, cl, ho, hx⟩
      have hi : i < x.cps.size := (Array.getElem?_eq_some_iff.mp hc).1
      have hcl : x.cps.toList[i]? = some c := by rw [Array.getElem?_toList]; exact hc
      rw [drop_at hcl] at hrun
      have hl2 := Wts.len ws
      have ts := TuS.new (o := .tup [.int (i : Int), .str ⟨#[c]⟩]) ht
      have e3 : upd H2 t (.tup [.int (i : Int), .str ⟨#[c]⟩]) l = some (.lst xs) := by rw [upd_ne (ne_of_none e2 ht)]; exact e2
      have s3 : Same H (upd H2 t (.tup [.int (i : Int), .str ⟨#[c]⟩])) := s2.trans (same_new ht)
      -- the next state, or the refusal
      have nxt : ∀ st', step c st = some st' → ∀ (v' : V) (H' : Hp) (xs' : List V), ButL l (upd H2 t (.tup [.int (i : Int), .str ⟨#[c]⟩])) H' → H' l = some (.lst xs') → WhR K H' v' st'.1 → Wts K H' xs' st'.2 →
          Same H H' ∧ bad (x.cps.toList.drop (i + 1)) (i + 1) st' = bad x.cps.toList 0 (none, []) ∧ WfS st' ∧ Cl st' ∧ outS st' = x.cps.toList.take (i + 1) ∧ xs'.length ≤ i + 1 := fun st' hst v' H' xs' b' e' y' w' => by
        obtain ⟨o1, g1⟩ := step_out hst wf
        have hlen := step_len hst
        have hl3 := Wts.len w'
        refine ⟨ButL.same s3 hl b', ?_, g1, step_cl hst, ?_, by omega⟩
        · rw [← hrun]
          show _ = (match step c st with | none => some i | some st' => bad (x.cps.toList.drop (i + 1)) (i + 1) st')
          rw [hst]
        · rw [o1, ho, take_at hcl]
      have ref : step c st = none → Ref C (i : Int) l (upd H2 t (.tup [.int (i : Int), .str ⟨#[c]⟩])) E := fun hst a dx H' b' ex => by
        refine qe i a dx H' ?_ (ButL.same s3 hl b') ex
        rw [← hrun]
        show (match step c st with | none => some i | some st' => bad (x.cps.toList.drop (i + 1)) (i + 1) st') = some i
        rw [hst]
      refine ⟨t, _, rfl, SqT.of upd_same, rfl, _, _, rfl, _, _, rfl, rfl, ?_⟩
      obtain ⟨o, W⟩ := st
      cases o with
      | none =>
        cases (show v2 = .non from wh)
        refine ⟨_, rfl, rfl, _, rfl, ifT rfl ?_⟩
        refine ⟨_, rfl, _, rfl, _, rfl, c, _, l, xs, W, rfl, e3, Wts.stay ts ws, by omega, fun st' hst v' H' xs' b' e' y' w' => ?_, ref⟩
        obtain ⟨n1, n2, n3, n4, n5, n6⟩ := nxt st' hst v' H' xs' b' e' y' w'
        exact ⟨v', _, _, st', xs', rfl, n1, e', y', w', n2, n3, n4, n5, n6⟩
      | some a =>
        have wy : Sy K H2 v2 a := wh
        obtain ⟨a2, ix, rfl, hsx⟩ := wy.ref
        refine ⟨_, rfl, rfl, _, rfl, ifF (fun z => by cases z) ?_⟩
        refine ⟨_, rfl, _, rfl, _, rfl, _, rfl, _, a, c, _, l, xs, W, rfl, wy.stay ts, e3, Wts.stay ts ws, by omega, cl, fun st' hst v' H' xs' b' e' y' w' => ?_, ref⟩
        obtain ⟨n1, n2, n3, n4, n5, n6⟩ := nxt st' hst v' H' xs' b' e' y' w'
        exact ⟨v', _, _, st', xs', rfl, n1, e', y', w', n2, n3, n4, n5, n6⟩
    · rintro σ H2 ⟨v2, v3, v4, st, xs, rfl, s2, e2, wh, ws, hrun, wf, cl, ho, hx⟩
      rw [List.drop_of_length_le (by rw [Array.length_toList]; exact Nat.le_refl _)] at hrun
      rw [List.take_of_length_le (by rw [Array.length_toList]; exact Nat.le_refl _)] at ho
      have refuse : bad [] x.cps.size st = some x.cps.size → ∀ a, H2 a = none → ∀ e, upd H2 a (XN a C none) e = none → E (.ref a) (some e) (upd (upd (upd (upd H2 a (XN a C none)) e (.xd [("place", .int x.length)])) a (XN a C (some e))) a (XO a C (some e))) := fun hb a ha e he => by
        obtain ⟨sm, ex⟩ := ex1_mk (nm := "place") (y := .int x.length) ha he
        exact qe x.cps.size a (some e) _ (hrun.symm.trans hb) (s2.trans sm) ex
      obtain ⟨o, W⟩ := st
      cases o with
      | none =>
        cases (show v2 = .non from wh)
        refine ⟨_, rfl, rfl, _, rfl, ifT rfl (iteT ?_)⟩
        exact ⟨_, rfl, _, rfl, small (by omega), fun a ha => ⟨a, .int x.length, rfl, upd_same, fun e he => ⟨rfl, a, C, some e, rfl, upd_same, Z.cls, refuse rfl a ha e he⟩⟩⟩
      | some a =>
        have wy : Sy K H2 v2 a := wh
        obtain ⟨a2, ix, rfl, hsx⟩ := wy.ref
        refine ⟨_, rfl, rfl, _, rfl, ifF (fun z => by cases z) ?_⟩
        cases W with
        | nil =>
          have ex := Wts.nil ws
          subst ex
          refine ⟨_, rfl, false, .inl ⟨[], SqL.of e2, rfl⟩, iteF ?_⟩
          exact ⟨_, rfl, q a _ H2 hrun.symm wf.1 (str_ext ho) s2 wy⟩
        | cons g W' =>
          obtain ⟨xs', vf, rfl, w', rf⟩ := Wts.top ws
          refine ⟨_, rfl, true, .inl ⟨_, SqL.of e2, (ne_snoc _ _).symm⟩, iteT ?_⟩
          exact ⟨_, rfl, _, rfl, small (by omega), fun a ha => ⟨a, .int x.length, rfl, upd_same, fun e he => ⟨rfl, a, C, some e, rfl, upd_same, Z.cls, refuse rfl a ha e he⟩⟩⟩
end
end My
namespace My
open PySem PySem.Spec PyProof.Rows L2
def vO : Option Nat → V
  | none => .non
  | some k => .int k
def spBp (_ : PySem.W.Frag) : Sp := fun vs H Q _ => ∃ x : Str, vs = [.str x] ∧ x.length ≤ 5000 ∧ ∀ H', Same H H' → Q (vO (badW x.cps.toList 0 ["saying"])) H'
def spSp (_ : PySem.W.Frag) : Sp := fun vs H Q _ => ∃ (x : Str) (z : Int), vs = [.str x, .int z] ∧ x.length ≤ 2000 ∧ 0 ≤ z ∧ ∀ (y : Str) (H' : Hp), y.length ≤ x.length + 2 → Same H H' → Q (.str y) H'
theorem say_in (c : Nat) : (!(Builtin.Str.occurrences "0pqr" ⟨#[c]⟩ 0 (("0pqr" : Str)).length 1).isEmpty) = decide (c = 48 ∨ c = 112 ∨ c = 113 ∨ c = 114) := by
  have e : (("0pqr" : Str)).cps.toList = [48, 112, 113, 114] := by decide +kernel
  rw [StrLaws.found_one, e]
  by_cases h : c = 48 ∨ c = 112 ∨ c = 113 ∨ c = 114
  · rw [decide_eq_true h, decide_eq_true]
    simpa using h
  · rw [decide_eq_false h, decide_eq_false]
    simpa using h
def revS (ws : List Str) : List V := (ws.map V.str).reverse
theorem revS_cons (x : Str) (r : List Str) : revS (x :: r) = revS r ++ [.str x] := by
  unfold revS
  rw [List.map_cons, List.reverse_cons]
theorem revS_len (ws : List Str) : (revS ws).length = ws.length := by
  unfold revS
  rw [List.length_reverse, List.length_map]
theorem stepW_len {c : Nat} {w w' : List Str} (h : stepW c w = some w') : w'.length ≤ w.length + 3 := by
  cases w with
  | nil => cases h
  | cons x r =>
    by_cases hx : x = "saying"
    · subst hx
      rw [stepW_say] at h
      repeat (split at h; (cases h; simp only [List.length_cons]; omega))
      cases h
    · rw [stepW_lit c r hx] at h
      split at h
      · cases h; simp only [List.length_cons]; omega
      · cases h
theorem ifN {c A B : Prop} [Decidable c] (hc : ¬ c) (h : A) : if (!decide c) = true then A else B := by
  rw [decide_eq_false hc]
  exact iteT h
theorem ifB {b : Bool} {A B : Prop} (h1 : b = true → A) (h2 : b = false → B) : if b = true then A else B := by
  cases b with
  | true => exact iteT (h1 rfl)
  | false => exact iteF (h2 rfl)
section
variable {P : Program} {w : World} {K : PySem.W.Frag} {mg : Str → Option Value} {base : Heap}
theorem scBp : FnScope ["_law_text_here", "_law_wanted", "_law_at", "_law_want", "_law_sign"] ["_law_text_here"] (defScope sBp) := ⟨rfl, rfl, rfl, by decide +kernel, rfl, by decide +kernel, by decide +kernel⟩
set_option maxHeartbeats 8000000 in
theorem ok_bp {f : Addr} {fd : FuncData} (F : Fun K "_law_bad_place" "_law_bad_place" sBp f fd) (T : Txt K w.params mg) : FnOk P w K mg base CX0 1 f fd ["_law_text_here"] (spBp K) := by
  refine F.ok scBp (fun vs H Q E h => ?_) (fun cdv A outer s H vs Q E hr h => ?_)
  · obtain ⟨x, rfl, _⟩ := h
    rfl
  · obtain ⟨x, rfl, hz, q⟩ := h
    refine ⟨_, pss_cons (ps_set (i := 1) scBp.nd rfl (Or.inl rfl) (pe_lst (pa_cons pe_str pa_nil)))
      (pss_cons (ps_for PassesOwn.never rfl (pi_range1 rfl T.range (pa_cons (pe_callB call_len_str (by rfl) T.len PySem.boot_len (pa_cons (pv 0) pa_nil)) pa_nil)) (pg_name (i := 2) scBp.nd rfl (Or.inl rfl))
        (pss_cons (ps_if (pt_cmpR op_eq (pe_callB call_len_seq (by rfl) T.len PySem.boot_len (pa_cons (pv 1) pa_nil)) pe_int (nomark _)) (pss_one (ps_ret (pv 2))) pss_nil)
        (pss_cons (ps_set (i := 3) scBp.nd rfl (Or.inl rfl) (pe_bm0 PySem.F.plainAttrs_list PySem.F.slot_list_pop PySem.F.type_list_pop mt_pop (pv 1)))
        (pss_cons (ps_set (i := 4) scBp.nd rfl (Or.inl rfl) (pe_ix ix_str (pv 0) (pv 2) (fun _ _ => rfl)))
        (pss_one (ps_if (pt_cmpR op_ne (pv 3) pe_str (nomark _))
          (pss_one (ps_if (pt_cmpR op_notin_str (pv 4) (pv 3) rfl) (pss_one (ps_ret (pv 2))) pss_nil))
          (pss_one (ps_if (pt_cmpR op_in_str (pv 4) pe_str rfl) (pss_one ps_continue)
          (pss_one (ps_if (pt_cmpR op_eq (pv 4) pe_str (nomark _)) (pss_one (ps_expr (pe_bm PySem.F.plainAttrs_list PySem.F.slot_list_append PySem.F.type_list_append mt_append (pv 1) (pa_cons pe_str pa_nil))))
          (pss_one (ps_if (pt_cmpR op_eq (pv 4) pe_str (nomark _)) (pss_one (ps_expr (pe_bm PySem.F.plainAttrs_list PySem.F.slot_list_extend PySem.F.type_list_extend mt_extend (pv 1) (pa_cons (pe_lst (pa_cons pe_str (pa_cons pe_str pa_nil))) pa_nil))))
          (pss_one (ps_if (pt_cmpR op_eq (pv 4) pe_str (nomark _)) (pss_one (ps_expr (pe_bm PySem.F.plainAttrs_list PySem.F.slot_list_extend PySem.F.type_list_extend mt_extend (pv 1) (pa_cons (pe_lst (pa_cons pe_str (pa_cons pe_str (pa_cons pe_str (pa_cons pe_str pa_nil))))) pa_nil))))
          (pss_one (ps_ret (pv 2)))))))))))))))))
      (pss_cons (ps_if (pt_cmpR op_gt (pe_callB call_len_seq (by rfl) T.len PySem.boot_len (pa_cons (pv 1) pa_nil)) pe_int (nomark _)) (pss_one (ps_ret (pe_callB call_len_str (by rfl) T.len PySem.boot_len (pa_cons (pv 0) pa_nil)))) pss_nil)
      (pss_one (ps_ret pe_non)))), ?_⟩
    refine ⟨small (Nat.le_of_ble_eq_true rfl), fun l hl => ?_⟩
    have sz : x.cps.toList.length = x.length := by simp [Str.length]
    refine ⟨_, rfl, x, rfl, small (by omega), _, rfl, by omega, by omega, for_range (lo := 0) (n := ((x.length : Int)).toNat) (fun i σ H2 => ∃ (ws : List Str) (v2 v3 v4 : Option V), σ = [some (.str x), some (.ref l), v2, v3, v4] ∧ Same H H2 ∧ H2 l = some (.lst (revS ws)) ∧
      badW (x.cps.toList.drop i) i ws = badW x.cps.toList 0 ["saying"] ∧ ws.length ≤ 3 * i + 1) ?_ ?_ ?_⟩
    · exact ⟨["saying"], none, none, none, rfl, same_new hl, upd_same, rfl, Nat.le_refl _⟩
    · rintro i σ H2 hi ⟨ws, v2, v3, v4, rfl, s2, e2, hb, hw⟩
      have hi' : i < x.cps.toList.length := by omega
      have hc : x.cps.toList[i]? = some x.cps.toList[i] := List.getElem?_eq_getElem hi'
      generalize x.cps.toList[i] = c at hc
      rw [drop_at hc] at hb
      have ei : (0 : Int) + (i : Int) = ((i : Nat) : Int) := Int.zero_add _
      have stop : stepW c ws = none → ∀ H', Same H H' → Q (.int (0 + (i : Int))) H' := fun hs H' s' => by
        have e : vO (badW x.cps.toList 0 ["saying"]) = .int (0 + (i : Int)) := by
          rw [← hb, ei]
          show vO (match stepW c ws with | none => some i | some w' => badW (x.cps.toList.drop (i + 1)) (i + 1) w') = _
          rw [hs]
          rfl
        rw [← e]
        exact q H' s'
      have go : ∀ w', stepW c ws = some w' → badW (x.cps.toList.drop (i + 1)) (i + 1) w' = badW x.cps.toList 0 ["saying"] ∧ w'.length ≤ 3 * (i + 1) + 1 := fun w' hs => by
        refine ⟨?_, by have := stepW_len hs; omega⟩
        rw [← hb]
        show _ = (match stepW c ws with | none => some i | some w' => badW (x.cps.toList.drop (i + 1)) (i + 1) w')
        rw [hs]
      cases ws with
      | nil =>
        refine ⟨_, rfl, l, _, rfl, .inl (SqL.of e2), rfl, _, rfl, ifT rfl ?_⟩
        exact ⟨_, rfl, stop rfl H2 s2⟩
      | cons wd r =>
        have hlen := revS_len (wd :: r)
        refine ⟨_, rfl, l, _, rfl, .inl (SqL.of e2), rfl, _, rfl, ifF (fun z => by rw [hlen] at z; have := V.int.inj z; simp only [List.length_cons] at this; omega) ?_⟩
        rw [revS_cons] at e2
        refine ⟨_, rfl, .inl ⟨rfl, _, SqL.of e2⟩, l, _, _, rfl, rfl, e2, last_of _ _, ?_⟩
        rw [drop_of]
        have s3 : Same H (upd H2 l (.lst (revS r))) := same_own s2 hl
        have e3 : upd H2 l (.lst (revS r)) l = some (.lst (revS r)) := upd_same
        have hw' : r.length + 1 ≤ 3 * i + 1 := hw
        refine ⟨_, rfl, _, rfl, x, _, c, rfl, rfl, small (by omega), (by rw [ei]; exact atI_nat hc), ?_⟩
        have rl := revS_len r
        by_cases hx : wd = "saying"
        · subst hx
          refine ⟨_, rfl, rfl, _, rfl, iteNS rfl ?_⟩
          have hst := stepW_say c r
          refine ⟨_, rfl, _, _, rfl, rfl, _, rfl, ?_⟩
          rw [say_in]
          refine ite2 (fun h1 => ?_) (fun h1 => ?_)
          · rw [if_pos (of_decide_eq_true h1)] at hst
            obtain ⟨g1, g2⟩ := go _ hst
            exact ⟨r, _, _, _, rfl, s3, e3, g1, g2⟩
          · rw [if_neg (fun z => h1 (decide_eq_true z))] at hst
            by_cases h2 : c = 126
            · rw [if_pos h2] at hst
              subst h2
              obtain ⟨g1, g2⟩ := go _ hst
              refine ⟨_, rfl, rfl, _, rfl, ifT (congrArg V.str ch126) ?_⟩
              refine ⟨_, rfl, .inl ⟨rfl, _, SqL.of e3⟩, l, _, _, rfl, rfl, e3, small' (by omega), ?_⟩
              exact ⟨"saying" :: r, _, _, _, rfl, same_own s3 hl, by rw [revS_cons]; exact upd_same, g1, g2⟩
            · rw [if_neg h2] at hst
              refine ⟨_, rfl, rfl, _, rfl, ifF (strne (sign_ne ch126 h2)) ?_⟩
              by_cases h3 : c = 91
              · rw [if_pos h3] at hst
                subst h3
                obtain ⟨g1, g2⟩ := go _ hst
                refine ⟨_, rfl, rfl, _, rfl, ifT (congrArg V.str ch91) ?_⟩
                refine ⟨_, rfl, .inl ⟨rfl, _, SqL.of e3⟩, small (Nat.le_of_ble_eq_true rfl), fun m hm => ?_⟩
                have e4 : upd (upd H2 l (.lst (revS r))) m (.lst [.str "]", .str "saying"]) l = some (.lst (revS r)) := by rw [upd_ne (ne_of_none e3 hm)]; exact e3
                refine ⟨l, m, _, _, rfl, rfl, e4, upd_same, small (by simp only [List.length_cons, List.length_nil]; omega), ?_⟩
                refine ⟨"saying" :: "]" :: r, _, _, _, rfl, same_own (s3.trans (same_new hm)) hl, ?_, g1, g2⟩
                rw [revS_cons, revS_cons, upd_same, List.append_assoc]
                rfl
              · rw [if_neg h3] at hst
                refine ⟨_, rfl, rfl, _, rfl, ifF (strne (sign_ne ch91 h3)) ?_⟩
                by_cases h4 : c = 40
                · rw [if_pos h4] at hst
                  subst h4
                  obtain ⟨g1, g2⟩ := go _ hst
                  refine ⟨_, rfl, rfl, _, rfl, ifT (congrArg V.str ch40) ?_⟩
                  refine ⟨_, rfl, .inl ⟨rfl, _, SqL.of e3⟩, small (Nat.le_of_ble_eq_true rfl), fun m hm => ?_⟩
                  have e4 : upd (upd H2 l (.lst (revS r))) m (.lst [.str ")", .str "saying", .str "&|>", .str "saying"]) l = some (.lst (revS r)) := by rw [upd_ne (ne_of_none e3 hm)]; exact e3
                  refine ⟨l, m, _, _, rfl, rfl, e4, upd_same, small (by simp only [List.length_cons, List.length_nil]; omega), ?_⟩
                  refine ⟨"saying" :: "&|>" :: "saying" :: ")" :: r, _, _, _, rfl, same_own (s3.trans (same_new hm)) hl, ?_, g1, g2⟩
                  rw [revS_cons, revS_cons, revS_cons, revS_cons, upd_same, List.append_assoc, List.append_assoc, List.append_assoc]
                  rfl
                · rw [if_neg h4] at hst
                  refine ⟨_, rfl, rfl, _, rfl, ifF (strne (sign_ne ch40 h4)) ?_⟩
                  exact ⟨_, rfl, stop hst _ s3⟩
        · refine ⟨_, rfl, rfl, _, rfl, ifN (strne hx) ?_⟩
          have hst := stepW_lit c r hx
          refine ⟨_, rfl, _, rfl, _, _, rfl, rfl, _, rfl, ?_⟩
          rw [StrLaws.found_one]
          by_cases hm : c ∈ wd.cps.toList
          · rw [if_pos hm] at hst
            obtain ⟨g1, g2⟩ := go _ hst
            rw [decide_eq_true hm]
            exact iteF ⟨r, _, _, _, rfl, s3, e3, g1, g2⟩
          · rw [if_neg hm] at hst
            rw [decide_eq_false hm]
            exact iteT ⟨_, rfl, stop hst _ s3⟩
    · rintro σ H2 ⟨ws, v2, v3, v4, rfl, s2, e2, hb, hw⟩
      rw [List.drop_of_length_le (by omega)] at hb
      have hlen := revS_len ws
      refine ⟨_, rfl, l, _, rfl, .inl (SqL.of e2), _, _, rfl, rfl, _, rfl, ?_⟩
      rw [hlen]
      cases ws with
      | nil =>
        refine ifF (by decide) ?_
        have e : vO (badW x.cps.toList 0 ["saying"]) = .non := by rw [← hb]; rfl
        have z := q H2 s2
        rw [e] at z
        exact z
      | cons wd r =>
        refine ifT (by simp only [List.length_cons]; omega) ?_
        have e : vO (badW x.cps.toList 0 ["saying"]) = .int x.length := by
          rw [← hb]
          show V.int (((x.length : Int)).toNat : Int) = _
          rw [Int.toNat_natCast]
        have z := q H2 s2
        rw [e] at z
        exact ⟨_, rfl, x, rfl, small (by omega), z⟩
end
end My
namespace My
open PySem PySem.Spec PyProof.Rows L2
section
variable {P : Program} {w : World} {K : PySem.W.Frag} {mg : Str → Option Value} {base : Heap}
theorem scSp : FnScope ["_law_text_here", "_law_cell", "_law_at", "_law_sign"] ["_law_text_here", "_law_cell"] (defScope sSp) := ⟨rfl, rfl, rfl, by decide +kernel, rfl, by decide +kernel, by decide +kernel⟩
theorem q5 : (0 : Int) < 5 := by decide
theorem q6 : (0 : Int) < 6 := by decide
theorem q26 : (0 : Int) < 26 := by decide
theorem signs26 : (("0pqr~[](&|>) xsPa=-+.,{}<1" : Str)).cps.toList.length = 26 := by decide +kernel
theorem signs_len : (("0pqr~[](&|>) xsPa=-+.,{}<1" : Str)).length = 26 := by decide +kernel
theorem six {i : Int} (h0 : 0 ≤ i) (h1 : i < 6) : ∃ y : Str, atI [V.str "p", V.str "]", V.str ")", V.str "&q", V.str "~", V.str " "] i = some (V.str y) ∧ y.length ≤ 2 := by
  have e : i = 0 ∨ i = 1 ∨ i = 2 ∨ i = 3 ∨ i = 4 ∨ i = 5 := by omega
  rcases e with rfl | rfl | rfl | rfl | rfl | rfl
  · exact ⟨"p", at0, by decide +kernel⟩
  · exact ⟨"]", at1, by decide +kernel⟩
  · exact ⟨")", at2, by decide +kernel⟩
  · exact ⟨"&q", at3, by decide +kernel⟩
  · exact ⟨"~", atI_nat (j := 4) rfl, by decide +kernel⟩
  · exact ⟨" ", atI_nat (j := 5) rfl, by decide +kernel⟩
set_option maxHeartbeats 8000000 in
theorem ok_sp {f : Addr} {fd : FuncData} (F : Fun K "_law_spoilt" "_law_spoilt" sSp f fd) (T : Txt K w.params mg) : FnOk P w K mg base CX0 1 f fd ["_law_text_here", "_law_cell"] (spSp K) := by
  refine F.ok scSp (fun vs H Q E h => ?_) (fun cdv A outer s H vs Q E hr h => ?_)
  · obtain ⟨x, z, rfl, _⟩ := h
    rfl
  · obtain ⟨x, z, rfl, hz, z0, q⟩ := h
    refine ⟨_, pss_cons (ps_set (i := 2) scSp.nd rfl (Or.inl rfl) (pe_op op_modN (pe_op op_fdiv (pv 1) pe_int) (pe_op op_add (pe_callB call_len_str (by rfl) T.len PySem.boot_len (pa_cons (pv 0) pa_nil)) pe_int)))
      (pss_cons (ps_set (i := 3) scSp.nd rfl (Or.inl rfl) (pe_ix ix_str pe_str (pe_op op_mod (pe_op op_fdiv (pv 1) pe_int) pe_int) (fun _ _ => rfl)))
      (pss_cons (ps_if (pt_cmpR op_eq (pe_op op_mod (pv 1) pe_int) pe_int (nomark _)) (pss_one (ps_ret (pe_op op_add_str (pe_slice sl_str (pv 0) po_none (po_some (pv 2))) (pe_slice sl_str (pv 0) (po_some (pe_op op_add (pv 2) pe_int)) po_none)))) pss_nil)
      (pss_cons (ps_if (pt_cmpR op_eq (pe_op op_mod (pv 1) pe_int) pe_int (nomark _)) (pss_one (ps_ret (pe_op op_add_str (pe_op op_add_str (pe_slice sl_str (pv 0) po_none (po_some (pv 2))) (pv 3)) (pe_slice sl_str (pv 0) (po_some (pv 2)) po_none)))) pss_nil)
      (pss_cons (ps_if (pt_cmpR op_eq (pe_op op_mod (pv 1) pe_int) pe_int (nomark _)) (pss_one (ps_ret (pe_op op_add_str (pe_op op_add_str (pe_slice sl_str (pv 0) po_none (po_some (pv 2))) (pv 3)) (pe_slice sl_str (pv 0) (po_some (pe_op op_add (pv 2) pe_int)) po_none)))) pss_nil)
      (pss_cons (ps_if (pt_cmpR op_eq (pe_op op_mod (pv 1) pe_int) pe_int (nomark _)) (pss_one (ps_ret (pe_slice sl_str (pv 0) po_none (po_some (pv 2))))) pss_nil)
      (pss_one (ps_ret (pe_op op_add_str (pv 0) (pe_ix ix_list (pe_lst (pa_cons pe_str (pa_cons pe_str (pa_cons pe_str (pa_cons pe_str (pa_cons pe_str (pa_cons pe_str pa_nil)))))))  (pe_op op_mod (pe_op op_fdiv (pv 1) pe_int) pe_int) (fun _ _ => rfl)))))))))), ?_⟩
    refine ⟨_, rfl, _, _, rfl, rfl, ⟨by decide, by decide⟩, _, rfl, x, rfl, small (by omega), _, _, rfl, rfl, _, _, rfl, rfl, (by omega : (x.length : Int) + 1 ≠ 0), ?_⟩
    have k0 : 0 ≤ (z / 5).fmod ((x.length : Int) + 1) := Int.fmod_nonneg_of_pos _ (by omega)
    have k1 : (z / 5).fmod ((x.length : Int) + 1) < (x.length : Int) + 1 := Int.fmod_lt_of_pos _ (by omega)
    have m0 : 0 ≤ z / 1009 % 26 := Int.emod_nonneg _ (by decide)
    have m1 : z / 1009 % 26 < 26 := Int.emod_lt_of_pos _ (by decide)
    obtain ⟨c, hc, _⟩ := atI_lt (xs := (("0pqr~[](&|>) xsPa=-+.,{}<1" : Str)).cps.toList) m0 (by rw [signs26]; exact m1)
    refine ⟨_, rfl, _, _, rfl, rfl, ⟨by decide, by decide⟩, _, _, rfl, rfl, q26, _, _, c, rfl, rfl, small (by rw [signs_len]; decide), hc, ?_⟩
    have one : ((⟨#[c]⟩ : Str)).length = 1 := rfl
    have a1 := slice_to x k0
    have a2 := slice_from x k0
    have a3 := slice_from x (i := (z / 5).fmod ((x.length : Int) + 1) + 1) (by omega)
    have b1 := slice_le' x none (some ((z / 5).fmod ((x.length : Int) + 1)))
    have b2 := slice_le' x (some ((z / 5).fmod ((x.length : Int) + 1))) none
    have b3 := slice_le' x (some ((z / 5).fmod ((x.length : Int) + 1) + 1)) none
    have hx : x.length ≤ sizeLine := small (by omega)
    refine ⟨_, rfl, _, _, rfl, rfl, q5, rfl, _, rfl, ite2 (fun _ => ?_) (fun _ => ?_)⟩
    · refine ⟨_, rfl, _, rfl, _, rfl, x, rfl, hx, _, rfl, _, rfl, _, _, rfl, rfl, _, rfl, x, rfl, hx, _, _, rfl, rfl, small (by omega), ?_⟩
      exact q _ H (by rw [Str.length_append]; omega) (Same.refl H)
    · refine ⟨_, rfl, _, _, rfl, rfl, q5, rfl, _, rfl, ite2 (fun _ => ?_) (fun _ => ?_)⟩
      · refine ⟨_, rfl, _, rfl, _, rfl, x, rfl, hx, _, rfl, _, _, rfl, rfl, small (by rw [one]; omega), _, rfl, _, rfl, _, rfl, x, rfl, hx, _, _, rfl, rfl, small (by rw [Str.length_append, one]; omega), ?_⟩
        exact q _ H (by rw [Str.length_append, Str.length_append, one]; omega) (Same.refl H)
      · refine ⟨_, rfl, _, _, rfl, rfl, q5, rfl, _, rfl, ite2 (fun _ => ?_) (fun _ => ?_)⟩
        · refine ⟨_, rfl, _, rfl, _, rfl, x, rfl, hx, _, rfl, _, _, rfl, rfl, small (by rw [one]; omega), _, rfl, _, rfl, _, _, rfl, rfl, _, rfl, x, rfl, hx, _, _, rfl, rfl, small (by rw [Str.length_append, one]; omega), ?_⟩
          exact q _ H (by rw [Str.length_append, Str.length_append, one]; omega) (Same.refl H)
        · refine ⟨_, rfl, _, _, rfl, rfl, q5, rfl, _, rfl, ite2 (fun _ => ?_) (fun _ => ?_)⟩
          · refine ⟨_, rfl, _, rfl, _, rfl, x, rfl, hx, ?_⟩
            exact q _ H (by omega) (Same.refl H)
          · have n0 : 0 ≤ z / 1009 % 6 := Int.emod_nonneg _ (by decide)
            have n1 : z / 1009 % 6 < 6 := Int.emod_lt_of_pos _ (by decide)
            obtain ⟨y, hy, hl⟩ := six n0 n1
            refine ⟨_, rfl, small (Nat.le_of_ble_eq_true rfl), fun m hm => ⟨_, rfl, _, _, rfl, rfl, ⟨by decide, by decide⟩, _, _, rfl, rfl, q6, m, _, _, _, rfl, rfl, SqL.of upd_same, hy, _, _, rfl, rfl, small (by omega), ?_⟩⟩
            exact q _ _ (by rw [Str.length_append]; omega) (same_new hm)
end
end My
namespace My
open PySem PySem.Spec PyProof.Rows L2
/-- the classes of refusals, in the order in which the law tells them -/
structure TxtC (K : PySem.W.Frag) (mg : Str → Option Value) (S : Addr) (cl : Nat → Addr) : Prop where
  s : mg "SayError" = some (.ref S)
  zs : Ex.XCls K S
  c : ∀ i, i < 8 → Ex.XCls K (cl i)
  kit : ∀ i j, i < 8 → j < 8 → PySem.W.kitOne K (.ref (cl i)) (.ref (cl j)) = some (decide (j = i))
  kS : ∀ i, i < 8 → PySem.W.kitOne K (.ref (cl i)) (.ref S) = some true
  kV : ∀ i, i < 8 → PySem.W.kitOne K (.ref (cl i)) (.type "ValueError") = some true
  mr : ∀ i, i < 8 → PySem.W.mroIn K (cl i) (.ref S) = some true
  m0 : mg "NoSaying" = some (.ref (cl 0))
  m1 : mg "TooMany" = some (.ref (cl 1))
  m2 : mg "NoRule" = some (.ref (cl 2))
  m3 : mg "Outside" = some (.ref (cl 3))
  m4 : mg "NoLine" = some (.ref (cl 4))
  m5 : mg "Nothing" = some (.ref (cl 5))
  m6 : mg "NoTree" = some (.ref (cl 6))
  m7 : mg "HasLetter" = some (.ref (cl 7))
/-- an exception as it may be asked -/
def Xc (H : Hp) (a C : Addr) : Prop := ∃ dx, IsX H a C dx ∧ ∀ d, dx = some d → ∃ fs, H d = some (.xd fs)
theorem Xc.stay {H H' : Hp} {a C : Addr} (s : Same H H') (h : Xc H a C) : Xc H' a C := by
  obtain ⟨dx, h1, h2⟩ := h
  refine ⟨dx, h1.elim (fun z => .inl (s _ _ z)) (fun z => .inr (s _ _ z)), fun d e => ?_⟩
  obtain ⟨fs, z⟩ := h2 d e
  exact ⟨fs, s _ _ z⟩
def told (i : Nat) : List V := (List.range 8).map fun j => V.bl (decide (j = i))
def spTd (cl : Nat → Addr) : Sp := fun vs H Q _ => ∃ (a : Addr) (i : Nat), vs = [.ref a] ∧ i < 8 ∧ Xc H a (cl i) ∧ ∀ (t l : Addr) (H' : Hp), Same H H' → H' t = some (.tup [.ref l, .bl true]) → H' l = some (.lst (told i)) → Q (.ref t) H'
def spKd (cl : Nat → Addr) : Sp := fun vs H Q _ => ∃ (a : Addr), vs = [.ref a] ∧ Xc H a (cl 0) ∧ ∀ H', Same H H' → Q (.bl true) H'
theorem dvrs_bl {K : PySem.W.Frag} {H : Hp} : ∀ bs : List Bool, DvRs K H (bs.map fun b => .f (.bl b)) (bs.map V.bl)
  | [] => trivial
  | _ :: bs => ⟨⟨rfl, rfl⟩, dvrs_bl bs⟩
theorem dqs_bl : ∀ bs cs : List Bool, dqs (bs.map fun b => .f (.bl b)) (cs.map fun b => .f (.bl b)) = decide (bs = cs)
  | [], [] => rfl
  | [], _ :: _ => rfl
  | _ :: _, [] => rfl
  | b :: bs, c :: cs => by
    show ((b == c) && dqs (bs.map fun b => .f (.bl b)) (cs.map fun b => .f (.bl b))) = decide (b :: bs = c :: cs)
    rw [dqs_bl bs cs]
    by_cases h1 : b = c
    · subst h1
      by_cases h2 : bs = cs
      · subst h2; simp
      · rw [decide_eq_false h2, decide_eq_false (fun z => h2 (List.cons.inj z).2)]; simp
    · rw [beq_eq_false_iff_ne.mpr h1, decide_eq_false (fun z => h1 (List.cons.inj z).1)]; rfl
def toldB (i : Nat) : List Bool := (List.range 8).map fun j => decide (j = i)
theorem told_eq (i : Nat) : told i = (toldB i).map V.bl := by
  unfold told toldB
  rw [List.map_map]
  rfl
theorem dps_bl : ∀ bs : List Bool, dps (bs.map fun b => .f (.bl b)) = 0
  | [] => rfl
  | b :: bs => by
    show max 0 (dps (bs.map fun b => .f (.bl b))) = 0
    rw [dps_bl bs]
    rfl
/-- a pair of a list of truths and True -/
theorem dv_told {K : PySem.W.Frag} {H : Hp} {t l : Addr} {bs : List Bool} (h1 : H t = some (.tup [.ref l, .bl true])) (h2 : H l = some (.lst (bs.map V.bl))) : DvR K H (.t [.l (bs.map fun b => .f (.bl b)), .f (.bl true)]) (.ref t) :=
  ⟨t, _, rfl, SqT.of h1, ⟨l, _, rfl, SqL.of h2, dvrs_bl bs⟩, ⟨rfl, rfl⟩, trivial⟩
theorem dq_told (bs cs : List Bool) : dq (.t [.l (bs.map fun b => .f (.bl b)), .f (.bl true)]) (.t [.l (cs.map fun b => .f (.bl b)), .f (.bl true)]) = decide (bs = cs) := by
  show (dqs (bs.map fun b => .f (.bl b)) (cs.map fun b => .f (.bl b)) && (true && true)) = _
  rw [dqs_bl, Bool.and_true, Bool.and_true]
theorem dp_told (bs : List Bool) : (Dv.t [.l (bs.map fun b => .f (.bl b)), .f (.bl true)]).dp = 2 := by
  show 1 + max (1 + dps (bs.map fun b => .f (.bl b))) (max 0 0) = 2
  rw [dps_bl]
  rfl
theorem boot_VE : bootBuiltins "ValueError" = some (.type "ValueError") := by decide +kernel
section
variable {P : Program} {w : World} {K : PySem.W.Frag} {mg : Str → Option Value} {base : Heap} {S : Addr} {cl : Nat → Addr}
theorem scTd : FnScope ["_law_e", "_law_told_here"] ["_law_e"] (defScope sTd) := ⟨rfl, rfl, rfl, by decide +kernel, rfl, by decide +kernel, by decide +kernel⟩
set_option maxHeartbeats 8000000 in
theorem ok_td {f : Addr} {fd : FuncData} (F : Fun K "_law_told" "_law_told" sTd f fd) (T : Txt K w.params mg) (C : TxtC K mg S cl) : FnOk P w K mg base CX0 1 f fd ["_law_e"] (spTd cl) := by
  refine F.ok scTd (fun vs H Q E h => ?_) (fun cdv A outer s H vs Q E hr h => ?_)
  · obtain ⟨a, i, rfl, _⟩ := h
    rfl
  · obtain ⟨a, i, rfl, hi, hx, q⟩ := h
    refine ⟨_, pss_cons (ps_set (i := 1) scTd.nd rfl (Or.inl rfl) (pe_lst
        (pa_cons (pe_callB call_isX (by rfl) T.isi PyProof.Rows.boot_isinstance (pa_cons (pv 0) (pa_cons (pe_glob rfl C.m0 (v := .ref (cl 0)) rfl) pa_nil)))
        (pa_cons (pe_callB call_isX (by rfl) T.isi PyProof.Rows.boot_isinstance (pa_cons (pv 0) (pa_cons (pe_glob rfl C.m1 (v := .ref (cl 1)) rfl) pa_nil)))
        (pa_cons (pe_callB call_isX (by rfl) T.isi PyProof.Rows.boot_isinstance (pa_cons (pv 0) (pa_cons (pe_glob rfl C.m2 (v := .ref (cl 2)) rfl) pa_nil)))
        (pa_cons (pe_callB call_isX (by rfl) T.isi PyProof.Rows.boot_isinstance (pa_cons (pv 0) (pa_cons (pe_glob rfl C.m3 (v := .ref (cl 3)) rfl) pa_nil))) pa_nil))))))
      (pss_cons (ps_set (i := 1) scTd.nd rfl (Or.inl rfl) (pe_op op_cat (pv 1) (pe_lst
        (pa_cons (pe_callB call_isX (by rfl) T.isi PyProof.Rows.boot_isinstance (pa_cons (pv 0) (pa_cons (pe_glob rfl C.m4 (v := .ref (cl 4)) rfl) pa_nil)))
        (pa_cons (pe_callB call_isX (by rfl) T.isi PyProof.Rows.boot_isinstance (pa_cons (pv 0) (pa_cons (pe_glob rfl C.m5 (v := .ref (cl 5)) rfl) pa_nil)))
        (pa_cons (pe_callB call_isX (by rfl) T.isi PyProof.Rows.boot_isinstance (pa_cons (pv 0) (pa_cons (pe_glob rfl C.m6 (v := .ref (cl 6)) rfl) pa_nil)))
        (pa_cons (pe_callB call_isX (by rfl) T.isi PyProof.Rows.boot_isinstance (pa_cons (pv 0) (pa_cons (pe_glob rfl C.m7 (v := .ref (cl 7)) rfl) pa_nil))) pa_nil)))))))
      (pss_one (ps_ret (pe_tup (pa_cons (pv 1) (pa_cons (pe_and (pe_callB call_isX (by rfl) T.isi PyProof.Rows.boot_isinstance (pa_cons (pv 0) (pa_cons (pe_glob rfl C.s (v := .ref S) rfl) pa_nil)))
        (pe_one (pe_callB call_isX (by rfl) T.isi PyProof.Rows.boot_isinstance (pa_cons (pv 0) (pa_cons (pe_bltn (by rfl) T.val boot_VE (v := .ty "ValueError") rfl) pa_nil))))) pa_nil)))))), ?_⟩
    have Z := C.c i hi
    obtain ⟨dx, x1, x2⟩ := id hx
    refine ⟨_, rfl, a, cl i, dx, _, _, _, rfl, .inl ⟨_, rfl, rfl⟩, x1, x2, Z, C.kit i 0 hi (by decide), _, rfl, a, cl i, dx, _, _, _, rfl, .inl ⟨_, rfl, rfl⟩, x1, x2, Z, C.kit i 1 hi (by decide), _, rfl, a, cl i, dx, _, _, _, rfl, .inl ⟨_, rfl, rfl⟩, x1, x2, Z, C.kit i 2 hi (by decide),
      _, rfl, a, cl i, dx, _, _, _, rfl, .inl ⟨_, rfl, rfl⟩, x1, x2, Z, C.kit i 3 hi (by decide), small (Nat.le_of_ble_eq_true rfl), fun l1 h1 => ?_⟩
    have s1 := same_new (o := .lst [.bl (decide (0 = i)), .bl (decide (1 = i)), .bl (decide (2 = i)), .bl (decide (3 = i))]) h1
    obtain ⟨dx', y1, y2⟩ := hx.stay s1
    refine ⟨_, rfl, _, rfl, a, cl i, dx', _, _, _, rfl, .inl ⟨_, rfl, rfl⟩, y1, y2, Z, C.kit i 4 hi (by decide), _, rfl, a, cl i, dx', _, _, _, rfl, .inl ⟨_, rfl, rfl⟩, y1, y2, Z, C.kit i 5 hi (by decide), _, rfl, a, cl i, dx', _, _, _, rfl, .inl ⟨_, rfl, rfl⟩, y1, y2, Z, C.kit i 6 hi (by decide),
      _, rfl, a, cl i, dx', _, _, _, rfl, .inl ⟨_, rfl, rfl⟩, y1, y2, Z, C.kit i 7 hi (by decide), small (Nat.le_of_ble_eq_true rfl), fun l2 h2 => ?_⟩
    refine ⟨l1, l2, _, _, rfl, rfl, (by rw [upd_ne (ne_of_none upd_same h2)]; exact upd_same), upd_same, small (Nat.le_of_ble_eq_true rfl), fun l3 h3 => ?_⟩
    have s2 := s1.trans (same_new (o := .lst [.bl (decide (4 = i)), .bl (decide (5 = i)), .bl (decide (6 = i)), .bl (decide (7 = i))]) h2)
    have s3 := s2.trans (same_new (o := .lst ([.bl (decide (0 = i)), .bl (decide (1 = i)), .bl (decide (2 = i)), .bl (decide (3 = i))] ++ [.bl (decide (4 = i)), .bl (decide (5 = i)), .bl (decide (6 = i)), .bl (decide (7 = i))])) h3)
    obtain ⟨dx3, z1, z2⟩ := hx.stay s3
    refine ⟨_, rfl, _, rfl, a, cl i, dx3, _, _, _, rfl, .inl ⟨_, rfl, rfl⟩, z1, z2, Z, C.kS i hi, true, rfl, iteT ?_⟩
    refine ⟨_, rfl, a, cl i, dx3, _, _, _, rfl, .inr ⟨_, rfl, rfl⟩, z1, z2, Z, C.kV i hi, small (Nat.le_of_ble_eq_true rfl), fun t ht => ?_⟩
    exact q t l3 _ (s3.trans (same_new ht)) upd_same (by rw [upd_ne (ne_of_none upd_same ht)]; exact upd_same)
theorem scKd : FnScope ["_law_e"] ["_law_e"] (defScope sKd) := ⟨rfl, rfl, rfl, by decide +kernel, rfl, by decide +kernel, by decide +kernel⟩
set_option maxHeartbeats 8000000 in
theorem ok_kd {f fT : Addr} {fd fdT : FuncData} (F : Fun K "_law_kinds" "_law_kinds" sKd f fd) (GT : FnOk P w K mg base CX0 1 fT fdT ["_law_e"] (spTd cl)) (kT : PySem.W.keepIn K (.ref fT) = true) (bT : Binds K fdT ["_law_e"] []) (mT : mg "_law_told" = some (.ref fT)) :
    FnOk P w K mg base CX0 2 f fd ["_law_e"] (spKd cl) := by
  refine F.ok scKd (fun vs H Q E h => ?_) (fun cdv A outer s H vs Q E hr h => ?_)
  · obtain ⟨a, rfl, _⟩ := h
    rfl
  · obtain ⟨a, rfl, hx, q⟩ := h
    have hu : A.units + 3 + 2 * 2 + 4 < cLine := by have := hr.un; have e : (A.deeper (envOfC "_law_kinds" (defScope sKd) s.heap.objs.size f cdv)).units = A.units + 3 := rfl; omega
    refine ⟨_, pss_one (ps_ret (pe_cmpR (op_eqD (n := 2) hu) (pe_call GT hr rfl mT kT bT .nil pass0 (pa_cons (pv 0) pa_nil))
      (pe_tup (pa_cons (pe_lst (pa_cons pe_bl (pa_cons pe_bl (pa_cons pe_bl (pa_cons pe_bl (pa_cons pe_bl (pa_cons pe_bl (pa_cons pe_bl (pa_cons pe_bl pa_nil))))))))) (pa_cons pe_bl pa_nil))) (nomark _))), ?_⟩
    refine ⟨_, rfl, a, 0, rfl, by decide, hx, fun t l H' s' et el => ?_⟩
    refine ⟨small (Nat.le_of_ble_eq_true rfl), fun l2 h2 => ⟨small (Nat.le_of_ble_eq_true rfl), fun t2 ht2 => ?_⟩⟩
    have s2 := same_new (o := .lst [.bl true, .bl false, .bl false, .bl false, .bl false, .bl false, .bl false, .bl false]) h2
    have s3 := s2.trans (same_new (o := .tup [.ref l2, .bl true]) ht2)
    refine ⟨_, _, dv_told (bs := toldB 0) (s3 _ _ et) (by rw [← told_eq]; exact s3 _ _ el), dv_told (bs := [true, false, false, false, false, false, false, false]) upd_same (by rw [upd_ne (ne_of_none upd_same ht2)]; exact upd_same), by rw [dp_told]; exact Nat.le_refl _, .inl ⟨_, _, rfl, rfl⟩, ?_⟩
    rw [dq_told]
    exact q _ (s'.trans s3)
end
end My
namespace My
open PySem PySem.Spec PyProof.Rows L2
theorem xn_mk {H : Hp} {a d C : Addr} {nm : Str} {y : V} (ha : H a = none) (hd : upd H a (XN a C none) d = none) :
    Same H (upd (upd (upd H a (XN a C none)) d (.xd [(nm, y)])) a (XN a C (some d))) ∧ upd (upd (upd H a (XN a C none)) d (.xd [(nm, y)])) a (XN a C (some d)) a = some (XN a C (some d)) ∧ upd (upd (upd H a (XN a C none)) d (.xd [(nm, y)])) a (XN a C (some d)) d = some (.xd [(nm, y)]) := by
  have nd : d ≠ a := fun z => by rw [z, upd_same] at hd; cases hd
  have hd' : H d = none := by rw [upd_ne nd] at hd; exact hd
  refine ⟨fun b o e => ?_, upd_same, ?_⟩
  · rw [upd_ne (ne_of_none e ha), upd_ne (ne_of_none e hd'), upd_ne (ne_of_none e ha)]
    exact e
  · rw [upd_ne nd, upd_same]
theorem Xc.one {H : Hp} {a C d : Addr} {fs : List (Str × V)} (h1 : H a = some (XN a C (some d))) (h2 : H d = some (.xd fs)) : Xc H a C := ⟨some d, .inl h1, fun e z => by cases z; exact ⟨fs, h2⟩⟩
theorem Xc.zero {H : Hp} {a C : Addr} (h1 : H a = some (XN a C none)) : Xc H a C := ⟨none, .inl h1, fun e z => by cases z⟩
def spMw : Sp := fun vs H Q _ => ∃ z : Int, vs = [.int z] ∧ ∀ H', Same H H' → Q (.bl true) H'
theorem pqr3 {i : Int} (h0 : 0 ≤ i) (h1 : i < 3) : ∃ c, atI (("pqr" : Str)).cps.toList i = some c := by
  obtain ⟨c, h, _⟩ := atI_lt (xs := (("pqr" : Str)).cps.toList) h0 (by rw [show (("pqr" : Str)).cps.toList.length = 3 from by decide +kernel]; exact h1)
  exact ⟨c, h⟩
theorem pqr_len : (("pqr" : Str)).length = 3 := by decide +kernel
theorem comp_rangeQ {lo : Int} {n : Nat} {tt : TT} {te : TE} {τ : L2.St} {H1 : Hp} {D : Addr} {Q : Hp → Prop} (Pv : Nat → Hp → Prop) (h0 : Pv 0 (upd H1 D (.lst [])))
    (hs : ∀ i H, i < n → Pv i H → tt (some (.int (lo + i)) :: τ) H fun ok H4 => if ok = true then te (some (.int (lo + i)) :: τ) H4 fun y H5 => ∃ xs, H5 D = some (.lst xs) ∧ xs.length < sizeLine ∧ Pv (i + 1) (upd H5 D (.lst (xs ++ [y]))) else Pv (i + 1) H4)
    (hd : ∀ H, Pv n H → Q H) :
    ∃ W : Nat → Nat → Hp → Prop, (∃ m, W 0 m (upd H1 D (.lst []))) ∧ ∀ i m H2, W i m H2 →
      ((Itr lo n).stop i H2 ∧ Q H2) ∨ ((Itr lo n).go i H2 ∧ ∃ N : Hp → Prop, (∀ H', N H' → ∃ m', m' < m ∧ W (i + 1) m' H') ∧ ∀ x H3, (Itr lo n).yld i H2 x H3 → tt (some x :: τ) H3 fun ok H4 =>
        if ok = true then te (some x :: τ) H4 fun y H5 => ∃ xs, H5 D = some (.lst xs) ∧ xs.length < sizeLine ∧ N (upd H5 D (.lst (xs ++ [y]))) else N H4) :=
  comp_range (Q := fun _ H => Q H) Pv h0 hs hd
/-- a class of refusals without a field -/
structure Fld0 (K : PySem.W.Frag) (C : Addr) : Prop where
  cls : Ex.XCls K C
  no : ∀ cd, PySem.W.clsIn K C = some cd → PySem.W.nsOkIn K cd.ns = true ∧ PySem.W.nsIn K cd.ns "__init__" = some none
  kp : PySem.W.keepIn K (.ref C) = true
section
variable {P : Program} {w : World} {K : PySem.W.Frag} {mg : Str → Option Value} {base : Heap} {S : Addr} {cl : Nat → Addr}
theorem scMw : FnScope ["_law_number", "_law_letter", "_law_placed", "_law_roomed", "_law_lettered", "_law_row", "_law_k"] ["_law_number"] (defScope sMw) := ⟨rfl, rfl, rfl, by decide +kernel, rfl, by decide +kernel, by decide +kernel⟩
set_option maxHeartbeats 8000000 in
theorem ok_mw {f fT f1 f2 f3 : Addr} {fd fdT fd1 fd2 fd3 : FuncData} (F : Fun K "_law_made_well" "_law_made_well" sMw f fd) (T : Txt K w.params mg) (C : TxtC K mg S cl)
    (GT : FnOk P w K mg base CX0 1 fT fdT ["_law_e"] (spTd cl)) (kT : PySem.W.keepIn K (.ref fT) = true) (bT : Binds K fdT ["_law_e"] []) (mT : mg "_law_told" = some (.ref fT))
    (G1 : FnOk P w K mg base CX0 1 f1 fd1 ["self", "place"] (spInit (cl 0) "place")) (b1 : Binds K fd1 ["self", "place"] []) (Z1 : Fld K (cl 0) f1 "place")
    (G2 : FnOk P w K mg base CX0 1 f2 fd2 ["self", "room"] (spInit (cl 6) "room")) (b2 : Binds K fd2 ["self", "room"] []) (Z2 : Fld K (cl 6) f2 "room")
    (G3 : FnOk P w K mg base CX0 1 f3 fd3 ["self", "letter"] (spInit (cl 7) "letter")) (b3 : Binds K fd3 ["self", "letter"] []) (Z3 : Fld K (cl 7) f3 "letter")
    (Z : ∀ i, 1 ≤ i → i ≤ 5 → Fld0 K (cl i)) : FnOk P w K mg base CX0 3 f fd ["_law_number"] spMw := by
  refine F.ok scMw (fun vs H Q E h => ?_) (fun cdv A outer s H vs Q E hr h => ?_)
  · obtain ⟨z, rfl, _⟩ := h
    rfl
  · obtain ⟨z, rfl, q⟩ := h
    have hu : A.units + 3 + 2 * 2 + 4 < cLine := by have := hr.un; have e : (A.deeper (envOfC "_law_made_well" (defScope sMw) s.heap.objs.size f cdv)).units = A.units + 3 := rfl; omega
    have hr1 : Room 1 _ := hr.mono (by decide)
    have y1 := Z 1 (by decide) (by decide)
    have y2 := Z 2 (by decide) (by decide)
    have y3 := Z 3 (by decide) (by decide)
    have y4 := Z 4 (by decide) (by decide)
    have y5 := Z 5 (by decide) (by decide)
    refine ⟨_, pss_cons (ps_set (i := 1) scMw.nd rfl (Or.inl rfl) (pe_ix ix_str pe_str (pe_op op_mod (pv 0) pe_int) (fun _ _ => rfl)))
      (pss_cons (ps_set (i := 2) scMw.nd rfl (Or.inl rfl) (pe_xmake Z1.cls Z1.init Z1.fn G1 hr rfl C.m0 Z1.kp b1 (by decide) (pa_cons (pv 0) pa_nil)))
      (pss_cons (ps_set (i := 3) scMw.nd rfl (Or.inl rfl) (pe_xmake Z2.cls Z2.init Z2.fn G2 hr rfl C.m6 Z2.kp b2 (by decide) (pa_cons (pv 0) pa_nil)))
      (pss_cons (ps_set (i := 4) scMw.nd rfl (Or.inl rfl) (pe_xmake Z3.cls Z3.init Z3.fn G3 hr rfl C.m7 Z3.kp b3 (by decide) (pa_cons (pv 1) pa_nil)))
      (pss_cons (ps_set (i := 5) scMw.nd rfl (Or.inl rfl) (pe_lst (pa_cons (pv 2) (pa_cons (pe_xmake0 y1.cls y1.no rfl C.m1 y1.kp) (pa_cons (pe_xmake0 y2.cls y2.no rfl C.m2 y2.kp) (pa_cons (pe_xmake0 y3.cls y3.no rfl C.m3 y3.kp) (pa_cons (pe_xmake0 y4.cls y4.no rfl C.m4 y4.kp) (pa_cons (pe_xmake0 y5.cls y5.no rfl C.m5 y5.kp) (pa_cons (pv 3) (pa_cons (pv 4) pa_nil))))))))))
      (pss_cons (ps_for PassesOwn.never rfl (pi_range1 rfl T.range (pa_cons pe_int pa_nil)) (pg_name (i := 6) scMw.nd rfl (Or.inr rfl))
        (pss_one (ps_if (pt_cmpR (op_neDv (n := 2) hu) (pe_call GT hr1 rfl mT kT bT .nil pass0 (pa_cons (pe_ix ix_list (pv 5) (pv 6) (fun _ _ => rfl)) pa_nil))
          (pe_tup (pa_cons (pe_comp rfl [("_law_k", 6)] (pi_range1 (by rfl) T.range (pa_cons pe_int pa_nil)) (fun _ _ _ _ => pts_nil) (fun _ _ _ _ => pe_cmpR op_eq (pv 0) (pv 1) (nomark _))) (pa_cons pe_bl pa_nil))) (nomark _)) (pss_one (ps_ret pe_bl)) pss_nil)))
      (pss_one (ps_ret (pe_and (pe_cmpR op_eq (pe_xfld (pv 2) rfl) (pv 0) (nomark _)) (pe_and (pe_cmpR op_eq (pe_xfld (pv 3) rfl) (pv 0) (nomark _)) (pe_one (pe_cmpR op_eq (pe_xfld (pv 4) rfl) (pv 1) (nomark _)))))))))))), ?_⟩
    have m0 : 0 ≤ z % 3 := Int.emod_nonneg _ (by decide)
    have m1 : z % 3 < 3 := Int.emod_lt_of_pos _ (by decide)
    obtain ⟨c, hc⟩ := pqr3 m0 m1
    refine ⟨_, rfl, _, _, rfl, rfl, q3, _, _, c, rfl, rfl, small (by rw [pqr_len]; decide), hc, ?_⟩
    -- the three with a field
    refine ⟨_, rfl, fun p hp => ⟨p, .int z, rfl, upd_same, fun dp hdp => ⟨rfl, ?_⟩⟩⟩
    obtain ⟨s1, p1, p2⟩ := xn_mk (nm := "place") (y := .int z) hp hdp
    revert s1 p1 p2
    generalize upd (upd (upd H p (XN p (cl 0) none)) dp (.xd [("place", .int z)])) p (XN p (cl 0) (some dp)) = H1
    intro s1 p1 p2
    refine ⟨_, rfl, fun r hr' => ⟨r, .int z, rfl, upd_same, fun dr hdr => ⟨rfl, ?_⟩⟩⟩
    obtain ⟨s2, r1, r2⟩ := xn_mk (nm := "room") (y := .int z) hr' hdr
    revert s2 r1 r2
    generalize upd (upd (upd H1 r (XN r (cl 6) none)) dr (.xd [("room", .int z)])) r (XN r (cl 6) (some dr)) = H2
    intro s2 r1 r2
    refine ⟨_, rfl, fun t ht => ⟨t, .str ⟨#[c]⟩, rfl, upd_same, fun dt hdt => ⟨rfl, ?_⟩⟩⟩
    obtain ⟨s3, t1, t2⟩ := xn_mk (nm := "letter") (y := .str ⟨#[c]⟩) ht hdt
    revert s3 t1 t2
    generalize upd (upd (upd H2 t (XN t (cl 7) none)) dt (.xd [("letter", .str ⟨#[c]⟩)])) t (XN t (cl 7) (some dt)) = H3
    intro s3 t1 t2
    -- the others, and the row
    refine ⟨_, rfl, fun a1 h1 a2 h2 a3 h3 a4 h4 a5 h5 => ⟨_, rfl, _, rfl, small (Nat.le_of_ble_eq_true rfl), fun lr hlr => ?_⟩⟩
    have k1 := same_new (o := XN a1 (cl 1) none) h1
    have k2 := same_new (o := XN a2 (cl 2) none) h2
    have k3 := same_new (o := XN a3 (cl 3) none) h3
    have k4 := same_new (o := XN a4 (cl 4) none) h4
    have k5 := same_new (o := XN a5 (cl 5) none) h5
    have k6 := same_new (o := .lst [.ref p, .ref a1, .ref a2, .ref a3, .ref a4, .ref a5, .ref r, .ref t]) hlr
    have x1 := (Xc.zero (upd_same (H := H3) (a := a1) (o := XN a1 (cl 1) none))).stay (((k2.trans k3).trans (k4.trans k5)).trans k6)
    have x2 := (Xc.zero (upd_same (H := upd H3 a1 (XN a1 (cl 1) none)) (a := a2) (o := XN a2 (cl 2) none))).stay ((k3.trans (k4.trans k5)).trans k6)
    have x3 := (Xc.zero (upd_same (H := upd (upd H3 a1 (XN a1 (cl 1) none)) a2 (XN a2 (cl 2) none)) (a := a3) (o := XN a3 (cl 3) none))).stay ((k4.trans k5).trans k6)
    have x4 := (Xc.zero (upd_same (H := upd (upd (upd H3 a1 (XN a1 (cl 1) none)) a2 (XN a2 (cl 2) none)) a3 (XN a3 (cl 3) none)) (a := a4) (o := XN a4 (cl 4) none))).stay (k5.trans k6)
    have x5 := (Xc.zero (upd_same (H := upd (upd (upd (upd H3 a1 (XN a1 (cl 1) none)) a2 (XN a2 (cl 2) none)) a3 (XN a3 (cl 3) none)) a4 (XN a4 (cl 4) none)) (a := a5) (o := XN a5 (cl 5) none))).stay k6
    have k16 := (k1.trans (((k2.trans k3).trans (k4.trans k5)).trans k6))
    have er := upd_same (H := upd (upd (upd (upd (upd H3 a1 (XN a1 (cl 1) none)) a2 (XN a2 (cl 2) none)) a3 (XN a3 (cl 3) none)) a4 (XN a4 (cl 4) none)) a5 (XN a5 (cl 5) none)) (a := lr) (o := .lst [.ref p, .ref a1, .ref a2, .ref a3, .ref a4, .ref a5, .ref r, .ref t])
    clear k1 k2 k3 k4 k5 k6
    revert x1 x2 x3 x4 x5 k16 er
    generalize upd (upd (upd (upd (upd (upd H3 a1 (XN a1 (cl 1) none)) a2 (XN a2 (cl 2) none)) a3 (XN a3 (cl 3) none)) a4 (XN a4 (cl 4) none)) a5 (XN a5 (cl 5) none)) lr (.lst [.ref p, .ref a1, .ref a2, .ref a3, .ref a4, .ref a5, .ref r, .ref t]) = Hr
    intro x1 x2 x3 x4 x5 k16 er
    have x0 := ((Xc.one p1 p2).stay (s2.trans s3)).stay k16
    have x6 := ((Xc.one r1 r2).stay s3).stay k16
    have x7 := (Xc.one t1 t2).stay k16
    have sH := ((s1.trans s2).trans s3).trans k16
    have row : ∀ i : Nat, i < 8 → ∃ a, atI [V.ref p, V.ref a1, V.ref a2, V.ref a3, V.ref a4, V.ref a5, V.ref r, V.ref t] (i : Int) = some (.ref a) ∧ Xc Hr a (cl i) := fun i hi => by
      have e : i = 0 ∨ i = 1 ∨ i = 2 ∨ i = 3 ∨ i = 4 ∨ i = 5 ∨ i = 6 ∨ i = 7 := by omega
      rcases e with rfl | rfl | rfl | rfl | rfl | rfl | rfl | rfl
      · exact ⟨p, atI_nat rfl, x0⟩
      · exact ⟨a1, atI_nat rfl, x1⟩
      · exact ⟨a2, atI_nat rfl, x2⟩
      · exact ⟨a3, atI_nat rfl, x3⟩
      · exact ⟨a4, atI_nat rfl, x4⟩
      · exact ⟨a5, atI_nat rfl, x5⟩
      · exact ⟨r, atI_nat rfl, x6⟩
      · exact ⟨t, atI_nat rfl, x7⟩
    refine ⟨8, rfl, by decide, by decide, for_range (lo := 0) (n := 8) (fun i σ H4 => ∃ v6, σ = [some (.int z), some (.str ⟨#[c]⟩), some (.ref p), some (.ref r), some (.ref t), some (.ref lr), v6] ∧ Same Hr H4) ⟨none, rfl, Same.refl _⟩ ?_ ?_⟩
    · rintro i σ H4 hi ⟨v6, rfl, s4⟩
      have ei : (0 : Int) + (i : Int) = ((i : Nat) : Int) := Int.zero_add _
      obtain ⟨a, ha, xa⟩ := row i hi
      refine ⟨_, rfl, _, rfl, lr, _, _, _, rfl, rfl, SqL.of (s4 _ _ er), (by rw [ei]; exact ha), a, i, rfl, hi, xa.stay s4, fun tt l H5 s5 et el => ?_⟩
      refine ⟨_, rfl, by decide, by decide, fun D hD => ?_⟩
      refine comp_rangeQ (lo := 0) (n := (8 : Int).toNat) (tt := tYes) (te := tOp rEq (tVar 0) (tVar 1)) (τ := [some (.int (0 + (i : Int)))]) (fun j H6 => Same H5 H6 ∧ H6 D = some (.lst (((List.range j).map fun k => decide (k = i)).map V.bl))) ⟨same_new hD, upd_same⟩ ?_ ?_
      · rintro j H6 hj ⟨s6, e6⟩
        dsimp only [tYes]
        refine iteT ?_
        refine ⟨_, rfl, _, rfl, rfl, ?_⟩
        refine ⟨_, e6, small' (by rw [List.length_map, List.length_map, List.length_range]; omega), same_own s6 hD, ?_⟩
        rw [upd_same, List.range_succ, List.map_append, List.map_append]
        have ed : decide (V.int (0 + (j : Int)) = V.int (0 + (i : Int))) = decide (j = i) := by
          by_cases h : j = i
          · subst h; simp
          · rw [decide_eq_false h, decide_eq_false (fun z => h (by have := V.int.inj z; omega))]
        rw [ed]
        rfl
      · rintro H6 ⟨s6, e6⟩
        refine ⟨small (Nat.le_of_ble_eq_true rfl), fun t2' ht2 => ?_⟩
        have s7 := s6.trans (same_new (o := .tup [.ref D, .bl true]) ht2)
        refine ⟨_, _, dv_told (bs := toldB i) (s7 _ _ et) (by rw [← told_eq]; exact s7 _ _ el), dv_told (bs := toldB i) upd_same (by rw [upd_ne (ne_of_none e6 ht2)]; exact e6), by rw [dp_told]; exact Nat.le_refl _, .inl ⟨_, _, rfl, rfl⟩, ?_⟩
        rw [dq_told, decide_eq_true rfl]
        exact ⟨_, rfl, iteF ⟨_, rfl, (s4.trans s5).trans s7⟩⟩
    · rintro σ H4 ⟨v6, rfl, s4⟩
      have sr : Same H1 H4 := ((s2.trans s3).trans k16).trans s4
      have sr2 : Same H2 H4 := (s3.trans k16).trans s4
      have sr3 : Same H3 H4 := k16.trans s4
      refine ⟨_, rfl, p, cl 0, dp, _, _, rfl, .inl (sr _ _ p1), Z1.cls, Z1.at_, sr _ _ p2, rfl, _, rfl, rfl, _, rfl, ?_⟩
      rw [decide_eq_true rfl]
      refine iteT ⟨_, rfl, r, cl 6, dr, _, _, rfl, .inl (sr2 _ _ r1), Z2.cls, Z2.at_, sr2 _ _ r2, rfl, _, rfl, rfl, _, rfl, ?_⟩
      rw [decide_eq_true rfl]
      refine iteT ⟨_, rfl, t, cl 7, dt, _, _, rfl, .inl (sr3 _ _ t1), Z3.cls, Z3.at_, sr3 _ _ t2, rfl, _, rfl, rfl, ?_⟩
      rw [decide_eq_true rfl]
      exact q H4 (sH.trans s4)
end
end My
namespace My
open PySem PySem.Spec PyProof.Rows L2
def spAs : Sp := fun vs H Q _ => ∃ x : Str, vs = [.str x] ∧ x.length ≤ 200 ∧ ∀ H', Q (.bl true) H'
section
variable {P : Program} {w : World} {K : PySem.W.Frag} {mg : Str → Option Value} {base : Heap} {S : Addr} {cl : Nat → Addr}
theorem scAs : FnScope ["_law_text_here", "_law_due", "_law_caught", "_law_found", "_law_e"] ["_law_text_here"] (defScope sAs) := ⟨rfl, rfl, rfl, by decide +kernel, rfl, by decide +kernel, by decide +kernel⟩
set_option maxHeartbeats 8000000 in
theorem ok_as {f fP fR fX fK f1 : Addr} {fd fdP fdR fdX fdK : FuncData} (F : Fun K "_law_asked" "_law_asked" sAs f fd) (T : Txt K w.params mg) (C : TxtC K mg S cl) (Z : Fld K (cl 0) f1 "place")
    (GP : FnOk P w K mg base CX0 1 fP fdP ["_law_text_here"] (spBp K)) (kP : PySem.W.keepIn K (.ref fP) = true) (bP : Binds K fdP ["_law_text_here"] []) (mP : mg "_law_bad_place" = some (.ref fP))
    (GR : FnOk P w K mg base (CX1 P w) 4 fR fdR ["text"] (spRd7 K (cl 0))) (kR : PySem.W.keepIn K (.ref fR) = true) (bR : Binds K fdR ["text"] []) (mR : mg "read" = some (.ref fR))
    (GX : FnOk P w K mg base CX0 201 fX fdX ["_law_saying"] (spText K 200)) (kX : PySem.W.keepIn K (.ref fX) = true) (bX : Binds K fdX ["_law_saying"] []) (mX : mg "_law_text" = some (.ref fX))
    (GK : FnOk P w K mg base CX0 2 fK fdK ["_law_e"] (spKd cl)) (kK : PySem.W.keepIn K (.ref fK) = true) (bK : Binds K fdK ["_law_e"] []) (mK : mg "_law_kinds" = some (.ref fK)) :
    FnOk P w K mg base CX0 202 f fd ["_law_text_here"] spAs := by
  refine F.ok scAs (fun vs H Q E h => ?_) (fun cdv A outer s H vs Q E hr h => ?_)
  · obtain ⟨x, rfl, _⟩ := h
    rfl
  · obtain ⟨x, rfl, hz, q⟩ := h
    have hr1 : Room 1 _ := hr.mono (by decide)
    have hr2 : Room 2 _ := hr.mono (by decide)
    have hr4 : Room 4 _ := hr.mono (by decide)
    refine ⟨_, pss_cons (ps_set (i := 1) scAs.nd rfl (Or.inl rfl) (pe_call GP hr1 rfl mP kP bP .nil pass0 (pa_cons (pv 0) pa_nil)))
      (pss_cons (ps_set (i := 2) scAs.nd rfl (Or.inl rfl) pe_non)
      (pss_cons (ps_set (i := 3) scAs.nd rfl (Or.inl rfl) pe_non)
      (pss_cons (ps_try (i := 4) ⟨rfl, rfl⟩ scAs.nd rfl rfl rfl C.s C.zs (fun pn W => pss_one (ps_set (i := 3) scAs.nd rfl (Or.inl rfl) (pe_callX (W := W) GR hr4 rfl mR kR bR (pa_cons (pv 0) pa_nil)))) (fun pn a => pss_one (ps_set (i := 2) scAs.nd rfl (Or.inl rfl) (pv 4))))
      (pss_cons (ps_if (pt_cmpR op_isN (pv 1) pe_non (nomark _)) (pss_one (ps_ret (pe_and (pe_cmpR op_isN (pv 2) pe_non (nomark _)) (pe_one (pe_cmpR op_eq (pe_call GX hr rfl mX kX bX .nil pass0 (pa_cons (pv 3) pa_nil)) (pv 0) (nomark _)))))) pss_nil)
      (pss_cons (ps_if (PW.pt (pw_or (pt_cmpR op_isN (pv 2) pe_non (nomark _)) (pw_or1 (pt_not (pt_val (pe_call GK hr2 (by rfl) mK kK bK .nil pass0 (pa_cons (pv 2) pa_nil))))))) (pss_one (ps_ret pe_bl)) pss_nil)
      (pss_one (ps_ret (pe_and (pe_callB call_isInt (by rfl) T.isi PyProof.Rows.boot_isinstance (pa_cons (pe_xfld (pv 2) rfl) (pa_cons (pe_bltn (by rfl) T.int PyProof.Rows.boot_int (v := .ty "int") rfl) pa_nil)))
        (pe_and (pe_not (pe_callB call_isInt (by rfl) T.isi PyProof.Rows.boot_isinstance (pa_cons (pe_xfld (pv 2) rfl) (pa_cons (pe_bltn (by rfl) T.bool PyProof.Rows.boot_bool (v := .ty "bool") rfl) pa_nil))))
        (pe_one (pe_cmpR op_eq (pe_xfld (pv 2) rfl) (pv 1) (nomark _)))))))))))), ?_⟩
    refine ⟨_, rfl, x, rfl, by omega, fun H1 s1 => ?_⟩
    have eb : badW x.cps.toList 0 ["saying"] = bad x.cps.toList 0 (none, []) := (bad_eq x.cps.toList 0 (none, []) (show Cl (none, []) from trivial)).symm
    rw [eb]
    refine ⟨fun σ e dx H' => ∃ (a : Addr) (k : Nat), σ = [some (.str x), some (vO (bad x.cps.toList 0 (none, []))), some .non, some .non, none] ∧ e = .ref a ∧ bad x.cps.toList 0 (none, []) = some k ∧ Ex1 (cl 0) "place" (.int k) H' a dx,
      ⟨_, rfl, x, rfl, by omega, fun sg v H2 hb wf tx sm y => ?_, fun k a dx H2 hb sm ex => ⟨a, k, rfl, rfl, hb, ex⟩⟩, ?_⟩
    · rw [hb]
      refine ⟨_, rfl, rfl, _, rfl, ifT rfl ?_⟩
      refine ⟨_, rfl, rfl, _, rfl, iteT ?_⟩
      obtain ⟨t1, t2⟩ := Sg.small sg wf
      rw [tx] at t1 t2
      refine ⟨_, rfl, v, sg, rfl, y, by omega, by omega, fun H3 s3 => ⟨_, rfl, rfl, ?_⟩⟩
      rw [tx, decide_eq_true rfl]
      exact q H3
    · rintro σ' a dx H2 ⟨a', k, rfl, ea, hb, d, rfl, ex1, ex2⟩
      cases ea
      refine ⟨cl 0, ex1, C.mr 0 (by decide), ?_⟩
      rw [hb]
      refine ⟨_, rfl, ?_⟩
      refine ⟨_, rfl, rfl, _, rfl, ifF (fun z => by cases z) ?_⟩
      refine ⟨_, rfl, rfl, _, rfl, ifF (fun z => by cases z) ?_⟩
      have xc : Xc H2 a (cl 0) := ⟨some d, .inr ex1, fun e z => by cases z; exact ⟨_, ex2⟩⟩
      refine ⟨_, rfl, a, rfl, xc, fun H3 s3 => ⟨true, rfl, iteF ?_⟩⟩
      have i1 : IsX H3 a (cl 0) (some d) := .inr (s3 _ _ ex1)
      have i2 := s3 _ _ ex2
      refine ⟨_, rfl, a, cl 0, d, _, .int k, rfl, i1, Z.cls, Z.at_, i2, rfl, k, "int", rfl, .inl ⟨rfl, true, rfl, iteT ?_⟩⟩
      refine ⟨_, rfl, a, cl 0, d, _, .int k, rfl, i1, Z.cls, Z.at_, i2, rfl, k, "bool", rfl, .inr ⟨rfl, false, rfl, true, rfl, iteT ?_⟩⟩
      refine ⟨_, rfl, a, cl 0, d, _, .int k, rfl, i1, Z.cls, Z.at_, i2, rfl, _, rfl, rfl, ?_⟩
      rw [show decide (V.int (k : Int) = vO (some k)) = true from decide_eq_true rfl]
      exact q H3
end
end My
namespace My
open PySem PySem.Spec PyProof.Rows L2
section
variable {P : Program} {w : World} {K : PySem.W.Frag} {mg : Str → Option Value} {base : Heap}
theorem q28 : (0 : Int) < 28 := by decide
theorem q200 : (0 : Int) < 200 := by decide
theorem scL : FnScope ["_law_script", "_law_text_here", "_law_bad"] ["_law_script"] (defScope sLaw) := ⟨rfl, rfl, rfl, by decide +kernel, rfl, by decide +kernel, by decide +kernel⟩
set_option maxHeartbeats 8000000 in
theorem ok_law {f fM fB fX fS fW fA : Addr} {fd fdM fdB fdX fdS fdW fdA : FuncData} (F : Fun K "law" "law" sLaw f fd)
    (GM : FnOk P w K mg base CX0 1 fM fdM ["_law_script", "_law_k"] (spMix K)) (kM : PySem.W.keepIn K (.ref fM) = true) (bM : Binds K fdM ["_law_script", "_law_k"] []) (mM : mg "_law_mix" = some (.ref fM))
    (GB : FnOk P w K mg base CX0 2 fB fdB ["_law_script", "_law_at", "_law_count"] (spBuilt K)) (kB : PySem.W.keepIn K (.ref fB) = true) (bB : Binds K fdB ["_law_script", "_law_at", "_law_count"] []) (mB : mg "_law_built" = some (.ref fB))
    (GX : FnOk P w K mg base CX0 201 fX fdX ["_law_saying"] (spText K 200)) (kX : PySem.W.keepIn K (.ref fX) = true) (bX : Binds K fdX ["_law_saying"] []) (mX : mg "_law_text" = some (.ref fX))
    (GS : FnOk P w K mg base CX0 1 fS fdS ["_law_text_here", "_law_cell"] (spSp K)) (kS : PySem.W.keepIn K (.ref fS) = true) (bS : Binds K fdS ["_law_text_here", "_law_cell"] []) (mS : mg "_law_spoilt" = some (.ref fS))
    (GW : FnOk P w K mg base CX0 3 fW fdW ["_law_number"] spMw) (kW : PySem.W.keepIn K (.ref fW) = true) (bW : Binds K fdW ["_law_number"] []) (mW : mg "_law_made_well" = some (.ref fW))
    (GA : FnOk P w K mg base CX0 202 fA fdA ["_law_text_here"] spAs) (kA : PySem.W.keepIn K (.ref fA) = true) (bA : Binds K fdA ["_law_text_here"] []) (mA : mg "_law_asked" = some (.ref fA)) :
    FnOk P w K mg base CX0 203 f fd ["_law_script"] (spLaw K) := by
  refine F.ok scL (fun vs H Q E h => ?_) (fun cdv A outer s H vs Q E hr h => ?_)
  · obtain ⟨a, ns, rfl, _⟩ := h
    rfl
  · obtain ⟨a, ns, rfl, hS, hlen, q⟩ := h
    have hr1 : Room 1 _ := hr.mono (by decide)
    have hr2 : Room 2 _ := hr.mono (by decide)
    have hr3 : Room 3 _ := hr.mono (by decide)
    have hrX : Room 201 _ := hr.mono (by decide)
    refine ⟨_, pss_cons (ps_set (i := 1) scL.nd rfl (Or.inl rfl) (pe_call GX hrX rfl mX kX bX .nil pass0 (pa_cons (pe_call GB hr2 rfl mB kB bB .nil pass0 (pa_cons (pv 0) (pa_cons pe_int (pa_cons (pe_op op_add pe_int (pe_op op_mod (pe_call GM hr1 rfl mM kM bM .nil pass0 (pa_cons (pv 0) (pa_cons pe_int pa_nil))) pe_int)) pa_nil)))) pa_nil)))
      (pss_cons (ps_set (i := 2) scL.nd rfl (Or.inl rfl) (pe_call GS hr1 rfl mS kS bS .nil pass0 (pa_cons (pv 1) (pa_cons (pe_call GM hr1 rfl mM kM bM .nil pass0 (pa_cons (pv 0) (pa_cons pe_int pa_nil))) pa_nil))))
      (pss_cons (ps_if (pt_cmpR op_eq (pe_op op_mod (pe_op op_fdiv (pe_call GM hr1 rfl mM kM bM .nil pass0 (pa_cons (pv 0) (pa_cons pe_int pa_nil))) pe_int) pe_int) pe_int (nomark _))
        (pss_one (ps_set (i := 2) scL.nd rfl (Or.inl rfl) (pe_call GS hr1 rfl mS kS bS .nil pass0 (pa_cons (pv 2) (pa_cons (pe_call GM hr1 rfl mM kM bM .nil pass0 (pa_cons (pv 0) (pa_cons pe_int pa_nil))) pa_nil))))) pss_nil)
      (pss_cons (ps_if (pt_cmpR op_eq (pe_op op_mod (pe_op op_fdiv (pe_call GM hr1 rfl mM kM bM .nil pass0 (pa_cons (pv 0) (pa_cons pe_int pa_nil))) pe_int) pe_int) pe_int (nomark _)) (pss_one (ps_set (i := 2) scL.nd rfl (Or.inl rfl) pe_str)) pss_nil)
      (pss_cons (ps_if (pt_not (pt_val (pe_call GW hr3 (by rfl) mW kW bW .nil pass0 (pa_cons (pe_op op_mod (pe_call GM hr1 (by rfl) mM kM bM .nil pass0 (pa_cons (pv 0) (pa_cons pe_int pa_nil))) pe_int) pa_nil)))) (pss_one (ps_ret pe_bl)) pss_nil)
      (pss_one (ps_ret (pe_and (pe_call GA hr rfl mA kA bA .nil pass0 (pa_cons (pv 2) pa_nil)) (pe_and (pe_call GA hr rfl mA kA bA .nil pass0 (pa_cons (pv 1) pa_nil)) (pe_one (pe_call GA hr rfl mA kA bA .nil pass0 (pa_cons (pv 2) pa_nil))))))))))), ?_⟩
    -- the end, from any text
    have tail : ∀ (y x : Str) (H2 : Hp), SqL K H2 a (ns.map V.int) → y.length ≤ 200 → x.length ≤ 200 →
        tSeq (tIfS (tNot (tB (tCall spMw [] E0 (tCons (tOp (rI (fun _ j => 0 < j) fun i j => .int (i % j)) (tCall (spMix K) [] E0 (tCons (tVar 0) (tCons (tC (.int 41)) tNil))) (tC (.int 200))) tNil)))) (tRet (tC (.bl false))) tNext)
          (tRet (tAndV (tCall spAs [] E0 (tCons (tVar 2) tNil)) (tAndV (tCall spAs [] E0 (tCons (tVar 1) tNil)) (tCall spAs [] E0 (tCons (tVar 2) tNil)))))
          { nx := fun _ H' => Q .non H', rt := Q } [some (.ref a), some (.str x), some (.str y)] H2 := fun y x H2 hS2 hy hx => by
      refine ⟨_, rfl, a, ns, 41, rfl, hS2, hlen, by decide, by decide, fun z z0 => ⟨_, _, rfl, rfl, q200, _, rfl, fun H3 s3 => ⟨true, rfl, iteF ?_⟩⟩⟩
      refine ⟨_, rfl, y, rfl, hy, fun H4 => ⟨true, rfl, iteT ⟨_, rfl, x, rfl, hx, fun H5 => ⟨true, rfl, iteT ⟨_, rfl, y, rfl, hy, fun H6 => q H6⟩⟩⟩⟩⟩
    refine ⟨_, rfl, _, rfl, a, ns, 0, rfl, hS, hlen, by decide, by decide, fun z z0 => ⟨_, _, rfl, rfl, q28, _, _, rfl, rfl, ?_⟩⟩
    have m0 : 0 ≤ z % 28 := Int.emod_nonneg _ (by decide)
    have m1 : z % 28 < 28 := Int.emod_lt_of_pos _ (by decide)
    refine ⟨a, ns, 2, _, rfl, hS, hlen, by decide, by decide, by omega, by omega, fun v1 g1 H1 s1 y1 wt1 wf1 => ?_⟩
    have h1 := g1.ht_le
    have tl := g1.txt_le
    refine ⟨v1, g1, rfl, y1, by omega, by omega, fun H2 s2 => ?_⟩
    have s12 := s1.trans s2
    have lx : g1.txt.length ≤ 195 := by omega
    refine ⟨_, rfl, _, rfl, a, ns, 1, rfl, s12.seq hS, hlen, by decide, by decide, fun z1 z10 => ⟨g1.txt, z1, rfl, by omega, z10, fun y H3 hy s3 => ?_⟩⟩
    have s13 := s12.trans s3
    refine ⟨_, rfl, a, ns, 0, rfl, s13.seq hS, hlen, by decide, by decide, fun z2 z20 => ⟨_, _, rfl, rfl, ⟨by decide, by decide⟩, _, _, rfl, rfl, q3, rfl, _, rfl, ?_⟩⟩
    have last : ∀ (y : Str) (H4 : Hp), Same H H4 → y.length ≤ 200 →
        tSeq (tIfS (tTest (tOp rEq (tOp (rI (fun _ j => 0 < j) fun i j => .int (i % j)) (tOp (rI CDiv fun i j => .int (i / j)) (tCall (spMix K) [] E0 (tCons (tVar 0) (tCons (tC (.int 0)) tNil))) (tC (.int 84))) (tC (.int 9))) (tC (.int 4)))) (tAsg (tC (.str "")) (gName 2)) tNext)
          (tSeq (tIfS (tNot (tB (tCall spMw [] E0 (tCons (tOp (rI (fun _ j => 0 < j) fun i j => .int (i % j)) (tCall (spMix K) [] E0 (tCons (tVar 0) (tCons (tC (.int 41)) tNil))) (tC (.int 200))) tNil)))) (tRet (tC (.bl false))) tNext)
          (tRet (tAndV (tCall spAs [] E0 (tCons (tVar 2) tNil)) (tAndV (tCall spAs [] E0 (tCons (tVar 1) tNil)) (tCall spAs [] E0 (tCons (tVar 2) tNil))))))
          { nx := fun _ H' => Q .non H', rt := Q } [some (.ref a), some (.str g1.txt), some (.str y)] H4 := fun y H4 s4 hy => by
      refine ⟨_, rfl, a, ns, 0, rfl, s4.seq hS, hlen, by decide, by decide, fun z3 z30 => ⟨_, _, rfl, rfl, ⟨by decide, by decide⟩, _, _, rfl, rfl, q9, rfl, _, rfl, ?_⟩⟩
      refine ite2 (fun _ => ?_) (fun _ => ?_)
      · exact tail "" g1.txt H4 (s4.seq hS) (by decide +kernel) (by omega)
      · exact tail y g1.txt H4 (s4.seq hS) hy (by omega)
    refine ite2 (fun _ => ?_) (fun _ => ?_)
    · refine ⟨_, rfl, _, rfl, a, ns, 40, rfl, s13.seq hS, hlen, by decide, by decide, fun z4 z40 => ⟨y, z4, rfl, by omega, z40, fun y' H4 hy' s4 => ?_⟩⟩
      exact last y' H4 (s13.trans s4) (by omega)
    · exact last y H3 s13 (by omega)
end
end My
namespace My
open PySem PySem.Spec PyProof.Rows L2
/-! ### what the top has written, and the law's own head -/
theorem tk_mk {K : PySem.W.Frag} {a : Addr} {dd : Option Addr} {i : List Value} {m : Nat} {sl : Array (Option Value)} {xs : List V} (l : K.lookup a = some ⟨.type "tuple", dd, .seq i.toArray m, sl⟩) (v : Vals xs i) (hx : xs.length ≤ 100000) : TK K a xs :=
  ⟨_, i.toArray, m, l, rfl, rfl, by rw [List.size_toArray, ← v.length]; exact small hx, by simpa using v⟩
theorem all_mk {l : PySem.W.OpenLaw} {w : World} {K : PySem.W.Frag} {h : Heap} {mg : Str → Option Value} {fa dL dB dJ f1 f2 f3 f4 f5 f6 f7 f8 f9 f10 f11 f12 f13 f14 f15 f16 f17 x0 xp xq xr x1 x2 x3 c0 Nc0 c1 Nc1 c2 Nc2 c3 Nc3 c4 Nc4 c5 Nc5 c6 Nc6 c7 Nc7 cS NcS : Addr} (X : K.In h) (G : h.Ns mainGlobals mg) (hfa : mg "law" = some (.ref fa))
    {od1 an1 od2 an2 od3 an3 od4 an4 od5 an5 od6 an6 od7 an7 od8 an8 od9 an9 od10 an10 od11 an11 od12 an12 od13 an13 od14 an14 od15 an15 od16 an16 od17 an17 dd0 ddp ddq ddr dd1 dd2 dd3 cdc0 cdc1 cdc2 cdc3 cdc4 cdc5 cdc6 cdc7 cdcS : Option Addr} {sl1 sl2 sl3 sl4 sl5 sl6 sl7 sl8 sl9 sl10 sl11 sl12 sl13 sl14 sl15 sl16 sl17 st0 stp stq str st1 st2 st3 : Array (Option Value)} {oc1 kV1 dc1 pm1 cd1 ct1 oc2 kV2 dc2 pm2 cd2 ct2 oc3 kV3 dc3 pm3 cd3 ct3 oc4 kV4 dc4 pm4 cd4 ct4 oc5 kV5 dc5 pm5 cd5 ct5 oc6 kV6 dc6 pm6 cd6 ct6 oc7 kV7 dc7 pm7 cd7 ct7 oc8 kV8 dc8 pm8 cd8 ct8 oc9 kV9 dc9 pm9 cd9 ct9 oc10 kV10 dc10 pm10 cd10 ct10 oc11 kV11 dc11 pm11 cd11 ct11 oc12 kV12 dc12 pm12 cd12 ct12 oc13 kV13 dc13 pm13 cd13 ct13 oc14 kV14 dc14 pm14 cd14 ct14 oc15 kV15 dc15 pm15 cd15 ct15 oc16 kV16 dc16 pm16 cd16 ct16 oc17 kV17 dc17 pm17 cd17 ct17 : Value}
    {esL esB esJ : Array DictEntry} {nL nB nJ nt0 ntp ntq ntr nt1 nt2 nt3 : Nat} {i0 ip iq ir i1 i2 i3 bsc0 suc0 bsc1 suc1 bsc2 suc2 bsc3 suc3 bsc4 suc4 bsc5 suc5 bsc6 suc6 bsc7 suc7 bscS sucS : List Value} {tj1 tj2 tj3 : Tok} {nmc0 qnc0 nmc1 qnc1 nmc2 qnc2 nmc3 qnc3 nmc4 qnc4 nmc5 qnc5 nmc6 qnc6 nmc7 qnc7 nmcS qncS : Str} {snc0 snc1 snc2 snc3 snc4 snc5 snc6 snc7 sncS : List Str} {abc0 abc1 abc2 abc3 abc4 abc5 abc6 abc7 abcS : Bool} {coc0 coc1 coc2 coc3 coc4 coc5 coc6 coc7 cocS : Option Bool} {uc0 vc0 wc0 xc0 yc0 uc1 vc1 wc1 xc1 yc1 uc2 vc2 wc2 xc2 yc2 uc3 vc3 wc3 xc3 yc3 uc4 vc4 wc4 xc4 yc4 uc5 vc5 wc5 xc5 yc5 uc6 vc6 wc6 xc6 yc6 uc7 vc7 wc7 xc7 yc7 ucS vcS wcS xcS ycS : Option Value}
    (ac0 : PySem.W.nsIn K mainGlobals "NoSaying" = some (some (.ref c0)))
    (ac1 : PySem.W.nsIn K mainGlobals "TooMany" = some (some (.ref c1)))
    (ac2 : PySem.W.nsIn K mainGlobals "NoRule" = some (some (.ref c2)))
    (ac3 : PySem.W.nsIn K mainGlobals "Outside" = some (some (.ref c3)))
    (ac4 : PySem.W.nsIn K mainGlobals "NoLine" = some (some (.ref c4)))
    (ac5 : PySem.W.nsIn K mainGlobals "Nothing" = some (some (.ref c5)))
    (ac6 : PySem.W.nsIn K mainGlobals "NoTree" = some (some (.ref c6)))
    (ac7 : PySem.W.nsIn K mainGlobals "HasLetter" = some (some (.ref c7)))
    (acS : PySem.W.nsIn K mainGlobals "SayError" = some (some (.ref cS)))
    (lc0 : K.lookup c0 = some (excClassObj nmc0 qnc0 c0 Nc0 bsc0 (.ref cS :: Ex.bmV) true snc0 suc0 abc0 coc0 cdc0 uc0 vc0 wc0 xc0 yc0 "ValueError.__new__"))
    (p0c0 : PySem.W.specialIn K (.ref c0) "__call__" = some (some (.builtin "type.__call__")))    (p1c0 : PySem.W.instIn K (.ref c0) (.type "type") = some true)    (p2c0 : PySem.W.findIn K (.ref c0) "__setattr__" = some (some (.builtin "object.__setattr__")))    (p3c0 : PySem.W.findIn K (.ref c0) "__getattribute__" = some (some (.builtin "BaseException.__getattribute__")))    (p4c0 : PySem.W.findIn K (.ref c0) "__getattr__" = some none)    (p5c0 : PySem.W.findIn K (.ref c0) "__class__" = some (some (.builtin "object.__class__"))) (kc0 : PySem.W.keepIn K (.ref c0) = true)
    (lc1 : K.lookup c1 = some (excClassObj nmc1 qnc1 c1 Nc1 bsc1 (.ref cS :: Ex.bmV) true snc1 suc1 abc1 coc1 cdc1 uc1 vc1 wc1 xc1 yc1 "ValueError.__new__"))
    (p0c1 : PySem.W.specialIn K (.ref c1) "__call__" = some (some (.builtin "type.__call__")))    (p1c1 : PySem.W.instIn K (.ref c1) (.type "type") = some true)    (p2c1 : PySem.W.findIn K (.ref c1) "__setattr__" = some (some (.builtin "object.__setattr__")))    (p3c1 : PySem.W.findIn K (.ref c1) "__getattribute__" = some (some (.builtin "BaseException.__getattribute__")))    (p4c1 : PySem.W.findIn K (.ref c1) "__getattr__" = some none)    (p5c1 : PySem.W.findIn K (.ref c1) "__class__" = some (some (.builtin "object.__class__"))) (kc1 : PySem.W.keepIn K (.ref c1) = true)
    (nc1 : PySem.W.nsOkIn K Nc1 = true) (ic1 : PySem.W.nsIn K Nc1 "__init__" = some none)
    (lc2 : K.lookup c2 = some (excClassObj nmc2 qnc2 c2 Nc2 bsc2 (.ref cS :: Ex.bmV) true snc2 suc2 abc2 coc2 cdc2 uc2 vc2 wc2 xc2 yc2 "ValueError.__new__"))
    (p0c2 : PySem.W.specialIn K (.ref c2) "__call__" = some (some (.builtin "type.__call__")))    (p1c2 : PySem.W.instIn K (.ref c2) (.type "type") = some true)    (p2c2 : PySem.W.findIn K (.ref c2) "__setattr__" = some (some (.builtin "object.__setattr__")))    (p3c2 : PySem.W.findIn K (.ref c2) "__getattribute__" = some (some (.builtin "BaseException.__getattribute__")))    (p4c2 : PySem.W.findIn K (.ref c2) "__getattr__" = some none)    (p5c2 : PySem.W.findIn K (.ref c2) "__class__" = some (some (.builtin "object.__class__"))) (kc2 : PySem.W.keepIn K (.ref c2) = true)
    (nc2 : PySem.W.nsOkIn K Nc2 = true) (ic2 : PySem.W.nsIn K Nc2 "__init__" = some none)
    (lc3 : K.lookup c3 = some (excClassObj nmc3 qnc3 c3 Nc3 bsc3 (.ref cS :: Ex.bmV) true snc3 suc3 abc3 coc3 cdc3 uc3 vc3 wc3 xc3 yc3 "ValueError.__new__"))
    (p0c3 : PySem.W.specialIn K (.ref c3) "__call__" = some (some (.builtin "type.__call__")))    (p1c3 : PySem.W.instIn K (.ref c3) (.type "type") = some true)    (p2c3 : PySem.W.findIn K (.ref c3) "__setattr__" = some (some (.builtin "object.__setattr__")))    (p3c3 : PySem.W.findIn K (.ref c3) "__getattribute__" = some (some (.builtin "BaseException.__getattribute__")))    (p4c3 : PySem.W.findIn K (.ref c3) "__getattr__" = some none)    (p5c3 : PySem.W.findIn K (.ref c3) "__class__" = some (some (.builtin "object.__class__"))) (kc3 : PySem.W.keepIn K (.ref c3) = true)
    (nc3 : PySem.W.nsOkIn K Nc3 = true) (ic3 : PySem.W.nsIn K Nc3 "__init__" = some none)
    (lc4 : K.lookup c4 = some (excClassObj nmc4 qnc4 c4 Nc4 bsc4 (.ref cS :: Ex.bmV) true snc4 suc4 abc4 coc4 cdc4 uc4 vc4 wc4 xc4 yc4 "ValueError.__new__"))
    (p0c4 : PySem.W.specialIn K (.ref c4) "__call__" = some (some (.builtin "type.__call__")))    (p1c4 : PySem.W.instIn K (.ref c4) (.type "type") = some true)    (p2c4 : PySem.W.findIn K (.ref c4) "__setattr__" = some (some (.builtin "object.__setattr__")))    (p3c4 : PySem.W.findIn K (.ref c4) "__getattribute__" = some (some (.builtin "BaseException.__getattribute__")))    (p4c4 : PySem.W.findIn K (.ref c4) "__getattr__" = some none)    (p5c4 : PySem.W.findIn K (.ref c4) "__class__" = some (some (.builtin "object.__class__"))) (kc4 : PySem.W.keepIn K (.ref c4) = true)
    (nc4 : PySem.W.nsOkIn K Nc4 = true) (ic4 : PySem.W.nsIn K Nc4 "__init__" = some none)
    (lc5 : K.lookup c5 = some (excClassObj nmc5 qnc5 c5 Nc5 bsc5 (.ref cS :: Ex.bmV) true snc5 suc5 abc5 coc5 cdc5 uc5 vc5 wc5 xc5 yc5 "ValueError.__new__"))
    (p0c5 : PySem.W.specialIn K (.ref c5) "__call__" = some (some (.builtin "type.__call__")))    (p1c5 : PySem.W.instIn K (.ref c5) (.type "type") = some true)    (p2c5 : PySem.W.findIn K (.ref c5) "__setattr__" = some (some (.builtin "object.__setattr__")))    (p3c5 : PySem.W.findIn K (.ref c5) "__getattribute__" = some (some (.builtin "BaseException.__getattribute__")))    (p4c5 : PySem.W.findIn K (.ref c5) "__getattr__" = some none)    (p5c5 : PySem.W.findIn K (.ref c5) "__class__" = some (some (.builtin "object.__class__"))) (kc5 : PySem.W.keepIn K (.ref c5) = true)
    (nc5 : PySem.W.nsOkIn K Nc5 = true) (ic5 : PySem.W.nsIn K Nc5 "__init__" = some none)
    (lc6 : K.lookup c6 = some (excClassObj nmc6 qnc6 c6 Nc6 bsc6 (.ref cS :: Ex.bmV) true snc6 suc6 abc6 coc6 cdc6 uc6 vc6 wc6 xc6 yc6 "ValueError.__new__"))
    (p0c6 : PySem.W.specialIn K (.ref c6) "__call__" = some (some (.builtin "type.__call__")))    (p1c6 : PySem.W.instIn K (.ref c6) (.type "type") = some true)    (p2c6 : PySem.W.findIn K (.ref c6) "__setattr__" = some (some (.builtin "object.__setattr__")))    (p3c6 : PySem.W.findIn K (.ref c6) "__getattribute__" = some (some (.builtin "BaseException.__getattribute__")))    (p4c6 : PySem.W.findIn K (.ref c6) "__getattr__" = some none)    (p5c6 : PySem.W.findIn K (.ref c6) "__class__" = some (some (.builtin "object.__class__"))) (kc6 : PySem.W.keepIn K (.ref c6) = true)
    (lc7 : K.lookup c7 = some (excClassObj nmc7 qnc7 c7 Nc7 bsc7 (.ref cS :: Ex.bmV) true snc7 suc7 abc7 coc7 cdc7 uc7 vc7 wc7 xc7 yc7 "ValueError.__new__"))
    (p0c7 : PySem.W.specialIn K (.ref c7) "__call__" = some (some (.builtin "type.__call__")))    (p1c7 : PySem.W.instIn K (.ref c7) (.type "type") = some true)    (p2c7 : PySem.W.findIn K (.ref c7) "__setattr__" = some (some (.builtin "object.__setattr__")))    (p3c7 : PySem.W.findIn K (.ref c7) "__getattribute__" = some (some (.builtin "BaseException.__getattribute__")))    (p4c7 : PySem.W.findIn K (.ref c7) "__getattr__" = some none)    (p5c7 : PySem.W.findIn K (.ref c7) "__class__" = some (some (.builtin "object.__class__"))) (kc7 : PySem.W.keepIn K (.ref c7) = true)
    (lcS : K.lookup cS = some (excClassObj nmcS qncS cS NcS bscS Ex.bmV true sncS sucS abcS cocS cdcS ucS vcS wcS xcS ycS "ValueError.__new__"))
    (p0cS : PySem.W.specialIn K (.ref cS) "__call__" = some (some (.builtin "type.__call__")))    (p1cS : PySem.W.instIn K (.ref cS) (.type "type") = some true)    (p2cS : PySem.W.findIn K (.ref cS) "__setattr__" = some (some (.builtin "object.__setattr__")))    (p3cS : PySem.W.findIn K (.ref cS) "__getattribute__" = some (some (.builtin "BaseException.__getattribute__")))    (p4cS : PySem.W.findIn K (.ref cS) "__getattr__" = some none)    (p5cS : PySem.W.findIn K (.ref cS) "__class__" = some (some (.builtin "object.__class__"))) (kcS : PySem.W.keepIn K (.ref cS) = true)
    (tl : PySem.W.tailIn K Ex.bmV (.ref cS :: Ex.bmV) = true) (tS : PySem.W.tailIn K Ex.bmV Ex.bmV = true) (nd : List.Nodup [cS, c0, c1, c2, c3, c4, c5, c6, c7])
    (atc0 : PySem.W.findIn K (.ref c0) "place" = some none)
    (atc6 : PySem.W.findIn K (.ref c6) "room" = some none)
    (atc7 : PySem.W.findIn K (.ref c7) "letter" = some none)
    (a1 : PySem.W.findIn K (.ref c0) "__init__" = some (some (.ref f1))) (i1' : PySem.W.isFn K (.ref f1) = true) (l1 : K.lookup f1 = some ⟨oc1, od1, .func (PySem.W.fnOf "__init__" "NoSaying.__init__" (defArgs sI1) (defBody sI1) (defScope sI1) .none kV1 dc1 pm1 an1 cd1 ct1), sl1⟩) (cc1 : PySem.W.codeIn K cd1 "NoSaying.__init__" = true) (k1 : PySem.W.keepIn K (.ref f1) = true)
    (a2 : PySem.W.findIn K (.ref c6) "__init__" = some (some (.ref f2))) (i2' : PySem.W.isFn K (.ref f2) = true) (l2 : K.lookup f2 = some ⟨oc2, od2, .func (PySem.W.fnOf "__init__" "NoTree.__init__" (defArgs sI2) (defBody sI2) (defScope sI2) .none kV2 dc2 pm2 an2 cd2 ct2), sl2⟩) (cc2 : PySem.W.codeIn K cd2 "NoTree.__init__" = true) (k2 : PySem.W.keepIn K (.ref f2) = true)
    (a3 : PySem.W.findIn K (.ref c7) "__init__" = some (some (.ref f3))) (i3' : PySem.W.isFn K (.ref f3) = true) (l3 : K.lookup f3 = some ⟨oc3, od3, .func (PySem.W.fnOf "__init__" "HasLetter.__init__" (defArgs sI3) (defBody sI3) (defScope sI3) .none kV3 dc3 pm3 an3 cd3 ct3), sl3⟩) (cc3 : PySem.W.codeIn K cd3 "HasLetter.__init__" = true) (k3 : PySem.W.keepIn K (.ref f3) = true)
    (a4 : PySem.W.nsIn K mainGlobals "read" = some (some (.ref f4))) (l4 : K.lookup f4 = some ⟨oc4, od4, .func (PySem.W.fnOf "read" "read" (defArgs sRd) (defBody sRd) (defScope sRd) .none kV4 dc4 pm4 an4 cd4 ct4), sl4⟩) (cc4 : PySem.W.codeIn K cd4 "read" = true) (k4 : PySem.W.keepIn K (.ref f4) = true)
    (a5 : PySem.W.nsIn K mainGlobals "begun" = some (some (.ref f5))) (l5 : K.lookup f5 = some ⟨oc5, od5, .func (PySem.W.fnOf "begun" "begun" (defArgs sBg) (defBody sBg) (defScope sBg) .none kV5 dc5 pm5 an5 cd5 ct5), sl5⟩) (cc5 : PySem.W.codeIn K cd5 "begun" = true) (k5 : PySem.W.keepIn K (.ref f5) = true)
    (a6 : PySem.W.nsIn K mainGlobals "gone_on" = some (some (.ref f6))) (l6 : K.lookup f6 = some ⟨oc6, od6, .func (PySem.W.fnOf "gone_on" "gone_on" (defArgs sGo) (defBody sGo) (defScope sGo) .none kV6 dc6 pm6 an6 cd6 ct6), sl6⟩) (cc6 : PySem.W.codeIn K cd6 "gone_on" = true) (k6 : PySem.W.keepIn K (.ref f6) = true)
    (a7 : PySem.W.nsIn K mainGlobals "denied" = some (some (.ref f7))) (l7 : K.lookup f7 = some ⟨oc7, od7, .func (PySem.W.fnOf "denied" "denied" (defArgs sDn) (defBody sDn) (defScope sDn) .none kV7 dc7 pm7 an7 cd7 ct7), sl7⟩) (cc7 : PySem.W.codeIn K cd7 "denied" = true) (k7 : PySem.W.keepIn K (.ref f7) = true)
    (a8 : PySem.W.nsIn K mainGlobals "_law_mix" = some (some (.ref f8))) (l8 : K.lookup f8 = some ⟨oc8, od8, .func (PySem.W.fnOf "_law_mix" "_law_mix" (defArgs sMix) (defBody sMix) (defScope sMix) .none kV8 dc8 pm8 an8 cd8 ct8), sl8⟩) (cc8 : PySem.W.codeIn K cd8 "_law_mix" = true) (k8 : PySem.W.keepIn K (.ref f8) = true)
    (a9 : PySem.W.nsIn K mainGlobals "_law_built" = some (some (.ref f9))) (l9 : K.lookup f9 = some ⟨oc9, od9, .func (PySem.W.fnOf "_law_built" "_law_built" (defArgs sBt) (defBody sBt) (defScope sBt) .none kV9 dc9 pm9 an9 cd9 ct9), sl9⟩) (cc9 : PySem.W.codeIn K cd9 "_law_built" = true) (k9 : PySem.W.keepIn K (.ref f9) = true)
    (a10 : PySem.W.nsIn K mainGlobals "_law_text" = some (some (.ref f10))) (l10 : K.lookup f10 = some ⟨oc10, od10, .func (PySem.W.fnOf "_law_text" "_law_text" (defArgs sTx) (defBody sTx) (defScope sTx) .none kV10 dc10 pm10 an10 cd10 ct10), sl10⟩) (cc10 : PySem.W.codeIn K cd10 "_law_text" = true) (k10 : PySem.W.keepIn K (.ref f10) = true)
    (a11 : PySem.W.nsIn K mainGlobals "_law_bad_place" = some (some (.ref f11))) (l11 : K.lookup f11 = some ⟨oc11, od11, .func (PySem.W.fnOf "_law_bad_place" "_law_bad_place" (defArgs sBp) (defBody sBp) (defScope sBp) .none kV11 dc11 pm11 an11 cd11 ct11), sl11⟩) (cc11 : PySem.W.codeIn K cd11 "_law_bad_place" = true) (k11 : PySem.W.keepIn K (.ref f11) = true)
    (a12 : PySem.W.nsIn K mainGlobals "_law_spoilt" = some (some (.ref f12))) (l12 : K.lookup f12 = some ⟨oc12, od12, .func (PySem.W.fnOf "_law_spoilt" "_law_spoilt" (defArgs sSp) (defBody sSp) (defScope sSp) .none kV12 dc12 pm12 an12 cd12 ct12), sl12⟩) (cc12 : PySem.W.codeIn K cd12 "_law_spoilt" = true) (k12 : PySem.W.keepIn K (.ref f12) = true)
    (a13 : PySem.W.nsIn K mainGlobals "_law_told" = some (some (.ref f13))) (l13 : K.lookup f13 = some ⟨oc13, od13, .func (PySem.W.fnOf "_law_told" "_law_told" (defArgs sTd) (defBody sTd) (defScope sTd) .none kV13 dc13 pm13 an13 cd13 ct13), sl13⟩) (cc13 : PySem.W.codeIn K cd13 "_law_told" = true) (k13 : PySem.W.keepIn K (.ref f13) = true)
    (a14 : PySem.W.nsIn K mainGlobals "_law_kinds" = some (some (.ref f14))) (l14 : K.lookup f14 = some ⟨oc14, od14, .func (PySem.W.fnOf "_law_kinds" "_law_kinds" (defArgs sKd) (defBody sKd) (defScope sKd) .none kV14 dc14 pm14 an14 cd14 ct14), sl14⟩) (cc14 : PySem.W.codeIn K cd14 "_law_kinds" = true) (k14 : PySem.W.keepIn K (.ref f14) = true)
    (a15 : PySem.W.nsIn K mainGlobals "_law_made_well" = some (some (.ref f15))) (l15 : K.lookup f15 = some ⟨oc15, od15, .func (PySem.W.fnOf "_law_made_well" "_law_made_well" (defArgs sMw) (defBody sMw) (defScope sMw) .none kV15 dc15 pm15 an15 cd15 ct15), sl15⟩) (cc15 : PySem.W.codeIn K cd15 "_law_made_well" = true) (k15 : PySem.W.keepIn K (.ref f15) = true)
    (a16 : PySem.W.nsIn K mainGlobals "_law_asked" = some (some (.ref f16))) (l16 : K.lookup f16 = some ⟨oc16, od16, .func (PySem.W.fnOf "_law_asked" "_law_asked" (defArgs sAs) (defBody sAs) (defScope sAs) .none kV16 dc16 pm16 an16 cd16 ct16), sl16⟩) (cc16 : PySem.W.codeIn K cd16 "_law_asked" = true) (k16 : PySem.W.keepIn K (.ref f16) = true)
    (a17 : PySem.W.nsIn K mainGlobals "law" = some (some (.ref f17))) (l17 : K.lookup f17 = some ⟨oc17, od17, .func (PySem.W.fnOf "law" "law" (defArgs sLaw) (defBody sLaw) (defScope sLaw) .none kV17 dc17 pm17 an17 cd17 ct17), sl17⟩) (cc17 : PySem.W.codeIn K cd17 "law" = true) (k17 : PySem.W.keepIn K (.ref f17) = true)
    (aL : PySem.W.nsIn K mainGlobals "LEAVES" = some (some (.ref dL))) (lL : K.lookup dL = some ⟨.type "dict", none, .dict esL nL, #[]⟩) (kL : PySem.W.KeysLit w.params esL.toList) (oL : (dL == sysModules) = false) (hL : keysIn esL.toList ["0", "p", "q", "r"] = true)
    (aB : PySem.W.nsIn K mainGlobals "BEGINNINGS" = some (some (.ref dB))) (lB : K.lookup dB = some ⟨.type "dict", none, .dict esB nB, #[]⟩) (kB : PySem.W.KeysLit w.params esB.toList) (oB : (dB == sysModules) = false) (hB : keysIn esB.toList ["~", "[", "("] = true)
    (aJ : PySem.W.nsIn K mainGlobals "JOINS" = some (some (.ref dJ))) (lJ : K.lookup dJ = some ⟨.type "dict", none, .dict esJ nJ, #[]⟩) (kJ : PySem.W.KeysLit w.params esJ.toList) (oJ : (dJ == sysModules) = false) (hJ : keysIn esJ.toList ["&", "|", ">"] = true)
    (g0 : PySem.W.nsIn K dL "0" = some (some (.ref x0))) (t0 : K.lookup x0 = some ⟨.type "tuple", dd0, .seq i0.toArray nt0, st0⟩) (v0 : Vals [.str "no"] i0)
    (gp : PySem.W.nsIn K dL "p" = some (some (.ref xp))) (tp : K.lookup xp = some ⟨.type "tuple", ddp, .seq ip.toArray ntp, stp⟩) (vp : Vals [.str "letter", .str "p"] ip)
    (gq : PySem.W.nsIn K dL "q" = some (some (.ref xq))) (tq : K.lookup xq = some ⟨.type "tuple", ddq, .seq iq.toArray ntq, stq⟩) (vq : Vals [.str "letter", .str "q"] iq)
    (gr : PySem.W.nsIn K dL "r" = some (some (.ref xr))) (tr : K.lookup xr = some ⟨.type "tuple", ddr, .seq ir.toArray ntr, str⟩) (vr : Vals [.str "letter", .str "r"] ir)
    (g1 : PySem.W.nsIn K dB "~" = some (some (.ref x1))) (t1 : K.lookup x1 = some ⟨.type "tuple", dd1, .seq i1.toArray nt1, st1⟩) (v1 : Vals [.str "not"] i1)
    (g2 : PySem.W.nsIn K dB "[" = some (some (.ref x2))) (t2 : K.lookup x2 = some ⟨.type "tuple", dd2, .seq i2.toArray nt2, st2⟩) (v2 : Vals [.str "shown"] i2)
    (g3 : PySem.W.nsIn K dB "(" = some (some (.ref x3))) (t3 : K.lookup x3 = some ⟨.type "tuple", dd3, .seq i3.toArray nt3, st3⟩) (v3 : Vals [] i3)
    (b0 : PySem.W.nsIn K dB "0" = some none)
    (bp : PySem.W.nsIn K dB "p" = some none)
    (bq : PySem.W.nsIn K dB "q" = some none)
    (br : PySem.W.nsIn K dB "r" = some none)
    (j1 : PySem.W.nsIn K dJ "&" = some (some (.str "and" tj1)))
    (j2 : PySem.W.nsIn K dJ "|" = some (some (.str "or" tj2)))
    (j3 : PySem.W.nsIn K dJ ">" = some (some (.str "if" tj3)))
    (z1 : PySem.W.nsIn K mainGlobals "isinstance" = some none)    (z2 : PySem.W.nsIn K mainGlobals "int" = some none)    (z3 : PySem.W.nsIn K mainGlobals "bool" = some none)    (z4 : PySem.W.nsIn K mainGlobals "ValueError" = some none)    (z5 : PySem.W.nsIn K mainGlobals "len" = some none)    (z6 : PySem.W.nsIn K mainGlobals "range" = some none)    (z7 : PySem.W.nsIn K mainGlobals "enumerate" = some none)    (z8 : PySem.W.nsIn K mainGlobals "all" = some none)    (z9 : PySem.W.nsIn K mainGlobals "tuple" = some none) :
    ∃ fd : FuncData, (∀ (s : Shared) (v : Value), BindsTo s fd ⟨[v], []⟩ [("_law_script", v)]) ∧ ∀ base : Heap, K.In base → base.Ns mainGlobals mg → FnOk l.prog w K mg base CX0 203 fa fd ["_law_script"] (spLaw K) := by
  have e := hfa.symm.trans (PySem.W.mg_of X G a17)
  cases e
  have T : Txt K w.params mg := ⟨PySem.W.mg_none_of X G z1, PySem.W.mg_none_of X G z2, PySem.W.mg_none_of X G z3, PySem.W.mg_none_of X G z4, PySem.W.mg_none_of X G z5, PySem.W.mg_none_of X G z6⟩
  have lx : ∀ x, Lt x → ∃ a, PySem.W.nsIn K dL x = some (some (.ref a)) ∧ TK K a [.str "letter", .str x] := fun x hx => by
      rcases hx with rfl | rfl | rfl
      · exact ⟨xp, gp, tk_mk tp vp (Nat.le_of_ble_eq_true rfl)⟩
      · exact ⟨xq, gq, tk_mk tq vq (Nat.le_of_ble_eq_true rfl)⟩
      · exact ⟨xr, gr, tk_mk tr vr (Nat.le_of_ble_eq_true rfl)⟩
  have bx : ∀ x, Lt x → PySem.W.nsIn K dB x = some none := fun x hx => by
      rcases hx with rfl | rfl | rfl
      · exact bp
      · exact bq
      · exact br
  have T6 : Txt6 K w.params mg := ⟨⟨dL, PySem.W.mg_of X G aL, ⟨esL, nL, lL, kL⟩, oL, ⟨x0, g0, tk_mk t0 v0 (Nat.le_of_ble_eq_true rfl)⟩, lx⟩,
    ⟨dB, PySem.W.mg_of X G aB, ⟨esB, nB, lB, kB⟩, oB, ⟨x1, g1, tk_mk t1 v1 (Nat.le_of_ble_eq_true rfl)⟩, ⟨x2, g2, tk_mk t2 v2 (Nat.le_of_ble_eq_true rfl)⟩, ⟨x3, g3, tk_mk t3 v3 (Nat.le_of_ble_eq_true rfl)⟩, b0, bx⟩,
    ⟨dJ, PySem.W.mg_of X G aJ, ⟨esJ, nJ, lJ, kJ⟩, oJ, fun j => match j with | .and => ⟨tj1, j1⟩ | .or => ⟨tj2, j2⟩ | .if_ => ⟨tj3, j3⟩⟩, PySem.W.mg_none_of X G z7, PySem.W.mg_none_of X G z8, PySem.W.mg_none_of X G z9⟩
  have T7 : Txt7 K mg := ⟨⟨dL, esL, nL, PySem.W.mg_of X G aL, lL, hL⟩, ⟨dB, esB, nB, PySem.W.mg_of X G aB, lB, hB⟩, ⟨dJ, esJ, nJ, PySem.W.mg_of X G aJ, lJ, hJ⟩⟩
  have Ic0 : CI K cS c0 Nc0 := ⟨_, _, _, _, _, _, _, _, _, _, _, _, _, lc0⟩
  have Xc0 : Ex.XCls K c0 := Ic0.xcls tl p0c0 p1c0 p2c0 p3c0 p4c0 p5c0
  have Ic1 : CI K cS c1 Nc1 := ⟨_, _, _, _, _, _, _, _, _, _, _, _, _, lc1⟩
  have Xc1 : Ex.XCls K c1 := Ic1.xcls tl p0c1 p1c1 p2c1 p3c1 p4c1 p5c1
  have Ic2 : CI K cS c2 Nc2 := ⟨_, _, _, _, _, _, _, _, _, _, _, _, _, lc2⟩
  have Xc2 : Ex.XCls K c2 := Ic2.xcls tl p0c2 p1c2 p2c2 p3c2 p4c2 p5c2
  have Ic3 : CI K cS c3 Nc3 := ⟨_, _, _, _, _, _, _, _, _, _, _, _, _, lc3⟩
  have Xc3 : Ex.XCls K c3 := Ic3.xcls tl p0c3 p1c3 p2c3 p3c3 p4c3 p5c3
  have Ic4 : CI K cS c4 Nc4 := ⟨_, _, _, _, _, _, _, _, _, _, _, _, _, lc4⟩
  have Xc4 : Ex.XCls K c4 := Ic4.xcls tl p0c4 p1c4 p2c4 p3c4 p4c4 p5c4
  have Ic5 : CI K cS c5 Nc5 := ⟨_, _, _, _, _, _, _, _, _, _, _, _, _, lc5⟩
  have Xc5 : Ex.XCls K c5 := Ic5.xcls tl p0c5 p1c5 p2c5 p3c5 p4c5 p5c5
  have Ic6 : CI K cS c6 Nc6 := ⟨_, _, _, _, _, _, _, _, _, _, _, _, _, lc6⟩
  have Xc6 : Ex.XCls K c6 := Ic6.xcls tl p0c6 p1c6 p2c6 p3c6 p4c6 p5c6
  have Ic7 : CI K cS c7 Nc7 := ⟨_, _, _, _, _, _, _, _, _, _, _, _, _, lc7⟩
  have Xc7 : Ex.XCls K c7 := Ic7.xcls tl p0c7 p1c7 p2c7 p3c7 p4c7 p5c7
  have XcS : Ex.XCls K cS := ⟨⟨_, _, _, _, _, _, _, _, _, _, _, _, _, _, _, lcS, tS⟩, p0cS, p1cS, p2cS, p3cS, p4cS, p5cS⟩
  have iS : (PySem.W.clsIn K cS).isSome = true := by obtain ⟨cd, e, _⟩ := XcS.cls; rw [e]; rfl
  have yS : PySem.W.typeIn K (.ref cS) = some (.type "type") := by
    show (K.lookup cS).map (·.cls) = _
    rw [lcS]
    rfl
  have C : TxtC K mg cS (fun i => [c0, c1, c2, c3, c4, c5, c6, c7].getD i 0) := by
    have all : ∀ i, i < 8 → ∃ N, CI K cS ([c0, c1, c2, c3, c4, c5, c6, c7].getD i 0) N := fun i hi => by
      have e : i = 0 ∨ i = 1 ∨ i = 2 ∨ i = 3 ∨ i = 4 ∨ i = 5 ∨ i = 6 ∨ i = 7 := by omega
      rcases e with rfl | rfl | rfl | rfl | rfl | rfl | rfl | rfl
      · exact ⟨_, Ic0⟩
      · exact ⟨_, Ic1⟩
      · exact ⟨_, Ic2⟩
      · exact ⟨_, Ic3⟩
      · exact ⟨_, Ic4⟩
      · exact ⟨_, Ic5⟩
      · exact ⟨_, Ic6⟩
      · exact ⟨_, Ic7⟩
    have xs : ∀ i, i < 8 → Ex.XCls K ([c0, c1, c2, c3, c4, c5, c6, c7].getD i 0) := fun i hi => by
      have e : i = 0 ∨ i = 1 ∨ i = 2 ∨ i = 3 ∨ i = 4 ∨ i = 5 ∨ i = 6 ∨ i = 7 := by omega
      rcases e with rfl | rfl | rfl | rfl | rfl | rfl | rfl | rfl
      · exact Xc0
      · exact Xc1
      · exact Xc2
      · exact Xc3
      · exact Xc4
      · exact Xc5
      · exact Xc6
      · exact Xc7
    obtain ⟨nS, nd8⟩ := List.nodup_cons.mp nd
    have mem : ∀ i, i < 8 → [c0, c1, c2, c3, c4, c5, c6, c7].getD i 0 ∈ [c0, c1, c2, c3, c4, c5, c6, c7] := fun i hi => by
      rw [List.getD_eq_getElem?_getD, List.getElem?_eq_getElem (by exact hi)]
      exact List.getElem_mem _
    have ne : ∀ i, i < 8 → [c0, c1, c2, c3, c4, c5, c6, c7].getD i 0 ≠ cS := fun i hi z => nS (z ▸ mem i hi)
    have inj : ∀ i j, i < 8 → j < 8 → [c0, c1, c2, c3, c4, c5, c6, c7].getD i 0 = [c0, c1, c2, c3, c4, c5, c6, c7].getD j 0 → i = j := fun i j hi hj e => by
      rw [List.getD_eq_getElem?_getD, List.getD_eq_getElem?_getD, List.getElem?_eq_getElem (show i < [c0, c1, c2, c3, c4, c5, c6, c7].length from hi), List.getElem?_eq_getElem (show j < [c0, c1, c2, c3, c4, c5, c6, c7].length from hj)] at e
      exact (List.getElem_inj nd8).mp e
    refine ⟨PySem.W.mg_of X G acS, XcS, xs, fun i j hi hj => ?_, fun i hi => ?_, fun i hi => ?_, fun i hi => ?_, PySem.W.mg_of X G ac0, PySem.W.mg_of X G ac1, PySem.W.mg_of X G ac2, PySem.W.mg_of X G ac3, PySem.W.mg_of X G ac4, PySem.W.mg_of X G ac5, PySem.W.mg_of X G ac6, PySem.W.mg_of X G ac7⟩
    · obtain ⟨N1, h1⟩ := all i hi
      obtain ⟨N2, h2⟩ := all j hj
      rw [h1.kit h2 (ne j hj)]
      by_cases e : j = i
      · subst e; simp
      · rw [decide_eq_false e, decide_eq_false (fun z => e (inj j i hj hi z))]
    · obtain ⟨N1, h1⟩ := all i hi
      exact h1.kS iS yS (ne i hi)
    · obtain ⟨N1, h1⟩ := all i hi
      exact h1.kV
    · obtain ⟨N1, h1⟩ := all i hi
      exact h1.mr
  have F1 := fun_mk (st := sI1) l1 cc1 k1
  have F2 := fun_mk (st := sI2) l2 cc2 k2
  have F3 := fun_mk (st := sI3) l3 cc3 k3
  have F4 := fun_mk (st := sRd) l4 cc4 k4
  have F5 := fun_mk (st := sBg) l5 cc5 k5
  have F6 := fun_mk (st := sGo) l6 cc6 k6
  have F7 := fun_mk (st := sDn) l7 cc7 k7
  have F8 := fun_mk (st := sMix) l8 cc8 k8
  have F9 := fun_mk (st := sBt) l9 cc9 k9
  have F10 := fun_mk (st := sTx) l10 cc10 k10
  have F11 := fun_mk (st := sBp) l11 cc11 k11
  have F12 := fun_mk (st := sSp) l12 cc12 k12
  have F13 := fun_mk (st := sTd) l13 cc13 k13
  have F14 := fun_mk (st := sKd) l14 cc14 k14
  have F15 := fun_mk (st := sMw) l15 cc15 k15
  have F16 := fun_mk (st := sAs) l16 cc16 k16
  have F17 := fun_mk (st := sLaw) l17 cc17 k17
  have b1' := F1.binds (ps := ["self", "place"]) fun _ _ _ _ _ _ us hl => match us, hl with | [_, _], _ => rfl
  have b2' := F2.binds (ps := ["self", "room"]) fun _ _ _ _ _ _ us hl => match us, hl with | [_, _], _ => rfl
  have b3' := F3.binds (ps := ["self", "letter"]) fun _ _ _ _ _ _ us hl => match us, hl with | [_, _], _ => rfl
  have b4' := F4.binds (ps := ["text"]) fun _ _ _ _ _ _ us hl => match us, hl with | [_], _ => rfl
  have m4 := PySem.W.mg_of X G a4
  have b5' := F5.binds (ps := ["sign", "place", "waiting"]) fun _ _ _ _ _ _ us hl => match us, hl with | [_, _, _], _ => rfl
  have m5 := PySem.W.mg_of X G a5
  have b6' := F6.binds (ps := ["whole", "sign", "place", "waiting"]) fun _ _ _ _ _ _ us hl => match us, hl with | [_, _, _, _], _ => rfl
  have m6 := PySem.W.mg_of X G a6
  have b7' := F7.binds (ps := ["whole", "waiting"]) fun _ _ _ _ _ _ us hl => match us, hl with | [_, _], _ => rfl
  have m7 := PySem.W.mg_of X G a7
  have b8' := F8.binds (ps := ["_law_script", "_law_k"]) fun _ _ _ _ _ _ us hl => match us, hl with | [_, _], _ => rfl
  have m8 := PySem.W.mg_of X G a8
  have b9' := F9.binds (ps := ["_law_script", "_law_at", "_law_count"]) fun _ _ _ _ _ _ us hl => match us, hl with | [_, _, _], _ => rfl
  have m9 := PySem.W.mg_of X G a9
  have b10' := F10.binds (ps := ["_law_saying"]) fun _ _ _ _ _ _ us hl => match us, hl with | [_], _ => rfl
  have m10 := PySem.W.mg_of X G a10
  have b11' := F11.binds (ps := ["_law_text_here"]) fun _ _ _ _ _ _ us hl => match us, hl with | [_], _ => rfl
  have m11 := PySem.W.mg_of X G a11
  have b12' := F12.binds (ps := ["_law_text_here", "_law_cell"]) fun _ _ _ _ _ _ us hl => match us, hl with | [_, _], _ => rfl
  have m12 := PySem.W.mg_of X G a12
  have b13' := F13.binds (ps := ["_law_e"]) fun _ _ _ _ _ _ us hl => match us, hl with | [_], _ => rfl
  have m13 := PySem.W.mg_of X G a13
  have b14' := F14.binds (ps := ["_law_e"]) fun _ _ _ _ _ _ us hl => match us, hl with | [_], _ => rfl
  have m14 := PySem.W.mg_of X G a14
  have b15' := F15.binds (ps := ["_law_number"]) fun _ _ _ _ _ _ us hl => match us, hl with | [_], _ => rfl
  have m15 := PySem.W.mg_of X G a15
  have b16' := F16.binds (ps := ["_law_text_here"]) fun _ _ _ _ _ _ us hl => match us, hl with | [_], _ => rfl
  have m16 := PySem.W.mg_of X G a16
  have Z1 : Fld K c0 f1 "place" := ⟨Xc0, a1, i1', atc0, kc0⟩
  have Z2 : Fld K c6 f2 "room" := ⟨Xc6, a2, i2', atc6, kc6⟩
  have Z3 : Fld K c7 f3 "letter" := ⟨Xc7, a3, i3', atc7, kc7⟩
  have Z0 : ∀ i, 1 ≤ i → i ≤ 5 → Fld0 K ([c0, c1, c2, c3, c4, c5, c6, c7].getD i 0) := fun i h1 h2 => by
    have e : i = 1 ∨ i = 2 ∨ i = 3 ∨ i = 4 ∨ i = 5 := by omega
    rcases e with rfl | rfl | rfl | rfl | rfl
    · exact ⟨Xc1, Ic1.no nc1 ic1, kc1⟩
    · exact ⟨Xc2, Ic2.no nc2 ic2, kc2⟩
    · exact ⟨Xc3, Ic3.no nc3 ic3, kc3⟩
    · exact ⟨Xc4, Ic4.no nc4 ic4, kc4⟩
    · exact ⟨Xc5, Ic5.no nc5 ic5, kc5⟩
  refine ⟨PySem.W.fnOf "law" "law" (defArgs sLaw) (defBody sLaw) (defScope sLaw) .none kV17 dc17 pm17 an17 cd17 ct17, fun s v => .of_eq rfl, fun base _ _ => ?_⟩
  have G1 : FnOk l.prog w K mg base CX0 1 f1 _ ["self", "place"] (spInit c0 "place") := ok_i1 F1 Z1
  have G2 : FnOk l.prog w K mg base CX0 1 f2 _ ["self", "room"] (spInit c6 "room") := ok_i2 F2 Z2
  have G3 : FnOk l.prog w K mg base CX0 1 f3 _ ["self", "letter"] (spInit c7 "letter") := ok_i3 F3 Z3
  have GBg : FnOk l.prog w K mg base (CX1 l.prog w) 3 f5 _ ["sign", "place", "waiting"] (spBg7 K c0) := ok_bg7 F5 T6 T7 F7 b7' m7 G1 b1' Z1 C.m0
  have GGo : FnOk l.prog w K mg base (CX1 l.prog w) 3 f6 _ ["whole", "sign", "place", "waiting"] (spGo7 K c0) := ok_go7 F6 T T6 T7 F7 b7' m7 G1 b1' Z1 C.m0
  have GR : FnOk l.prog w K mg base (CX1 l.prog w) 4 f4 _ ["text"] (spRd7 K c0) := ok_rd7 F4 T T6 GBg k5 b5' m5 GGo k6 b6' m6 G1 b1' Z1 C.m0
  have GM : FnOk l.prog w K mg base CX0 1 f8 _ ["_law_script", "_law_k"] (spMix K) := ok_mix F8 T
  have GB : FnOk l.prog w K mg base CX0 2 f9 _ ["_law_script", "_law_at", "_law_count"] (spBuilt K) := ok_built F9 T GM k8 b8' m8
  have GX : FnOk l.prog w K mg base CX0 201 f10 _ ["_law_saying"] (spText K 200) := text_all F10 b10' m10 200
  have GP : FnOk l.prog w K mg base CX0 1 f11 _ ["_law_text_here"] (spBp K) := ok_bp F11 T
  have GS : FnOk l.prog w K mg base CX0 1 f12 _ ["_law_text_here", "_law_cell"] (spSp K) := ok_sp F12 T
  have GT : FnOk l.prog w K mg base CX0 1 f13 _ ["_law_e"] (spTd fun i => [c0, c1, c2, c3, c4, c5, c6, c7].getD i 0) := ok_td F13 T C
  have GK : FnOk l.prog w K mg base CX0 2 f14 _ ["_law_e"] (spKd fun i => [c0, c1, c2, c3, c4, c5, c6, c7].getD i 0) := ok_kd F14 GT k13 b13' m13
  have GW : FnOk l.prog w K mg base CX0 3 f15 _ ["_law_number"] spMw := ok_mw F15 T C GT k13 b13' m13 G1 b1' Z1 G2 b2' Z2 G3 b3' Z3 Z0
  have GA : FnOk l.prog w K mg base CX0 202 f16 _ ["_law_text_here"] spAs := ok_as F16 T C Z1 GP k11 b11' m11 GR k4 b4' m4 GX k10 b10' m10 GK k14 b14' m14
  exact ok_law F17 GM k8 b8' m8 GB k9 b9' m9 GX k10 b10' m10 GS k12 b12' m12 GW k15 b15' m15 GA k16 b16' m16
theorem walk {l : PySem.W.OpenLaw} {q : Program} {loose : List Str} {XP : (Str → Option Value) → Heap → Prop} {YP : World → Heap → Prop} {d : DefRec} {K : Params → PySem.W.Frag} (hn : l.most = some 63) (hdf : d.params.defaults = [])
    (hY : ∀ (w : World) (h : Heap), YP w h → (K w.params).In h)
    (F : ∀ (w : World) (mg : Str → Option Value) (fa : Addr) (h : Heap), (K w.params).In h → h.Ns mainGlobals mg → mg d.name = some (.ref fa) →
      ∃ fd : FuncData, (∀ (s : Shared) (u : Value), BindsTo s fd ⟨[u], []⟩ [("_law_script", u)]) ∧ ∀ base : Heap, (K w.params).In base → base.Ns mainGlobals mg → FnOk l.prog w (K w.params) mg base CX0 203 fa fd ["_law_script"] (spLaw (K w.params))) :
    PySem.W.WalkO q loose XP YP l.row.toRowW d [] (fun f vs => PySem.call f vs) :=
  L2.walk_of (n := 63) (k := 203) (x := "_law_script") (CX := fun _ => CX0) (sp := fun w => spLaw (K w.params)) hn (by decide) hdf ⟨rfl, by decide, by decide⟩ hY F (fun _ _ a ns hl _ hS => ⟨a, ns, rfl, hS, hl, fun _ => rfl⟩) fun _ _ _ _ _ z => z
end My
open PySem PySem.W PyProof.Rows
set_option maxRecDepth 100000 in
set_option maxHeartbeats 0 in
theorem PySem.Challenge.cw_selfsay_k07_no_saying_holds : PySem.Challenge.rw_selfsay_k07_no_saying.Holds := by
  w_on; o_law; k_head; (case hw => w_witness2)
  k_fill
  refine My.walk (l := PySem.Challenge.rw_selfsay_k07_no_saying) rfl rfl (fun w h Y => PySem.W.kIn_of Y) ?F
  case F =>
    intro w mg fa h KX G hmg
    refine' My.all_mk KX G hmg ?my_ac0 ?my_ac1 ?my_ac2 ?my_ac3 ?my_ac4 ?my_ac5 ?my_ac6 ?my_ac7 ?my_acS ?my_lc0 ?my_p0c0 ?my_p1c0 ?my_p2c0 ?my_p3c0 ?my_p4c0 ?my_p5c0 ?my_kc0 ?my_lc1 ?my_p0c1 ?my_p1c1 ?my_p2c1 ?my_p3c1 ?my_p4c1 ?my_p5c1 ?my_kc1 ?my_nc1 ?my_ic1 ?my_lc2 ?my_p0c2 ?my_p1c2 ?my_p2c2 ?my_p3c2 ?my_p4c2 ?my_p5c2 ?my_kc2 ?my_nc2 ?my_ic2 ?my_lc3 ?my_p0c3 ?my_p1c3 ?my_p2c3 ?my_p3c3 ?my_p4c3 ?my_p5c3 ?my_kc3 ?my_nc3 ?my_ic3 ?my_lc4 ?my_p0c4 ?my_p1c4 ?my_p2c4 ?my_p3c4 ?my_p4c4 ?my_p5c4 ?my_kc4 ?my_nc4 ?my_ic4 ?my_lc5 ?my_p0c5 ?my_p1c5 ?my_p2c5 ?my_p3c5 ?my_p4c5 ?my_p5c5 ?my_kc5 ?my_nc5 ?my_ic5 ?my_lc6 ?my_p0c6 ?my_p1c6 ?my_p2c6 ?my_p3c6 ?my_p4c6 ?my_p5c6 ?my_kc6 ?my_lc7 ?my_p0c7 ?my_p1c7 ?my_p2c7 ?my_p3c7 ?my_p4c7 ?my_p5c7 ?my_kc7 ?my_lcS ?my_p0cS ?my_p1cS ?my_p2cS ?my_p3cS ?my_p4cS ?my_p5cS ?my_kcS ?my_tl ?my_tS ?my_nd ?my_atc0 ?my_atc6 ?my_atc7 ?my_a1 ?my_i1_ ?my_l1 ?my_cc1 ?my_k1 ?my_a2 ?my_i2_ ?my_l2 ?my_cc2 ?my_k2 ?my_a3 ?my_i3_ ?my_l3 ?my_cc3 ?my_k3 ?my_a4 ?my_l4 ?my_cc4 ?my_k4 ?my_a5 ?my_l5 ?my_cc5 ?my_k5 ?my_a6 ?my_l6 ?my_cc6 ?my_k6 ?my_a7 ?my_l7 ?my_cc7 ?my_k7 ?my_a8 ?my_l8 ?my_cc8 ?my_k8 ?my_a9 ?my_l9 ?my_cc9 ?my_k9 ?my_a10 ?my_l10 ?my_cc10 ?my_k10 ?my_a11 ?my_l11 ?my_cc11 ?my_k11 ?my_a12 ?my_l12 ?my_cc12 ?my_k12 ?my_a13 ?my_l13 ?my_cc13 ?my_k13 ?my_a14 ?my_l14 ?my_cc14 ?my_k14 ?my_a15 ?my_l15 ?my_cc15 ?my_k15 ?my_a16 ?my_l16 ?my_cc16 ?my_k16 ?my_a17 ?my_l17 ?my_cc17 ?my_k17 ?my_aL ?my_lL ?my_kL ?my_oL ?my_hL ?my_aB ?my_lB ?my_kB ?my_oB ?my_hB ?my_aJ ?my_lJ ?my_kJ ?my_oJ ?my_hJ ?my_g0 ?my_t0 ?my_v0 ?my_gp ?my_tp ?my_vp ?my_gq ?my_tq ?my_vq ?my_gr ?my_tr ?my_vr ?my_g1 ?my_t1 ?my_v1 ?my_g2 ?my_t2 ?my_v2 ?my_g3 ?my_t3 ?my_v3 ?my_b0 ?my_bp ?my_bq ?my_br ?my_j1 ?my_j2 ?my_j3 ?my_z1 ?my_z2 ?my_z3 ?my_z4 ?my_z5 ?my_z6 ?my_z7 ?my_z8 ?my_z9
    (case my_ac0 => k_is)
    (case my_ac1 => k_is)
    (case my_ac2 => k_is)
    (case my_ac3 => k_is)
    (case my_ac4 => k_is)
    (case my_ac5 => k_is)
    (case my_ac6 => k_is)
    (case my_ac7 => k_is)
    (case my_acS => k_is)
    (case my_lc0 => k_is)
    (case my_p0c0 => k_is)
    (case my_p1c0 => k_is)
    (case my_p2c0 => k_is)
    (case my_p3c0 => k_is)
    (case my_p4c0 => k_is)
    (case my_p5c0 => k_is)
    (case my_kc0 => k_is)
    (case my_lc1 => k_is)
    (case my_p0c1 => k_is)
    (case my_p1c1 => k_is)
    (case my_p2c1 => k_is)
    (case my_p3c1 => k_is)
    (case my_p4c1 => k_is)
    (case my_p5c1 => k_is)
    (case my_kc1 => k_is)
    (case my_nc1 => kernel_rfl)
    (case my_ic1 => k_is)
    (case my_lc2 => k_is)
    (case my_p0c2 => k_is)
    (case my_p1c2 => k_is)
    (case my_p2c2 => k_is)
    (case my_p3c2 => k_is)
    (case my_p4c2 => k_is)
    (case my_p5c2 => k_is)
    (case my_kc2 => k_is)
    (case my_nc2 => kernel_rfl)
    (case my_ic2 => k_is)
    (case my_lc3 => k_is)
    (case my_p0c3 => k_is)
    (case my_p1c3 => k_is)
    (case my_p2c3 => k_is)
    (case my_p3c3 => k_is)
    (case my_p4c3 => k_is)
    (case my_p5c3 => k_is)
    (case my_kc3 => k_is)
    (case my_nc3 => kernel_rfl)
    (case my_ic3 => k_is)
    (case my_lc4 => k_is)
    (case my_p0c4 => k_is)
    (case my_p1c4 => k_is)
    (case my_p2c4 => k_is)
    (case my_p3c4 => k_is)
    (case my_p4c4 => k_is)
    (case my_p5c4 => k_is)
    (case my_kc4 => k_is)
    (case my_nc4 => kernel_rfl)
    (case my_ic4 => k_is)
    (case my_lc5 => k_is)
    (case my_p0c5 => k_is)
    (case my_p1c5 => k_is)
    (case my_p2c5 => k_is)
    (case my_p3c5 => k_is)
    (case my_p4c5 => k_is)
    (case my_p5c5 => k_is)
    (case my_kc5 => k_is)
    (case my_nc5 => kernel_rfl)
    (case my_ic5 => k_is)
    (case my_lc6 => k_is)
    (case my_p0c6 => k_is)
    (case my_p1c6 => k_is)
    (case my_p2c6 => k_is)
    (case my_p3c6 => k_is)
    (case my_p4c6 => k_is)
    (case my_p5c6 => k_is)
    (case my_kc6 => k_is)
    (case my_lc7 => k_is)
    (case my_p0c7 => k_is)
    (case my_p1c7 => k_is)
    (case my_p2c7 => k_is)
    (case my_p3c7 => k_is)
    (case my_p4c7 => k_is)
    (case my_p5c7 => k_is)
    (case my_kc7 => k_is)
    (case my_lcS => k_is)
    (case my_p0cS => k_is)
    (case my_p1cS => k_is)
    (case my_p2cS => k_is)
    (case my_p3cS => k_is)
    (case my_p4cS => k_is)
    (case my_p5cS => k_is)
    (case my_kcS => k_is)
    (case my_tl => kernel_rfl)
    (case my_tS => kernel_rfl)
    (case my_nd => decide)
    (case my_atc0 => k_is)
    (case my_atc6 => k_is)
    (case my_atc7 => k_is)
    (case my_a1 => k_is)
    (case my_i1_ => k_is)
    (case my_l1 => k_is)
    (case my_cc1 => k_is)
    (case my_k1 => k_is)
    (case my_a2 => k_is)
    (case my_i2_ => k_is)
    (case my_l2 => k_is)
    (case my_cc2 => k_is)
    (case my_k2 => k_is)
    (case my_a3 => k_is)
    (case my_i3_ => k_is)
    (case my_l3 => k_is)
    (case my_cc3 => k_is)
    (case my_k3 => k_is)
    (case my_a4 => k_is)
    (case my_l4 => k_is)
    (case my_cc4 => k_is)
    (case my_k4 => k_is)
    (case my_a5 => k_is)
    (case my_l5 => k_is)
    (case my_cc5 => k_is)
    (case my_k5 => k_is)
    (case my_a6 => k_is)
    (case my_l6 => k_is)
    (case my_cc6 => k_is)
    (case my_k6 => k_is)
    (case my_a7 => k_is)
    (case my_l7 => k_is)
    (case my_cc7 => k_is)
    (case my_k7 => k_is)
    (case my_a8 => k_is)
    (case my_l8 => k_is)
    (case my_cc8 => k_is)
    (case my_k8 => k_is)
    (case my_a9 => k_is)
    (case my_l9 => k_is)
    (case my_cc9 => k_is)
    (case my_k9 => k_is)
    (case my_a10 => k_is)
    (case my_l10 => k_is)
    (case my_cc10 => k_is)
    (case my_k10 => k_is)
    (case my_a11 => k_is)
    (case my_l11 => k_is)
    (case my_cc11 => k_is)
    (case my_k11 => k_is)
    (case my_a12 => k_is)
    (case my_l12 => k_is)
    (case my_cc12 => k_is)
    (case my_k12 => k_is)
    (case my_a13 => k_is)
    (case my_l13 => k_is)
    (case my_cc13 => k_is)
    (case my_k13 => k_is)
    (case my_a14 => k_is)
    (case my_l14 => k_is)
    (case my_cc14 => k_is)
    (case my_k14 => k_is)
    (case my_a15 => k_is)
    (case my_l15 => k_is)
    (case my_cc15 => k_is)
    (case my_k15 => k_is)
    (case my_a16 => k_is)
    (case my_l16 => k_is)
    (case my_cc16 => k_is)
    (case my_k16 => k_is)
    (case my_a17 => k_is)
    (case my_l17 => k_is)
    (case my_cc17 => k_is)
    (case my_k17 => k_is)
    (case my_aL => k_is)
    (case my_lL => k_is)
    (case my_kL => k_keys)
    (case my_oL => decide)
    (case my_hL => rfl)
    (case my_aB => k_is)
    (case my_lB => k_is)
    (case my_kB => k_keys)
    (case my_oB => decide)
    (case my_hB => rfl)
    (case my_aJ => k_is)
    (case my_lJ => k_is)
    (case my_kJ => k_keys)
    (case my_oJ => decide)
    (case my_hJ => rfl)
    (case my_g0 => k_is)
    (case my_t0 => k_is)
    (case my_v0 => exact .cons ⟨_, rfl⟩ .nil)
    (case my_gp => k_is)
    (case my_tp => k_is)
    (case my_vp => exact .cons ⟨_, rfl⟩ (.cons ⟨_, rfl⟩ .nil))
    (case my_gq => k_is)
    (case my_tq => k_is)
    (case my_vq => exact .cons ⟨_, rfl⟩ (.cons ⟨_, rfl⟩ .nil))
    (case my_gr => k_is)
    (case my_tr => k_is)
    (case my_vr => exact .cons ⟨_, rfl⟩ (.cons ⟨_, rfl⟩ .nil))
    (case my_g1 => k_is)
    (case my_t1 => k_is)
    (case my_v1 => exact .cons ⟨_, rfl⟩ .nil)
    (case my_g2 => k_is)
    (case my_t2 => k_is)
    (case my_v2 => exact .cons ⟨_, rfl⟩ .nil)
    (case my_g3 => k_is)
    (case my_t3 => k_is)
    (case my_v3 => exact .nil)
    (case my_b0 => k_is)
    (case my_bp => k_is)
    (case my_bq => k_is)
    (case my_br => k_is)
    (case my_j1 => k_is)
    (case my_j2 => k_is)
    (case my_j3 => k_is)
    (case my_z1 => k_is)
    (case my_z2 => k_is)
    (case my_z3 => k_is)
    (case my_z4 => k_is)
    (case my_z5 => k_is)
    (case my_z6 => k_is)
    (case my_z7 => k_is)
    (case my_z8 => k_is)
    (case my_z9 => k_is)
