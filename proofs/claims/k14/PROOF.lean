import PyProof.Rows.All
import Wide.All
import OpenK.AllK
import Wide.FinOn
import Lean
import PyProof.EqAt
import PyProof.EqKinds
import PyProof.TupleCall
import PySem.Challenge.RW_jettison_k14_fractions_written
set_option Elab.async false
set_option linter.all false
set_option maxRecDepth 100000
/-! THE HAND LAYER, for ints, bools, texts, own classes, LISTS and tuples (index, slices, in, append, pop ..), calls, loops. Paste it whole ahead of your own text; what your proof does not reach may be deleted. -/
namespace L2
open PySem PySem.Spec PyProof.Rows

/-- a key: an int or a str -/
abbrev Key := Sum Int Str
def keyIs : Key → Value → Bool
  | .inl k, v => Value.isInt k v
  | .inr x, v => Value.isStrOf x v
def keyH (w : World) : Key → Int
  | .inl k => hashInt k
  | .inr x => hashStr w x
theorem keyIs_shape : ∀ {k : Key} {v : Value}, keyIs k v = true → (∃ i t, k = Sum.inl i ∧ v = Value.int i t) ∨ (∃ x t, k = Sum.inr x ∧ v = Value.str x t)
  | .inl i, v, h => by
    obtain ⟨t, e⟩ := Value.isInt_shape (k := i) (v := v) h
    exact .inl ⟨i, t, rfl, e⟩
  | .inr x, v, h => by
    obtain ⟨t, e⟩ := Value.isStrOf_shape (x := x) (v := v) h
    exact .inr ⟨x, t, rfl, e⟩
theorem keyIs_int (i : Int) (t : Tok) : keyIs (.inl i) (.int i t) = true := by simp [keyIs, Value.isInt]
theorem keyIs_str (x : Str) (t : Tok) : keyIs (.inr x) (.str x t) = true := by simp [keyIs, Value.isStrOf]
theorem key_ll (a b : Int) : decide ((Sum.inl a : Key) = Sum.inl b) = (a == b) := by
  by_cases e : a = b
  · subst e; simp
  · have h : ¬ (Sum.inl a : Key) = Sum.inl b := fun q => e (Sum.inl.inj q)
    rw [decide_eq_false h]
    exact (beq_eq_false_iff_ne.mpr e).symm
theorem key_rr (a b : Str) : decide ((Sum.inr a : Key) = Sum.inr b) = decide (a = b) := by
  by_cases e : a = b
  · subst e; simp
  · have h : ¬ (Sum.inr a : Key) = Sum.inr b := fun q => e (Sum.inr.inj q)
    rw [decide_eq_false h, decide_eq_false e]
theorem key_lr (a : Int) (b : Str) : decide ((Sum.inl a : Key) = Sum.inr b) = false := decide_eq_false (fun q => nomatch q)
theorem key_rl (a : Str) (b : Int) : decide ((Sum.inr a : Key) = Sum.inl b) = false := decide_eq_false (fun q => nomatch q)

def mixKind (prog : Program) (w : World) : PySem.KeyKind prog w Key where
  is := keyIs
  hash := keyH w
  inj := fun v a b ha hb => by
    rcases keyIs_shape ha with ⟨i, t, rfl, rfl⟩ | ⟨x, t, rfl, rfl⟩
    · rcases keyIs_shape hb with ⟨j, u, rfl, e⟩ | ⟨y, u, rfl, e⟩
      · injection e with e1 _; rw [e1]
      · exact nomatch e
    · rcases keyIs_shape hb with ⟨j, u, rfl, e⟩ | ⟨y, u, rfl, e⟩
      · exact nomatch e
      · injection e with e1 _; rw [e1]
  byValue := fun k v h => by
    rcases keyIs_shape h with ⟨i, t, rfl, rfl⟩ | ⟨x, t, rfl, rfl⟩ <;> rfl
  pyHash := fun hv h => by
    rcases keyIs_shape hv with ⟨i, t, rfl, rfl⟩ | ⟨x, t, rfl, rfl⟩
    · exact wpAny_pyHash_int h
    · exact wpAny_pyHash_str h
  eqBool := fun hu hv h => by
    rcases keyIs_shape hu with ⟨i, t, rfl, rfl⟩ | ⟨x, t, rfl, rfl⟩
    · rcases keyIs_shape hv with ⟨j, u, rfl, rfl⟩ | ⟨y, u, rfl, rfl⟩
      · rw [key_ll] at h; exact wpAny_eqBool_int h
      · rw [key_lr] at h; exact SeqAt.EqAt.int_str i t y u _ _ _ _ h
    · rcases keyIs_shape hv with ⟨j, u, rfl, rfl⟩ | ⟨y, u, rfl, rfl⟩
      · rw [key_rl] at h; exact SeqAt.EqAt.str_int x t j u _ _ _ _ h
      · rw [key_rr] at h; exact wpAny_eqBool_str h
  «strs» := fun k x t v h => by
    rcases keyIs_shape h with ⟨i, u, rfl, e⟩ | ⟨y, u, rfl, e⟩
    · exact nomatch e
    · injection e with e1 _
      subst e1
      cases v <;> rfl

theorem mixKind_is (prog : Program) (w : World) (k : Key) (v : Value) : (mixKind prog w).is k v = keyIs k v := rfl
theorem mixKind_int (prog : Program) (w : World) (i : Int) (t : Tok) : (mixKind prog w).is (.inl i) (.int i t) = true := keyIs_int i t
theorem mixKind_str (prog : Program) (w : World) (x : Str) (t : Tok) : (mixKind prog w).is (.inr x) (.str x t) = true := keyIs_str x t
end L2

namespace L2
open PySem PySem.Spec PyProof.Rows

/-- a value, without the heap -/
inductive V where
  | non | bl (b : Bool) | int (i : Int) | str (x : Str) | byt (b : Array UInt8) | flt (b : UInt64) | ref (a : Addr) | ty (n : String)
  deriving DecidableEq

def RelV : V → Value → Prop
  | .non, u => u = Value.none
  | .bl b, u => u = Value.bool b
  | .int i, u => ∃ t, u = Value.int i t
  | .str x, u => ∃ t, u = Value.str x t
  | .byt b, u => ∃ t, u = Value.bytes b t
  | .flt b, u => ∃ t, u = Value.float b t
  | .ref a, u => u = Value.ref a
  | .ty n, u => u = Value.type n

abbrev Vals : List V → List Value → Prop := Paired RelV
theorem Vals.length {xs : List V} {us : List Value} (r : Vals xs us) : xs.length = us.length := Paired.length r
theorem Vals.get : ∀ {xs : List V} {us : List Value} {i : Nat} {x : V}, Vals xs us → xs[i]? = some x → ∃ u, us[i]? = some u ∧ RelV x u
  | _, _, _, _, .nil, e => by simp at e
  | _, _, 0, _, .cons r _, e => by simp at e; subst e; exact ⟨_, rfl, r⟩
  | _, _, i + 1, x, .cons _ t, e => by
    obtain ⟨u, h1, h2⟩ := Vals.get (i := i) (x := x) t (by simpa using e)
    exact ⟨u, by simpa using h1, h2⟩
theorem Vals.set {x : V} {u : Value} (r : RelV x u) : ∀ {xs : List V} {us : List Value} (i : Nat), Vals xs us → Vals (xs.set i x) (us.set i u)
  | _, _, _, .nil => .nil
  | _, _, 0, .cons _ t => .cons r t
  | _, _, i + 1, .cons q t => .cons q (Vals.set r i t)
theorem Vals.append : ∀ {xs ys : List V} {us ws : List Value}, Vals xs us → Vals ys ws → Vals (xs ++ ys) (us ++ ws)
  | _, _, _, _, .nil, s => s
  | _, _, _, _, .cons r t, s => .cons r (Vals.append t s)
theorem Vals.take : ∀ {xs : List V} {us : List Value} (n : Nat), Vals xs us → Vals (xs.take n) (us.take n)
  | _, _, 0, _ => .nil
  | _, _, _ + 1, .nil => .nil
  | _, _, n + 1, .cons r t => .cons r (Vals.take n t)
theorem Vals.drop : ∀ {xs : List V} {us : List Value} (n : Nat), Vals xs us → Vals (xs.drop n) (us.drop n)
  | _, _, 0, r => r
  | _, _, _ + 1, .nil => .nil
  | _, _, n + 1, .cons _ t => Vals.drop n t
theorem Vals.none_of : ∀ {xs : List V} {us : List Value} {i : Nat}, Vals xs us → xs[i]? = none → us[i]? = none := fun {xs us i} r e => by
  have h1 := r.length
  have h2 : xs.length ≤ i := List.getElem?_eq_none_iff.mp e
  exact List.getElem?_eq_none_iff.mpr (by omega)

def RelO : Option V → Option Value → Prop
  | some v, some u => RelV v u
  | none, none => True
  | _, _ => False
def KV {κ : Type} : List (κ × V) → List (κ × Value) → Prop := Paired fun (p : κ × V) (q : κ × Value) => p.1 = q.1 ∧ RelV p.2 q.2

/-- a key of a dict (00_mix): an int or a text -/
def kV : Key → V
  | .inl i => .int i
  | .inr x => .str x

/-- what stands at a tracked address -/
inductive HO where
  /-- a list -/
  | lst (xs : List V)
  /-- a tuple (never changes) -/
  | tup (xs : List V)
  /-- a dict whose keys are ints and texts; one whose keys are tuples of ints and texts (the empty one is both) -/
  | dK (kvs : List (Key × V)) | dT (kvs : List (List Key × V))
  /-- a set of ints: its members, its size -/
  | set (S : Int → Bool) (n : Nat)
  /-- an instance of the class at C, its dict at dx, its attributes -/
  | ins (C dx : Addr) (fs : List (Str × V))
  /-- the dict of the instance at x -/
  | own (x : Addr)
  /-- the dict of an exception -/
  | xd (fs : List (Str × V))
  /-- a bound method, f of x -/
  | met (f x : Addr)
  /-- a range object lo, lo + 1, .. below hi -/
  | rng (lo hi : Int)
  /-- a thing that is known to the object (the script; a dict while a loop walks it): read, never written while it is so -/
  | frz (o : Obj) (u : HO)
  /-- a code object's table -/
  | tbl (ps : Array Value)
  /-- any other thing, by what is true of its one object (a def of one's own: SetO a S n := HO.ext fun h => ..) -/
  | ext (φ : Heap → Prop)

abbrev Hp := Addr → Option HO
def upd (H : Hp) (a : Addr) (o : HO) : Hp := fun b => if b = a then some o else H b
theorem upd_same {H : Hp} {a : Addr} {o : HO} : upd H a o a = some o := by unfold upd; rw [if_pos rfl]
theorem upd_ne {H : Hp} {a b : Addr} {o : HO} (h : b ≠ a) : upd H a o b = H b := by unfold upd; rw [if_neg h]
theorem upd_upd {H : Hp} {a : Addr} {o u : HO} : upd (upd H a o) a u = upd H a u := by
  funext b; unfold upd; split <;> rfl
/-- two objects of different content stand apart -/
theorem ne_of {H : Hp} {a b : Addr} {o u : HO} (h : H a = some o) (h' : H b = some u) (d : o ≠ u) : a ≠ b := by
  intro e; subst e; rw [h] at h'; exact d (Option.some.inj h')
theorem ne_of_none {H : Hp} {a b : Addr} {o : HO} (h : H a = some o) (h' : H b = none) : a ≠ b := by
  intro e; subst e; rw [h] at h'; cases h'

section
variable (P : Program) (w : World)
def ObjOk (H : Hp) (h : Heap) (a : Addr) : HO → Prop
  | .lst xs => xs.length ≤ sizeLine ∧ ∃ (its : List Value) (n : Nat), Vals xs its ∧ h.get? a = some { cls := .type "list", data := .seq its.toArray n }
  | .tup xs => xs.length ≤ sizeLine ∧ ∃ its : List Value, Vals xs its ∧ IsTup h a its.toArray
  | .dK kvs => kvs.length ≤ sizeLine ∧ (a == sysModules) = false ∧ ∃ vs, KV kvs vs ∧ h.DictOf (mixKind P w) a vs
  | .dT kvs => kvs.length ≤ sizeLine ∧ (a == sysModules) = false ∧ ∃ xs : List (List Key × Addr × Value),
      Paired (fun (p : List Key × V) (q : List Key × Addr × Value) => p.1 = q.1 ∧ H q.2.1 = some (.tup (p.1.map kV)) ∧ RelV p.2 q.2.2) kvs xs ∧
      ∃ o es ep, h.get? a = some o ∧ o.ExactDict ∧ o.data = .dict es ep ∧ es.toList = xs.map (entryOfKey (tupleKind (mixKind P w))) ∧ (xs.map (·.1)).Nodup
  | .set S n => h.SetOf (intKind P w) a S n
  | .ins C dx fs => H dx = some (.own a) ∧ fs.length ≤ 1000 ∧ dx ≠ a ∧ h.get? a = some (PySem.W.instObj C dx) ∧
      ∃ mA, h.Ns1 dx mA ∧ (∀ f, RelO (fs.lookup f) (mA f)) ∧ PySem.Within mA (fs.map (·.1))
  | .own _ => ∃ o, h.get? a = some o
  | .xd fs => ∃ mA, h.Ns1 a mA ∧ ∀ f, RelO (fs.lookup f) (mA f)
  | .rng lo hi => ∃ t u v, h.get? a = some { cls := .type "range", data := .fields #[.int lo t, .int hi u, .int 1 v] }
  | .frz o u => h.get? a = some o ∧ ObjOk H h a u
  | .tbl ps => h.get? a = some { cls := .none, data := .fields ps }
  | .met f x => h.get? a = some (PySem.W.methodObj (.ref f) (.ref x))
  | .ext φ => φ h ∧ (∃ o, h.get? a = some o) ∧ ∀ h1 h2 : Heap, φ h1 → (∀ o, h1.get? a = some o → h2.get? a = some o) → φ h2
/-- the abstract heap is held -/
def HOk (H : Hp) (h : Heap) : Prop := ∀ a o, H a = some o → ObjOk P w H h a o
end

section
variable {P : Program} {w : World} {H H' : Hp} {h h' : Heap} {a : Addr} {o : HO}
theorem ObjOk.lt (x : ObjOk P w H h a o) : a < h.objs.size := by
  cases o with
  | lst xs => obtain ⟨_, _, _, _, e⟩ := x; exact Heap.lt_size e
  | tup xs => obtain ⟨_, _, _, p⟩ := x; exact p.lt
  | dK kvs => obtain ⟨_, _, _, _, o, _, _, e, _⟩ := x; exact Heap.lt_size e
  | dT kvs => obtain ⟨_, _, _, _, o, _, _, e, _⟩ := x; exact Heap.lt_size e
  | set S n => obtain ⟨o, _, _, _, e, _⟩ := x; exact Heap.lt_size e
  | ins C dx fs => obtain ⟨_, _, _, e, _⟩ := x; exact Heap.lt_size e
  | own y => obtain ⟨_, e⟩ := x; exact Heap.lt_size e
  | xd fs => obtain ⟨_, ⟨_, _, _, e, _⟩, _⟩ := x; exact Heap.lt_size e
  | rng lo hi => obtain ⟨_, _, _, e⟩ := x; exact Heap.lt_size e
  | frz ob u => obtain ⟨e, _⟩ := x; exact Heap.lt_size e
  | tbl ps => exact Heap.lt_size (show h.get? a = some _ from x)
  | met f y => exact Heap.lt_size (show h.get? a = some _ from x)
  | ext φ => obtain ⟨_, ⟨_, e⟩, _⟩ := x; exact Heap.lt_size e
theorem Paired.mapP {α β : Type} {F G : α → β → Prop} : ∀ {l₁ : List α} {l₂ : List β}, Paired F l₁ l₂ → (∀ a b, F a b → G a b) → Paired G l₁ l₂
  | _, _, .nil, _ => .nil
  | _, _, .cons r t, f => .cons (f _ _ r) (Paired.mapP t f)
theorem Paired.imp' {α β : Type} {F G : α → β → Prop} (f : ∀ a b, F a b → G a b) {l₁ : List α} {l₂ : List β} (r : Paired F l₁ l₂) : Paired G l₁ l₂ := Paired.mapP r f
/-- what an object's description leans on: its own object, its own dict, the tuples -/
theorem ObjOk.stay (x : ObjOk P w H h a o) (k : ∀ b u, (b = a ∨ H b = some (.own a)) → h.get? b = some u → h'.get? b = some u)
    (ho : ∀ b, H b = some (.own a) → H' b = some (.own a)) (ht : ∀ b xs, H b = some (.tup xs) → H' b = some (.tup xs)) : ObjOk P w H' h' a o := by
  induction o with
  | lst xs => obtain ⟨z, its, n, r, e⟩ := x; exact ⟨z, its, n, r, k _ _ (.inl rfl) e⟩
  | tup xs => obtain ⟨z, its, r, ob, e, c⟩ := x; exact ⟨z, its, r, ob, k _ _ (.inl rfl) e, c⟩
  | dK kvs => obtain ⟨z, y, vs, r, ob, es, ep, e, c⟩ := x; exact ⟨z, y, vs, r, ob, es, ep, k _ _ (.inl rfl) e, c⟩
  | dT kvs =>
    obtain ⟨z, y, xs, r, ob, es, ep, e, c⟩ := x
    exact ⟨z, y, xs, Paired.mapP r fun p q z => ⟨z.1, ht _ _ z.2.1, z.2.2⟩, ob, es, ep, k _ _ (.inl rfl) e, c⟩
  | set S n => obtain ⟨ob, es, ep, t, e, c⟩ := x; exact ⟨ob, es, ep, t, k _ _ (.inl rfl) e, c⟩
  | ins C dx fs =>
    obtain ⟨d, z, ne, e, mA, ⟨od, es, ep, e2, c⟩, r⟩ := x
    exact ⟨ho _ d, z, ne, k _ _ (.inl rfl) e, mA, ⟨od, es, ep, k _ _ (.inr d) e2, c⟩, r⟩
  | own y => obtain ⟨ob, e⟩ := x; exact ⟨ob, k _ _ (.inl rfl) e⟩
  | xd fs => obtain ⟨mA, ⟨od, es, ep, e, c⟩, r⟩ := x; exact ⟨mA, ⟨od, es, ep, k _ _ (.inl rfl) e, c⟩, r⟩
  | rng lo hi => obtain ⟨t, u, v, e⟩ := x; exact ⟨t, u, v, k _ _ (.inl rfl) e⟩
  | frz ob u ih => obtain ⟨e, q⟩ := x; exact ⟨k _ _ (.inl rfl) e, ih q⟩
  | tbl ps =>
    have e : h.get? a = some { cls := .none, data := .fields ps } := x
    show h'.get? a = some { cls := .none, data := .fields ps }
    exact k a _ (.inl rfl) e
  | met f y =>
    have e : h.get? a = some (PySem.W.methodObj (.ref f) (.ref y)) := x
    show h'.get? a = some (PySem.W.methodObj (.ref f) (.ref y))
    exact k a _ (.inl rfl) e
  | ext φ => obtain ⟨p, ⟨o, e⟩, st⟩ := x; exact ⟨st _ _ p fun o q => k _ _ (.inl rfl) q, ⟨o, k _ _ (.inl rfl) e⟩, st⟩
theorem HOk.lt (x : HOk P w H h) (e : H a = some o) : a < h.objs.size := (x a o e).lt
theorem HOk.fresh (x : HOk P w H h) (e : h.objs.size ≤ a) : H a = none := by
  cases q : H a with
  | none => rfl
  | some u => exact absurd (Nat.lt_of_lt_of_le (x.lt q) e) (Nat.lt_irrefl _)
/-- every object of the heap is kept -/
theorem HOk.kept (x : HOk P w H h) (k : ∀ b u, h.get? b = some u → h'.get? b = some u) : HOk P w H h' := fun a o e =>
  (x a o e).stay (fun b u _ q => k b u q) (fun _ q => q) fun _ _ q => q
/-- a new object is laid and tracked -/
theorem HOk.laid (x : HOk P w H h) (k : ∀ b u, h.get? b = some u → h'.get? b = some u) (hp : h.objs.size ≤ a) (new : ObjOk P w (upd H a o) h' a o) : HOk P w (upd H a o) h' := fun b u e => by
  have hn := x.fresh hp
  by_cases hb : b = a
  · subst hb; rw [upd_same] at e; cases e; exact new
  · rw [upd_ne hb] at e
    exact (x b u e).stay (fun c v _ q => k c v q) (fun c q => by rw [upd_ne (ne_of_none q hn)]; exact q) fun c xs q => by rw [upd_ne (ne_of_none q hn)]; exact q
end

/-- what may be read as u: it is u, or a known u -/
def Rd (H : Hp) (a : Addr) (u : HO) : Prop := H a = some u ∨ ∃ o, H a = some (.frz o u)
theorem Rd.of {H : Hp} {a : Addr} {u : HO} (h : H a = some u) : Rd H a u := .inl h
theorem Rd.ok {P : Program} {w : World} {H : Hp} {h : Heap} {a : Addr} {u : HO} (r : Rd H a u) (x : HOk P w H h) : ObjOk P w H h a u := by
  rcases r with r | ⟨o, r⟩
  · exact x a u r
  · obtain ⟨_, q⟩ := x a _ r
    exact q
/-- what may be written -/
def Mut : Option HO → Prop
  | some (.lst _) => True
  | some (.dK _) => True
  | some (.dT _) => True
  | some (.set _ _) => True
  | some (.ins _ _ _) => True
  | some (.ext _) => True
  | _ => False
section
variable {P : Program} {w : World} {H : Hp} {h h' : Heap} {x e : Addr} {o' : HO}
/-- the object at e is changed: x itself, or the dict of the instance x -/
theorem HOk.write (ok : HOk P w H h) (mu : Mut (H x)) (he : e = x ∨ H e = some (.own x)) (k : ∀ b u, b ≠ e → h.get? b = some u → h'.get? b = some u) (heo : ∃ u, h'.get? e = some u)
    (new : ObjOk P w (upd H x o') h' x o') : HOk P w (upd H x o') h' := fun b u q => by
  have nown : ∀ c y, H c = some (.own y) → c ≠ x := fun c y r z => by subst z; rw [r] at mu; exact mu
  have ntup : ∀ c xs, H c = some (.tup xs) → c ≠ x := fun c xs r z => by subst z; rw [r] at mu; exact mu
  by_cases hb : b = x
  · subst hb; rw [upd_same] at q; cases q; exact new
  · rw [upd_ne hb] at q
    by_cases hbe : b = e
    · have q' : H b = some (.own x) := by
        rcases he with z | z
        · exact absurd (hbe.trans z) hb
        · rw [hbe]; exact z
      rw [q] at q'; cases q'
      obtain ⟨v, hv⟩ := heo
      exact ⟨v, by rw [hbe]; exact hv⟩
    · refine (ok b u q).stay (fun c v hc r => k c v ?_ r) (fun c r => by rw [upd_ne (nown c b r)]; exact r) fun c xs r => by rw [upd_ne (ntup c xs r)]; exact r
      rcases hc with rfl | hc
      · exact hbe
      · rintro rfl
        rcases he with z | z
        · exact nown c b hc z
        · rw [hc] at z; cases z; exact hb rfl
end

/-! ### kept unless tracked; of the frames at fs (the callers') the slots may change (an exception that passes writes there); of the records at ex (iterators) nothing is said -/
structure Un (fs ex : List Addr) (H H' : Hp) (h h' : Heap) : Prop where
  keep : ∀ b o, h.get? b = some o → H b = none → b ∉ fs → b ∉ ex → h'.get? b = some o
  slot : ∀ b o, h.get? b = some o → H b = none → b ∈ fs → b ∉ ex → ∃ sl, h'.get? b = some { o with slots := sl }
  free : ∀ b o, h.get? b = some o → H b = none → b ∉ ex → H' b = none
  there : ∀ b o, h.get? b = some o → b ∉ ex → ∃ o', h'.get? b = some o'
  tups : ∀ b xs, H b = some (.tup xs) → H' b = some (.tup xs)
  frzs : ∀ b o u, H b = some (.frz o u) → H' b = some (.frz o u)
  tbls : ∀ b ps, H b = some (.tbl ps) → ∃ more, H' b = some (.tbl (ps ++ more))
section
variable {fs fs' ex ex' : List Addr} {H H1 H2 : Hp} {h h1 h2 h' : Heap} {a x e : Addr} {o : HO}
theorem Un.any (u : Un fs ex H H1 h h1) {b : Addr} {ob : Obj} (q : h.get? b = some ob) (n : H b = none) (hx : b ∉ ex) : ∃ sl, h1.get? b = some { ob with slots := sl } := by
  by_cases hb : b ∈ fs
  · exact u.slot b ob q n hb hx
  · exact ⟨ob.slots, u.keep b ob q n hb hx⟩
theorem Un.trans (a : Un fs ex H H1 h h1) (b : Un fs ex H1 H2 h1 h2) : Un fs ex H H2 h h2 where
  keep := fun c ob q n hc hx => b.keep c ob (a.keep c ob q n hc hx) (a.free c ob q n hx) hc hx
  slot := fun c ob q n hc hx => by
    obtain ⟨sl, e1⟩ := a.slot c ob q n hc hx
    obtain ⟨sl', e2⟩ := b.slot c _ e1 (a.free c ob q n hx) hc hx
    exact ⟨sl', e2⟩
  free := fun c ob q n hx => by
    obtain ⟨o', e1⟩ := a.there c ob q hx
    exact b.free c o' e1 (a.free c ob q n hx) hx
  there := fun c ob q hx => by
    obtain ⟨o', e1⟩ := a.there c ob q hx
    exact b.there c o' e1 hx
  tups := fun c xs q => b.tups c xs (a.tups c xs q)
  frzs := fun c ob xs q => b.frzs c ob xs (a.frzs c ob xs q)
  tbls := fun c ps q => by
    obtain ⟨m1, e1⟩ := a.tbls c ps q
    obtain ⟨m2, e2⟩ := b.tbls c _ e1
    exact ⟨m1 ++ m2, by rw [e2, Array.append_assoc]⟩
theorem Un.kept (k : ∀ b u, h.get? b = some u → h'.get? b = some u) : Un fs ex H H h h' :=
  ⟨fun b ob q _ _ _ => k b ob q, fun b ob q _ _ _ => ⟨ob.slots, k b ob q⟩, fun _ _ _ n _ => n, fun b ob q _ => ⟨ob, k b ob q⟩, fun _ _ q => q, fun _ _ _ q => q, fun _ ps q => ⟨#[], by rw [q]; simp⟩⟩
theorem Un.refl : Un fs ex H H h h := Un.kept fun _ _ q => q
theorem Un.laid (k : ∀ b u, h.get? b = some u → h'.get? b = some u) (hp : h.objs.size ≤ a) (hn : H a = none) : Un fs ex H (upd H a o) h h' where
  keep := fun b u q _ _ _ => k b u q
  slot := fun b u q _ _ _ => ⟨u.slots, k b u q⟩
  free := fun b u q n _ => by rw [upd_ne (Nat.ne_of_lt (Nat.lt_of_lt_of_le (Heap.lt_size q) hp))]; exact n
  there := fun b u q _ => ⟨u, k b u q⟩
  tups := fun b xs q => by rw [upd_ne (ne_of_none q hn)]; exact q
  frzs := fun b u xs q => by rw [upd_ne (ne_of_none q hn)]; exact q
  tbls := fun b ps q => ⟨#[], by rw [upd_ne (ne_of_none q hn), q]; simp⟩
theorem Un.write (mu : Mut (H x)) (he : e = x ∨ H e = some (.own x)) (k : ∀ b u, b ≠ e → h.get? b = some u → h'.get? b = some u) (heo : ∃ u, h'.get? e = some u) : Un fs ex H (upd H x o) h h' := by
  have hx : ∀ b, H b = none → b ≠ x := fun b n z => by subst z; rw [n] at mu; exact mu
  have hb : ∀ b, H b = none → b ≠ e := fun b n z => by
    subst z
    rcases he with r | r
    · exact hx b n r
    · rw [n] at r; cases r
  have hm : ∀ b u, H b = some u → ¬ Mut (some u) → b ≠ x := fun b u q nm z => by subst z; rw [q] at mu; exact nm mu
  refine ⟨fun b u q n _ _ => k b u (hb b n) q, fun b u q n _ _ => ⟨u.slots, k b u (hb b n) q⟩, fun b u q n _ => by rw [upd_ne (hx b n)]; exact n, fun b u q _ => ?_,
    fun b xs q => by rw [upd_ne (hm b _ q fun z => z)]; exact q, fun b u xs q => by rw [upd_ne (hm b _ q fun z => z)]; exact q, fun b ps q => ⟨#[], by rw [upd_ne (hm b _ q fun z => z), q]; simp⟩⟩
  by_cases hbe : b = e
  · subst hbe; exact heo
  · exact ⟨u, k b u hbe q⟩
theorem Un.mono (u : Un fs ex H H1 h h1) (hs : ∀ b ∈ fs, b ∈ fs') (hx : ∀ b ∈ ex, b ∈ ex') : Un fs' ex' H H1 h h1 :=
  ⟨fun b ob q n hb he => u.keep b ob q n (fun z => hb (hs b z)) fun z => he (hx b z), fun _ _ q n _ he => u.any q n fun z => he (hx _ z), fun b ob q n he => u.free b ob q n fun z => he (hx b z), fun b ob q he => u.there b ob q fun z => he (hx b z), u.tups, u.frzs, u.tbls⟩
end

/-! ### the heap without what is tracked -/
def trk (h : Heap) (H : Hp) : List Addr := (List.range h.objs.size).filter fun a => (H a).isSome
def hidT (h : Heap) (H : Hp) : Heap := PySem.W.hideAll h (trk h H)
theorem hidT_size (h : Heap) (H : Hp) : (hidT h H).objs.size = h.objs.size := PySem.W.hideAll_size _ _
theorem hidT_get {h : Heap} {H : Hp} {b : Addr} {o : Obj} (e : h.get? b = some o) (n : H b = none) : (hidT h H).get? b = some o :=
  PySem.W.hideAll_get _ e fun hm => by
    have q : (H b).isSome = true := (List.mem_filter.mp hm).2
    rw [n] at q; simp at q
theorem of_hidT {h : Heap} {H : Hp} {b : Addr} {o : Obj} (e : (hidT h H).get? b = some o) : h.get? b = some o ∧ H b = none := by
  have e' : h.get? b = some o := PySem.W.of_hideAll (trk h H) e
  refine ⟨e', ?_⟩
  cases q : H b with
  | none => rfl
  | some x =>
    have hm : b ∈ trk h H := List.mem_filter.mpr ⟨List.mem_range.mpr (Heap.lt_size e'), by simp [q]⟩
    have z : (hidT h H).get? b = none := PySem.W.hideAll_none (trk h H) hm
    rw [z] at e; cases e

/-! ### OpenK's ledger, filled with every new object but one -/
def allNews (g h : Heap) (L : Addr) : List (Addr × Obj) := (List.range h.objs.size).filterMap fun a => if a = L ∨ (g.get? a).isSome = true then none else (h.get? a).map fun o => (a, o)
theorem mem_allNews {g h : Heap} {L a : Addr} {o : Obj} (h1 : a ≠ L) (h2 : g.get? a = none) (h3 : h.get? a = some o) : (a, o) ∈ allNews g h L :=
  List.mem_filterMap.mpr ⟨a, List.mem_range.mpr (Heap.lt_size h3), by simp [h1, h2, h3]⟩
theorem of_mem_allNews {g h : Heap} {L : Addr} {p : Addr × Obj} (hp : p ∈ allNews g h L) : p.1 ≠ L ∧ g.get? p.1 = none ∧ h.get? p.1 = some p.2 := by
  obtain ⟨b, _, e⟩ := List.mem_filterMap.mp hp
  split at e
  · cases e
  · rename_i hn
    cases q : h.get? b with
    | none => rw [q] at e; simp at e
    | some u =>
      rw [q] at e
      simp only [Option.map_some, Option.some.injEq] at e
      subst e
      refine ⟨fun z => hn (.inl z), ?_, q⟩
      show g.get? b = none
      cases r : g.get? b with
      | none => rfl
      | some v => exact (hn (.inr (by simp [r]))).elim
def rest (g h : Heap) (L d : Addr) : List (Addr × Obj) := (allNews g h L).filter fun p => decide (p.1 ≠ d)
theorem rest_ne {g h : Heap} {L d : Addr} : ∀ p ∈ rest g h L d, p.1 ≠ d := fun p hp => of_decide_eq_true (List.mem_filter.mp hp).2
theorem mem_rest {g h : Heap} {L d a : Addr} {o : Obj} (h1 : a ≠ L) (h2 : g.get? a = none) (h3 : h.get? a = some o) (h4 : a ≠ d) : (a, o) ∈ rest g h L d :=
  List.mem_filter.mpr ⟨mem_allNews h1 h2 h3, decide_eq_true h4⟩
theorem news_all {g h : Heap} {L : Addr} : News g L h (allNews g h L) := fun p hp => let ⟨a, b, c⟩ := of_mem_allNews hp; ⟨c, a, b⟩
theorem news_at {g h : Heap} {L d : Addr} {o : Obj} (h1 : d ≠ L) (h2 : g.get? d = none) (h3 : h.get? d = some o) : News g L h ((d, o) :: rest g h L d) := fun p hp => by
  rcases List.mem_cons.mp hp with rfl | hp
  · exact ⟨h3, h1, h2⟩
  · exact news_all p (List.mem_filter.mp hp).1
/-- behind a rule that changed d alone: all else but the frame is kept -/
theorem kept_of_news {g h h' : Heap} {L d : Addr} {m : Str → Option Value} (k : ∀ b o, g.get? b = some o → h.get? b = some o) (F : Fr g L h' m) (N : News g L h' (rest g h L d)) :
    ∀ b o, b ≠ L → b ≠ d → h.get? b = some o → h'.get? b = some o := fun b o h1 h2 e => by
  cases q : g.get? b with
  | some u =>
    have := k b u q
    rw [e] at this; cases this
    exact F.keep b _ q
  | none => exact (N (b, o) (mem_rest h1 q e h2)).1
end L2

namespace L2
open PySem PySem.Spec PyProof.Rows

/-- the module's facts, over the base: the heap at the law's entry without what is tracked there -/
structure Mod (K : PySem.W.Frag) (mg : Str → Option Value) (base : Heap) : Prop where
  kin : K.In base
  glob : base.Ns mainGlobals mg
  blt : ∃ mb, base.Ns builtinsNs mb ∧ ∀ x : Str, x ≠ "__name__" → mb x = bootBuiltins x
  nolimit : base.NoLimit

/-- the context: a def's body (or a comprehension's block) running. base: fixed through the whole law; s₀, H₀: the entry; outer: the frames whose slots others may change (a def's callers); stack: all frames that run;
   ex: iterators that were made ahead of the entry and are walked here (a comprehension's); fn: the names whose cells were made at the entry (a def: all; a comprehension's block: its own); calm: not within an except suite; pn: pins that every state bears; xe: what is wanted of an exception that leaves the code -/
structure Cx where
  prog : Program
  w : World
  K : PySem.W.Frag
  mg : Str → Option Value
  base : Heap
  A : Around
  N : List Str
  s₀ : Shared
  H₀ : Hp
  env : Env
  outer : List Env
  stack : List Env
  ex : List Addr
  fn : Str → Bool
  calm : Bool
  pn : List (Addr × Obj)
  xe : Value → Shared → Prop
/-- the callers' frames -/
def frs (l : List Env) : List Addr := l.filterMap (·.frame)
abbrev Cx.fs (X : Cx) : List Addr := frs X.outer

def Vis (sc : Scope) (x : Str) : Prop := sc.names.lookup x = some .local ∨ sc.names.lookup x = some .cell ∨ sc.names.lookup x = some .free
def Loc (sc : Scope) (x : Str) : Prop := sc.names.lookup x = some .local ∨ sc.names.lookup x = some .cell
def Look (env : Env) (h : Heap) (m : Str → Option Value) (x : Str) (u : Value) : Prop :=
  (env.kindOf x = some .local ∧ m x = some u) ∨ ((env.kindOf x = some .cell ∨ env.kindOf x = some .free) ∧ ∃ c, env.cells.lookup x = some c ∧ h.IsCell c (some u))

structure Cx.Ok (X : Cx) : Prop where
  mod : Mod X.K X.mg X.base
  kind : X.env.scope.kind = .function
  glob : X.env.globals = mainGlobals
  blt : X.env.builtins = builtinsNs
  above : X.s₀.heap.objs.size ≤ X.env.locals
  inj : ∀ x y c, X.env.cells.lookup x = some c → X.env.cells.lookup y = some c → x = y
  has : ∀ x, (X.env.kindOf x = some .cell ∨ X.env.kindOf x = some .free) → ∃ c, X.env.cells.lookup x = some c
  cab : ∀ x c, X.fn x = true → X.env.cells.lookup x = some c → X.s₀.heap.objs.size ≤ c
  hd : X.calm = true → X.A.handled = none
  frames : X.A.frames = some X.stack
  stk : X.stack = X.outer ∨ (X.stack = X.env :: X.outer ∧ X.env.frame = some X.env.locals)
  exf : ∀ b ∈ X.ex, b ≠ X.env.locals ∧ ∀ x c, X.env.cells.lookup x = some c → c ≠ b
  bs : ∀ b o, X.base.get? b = some o → X.s₀.heap.get? b = some o ∧ X.H₀ b = none
  bsz : X.base.objs.size ≤ X.s₀.heap.objs.size
  noex : ∀ b o, X.base.get? b = some o → b ∉ X.ex
  exfs : ∀ b ∈ X.ex, b ∉ X.fs
  funs : X.s₀.heap.FunFrames X.base X.outer
  frf : ∀ b ∈ X.fs, X.H₀ b = none

structure Inv (X : Cx) (pins : List (Addr × Obj)) (σ : List (Option V)) (H : Hp) (s : Shared) : Prop where
  ok : X.Ok
  os : s.os = X.s₀.os
  bare : AllBare s.gens
  base : Un X.fs X.ex X.H₀ H X.s₀.heap s.heap
  loc : ∃ m, s.heap.Ns X.env.locals m ∧ ∀ (i : Nat) (x : Str) (v : V), X.N[i]? = some x → σ[i]? = some (some v) → Vis X.env.scope x → ∃ u, RelV v u ∧ Look X.env s.heap m x u
  cell : ∀ x c, X.env.cells.lookup x = some c → ∃ v, s.heap.IsCell c v
  free : H X.env.locals = none
  freeC : ∀ x c, X.env.cells.lookup x = some c → H c = none
  pin : ∀ p ∈ X.pn ++ pins, s.heap.get? p.1 = some p.2 ∧ H p.1 = none ∧ p.1 ≠ X.env.locals ∧ p.1 ∉ X.fs ∧ ∀ v, p.2.data ≠ .cell v
  hok : HOk X.prog X.w H s.heap
  len : σ.length = X.N.length

section
variable {X : Cx} {pins : List (Addr × Obj)} {σ : List (Option V)} {H H' : Hp} {s : Shared} {h' : Heap}

theorem Cx.Ok.nofr (ok : X.Ok) {b : Addr} {o : Obj} (e : X.base.get? b = some o) : b ∉ X.fs := fun hb => by
  have := (ok.funs.mem hb).1
  rw [e] at this; cases this
theorem Inv.bs (I : Inv X pins σ H s) : ∀ b o, X.base.get? b = some o → s.heap.get? b = some o ∧ H b = none := fun b o e =>
  ⟨I.base.keep b o (I.ok.bs b o e).1 (I.ok.bs b o e).2 (I.ok.nofr e) (I.ok.noex b o e), I.base.free b o (I.ok.bs b o e).1 (I.ok.bs b o e).2 (I.ok.noex b o e)⟩
theorem Inv.bk (I : Inv X pins σ H s) : ∀ b o, X.base.get? b = some o → s.heap.get? b = some o := fun b o e => (I.bs b o e).1
theorem Inv.mod (I : Inv X pins σ H s) : Mod X.K X.mg X.base := I.ok.mod
theorem Inv.kIn (I : Inv X pins σ H s) : X.K.In s.heap := I.ok.mod.kin.keeps I.bk
theorem Inv.nolimit (I : Inv X pins σ H s) : s.heap.NoLimit := I.ok.mod.nolimit.keeps I.bk
/-- the frame over the base: for OpenK's rules (K.In X.base is I.mod.kin) -/
theorem Inv.fr (I : Inv X pins σ H s) : ∃ m, Fr X.base X.env.locals s.heap m :=
  let ⟨m, hn, _⟩ := I.loc
  ⟨m, hn, I.bk, Nat.le_trans I.ok.bsz I.ok.above⟩
theorem Inv.lt (I : Inv X pins σ H s) : X.env.locals < s.heap.objs.size := let ⟨_, hn, _⟩ := I.loc; hn.lt
theorem Inv.sz (I : Inv X pins σ H s) : X.s₀.heap.objs.size ≤ s.heap.objs.size := Nat.le_trans I.ok.above (Nat.le_of_lt I.lt)
theorem Inv.nofs (I : Inv X pins σ H s) {a : Addr} (h : s.heap.objs.size ≤ a) : a ∉ X.fs := fun hb => by
  obtain ⟨_, o, ho, _⟩ := I.ok.funs.mem hb
  exact absurd (Nat.lt_of_lt_of_le (Heap.lt_size ho) (Nat.le_trans I.sz h)) (Nat.lt_irrefl _)
theorem Inv.cne (I : Inv X pins σ H s) : ∀ x c, X.env.cells.lookup x = some c → c ≠ X.env.locals := fun x c e z => by
  obtain ⟨v, o, ho, hd⟩ := I.cell x c e
  obtain ⟨m, ⟨o', es, ep, ho', hd', _⟩, _⟩ := I.loc
  rw [z, ho'] at ho; cases ho; rw [hd'] at hd; cases hd
theorem Inv.funs (I : Inv X pins σ H s) : s.heap.FunFrames X.base X.outer := by
  have all : ∀ (l : List Env), (∀ b ∈ frs l, b ∈ X.fs) → X.s₀.heap.FunFrames X.base l → s.heap.FunFrames X.base l := by
    intro l
    induction l with
    | nil => intro _ _; trivial
    | cons env r ih =>
      intro hs hl
      obtain ⟨hk, ⟨L, o, hf, hn, ho, hd⟩, hr⟩ := hl
      have hL : L ∈ X.fs := hs L (by unfold frs; rw [List.filterMap_cons, hf]; exact List.mem_cons_self)
      obtain ⟨sl, e⟩ := I.base.slot L o ho (I.ok.frf L hL) hL fun z => I.ok.exfs L z hL
      exact ⟨hk, ⟨L, _, hf, hn, e, hd⟩, ih (fun b hb => hs b (by unfold frs; rw [List.filterMap_cons, hf]; exact List.mem_cons_of_mem _ hb)) hr⟩
  exact all X.outer (fun _ hb => hb) I.ok.funs

/-- the frames that run, for a call -/
theorem Inv.stack (I : Inv X pins σ H s) : s.heap.FunFrames X.base X.stack := by
  rcases I.ok.stk with e | ⟨e, hf⟩
  · rw [e]; exact I.funs
  · rw [e]
    obtain ⟨m, hn, _⟩ := I.loc
    refine .cons (by rw [I.ok.kind]; decide) hf hn ?_ I.funs
    exact Heap.get?_none_of_le (Nat.le_trans I.ok.bsz I.ok.above)
theorem Inv.stkSub (I : Inv X pins σ H s) : ∀ b ∈ frs X.stack, b ∈ X.env.locals :: X.fs := fun b hb => by
  rcases I.ok.stk with e | ⟨e, hf⟩
  · rw [e] at hb; exact List.mem_cons_of_mem _ hb
  · rw [e] at hb
    unfold frs at hb
    rw [List.filterMap_cons, hf] at hb
    exact hb
theorem Inv.stkFree (I : Inv X pins σ H s) : ∀ b ∈ frs X.stack, H b = none := fun b hb => by
  rcases List.mem_cons.mp (I.stkSub b hb) with e | hb
  · rw [e]; exact I.free
  · obtain ⟨_, o, ho, _⟩ := I.ok.funs.mem hb
    exact I.base.free b o ho (I.ok.frf b hb) fun z => I.ok.exfs b z hb

/-- THE STEP: the untracked objects but the frame and the records at ch are kept (the callers' frames up to slots), the frame's map is kept, the new abstract heap is held -/
theorem Inv.step {g' : Array GenState} {t' : Nat} {d' : Drawn} {ch : List Addr} (I : Inv X pins σ H s)
    (hch : ∀ b ∈ ch, (b ∈ X.ex ∨ X.s₀.heap.objs.size ≤ b) ∧ b ≠ X.env.locals ∧ (∀ x c, X.env.cells.lookup x = some c → c ≠ b) ∧ ∀ p ∈ X.pn ++ pins, p.1 ≠ b)
    (keep : ∀ b o, b ≠ X.env.locals → b ∉ X.fs → b ∉ ch → s.heap.get? b = some o → H b = none → h'.get? b = some o)
    (slot : ∀ b o, b ≠ X.env.locals → b ∈ X.fs → b ∉ ch → s.heap.get? b = some o → H b = none → ∃ sl, h'.get? b = some { o with slots := sl }) (free : ∀ b o, b ∉ ch → s.heap.get? b = some o → H b = none → H' b = none)
    (there : ∀ b o, b ∉ ch → s.heap.get? b = some o → ∃ o', h'.get? b = some o')
    (tups : ∀ b xs, H b = some (.tup xs) → H' b = some (.tup xs)) (frzs : ∀ b o u, H b = some (.frz o u) → H' b = some (.frz o u)) (tbls : ∀ b ps, H b = some (.tbl ps) → ∃ more, H' b = some (.tbl (ps ++ more)))
    (ns : ∀ m, s.heap.Ns X.env.locals m → h'.Ns X.env.locals m) (hok : HOk X.prog X.w H' h') (hg : AllBare g') :
    Inv X pins σ H' { s with heap := h', gens := g', drawn := d', toks := t' } := by
  have neL : ∀ b o, X.s₀.heap.get? b = some o → b ≠ X.env.locals := fun b o e => Nat.ne_of_lt (Nat.lt_of_lt_of_le (Heap.lt_size e) I.ok.above)
  have neC : ∀ b o, X.s₀.heap.get? b = some o → b ∉ X.ex → b ∉ ch := fun b o e hx hb => by
    rcases (hch b hb).1 with z | z
    · exact hx z
    · exact absurd (Nat.lt_of_lt_of_le (Heap.lt_size e) z) (Nat.lt_irrefl _)
  have cellK : ∀ x c, X.env.cells.lookup x = some c → ∀ v, s.heap.IsCell c v → h'.IsCell c v := fun x c e v ⟨o, ho, hd⟩ => by
    have nch : c ∉ ch := fun z => (hch c z).2.2.1 x c e rfl
    by_cases hc : c ∈ X.fs
    · obtain ⟨sl, q⟩ := slot c o (I.cne x c e) hc nch ho (I.freeC x c e)
      exact ⟨_, q, hd⟩
    · exact ⟨o, keep c o (I.cne x c e) hc nch ho (I.freeC x c e), hd⟩
  refine ⟨I.ok, I.os, hg, ⟨fun b o e n hb hx => ?_, fun b o e n hb hx => ?_, fun b o e n hx => ?_, fun b o e hx => ?_, fun b xs e => tups b xs (I.base.tups b xs e), fun b o xs e => frzs b o xs (I.base.frzs b o xs e), fun b ps e => ?_⟩, ?_, fun x c e => ?_, ?_, fun x c e => ?_, fun p hp => ?_, hok, I.len⟩
  · exact keep b o (neL b o e) hb (neC b o e hx) (I.base.keep b o e n hb hx) (I.base.free b o e n hx)
  · obtain ⟨sl, e1⟩ := I.base.slot b o e n hb hx
    obtain ⟨sl', e2⟩ := slot b _ (neL b o e) hb (neC b o e hx) e1 (I.base.free b o e n hx)
    exact ⟨sl', e2⟩
  · obtain ⟨o', e1⟩ := I.base.there b o e hx
    exact free b o' (neC b o e hx) e1 (I.base.free b o e n hx)
  · obtain ⟨o', e1⟩ := I.base.there b o e hx
    exact there b o' (neC b o e hx) e1
  · obtain ⟨m1, e1⟩ := I.base.tbls b ps e
    obtain ⟨m2, e2⟩ := tbls b _ e1
    exact ⟨m1 ++ m2, by rw [e2, Array.append_assoc]⟩
  · obtain ⟨m, hn, hl⟩ := I.loc
    refine ⟨m, ns m hn, fun i x v e1 e2 e3 => ?_⟩
    obtain ⟨u, r, l⟩ := hl i x v e1 e2 e3
    refine ⟨u, r, ?_⟩
    rcases l with l | ⟨k, c, e, z⟩
    · exact .inl l
    · exact .inr ⟨k, c, e, cellK x c e _ z⟩
  · obtain ⟨v, z⟩ := I.cell x c e
    exact ⟨v, cellK x c e v z⟩
  · obtain ⟨m, ⟨o, _, _, ho, _⟩, _⟩ := I.loc
    exact free _ o (fun z => (hch _ z).2.1 rfl) ho I.free
  · obtain ⟨v, o, ho, hd⟩ := I.cell x c e
    exact free c o (fun z => (hch c z).2.2.1 x c e rfl) ho (I.freeC x c e)
  · obtain ⟨e, n, ne, nf, d⟩ := I.pin p hp
    have nch : p.1 ∉ ch := fun z => (hch p.1 z).2.2.2 p hp rfl
    exact ⟨keep p.1 p.2 ne nf nch e n, free p.1 p.2 nch e n, ne, nf, d⟩
/-- .. where the frame's own object is kept too -/
theorem Inv.un {t' : Nat} (I : Inv X pins σ H s) (u : Un X.fs [] H H' s.heap h') (hok : HOk X.prog X.w H' h') : Inv X pins σ H' { s with heap := h', toks := t' } := by
  obtain ⟨m, ⟨o, es, ep, ho, r⟩, _⟩ := id I.loc
  obtain ⟨sl, hL⟩ := u.any ho I.free (by simp)
  exact I.step (g' := s.gens) (d' := s.drawn) (ch := []) (fun _ z => nomatch z) (fun b o _ hb _ e n => u.keep b o e n hb (by simp)) (fun b o _ hb _ e n => u.slot b o e n hb (by simp)) (fun b o _ e n => u.free b o e n (by simp)) (fun b o _ e => u.there b o e (by simp)) u.tups u.frzs u.tbls (fun m' hm => by
    obtain ⟨o', es', ep', ho', r'⟩ := hm
    rw [ho] at ho'; cases ho'
    exact ⟨_, es', ep', hL, r'⟩) hok I.bare
/-- behind a call (or a comprehension's block): the slots of this frame may have changed too, the records at ch may have turned -/
theorem Inv.call {g' : Array GenState} {t' : Nat} {d' : Drawn} {ch : List Addr} (I : Inv X pins σ H s) (u : Un (frs X.stack) ch H H' s.heap h') (hok : HOk X.prog X.w H' h') (hg : AllBare g')
    (hch : ∀ b ∈ ch, (b ∈ X.ex ∨ X.s₀.heap.objs.size ≤ b) ∧ b ≠ X.env.locals ∧ (∀ x c, X.env.cells.lookup x = some c → c ≠ b) ∧ ∀ p ∈ X.pn ++ pins, p.1 ≠ b) :
    Inv X pins σ H' { s with heap := h', gens := g', drawn := d', toks := t' } := by
  obtain ⟨m, ⟨o, es, ep, ho, r⟩, _⟩ := id I.loc
  obtain ⟨sl, hL⟩ := u.any ho I.free fun z => (hch _ z).2.1 rfl
  exact I.step (ch := ch) hch (fun b o hL hb hc e n => u.keep b o e n (fun z => (List.mem_cons.mp (I.stkSub b z)).elim hL hb) hc) (fun b o _ _ hc e n => u.any e n hc) (fun b o hc e n => u.free b o e n hc) (fun b o hc e => u.there b o e hc) u.tups u.frzs u.tbls (fun m' hm => by
    obtain ⟨o', es', ep', ho', r'⟩ := hm
    rw [ho] at ho'; cases ho'
    exact ⟨_, es', ep', hL, r'⟩) hok hg
/-- an untracked record of ours (an iterator) has turned -/
theorem Inv.turned {t' : Nat} {it : Addr} (I : Inv X pins σ H s) (k : ∀ b o, b ≠ it → s.heap.get? b = some o → h'.get? b = some o) (hn : H it = none) (hL : it ≠ X.env.locals)
    (h1 : it ∈ X.ex ∨ X.s₀.heap.objs.size ≤ it) (h2 : ∀ x c, X.env.cells.lookup x = some c → c ≠ it) (h3 : ∀ p ∈ X.pn ++ pins, p.1 ≠ it) : Inv X pins σ H { s with heap := h', toks := t' } := by
  have nit : ∀ b u, H b = some u → b ≠ it := fun b u e z => by rw [z, hn] at e; cases e
  refine I.step (g' := s.gens) (d' := s.drawn) (ch := [it]) (fun b hb => ?_) (fun b o _ _ hc e _ => k b o (fun z => hc (by simp [z])) e) (fun b o _ _ hc e _ => ⟨o.slots, k b o (fun z => hc (by simp [z])) e⟩) (fun _ _ _ _ n => n)
    (fun b o hc e => ⟨o, k b o (fun z => hc (by simp [z])) e⟩) (fun _ _ e => e) (fun _ _ _ e => e) (fun b ps e => ⟨#[], by rw [e]; simp⟩) (fun m hm => ?_) (fun b u e => ?_) I.bare
  · have e : b = it := by simpa using hb
    subst e
    exact ⟨h1, hL, h2, h3⟩
  · obtain ⟨o, es, ep, ho, r⟩ := hm
    exact ⟨o, es, ep, k _ o (Ne.symm hL) ho, r⟩
  · refine (I.hok b u e).stay (fun c v hc q => k c v ?_ q) (fun _ q => q) fun _ _ q => q
    rcases hc with z | z
    · rw [z]; exact nit b u e
    · exact nit c _ z
theorem Inv.tok (I : Inv X pins σ H s) (t : Nat) : Inv X pins σ H { s with toks := t } := I.un (h' := s.heap) (t' := t) Un.refl I.hok
/-- all objects kept -/
theorem Inv.kept {t' : Nat} (I : Inv X pins σ H s) (k : ∀ b u, s.heap.get? b = some u → h'.get? b = some u) : Inv X pins σ H { s with heap := h', toks := t' } := I.un (Un.kept k) (I.hok.kept k)
/-- a new object laid and tracked -/
theorem Inv.laid {a : Addr} {o : HO} {t' : Nat} (I : Inv X pins σ H s) (k : ∀ b u, s.heap.get? b = some u → h'.get? b = some u) (hp : s.heap.objs.size ≤ a) (new : ObjOk X.prog X.w (upd H a o) h' a o) :
    Inv X pins σ (upd H a o) { s with heap := h', toks := t' } := I.un (Un.laid k hp (I.hok.fresh hp)) (I.hok.laid k hp new)
/-- an object written -/
theorem Inv.write {x e : Addr} {o : HO} {t' : Nat} (I : Inv X pins σ H s) (mu : Mut (H x)) (he : e = x ∨ H e = some (.own x)) (k : ∀ b u, b ≠ e → s.heap.get? b = some u → h'.get? b = some u) (heo : ∃ u, h'.get? e = some u)
    (new : ObjOk X.prog X.w (upd H x o) h' x o) : Inv X pins σ (upd H x o) { s with heap := h', toks := t' } := I.un (Un.write mu he k heo) (I.hok.write mu he k heo new)
/-- forgetting slots, pins -/
theorem Inv.weak {σ' : List (Option V)} (I : Inv X pins σ H s) (hl : σ'.length = σ.length) (w : ∀ (i : Nat) v, σ'[i]? = some (some v) → σ[i]? = some (some v)) : Inv X pins σ' H s :=
  ⟨I.ok, I.os, I.bare, I.base, let ⟨m, hn, hl'⟩ := I.loc; ⟨m, hn, fun i x v e1 e2 e3 => hl' i x v e1 (w i v e2) e3⟩, I.cell, I.free, I.freeC, I.pin, I.hok, hl.trans I.len⟩
theorem Inv.pins_of {pins' : List (Addr × Obj)} (I : Inv X pins σ H s) (h : ∀ p ∈ pins', s.heap.get? p.1 = some p.2 ∧ H p.1 = none ∧ p.1 ≠ X.env.locals ∧ p.1 ∉ X.fs ∧ ∀ v, p.2.data ≠ .cell v) : Inv X pins' σ H s :=
  ⟨I.ok, I.os, I.bare, I.base, I.loc, I.cell, I.free, I.freeC, fun p hp => (List.mem_append.mp hp).elim (fun z => I.pin p (List.mem_append_left _ z)) (h p), I.hok, I.len⟩

theorem nodup_ix {N : List Str} (hN : N.Nodup) {i j : Nat} {x : Str} (a : N[i]? = some x) (b : N[j]? = some x) : i = j := by
  obtain ⟨h1, e1⟩ := List.getElem?_eq_some_iff.mp a
  obtain ⟨h2, e2⟩ := List.getElem?_eq_some_iff.mp b
  exact (List.getElem_inj hN).mp (e1.trans e2.symm)

/-- a name is stored; what changed -/
theorem store_ok2 {M : Model} {A : Around} {E : Value → Shared → Prop} {i : Nat} {x : Str} {v : V} {u : Value} {Q : Unit → Shared → Prop} (I : Inv X pins σ H s) (hN : X.N.Nodup) (hi : X.N[i]? = some x) (hx : Loc X.env.scope x) (r : RelV v u)
    (h : ∀ s', Inv X pins (σ.set i (some v)) H s' → (∃ a, Heap.SameBut a s.heap s'.heap ∧ (a = X.env.locals ∨ X.env.cells.lookup x = some a)) → Q () s') (hf : X.fn x = true ∨ X.env.scope.names.lookup x = some .local := by first | exact .inl rfl | exact .inr rfl | assumption) : wpAny M A (storeName X.env x u) Q E s := by
  obtain ⟨m, hn, hl⟩ := id I.loc
  have hcls : (X.env.scope.kind == .class || (X.env.scope.kind == .module && X.env.locals != X.env.globals)) = false := by rw [I.ok.kind]; rfl
  have hiσ : i < σ.length := by rw [I.len]; exact (List.getElem?_eq_some_iff.mp hi).1
  have cne := I.cne
  have tracked : ∀ {a : Addr} {h' : Heap}, (∃ o, s.heap.get? a = some o ∧ H a = none) → Heap.SameBut a s.heap h' → HOk X.prog X.w H h' := fun {a h'} ha hs b ob e => by
    obtain ⟨_, _, hfree⟩ := ha
    refine (I.hok b ob e).stay (fun c w' hc q => (hs.2 c ?_).trans q) (fun _ q => q) fun _ _ q => q
    rintro rfl
    rcases hc with rfl | hc
    · rw [hfree] at e; cases e
    · rw [hfree] at hc; cases hc
  rcases hx with hk | hk
  · refine wpAny_storeName_local hk hn (fun h' hn' hs => ?_) hcls
    obtain ⟨oL, _, _, hoL, _⟩ := id hn
    refine h _ ⟨I.ok, I.os, I.bare, ⟨fun b o e n hb hx => ?_, fun b o e n hb hx => ?_, I.base.free, fun b o e hx => ?_, I.base.tups, I.base.frzs, I.base.tbls⟩, ⟨_, hn', fun j y v' e1 e2 e3 => ?_⟩, fun y c e => ?_, I.free, I.freeC, fun p hp => ?_, tracked ⟨oL, hoL, I.free⟩ hs, by simpa using I.len⟩ ⟨_, hs, .inl rfl⟩
    · exact (hs.2 b (Nat.ne_of_lt (Nat.lt_of_lt_of_le (Heap.lt_size e) I.ok.above))).trans (I.base.keep b o e n hb hx)
    · obtain ⟨sl, e1⟩ := I.base.slot b o e n hb hx
      exact ⟨sl, (hs.2 b (Nat.ne_of_lt (Nat.lt_of_lt_of_le (Heap.lt_size e) I.ok.above))).trans e1⟩
    · obtain ⟨o', e1⟩ := I.base.there b o e hx
      exact ⟨o', (hs.2 b (Nat.ne_of_lt (Nat.lt_of_lt_of_le (Heap.lt_size e) I.ok.above))).trans e1⟩
    · by_cases hj : j = i
      · subst hj
        rw [hi] at e1; cases e1
        rw [List.getElem?_set_self hiσ] at e2
        cases e2
        exact ⟨u, r, .inl ⟨hk, by simp⟩⟩
      · rw [List.getElem?_set_ne (Ne.symm hj)] at e2
        obtain ⟨u', r', q⟩ := hl j y v' e1 e2 e3
        refine ⟨u', r', ?_⟩
        rcases q with ⟨k, e⟩ | ⟨k, c, e, z⟩
        · refine .inl ⟨k, ?_⟩
          have : y ≠ x := fun e => hj (nodup_ix hN e1 (e ▸ hi))
          simp [this, e]
        · exact .inr ⟨k, c, e, z.sameBut hs (cne y c e)⟩
    · obtain ⟨w', z⟩ := I.cell y c e
      exact ⟨w', z.sameBut hs (cne y c e)⟩
    · obtain ⟨e, n, ne, nf, d⟩ := I.pin p hp
      exact ⟨(hs.2 p.1 ne).trans e, n, ne, nf, d⟩
  · have hfn : X.fn x = true := by
      rcases hf with z | z
      · exact z
      · rw [z] at hk; cases hk
    obtain ⟨c, hc⟩ := I.ok.has x (.inl hk)
    obtain ⟨w', z⟩ := I.cell x c hc
    refine wpAny_storeName_cell I.ok.kind hk hc z (fun h' hc' hs => ?_)
    obtain ⟨oc, hoc, hocd⟩ := id z
    refine h { s with heap := h' } ⟨I.ok, I.os, I.bare, ⟨fun b o e n hb hx => ?_, fun b o e n hb hx => ?_, I.base.free, fun b o e hx => ?_, I.base.tups, I.base.frzs, I.base.tbls⟩, ⟨m, hn.sameBut hs (Ne.symm (cne x c hc)), fun j y v' e1 e2 e3 => ?_⟩, fun y c' e => ?_, I.free, I.freeC, fun p hp => ?_, tracked ⟨oc, hoc, I.freeC x c hc⟩ hs, by simpa using I.len⟩ ⟨c, hs, .inr hc⟩
    · exact (hs.2 b (Nat.ne_of_lt (Nat.lt_of_lt_of_le (Heap.lt_size e) (I.ok.cab x c hfn hc)))).trans (I.base.keep b o e n hb hx)
    · obtain ⟨sl, e1⟩ := I.base.slot b o e n hb hx
      exact ⟨sl, (hs.2 b (Nat.ne_of_lt (Nat.lt_of_lt_of_le (Heap.lt_size e) (I.ok.cab x c hfn hc)))).trans e1⟩
    · obtain ⟨o', e1⟩ := I.base.there b o e hx
      exact ⟨o', (hs.2 b (Nat.ne_of_lt (Nat.lt_of_lt_of_le (Heap.lt_size e) (I.ok.cab x c hfn hc)))).trans e1⟩
    · by_cases hj : j = i
      · subst hj
        rw [hi] at e1; cases e1
        rw [List.getElem?_set_self hiσ] at e2
        cases e2
        exact ⟨u, r, .inr ⟨.inl hk, c, hc, hc'⟩⟩
      · rw [List.getElem?_set_ne (Ne.symm hj)] at e2
        obtain ⟨u', r', q⟩ := hl j y v' e1 e2 e3
        refine ⟨u', r', ?_⟩
        rcases q with q | ⟨k, c', e, z'⟩
        · exact .inl q
        · refine .inr ⟨k, c', e, z'.sameBut hs ?_⟩
          rintro rfl
          exact hj (nodup_ix hN e1 (I.ok.inj _ _ _ e hc ▸ hi))
    · by_cases hcc : c' = c
      · subst hcc; exact ⟨_, hc'⟩
      · obtain ⟨w2, z2⟩ := I.cell y c' e
        exact ⟨w2, z2.sameBut hs hcc⟩
    · obtain ⟨e, n, ne, nf, d⟩ := I.pin p hp
      refine ⟨(hs.2 p.1 ?_).trans e, n, ne, nf, d⟩
      intro q
      rw [q, hoc] at e
      have q' : oc = p.2 := Option.some.inj e
      exact d w' (by rw [← q']; exact hocd)
theorem store_ok {M : Model} {A : Around} {E : Value → Shared → Prop} {i : Nat} {x : Str} {v : V} {u : Value} {Q : Unit → Shared → Prop} (I : Inv X pins σ H s) (hN : X.N.Nodup) (hi : X.N[i]? = some x) (hx : Loc X.env.scope x) (r : RelV v u)
    (h : ∀ s', Inv X pins (σ.set i (some v)) H s' → Q () s') (hf : X.fn x = true ∨ X.env.scope.names.lookup x = some .local := by first | exact .inl rfl | exact .inr rfl | assumption) : wpAny M A (storeName X.env x u) Q E s :=
  store_ok2 I hN hi hx r (fun s' I' _ => h s' I') hf
/-- behind a call or a block, the state as it is -/
theorem Inv.call' {s' : Shared} {ch : List Addr} (I : Inv X pins σ H s) (ho : s'.os = s.os) (u : Un (frs X.stack) ch H H' s.heap s'.heap) (hok : HOk X.prog X.w H' s'.heap) (hg : AllBare s'.gens)
    (hch : ∀ b ∈ ch, (b ∈ X.ex ∨ X.s₀.heap.objs.size ≤ b) ∧ b ≠ X.env.locals ∧ (∀ x c, X.env.cells.lookup x = some c → c ≠ b) ∧ ∀ p ∈ X.pn ++ pins, p.1 ≠ b) : Inv X pins σ H' s' := by
  obtain ⟨h', g', d', t', o'⟩ := s'
  have e : o' = s.os := ho
  subst e
  exact I.call (g' := g') (t' := t') (d' := d') u hok hg hch
end

/-! ### the judgements -/
/-- an exception: its class, its own dict's address (where it has one), the abstract heap behind it -/
abbrev XK := Value → Option Addr → Hp → Prop
abbrev St := List (Option V)
abbrev VK := V → Hp → Prop
/-- an expression's reading; a test's; an argument list's -/
abbrev TE := St → Hp → VK → Prop
abbrev TT := St → Hp → (Bool → Hp → Prop) → Prop
abbrev TA := St → Hp → (List V → Hp → Prop) → Prop
/-- what is wanted behind a statement -/
structure Ends where
  nx : St → Hp → Prop
  rt : VK
  bk : St → Hp → Prop := fun _ _ => False
  ct : St → Hp → Prop := fun _ _ => False
abbrev TS := Ends → St → Hp → Prop

def EP (X : Cx) (pins : List (Addr × Obj)) (σ : St) (Q : VK) (u : Value) (s' : Shared) : Prop := ∃ v H', Inv X pins σ H' s' ∧ RelV v u ∧ Q v H'
def TP (X : Cx) (pins : List (Addr × Obj)) (σ : St) (Q : Bool → Hp → Prop) (b : Bool) (s' : Shared) : Prop := ∃ H', Inv X pins σ H' s' ∧ Q b H'
def AP (X : Cx) (pins : List (Addr × Obj)) (σ : St) (Q : List V → Hp → Prop) (us : List Value) (s' : Shared) : Prop := ∃ vs H', Inv X pins σ H' s' ∧ Vals vs us ∧ Q vs H'
def SP (X : Cx) (pins : List (Addr × Obj)) (D : Ends) (f : Flow) (s' : Shared) : Prop :=
  match f with
  | .next => ∃ σ' H', Inv X pins σ' H' s' ∧ D.nx σ' H'
  | .brk => ∃ σ' H', Inv X pins σ' H' s' ∧ D.bk σ' H'
  | .cont => ∃ σ' H', Inv X pins σ' H' s' ∧ D.ct σ' H'
  | .ret u => ∃ v σ' H', Inv X pins σ' H' s' ∧ RelV v u ∧ D.rt v H'

def PE (X : Cx) (e : Expr) (t : TE) : Prop :=
  ∀ (pins : List (Addr × Obj)) (s : Shared) (σ : St) (H : Hp) (Q : VK), Inv X pins σ H s → t σ H Q → wpAny (model X.prog X.w) X.A (eval e X.env) (EP X pins σ Q) X.xe s
def PT (X : Cx) (e : Expr) (t : TT) : Prop :=
  ∀ (pins : List (Addr × Obj)) (s : Shared) (σ : St) (H : Hp) (Q : Bool → Hp → Prop), Inv X pins σ H s → t σ H Q → wpAny (model X.prog X.w) X.A (isTrue e X.env (eval e X.env)) (TP X pins σ Q) X.xe s
/-- a test whatever its 'whole' is (and, or) -/
def PW (X : Cx) (e : Expr) (t : TT) : Prop :=
  ∀ (whole : Sem Value) (pins : List (Addr × Obj)) (s : Shared) (σ : St) (H : Hp) (Q : Bool → Hp → Prop), Inv X pins σ H s → t σ H Q → wpAny (model X.prog X.w) X.A (isTrue e X.env whole) (TP X pins σ Q) X.xe s
theorem PW.pt {X : Cx} {e : Expr} {t : TT} (h : PW X e t) : PT X e t := h _
/-- an argument list (no star), from the left -/
def PA (X : Cx) (es : List Expr) (t : TA) : Prop :=
  ∀ (pos : Pos) (pins : List (Addr × Obj)) (s : Shared) (σ : St) (H : Hp) (Q : List V → Hp → Prop), Inv X pins σ H s → t σ H Q → wpAny (model X.prog X.w) X.A (spliced (backTo pos (starEach es X.env))) (AP X pins σ Q) X.xe s
def PS (X : Cx) (st : Stmt) (t : TS) : Prop :=
  ∀ (pins : List (Addr × Obj)) (s : Shared) (σ : St) (H : Hp) (D : Ends), Inv X pins σ H s → t D σ H → wpAny (model X.prog X.w) X.A (exec st X.env) (SP X pins D) X.xe s
def PSs (X : Cx) (st : List Stmt) (t : TS) : Prop :=
  ∀ (pins : List (Addr × Obj)) (s : Shared) (σ : St) (H : Hp) (D : Ends), Inv X pins σ H s → t D σ H → wpAny (model X.prog X.w) X.A (execs st X.env) (SP X pins D) X.xe s
/-- weaken the end -/
theorem thn {α : Type} {t : Sem α} {Q Q' : α → Shared → Prop} {M : Model} {A : Around} {E : Value → Shared → Prop} {s : Shared} (h : wpAny M A t Q E s) (hQ : ∀ a s, Q a s → Q' a s) : wpAny M A t Q' E s := wpAny_mono h hQ fun _ _ x => x
end L2

namespace L2
open PySem PySem.Spec PyProof.Rows
section
variable {X : Cx}

/-- two expressions in a row -/
theorem bin {a b : Expr} {ta tb : TE} (ha : PE X a ta) (hb : PE X b tb) {pins : List (Addr × Obj)} {s : Shared} {σ : St} {H : Hp} {R : V → V → Hp → Prop} (I : Inv X pins σ H s) (h : ta σ H fun x H1 => tb σ H1 fun y H2 => R x y H2)
    {α : Type} {Q : α → Shared → Prop} {f : Value → Value → Sem α}
    (hf : ∀ v u s2 x y H2, Inv X pins σ H2 s2 → RelV x v → RelV y u → R x y H2 → wpAny (model X.prog X.w) X.A (f v u) Q X.xe s2) :
    wpAny (model X.prog X.w) X.A (eval a X.env) (fun v s₁ => wpAny (model X.prog X.w) X.A (eval b X.env) (fun u s₂ => wpAny (model X.prog X.w) X.A (f v u) Q X.xe s₂) X.xe s₁) X.xe s := by
  refine thn (ha pins s σ H _ I h) fun v s1 ⟨x, H1, I1, r1, q1⟩ => ?_
  refine thn (hb pins s1 σ H1 _ I1 q1) fun u s2 ⟨y, H2, I2, r2, q2⟩ => ?_
  exact hf v u s2 x y H2 I2 r1 r2 q2

/-! ### names and constants -/
def tVar (i : Nat) : TE := fun σ H Q => ∃ v, σ[i]? = some (some v) ∧ Q v H
def tC (v : V) : TE := fun _ H Q => Q v H
theorem pe_var {i : Nat} {x : Str} {pos : Pos} (hN : X.N[i]? = some x) (hv : Vis X.env.scope x) (hd : (x == ("__debug__" : Str)) = false := by decide) (hcd : (x == ("__classdict__" : Str)) = false := by decide) : PE X (.Name x pos) (tVar i) := by
  intro pins s σ H Q I h
  obtain ⟨v, e, h⟩ := h
  obtain ⟨m, hn, hl⟩ := I.loc
  obtain ⟨u, r, l⟩ := hl i x v hN e hv
  have fin : EP X pins σ Q u s := ⟨v, H, I, r, h⟩
  rcases l with ⟨hk, hm⟩ | ⟨hk, c, hc, hcell⟩
  · exact wpAny_Name (wpAny_loadName_local I.ok.kind hk hn hm fin) hd
  · rcases hk with hk | hk
    · exact wpAny_Name (wpAny_loadName_cell I.ok.kind hk hc hcell fin) hd
    · exact wpAny_Name (wpAny_loadName_free I.ok.kind hk hc hcell fin hcd) hd
theorem pe_int {i j pos} : PE X (.Constant (.int i) j pos) (tC (.int i)) := fun _ _ _ H _ I h => wpAny_Constant_int ⟨.int i, H, I.tok _, ⟨_, rfl⟩, h⟩
theorem pe_bl {b j pos} : PE X (.Constant (.bool b) j pos) (tC (.bl b)) := fun _ _ _ H _ I h => Constant_bool ⟨.bl b, H, I, rfl, h⟩
theorem pe_non {j pos} : PE X (.Constant .none j pos) (tC .non) := fun _ _ _ H _ I h => Constant_none ⟨.non, H, I, rfl, h⟩
theorem pe_str {x j pos} : PE X (.Constant (.str x) j pos) (tC (.str x)) := fun _ _ _ H _ I h => Calls.Constant_str ⟨.str x, H, I.tok _, ⟨_, rfl⟩, h⟩

/-- a global name of the def -/
def Gl (X : Cx) (x : Str) : Prop := X.env.kindOf x = some .globalImplicit
theorem ld_glob {E : Value → Shared → Prop} {pins : List (Addr × Obj)} {s : Shared} {σ : St} {H : Hp} {x : Str} {u : Value} {pos : Pos} {Q : Value → Shared → Prop} (I : Inv X pins σ H s) (hg : Gl X x) (hm : X.mg x = some u) (h : Q u s)
    (hd : (x == ("__debug__" : Str)) = false := by decide) : wpAny (model X.prog X.w) X.A (eval (.Name x pos) X.env) Q E s :=
  Calls.Name_function_global I.ok.kind hg (Calls.loadGlobal_global (by rw [I.ok.glob]; exact I.mod.glob.keeps I.bk) hm h) hd
theorem ld_blt {E : Value → Shared → Prop} {pins : List (Addr × Obj)} {s : Shared} {σ : St} {H : Hp} {x : Str} {u : Value} {pos : Pos} {Q : Value → Shared → Prop} (I : Inv X pins σ H s) (hg : Gl X x) (hm : X.mg x = none) (hv : bootBuiltins x = some u) (h : Q u s)
    (hn : x ≠ "__name__" := by decide) (hd : (x == ("__debug__" : Str)) = false := by decide) : wpAny (model X.prog X.w) X.A (eval (.Name x pos) X.env) Q E s := by
  obtain ⟨mb, h1, h2⟩ := I.mod.blt
  exact Calls.Name_function_global I.ok.kind hg (Calls.loadGlobal_builtin (by rw [I.ok.glob]; exact I.mod.glob.keeps I.bk) hm (by rw [I.ok.blt]; exact h1.keeps I.bk) ((h2 x hn).trans hv) h) hd
/-- a module's constant, a class, a function, as a value -/
theorem pe_glob {x : Str} {v : V} {u : Value} {pos : Pos} (hg : Gl X x) (hm : X.mg x = some u) (r : RelV v u) (hd : (x == ("__debug__" : Str)) = false := by decide) : PE X (.Name x pos) (tC v) :=
  fun _ _ _ H _ I h => ld_glob I hg hm ⟨v, H, I, r, h⟩ hd
theorem pe_bltn {x : Str} {v : V} {u : Value} {pos : Pos} (hg : Gl X x) (hm : X.mg x = none) (hv : bootBuiltins x = some u) (r : RelV v u) (hn : x ≠ "__name__" := by decide) (hd : (x == ("__debug__" : Str)) = false := by decide) : PE X (.Name x pos) (tC v) :=
  fun _ _ _ H _ I h => ld_blt I hg hm hv ⟨v, H, I, r, h⟩ hn hd

/-! ### arithmetic -/
/-- two ints -/
def t2I (ta tb : TE) (k : Int → Int → Hp → Prop) : St → Hp → Prop := fun σ H => ta σ H fun x H1 => tb σ H1 fun y H2 => ∃ i j, x = .int i ∧ y = .int j ∧ k i j H2
def tAdd (ta tb : TE) : TE := fun σ H Q => t2I ta tb (fun i j H2 => Q (.int (i + j)) H2) σ H
def tSub (ta tb : TE) : TE := fun σ H Q => t2I ta tb (fun i j H2 => Q (.int (i - j)) H2) σ H
/-- the left factor below 2^64 -/
def tMul (ta tb : TE) : TE := fun σ H Q => t2I ta tb (fun i j H2 => (-(2 ^ 64) < i ∧ i < 2 ^ 64) ∧ Q (.int (i * j)) H2) σ H
variable {a b : Expr} {ta tb : TE} {pos : Pos}
theorem pe_add (ha : PE X a ta) (hb : PE X b tb) : PE X (.BinOp a .Add b pos) (tAdd ta tb) := by
  intro pins s σ H Q I h
  refine wpAny_BinOp (bin ha hb I h fun v u s2 x y H2 I2 rx ry q => ?_)
  obtain ⟨i, j, rfl, rfl, q⟩ := q
  obtain ⟨t, rfl⟩ := rx
  obtain ⟨t', rfl⟩ := ry
  exact add_int ⟨.int _, H2, I2.tok _, ⟨_, rfl⟩, q⟩
theorem pe_sub (ha : PE X a ta) (hb : PE X b tb) : PE X (.BinOp a .Sub b pos) (tSub ta tb) := by
  intro pins s σ H Q I h
  refine wpAny_BinOp (bin ha hb I h fun v u s2 x y H2 I2 rx ry q => ?_)
  obtain ⟨i, j, rfl, rfl, q⟩ := q
  obtain ⟨t, rfl⟩ := rx
  obtain ⟨t', rfl⟩ := ry
  exact sub_int ⟨.int _, H2, I2.tok _, ⟨_, rfl⟩, q⟩
theorem pe_mul (ha : PE X a ta) (hb : PE X b tb) : PE X (.BinOp a .Mult b pos) (tMul ta tb) := by
  intro pins s σ H Q I h
  refine wpAny_BinOp (bin ha hb I h fun v u s2 x y H2 I2 rx ry q => ?_)
  obtain ⟨i, j, rfl, rfl, ⟨q1, q2⟩, q⟩ := q
  obtain ⟨t, rfl⟩ := rx
  obtain ⟨t', rfl⟩ := ry
  exact mul_int ⟨.int _, H2, I2.tok _, ⟨_, rfl⟩, q⟩ (.of_left (intBits_le_64 q1 q2))

/-! ### comparisons -/
def PC (X : Cx) (op : CmpOp) (a b : Expr) (t : TE) : Prop :=
  ∀ (pins : List (Addr × Obj)) (s : Shared) (σ : St) (H : Hp) (Q : VK), Inv X pins σ H s → t σ H Q →
    wpAny (model X.prog X.w) X.A (eval a X.env) (fun v s₁ => wpAny (model X.prog X.w) X.A (eval b X.env) (fun u s₂ => wpAny (model X.prog X.w) X.A (compareOp op v u) (EP X pins σ Q) X.xe s₂) X.xe s₁) X.xe s
theorem nobehind (b : Expr) {op : CmpOp} (h : op ≠ .In) (h2 : op ≠ .NotIn) : behindInMarks op b = false := by
  have e1 : (op == CmpOp.In) = false := by cases op <;> first | rfl | exact absurd rfl h
  have e2 : (op == CmpOp.NotIn) = false := by cases op <;> first | rfl | exact absurd rfl h2
  cases b <;> simp [behindInMarks, e1, e2]
def tCmp (p : Int → Int → Bool) (ta tb : TE) : TE := fun σ H Q => t2I ta tb (fun i j H2 => Q (.bl (p i j)) H2) σ H
abbrev tLt : TE → TE → TE := tCmp fun i j => decide (i < j)
abbrev tLe : TE → TE → TE := tCmp fun i j => decide (i ≤ j)
abbrev tGt : TE → TE → TE := tCmp fun i j => decide (j < i)
abbrev tGe : TE → TE → TE := tCmp fun i j => decide (j ≤ i)
abbrev tEqI : TE → TE → TE := tCmp fun i j => decide (i = j)
abbrev tNeI : TE → TE → TE := tCmp fun i j => !decide (i = j)
/-- a comparison of two ints, by its rule -/
theorem pc_int {op : CmpOp} {p : Int → Int → Bool} (ha : PE X a ta) (hb : PE X b tb)
    (rule : ∀ (i j : Int) (t u : Tok) (Q : Value → Shared → Prop) (s : Shared), Q (.bool (p i j)) s → wpAny (model X.prog X.w) X.A (compareOp op (.int i t) (.int j u)) Q X.xe s) : PC X op a b (tCmp p ta tb) := by
  intro pins s σ H Q I h
  refine bin ha hb I h fun v u s2 x y H2 I2 rx ry q => ?_
  obtain ⟨i, j, rfl, rfl, q⟩ := q
  obtain ⟨t, rfl⟩ := rx
  obtain ⟨t', rfl⟩ := ry
  exact rule i j t t' _ s2 ⟨.bl _, H2, I2, rfl, q⟩
theorem pc_lt (ha : PE X a ta) (hb : PE X b tb) : PC X .Lt a b (tLt ta tb) := pc_int ha hb fun _ _ _ _ _ _ h => lt_int h
theorem pc_le (ha : PE X a ta) (hb : PE X b tb) : PC X .LtE a b (tLe ta tb) := pc_int ha hb fun _ _ _ _ _ _ h => le_int h
theorem pc_gt (ha : PE X a ta) (hb : PE X b tb) : PC X .Gt a b (tGt ta tb) := pc_int ha hb fun _ _ _ _ _ _ h => gt_int h
theorem pc_ge (ha : PE X a ta) (hb : PE X b tb) : PC X .GtE a b (tGe ta tb) := pc_int ha hb fun _ _ _ _ _ _ h => ge_int h
theorem pc_eqI (ha : PE X a ta) (hb : PE X b tb) : PC X .Eq a b (tEqI ta tb) := pc_int ha hb fun _ _ _ _ _ _ h => eq_int (by rw [Bool.beq_eq_decide_eq]; exact h)
theorem pc_neI (ha : PE X a ta) (hb : PE X b tb) : PC X .NotEq a b (tNeI ta tb) := pc_int ha hb fun _ _ _ _ _ _ h => ne_int (by rw [bne, Bool.beq_eq_decide_eq]; exact h)
/-- is None -/
def tIsN (ta : TE) : TE := fun σ H Q => ta σ H fun x H1 => Q (.bl (decide (x = .non))) H1
def tNotN (ta : TE) : TE := fun σ H Q => ta σ H fun x H1 => Q (.bl (!decide (x = .non))) H1
theorem RelV.none_iff {x : V} {v : Value} (r : RelV x v) : (v == Value.none) = decide (x = .non) := by
  cases x with
  | non => cases r; rfl
  | bl _ => cases r; rfl
  | int _ => obtain ⟨t, rfl⟩ := r; rfl
  | str _ => obtain ⟨t, rfl⟩ := r; rfl
  | byt _ => obtain ⟨t, rfl⟩ := r; rfl
  | flt _ => obtain ⟨t, rfl⟩ := r; rfl
  | ref _ => cases r; rfl
  | ty _ => cases r; rfl
theorem pc_isN {j pos'} (ha : PE X a ta) : PC X .Is a (.Constant .none j pos') (tIsN ta) := by
  intro pins s σ H Q I h
  refine thn (ha pins s σ H _ I h) fun v s1 ⟨x, H1, I1, r1, q1⟩ => ?_
  exact Constant_none (is_none_gen ⟨.bl _, H1, I1, by rw [r1.none_iff]; rfl, q1⟩)
theorem pc_notN {j pos'} (ha : PE X a ta) : PC X .IsNot a (.Constant .none j pos') (tNotN ta) := by
  intro pins s σ H Q I h
  refine thn (ha pins s σ H _ I h) fun v s1 ⟨x, H1, I1, r1, q1⟩ => ?_
  exact Constant_none (isnot_none_gen ⟨.bl _, H1, I1, by rw [r1.none_iff]; rfl, q1⟩)
/-- a comparison as a value, as a test -/
def tB (t : TE) : TT := fun σ H Q => t σ H fun x H1 => ∃ c, x = .bl c ∧ Q c H1
theorem pe_cmp {op : CmpOp} {t : TE} (h : PC X op a b t) (h1 : behindInMarks op b = false := by first | exact nobehind _ (by decide) (by decide) | rfl) : PE X (.Compare a [op] [b] pos) t := fun pins s σ H Q I hw => wpAny_Compare1 (h pins s σ H Q I hw) h1
theorem pt_cmp {op : CmpOp} {t : TE} (h : PC X op a b t) (h1 : behindInMarks op b = false := by first | exact nobehind _ (by decide) (by decide) | rfl) : PT X (.Compare a [op] [b] pos) (tB t) := by
  intro pins s σ H Q I hw
  refine wpAny_isTrue_Compare1 (thn (h pins s σ H _ I hw) fun v s1 h1 => thn h1 fun u s2 h2 => thn h2 fun c s3 ⟨x, H1, I1, r1, q1⟩ => ?_) h1
  obtain ⟨d, rfl, q⟩ := q1
  cases r1
  exact wpAny_truthy_bool ⟨H1, I1, q⟩
/-- an expression whose value is a bool, as a test -/
theorem pt_val {e : Expr} {t : TE} (h : PE X e t) (he : ∀ whole, isTrue e X.env whole = (do let v ← whole; standAt e.pos; holding [v] (truthy v)) := by intro _; rfl) : PT X e (tB t) := by
  intro pins s σ H Q I hw
  refine isTrue_plain (thn (h pins s σ H _ I hw) fun v s1 ⟨x, H1, I1, r1, q1⟩ => ?_) (he _)
  obtain ⟨d, rfl, q⟩ := q1
  cases r1
  exact wpAny_truthy_bool ⟨H1, I1, q⟩

/-! ### and, or, not -/
variable {tA tB' : TT} {rest : List Expr}
def tAnd (t u : TT) : TT := fun σ H Q => t σ H fun c H1 => if c = true then u σ H1 Q else Q false H1
def tOr (t u : TT) : TT := fun σ H Q => t σ H fun c H1 => if c = true then Q true H1 else u σ H1 Q
def tNot (t : TT) : TT := fun σ H Q => t σ H fun c H1 => Q (!c) H1
theorem pw_and1 (ha : PT X a tA) : PW X (.BoolOp .And [a] pos) tA := by
  intro wh pins s σ H Q I h
  refine isTrue_and (thn (ha pins s σ H Q I h) fun c s1 e => ?_)
  cases c with
  | true => exact isTrue_and_nil e
  | false => exact e
theorem pw_or1 (ha : PT X a tA) : PW X (.BoolOp .Or [a] pos) tA := by
  intro wh pins s σ H Q I h
  refine isTrue_or (thn (ha pins s σ H Q I h) fun c s1 e => ?_)
  cases c with
  | false => exact isTrue_or_nil e
  | true => exact e
theorem pw_and (ha : PT X a tA) (hb : PW X (.BoolOp .And (b :: rest) pos) tB') : PW X (.BoolOp .And (a :: b :: rest) pos) (tAnd tA tB') := by
  intro wh pins s σ H Q I h
  refine isTrue_and (thn (ha pins s σ H _ I h) fun c s1 ⟨H1, I1, q1⟩ => ?_)
  cases c with
  | true => exact hb wh pins s1 σ H1 Q I1 q1
  | false => exact ⟨H1, I1, q1⟩
theorem pw_or (ha : PT X a tA) (hb : PW X (.BoolOp .Or (b :: rest) pos) tB') : PW X (.BoolOp .Or (a :: b :: rest) pos) (tOr tA tB') := by
  intro wh pins s σ H Q I h
  refine isTrue_or (thn (ha pins s σ H _ I h) fun c s1 ⟨H1, I1, q1⟩ => ?_)
  cases c with
  | true => exact ⟨H1, I1, q1⟩
  | false => exact hb wh pins s1 σ H1 Q I1 q1
theorem pt_not (ha : PT X a tA) : PT X (.UnaryOp .Not a pos) (tNot tA) := by
  intro pins s σ H Q I h
  exact isTrue_not (ha pins s σ H (fun c H1 => Q (!c) H1) I h)
/-- .. as values (bools) -/
def tAndV (ta tb : TE) : TE := fun σ H Q => ta σ H fun x H1 => ∃ c, x = .bl c ∧ if c = true then tb σ H1 Q else Q (.bl false) H1
def tOrV (ta tb : TE) : TE := fun σ H Q => ta σ H fun x H1 => ∃ c, x = .bl c ∧ if c = true then Q (.bl true) H1 else tb σ H1 Q
def tNotV (ta : TE) : TE := fun σ H Q => ta σ H fun x H1 => ∃ c, x = .bl c ∧ Q (.bl (!c)) H1
theorem pe_one {op} {t : TE} (h : PE X a t) : PE X (.BoolOp op [a] pos) t := fun pins s σ H Q I hw => BoolOp_one (h pins s σ H Q I hw)
theorem pe_and (ha : PE X a ta) (hb : PE X (.BoolOp .And (b :: rest) pos) tb) : PE X (.BoolOp .And (a :: b :: rest) pos) (tAndV ta tb) := by
  intro pins s σ H Q I h
  refine BoolOp_and (thn (ha pins s σ H _ I h) fun v s1 ⟨x, H1, I1, r1, q1⟩ => ?_)
  obtain ⟨c, rfl, q1⟩ := q1
  cases r1
  refine wpAny_truthy_bool ?_
  cases c with
  | true => exact hb pins s1 σ H1 Q I1 q1
  | false => exact ⟨.bl false, H1, I1, rfl, q1⟩
theorem pe_or (ha : PE X a ta) (hb : PE X (.BoolOp .Or (b :: rest) pos) tb) : PE X (.BoolOp .Or (a :: b :: rest) pos) (tOrV ta tb) := by
  intro pins s σ H Q I h
  refine BoolOp_or (thn (ha pins s σ H _ I h) fun v s1 ⟨x, H1, I1, r1, q1⟩ => ?_)
  obtain ⟨c, rfl, q1⟩ := q1
  cases r1
  refine wpAny_truthy_bool ?_
  cases c with
  | false => exact hb pins s1 σ H1 Q I1 q1
  | true => exact ⟨.bl true, H1, I1, rfl, q1⟩
theorem pe_not (ha : PE X a ta) : PE X (.UnaryOp .Not a pos) (tNotV ta) := by
  intro pins s σ H Q I h
  refine UnaryOp_ (thn (ha pins s σ H _ I h) fun v s1 ⟨x, H1, I1, r1, q1⟩ => ?_)
  obtain ⟨c, rfl, q1⟩ := q1
  cases r1
  exact not_of (wpAny_truthy_bool ⟨.bl (!c), H1, I1, rfl, q1⟩)
/-- a if t else b -/
def tIf (t : TT) (ta tb : TE) : TE := fun σ H Q => t σ H fun c H1 => if c = true then ta σ H1 Q else tb σ H1 Q
theorem pe_ifExp {c : Expr} (hc : PT X c tA) (ha : PE X a ta) (hb : PE X b tb) : PE X (.IfExp c a b pos) (tIf tA ta tb) := by
  intro pins s σ H Q I h
  refine wpAny_IfExp (thn (hc pins s σ H _ I h) fun d s1 ⟨H1, I1, q1⟩ => ?_)
  cases d with
  | true => exact ha pins s1 σ H1 Q I1 q1
  | false => exact hb pins s1 σ H1 Q I1 q1
end
end L2

namespace L2
open PySem PySem.Spec PyProof.Rows

/-! ### a list, a tuple that is read: tracked, frozen, or an object of the module -/
def SqL (K : PySem.W.Frag) (H : Hp) (a : Addr) (xs : List V) : Prop :=
  Rd H a (.lst xs) ∨
    ∃ (o : Obj) (its : Array Value) (n : Nat), K.lookup a = some o ∧ o.cls = .type "list" ∧ o.dict = none ∧ o.data = .seq its n ∧ its.size ≤ sizeLine ∧ Vals xs its.toList
def SqT (K : PySem.W.Frag) (H : Hp) (a : Addr) (xs : List V) : Prop :=
  Rd H a (.tup xs) ∨
    ∃ (o : Obj) (its : Array Value) (n : Nat), K.lookup a = some o ∧ o.cls = .type "tuple" ∧ o.data = .seq its n ∧ its.size ≤ sizeLine ∧ Vals xs its.toList
def absV : Value → Option V
  | .none => some .non
  | .bool b => some (.bl b)
  | .int i _ => some (.int i)
  | .str x _ => some (.str x)
  | .bytes b _ => some (.byt b)
  | .float b _ => some (.flt b)
  | .ref a => some (.ref a)
  | .type n => some (.ty n)
  | _ => none
theorem RelV.abs {x : V} {u : Value} (r : RelV x u) : absV u = some x := by
  cases x with
  | non => cases r; rfl
  | bl _ => cases r; rfl
  | int _ => obtain ⟨t, rfl⟩ := r; rfl
  | str _ => obtain ⟨t, rfl⟩ := r; rfl
  | byt _ => obtain ⟨t, rfl⟩ := r; rfl
  | flt _ => obtain ⟨t, rfl⟩ := r; rfl
  | ref _ => cases r; rfl
  | ty _ => cases r; rfl
theorem RelV.inj {x y : V} {u : Value} (r : RelV x u) (q : RelV y u) : x = y := Option.some.inj (r.abs.symm.trans q.abs)
theorem Vals.inj : ∀ {xs ys : List V} {us : List Value}, Vals xs us → Vals ys us → xs = ys
  | _, _, _, .nil, .nil => rfl
  | _, _, _, .cons r t, .cons r' t' => by rw [r.inj r', Vals.inj t t']
section
variable {X : Cx} {pins : List (Addr × Obj)} {σ : St} {H : Hp} {s : Shared} {a : Addr} {xs ys : List V}
theorem SqL.of {K : PySem.W.Frag} (h : H a = some (.lst xs)) : SqL K H a xs := .inl (.inl h)
theorem SqT.of {K : PySem.W.Frag} (h : H a = some (.tup xs)) : SqT K H a xs := .inl (.inl h)
theorem Inv.list (I : Inv X pins σ H s) (h : SqL X.K H a xs) : ∃ its : List Value, Vals xs its ∧ PlainL s.heap a its.toArray ∧ xs.length ≤ sizeLine := by
  rcases h with h | ⟨o, its, n, hk, hc, hd, hs, hz, r⟩
  · obtain ⟨z, its, n, r, e⟩ := h.ok I.hok
    exact ⟨its, r, ⟨_, n, e, rfl, rfl, rfl⟩, z⟩
  · refine ⟨its.toList, r, ⟨o, n, I.kIn a o hk, hc, hd, by simpa using hs⟩, ?_⟩
    have e := r.length
    simp only [Array.length_toList] at e
    omega
theorem Inv.tuple (I : Inv X pins σ H s) (h : SqT X.K H a xs) : ∃ its : List Value, Vals xs its ∧ IsTup s.heap a its.toArray ∧ xs.length ≤ sizeLine := by
  rcases h with h | ⟨o, its, n, hk, hc, hs, hz, r⟩
  · obtain ⟨z, its, r, p⟩ := h.ok I.hok
    exact ⟨its, r, p, z⟩
  · refine ⟨its.toList, r, ⟨o, I.kIn a o hk, hc, n, by simpa using hs⟩, ?_⟩
    have e := r.length
    simp only [Array.length_toList] at e
    omega
theorem Inv.list_inj (I : Inv X pins σ H s) (h : SqL X.K H a xs) (h' : SqL X.K H a ys) : xs = ys := by
  obtain ⟨its, r, ⟨o, n, e, _, _, d⟩, _⟩ := I.list h
  obtain ⟨its', r', ⟨o', n', e', _, _, d'⟩, _⟩ := I.list h'
  rw [e] at e'; cases e'
  rw [d] at d'
  injection d' with d1 _
  have : its = its' := by simpa using congrArg Array.toList d1
  subst this
  exact r.inj r'
theorem Inv.tuple_inj (I : Inv X pins σ H s) (h : SqT X.K H a xs) (h' : SqT X.K H a ys) : xs = ys := by
  obtain ⟨its, r, ⟨o, e, _, n, d⟩, _⟩ := I.tuple h
  obtain ⟨its', r', ⟨o', e', _, n', d'⟩, _⟩ := I.tuple h'
  rw [e] at e'; cases e'
  rw [d] at d'
  injection d' with d1 _
  have : its = its' := by simpa using congrArg Array.toList d1
  subst this
  exact r.inj r'
end

/-! ### another wish about exceptions -/
abbrev Cx.wish (X : Cx) (E : Value → Shared → Prop) : Cx := { X with xe := E }
/-- no exception leaves -/
abbrev Cx.nox (X : Cx) : Cx := X.wish fun _ _ => False
theorem Cx.Ok.wish {X : Cx} (ok : X.Ok) (E : Value → Shared → Prop) : (X.wish E).Ok :=
  ⟨ok.mod, ok.kind, ok.glob, ok.blt, ok.above, ok.inj, ok.has, ok.cab, ok.hd, ok.frames, ok.stk, ok.exf, ok.bs, ok.bsz, ok.noex, ok.exfs, ok.funs, ok.frf⟩
theorem Cx.Ok.unwish {X : Cx} {E : Value → Shared → Prop} (ok : (X.wish E).Ok) : X.Ok :=
  ⟨ok.mod, ok.kind, ok.glob, ok.blt, ok.above, ok.inj, ok.has, ok.cab, ok.hd, ok.frames, ok.stk, ok.exf, ok.bs, ok.bsz, ok.noex, ok.exfs, ok.funs, ok.frf⟩
section
variable {X : Cx} {pins : List (Addr × Obj)} {σ : St} {H : Hp} {s : Shared} {E : Value → Shared → Prop}
theorem Inv.wish (I : Inv X pins σ H s) (E : Value → Shared → Prop) : Inv (X.wish E) pins σ H s := ⟨I.ok.wish E, I.os, I.bare, I.base, I.loc, I.cell, I.free, I.freeC, I.pin, I.hok, I.len⟩
theorem Inv.unwish (I : Inv (X.wish E) pins σ H s) : Inv X pins σ H s := ⟨I.ok.unwish, I.os, I.bare, I.base, I.loc, I.cell, I.free, I.freeC, I.pin, I.hok, I.len⟩
theorem SP.unwish {D : Ends} {f : Flow} {s' : Shared} (h : SP (X.wish E) pins D f s') : SP X pins D f s' := by
  cases f with
  | next => obtain ⟨σ', H', I, q⟩ := h; exact ⟨σ', H', I.unwish, q⟩
  | brk => obtain ⟨σ', H', I, q⟩ := h; exact ⟨σ', H', I.unwish, q⟩
  | cont => obtain ⟨σ', H', I, q⟩ := h; exact ⟨σ', H', I.unwish, q⟩
  | ret u => obtain ⟨v, σ', H', I, r, q⟩ := h; exact ⟨v, σ', H', I.unwish, r, q⟩
theorem PE.nox {e : Expr} {t : TE} (h : PE X.nox e t) : PE X e t := fun pins s σ H Q I hw =>
  wpAny_mono (h pins s σ H Q (I.wish _) hw) (fun _ _ ⟨v, H', I', r, q⟩ => ⟨v, H', I'.unwish, r, q⟩) fun _ _ z => False.elim z
theorem PT.nox {e : Expr} {t : TT} (h : PT X.nox e t) : PT X e t := fun pins s σ H Q I hw =>
  wpAny_mono (h pins s σ H Q (I.wish _) hw) (fun _ _ ⟨H', I', q⟩ => ⟨H', I'.unwish, q⟩) fun _ _ z => False.elim z
theorem PSs.nox {st : List Stmt} {t : TS} (h : PSs X.nox st t) : PSs X st t := fun pins s σ H D I hw =>
  wpAny_mono (h pins s σ H D (I.wish _) hw) (fun _ _ q => q.unwish) fun _ _ z => False.elim z
end

/-! ### blocks and small statements -/
section
variable {X : Cx} {st : Stmt} {rest : List Stmt} {t u : TS} {e : Expr} {te : TE} {pos : Pos}
def tNext : TS := fun D σ H => D.nx σ H
def tSeq (t u : TS) : TS := fun D σ H => t { D with nx := u D } σ H
theorem pss_nil : PSs X [] tNext := fun _ _ σ H _ I h => wpAny_execs_nil ⟨σ, H, I, h⟩
theorem pss_cons (h1 : PS X st t) (h2 : PSs X rest u) : PSs X (st :: rest) (tSeq t u) := by
  intro pins s σ H D I h
  refine wpAny_execs_cons (thn (h1 pins s σ H { D with nx := u D } I h) fun f s1 q => ?_)
  cases f with
  | next =>
    obtain ⟨σ', H', I', q⟩ := q
    exact h2 pins s1 σ' H' D I' q
  | ret v => exact q
  | brk => exact q
  | cont => exact q
theorem pss_one (h1 : PS X st t) : PSs X [st] t := by
  intro pins s σ H D I h
  refine wpAny_execs_cons (thn (h1 pins s σ H D I h) fun f s1 q => ?_)
  cases f with
  | next => exact wpAny_execs_nil q
  | ret v => exact q
  | brk => exact q
  | cont => exact q
def tBreak : TS := fun D σ H => D.bk σ H
def tCont : TS := fun D σ H => D.ct σ H
theorem ps_pass : PS X (.Pass pos) tNext := fun _ _ σ H _ I h => wpAny_Pass ⟨σ, H, I, h⟩
theorem ps_break : PS X (.Break pos) tBreak := fun _ _ σ H _ I h => wpAny_Break ⟨σ, H, I, h⟩
theorem ps_continue : PS X (.Continue pos) tCont := fun _ _ σ H _ I h => wpAny_Continue ⟨σ, H, I, h⟩
/-- in a def's body nothing is shown -/
theorem Inv.quiet {pins : List (Addr × Obj)} {σ : St} {H : Hp} {s : Shared} (I : Inv X pins σ H s) : interactive X.env = false := by simp [interactive, I.ok.kind]
/-- a docstring -/
theorem ps_doc {x j pos pos'} : PS X (.Expr (.Constant (.str x) j pos) pos') tNext := fun _ s σ H _ I h => wpAny_Expr (Calls.Constant_str (show SP X _ _ .next { s with toks := s.toks + 1 } from ⟨σ, H, I.tok _, h⟩)) I.quiet
/-- an expression whose value is dropped -/
def tDrop (te : TE) : TS := fun D σ H => te σ H fun _ H1 => D.nx σ H1
theorem ps_expr (he : PE X e te) (hs : swapsWith e none pos.line X.env = pure false := by rfl) : PS X (.Expr e pos) (tDrop te) := by
  intro pins s σ H D I h
  exact wpAny_Expr_any (thn (he pins s σ H _ I h) fun v s1 ⟨x, H1, I1, r1, q1⟩ => ⟨σ, H1, I1, q1⟩) I.quiet hs
def tRet (te : TE) : TS := fun D σ H => te σ H D.rt
theorem ps_ret (he : PE X e te) : PS X (.Return (some e) pos) (tRet te) := by
  intro pins s σ H D I h
  exact wpAny_Return_some (thn (he pins s σ H _ I h) fun v s1 ⟨x, H1, I1, r1, q1⟩ => ⟨x, σ, H1, I1, r1, q1⟩)
def tRetN : TS := fun D _ H => D.rt .non H
theorem ps_retN : PS X (.Return none pos) tRetN := fun _ _ σ H _ I h => wpAny_Return_none ⟨.non, σ, H, I, rfl, h⟩
def tIfS (c : TT) (t u : TS) : TS := fun D σ H => c σ H fun b H1 => if b = true then t D σ H1 else u D σ H1
theorem ps_if {c : Expr} {a b : List Stmt} {tc : TT} (hc : PT X c tc) (ha : PSs X a t) (hb : PSs X b u) : PS X (.If c a b pos) (tIfS tc t u) := by
  intro pins s σ H D I h
  refine wpAny_If (thn (hc pins s σ H _ I h) fun d s1 ⟨H1, I1, q1⟩ => ?_)
  cases d with
  | true => exact ha pins s1 σ H1 D I1 q1
  | false => exact hb pins s1 σ H1 D I1 q1
/-- code that the proof never comes to -/
def tNever : TS := fun _ _ _ => False
theorem ps_never : PS X st tNever := fun _ _ _ _ _ _ h => h.elim
theorem pss_never {sts : List Stmt} : PSs X sts tNever := fun _ _ _ _ _ _ h => h.elim
end

/-! ### targets -/
abbrev TG := V → St → Hp → (St → Hp → Prop) → Prop
abbrev TGs := List V → St → Hp → (St → Hp → Prop) → Prop
def PG (X : Cx) (target : Expr) (t : TG) : Prop :=
  ∀ (pins : List (Addr × Obj)) (s : Shared) (σ : St) (H : Hp) (v : V) (u : Value) (Q : St → Hp → Prop), Inv X pins σ H s → RelV v u → t v σ H Q →
    wpAny (model X.prog X.w) X.A (assign target X.env u) (fun _ s' => ∃ σ' H', Inv X pins σ' H' s' ∧ Q σ' H') X.xe s
/-- several targets, one after another -/
def PGs (X : Cx) (ts : List Expr) (t : TGs) : Prop :=
  ∀ (pins : List (Addr × Obj)) (s : Shared) (σ : St) (H : Hp) (vs : List V) (us : List Value) (Q : St → Hp → Prop), Inv X pins σ H s → Vals vs us → t vs σ H Q →
    wpAny (model X.prog X.w) X.A (assignInOrder ((assignEach ts X.env).map (·.2)) us) (fun _ s' => ∃ σ' H', Inv X pins σ' H' s' ∧ Q σ' H') X.xe s
/-- o[i] = v, by values -/
abbrev TSet := V → V → V → Hp → (Hp → Prop) → Prop
def PSet (X : Cx) (t : TSet) : Prop :=
  ∀ (pins : List (Addr × Obj)) (s : Shared) (σ : St) (H : Hp) (o i v : V) (ov iv u : Value) (Q : Hp → Prop), Inv X pins σ H s → RelV o ov → RelV i iv → RelV v u → t o i v H Q →
    wpAny (model X.prog X.w) X.A (setItem ov iv u) (fun _ s' => ∃ H', Inv X pins σ H' s' ∧ Q H') X.xe s
/-- a op= b, by values -/
abbrev TIp := V → V → Hp → VK → Prop
def PIp (X : Cx) (op : Operator) (t : TIp) : Prop :=
  ∀ (pins : List (Addr × Obj)) (s : Shared) (σ : St) (H : Hp) (x y : V) (v u : Value) (Q : VK), Inv X pins σ H s → RelV x v → RelV y u → t x y H Q →
    wpAny (model X.prog X.w) X.A (inplaceOp op v u) (EP X pins σ Q) X.xe s
section
variable {X : Cx} {pos : Pos}
def gName (i : Nat) : TG := fun v σ H Q => Q (σ.set i (some v)) H
theorem pg_name {i : Nat} {x : Str} (hN : X.N.Nodup) (hi : X.N[i]? = some x) (hx : Loc X.env.scope x) (hf : X.fn x = true ∨ X.env.scope.names.lookup x = some .local := by first | exact .inl rfl | exact .inr rfl | assumption) : PG X (.Name x pos) (gName i) := by
  intro pins s σ H v u Q I r h
  exact wpAny_assign_Name (store_ok I hN hi hx r (fun s' I' => ⟨_, H, I', h⟩) hf)
def gNil : TGs := fun vs σ H Q => vs = [] ∧ Q σ H
def gCons (t : TG) (u : TGs) : TGs := fun vs σ H Q => ∃ v r, vs = v :: r ∧ t v σ H fun σ' H' => u r σ' H' Q
theorem pgs_nil : PGs X [] gNil := by
  intro pins s σ H vs us Q I r h
  obtain ⟨e, h⟩ := h
  subst e
  cases r
  exact assignInOrder_nil ⟨σ, H, I, h⟩
theorem pgs_cons {e : Expr} {es : List Expr} {t : TG} {u : TGs} (h1 : PG X e t) (h2 : PGs X es u)
    (hs : (assignEach (e :: es) X.env).map (·.2) = assign e X.env :: (assignEach es X.env).map (·.2) := by rfl) : PGs X (e :: es) (gCons t u) := by
  intro pins s σ H vs us Q I r h
  obtain ⟨v, vr, e1, h⟩ := h
  subst e1
  cases r with
  | cons r rr =>
    rw [hs]
    refine assignInOrder_cons (thn (h1 pins s σ H _ _ _ I r h) fun _ s1 ⟨σ1, H1, I1, q1⟩ => ?_)
    exact h2 pins s1 σ1 H1 _ _ Q I1 rr q1
/-- (a, b, ..) = a tuple of that length -/
def gTup (K : PySem.W.Frag) (n : Nat) (t : TGs) : TG := fun v σ H Q => ∃ a xs, v = .ref a ∧ SqT K H a xs ∧ xs.length = n ∧ t xs σ H Q
theorem pg_tup {es : List Expr} {k : Nat} {t : TGs} {n : Nat} (hc : X.calm = true) (h : PGs X es t)
    (hn : (assignEach es X.env).length = n := by rfl) (hst : (assignEach es X.env).findIdx? (·.1) = none := by rfl) : PG X (.Tuple es k pos) (gTup X.K n t) := by
  intro pins s σ H v u Q I r hw
  obtain ⟨a, xs, e1, hq, hl, hw⟩ := hw
  subst e1
  cases r
  obtain ⟨its, rv, ht, hz⟩ := I.tuple hq
  refine assign_Tuple_tuple (I.ok.hd hc) ht (by simp [hn, ← hl, rv.length]) hst fun h' hx => ?_
  have I1 : Inv X pins σ H { s with heap := h' } := I.kept (t' := s.toks) fun b o e => hx b o (Nat.ne_of_lt (Heap.lt_size e)) e
  exact h pins _ σ H xs _ Q I1 (by simpa using rv) hw
/-- o[i] = .. -/
def gSub (to ti : TE) (t : TSet) : TG := fun v σ H Q => to σ H fun o H1 => ti σ H1 fun i H2 => t o i v H2 fun H3 => Q σ H3
theorem pg_sub {o i : Expr} {to ti : TE} {t : TSet} (ho : PE X o to) (hi : PE X i ti) (hs : PSet X t)
    (ha : ∀ v, assign (.Subscript o i pos) X.env v = (do
      let ov ← holding [v] (eval o X.env)
      let iv ← holding [v, ov] (eval i X.env)
      standAt pos
      holding [v, ov, iv] (setItem ov iv v)
      release [v, ov, iv] []) := by intro _; rfl) : PG X (.Subscript o i pos) (gSub to ti t) := by
  intro pins s σ H v u Q I r h
  rw [ha]
  refine wpAny_bind (wpAny_holding (thn (ho pins s σ H _ I h) fun ov s1 ⟨x, H1, I1, r1, q1⟩ => ?_))
  refine wpAny_bind (wpAny_holding (thn (hi pins s1 σ H1 _ I1 q1) fun iv s2 ⟨y, H2, I2, r2, q2⟩ => ?_))
  refine wpAny_bind (wpAny_standAt (wpAny_bind (wpAny_holding (thn (hs pins s2 σ H2 x y v ov iv u _ I2 r1 r2 r q2) fun _ s3 ⟨H3, I3, q3⟩ => ?_))))
  exact wpAny_release ⟨σ, H3, I3, q3⟩
/-- target = value -/
def tAsg (te : TE) (g : TG) : TS := fun D σ H => te σ H fun x H1 => g x σ H1 D.nx
theorem ps_asg {tg e : Expr} {te : TE} {g : TG} (he : PE X e te) (hg : PG X tg g) (hs : swapsWithSole [tg] e pos.line X.env = pure false := by rfl) (hw : swappedStores [tg] e X.env = pure none := by rfl)
    (h1 : (assignEach [tg] X.env).map (·.2) = [assign tg X.env] := by rfl) : PS X (.Assign [tg] e pos) (tAsg te g) := by
  intro pins s σ H D I h
  refine wpAny_Assign_stores (thn (he pins s σ H _ I h) fun v s1 ⟨x, H1, I1, r1, q1⟩ => ?_) hs hw
  rw [h1]
  exact thn (hg pins s1 σ H1 x v _ I1 r1 q1) fun _ s2 q => q
/-- name = value -/
theorem ps_set {i : Nat} {x : Str} {e : Expr} {te : TE} {pos' : Pos} (hN : X.N.Nodup) (hi : X.N[i]? = some x) (hx : Loc X.env.scope x) (he : PE X e te) (hs : swapsWith e (some (.Name x pos')) pos.line X.env = pure false := by rfl) (hf : X.fn x = true ∨ X.env.scope.names.lookup x = some .local := by first | exact .inl rfl | exact .inr rfl | assumption) :
    PS X (.Assign [.Name x pos'] e pos) (tAsg te (gName i)) := by
  intro pins s σ H D I h
  refine wpAny_Assign_Name (thn (he pins s σ H _ I h) fun v s1 ⟨y, H1, I1, r1, q1⟩ => ?_) hs
  exact store_ok I1 hN hi hx r1 (fun s2 I2 => ⟨_, H1, I2, q1⟩) hf
/-- a, b = x, y with plain local names: stored from the right; the pair itself is not tracked (the opening rows as in PyProof/Rows/TupAssign.lean:23) -/
def tPar (i j : Nat) (ta : TA) : TS := fun D σ H => ta σ H fun vs H1 => ∃ v w, vs = [v, w] ∧ D.nx ((σ.set i (some v)).set j (some w)) H1
theorem ps_par {i j : Nat} {x y : Str} {a b : Expr} {ta : TA} {px py pt : Pos} {kt k2 pt2} (hc : X.calm = true) (hN : X.N.Nodup) (hi : X.N[i]? = some x) (hj : X.N[j]? = some y) (hij : i ≠ j)
    (hx : X.env.scope.names.lookup x = some .local) (hy : X.env.scope.names.lookup y = some .local) (ha : PA X [a, b] ta)
    (hw : swappedStores [.Tuple [.Name x px, .Name y py] kt pt] (.Tuple [a, b] k2 pt2) X.env = pure (some [x, y]))
    (hs : swapsWithSole [.Tuple [.Name x px, .Name y py] kt pt] (.Tuple [a, b] k2 pt2) pos.line X.env = pure false := by rfl) :
    PS X (.Assign [.Tuple [.Name x px, .Name y py] kt pt] (.Tuple [a, b] k2 pt2) pos) (tPar i j ta) := by
  intro pins s σ H D I h
  rw [exec_Assign_arm]
  refine wpAny_bind (wpAny_standAt ?_)
  rw [hs]
  refine wpAny_bind (wpAny_pure ?_)
  rw [if_neg (by decide)]
  refine wpAny_bind (Tuple_ (thn (ha _ pins s σ H _ I h) fun us s1 ⟨vs, H1, I1, r1, q1⟩ => ?_))
  obtain ⟨v, w, e1, q1⟩ := q1
  subst e1
  obtain ⟨u1, u2, rfl, rv, rw'⟩ : ∃ u1 u2, us = [u1, u2] ∧ RelV v u1 ∧ RelV w u2 := by
    cases r1 with
    | cons p q =>
      cases q with
      | cons p' q' =>
        cases q'
        exact ⟨_, _, rfl, p, p'⟩
  refine wpAny_newObj_type ?_ (by show 2 ≤ sizeLine; decide)
  have I2 : Inv X pins σ H1 { s1 with heap := s1.heap.push { cls := .type "tuple", data := .seq [u1, u2].toArray } } := I1.kept (t' := s1.toks) fun b o e => Heap.get?_push_of_some _ e
  rw [hw]
  refine wpAny_bind (wpAny_pure ?_)
  show wpAny (model X.prog X.w) X.A (do rule "assign.swapped-stores"; let items ← unpackItems (.ref s1.heap.objs.size) 2 none; assignInOrder [fun v => bindName X.env y v, fun v => bindName X.env x v] items.reverse; pure Flow.next) _ _ _
  refine wpAny_bind (wpAny_rule (wpAny_bind (unpackItems_tuple (items := #[u1, u2]) (I.ok.hd hc) (IsTup.new s1.heap _) fun h' hx' => ?_)))
  have I3 := I2.kept (h' := h') (t' := s1.toks) fun b o e => hx' b o (Nat.ne_of_lt (Heap.lt_size e)) e
  show wpAny _ _ (assignInOrder [fun v => bindName X.env y v, fun v => bindName X.env x v] [u2, u1] >>= fun _ => pure Flow.next) _ _ _
  refine wpAny_bind (assignInOrder_cons (wpAny_bindName (store_ok I3 hN hj (.inl hy) rw' (fun s2 I4 => ?_) (.inr hy))))
  refine assignInOrder_cons (wpAny_bindName (store_ok I4 hN hi (.inl hx) rv (fun s3 I5 => assignInOrder_nil (wpAny_pure ?_)) (.inr hx)))
  rw [List.set_comm _ _ (Ne.symm hij)] at I5
  exact ⟨_, H1, I5, q1⟩
/-- name op= e -/
def tAug (i : Nat) (te : TE) (ti : TIp) : TS := fun D σ H => ∃ x, σ[i]? = some (some x) ∧ te σ H fun y H1 => ti x y H1 fun z H2 => D.nx (σ.set i (some z)) H2
theorem ps_aug {i : Nat} {x : Str} {e : Expr} {te : TE} {op : Operator} {ti : TIp} {pos' : Pos} (hN : X.N.Nodup) (hi : X.N[i]? = some x) (hx : Loc X.env.scope x) (he : PE X e te) (ho : PIp X op ti) (hf : X.fn x = true ∨ X.env.scope.names.lookup x = some .local := by first | exact .inl rfl | exact .inr rfl | assumption) :
    PS X (.AugAssign (.Name x pos') op e pos) (tAug i te ti) := by
  intro pins s σ H D I h
  obtain ⟨v, e1, h⟩ := h
  obtain ⟨m, hn, hl⟩ := I.loc
  have vis : Vis X.env.scope x := by rcases hx with k | k; exact .inl k; exact .inr (.inl k)
  obtain ⟨u, r, l⟩ := hl i x v hi e1 vis
  refine wpAny_AugAssign_Name ?_
  have go : wpAny (model X.prog X.w) X.A (eval e X.env) (fun w s₂ => wpAny (model X.prog X.w) X.A (inplaceOp op u w) (fun r s₃ => wpAny (model X.prog X.w) X.A (storeName X.env x r) (fun _ => SP X pins D .next) X.xe s₃) X.xe s₂) X.xe s := by
    refine thn (he pins s σ H _ I h) fun w s1 ⟨y, H1, I1, r1, q1⟩ => ?_
    refine thn (ho pins s1 σ H1 v y u w _ I1 r r1 q1) fun z s2 ⟨zv, H2, I2, r2, q2⟩ => ?_
    exact store_ok I2 hN hi hx r2 (fun s3 I3 => ⟨_, H2, I3, q2⟩) hf
  rcases l with ⟨hk, hm⟩ | ⟨hk, c, hc, hcell⟩
  · exact wpAny_loadName_local I.ok.kind hk hn hm go
  · rcases hk with hk | hk
    · exact wpAny_loadName_cell I.ok.kind hk hc hcell go
    · rcases hx with k | k
      · have : X.env.scope.names.lookup x = some .free := hk
        rw [k] at this; cases this
      · have : X.env.scope.names.lookup x = some .free := hk
        rw [k] at this; cases this
/-- o[i] op= e -/
def tAugS (to ti te : TE) (tget : V → V → Hp → VK → Prop) (tip : TIp) (tset : TSet) : TS := fun D σ H => to σ H fun o H1 => ti σ H1 fun i H2 => tget o i H2 fun x H3 => te σ H3 fun y H4 => tip x y H4 fun z H5 => tset o i z H5 fun H6 => D.nx σ H6
/-- o[i], by values -/
def PGet (X : Cx) (t : V → V → Hp → VK → Prop) : Prop :=
  ∀ (pins : List (Addr × Obj)) (s : Shared) (σ : St) (H : Hp) (o i : V) (ov iv : Value) (Q : VK), Inv X pins σ H s → RelV o ov → RelV i iv → t o i H Q →
    wpAny (model X.prog X.w) X.A (getItem ov iv) (EP X pins σ Q) X.xe s
theorem ps_augS {o i e : Expr} {to ti te : TE} {tget : V → V → Hp → VK → Prop} {tip : TIp} {tset : TSet} {op : Operator} {tpos : Pos} (ho : PE X o to) (hi : PE X i ti) (hg : PGet X tget) (he : PE X e te) (hp : PIp X op tip) (hs : PSet X tset)
    (ha : ∀ ov iv new, augStore i ov iv new = (do holding [new, ov, iv] (setItem ov iv new); release [new, ov, iv] []; pure .next) := by intros; rfl) : PS X (.AugAssign (.Subscript o i tpos) op e pos) (tAugS to ti te tget tip tset) := by
  intro pins s σ H D I h
  refine wpAny_AugAssign_SubscriptAny (thn (ho pins s σ H _ I h) fun ov s1 ⟨x1, H1, I1, r1, q1⟩ => ?_) ha
  refine thn (hi pins s1 σ H1 _ I1 q1) fun iv s2 ⟨x2, H2, I2, r2, q2⟩ => ?_
  refine thn (hg pins s2 σ H2 x1 x2 ov iv _ I2 r1 r2 q2) fun old s3 ⟨x3, H3, I3, r3, q3⟩ => ?_
  refine thn (he pins s3 σ H3 _ I3 q3) fun v s4 ⟨x4, H4, I4, r4, q4⟩ => ?_
  refine thn (hp pins s4 σ H4 x3 x4 old v _ I4 r3 r4 q4) fun new s5 ⟨x5, H5, I5, r5, q5⟩ => ?_
  exact thn (hs pins s5 σ H5 x1 x2 x5 ov iv new _ I5 r1 r2 r5 q5) fun _ s6 ⟨H6, I6, q6⟩ => ⟨σ, H6, I6, q6⟩
/-- ints -/
def ipI (f : Int → Int → Int) : TIp := fun x y H Q => ∃ i j, x = .int i ∧ y = .int j ∧ Q (.int (f i j)) H
theorem ip_add : PIp X .Add (ipI fun i j => i + j) := by
  intro pins s σ H x y v u Q I r1 r2 h
  obtain ⟨i, j, e1, e2, q⟩ := h
  subst e1; subst e2
  obtain ⟨t, rfl⟩ := r1
  obtain ⟨t', rfl⟩ := r2
  exact iadd_int ⟨.int _, H, I.tok _, ⟨_, rfl⟩, q⟩
theorem ip_sub : PIp X .Sub (ipI fun i j => i - j) := by
  intro pins s σ H x y v u Q I r1 r2 h
  obtain ⟨i, j, e1, e2, q⟩ := h
  subst e1; subst e2
  obtain ⟨t, rfl⟩ := r1
  obtain ⟨t', rfl⟩ := r2
  exact isub_int ⟨.int _, H, I.tok _, ⟨_, rfl⟩, q⟩
end

/-! ### while -/
section
variable {X : Cx} {pos : Pos}
/-- the invariant W with its measure -/
def tWhile (c : TT) (tb : TS) : TS := fun D σ H => ∃ W : Nat → St → Hp → Prop, (∃ m, W m σ H) ∧ ∀ m σ H, W m σ H →
  c σ H fun b H1 => if b = true then ∃ N : St → Hp → Prop, (∀ σ' H', N σ' H' → ∃ m', m' < m ∧ W m' σ' H') ∧ tb { D with nx := N, ct := N, bk := D.nx } σ H1 else D.nx σ H1
theorem ps_while {c : Expr} {body : List Stmt} {tc : TT} {tb : TS} (hp : PassesOwn (model X.prog X.w) X.A X.env X.xe) (hc : PT X c tc) (hb : PSs X body tb) : PS X (.While c body [] pos) (tWhile tc tb) := by
  intro pins s σ H D I h
  obtain ⟨W, ⟨m0, w0⟩, turn⟩ := h
  refine wpAny_While (codeAny_whileLoop (fun n s' => ∃ σ' H', Inv X pins σ' H' s' ∧ W n σ' H') ?_ m0 ⟨σ, H, I, w0⟩)
  rintro n s1 ⟨σ1, H1, I1, w1⟩
  refine wpAny_passesOwn hp (thn (hc pins s1 σ1 H1 _ I1 (turn n σ1 H1 w1)) fun b s2 ⟨H2, I2, q2⟩ => ?_)
  cases b with
  | true =>
    obtain ⟨N, hN, q2⟩ := q2
    rw [if_pos rfl]
    refine wpAny_passesOwn hp (thn (hb pins s2 σ1 H2 _ I2 q2) fun f s3 q3 => ?_)
    cases f with
    | next =>
      obtain ⟨σ3, H3, I3, n3⟩ := q3
      obtain ⟨m', hm, w3⟩ := hN σ3 H3 n3
      exact ⟨m', hm, σ3, H3, I3, w3⟩
    | cont =>
      obtain ⟨σ3, H3, I3, n3⟩ := q3
      obtain ⟨m', hm, w3⟩ := hN σ3 H3 n3
      exact ⟨m', hm, σ3, H3, I3, w3⟩
    | brk => exact q3
    | ret v => exact q3
  | false =>
    rw [if_neg Bool.false_ne_true]
    exact wpAny_execs_nil ⟨σ1, H2, I2, q2⟩
end

/-! ### what a loop or a comprehension walks -/
/-- at turn i: it yields x (the heap may grow), or it stops -/
structure It where
  go : Nat → Hp → Prop
  yld : Nat → Hp → V → Hp → Prop
  stop : Nat → Hp → Prop
/-- the iterator's own objects may turn: they are not the frame's, not pinned, younger than the entry (or a comprehension's own) -/
def FpOk (X : Cx) (pins : List (Addr × Obj)) (H : Hp) (b : Addr) : Prop :=
  H b = none ∧ b ≠ X.env.locals ∧ b ∉ X.fs ∧ (b ∈ X.ex ∨ X.s₀.heap.objs.size ≤ b) ∧ (∀ x c, X.env.cells.lookup x = some c → c ≠ b) ∧ ∀ p ∈ X.pn ++ pins, p.1 ≠ b
theorem Inv.fpOk {X : Cx} {pins : List (Addr × Obj)} {σ : St} {H H' : Hp} {s : Shared} {b : Addr} (I : Inv X pins σ H s) (hb : s.heap.objs.size ≤ b) (hn : H' b = none) : FpOk X pins H' b := by
  refine ⟨hn, Nat.ne_of_gt (Nat.lt_of_lt_of_le I.lt hb), I.nofs hb, .inr (Nat.le_trans I.sz hb), fun x c e z => ?_, fun p hp z => ?_⟩
  · obtain ⟨v, q⟩ := I.cell x c e
    exact absurd (Nat.lt_of_lt_of_le q.lt (by rw [z]; exact hb)) (Nat.lt_irrefl _)
  · exact absurd (Nat.lt_of_lt_of_le (Heap.lt_size (I.pin p hp).1) (by rw [z]; exact hb)) (Nat.lt_irrefl _)
structure Turn (P : Program) (w : World) (K : PySem.W.Frag) (tg : Expr) (J : It) (fp : List Addr) (it : Addr) (tn : Nat → Heap → Prop) : Prop where
  mem : it ∈ fp
  obj : ∀ i h, tn i h → ∀ b ∈ fp, ∃ o, h.get? b = some o ∧ ∀ v, o.data ≠ .cell v
  keep : ∀ i h h', tn i h → (∀ b ∈ fp, ∀ o, h.get? b = some o → h'.get? b = some o) → tn i h'
  item : ∀ (X : Cx), X.prog = P → X.w = w → X.K = K → X.calm = true → ∀ (i : Nat) (pins : List (Addr × Obj)) (s : Shared) (σ : St) (H : Hp) (E : Value → Shared → Prop), Inv X pins σ H s → (∀ b ∈ fp, FpOk X pins H b) → tn i s.heap → J.go i H →
    wpAny (model P w) X.A (pyNext (.ref it)) (fun r s1 => ∃ u, r = some u ∧
      wpAny (model P w) X.A (letOwnedTupleGo tg (.ref it) u) (fun _ s2 => ∃ x H', Inv X pins σ H' s2 ∧ RelV x u ∧ J.yld i H x H' ∧ tn (i + 1) s2.heap ∧ ∀ b ∈ fp, H' b = none) E s1) E s
  done : ∀ (X : Cx), X.prog = P → X.w = w → X.K = K → X.calm = true → ∀ (i : Nat) (pins : List (Addr × Obj)) (s : Shared) (σ : St) (H : Hp) (E : Value → Shared → Prop), Inv X pins σ H s → (∀ b ∈ fp, FpOk X pins H b) → tn i s.heap → J.stop i H →
    wpAny (model P w) X.A (pyNext (.ref it)) (fun r s1 => r = none ∧ Inv X pins σ H s1) E s
  self : ∀ (A : Around) (i : Nat) (s : Shared) (Q : Value → Shared → Prop) (E : Value → Shared → Prop), tn i s.heap → Q (.ref it) s → wpAny (model P w) A (pyIter (.ref it)) Q E s
abbrev TI := St → Hp → (It → Hp → Prop) → Prop
/-- an iterator has come -/
def PIE (X : Cx) (pins : List (Addr × Obj)) (σ : St) (tg : Expr) (R : It → Hp → Prop) (itv : Value) (s2 : Shared) : Prop :=
  ∃ (it : Addr) (fp : List Addr) (tn : Nat → Heap → Prop) (J : It) (H' : Hp), itv = .ref it ∧ Inv X pins σ H' s2 ∧ Turn X.prog X.w X.K tg J fp it tn ∧ tn 0 s2.heap ∧ (∀ b ∈ fp, FpOk X pins H' b) ∧ R J H'
def PI (X : Cx) (tg iter : Expr) (wi : TI) : Prop :=
  ∀ (pins : List (Addr × Obj)) (s : Shared) (σ : St) (H : Hp) (R : It → Hp → Prop), Inv X pins σ H s → wi σ H R →
    wpAny (model X.prog X.w) X.A (eval iter X.env) (fun v s1 => wpAny (model X.prog X.w) X.A (pyIter v) (PIE X pins σ tg R) X.xe s1) X.xe s

/-- the step ahead of the store is nothing for an iterator that keeps no tuple -/
theorem go_of {M : Model} {A : Around} {E : Value → Shared → Prop} {s : Shared} {tg : Expr} {it : Addr} {u : Value} {o : Obj} {n : String} {vs : Array Value} {Q : Unit → Shared → Prop} (ho : s.heap.get? it = some o) (hc : o.cls = .type n) (hd : o.data = .fields vs)
    (hn : ["enumerate", "zip", "dict_itemiterator", "dict_reverseitemiterator", "odict_iterator", "itertools.zip_longest", "itertools.pairwise"].contains n = false) (hQ : Q () s) : wpAny M A (letOwnedTupleGo tg (.ref it) u) Q E s := by
  unfold letOwnedTupleGo
  cases tg <;> first
    | exact wpAny_pure hQ
    | (cases u <;> first
        | exact wpAny_pure hQ
        | (refine wpAny_bind (wpAny_load ho ?_)
           rw [hc, hd]
           show wpAny M A (if (["enumerate", "zip", "dict_itemiterator", "dict_reverseitemiterator", "odict_iterator", "itertools.zip_longest", "itertools.pairwise"].contains n && vs[0]? == some (rawInt _)) = true then _ else _) Q E s
           rw [if_neg (by intro h; rw [hn, Bool.false_and] at h; cases h)]
           exact wpAny_pure hQ))

/-- the list at a, as it stands at each turn (a loop may append to it) -/
def Itl (K : PySem.W.Frag) (a : Addr) : It :=
  ⟨fun i H => ∃ xs x, SqL K H a xs ∧ xs[i]? = some x, fun i H x H' => H' = H ∧ ∀ xs, SqL K H a xs → xs[i]? = some x, fun i H => ∃ xs, SqL K H a xs ∧ xs.length ≤ i⟩
def Itt (K : PySem.W.Frag) (a : Addr) : It :=
  ⟨fun i H => ∃ xs x, SqT K H a xs ∧ xs[i]? = some x, fun i H x H' => H' = H ∧ ∀ xs, SqT K H a xs → xs[i]? = some x, fun i H => ∃ xs, SqT K H a xs ∧ xs.length ≤ i⟩
/-- lo, lo + 1, .. (n of them) -/
def Itr (lo : Int) (n : Nat) : It := ⟨fun i _ => i < n, fun i H x H' => H' = H ∧ x = .int (lo + i), fun i _ => n ≤ i⟩
theorem turn_list {P : Program} {w : World} {K : PySem.W.Frag} {tg : Expr} (a it : Addr) : Turn P w K tg (Itl K a) [it] it (fun i h => h.IsListIter it a i) where
  mem := by simp
  obj := fun i h st b hb => by
    have e : b = it := by simpa using hb
    subst e
    obtain ⟨o, e, c, d⟩ := st
    exact ⟨o, e, fun v z => by rw [d] at z; cases z⟩
  keep := fun i h h' st k => st.at fun o e => k it (by simp) o e
  item := by
    intro X hP hw hK hc i pins s σ H E I hf st hg
    subst hP hw hK
    obtain ⟨xs, x, hq, hx⟩ := hg
    obtain ⟨its, rv, p, hz⟩ := I.list hq
    obtain ⟨u, hu, ru⟩ := rv.get hx
    obtain ⟨f0, f1, f2, f3, f4, f5⟩ := hf it (by simp)
    refine wpAny_pyNext_list_item st p.isList (x := u) (by simpa using hu) fun h' st' sb => ?_
    have I1 : Inv X pins σ H { s with heap := h' } := I.turned (t' := s.toks) (fun b o hb e => (sb.2 b hb).trans e) f0 f1 f3 f4 f5
    obtain ⟨o, e, c, d⟩ := id st'
    exact ⟨u, rfl, go_of (s := { s with heap := h' }) e c d (by decide) ⟨x, H, I1, ru, ⟨rfl, fun ys hy => by rw [I.list_inj hy hq]; exact hx⟩, st', fun b hb => (hf b hb).1⟩⟩
  done := by
    intro X hP hw hK hc i pins s σ H E I hf st hg
    subst hP hw hK
    obtain ⟨xs, hq, hx⟩ := hg
    obtain ⟨its, rv, p, hz⟩ := I.list hq
    obtain ⟨f0, f1, f2, f3, f4, f5⟩ := hf it (by simp)
    have hl := rv.length
    exact wpAny_pyNext_list_end (I.ok.hd hc) st p.isList (by simp; omega) fun h' eb => ⟨rfl, I.turned (t' := s.toks) (fun b o hb e => eb b o hb e) f0 f1 f3 f4 f5⟩
  self := fun _ _ _ _ _ st h => wpAny_pyIter_listiter st h
theorem turn_tuple {P : Program} {w : World} {K : PySem.W.Frag} {tg : Expr} (a it : Addr) : Turn P w K tg (Itt K a) [it] it (fun i h => h.IsTupleIter it a i) where
  mem := by simp
  obj := fun i h st b hb => by
    have e : b = it := by simpa using hb
    subst e
    obtain ⟨o, e, c, d⟩ := st
    exact ⟨o, e, fun v z => by rw [d] at z; cases z⟩
  keep := fun i h h' st k => st.at fun o e => k it (by simp) o e
  item := by
    intro X hP hw hK hc i pins s σ H E I hf st hg
    subst hP hw hK
    obtain ⟨xs, x, hq, hx⟩ := hg
    obtain ⟨its, rv, p, hz⟩ := I.tuple hq
    obtain ⟨u, hu, ru⟩ := rv.get hx
    obtain ⟨f0, f1, f2, f3, f4, f5⟩ := hf it (by simp)
    refine wpAny_pyNext_tuple_item st (show s.heap.IsTuple a its.toArray from p) (x := u) (by simpa using hu) fun h' st' sb => ?_
    have I1 : Inv X pins σ H { s with heap := h' } := I.turned (t' := s.toks) (fun b o hb e => (sb.2 b hb).trans e) f0 f1 f3 f4 f5
    obtain ⟨o, e, c, d⟩ := id st'
    exact ⟨u, rfl, go_of (s := { s with heap := h' }) e c d (by decide) ⟨x, H, I1, ru, ⟨rfl, fun ys hy => by rw [I.tuple_inj hy hq]; exact hx⟩, st', fun b hb => (hf b hb).1⟩⟩
  done := by
    intro X hP hw hK hc i pins s σ H E I hf st hg
    subst hP hw hK
    obtain ⟨xs, hq, hx⟩ := hg
    obtain ⟨its, rv, p, hz⟩ := I.tuple hq
    obtain ⟨f0, f1, f2, f3, f4, f5⟩ := hf it (by simp)
    have hl := rv.length
    exact wpAny_pyNext_tuple_end (I.ok.hd hc) st (show s.heap.IsTuple a its.toArray from p) (by simp; omega) fun h' eb => ⟨rfl, I.turned (t' := s.toks) (fun b o hb e => eb b o hb e) f0 f1 f3 f4 f5⟩
  self := fun _ _ _ _ _ st h => wpAny_pyIter_tupleiter st h
theorem turn_range {P : Program} {w : World} {K : PySem.W.Frag} {tg : Expr} (it : Addr) (lo : Int) (n : Nat) : Turn P w K tg (Itr lo n) [it] it (fun i h => IsRangeIter h it (lo + (i : Nat) * 1) ((n : Int) - (i : Nat)) 1) where
  mem := by simp
  obj := fun i h st b hb => by
    have e : b = it := by simpa using hb
    subst e
    exact ⟨_, st, fun v z => by
      have z' : Data.fields _ = Data.cell v := z
      cases z'⟩
  keep := fun i h h' st k => k it (by simp) _ st
  item := by
    intro X hP hw hK hc i pins s σ H E I hf st hg
    subst hP hw hK
    obtain ⟨f0, f1, f2, f3, f4, f5⟩ := hf it (by simp)
    have W := Walks.range (prog := X.prog) (w := X.w) (I.ok.hd hc) it lo 1 n
    refine W.item i s _ _ hg st fun v h' tk hv st' kk => ?_
    obtain ⟨t, rfl⟩ := hv
    have I1 : Inv X pins σ H { s with heap := h', toks := tk } := I.turned (fun b o hb e => kk b o (by simpa using hb) e) f0 f1 f3 f4 f5
    refine ⟨_, rfl, go_of (s := { s with heap := h', toks := tk }) (n := "range_iterator") st' rfl rfl (by decide) ⟨.int (lo + i), H, I1, ⟨t, ?_⟩, ⟨rfl, rfl⟩, st', fun b hb => (hf b hb).1⟩⟩
    rw [Int.mul_one]
  done := by
    intro X hP hw hK hc i pins s σ H E I hf st hg
    subst hP hw hK
    obtain ⟨f0, f1, f2, f3, f4, f5⟩ := hf it (by simp)
    exact wpAny_pyNext_range_end (I.ok.hd hc) st (by have : n ≤ i := hg; omega) fun h' eb => ⟨rfl, I.turned (t' := s.toks) (fun b o hb e => eb b o hb e) f0 f1 f3 f4 f5⟩
  self := fun _ _ _ _ _ st h => wpAny_pyIter_rangeiter st h
end L2

namespace L2
open PySem PySem.Spec PyProof.Rows
section
variable {X : Cx} {tg : Expr}
def iList (K : PySem.W.Frag) (tl : TE) : TI := fun σ H R => tl σ H fun x H1 => ∃ a, x = .ref a ∧ (∃ xs, SqL K H1 a xs) ∧ R (Itl K a) H1
def iTup (K : PySem.W.Frag) (tl : TE) : TI := fun σ H R => tl σ H fun x H1 => ∃ a, x = .ref a ∧ (∃ xs, SqT K H1 a xs) ∧ R (Itt K a) H1
theorem pi_list {l : Expr} {tl : TE} (hl : PE X l tl) : PI X tg l (iList X.K tl) := by
  intro pins s σ H R I h
  refine thn (hl pins s σ H _ I h) fun v s1 ⟨x, H1, I1, r1, q1⟩ => ?_
  obtain ⟨a, e, ⟨xs, hq⟩, q⟩ := q1
  subst e
  cases r1
  obtain ⟨its, rv, p, hz⟩ := I1.list hq
  refine wpAny_pyIter_list p.isList ?_
  refine ⟨s1.heap.objs.size, [s1.heap.objs.size], _, _, H1, rfl, I1.kept (t' := s1.toks) fun b o e => Heap.get?_push_of_some _ e, turn_list a _, ⟨_, Heap.get?_push_size _ rfl, rfl, rfl⟩, fun b hb => ?_, q⟩
  have e : b = s1.heap.objs.size := by simpa using hb
  subst e
  exact I1.fpOk (Nat.le_refl _) (I1.hok.fresh (Nat.le_refl _))
theorem pi_tup {l : Expr} {tl : TE} (hl : PE X l tl) : PI X tg l (iTup X.K tl) := by
  intro pins s σ H R I h
  refine thn (hl pins s σ H _ I h) fun v s1 ⟨x, H1, I1, r1, q1⟩ => ?_
  obtain ⟨a, e, ⟨xs, hq⟩, q⟩ := q1
  subst e
  cases r1
  obtain ⟨its, rv, p, hz⟩ := I1.tuple hq
  refine wpAny_pyIter_tuple (show s1.heap.IsTuple a its.toArray from p) ?_
  refine ⟨s1.heap.objs.size, [s1.heap.objs.size], _, _, H1, rfl, I1.kept (t' := s1.toks) fun b o e => Heap.get?_push_of_some _ e, turn_tuple a _, ⟨_, Heap.get?_push_size _ rfl, rfl, rfl⟩, fun b hb => ?_, q⟩
  have e : b = s1.heap.objs.size := by simpa using hb
  subst e
  exact I1.fpOk (Nat.le_refl _) (I1.hok.fresh (Nat.le_refl _))
/-- a range object just made, walked -/
theorem range_it {pins : List (Addr × Obj)} {σ : St} {H : Hp} {s : Shared} {R : It → Hp → Prop} {E : Value → Shared → Prop} {lo hi : Int} {t u v : Tok} {tk : Nat} (I : Inv X pins σ H s) (h1 : -(2 ^ 62) ≤ lo) (h2 : lo < 2 ^ 62) (h3 : -(2 ^ 62) ≤ hi) (h4 : hi < 2 ^ 62)
    (q : R (Itr lo (hi - lo).toNat) H) : wpAny (model X.prog X.w) X.A (pyIter (.ref s.heap.objs.size)) (PIE X pins σ tg R) E { s with heap := s.heap.push { cls := .type "range", data := .fields #[.int lo t, .int hi u, .int 1 v] }, toks := tk } := by
  refine wpAny_pyIter_range (IsRange.new ..) (small_one h1 h2 h3 h4) ?_
  have I1 : Inv X pins σ H { s with heap := s.heap.push { cls := .type "range", data := .fields #[.int lo t, .int hi u, .int 1 v] }, toks := tk } := I.kept fun b o e => Heap.get?_push_of_some _ e
  refine ⟨(s.heap.push { cls := .type "range", data := .fields #[.int lo t, .int hi u, .int 1 v] }).objs.size, [(s.heap.push { cls := .type "range", data := .fields #[.int lo t, .int hi u, .int 1 v] }).objs.size], _, _, H, rfl,
    I1.kept (t' := tk) fun b o e => Heap.get?_push_of_some _ e, turn_range _ lo (hi - lo).toNat, ?_, fun b hb => ?_, q⟩
  · have e1 : lo + ((0 : Nat) : Int) * 1 = lo := by simp
    have e2 : (((hi - lo).toNat : Nat) : Int) - ((0 : Nat) : Int) = Builtin.Range.rangeSize lo hi 1 := by rw [rangeSize_one]; split <;> omega
    show IsRangeIter _ _ (lo + ((0 : Nat) : Int) * 1) ((((hi - lo).toNat : Nat) : Int) - ((0 : Nat) : Int)) 1
    rw [e1, e2]
    exact Heap.get?_push_size _ rfl
  · have e : b = (s.heap.push { cls := .type "range", data := .fields #[.int lo t, .int hi u, .int 1 v] }).objs.size := by simpa using hb
    subst e
    exact I1.fpOk (Nat.le_refl _) (I1.hok.fresh (Nat.le_refl _))
def iRng1 (ta : TA) : TI := fun σ H R => ta σ H fun vs H1 => ∃ j : Int, vs = [.int j] ∧ -(2 ^ 62) ≤ j ∧ j < 2 ^ 62 ∧ R (Itr 0 j.toNat) H1
def iRng2 (ta : TA) : TI := fun σ H R => ta σ H fun vs H1 => ∃ i j : Int, vs = [.int i, .int j] ∧ (-(2 ^ 62) ≤ i ∧ i < 2 ^ 62 ∧ -(2 ^ 62) ≤ j ∧ j < 2 ^ 62) ∧ R (Itr i (j - i).toNat) H1
theorem pi_range1 {a : Expr} {ta : TA} {p pos : Pos} (hg : Gl X "range") (hm : X.mg "range" = none) (ha : PA X [a] ta) (hs : starEach [a] X.env = [(false, eval a X.env)] := by rfl) : PI X tg (.Call (.Name "range" p) [a] [] pos) (iRng1 ta) := by
  intro pins s σ H R I h
  refine Call_ (ld_blt I hg hm boot_range (PyProof.Rows.callWith_type1 (thn (ha pos pins s σ H _ I h) fun us s1 ⟨vs, H1, I1, r1, q1⟩ => ?_) hs rfl))
  obtain ⟨j, e, q1, q2, q⟩ := q1
  subst e
  cases r1 with
  | cons r rr =>
    cases rr
    obtain ⟨t, rfl⟩ := r
    exact call_range_1 (range_it I1 (by omega) (by omega) q1 q2 (by simpa using q))
theorem pi_range2 {a b : Expr} {ta : TA} {p pos : Pos} (hg : Gl X "range") (hm : X.mg "range" = none) (ha : PA X [a, b] ta) (hs : starEach [a, b] X.env = [(false, eval a X.env), (false, eval b X.env)] := by rfl) (hs2 : starEach [b] X.env = [(false, eval b X.env)] := by rfl) :
    PI X tg (.Call (.Name "range" p) [a, b] [] pos) (iRng2 ta) := by
  intro pins s σ H R I h
  refine Call_ (ld_blt I hg hm boot_range (PyProof.Rows.callWith_type1 (thn (ha pos pins s σ H _ I h) fun us s1 ⟨vs, H1, I1, r1, q1⟩ => ?_) (by rw [hs, hs2]) (by rw [hs2]; rfl)))
  obtain ⟨i, j, e, ⟨q1, q2, q3, q4⟩, q⟩ := q1
  subst e
  cases r1 with
  | cons r rr =>
    cases rr with
    | cons r' rr =>
      cases rr
      obtain ⟨t, rfl⟩ := r
      obtain ⟨t', rfl⟩ := r'
      exact call_range_2 (range_it I1 q1 q2 q3 q4 q)

/-! ### for -/
/-- W: the invariant by the turn and a measure; N: what the body is to reach -/
def tFor (wi : TI) (g : TG) (tb : TS) : TS := fun D σ H => wi σ H fun J H1 => ∃ W : Nat → Nat → St → Hp → Prop, (∃ m, W 0 m σ H1) ∧ ∀ i m σ H, W i m σ H →
  (J.stop i H ∧ D.nx σ H) ∨ (J.go i H ∧ ∃ N : St → Hp → Prop, (∀ σ' H', N σ' H' → ∃ m', m' < m ∧ W (i + 1) m' σ' H') ∧ ∀ x H', J.yld i H x H' → g x σ H' fun σ2 H2 => tb { D with nx := N, ct := N, bk := D.nx } σ2 H2)
/-- the records at fp as they stand -/
def pinsAt (fp : List Addr) (h : Heap) : List (Addr × Obj) := fp.filterMap fun b => (h.get? b).map fun o => (b, o)
theorem mem_pinsAt {fp : List Addr} {h : Heap} {b : Addr} {o : Obj} (hb : b ∈ fp) (e : h.get? b = some o) : (b, o) ∈ pinsAt fp h := List.mem_filterMap.mpr ⟨b, hb, by rw [e]; rfl⟩
theorem of_pinsAt {fp : List Addr} {h : Heap} {p : Addr × Obj} (hp : p ∈ pinsAt fp h) : p.1 ∈ fp ∧ h.get? p.1 = some p.2 := by
  obtain ⟨b, hb, e⟩ := List.mem_filterMap.mp hp
  cases q : h.get? b with
  | none => rw [q] at e; cases e
  | some o =>
    rw [q] at e
    have e' : (b, o) = p := Option.some.inj e
    subst e'
    exact ⟨hb, q⟩
theorem Inv.pinned {pins : List (Addr × Obj)} {σ : St} {H : Hp} {s : Shared} {fp : List Addr} (I : Inv X pins σ H s) (hf : ∀ b ∈ fp, FpOk X pins H b) (ho : ∀ b ∈ fp, ∃ o, s.heap.get? b = some o ∧ ∀ v, o.data ≠ .cell v) : Inv X (pins ++ pinsAt fp s.heap) σ H s :=
  I.pins_of fun p hp => (List.mem_append.mp hp).elim (fun z => I.pin p (List.mem_append_right _ z)) fun z => by
    obtain ⟨hb, e⟩ := of_pinsAt z
    obtain ⟨f0, f1, f2, _⟩ := hf p.1 hb
    obtain ⟨o, e', d⟩ := ho p.1 hb
    rw [e] at e'; cases e'
    exact ⟨e, f0, f1, f2, d⟩
theorem Inv.unpinned {pins pl : List (Addr × Obj)} {σ : St} {H : Hp} {s : Shared} (I : Inv X (pins ++ pl) σ H s) : Inv X pins σ H s := I.pins_of fun p hp => I.pin p (List.mem_append_right _ (List.mem_append_left _ hp))
theorem ps_for {iter : Expr} {body : List Stmt} {wi : TI} {g : TG} {tb : TS} {pos : Pos} (hp : PassesOwn (model X.prog X.w) X.A X.env X.xe) (hc : X.calm = true) (hi : PI X tg iter wi) (hg : PG X tg g) (hb : PSs X body tb)
    (hs : ∀ x, foldedSetIterable iter X.env x = pure x := by intro _; rfl) : PS X (.For tg iter body [] pos) (tFor wi g tb) := by
  intro pins s σ H D I h
  refine wpAny_For (thn (hi pins s σ H _ I h) fun v s1 h1 => thn h1 fun itv s2 h2 => ?_) hs
  obtain ⟨it, fp, tn, J, H2, e, I2, T, st2, f2, W, ⟨m0, w0⟩, turn⟩ := h2
  subst e
  -- what stays true of the iterator's objects through the loop
  have stat : ∀ {H' : Hp}, (∀ b ∈ fp, H' b = none) → ∀ b ∈ fp, FpOk X pins H' b := fun hn b hb => ⟨hn b hb, (f2 b hb).2⟩
  refine codeAny_forLoop_any (fun n s' => ∃ i σ' H', Inv X pins σ' H' s' ∧ tn i s'.heap ∧ (∀ b ∈ fp, H' b = none) ∧ W i n σ' H') ?_ m0 ⟨0, σ, H2, I2, st2, fun b hb => (f2 b hb).1, w0⟩
  rintro n s3 ⟨i, σ3, H3, I3, st3, fr3, w3⟩
  rcases turn i n σ3 H3 w3 with ⟨stop, qn⟩ | ⟨go, N, hN, step⟩
  · refine wpAny_passesOwn hp (thn (T.done X rfl rfl rfl hc i pins s3 σ3 H3 X.xe I3 (stat fr3) st3 stop) fun r s4 ⟨hr, I4⟩ => ?_)
    subst hr
    exact wpAny_execs_nil ⟨σ3, H3, I4, qn⟩
  · refine wpAny_passesOwn hp (thn (T.item X rfl rfl rfl hc i pins s3 σ3 H3 X.xe I3 (stat fr3) st3 go) fun r s4 ⟨u, hr, h4⟩ => ?_)
    subst hr
    refine wpAny_passesOwn hp (thn h4 fun _ s5 ⟨x, H5, I5, r5, y5, st5, fr5⟩ => ?_)
    have I5' := I5.pinned (stat fr5) (T.obj _ _ st5)
    refine wpAny_passesOwn hp (thn (hg _ s5 σ3 H5 x u _ I5' r5 (step x H5 y5)) fun _ s6 ⟨σ6, H6, I6, q6⟩ => ?_)
    refine wpAny_passesOwn hp (thn (hb _ s6 σ6 H6 _ I6 q6) fun f s7 q7 => ?_)
    have again : ∀ {σ7 : St} {H7 : Hp}, Inv X (pins ++ pinsAt fp s5.heap) σ7 H7 s7 → N σ7 H7 → ∃ m, m < n ∧ ∃ i σ' H', Inv X pins σ' H' s7 ∧ tn i s7.heap ∧ (∀ b ∈ fp, H' b = none) ∧ W i m σ' H' := fun {σ7 H7} I7 n7 => by
      obtain ⟨m', hm, w7⟩ := hN σ7 H7 n7
      refine ⟨m', hm, i + 1, σ7, H7, I7.unpinned, T.keep _ _ _ st5 fun b hb o e => (I7.pin (b, o) (List.mem_append_right _ (List.mem_append_right _ (mem_pinsAt hb e)))).1, fun b hb => ?_, w7⟩
      obtain ⟨o, e, d⟩ := T.obj _ _ st5 b hb
      exact (I7.pin (b, o) (List.mem_append_right _ (List.mem_append_right _ (mem_pinsAt hb e)))).2.1
    cases f with
    | next => obtain ⟨σ7, H7, I7, n7⟩ := q7; exact again I7 n7
    | cont => obtain ⟨σ7, H7, I7, n7⟩ := q7; exact again I7 n7
    | brk => obtain ⟨σ7, H7, I7, q7⟩ := q7; exact ⟨σ7, H7, I7.unpinned, q7⟩
    | ret v => obtain ⟨x7, σ7, H7, I7, r7, q7⟩ := q7; exact ⟨x7, σ7, H7, I7.unpinned, r7, q7⟩
end

/-! ### the forms one uses -/
/-- over a list that the body leaves as it is -/
theorem for_list {K : PySem.W.Frag} {a : Addr} {xs : List V} {g : TG} {tb : TS} {D : Ends} {σ : St} {H : Hp} (Pv : Nat → St → Hp → Prop) (h0 : Pv 0 σ H) (hl : ∀ i σ H, i ≤ xs.length → Pv i σ H → SqL K H a xs)
    (hs : ∀ i x σ H, xs[i]? = some x → Pv i σ H → g x σ H fun σ2 H2 => tb { D with nx := Pv (i + 1), ct := Pv (i + 1), bk := D.nx } σ2 H2) (hd : ∀ σ H, Pv xs.length σ H → D.nx σ H) :
    ∃ W : Nat → Nat → St → Hp → Prop, (∃ m, W 0 m σ H) ∧ ∀ i m σ H, W i m σ H →
      ((Itl K a).stop i H ∧ D.nx σ H) ∨ ((Itl K a).go i H ∧ ∃ N : St → Hp → Prop, (∀ σ' H', N σ' H' → ∃ m', m' < m ∧ W (i + 1) m' σ' H') ∧ ∀ x H', (Itl K a).yld i H x H' → g x σ H' fun σ2 H2 => tb { D with nx := N, ct := N, bk := D.nx } σ2 H2) := by
  refine ⟨fun i m σ H => m = xs.length - i ∧ i ≤ xs.length ∧ Pv i σ H, ⟨xs.length, by simp, Nat.zero_le _, h0⟩, ?_⟩
  rintro i m σ H ⟨rfl, hi, p⟩
  have q := hl i σ H hi p
  by_cases hlt : i < xs.length
  · refine .inr ⟨⟨xs, xs[i], q, by simp [hlt]⟩, Pv (i + 1), fun σ' H' p' => ⟨xs.length - (i + 1), by omega, rfl, hlt, p'⟩, fun x H' y => ?_⟩
    obtain ⟨e, y⟩ := y
    subst e
    exact hs i x σ _ (y xs q) p
  · have e : i = xs.length := by omega
    subst e
    exact .inl ⟨⟨xs, q, Nat.le_refl _⟩, hd σ H p⟩
theorem for_tup {K : PySem.W.Frag} {a : Addr} {xs : List V} {g : TG} {tb : TS} {D : Ends} {σ : St} {H : Hp} (Pv : Nat → St → Hp → Prop) (h0 : Pv 0 σ H) (hl : ∀ i σ H, i ≤ xs.length → Pv i σ H → SqT K H a xs)
    (hs : ∀ i x σ H, xs[i]? = some x → Pv i σ H → g x σ H fun σ2 H2 => tb { D with nx := Pv (i + 1), ct := Pv (i + 1), bk := D.nx } σ2 H2) (hd : ∀ σ H, Pv xs.length σ H → D.nx σ H) :
    ∃ W : Nat → Nat → St → Hp → Prop, (∃ m, W 0 m σ H) ∧ ∀ i m σ H, W i m σ H →
      ((Itt K a).stop i H ∧ D.nx σ H) ∨ ((Itt K a).go i H ∧ ∃ N : St → Hp → Prop, (∀ σ' H', N σ' H' → ∃ m', m' < m ∧ W (i + 1) m' σ' H') ∧ ∀ x H', (Itt K a).yld i H x H' → g x σ H' fun σ2 H2 => tb { D with nx := N, ct := N, bk := D.nx } σ2 H2) := by
  refine ⟨fun i m σ H => m = xs.length - i ∧ i ≤ xs.length ∧ Pv i σ H, ⟨xs.length, by simp, Nat.zero_le _, h0⟩, ?_⟩
  rintro i m σ H ⟨rfl, hi, p⟩
  have q := hl i σ H hi p
  by_cases hlt : i < xs.length
  · refine .inr ⟨⟨xs, xs[i], q, by simp [hlt]⟩, Pv (i + 1), fun σ' H' p' => ⟨xs.length - (i + 1), by omega, rfl, hlt, p'⟩, fun x H' y => ?_⟩
    obtain ⟨e, y⟩ := y
    subst e
    exact hs i x σ _ (y xs q) p
  · have e : i = xs.length := by omega
    subst e
    exact .inl ⟨⟨xs, q, Nat.le_refl _⟩, hd σ H p⟩
theorem for_range {lo : Int} {n : Nat} {g : TG} {tb : TS} {D : Ends} {σ : St} {H : Hp} (Pv : Nat → St → Hp → Prop) (h0 : Pv 0 σ H)
    (hs : ∀ i σ H, i < n → Pv i σ H → g (.int (lo + i)) σ H fun σ2 H2 => tb { D with nx := Pv (i + 1), ct := Pv (i + 1), bk := D.nx } σ2 H2) (hd : ∀ σ H, Pv n σ H → D.nx σ H) :
    ∃ W : Nat → Nat → St → Hp → Prop, (∃ m, W 0 m σ H) ∧ ∀ i m σ H, W i m σ H →
      ((Itr lo n).stop i H ∧ D.nx σ H) ∨ ((Itr lo n).go i H ∧ ∃ N : St → Hp → Prop, (∀ σ' H', N σ' H' → ∃ m', m' < m ∧ W (i + 1) m' σ' H') ∧ ∀ x H', (Itr lo n).yld i H x H' → g x σ H' fun σ2 H2 => tb { D with nx := N, ct := N, bk := D.nx } σ2 H2) := by
  refine ⟨fun i m σ H => m = n - i ∧ i ≤ n ∧ Pv i σ H, ⟨n, by simp, Nat.zero_le _, h0⟩, ?_⟩
  rintro i m σ H ⟨rfl, hi, p⟩
  by_cases hlt : i < n
  · refine .inr ⟨hlt, Pv (i + 1), fun σ' H' p' => ⟨n - (i + 1), by omega, rfl, hlt, p'⟩, fun x H' y => ?_⟩
    obtain ⟨e, y⟩ := y
    subst e y
    exact hs i σ _ hlt p
  · have e : i = n := by omega
    subst e
    exact .inl ⟨Nat.le_refl _, hd σ H p⟩
/-- while, by a word and a measure of the state -/
theorem while_by {c : TT} {tb : TS} {D : Ends} {σ : St} {H : Hp} (Pv : St → Hp → Prop) (μ : St → Hp → Nat) (h0 : Pv σ H)
    (hs : ∀ σ H, Pv σ H → c σ H fun b H1 => if b = true then tb { D with nx := fun σ' H' => Pv σ' H' ∧ μ σ' H' < μ σ H, ct := fun σ' H' => Pv σ' H' ∧ μ σ' H' < μ σ H, bk := D.nx } σ H1 else D.nx σ H1)
    (mono : ∀ σ H Q Q', (∀ b H1, Q b H1 → Q' b H1) → c σ H Q → c σ H Q') : tWhile c tb D σ H := by
  refine ⟨fun m σ H => m = μ σ H ∧ Pv σ H, ⟨_, rfl, h0⟩, ?_⟩
  rintro m σ H ⟨rfl, p⟩
  refine mono σ H _ _ (fun b H1 q => ?_) (hs σ H p)
  cases b with
  | true => exact ⟨_, fun σ' H' ⟨p', l⟩ => ⟨_, l, rfl, p'⟩, q⟩
  | false => exact q
end L2

namespace L2
open PySem PySem.Spec PyProof.Rows

abbrev R2 := V → V → Hp → VK → Prop
/-- a two-place operation on values: f is binaryOp op, inplaceOp op or compareOp op -/
def OpR (X : Cx) (f : Value → Value → Sem Value) (r : R2) : Prop :=
  ∀ (pins : List (Addr × Obj)) (s : Shared) (σ : St) (H : Hp) (x y : V) (v u : Value) (Q : VK), Inv X pins σ H s → RelV x v → RelV y u → r x y H Q →
    wpAny (model X.prog X.w) X.A (f v u) (EP X pins σ Q) X.xe s
/-- a one-place operation -/
def UnR (X : Cx) (f : Value → Sem Value) (r : V → Hp → VK → Prop) : Prop :=
  ∀ (pins : List (Addr × Obj)) (s : Shared) (σ : St) (H : Hp) (x : V) (v : Value) (Q : VK), Inv X pins σ H s → RelV x v → r x H Q →
    wpAny (model X.prog X.w) X.A (f v) (EP X pins σ Q) X.xe s
/-- a call of a value that is known (a builtin, a type) with values -/
def CallR (X : Cx) (f : Value) (r : List V → Hp → VK → Prop) : Prop :=
  ∀ (pins : List (Addr × Obj)) (s : Shared) (σ : St) (H : Hp) (xs : List V) (us : List Value) (Q : VK), Inv X pins σ H s → Vals xs us → r xs H Q →
    wpAny (model X.prog X.w) X.A (call f us) (EP X pins σ Q) X.xe s
/-- a value's truth -/
def TruR (X : Cx) (r : V → Hp → (Bool → Hp → Prop) → Prop) : Prop :=
  ∀ (pins : List (Addr × Obj)) (s : Shared) (σ : St) (H : Hp) (x : V) (v : Value) (Q : Bool → Hp → Prop), Inv X pins σ H s → RelV x v → r x H Q →
    wpAny (model X.prog X.w) X.A (truthy v) (TP X pins σ Q) X.xe s

def tOp (r : R2) (ta tb : TE) : TE := fun σ H Q => ta σ H fun x H1 => tb σ H1 fun y H2 => r x y H2 Q
def tUn (r : V → Hp → VK → Prop) (ta : TE) : TE := fun σ H Q => ta σ H fun x H1 => r x H1 Q
/-- ints in, under C, and a value out -/
def rI (C : Int → Int → Prop) (g : Int → Int → V) : R2 := fun x y H Q => ∃ i j, x = .int i ∧ y = .int j ∧ C i j ∧ Q (g i j) H
def rI0 (g : Int → Int → V) : R2 := fun x y H Q => ∃ i j, x = .int i ∧ y = .int j ∧ Q (g i j) H
def rU (g : Int → V) : V → Hp → VK → Prop := fun x H Q => ∃ i, x = .int i ∧ Q (g i) H

section
variable {X : Cx} {a b c : Expr} {ta tb tc : TE} {pos : Pos}

theorem binT (ha : PE X a ta) (hb : PE X b tb) {pins : List (Addr × Obj)} {s : Shared} {σ : St} {H : Hp} {R : V → V → Hp → Prop} (I : Inv X pins σ H s)
    (h : ta σ H fun x H1 => tb σ H1 fun y H2 => R x y H2) {Q : Value → Shared → Prop} {f : Value → Value → Sem Value}
    (hf : ∀ v u s2 x y H2, Inv X pins σ H2 s2 → RelV x v → RelV y u → R x y H2 → wpAny (model X.prog X.w) X.A (f v u) Q X.xe s2) :
    wpAny (model X.prog X.w) X.A (eval a X.env) (fun v s₁ => wpAny (model X.prog X.w) X.A (eval b X.env) (fun u s₂ => wpAny (model X.prog X.w) X.A (f v u) Q X.xe s₂) X.xe s₁) X.xe s := by
  refine thn (ha pins s σ H _ I h) fun v s1 ⟨x, H1, I1, r1, q1⟩ => ?_
  refine thn (hb pins s1 σ H1 _ I1 q1) fun u s2 ⟨y, H2, I2, r2, q2⟩ => ?_
  exact hf v u s2 x y H2 I2 r1 r2 q2

theorem pe_op {op : Operator} {r : R2} (ho : OpR X (binaryOp op) r) (ha : PE X a ta) (hb : PE X b tb) : PE X (.BinOp a op b pos) (tOp r ta tb) := by
  intro pins s σ H Q I h
  exact wpAny_BinOp (binT ha hb I h fun v u s2 x y H2 I2 rx ry q => ho pins s2 σ H2 x y v u Q I2 rx ry q)
theorem pe_un {op : UnaryOp} {r : V → Hp → VK → Prop} (ho : UnR X (unaryOp op) r) (ha : PE X a ta) : PE X (.UnaryOp op a pos) (tUn r ta) := by
  intro pins s σ H Q I h
  exact UnaryOp_ (thn (ha pins s σ H _ I h) fun v s1 ⟨x, H1, I1, r1, q1⟩ => ho pins s1 σ H1 x v Q I1 r1 q1)
/-- a op= e at a name: the name's slot i -/
theorem augR {op : Operator} {r : R2} (ho : OpR X (inplaceOp op) r) {pins : List (Addr × Obj)} {s : Shared} {σ : St} {H : Hp} {x y : V} {v u : Value} {Q : VK} (I : Inv X pins σ H s)
    (rx : RelV x v) (ry : RelV y u) (q : r x y H Q) : wpAny (model X.prog X.w) X.A (inplaceOp op v u) (EP X pins σ Q) X.xe s := ho pins s σ H x y v u Q I rx ry q

/-! ### ints -/
theorem opI {f : Value → Value → Sem Value} {C : Int → Int → Prop} {g : Int → Int → Int}
    (rule : ∀ (i j : Int) (t u : Tok) (s : Shared) (Q : Value → Shared → Prop) (E : Value → Shared → Prop), C i j → Q (.int (g i j) s.toks) { s with toks := s.toks + 1 } → wpAny (model X.prog X.w) X.A (f (.int i t) (.int j u)) Q E s) :
    OpR X f (rI C fun i j => .int (g i j)) := by
  intro pins s σ H x y v u Q I rx ry h
  obtain ⟨i, j, rfl, rfl, hc, q⟩ := h
  obtain ⟨t, rfl⟩ := rx
  obtain ⟨t', rfl⟩ := ry
  exact rule i j t t' s _ _ hc ⟨.int (g i j), H, I.tok _, ⟨_, rfl⟩, q⟩
theorem opI0 {f : Value → Value → Sem Value} {g : Int → Int → Int}
    (rule : ∀ (i j : Int) (t u : Tok) (s : Shared) (Q : Value → Shared → Prop) (E : Value → Shared → Prop), Q (.int (g i j) s.toks) { s with toks := s.toks + 1 } → wpAny (model X.prog X.w) X.A (f (.int i t) (.int j u)) Q E s) :
    OpR X f (rI0 fun i j => .int (g i j)) := by
  intro pins s σ H x y v u Q I rx ry h
  obtain ⟨i, j, rfl, rfl, q⟩ := h
  obtain ⟨t, rfl⟩ := rx
  obtain ⟨t', rfl⟩ := ry
  exact rule i j t t' s _ _ ⟨.int (g i j), H, I.tok _, ⟨_, rfl⟩, q⟩
theorem opB0 {f : Value → Value → Sem Value} {g : Int → Int → Bool}
    (rule : ∀ (i j : Int) (t u : Tok) (s : Shared) (Q : Value → Shared → Prop) (E : Value → Shared → Prop), Q (.bool (g i j)) s → wpAny (model X.prog X.w) X.A (f (.int i t) (.int j u)) Q E s) :
    OpR X f (rI0 fun i j => .bl (g i j)) := by
  intro pins s σ H x y v u Q I rx ry h
  obtain ⟨i, j, rfl, rfl, q⟩ := h
  obtain ⟨t, rfl⟩ := rx
  obtain ⟨t', rfl⟩ := ry
  exact rule i j t t' s _ _ ⟨.bl (g i j), H, I, rfl, q⟩

def CDiv (i j : Int) : Prop := 0 < j ∧ j < 1073741824
def CDivN (i j : Int) : Prop := j ≠ 0 ∧ j.natAbs < 1073741824
def CPow (i j : Int) : Prop := 0 ≤ j ∧ j ≤ 1000000 ∧ i.natAbs < 2 ^ 64
def CMul (i j : Int) : Prop := (-(2 ^ 64) < i ∧ i < 2 ^ 64) ∨ (-(2 ^ 64) < j ∧ j < 2 ^ 64)
theorem CMul.ok {i j : Int} (h : CMul i j) : IntMulOk i j := by
  rcases h with ⟨h1, h2⟩ | ⟨h1, h2⟩
  · exact .of_left (intBits_le_64 h1 h2)
  · exact .of_right (intBits_le_64 h1 h2)
theorem two_pow_nn (k : Nat) : (0 : Int) ≤ 2 ^ k := by
  rw [two_pow_cast]
  exact Int.natCast_nonneg _

theorem op_add : OpR X (binaryOp .Add) (rI0 fun i j => .int (i + j)) := opI0 fun _ _ _ _ _ _ _ q => add_int q
theorem op_sub : OpR X (binaryOp .Sub) (rI0 fun i j => .int (i - j)) := opI0 fun _ _ _ _ _ _ _ q => sub_int q
theorem op_mul : OpR X (binaryOp .Mult) (rI CMul fun i j => .int (i * j)) := opI fun _ _ _ _ _ _ _ hc q => mul_int q hc.ok
/-- // by a positive divisor -/
theorem op_fdiv : OpR X (binaryOp .FloorDiv) (rI CDiv fun i j => .int (i / j)) := opI fun i j _ _ _ _ _ hc q => by
  have h1 : (0 : Int) < j := hc.1
  have h2 : j < 1073741824 := hc.2
  exact floordiv_int (by omega) (by rw [Int.fdiv_eq_ediv_of_nonneg i (by omega)]; exact q) (.inl (PyProof.noPylong_small (by omega)))
theorem op_fdivN : OpR X (binaryOp .FloorDiv) (rI CDivN fun i j => .int (i.fdiv j)) := opI fun _ _ _ _ _ _ _ hc q => floordiv_int hc.1 q (.inl (PyProof.noPylong_small hc.2))
/-- % by a positive divisor of any size -/
theorem op_mod : OpR X (binaryOp .Mod) (rI (fun _ j => 0 < j) fun i j => .int (i % j)) := opI fun i j _ _ _ _ _ hc q => by
  have h1 : (0 : Int) < j := hc
  exact mod_int' (by omega) (by rw [Int.fmod_eq_emod_of_nonneg i (by omega)]; exact q)
theorem op_modN : OpR X (binaryOp .Mod) (rI (fun _ j => j ≠ 0) fun i j => .int (i.fmod j)) := opI fun _ _ _ _ _ _ _ hc q => mod_int' hc q
theorem op_pow : OpR X (binaryOp .Pow) (rI CPow fun i j => .int (i ^ j.toNat)) := opI fun _ _ _ _ _ _ _ hc q => pow_int_small hc.1 hc.2.1 hc.2.2 q
theorem op_shl : OpR X (binaryOp .LShift) (rI CPow fun i j => .int (i * 2 ^ j.toNat)) := opI fun _ _ _ _ _ _ _ hc q => lshift_int_small hc.1 hc.2.1 hc.2.2 q
theorem op_shr : OpR X (binaryOp .RShift) (rI (fun _ j => 0 ≤ j) fun i j => .int (i / 2 ^ j.toNat)) := opI fun i j _ _ _ _ _ hc q =>
  rshift_int hc (by rw [Int.fdiv_eq_ediv_of_nonneg i (two_pow_nn _)]; exact q)
theorem op_and : OpR X (binaryOp .BitAnd) (rI0 fun i j => .int (Builtin.bitAnd i j)) := opI0 fun _ _ _ _ _ _ _ q => and_int q
theorem op_or : OpR X (binaryOp .BitOr) (rI0 fun i j => .int (Builtin.bitOr i j)) := opI0 fun _ _ _ _ _ _ _ q => or_int q
theorem op_xor : OpR X (binaryOp .BitXor) (rI0 fun i j => .int (Builtin.bitXor i j)) := opI0 fun _ _ _ _ _ _ _ q => xor_int q

theorem iop_add : OpR X (inplaceOp .Add) (rI0 fun i j => .int (i + j)) := opI0 fun _ _ _ _ _ _ _ q => iadd_int q
theorem iop_sub : OpR X (inplaceOp .Sub) (rI0 fun i j => .int (i - j)) := opI0 fun _ _ _ _ _ _ _ q => isub_int q
theorem iop_mul : OpR X (inplaceOp .Mult) (rI CMul fun i j => .int (i * j)) := opI fun _ _ _ _ _ _ _ hc q => imul_int q hc.ok
theorem iop_fdiv : OpR X (inplaceOp .FloorDiv) (rI CDiv fun i j => .int (i / j)) := opI fun i j _ _ _ _ _ hc q => by
  have h1 : (0 : Int) < j := hc.1
  have h2 : j < 1073741824 := hc.2
  exact ifloordiv_int (by omega) (by rw [Int.fdiv_eq_ediv_of_nonneg i (by omega)]; exact q) (.inl (PyProof.noPylong_small (by omega)))
theorem iop_mod : OpR X (inplaceOp .Mod) (rI (fun _ j => 0 < j) fun i j => .int (i % j)) := opI fun i j _ _ _ _ _ hc q => by
  have h1 : (0 : Int) < j := hc
  exact imod_int (by omega) (by rw [Int.fmod_eq_emod_of_nonneg i (by omega)]; exact q)
theorem iop_shl : OpR X (inplaceOp .LShift) (rI CPow fun i j => .int (i * 2 ^ j.toNat)) := opI fun _ _ _ _ _ _ _ hc q => ilshift_int_small hc.1 hc.2.1 hc.2.2 q
theorem iop_shr : OpR X (inplaceOp .RShift) (rI (fun _ j => 0 ≤ j) fun i j => .int (i / 2 ^ j.toNat)) := opI fun i j _ _ _ _ _ hc q =>
  irshift_int hc (by rw [Int.fdiv_eq_ediv_of_nonneg i (two_pow_nn _)]; exact q)
theorem iop_and : OpR X (inplaceOp .BitAnd) (rI0 fun i j => .int (Builtin.bitAnd i j)) := opI0 fun _ _ _ _ _ _ _ q => iand_int q
theorem iop_or : OpR X (inplaceOp .BitOr) (rI0 fun i j => .int (Builtin.bitOr i j)) := opI0 fun _ _ _ _ _ _ _ q => ior_int q
theorem iop_xor : OpR X (inplaceOp .BitXor) (rI0 fun i j => .int (Builtin.bitXor i j)) := opI0 fun _ _ _ _ _ _ _ q => ixor_int q

theorem unI {f : Value → Sem Value} {g : Int → Int}
    (rule : ∀ (i : Int) (t : Tok) (s : Shared) (Q : Value → Shared → Prop) (E : Value → Shared → Prop), Q (.int (g i) s.toks) { s with toks := s.toks + 1 } → wpAny (model X.prog X.w) X.A (f (.int i t)) Q E s) :
    UnR X f (rU fun i => .int (g i)) := by
  intro pins s σ H x v Q I rx h
  obtain ⟨i, rfl, q⟩ := h
  obtain ⟨t, rfl⟩ := rx
  exact rule i t s _ _ ⟨.int (g i), H, I.tok _, ⟨_, rfl⟩, q⟩
theorem un_neg : UnR X (unaryOp .USub) (rU fun i => .int (-i)) := unI fun _ _ _ _ _ q => neg_int q
theorem un_inv : UnR X (unaryOp .Invert) (rU fun i => .int (Builtin.bitNot i)) := unI fun _ _ _ _ _ q => invert_int q

/-! ### bools among ints: n += (a < b) -/
theorem op_add_ib : OpR X (binaryOp .Add) (fun x y H Q => ∃ i k, x = .int i ∧ y = .bl k ∧ Q (.int (i + b2i k)) H) := by
  intro pins s σ H x y v u Q I rx ry h
  obtain ⟨i, k, rfl, rfl, q⟩ := h
  obtain ⟨t, rfl⟩ := rx
  cases ry
  exact add_int_bool ⟨.int (i + b2i k), H, I.tok _, ⟨_, rfl⟩, q⟩
end

/-! ### comparisons -/
/-- the scalars that == tells apart as data does -/
def scal : V → V → Bool
  | .non, .non => true | .non, .int _ => true | .int _, .non => true | .non, .bl _ => true | .bl _, .non => true | .non, .str _ => true | .str _, .non => true
  | .int _, .int _ => true | .bl _, .bl _ => true | .str _, .str _ => true | .byt _, .byt _ => true
  | .int _, .str _ => true | .str _, .int _ => true | .bl _, .str _ => true | .str _, .bl _ => true
  | _, _ => false
def rEq : R2 := fun x y H Q => scal x y = true ∧ Q (.bl (decide (x = y))) H
def rNe : R2 := fun x y H Q => scal x y = true ∧ Q (.bl (!decide (x = y))) H

theorem dec_int {i j : Int} : decide (V.int i = V.int j) = (i == j) := by
  rw [Bool.eq_iff_iff]
  simp
theorem dec_bl {i j : Bool} : decide (V.bl i = V.bl j) = (i == j) := by
  rw [Bool.eq_iff_iff]
  simp
theorem dec_str {i j : Str} : decide (V.str i = V.str j) = (i == j) := by
  rw [Bool.eq_iff_iff]
  simp
theorem dec_byt {i j : Array UInt8} : decide (V.byt i = V.byt j) = (i.toList == j.toList) := by
  rw [Bool.eq_iff_iff]
  cases i
  cases j
  simp

section
variable {X : Cx} {a b c : Expr} {ta tb tc : TE} {pos : Pos}
theorem fin_bl {pins : List (Addr × Obj)} {σ : St} {H : Hp} {s : Shared} {Q : VK} {k k' : Bool} (I : Inv X pins σ H s) (q : Q (.bl k) H) (e : k = k') : EP X pins σ Q (.bool k') s := by
  subst e
  exact ⟨.bl k, H, I, rfl, q⟩
theorem op_eq : OpR X (compareOp .Eq) rEq := by
  intro pins s σ H x y v u Q I rx ry h
  obtain ⟨hs, q⟩ := h
  cases x with
  | non =>
    cases rx
    cases y with
    | non => cases ry; exact PySem.EqNone.eq_none_none (fin_bl I q (by simp))
    | bl j => cases ry; exact PySem.EqNone.eq_none_bool (fin_bl I q (by simp))
    | int j => obtain ⟨t', rfl⟩ := ry; exact PySem.EqNone.eq_none_int (fin_bl I q (by simp))
    | str j => obtain ⟨t', rfl⟩ := ry; exact PySem.EqNone.eq_none_str (fin_bl I q (by simp))
    | _ => exact absurd (show false = true from hs) Bool.false_ne_true
  | bl i =>
    cases rx
    cases y with
    | non => cases ry; exact PySem.EqNone.eq_bool_none (fin_bl I q (by simp))
    | bl j => cases ry; exact eq_bool (fin_bl I q dec_bl)
    | str j => obtain ⟨t', rfl⟩ := ry; exact PySem.EqMixed.eq_bool_str (fin_bl I q (by simp))
    | _ => exact absurd (show false = true from hs) Bool.false_ne_true
  | int i =>
    obtain ⟨t, rfl⟩ := rx
    cases y with
    | non => cases ry; exact PySem.EqNone.eq_int_none (fin_bl I q (by simp))
    | int j => obtain ⟨t', rfl⟩ := ry; exact eq_int (fin_bl I q dec_int)
    | str j => obtain ⟨t', rfl⟩ := ry; exact PySem.EqMixed.eq_int_str (fin_bl I q (by simp))
    | _ => exact absurd (show false = true from hs) Bool.false_ne_true
  | str i =>
    obtain ⟨t, rfl⟩ := rx
    cases y with
    | non => cases ry; exact PySem.EqNone.eq_str_none (fin_bl I q (by simp))
    | bl j => cases ry; exact PySem.EqMixed.eq_str_bool (fin_bl I q (by simp))
    | int j => obtain ⟨t', rfl⟩ := ry; exact PySem.EqMixed.eq_str_int (fin_bl I q (by simp))
    | str j => obtain ⟨t', rfl⟩ := ry; exact eq_str (fin_bl I q dec_str)
    | _ => exact absurd (show false = true from hs) Bool.false_ne_true
  | byt i =>
    obtain ⟨t, rfl⟩ := rx
    cases y with
    | byt j => obtain ⟨t', rfl⟩ := ry; exact PySem.W.eq_bytes (fin_bl I q dec_byt)
    | _ => exact absurd (show false = true from hs) Bool.false_ne_true
  | _ => cases y <;> exact absurd (show false = true from hs) Bool.false_ne_true
theorem op_ne : OpR X (compareOp .NotEq) rNe := by
  intro pins s σ H x y v u Q I rx ry h
  obtain ⟨hs, q⟩ := h
  cases x with
  | non =>
    cases rx
    cases y with
    | non => cases ry; exact PySem.EqNone.ne_none_none (fin_bl I q (by simp))
    | bl j => cases ry; exact PySem.EqNone.ne_none_bool (fin_bl I q (by simp))
    | int j => obtain ⟨t', rfl⟩ := ry; exact PySem.EqNone.ne_none_int (fin_bl I q (by simp))
    | str j => obtain ⟨t', rfl⟩ := ry; exact PySem.EqNone.ne_none_str (fin_bl I q (by simp))
    | _ => exact absurd (show false = true from hs) Bool.false_ne_true
  | bl i =>
    cases rx
    cases y with
    | non => cases ry; exact PySem.EqNone.ne_bool_none (fin_bl I q (by simp))
    | bl j => cases ry; exact ne_bool (fin_bl I q (congrArg not dec_bl))
    | str j => obtain ⟨t', rfl⟩ := ry; exact PySem.EqMixed.ne_bool_str (fin_bl I q (by simp))
    | _ => exact absurd (show false = true from hs) Bool.false_ne_true
  | int i =>
    obtain ⟨t, rfl⟩ := rx
    cases y with
    | non => cases ry; exact PySem.EqNone.ne_int_none (fin_bl I q (by simp))
    | int j => obtain ⟨t', rfl⟩ := ry; exact ne_int (fin_bl I q (congrArg not dec_int))
    | str j => obtain ⟨t', rfl⟩ := ry; exact PySem.EqMixed.ne_int_str (fin_bl I q (by simp))
    | _ => exact absurd (show false = true from hs) Bool.false_ne_true
  | str i =>
    obtain ⟨t, rfl⟩ := rx
    cases y with
    | non => cases ry; exact PySem.EqNone.ne_str_none (fin_bl I q (by simp))
    | bl j => cases ry; exact PySem.EqMixed.ne_str_bool (fin_bl I q (by simp))
    | int j => obtain ⟨t', rfl⟩ := ry; exact PySem.EqMixed.ne_str_int (fin_bl I q (by simp))
    | str j => obtain ⟨t', rfl⟩ := ry; exact ne_str (fin_bl I q (congrArg not dec_str))
    | _ => exact absurd (show false = true from hs) Bool.false_ne_true
  | byt i =>
    obtain ⟨t, rfl⟩ := rx
    cases y with
    | byt j => obtain ⟨t', rfl⟩ := ry; exact PySem.W.ne_bytes (fin_bl I q (congrArg not dec_byt))
    | _ => exact absurd (show false = true from hs) Bool.false_ne_true
  | _ => cases y <;> exact absurd (show false = true from hs) Bool.false_ne_true

theorem op_lt : OpR X (compareOp .Lt) (rI0 fun i j => .bl (decide (i < j))) := opB0 fun _ _ _ _ _ _ _ q => lt_int q
theorem op_le : OpR X (compareOp .LtE) (rI0 fun i j => .bl (decide (i ≤ j))) := opB0 fun _ _ _ _ _ _ _ q => le_int q
theorem op_gt : OpR X (compareOp .Gt) (rI0 fun i j => .bl (decide (j < i))) := opB0 fun _ _ _ _ _ _ _ q => gt_int q
theorem op_ge : OpR X (compareOp .GtE) (rI0 fun i j => .bl (decide (j ≤ i))) := opB0 fun _ _ _ _ _ _ _ q => ge_int q
theorem op_lt_str : OpR X (compareOp .Lt) (fun x y H Q => ∃ i j, x = .str i ∧ y = .str j ∧ Q (.bl (decide (i.cps.toList < j.cps.toList))) H) := by
  intro pins s σ H x y v u Q I rx ry h
  obtain ⟨i, j, rfl, rfl, q⟩ := h
  obtain ⟨t, rfl⟩ := rx
  obtain ⟨t', rfl⟩ := ry
  exact lt_str (fin_bl I q rfl)
/-- the one string within the other -/
theorem op_in_str : OpR X (compareOp .In) (fun x y H Q => ∃ i j, x = .str i ∧ y = .str j ∧ Q (.bl (!(Builtin.Str.occurrences j i 0 j.length 1).isEmpty)) H) := by
  intro pins s σ H x y v u Q I rx ry h
  obtain ⟨i, j, rfl, rfl, q⟩ := h
  obtain ⟨t, rfl⟩ := rx
  obtain ⟨t', rfl⟩ := ry
  exact in_str (fin_bl I q rfl)

/-- is None, is not None: the right side a value none -/
theorem op_isN : OpR X (compareOp .Is) (fun x y H Q => y = .non ∧ Q (.bl (decide (x = .non))) H) := by
  intro pins s σ H x y v u Q I rx ry h
  obtain ⟨rfl, q⟩ := h
  cases ry
  refine is_none_gen (fin_bl I q ?_)
  cases x <;> first
    | (cases rx; rfl)
    | (obtain ⟨t, rfl⟩ := rx; rfl)
theorem op_notN : OpR X (compareOp .IsNot) (fun x y H Q => y = .non ∧ Q (.bl (!decide (x = .non))) H) := by
  intro pins s σ H x y v u Q I rx ry h
  obtain ⟨rfl, q⟩ := h
  cases ry
  refine isnot_none_gen (fin_bl I q ?_)
  cases x <;> first
    | (cases rx; rfl)
    | (obtain ⟨t, rfl⟩ := rx; rfl)

theorem op_notin_str : OpR X (compareOp .NotIn) (fun x y H Q => ∃ i j, x = .str i ∧ y = .str j ∧ Q (.bl (!(!(Builtin.Str.occurrences j i 0 j.length 1).isEmpty))) H) := by
  intro pins s σ H x y v u Q I rx ry h
  obtain ⟨i, j, rfl, rfl, q⟩ := h
  obtain ⟨t, rfl⟩ := rx
  obtain ⟨t', rfl⟩ := ry
  exact notIn_str (fin_bl I q rfl)
/-- is, is not of two objects that are tracked lists or instances -/
def isObj : HO → Bool
  | .lst _ => true
  | .ins _ _ _ => true
  | _ => false
theorem obj_there {pins : List (Addr × Obj)} {s : Shared} {σ : St} {H : Hp} {a : Addr} {o : HO} (I : Inv X pins σ H s) (h : H a = some o) (p : isObj o = true) : ∃ ob, s.heap.get? a = some ob ∧ ob.cls ≠ .type "tuple" := by
  cases o with
  | lst xs =>
    obtain ⟨_, its, n, _, e⟩ : xs.length ≤ sizeLine ∧ ∃ (its : List Value) (n : Nat), Vals xs its ∧ s.heap.get? a = some { cls := .type "list", data := .seq its.toArray n } := I.hok a _ h
    exact ⟨_, e, (by show Value.type "list" ≠ .type "tuple"; decide +kernel)⟩
  | ins C dx fs =>
    have x := I.hok a _ h
    obtain ⟨_, _, _, e, _⟩ := x
    exact ⟨_, e, (by show Value.ref C ≠ .type "tuple"; exact fun z => by cases z)⟩
  | _ => exact absurd (show false = true from p) Bool.false_ne_true
theorem op_is_ref : OpR X (compareOp .Is) (fun x y H Q => ∃ a b oa ob, x = .ref a ∧ y = .ref b ∧ H a = some oa ∧ isObj oa = true ∧ H b = some ob ∧ isObj ob = true ∧ Q (.bl (decide (a = b))) H) := by
  intro pins s σ H x y v u Q I rx ry h
  obtain ⟨a, b, oa, ob, rfl, rfl, ha, pa, hb, pb, q⟩ := h
  cases rx
  cases ry
  obtain ⟨o1, e1, n1⟩ := obj_there I ha pa
  obtain ⟨o2, e2, _⟩ := obj_there I hb pb
  by_cases z : a = b
  · subst z
    exact wpAny_is_ref_self (fin_bl I q (by simp))
  · exact wpAny_is_ref_other z e1 e2 n1 (fin_bl I q (by simp [z]))
theorem op_isnot_ref : OpR X (compareOp .IsNot) (fun x y H Q => ∃ a b oa ob, x = .ref a ∧ y = .ref b ∧ H a = some oa ∧ isObj oa = true ∧ H b = some ob ∧ isObj ob = true ∧ Q (.bl (!decide (a = b))) H) := by
  intro pins s σ H x y v u Q I rx ry h
  obtain ⟨a, b, oa, ob, rfl, rfl, ha, pa, hb, pb, q⟩ := h
  cases rx
  cases ry
  obtain ⟨o1, e1, n1⟩ := obj_there I ha pa
  obtain ⟨o2, e2, _⟩ := obj_there I hb pb
  by_cases z : a = b
  · subst z
    exact wpAny_isNot_ref_self (fin_bl I q (by simp))
  · exact wpAny_isNot_ref_other z e1 e2 n1 (fin_bl I q (by simp [z]))

/-- two rules for one operation: by cases -/
theorem OpR.or {f : Value → Value → Sem Value} {r r' : R2} (h : OpR X f r) (h' : OpR X f r') : OpR X f (fun x y H Q => r x y H Q ∨ r' x y H Q) := by
  intro pins s σ H x y v u Q I rx ry q
  rcases q with q | q
  · exact h pins s σ H x y v u Q I rx ry q
  · exact h' pins s σ H x y v u Q I rx ry q

theorem nomark (b : Expr) {op : CmpOp} (h : op ≠ .In := by decide) (h2 : op ≠ .NotIn := by decide) : behindInMarks op b = false := by
  have e1 : (op == CmpOp.In) = false := by cases op <;> first | rfl | exact absurd rfl h
  have e2 : (op == CmpOp.NotIn) = false := by cases op <;> first | rfl | exact absurd rfl h2
  cases b <;> simp [behindInMarks, e1, e2]
/-- a comparison as a value; hm: nomark b, or (for in, not in) by with_unfolding_all rfl -/
theorem pe_cmpR {op : CmpOp} {r : R2} (ho : OpR X (compareOp op) r) (ha : PE X a ta) (hb : PE X b tb) (hm : behindInMarks op b = false) : PE X (.Compare a [op] [b] pos) (tOp r ta tb) := by
  intro pins s σ H Q I h
  exact wpAny_Compare1 (binT ha hb I h fun v u s2 x y H2 I2 rx ry q => ho pins s2 σ H2 x y v u Q I2 rx ry q) hm
/-- a reading of a value as a test -/
def tTest (t : TE) : TT := fun σ H Q => t σ H fun x H' => ∃ k, x = .bl k ∧ Q k H'
theorem pt_cmpR {op : CmpOp} {r : R2} (ho : OpR X (compareOp op) r) (ha : PE X a ta) (hb : PE X b tb) (hm : behindInMarks op b = false) : PT X (.Compare a [op] [b] pos) (tTest (tOp r ta tb)) := by
  intro pins s σ H Q I h
  refine wpAny_isTrue_Compare1 (thn (ha pins s σ H _ I h) fun v s1 ⟨x, H1, I1, r1, q1⟩ => thn (hb pins s1 σ H1 _ I1 q1) fun u s2 ⟨y, H2, I2, r2, q2⟩ =>
    thn (ho pins s2 σ H2 x y v u _ I2 r1 r2 q2) fun c s3 ⟨z, H3, I3, r3, k, e, q3⟩ => ?_) hm
  subst e
  cases r3
  exact wpAny_truthy_bool ⟨H3, I3, q3⟩
/-- a op1 b op2 c -/
def tChain (r r' : R2) (ta tb tc : TE) : TE := fun σ H Q => ta σ H fun x H1 => tb σ H1 fun y H2 => r x y H2 fun z H3 => ∃ k, z = .bl k ∧
  (if k = true then tc σ H3 fun w' H4 => r' y w' H4 Q else Q (.bl false) H3)
theorem pe_chain {op op' : CmpOp} {r r' : R2} (ho : OpR X (compareOp op) r) (ho' : OpR X (compareOp op') r') (ha : PE X a ta) (hb : PE X b tb) (hc : PE X c tc)
    (hm : lastMarks [op, op'] [b, c] = false := by with_unfolding_all rfl) : PE X (.Compare a [op, op'] [b, c] pos) (tChain r r' ta tb tc) := by
  intro pins s σ H Q I h
  refine Compare_chain (thn (ha pins s σ H _ I h) fun v s1 ⟨x, H1, I1, r1, q1⟩ => chain_link (thn (hb pins s1 σ H1 _ I1 q1) fun u s2 ⟨y, H2, I2, r2, q2⟩ =>
    thn (ho pins s2 σ H2 x y v u _ I2 r1 r2 q2) fun d s3 ⟨z, H3, I3, r3, k, e, q3⟩ => ?_)) hm
  subst e
  cases r3
  refine wpAny_truthy_bool ?_
  cases k with
  | false => exact ite_ff ⟨.bl false, H3, I3, rfl, q3⟩
  | true => exact ite_tt (chain_last (thn (hc pins s3 σ H3 _ I3 q3) fun w' s4 ⟨z', H4, I4, r4, q4⟩ => ho' pins s4 σ H4 y z' u w' Q I4 r2 r4 q4))
theorem pt_chain {op op' : CmpOp} {r r' : R2} (ho : OpR X (compareOp op) r) (ho' : OpR X (compareOp op') r') (ha : PE X a ta) (hb : PE X b tb) (hc : PE X c tc)
    (hm : lastMarks [op, op'] [b, c] = false := by with_unfolding_all rfl) : PT X (.Compare a [op, op'] [b, c] pos) (tTest (tChain r r' ta tb tc)) := by
  intro pins s σ H Q I h
  refine isTrue_chain (thn (ha pins s σ H _ I h) fun v s1 ⟨x, H1, I1, r1, q1⟩ => test_link (thn (hb pins s1 σ H1 _ I1 q1) fun u s2 ⟨y, H2, I2, r2, q2⟩ =>
    thn (ho pins s2 σ H2 x y v u _ I2 r1 r2 q2) fun d s3 ⟨z, H3, I3, r3, k, e, q3⟩ => ?_)) hm
  subst e
  cases r3
  refine wpAny_truthy_bool ?_
  cases k with
  | false =>
    obtain ⟨k', e', q'⟩ := q3
    cases e'
    exact ite_ff ⟨H3, I3, q'⟩
  | true =>
    refine ite_tt (test_last (thn (hc pins s3 σ H3 _ I3 q3) fun w' s4 ⟨z', H4, I4, r4, q4⟩ => thn (ho' pins s4 σ H4 y z' u w' _ I4 r2 r4 q4) fun d' s5 ⟨z2, H5, I5, r5, k2, e2, q5⟩ => ?_))
    subst e2
    cases r5
    exact wpAny_truthy_bool ⟨H5, I5, q5⟩

/-! ### truth -/
/-- a value's truth by the abstract heap -/
def TruV (K : PySem.W.Frag) (x : V) (H : Hp) (k : Bool) : Prop :=
  match x with
  | .non => k = false
  | .bl b => k = b
  | .int i => k = (i != 0)
  | .str y => y.length ≤ sizeLine ∧ k = ((y.length : Int) != 0)
  | .byt y => y.size ≤ sizeLine ∧ k = ((y.size : Int) != 0)
  | .ref p => (∃ xs, SqL K H p xs ∧ k = !xs.isEmpty) ∨ (∃ xs, SqT K H p xs ∧ k = !xs.isEmpty) ∨ ∃ kvs, H p = some (.dK kvs) ∧ k = !kvs.isEmpty
  | _ => False
theorem isEmpty_kv {κ : Type} {kvs : List (κ × V)} {vs : List (κ × Value)} (r : KV kvs vs) : (!vs.isEmpty) = !kvs.isEmpty := by
  cases r <;> rfl
theorem isEmpty_of {xs : List V} {its : List Value} (r : Vals xs its) : (!its.toArray.isEmpty) = !xs.isEmpty := by
  cases r <;> simp
theorem line63 : (sizeLine : Nat) < 2 ^ 63 := by rw [sizeLine_eq]; decide
theorem tru_ok : TruR X (fun x H Q => ∃ k, TruV X.K x H k ∧ Q k H) := by
  intro pins s σ H x v Q I rx h
  obtain ⟨k, e, q⟩ := h
  have hl := line63
  have hs : sizeLine = 16777216 := sizeLine_eq
  cases x with
  | non =>
    cases rx
    have e' : k = false := e
    subst e'
    exact truthy_none ⟨H, I, q⟩
  | bl b =>
    cases rx
    have e' : k = b := e
    subst e'
    exact wpAny_truthy_bool ⟨H, I, q⟩
  | int i =>
    obtain ⟨t, rfl⟩ := rx
    have e' : k = (i != 0) := e
    subst e'
    exact PySem.P.truthy_int ⟨H, I, q⟩
  | str y =>
    obtain ⟨t, rfl⟩ := rx
    obtain ⟨hy, e'⟩ : y.length ≤ sizeLine ∧ k = ((y.length : Int) != 0) := e
    subst e'
    exact PySem.P.truthy_str (by omega) ⟨H, I.tok _, q⟩
  | byt y =>
    obtain ⟨t, rfl⟩ := rx
    obtain ⟨hy, e'⟩ : y.size ≤ sizeLine ∧ k = ((y.size : Int) != 0) := e
    subst e'
    exact PySem.W.truthy_bytes (by omega) ⟨H, I.tok _, q⟩
  | ref p =>
    cases rx
    have e' : (∃ xs, SqL X.K H p xs ∧ k = !xs.isEmpty) ∨ (∃ xs, SqT X.K H p xs ∧ k = !xs.isEmpty) ∨ ∃ kvs, H p = some (.dK kvs) ∧ k = !kvs.isEmpty := e
    rcases e' with ⟨xs, hx, e'⟩ | ⟨xs, hx, e'⟩ | ⟨kvs, hx, e'⟩
    · subst e'
      obtain ⟨its, r, pl, hz⟩ := I.list hx
      have hlen := r.length
      exact wpAny_truthy_list pl.isList (by simp only [List.size_toArray]; omega) ⟨H, I.tok _, by rw [isEmpty_of r]; exact q⟩
    · subst e'
      obtain ⟨its, r, pl, hz⟩ := I.tuple hx
      have hlen := r.length
      exact truthy_tuple pl (by simp only [List.size_toArray]; omega) ⟨H, I.tok _, by rw [isEmpty_of r]; exact q⟩
    · subst e'
      obtain ⟨hz, hS, vs, r, m⟩ : kvs.length ≤ sizeLine ∧ (p == sysModules) = false ∧ ∃ vs, KV kvs vs ∧ s.heap.DictOf (mixKind X.prog X.w) p vs := I.hok p _ hx
      have hlen : kvs.length = vs.length := Paired.length r
      exact wpAny_truthy_dict hS m (by omega) ⟨H, I.tok _, by rw [isEmpty_kv r]; exact q⟩
  | _ => exact (show False from e).elim
/-- any expression whose test is its value's truth (a name, a call, a subscript, a field ..: he by fun _ => rfl) -/
theorem pt_truth (ha : PE X a ta) (he : ∀ whole, isTrue a X.env whole = (do let v ← whole; standAt a.pos; holding [v] (truthy v))) :
    PT X a (fun σ H Q => ta σ H fun x H' => ∃ k, TruV X.K x H' k ∧ Q k H') := by
  intro pins s σ H Q I h
  exact isTrue_plain (thn (ha pins s σ H _ I h) fun v s1 ⟨x, H1, I1, r1, q1⟩ => tru_ok pins s1 σ H1 x v Q I1 r1 q1) (he _)

/-! ### strs and bytes -/
theorem pe_byt {x : List UInt8} {k : Nat} : PE X (.Constant (.bytes x) k pos) (fun _ H Q => Q (.byt x.toArray) H) := fun _ _ _ H _ I h => PySem.W.Constant_bytes ⟨.byt x.toArray, H, I.tok _, ⟨_, rfl⟩, h⟩
theorem op_add_str : OpR X (binaryOp .Add) (fun x y H Q => ∃ i j, x = .str i ∧ y = .str j ∧ i.length + j.length ≤ sizeLine ∧ Q (.str (i ++ j)) H) := by
  intro pins s σ H x y v u Q I rx ry h
  obtain ⟨i, j, rfl, rfl, hz, q⟩ := h
  obtain ⟨t, rfl⟩ := rx
  obtain ⟨t', rfl⟩ := ry
  exact add_str (fun t' tk => ⟨.str (i ++ j), H, I.tok _, ⟨_, rfl⟩, q⟩) hz
theorem iop_add_str : OpR X (inplaceOp .Add) (fun x y H Q => ∃ i j, x = .str i ∧ y = .str j ∧ i.length + j.length ≤ sizeLine ∧ Q (.str (i ++ j)) H) := by
  intro pins s σ H x y v u Q I rx ry h
  obtain ⟨i, j, rfl, rfl, hz, q⟩ := h
  obtain ⟨t, rfl⟩ := rx
  obtain ⟨t', rfl⟩ := ry
  exact iadd_str (fun t' tk => ⟨.str (i ++ j), H, I.tok _, ⟨_, rfl⟩, q⟩) hz
theorem op_add_byt : OpR X (binaryOp .Add) (fun x y H Q => ∃ i j, x = .byt i ∧ y = .byt j ∧ i.size + j.size ≤ 16777216 ∧ Q (.byt (i ++ j)) H) := by
  intro pins s σ H x y v u Q I rx ry h
  obtain ⟨i, j, rfl, rfl, hz, q⟩ := h
  obtain ⟨t, rfl⟩ := rx
  obtain ⟨t', rfl⟩ := ry
  exact PySem.W.KBy.add_bytes hz (fun t' tk => ⟨.byt (i ++ j), H, I.tok _, ⟨_, rfl⟩, q⟩)

def PlainIxT (b : Expr) : Prop := ∀ o i, subscripted b false o i = operate [o, i] (getItem o i)
/-- s[i], 0 ≤ i < len -/
theorem pe_item_str (ha : PE X a ta) (hb : PE X b tb) (hs : PlainIxT b) :
    PE X (.Subscript a b pos) (tOp (fun x y H Q => ∃ z i c, x = .str z ∧ y = .int i ∧ 0 ≤ i ∧ i < 2 ^ 63 ∧ i < z.length ∧ z.cps[i.toNat]? = some c ∧ Q (.str ⟨#[c]⟩) H) ta tb) := by
  intro pins s σ H Q I h
  refine Subscript_ (binT ha hb I h fun v u s2 x y H2 I2 rx ry q => ?_)
  obtain ⟨z, i, c, rfl, rfl, h0, h63, h1, hc, q⟩ := q
  obtain ⟨t, rfl⟩ := rx
  obtain ⟨t', rfl⟩ := ry
  have e : seqIndex? i z.length = some i.toNat := PySem.StrLaws.seqIndex_nonneg h0 h1
  exact tail_any (typeIs_str s2 z t) slot_str_getitem.lookup (getItem_str (c := c) (by
    have e1 : decide (i < -(2 ^ 63 : Int)) = false := decide_eq_false (by omega)
    have e2 : decide (i ≥ 2 ^ 63) = false := decide_eq_false (by omega)
    rw [e1, e2] <;> rfl) (by rw [e]; exact hc) ⟨.str ⟨#[c]⟩, H2, I2.tok _, ⟨_, rfl⟩, q⟩) (hs _ _)
/-- b[i], 0 ≤ i < len -/
theorem pe_item_byt (ha : PE X a ta) (hb : PE X b tb) (hs : PlainIxT b) :
    PE X (.Subscript a b pos) (tOp (fun x y H Q => ∃ (z : List UInt8) (i : Int), x = .byt z.toArray ∧ y = .int i ∧ z.length ≤ sizeLine ∧ 0 ≤ i ∧ i < z.length ∧ Q (.int ((z.getD i.toNat 0).toNat : Nat)) H) ta tb) := by
  intro pins s σ H Q I h
  refine Subscript_ (binT ha hb I h fun v u s2 x y H2 I2 rx ry q => ?_)
  obtain ⟨z, i, rfl, rfl, hz, h0, h1, q⟩ := q
  obtain ⟨t, rfl⟩ := rx
  obtain ⟨t', rfl⟩ := ry
  have hl : sizeLine = 16777216 := sizeLine_eq
  exact tail_any (PySem.W.typeIs_bytes s2 z.toArray t) PySem.W.FB.slot_bytes_getitem.lookup (PySem.W.getItem_bytes (by omega) h0 h1 ⟨.int ((z.getD i.toNat 0).toNat : Nat), H2, I2.tok _, ⟨_, rfl⟩, q⟩) (hs _ _)

/-! ### scalar builtins, by CallR -/
theorem vals1 {x : V} {us : List Value} (r : Vals [x] us) : ∃ u, us = [u] ∧ RelV x u := by
  cases r with
  | cons r1 r2 => cases r2; exact ⟨_, rfl, r1⟩
theorem vals2 {x y : V} {us : List Value} (r : Vals [x, y] us) : ∃ u w', us = [u, w'] ∧ RelV x u ∧ RelV y w' := by
  cases r with
  | cons r1 r2 =>
    cases r2 with
    | cons r3 r4 => cases r4; exact ⟨_, _, rfl, r1, r3⟩
theorem call_abs : CallR X (.builtin "abs") (fun xs H Q => ∃ i, xs = [.int i] ∧ Q (.int (if i < 0 then -i else i)) H) := by
  intro pins s σ H xs us Q I r h
  obtain ⟨i, rfl, q⟩ := h
  obtain ⟨u, rfl, t, rfl⟩ := vals1 r
  exact call_abs_int fun u tk => ⟨.int (if i < 0 then -i else i), H, I.tok _, ⟨_, rfl⟩, q⟩
theorem call_max2 (hc : X.calm = true) : CallR X (.builtin "max") (fun xs H Q => ∃ i j, xs = [.int i, .int j] ∧ Q (.int (if j > i then j else i)) H) := by
  intro pins s σ H xs us Q I r h
  obtain ⟨i, j, rfl, q⟩ := h
  obtain ⟨u, w', rfl, ⟨t, rfl⟩, ⟨t', rfl⟩⟩ := vals2 r
  refine max_two_ints (I.ok.hd hc) fun h' tk k => ⟨_, H, I.kept k, ?_, q⟩
  by_cases hj : j > i
  · rw [if_pos hj, if_pos hj]; exact ⟨_, rfl⟩
  · rw [if_neg hj, if_neg hj]; exact ⟨_, rfl⟩
theorem call_min2 (hc : X.calm = true) : CallR X (.builtin "min") (fun xs H Q => ∃ i j, xs = [.int i, .int j] ∧ Q (.int (if j < i then j else i)) H) := by
  intro pins s σ H xs us Q I r h
  obtain ⟨i, j, rfl, q⟩ := h
  obtain ⟨u, w', rfl, ⟨t, rfl⟩, ⟨t', rfl⟩⟩ := vals2 r
  refine min_two_ints (I.ok.hd hc) fun h' tk k => ⟨_, H, I.kept k, ?_, q⟩
  by_cases hj : j < i
  · rw [if_pos hj, if_pos hj]; exact ⟨_, rfl⟩
  · rw [if_neg hj, if_neg hj]; exact ⟨_, rfl⟩
theorem call_int1 : CallR X (.type "int") (fun xs H Q => (∃ i, xs = [.int i] ∧ Q (.int i) H) ∨ ∃ k, xs = [.bl k] ∧ Q (.int (if k then 1 else 0)) H) := by
  intro pins s σ H xs us Q I r h
  rcases h with ⟨i, rfl, q⟩ | ⟨k, rfl, q⟩
  · obtain ⟨u, rfl, t, rfl⟩ := vals1 r
    exact call_int_int ⟨.int i, H, I, ⟨_, rfl⟩, q⟩
  · obtain ⟨u, rfl, r1⟩ := vals1 r
    cases r1
    exact call_int_bool ⟨.int (if k then 1 else 0), H, I.tok _, ⟨_, rfl⟩, q⟩
theorem call_bool1 : CallR X (.type "bool") (fun xs H Q => (∃ i, xs = [.int i] ∧ Q (.bl (i != 0)) H) ∨ ∃ k, xs = [.bl k] ∧ Q (.bl k) H) := by
  intro pins s σ H xs us Q I r h
  rcases h with ⟨i, rfl, q⟩ | ⟨k, rfl, q⟩
  · obtain ⟨u, rfl, t, rfl⟩ := vals1 r
    exact call_bool_int ⟨.bl (i != 0), H, I, rfl, q⟩
  · obtain ⟨u, rfl, r1⟩ := vals1 r
    cases r1
    exact call_bool_bool ⟨.bl k, H, I, rfl, q⟩
theorem call_str_int : CallR X (.type "str") (fun xs H Q => ∃ i, xs = [.int i] ∧ i.natAbs.log2 < 1920 ∧ Q (.str (toString i)) H) := by
  intro pins s σ H xs us Q I r h
  obtain ⟨i, rfl, hz, q⟩ := h
  obtain ⟨u, rfl, t, rfl⟩ := vals1 r
  exact PySem.P.str_of_int hz ⟨.str _, H, I.tok _, ⟨_, rfl⟩, q⟩
theorem call_ord : CallR X (.builtin "ord") (fun xs H Q => ∃ x, xs = [.str x] ∧ x.length = 1 ∧ Q (.int (x.cps.getD 0 0 : Nat)) H) := by
  intro pins s σ H xs us Q I r h
  obtain ⟨x, rfl, hz, q⟩ := h
  obtain ⟨u, rfl, t, rfl⟩ := vals1 r
  exact ord_of_one hz ⟨.int _, H, I.tok _, ⟨_, rfl⟩, q⟩
theorem call_chr : CallR X (.builtin "chr") (fun xs H Q => ∃ i, xs = [.int i] ∧ 0 ≤ i ∧ i ≤ 1114111 ∧ Q (.str ⟨#[i.toNat]⟩) H) := by
  intro pins s σ H xs us Q I r h
  obtain ⟨i, rfl, h0, h1, q⟩ := h
  obtain ⟨u, rfl, t, rfl⟩ := vals1 r
  exact chr_of_range h0 h1 ⟨.str _, H, I.tok _, ⟨_, rfl⟩, q⟩
/-- len of a str, a bytes, a list, a tuple -/
def LenV (K : PySem.W.Frag) (x : V) (H : Hp) (n : Nat) : Prop :=
  match x with
  | .str y => y.length ≤ sizeLine ∧ n = y.length
  | .byt y => y.size ≤ sizeLine ∧ n = y.size
  | .ref p => (∃ xs, SqL K H p xs ∧ n = xs.length) ∨ ∃ xs, SqT K H p xs ∧ n = xs.length
  | _ => False
theorem call_len : CallR X (.builtin "len") (fun xs H Q => ∃ x n, xs = [x] ∧ LenV X.K x H n ∧ Q (.int n) H) := by
  intro pins s σ H xs us Q I r h
  obtain ⟨x, n, rfl, e, q⟩ := h
  obtain ⟨u, rfl, rx⟩ := vals1 r
  have hl := line63
  have hs : sizeLine = 16777216 := sizeLine_eq
  cases x with
  | str y =>
    obtain ⟨t, rfl⟩ := rx
    obtain ⟨hy, e'⟩ : y.length ≤ sizeLine ∧ n = y.length := e
    subst e'
    exact len_str (by omega) ⟨.int _, H, I.tok _, ⟨_, rfl⟩, q⟩
  | byt y =>
    obtain ⟨t, rfl⟩ := rx
    obtain ⟨hy, e'⟩ : y.size ≤ sizeLine ∧ n = y.size := e
    subst e'
    exact PySem.W.len_bytes (by omega) ⟨.int _, H, I.tok _, ⟨_, rfl⟩, q⟩
  | ref p =>
    cases rx
    have e' : (∃ xs, SqL X.K H p xs ∧ n = xs.length) ∨ ∃ xs, SqT X.K H p xs ∧ n = xs.length := e
    rcases e' with ⟨xs, hx, e'⟩ | ⟨xs, hx, e'⟩
    · subst e'
      obtain ⟨its, r', pl, hz⟩ := I.list hx
      have hlen := r'.length
      exact Calls.call_len_list pl.isList (by simp only [List.size_toArray]; omega) ⟨.int xs.length, H, I.tok _, ⟨_, by simp only [List.size_toArray]; rw [hlen]⟩, q⟩
    · subst e'
      obtain ⟨its, r', pl, hz⟩ := I.tuple hx
      have hlen := r'.length
      exact len_tuple pl (by simp only [List.size_toArray]; omega) ⟨.int xs.length, H, I.tok _, ⟨_, by simp only [List.size_toArray]; rw [hlen]⟩, q⟩
  | _ => exact (show False from e).elim
/-- divmod: a new tuple -/
theorem call_divmod : CallR X (.builtin "divmod") (fun xs H Q => ∃ i j, xs = [.int i, .int j] ∧ CDiv i j ∧ ∀ p, H p = none → Q (.ref p) (upd H p (.tup [.int (i / j), .int (i % j)]))) := by
  intro pins s σ H xs us Q I r h
  obtain ⟨i, j, rfl, ⟨h1, h2⟩, q⟩ := h
  obtain ⟨u, w', rfl, ⟨t, rfl⟩, ⟨t', rfl⟩⟩ := vals2 r
  refine divmod_int (by omega) ?_ (.inl (PyProof.noPylong_small (by omega)))
  rw [Int.fdiv_eq_ediv_of_nonneg i (by omega), Int.fmod_eq_emod_of_nonneg i (by omega)]
  have hn : H s.heap.objs.size = none := I.hok.fresh (Nat.le_refl _)
  refine ⟨.ref s.heap.objs.size, _, ?_, rfl, q _ hn⟩
  refine I.laid (fun b o e => Heap.get?_push_of_some _ e) (Nat.le_refl _) ⟨by simp only [List.length_cons, List.length_nil]; rw [sizeLine_eq]; decide, [.int (i / j) s.toks, .int (i % j) (s.toks + 1)], .cons ⟨_, rfl⟩ (.cons ⟨_, rfl⟩ .nil), ?_⟩
  exact ⟨_, Heap.get?_push_size s.heap rfl, rfl, 0, rfl⟩
end
end L2

namespace L2
open PySem PySem.Spec PyProof.Rows

/-! ### an instance, its attributes a map -/
structure ObjM (h : Heap) (x dx C : Addr) (mA : Str → Option Value) : Prop where
  obj : h.get? x = some (PySem.W.instObj C dx)
  ns : h.Ns1 dx mA
  ne : dx ≠ x

theorem lookIn_ns {h : Heap} {dx : Addr} {mA : Str → Option Value} (n : h.Ns1 dx mA) : ∃ od, h.get? dx = some od ∧ ∀ name, PySem.W.lookIn name od = some (mA name) := by
  obtain ⟨o, es, ep, ho, hd, hk, _, hm⟩ := n
  refine ⟨o, ho, fun name => ?_⟩
  have e := hm name
  unfold nsFind findBy at e
  rw [← Array.find?_toList] at e
  unfold PySem.W.lookIn
  rw [hd]
  dsimp only
  split
  · rename_i y q
    rw [q] at e
    exact congrArg some e
  · rename_i q
    rw [q] at e
    have a : es.toList.any (·.refKey) = false := by
      rw [List.any_eq_false]
      intro y hy
      obtain ⟨z, t, hkey⟩ := hk y (Array.mem_toList_iff.mp hy)
      simp [DictEntry.refKey, hkey]
    have a' : ¬ es.toList.any (·.refKey) = true := by rw [a]; exact Bool.false_ne_true
    rw [if_neg a']
    exact congrArg some e

theorem ObjM.look {h : Heap} {x dx C : Addr} {mA : Str → Option Value} (I : ObjM h x dx C mA) : ∃ od, PySem.W.InstAt h x (PySem.W.instObj C dx) C (some od) ∧ ∀ name, PySem.W.lookIn name od = some (mA name) :=
  let ⟨od, ho, hl⟩ := lookIn_ns I.ns
  ⟨od, ⟨I.obj, rfl, rfl, ho⟩, hl⟩

section
variable {prog : Program} {w : World} {A : Around} {E : Value → Shared → Prop} {s : Shared} {K : PySem.W.Frag} {x dx C f : Addr} {mA : Str → Option Value} {name : Str} {v : Value}

theorem get_map {expr : Bool} {Q : Value → Shared → Prop} (X : K.In s.heap) (I : ObjM s.heap x dx C mA) (hg : PySem.W.plainGet K C name = true) (hh : PySem.W.hasDictIn K C = true)
    (ha : PySem.W.findIn K (.ref C) name = some none) (hv : mA name = some v) (hv' : PySem.W.handedIn v = true) (h : Q v { s with toks := s.toks + 1 }) :
    wpAny (model prog w) A (getAttr (.ref x) name expr) Q E s := by
  obtain ⟨od, J, hl⟩ := I.look
  exact PySem.W.get_value X J (PySem.W.plainGet_of hg).1 (PySem.W.findObj_own hh ha rfl (by rw [hl, hv])) hv' h

theorem get_const {expr : Bool} {a : Value} {Q : Value → Shared → Prop} (X : K.In s.heap) (I : ObjM s.heap x dx C mA) (hg : PySem.W.plainGet K C name = true) (hh : PySem.W.hasDictIn K C = true)
    (ha : PySem.W.findIn K (.ref C) name = some (some a)) (hn : PySem.W.specialIn K a "__get__" = some none) (hc : PySem.W.copiedNames.contains name = false) (hv : mA name = none) (hv' : PySem.W.handedIn a = true)
    (h : Q a { s with toks := s.toks + 1 }) : wpAny (model prog w) A (getAttr (.ref x) name expr) Q E s := by
  obtain ⟨od, J, hl⟩ := I.look
  exact PySem.W.get_value X J (PySem.W.plainGet_of hg).1 (PySem.W.findObj_cls hh ha hn hv' hc (by rw [hl, hv])) hv' h

theorem get_meth {pl : Sem Bool} {Q : Value × List Value → Shared → Prop} (X : K.In s.heap) (I : ObjM s.heap x dx C mA) (hg : PySem.W.plainGet K C name = true)
    (hf : PySem.W.findIn K (.ref C) name = some (some (.ref f))) (ht : PySem.W.isFn K (.ref f) = true) (hv : mA name = none) (h : Q (.ref f, [.ref x]) s) :
    wpAny (model prog w) A (getMethod (.ref x) name pl) Q E s := by
  obtain ⟨od, J, hl⟩ := I.look
  exact PySem.W.method_fn X J (PySem.W.plainGet_of hg).1 (PySem.W.plainGet_of hg).2 hf (beq_iff_eq.mp ht) (by show (PySem.W.lookIn name od).map (·.isSome) = some false; rw [hl, hv]; rfl) h

theorem set_map {ns : List Str} {Q : Unit → Shared → Prop} (X : K.In s.heap) (I : ObjM s.heap x dx C mA)
    (hs : PySem.W.findIn K (.ref C) "__setattr__" = some (some (.builtin "object.__setattr__"))) (hp : PySem.W.plainOver K C = true) (ht : PySem.W.takerIn K C name = some none) (hh : PySem.W.hasDictIn K C = true)
    (hw : PySem.Within mA ns) (hsz : ns.length ≤ sizeLine)
    (h : ∀ h', ObjM h' x dx C (fun y => if y = name then some v else mA y) → Heap.SameBut dx s.heap h' → Q () { s with heap := h', toks := s.toks + 2 }) :
    wpAny (model prog w) A (setAttr (.ref x) name v) Q E s := by
  obtain ⟨od, J, hl⟩ := I.look
  refine PySem.W.set_plain X J hs (PySem.W.osa_open (s := { s with toks := s.toks + 1 }) (r := none) X J hp ht fun b => ?_)
  obtain ⟨cd, hc, hd'⟩ := PySem.W.any_some hh
  have hx : s.heap.get? x = some ⟨.ref C, some dx, .plain, #[]⟩ := I.obj
  refine wpAny_bind (wpAny_pure (wpAny_bind (wpAny_bind (wpAny_loadPart hx (wpAny_bind (PySem.W.Looks.here (s := { s with toks := s.toks + 1 }) (PySem.W.looks_clsIn X hc) ?_))))))
  rw [hd']
  refine wpAny_pure (a := some dx) (wpAny_bind (wpAny_pure (wpAny_bind ?_)))
  refine wpAny_nsSet1 (s := { s with toks := s.toks + 1 }) I.ns fun h' hn2 hs2 => ?_
  obtain ⟨oD, esD, epD, hoD, hdD, hcD⟩ := hn2.count (PySem.Within.cons name v hw)
  refine wpAny_bind (wpAny_lookBehind hoD (by rw [hdD]; exact pastItsLine_dict (Nat.le_trans hcD (by rw [List.length_cons]; omega))) ?_)
  exact wpAny_pure (h _ ⟨(hs2.2 _ (Ne.symm I.ne)).trans I.obj, hn2, I.ne⟩ hs2)

/-- C(..): the dict at the heap's end, the instance behind it; then its __init__ -/
theorem make_map {R : Result → Shared → Prop} {vs : List Value} {kw : List (Str × Value)} (X : K.In s.heap) (hm : PySem.W.makesIn K C = true)
    (hi : PySem.W.findIn K (.ref C) "__init__" = some (some (.ref f))) (hf : PySem.W.typeIn K (.ref f) = some (.type "function"))
    (h : codeAny (model prog w) (A.under (.builtin "type.__call__" ⟨.ref C :: vs, kw⟩)) (.call (.ref f) ⟨.ref (s.heap.objs.size + 1) :: vs, kw⟩) (PySem.W.InitBack (s.heap.objs.size + 1) R)
      { s with heap := (s.heap.push PySem.W.emptyDict).push (PySem.W.instObj C s.heap.objs.size) }) :
    codeAny (model prog w) A (.call (.ref C) ⟨vs, kw⟩) R s := by
  obtain ⟨hh, g, d, t, os⟩ := s
  exact PySem.W.make_core (PySem.W.makes_of X hm) (PySem.W.looks_findIn X hi) (fun self => PySem.W.bind_fn X self hf) (.inl rfl) h
/-- C() where there is no __init__ but object's -/
theorem make_map0 {R : Result → Shared → Prop} (X : K.In s.heap) (hm : PySem.W.makesIn K C = true)
    (hi : PySem.W.findIn K (.ref C) "__init__" = some (some (.builtin "object.__init__")))
    (hb : ∀ self, PySem.W.Looks (model prog w) s.heap (bindSpecial (.builtin "object.__init__") self) (.builtin "object.__init__", [self]))
    (h : codeAny (model prog w) (A.under (.builtin "type.__call__" ⟨[.ref C], []⟩)) (.call (.builtin "object.__init__") ⟨[.ref (s.heap.objs.size + 1)], []⟩) (PySem.W.InitBack (s.heap.objs.size + 1) R)
      { s with heap := (s.heap.push PySem.W.emptyDict).push (PySem.W.instObj C s.heap.objs.size) }) :
    codeAny (model prog w) A (.call (.ref C) ⟨[], []⟩) R s := by
  obtain ⟨hh, g, d, t, os⟩ := s
  exact PySem.W.make_core (PySem.W.makes_of X hm) (PySem.W.looks_findIn X hi) hb (.inr ⟨rfl, rfl⟩) h
end

/-! ### the attributes as a list of pairs -/
def putF (f : Str) (v : V) : List (Str × V) → List (Str × V)
  | [] => [(f, v)]
  | (g, x) :: r => if g = f then (g, v) :: r else (g, x) :: putF f v r
theorem lookup_putF (f g : Str) (v : V) : ∀ fs : List (Str × V), (putF f v fs).lookup g = if g = f then some v else fs.lookup g
  | [] => by
    show List.lookup g [(f, v)] = _
    by_cases h : g = f
    · have hb : (g == f) = true := beq_iff_eq.mpr h
      simp only [List.lookup, hb, if_pos h]
    · have hb : (g == f) = false := beq_eq_false_iff_ne.mpr h
      simp only [List.lookup, hb, if_neg h]
  | (k, x) :: r => by
    have ih := lookup_putF f g v r
    rw [show putF f v ((k, x) :: r) = (if k = f then (k, v) :: r else (k, x) :: putF f v r) from rfl]
    by_cases hk : k = f
    · rw [if_pos hk]
      by_cases h : g = k
      · have hb : (g == k) = true := beq_iff_eq.mpr h
        simp only [List.lookup, hb, if_pos (h.trans hk)]
      · have hb : (g == k) = false := beq_eq_false_iff_ne.mpr h
        simp only [List.lookup, hb, if_neg (fun e : g = f => h (e.trans hk.symm))]
    · rw [if_neg hk]
      by_cases h : g = k
      · have hb : (g == k) = true := beq_iff_eq.mpr h
        simp only [List.lookup, hb, if_neg (fun e : g = f => hk (h.symm.trans e))]
      · have hb : (g == k) = false := beq_eq_false_iff_ne.mpr h
        simp only [List.lookup, hb]
        exact ih
theorem keys_putF (f : Str) (v : V) : ∀ fs : List (Str × V), f ∈ (putF f v fs).map (·.1) ∧ ∀ g, g ∈ fs.map (·.1) → g ∈ (putF f v fs).map (·.1)
  | [] => ⟨by simp [putF], fun g h => by simp at h⟩
  | (k, x) :: r => by
    obtain ⟨i1, i2⟩ := keys_putF f v r
    rw [show putF f v ((k, x) :: r) = (if k = f then (k, v) :: r else (k, x) :: putF f v r) from rfl]
    by_cases hk : k = f
    · rw [if_pos hk]
      subst hk
      exact ⟨by simp, fun g h => by simpa using h⟩
    · rw [if_neg hk]
      refine ⟨?_, fun g h => ?_⟩
      · rw [List.map_cons]
        exact List.mem_cons_of_mem _ i1
      · rw [List.map_cons] at h ⊢
        rcases List.mem_cons.mp h with e | e
        · exact List.mem_cons.mpr (.inl e)
        · exact List.mem_cons_of_mem _ (i2 g e)
theorem length_putF (f : Str) (v : V) : ∀ fs : List (Str × V), (putF f v fs).length ≤ fs.length + 1
  | [] => by simp [putF]
  | (k, x) :: r => by
    have ih := length_putF f v r
    rw [show putF f v ((k, x) :: r) = (if k = f then (k, v) :: r else (k, x) :: putF f v r) from rfl]
    by_cases hk : k = f
    · rw [if_pos hk, List.length_cons, List.length_cons]; omega
    · rw [if_neg hk, List.length_cons, List.length_cons]; omega

theorem RelO.some_of {v : V} {o : Option Value} (r : RelO (some v) o) : ∃ u, o = some u ∧ RelV v u := by
  cases o with
  | none => exact (show False from r).elim
  | some u => exact ⟨u, rfl, r⟩
theorem RelO.none_of {o : Option Value} (r : RelO none o) : o = none := by
  cases o with
  | none => rfl
  | some u => exact (show False from r).elim
theorem handed_of {v : V} {u : Value} (r : RelV v u) : PySem.W.handedIn u = true := by
  cases v with
  | non => cases (show u = Value.none from r); rfl
  | bl b => cases (show u = Value.bool b from r); rfl
  | int i => obtain ⟨t, e⟩ := (show ∃ t, u = Value.int i t from r); cases e; rfl
  | str x => obtain ⟨t, e⟩ := (show ∃ t, u = Value.str x t from r); cases e; rfl
  | byt b => obtain ⟨t, e⟩ := (show ∃ t, u = Value.bytes b t from r); cases e; rfl
  | flt b => obtain ⟨t, e⟩ := (show ∃ t, u = Value.float b t from r); cases e; rfl
  | ref a => cases (show u = Value.ref a from r); rfl
  | ty n => cases (show u = Value.type n from r); rfl

section
variable {P : Program} {w : World} {H H' : Hp} {h h' : Heap} {a C dx : Addr} {fs fs' : List (Str × V)}
theorem ins_get (hok : HOk P w H h) (e : H a = some (.ins C dx fs)) : ∃ mA, ObjM h a dx C mA ∧ (∀ f, RelO (fs.lookup f) (mA f)) ∧ PySem.Within mA (fs.map (·.1)) ∧ fs.length ≤ 1000 ∧ H dx = some (.own a) := by
  obtain ⟨d, z, ne, ob, mA, n, r, q⟩ := (show ObjOk P w H h a (.ins C dx fs) from hok a _ e)
  exact ⟨mA, ⟨ob, n, ne⟩, r, q, z, d⟩
end

/-! ### what of the text a class must have -/
structure Cls (K : PySem.W.Frag) (C : Addr) : Prop where
  pg : PySem.W.plainGet K C Str.empty = true
  hd : PySem.W.hasDictIn K C = true
  po : PySem.W.plainOver K C = true
  sa : PySem.W.findIn K (.ref C) "__setattr__" = some (some (.builtin "object.__setattr__"))
theorem Cls.get {K : PySem.W.Frag} {C : Addr} (c : Cls K C) (f : Str) : PySem.W.plainGet K C f = true := c.pg
/-- no class of it has the name -/
def NoAttr (K : PySem.W.Frag) (C : Addr) (f : Str) : Prop := PySem.W.findIn K (.ref C) f = some none
theorem NoAttr.taker {K : PySem.W.Frag} {C : Addr} {f : Str} (n : NoAttr K C f) : PySem.W.takerIn K C f = some none := by
  unfold PySem.W.takerIn
  rw [show PySem.W.findIn K (.ref C) f = some none from n]
  rfl
/-- a constant of the class -/
structure Con (K : PySem.W.Frag) (C : Addr) (f : Str) (v : V) (u : Value) : Prop where
  at_ : PySem.W.findIn K (.ref C) f = some (some u)
  rel : RelV v u
  get : PySem.W.specialIn K u "__get__" = some none
  cp : PySem.W.copiedNames.contains f = false
/-- a method: a plain def of the class or of one above it -/
structure Meth (K : PySem.W.Frag) (C : Addr) (m : Str) (f : Addr) : Prop where
  at_ : PySem.W.findIn K (.ref C) m = some (some (.ref f))
  fn : PySem.W.isFn K (.ref f) = true
  kp : PySem.W.keepIn K (.ref f) = true

section
variable {X : Cx} {pins : List (Addr × Obj)} {σ : St} {H : Hp} {s : Shared} {a C dx : Addr} {fs : List (Str × V)} {f : Str} {v : V} {A : Around} {E : Value → Shared → Prop}

theorem getattr_ok {b : Bool} {Q : Value → Shared → Prop} (I : Inv X pins σ H s) (e : H a = some (.ins C dx fs)) (c : Cls X.K C) (n : NoAttr X.K C f) (l : fs.lookup f = some v)
    (h : ∀ u s', Inv X pins σ H s' → RelV v u → Q u s') : wpAny (model X.prog X.w) A (getAttr (.ref a) f b) Q E s := by
  obtain ⟨mA, O, r, _, _, _⟩ := ins_get I.hok e
  obtain ⟨u, hu, ru⟩ := RelO.some_of (v := v) (o := mA f) (by rw [← l]; exact r f)
  exact get_map I.kIn O (c.get f) c.hd n hu (handed_of ru) (h u _ (I.tok _) ru)

theorem getcon_ok {b : Bool} {u : Value} {Q : Value → Shared → Prop} (I : Inv X pins σ H s) (e : H a = some (.ins C dx fs)) (c : Cls X.K C) (k : Con X.K C f v u) (l : fs.lookup f = none)
    (h : ∀ s', Inv X pins σ H s' → Q u s') : wpAny (model X.prog X.w) A (getAttr (.ref a) f b) Q E s := by
  obtain ⟨mA, O, r, _, _, _⟩ := ins_get I.hok e
  have hn : mA f = none := RelO.none_of (by rw [← l]; exact r f)
  exact get_const I.kIn O (c.get f) c.hd k.at_ k.get k.cp hn (handed_of k.rel) (h _ (I.tok _))

theorem getmeth_ok {m : Str} {g : Addr} {pl : Sem Bool} {Q : Value × List Value → Shared → Prop} (I : Inv X pins σ H s) (e : H a = some (.ins C dx fs)) (c : Cls X.K C) (k : Meth X.K C m g) (l : fs.lookup m = none)
    (h : Q (.ref g, [.ref a]) s) : wpAny (model X.prog X.w) A (getMethod (.ref a) m pl) Q E s := by
  obtain ⟨mA, O, r, _, _, _⟩ := ins_get I.hok e
  have hn : mA m = none := RelO.none_of (by rw [← l]; exact r m)
  exact get_meth I.kIn O (c.get m) k.at_ k.fn hn h

theorem setattr_ok {y : V} {u : Value} {Q : Unit → Shared → Prop} (I : Inv X pins σ H s) (e : H a = some (.ins C dx fs)) (c : Cls X.K C) (n : NoAttr X.K C f) (hl : fs.length < 1000) (ry : RelV y u)
    (h : ∀ s', Inv X pins σ (upd H a (.ins C dx (putF f y fs))) s' → Q () s') : wpAny (model X.prog X.w) A (setAttr (.ref a) f u) Q E s := by
  obtain ⟨mA, O, r, wi, _, ho⟩ := ins_get I.hok e
  have hz : (fs.map (·.1)).length ≤ sizeLine := by rw [List.length_map, sizeLine_eq]; omega
  refine set_map I.kIn O c.sa c.po n.taker c.hd wi hz fun h' O' sb => h _ ?_
  have hd : ∃ o, h'.get? dx = some o := let ⟨o, _, _, e', _⟩ := O'.ns; ⟨o, e'⟩
  refine I.write (x := a) (e := dx) (by rw [e]; exact True.intro) (.inr ho) (fun b q hb z => (sb.2 b hb).trans z) hd ?_
  refine ⟨by rw [upd_ne O.ne]; exact ho, ?_, O.ne, O'.obj, _, O'.ns, fun g => ?_, fun g hg => ?_⟩
  · have := length_putF f y fs; omega
  · show RelO ((putF f y fs).lookup g) (if g = f then some u else mA g)
    rw [lookup_putF]
    by_cases q : g = f
    · rw [if_pos q, if_pos q]; exact ry
    · rw [if_neg q, if_neg q]; exact r g
  · by_cases q : g = f
    · rw [q]; exact (keys_putF f y fs).1
    · refine (keys_putF f y fs).2 g (wi g fun z => hg ?_)
      show (if g = f then some u else mA g) = none
      rw [if_neg q]; exact z

/-- a new instance, tracked, without attributes -/
theorem Inv.made (I : Inv X pins σ H s) : Inv X pins σ (upd (upd H s.heap.objs.size (.own (s.heap.objs.size + 1))) (s.heap.objs.size + 1) (.ins C s.heap.objs.size []))
    { s with heap := (s.heap.push PySem.W.emptyDict).push (PySem.W.instObj C s.heap.objs.size) } := by
  have e1 : (s.heap.push PySem.W.emptyDict).get? s.heap.objs.size = some PySem.W.emptyDict := Heap.get?_push_size s.heap rfl
  have e2 : ((s.heap.push PySem.W.emptyDict).push (PySem.W.instObj C s.heap.objs.size)).get? (s.heap.objs.size + 1) = some (PySem.W.instObj C s.heap.objs.size) := by
    have := Heap.get?_push_size (s.heap.push PySem.W.emptyDict) (o := PySem.W.instObj C s.heap.objs.size) rfl
    rwa [Heap.size_push] at this
  have e3 : (s.heap.push PySem.W.emptyDict).Ns s.heap.objs.size (fun _ => none) := ⟨PySem.W.emptyDict, #[], _, e1, rfl, (fun e he => absurd he (by simp)), fun _ => rfl⟩
  have I1 := I.laid (a := s.heap.objs.size) (o := .own (s.heap.objs.size + 1)) (h' := s.heap.push PySem.W.emptyDict) (t' := s.toks) (fun b u q => Heap.get?_push_of_some _ q) (Nat.le_refl _) ⟨_, e1⟩
  refine I1.laid (a := s.heap.objs.size + 1) (o := .ins C s.heap.objs.size []) (t' := s.toks) (fun b u q => Heap.get?_push_of_some _ q) (Nat.le_of_eq (Heap.size_push _ _)) ?_
  have ne : s.heap.objs.size ≠ s.heap.objs.size + 1 := Nat.ne_of_lt (Nat.lt_succ_self _)
  refine ⟨by rw [upd_ne ne, upd_same], Nat.zero_le _, ne, e2, fun _ => none, (Heap.Ns1.of_empty e3).at fun o q => Heap.get?_push_of_some _ q, fun _ => True.intro, fun y hy => absurd rfl hy⟩

/-- e.f where nothing but the object is asked: through attributeBase (super) and the last hold -/
theorem attr_of {prog : Program} {w : World} {env : Env} {e : Expr} {f : Str} {pos : Pos} {s : Shared} {Q : Value → Shared → Prop} (hb : attributeBase e f env (eval e env) = eval e env)
    (h : wpAny (model prog w) A (eval e env) (fun o s₁ => wpAny (model prog w) A (getAttr o f true) Q E s₁) E s) : wpAny (model prog w) A (eval (.Attribute e f pos) env) Q E s :=
  Attribute_any_ h (by rw [arm_eval_Attribute, hb])
end

/-! ### readings and rules -/
/-- e.f, an attribute of the instance -/
def tFld (K : PySem.W.Frag) (ta : TE) (f : Str) : TE := fun σ H Q => ta σ H fun x H1 => ∃ a C dx fs v, x = .ref a ∧ H1 a = some (.ins C dx fs) ∧ Cls K C ∧ NoAttr K C f ∧ fs.lookup f = some v ∧ Q v H1
/-- e.f, a constant of the class -/
def tCon (K : PySem.W.Frag) (ta : TE) (f : Str) : TE := fun σ H Q => ta σ H fun x H1 => ∃ a C dx fs v u, x = .ref a ∧ H1 a = some (.ins C dx fs) ∧ Cls K C ∧ Con K C f v u ∧ fs.lookup f = none ∧ Q v H1
/-- e.f = value -/
def sFld (K : PySem.W.Frag) (ta tv : TE) (f : Str) : TS := fun D σ H => tv σ H fun y H1 => ta σ H1 fun x H2 => ∃ a C dx fs, x = .ref a ∧ H2 a = some (.ins C dx fs) ∧ Cls K C ∧ NoAttr K C f ∧ fs.length < 1000 ∧
  D.nx σ (upd H2 a (.ins C dx (putF f y fs)))
/-- an augmented operator on two values -/
def InOp (X : Cx) (op : Operator) (rd : V → V → Hp → VK → Prop) : Prop :=
  ∀ (pins : List (Addr × Obj)) (s : Shared) (σ : St) (H : Hp) (x y : V) (u v : Value) (Q : VK), Inv X pins σ H s → RelV x u → RelV y v → rd x y H Q → wpAny (model X.prog X.w) X.A (inplaceOp op u v) (EP X pins σ Q) X.xe s
/-- e.f op= value -/
def sFldAug (K : PySem.W.Frag) (ta tv : TE) (rd : V → V → Hp → VK → Prop) (f : Str) : TS := fun D σ H => ta σ H fun x H1 => ∃ a C dx fs v, x = .ref a ∧ H1 a = some (.ins C dx fs) ∧ Cls K C ∧ NoAttr K C f ∧ fs.lookup f = some v ∧
  tv σ H1 fun y H2 => rd v y H2 fun z H3 => ∃ dx' fs', H3 a = some (.ins C dx' fs') ∧ fs'.length < 1000 ∧ D.nx σ (upd H3 a (.ins C dx' (putF f z fs')))

section
variable {X : Cx} {o e value : Expr} {f : Str} {pos pos' tpos : Pos} {ta tv : TE}
theorem pe_fld (he : PE X e ta) (hb : attributeBase e f X.env (eval e X.env) = eval e X.env) : PE X (.Attribute e f pos) (tFld X.K ta f) := by
  intro pins s σ H Q I h
  refine attr_of hb (thn (he pins s σ H _ I h) fun u s1 ⟨x, H1, I1, rx, a, C, dx, fs, v, ex, ea, c, n, l, q⟩ => ?_)
  subst ex
  obtain rfl : u = Value.ref a := rx
  exact getattr_ok I1 ea c n l fun u' s2 I2 ru => ⟨v, H1, I2, ru, q⟩
theorem pe_con (he : PE X e ta) (hb : attributeBase e f X.env (eval e X.env) = eval e X.env) : PE X (.Attribute e f pos) (tCon X.K ta f) := by
  intro pins s σ H Q I h
  refine attr_of hb (thn (he pins s σ H _ I h) fun u s1 ⟨x, H1, I1, rx, a, C, dx, fs, v, u0, ex, ea, c, k, l, q⟩ => ?_)
  subst ex
  obtain rfl : u = Value.ref a := rx
  exact getcon_ok I1 ea c k l fun s2 I2 => ⟨v, H1, I2, k.rel, q⟩
theorem ps_fld (ha : PE X o ta) (hv : PE X value tv) (hs : swapsWith value (some (.Attribute o f pos')) pos.line X.env = pure false) : PS X (.Assign [.Attribute o f pos'] value pos) (sFld X.K ta tv f) := by
  intro pins s σ H D I h
  refine plainObj_wpAny_Assign_Attribute (thn (hv pins s σ H _ I h) fun u s1 ⟨y, H1, I1, ry, q⟩ => thn (ha pins s1 σ H1 _ I1 q) fun ov s2 ⟨x, H2, I2, rx, a, C, dx, fs, ex, ea, c, n, l, q2⟩ => ?_) hs
  subst ex
  obtain rfl : ov = Value.ref a := rx
  exact setattr_ok I2 ea c n l ry fun s3 I3 => ⟨σ, _, I3, q2⟩
theorem ps_fldaug {op : Operator} {rd : V → V → Hp → VK → Prop} (ha : PE X o ta) (hv : PE X value tv) (hop : InOp X op rd) : PS X (.AugAssign (.Attribute o f tpos) op value pos) (sFldAug X.K ta tv rd f) := by
  intro pins s σ H D I h
  refine wpAny_AugAssign_AttributeAny (thn (ha pins s σ H _ I h) fun ov s1 ⟨x, H1, I1, rx, a, C, dx, fs, v, ex, ea, c, n, l, q⟩ => ?_)
  subst ex
  obtain rfl : ov = Value.ref a := rx
  refine getattr_ok I1 ea c n l fun u s2 I2 ru => thn (hv pins s2 σ H1 _ I2 q) fun w3 s3 ⟨y, H2, I3, ry, q3⟩ => thn (hop pins s3 σ H2 v y u w3 _ I3 ru ry q3) fun w4 s4 ⟨z, H3, I4, rz, dx', fs', ea', l', q4⟩ => ?_
  exact setattr_ok I4 ea' c n l' rz fun s5 I5 => ⟨σ, _, I5, q4⟩
def rAdd : V → V → Hp → VK → Prop := fun x y H Q => ∃ i j, x = .int i ∧ y = .int j ∧ Q (.int (i + j)) H
def rSub : V → V → Hp → VK → Prop := fun x y H Q => ∃ i j, x = .int i ∧ y = .int j ∧ Q (.int (i - j)) H
theorem in_add : InOp X .Add rAdd := by
  rintro pins s σ H x y u v Q I rx ry ⟨i, j, rfl, rfl, q⟩
  obtain ⟨t, rfl⟩ := (show ∃ t, u = Value.int i t from rx)
  obtain ⟨t', rfl⟩ := (show ∃ t', v = Value.int j t' from ry)
  exact PyProof.Rows.iadd_int ⟨.int (i + j), H, I.tok _, ⟨_, rfl⟩, q⟩
theorem in_sub : InOp X .Sub rSub := by
  rintro pins s σ H x y u v Q I rx ry ⟨i, j, rfl, rfl, q⟩
  obtain ⟨t, rfl⟩ := (show ∃ t, u = Value.int i t from rx)
  obtain ⟨t', rfl⟩ := (show ∃ t', v = Value.int j t' from ry)
  exact PyProof.Rows.isub_int ⟨.int (i - j), H, I.tok _, ⟨_, rfl⟩, q⟩

/-- what is between an instance and its method: the tree of a method call -/
theorem methcall_of {pl : Sem Bool} {m : Str} {apos : Pos} {args : List Expr} {pins : List (Addr × Obj)} {s : Shared} {σ : St} {H : Hp} {Q : Value → Shared → Prop} {te : TE} (he : PE X e te) (I : Inv X pins σ H s)
    (h : te σ H fun x H1 => ∃ a C dx fs g, x = .ref a ∧ H1 a = some (.ins C dx fs) ∧ Cls X.K C ∧ Meth X.K C m g ∧ fs.lookup m = none ∧
      ∀ s1, Inv X pins σ H1 s1 → wpAny (model X.prog X.w) X.A (callWith pos (.ref g) [.ref a] (backTo pos (starEach args X.env)) (backToKw pos (keywordEach [] X.env))) Q X.xe s1)
    (ht : eval (.Call (.Attribute e m apos) args [] pos) X.env = (do
      let ov ← eval e X.env
      standAt apos.atName
      let (f, first) ← holding [ov] (getMethod ov m pl)
      callWith pos f first (backTo pos (starEach args X.env)) (backToKw pos (keywordEach [] X.env)))) :
    wpAny (model X.prog X.w) X.A (eval (.Call (.Attribute e m apos) args [] pos) X.env) Q X.xe s := by
  refine PySem.W.methodCall_KW (pl := pl) (thn (he pins s σ H _ I h) fun u s1 ⟨x, H1, I1, rx, a, C, dx, fs, g, ex, ea, c, k, l, q⟩ => ?_) ht
  subst ex
  obtain rfl : u = Value.ref a := rx
  exact getmeth_ok I1 ea c k l (q s1 I1)
end

/-! ### isinstance -/
section
variable {X : Cx} {pins : List (Addr × Obj)} {σ : St} {H : Hp} {s : Shared} {A : Around} {E : Value → Shared → Prop} {Q : Value → Shared → Prop} {c : Value} {b : Bool}
/-- the type of a value, as the fragment's deciders take it; for an instance its class -/
inductive TyOf (K : PySem.W.Frag) (H : Hp) : V → Value → Prop where
  | non : TyOf K H .non (.type "NoneType")
  | bl (x : Bool) : TyOf K H (.bl x) (.type "bool")
  | int (i : Int) : TyOf K H (.int i) (.type "int")
  | str (x : Str) : TyOf K H (.str x) (.type "str")
  | flt (x : UInt64) : TyOf K H (.flt x) (.type "float")
  | lst {a : Addr} {xs : List V} (e : H a = some (.lst xs)) : TyOf K H (.ref a) (.type "list")
  | frz {a : Addr} {o : Obj} {xs : List V} (e : H a = some (.frz o (.lst xs))) : TyOf K H (.ref a) (.type "list")
  | tup {a : Addr} {xs : List V} (e : H a = some (.tup xs)) : TyOf K H (.ref a) (.type "tuple")
  | dK {a : Addr} {kvs : List (Key × V)} (e : H a = some (.dK kvs)) : TyOf K H (.ref a) (.type "dict")
  | dT {a : Addr} {kvs : List (List Key × V)} (e : H a = some (.dT kvs)) : TyOf K H (.ref a) (.type "dict")
  | ins {a C dx : Addr} {fs : List (Str × V)} (e : H a = some (.ins C dx fs)) (cl : Cls K C) (ha : PySem.W.findIn K (.ref C) "__class__" = some (some (.builtin "object.__class__")))
      (hn : PySem.W.specialIn K (.builtin "object.__class__") "__get__" = some (some (.builtin "getset_descriptor.__get__"))) (htk : PySem.W.takesIn K (.builtin "object.__class__") = some true)
      (hm : PySem.W.mroIn K C (.type "object") = some true) : TyOf K H (.ref a) (.ref C)
/-- isinstance(x, c) for one class c, a built-in or an own one: kitOne's answer -/
theorem isinst_ok {x : V} {u t : Value} (I : Inv X pins σ H s) (rx : RelV x u) (ty : TyOf X.K H x t) (e : PySem.W.kitOne X.K t c = some b) (h : ∀ tk, Q (.bool b) { s with toks := tk }) :
    wpAny (model X.prog X.w) A (call (.builtin "isinstance") [u, c]) Q E s := by
  cases ty with
  | non => cases (show u = Value.none from rx); exact PySem.W.kia_one PySem.W.kitx_none I.kIn True.intro e (fun z => nomatch z) h
  | bl y => cases (show u = Value.bool y from rx); exact PySem.W.kia_one PySem.W.kitx_bool I.kIn True.intro e (fun z => nomatch z) h
  | int i => obtain ⟨t, q⟩ := (show ∃ t, u = Value.int i t from rx); cases q; exact PySem.W.kia_one PySem.W.kitx_int I.kIn True.intro e (fun z => nomatch z) h
  | str y => obtain ⟨t, q⟩ := (show ∃ t, u = Value.str y t from rx); cases q; exact PySem.W.kia_one PySem.W.kitx_str I.kIn True.intro e (fun z => nomatch z) h
  | flt y => obtain ⟨t, q⟩ := (show ∃ t, u = Value.float y t from rx); cases q; exact PySem.W.kia_one PySem.W.kitx_float I.kIn True.intro e (fun z => nomatch z) h
  | @lst a xs ea =>
    cases (show u = Value.ref a from rx)
    obtain ⟨_, _, n, _, h1⟩ := (show ObjOk X.prog X.w H s.heap a (.lst xs) from I.hok a _ ea)
    exact PySem.W.kia_one PySem.W.kitx_list I.kIn ⟨_, h1, rfl⟩ e (fun z => nomatch z) h
  | @frz a ob xs ea =>
    cases (show u = Value.ref a from rx)
    obtain ⟨_, _, _, n, _, h1⟩ := (show ObjOk X.prog X.w H s.heap a (.frz ob (.lst xs)) from I.hok a _ ea)
    exact PySem.W.kia_one PySem.W.kitx_list I.kIn ⟨_, h1, rfl⟩ e (fun z => nomatch z) h
  | @tup a xs ea =>
    cases (show u = Value.ref a from rx)
    obtain ⟨_, _, _, p⟩ := (show ObjOk X.prog X.w H s.heap a (.tup xs) from I.hok a _ ea)
    obtain ⟨o, h1, h2, _⟩ := p
    exact PySem.W.kia_one PySem.W.kitx_tuple I.kIn ⟨o, h1, h2⟩ e (fun z => nomatch z) h
  | @dK a kvs ea =>
    cases (show u = Value.ref a from rx)
    obtain ⟨_, _, vs, _, p⟩ := (show ObjOk X.prog X.w H s.heap a (.dK kvs) from I.hok a _ ea)
    obtain ⟨o, es, ep, h1, h2, _⟩ := p
    exact PySem.W.kia_one PySem.W.kitx_dict I.kIn ⟨o, h1, h2.1⟩ e (fun z => nomatch z) h
  | @dT a kvs ea =>
    cases (show u = Value.ref a from rx)
    obtain ⟨_, _, xs, _, o, es, ep, h1, h2, _⟩ := (show ObjOk X.prog X.w H s.heap a (.dT kvs) from I.hok a _ ea)
    exact PySem.W.kia_one PySem.W.kitx_dict I.kIn ⟨o, h1, h2.1⟩ e (fun z => nomatch z) h
  | @ins a C dx fs ea cl ha hn htk hm =>
    cases (show u = Value.ref a from rx)
    obtain ⟨mA, O, _⟩ := ins_get I.hok ea
    obtain ⟨od, J, _⟩ := O.look
    exact PySem.W.kia_one (PySem.W.kitx_own (cl.get _) cl.hd ha hn htk hm) I.kIn J e (fun z => nomatch z) h
end
end L2

namespace L2
open PySem PySem.Spec PyProof.Rows

/-! ### room -/
structure Room (k : Nat) (A : Around) : Prop where
  hd : A.handled = none
  dp : A.depth + 3 * k + 5 < recursionLimit
  un : A.units + 16 * k + 200 < cLine
theorem Room.mono {j k : Nat} {A : Around} (r : Room k A) (h : j ≤ k) : Room j A := ⟨r.hd, by have := r.dp; omega, by have := r.un; omega⟩
theorem Room.deeper {k : Nat} {A : Around} (r : Room (k + 1) A) (env : Env) : Room k (A.deeper env) :=
  ⟨r.hd, by have := r.dp; show A.depth + 1 + 3 * k + 5 < _; omega, by have := r.un; show A.units + 3 + 16 * k + 200 < _; omega⟩
theorem Room.in1 {k : Nat} {A : Around} (r : Room (k + 1) A) : Room k A.in1 :=
  ⟨r.hd, by have := r.dp; show A.depth + 3 * k + 5 < _; omega, by have := r.un; show A.units + 1 + 16 * k + 200 < _; omega⟩
theorem make_depth {A : Around} {C : Addr} {us : List Value} {kw : List (Str × Value)} : (A.under (.builtin "type.__call__" ⟨.ref C :: us, kw⟩)).depth = A.depth + 1 := by
  first | rfl | simp [Around.under, Code.weight, Code.isCreation, Code.isGuard, Code.isCaller, Code.frames, Code.isFrame, guardIds]
theorem make_units {A : Around} {C : Addr} {us : List Value} {kw : List (Str × Value)} : (A.under (.builtin "type.__call__" ⟨.ref C :: us, kw⟩)).units = A.units + 1 := by
  first | rfl | simp [Around.under, Code.cUnits, Code.frames, Code.isFrame]
theorem Room.make {k : Nat} {A : Around} (r : Room (k + 1) A) (C : Addr) (us : List Value) (kw : List (Str × Value)) : Room k (A.under (.builtin "type.__call__" ⟨.ref C :: us, kw⟩)) :=
  ⟨r.hd, by have := r.dp; rw [make_depth]; omega, by have := r.un; rw [make_units]; omega⟩
theorem Room.depth {k : Nat} {A : Around} (r : Room k A) : A.depth < recursionLimit := by have := r.dp; omega
theorem Room.units {k : Nat} {A : Around} (r : Room k A) : A.units + 64 < cLine := by have := r.un; omega
theorem Room.units0 {k : Nat} {A : Around} (r : Room k A) : A.units < cLine := by have := r.un; omega

/-! ### argument lists and displays -/
def tNil : TA := fun _ H Q => Q [] H
def tCons (ta : TE) (tr : TA) : TA := fun σ H Q => ta σ H fun x H1 => tr σ H1 fun xs H2 => Q (x :: xs) H2
section
variable {X : Cx} {e : Expr} {es : List Expr} {te : TE} {t : TA} {pos : Pos}
theorem pa_nil : PA X [] tNil := fun _ _ _ _ H Q I h => Calls.spliced_nil ⟨[], H, I, .nil, h⟩
theorem pa_cons (ha : PE X e te) (hr : PA X es t) (hs : starEach (e :: es) X.env = (false, eval e X.env) :: starEach es X.env := by rfl) : PA X (e :: es) (tCons te t) := by
  intro pos pins s σ H Q I h
  rw [hs]
  show wpAny _ _ (spliced ((false, eval e X.env) :: backTo pos (starEach es X.env))) _ _ s
  refine Calls.spliced_cons (thn (ha pins s σ H _ I h) fun u s1 ⟨x, H1, I1, r1, q1⟩ => ?_)
  exact thn (hr pos pins s1 σ H1 _ I1 q1) fun us s2 ⟨xs, H2, I2, r2, q2⟩ => ⟨x :: xs, H2, I2, .cons r1 r2, q2⟩

/-- a tuple, a list of written items -/
def tTup (t : TA) : TE := fun σ H Q => t σ H fun xs H1 => xs.length ≤ sizeLine ∧ ∀ p, H1 p = none → Q (.ref p) (upd H1 p (.tup xs))
def tLst (t : TA) : TE := fun σ H Q => t σ H fun xs H1 => xs.length ≤ sizeLine ∧ ∀ p, H1 p = none → Q (.ref p) (upd H1 p (.lst xs))
theorem pe_tup {x1} (h : PA X es t) : PE X (.Tuple es x1 pos) (tTup t) := by
  intro pins s σ H Q I hq
  refine wpAny_Tuple_spliced (thn (h pos pins s σ H _ I hq) fun us s1 ⟨xs, H1, I1, r, z, q⟩ => ⟨by rw [← r.length]; exact z, ?_⟩)
  have hf : H1 s1.heap.objs.size = none := I1.hok.fresh (Nat.le_refl _)
  refine ⟨.ref s1.heap.objs.size, upd H1 s1.heap.objs.size (.tup xs), I1.laid (t' := s1.toks) (fun b u e => Heap.get?_push_of_some _ e) (Nat.le_refl _) ?_, rfl, q _ hf⟩
  exact ⟨z, us, r, ⟨_, Heap.get?_push_size _ rfl, rfl, _, rfl⟩⟩
theorem pe_lst (h : PA X es t) : PE X (.List es pos) (tLst t) := by
  intro pins s σ H Q I hq
  refine wpAny_List_spliced (thn (h pos pins s σ H _ I hq) fun us s1 ⟨xs, H1, I1, r, z, q⟩ => ⟨by rw [← r.length]; exact z, ?_⟩)
  have hf : H1 s1.heap.objs.size = none := I1.hok.fresh (Nat.le_refl _)
  refine ⟨.ref s1.heap.objs.size, upd H1 s1.heap.objs.size (.lst xs), I1.laid (t' := s1.toks) (fun b u e => Heap.get?_push_of_some _ e) (Nat.le_refl _) ?_, rfl, q _ hf⟩
  exact ⟨z, us, 0, r, Heap.get?_push_size _ rfl⟩
end

/-! ### what a def promises -/
/-- a def's promise: the bound arguments in the parameters' order, the heap, the wanted end, the wanted exception -/
abbrev Sp := List V → Hp → VK → XK → Prop
/-- how an exception lies behind a call (file 08 gives it): the callers' frames, abstract heap and state ahead of the call, the wish, the exception, the state -/
abbrev CXT := List Env → Hp → Shared → XK → Value → Shared → Prop

/-- the state at a call -/
structure Env0 (P : Program) (w : World) (K : PySem.W.Frag) (mg : Str → Option Value) (base : Heap) (A : Around) (outer : List Env) (s : Shared) (H : Hp) : Prop where
  frames : A.frames = some outer
  mod : Mod K mg base
  bs : ∀ b o, base.get? b = some o → s.heap.get? b = some o ∧ H b = none
  bsz : base.objs.size ≤ s.heap.objs.size
  funs : s.heap.FunFrames base outer
  frf : ∀ b ∈ frs outer, H b = none
  hok : HOk P w H s.heap
  bare : AllBare s.gens
/-- a call's end -/
def CE (outer : List Env) (P : Program) (w : World) (H : Hp) (s : Shared) (Q : VK) (u : Value) (s' : Shared) : Prop :=
  ∃ v H', s'.os = s.os ∧ AllBare s'.gens ∧ Un (frs outer) [] H H' s.heap s'.heap ∧ HOk P w H' s'.heap ∧ RelV v u ∧ Q v H'
def CR (CX : CXT) (outer : List Env) (P : Program) (w : World) (H : Hp) (s : Shared) (Q : VK) (E : XK) (r : Result) (s' : Shared) : Prop :=
  match r with
  | .ok (.ret u) => CE outer P w H s Q u s'
  | .ok _ => False
  | .error e => CX outer H s E e s'
structure FnOk (P : Program) (w : World) (K : PySem.W.Frag) (mg : Str → Option Value) (base : Heap) (CX : CXT) (k : Nat) (f : Addr) (fd : FuncData) (ps : List Str) (sp : Sp) : Prop where
  len : ∀ vs H Q E, sp vs H Q E → vs.length = ps.length
  run : ∀ (A : Around) (outer : List Env) (s : Shared) (H : Hp) (args : Args) (us : List Value) (vs : List V) (Q : VK) (E : XK), Room k A → Env0 P w K mg base A outer s H → BindsTo s fd args (ps.zip us) → Vals vs us → sp vs H Q E →
    codeAny (model P w) A (.call (.ref f) args) (CR CX outer P w H s Q E) s
theorem FnOk.mono {P : Program} {w : World} {K : PySem.W.Frag} {mg : Str → Option Value} {base : Heap} {CX : CXT} {j k : Nat} {f : Addr} {fd : FuncData} {ps : List Str} {sp : Sp} (F : FnOk P w K mg base CX j f fd ps sp) (h : j ≤ k) :
    FnOk P w K mg base CX k f fd ps sp := ⟨F.len, fun A outer s H args us vs Q E hr => F.run A outer s H args us vs Q E (hr.mono h)⟩
/-- a weaker promise -/
theorem FnOk.imp {P : Program} {w : World} {K : PySem.W.Frag} {mg : Str → Option Value} {base : Heap} {CX : CXT} {k : Nat} {f : Addr} {fd : FuncData} {ps : List Str} {sp sp' : Sp} (F : FnOk P w K mg base CX k f fd ps sp)
    (h : ∀ vs H Q E, sp' vs H Q E → sp vs H Q E) : FnOk P w K mg base CX k f fd ps sp' :=
  ⟨fun vs H Q E q => F.len vs H Q E (h _ _ _ _ q), fun A outer s H args us vs Q E hr he hb hv hs => F.run A outer s H args us vs Q E hr he hb hv (h _ _ _ _ hs)⟩

theorem Env0.make {P : Program} {w : World} {K : PySem.W.Frag} {mg : Str → Option Value} {base : Heap} {A : Around} {outer : List Env} {s : Shared} {H : Hp} (e : Env0 P w K mg base A outer s H) (C : Addr) (us : List Value) (kw : List (Str × Value)) :
    Env0 P w K mg base (A.under (.builtin "type.__call__" ⟨.ref C :: us, kw⟩)) outer s H := ⟨by first | exact e.frames | (simpa [Around.under, Code.envs, Code.isFrame, pushEnvs] using e.frames), e.mod, e.bs, e.bsz, e.funs, e.frf, e.hok, e.bare⟩
theorem Env0.in1 {P : Program} {w : World} {K : PySem.W.Frag} {mg : Str → Option Value} {base : Heap} {A : Around} {outer : List Env} {s : Shared} {H : Hp} (e : Env0 P w K mg base A outer s H) :
    Env0 P w K mg base A.in1 outer s H := ⟨e.frames, e.mod, e.bs, e.bsz, e.funs, e.frf, e.hok, e.bare⟩

section
variable {X : Cx} {pins : List (Addr × Obj)} {σ : St} {H : Hp} {s s' : Shared}
/-- from a body: what a callee wants -/
theorem Inv.env0 (I : Inv X pins σ H s) : Env0 X.prog X.w X.K X.mg X.base X.A X.stack s H :=
  ⟨I.ok.frames, I.ok.mod, I.bs, Nat.le_trans I.ok.bsz I.sz, I.stack, I.stkFree, I.hok, I.bare⟩
/-- behind a call -/
theorem Inv.after {Q : VK} {u : Value} (I : Inv X pins σ H s) (h : CE X.stack X.prog X.w H s Q u s') : EP X pins σ Q u s' := by
  obtain ⟨v, H', os, bare, un, hok, r, q⟩ := h
  obtain ⟨hh, g, d, t, os'⟩ := s'
  obtain rfl : os' = s.os := os
  exact ⟨v, H', I.call (h' := hh) (g' := g) (d' := d) (t' := t) (ch := []) un hok bare (fun b z => absurd z (by simp)), r, q⟩
end

/-! ### calls -/
/-- f(..): the written arguments, then the defaults dvs; E: what is wanted of an exception -/
def tCall (sp : Sp) (dvs : List V) (E : XK) (t : TA) : TE := fun σ H Q => t σ H fun vs H1 => sp (vs ++ dvs) H1 Q E
/-- o.m(..) of an instance of the class at C -/
def tMeth (C : Addr) (m : Str) (sp : Sp) (dvs : List V) (E : XK) (ta : TE) (t : TA) : TE := fun σ H Q => ta σ H fun x H1 => ∃ a dx fs, x = .ref a ∧ H1 a = some (.ins C dx fs) ∧ fs.lookup m = none ∧
  t σ H1 fun vs H2 => sp (x :: (vs ++ dvs)) H2 Q E
/-- C(..): a new instance and its dict, then __init__ -/
def tMake (C : Addr) (sp : Sp) (dvs : List V) (E : XK) (t : TA) : TE := fun σ H Q => t σ H fun vs H1 => ∀ x dx, H1 x = none → H1 dx = none → dx ≠ x →
  sp (.ref x :: (vs ++ dvs)) (upd (upd H1 dx (.own x)) x (.ins C dx [])) (fun v H2 => v = .non ∧ Q (.ref x) H2) E

/-- how the parameters are bound: us the positional arguments, kw the keywords' values by name, ds the defaults that fill up -/
def Binds (K : PySem.W.Frag) (fd : FuncData) (ps : List Str) (ds : List Value) : Prop :=
  ∀ (s : Shared) (us : List Value), K.In s.heap → (us ++ ds).length = ps.length → BindsTo s fd ⟨us, []⟩ (ps.zip (us ++ ds))
/-- every parameter is given -/
theorem Binds.all {K : PySem.W.Frag} {fd : FuncData} {ps : List Str} (h : ∀ us : List Value, us.length = ps.length → bindArgs fd ⟨us, []⟩ = pure (ps.zip us)) : Binds K fd ps [] := fun s us _ hl => by
  rw [List.append_nil] at hl ⊢
  exact .of_eq (h us hl)

/-- an exception of a callee reaches what this body wants of exceptions -/
def Passes (CX : CXT) (X : Cx) (E : XK) : Prop := ∀ (pins : List (Addr × Obj)) (σ : St) (H : Hp) (s : Shared) (e : Value) (s' : Shared), Inv X pins σ H s → CX X.stack H s E e s' → X.xe e s'

section
variable {X : Cx} {CX : CXT} {k : Nat} {f C : Addr} {fd : FuncData} {ps : List Str} {sp : Sp} {dvs : List V} {ds : List Value} {E : XK} {x m : Str} {p pos apos : Pos} {e o : Expr} {es : List Expr} {ta : TE} {t : TA}

/-- the callee runs -/
theorem run_fn {pins : List (Addr × Obj)} {σ : St} {H : Hp} {s : Shared} {Q : VK} {us : List Value} {vs : List V} (F : FnOk X.prog X.w X.K X.mg X.base CX k f fd ps sp) (hr : Room k X.A) (hb : Binds X.K fd ps ds) (hd : Vals dvs ds) (hx : Passes CX X E)
    (I : Inv X pins σ H s) (r : Vals vs us) (h : sp (vs ++ dvs) H Q E) : wpAny (model X.prog X.w) X.A (call (.ref f) us) (EP X pins σ Q) X.xe s := by
  have r2 : Vals (vs ++ dvs) (us ++ ds) := r.append hd
  have hl : (us ++ ds).length = ps.length := by rw [← r2.length]; exact F.len _ _ _ _ h
  refine wpAny_call (codeAny_mono (F.run X.A X.stack s H ⟨us, []⟩ (us ++ ds) (vs ++ dvs) Q E hr I.env0 (hb s us I.kIn hl) r2 h) fun r s' hq => ?_)
  cases r with
  | error e => exact hx pins σ H s e s' I hq
  | ok fl =>
    cases fl with
    | ret u => exact I.after hq
    | next => exact False.elim hq
    | brk => exact False.elim hq
    | cont => exact False.elim hq

theorem pe_call (F : FnOk X.prog X.w X.K X.mg X.base CX k f fd ps sp) (hr : Room k X.A) (hg : Gl X x) (hm : X.mg x = some (.ref f)) (hk : PySem.W.keepIn X.K (.ref f) = true) (hb : Binds X.K fd ps ds) (hd : Vals dvs ds) (hx : Passes CX X E)
    (ha : PA X (e :: es) t) (hdb : (x == ("__debug__" : Str)) = false := by decide) (he : starEach (e :: es) X.env = (false, eval e X.env) :: starEach es X.env := by rfl) (hpl : (backTo pos (starEach es X.env)).any (·.1) = false := by rfl) :
    PE X (.Call (.Name x p) (e :: es) [] pos) (tCall sp dvs E t) := by
  intro pins s σ H Q I h
  refine wpAny_Call_Name_kw (ld_glob I hg hm ?_ hdb)
  refine PySem.W.callWith_K (h₀ := X.base) I.ok.mod.kin hk (thn (ha pos pins s σ H _ I h) fun us s1 ⟨vs, H1, I1, r, q⟩ => ⟨I1.kIn, ?_⟩) he hpl
  exact run_fn F hr hb hd hx I1 r q
theorem pe_call0 (F : FnOk X.prog X.w X.K X.mg X.base CX k f fd ps sp) (hr : Room k X.A) (hg : Gl X x) (hm : X.mg x = some (.ref f)) (hk : PySem.W.keepIn X.K (.ref f) = true) (hb : Binds X.K fd ps ds) (hd : Vals dvs ds) (hx : Passes CX X E)
    (hdb : (x == ("__debug__" : Str)) = false := by decide) : PE X (.Call (.Name x p) [] [] pos) (tCall sp dvs E tNil) := by
  intro pins s σ H Q I h
  refine wpAny_Call_Name_kw (ld_glob I hg hm ?_ hdb)
  exact PySem.W.callWith_K0 I.kIn hk (run_fn (us := []) F hr hb hd hx I .nil h)

/-- o.m(e, ..) -/
theorem pe_meth {pl : Sem Bool} (he : PE X o ta) (c : Cls X.K C) (hm : Meth X.K C m f) (F : FnOk X.prog X.w X.K X.mg X.base CX k f fd ps sp) (hr : Room k X.A) (hb : Binds X.K fd ps ds) (hd : Vals dvs ds) (hx : Passes CX X E) (ha : PA X (e :: es) t)
    (hst : starEach (e :: es) X.env = (false, eval e X.env) :: starEach es X.env := by rfl) (hpl : (backTo pos (starEach es X.env)).any (·.1) = false := by rfl)
    (ht : eval (.Call (.Attribute o m apos) (e :: es) [] pos) X.env = (do
      let ov ← eval o X.env
      standAt apos.atName
      let (f, first) ← holding [ov] (getMethod ov m pl)
      callWith pos f first (backTo pos (starEach (e :: es) X.env)) (backToKw pos (keywordEach [] X.env))) := by rfl) :
    PE X (.Call (.Attribute o m apos) (e :: es) [] pos) (tMeth C m sp dvs E ta t) := by
  intro pins s σ H Q I h
  refine PySem.W.methodCall_KW (pl := pl) (thn (he pins s σ H _ I h) fun u s1 ⟨x, H1, I1, rx, a, dx, fs, ex, ea, l, q⟩ => ?_) ht
  subst ex
  obtain rfl : u = Value.ref a := rx
  refine getmeth_ok I1 ea c hm l ?_
  refine PySem.W.callWith_K (first := [.ref a]) (h₀ := X.base) I.ok.mod.kin hm.kp (thn (ha pos pins s1 σ H1 _ I1 q) fun us s2 ⟨vs, H2, I2, r, q2⟩ => ⟨I2.kIn, ?_⟩) hst hpl
  exact run_fn (us := .ref a :: us) (vs := .ref a :: vs) F hr hb hd hx I2 (.cons rfl r) q2
/-- o.m() -/
theorem pe_meth0 {pl : Sem Bool} (he : PE X o ta) (c : Cls X.K C) (hm : Meth X.K C m f) (F : FnOk X.prog X.w X.K X.mg X.base CX k f fd ps sp) (hr : Room k X.A) (hb : Binds X.K fd ps ds) (hd : Vals dvs ds) (hx : Passes CX X E)
    (ht : eval (.Call (.Attribute o m apos) [] [] pos) X.env = (do
      let ov ← eval o X.env
      standAt apos.atName
      let (f, first) ← holding [ov] (getMethod ov m pl)
      callWith pos f first (backTo pos (starEach [] X.env)) (backToKw pos (keywordEach [] X.env))) := by rfl) :
    PE X (.Call (.Attribute o m apos) [] [] pos) (tMeth C m sp dvs E ta tNil) := by
  intro pins s σ H Q I h
  refine PySem.W.methodCall_KW (pl := pl) (thn (he pins s σ H _ I h) fun u s1 ⟨x, H1, I1, rx, a, dx, fs, ex, ea, l, q⟩ => ?_) ht
  subst ex
  obtain rfl : u = Value.ref a := rx
  refine getmeth_ok I1 ea c hm l ?_
  exact PySem.W.callWith_K0 (first := [.ref a]) I1.kIn hm.kp (run_fn (us := [.ref a]) (vs := [.ref a]) F hr hb hd hx I1 (.cons rfl .nil) q)

/-- what a class must have to be made -/
structure Mk (K : PySem.W.Frag) (C f : Addr) : Prop where
  makes : PySem.W.makesIn K C = true
  init : PySem.W.findIn K (.ref C) "__init__" = some (some (.ref f))
  fn : PySem.W.isFn K (.ref f) = true
  kp : PySem.W.keepIn K (.ref C) = true

theorem run_make {pins : List (Addr × Obj)} {σ : St} {H : Hp} {s : Shared} {Q : VK} {us : List Value} {vs : List V} (M : Mk X.K C f) (F : FnOk X.prog X.w X.K X.mg X.base CX k f fd ps sp) (hr : Room (k + 1) X.A) (hb : Binds X.K fd ps ds) (hd : Vals dvs ds)
    (hx : Passes CX X E) (I : Inv X pins σ H s) (r : Vals vs us)
    (h : ∀ x dx, H x = none → H dx = none → dx ≠ x → sp (.ref x :: (vs ++ dvs)) (upd (upd H dx (.own x)) x (.ins C dx [])) (fun v H2 => v = .non ∧ Q (.ref x) H2) E) :
    wpAny (model X.prog X.w) X.A (call (.ref C) us) (EP X pins σ Q) X.xe s := by
  have hq := h (s.heap.objs.size + 1) s.heap.objs.size (I.hok.fresh (Nat.le_succ _)) (I.hok.fresh (Nat.le_refl _)) (Nat.ne_of_lt (Nat.lt_succ_self _))
  have I2 := Inv.made (C := C) I
  have r2 : Vals (V.ref (s.heap.objs.size + 1) :: (vs ++ dvs)) (Value.ref (s.heap.objs.size + 1) :: (us ++ ds)) := .cons rfl (r.append hd)
  have hl : (Value.ref (s.heap.objs.size + 1) :: us ++ ds).length = ps.length := by
    have e := r2.length
    rw [F.len _ _ _ _ hq] at e
    exact e.symm
  refine wpAny_call (make_map (f := f) I.kIn M.makes M.init (beq_iff_eq.mp M.fn) (codeAny_mono (F.run _ X.stack _ _ ⟨Value.ref (s.heap.objs.size + 1) :: us, []⟩ (Value.ref (s.heap.objs.size + 1) :: (us ++ ds)) _ _ E (hr.make C us [])
    (I2.env0.make C us []) (hb _ (Value.ref (s.heap.objs.size + 1) :: us) I2.kIn hl) r2 hq) fun r s' hq' => ?_))
  cases r with
  | error e => exact hx pins σ _ _ e s' I2 hq'
  | ok fl =>
    cases fl with
    | ret u =>
      obtain ⟨v, H', I3, rv, ev, q3⟩ := I2.after hq'
      subst ev
      exact ⟨rv, ⟨V.ref (s.heap.objs.size + 1), H', I3, rfl, q3⟩⟩
    | next => exact False.elim hq'
    | brk => exact False.elim hq'
    | cont => exact False.elim hq'
theorem pe_make (M : Mk X.K C f) (F : FnOk X.prog X.w X.K X.mg X.base CX k f fd ps sp) (hr : Room (k + 1) X.A) (hg : Gl X x) (hm : X.mg x = some (.ref C)) (hb : Binds X.K fd ps ds) (hd : Vals dvs ds) (hx : Passes CX X E)
    (ha : PA X (e :: es) t) (hdb : (x == ("__debug__" : Str)) = false := by decide) (he : starEach (e :: es) X.env = (false, eval e X.env) :: starEach es X.env := by rfl) (hpl : (backTo pos (starEach es X.env)).any (·.1) = false := by rfl) :
    PE X (.Call (.Name x p) (e :: es) [] pos) (tMake C sp dvs E t) := by
  intro pins s σ H Q I h
  refine wpAny_Call_Name_kw (ld_glob I hg hm ?_ hdb)
  refine PySem.W.callWith_K (h₀ := X.base) I.ok.mod.kin M.kp (thn (ha pos pins s σ H _ I h) fun us s1 ⟨vs, H1, I1, r, q⟩ => ⟨I1.kIn, ?_⟩) he hpl
  exact run_make M F hr hb hd hx I1 r q
theorem pe_make0 (M : Mk X.K C f) (F : FnOk X.prog X.w X.K X.mg X.base CX k f fd ps sp) (hr : Room (k + 1) X.A) (hg : Gl X x) (hm : X.mg x = some (.ref C)) (hb : Binds X.K fd ps ds) (hd : Vals dvs ds) (hx : Passes CX X E)
    (hdb : (x == ("__debug__" : Str)) = false := by decide) : PE X (.Call (.Name x p) [] [] pos) (tMake C sp dvs E tNil) := by
  intro pins s σ H Q I h
  refine wpAny_Call_Name_kw (ld_glob I hg hm ?_ hdb)
  exact PySem.W.callWith_K0 I.kIn M.kp (run_make (us := []) M F hr hb hd hx I .nil h)
end

/-! ### keywords -/
/-- the values of the keywords, from the left -/
def PK (X : Cx) (kws : List Keyword) (t : TA) : Prop :=
  ∀ (pos : Pos) (pins : List (Addr × Obj)) (s : Shared) (σ : St) (H : Hp) (Q : List V → Hp → Prop), Inv X pins σ H s → t σ H Q → wpAny (model X.prog X.w) X.A (evalAll ((backToKw pos (keywordEach kws X.env)).map (·.2))) (AP X pins σ Q) X.xe s
section
variable {X : Cx} {CX : CXT} {k : Nat} {f C : Addr} {fd : FuncData} {ps ks : List Str} {sp : Sp} {E : XK} {x m : Str} {p pos apos kpos : Pos} {e o : Expr} {es : List Expr} {kws : List Keyword} {te ta : TE} {t tk : TA} {nm : Option Str}
theorem pk_nil : PK X [] tNil := fun _ _ _ _ H Q I h => wpAny_evalAll_nil ⟨[], H, I, .nil, h⟩
theorem pk_cons (ha : PE X e te) (hr : PK X kws t) : PK X (⟨nm, e, kpos⟩ :: kws) (tCons te t) := by
  intro pos pins s σ H Q I h
  show wpAny _ _ (evalAll ((do let v ← eval e X.env; standAt pos; pure v) :: (backToKw pos (keywordEach kws X.env)).map (·.2))) _ _ s
  refine wpAny_evalAll_cons (wpAny_bind (thn (ha pins s σ H _ I h) fun u s1 ⟨x, H1, I1, r1, q1⟩ => wpAny_bind (wpAny_standAt (wpAny_pure ?_))))
  exact thn (hr pos pins s1 σ H1 _ I1 q1) fun us s2 ⟨xs, H2, I2, r2, q2⟩ => ⟨x :: xs, H2, I2, .cons r1 r2, q2⟩

/-- how a call with keywords binds: g puts the positional values us and the keywords' values ws (names ks) in the parameters' order, defaults among them -/
structure KBinds (K : PySem.W.Frag) (fd : FuncData) (ps ks : List Str) (g : List Value → List Value → List Value) (gV : List V → List V → List V) : Prop where
  to : ∀ (s : Shared) (us ws : List Value), K.In s.heap → (g us ws).length = ps.length → BindsTo s fd ⟨us, ks.zip ws⟩ (ps.zip (g us ws))
  rel : ∀ {vs : List V} {us : List Value} {zs : List V} {ws : List Value}, Vals vs us → Vals zs ws → Vals (gV vs zs) (g us ws)
def tCallK (sp : Sp) (gV : List V → List V → List V) (E : XK) (t tk : TA) : TE := fun σ H Q => t σ H fun vs H1 => tk σ H1 fun zs H2 => sp (gV vs zs) H2 Q E
variable {g : List Value → List Value → List Value} {gV : List V → List V → List V}
theorem run_fnk {pins : List (Addr × Obj)} {σ : St} {H : Hp} {s : Shared} {Q : VK} {us ws : List Value} {vs zs : List V} (F : FnOk X.prog X.w X.K X.mg X.base CX k f fd ps sp) (hr : Room k X.A) (hb : KBinds X.K fd ps ks g gV) (hx : Passes CX X E)
    (I : Inv X pins σ H s) (r : Vals vs us) (rz : Vals zs ws) (h : sp (gV vs zs) H Q E) : wpAny (model X.prog X.w) X.A (call (.ref f) us (ks.zip ws)) (EP X pins σ Q) X.xe s := by
  have r2 := hb.rel r rz
  have hl : (g us ws).length = ps.length := by rw [← r2.length]; exact F.len _ _ _ _ h
  refine wpAny_call (codeAny_mono (F.run X.A X.stack s H ⟨us, ks.zip ws⟩ (g us ws) (gV vs zs) Q E hr I.env0 (hb.to s us ws I.kIn hl) r2 h) fun r s' hq => ?_)
  cases r with
  | error e => exact hx pins σ H s e s' I hq
  | ok fl =>
    cases fl with
    | ret u => exact I.after hq
    | next => exact False.elim hq
    | brk => exact False.elim hq
    | cont => exact False.elim hq
/-- f(e, .., k = v, ..) -/
theorem pe_callK (F : FnOk X.prog X.w X.K X.mg X.base CX k f fd ps sp) (hr : Room k X.A) (hg : Gl X x) (hm : X.mg x = some (.ref f)) (hk : PySem.W.keepIn X.K (.ref f) = true) (hb : KBinds X.K fd ps ks g gV) (hx : Passes CX X E)
    (ha : PA X (e :: es) t) (hkw : PK X kws tk) (hall : (backToKw pos (keywordEach kws X.env)).all (·.1.isSome) = true := by rfl) (hks : (backToKw pos (keywordEach kws X.env)).filterMap (·.1) = ks := by rfl)
    (hdb : (x == ("__debug__" : Str)) = false := by decide) (he : starEach (e :: es) X.env = (false, eval e X.env) :: starEach es X.env := by rfl)
    (hpl : ((backTo pos (starEach (e :: es) X.env)).any (·.1) || (backToKw pos (keywordEach kws X.env)).any (·.1.isNone)) = false := by rfl) :
    PE X (.Call (.Name x p) (e :: es) kws pos) (tCallK sp gV E t tk) := by
  intro pins s σ H Q I h
  refine wpAny_Call_Name_kw (ld_glob I hg hm ?_ hdb)
  refine PySem.W.callWith_KW (h₀ := X.base) I.ok.mod.kin hk hall (thn (ha pos pins s σ H _ I h) fun us s1 ⟨vs, H1, I1, r, q⟩ => ?_) hpl he
  refine thn (hkw pos pins s1 σ H1 _ I1 q) fun ws s2 ⟨zs, H2, I2, rz, q2⟩ => ⟨I2.kIn, ?_⟩
  rw [hks]
  exact run_fnk F hr hb hx I2 r rz q2
end

/-! ### a def's body keeps its promise -/
/-- names: the parameters first -/
structure FnScope (N P : List Str) (sc : Scope) : Prop where
  kind : sc.kind = .function
  co : sc.isCoroutine = false
  gen : sc.isGenerator = false
  nd : N.Nodup
  pre : N.take P.length = P
  par : ∀ x ∈ P, sc.names.lookup x = some .local ∨ sc.names.lookup x = some .cell
  nofree : ∀ y ∈ sc.names, y.2 ≠ .free

theorem bindL_out {kindOf : Str → Option NameKind} {x : Str} : ∀ {binds : List (Str × Value)} {m : Str → Option Value}, (∀ v, (x, v) ∉ binds) → bindL kindOf binds m x = m x
  | [], _, _ => rfl
  | (n, v) :: r, m, h => by
    unfold bindL
    rw [bindL_out fun w hw => h w (List.mem_cons_of_mem _ hw)]
    split
    · have : x ≠ n := by rintro rfl; exact h v List.mem_cons_self
      simp [this]
    · rfl
theorem bindC_out {kindOf : Str → Option NameKind} {x : Str} : ∀ {binds : List (Str × Value)} {m : Str → Option Value}, (∀ v, (x, v) ∉ binds) → bindC kindOf binds m x = m x
  | [], _, _ => rfl
  | (n, v) :: r, m, h => by
    unfold bindC
    rw [bindC_out fun w hw => h w (List.mem_cons_of_mem _ hw)]
    split
    · rfl
    · have : x ≠ n := by rintro rfl; exact h v List.mem_cons_self
      simp [this]
theorem bindL_get {kindOf : Str → Option NameKind} {x : Str} {v : Value} : ∀ {P : List Str} {vs : List Value} {i : Nat} {m : Str → Option Value}, P.Nodup → P[i]? = some x → vs[i]? = some v → kindOf x = some .local →
    bindL kindOf (P.zip vs) m x = some v
  | [], _, _, _, _, h, _, _ => by simp at h
  | _ :: _, [], _, _, _, _, h, _ => by simp at h
  | p :: P, w :: vs, 0, m, nd, h1, h2, hk => by
    simp at h1 h2; subst h1; subst h2
    show bindL kindOf ((p, w) :: P.zip vs) m p = _
    unfold bindL
    rw [bindL_out fun v hv => (List.nodup_cons.mp nd).1 (List.of_mem_zip hv).1, if_pos hk]
    simp
  | p :: P, w :: vs, i + 1, m, nd, h1, h2, hk => by
    show bindL kindOf ((p, w) :: P.zip vs) m x = _
    unfold bindL
    exact bindL_get (i := i) (List.nodup_cons.mp nd).2 (by simpa using h1) (by simpa using h2) hk
theorem bindC_get {kindOf : Str → Option NameKind} {x : Str} {v : Value} : ∀ {P : List Str} {vs : List Value} {i : Nat} {m : Str → Option Value}, P.Nodup → P[i]? = some x → vs[i]? = some v → kindOf x ≠ some .local →
    bindC kindOf (P.zip vs) m x = some v
  | [], _, _, _, _, h, _, _ => by simp at h
  | _ :: _, [], _, _, _, _, h, _ => by simp at h
  | p :: P, w :: vs, 0, m, nd, h1, h2, hk => by
    simp at h1 h2; subst h1; subst h2
    show bindC kindOf ((p, w) :: P.zip vs) m p = _
    unfold bindC
    rw [bindC_out fun v hv => (List.nodup_cons.mp nd).1 (List.of_mem_zip hv).1, if_neg hk]
    simp
  | p :: P, w :: vs, i + 1, m, nd, h1, h2, hk => by
    show bindC kindOf ((p, w) :: P.zip vs) m x = _
    unfold bindC
    exact bindC_get (i := i) (List.nodup_cons.mp nd).2 (by simpa using h1) (by simpa using h2) hk

/-- the names' values at the entry -/
def start (N : List Str) (vs : List V) : St := vs.map some ++ List.replicate (N.length - vs.length) none

/-- the context of a def's body, at its entry; an exception leaves the frame, then lies as CX says -/
def cxOf (CX : CXT) (P : Program) (w : World) (K : PySem.W.Frag) (mg : Str → Option Value) (base : Heap) (N : List Str) (qual : Str) (scope : Scope) (f : Addr) (cd : Value) (A : Around) (outer : List Env) (s : Shared) (H : Hp) (E : XK) : Cx where
  prog := P
  w := w
  K := K
  mg := mg
  base := base
  A := A.deeper (envOfC qual scope s.heap.objs.size f cd)
  N := N
  s₀ := s
  H₀ := H
  env := envOfC qual scope s.heap.objs.size f cd
  outer := outer
  stack := envOfC qual scope s.heap.objs.size f cd :: outer
  ex := []
  calm := true
  fn := fun _ => true
  pn := []
  xe := fun e s' => wpAny (model P w) (A.deeper (envOfC qual scope s.heap.objs.size f cd)) (leaving (envOfC qual scope s.heap.objs.size f cd) e) (fun _ s'' => CX outer H s E e s'') (fun e' s'' => CX outer H s E e' s'') s'

theorem cell_has {sc : Scope} {n : Nat} {x : Str} (h : sc.names.lookup x = some .cell) : ∃ c, (cellsFrom n sc.names []).lookup x = some c := by
  have q := PySem.W.cellsFrom_some sc.names n [] (.inl h)
  exact Option.isSome_iff_exists.mp q

theorem inv_start {CX : CXT} {P : Program} {w : World} {K : PySem.W.Frag} {mg : Str → Option Value} {base : Heap} {N ps : List Str} {qual : Str} {scope : Scope} {f : Addr} {cd : Value} {A : Around} {outer : List Env} {s s1 : Shared} {H : Hp} {E : XK} {us : List Value} {vs : List V}
    (S : FnScope N ps scope) (hd : A.handled = none) (e0 : Env0 P w K mg base A outer s H) (hl : vs.length = ps.length) (r : Vals vs us)
    (x : InCallC s s.heap.objs.size (bindL (envOfC qual scope s.heap.objs.size f cd).kindOf (ps.zip us) fun _ => none) (cellsFrom (s.heap.objs.size + 1) scope.names []) (bindC (envOfC qual scope s.heap.objs.size f cd).kindOf (ps.zip us) fun _ => none) s1) :
    Inv (cxOf CX P w K mg base N qual scope f cd A outer s H E) [] (start N vs) H s1 := by
  have hpl : ps.length ≤ N.length := by have := congrArg List.length S.pre; rw [List.length_take] at this; omega
  obtain ⟨h1, tk, rfl, hk⟩ := x.done
  have noA : ∀ b : Addr, b ∉ (cxOf CX P w K mg base N qual scope f cd A outer s H E).ex := fun b z => absurd (show b ∈ ([] : List Addr) from z) (by simp)
  refine ⟨⟨e0.mod, S.kind, rfl, rfl, Nat.le_refl _, fun y z c h1 h2 => ?_, fun y hy => ?_, fun y c _ h => ?_, fun _ => hd, Around.frames_deeper e0.frames, .inr ⟨rfl, rfl⟩, fun b z => absurd z (noA b), e0.bs, e0.bsz, fun b _ _ => noA b, fun b z => absurd z (noA b), e0.funs, e0.frf⟩,
    rfl, e0.bare, Un.kept hk, ⟨_, x.toInCall.ns, fun i y v h1 h2 h3 => ?_⟩, fun y c h => ⟨_, x.cell y c h⟩, e0.hok.fresh (Nat.le_refl _), fun y c h => ?_, fun p hp => absurd (show p ∈ ([] : List (Addr × Obj)) from hp) (by simp), e0.hok.kept hk, ?_⟩
  · exact name_of_addr x.apart (PySem.mem_of_lookup h1) (PySem.mem_of_lookup h2)
  · have hy : scope.names.lookup y = some .cell ∨ scope.names.lookup y = some .free := hy
    rcases hy with hy | hy
    · exact cell_has hy
    · exact absurd rfl (S.nofree _ (PySem.mem_of_lookup hy))
  · exact Nat.le_of_lt (x.above y c (PySem.mem_of_lookup h))
  · have hi : i < vs.length := by
      unfold start at h2
      by_cases hi : i < vs.length
      · exact hi
      · rw [List.getElem?_append_right (by simpa using hi)] at h2
        rw [List.getElem?_replicate] at h2
        split at h2 <;> cases h2
    have ha : vs[i]? = some v := by
      unfold start at h2
      rw [List.getElem?_append_left (by simpa using hi), List.getElem?_map] at h2
      cases e : vs[i]? with
      | none => rw [e] at h2; cases h2
      | some a => rw [e] at h2; cases h2; rfl
    obtain ⟨u, hu, rv⟩ := r.get ha
    have hp : ps[i]? = some y := by
      rw [← S.pre, List.getElem?_take_of_lt (by omega)]; exact h1
    have ndP : ps.Nodup := by rw [← S.pre]; exact S.nd.sublist (List.take_sublist _ _)
    refine ⟨u, rv, ?_⟩
    rcases S.par y (List.mem_of_getElem? hp) with k | k
    · exact .inl ⟨k, bindL_get ndP hp hu k⟩
    · obtain ⟨c, e⟩ := cell_has (n := s.heap.objs.size + 1) k
      refine .inr ⟨.inl k, c, e, ?_⟩
      have q := x.cell y c e
      rw [bindC_get ndP hp hu (by show scope.names.lookup y ≠ _; rw [k]; decide)] at q
      exact q
  · exact e0.hok.fresh (Nat.le_of_lt (x.above y c (PySem.mem_of_lookup h)))
  · unfold start
    show _ = N.length
    rw [List.length_append, List.length_map, List.length_replicate]
    omega

/-- THE RULE: a def (or a method) of the text, by its body. The body's reading t is chosen for each entry; it is run at the parameters' values -/
theorem fn_of {CX : CXT} {P : Program} {w : World} {K : PySem.W.Frag} {mg : Str → Option Value} {base : Heap} {k : Nat} {f : Addr} {name qual : Str} {params : Arguments} {body : List Stmt} {scope : Scope} {dV kV doc pm cdv ct oc : Value} {an od : Option Addr}
    {osl : Array (Option Value)} {N ps : List Str} {sp : Sp} (lk : K.lookup f = some ⟨oc, od, .func (PySem.W.fnOf name qual params body scope dV kV doc pm an cdv ct), osl⟩) (hcd : PySem.W.codeIn K cdv qual = true) (S : FnScope N ps scope)
    (len : ∀ vs H Q E, sp vs H Q E → vs.length = ps.length)
    (hbody : ∀ (A : Around) (outer : List Env) (s : Shared) (H : Hp) (vs : List V) (Q : VK) (E : XK), Room k (A.deeper (envOfC qual scope s.heap.objs.size f cdv)) → sp vs H Q E →
      ∃ t, PSs (cxOf CX P w K mg base N qual scope f cdv A outer s H E) body t ∧ t { nx := fun _ H' => Q .non H', rt := Q } (start N vs) H) :
    FnOk P w K mg base CX (k + 1) f (PySem.W.fnOf name qual params body scope dV kV doc pm an cdv ct) ps sp := by
  refine ⟨len, fun A outer s H args us vs Q E hr e0 hb r hsp => ?_⟩
  have hl := len _ _ _ _ hsp
  have KX : K.In s.heap := e0.mod.kin.keeps fun b o e => (e0.bs b o e).1
  have lim : s.heap.NoLimit := e0.mod.nolimit.keeps fun b o e => (e0.bs b o e).1
  have hkind : ∀ y ∈ ps.zip us, scope.names.lookup y.1 = some .local ∨ (scope.names.lookup y.1 = some .cell ∧ ((cellsFrom (s.heap.objs.size + 1) scope.names []).lookup y.1).isSome = true) := fun ⟨n, v⟩ hy => by
    rcases S.par n (List.of_mem_zip hy).1 with q | q
    · exact .inl q
    · exact .inr ⟨q, PySem.W.cellsFrom_some _ _ _ (.inl q)⟩
  refine codeAny_call_function hr.depth (KX _ _ lk) rfl S.co S.gen rfl (PySem.W.codeRec_of KX hcd) (hb _ _ _ _ ?_)
  refine wpAny_newFunctionEnv_cells S.kind hkind fun env he s1 x => ?_
  subst he
  refine ⟨lim.keeps x.toInCall.keep, codeAny_func ?_⟩
  obtain ⟨t, ht, hq⟩ := hbody A outer s H vs Q E (hr.deeper _) hsp
  have I : Inv (cxOf CX P w K mg base N qual scope f cdv A outer s H E) [] (start N vs) H s1 := inv_start S hr.hd e0 hl r x
  refine wpAny_mono (ht [] s1 (start N vs) H _ I hq) (fun fl s' hs => ?_) fun e s' hs => hs
  have fin : ∀ {σ' : St} {H' : Hp} {v : V} {u : Value}, Inv (cxOf CX P w K mg base N qual scope f cdv A outer s H E) [] σ' H' s' → RelV v u → Q v H' → CE outer P w H s Q u s' :=
    fun {σ' H' v u} J rv q => ⟨v, H', J.os, J.bare, J.base, J.hok, rv, q⟩
  cases fl with
  | ret u =>
    obtain ⟨v, σ', H', J, rv, q⟩ := hs
    exact fin J rv q
  | next =>
    obtain ⟨σ', H', J, q⟩ := hs
    exact fin (v := V.non) (u := Value.none) J rfl q
  | brk =>
    obtain ⟨_, _, _, q⟩ := hs
    exact False.elim q
  | cont =>
    obtain ⟨_, _, _, q⟩ := hs
    exact False.elim q
end L2

namespace L2
open PySem PySem.Spec PyProof.Rows
section
variable {X : Cx} {x : Str} {p pos : Pos} {e : Expr} {es : List Expr} {t : TA} {id T : String} {r : List V → Hp → VK → Prop}

def tCB (r : List V → Hp → VK → Prop) (t : TA) : TE := fun σ H Q => t σ H fun vs H1 => r vs H1 Q
/-- f(e, ..), f a built-in function -/
theorem pe_callB (hc : CallR X (.builtin id) r) (hg : Gl X x) (hm : X.mg x = none) (hv : bootBuiltins x = some (.builtin id)) (ha : PA X (e :: es) t) (hn : x ≠ "__name__" := by decide) (hdb : (x == ("__debug__" : Str)) = false := by decide)
    (he : starEach (e :: es) X.env = (false, eval e X.env) :: starEach es X.env := by rfl) (hpl : (backTo pos (starEach es X.env)).any (·.1) = false := by rfl) : PE X (.Call (.Name x p) (e :: es) [] pos) (tCB r t) := by
  intro pins s σ H Q I h
  refine wpAny_Call_Name_kw (ld_blt I hg hm hv ?_ hn hdb)
  exact PyProof.Rows.callWith_builtin1 (thn (ha pos pins s σ H _ I h) fun us s1 ⟨vs, H1, I1, r1, q1⟩ => hc pins s1 σ H1 vs us Q I1 r1 q1) he hpl
/-- T(e, ..), T a built-in type -/
theorem pe_callTy (hc : CallR X (.type T) r) (hg : Gl X x) (hm : X.mg x = none) (hv : bootBuiltins x = some (.type T)) (ha : PA X (e :: es) t) (hn : x ≠ "__name__" := by decide) (hdb : (x == ("__debug__" : Str)) = false := by decide)
    (he : starEach (e :: es) X.env = (false, eval e X.env) :: starEach es X.env := by rfl) (hpl : (backTo pos (starEach es X.env)).any (·.1) = false := by rfl) : PE X (.Call (.Name x p) (e :: es) [] pos) (tCB r t) := by
  intro pins s σ H Q I h
  refine wpAny_Call_Name_kw (ld_blt I hg hm hv ?_ hn hdb)
  exact PyProof.Rows.callWith_type1 (thn (ha pos pins s σ H _ I h) fun us s1 ⟨vs, H1, I1, r1, q1⟩ => hc pins s1 σ H1 vs us Q I1 r1 q1) he hpl
/-- T() -/
theorem pe_callTy0 (hc : CallR X (.type T) r) (hg : Gl X x) (hm : X.mg x = none) (hv : bootBuiltins x = some (.type T)) (hn : x ≠ "__name__" := by decide) (hdb : (x == ("__debug__" : Str)) = false := by decide) :
    PE X (.Call (.Name x p) [] [] pos) (tCB r tNil) := by
  intro pins s σ H Q I h
  refine wpAny_Call_Name_kw (ld_blt I hg hm hv ?_ hn hdb)
  exact PyProof.Rows.callWith_type0 (hc pins s σ H [] [] Q I .nil h)
end
end L2

namespace HT
open PySem PyProof.Rows

/-- t < u of tuples of ints -/
def lexLt : List Int → List Int → Bool
  | [], [] => false
  | [], _ :: _ => true
  | _ :: _, [] => false
  | x :: xs, y :: ys => if x = y then lexLt xs ys else decide (x < y)
theorem lexLt_cons (x y : Int) (xs ys : List Int) : lexLt (x :: xs) (y :: ys) = if x = y then lexLt xs ys else decide (x < y) := rfl
theorem lexLt_nil_nil : lexLt [] [] = false := rfl
theorem lexLt_nil_cons (y : Int) (ys : List Int) : lexLt [] (y :: ys) = true := rfl
theorem lexLt_cons_nil (x : Int) (xs : List Int) : lexLt (x :: xs) [] = false := rfl

theorem eqAt_int (A : Around) (s : Shared) (a : Int) (t : Tok) (c : Int) (u : Tok) : ∃ e, SeqAt.EqAt A s (.int a t) (.int c u) e ∧ (e = true ↔ a = c) :=
  ⟨(a == c), SeqAt.EqAt.int_int a t c u, by simp⟩
theorem rcLt_int (A : Around) (s : Shared) (a : Int) (t : Tok) (c : Int) (u : Tok) (prog : Program) (w : World) (E : Value → Shared → Prop) (Q : Value → Shared → Prop) (h : Q (.bool (decide (a < c))) s) :
    wpAny (model prog w) A (richCompare .Lt (.int a t) (.int c u)) Q E s :=
  (PyProof.Rows.lt_int h : wpAny (model prog w) A (compareOp .Lt (.int a t) (.int c u)) Q E s)

section
open PySem.SeqAt
open PySem.AutoSeq1 (wpAny_loadPart')
open PySem.MeetsSeq PySem.MeetsSeq2 PySem.MeetsSeq3

theorem tuple_lt_ints (l b : Addr) (items items2 : Array Value) (n n2 : Nat) (dd dd2 : Option Addr) (sl sl2 : Array (Option Value)) (ns ms : List Int) (hi : IntsAre items.toList ns) (hj : IntsAre items2.toList ms) :
    Meets (Builtin.«tuple.__lt__» ⟨[.ref l, .ref b], []⟩)
      (fun _ R s => s.heap.get? l = some { cls := .type "tuple", dict := dd, data := .seq items n, slots := sl } ∧ s.heap.get? b = some { cls := .type "tuple", dict := dd2, data := .seq items2 n2, slots := sl2 } ∧
        R (.ok (.ret (.bool (lexLt ns ms)))) s) :=
  .of_wp fun prog w A R s h => by
    obtain ⟨hp, g, d, tk, os⟩ := s; obtain ⟨hl, hb, h⟩ := h
    have f2 := AutoSeq1.sub_tuple_tuple
    have z1 : items.size = ns.length := by rw [← hi.length]; simp
    have z2 : items2.size = ms.length := by rw [← hj.length]; simp
    wp_walk using wpAny_loadPart' hl, wpAny_loadPart' hb, wpAny_forIn_list _ (fun rest b s' => b.1 = none ∧ s' = ⟨hp, g, d, tk, os⟩ ∧ ∃ (vs ws : List Value) (ns' ms' : List Int), rest = vs.zip ws ∧
      IntsAre vs ns' ∧ IntsAre ws ms' ∧ ns'.length + items2.size = ms'.length + items.size ∧ R (.ok (.ret (.bool (lexLt ns' ms')))) ⟨hp, g, d, tk, os⟩) _
    case turn =>
      rintro ⟨y, x⟩ rest b s' ⟨hb', rfl, vs, ws, ns', ms', hz, hvi, hwi, hlen, hR⟩
      cases hvi with
      | nil => rw [List.zip_nil_left] at hz; cases hz
      | cons a t hvi' =>
        cases hwi with
        | nil => rw [List.zip_nil_right] at hz; cases hz
        | cons c u hwi' =>
          rw [List.zip_cons_cons] at hz
          injection hz with hyx hrest
          injection hyx with hy hx
          subst hy hx
          rw [lexLt_cons] at hR
          simp only [List.length_cons] at hlen
          obtain ⟨e, he, hiff⟩ := eqAt_int A.in1 ⟨hp, g, d, tk, os⟩ a t c u
          refine wpAny_bind (he prog w _ _ ?_)
          cases e with
          | true =>
            rw [if_pos (hiff.mp rfl)] at hR
            wp_walk
            exact ⟨rfl, rfl, _, _, _, _, hrest, hvi', hwi', by omega, hR⟩
          | false =>
            rw [if_neg (fun q => absurd (hiff.mpr q) Bool.false_ne_true)] at hR
            have hri := rcLt_int A.in1 ⟨hp, g, d, tk, os⟩ a t c u prog w
            wp_walk using hri
            exact ⟨_, rfl, by simpa using hR⟩
    case fin =>
      rintro ⟨b1, b2⟩ s' ⟨hb', rfl, vs, ws, ns', ms', hz, hvi, hwi, hlen, hR⟩
      simp only at hb'
      subst hb'
      have hv : lexLt ns' ms' = decide (items.size < items2.size) := by
        cases hvi with
        | nil =>
          cases hwi with
          | nil =>
            simp only [List.length_nil] at hlen
            rw [lexLt_nil_nil]
            exact (decide_eq_false (by omega)).symm
          | cons c u hw =>
            simp only [List.length_nil, List.length_cons] at hlen
            rw [lexLt_nil_cons]
            exact (decide_eq_true (by omega)).symm
        | cons a t hv =>
          cases hwi with
          | nil =>
            simp only [List.length_nil, List.length_cons] at hlen
            rw [lexLt_cons_nil]
            exact (decide_eq_false (by omega)).symm
          | cons c u hw =>
            rw [List.zip_cons_cons] at hz
            cases hz
      rw [hv] at hR
      wp_walk
      exact ⟨_, rfl, by simpa [Builtin.Tuple.tupleCompareSizes] using hR⟩
    case h =>
      exact ⟨rfl, rfl, items.toList, items2.toList, ns, ms, rfl, hi, hj, by omega, h⟩
end

section
variable {prog : Program} {w : World} {A : Around} {E : Value → Shared → Prop} {s : Shared}

theorem lt_tupInts {l b : Addr} {items items2 : Array Value} {ns ms : List Int} {Q : Value → Shared → Prop} (hl : IsTup s.heap l items) (hb : IsTup s.heap b items2) (hi : IntsAre items.toList ns) (hj : IntsAre items2.toList ms)
    (hu : A.units < cLine) (h : Q (.bool (lexLt ns ms)) s) : wpAny (model prog w) A (compareOp .Lt (.ref l) (.ref b)) Q E s := by
  obtain ⟨⟨cls, dd, data, sl⟩, ho, hc, n, hd⟩ := id hl
  obtain ⟨⟨cls2, dd2, data2, sl2⟩, ho2, hc2, n2, hd2⟩ := id hb
  simp only at hc hd hc2 hd2
  subst hc hd hc2 hd2
  exact richCompare_meets_room (op := .Lt) ⟨_, ho, rfl⟩ ⟨_, ho2, rfl⟩ PySem.F.slot_tuple_lt PySem.F.entry_tuple_lt (PySem.F.args_tuple_lt_2 _ _) (tuple_lt_ints l b items items2 n n2 dd dd2 sl sl2 ns ms hi hj)
    ⟨ho, ho2, show Value.bool (lexLt ns ms) ≠ Value.notImplemented ∧ Q (.bool (lexLt ns ms)) s from ⟨(fun x => nomatch x), h⟩⟩ hu

/-- t + u, t not empty -/
theorem cat_tup {t b : Addr} {vs ws : List Value} {Q : Value → Shared → Prop} (ht : IsTup s.heap t vs.toArray) (hb : IsTup s.heap b ws.toArray) (hv : vs ≠ [])
    (h1 : ws = [] → Q (.ref t) s) (h2 : ws ≠ [] → Q (.ref s.heap.objs.size) { s with heap := s.heap.push { cls := .type "tuple", data := .seq (vs ++ ws).toArray } })
    (hsz : vs.length + ws.length ≤ sizeLine) : wpAny (model prog w) A (binaryOp .Add (.ref t) (.ref b)) Q E s := by
  obtain ⟨⟨cls, dd, data, sl⟩, ho, hc, n, hd⟩ := id ht
  obtain ⟨⟨cls2, dd2, data2, sl2⟩, ho2, hc2, n2, hd2⟩ := id hb
  simp only at hc hd hc2 hd2
  subst hc hd hc2 hd2
  have e : vs.toArray ++ ws.toArray = (vs ++ ws).toArray := by simp
  by_cases hw : ws = []
  · exact concat_meets ⟨_, ho, rfl⟩ ⟨_, ho2, rfl⟩ noFill_tuple_add seq_tuple_add PySem.F.slot_tuple_add PySem.F.entry_tuple_add (PySem.F.args_tuple_add_2 _ _)
      (tuple_addW1 t b vs.toArray ws.toArray n n2 dd dd2 sl sl2 (by simpa using hv) (by simp [hw])) ⟨ho, ho2, h1 hw⟩
  · refine concat_meets ⟨_, ho, rfl⟩ ⟨_, ho2, rfl⟩ noFill_tuple_add seq_tuple_add PySem.F.slot_tuple_add PySem.F.entry_tuple_add (PySem.F.args_tuple_add_2 _ _)
      (tuple_addW2 t b vs.toArray ws.toArray n n2 dd dd2 sl sl2 (by simpa using hv) (by simpa using hw) (by rw [List.size_toArray, List.size_toArray]; exact hsz)) ⟨ho, ho2, ?_⟩
    rw [e]
    exact h2 hw

/-! ### t[a:b], not the whole -/
/-- a slice's bound as a place among n (d where it is left out) -/
def sIx (n d : Nat) : Option Int → Nat
  | none => d
  | some v => if v < 0 then (v + (n : Int)).toNat else min v.toNat n
theorem sIx_none (n d : Nat) : sIx n d none = d := rfl
theorem sIx_nat (n d k : Nat) : sIx n d (some (k : Int)) = min k n := by
  show (if (k : Int) < 0 then ((k : Int) + (n : Int)).toNat else min (k : Int).toNat n) = min k n
  rw [if_neg (by omega), Int.toNat_natCast]
theorem sIx_le (n d : Nat) (hd : d ≤ n) (o : Option Int) : sIx n d o ≤ n := by
  cases o with
  | none => exact hd
  | some v =>
    show (if v < 0 then (v + (n : Int)).toNat else min v.toNat n) ≤ n
    by_cases hv : v < 0
    · rw [if_pos hv]; omega
    · rw [if_neg hv]; exact Nat.min_le_right _ _
theorem clip_eq (v : Int) (n d : Nat) : (if v < 0 then max (v + (n : Int)) 0 else min v (n : Int)) = ((sIx n d (some v) : Nat) : Int) := by
  show (if v < 0 then max (v + (n : Int)) 0 else min v (n : Int)) = (((if v < 0 then (v + (n : Int)).toNat else min v.toNat n) : Nat) : Int)
  by_cases hv : v < 0
  · simp only [if_pos hv]; omega
  · simp only [if_neg hv]; omega
theorem adjust_gen (lo hi : Option Int) (n : Nat) : Builtin.Slice.sliceAdjust lo hi 1 (n : Int) = (((sIx n 0 lo : Nat) : Int), ((sIx n n hi : Nat) : Int)) := by
  have h1 : ¬ ((1 : Int) < 0) := by omega
  unfold Builtin.Slice.sliceAdjust
  simp only [h1, if_false]
  refine Prod.ext ?_ ?_
  · cases lo with
    | none => rfl
    | some v => exact clip_eq v n 0
  · cases hi with
    | none => rfl
    | some v => exact clip_eq v n n
theorem places_gen (i j : Nat) : Builtin.Slice.slicePlaces (i : Int) (j : Int) 1 = j - i := by
  unfold Builtin.Slice.slicePlaces
  have h1 : (1 : Int) > 0 := by omega
  simp only [h1, if_true, Int.ediv_one]
  split <;> omega
theorem slicePart_ {v : Value} {o : Option Int} {Q : Option Int → Shared → Prop} (p : IsPart v o) (h : Q o s) : wpAny (model prog w) A (Builtin.Slice.slicePartIndex v) Q E s := by
  cases p with
  | none => exact slicePart_none h
  | int i t => exact slicePart_int h
theorem sliceApplied_gen {sl : Addr} {vl vu : Value} {lo hi : Option Int} {n : Nat} {Q : Int × Int × Nat → Shared → Prop} (hs : s.heap.IsSliceOf sl vl vu .none) (pl : IsPart vl lo) (pu : IsPart vu hi)
    (h : Q (((sIx n 0 lo : Nat) : Int), 1, sIx n n hi - sIx n 0 lo) s) : wpAny (model prog w) A (Builtin.Slice.sliceApplied (.ref sl) (pure (n : Int))) Q E s := by
  obtain ⟨os, hos, hcs, hds⟩ := id hs
  unfold Builtin.Slice.sliceApplied Builtin.Slice.sliceFields
  refine wpAny_bind (wpAny_bind (wpAny_field hos hds (x := vl) rfl (wpAny_bind (wpAny_field hos hds (x := vu) rfl (wpAny_bind (wpAny_field hos hds (x := .none) rfl (wpAny_pure ?_)))))))
  refine wpAny_bind (slicePart_none ?_)
  show wpAny _ _ (if ((1 : Int) == 0) = true then _ else _) _ _ s
  rw [if_neg (by decide)]
  refine wpAny_bind (slicePart_ pl (wpAny_bind (slicePart_ pu (wpAny_bind (wpAny_pure ?_)))))
  show wpAny _ _ (match Builtin.Slice.sliceAdjust lo hi 1 (n : Int) with | (lo, hi) => pure (lo, (1 : Int), Builtin.Slice.slicePlaces lo hi 1)) _ _ s
  rw [adjust_gen lo hi n]
  show wpAny _ _ (pure (((sIx n 0 lo : Nat) : Int), (1 : Int), Builtin.Slice.slicePlaces ((sIx n 0 lo : Nat) : Int) ((sIx n n hi : Nat) : Int) 1)) _ _ s
  rw [places_gen]
  exact wpAny_pure h
theorem pick_gen (xs : Array Value) (i k : Nat) : ((List.range k).filterMap fun (m : Nat) => xs[((i : Int) + (m : Int) * 1).toNat]?).toArray = ((xs.toList.drop i).take k).toArray := by
  have e : (fun (m : Nat) => xs[((i : Int) + (m : Int) * 1).toNat]?) = fun m => xs[i + m]? := by
    funext m
    have : ((i : Int) + (m : Int) * 1).toNat = i + m := by omega
    rw [this]
  rw [e]
  have := pick_run xs i k
  rw [List.filterMap_map] at this
  have e2 : ((fun x => xs[x]?) ∘ fun x => i + x) = fun m => xs[i + m]? := rfl
  rw [e2] at this
  rw [this]

theorem getItem_tuple_cut {t sl : Addr} {items : Array Value} {vl vu : Value} {lo hi : Option Int} {Q : Value → Shared → Prop} (ht : IsTup s.heap t items) (hs : s.heap.IsSliceOf sl vl vu .none) (pl : IsPart vl lo) (pu : IsPart vu hi)
    (hw : ¬ (sIx items.size 0 lo = 0 ∧ sIx items.size items.size hi = items.size))
    (h : Q (.ref s.heap.objs.size) { s with heap := s.heap.push { cls := .type "tuple", data := .seq ((items.toList.drop (sIx items.size 0 lo)).take (sIx items.size items.size hi - sIx items.size 0 lo)).toArray } })
    (hsz : items.size ≤ sizeLine) : wpAny (model prog w) A (getItem (.ref t) (.ref sl)) Q E s := by
  have htake : sizeOk (.seq ((items.toList.drop (sIx items.size 0 lo)).take (sIx items.size items.size hi - sIx items.size 0 lo)).toArray) := by
    show ((items.toList.drop (sIx items.size 0 lo)).take (sIx items.size items.size hi - sIx items.size 0 lo)).toArray.size ≤ sizeLine
    rw [List.size_toArray, List.length_take, List.length_drop, Array.length_toList]
    omega
  have hj : sIx items.size items.size hi ≤ items.size := sIx_le _ _ (Nat.le_refl _) hi
  obtain ⟨os, hos, hcs, hds⟩ := id hs
  have hTs : s.TypeIs (.ref sl) "slice" := ⟨os, hos, hcs⟩
  unfold getItem
  try with_reducible refine wpAny_holding ?_
  first | refine wpAny_bind (wpAny_pure ?_) | skip
  refine wpAny_bind (wpAny_sequenceKey ht.typeIs (by decide) ?_)
  refine wpAny_bind (wpAny_callSpecial?_slot (name := Str.ofString "__getitem__") ht.typeIs PyProof.Rows.slot_tuple_getitem
    (wpAny_call_entry PyProof.Rows.slot_tuple_getitem ht.typeIs entry_tuple_getitem ?_ (args_tuple_getitem _ _)))
  show wpAny _ _ (Builtin.Tuple.tupleItemsOf (.ref t) >>= _) _ _ s
  refine wpAny_bind (tupleItemsOf_ ht ?_)
  refine wpAny_bind (wpAny_typeOf hTs ?_)
  rw [if_pos (by decide)]
  refine wpAny_bind (sliceApplied_gen hs pl pu ?_)
  have hno : ¬ ((((sIx items.size 0 lo : Nat) : Int) == 0 && (1 : Int) == 1 && (sIx items.size items.size hi - sIx items.size 0 lo) == items.size) = true) := by
    intro q
    rw [Bool.and_eq_true, Bool.and_eq_true] at q
    have q1 : ((sIx items.size 0 lo : Nat) : Int) = 0 := eq_of_beq q.1.1
    have q2 : sIx items.size items.size hi - sIx items.size 0 lo = items.size := eq_of_beq q.2
    exact hw ⟨by omega, by omega⟩
  show wpAny _ _ (if (((sIx items.size 0 lo : Nat) : Int) == 0 && (1 : Int) == 1 && (sIx items.size items.size hi - sIx items.size 0 lo) == items.size) = true then _ else _) _ _ s
  rw [if_neg hno, pick_gen]
  first
    | exact wpAny_bind (m := Builtin.Tuple.tupleExact _) (wpAny_newObj_type (wpAny_pure ⟨_, rfl, wpAny_pure h⟩) htake)
    | exact wpAny_bind (m := Builtin.Tuple.tupleExact _) (wpAny_newObj_type (wpAny_bind (wpAny_pure (wpAny_pure ⟨_, rfl, wpAny_pure h⟩))) htake)
    | exact wpAny_bind (wpAny_bind (m := Builtin.Tuple.tupleExact _) (wpAny_newObj_type (wpAny_pure (wpAny_pure ⟨_, rfl, wpAny_pure h⟩)) htake))
    | exact wpAny_bind (wpAny_bind (m := Builtin.Tuple.tupleExact _) (wpAny_newObj_type (wpAny_pure ⟨_, rfl, wpAny_pure h⟩) htake))
end
end HT

namespace L2
open PySem PySem.Spec PyProof.Rows

/-! ### the parts of a slice -/
abbrev TO := St → Hp → (Option Int → Hp → Prop) → Prop
/-- a slice's part (left out, or an int) -/
def PO (X : Cx) (e : Option Expr) (t : TO) : Prop :=
  ∀ (pins : List (Addr × Obj)) (s : Shared) (σ : St) (H : Hp) (Q : Option Int → Hp → Prop), Inv X pins σ H s → t σ H Q →
    wpAny (model X.prog X.w) X.A (evalPart e X.env) (fun u s' => ∃ o H', Inv X pins σ H' s' ∧ IsPart u o ∧ Q o H') X.xe s
def tNoPart : TO := fun _ H Q => Q none H
def tPart (t : TE) : TO := fun σ H Q => t σ H fun x H1 => ∃ i, x = .int i ∧ Q (some i) H1

theorem intsAre_of {ns : List Int} : ∀ {us : List Value}, Vals (ns.map V.int) us → IntsAre us ns := by
  induction ns with
  | nil => intro us r; rw [List.map_nil] at r; cases r; exact .nil
  | cons n ns ih =>
    intro us r
    rw [List.map_cons] at r
    cases r with
    | cons r1 r2 =>
      obtain ⟨t, e⟩ := r1
      subst e
      exact .cons n t (ih r2)

section
variable {X : Cx} {e : Expr} {te : TE} {lo hi : Option Expr} {tl th : TO} {pos p2 : Pos}

theorem po_none : PO X none tNoPart := by
  intro pins s σ H Q I h
  rw [evalPart_none]
  exact wpAny_pure ⟨none, H, I, .none, h⟩
theorem po_some (h : PE X e te) : PO X (some e) (tPart te) := by
  intro pins s σ H Q I hw
  rw [evalPart_some]
  refine thn (h pins s σ H _ I hw) fun u s1 ⟨x, H1, I1, r1, q1⟩ => ?_
  obtain ⟨i, rfl, q⟩ := q1
  obtain ⟨t, rfl⟩ := r1
  exact ⟨some i, H1, I1, .int i t, q⟩

/-- what a slice of a value is, by values: the slice object stands at sl -/
def SlR (X : Cx) (r : V → Option Int → Option Int → Hp → VK → Prop) : Prop :=
  ∀ (pins : List (Addr × Obj)) (s : Shared) (σ : St) (H : Hp) (x : V) (v vl vu : Value) (lo hi : Option Int) (sl : Addr) (Q : VK), Inv X pins σ H s → RelV x v → s.heap.IsSliceOf sl vl vu .none → IsPart vl lo → IsPart vu hi → r x lo hi H Q →
    ∃ T id, typeLookup (.type T) "__getitem__" = pure (some (.builtin id)) ∧ s.TypeIs v T ∧ wpAny (model X.prog X.w) X.A (getItem v (.ref sl)) (EP X pins σ Q) X.xe s
theorem SlR.or {r r' : V → Option Int → Option Int → Hp → VK → Prop} (h : SlR X r) (h' : SlR X r') : SlR X (fun x lo hi H Q => r x lo hi H Q ∨ r' x lo hi H Q) := by
  intro pins s σ H x v vl vu lo hi sl Q I rx hs pl pu q
  rcases q with q | q
  · exact h pins s σ H x v vl vu lo hi sl Q I rx hs pl pu q
  · exact h' pins s σ H x v vl vu lo hi sl Q I rx hs pl pu q
def tSl (r : V → Option Int → Option Int → Hp → VK → Prop) (te : TE) (tl th : TO) : TE := fun σ H Q => te σ H fun x H1 => tl σ H1 fun l H2 => th σ H2 fun u H3 => r x l u H3 Q
/-- a[lo:hi], any a -/
theorem pe_slice {r : V → Option Int → Option Int → Hp → VK → Prop} (hr : SlR X r) (he : PE X e te) (hl : PO X lo tl) (hu : PO X hi th) : PE X (.Subscript e (.Slice lo hi none p2) pos) (tSl r te tl th) := by
  intro pins s σ H Q I h
  refine Subscript_ (thn (he pins s σ H _ I h) fun v s1 ⟨x, H1, I1, r1, q1⟩ => ?_)
  refine wpAny_Slice (thn (hl pins s1 σ H1 _ I1 q1) fun vl s2 ⟨l, H2, I2, pl, q2⟩ => thn (hu pins s2 σ H2 _ I2 q2) fun vu s3 ⟨u, H3, I3, pu, q3⟩ => ?_)
  rw [evalPart_none]
  refine wpAny_pure ?_
  have I4 : Inv X pins σ H3 { s3 with heap := s3.heap.push { cls := .type "slice", data := .fields #[vl, vu, .none] } } := I3.kept (t' := s3.toks) fun b ob q => Heap.get?_push_of_some _ q
  obtain ⟨T, id, hT, ht, hg⟩ := hr pins { s3 with heap := s3.heap.push { cls := .type "slice", data := .fields #[vl, vu, .none] } } σ H3 x v vl vu l u s3.heap.objs.size Q I4 r1 (Heap.IsSliceOf.new ..) pl pu q3
  show wpAny (model X.prog X.w) X.A (subscriptTail e (.Slice lo hi none p2) v (.ref s3.heap.objs.size)) (EP X pins σ Q) X.xe { s3 with heap := s3.heap.push { cls := .type "slice", data := .fields #[vl, vu, .none] } }
  exact tail_any (ops := [.ref s3.heap.objs.size, v]) ht hT hg (by with_unfolding_all rfl)

/-- the items of xs[lo:hi] -/
def cutV (xs : List V) (lo hi : Option Int) : List V := (xs.drop (HT.sIx xs.length 0 lo)).take (HT.sIx xs.length xs.length hi - HT.sIx xs.length 0 lo)
theorem cutV_length (xs : List V) (lo hi : Option Int) : (cutV xs lo hi).length ≤ xs.length := by
  unfold cutV
  rw [List.length_take, List.length_drop]
  omega
/-- t[lo:hi], not the whole of it (the whole would be t itself) -/
def rSlT (K : PySem.W.Frag) : V → Option Int → Option Int → Hp → VK → Prop := fun x lo hi H Q => ∃ a xs, x = .ref a ∧ SqT K H a xs ∧
  ¬ (HT.sIx xs.length 0 lo = 0 ∧ HT.sIx xs.length xs.length hi = xs.length) ∧ ∀ p, H p = none → Q (.ref p) (upd H p (.tup (cutV xs lo hi)))
theorem sl_tup : SlR X (rSlT X.K) := by
  intro pins s σ H x v vl vu lo hi sl Q I rx hs pl pu h
  obtain ⟨a, xs, rfl, hx, hw, q⟩ := h
  cases rx
  obtain ⟨its, r, ht, hz⟩ := I.tuple hx
  have hlen : its.toArray.size = xs.length := by rw [List.size_toArray]; exact r.length.symm
  refine ⟨"tuple", _, PyProof.Rows.slot_tuple_getitem.lookup, ht.typeIs, ?_⟩
  refine HT.getItem_tuple_cut ht hs pl pu (by rw [hlen]; exact hw) ?_ (by rw [hlen]; exact hz)
  rw [hlen]
  refine ⟨.ref s.heap.objs.size, _, I.laid (t' := s.toks) (o := .tup (cutV xs lo hi)) (fun b ob q => Heap.get?_push_of_some _ q) (Nat.le_refl _) ?_, rfl, q _ (I.hok.fresh (Nat.le_refl _))⟩
  exact ⟨Nat.le_trans (cutV_length xs lo hi) hz, _, (r.drop (HT.sIx xs.length 0 lo)).take (HT.sIx xs.length xs.length hi - HT.sIx xs.length 0 lo), IsTup.new _ _⟩

/-! ### t < u, t + u -/
def rLtT (K : PySem.W.Frag) : R2 := fun x y H Q => ∃ a b ns ms, x = .ref a ∧ y = .ref b ∧ SqT K H a (ns.map V.int) ∧ SqT K H b (ms.map V.int) ∧ Q (.bl (HT.lexLt ns ms)) H
theorem op_ltT (hu : X.A.units < cLine) : OpR X (compareOp .Lt) (rLtT X.K) := by
  intro pins s σ H x y v u Q I rx ry h
  obtain ⟨a, b, ns, ms, rfl, rfl, ha, hb, q⟩ := h
  cases rx
  cases ry
  obtain ⟨its, r1, p1, _⟩ := I.tuple ha
  obtain ⟨its2, r2, p2, _⟩ := I.tuple hb
  have i1 : IntsAre its.toArray.toList ns := intsAre_of r1
  have i2 : IntsAre its2.toArray.toList ms := intsAre_of r2
  exact HT.lt_tupInts p1 p2 i1 i2 hu ⟨.bl (HT.lexLt ns ms), H, I, rfl, q⟩
/-- t + u, t not empty: u empty gives t itself -/
def rCatT (K : PySem.W.Frag) : R2 := fun x y H Q => ∃ a b xs ys, x = .ref a ∧ y = .ref b ∧ SqT K H a xs ∧ SqT K H b ys ∧ xs ≠ [] ∧ xs.length + ys.length ≤ sizeLine ∧
  (ys = [] → Q (.ref a) H) ∧ (ys ≠ [] → ∀ p, H p = none → Q (.ref p) (upd H p (.tup (xs ++ ys))))
theorem Vals.nil_iff {xs : List V} {us : List Value} (r : Vals xs us) : us = [] ↔ xs = [] := by
  cases r with
  | nil => simp
  | cons _ _ => simp
theorem op_catT : OpR X (binaryOp .Add) (rCatT X.K) := by
  intro pins s σ H x y v u Q I rx ry h
  obtain ⟨a, b, xs, ys, rfl, rfl, ha, hb, hx, hz, q1, q2⟩ := h
  cases rx
  cases ry
  obtain ⟨its, r1, p1, _⟩ := I.tuple ha
  obtain ⟨its2, r2, p2, _⟩ := I.tuple hb
  refine HT.cat_tup p1 p2 (fun z => hx (r1.nil_iff.mp z)) (fun z => ⟨.ref a, H, I, rfl, q1 (r2.nil_iff.mp z)⟩) (fun z => ?_) (by rw [← r1.length, ← r2.length]; exact hz)
  refine ⟨.ref s.heap.objs.size, _, I.laid (t' := s.toks) (o := .tup (xs ++ ys)) (fun b ob q => Heap.get?_push_of_some _ q) (Nat.le_refl _) ?_, rfl, q2 (fun w => z (r2.nil_iff.mpr w)) _ (I.hok.fresh (Nat.le_refl _))⟩
  exact ⟨by rw [List.length_append]; exact hz, _, r1.append r2, IsTup.new _ _⟩
/-- tuple(t) -/
theorem call_tupleT : CallR X (.type "tuple") (fun xs H Q => ∃ a ys, xs = [.ref a] ∧ SqT X.K H a ys ∧ Q (.ref a) H) := by
  intro pins s σ H xs us Q I r h
  obtain ⟨a, ys, rfl, ha, q⟩ := h
  obtain ⟨u, rfl, ru⟩ := vals1 r
  cases ru
  obtain ⟨its, _, p1, _⟩ := I.tuple ha
  exact call_tuple_same (items := its.toArray) p1 ⟨.ref a, H, I, rfl, q⟩
end
end L2

namespace L2
open PySem PySem.Spec PyProof.Rows

/-! ### places -/
/-- the place that an index of any sign means -/
def ixN (n : Nat) (i : Int) : Option Nat := if 0 ≤ i then (if i < n then some i.toNat else none) else if -(n : Int) ≤ i then some (i + n).toNat else none
def atI {α : Type} (xs : List α) (i : Int) : Option α := (ixN xs.length i).bind fun j => xs[j]?
theorem ixN_seq {n : Nat} {i : Int} {j : Nat} (h : ixN n i = some j) : seqIndex? i n = some j ∧ j < n ∧ -(n : Int) ≤ i ∧ i < n := by
  unfold ixN at h
  by_cases h0 : 0 ≤ i
  · rw [if_pos h0] at h
    by_cases h1 : i < n
    · rw [if_pos h1] at h
      have e : i.toNat = j := Option.some.inj h
      exact ⟨by rw [seqIndex_of h0 h1, e], by omega, by omega, h1⟩
    · rw [if_neg h1] at h; cases h
  · rw [if_neg h0] at h
    by_cases h1 : -(n : Int) ≤ i
    · rw [if_pos h1] at h
      have e : (i + n).toNat = j := Option.some.inj h
      exact ⟨by rw [seqIndex_neg (by omega) h1, e], by omega, h1, by omega⟩
    · rw [if_neg h1] at h; cases h
theorem atI_get {α : Type} {xs : List α} {i : Int} {v : α} (h : atI xs i = some v) : ∃ j, seqIndex? i xs.length = some j ∧ xs[j]? = some v ∧ j < xs.length ∧ -(xs.length : Int) ≤ i ∧ i < xs.length := by
  unfold atI at h
  cases e : ixN xs.length i with
  | none => rw [e] at h; cases h
  | some j =>
    rw [e] at h
    obtain ⟨h1, h2, h3, h4⟩ := ixN_seq e
    exact ⟨j, h1, h, h2, h3, h4⟩
theorem atI_nat {α : Type} {xs : List α} {j : Nat} {v : α} (h : xs[j]? = some v) : atI xs (j : Int) = some v := by
  have hj : j < xs.length := (List.getElem?_eq_some_iff.mp h).1
  have e : ixN xs.length (j : Int) = some j := by
    unfold ixN
    rw [if_pos (by omega), if_pos (by omega)]; simp
  unfold atI; rw [e]; exact h
theorem atI_last {α : Type} (xs : List α) (v : α) : atI (xs ++ [v]) (-1) = some v := by
  have hl : (xs ++ [v]).length = xs.length + 1 := by simp
  have e : ixN (xs ++ [v]).length (-1) = some xs.length := by
    unfold ixN
    rw [hl, if_neg (by decide), if_pos (by omega)]
    congr 1
    omega
  unfold atI
  rw [e]
  show (xs ++ [v])[xs.length]? = some v
  simp

/-! ### what may be subscripted -/
/-- what stands as an index of a plain subscript -/
def PlainIx (b : Expr) : Prop := ∀ o i, subscripted b false o i = operate [o, i] (getItem o i)
/-- a subscript by values -/
def IxR (X : Cx) (r : R2) : Prop :=
  ∀ (value slice : Expr) (pins : List (Addr × Obj)) (s : Shared) (σ : St) (H : Hp) (x y : V) (v u : Value) (Q : VK), Inv X pins σ H s → RelV x v → RelV y u → r x y H Q →
    subscripted slice false v u = operate [v, u] (getItem v u) → wpAny (model X.prog X.w) X.A (subscriptTail value slice v u) (EP X pins σ Q) X.xe s
/-- a call of a builtin's method by values: the receiver, the arguments -/
def MtR (X : Cx) (id : String) (r : V → List V → Hp → VK → Prop) : Prop :=
  ∀ (pins : List (Addr × Obj)) (s : Shared) (σ : St) (H : Hp) (x : V) (xs : List V) (v : Value) (us : List Value) (Q : VK), Inv X pins σ H s → RelV x v → Vals xs us → r x xs H Q →
    wpAny (model X.prog X.w) X.A (call (.builtin id) (v :: us)) (EP X pins σ Q) X.xe s
section
variable {X : Cx} {a b : Expr} {ta tb : TE} {pos : Pos}
theorem IxR.or {r r' : R2} (h : IxR X r) (h' : IxR X r') : IxR X (fun x y H Q => r x y H Q ∨ r' x y H Q) := by
  intro value slice pins s σ H x y v u Q I rx ry q hs
  rcases q with q | q
  · exact h value slice pins s σ H x y v u Q I rx ry q hs
  · exact h' value slice pins s σ H x y v u Q I rx ry q hs
theorem MtR.or {id : String} {r r' : V → List V → Hp → VK → Prop} (h : MtR X id r) (h' : MtR X id r') : MtR X id (fun x xs H Q => r x xs H Q ∨ r' x xs H Q) := by
  intro pins s σ H x xs v us Q I rx rs q
  rcases q with q | q
  · exact h pins s σ H x xs v us Q I rx rs q
  · exact h' pins s σ H x xs v us Q I rx rs q
/-- a[b] -/
theorem pe_ix {r : R2} (hr : IxR X r) (ha : PE X a ta) (hb : PE X b tb) (hs : PlainIx b) : PE X (.Subscript a b pos) (tOp r ta tb) := by
  intro pins s σ H Q I h
  exact Subscript_ (binT ha hb I h fun v u s2 x y H2 I2 rx ry q => hr a b pins s2 σ H2 x y v u Q I2 rx ry q (hs _ _))

def rIxL (K : PySem.W.Frag) : R2 := fun x y H Q => ∃ p xs i v, x = .ref p ∧ y = .int i ∧ SqL K H p xs ∧ atI xs i = some v ∧ Q v H
def rIxT (K : PySem.W.Frag) : R2 := fun x y H Q => ∃ p xs i v, x = .ref p ∧ y = .int i ∧ SqT K H p xs ∧ atI xs i = some v ∧ Q v H
def rIxS : R2 := fun x y H Q => ∃ z i c, x = .str z ∧ y = .int i ∧ z.length ≤ sizeLine ∧ atI z.cps.toList i = some c ∧ Q (.str ⟨#[c]⟩) H
theorem ix_list : IxR X (rIxL X.K) := by
  intro value slice pins s σ H x y v u Q I rx ry h hs
  obtain ⟨p, xs, i, z, rfl, rfl, hq, he, q⟩ := h
  cases rx
  obtain ⟨t, rfl⟩ := ry
  obtain ⟨its, r, pl, hz⟩ := I.list hq
  obtain ⟨j, h1, h2, h3, h4, h5⟩ := atI_get he
  obtain ⟨w, ew, rw'⟩ := r.get h2
  have hl := r.length
  have hn := line63
  have fin : EP X pins σ Q w s := ⟨z, H, I, rw', q⟩
  by_cases h0 : 0 ≤ i
  · have hj : i.toNat = j := by
      rw [seqIndex_of h0 h5] at h1
      exact Option.some.inj h1
    exact item_listR pl.isList h0 (by omega) (by rw [hj]; simpa using ew) fin hs
  · have hj : (i + (its.toArray.size : Int)).toNat = j := by
      rw [seqIndex_neg (by omega) h4] at h1
      rw [List.size_toArray, ← hl]
      exact Option.some.inj h1
    exact subscriptTail_builtinR (x := w) pl.isList.typeIs slot_list_getitem.lookup
      (wpAny_getItem_list_neg (Q := fun r s' => r = w ∧ EP X pins σ Q r s') pl.isList (by omega) (by rw [List.size_toArray] <;> omega) (by omega) (by rw [hj]; simpa using ew) ⟨rfl, fin⟩) hs
theorem ix_tup : IxR X (rIxT X.K) := by
  intro value slice pins s σ H x y v u Q I rx ry h hs
  obtain ⟨p, xs, i, z, rfl, rfl, hq, he, q⟩ := h
  cases rx
  obtain ⟨t, rfl⟩ := ry
  obtain ⟨its, r, pl, hz⟩ := I.tuple hq
  obtain ⟨j, h1, h2, h3, h4, h5⟩ := atI_get he
  obtain ⟨w, ew, rw'⟩ := r.get h2
  have hl := r.length
  have hn := line63
  have fin : EP X pins σ Q w s := ⟨z, H, I, rw', q⟩
  exact subscriptTail_builtinR (x := w) pl.typeIs slot_tuple_getitem.lookup
    (getItem_tuple (j := j) (Q := fun r s' => r = w ∧ EP X pins σ Q r s') pl (by omega) (by omega) (by rw [List.size_toArray, ← hl]; exact h1) (by simpa using ew) ⟨rfl, fin⟩) hs
theorem ix_str : IxR X rIxS := by
  intro value slice pins s σ H x y v u Q I rx ry h hs
  obtain ⟨z, i, c, rfl, rfl, hz, he, q⟩ := h
  obtain ⟨t, rfl⟩ := rx
  obtain ⟨t', rfl⟩ := ry
  obtain ⟨j, h1, h2, h3, h4, h5⟩ := atI_get he
  have hl : z.cps.toList.length = z.length := by simp [Str.length]
  rw [hl] at h1 h4 h5
  have hn := line63
  exact tail_any (typeIs_str s z t) slot_str_getitem.lookup (getItem_str (c := c) (by
    have e1 : decide (i < -(2 ^ 63 : Int)) = false := decide_eq_false (by omega)
    have e2 : decide (i ≥ 2 ^ 63) = false := decide_eq_false (by omega)
    rw [e1, e2, Bool.or_false]) (by rw [h1]; simpa using h2) ⟨.str ⟨#[c]⟩, H, I.tok _, ⟨_, rfl⟩, q⟩) hs
/-- list, tuple or str -/
def rIx (K : PySem.W.Frag) : R2 := fun x y H Q => rIxL K x y H Q ∨ rIxT K x y H Q ∨ rIxS x y H Q
theorem ix_seq : IxR X (rIx X.K) := ix_list.or (ix_tup.or ix_str)

/-! ### xs[i] = v, any sign -/
/-- the list's object behind a store -/
theorem mapSeq_set (its : List Value) (n j : Nat) (u : Value) : Obj.mapSeq (·.setIfInBounds j u) { cls := .type "list", data := .seq its.toArray n } = { cls := .type "list", data := .seq (its.set j u).toArray n } := by
  simp [Obj.mapSeq]
theorem Inv.lst {pins : List (Addr × Obj)} {σ : St} {H : Hp} {s : Shared} {p : Addr} {xs : List V} (I : Inv X pins σ H s) (h : H p = some (.lst xs)) :
    ∃ (its : List Value) (n : Nat), Vals xs its ∧ s.heap.get? p = some { cls := .type "list", data := .seq its.toArray n } ∧ xs.length ≤ sizeLine := by
  obtain ⟨z, its, n, r, e⟩ := I.hok p _ h
  exact ⟨its, n, r, e, z⟩
/-- the list at p is written by an update of its object -/
theorem Inv.lstUpd {pins : List (Addr × Obj)} {σ : St} {H : Hp} {s : Shared} {p : Addr} {xs ys : List V} {its its' : List Value} {n n' : Nat} {f : Obj → Obj} (I : Inv X pins σ H s) (h : H p = some (.lst xs))
    (ho : s.heap.get? p = some { cls := .type "list", data := .seq its.toArray n }) (hf : f { cls := .type "list", data := .seq its.toArray n } = { cls := .type "list", data := .seq its'.toArray n' }) (r : Vals ys its') (hz : ys.length ≤ sizeLine) (t : Nat) :
    Inv X pins σ (upd H p (.lst ys)) { s with heap := s.heap.update p f, toks := t } := by
  have e : (s.heap.update p f).get? p = some { cls := .type "list", data := .seq its'.toArray n' } := by
    rw [Heap.get?_update_self f ho (by rw [hf] <;> rfl), hf]
  refine I.write (x := p) (e := p) (by rw [h]; trivial) (.inl rfl) (fun b u hb q => (Heap.get?_update_other _ _ (Ne.symm hb)).trans q) ⟨_, e⟩ ?_
  exact ⟨hz, its', n', r, e⟩
def rSetL : V → V → V → Hp → (Hp → Prop) → Prop := fun o i v H Q => ∃ p xs k j, o = .ref p ∧ i = .int k ∧ H p = some (.lst xs) ∧ ixN xs.length k = some j ∧ Q (upd H p (.lst (xs.set j v)))
theorem set_list : PSet X rSetL := by
  intro pins s σ H o i v ov iv u Q I ro ri rv h
  obtain ⟨p, xs, k, j, rfl, rfl, hp, hj, q⟩ := h
  cases ro
  obtain ⟨t, rfl⟩ := ri
  obtain ⟨its, n, r, ho, hz⟩ := I.lst hp
  obtain ⟨h1, h2, h3, h4⟩ := ixN_seq hj
  have hl := r.length
  have hn := line63
  have I' : Inv X pins σ (upd H p (.lst (xs.set j v))) { s with heap := s.heap.update p (Obj.mapSeq (·.setIfInBounds j u)) } :=
    I.lstUpd hp ho (mapSeq_set its n j u) (r.set rv j) (by rw [List.length_set]; exact hz) s.toks
  by_cases h0 : 0 ≤ k
  · have hk : k.toNat = j := by
      rw [seqIndex_of h0 h4] at h1
      exact Option.some.inj h1
    exact PySem.W.ki_setAt ho h0 (by omega) (by rw [List.size_toArray, ← hl]; exact h4) (by rw [hk]; exact ⟨_, I', q⟩)
  · have hk : (k + (its.toArray.size : Int)).toNat = j := by
      rw [seqIndex_neg (by omega) h3] at h1
      rw [List.size_toArray, ← hl]
      exact Option.some.inj h1
    exact PySem.W.ki_setBack ho (by omega) (by rw [List.size_toArray, ← hl]; exact h3) (by omega) (by rw [hk]; exact ⟨_, I', q⟩)

/-! ### slices -/
theorem slice_bounds (lo hi : Option Int) (n : Nat) : (sliceBounds lo hi none n).1 = ((HT.sIx n 0 lo : Nat) : Int) ∧ (sliceBounds lo hi none n).2.1 = ((HT.sIx n n hi : Nat) : Int) ∧ (sliceBounds lo hi none n).2.2 = 1 := by
  refine ⟨?_, ?_, rfl⟩
  · cases lo with
    | none => simp [sliceBounds, HT.sIx]
    | some i =>
      simp only [sliceBounds, HT.sIx, Option.getD_none, show (1 : Int) > 0 by decide, if_true]
      by_cases h : i < 0
      · simp only [h, if_true] <;> omega
      · simp only [h, if_false] <;> omega
  · cases hi with
    | none => simp [sliceBounds, HT.sIx]
    | some i =>
      simp only [sliceBounds, HT.sIx, Option.getD_none, show (1 : Int) > 0 by decide, if_true]
      by_cases h : i < 0
      · simp only [h, if_true] <;> omega
      · simp only [h, if_false] <;> omega
theorem slicePick_cut (its : List Value) (lo hi : Option Int) : slicePick its.toArray lo hi none = ((its.drop (HT.sIx its.length 0 lo)).take (HT.sIx its.length its.length hi - HT.sIx its.length 0 lo)).toArray := by
  obtain ⟨h1, h2, h3⟩ := slice_bounds lo hi its.toArray.size
  unfold slicePick
  rw [h1, h2, h3]
  simp only [sliceRange_one, pick_run, List.size_toArray] <;> rfl
/-- xs[lo:hi] of a list: a new list -/
def rSlL (K : PySem.W.Frag) : V → Option Int → Option Int → Hp → VK → Prop := fun x lo hi H Q => ∃ a xs, x = .ref a ∧ SqL K H a xs ∧ ∀ p, H p = none → Q (.ref p) (upd H p (.lst (cutV xs lo hi)))
theorem sl_list : SlR X (rSlL X.K) := by
  intro pins s σ H x v vl vu lo hi sl Q I rx hs pl pu h
  obtain ⟨a, xs, rfl, hx, q⟩ := h
  cases rx
  obtain ⟨its, r, ht, hz⟩ := I.list hx
  have hlen := r.length
  refine ⟨"list", _, slot_list_getitem.lookup, ht.isList.typeIs, ?_⟩
  refine wpAny_getItem_list_slice ht.isList hs pl pu .none (by simp) ?_ (by rw [List.size_toArray] <;> omega)
  rw [slicePick_cut, ← hlen]
  refine ⟨.ref s.heap.objs.size, _, I.laid (t' := s.toks) (o := .lst (cutV xs lo hi)) (fun b ob q => Heap.get?_push_of_some _ q) (Nat.le_refl _) ?_, rfl, q _ (I.hok.fresh (Nat.le_refl _))⟩
  exact ⟨Nat.le_trans (cutV_length xs lo hi) hz, _, 0, (r.drop (HT.sIx xs.length 0 lo)).take (HT.sIx xs.length xs.length hi - HT.sIx xs.length 0 lo), Heap.get?_push_size _ rfl⟩

/-! ### in, not in: flat items -/
def flatV : V → Bool
  | .non => true
  | .bl _ => true
  | .int _ => true
  | .str _ => true
  | _ => false
/-- == of flat values -/
def eqV : V → V → Bool
  | .non, .non => true
  | .bl a, .bl b => a == b
  | .bl a, .int b => (if a then 1 else 0) == b
  | .int a, .bl b => a == (if b then 1 else 0)
  | .int a, .int b => a == b
  | .str a, .str b => a == b
  | _, _ => false
theorem eqAt_V {A : Around} {s : Shared} {y x : V} {u v : Value} (ry : RelV y u) (rx : RelV x v) (fy : flatV y = true) (fx : flatV x = true) : SeqAt.EqAt A s u v (eqV y x) := by
  cases y with
  | non =>
    cases ry
    cases x with
    | non => cases rx; exact SeqAt.EqAt.same _
    | bl b => cases rx; exact SeqAt.EqAt.none_bool b
    | int b => obtain ⟨t, rfl⟩ := rx; exact SeqAt.EqAt.none_int b t
    | str b => obtain ⟨t, rfl⟩ := rx; exact SeqAt.EqAt.none_str b t
    | _ => exact absurd (show false = true from fx) Bool.false_ne_true
  | bl a =>
    cases ry
    cases x with
    | non => cases rx; exact SeqAt.EqAt.bool_none a
    | bl b => cases rx; exact SeqAt.EqAt.bool_bool a b
    | int b => obtain ⟨t, rfl⟩ := rx; exact SeqAt.EqAt.bool_int a b t
    | str b => obtain ⟨t, rfl⟩ := rx; exact SeqAt.EqAt.bool_str a b t
    | _ => exact absurd (show false = true from fx) Bool.false_ne_true
  | int a =>
    obtain ⟨t', rfl⟩ := ry
    cases x with
    | non => cases rx; exact SeqAt.EqAt.int_none a t'
    | bl b => cases rx; exact SeqAt.EqAt.int_bool a t' b
    | int b => obtain ⟨t, rfl⟩ := rx; exact SeqAt.EqAt.int_int a t' b t
    | str b => obtain ⟨t, rfl⟩ := rx; exact SeqAt.EqAt.int_str a t' b t
    | _ => exact absurd (show false = true from fx) Bool.false_ne_true
  | str a =>
    obtain ⟨t', rfl⟩ := ry
    cases x with
    | non => cases rx; exact SeqAt.EqAt.str_none a t'
    | bl b => cases rx; exact SeqAt.EqAt.str_bool a t' b
    | int b => obtain ⟨t, rfl⟩ := rx; exact SeqAt.EqAt.str_int a t' b t
    | str b => obtain ⟨t, rfl⟩ := rx; exact SeqAt.EqAt.str_str a t' b t
    | _ => exact absurd (show false = true from fx) Bool.false_ne_true
  | _ => exact absurd (show false = true from fy) Bool.false_ne_true
/-- the items' answers, read off the values (a value's own answer does not lean on its token) -/
def eqU (x : V) (u : Value) : Bool := match u with
  | .none => eqV .non x
  | .bool b => eqV (.bl b) x
  | .int i _ => eqV (.int i) x
  | .str z _ => eqV (.str z) x
  | _ => false
theorem eqU_of {x y : V} {u : Value} (r : RelV y u) (f : flatV y = true) : eqU x u = eqV y x := by
  cases y with
  | non => cases r; rfl
  | bl b => cases r; rfl
  | int i => obtain ⟨t, rfl⟩ := r; rfl
  | str z => obtain ⟨t, rfl⟩ := r; rfl
  | _ => exact absurd (show false = true from f) Bool.false_ne_true
theorem any_eqU {x : V} : ∀ {xs : List V} {us : List Value}, Vals xs us → xs.all flatV = true → us.any (eqU x) = xs.any fun y => eqV y x
  | _, _, .nil, _ => rfl
  | y :: xs, u :: us, .cons r t, f => by
    rw [List.all_cons, Bool.and_eq_true] at f
    rw [List.any_cons, List.any_cons, eqU_of r f.1, any_eqU t f.2]
theorem mem_eqAt {A : Around} {s : Shared} {x : V} {v : Value} (rx : RelV x v) (fx : flatV x = true) : ∀ {xs : List V} {us : List Value}, Vals xs us → xs.all flatV = true → ∀ u ∈ us, SeqAt.EqAt A s u v (eqU x u)
  | _, _, .nil, _ => fun u hu => by cases hu
  | y :: xs, u :: us, .cons r t, f => fun u' hu => by
    rw [List.all_cons, Bool.and_eq_true] at f
    rcases List.mem_cons.mp hu with rfl | hu
    · rw [eqU_of r f.1]; exact eqAt_V r rx f.1 fx
    · exact mem_eqAt rx fx t f.2 u' hu
def inV (x : V) (xs : List V) : Bool := xs.any fun y => eqV y x
/-- x in a list or tuple of flat items -/
def rIn (K : PySem.W.Frag) (neg : Bool) : R2 := fun x y H Q => ∃ p xs, y = .ref p ∧ (SqL K H p xs ∨ SqT K H p xs) ∧ flatV x = true ∧ xs.all flatV = true ∧ Q (.bl (if neg then !inV x xs else inV x xs)) H
theorem op_in_seq : OpR X (compareOp .In) (rIn X.K false) := by
  intro pins s σ H x y v u Q I rx ry h
  obtain ⟨p, xs, rfl, hq, fx, fs, q⟩ := h
  cases ry
  rcases hq with hq | hq
  · obtain ⟨its, r, pl, hz⟩ := I.list hq
    refine SeqAt.in_listAt (eqU x) pl.isList (fun w hw => mem_eqAt rx fx r fs w (by simpa using hw)) ⟨.bl _, H, I, rfl, ?_⟩
    rw [show its.toArray.any (eqU x) = its.any (eqU x) by simp, any_eqU r fs]
    exact q
  · obtain ⟨its, r, pl, hz⟩ := I.tuple hq
    refine SeqAt.in_tupleAt (eqU x) pl (fun w hw => mem_eqAt rx fx r fs w (by simpa using hw)) ⟨.bl _, H, I, rfl, ?_⟩
    rw [show its.toArray.any (eqU x) = its.any (eqU x) by simp, any_eqU r fs]
    exact q
theorem op_notIn_seq : OpR X (compareOp .NotIn) (rIn X.K true) := by
  intro pins s σ H x y v u Q I rx ry h
  obtain ⟨p, xs, rfl, hq, fx, fs, q⟩ := h
  cases ry
  rcases hq with hq | hq
  · obtain ⟨its, r, pl, hz⟩ := I.list hq
    refine SeqAt.notIn_listAt (eqU x) pl.isList (fun w hw => mem_eqAt rx fx r fs w (by simpa using hw)) ⟨.bl _, H, I, rfl, ?_⟩
    rw [show its.toArray.any (eqU x) = its.any (eqU x) by simp, any_eqU r fs]
    exact q
  · obtain ⟨its, r, pl, hz⟩ := I.tuple hq
    refine SeqAt.notIn_tupleAt (eqU x) pl (fun w hw => mem_eqAt rx fx r fs w (by simpa using hw)) ⟨.bl _, H, I, rfl, ?_⟩
    rw [show its.toArray.any (eqU x) = its.any (eqU x) by simp, any_eqU r fs]
    exact q
theorem op_notIn_str : OpR X (compareOp .NotIn) (fun x y H Q => ∃ i j, x = .str i ∧ y = .str j ∧ Q (.bl (!(!(Builtin.Str.occurrences j i 0 j.length 1).isEmpty))) H) := by
  intro pins s σ H x y v u Q I rx ry h
  obtain ⟨i, j, rfl, rfl, q⟩ := h
  obtain ⟨t, rfl⟩ := rx
  obtain ⟨t', rfl⟩ := ry
  exact notIn_str ⟨.bl _, H, I, rfl, q⟩

/-! ### len, list(x), tuple(x) of any list or tuple that is read -/
theorem call_len_seq : CallR X (.builtin "len") (fun xs H Q => ∃ p ys, xs = [.ref p] ∧ (SqL X.K H p ys ∨ SqT X.K H p ys) ∧ Q (.int ys.length) H) := by
  intro pins s σ H xs us Q I r h
  obtain ⟨p, ys, rfl, hq, q⟩ := h
  obtain ⟨u, rfl, rx⟩ := vals1 r
  cases rx
  have hn := line63
  rcases hq with hq | hq
  · obtain ⟨its, r', pl, hz⟩ := I.list hq
    have hlen := r'.length
    exact Calls.call_len_list pl.isList (by simp only [List.size_toArray] <;> omega) ⟨.int ys.length, H, I.tok _, ⟨s.toks + 1, by rw [List.size_toArray, hlen]⟩, q⟩
  · obtain ⟨its, r', pl, hz⟩ := I.tuple hq
    have hlen := r'.length
    exact len_tuple pl (by simp only [List.size_toArray] <;> omega) ⟨.int ys.length, H, I.tok _, ⟨s.toks + 1, by rw [List.size_toArray, hlen]⟩, q⟩
theorem call_len_str : CallR X (.builtin "len") (fun xs H Q => ∃ z, xs = [.str z] ∧ z.length ≤ sizeLine ∧ Q (.int z.length) H) := by
  intro pins s σ H xs us Q I r h
  obtain ⟨z, rfl, hz, q⟩ := h
  obtain ⟨u, rfl, t, rfl⟩ := vals1 r
  have hn := line63
  exact len_str (by omega) ⟨.int z.length, H, I.tok _, ⟨_, rfl⟩, q⟩
theorem CallR.or {f : Value} {r r' : List V → Hp → VK → Prop} (h : CallR X f r) (h' : CallR X f r') : CallR X f (fun xs H Q => r xs H Q ∨ r' xs H Q) := by
  intro pins s σ H xs us Q I rs q
  rcases q with q | q
  · exact h pins s σ H xs us Q I rs q
  · exact h' pins s σ H xs us Q I rs q
theorem call_list_of : CallR X (.type "list") (fun xs H Q => ∃ p ys, xs = [.ref p] ∧ (SqL X.K H p ys ∨ SqT X.K H p ys) ∧ ∀ l, H l = none → Q (.ref l) (upd H l (.lst ys))) := by
  intro pins s σ H xs us Q I r h
  obtain ⟨p, ys, rfl, hq, q⟩ := h
  obtain ⟨u, rfl, rx⟩ := vals1 r
  cases rx
  have fin : ∀ (its : List Value), Vals ys its → ys.length ≤ sizeLine → ∀ (h' : Heap) (c' : Nat), (∀ b o', s.heap.get? b = some o' → h'.get? b = some o') →
      h'.get? s.heap.objs.size = some { cls := .type "list", dict := none, data := .seq its.toArray c', slots := #[] } → EP X pins σ Q (.ref s.heap.objs.size) { s with heap := h' } := fun its r' hz h' c' kp e =>
    ⟨.ref s.heap.objs.size, _, I.laid (t' := s.toks) kp (Nat.le_refl _) (show ObjOk X.prog X.w _ h' _ (.lst ys) from ⟨hz, its, c', r', e⟩), rfl, q _ (I.hok.fresh (Nat.le_refl _))⟩
  rcases hq with hq | hq
  · obtain ⟨its, r', pl, hz⟩ := I.list hq
    have hlen := r'.length
    obtain ⟨o, ho, hc, n, hd⟩ := pl.isList
    exact call_list_seq p (.inl rfl) ho hc hd (fun h' c' kp e => fin its r' hz h' c' kp e) (by simp only [List.size_toArray] <;> omega)
  · obtain ⟨its, r', pl, hz⟩ := I.tuple hq
    have hlen := r'.length
    obtain ⟨o, ho, hc, n, hd⟩ := pl
    exact call_list_seq p (.inr rfl) ho hc hd (fun h' c' kp e => fin its r' hz h' c' kp e) (by simp only [List.size_toArray] <;> omega)
theorem call_tuple_of : CallR X (.type "tuple") (fun xs H Q => ∃ p ys, xs = [.ref p] ∧ ((SqL X.K H p ys ∧ ∀ l, H l = none → Q (.ref l) (upd H l (.tup ys))) ∨ (SqT X.K H p ys ∧ Q (.ref p) H))) := by
  intro pins s σ H xs us Q I r h
  obtain ⟨p, ys, rfl, h⟩ := h
  obtain ⟨u, rfl, rx⟩ := vals1 r
  cases rx
  rcases h with ⟨hq, q⟩ | ⟨hq, q⟩
  · obtain ⟨its, r', pl, hz⟩ := I.list hq
    have hlen := r'.length
    refine call_tuple_list pl.isList (fun h' kp => ?_) (by simp only [List.size_toArray] <;> omega)
    have I1 : Inv X pins σ H { s with heap := h' } := I.kept (t' := s.toks) kp
    have I2 : Inv X pins σ (upd H h'.objs.size (.tup ys)) { s with heap := h'.push { cls := .type "tuple", data := .seq its.toArray } } :=
      I1.laid (t' := s.toks) (fun b o e => Heap.get?_push_of_some _ e) (Nat.le_refl _) (show ObjOk X.prog X.w _ _ _ (.tup ys) from ⟨hz, its, r', IsTup.new _ _⟩)
    exact ⟨.ref h'.objs.size, _, I2, rfl, q _ (I1.hok.fresh (Nat.le_refl _))⟩
  · obtain ⟨its, r', pl, hz⟩ := I.tuple hq
    exact call_tuple_same pl ⟨.ref p, H, I, rfl, q⟩

/-! ### the call of a builtin's method: o.m(..) -/
/-- the value is of that builtin type -/
def tyV (K : PySem.W.Frag) (T : String) (x : V) (H : Hp) : Prop := match x with
  | .str _ => T = "str"
  | .int _ => T = "int"
  | .ref p => (T = "list" ∧ ∃ xs, SqL K H p xs) ∨ (T = "tuple" ∧ ∃ o, K.lookup p = some o ∧ o.cls = .type "tuple" ∧ o.dict = none) ∨
      (T = "dict" ∧ ((∃ kvs, H p = some (.dK kvs)) ∨ ∃ kvs, H p = some (.dT kvs))) ∨ (T = "set" ∧ ∃ S n, H p = some (.set S n))
  | _ => False
theorem tyV_is {pins : List (Addr × Obj)} {σ : St} {H : Hp} {s : Shared} {T : String} {x : V} {v : Value} (I : Inv X pins σ H s) (r : RelV x v) (ty : tyV X.K T x H) :
    s.TypeIs v T ∧ ∀ a, v = .ref a → ∃ ob, s.heap.get? a = some ob ∧ ob.dict = none := by
  cases x with
  | str z =>
    obtain ⟨t, rfl⟩ := r
    cases (show T = "str" from ty)
    exact ⟨typeIs_str s z t, fun _ e => nomatch e⟩
  | int i =>
    obtain ⟨t, rfl⟩ := r
    cases (show T = "int" from ty)
    exact ⟨typeIs_int s i t, fun _ e => nomatch e⟩
  | ref p =>
    cases r
    rcases ty with ⟨rfl, xs, hq⟩ | ⟨rfl, o, hk, hc, hd⟩ | ⟨rfl, hk⟩ | ⟨rfl, S, n, hk⟩
    · obtain ⟨its, _, pl, _⟩ := I.list hq
      refine ⟨pl.isList.typeIs, fun a e => ?_⟩
      cases e
      obtain ⟨o, n, e, c, hd, _⟩ := pl
      exact ⟨o, e, hd⟩
    · refine ⟨⟨o, I.kIn p o hk, hc⟩, fun a e => ?_⟩
      cases e
      exact ⟨o, I.kIn _ o hk, hd⟩
    · have z : ∃ o, s.heap.get? p = some o ∧ o.ExactDict := by
        rcases hk with ⟨kvs, hk⟩ | ⟨kvs, hk⟩
        · obtain ⟨_, _, _, _, o, _, _, e, ex, _⟩ := I.hok p _ hk
          exact ⟨o, e, ex⟩
        · obtain ⟨_, _, _, _, o, _, _, e, ex, _⟩ := I.hok p _ hk
          exact ⟨o, e, ex⟩
      obtain ⟨o, e, ex⟩ := z
      refine ⟨⟨o, e, ex.1⟩, fun a e2 => ?_⟩
      cases e2
      exact ⟨o, e, ex.2.1⟩
    · obtain ⟨o, _, _, _, e, ex, _⟩ := I.hok p _ hk
      refine ⟨⟨o, e, ex.1⟩, fun a e2 => ?_⟩
      cases e2
      exact ⟨o, e, ex.2.1⟩
  | _ => exact False.elim ty
def tBM0 (K : PySem.W.Frag) (T : String) (r : V → List V → Hp → VK → Prop) (to : TE) : TE := fun σ H Q => to σ H fun x H1 => tyV K T x H1 ∧ r x [] H1 Q
def tBM (K : PySem.W.Frag) (T : String) (r : V → List V → Hp → VK → Prop) (to : TE) (t : TA) : TE := fun σ H Q => to σ H fun x H1 => tyV K T x H1 ∧ t σ H1 fun xs H2 => r x xs H2 Q
variable {o e : Expr} {es : List Expr} {to : TE} {t : TA} {name : Str} {apos cpos : Pos} {T id : String} {r : V → List V → Hp → VK → Prop}
theorem pe_bm0 (pa : PlainAttrs T) (slot : Slot T name id) (hty : typeOf (.builtin id) = pure (.type "method_descriptor")) (hm : MtR X id r) (ho : PE X o to)
    (hbase : attributeBase o name X.env (eval o X.env) = eval o X.env := by rfl) (hline : (apos.endLine == cpos.line) = true := by rfl) : PE X (.Call (.Attribute o name apos) [] [] cpos) (tBM0 X.K T r to) := by
  intro pins s σ H Q I h
  refine wpAny_Call_method0_late hbase hline (thn (ho pins s σ H _ I h) fun v s1 ⟨x, H1, I1, r1, ty, q1⟩ => ?_)
  obtain ⟨h1, h2⟩ := tyV_is I1 r1 ty
  exact ⟨T, id, pa, slot, hty, h1, h2, Calls.callWith_builtin rfl (PySem.evalArgs_none (hm pins s1 σ H1 x [] v [] Q I1 r1 .nil q1))⟩
theorem pe_bm (pa : PlainAttrs T) (slot : Slot T name id) (hty : typeOf (.builtin id) = pure (.type "method_descriptor")) (hm : MtR X id r) (ho : PE X o to) (ha : PA X (e :: es) t)
    (hbase : attributeBase o name X.env (eval o X.env) = eval o X.env := by rfl)
    (hfew : ((backTo cpos (starEach (e :: es) X.env)).all (fun x => !x.1) && (backToKw cpos (keywordEach [] X.env)).all (fun x => x.1.isSome)
      && decide ((e :: es).length + ([] : List Keyword).length + (if ([] : List Keyword).isEmpty then 0 else 1) < 30)) = true := by rfl)
    (hline : (apos.endLine == cpos.line) = true := by rfl) (hs : starEach (e :: es) X.env = (false, eval e X.env) :: starEach es X.env := by rfl) (hplain : (backTo cpos (starEach es X.env)).any (·.1) = false := by rfl) :
    PE X (.Call (.Attribute o name apos) (e :: es) [] cpos) (tBM X.K T r to t) := by
  intro pins s σ H Q I h
  refine wpAny_Call_method_late hbase hfew hline rfl (thn (ho pins s σ H _ I h) fun v s1 ⟨x, H1, I1, r1, ty, q1⟩ => ?_)
  obtain ⟨h1, h2⟩ := tyV_is I1 r1 ty
  refine ⟨T, id, pa, slot, hty, h1, h2, ?_⟩
  have hA := ha cpos pins s1 σ H1 _ I1 q1
  rw [hs] at hA ⊢
  refine Calls.callWith_builtin (by show (false || (backTo cpos (starEach es X.env)).any (·.1)) = false; rw [hplain] <;> rfl) (Calls.evalArgs_plain ?_)
  exact thn hA fun us s2 ⟨vs, H2, I2, r2, q2⟩ => hm pins s2 σ H2 x vs v us Q I2 r1 r2 q2
/- xs.append(e), list.index on a module's tuple .. are MtR facts of 06m -/
end
end L2

namespace L2
open PySem PySem.Spec PyProof.Rows

def MtM (X : Cx) (id : String) (r : V → List V → Hp → VK → Prop) : Prop :=
  ∀ (pins : List (Addr × Obj)) (s : Shared) (σ : St) (H : Hp) (x : V) (xs : List V) (v : Value) (us : List Value) (Q : VK), Inv X pins σ H s → RelV x v → Vals xs us → r x xs H Q →
    wpAny (model X.prog X.w) X.A (call (.builtin id) (v :: us)) (EP X pins σ Q) X.xe s

/-! ### lists of values -/
theorem Vals.one : ∀ {x : V} {us : List Value}, Vals [x] us → ∃ u, us = [u] ∧ RelV x u
  | _, _, .cons r .nil => ⟨_, rfl, r⟩
theorem Vals.two : ∀ {x y : V} {us : List Value}, Vals [x, y] us → ∃ u v, us = [u, v] ∧ RelV x u ∧ RelV y v
  | _, _, _, .cons r (.cons q .nil) => ⟨_, _, rfl, r, q⟩
theorem Vals.zero : ∀ {us : List Value}, Vals [] us → us = []
  | _, .nil => rfl
theorem Vals.dropLast {xs : List V} {us : List Value} (h : Vals xs us) : Vals xs.dropLast us.dropLast := by
  induction h with
  | nil => exact .nil
  | cons r t ih =>
    cases t with
    | nil => exact .nil
    | cons q t' => exact .cons r ih
theorem Vals.eraseIdx : ∀ {xs : List V} {us : List Value} (i : Nat), Vals xs us → Vals (xs.eraseIdx i) (us.eraseIdx i)
  | _, _, _, .nil => .nil
  | _, _, 0, .cons _ t => t
  | _, _, i + 1, .cons r t => .cons r (Vals.eraseIdx i t)
theorem Vals.reverse {xs : List V} {us : List Value} (h : Vals xs us) : Vals xs.reverse us.reverse := by
  induction h with
  | nil => exact .nil
  | cons r t ih => rw [List.reverse_cons, List.reverse_cons]; exact Vals.append ih (.cons r .nil)
theorem Vals.rep {xs : List V} {us : List Value} (h : Vals xs us) : ∀ k : Nat, Vals (List.replicate k xs).flatten (List.replicate k us).flatten
  | 0 => .nil
  | k + 1 => by
    rw [List.replicate_succ, List.replicate_succ, List.flatten_cons, List.flatten_cons]
    exact Vals.append h (Vals.rep h k)
theorem erase_last {α : Type} (l : List α) : l.eraseIdx (l.length - 1) = l.dropLast := by
  induction l with
  | nil => rfl
  | cons a r ih =>
    cases r with
    | nil => rfl
    | cons b r =>
      have e : (a :: b :: r).length - 1 = ((b :: r).length - 1) + 1 := by
        have h1 : (a :: b :: r).length = r.length + 2 := rfl
        have h2 : (b :: r).length = r.length + 1 := rfl
        omega
      rw [e, List.eraseIdx_cons_succ, ih]
      all_goals rfl
theorem len_erase {α : Type} : ∀ (l : List α) (i : Nat), (l.eraseIdx i).length ≤ l.length
  | [], _ => Nat.le_refl _
  | _ :: _, 0 => Nat.le_succ _
  | _ :: r, i + 1 => Nat.succ_le_succ (len_erase r i)
theorem foldl_rep (its : List Value) : ∀ (k : Nat) (acc : List Value),
    List.foldl (fun x1 x2 => x1 ++ x2) acc.toArray (List.replicate k its.toArray) = (acc ++ (List.replicate k its).flatten).toArray
  | 0, acc => by simp
  | k + 1, acc => by
    have e : acc.toArray ++ its.toArray = (acc ++ its).toArray := by simp
    have e2 : (acc ++ its) ++ (List.replicate k its).flatten = acc ++ (List.replicate (k + 1) its).flatten := by
      rw [List.replicate_succ, List.flatten_cons, List.append_assoc]
    rw [← e2, ← foldl_rep its k (acc ++ its), ← e, List.replicate_succ, List.foldl_cons]

section
variable {X : Cx} {pins : List (Addr × Obj)} {σ : St} {H : Hp} {s : Shared} {l b : Addr} {xs ys zs : List V}

/-! ### the two steps: a tracked list is rewritten, a new list is laid -/
theorem Inv.lset {its its' : List Value} {n : Nat} {f : Array Value → Array Value} {t' : Nat} (I : Inv X pins σ H s) (hH : H l = some (.lst xs))
    (e : s.heap.get? l = some { cls := .type "list", data := .seq its.toArray n }) (hf : f its.toArray = its'.toArray) (hv : Vals ys its') (hz : ys.length ≤ sizeLine) :
    Inv X pins σ (upd H l (.lst ys)) { s with heap := s.heap.update l (Obj.mapSeq f), toks := t' } := by
  have q := PySem.IsL.update e f
  rw [hf] at q
  refine I.write (x := l) (e := l) (by rw [hH]; exact trivial) (.inl rfl) (fun b' u hb hu => (Heap.get?_update_other s.heap (Obj.mapSeq f) (Ne.symm hb)).trans hu) ⟨_, q⟩ ?_
  exact ⟨hz, its', _, hv, q⟩
theorem Inv.lnew {its : List Value} {t' : Nat} (I : Inv X pins σ H s) (hv : Vals ys its) (hz : ys.length ≤ sizeLine) :
    Inv X pins σ (upd H s.heap.objs.size (.lst ys)) { s with heap := s.heap.push { cls := .type "list", data := .seq its.toArray }, toks := t' } :=
  I.laid (fun _ _ q => Heap.get?_push_of_some _ q) (Nat.le_refl _) ⟨hz, its, 0, hv, Heap.get?_push_size _ rfl⟩
theorem Inv.fresh (I : Inv X pins σ H s) : H s.heap.objs.size = none := I.hok.fresh (Nat.le_refl _)
theorem Inv.lstM (I : Inv X pins σ H s) (hH : H l = some (.lst xs)) : xs.length ≤ sizeLine ∧ ∃ (its : List Value) (n : Nat), Vals xs its ∧ xs.length = its.length ∧ s.heap.get? l = some { cls := .type "list", data := .seq its.toArray n } := by
  obtain ⟨z, its, n, r, e⟩ := I.hok l _ hH
  exact ⟨z, its, n, r, r.length, e⟩

theorem notLongL {n : Nat} (h : n ≤ sizeLine) : Builtin.List.listTooLong n = false := by
  unfold Builtin.List.listTooLong
  exact decide_eq_false (by omega)
end

section
variable {X : Cx}

/-! ### methods -/
def rAppend : V → List V → Hp → VK → Prop := fun x vs H Q => ∃ l xs y, x = .ref l ∧ vs = [y] ∧ H l = some (.lst xs) ∧ xs.length < sizeLine ∧ Q .non (upd H l (.lst (xs ++ [y])))
theorem mt_append : MtM X "list.append" rAppend := by
  intro pins s σ H x vs v us Q I rx rv h
  obtain ⟨l, xs, y, rfl, rfl, hH, hz, q⟩ := h
  cases rx
  obtain ⟨u, rfl, ru⟩ := rv.one
  obtain ⟨z, its, n, r, hl, e⟩ := I.lstM hH
  refine call_meets F.slot_list_append ⟨_, e, rfl⟩ F.entry_list_append (F.args_list_append_2 _ _) (PySem.list_append l its.toArray n u (by rw [List.size_toArray]; omega)) ⟨e, ?_⟩
  refine ⟨.non, _, I.lset (its' := its ++ [u]) hH e (by simp) (r.append (.cons ru .nil)) ?_, rfl, q⟩
  rw [List.length_append, List.length_singleton]
  omega

def rExtend : V → List V → Hp → VK → Prop := fun x vs H Q => ∃ l b xs zs, x = .ref l ∧ vs = [.ref b] ∧ H l = some (.lst xs) ∧ H b = some (.lst zs) ∧ xs.length + zs.length ≤ sizeLine ∧ Q .non (upd H l (.lst (xs ++ zs)))
theorem mt_extend : MtM X "list.extend" rExtend := by
  intro pins s σ H x vs v us Q I rx rv h
  obtain ⟨l, b, xs, zs, rfl, rfl, hH, hB, hz, q⟩ := h
  cases rx
  obtain ⟨u, rfl, ru⟩ := rv.one
  cases ru
  obtain ⟨z, its, n, r, hl, e⟩ := I.lstM hH
  obtain ⟨z2, its2, n2, r2, hl2, e2⟩ := I.lstM hB
  have hsz : its.toArray.size + its2.toArray.size ≤ sizeLine := by rw [List.size_toArray, List.size_toArray]; omega
  have hlong : ¬ (!its.toArray.isEmpty && Builtin.List.listTooLong (its.toArray.size + its2.toArray.size)) = true := by
    rw [notLongL hsz, Bool.and_false]
    exact Bool.false_ne_true
  refine call_meets F.slot_list_extend ⟨_, e, rfl⟩ F.entry_list_extend (F.args_list_extend_2 _ _)
    (AutoSeq1.list_extend_list_list_0 l its.toArray n b its2.toArray n2 hlong (by rw [List.size_toArray]; omega) (by omega)) ⟨e, e2, ?_⟩
  refine ⟨.non, _, I.lset (its' := its ++ its2) hH e (by simp) (r.append r2) ?_, rfl, q⟩
  rw [List.length_append]
  omega

def rPop : V → List V → Hp → VK → Prop := fun x vs H Q => ∃ l xs y, x = .ref l ∧ vs = [] ∧ H l = some (.lst xs) ∧ xs[xs.length - 1]? = some y ∧ Q y (upd H l (.lst xs.dropLast))
theorem mt_pop : MtM X "list.pop" rPop := by
  intro pins s σ H x vs v us Q I rx rv h
  obtain ⟨l, xs, y, rfl, rfl, hH, hy, q⟩ := h
  cases rx
  have hus := rv.zero
  subst hus
  obtain ⟨z, its, n, r, hl, e⟩ := I.lstM hH
  obtain ⟨u, hu, ru⟩ := r.get hy
  have hy' : its.toArray[its.toArray.size - 1]? = some u := by
    show its.toArray[its.length - 1]? = some u
    rw [← Array.getElem?_toList, ← hl]
    exact hu
  refine call_meets F.slot_list_pop ⟨_, e, rfl⟩ F.entry_list_pop (F.args_list_pop_1 _) (MeetsSeq.list_pop_last l its.toArray n u hy' (by rw [List.size_toArray]; omega)) ⟨e, ?_⟩
  refine ⟨y, _, I.lset (its' := its.dropLast) hH e ?_ r.dropLast ?_, ru, q⟩
  · show its.toArray.eraseIdxIfInBounds (its.toArray.size - 1) = its.dropLast.toArray
    rw [List.size_toArray, List.eraseIdxIfInBounds_toArray, erase_last]
  · rw [List.length_dropLast]
    omega

def rPopAt : V → List V → Hp → VK → Prop := fun x vs H Q => ∃ l xs i k y, x = .ref l ∧ vs = [.int i] ∧ H l = some (.lst xs) ∧ -(2 ^ 63) ≤ i ∧ i < 2 ^ 63 ∧ seqIndex? i xs.length = some k ∧ xs[k]? = some y ∧ Q y (upd H l (.lst (xs.eraseIdx k)))
theorem mt_popAt : MtM X "list.pop" rPopAt := by
  intro pins s σ H x vs v us Q I rx rv h
  obtain ⟨l, xs, i, k, y, rfl, rfl, hH, h1, h2, hk, hy, q⟩ := h
  cases rx
  obtain ⟨u, rfl, ru⟩ := rv.one
  obtain ⟨t, rfl⟩ := ru
  obtain ⟨z, its, n, r, hl, e⟩ := I.lstM hH
  obtain ⟨w, hw, rw'⟩ := r.get hy
  refine call_meets F.slot_list_pop ⟨_, e, rfl⟩ F.entry_list_pop (F.args_list_pop_2 _ _)
    (MeetsSeq.list_pop_at l its.toArray n i t k w (fitsIndex_both h1 h2) (by rw [List.size_toArray, ← hl]; exact hk) (by rw [← Array.getElem?_toList]; exact hw) (by rw [List.size_toArray]; omega)) ⟨e, ?_⟩
  refine ⟨y, _, I.lset (its' := its.eraseIdx k) hH e ?_ (r.eraseIdx k) ?_, rw', q⟩
  · show its.toArray.eraseIdxIfInBounds k = (its.eraseIdx k).toArray
    rw [List.eraseIdxIfInBounds_toArray]
  · have := len_erase xs k
    omega

def rReverse : V → List V → Hp → VK → Prop := fun x vs H Q => ∃ l xs, x = .ref l ∧ vs = [] ∧ H l = some (.lst xs) ∧ Q .non (upd H l (.lst xs.reverse))
theorem mt_reverse : MtM X "list.reverse" rReverse := by
  intro pins s σ H x vs v us Q I rx rv h
  obtain ⟨l, xs, rfl, rfl, hH, q⟩ := h
  cases rx
  have hus := rv.zero
  subst hus
  obtain ⟨z, its, n, r, hl, e⟩ := I.lstM hH
  refine call_meets F.slot_list_reverse ⟨_, e, rfl⟩ F.entry_list_reverse (F.args_list_reverse_1 _) (AutoSeq1.list_reverse_list_0 l its.toArray n (by rw [List.size_toArray]; omega)) ⟨e, ?_⟩
  refine ⟨.non, _, I.lset (its' := its.reverse) hH e (by simp) r.reverse ?_, rfl, q⟩
  rw [List.length_reverse]
  omega

def rClear : V → List V → Hp → VK → Prop := fun x vs H Q => ∃ l xs, x = .ref l ∧ vs = [] ∧ H l = some (.lst xs) ∧ Q .non (upd H l (.lst []))
theorem mt_clear : MtM X "list.clear" rClear := by
  intro pins s σ H x vs v us Q I rx rv h
  obtain ⟨l, xs, rfl, rfl, hH, q⟩ := h
  cases rx
  have hus := rv.zero
  subst hus
  obtain ⟨z, its, n, r, hl, e⟩ := I.lstM hH
  refine call_meets F.slot_list_clear ⟨_, e, rfl⟩ F.entry_list_clear (F.args_list_clear_1 _) (AutoSeq1.list_clear_list_0 l its.toArray n (by rw [List.size_toArray]; omega)) ⟨e, ?_⟩
  exact ⟨.non, _, I.lset (its' := []) (ys := []) hH e rfl .nil (Nat.zero_le _), rfl, q⟩

/-! ### list + list, list += list, list * int -/
def rCat : R2 := fun x y H Q => ∃ l b xs zs, x = .ref l ∧ y = .ref b ∧ H l = some (.lst xs) ∧ H b = some (.lst zs) ∧ xs.length + zs.length ≤ sizeLine ∧ ∀ p, H p = none → Q (.ref p) (upd H p (.lst (xs ++ zs)))
theorem op_cat : OpR X (binaryOp .Add) rCat := by
  intro pins s σ H x y v u Q I rx ry h
  obtain ⟨l, b, xs, zs, rfl, rfl, hH, hB, hz, q⟩ := h
  cases rx
  cases ry
  obtain ⟨z, its, n, r, hl, e⟩ := I.lstM hH
  obtain ⟨z2, its2, n2, r2, hl2, e2⟩ := I.lstM hB
  refine PySem.P.add_list e e2 ?_ (by rw [List.size_toArray, List.size_toArray]; omega)
  have ea : its.toArray ++ its2.toArray = (its ++ its2).toArray := by simp
  rw [ea]
  exact ⟨.ref _, _, I.lnew (t' := s.toks) (r.append r2) (by rw [List.length_append]; omega), rfl, q _ I.fresh⟩
/-- a list times an int (a negative one is nothing) -/
def rRep : R2 := fun x y H Q => ∃ l k xs, x = .ref l ∧ y = .int k ∧ H l = some (.lst xs) ∧ -(2 ^ 63) ≤ k ∧ k < 2 ^ 63 ∧ xs.length * k.toNat ≤ sizeLine ∧
  ∀ p, H p = none → Q (.ref p) (upd H p (.lst (List.replicate k.toNat xs).flatten))
theorem len_rep {α : Type} (xs : List α) (k : Nat) : (List.replicate k xs).flatten.length = k * xs.length := by
  induction k with
  | zero => simp
  | succ k ih => rw [List.replicate_succ, List.flatten_cons, List.length_append, ih, Nat.succ_mul, Nat.add_comm]
theorem op_rep : OpR X (binaryOp .Mult) rRep := by
  intro pins s σ H x y v u Q I rx ry h
  obtain ⟨l, k, xs, rfl, rfl, hH, h1, h2, hz, q⟩ := h
  cases rx
  obtain ⟨t, rfl⟩ := ry
  obtain ⟨z, its, n, r, hl, e⟩ := I.lstM hH
  have hlen : its.toArray.size * k.toNat ≤ sizeLine := by rw [List.size_toArray, ← hl]; exact hz
  have hcap : ¬ its.toArray.size * k.toNat > (2 ^ 63 - 1) / 8 := by
    have : (sizeLine : Nat) ≤ (2 ^ 63 - 1) / 8 := by decide
    omega
  have hfit : ¬ (!Builtin.List.listFitsIndex k) = true := by
    rw [fitsIndex_both h1 h2]
    exact Bool.false_ne_true
  have hlong : ¬ Builtin.List.listTooLong (its.toArray.size * k.toNat) = true := by
    rw [notLongL hlen]
    exact Bool.false_ne_true
  have hnew : List.foldl (fun x1 x2 => x1 ++ x2) #[] (List.replicate (if its.toArray.isEmpty = true then 0 else k.toNat) its.toArray) = (List.replicate k.toNat its).flatten.toArray := by
    have f0 : ∀ m : Nat, List.foldl (fun x1 x2 => x1 ++ x2) #[] (List.replicate m its.toArray) = (List.replicate m its).flatten.toArray := fun m => by
      have := foldl_rep its m []
      rw [List.nil_append] at this
      exact this
    rw [f0]
    cases its with
    | nil => simp
    | cons a r' => rw [if_neg (by simp)]
  refine wpAny_binaryOp_repeat_ref (T := "list") (U := "int") (by decide) ⟨_, e, rfl⟩ (fun s' => typeIs_int s' k t) noFill_list_mul F.fills_int_mul F.slot_int_rmul repeat_list F.slot_int_index.lookup
    (call_meets F.slot_int_rmul (typeIs_int s k t) F.entry_int_rmul (F.args_int_rmul_2 _ _) (int___rmul___int_list k t l its.toArray n)
      ⟨e, rfl, ⟨_, e, rfl⟩, call_meets F.slot_list_mul ⟨_, e, rfl⟩ F.entry_list_mul (F.args_list_mul_2 _ _) (AutoListH.list___mul___list_int_3 l its.toArray n k t hfit hcap hlong) ⟨e, ?_⟩⟩)
  rw [hnew]
  exact ⟨.ref _, _, I.lnew (t' := s.toks) (r.rep k.toNat) (by rw [len_rep, Nat.mul_comm]; exact hz), rfl, q _ I.fresh⟩

/-! ### del xs[i] -/
theorem del_list {pins : List (Addr × Obj)} {s : Shared} {σ : St} {H : Hp} {l : Addr} {xs : List V} {i : Int} {t : Tok} {k : Nat} {Q : Unit → Shared → Prop} (I : Inv X pins σ H s) (hH : H l = some (.lst xs))
    (h1 : -(2 ^ 63) ≤ i) (h2 : i < 2 ^ 63) (hk : seqIndex? i xs.length = some k) (h : ∀ s', Inv X pins σ (upd H l (.lst (xs.eraseIdx k))) s' → Q () s') :
    wpAny (model X.prog X.w) X.A (delItem (.ref l) (.int i t)) Q X.xe s := by
  obtain ⟨z, its, n, r, hl, e⟩ := I.lstM hH
  refine PySem.P.delItem_list (k := k) e (fitsIndex_both h1 h2) (by rw [List.size_toArray, ← hl]; exact hk) (h _ ?_) (by rw [List.size_toArray]; omega)
  refine I.lset (its' := its.eraseIdx k) (t' := s.toks) hH e ?_ (r.eraseIdx k) ?_
  · show its.toArray.eraseIdxIfInBounds k = (its.eraseIdx k).toArray
    rw [List.eraseIdxIfInBounds_toArray]
  · have := len_erase xs k
    omega
end

/-! ### xs[a:b] = ys -/
section
variable {prog : Program} {w : World} {A : Around} {E : Value → Shared → Prop} {s : Shared}
theorem splice_eq (its its2 : List Value) (a c : Nat) : its.toArray.extract 0 a ++ its2.toArray ++ its.toArray.extract c its.toArray.size = (its.take a ++ its2 ++ its.drop c).toArray := by
  apply Array.toList_inj.mp
  first
    | (simp
       exact List.take_of_length_le (by simp))
    | simp [List.take_of_length_le]
    | simp
theorem bounds_run {a c n : Nat} (hac : a ≤ c) (hc : c ≤ n) : sliceBounds (some (a : Int)) (some (c : Int)) none n = ((a : Int), (c : Int), 1) := by
  simp only [sliceBounds, Option.getD_none]
  have h1 : ¬ ((a : Int) < 0) := by omega
  have h2 : ¬ ((c : Int) < 0) := by omega
  simp only [h1, h2, if_false, show (1 : Int) > 0 by decide, if_true]
  congr 1
  · omega
  · congr 1; omega
set_option maxRecDepth 100000 in
/-- list.__setitem__ with a slice of step one and another list -/
theorem setItem_slice {l b sl : Addr} {items new : Array Value} {n n2 : Nat} {vl vu : Value} {a c : Nat} {Q : Unit → Shared → Prop}
    (e : s.heap.get? l = some { cls := .type "list", data := .seq items n }) (e2 : s.heap.get? b = some { cls := .type "list", data := .seq new n2 }) (hne : l ≠ b)
    (hs : s.heap.IsSliceOf sl vl vu .none) (pl : IsPart vl (some (a : Int))) (pu : IsPart vu (some (c : Int))) (hac : a ≤ c) (hc : c ≤ items.size)
    (hsz : items.size + new.size ≤ sizeLine) (h : Q () { s with heap := s.heap.update l (Obj.mapSeq fun xs => xs.extract 0 a ++ new ++ xs.extract c xs.size) }) :
    wpAny (model prog w) A (setItem (.ref l) (.ref sl) (.ref b)) Q E s := by
  have hl : s.heap.IsList l items := PySem.IsL.isList e
  have hb : s.heap.IsList b new := PySem.IsL.isList e2
  obtain ⟨os, hos, hcs, hds⟩ := id hs
  have hTs : s.TypeIs (.ref sl) "slice" := ⟨os, hos, hcs⟩
  have hstep : ¬ ((rawPart none == rawInt 0) = true) := Bool.false_ne_true
  have hsame : Builtin.List.listSameRef (.ref l) (.ref b) = false := by
    unfold Builtin.List.listSameRef
    exact beq_eq_false_iff_ne.mpr hne
  have hmax : (max (a : Int) (c : Int)).toNat = c := by omega
  have hz' : ((fun xs : Array Value => xs.extract 0 a ++ new ++ xs.extract c xs.size) items).size ≤ sizeLine + 1 := by
    simp only [Array.size_append, Array.size_extract]
    omega
  unfold setItem
  try with_reducible refine wpAny_holding ?_
  first | refine wpAny_bind (wpAny_pure ?_) | skip
  refine wpAny_bind (wpAny_sequenceKey hl.typeIs (by decide) ?_)
  refine wpAny_bind (wpAny_callSpecial?_slot (name := Str.ofString "__setitem__") hl.typeIs slot_list_setitem
    (wpAny_call_entry slot_list_setitem hl.typeIs entry_list_setitem ?_ (args_list_setitem _ _ _)))
  show wpAny _ _ (Builtin.List.listSubscript? (.ref sl) >>= _) _ _ s
  refine wpAny_bind ?_
  unfold Builtin.List.listSubscript?
  refine wpAny_bind (wpAny_specialOf hTs slice_no_index ?_)
  simp only [Option.isNone_none, if_true]
  refine wpAny_pure ?_
  show wpAny _ _ (typeOf (.ref sl) >>= _) _ _ s
  refine wpAny_bind (wpAny_typeOf hTs ?_)
  first
    | rw [if_neg (by decide)]
    | refine PySem.W.KFB.if_not (by decide) ?_
  rw [listSliceParts_eq]
  refine wpAny_bind (wpAny_bind (wpAny_field hos hds (x := .none) rfl (wpAny_bind (wpAny_listPart .none ?_))))
  rw [if_neg hstep]
  refine wpAny_bind (wpAny_field hos hds (x := vl) rfl (wpAny_bind (wpAny_listPart pl ?_)))
  refine wpAny_bind (wpAny_field hos hds (x := vu) rfl (wpAny_bind (wpAny_listPart pu (wpAny_pure ?_))))
  first
    | simp only [hsame, Bool.false_eq_true, if_false]
    | refine PySem.W.KFB.if_not hsame ?_
    | (dsimp only
       rw [if_neg (by rw [hsame]; exact Bool.false_ne_true)])
  refine wpAny_bind (m := Builtin.List.listAllItems (.ref b) "must assign iterable to extended slice") ?_
  unfold Builtin.List.listAllItems
  refine wpAny_bind (wpAny_typeOf hb.typeIs ?_)
  first
    | refine PySem.W.KFB.if_so (by decide) ?_
    | rw [if_pos (by decide)]
    | simp only [beq_self_eq_true, Bool.true_or, if_true]
  unfold Builtin.List.listItems
  refine wpAny_bind (wpAny_seqItems e2 rfl (wpAny_pure ?_))
  refine wpAny_bind (wpAny_bind (wpAny_seqItems e rfl (wpAny_pure ?_)))
  refine wpAny_bind (wpAny_of_eq ((sliceIndices_raw (some (a : Int)) (some (c : Int)) none items.size (by simp)).trans (congrArg (pure : Int × Int × Int → Sem (Int × Int × Int)) (bounds_run hac hc))) ?_)
  show wpAny _ _ (if ((1 : Int) == 1) = true then _ else _) _ _ s
  rw [if_pos (by decide)]
  refine wpAny_bind (wpAny_rule ?_)
  first
    | simp only [notLongL hsz, Bool.false_eq_true, if_false]
    | refine PySem.W.KFB.if_not (notLongL hsz) ?_
  first | refine wpAny_bind (wpAny_pure ?_) | skip
  show wpAny _ _ (updateSeq l (fun xs => xs.extract 0 ((a : Int)).toNat ++ new ++ xs.extract (max (a : Int) (c : Int)).toNat xs.size) >>= _) _ _ s
  rw [hmax, Int.toNat_natCast]
  refine wpAny_bind (wpAny_updateSeq (hz := Nat.le_trans (Nat.le_add_right _ _) hsz) (_hz' := hz') e rfl ?_)
  refine wpAny_bind (wpAny_letGo ?_)
  first
    | exact wpAny_bind (wpAny_pure (wpAny_pure ⟨.none, rfl, wpAny_pure h⟩))
    | exact wpAny_pure ⟨.none, rfl, wpAny_pure h⟩
end

section
variable {X : Cx}
/-- xs[a:c] = ys of another list, at the value level: sl is the slice object that was just made -/
theorem set_slice {pins : List (Addr × Obj)} {s : Shared} {σ : St} {H : Hp} {l b sl : Addr} {xs ys : List V} {a c : Int} {vl vu : Value} {Q : Unit → Shared → Prop} (I : Inv X pins σ H s)
    (hH : H l = some (.lst xs)) (hB : H b = some (.lst ys)) (hne : l ≠ b) (hs : s.heap.IsSliceOf sl vl vu .none) (ra : RelV (.int a) vl) (rc : RelV (.int c) vu) (h0 : 0 ≤ a) (hac : a ≤ c) (hc : c ≤ xs.length)
    (hz : xs.length + ys.length ≤ sizeLine) (h : ∀ s', Inv X pins σ (upd H l (.lst (xs.take a.toNat ++ ys ++ xs.drop c.toNat))) s' → Q () s') :
    wpAny (model X.prog X.w) X.A (setItem (.ref l) (.ref sl) (.ref b)) Q X.xe s := by
  obtain ⟨ta, rfl⟩ := ra
  obtain ⟨tc, rfl⟩ := rc
  obtain ⟨z, its, n, r, hl, e⟩ := I.lstM hH
  obtain ⟨z2, its2, n2, r2, hl2, e2⟩ := I.lstM hB
  obtain ⟨a', rfl⟩ := Int.eq_ofNat_of_zero_le h0
  obtain ⟨c', rfl⟩ := Int.eq_ofNat_of_zero_le (Int.le_trans h0 hac)
  simp only [Int.toNat_natCast] at h
  refine setItem_slice (a := a') (c := c') e e2 hne hs (.int _ _) (.int _ _) (by omega) (by rw [List.size_toArray]; omega) (by rw [List.size_toArray, List.size_toArray]; omega) (h _ ?_)
  refine I.lset (its' := its.take a' ++ its2 ++ its.drop c') (t' := s.toks) hH e ?_ (Vals.append (Vals.append (r.take _) r2) (r.drop _)) ?_
  · exact splice_eq its its2 a' c'
  · rw [List.length_append, List.length_append, List.length_take, List.length_drop]
    omega
end
end L2


namespace L2
open PySem PySem.Spec PyProof.Rows

/-! ### lists of pairs as tables -/
section
variable {κ : Type} [DecidableEq κ]
def valV (kvs : List (κ × V)) (k : κ) : Option V := (kvs.find? fun kv => decide (kv.1 = k)).map (·.2)
/-- in its place, or at the end -/
def putK (kvs : List (κ × V)) (k : κ) (v : V) : List (κ × V) :=
  if (kvs.any fun kv => decide (kv.1 = k)) = true then kvs.map (fun kv => if kv.1 = k then (kv.1, v) else kv) else kvs ++ [(k, v)]
def dropK (kvs : List (κ × V)) (k : κ) : List (κ × V) := kvs.filter fun kv => decide (kv.1 ≠ k)

theorem valV_nil {k : κ} : valV ([] : List (κ × V)) k = none := rfl
theorem valV_pos {p : κ × V} {r : List (κ × V)} {k : κ} (e : p.1 = k) : valV (p :: r) k = some p.2 := by simp [valV, List.find?_cons, e]
theorem valV_neg {p : κ × V} {r : List (κ × V)} {k : κ} (e : ¬ p.1 = k) : valV (p :: r) k = valV r k := by simp [valV, List.find?_cons, e]
theorem valV_any (k : κ) : ∀ kvs : List (κ × V), (kvs.any fun kv => decide (kv.1 = k)) = (valV kvs k).isSome
  | [] => rfl
  | p :: r => by
    rw [List.any_cons]
    by_cases e : p.1 = k
    · simp only [valV_pos e, decide_eq_true e, Bool.true_or, Option.isSome_some]
    · rw [valV_neg e, decide_eq_false e, Bool.false_or]; exact valV_any k r
theorem valV_map (k j : κ) (y : V) : ∀ kvs : List (κ × V), valV (kvs.map fun kv => if kv.1 = k then (kv.1, y) else kv) j = (valV kvs j).map fun x => if j = k then y else x
  | [] => rfl
  | p :: r => by
    have ih := valV_map k j y r
    rw [List.map_cons]
    by_cases h : p.1 = k
    · rw [if_pos h]
      by_cases e : p.1 = j
      · rw [valV_pos (p := (p.1, y)) e, valV_pos e, Option.map_some, if_pos (e.symm.trans h)]
      · rw [valV_neg (p := (p.1, y)) e, valV_neg e, ih]
    · rw [if_neg h]
      by_cases e : p.1 = j
      · rw [valV_pos (p := p) e, valV_pos e, Option.map_some, if_neg (fun z => h (e.trans z))]
      · rw [valV_neg (p := p) e, valV_neg e, ih]
theorem valV_snoc (k j : κ) (y : V) : ∀ kvs : List (κ × V), valV kvs k = none → valV (kvs ++ [(k, y)]) j = if j = k then some y else valV kvs j
  | [], _ => by
    by_cases e : k = j
    · rw [if_pos e.symm]; exact valV_pos (p := (k, y)) e
    · rw [if_neg (fun z => e z.symm)]; exact valV_neg (p := (k, y)) e
  | p :: r, hn => by
    rw [List.cons_append]
    have hk : ¬ p.1 = k := fun z => by rw [valV_pos z] at hn; cases hn
    rw [valV_neg hk] at hn
    have ih := valV_snoc k j y r hn
    by_cases e : p.1 = j
    · rw [valV_pos e, valV_pos e, if_neg (fun z => hk (e.trans z))]
    · rw [valV_neg e, valV_neg e, ih]
theorem valV_put (kvs : List (κ × V)) (k j : κ) (y : V) : valV (putK kvs k y) j = if j = k then some y else valV kvs j := by
  unfold putK
  by_cases a : (kvs.any fun kv => decide (kv.1 = k)) = true
  · rw [if_pos a, valV_map]
    rw [valV_any] at a
    by_cases e : j = k
    · obtain ⟨x, hx⟩ := Option.isSome_iff_exists.mp a
      rw [if_pos e, e, hx, Option.map_some, if_pos rfl]
    · rw [if_neg e]
      cases valV kvs j with
      | none => rfl
      | some x => rw [Option.map_some, if_neg e]
  · rw [if_neg a]
    refine valV_snoc k j y kvs ?_
    rw [valV_any] at a
    cases q : valV kvs k with
    | none => rfl
    | some x => rw [q] at a; exact (a rfl).elim
theorem length_putK (kvs : List (κ × V)) (k : κ) (v : V) : (putK kvs k v).length ≤ kvs.length + 1 := by
  unfold putK
  split
  · rw [List.length_map]; omega
  · rw [List.length_append, List.length_cons, List.length_nil]; omega
theorem putK_new {kvs : List (κ × V)} {k : κ} (v : V) (h : valV kvs k = none) : putK kvs k v = kvs ++ [(k, v)] := by
  unfold putK
  rw [valV_any, h]
  exact if_neg (by decide)

theorem RelO.isSome_eq {o : Option V} {u : Option Value} (r : RelO o u) : o.isSome = u.isSome := by
  cases o with
  | none => cases u with
    | none => rfl
    | some _ => exact (show False from r).elim
  | some _ => cases u with
    | none => exact (show False from r).elim
    | some _ => rfl
theorem RelO.getD {o : Option V} {u : Option Value} {d : V} {d' : Value} (r : RelO o u) (rd : RelV d d') : RelV (o.getD d) (u.getD d') := by
  cases o with
  | none => cases u with
    | none => exact rd
    | some _ => exact (show False from r).elim
  | some _ => cases u with
    | none => exact (show False from r).elim
    | some _ => exact r

/-- raw tables of the same keys -/
theorem KV.val {kvs : List (κ × V)} {vs : List (κ × Value)} (r : KV kvs vs) (k : κ) : RelO (valV kvs k) (valueAt vs k) := by
  unfold KV at r
  induction r with
  | nil => exact True.intro
  | @cons p q ps qs h t ih =>
    obtain ⟨h1, h2⟩ := h
    by_cases e : p.1 = k
    · have e' : q.1 = k := h1.symm.trans e
      have b : valueAt (q :: qs) k = some q.2 := by simp [valueAt, List.find?_cons, e']
      rw [valV_pos e, b]; exact h2
    · have e' : ¬ q.1 = k := fun z => e (h1.trans z)
      have b : valueAt (q :: qs) k = valueAt qs k := by simp [valueAt, List.find?_cons, e']
      rw [valV_neg e, b]; exact ih
theorem KV.any {kvs : List (κ × V)} {vs : List (κ × Value)} (r : KV kvs vs) (k : κ) : (kvs.any fun kv => decide (kv.1 = k)) = vs.any fun kv => decide (kv.1 = k) := by
  unfold KV at r
  induction r with
  | nil => rfl
  | cons h t ih => rw [List.any_cons, List.any_cons, ih, h.1]
theorem KV.repl {kvs : List (κ × V)} {vs : List (κ × Value)} (r : KV kvs vs) (k : κ) {y : V} {u : Value} (ry : RelV y u) :
    KV (kvs.map fun kv => if kv.1 = k then (kv.1, y) else kv) (vs.map fun kv => if kv.1 = k then (kv.1, u) else kv) := by
  unfold KV at r ⊢
  induction r with
  | nil => exact .nil
  | @cons p q ps qs h t ih =>
    rw [List.map_cons, List.map_cons]
    refine .cons ?_ ih
    obtain ⟨h1, h2⟩ := h
    by_cases e : p.1 = k
    · rw [if_pos e, if_pos (h1.symm.trans e)]; exact ⟨h1, ry⟩
    · rw [if_neg e, if_neg (fun z => e (h1.trans z))]; exact ⟨h1, h2⟩
theorem KV.put {kvs : List (κ × V)} {vs : List (κ × Value)} (r : KV kvs vs) (k : κ) {y : V} {u : Value} (ry : RelV y u) : KV (putK kvs k y) (stored vs k u) := by
  unfold putK stored
  rw [r.any k]
  by_cases e : (vs.any fun kv => decide (kv.1 = k)) = true
  · rw [if_pos e, if_pos e]; exact r.repl k ry
  · rw [if_neg e, if_neg e]; exact Paired.snoc r ⟨rfl, ry⟩
theorem KV.drop {kvs : List (κ × V)} {vs : List (κ × Value)} (r : KV kvs vs) (k : κ) : KV (dropK kvs k) (without vs k) := by
  unfold KV at r ⊢
  unfold dropK without
  induction r with
  | nil => exact .nil
  | @cons p q ps qs h t ih =>
    obtain ⟨h1, h2⟩ := h
    rw [List.filter_cons, List.filter_cons]
    by_cases e : p.1 = k
    · have a : ¬ decide (p.1 ≠ k) = true := by simp [e]
      have b : ¬ decide (q.1 ≠ k) = true := by simp [h1.symm.trans e]
      rw [if_neg a, if_neg b]; exact ih
    · have e' : ¬ q.1 = k := fun z => e (h1.trans z)
      have a : decide (p.1 ≠ k) = true := by simp [e]
      have b : decide (q.1 ≠ k) = true := by simp [e']
      rw [if_pos a, if_pos b]; exact .cons ⟨h1, h2⟩ ih
theorem KV.keys {kvs : List (κ × V)} {vs : List (κ × Value)} (r : KV kvs vs) : kvs.map (·.1) = vs.map (·.1) := by
  unfold KV at r
  induction r with
  | nil => rfl
  | cons h t ih => rw [List.map_cons, List.map_cons, ih, h.1]
theorem KV.length {kvs : List (κ × V)} {vs : List (κ × Value)} (r : KV kvs vs) : kvs.length = vs.length := Paired.length r
theorem dropK_le (kvs : List (κ × V)) (k : κ) : (dropK kvs k).length ≤ kvs.length := List.length_filter_le _ _
end


/-! ### a tracked dict, its keys ints and texts or tuples of these -/
theorem kV_is {P : Program} {w : World} {k : Key} {u : Value} (r : RelV (kV k) u) : (mixKind P w).is k u = true := by
  cases k with
  | inl i => obtain ⟨t, e⟩ := (show ∃ t, u = Value.int i t from r); subst e; exact mixKind_int P w i t
  | inr x => obtain ⟨t, e⟩ := (show ∃ t, u = Value.str x t from r); subst e; exact mixKind_str P w x t
theorem kV_inj {a b : Key} (e : kV a = kV b) : a = b := by
  cases a with
  | inl i => cases b with
    | inl j => have e' : V.int i = V.int j := e; injection e' with e'; rw [e']
    | inr y => exact nomatch (show V.int i = V.str y from e)
  | inr x => cases b with
    | inl j => exact nomatch (show V.str x = V.int j from e)
    | inr y => have e' : V.str x = V.str y := e; injection e' with e'; rw [e']
theorem kVs_inj : ∀ {a b : List Key}, a.map kV = b.map kV → a = b
  | [], [], _ => rfl
  | [], _ :: _, e => by simp at e
  | _ :: _, [], e => by simp at e
  | x :: xs, y :: ys, e => by
    rw [List.map_cons, List.map_cons] at e
    injection e with e1 e2
    rw [kV_inj e1, kVs_inj e2]
theorem items_are {P : Program} {w : World} : ∀ {ks : List Key} {us : List Value}, Vals (ks.map kV) us → ItemsAre (mixKind P w) ks us
  | [], _, r => by rw [List.map_nil] at r; cases r; exact .nil
  | k :: ks, _, r => by
    rw [List.map_cons] at r
    cases r with
    | cons h t => exact .cons (kV_is h) (items_are t)

/-- raw entries of a dict with tuple keys -/
abbrev KT (H : Hp) : List (List Key × V) → List (List Key × Addr × Value) → Prop := Paired fun p q => p.1 = q.1 ∧ H q.2.1 = some (.tup (p.1.map kV)) ∧ RelV p.2 q.2.2
theorem KT.val {H : Hp} {kvs : List (List Key × V)} {xs : List (List Key × Addr × Value)} (r : KT H kvs xs) (k : List Key) : RelO (valV kvs k) ((atKey xs k).map (·.2)) := by
  induction r with
  | nil => exact True.intro
  | @cons p q ps qs h t ih =>
    obtain ⟨h1, _, h2⟩ := h
    by_cases e : p.1 = k
    · have e' : q.1 = k := h1.symm.trans e
      have b : atKey (q :: qs) k = some q.2 := by simp [atKey, List.find?_cons, e']
      rw [valV_pos e, b]; exact h2
    · have e' : ¬ q.1 = k := fun z => e (h1.trans z)
      have b : atKey (q :: qs) k = atKey qs k := by simp [atKey, List.find?_cons, e']
      rw [valV_neg e, b]; exact ih
theorem KT.repl {H : Hp} {kvs : List (List Key × V)} {xs : List (List Key × Addr × Value)} (r : KT H kvs xs) (k : List Key) {y : V} {u : Value} (ry : RelV y u) :
    KT H (kvs.map fun kv => if kv.1 = k then (kv.1, y) else kv) (xs.map (putAt k u)) := by
  induction r with
  | nil => exact .nil
  | @cons p q ps qs h t ih =>
    rw [List.map_cons, List.map_cons]
    refine .cons ?_ ih
    obtain ⟨h1, h2, h3⟩ := h
    unfold putAt
    by_cases e : p.1 = k
    · rw [if_pos e, if_pos (h1.symm.trans e)]; exact ⟨h1, h2, ry⟩
    · rw [if_neg e, if_neg (fun z => e (h1.trans z))]; exact ⟨h1, h2, h3⟩
theorem KT.put {H : Hp} {kvs : List (List Key × V)} {xs : List (List Key × Addr × Value)} (r : KT H kvs xs) (k : List Key) {b : Addr} {y : V} {u : Value} (hb : H b = some (.tup (k.map kV))) (ry : RelV y u) :
    KT H (putK kvs k y) (storedH xs k b u) := by
  have e : (kvs.any fun kv => decide (kv.1 = k)) = (atKey xs k).isSome := by
    rw [valV_any, (r.val k).isSome_eq, Option.isSome_map]
  unfold putK storedH
  rw [e]
  by_cases q : (atKey xs k).isSome = true
  · rw [if_pos q, if_pos q]; exact r.repl k ry
  · rw [if_neg q, if_neg q]; exact Paired.snoc r ⟨rfl, hb, ry⟩
theorem KT.keeps {H H' : Hp} {kvs : List (List Key × V)} {xs : List (List Key × Addr × Value)} (r : KT H kvs xs) (ht : ∀ b ys, H b = some (.tup ys) → H' b = some (.tup ys)) : KT H' kvs xs :=
  Paired.mapP r fun _ _ z => ⟨z.1, ht _ _ z.2.1, z.2.2⟩

section
variable {P : Program} {w : World} {H : Hp} {h : Heap} {a : Addr}
theorem rd_of {u : HO} (ok : HOk P w H h) (e : Rd H a u) : ObjOk P w H h a u := e.ok ok
theorem dk_rd {kvs : List (Key × V)} (ok : HOk P w H h) (e : Rd H a (.dK kvs)) : kvs.length ≤ sizeLine ∧ (a == sysModules) = false ∧ ∃ vs, KV kvs vs ∧ h.DictOf (mixKind P w) a vs :=
  show ObjOk P w H h a (.dK kvs) from rd_of ok e
theorem dk_of {kvs : List (Key × V)} (ok : HOk P w H h) (e : H a = some (.dK kvs)) : kvs.length ≤ sizeLine ∧ (a == sysModules) = false ∧ ∃ vs, KV kvs vs ∧ h.DictOf (mixKind P w) a vs := dk_rd ok (.inl e)
/-- a tracked tuple of ints and texts is a key -/
theorem key_of {ks : List Key} (ok : HOk P w H h) (e : H a = some (.tup (ks.map kV))) : (tupleKind (mixKind P w)).is h ks a := by
  obtain ⟨_, its, r, o, h1, h2, n, h3⟩ := (show ObjOk P w H h a (.tup (ks.map kV)) from ok a _ e)
  exact ⟨o, its.toArray, n, h1, h2, h3, by simpa using items_are r⟩
theorem dt_rd {kvs : List (List Key × V)} (ok : HOk P w H h) (e : Rd H a (.dT kvs)) : kvs.length ≤ sizeLine ∧ (a == sysModules) = false ∧
    ∃ xs, KT H kvs xs ∧ h.DictOfH (tupleKind (mixKind P w)) a xs := by
  obtain ⟨z, y, xs, r, o, es, ep, h1, h2, h3, h4, h5⟩ := (show ObjOk P w H h a (.dT kvs) from rd_of ok e)
  refine ⟨z, y, xs, r, o, es, ep, h1, h2, h3, h4, fun x hx => ?_, h5⟩
  have all : ∀ {l : List (List Key × V)} {m : List (List Key × Addr × Value)}, KT H l m → ∀ x ∈ m, (tupleKind (mixKind P w)).is h x.1 x.2.1 := by
    intro l m q
    induction q with
    | nil => intro x hx; exact nomatch hx
    | @cons p q ps qs hq t ih =>
      intro x hx
      rcases List.mem_cons.mp hx with e | hx
      · subst e
        exact key_of ok (by rw [← hq.1]; exact hq.2.1)
      · exact ih x hx
  exact all r x hx
theorem dt_of {kvs : List (List Key × V)} (ok : HOk P w H h) (e : H a = some (.dT kvs)) : kvs.length ≤ sizeLine ∧ (a == sysModules) = false ∧
    ∃ xs, KT H kvs xs ∧ h.DictOfH (tupleKind (mixKind P w)) a xs := dt_rd ok (.inl e)
end

/-- what the dict at a holds at the key y -/
def DGet (H : Hp) (a : Addr) (y : V) (r : Option V) : Prop :=
  (∃ kvs k, Rd H a (.dK kvs) ∧ y = kV k ∧ r = valV kvs k) ∨ ∃ kvs k b, Rd H a (.dT kvs) ∧ y = .ref b ∧ H b = some (.tup (k.map kV)) ∧ r = valV kvs k
/-- the heap behind a[y] = v -/
def DPut (H : Hp) (a : Addr) (y v : V) (H' : Hp) : Prop :=
  (∃ kvs k, H a = some (.dK kvs) ∧ y = kV k ∧ kvs.length < sizeLine ∧ H' = upd H a (.dK (putK kvs k v))) ∨
  ∃ kvs k b, H a = some (.dT kvs) ∧ y = .ref b ∧ H b = some (.tup (k.map kV)) ∧ kvs.length < sizeLine ∧ H' = upd H a (.dT (putK kvs k v))
theorem DGet.k {H : Hp} {a : Addr} {kvs : List (Key × V)} {k : Key} (e : H a = some (.dK kvs)) : DGet H a (kV k) (valV kvs k) := .inl ⟨kvs, k, .inl e, rfl, rfl⟩
theorem DGet.t {H : Hp} {a b : Addr} {kvs : List (List Key × V)} {k : List Key} (e : H a = some (.dT kvs)) (eb : H b = some (.tup (k.map kV))) : DGet H a (.ref b) (valV kvs k) := .inr ⟨kvs, k, b, .inl e, rfl, eb, rfl⟩
theorem DPut.k {H : Hp} {a : Addr} {kvs : List (Key × V)} {k : Key} {v : V} (e : H a = some (.dK kvs)) (hl : kvs.length < sizeLine) : DPut H a (kV k) v (upd H a (.dK (putK kvs k v))) := .inl ⟨kvs, k, e, rfl, hl, rfl⟩
theorem DPut.t {H : Hp} {a b : Addr} {kvs : List (List Key × V)} {k : List Key} {v : V} (e : H a = some (.dT kvs)) (eb : H b = some (.tup (k.map kV))) (hl : kvs.length < sizeLine) :
    DPut H a (.ref b) v (upd H a (.dT (putK kvs k v))) := .inr ⟨kvs, k, b, e, rfl, eb, hl, rfl⟩


section
variable {X : Cx} {pins : List (Addr × Obj)} {σ : St} {H : Hp} {s : Shared} {a : Addr} {y v : V} {u r : Value} {o : Option V} {A : Around} {E : Value → Shared → Prop}

theorem Inv.big (I : Inv X pins σ H s) : sysModules < s.heap.objs.size := by
  have h : mainGlobals < s.heap.objs.size := (I.mod.glob.keeps I.bk).lt
  exact Nat.lt_trans (by decide) h

/-- d[y], there -/
theorem d_getItem {Q : Value → Shared → Prop} (hu : A.units + 1 < cLine) (I : Inv X pins σ H s) (g : DGet H a y (some v)) (ry : RelV y u) (h : ∀ w' s', Inv X pins σ H s' → RelV v w' → Q w' s') :
    wpAny (model X.prog X.w) A (getItem (.ref a) u) Q E s := by
  rcases g with ⟨kvs, k, e, ey, l⟩ | ⟨kvs, k, b, e, ey, eb, l⟩
  · subst ey
    obtain ⟨z, hd, vs, rel, dd⟩ := dk_rd I.hok e
    obtain ⟨w', hw, rw'⟩ := RelO.some_of (v := v) (o := valueAt vs k) (by rw [l]; exact rel.val k)
    exact wpAny_getItem_of (kV_is ry) dd.mapOf hw (h w' _ (I.tok _) rw')
  · subst ey
    cases (show u = Value.ref b from ry)
    obtain ⟨z, hd, xs, rel, dd⟩ := dt_rd I.hok e
    obtain ⟨w', hw, rw'⟩ := RelO.some_of (v := v) (o := (atKey xs k).map (·.2)) (by rw [l]; exact rel.val k)
    obtain ⟨p, hp, hp2⟩ := Option.map_eq_some_iff.mp hw
    refine wpAny_getItem_heap (tupleKind_room_in1 hu) (key_of I.hok eb) dd hp ?_
    rw [hp2]
    exact h w' _ (I.tok _) rw'
/-- y in d -/
theorem d_in {Q : Value → Shared → Prop} (hu : A.units + 1 < cLine) (I : Inv X pins σ H s) (g : DGet H a y o) (ry : RelV y u) (h : ∀ s', Inv X pins σ H s' → Q (.bool o.isSome) s') :
    wpAny (model X.prog X.w) A (compareOp .In u (.ref a)) Q E s := by
  rcases g with ⟨kvs, k, e, ey, l⟩ | ⟨kvs, k, b, e, ey, eb, l⟩
  · subst ey
    obtain ⟨z, hd, vs, rel, dd⟩ := dk_rd I.hok e
    refine wpAny_in_of (kV_is ry) hd dd.mapOf ?_
    rw [← (rel.val k).isSome_eq, ← l]
    exact h _ (I.tok _)
  · subst ey
    cases (show u = Value.ref b from ry)
    obtain ⟨z, hd, xs, rel, dd⟩ := dt_rd I.hok e
    refine wpAny_in_heap (tupleKind_room_in1 hu) (key_of I.hok eb) hd dd ?_
    have q := (rel.val k).isSome_eq
    rw [Option.isSome_map] at q
    rw [← q, ← l]
    exact h _ (I.tok _)
theorem d_notIn {Q : Value → Shared → Prop} (hu : A.units + 1 < cLine) (I : Inv X pins σ H s) (g : DGet H a y o) (ry : RelV y u) (h : ∀ s', Inv X pins σ H s' → Q (.bool (!o.isSome)) s') :
    wpAny (model X.prog X.w) A (compareOp .NotIn u (.ref a)) Q E s := by
  rcases g with ⟨kvs, k, e, ey, l⟩ | ⟨kvs, k, b, e, ey, eb, l⟩
  · subst ey
    obtain ⟨z, hd, vs, rel, dd⟩ := dk_rd I.hok e
    refine wpAny_notIn_of (kV_is ry) hd dd.mapOf ?_
    rw [← (rel.val k).isSome_eq, ← l]
    exact h _ (I.tok _)
  · subst ey
    cases (show u = Value.ref b from ry)
    obtain ⟨z, hd, xs, rel, dd⟩ := dt_rd I.hok e
    refine wpAny_notIn_heap (tupleKind_room_in1 hu) (key_of I.hok eb) hd dd ?_
    have q := (rel.val k).isSome_eq
    rw [Option.isSome_map] at q
    rw [← q, ← l]
    exact h _ (I.tok _)
/-- a dict's object is replaced -/
theorem d_write {h' : Heap} {t' : Nat} {ob : HO} (I : Inv X pins σ H s) (mu : Mut (H a)) (hs : Heap.SameBut a s.heap h') (he : ∃ q, h'.get? a = some q) (new : ObjOk X.prog X.w (upd H a ob) h' a ob) :
    Inv X pins σ (upd H a ob) { s with heap := h', toks := t' } :=
  I.write (x := a) (e := a) mu (.inl rfl) (fun b q hb z => (hs.2 b hb).trans z) he new
theorem dk_new {P : Program} {w : World} {H' : Hp} {h' : Heap} {kvs : List (Key × V)} {vs : List (Key × Value)} (z : kvs.length ≤ sizeLine) (hd : (a == sysModules) = false) (rel : KV kvs vs) (dd : h'.DictOf (mixKind P w) a vs) :
    ObjOk P w H' h' a (.dK kvs) := ⟨z, hd, vs, rel, dd⟩
/-- d[y] = v -/
theorem d_setItem {H' : Hp} {Q : Unit → Shared → Prop} (hu : A.units + 1 < cLine) (I : Inv X pins σ H s) (g : DPut H a y v H') (ry : RelV y u) (rv : RelV v r) (h : ∀ s', Inv X pins σ H' s' → Q () s') :
    wpAny (model X.prog X.w) A (setItem (.ref a) u r) Q E s := by
  rcases g with ⟨kvs, k, e, ey, l, eH⟩ | ⟨kvs, k, b, e, ey, eb, l, eH⟩
  · subst ey eH
    obtain ⟨z, hd, vs, rel, dd⟩ := dk_of I.hok e
    have hz : vs.length ≤ sizeLine := by rw [← rel.length]; exact z
    have hl : (putK kvs k v).length ≤ sizeLine := by have := length_putK kvs k v; omega
    refine wpAny_setItem_pairs (hsz := hz) (kV_is ry) dd fun h' dd' hs => h _ ?_
    have he : ∃ q, h'.get? a = some q := let ⟨q, _, _, hq, _⟩ := dd'; ⟨q, hq⟩
    exact d_write I (by rw [e]; exact True.intro) hs he (dk_new hl hd (rel.put k rv) dd')
  · subst ey eH
    cases (show u = Value.ref b from ry)
    obtain ⟨z, hd, xs, rel, dd⟩ := dt_of I.hok e
    have hz : xs.length ≤ sizeLine := by rw [← Paired.length rel]; exact z
    have hl : (putK kvs k v).length ≤ sizeLine := by have := length_putK kvs k v; omega
    refine wpAny_setItem_heap (hsz := hz) (tupleKind_room_in1 hu) (key_of I.hok eb) dd fun h' dd' hs => h _ ?_
    obtain ⟨q, es, ep, hq, h2, h3, h4, _, h5⟩ := dd'
    refine d_write I (by rw [e]; exact True.intro) hs ⟨q, hq⟩ ⟨hl, hd, _, (rel.put k eb rv).keeps fun c ys ec => ?_, q, es, ep, hq, h2, h3, h4, h5⟩
    rw [upd_ne (ne_of ec e (fun z => nomatch z))]
    exact ec
end

section
variable {X : Cx} {pins : List (Addr × Obj)} {σ : St} {H : Hp} {s : Shared} {a : Addr} {kvs : List (Key × V)} {k : Key} {u : Value} {A : Around} {E : Value → Shared → Prop}
/-- del d[k] -/
theorem d_delItem {Q : Unit → Shared → Prop} (I : Inv X pins σ H s) (e : H a = some (.dK kvs)) (ry : RelV (kV k) u) (l : (valV kvs k).isSome = true) (h : ∀ s', Inv X pins σ (upd H a (.dK (dropK kvs k))) s' → Q () s') :
    wpAny (model X.prog X.w) A (delItem (.ref a) u) Q E s := by
  obtain ⟨z, hd, vs, rel, dd⟩ := dk_of I.hok e
  refine wpAny_delItem_slot dd.typeIs (by decide) PySem.F.slot_dict_delitem
    (call_meetsIn PySem.F.slot_dict_delitem dd.typeIs PySem.F.entry_dict_delitem (PySem.F.args_dict_delitem_2 _ _) (meets_dict_delitem_pairs (mixKind X.prog X.w) a (kV_is ry)) ⟨vs, dd, by rw [← rel.length]; exact z, by rw [← (rel.val k).isSome_eq]; exact l, fun h' dd' hs => h _ ?_⟩)
  have he : ∃ q, h'.get? a = some q := let ⟨q, _, _, hq, _⟩ := dd'; ⟨q, hq⟩
  exact d_write I (by rw [e]; exact True.intro) hs he (dk_new (Nat.le_trans (dropK_le kvs k) z) hd (rel.drop k) dd')
/-- d.pop(k[, x]), there -/
theorem d_pop {v : V} {more : List Value} {Q : Value → Shared → Prop} (I : Inv X pins σ H s) (e : H a = some (.dK kvs)) (ry : RelV (kV k) u) (l : valV kvs k = some v) (hm : more = [] ∨ ∃ x, more = [x])
    (h : ∀ w' s', Inv X pins σ (upd H a (.dK (dropK kvs k))) s' → RelV v w' → Q w' s') : wpAny (model X.prog X.w) A (call (.builtin "dict.pop") (.ref a :: u :: more)) Q E s := by
  obtain ⟨z, hd, vs, rel, dd⟩ := dk_of I.hok e
  obtain ⟨w', hw, rw'⟩ := RelO.some_of (v := v) (o := valueAt vs k) (by rw [← l]; exact rel.val k)
  have hp : (keyPart u).isSome = true := by
    cases k with
    | inl i => obtain ⟨t, q⟩ := (show ∃ t, u = Value.int i t from ry); subst q; rfl
    | inr x => obtain ⟨t, q⟩ := (show ∃ t, u = Value.str x t from ry); subst q; rfl
  have ha : argsOk "dict.pop" ⟨.ref a :: u :: more, []⟩ := by
    rcases hm with q | ⟨x, q⟩
    · subst q; exact PySem.F.args_dict_pop_2 _ _
    · subst q; exact PySem.F.args_dict_pop_3 _ _ _
  refine call_meetsIn PySem.F.slot_dict_pop dd.typeIs PySem.F.entry_dict_pop ha (meets_dict_pop_there (mixKind X.prog X.w) a (kV_is ry) more hm hp)
    ⟨vs, w', dd, by rw [← rel.length]; exact z, hw, fun h' dd' hs => h w' _ ?_ rw'⟩
  have he : ∃ q, h'.get? a = some q := let ⟨q, _, _, hq, _⟩ := dd'; ⟨q, hq⟩
  exact d_write I (by rw [e]; exact True.intro) hs he (dk_new (Nat.le_trans (dropK_le kvs k) z) hd (rel.drop k) dd')
/-- d.pop(k, x), not there -/
theorem d_popD {r : Value} {Q : Value → Shared → Prop} (I : Inv X pins σ H s) (e : H a = some (.dK kvs)) (ry : RelV (kV k) u) (l : valV kvs k = none) (h : ∀ s', Inv X pins σ H s' → Q r s') :
    wpAny (model X.prog X.w) A (call (.builtin "dict.pop") [.ref a, u, r]) Q E s := by
  obtain ⟨z, hd, vs, rel, dd⟩ := dk_of I.hok e
  have hn : valueAt vs k = none := RelO.none_of (by rw [← l]; exact rel.val k)
  have hp : (keyPart u).isSome = true := by
    cases k with
    | inl i => obtain ⟨t, q⟩ := (show ∃ t, u = Value.int i t from ry); subst q; rfl
    | inr x => obtain ⟨t, q⟩ := (show ∃ t, u = Value.str x t from ry); subst q; rfl
  exact call_meetsIn PySem.F.slot_dict_pop dd.typeIs PySem.F.entry_dict_pop (PySem.F.args_dict_pop_3 _ _ _) (meets_dict_pop_default (mixKind X.prog X.w) a (kV_is ry) hd hp r) ⟨vs, dd, hn, h _ (I.tok _)⟩
/-- d.clear() -/
theorem d_clear {Q : Value → Shared → Prop} (I : Inv X pins σ H s) (e : H a = some (.dK kvs)) (h : ∀ s', Inv X pins σ (upd H a (.dK [])) s' → Q .none s') : wpAny (model X.prog X.w) A (call (.builtin "dict.clear") [.ref a]) Q E s := by
  obtain ⟨z, hd, vs, rel, dd⟩ := dk_of I.hok e
  refine call_meetsIn PySem.F.slot_dict_clear dd.typeIs PySem.F.entry_dict_clear (PySem.F.args_dict_clear_1 _) (meets_dict_clear (mixKind X.prog X.w) a) ⟨vs, dd, by rw [← rel.length]; exact z, fun h' dd' hs => h _ ?_⟩
  have he : ∃ q, h'.get? a = some q := let ⟨q, _, _, hq, _⟩ := dd'; ⟨q, hq⟩
  exact d_write (t' := s.toks) I (by rw [e]; exact True.intro) hs he (dk_new (Nat.zero_le _) hd .nil dd')
/-- len(d) -/
theorem d_len {Q : Value → Shared → Prop} (I : Inv X pins σ H s) (e : Rd H a (.dK kvs)) (h : ∀ t s', Inv X pins σ H s' → Q (.int kvs.length t) s') : wpAny (model X.prog X.w) A (call (.builtin "len") [.ref a]) Q E s := by
  obtain ⟨z, hd, vs, rel, dd⟩ := dk_rd I.hok e
  refine call_len_dict hd dd (by rw [← rel.length]; rw [sizeLine_eq] at z; omega) ?_
  rw [← rel.length]
  exact h _ _ (I.tok _)
/-- if d -/
theorem d_truth {Q : Bool → Shared → Prop} (I : Inv X pins σ H s) (e : Rd H a (.dK kvs)) (h : ∀ s', Inv X pins σ H s' → Q (!kvs.isEmpty) s') : wpAny (model X.prog X.w) A (truthy (.ref a)) Q E s := by
  obtain ⟨z, hd, vs, rel, dd⟩ := dk_rd I.hok e
  refine wpAny_truthy_dict hd dd (by rw [← rel.length]; rw [sizeLine_eq] at z; omega) ?_
  have q : kvs.isEmpty = vs.isEmpty := by cases rel <;> rfl
  rw [← q]
  exact h _ (I.tok _)
end


/-! ### readings and rules -/
/-- the element of a subscription, not a slice -/
def NoSl (i : Expr) : Prop := ∀ ov iv, subscripted i false ov iv = operate [ov, iv] (getItem ov iv)
theorem subD_of {prog : Program} {w : World} {A : Around} {E : Value → Shared → Prop} {s : Shared} {env : Env} {value slice : Expr} {pos : Pos} {T id : String} {Q : Value → Shared → Prop}
    (hl : typeLookup (.type T) "__getitem__" = pure (some (.builtin id))) (hs : NoSl slice)
    (h : wpAny (model prog w) A (eval value env) (fun o s₁ => wpAny (model prog w) A (eval slice env) (fun i s₂ => s₂.TypeIs o T ∧ wpAny (model prog w) A (getItem o i) Q E s₂) E s₁) E s) :
    wpAny (model prog w) A (eval (.Subscript value slice pos) env) Q E s := by
  refine Subscript_ (wpAny_mono h (fun o s₁ h₁ => wpAny_mono h₁ (fun i s₂ h₂ => ?_) fun _ _ x => x) fun _ _ x => x)
  obtain ⟨hT, h₂⟩ := h₂
  unfold subscriptTail
  refine wpAny_bind ?_
  rw [getitemInPython_of_ne hT.not_modules]
  refine wpAny_bind (wpAny_specialOf hT hl ?_)
  have fin : wpAny (model prog w) A (subscripted slice false o i) (fun r s₃ => wpAny (model prog w) A (letTemporaryGo value o r >>= fun _ => pure r) Q E s₃) E s₂ := by
    rw [hs o i]
    exact wpAny_operating (wpAny_mono h₂ (fun r s₃ h₃ => wpAny_bind (wpAny_letTemporaryGo (wpAny_pure h₃))) fun _ _ x => x)
  first
    | exact wpAny_pure (wpAny_bind fin)
    | exact wpAny_bind (wpAny_pure (wpAny_bind fin))
    | exact wpAny_bind fin

theorem dict_typeIs {X : Cx} {pins : List (Addr × Obj)} {σ : St} {H : Hp} {s : Shared} {a : Addr} {y : V} {o : Option V} (I : Inv X pins σ H s) (g : DGet H a y o) : s.TypeIs (.ref a) "dict" := by
  rcases g with ⟨kvs, k, e, _, _⟩ | ⟨kvs, k, b, e, _, _, _⟩
  · obtain ⟨_, _, vs, _, dd⟩ := dk_rd I.hok e
    exact dd.typeIs
  · obtain ⟨_, _, xs, _, dd⟩ := dt_rd I.hok e
    exact dd.typeIs
theorem dict_noDict {X : Cx} {pins : List (Addr × Obj)} {σ : St} {H : Hp} {s : Shared} {a : Addr} {y : V} {o : Option V} (I : Inv X pins σ H s) (g : DGet H a y o) :
    ∀ b, Value.ref a = .ref b → ∃ ob, s.heap.get? b = some ob ∧ ob.dict = none := fun b q => by
  cases q
  rcases g with ⟨kvs, k, e, _, _⟩ | ⟨kvs, k, b, e, _, _, _⟩
  · obtain ⟨_, _, vs, _, ob, _, _, h1, h2, _⟩ := dk_rd I.hok e
    exact ⟨ob, h1, h2.2.1⟩
  · obtain ⟨_, _, xs, _, ob, _, _, h1, h2, _⟩ := dt_rd I.hok e
    exact ⟨ob, h1, h2.2.1⟩

/-- d[y] -/
def tDGet (td ty : TE) : TE := fun σ H Q => td σ H fun x H1 => ty σ H1 fun y H2 => ∃ a v, x = .ref a ∧ DGet H2 a y (some v) ∧ Q v H2
/-- y in d, y not in d -/
def tDIn (ty td : TE) : TE := fun σ H Q => ty σ H fun y H1 => td σ H1 fun x H2 => ∃ a o, x = .ref a ∧ DGet H2 a y o ∧ Q (.bl o.isSome) H2
def tDNotIn (ty td : TE) : TE := fun σ H Q => ty σ H fun y H1 => td σ H1 fun x H2 => ∃ a o, x = .ref a ∧ DGet H2 a y o ∧ Q (.bl (!o.isSome)) H2
/-- d[y] = v -/
def sDPut (td ty tv : TE) : TS := fun D σ H => tv σ H fun v H1 => td σ H1 fun x H2 => ty σ H2 fun y H3 => ∃ a H4, x = .ref a ∧ DPut H3 a y v H4 ∧ D.nx σ H4
/-- d[y] op= v -/
def sDAug (td ty tv : TE) (rd : V → V → Hp → VK → Prop) : TS := fun D σ H => td σ H fun x H1 => ty σ H1 fun y H2 => ∃ a v, x = .ref a ∧ DGet H2 a y (some v) ∧
  tv σ H2 fun y2 H3 => rd v y2 H3 fun z H4 => ∃ H5, DPut H4 a y z H5 ∧ D.nx σ H5
/-- del d[y] -/
def sDDel (td ty : TE) : TS := fun D σ H => td σ H fun x H1 => ty σ H1 fun y H2 => ∃ a kvs k, x = .ref a ∧ H2 a = some (.dK kvs) ∧ y = kV k ∧ (valV kvs k).isSome = true ∧ D.nx σ (upd H2 a (.dK (dropK kvs k)))

section
variable {X : Cx} {o i e value : Expr} {pos pos' tpos : Pos} {td ty tv : TE}
theorem pe_dget (hu : X.A.units + 1 < cLine) (ho : PE X o td) (hi : PE X i ty) (hs : NoSl i) : PE X (.Subscript o i pos) (tDGet td ty) := by
  intro pins s σ H Q I h
  refine subD_of PySem.F.slot_dict_getitem.lookup hs (thn (ho pins s σ H _ I h) fun u s1 ⟨x, H1, I1, rx, q1⟩ => thn (hi pins s1 σ H1 _ I1 q1) fun iv s2 ⟨y, H2, I2, ry, a, v, ex, g, q2⟩ => ?_)
  subst ex
  obtain rfl : u = Value.ref a := rx
  exact ⟨dict_typeIs I2 g, d_getItem hu I2 g ry fun w' s3 I3 rw' => ⟨v, H2, I3, rw', q2⟩⟩
theorem pc_din (hu : X.A.units + 1 < cLine) (hi : PE X i ty) (ho : PE X o td) : PC X .In i o (tDIn ty td) := by
  intro pins s σ H Q I h
  refine thn (hi pins s σ H _ I h) fun iv s1 ⟨y, H1, I1, ry, q1⟩ => thn (ho pins s1 σ H1 _ I1 q1) fun u s2 ⟨x, H2, I2, rx, a, ov, ex, g, q2⟩ => ?_
  subst ex
  obtain rfl : u = Value.ref a := rx
  exact d_in hu I2 g ry fun s3 I3 => ⟨.bl ov.isSome, H2, I3, rfl, q2⟩
theorem pc_dnotin (hu : X.A.units + 1 < cLine) (hi : PE X i ty) (ho : PE X o td) : PC X .NotIn i o (tDNotIn ty td) := by
  intro pins s σ H Q I h
  refine thn (hi pins s σ H _ I h) fun iv s1 ⟨y, H1, I1, ry, q1⟩ => thn (ho pins s1 σ H1 _ I1 q1) fun u s2 ⟨x, H2, I2, rx, a, ov, ex, g, q2⟩ => ?_
  subst ex
  obtain rfl : u = Value.ref a := rx
  exact d_notIn hu I2 g ry fun s3 I3 => ⟨.bl (!ov.isSome), H2, I3, rfl, q2⟩
theorem ps_dput (hu : X.A.units + 1 < cLine) (ho : PE X o td) (hi : PE X i ty) (hv : PE X value tv) (hs : swapsWith value (some (.Subscript o i pos')) pos.line X.env = pure false) :
    PS X (.Assign [.Subscript o i pos'] value pos) (sDPut td ty tv) := by
  intro pins s σ H D I h
  refine wpAny_Assign_Subscript (thn (hv pins s σ H _ I h) fun r s1 ⟨v, H1, I1, rv, q1⟩ => thn (ho pins s1 σ H1 _ I1 q1) fun u s2 ⟨x, H2, I2, rx, q2⟩ => thn (hi pins s2 σ H2 _ I2 q2) fun iv s3 ⟨y, H3, I3, ry, a, H4, ex, g, q3⟩ => ?_) hs
  subst ex
  obtain rfl : u = Value.ref a := rx
  exact d_setItem hu I3 g ry rv fun s4 I4 => ⟨σ, H4, I4, q3⟩
theorem ps_daug {op : Operator} {rd : V → V → Hp → VK → Prop} (hu : X.A.units + 1 < cLine) (ho : PE X o td) (hi : PE X i ty) (hv : PE X value tv) (hop : InOp X op rd)
    (ha : ∀ ov iv new, augStore i ov iv new = (do holding [new, ov, iv] (setItem ov iv new); release [new, ov, iv] []; pure .next)) : PS X (.AugAssign (.Subscript o i tpos) op value pos) (sDAug td ty tv rd) := by
  intro pins s σ H D I h
  refine wpAny_AugAssign_SubscriptAny (thn (ho pins s σ H _ I h) fun u s1 ⟨x, H1, I1, rx, q1⟩ => thn (hi pins s1 σ H1 _ I1 q1) fun iv s2 ⟨y, H2, I2, ry, a, v, ex, g, q2⟩ => ?_) ha
  subst ex
  obtain rfl : u = Value.ref a := rx
  refine d_getItem hu I2 g ry fun w' s3 I3 rw' => thn (hv pins s3 σ H2 _ I3 q2) fun w2 s4 ⟨y2, H3, I4, ry2, q3⟩ => thn (hop pins s4 σ H3 v y2 w' w2 _ I4 rw' ry2 q3) fun w3 s5 ⟨z, H4, I5, rz, H5, g5, q4⟩ => ?_
  exact d_setItem hu I5 g5 ry rz fun s6 I6 => ⟨σ, H5, I6, q4⟩
theorem ps_ddel (ho : PE X o td) (hi : PE X i ty) : PS X (.Delete [.Subscript o i tpos] pos) (sDDel td ty) := by
  intro pins s σ H D I h
  refine wpAny_Delete (wpAny_deleteEach_cons (wpAny_delete_Subscript (thn (ho pins s σ H _ I h) fun u s1 ⟨x, H1, I1, rx, q1⟩ => thn (hi pins s1 σ H1 _ I1 q1) fun iv s2 ⟨y, H2, I2, ry, a, kvs, k, ex, e, ey, l, q2⟩ => ?_)))
  subst ex ey
  obtain rfl : u = Value.ref a := rx
  exact d_delItem I2 e ry l fun s3 I3 => wpAny_deleteEach_nil ⟨σ, _, I3, q2⟩
end


/-! ### displays -/
theorem dk_empty {P : Program} {w : World} {H : Hp} (h : Heap) (hb : sysModules < h.objs.size) : ObjOk P w H (h.push { cls := .type "dict", data := .dict #[] }) h.objs.size (.dK []) :=
  ⟨Nat.zero_le _, beq_eq_false_iff_ne.mpr (Ne.symm (Nat.ne_of_lt hb)), [], .nil, Heap.DictOf.new h⟩
theorem dt_empty {P : Program} {w : World} {H : Hp} (h : Heap) (hb : sysModules < h.objs.size) : ObjOk P w H (h.push { cls := .type "dict", data := .dict #[] }) h.objs.size (.dT []) :=
  ⟨Nat.zero_le _, beq_eq_false_iff_ne.mpr (Ne.symm (Nat.ne_of_lt hb)), [], .nil, _, #[], 0, Heap.get?_push_size _ rfl, ⟨rfl, rfl, rfl⟩, rfl, rfl, List.nodup_nil⟩
/-- {}, to be a dict of the kind that is wanted -/
def tDNewK : TE := fun _ H Q => ∀ p, H p = none → Q (.ref p) (upd H p (.dK []))
def tDNewT : TE := fun _ H Q => ∀ p, H p = none → Q (.ref p) (upd H p (.dT []))
section
variable {X : Cx} {pos : Pos}
theorem pe_dnewK : PE X (.Dict [] [] pos) tDNewK := fun pins s σ H Q I h =>
  wpAny_Dict_empty ⟨.ref s.heap.objs.size, _, I.laid (a := s.heap.objs.size) (o := .dK []) (t' := s.toks) (fun _ _ q => Heap.get?_push_of_some _ q) (Nat.le_refl _) (dk_empty s.heap I.big), rfl, h _ (I.hok.fresh (Nat.le_refl _))⟩
theorem pe_dnewT : PE X (.Dict [] [] pos) tDNewT := fun pins s σ H Q I h =>
  wpAny_Dict_empty ⟨.ref s.heap.objs.size, _, I.laid (a := s.heap.objs.size) (o := .dT []) (t' := s.toks) (fun _ _ q => Heap.get?_push_of_some _ q) (Nat.le_refl _) (dt_empty s.heap I.big), rfl, h _ (I.hok.fresh (Nat.le_refl _))⟩
end

/-- the pairs of a display, from the left -/
def tPairs : List (TE × TE) → St → Hp → (List (V × V) → Hp → Prop) → Prop
  | [], _, H, Q => Q [] H
  | (tk, tv) :: r, σ, H, Q => tk σ H fun x H1 => tv σ H1 fun y H2 => tPairs r σ H2 fun ps H3 => Q ((x, y) :: ps) H3
abbrev VV : List (V × V) → List (Value × Value) → Prop := Paired fun p q => RelV p.1 q.1 ∧ RelV p.2 q.2
def PPs (X : Cx) (pos : Pos) (keys : List (Option Expr)) (values : List Expr) (trs : List (TE × TE)) : Prop :=
  ∀ (pins : List (Addr × Obj)) (s : Shared) (σ : St) (H : Hp) (Q : List (V × V) → Hp → Prop), Inv X pins σ H s → tPairs trs σ H Q →
    wpAny (model X.prog X.w) X.A (evalPairs (pairTrees keys values X.env pos)) (fun vs s' => ∃ ps H', Inv X pins σ H' s' ∧ VV ps vs ∧ Q ps H') X.xe s
theorem pps_nil {X : Cx} {pos : Pos} : PPs X pos [] [] [] := fun pins s σ H Q I h => pairTrees_nil_walk ⟨[], H, I, .nil, h⟩
theorem pps_cons {X : Cx} {pos : Pos} {k v : Expr} {ks : List (Option Expr)} {vs : List Expr} {tk tv : TE} {trs : List (TE × TE)} (hk : PE X k tk) (hv : PE X v tv) (hr : PPs X pos ks vs trs) :
    PPs X pos (some k :: ks) (v :: vs) ((tk, tv) :: trs) := fun pins s σ H Q I h =>
  pairTrees_cons_walk (thn (hk pins s σ H _ I h) fun u s1 ⟨x, H1, I1, rx, q1⟩ => thn (hv pins s1 σ H1 _ I1 q1) fun w2 s2 ⟨y, H2, I2, ry, q2⟩ =>
    thn (hr pins s2 σ H2 _ I2 q2) fun ws s3 ⟨ps, H3, I3, rel, q3⟩ => ⟨(x, y) :: ps, H3, I3, .cons ⟨rx, ry⟩ rel, q3⟩)

def mergeK (kvs more : List (Key × V)) : List (Key × V) := more.foldl (fun acc kv => putK acc kv.1 kv.2) kvs
theorem KV.merge : ∀ {more : List (Key × V)} {rs : List (Key × Value)} {kvs : List (Key × V)} {vs : List (Key × Value)}, KV more rs → KV kvs vs → KV (mergeK kvs more) (merged vs rs) := by
  intro more rs kvs vs r
  unfold KV at r
  induction r generalizing kvs vs with
  | nil => intro q; exact q
  | @cons p q ps qs h t ih =>
    intro r0
    have e : KV (putK kvs p.1 p.2) (stored vs q.1 q.2) := by
      have := r0.put p.1 h.2
      rw [← h.1]; exact this
    exact ih e
theorem length_mergeK : ∀ (more kvs : List (Key × V)), (mergeK kvs more).length ≤ kvs.length + more.length
  | [], kvs => by show kvs.length ≤ kvs.length + 0; omega
  | p :: r, kvs => by
    have h1 := length_mergeK r (putK kvs p.1 p.2)
    have h2 := length_putK kvs p.1 p.2
    show (mergeK (putK kvs p.1 p.2) r).length ≤ _
    rw [List.length_cons]; omega
theorem carries_of {P : Program} {w : World} : ∀ {kvs : List (Key × V)} {ws : List (Value × Value)}, VV (kvs.map fun kv => (kV kv.1, kv.2)) ws → ∃ rs, Carries (mixKind P w) ws rs ∧ KV kvs rs
  | [], _, r => by rw [List.map_nil] at r; cases r; exact ⟨[], True.intro, .nil⟩
  | p :: kvs, _, r => by
    rw [List.map_cons] at r
    cases r with
    | @cons a b as bs h t =>
      obtain ⟨rs, c, q⟩ := carries_of (P := P) (w := w) t
      obtain ⟨b1, b2⟩ := b
      exact ⟨(p.1, b2) :: rs, ⟨kV_is h.1, rfl, c⟩, .cons ⟨rfl, h.2⟩ q⟩
/-- {k: v, ..} with keys ints and texts; the new dict stands empty while the pairs are made -/
def tDisp (trs : List (TE × TE)) : TE := fun σ H Q => ∀ p, H p = none → tPairs trs σ (upd H p (.dK [])) fun ps H2 => H2 p = some (.dK []) ∧ ∃ kvs : List (Key × V), ps = kvs.map (fun kv => (kV kv.1, kv.2)) ∧ kvs.length ≤ 15 ∧ Q (.ref p) (upd H2 p (.dK (mergeK [] kvs)))
theorem pe_disp {X : Cx} {pos : Pos} {keys : List (Option Expr)} {values : List Expr} {trs : List (TE × TE)} (h : PPs X pos keys values trs) (hall : keys.all (·.isSome) = true) (hl : keys.length = values.length) (h0 : keys ≠ [])
    (h15 : keys.length ≤ 15) : PE X (.Dict keys values pos) (tDisp trs) := by
  intro pins s σ H Q I q
  have hn := I.hok.fresh (Nat.le_refl s.heap.objs.size)
  have I1 := I.laid (a := s.heap.objs.size) (o := .dK []) (h' := s.heap.push { cls := .type "dict", data := .dict #[] }) (t' := s.toks) (fun _ _ q => Heap.get?_push_of_some _ q) (Nat.le_refl _) (dk_empty s.heap I.big)
  refine wpAny_Dict_walk (knd := mixKind X.prog X.w) hall hl h0 h15 (thn (h pins _ σ _ _ I1 (q _ hn)) fun ws s2 ⟨ps, H2, I2, rel, e, kvs, ep, lk, q2⟩ => ?_)
  subst ep
  obtain ⟨rs, c, rk⟩ := carries_of (P := X.prog) (w := X.w) rel
  obtain ⟨z, hd, vs0, r0, dd⟩ := dk_of I2.hok e
  cases r0
  refine ⟨rs, c, dd, fun h' dd' hs => ⟨.ref s.heap.objs.size, _, ?_, rfl, q2⟩⟩
  have hz : (mergeK [] kvs).length ≤ sizeLine := by
    have h1 := length_mergeK kvs []
    rw [List.length_nil] at h1
    rw [sizeLine_eq]; omega
  have he : ∃ q, h'.get? s.heap.objs.size = some q := let ⟨q, _, _, hq, _⟩ := dd'; ⟨q, hq⟩
  exact d_write I2 (by rw [e]; exact True.intro) hs he (dk_new hz hd (rk.merge .nil) dd')


/-! ### methods -/
/-- a method call o.m(e) of a built-in, with one argument: what must be seen of the text -/
structure M1 (X : Cx) (o : Expr) (m : Str) (apos : Pos) (e : Expr) (cpos : Pos) : Prop where
  base : attributeBase o m X.env (eval o X.env) = eval o X.env
  few : ((backTo cpos (starEach [e] X.env)).all (fun x => !x.1) && (backToKw cpos (keywordEach [] X.env)).all (fun x => x.1.isSome)
    && decide (([e] : List Expr).length + ([] : List Keyword).length + (if ([] : List Keyword).isEmpty then 0 else 1) < 30)) = true
  line : (apos.endLine == cpos.line) = true
  trees : backTo cpos (starEach [e] X.env) = [(false, eval e X.env)]
structure M2 (X : Cx) (o : Expr) (m : Str) (apos : Pos) (e f : Expr) (cpos : Pos) : Prop where
  base : attributeBase o m X.env (eval o X.env) = eval o X.env
  few : ((backTo cpos (starEach [e, f] X.env)).all (fun x => !x.1) && (backToKw cpos (keywordEach [] X.env)).all (fun x => x.1.isSome)
    && decide (([e, f] : List Expr).length + ([] : List Keyword).length + (if ([] : List Keyword).isEmpty then 0 else 1) < 30)) = true
  line : (apos.endLine == cpos.line) = true
  trees : backTo cpos (starEach [e, f] X.env) = [(false, eval e X.env), (false, eval f X.env)]

/-- a is a dict, whatever its keys -/
def IsD (H : Hp) (a : Addr) : Prop := (∃ kvs, Rd H a (.dK kvs)) ∨ ∃ kvs, Rd H a (.dT kvs)
theorem isD_at {X : Cx} {pins : List (Addr × Obj)} {σ : St} {H : Hp} {s : Shared} {a : Addr} (I : Inv X pins σ H s) (d : IsD H a) :
    s.TypeIs (.ref a) "dict" ∧ (∀ b, Value.ref a = .ref b → ∃ ob, s.heap.get? b = some ob ∧ ob.dict = none) ∧ (a == sysModules) = false := by
  rcases d with ⟨kvs, e⟩ | ⟨kvs, e⟩
  · obtain ⟨_, hd, vs, _, dd⟩ := dk_rd I.hok e
    refine ⟨dd.typeIs, fun b q => ?_, hd⟩
    cases q
    obtain ⟨ob, _, _, h1, h2, _⟩ := dd
    exact ⟨ob, h1, h2.2.1⟩
  · obtain ⟨_, hd, xs, _, dd⟩ := dt_rd I.hok e
    refine ⟨dd.typeIs, fun b q => ?_, hd⟩
    cases q
    obtain ⟨ob, _, _, h1, h2, _⟩ := dd
    exact ⟨ob, h1, h2.2.1⟩

section
variable {X : Cx} {pins : List (Addr × Obj)} {σ : St} {H : Hp} {s : Shared} {a : Addr} {y d : V} {u r : Value} {o : Option V} {A : Around} {E : Value → Shared → Prop}
/-- d.get(y) -/
theorem d_get1 {Q : Value → Shared → Prop} (hu : A.units + 1 < cLine) (I : Inv X pins σ H s) (g : DGet H a y o) (ry : RelV y u) (h : ∀ w' s', Inv X pins σ H s' → RelV (o.getD .non) w' → Q w' s') :
    wpAny (model X.prog X.w) A (call (.builtin "dict.get") [.ref a, u]) Q E s := by
  rcases g with ⟨kvs, k, e, ey, l⟩ | ⟨kvs, k, b, e, ey, eb, l⟩
  · subst ey
    obtain ⟨z, hd, vs, rel, dd⟩ := dk_rd I.hok e
    refine call_meetsIn PySem.F.slot_dict_get dd.typeIs PySem.F.entry_dict_get (PySem.F.args_dict_get_2 _ _) (meets_dict_get (mixKind X.prog X.w) a (kV_is ry) hd) ⟨_, dd.mapOf, h _ _ (I.tok _) ?_⟩
    rw [l]
    exact (rel.val k).getD rfl
  · subst ey
    cases (show u = Value.ref b from ry)
    obtain ⟨z, hd, xs, rel, dd⟩ := dt_rd I.hok e
    refine call_meetsIn PySem.F.slot_dict_get dd.typeIs PySem.F.entry_dict_get (PySem.F.args_dict_get_2 _ _) (meetsH_dict_get (tupleKind (mixKind X.prog X.w)) a b hd) ⟨tupleKind_room_in1 hu, k, xs, key_of I.hok eb, dd, h _ _ (I.tok _) ?_⟩
    rw [l]
    exact (rel.val k).getD rfl
/-- d.get(y, x) -/
theorem d_get2 {Q : Value → Shared → Prop} (hu : A.units + 1 < cLine) (I : Inv X pins σ H s) (g : DGet H a y o) (ry : RelV y u) (rd : RelV d r) (h : ∀ w' s', Inv X pins σ H s' → RelV (o.getD d) w' → Q w' s') :
    wpAny (model X.prog X.w) A (call (.builtin "dict.get") [.ref a, u, r]) Q E s := by
  rcases g with ⟨kvs, k, e, ey, l⟩ | ⟨kvs, k, b, e, ey, eb, l⟩
  · subst ey
    obtain ⟨z, hd, vs, rel, dd⟩ := dk_rd I.hok e
    refine call_meetsIn PySem.F.slot_dict_get dd.typeIs PySem.F.entry_dict_get (PySem.F.args_dict_get_3 _ _ _) (meets_dict_get_default (mixKind X.prog X.w) a (kV_is ry) hd r) ⟨_, dd.mapOf, h _ _ (I.tok _) ?_⟩
    rw [l]
    exact (rel.val k).getD rd
  · subst ey
    cases (show u = Value.ref b from ry)
    obtain ⟨z, hd, xs, rel, dd⟩ := dt_rd I.hok e
    refine call_meetsIn PySem.F.slot_dict_get dd.typeIs PySem.F.entry_dict_get (PySem.F.args_dict_get_3 _ _ _) (meetsH_dict_get_default (tupleKind (mixKind X.prog X.w)) a b hd r) ⟨tupleKind_room_in1 hu, k, xs, key_of I.hok eb, dd, h _ _ (I.tok _) ?_⟩
    rw [l]
    exact (rel.val k).getD rd
end

def tDGet1 (td ty : TE) : TE := fun σ H Q => td σ H fun x H1 => ∃ a, x = .ref a ∧ IsD H1 a ∧ ty σ H1 fun y H2 => ∃ o, DGet H2 a y o ∧ Q (o.getD .non) H2
def tDGet2 (td ty tx : TE) : TE := fun σ H Q => td σ H fun x H1 => ∃ a, x = .ref a ∧ IsD H1 a ∧ ty σ H1 fun y H2 => tx σ H2 fun z H3 => ∃ o, DGet H3 a y o ∧ Q (o.getD z) H3
/-- d.pop(k): there; d.pop(k, x): there or not -/
def tDPop1 (td ty : TE) : TE := fun σ H Q => td σ H fun x H1 => ∃ a, x = .ref a ∧ IsD H1 a ∧ ty σ H1 fun y H2 => ∃ kvs k v, H2 a = some (.dK kvs) ∧ y = kV k ∧ valV kvs k = some v ∧ Q v (upd H2 a (.dK (dropK kvs k)))
def tDPop2 (td ty tx : TE) : TE := fun σ H Q => td σ H fun x H1 => ∃ a, x = .ref a ∧ IsD H1 a ∧ ty σ H1 fun y H2 => tx σ H2 fun z H3 => ∃ kvs k, H3 a = some (.dK kvs) ∧ y = kV k ∧
  (∀ v, valV kvs k = some v → Q v (upd H3 a (.dK (dropK kvs k)))) ∧ (valV kvs k = none → Q z H3)
section
variable {X : Cx} {o e f : Expr} {apos cpos : Pos} {td ty tx : TE}
theorem pe_dget1 (hu : X.A.units + 1 < cLine) (ho : PE X o td) (he : PE X e ty) (m : M1 X o "get" apos e cpos) : PE X (.Call (.Attribute o "get" apos) [e] [] cpos) (tDGet1 td ty) := by
  intro pins s σ H Q I h
  refine wpAny_Call_method m.base m.few m.line PySem.F.plainAttrs_dict PySem.F.slot_dict_get PySem.F.type_dict_get (thn (ho pins s σ H _ I h) fun u s1 ⟨x, H1, I1, rx, a, ex, d, q1⟩ => ?_)
  subst ex
  obtain rfl : u = Value.ref a := rx
  obtain ⟨t1, t2, _⟩ := isD_at I1 d
  refine ⟨t1, t2, ?_⟩
  rw [m.trees]
  refine Calls.callWith_builtin rfl (Calls.evalArgs_plain (Calls.spliced_cons (thn (he pins s1 σ H1 _ I1 q1) fun iv s2 ⟨y, H2, I2, ry, ov, g, q2⟩ => Calls.spliced_nil ?_)))
  exact d_get1 hu I2 g ry fun w' s3 I3 rw' => ⟨_, H2, I3, rw', q2⟩
theorem pe_dget2 (hu : X.A.units + 1 < cLine) (ho : PE X o td) (he : PE X e ty) (hf : PE X f tx) (m : M2 X o "get" apos e f cpos) : PE X (.Call (.Attribute o "get" apos) [e, f] [] cpos) (tDGet2 td ty tx) := by
  intro pins s σ H Q I h
  refine wpAny_Call_method m.base m.few m.line PySem.F.plainAttrs_dict PySem.F.slot_dict_get PySem.F.type_dict_get (thn (ho pins s σ H _ I h) fun u s1 ⟨x, H1, I1, rx, a, ex, d, q1⟩ => ?_)
  subst ex
  obtain rfl : u = Value.ref a := rx
  obtain ⟨t1, t2, _⟩ := isD_at I1 d
  refine ⟨t1, t2, ?_⟩
  rw [m.trees]
  refine Calls.callWith_builtin rfl (Calls.evalArgs_plain (Calls.spliced_cons (thn (he pins s1 σ H1 _ I1 q1) fun iv s2 ⟨y, H2, I2, ry, q2⟩ =>
    Calls.spliced_cons (thn (hf pins s2 σ H2 _ I2 q2) fun fv s3 ⟨z, H3, I3, rz, ov, g, q3⟩ => Calls.spliced_nil ?_))))
  exact d_get2 hu I3 g ry rz fun w' s4 I4 rw' => ⟨_, H3, I4, rw', q3⟩
theorem pe_dpop1 (ho : PE X o td) (he : PE X e ty) (m : M1 X o "pop" apos e cpos) : PE X (.Call (.Attribute o "pop" apos) [e] [] cpos) (tDPop1 td ty) := by
  intro pins s σ H Q I h
  refine wpAny_Call_method m.base m.few m.line PySem.F.plainAttrs_dict PySem.F.slot_dict_pop PySem.F.type_dict_pop (thn (ho pins s σ H _ I h) fun u s1 ⟨x, H1, I1, rx, a, ex, d, q1⟩ => ?_)
  subst ex
  obtain rfl : u = Value.ref a := rx
  obtain ⟨t1, t2, _⟩ := isD_at I1 d
  refine ⟨t1, t2, ?_⟩
  rw [m.trees]
  refine Calls.callWith_builtin rfl (Calls.evalArgs_plain (Calls.spliced_cons (thn (he pins s1 σ H1 _ I1 q1) fun iv s2 ⟨y, H2, I2, ry, kvs, k, v, ea, ey, l, q2⟩ => Calls.spliced_nil ?_)))
  subst ey
  exact d_pop I2 ea ry l (.inl rfl) fun w' s3 I3 rw' => ⟨v, _, I3, rw', q2⟩
theorem pe_dpop2 (ho : PE X o td) (he : PE X e ty) (hf : PE X f tx) (m : M2 X o "pop" apos e f cpos) : PE X (.Call (.Attribute o "pop" apos) [e, f] [] cpos) (tDPop2 td ty tx) := by
  intro pins s σ H Q I h
  refine wpAny_Call_method m.base m.few m.line PySem.F.plainAttrs_dict PySem.F.slot_dict_pop PySem.F.type_dict_pop (thn (ho pins s σ H _ I h) fun u s1 ⟨x, H1, I1, rx, a, ex, d, q1⟩ => ?_)
  subst ex
  obtain rfl : u = Value.ref a := rx
  obtain ⟨t1, t2, _⟩ := isD_at I1 d
  refine ⟨t1, t2, ?_⟩
  rw [m.trees]
  refine Calls.callWith_builtin rfl (Calls.evalArgs_plain (Calls.spliced_cons (thn (he pins s1 σ H1 _ I1 q1) fun iv s2 ⟨y, H2, I2, ry, q2⟩ =>
    Calls.spliced_cons (thn (hf pins s2 σ H2 _ I2 q2) fun fv s3 ⟨z, H3, I3, rz, kvs, k, ea, ey, q3, q4⟩ => Calls.spliced_nil ?_))))
  subst ey
  cases l : valV kvs k with
  | some v => exact d_pop I3 ea ry l (.inr ⟨fv, rfl⟩) fun w' s4 I4 rw' => ⟨v, _, I4, rw', q3 v l⟩
  | none => exact d_popD I3 ea ry l fun s4 I4 => ⟨z, H3, I4, rz, q4 l⟩
end

/-! ### dict(d): a copy -/
section
variable {X : Cx} {pins : List (Addr × Obj)} {σ : St} {H : Hp} {s : Shared} {a : Addr} {kvs : List (Key × V)} {A : Around} {E : Value → Shared → Prop}
theorem d_copyOf {Q : Value → Shared → Prop} (I : Inv X pins σ H s) (e : Rd H a (.dK kvs)) (h : ∀ p s', H p = none → Inv X pins σ (upd H p (.dK kvs)) s' → Q (.ref p) s') : wpAny (model X.prog X.w) A (call (.type "dict") [.ref a]) Q E s := by
  obtain ⟨z, hd, vs, rel, dd⟩ := dk_rd I.hok e
  refine kt_call_dict hd dd (by rw [← rel.length]; exact z) fun h' dd' hs => ?_
  refine h _ _ (I.hok.fresh (Nat.le_refl _)) (I.laid (a := s.heap.objs.size) (o := .dK kvs) (t' := s.toks) (fun b q hq => ?_) (Nat.le_refl _) (dk_new z (beq_eq_false_iff_ne.mpr (Ne.symm (Nat.ne_of_lt I.big))) rel dd'))
  exact (hs.2 b (Nat.ne_of_lt (Heap.lt_size hq))).trans (Heap.get?_push_of_some _ hq)
end


section
variable {X : Cx} {pins : List (Addr × Obj)} {σ : St} {H : Hp} {s : Shared} {a : Addr} {y : V} {u : Value} {A : Around} {E : Value → Shared → Prop}
/-- d[y], not there: a KeyError -/
theorem d_missing {Q : Value → Shared → Prop} (hu : A.units + 1 < cLine) (hh : A.handled = none) (I : Inv X pins σ H s) (g : DGet H a y none) (ry : RelV y u)
    (h : ∀ h' e t', Heap.NewExc s.heap h' e "KeyError" → E (.ref e) { s with heap := h', toks := t' }) : wpAny (model X.prog X.w) A (getItem (.ref a) u) Q E s := by
  rcases g with ⟨kvs, k, e, ey, l⟩ | ⟨kvs, k, b, e, ey, eb, l⟩
  · subst ey
    obtain ⟨z, hd, vs, rel, dd⟩ := dk_rd I.hok e
    have hn : valueAt vs k = none := RelO.none_of (by rw [l]; exact rel.val k)
    exact wpAny_getItem_missing_of (kV_is ry) hd hh dd.mapOf hn fun h' ex ne => h h' ex _ ne
  · subst ey
    cases (show u = Value.ref b from ry)
    obtain ⟨z, hd, xs, rel, dd⟩ := dt_rd I.hok e
    have hn : (atKey xs k).map (·.2) = none := RelO.none_of (by rw [l]; exact rel.val k)
    exact wpAny_getItem_missing_heap (tupleKind_room_in1 hu) (key_of I.hok eb) hd hh dd (Option.map_eq_none_iff.mp hn) fun h' ex ne => h h' ex _ ne
end
end L2

namespace Att
open PySem PySem.W PySem.Calls PyProof.Rows

/-! ### the script -/
theorem ints_of_wellAll {P : Params} {h : Heap} : ∀ (ns : List Int) (vs : List Value), WellAll P h vs (ns.map WData.int) → IntsAre vs ns := by
  intro ns
  induction ns with
  | nil =>
    intro vs w
    rw [List.map_nil] at w
    cases w
    exact .nil
  | cons n ns ih =>
    intro vs w
    rw [List.map_cons] at w
    cases w with
    | cons a b =>
      cases a
      exact .cons _ _ (ih _ b)

theorem script_of {l : OpenLaw} {n : Nat} (hn : l.most = some n) {P : Params} {h : Heap} {args : List WData} {vals : List Value}
    (hpre : l.row.toRowW.claim.pre args = true) (hwl : WellAll P h vals args) :
    ∃ a vs ns, vals = [Value.ref a] ∧ args = [WData.list (ns.map WData.int)] ∧ h.get? a = some { cls := .type "list", data := .seq vs.toArray } ∧ IntsAre vs ns ∧ ns.length ≤ n := by
  have hsh : WShape.hasAll [] args [.list .int] = true := (pre_splitW hpre).1
  have hc : l.pre.holds [] { args := args } = true := (pre_splitW hpre).2
  obtain ⟨d, r, rfl, h1, h2⟩ := hasAllW_cons hsh
  obtain rfl := hasAllW_nil h2
  obtain ⟨xs, rfl, h3⟩ := hasW_list h1
  obtain ⟨ns, rfl⟩ := items_int h3
  have hlen : ns.length ≤ n := by
    unfold OpenLaw.pre at hc
    have h4 : (WTm.not (.lt (.lit (.int (n : Int))) (.len (.arg 0)))).holds [] { args := [.list (ns.map .int)] } = true := by
      have h4 := (holds_andW hc).1
      rw [hn] at h4
      exact h4
    have h5 := condW_of h4 (w_not (w_lt w_lit (w_len_list (w_arg rfl))))
    rw [List.length_map] at h5
    refine Nat.le_of_not_lt fun q => ?_
    have q' : (n : Int) < ((ns.length : Nat) : Int) := by omega
    first
      | (rw [decide_eq_true q'] at h5; exact absurd h5 (by decide))
      | (simp at h5; omega)
  cases hwl with
  | cons w1 w2 =>
    cases w2
    cases w1 with
    | list ho hall => exact ⟨_, _, ns, rfl, rfl, ho, ints_of_wellAll ns _ hall, hlen⟩

theorem post_true (l : OpenLaw) (args : List WData) : l.row.toRowW.claim.post args (.bool true) args = true :=
  postW_of (r := l.row.toRowW) (X := (true == true))
    (show WShape.has [] (.bool true) .bool = true by first | rfl | decide | simp [WShape.has, WShape.arms, WShape.armsAll])
    (show (WTm.eq .res (.lit (.bool true))).value [] { args := args, res := some (.bool true), after := args } = some (.bool (true == true)) from w_eq_bool (w_res rfl) w_lit) rfl

/-! ### the attachment: holds_open's last premise (the goal 'hc' behind k_head) from a wpAny of the law's body -/
theorem attach {l : OpenLaw} {n : Nat} {q : Program} {loose : List Str} {XP : (Str → Option Value) → Heap → Prop} {YP : World → Heap → Prop} {d : DefRec} {x : Str}
    (hn : l.most = some n) (hdf : d.params.defaults = [])
    (hbind : ∀ pm cd doc v : Value, bindArgs (docDef d.name d.params d.body d.scope pm cd doc) ⟨[v], []⟩ = pure [(x, v)])
    (hx : d.scope.names.lookup x = some .local ∨ d.scope.names.lookup x = some .cell)
    (hk : d.scope.kind = .function) (hco : d.scope.isCoroutine = false) (hgen : d.scope.isGenerator = false)
    (body : ∀ (w : World) (s₀ s₁ s : Shared) (mg mb : Str → Option Value) (fa : Addr) (o : Obj) (pm cd doc : Value) (a : Addr) (vs : List Value) (ns : List Int),
      Ground q loose [] XP w s₀ mg mb s₁.heap → YP w s₁.heap →
      s₁.heap.get? fa = some o → o.data = .func (docDef d.name d.params d.body d.scope pm cd doc) → s₁.heap.CodeRec cd d.name → mg d.name = some (.ref fa) →
      s₁.heap.get? a = some { cls := .type "list", data := .seq vs.toArray } → IntsAre vs ns → ns.length ≤ n →
      s.gens = #[] → s.os = s₁.os →
      Fr s₁.heap s₁.heap.objs.size s.heap (bindL (envOfC d.name d.scope s₁.heap.objs.size fa cd).kindOf [(x, .ref a)] fun _ => none) →
      Cl s₁.heap.objs.size (cellsFrom (s₁.heap.objs.size + 1) d.scope.names []) s.heap (bindC (envOfC d.name d.scope s₁.heap.objs.size fa cd).kindOf [(x, .ref a)] fun _ => none) →
      wpAny (model l.prog w) (callerA.deeper (envOfC d.name d.scope s₁.heap.objs.size fa cd)) (execs d.body (envOfC d.name d.scope s₁.heap.objs.size fa cd))
        (fun f s' => f = .ret (.bool true) ∧ OldK s₁.heap s'.heap ∧ s'.os = s₁.os ∧ AllBare s'.gens) (fun _ _ => False) s) :
    WalkO q loose XP YP l.row.toRowW d [] (fun f vs => PySem.call f vs) := by
  intro w s₀ s₁ mg mb G Y fa o pm cd doc dV kV ho hd hcd hD hmg hg args vals as hpre hlay hrd hwl hlo
  obtain rfl : dV = .none := Dflts.none hD hdf
  obtain rfl : kV = .none := Dflts.noKw hD
  obtain ⟨a, vs, ns, rfl, rfl, hobj, hints, hlen⟩ := script_of hn hpre hwl
  refine enter_call ?_
  refine call_cells_ret (o := o) (by rw [depth_caller]; decide) ho (fd_plain hd) G.T.nolimit hcd (hbind pm cd doc (.ref a)) (fun y hy => ?_) (fun h₁ tk F X => ?_) hco hgen hk
  · obtain rfl : y = (x, Value.ref a) := List.mem_singleton.mp hy
    rcases hx with e | e
    · exact .inl e
    · exact .inr ⟨e, cellsFrom_some _ _ _ (.inl e)⟩
  · refine wpAny_mono (body w s₀ s₁ { s₁ with heap := h₁, toks := tk } mg mb fa o pm cd doc a vs ns G Y ho (fd_plain hd) hcd hmg hobj hints hlen hg rfl F X) (fun f s' hq => ?_) (fun _ _ hq => hq)
    obtain ⟨rfl, h2, h3, h4⟩ := hq
    exact ⟨.inl ⟨.bool true, .bool true, [], rfl, fun _ => rfl, .bool true, post_true l _, fun _ => ⟨List.Pairwise.nil, fun _ hm => (nomatch hm)⟩⟩, h2, h3, h4⟩

/-- the same from a codeAny of the CALL (for a layer whose function contracts speak of calls) -/
theorem attach_call {l : OpenLaw} {n : Nat} {q : Program} {loose : List Str} {XP : (Str → Option Value) → Heap → Prop} {YP : World → Heap → Prop} {d : DefRec}
    (hn : l.most = some n) (hdf : d.params.defaults = [])
    (call : ∀ (w : World) (s₀ s₁ : Shared) (mg mb : Str → Option Value) (fa : Addr) (o : Obj) (pm cd doc : Value) (a : Addr) (vs : List Value) (ns : List Int),
      Ground q loose [] XP w s₀ mg mb s₁.heap → YP w s₁.heap →
      s₁.heap.get? fa = some o → o.data = .func (docDef d.name d.params d.body d.scope pm cd doc) → s₁.heap.CodeRec cd d.name → mg d.name = some (.ref fa) →
      s₁.heap.get? a = some { cls := .type "list", data := .seq vs.toArray } → IntsAre vs ns → ns.length ≤ n → s₁.gens = #[] →
      codeAny (model l.prog w) callerA (.call (.ref fa) ⟨[.ref a], []⟩) (fun r s' => r = .ok (.ret (.bool true)) ∧ OldK s₁.heap s'.heap ∧ s'.os = s₁.os ∧ AllBare s'.gens) s₁) :
    WalkO q loose XP YP l.row.toRowW d [] (fun f vs => PySem.call f vs) := by
  intro w s₀ s₁ mg mb G Y fa o pm cd doc dV kV ho hd hcd hD hmg hg args vals as hpre hlay hrd hwl hlo
  obtain rfl : dV = .none := Dflts.none hD hdf
  obtain rfl : kV = .none := Dflts.noKw hD
  obtain ⟨a, vs, ns, rfl, rfl, hobj, hints, hlen⟩ := script_of hn hpre hwl
  refine enter_call (codeAny_mono (call w s₀ s₁ mg mb fa o pm cd doc a vs ns G Y ho (fd_plain hd) hcd hmg hobj hints hlen hg) fun r s' hq => ?_)
  obtain ⟨rfl, h2, h3, h4⟩ := hq
  exact ⟨.inl ⟨.bool true, .bool true, [], rfl, fun _ => rfl, .bool true, post_true l _, fun _ => ⟨List.Pairwise.nil, fun _ hm => (nomatch hm)⟩⟩, h2, h3, h4⟩

/-- the same where the top left finished generators (o_head chose holds_openN): nothing may have changed at all and no generator may be left -/
theorem attachN {l : OpenLaw} {n : Nat} {q : Program} {loose : List Str} {XP : (Str → Option Value) → Heap → Prop} {YP : World → Heap → Prop} {d : DefRec} {x : Str}
    (hn : l.most = some n) (hdf : d.params.defaults = [])
    (hbind : ∀ pm cd doc v : Value, bindArgs (docDef d.name d.params d.body d.scope pm cd doc) ⟨[v], []⟩ = pure [(x, v)])
    (hx : d.scope.names.lookup x = some .local ∨ d.scope.names.lookup x = some .cell)
    (hk : d.scope.kind = .function) (hco : d.scope.isCoroutine = false) (hgen : d.scope.isGenerator = false)
    (body : ∀ (w : World) (s₀ s₁ s : Shared) (mg mb : Str → Option Value) (fa : Addr) (o : Obj) (pm cd doc : Value) (a : Addr) (vs : List Value) (ns : List Int),
      Ground q loose [] XP w s₀ mg mb s₁.heap → YP w s₁.heap →
      s₁.heap.get? fa = some o → o.data = .func (docDef d.name d.params d.body d.scope pm cd doc) → s₁.heap.CodeRec cd d.name → mg d.name = some (.ref fa) →
      s₁.heap.get? a = some { cls := .type "list", data := .seq vs.toArray } → IntsAre vs ns → ns.length ≤ n →
      s.gens = #[] → s.os = s₁.os →
      Fr s₁.heap s₁.heap.objs.size s.heap (bindL (envOfC d.name d.scope s₁.heap.objs.size fa cd).kindOf [(x, .ref a)] fun _ => none) →
      Cl s₁.heap.objs.size (cellsFrom (s₁.heap.objs.size + 1) d.scope.names []) s.heap (bindC (envOfC d.name d.scope s₁.heap.objs.size fa cd).kindOf [(x, .ref a)] fun _ => none) →
      wpAny (model l.prog w) (callerA.deeper (envOfC d.name d.scope s₁.heap.objs.size fa cd)) (execs d.body (envOfC d.name d.scope s₁.heap.objs.size fa cd))
        (fun f s' => f = .ret (.bool true) ∧ (∀ b o, s₁.heap.get? b = some o → s'.heap.get? b = some o) ∧ s'.os = s₁.os ∧ s'.gens = #[]) (fun _ _ => False) s) :
    WalkN q loose XP YP l.row.toRowW d [] (fun f vs => PySem.call f vs) := by
  intro w s₀ s₁ mg mb G Y fa o pm cd doc dV kV ho hd hcd hD hmg hg args vals as hpre hlay hrd hwl hlo
  obtain rfl : dV = .none := Dflts.none hD hdf
  obtain rfl : kV = .none := Dflts.noKw hD
  obtain ⟨a, vs, ns, rfl, rfl, hobj, hints, hlen⟩ := script_of hn hpre hwl
  refine enter_callW ?_
  refine call_cells_ret (o := o) (by rw [depth_caller]; decide) ho (fd_plain hd) G.T.nolimit hcd (hbind pm cd doc (.ref a)) (fun y hy => ?_) (fun h₁ tk F X => ?_) hco hgen hk
  · obtain rfl : y = (x, Value.ref a) := List.mem_singleton.mp hy
    rcases hx with e | e
    · exact .inl e
    · exact .inr ⟨e, cellsFrom_some _ _ _ (.inl e)⟩
  · refine wpAny_mono (body w s₀ s₁ { s₁ with heap := h₁, toks := tk } mg mb fa o pm cd doc a vs ns G Y ho (fd_plain hd) hcd hmg hobj hints hlen hg rfl F X) (fun f s' hq => ?_) (fun _ _ hq => hq)
    obtain ⟨rfl, h2, h3, h4⟩ := hq
    exact ⟨.inl ⟨.bool true, .bool true, [], rfl, fun _ => rfl, .bool true, post_true l _, fun _ => ⟨List.Pairwise.nil, fun _ hm => (nomatch hm)⟩⟩, h2, h3, h4⟩

/-! ### rules over ANY heap (no ledger) from facts about the written part K: the library's own take a ledger (News) for what they write -/
section
variable {prog : Program} {w : World} {A : Around} {E : Value → Shared → Prop} {s : Shared} {K : Frag}

/-- a def of the module, or a method (qual 'C.m'), entered: the frame is the next address; cells behind it -/
theorem call_fn {R : Result → Shared → Prop} {name qual : Str} {params : Arguments} {body : List Stmt} {scope : Scope} {dV kV doc pm cdv ct oc : Value} {an od : Option Addr} {osl : Array (Option Value)} {f : Addr} {args : Args} {binds : List (Str × Value)}
    (X : K.In s.heap) (hlim : s.heap.NoLimit) (ho : K.lookup f = some ⟨oc, od, .func (fnOf name qual params body scope dV kV doc pm an cdv ct), osl⟩) (hcd : codeIn K cdv qual = true) (hroom : A.depth < recursionLimit)
    (hbind : BindsTo s (fnOf name qual params body scope dV kV doc pm an cdv ct) args binds)
    (hkind : (binds.all fun y => scope.names.lookup y.1 == some .local || scope.names.lookup y.1 == some .cell) = true)
    (h : ∀ s₁, InCallC s s.heap.objs.size (bindL (envOfC qual scope s.heap.objs.size f cdv).kindOf binds fun _ => none) (cellsFrom (s.heap.objs.size + 1) scope.names [])
        (bindC (envOfC qual scope s.heap.objs.size f cdv).kindOf binds fun _ => none) s₁ →
      wpAny (model prog w) (A.deeper (envOfC qual scope s.heap.objs.size f cdv)) (execs body (envOfC qual scope s.heap.objs.size f cdv))
        (fun fl s' => R (.ok (.ret (match fl with | .ret v => v | _ => .none))) s')
        (fun e s' => wpAny (model prog w) (A.deeper (envOfC qual scope s.heap.objs.size f cdv)) (leaving (envOfC qual scope s.heap.objs.size f cdv) e) (fun _ s'' => R (.error e) s'') (fun e' s'' => R (.error e') s'') s') s₁)
    (hco : scope.isCoroutine = false) (hgen : scope.isGenerator = false) (hk : scope.kind = .function) : codeAny (model prog w) A (.call (.ref f) args) R s := by
  refine codeAny_call_function hroom (X _ _ ho) rfl hco hgen rfl (codeRec_of X hcd) (hbind _ _ _ _ ?_)
  refine wpAny_newFunctionEnv_cells hk (kindsX hkind _) fun env he s₁ x => ?_
  subst he
  exact ⟨hlim.keeps x.toInCall.keep, codeAny_func (h s₁ x)⟩

/-- C(..): dict at size, instance at size + 1, then __init__ -/
theorem make_obj {R : Result → Shared → Prop} {C fI : Addr} {rest : List Value} {kw : List (Str × Value)}
    (X : K.In s.heap) (hm : makesIn K C = true) (hi : findIn K (.ref C) "__init__" = some (some (.ref fI))) (hf : isFn K (.ref fI) = true)
    (h : codeAny (model prog w) (A.under (.builtin "type.__call__" ⟨.ref C :: rest, kw⟩)) (.call (.ref fI) ⟨.ref (s.heap.objs.size + 1) :: rest, kw⟩) (InitBack (s.heap.objs.size + 1) R)
      { s with heap := (s.heap.push emptyDict).push (instObj C s.heap.objs.size) }) : codeAny (model prog w) A (.call (.ref C) ⟨rest, kw⟩) R s := by
  obtain ⟨hh, g, d, t, os⟩ := s
  exact make_core (makes_of X hm) (looks_findIn X hi) (fun self => bind_fn X self (beq_iff_eq.mp hf)) (.inl rfl) h

/-- x.name where the instance's dict holds the name and the class does not -/
theorem get_field {x C : Addr} {ox : Obj} {es : List DictEntry} {n : Nat} {name : Str} {expr : Bool} {v : Value} {Q : Value → Shared → Prop}
    (X : K.In s.heap) (I : PySem.W.InstAt s.heap x ox C (some (dictOf es n))) (hg : plainGet K C name = true) (hh : hasDictIn K C = true) (ha : findIn K (.ref C) name = some none)
    (hl : getL name es = some (some v)) (hv : handedIn v = true) (h : Q v { s with toks := s.toks + 1 }) : wpAny (model prog w) A (getAttr (.ref x) name expr) Q E s :=
  get_value X I (plainGet_of hg).1 (findObj_own hh ha rfl hl) hv h

/-- x.m(..): the method found in the class -/
theorem get_method {x C f : Addr} {ox : Obj} {es : List DictEntry} {n : Nat} {name : Str} {pl : Sem Bool} {Q : Value × List Value → Shared → Prop}
    (X : K.In s.heap) (I : PySem.W.InstAt s.heap x ox C (some (dictOf es n))) (hg : plainGet K C name = true) (hf : findIn K (.ref C) name = some (some (.ref f))) (ht : isFn K (.ref f) = true)
    (hl : getL name es = some none) (h : Q (.ref f, [.ref x]) s) : wpAny (model prog w) A (getMethod (.ref x) name pl) Q E s :=
  method_fn X I (plainGet_of hg).1 (plainGet_of hg).2 hf (beq_iff_eq.mp ht) (by show (lookIn name (dictOf es n)).map _ = _; rw [lookIn_dict, hl]; rfl) h

/-! the whole heap as the ledger: makes every rule that writes through a ledger a rule over any heap -/
def noObjs (h : Heap) : Heap := { h with objs := #[] }
theorem noObjs_get (h : Heap) (b : Addr) : (noObjs h).get? b = none := by
  cases e : (noObjs h).get? b with
  | none => rfl
  | some o => exact absurd (Heap.lt_size e) (Nat.not_lt_zero _)
def ledger (h : Heap) (L d : Addr) : List (Addr × Obj) := (List.range h.objs.size).filterMap fun a => if a = L ∨ a = d then none else (h.get? a).map fun o => (a, o)
theorem mem_ledger {h : Heap} {L d a : Addr} {o : Obj} : (a, o) ∈ ledger h L d ↔ a ≠ L ∧ a ≠ d ∧ h.get? a = some o := by
  unfold ledger
  rw [List.mem_filterMap]
  constructor
  · rintro ⟨b, _, e⟩
    split at e
    · cases e
    · rename_i hb
      obtain ⟨o', ho, e'⟩ := Option.map_eq_some_iff.mp e
      cases e'
      exact ⟨fun q => hb (.inl q), fun q => hb (.inr q), ho⟩
  · rintro ⟨n1, n2, ho⟩
    refine ⟨a, List.mem_range.mpr (Heap.lt_size ho), ?_⟩
    rw [if_neg (show ¬ (a = L ∨ a = d) from fun q => q.elim n1 n2), ho] <;> rfl
theorem news_ledger {h : Heap} {L d : Addr} {od : Obj} (hne : d ≠ L) (ho : h.get? d = some od) : News (noObjs h) L h ([] ++ (d, od) :: ledger h L d) := by
  rintro ⟨a, o⟩ hp
  rcases List.mem_cons.mp hp with e | hp
  · cases e
    exact ⟨ho, hne, noObjs_get _ _⟩
  · obtain ⟨n1, n2, e⟩ := mem_ledger.mp hp
    exact ⟨e, n1, noObjs_get _ _⟩
theorem fr_all {h : Heap} {L : Addr} {m : Str → Option Value} (n : h.Ns L m) : Fr (noObjs h) L h m :=
  ⟨n, fun b o e => (by rw [noObjs_get] at e; cases e), Nat.zero_le _⟩
/-- Upd of the head entry (for append_K, setItem_K ..) -/
theorem upd_ledger {h : Heap} {L d : Addr} {o o' : Obj} : Upd d o o' ((d, o) :: ledger h L d) ((d, o') :: ledger h L d) :=
  .head fun ⟨_, _⟩ hp => (mem_ledger.mp hp).2.1

/-- x.name = v over any heap: L is any namespace of the heap (the frame's, say): its map stays, its object is not told; all else but the dict stays -/
theorem set_field {x C dx L : Addr} {ox : Obj} {m : Str → Option Value} {es es' : List DictEntry} {n n' : Nat} {name : Str} {v : Value} {Q : Unit → Shared → Prop}
    (X : K.In s.heap) (I : PySem.W.InstAt s.heap x ox C (some (dictOf es n))) (hd : ox.dict = some dx) (hL : s.heap.Ns L m) (hne : dx ≠ L)
    (hs : findIn K (.ref C) "__setattr__" = some (some (.builtin "object.__setattr__"))) (hp : plainOver K C = true) (ht : takerIn K C name = some none) (hh : hasDictIn K C = true) (hl : (getL name es).isSome = true)
    (e : (putL name (PyData.keyHash w.params name) (.str name (s.toks + 1)) v es, putN name es n) = (es', n')) (hz : es'.length ≤ 1000)
    (h : ∀ h' : Heap, h'.Ns L m → h'.get? dx = some (dictOf es' n') → (∀ b o, b ≠ dx → b ≠ L → s.heap.get? b = some o → h'.get? b = some o) → Q () { s with heap := h', toks := s.toks + 2 }) :
    wpAny (model prog w) A (setAttr (.ref x) name v) Q E s := by
  obtain ⟨e1, e2⟩ := Prod.mk.inj e
  have hdx : s.heap.get? dx = some (dictOf es n) := by
    have := I.dict
    rw [hd] at this
    exact this
  refine set_plain X I hs (osa_dict (s := { s with toks := s.toks + 1 }) (h₀ := noObjs s.heap) (L := L) (m := m) (od := dictOf es n) (od' := dictOf es' n') (es := es') (n := n') (pre := []) (post := ledger s.heap L dx)
    (fr_all hL) (news_ledger hne hdx) X I hd hp ht hh hl (fun _ q => nomatch q) (fun ⟨_, _⟩ q => (mem_ledger.mp q).2.1) (by rw [putName_dict, e1, e2]) rfl hz fun h' F' N' => ?_)
  exact h h' F'.ns (N'.get (List.Mem.head _)) fun b o n1 n2 ho => N'.get (List.Mem.tail _ (mem_ledger.mpr ⟨n2, n1, ho⟩))
end
end Att

namespace L2
open PySem PySem.Spec PyProof.Rows

theorem vals_ints : ∀ {vs : List Value} {ns : List Int}, IntsAre vs ns → Vals (ns.map V.int) vs
  | _, _, .nil => .nil
  | _, _, .cons n t h => .cons ⟨t, rfl⟩ (vals_ints h)

/-- nothing is tracked but the script, known to the object (or it is an object of the module) -/
def Only (H : Hp) : Prop := ∀ b, H b = none ∨ ∃ o xs, H b = some (.frz o (.lst xs))

/-- THE HEAD: the law's promise, at the heap behind the top. F, the promise of the law's def, may use that base is part of the heap (so K.In base, base.Ns mainGlobals mg stand in Mod) -/
theorem law_call {P : Program} {w : World} {K : PySem.W.Frag} {mg mb : Str → Option Value} {CX : CXT} {k : Nat} {fa a : Addr} {fd : FuncData} {x : Str} {sp : Sp} {s₁ : Shared} {vs : List Value} {ns : List Int}
    (KX : K.In s₁.heap) (hns : s₁.heap.Ns mainGlobals mg) (hb : s₁.heap.Ns builtinsNs mb) (hbb : ∀ x : Str, x ≠ "__name__" → mb x = bootBuiltins x) (hlim : s₁.heap.NoLimit) (hg : s₁.gens = #[])
    (ha : s₁.heap.get? a = some { cls := .type "list", data := .seq vs.toArray }) (hi : IntsAre vs ns) (hl : ns.length ≤ sizeLine) (hr : Room k callerA)
    (F : ∀ base : Heap, K.In base → base.Ns mainGlobals mg → FnOk P w K mg base CX k fa fd [x] sp) (hbind : ∀ (s : Shared) (u : Value), BindsTo s fd ⟨[u], []⟩ [(x, u)])
    (hsp : ∀ H : Hp, Only H → SqL K H a (ns.map V.int) → sp [.ref a] H (fun v _ => v = .bl true) fun _ _ _ => False)
    (hCX : ∀ H e s', CX [] H s₁ (fun _ _ _ => False) e s' → False) :
    codeAny (model P w) callerA (.call (.ref fa) ⟨[.ref a], []⟩) (fun r s' => r = .ok (.ret (.bool true)) ∧ OldK s₁.heap s'.heap ∧ s'.os = s₁.os ∧ AllBare s'.gens) s₁ := by
  have rv := vals_ints hi
  have lenV := hi.length
  -- from an abstract heap in which nothing but the script may be tracked
  have core : ∀ H : Hp, Only H → SqL K H a (ns.map V.int) → HOk P w H s₁.heap → (∀ b, H b ≠ none → b = a) → (H a ≠ none → K.lookup a = none) →
      codeAny (model P w) callerA (.call (.ref fa) ⟨[.ref a], []⟩) (fun r s' => r = .ok (.ret (.bool true)) ∧ OldK s₁.heap s'.heap ∧ s'.os = s₁.os ∧ AllBare s'.gens) s₁ := by
    intro H hO hS hok hA hK
    have base_of : ∀ {b : Addr} {o : Obj}, s₁.heap.get? b = some o → H b = none → (hidT s₁.heap H).get? b = some o := fun e n => hidT_get e n
    have noA : ∀ {b : Addr} {o : Obj} {es : Array DictEntry} {ep : Nat}, s₁.heap.get? b = some o → o.data = .dict es ep → H b = none := fun {b o es ep} e d => by
      cases q : H b with
      | none => rfl
      | some u =>
        have e' : b = a := hA b (by rw [q]; simp)
        subst e'
        rw [ha] at e; cases e
        have d' : Data.seq vs.toArray _ = Data.dict es ep := d
        cases d'
    have nsK : ∀ {b : Addr} {m : Str → Option Value}, s₁.heap.Ns b m → (hidT s₁.heap H).Ns b m := fun {b m} ⟨o, es, ep, e, d, r⟩ => ⟨o, es, ep, base_of e (noA e d), d, r⟩
    have hKb : K.In (hidT s₁.heap H) := fun b o e => base_of (KX b o e) (by
      cases q : H b with
      | none => rfl
      | some u =>
        have e' : b = a := hA b (by rw [q]; simp)
        subst e'
        rw [hK (by rw [q]; simp)] at e; cases e)
    have hM : Mod K mg (hidT s₁.heap H) := ⟨hKb, nsK hns, ⟨mb, nsK hb, hbb⟩, let ⟨mc, h1, h2⟩ := hlim; ⟨mc, nsK h1, h2⟩⟩
    have e0 : Env0 P w K mg (hidT s₁.heap H) callerA [] s₁ H := ⟨rfl, hM, fun b o e => of_hidT e, Nat.le_of_eq (hidT_size _ _), trivial, fun b hb => absurd (show b ∈ ([] : List Addr) from hb) (by simp), hok, .of_eq hg⟩
    refine codeAny_mono ((F _ hKb (nsK hns)).run callerA [] s₁ H ⟨[.ref a], []⟩ [.ref a] [.ref a] _ _ hr e0 (hbind s₁ (.ref a)) (.cons rfl .nil) (hsp H hO hS)) fun r s' h => ?_
    cases r with
    | error e => exact (hCX H e s' h).elim
    | ok fl =>
      cases fl with
      | next => exact False.elim h
      | brk => exact False.elim h
      | cont => exact False.elim h
      | ret u =>
        obtain ⟨v, H', os, bare, un, hok', r', q⟩ := h
        have q' : v = .bl true := q
        subst q'
        obtain rfl : u = Value.bool true := r'
        refine ⟨rfl, OldK.of_keep fun b o e => ?_, os, bare⟩
        cases q : H b with
        | none => exact un.keep b o e q (by intro z; exact absurd (show b ∈ ([] : List Addr) from z) (by simp)) (by simp)
        | some u =>
          rcases hO b with z | ⟨ob, xs, z⟩
          · rw [q] at z; cases z
          · have z2 := un.frzs b ob _ z
            obtain ⟨e1, _⟩ := hok b _ z
            obtain ⟨e2, _⟩ := hok' b _ z2
            rw [e] at e1; cases e1
            exact e2
  cases hk : K.lookup a with
  | some o =>
    -- the script is one of the module's own objects
    have e := KX a o hk
    rw [ha] at e
    cases e
    refine core (fun _ => none) (fun _ => .inl rfl) (.inr ⟨_, vs.toArray, _, hk, rfl, rfl, rfl, by rw [List.size_toArray, lenV]; exact hl, by simpa using rv⟩) (fun b u z => by have z' : (none : Option HO) = some u := z; cases z') (fun b z => absurd rfl z) fun z => absurd rfl z
  | none =>
    refine core (fun b => if b = a then some (.frz { cls := .type "list", data := .seq vs.toArray } (.lst (ns.map V.int))) else none) (fun b => ?_) (.inl (.inr ⟨{ cls := .type "list", data := .seq vs.toArray }, if_pos rfl⟩)) (fun b u z => ?_) (fun b z => ?_) fun _ => hk
    · by_cases hb : b = a
      · exact .inr ⟨_, _, if_pos hb⟩
      · exact .inl (if_neg hb)
    · by_cases hb : b = a
      · have z' := (if_pos hb).symm.trans z
        cases z'
        subst hb
        exact ⟨ha, by rw [List.length_map]; exact hl, vs, _, rv, ha⟩
      · have z' := (if_neg hb).symm.trans z
        cases z'
    · by_cases hb : b = a
      · exact hb
      · exact absurd (if_neg hb) z
end L2

namespace L2
open PySem PySem.Spec PyProof.Rows

abbrev KOf {K : PySem.W.Frag} {h : Heap} (_ : K.In h) : PySem.W.Frag := K

/-- the goal that k_head leaves (case hc), from the law's promise. F gives the function object fd (K's own) once, then the promise over every base -/
theorem walk_of {l : PySem.W.OpenLaw} {n k : Nat} {q : Program} {loose : List Str} {XP : (Str → Option Value) → Heap → Prop} {YP : World → Heap → Prop} {d : DefRec} {K : Params → PySem.W.Frag} {CX : World → CXT} {sp : World → Sp} {x : Str}
    (hn : l.most = some n) (hn2 : n ≤ sizeLine) (hdf : d.params.defaults = []) (hr : Room k callerA)
    (hY : ∀ (w : World) (h : Heap), YP w h → (K w.params).In h)
    (F : ∀ (w : World) (mg : Str → Option Value) (fa : Addr) (h : Heap), (K w.params).In h → h.Ns mainGlobals mg → mg d.name = some (.ref fa) →
      ∃ fd : FuncData, (∀ (s : Shared) (u : Value), BindsTo s fd ⟨[u], []⟩ [(x, u)]) ∧
        ∀ base : Heap, (K w.params).In base → base.Ns mainGlobals mg → FnOk l.prog w (K w.params) mg base (CX w) k fa fd [x] (sp w))
    (hsp : ∀ (w : World) (H : Hp) (a : Addr) (ns : List Int), ns.length ≤ n → Only H → SqL (K w.params) H a (ns.map V.int) → sp w [.ref a] H (fun v _ => v = .bl true) fun _ _ _ => False)
    (hCX : ∀ (w : World) (H : Hp) (s : Shared) (e : Value) (s' : Shared), CX w [] H s (fun _ _ _ => False) e s' → False) :
    PySem.W.WalkO q loose XP YP l.row.toRowW d [] (fun f vs => PySem.call f vs) := by
  refine Att.attach_call hn hdf fun w s₀ s₁ mg mb fa o pm cd doc a vs ns G Y ho hd hcd hmg hobj hints hlen hg => ?_
  have KX := hY w _ Y
  obtain ⟨fd, hb, hF⟩ := F w mg fa _ KX G.T.g hmg
  exact law_call KX G.T.g G.T.b G.T.builtins G.T.nolimit hg hobj hints (Nat.le_trans hlen hn2) hr hF hb (fun H hO hS => hsp w H a ns hlen hO hS) fun H e s' => hCX w H s₁ e s'
/-- the same where the promise hangs on the written part alone: (sp := My.sp_law), no hole under a binder -/
theorem walk_ofK {l : PySem.W.OpenLaw} {n k : Nat} {q : Program} {loose : List Str} {XP : (Str → Option Value) → Heap → Prop} {YP : World → Heap → Prop} {d : DefRec} {K : Params → PySem.W.Frag} {CX : CXT} {sp : PySem.W.Frag → Sp} {x : Str}
    (hn : l.most = some n) (hn2 : n ≤ sizeLine) (hdf : d.params.defaults = []) (hr : Room k callerA)
    (hY : ∀ (w : World) (h : Heap), YP w h → (K w.params).In h)
    (F : ∀ (w : World) (mg : Str → Option Value) (fa : Addr) (h : Heap), (K w.params).In h → h.Ns mainGlobals mg → mg d.name = some (.ref fa) →
      ∃ fd : FuncData, (∀ (s : Shared) (u : Value), BindsTo s fd ⟨[u], []⟩ [(x, u)]) ∧
        ∀ base : Heap, (K w.params).In base → base.Ns mainGlobals mg → FnOk l.prog w (K w.params) mg base CX k fa fd [x] (sp (K w.params)))
    (hsp : ∀ (K : PySem.W.Frag) (H : Hp) (a : Addr) (ns : List Int), ns.length ≤ n → Only H → SqL K H a (ns.map V.int) → sp K [.ref a] H (fun v _ => v = .bl true) fun _ _ _ => False)
    (hCX : ∀ (H : Hp) (s : Shared) (e : Value) (s' : Shared), CX [] H s (fun _ _ _ => False) e s' → False) :
    PySem.W.WalkO q loose XP YP l.row.toRowW d [] (fun f vs => PySem.call f vs) :=
  walk_of (K := K) (CX := fun _ => CX) (sp := fun w => sp (K w.params)) hn hn2 hdf hr hY F (fun w H a ns h1 h2 h3 => hsp (K w.params) H a ns h1 h2 h3) fun _ H s e s' => hCX H s e s'
end L2

/- THE LAST THEOREM (shape; LID, My.* are yours):
   My.Adr: a structure of the addresses that your layer names (classes, functions); My.Txt K t: a structure (Prop) of the equations over K;
   My.txt_mk : {K} {implicit addresses ..} (e1 : nsIn K mainGlobals "law" = some (some (.ref f))) (e2 : K.lookup f = some ⟨oc, od, .func (fnOf "law" "law" params body scope dV kV doc pm an cdv ct), sl⟩) (e3 : codeIn K cdv "law" = true) .. : ∃ t, My.Txt K t

set_option maxRecDepth 100000 in
set_option maxHeartbeats 0 in
theorem PySem.Challenge.cw_LID_holds : PySem.Challenge.rw_LID.Holds := by
  w_on; o_law; k_head; (case hw => w_witness2)
  k_fill
  refine L2.walk_of (l := PySem.Challenge.rw_LID) (n := 63) (k := 40) (x := "script") (CX := fun w => ..) (sp := fun _ => My.sp_law) rfl (by decide) rfl ⟨rfl, by decide, by decide⟩ (fun w h Y => PySem.W.kIn_of Y) ?F ?S ?C
  case F =>
    intro w mg fa h KX G hmg
    have T : ∃ t, My.Txt (L2.KOf KX) t := by
      dsimp only [L2.KOf]                          -- K must stand as «<heap const> w.params» for k_is
      refine' My.txt_mk ?e1 ?e2 ?e3 ..
      (case e1 => PySem.W.k_is)                    -- in the order: a name -> its address -> its object -> its parts
      (case e2 => PySem.W.k_is)
      ..
    obtain ⟨t, T⟩ := T
    have e0 := hmg.symm.trans (PySem.W.mg_of KX G T.law)
    cases e0                                       -- fa is the law's own address
    exact ⟨_, fun s u => .of_eq rfl, fun base kb nb => My.law_fn T kb nb⟩     -- if «.of_eq rfl» comes too early: refine' ⟨_, ?b, fun base kb nb => My.law_fn T kb nb⟩; exact fun s u => .of_eq rfl
  case S => exact fun w H a ns hl hO hS => ..
  case C => exact ..
(the tactic k_is has no namespace: write k_is) -/

/-! SHORT WORDS over the layer: a def of the text, its body, what a loop and a test want. -/
namespace L2
open PySem PySem.Spec PyProof.Rows

/-! ### the text by places -/
/-- the j-th statement of a class's body -/
def inClass (s : Stmt) (j : Nat) : Stmt := match s with
  | .ClassDef _ _ _ body _ _ _ _ _ _ _ => body.getD j (.Pass ⟨0, 0, 0, 0⟩)
  | _ => .Pass ⟨0, 0, 0, 0⟩
def defArgs (s : Stmt) : Arguments := match s with
  | .FunctionDef _ a _ _ _ _ _ _ _ _ => a
  | _ => { posonlyargs := [], args := [], vararg := none, kwonlyargs := [], kw_defaults := [], kwarg := none, defaults := [] }
def defBody (s : Stmt) : List Stmt := match s with
  | .FunctionDef _ _ b _ _ _ _ _ _ _ => b
  | _ => []
def defScope (s : Stmt) : Scope := match s with
  | .FunctionDef _ _ _ _ _ _ sc _ _ _ => sc
  | _ => { kind := .function, names := [], isGenerator := false, isCoroutine := false }

/-! ### no exception leaves a def -/
abbrev CX0 : CXT := fun _ _ _ _ _ _ => False
abbrev E0 : XK := fun _ _ _ => False
theorem pass0 {X : Cx} : Passes CX0 X E0 := fun _ _ _ _ _ _ _ h => h.elim

/-! ### a def (or method) of the text as it stands behind the top -/
structure Fun (K : PySem.W.Frag) (x qual : Str) (st : Stmt) (f : Addr) (fd : FuncData) : Prop where
  ex : ∃ (oc : Value) (od : Option Addr) (kV doc pm : Value) (an : Option Addr) (cdv ct : Value) (osl : Array (Option Value)),
    fd = PySem.W.fnOf x qual (defArgs st) (defBody st) (defScope st) .none kV doc pm an cdv ct ∧ K.lookup f = some ⟨oc, od, .func fd, osl⟩ ∧ PySem.W.codeIn K cdv qual = true
  kp : PySem.W.keepIn K (.ref f) = true
section
variable {P : Program} {w : World} {K : PySem.W.Frag} {mg : Str → Option Value} {base : Heap}
/-- THE RULE for a def: its body as a term of rules, and the reading of that term -/
theorem Fun.ok {x qual : Str} {st : Stmt} {f : Addr} {fd : FuncData} {N ps : List Str} {k : Nat} {sp : Sp} (F : Fun K x qual st f fd) (S : FnScope N ps (defScope st)) (len : ∀ vs H Q E, sp vs H Q E → vs.length = ps.length)
    (hbody : ∀ (cdv : Value) (A : Around) (outer : List Env) (s : Shared) (H : Hp) (vs : List V) (Q : VK) (E : XK), Room k (A.deeper (envOfC qual (defScope st) s.heap.objs.size f cdv)) → sp vs H Q E →
      ∃ t, PSs (cxOf CX0 P w K mg base N qual (defScope st) f cdv A outer s H E).nox (defBody st) t ∧ t { nx := fun _ H' => Q .non H', rt := Q } (start N vs) H) : FnOk P w K mg base CX0 (k + 1) f fd ps sp := by
  obtain ⟨oc, od, kV, doc, pm, an, cdv, ct, osl, rfl, lk, hcd⟩ := F.ex
  refine fn_of lk hcd S len fun A outer s H vs Q E hr hsp => ?_
  obtain ⟨t, h, q⟩ := hbody cdv A outer s H vs Q E hr hsp
  exact ⟨t, h.nox, q⟩
/-- how its arguments bind (no defaults): h is «fun _ _ _ _ _ _ us hl => match us, hl with | [_, _], _ => rfl», one _ a parameter -/
theorem Fun.binds {x qual : Str} {st : Stmt} {f : Addr} {fd : FuncData} {ps : List Str} (F : Fun K x qual st f fd)
    (h : ∀ (kV doc pm : Value) (an : Option Addr) (cdv ct : Value) (us : List Value), us.length = ps.length → bindArgs (PySem.W.fnOf x qual (defArgs st) (defBody st) (defScope st) .none kV doc pm an cdv ct) ⟨us, []⟩ = pure (ps.zip us)) : Binds K fd ps [] := by
  obtain ⟨oc, od, kV, doc, pm, an, cdv, ct, osl, rfl, lk, hcd⟩ := F.ex
  exact .all (h kV doc pm an cdv ct)
theorem fun_mk {x qual : Str} {st : Stmt} {f : Addr} {oc : Value} {od an : Option Addr} {osl : Array (Option Value)} {kV doc pm cdv ct : Value} (l : K.lookup f = some ⟨oc, od, .func (PySem.W.fnOf x qual (defArgs st) (defBody st) (defScope st) .none kV doc pm an cdv ct), osl⟩)
    (c : PySem.W.codeIn K cdv qual = true) (k : PySem.W.keepIn K (.ref f) = true) : Fun K x qual st f (PySem.W.fnOf x qual (defArgs st) (defBody st) (defScope st) .none kV doc pm an cdv ct) := ⟨⟨oc, od, kV, doc, pm, an, cdv, ct, osl, rfl, l, c⟩, k⟩
end
theorem hu_of {A : Around} {k : Nat} (hr : Room k A) : A.units + 1 < cLine := Nat.lt_of_le_of_lt (Nat.add_le_add_left (by decide : 1 ≤ 64) _) hr.units
theorem small1000 {n : Nat} (h : n ≤ 1000) : n < sizeLine := Nat.lt_of_le_of_lt h (by decide)

/-! ### expressions in short: the name that stands in the i-th slot -/
section
variable {X : Cx}
theorem pv (i : Nat) {x : Str} {pos : Pos} (hN : X.N[i]? = some x := by rfl) (hv : Vis X.env.scope x := by first | exact Or.inl rfl | exact Or.inr (Or.inl rfl) | exact Or.inr (Or.inr rfl)) (hd : (x == ("__debug__" : Str)) = false := by decide)
    (hcd : (x == ("__classdict__" : Str)) = false := by decide) : PE X (.Name x pos) (tVar i) := pe_var hN hv hd hcd
end

/-! ### tests -/
theorem iteF {A B : Prop} (h : B) : if false = true then A else B := by
  rw [if_neg Bool.false_ne_true]
  exact h
theorem iteT {A B : Prop} (h : A) : if true = true then A else B := by
  rw [if_pos rfl]
  exact h
theorem ite2 {c A B : Prop} [Decidable c] (h1 : c → A) (h2 : ¬ c → B) : if c then A else B := by
  by_cases h : c
  · rw [if_pos h]
    exact h1 h
  · rw [if_neg h]
    exact h2 h
theorem iteNS {c A B : Prop} [Decidable c] (hc : c) (h : B) : if (!decide c) = true then A else B := by
  rw [decide_eq_true hc]
  exact iteF h

/-! ### heaps -/
/-- all that was tracked is as it was -/
def Same (H H' : Hp) : Prop := ∀ b o, H b = some o → H' b = some o
theorem Same.refl (H : Hp) : Same H H := fun _ _ h => h
theorem Same.trans {H H1 H2 : Hp} (a : Same H H1) (b : Same H1 H2) : Same H H2 := fun c o h => b c o (a c o h)
theorem Same.free {H H' : Hp} (e : Same H H') {l : Addr} (h : H' l = Option.none) : H l = Option.none := by
  cases q : H l with
  | none => rfl
  | some o =>
    rw [e l o q] at h
    cases h
theorem Same.seq {K : PySem.W.Frag} {H H' : Hp} {a : Addr} {xs : List V} (e : Same H H') (h : SqL K H a xs) : SqL K H' a xs := by
  rcases h with (h | ⟨o, h⟩) | h
  · exact .inl (.inl (e _ _ h))
  · exact .inl (.inr ⟨o, e _ _ h⟩)
  · exact .inr h

end L2


namespace L2
open PySem PySem.Spec PyProof.Rows
section
variable {X : Cx}
/-- len of a dict -/
theorem call_lenD : CallR X (.builtin "len") (fun xs H Q => ∃ a kvs, xs = [V.ref a] ∧ H a = some (.dK kvs) ∧ Q (.int kvs.length) H) := by
  intro pins s σ H xs us Q I r h
  obtain ⟨a, kvs, rfl, ha, q⟩ := h
  obtain ⟨u, rfl, ru⟩ := vals1 r
  cases ru
  exact d_len I (.inl ha) fun t s' I' => ⟨.int kvs.length, H, I', ⟨t, rfl⟩, q⟩
end
/-! ### a dict's pairs: keys that differ -/
section
variable {κ : Type} [DecidableEq κ]
theorem valV_not {kvs : List (κ × V)} {k : κ} (h : valV kvs k = none) : ¬ k ∈ kvs.map (·.1) := by
  intro m
  obtain ⟨p, hp, e⟩ := List.mem_map.mp m
  have q : (kvs.any fun kv => decide (kv.1 = k)) = true := List.any_eq_true.mpr ⟨p, hp, decide_eq_true e⟩
  rw [valV_any, h] at q
  exact absurd q (by simp)
theorem valV_in {kvs : List (κ × V)} {k : κ} {v : V} (h : valV kvs k = some v) : k ∈ kvs.map (·.1) := by
  have q : (kvs.any fun kv => decide (kv.1 = k)) = true := by
    rw [valV_any, h]
    all_goals rfl
  obtain ⟨p, hp, e⟩ := List.any_eq_true.mp q
  exact List.mem_map.mpr ⟨p, hp, of_decide_eq_true e⟩
theorem nd_snoc : ∀ {l : List κ} {k : κ}, l.Nodup → ¬ k ∈ l → (l ++ [k]).Nodup
  | [], k, _, _ => by simp
  | a :: r, k, h, hk => by
    obtain ⟨h1, h2⟩ := List.nodup_cons.mp h
    show (a :: (r ++ [k])).Nodup
    refine List.nodup_cons.mpr ⟨fun m => ?_, nd_snoc h2 fun m => hk (List.mem_cons.mpr (Or.inr m))⟩
    rcases List.mem_append.mp m with q | q
    · exact h1 q
    · exact hk (List.mem_cons.mpr (Or.inl (List.mem_singleton.mp q).symm))
theorem nd_putK {kvs : List (κ × V)} {k : κ} (v : V) (hn : (kvs.map (·.1)).Nodup) (h : valV kvs k = none) : ((putK kvs k v).map (·.1)).Nodup := by
  rw [putK_new v h, List.map_append]
  exact nd_snoc hn (valV_not h)
theorem dropK_pos {p : κ × V} {r : List (κ × V)} {k : κ} (e : p.1 = k) : dropK (p :: r) k = dropK r k := by
  unfold dropK
  rw [List.filter_cons, if_neg (by simp [e])]
theorem dropK_neg {p : κ × V} {r : List (κ × V)} {k : κ} (e : ¬ p.1 = k) : dropK (p :: r) k = p :: dropK r k := by
  unfold dropK
  rw [List.filter_cons, if_pos (by simp [e])]
theorem dropK_no : ∀ {kvs : List (κ × V)} {k : κ}, ¬ k ∈ kvs.map (·.1) → dropK kvs k = kvs
  | [], _, _ => rfl
  | p :: r, k, h => by
    have h' : ¬ k ∈ r.map (·.1) := fun m => by
      obtain ⟨q, hq, e⟩ := List.mem_map.mp m
      exact h (List.mem_map.mpr ⟨q, List.mem_cons.mpr (Or.inr hq), e⟩)
    rw [dropK_neg fun e => h (List.mem_map.mpr ⟨p, List.mem_cons.mpr (Or.inl rfl), e⟩), dropK_no h']
theorem dropK_mem {kvs : List (κ × V)} {k : κ} {p : κ × V} (h : p ∈ dropK kvs k) : p ∈ kvs := (List.mem_filter.mp h).1
theorem nd_dropK : ∀ {kvs : List (κ × V)} {k : κ}, (kvs.map (·.1)).Nodup → ((dropK kvs k).map (·.1)).Nodup
  | [], _, _ => List.nodup_nil
  | p :: r, k, h => by
    have h : (p.1 :: r.map (·.1)).Nodup := h
    obtain ⟨h1, h2⟩ := List.nodup_cons.mp h
    by_cases e : p.1 = k
    · rw [dropK_pos e]
      exact nd_dropK h2
    · rw [dropK_neg e]
      show (p.1 :: (dropK r k).map (·.1)).Nodup
      refine List.nodup_cons.mpr ⟨fun m => h1 ?_, nd_dropK h2⟩
      obtain ⟨q, hq, eq⟩ := List.mem_map.mp m
      exact List.mem_map.mpr ⟨q, dropK_mem hq, eq⟩
theorem dropK_len : ∀ {kvs : List (κ × V)} {k : κ}, (kvs.map (·.1)).Nodup → k ∈ kvs.map (·.1) → (dropK kvs k).length + 1 = kvs.length
  | [], _, _, m => by simp at m
  | p :: r, k, h, m => by
    have h : (p.1 :: r.map (·.1)).Nodup := h
    have m : k = p.1 ∨ k ∈ r.map (·.1) := List.mem_cons.mp m
    obtain ⟨h1, h2⟩ := List.nodup_cons.mp h
    by_cases e : p.1 = k
    · subst e
      rw [dropK_pos rfl, dropK_no h1]
      all_goals rfl
    · have m' : k ∈ r.map (·.1) := m.resolve_left fun z => e z.symm
      have q := dropK_len h2 m'
      rw [dropK_neg e, List.length_cons, List.length_cons]
      omega
end
end L2

set_option maxHeartbeats 4000000
/-! RULES over the hand layer: wide floor division, isinstance, equality of data, calls of the text's defs. -/
namespace L2
open PySem PySem.Spec PyProof.Rows
section
variable {X : Cx}
/-- // by a positive divisor of fewer than 9000 bits -/
def CDivW (_ j : Int) : Prop := 0 < j ∧ j.natAbs.log2 < 9000
theorem op_fdivW : OpR X (binaryOp .FloorDiv) (rI CDivW fun i j => .int (i / j)) := opI fun i j _ _ _ _ _ hc q => by
  have h1 : (0 : Int) < j := hc.1
  exact floordiv_int (by omega) (by rw [Int.fdiv_eq_ediv_of_nonneg i (by omega)]; exact q) (.inl (PyProof.noPylong_of_log2 hc.2))
theorem cdivW_lit {i j : Int} (h : (decide (0 < j) && decide (j.natAbs.log2 < 9000)) = true) : CDivW i j := by
  obtain ⟨a, b⟩ := Bool.and_eq_true_iff.mp h
  exact ⟨of_decide_eq_true a, of_decide_eq_true b⟩
theorem cdivW_of {i j : Int} {n : Nat} (h0 : 0 < j) (h : j < 2 ^ n) (hn : n ≤ 9000) : CDivW i j := by
  refine ⟨h0, ?_⟩
  have e : (j.natAbs : Int) = j := by omega
  have h2 : j.natAbs < 2 ^ n := by
    have : (j.natAbs : Int) < ((2 ^ n : Nat) : Int) := by rw [e]; simpa using h
    exact Int.ofNat_lt.mp this
  have := (Nat.log2_lt (n := j.natAbs) (k := n) (by omega)).mpr h2
  omega
/-- * of two numbers of bounded size -/
def CMulW (i j : Int) : Prop := ∃ m n : Nat, i.natAbs < 2 ^ m ∧ j.natAbs < 2 ^ n ∧ m + n ≤ 134217728
theorem op_mulW : OpR X (binaryOp .Mult) (rI CMulW fun i j => .int (i * j)) := opI fun _ _ _ _ _ _ _ hc q => by
  obtain ⟨m, n, h1, h2, h3⟩ := hc
  exact mul_int q (IntMulOk.of_le (PySem.intBits_le_iff.mpr h1) (PySem.intBits_le_iff.mpr h2) h3)
/-- isinstance(x, T), T a built-in type -/
theorem call_isinst : CallR X (.builtin "isinstance") (fun xs H Q => ∃ x n t b, xs = [x, .ty n] ∧ TyOf X.K H x t ∧ PySem.W.kitOne X.K t (.type n) = some b ∧ Q (.bl b) H) := by
  intro pins s σ H xs us Q I r h
  obtain ⟨x, n, t, b, rfl, ty, e, q⟩ := h
  obtain ⟨u, w', rfl, ru, rw'⟩ := vals2 r
  have rw2 : w' = Value.type n := rw'
  subst rw2
  exact isinst_ok I ru ty e fun tk => ⟨.bl b, H, I.tok _, rfl, q⟩
theorem pe_ty {x : Str} {n : String} {pos : Pos} (hv : bootBuiltins x = some (.type n)) (hg : Gl X x) (hm : X.mg x = none) (hn : x ≠ "__name__" := by decide) (hd : (x == ("__debug__" : Str)) = false := by decide) : PE X (.Name x pos) (tC (.ty n)) := pe_bltn hg hm hv rfl hn hd
/-! the answers of isinstance for built-in types -/
theorem isi_same {K : PySem.W.Frag} {n : String} : PySem.W.kitOne K (.type n) (.type n) = some true := by
  unfold PySem.W.kitOne
  rw [if_pos (beq_self_eq_true _)]
theorem isi_int_bool {K : PySem.W.Frag} : PySem.W.kitOne K (.type "int") (.type "bool") = some false := by rfl
theorem isi_bool_int {K : PySem.W.Frag} : PySem.W.kitOne K (.type "bool") (.type "int") = some true := by rfl
/-! ### equality of data -/
mutual
inductive Dt (K : PySem.W.Frag) (H : Hp) : V → PyData → Prop
  | non : Dt K H .non .none
  | bl (b : Bool) : Dt K H (.bl b) (.bool b)
  | int (i : Int) : Dt K H (.int i) (.int i)
  | str (x : Str) : Dt K H (.str x) (.str x)
  | lst {a : Addr} {xs : List V} {ds : List PyData} : SqL K H a xs → DtA K H xs ds → Dt K H (.ref a) (.list ds)
  | tup {a : Addr} {xs : List V} {ds : List PyData} : SqT K H a xs → DtA K H xs ds → Dt K H (.ref a) (.tuple ds)
inductive DtA (K : PySem.W.Frag) (H : Hp) : List V → List PyData → Prop
  | nil : DtA K H [] []
  | cons {x : V} {xs : List V} {d : PyData} {ds : List PyData} : Dt K H x d → DtA K H xs ds → DtA K H (x :: xs) (d :: ds)
end
section
variable {pins : List (Addr × Obj)} {σ : St} {H : Hp} {s : Shared}
mutual
theorem Dt.reads (I : Inv X pins σ H s) : ∀ {x : V} {d : PyData} {u : Value}, Dt X.K H x d → RelV x u → ∃ as, Reads s.heap u d as
  | _, _, u, .non, r => by cases (show u = Value.none from r); exact ⟨_, .none⟩
  | _, _, u, .bl b, r => by cases (show u = Value.bool b from r); exact ⟨_, .bool b⟩
  | _, _, u, .int i, r => by obtain ⟨t, rfl⟩ := (show ∃ t, u = Value.int i t from r); exact ⟨_, .int i t⟩
  | _, _, u, .str x, r => by obtain ⟨t, rfl⟩ := (show ∃ t, u = Value.str x t from r); exact ⟨_, .str x t⟩
  | _, _, u, @Dt.lst _ _ a xs ds h hd, r => by
    cases (show u = Value.ref a from r)
    obtain ⟨its, rv, ⟨o, n, e, c, _, d⟩, hz⟩ := I.list h
    obtain ⟨as, ra⟩ := DtA.reads I hd rv
    exact ⟨_, .list e c d (by simpa using ra)⟩
  | _, _, u, @Dt.tup _ _ a xs ds h hd, r => by
    cases (show u = Value.ref a from r)
    obtain ⟨its, rv, ⟨o, e, c, n, d⟩, hz⟩ := I.tuple h
    obtain ⟨as, ra⟩ := DtA.reads I hd rv
    exact ⟨_, .tuple e c d (by simpa using ra)⟩
theorem DtA.reads (I : Inv X pins σ H s) : ∀ {xs : List V} {ds : List PyData} {us : List Value}, DtA X.K H xs ds → Vals xs us → ∃ as, ReadsAll s.heap us ds as
  | _, _, _, .nil, .nil => ⟨_, .nil⟩
  | _, _, _, .cons h t, .cons r rs => by
    obtain ⟨as, ra⟩ := Dt.reads I h r
    obtain ⟨bs, rb⟩ := DtA.reads I t rs
    exact ⟨_, .cons ra rb⟩
end
end
def rEqD (K : PySem.W.Frag) : R2 := fun x y H Q => ∃ d e, Dt K H x d ∧ Dt K H y e ∧ SeqAt.shaped d = true ∧ SeqAt.shaped e = true ∧ Q (.bl (PyData.eqv d e)) H
def rNeD (K : PySem.W.Frag) : R2 := fun x y H Q => ∃ d e, Dt K H x d ∧ Dt K H y e ∧ SeqAt.shaped d = true ∧ SeqAt.shaped e = true ∧ Q (.bl (!PyData.eqv d e)) H
theorem op_eqD (hu : X.A.units + 64 < cLine) : OpR X (compareOp .Eq) (rEqD X.K) := by
  intro pins s σ H x y v u Q I rx ry h
  obtain ⟨d, e, hd, he, sd, se, q⟩ := h
  obtain ⟨as, ra⟩ := hd.reads I rx
  obtain ⟨bs, rb⟩ := he.reads I ry
  exact eq_dataH ra rb sd se hu ⟨.bl _, H, I, rfl, q⟩
theorem op_neD (hu : X.A.units + 64 < cLine) : OpR X (compareOp .NotEq) (rNeD X.K) := by
  intro pins s σ H x y v u Q I rx ry h
  obtain ⟨d, e, hd, he, sd, se, q⟩ := h
  obtain ⟨as, ra⟩ := hd.reads I rx
  obtain ⟨bs, rb⟩ := he.reads I ry
  exact ne_dataH ra rb sd se hu ⟨.bl _, H, I, rfl, q⟩
/-! ### the defs of the text -/
/-- a def named x keeps its promise -/
structure Dn (P : Program) (w : World) (K : PySem.W.Frag) (mg : Str → Option Value) (base : Heap) (k : Nat) (x : Str) (ps : List Str) (sp : Sp) : Prop where
  ex : ∃ f fd, FnOk P w K mg base CX0 k f fd ps sp ∧ Binds K fd ps [] ∧ PySem.W.keepIn K (.ref f) = true ∧ mg x = some (.ref f)
theorem Dn.mono {P : Program} {w : World} {K : PySem.W.Frag} {mg : Str → Option Value} {base : Heap} {j k : Nat} {x : Str} {ps : List Str} {sp : Sp} (D : Dn P w K mg base j x ps sp) (h : j ≤ k) : Dn P w K mg base k x ps sp := by
  obtain ⟨f, fd, F, r⟩ := D.ex
  exact ⟨f, fd, F.mono h, r⟩
theorem pe_fn {j k : Nat} {x : Str} {ps : List Str} {sp : Sp} {e : Expr} {es : List Expr} {t : TA} {p pos : Pos} (D : Dn X.prog X.w X.K X.mg X.base j x ps sp) (hr : Room k X.A) (ha : PA X (e :: es) t) (hj : j ≤ k := by decide) (hg : Gl X x := by rfl)
    (hdb : (x == ("__debug__" : Str)) = false := by decide) (he : starEach (e :: es) X.env = (false, eval e X.env) :: starEach es X.env := by rfl) (hpl : (backTo pos (starEach es X.env)).any (·.1) = false := by rfl) :
    PE X (.Call (.Name x p) (e :: es) [] pos) (tCall sp [] E0 t) := by
  obtain ⟨f, fd, F, b, kp, m⟩ := D.ex
  exact pe_call F (hr.mono hj) hg m kp b .nil (fun _ _ _ _ _ _ _ h => h.elim) ha hdb he hpl
theorem pe_fn0 {j k : Nat} {x : Str} {ps : List Str} {sp : Sp} {p pos : Pos} (D : Dn X.prog X.w X.K X.mg X.base j x ps sp) (hr : Room k X.A) (hj : j ≤ k := by decide) (hg : Gl X x := by rfl)
    (hdb : (x == ("__debug__" : Str)) = false := by decide) : PE X (.Call (.Name x p) [] [] pos) (tCall sp [] E0 tNil) := by
  obtain ⟨f, fd, F, b, kp, m⟩ := D.ex
  exact pe_call0 F (hr.mono hj) hg m kp b .nil (fun _ _ _ _ _ _ _ h => h.elim) hdb
end
/-- a def of the text as it stands behind the top, with its name -/
structure At (K : PySem.W.Frag) (mg : Str → Option Value) (x : Str) (st : Stmt) (f : Addr) (fd : FuncData) : Prop where
  fn : Fun K x x st f fd
  name : mg x = some (.ref f)
theorem At.ok {P : Program} {w : World} {K : PySem.W.Frag} {mg : Str → Option Value} {base : Heap} {x : Str} {st : Stmt} {f : Addr} {fd : FuncData} {N ps : List Str} {k : Nat} {sp : Sp} (F : At K mg x st f fd) (S : FnScope N ps (defScope st)) (len : ∀ vs H Q E, sp vs H Q E → vs.length = ps.length)
    (hbody : ∀ (cdv : Value) (A : Around) (outer : List Env) (s : Shared) (H : Hp) (vs : List V) (Q : VK) (E : XK), Room k (A.deeper (envOfC x (defScope st) s.heap.objs.size f cdv)) → sp vs H Q E →
      ∃ t, PSs (cxOf CX0 P w K mg base N x (defScope st) f cdv A outer s H E).nox (defBody st) t ∧ t { nx := fun _ H' => Q .non H', rt := Q } (start N vs) H)
    (h : ∀ (kV doc pm : Value) (an : Option Addr) (cdv ct : Value) (us : List Value), us.length = ps.length → bindArgs (PySem.W.fnOf x x (defArgs st) (defBody st) (defScope st) .none kV doc pm an cdv ct) ⟨us, []⟩ = pure (ps.zip us)) :
    Dn P w K mg base (k + 1) x ps sp := ⟨f, fd, F.fn.ok S len hbody, F.fn.binds h, F.fn.kp, F.name⟩
theorem at_mk {K : PySem.W.Frag} {mg : Str → Option Value} {h : Heap} {x : Str} {st : Stmt} {f : Addr} {oc : Value} {od an : Option Addr} {osl : Array (Option Value)} {kV doc pm cdv ct : Value} (X : K.In h) (G : h.Ns mainGlobals mg)
    (a : PySem.W.nsIn K mainGlobals x = some (some (.ref f))) (l : K.lookup f = some ⟨oc, od, .func (PySem.W.fnOf x x (defArgs st) (defBody st) (defScope st) .none kV doc pm an cdv ct), osl⟩)
    (c : PySem.W.codeIn K cdv x = true) (k : PySem.W.keepIn K (.ref f) = true) : At K mg x st f (PySem.W.fnOf x x (defArgs st) (defBody st) (defScope st) .none kV doc pm an cdv ct) := ⟨fun_mk l c k, PySem.W.mg_of X G a⟩
theorem Same.tup {H H' : Hp} {K : PySem.W.Frag} {a : Addr} {xs : List V} (e : Same H H') (h : SqT K H a xs) : SqT K H' a xs := by
  rcases h with (h | ⟨o, h⟩) | h
  · exact .inl (.inl (e _ _ h))
  · exact .inl (.inr ⟨o, e _ _ h⟩)
  · exact .inr h
theorem same_new {H : Hp} {p : Addr} (h : H p = none) (o : HO) : Same H (upd H p o) := fun b u q => by rw [upd_ne (ne_of_none q h)]; exact q
theorem small {n : Nat} (h : n ≤ 1000) : n ≤ sizeLine := Nat.le_of_lt (small1000 h)
end L2

namespace Jm
/-! fractions as Rat -/
/-- the greatest common factor as the program walks it -/
def cf (a b : Int) : Int := (Int.gcd a b : Int)
theorem cf_zero (a : Int) (h : 0 ≤ a) : cf a 0 = a := by
  unfold cf; rw [Int.gcd_zero_right]; omega
theorem cf_step (a b : Int) (h : 0 < b) : cf b (a % b) = cf a b := by
  unfold cf
  rw [Int.emod_def, Int.gcd_sub_mul_left_right, Int.gcd_comm]
theorem cf_pos (a b : Int) (h : 0 < a ∨ 0 < b) : 0 < cf a b := by
  unfold cf
  have : 0 < Int.gcd a b := by
    rcases h with h | h
    · exact Int.gcd_pos_of_ne_zero_left _ (by omega)
    · exact Int.gcd_pos_of_ne_zero_right _ (by omega)
  omega
theorem cf_comm (a b : Int) : cf a b = cf b a := by unfold cf; rw [Int.gcd_comm]
theorem cf_abs (a b : Int) : cf a (if b < 0 then -b else b) = cf a b := by
  unfold cf; split
  · rw [Int.gcd_neg]
  · rfl
/-- t over b -/
abbrev fr (t b : Int) : Rat := Rat.divInt t b
theorem fr_num (t b : Int) (h : 0 < b) : (fr t b).num = t / cf b t := by
  unfold fr cf
  rw [Rat.num_divInt, Int.sign_eq_one_of_pos h, Int.one_mul]
theorem fr_den (t b : Int) (h : 0 < b) : ((fr t b).den : Int) = b / cf b t := by
  unfold fr cf
  rw [Rat.den_divInt, if_neg (by omega)]
  rw [Int.natCast_ediv]; congr 1; omega
theorem dvd_cf_left (a b : Int) : cf a b ∣ a := Int.gcd_dvd_left ..
theorem dvd_cf_right (a b : Int) : cf a b ∣ b := Int.gcd_dvd_right ..
theorem den_pos (q : Rat) : (0 : Int) < q.den := by have := q.den_pos; omega
theorem cf_red (q : Rat) : cf q.num q.den = 1 := by
  unfold cf; have := q.reduced; unfold Nat.Coprime at this
  simp [Int.gcd, this]
theorem fr_self (q : Rat) : fr q.num q.den = q := Rat.num_divInt_den q
theorem fr_eq {t b t' b' : Int} (h : 0 < b) (h' : 0 < b') (e : t * b' = t' * b) : fr t b = fr t' b' :=
  (Rat.divInt_eq_divInt_iff (by omega) (by omega)).mpr e
theorem fr_inj {t b t' b' : Int} (h : 0 < b) (h' : 0 < b') (e : fr t b = fr t' b') : t * b' = t' * b :=
  (Rat.divInt_eq_divInt_iff (by omega) (by omega)).mp e
theorem fr_of_cop {n d : Int} (h : 0 < d) (c : cf n d = 1) : (fr n d).num = n ∧ ((fr n d).den : Int) = d := by
  rw [fr_num n d h, fr_den n d h, cf_comm, c, Int.ediv_one, Int.ediv_one]; exact ⟨rfl, rfl⟩
theorem fr_add {t b t' b' : Int} (h : 0 < b) (h' : 0 < b') : fr t b + fr t' b' = fr (t * b' + t' * b) (b * b') :=
  Rat.divInt_add_divInt _ _ (by omega) (by omega)
theorem fr_mul {t b t' b' : Int} : fr t b * fr t' b' = fr (t * t') (b * b') := Rat.divInt_mul_divInt _ _
theorem add_fr (a b : Rat) : a + b = fr (a.num * b.den + b.num * a.den) (a.den * b.den) := by
  rw [← fr_add (den_pos a) (den_pos b), fr_self, fr_self]
theorem mul_fr (a b : Rat) : a * b = fr (a.num * b.num) (a.den * b.den) := by
  rw [← fr_mul, fr_self, fr_self]
/-- plus as the program does it -/
theorem plus_eq (a b : Rat) :
    let g := cf (a.den : Int) (b.den : Int)
    let l := (a.den : Int) / g
    let r := (b.den : Int) / g
    let T := a.num * r + b.num * l
    0 < g ∧ 0 < l ∧ 0 < r ∧ (a + b).num = (fr T g).num ∧ ((a + b).den : Int) = l * r * ((fr T g).den : Int) := by
  intro g l r T
  have hg : 0 < g := cf_pos _ _ (.inl (den_pos a))
  have hgl : l * g = a.den := Int.ediv_mul_cancel (dvd_cf_left _ _)
  have hgr : r * g = b.den := Int.ediv_mul_cancel (dvd_cf_right _ _)
  have hl : 0 < l := by
    rcases Int.lt_or_le 0 l with h | h
    · exact h
    · exfalso; have := den_pos a; have := Int.mul_le_mul_of_nonneg_right h (Int.le_of_lt hg); omega
  have hr : 0 < r := by
    rcases Int.lt_or_le 0 r with h | h
    · exact h
    · exfalso; have := den_pos b; have := Int.mul_le_mul_of_nonneg_right h (Int.le_of_lt hg); omega
  refine ⟨hg, hl, hr, ?_⟩
  -- coprime
  have e := Rat.add.aux a b (g := a.den.gcd b.den) rfl rfl rfl
  have gN : g = ((a.den.gcd b.den : Nat) : Int) := rfl
  have lN : l = ((a.den / a.den.gcd b.den : Nat) : Int) := by show (a.den : Int) / g = _; rw [gN]; exact (Int.natCast_ediv _ _).symm
  have rN : r = ((b.den / a.den.gcd b.den : Nat) : Int) := by show (b.den : Int) / g = _; rw [gN]; exact (Int.natCast_ediv _ _).symm
  have TN : T = a.num * ((b.den / a.den.gcd b.den : Nat) : Int) + b.num * ((a.den / a.den.gcd b.den : Nat) : Int) := by show a.num * r + b.num * l = _; rw [rN, lN]
  have hc : cf T g = cf T (l * b.den) := by
    unfold cf Int.gcd
    rw [TN, gN, lN]
    have z : (((a.den / a.den.gcd b.den : Nat) : Int) * (b.den : Int)).natAbs = a.den / a.den.gcd b.den * b.den := by
      rw [← Int.natCast_mul, Int.natAbs_natCast]
    rw [z, Int.natAbs_natCast]
    exact congrArg _ e
  have hD : 0 < l * b.den := Int.mul_pos hl (den_pos b)
  have hs : a + b = fr T (l * b.den) := by
    rw [add_fr]
    refine fr_eq (Int.mul_pos (den_pos a) (den_pos b)) hD ?_
    show _ = (a.num * r + b.num * l) * _
    rw [← hgl, ← hgr]; grind
  rw [hs, fr_num _ _ hD, fr_den _ _ hD, fr_num _ _ hg, fr_den _ _ hg, cf_comm (l * b.den) T, cf_comm g T, ← hc]
  refine ⟨rfl, ?_⟩
  rw [← hgr, ← Int.mul_assoc]
  exact Int.mul_ediv_assoc _ (dvd_cf_right _ _)
theorem times_eq (a b : Rat) :
    (a * b).num = (fr a.num b.den).num * (fr b.num a.den).num ∧ ((a * b).den : Int) = ((fr a.num b.den).den : Int) * ((fr b.num a.den).den : Int) := by
  have h : a * b = Rat.mul a b := rfl
  rw [h, fr_num _ _ (den_pos b), fr_den _ _ (den_pos b), fr_num _ _ (den_pos a), fr_den _ _ (den_pos a)]
  unfold Rat.mul
  simp only [Int.divExact_eq_ediv, Nat.divExact_eq_div, cf, Int.gcd, Int.natAbs_natCast, Nat.gcd_comm b.den, Nat.gcd_comm a.den, Int.natCast_mul, Int.natCast_ediv, true_and]
  rw [Int.mul_comm]
end Jm
namespace Jm
theorem fr_den_le (t b : Int) (h : 0 < b) : ((fr t b).den : Int) ≤ b := by
  rw [fr_den t b h]
  exact Int.ediv_le_self _ (Int.le_of_lt h)
theorem fr_bounds (t b B : Int) (h : 0 < b) (h0 : -B ≤ t) (h1 : t ≤ B) : -B ≤ (fr t b).num ∧ (fr t b).num ≤ B := by
  have g := cf_pos b t (.inl h)
  rw [fr_num t b h]
  generalize cf b t = c at *
  have e := Int.emod_add_mul_ediv t c
  have m0 := Int.emod_nonneg t (b := c) (by omega)
  have m1 := Int.emod_lt_of_pos t g
  refine ⟨?_, ?_⟩
  · rcases Int.lt_or_le (t / c) (-B) with z | z
    · exfalso
      have z2 : c * (t / c) ≤ c * (-B - 1) := Int.mul_le_mul_of_nonneg_left (by omega) (by omega)
      have z3 : 1 * (B + 1) ≤ c * (B + 1) := Int.mul_le_mul_of_nonneg_right (by omega) (by omega)
      have z4 : c * (-B - 1) = -(c * (B + 1)) := by grind
      have z5 : c * (B + 1) = c * B + c := by grind
      have z6 : 1 * B ≤ c * B := Int.mul_le_mul_of_nonneg_right (by omega) (by omega)
      omega
    · exact z
  · rcases Int.lt_or_le B (t / c) with z | z
    · exfalso
      have z2 : c * (B + 1) ≤ c * (t / c) := Int.mul_le_mul_of_nonneg_left (by omega) (by omega)
      have z3 : 1 * (B + 1) ≤ c * (B + 1) := Int.mul_le_mul_of_nonneg_right (by omega) (by omega)
      omega
    · exact z
end Jm
namespace Jm
/-! sizes -/
def Sz (n : Nat) (x : Int) : Prop := x.natAbs < 2 ^ n
theorem Sz.mono {m n : Nat} {x : Int} (h : Sz m x) (hn : m ≤ n) : Sz n x := Nat.lt_of_lt_of_le h (Nat.pow_le_pow_right (by decide) hn)
theorem Sz.of_le {n : Nat} {x y : Int} (h : Sz n y) (hx : x.natAbs ≤ y.natAbs) : Sz n x := Nat.lt_of_le_of_lt hx h
theorem Sz.neg {n : Nat} {x : Int} (h : Sz n x) : Sz n (-x) := h.of_le (by omega)
theorem Sz.mul {m n : Nat} {x y : Int} (hx : Sz m x) (hy : Sz n y) : Sz (m + n) (x * y) := by
  unfold Sz at *
  rw [Int.natAbs_mul, Nat.pow_add]
  exact Nat.mul_lt_mul'' hx hy
theorem Sz.add {m n : Nat} {x y : Int} (hx : Sz m x) (hy : Sz n y) : Sz (max m n + 1) (x + y) := by
  have h1 := hx.mono (Nat.le_max_left m n)
  have h2 := hy.mono (Nat.le_max_right m n)
  unfold Sz at *
  rw [Nat.pow_succ]
  omega
theorem Sz.addS {n : Nat} {x y : Int} (hx : Sz n x) (hy : Sz n y) : Sz (n + 1) (x + y) := by
  have := hx.add hy
  rwa [Nat.max_self] at this
theorem Sz.of_abs {n : Nat} {x B : Int} (h0 : -B ≤ x) (h1 : x ≤ B) (hB : Sz n B) : Sz n x := hB.of_le (by omega)
theorem Sz.ediv {n : Nat} {x y : Int} (h : Sz n x) (hy : 0 < y) : Sz n (x / y) := by
  refine h.of_le ?_
  have e := Int.emod_add_mul_ediv x y
  have m0 := Int.emod_nonneg x (b := y) (by omega)
  have m1 := Int.emod_lt_of_pos x hy
  rcases Int.lt_or_le x 0 with hx | hx
  · have q0 : x / y < 0 := Int.ediv_neg_of_neg_of_pos hx hy
    have z : y * (x / y) ≤ 1 * (x / y) := Int.mul_le_mul_of_nonpos_right (by omega) (by omega)
    rcases Int.lt_or_le (x / y) x with k | k
    · exfalso
      have z2 : y * (x / y) ≤ y * (x - 1) := Int.mul_le_mul_of_nonneg_left (by omega) (by omega)
      have z3 : y * (x - 1) ≤ 1 * (x - 1) - (y - 1) := by
        have z4 : (y - 1) * (x - 1) ≤ (y - 1) * (-2) := Int.mul_le_mul_of_nonneg_left (by omega) (by omega)
        have z5 : y * (x - 1) = (y - 1) * (x - 1) + (x - 1) := by grind
        omega
      omega
    · omega
  · have q0 : 0 ≤ x / y := Int.ediv_nonneg hx (by omega)
    have := Int.ediv_le_self y hx
    omega
def SzR (n : Nat) (q : Rat) : Prop := Sz n q.num ∧ Sz n (q.den : Int)
theorem SzR.mono {m n : Nat} {q : Rat} (h : SzR m q) (hn : m ≤ n) : SzR n q := ⟨h.1.mono hn, h.2.mono hn⟩
theorem Sz.dvd {n : Nat} {x y : Int} (h : Sz n y) (hy : 0 < y) (hx : 0 ≤ x) (d : x ∣ y) : Sz n x := h.of_le (by have := Int.le_of_dvd hy d; omega)
theorem fr_sz {n : Nat} {t b : Int} (hb : 0 < b) (h1 : Sz n t) (h2 : Sz n b) : SzR n (fr t b) := by
  unfold SzR
  rw [fr_num t b hb, fr_den t b hb]
  have g := cf_pos b t (.inl hb)
  exact ⟨h1.ediv g, h2.ediv g⟩
theorem add_sz {m n : Nat} {a b : Rat} (ha : SzR m a) (hb : SzR n b) : SzR (m + n + 1) (a + b) := by
  rw [add_fr]
  refine fr_sz (Int.mul_pos (den_pos a) (den_pos b)) ?_ ((ha.2.mul hb.2).mono (by omega))
  have := (ha.1.mul hb.2).addS ((hb.1.mul ha.2).mono (Nat.le_of_eq (Nat.add_comm n m)))
  exact this
theorem mul_sz {m n : Nat} {a b : Rat} (ha : SzR m a) (hb : SzR n b) : SzR (m + n) (a * b) := by
  rw [mul_fr]
  exact fr_sz (Int.mul_pos (den_pos a) (den_pos b)) (ha.1.mul hb.1) (ha.2.mul hb.2)
theorem neg_sz {n : Nat} {a : Rat} (ha : SzR n a) : SzR n (-a) := ⟨ha.1.neg, ha.2⟩
end Jm
namespace Jm
theorem sub_fr (a b : Rat) : a - b = fr (a.num * b.den - b.num * a.den) (a.den * b.den) := by
  rw [Rat.sub_eq_add_neg, add_fr]
  show fr (a.num * (b.den : Int) + -b.num * (a.den : Int)) _ = _
  rw [Int.neg_mul, ← Int.sub_eq_add_neg]
  rfl
end Jm
namespace Jm
theorem fr_zero (B : Int) : fr 0 B = 0 := Rat.zero_divInt B
theorem fr_addB (x y : Int) {B : Int} (h : 0 < B) : fr (x + y) B = fr x B + fr y B := by
  rw [fr_add h h]
  refine fr_eq h (Int.mul_pos h h) ?_
  grind
theorem fr_part (q : Rat) {B : Int} (h : 0 < B) (d : (q.den : Int) ∣ B) : fr (q.num * (B / q.den)) B = q := by
  have e : B / q.den * q.den = B := Int.ediv_mul_cancel d
  have : fr (q.num * (B / q.den)) B = fr q.num q.den := by
    refine fr_eq h (den_pos q) ?_
    rw [Int.mul_assoc, e]
  rw [this, fr_self]
theorem fr_parts (B : Int) (h : 0 < B) : ∀ qs : List Rat, (∀ q ∈ qs, (q.den : Int) ∣ B) → fr ((qs.map fun q => q.num * (B / q.den)).sum) B = qs.foldr (· + ·) 0
  | [], _ => fr_zero B
  | q :: r, hd => by
    rw [List.map_cons, List.sum_cons, fr_addB _ _ h, fr_part q h (hd q List.mem_cons_self), fr_parts B h r fun x hx => hd x (List.mem_cons_of_mem _ hx)]
    rfl
/-- one more bottom -/
theorem lcm_step {B d : Int} (hB : 0 < B) (hd : 0 < d) : 0 < B / cf B d * d ∧ d ∣ B / cf B d * d ∧ B ∣ B / cf B d * d := by
  have g := cf_pos B d (.inl hB)
  have e1 : B / cf B d * cf B d = B := Int.ediv_mul_cancel (dvd_cf_left _ _)
  have e2 : d / cf B d * cf B d = d := Int.ediv_mul_cancel (dvd_cf_right _ _)
  have p : 0 < B / cf B d := by
    rcases Int.lt_or_le 0 (B / cf B d) with h | h
    · exact h
    · exfalso; have := Int.mul_le_mul_of_nonneg_right h (Int.le_of_lt g); omega
  refine ⟨Int.mul_pos p hd, Int.dvd_mul_left .., ?_⟩
  refine ⟨d / cf B d, ?_⟩
  calc B / cf B d * d = B / cf B d * (d / cf B d * cf B d) := by rw [e2]
    _ = B / cf B d * cf B d * (d / cf B d) := by grind
    _ = B * (d / cf B d) := by rw [e1]
end Jm
namespace Jm
theorem rsum_sz {m : Nat} : ∀ {qs : List Rat}, (∀ q ∈ qs, SzR m q) → SzR ((m + 1) * qs.length + 1) (qs.foldr (· + ·) 0)
  | [], _ => by
    have h : Sz 1 1 := by unfold Sz; decide
    have h0 : Sz 1 0 := by unfold Sz; decide
    exact ⟨h0, h⟩
  | q :: r, h => by
    have h1 := rsum_sz (qs := r) fun x hx => h x (List.mem_cons_of_mem _ hx)
    have h2 := add_sz (h q List.mem_cons_self) h1
    exact h2.mono (by rw [List.length_cons, Nat.mul_succ]; omega)
theorem sum_sz {n : Nat} : ∀ {ws : List Int}, (∀ m ∈ ws, Sz n m) → Sz (n + ws.length) ws.sum
  | [], _ => by unfold Sz; show 0 < _; exact Nat.two_pow_pos _
  | x :: r, h => by
    have h1 := sum_sz (ws := r) fun m hm => h m (List.mem_cons_of_mem _ hm)
    have h2 := ((h x List.mem_cons_self).mono (Nat.le_add_right n r.length)).addS h1
    rw [List.sum_cons]
    exact h2.mono (by rw [List.length_cons]; omega)
end Jm

namespace Jm
/-! ### the law's draws, as one function -/
def restN (c : Int) : Nat → Int
  | 0 => c
  | i + 1 => restN c i / 10000000000
def cellOf (ns : List Int) (k : Int) : Int := if 0 < (ns.length : Int) then ns.getD (k % ns.length).toNat 0 else 0
def turnOf (ns : List Int) (k : Int) : Int := if 0 < (ns.length : Int) then k / ns.length else 1
def mixed (c k j many : Int) : Int :=
  let one := (c * 7919 + k * 104729 + j * 1299709 + 31) % 1000000007
  let two := (one * 48271 + c / 1009) % 998244353
  let three := (two * (one % 9973 + 1) + j) % 1000000009
  (one * 69621 + three * 40692 + three / 1013) % 2147483647 % many
def draw (ns : List Int) (k j many : Int) : Int :=
  if turnOf ns k = 0 ∧ 1000000000000000000 ≤ cellOf ns k ∧ 0 < restN (cellOf ns k) j.toNat then restN (cellOf ns k) j.toNat % 10000000000 % many
  else mixed (cellOf ns k) k j many
theorem draw_lo (ns : List Int) (k j many : Int) (h : 0 < many) : 0 ≤ draw ns k j many := by
  unfold draw; split
  · exact Int.emod_nonneg _ (by omega)
  · exact Int.emod_nonneg _ (by omega)
theorem draw_hi (ns : List Int) (k j many : Int) (h : 0 < many) : draw ns k j many < many := by
  unfold draw; split
  · exact Int.emod_lt_of_pos _ h
  · exact Int.emod_lt_of_pos _ h
end Jm
namespace L2
open PySem PySem.Spec PyProof.Rows
/-! ### promises -/
structure spDraw (K : PySem.W.Frag) (vs : List V) (H : Hp) (Q : VK) (E : XK) : Prop where
  ex : ∃ (a : Addr) (ns : List Int) (k j many : Int), vs = [.ref a, .int k, .int j, .int many] ∧ SqL K H a (ns.map V.int) ∧ ns.length ≤ 63 ∧ 0 ≤ k ∧ 0 ≤ j ∧ j < 2 ^ 62 ∧ 0 < many ∧ Q (.int (Jm.draw ns k j many)) H
theorem use_draw {K : PySem.W.Frag} {H : Hp} {Q : VK} {E : XK} {a : Addr} {ns : List Int} {k j many : Int} (hS : SqL K H a (ns.map V.int)) (h63 : ns.length ≤ 63) (h1 : 0 ≤ k) (h2 : 0 ≤ j) (h3 : j < 2 ^ 62) (h4 : 0 < many)
    (h : ∀ d : Int, d = Jm.draw ns k j many → 0 ≤ d → d < many → Q (.int d) H) : spDraw K [.ref a, .int k, .int j, .int many] H Q E :=
  ⟨a, ns, k, j, many, rfl, hS, h63, h1, h2, h3, h4, h _ rfl (Jm.draw_lo ns k j many h4) (Jm.draw_hi ns k j many h4)⟩
def spCf : Sp := fun vs H Q _ => ∃ a b : Int, vs = [.int a, .int b] ∧ 0 ≤ a ∧ 0 ≤ b ∧ Q (.int (Jm.cf a b)) H
/-- a fraction as it stands in the heap -/
abbrev ratO (q : Rat) : HO := .tup [.int q.num, .int (q.den : Int)]
def spLow : Sp := fun vs H Q _ => ∃ t b : Int, vs = [.int t, .int b] ∧ 0 < b ∧ Jm.Sz 9000 b ∧ ∀ (r : Addr) (H' : Hp), Same H H' → H' r = some (ratO (Jm.fr t b)) → Q (.ref r) H'
def spInt : Sp := fun vs H Q _ => ∃ i : Int, vs = [.int i] ∧ Q (.bl true) H
def spNear : Sp := fun vs H Q _ => ∃ (p : Addr) (n d t b : Int), vs = [.ref p, .int t, .int b] ∧ H p = some (.tup [.int n, .int d]) ∧ 1 ≤ d ∧ n * b = t * d ∧ (-(2 ^ 64) < b ∧ b < 2 ^ 64) ∧ (-(2 ^ 64) < t ∧ t < 2 ^ 64) ∧ Q (.bl true) H
/-- what law(script) promises -/
def spLaw (K : PySem.W.Frag) : Sp := fun vs H Q _ => ∃ (a : Addr) (ns : List Int), vs = [.ref a] ∧ SqL K H a (ns.map V.int) ∧ ns.length ≤ 63 ∧ ∀ H', Q (.bl true) H'
/-! ### an if whose two ways meet -/
section
variable {X : Cx} {pos : Pos}
def tIfJ (c : TT) (t u : TS) : TS := fun D σ H => ∃ J : St → Hp → Prop, (c σ H fun b H1 => if b = true then t { D with nx := J } σ H1 else u { D with nx := J } σ H1) ∧ ∀ σ' H', J σ' H' → D.nx σ' H'
theorem ps_ifJ {c : Expr} {a b : List Stmt} {tc : TT} {t u : TS} (hc : PT X c tc) (ha : PSs X a t) (hb : PSs X b u) : PS X (.If c a b pos) (tIfJ tc t u) := by
  intro pins s σ H D I h
  obtain ⟨J, h, hJ⟩ := h
  refine thn (ps_if hc ha hb pins s σ H { D with nx := J } I h) fun f s' q => ?_
  cases f with
  | next => obtain ⟨σ', H', I', q⟩ := q; exact ⟨σ', H', I', hJ _ _ q⟩
  | cont => exact q
  | brk => exact q
  | ret v => exact q
end
/-- a test, an expression that leaves the heap as it is: one way behind it -/
theorem pt_pure {X : Cx} {e : Expr} {t : TT} (h : PT X e t) : PT X e (fun σ H Q => ∃ b : Bool, t σ H (fun b' H' => b' = b ∧ H' = H) ∧ Q b H) := by
  intro pins s σ H Q I hw
  obtain ⟨b, hb, q⟩ := hw
  refine thn (h pins s σ H _ I hb) fun b' s' ⟨H', I', e1, e2⟩ => ?_
  subst e1 e2
  exact ⟨_, I', q⟩
theorem pe_pure {X : Cx} {e : Expr} {t : TE} (h : PE X e t) : PE X e (fun σ H Q => ∃ v : V, t σ H (fun v' H' => v' = v ∧ H' = H) ∧ Q v H) := by
  intro pins s σ H Q I hw
  obtain ⟨v, hb, q⟩ := hw
  refine thn (h pins s σ H _ I hb) fun v' s' ⟨x, H', I', r, e1, e2⟩ => ?_
  subst e1 e2
  exact ⟨_, _, I', r, q⟩
theorem cdivW_sz {i j : Int} (h0 : 0 < j) (h : Jm.Sz 9000 j) : CDivW i j := by
  refine ⟨h0, ?_⟩
  exact (Nat.log2_lt (by omega)).mpr h
theorem cmul_sz {m n : Nat} {i j : Int} (hi : Jm.Sz m i) (hj : Jm.Sz n j) (h : m + n ≤ 134217728 := by decide) : CMulW i j := ⟨m, n, hi, hj, h⟩
theorem sz_lit {n : Nat} {x : Int} (h : decide (x.natAbs < 2 ^ n) = true) : Jm.Sz n x := by
  unfold Jm.Sz
  exact of_decide_eq_true h
theorem atI_map {ns : List Int} {k : Int} (h0 : 0 ≤ k) (h : k < (ns.length : Int)) : atI (ns.map V.int) k = some (.int (ns.getD k.toNat 0)) := by
  have hk : k.toNat < ns.length := by omega
  have ek : k = ((k.toNat : Nat) : Int) := by omega
  have q : atI (ns.map V.int) ((k.toNat : Nat) : Int) = some (.int (ns.getD k.toNat 0)) := atI_nat (by rw [List.getElem?_map, List.getD_eq_getElem?_getD, List.getElem?_eq_getElem hk] <;> rfl)
  rw [← ek] at q
  exact q
end L2

/-! LIST COMPREHENSIONS over the hand layer: one clause, no test; names of the frame around it come by their cells. -/
namespace L2
open PySem PySem.Spec PyProof.Rows
section
variable {prog : Program} {w : World} {A : Around} {R : Result → Shared → Prop} {s : Shared}
/-- the loop of a comprehension, its iterator's letting go told -/
theorem compLoop_any {elt target iter : Expr} {scope : Scope} {pos : Pos} {it acc : Value} {env : Env} (J : Nat → Shared → Prop)
    (turn : ∀ n s, J n s → wpAny (model prog w) A (pyNext it) (fun r s₁ => match r with
      | none => R (.ok .next) s₁
      | some v => wpAny (model prog w) A (letOwnedTupleGo target it v) (fun _ s₂ => wpAny (model prog w) A (assign target env v) (fun _ s₃ => wpAny (model prog w) A (eval elt env) (fun x s₄ =>
              wpAny (model prog w) A (call (.builtin "list.append") [acc, x]) (fun _ s₅ => ∃ m, m < n ∧ J m s₅) (fun _ _ => False) s₄) (fun _ _ => False) s₃) (fun _ _ => False) s₂) (fun _ _ => False) s₁) (fun _ _ => False) s)
    (n : Nat) (h : J n s) : codeAny (model prog w) A (.compLoop (.ListComp elt [⟨target, iter, [], 0⟩] scope pos) 0 it acc env) R s := by
  refine codeAny_loop rfl J (fun n s hI => ?_) n h
  show wpAny _ A ((compTurn (.ListComp elt [⟨target, iter, [], 0⟩] scope pos) 0 it acc env).onRaise (fun x => do noteFrame x env; theTreesLotGoes x)) _ _ s
  refine wpAny_noted ?_
  rw [compTurn_list1]
  refine wpAny_bind (wpAny_standAt (wpAny_bind (wpAny_mono (turn n s hI) (fun r s₁ h₁ => ?_) fun _ _ h' => h'.elim)))
  cases r with
  | none => exact wpAny_pure h₁
  | some v =>
    refine wpAny_bind (wpAny_mono h₁ (fun _ s₂ h₂ => wpAny_bind (wpAny_mono h₂ (fun _ s₃ h₃ => ?_) fun _ _ h' => h'.elim)) fun _ _ h' => h'.elim)
    exact wpAny_bind (wpAny_bind (wpAny_mono h₃ (fun x s₄ h₄ => wpAny_bind (wpAny_mono h₄ (fun _ s₅ h₅ => wpAny_pure (wpAny_pure ⟨rfl, h₅⟩)) fun _ _ h' => h'.elim)) fun _ _ h' => h'.elim))
end
/-! ### the cells of a comprehension's block -/
/-- the cells handed on, name by name -/
theorem closure_ok {scope : Scope} {env : Env} (h : ∀ y ∈ scope.names, y.2 = .free → ∃ c, env.cells.lookup y.1 = some c) :
    ∃ cl, closureFor scope env = pure cl ∧ (∀ y c, (y, c) ∈ cl → env.cells.lookup y = some c ∧ (y, NameKind.free) ∈ scope.names) ∧ ∀ y, (y, NameKind.free) ∈ scope.names → ∃ c, (y, c) ∈ cl := by
  have gen : ∀ (names : List (Str × NameKind)) (acc : List (Str × Addr)), (∀ y ∈ names, y.2 = .free → ∃ c, env.cells.lookup y.1 = some c) →
      ∃ cl, (forIn names acc fun (x : Str × NameKind) (cs : List (Str × Addr)) => (if (x.2 == NameKind.free) = true then do let a ← cellOf env x.1; pure (ForInStep.yield ((x.1, a) :: cs)) else pure (ForInStep.yield cs) : Sem _)) = pure cl ∧
        (∀ y c, (y, c) ∈ cl → (env.cells.lookup y = some c ∧ (y, NameKind.free) ∈ names) ∨ (y, c) ∈ acc) ∧ (∀ p ∈ acc, p ∈ cl) ∧ ∀ y, (y, NameKind.free) ∈ names → ∃ c, (y, c) ∈ cl := by
    intro names
    induction names with
    | nil => intro acc _; exact ⟨acc, by rw [List.forIn_nil], fun y c m => .inr m, fun p hp => hp, fun y m => nomatch m⟩
    | cons x r ih =>
      intro acc hc
      obtain ⟨n, k⟩ := x
      by_cases hk : k = .free
      · subst hk
        obtain ⟨c, ec⟩ := hc (n, .free) List.mem_cons_self rfl
        obtain ⟨cl, e, h1, h2, h3⟩ := ih ((n, c) :: acc) fun y hy => hc y (List.mem_cons_of_mem _ hy)
        refine ⟨cl, ?_, fun y d m => ?_, fun p hp => h2 p (List.mem_cons_of_mem _ hp), fun y m => ?_⟩
        · rw [List.forIn_cons, ← e]
          have ecell : cellOf env n = pure c := by unfold cellOf; rw [ec]
          simp only [beq_self_eq_true, if_true, ecell, pure_bind]
        · rcases h1 y d m with ⟨a, b⟩ | b
          · exact .inl ⟨a, List.mem_cons_of_mem _ b⟩
          · rcases List.mem_cons.mp b with z | z
            · cases z; exact .inl ⟨ec, List.mem_cons_self⟩
            · exact .inr z
        · rcases List.mem_cons.mp m with z | z
          · cases z; exact ⟨c, h2 _ List.mem_cons_self⟩
          · exact h3 y z
      · obtain ⟨cl, e, h1, h2, h3⟩ := ih acc fun y hy => hc y (List.mem_cons_of_mem _ hy)
        have hb : (k == NameKind.free) = false := by simpa using hk
        refine ⟨cl, ?_, fun y d m => ?_, h2, fun y m => ?_⟩
        · rw [List.forIn_cons, ← e]
          simp only [hb, Bool.false_eq_true, if_false, pure_bind]
        · rcases h1 y d m with ⟨a, b⟩ | b
          · exact .inl ⟨a, List.mem_cons_of_mem _ b⟩
          · exact .inr b
        · rcases List.mem_cons.mp m with z | z
          · cases z; exact absurd rfl hk
          · exact h3 y z
  obtain ⟨cl, e, h1, _, h3⟩ := gen scope.names [] h
  refine ⟨cl, ?_, fun y c m => (h1 y c m).elim id (fun z => nomatch z), h3⟩
  have e2 : closureFor scope env = ((forIn scope.names ([] : List (Str × Addr)) fun (x : Str × NameKind) (cs : List (Str × Addr)) => (if (x.2 == NameKind.free) = true then do let a ← cellOf env x.1; pure (ForInStep.yield ((x.1, a) :: cs)) else pure (ForInStep.yield cs) : Sem _)) >>= fun r => pure r) := rfl
  rw [e2, e]
  rfl
theorem lookup_mem {α : Type} {l : List (Str × α)} {y : Str} {c : α} (h : (y, c) ∈ l) : ∃ d, l.lookup y = some d := by
  induction l with
  | nil => cases h
  | cons p r ih =>
    obtain ⟨k, v⟩ := p
    rw [List.lookup_cons]
    cases hb : y == k with
    | true => exact ⟨v, rfl⟩
    | false =>
      rcases List.mem_cons.mp h with z | z
      · cases z; simp at hb
      · exact ih z
theorem cellsFrom_look : ∀ (names : List (Str × NameKind)) (n : Nat) (acc : List (Str × Addr)) {x : Str} {c : Addr}, (cellsFrom n names acc).lookup x = some c → n ≤ c ∨ acc.lookup x = some c
  | [], _, _, _, _, h => .inr h
  | (name, kind) :: r, n, acc, x, c, h => by
    unfold cellsFrom at h
    split at h
    · rcases cellsFrom_look r (n + 1) _ h with z | z
      · exact .inl (by omega)
      · rw [List.lookup_cons] at z
        cases hb : x == name with
        | true => rw [hb] at z; cases z; exact .inl (Nat.le_refl _)
        | false => rw [hb] at z; exact .inr z
    · exact cellsFrom_look r n acc h
theorem cellsFrom_low : ∀ (names : List (Str × NameKind)) (n n0 : Nat) (acc : List (Str × Addr)) {x : Str} {c : Addr}, n0 ≤ n → (∀ d, acc.lookup x = some d → n0 ≤ d) → (cellsFrom n names acc).lookup x = some c → n0 ≤ c := by
  intro names n n0 acc x c hn ha h
  rcases cellsFrom_look names n acc h with z | z
  · omega
  · exact ha c z
theorem cellsFrom_own : ∀ (names : List (Str × NameKind)) (n : Nat) (acc : List (Str × Addr)) {x : Str} {c : Addr}, (x, NameKind.cell) ∈ names → (cellsFrom n names acc).lookup x = some c → n ≤ c
  | [], _, _, _, _, m, _ => nomatch m
  | (name, kind) :: r, n, acc, x, c, m, h => by
    unfold cellsFrom at h
    rcases List.mem_cons.mp m with z | z
    · cases z
      rw [if_pos (by rfl)] at h
      refine cellsFrom_low r (n + 1) n _ (by omega) (fun d hd => ?_) h
      rw [List.lookup_cons, beq_self_eq_true] at hd
      cases hd
      exact Nat.le_refl _
    · split at h
      · exact Nat.le_trans (Nat.le_succ _) (cellsFrom_own r (n + 1) _ z h)
      · exact cellsFrom_own r n acc z h
theorem cellsFrom_keep : ∀ (names : List (Str × NameKind)) (n : Nat) (acc : List (Str × Addr)) {x : Str}, (∃ c, acc.lookup x = some c) → ∃ c, (cellsFrom n names acc).lookup x = some c
  | [], _, _, _, h => h
  | (name, kind) :: r, n, acc, x, h => by
    unfold cellsFrom
    split
    · refine cellsFrom_keep r (n + 1) _ ?_
      rw [List.lookup_cons]
      cases x == name with
      | true => exact ⟨_, rfl⟩
      | false => exact h
    · exact cellsFrom_keep r n acc h
theorem cellsFrom_has : ∀ (names : List (Str × NameKind)) (n : Nat) (acc : List (Str × Addr)) {x : Str}, (x, NameKind.cell) ∈ names → ∃ c, (cellsFrom n names acc).lookup x = some c
  | [], _, _, _, m => nomatch m
  | (name, kind) :: r, n, acc, x, m => by
    unfold cellsFrom
    rcases List.mem_cons.mp m with z | z
    · cases z
      rw [if_pos (by rfl)]
      refine cellsFrom_keep r (n + 1) _ ⟨n, ?_⟩
      rw [List.lookup_cons, beq_self_eq_true]
    · split
      · exact cellsFrom_has r (n + 1) _ z
      · exact cellsFrom_has r n acc z
theorem cellsFrom_old : ∀ (names : List (Str × NameKind)) (n : Nat) (acc : List (Str × Addr)) {x : Str}, (x, NameKind.cell) ∉ names → (cellsFrom n names acc).lookup x = acc.lookup x
  | [], _, _, _, _ => rfl
  | (name, kind) :: r, n, acc, x, m => by
    have m2 : (x, NameKind.cell) ∉ r := fun z => m (List.mem_cons_of_mem _ z)
    unfold cellsFrom
    split
    · rename_i hk
      rw [cellsFrom_old r (n + 1) _ m2, List.lookup_cons]
      cases hb : x == name with
      | true =>
        have e1 := beq_iff_eq.mp hb
        have e2 : kind = NameKind.cell := by simpa using hk
        subst e1 e2
        exact absurd List.mem_cons_self m
      | false => rfl
    · exact cellsFrom_old r n acc m2
theorem cellsFrom_inj : ∀ (names : List (Str × NameKind)) (n : Nat) (acc : List (Str × Addr)), (∀ x y c, acc.lookup x = some c → acc.lookup y = some c → x = y) → (∀ x c, acc.lookup x = some c → c < n) →
    ∀ x y c, (cellsFrom n names acc).lookup x = some c → (cellsFrom n names acc).lookup y = some c → x = y
  | [], _, _, h, _ => h
  | (name, kind) :: r, n, acc, h, hlt => by
    intro x y c hx hy
    unfold cellsFrom at hx hy
    split at hx
    · rename_i hk
      rw [if_pos hk] at hy
      refine cellsFrom_inj r (n + 1) _ (fun x y c hx hy => ?_) (fun x c hx => ?_) x y c hx hy
      · rw [List.lookup_cons] at hx hy
        cases hb : x == name with
        | true =>
          cases hb2 : y == name with
          | true => rw [beq_iff_eq.mp hb, beq_iff_eq.mp hb2]
          | false =>
            rw [hb] at hx; rw [hb2] at hy
            cases hx
            exact absurd (hlt _ _ hy) (Nat.lt_irrefl _)
        | false =>
          cases hb2 : y == name with
          | true =>
            rw [hb] at hx; rw [hb2] at hy
            cases hy
            exact absurd (hlt _ _ hx) (Nat.lt_irrefl _)
          | false =>
            rw [hb] at hx; rw [hb2] at hy
            exact h x y c hx hy
      · rw [List.lookup_cons] at hx
        cases hb : x == name with
        | true => rw [hb] at hx; cases hx; exact Nat.lt_succ_self _
        | false => rw [hb] at hx; exact Nat.lt_succ_of_lt (hlt _ _ hx)
    · rename_i hk
      rw [if_neg hk] at hy
      exact cellsFrom_inj r n acc h hlt x y c hx hy
theorem cells_there : ∀ (names : List (Str × NameKind)) (h : Heap) (acc : List (Str × Addr)), (∀ x c, acc.lookup x = some c → ∃ v, h.IsCell c v) → ∀ x c, (cellsFrom h.objs.size names acc).lookup x = some c → ∃ v, (pushCells h names).IsCell c v
  | [], _, _, ha => ha
  | (name, kind) :: r, h, acc, ha => by
    intro x c hx
    unfold cellsFrom at hx
    unfold pushCells
    split at hx
    · rename_i hk
      rw [if_pos hk]
      have q := cells_there r (h.push { cls := .type "cell", data := .cell none }) ((name, h.objs.size) :: acc) (fun x c hx => by
        rw [List.lookup_cons] at hx
        cases hb : x == name with
        | true => rw [hb] at hx; cases hx; exact ⟨none, _, Heap.get?_push_size _ rfl, rfl⟩
        | false =>
          rw [hb] at hx
          obtain ⟨v, z⟩ := ha x c hx
          exact ⟨v, z.keeps fun b o e => Heap.get?_push_of_some _ e⟩) x c
      rw [Heap.size_push] at q
      exact q hx
    · rename_i hk
      rw [if_neg hk]
      exact cells_there r h acc ha x c hx
/-! ### the context of a comprehension's block -/
def cxComp (X : Cx) (N2 : List Str) (scope : Scope) (cl : List (Str × Addr)) (s₂ : Shared) (H₂ : Hp) (fp : List Addr) : Cx where
  prog := X.prog
  w := X.w
  K := X.K
  mg := X.mg
  base := X.base
  A := X.A
  N := N2
  s₀ := s₂
  H₀ := H₂
  env := { scope := relabel scope X.env, locals := s₂.heap.objs.size, globals := X.env.globals, cells := cellsFrom (s₂.heap.objs.size + 1) scope.names cl, qual := X.env.qual, func := none, code := X.env.code, frame := X.env.frame, builtins := X.env.builtins }
  outer := X.stack
  stack := X.stack
  ex := fp
  fn := fun x => decide (scope.names.lookup x = some .cell)
  calm := X.calm
  pn := []
  xe := fun _ _ => False
/-- what the names of a comprehension must keep to: XN, xn the names around it, sn its own table -/
def compOk (XN : List Str) (xn sn : List (Str × NameKind)) (N2 : List Str) (ix : List (Option Nat)) : Bool :=
  (ix.length == N2.length) &&
  ((ix.zip N2).all fun p => match p.1 with
    | none => true
    | some j => XN[j]? == some p.2 && sn.lookup p.2 == some .free && (xn.lookup p.2 == some .cell || xn.lookup p.2 == some .free)) &&
  (sn.all fun y => y.2 != .free || (xn.lookup y.1 == some .cell || xn.lookup y.1 == some .free)) &&
  (sn.all fun y => y.2 != .local || sn.lookup y.1 == some .local) &&
  (sn.all fun y => y.2 != .free || sn.all fun z => z.2 != .cell || z.1 != y.1)
theorem relabel_mem {scope : Scope} {env : Env} {x : Str} {k : NameKind} (h : (relabel scope env).names.lookup x = some k) (hk : k = .cell ∨ k = .free) : (x, NameKind.cell) ∈ scope.names ∨ (x, NameKind.free) ∈ scope.names := by
  have m := PySem.mem_of_lookup h
  obtain ⟨y, hy, e⟩ := List.mem_map.mp m
  obtain ⟨n, k0⟩ := y
  dsimp only at e
  split at e
  · rename_i hc
    cases e
    have h1 : k0 = NameKind.free := by
      have := (Bool.and_eq_true_iff.mp (Bool.and_eq_true_iff.mp hc).1).1
      simpa using this
    subst h1
    exact .inr hy
  · cases e
    rcases hk with rfl | rfl
    · exact .inl hy
    · exact .inr hy
theorem relabel_free {scope : Scope} {env : Env} : ∀ {x : Str}, scope.names.lookup x = some .free → (relabel scope env).names.lookup x = some .cell ∨ (relabel scope env).names.lookup x = some .free := by
  intro x h
  have gen : ∀ (l : List (Str × NameKind)), l.lookup x = some .free → (l.map fun (n, k) => if (k == NameKind.free && env.scope.kind == .function && env.kindOf n == some .cell) then (n, NameKind.cell) else (n, k)).lookup x = some .cell ∨
      (l.map fun (n, k) => if (k == NameKind.free && env.scope.kind == .function && env.kindOf n == some .cell) then (n, NameKind.cell) else (n, k)).lookup x = some .free := by
    intro l
    induction l with
    | nil => intro h; cases h
    | cons p r ih =>
      intro h
      obtain ⟨n, k⟩ := p
      rw [List.lookup_cons] at h
      rw [List.map_cons]
      dsimp only
      cases hb : x == n with
      | true =>
        rw [hb] at h
        cases h
        split
        · rw [List.lookup_cons, hb]; exact .inl rfl
        · rw [List.lookup_cons, hb]; exact .inr rfl
      | false =>
        rw [hb] at h
        split
        · rw [List.lookup_cons, hb]; exact ih h
        · rw [List.lookup_cons, hb]; exact ih h
  exact gen scope.names h
theorem comp_enter {X : Cx} {pins : List (Addr × Obj)} {σ σ2 : St} {H : Hp} {s : Shared} {N2 : List Str} {scope : Scope} {cl : List (Str × Addr)} {fp : List Addr} (I : Inv X pins σ H s) (hk : scope.kind = .function)
    (hcl1 : ∀ y c, (y, c) ∈ cl → X.env.cells.lookup y = some c) (hcl2 : ∀ y, (y, NameKind.free) ∈ scope.names → ∃ c, (y, c) ∈ cl) (hfp : ∀ b ∈ fp, FpOk X pins H b) (hfo : ∀ b ∈ fp, b < s.heap.objs.size) (hl : σ2.length = N2.length)
    (hσ : ∀ (i : Nat) (x : Str) (v : V), N2[i]? = some x → σ2[i]? = some (some v) → scope.names.lookup x = some .free ∧ (X.env.kindOf x = some .cell ∨ X.env.kindOf x = some .free) ∧ ∃ j : Nat, X.N[j]? = some x ∧ σ[j]? = some (some v))
    (hd : ∀ x, (x, NameKind.free) ∈ scope.names → (x, NameKind.cell) ∉ scope.names) :
    Inv (cxComp X N2 scope cl s H fp) [] σ2 H { s with heap := pushCells (s.heap.push { cls := .type "dict", data := .dict #[] }) scope.names } := by
  have keeps : ∀ b o, s.heap.get? b = some o → (pushCells (s.heap.push { cls := .type "dict", data := .dict #[] }) scope.names).get? b = some o := fun b o e => pushCells_keeps _ _ b o (Heap.get?_push_of_some _ e)
  have hsz : (s.heap.push { cls := .type "dict", data := .dict #[] }).objs.size = s.heap.objs.size + 1 := Heap.size_push ..
  have clook : ∀ x c, cl.lookup x = some c → X.env.cells.lookup x = some c := fun x c e => hcl1 x c (PySem.mem_of_lookup e)
  have clt : ∀ x c, cl.lookup x = some c → c < s.heap.objs.size := fun x c e => by
    obtain ⟨v, z⟩ := I.cell x c (clook x c e)
    exact z.lt
  have there := cells_there scope.names (s.heap.push { cls := .type "dict", data := .dict #[] }) cl (fun x c e => by
    obtain ⟨v, z⟩ := I.cell x c (clook x c e)
    exact ⟨v, z.keeps fun b o e => Heap.get?_push_of_some _ e⟩)
  rw [hsz] at there
  have cells : ∀ x c, (cellsFrom (s.heap.objs.size + 1) scope.names cl).lookup x = some c → s.heap.objs.size + 1 ≤ c ∨ X.env.cells.lookup x = some c := fun x c e => by
    rcases cellsFrom_look _ _ _ e with z | z
    · exact .inl z
    · exact .inr (clook x c z)
  have okY : (cxComp X N2 scope cl s H fp).Ok := by
    refine ⟨I.ok.mod, hk, I.ok.glob, I.ok.blt, Nat.le_refl _, ?_, ?_, ?_, I.ok.hd, I.ok.frames, .inl rfl, ?_, I.bs, Nat.le_trans I.ok.bsz I.sz, ?_, ?_, I.stack, I.stkFree⟩
    · exact cellsFrom_inj _ _ _ (fun x y c hx hy => I.ok.inj x y c (clook x c hx) (clook y c hy)) fun x c e => Nat.lt_succ_of_lt (clt x c e)
    · intro x hx
      have m : (x, NameKind.cell) ∈ scope.names ∨ (x, NameKind.free) ∈ scope.names := by
        rcases hx with z | z
        · exact relabel_mem z (.inl rfl)
        · exact relabel_mem z (.inr rfl)
      rcases m with m | m
      · exact cellsFrom_has _ _ _ m
      · obtain ⟨c, mc⟩ := hcl2 x m
        exact cellsFrom_keep _ _ _ (lookup_mem mc)
    · intro x c hf e
      have hf' : scope.names.lookup x = some .cell := of_decide_eq_true hf
      exact Nat.le_trans (Nat.le_succ _) (cellsFrom_own _ _ _ (PySem.mem_of_lookup hf') e)
    · intro b hb
      refine ⟨Nat.ne_of_lt (hfo b hb), fun x c e z => ?_⟩
      have hlt := hfo b hb
      rcases cells x c e with k | k
      · exact absurd (Nat.lt_of_lt_of_le hlt (Nat.le_trans (Nat.le_succ _) (z ▸ k))) (Nat.lt_irrefl _)
      · exact (hfp b hb).2.2.2.2.1 x c k z
    · intro b o e hb
      rcases (hfp b hb).2.2.2.1 with z | z
      · exact I.ok.noex b o e z
      · exact absurd (Nat.lt_of_lt_of_le (Heap.lt_size (I.ok.bs b o e).1) z) (Nat.lt_irrefl _)
    · intro b hb hbs
      rcases List.mem_cons.mp (I.stkSub b hbs) with z | z
      · exact (hfp b hb).2.1 z
      · exact (hfp b hb).2.2.1 z
  refine ⟨okY, rfl, I.bare, Un.kept keeps, ?_, there, I.hok.fresh (Nat.le_refl _), ?_, (fun p hp => nomatch hp), I.hok.kept keeps, hl⟩
  · refine ⟨fun _ => none, (Heap.Ns.new s.heap (.type "dict")).keeps (pushCells_keeps _ _), fun i x v e1 e2 _ => ?_⟩
    obtain ⟨hf, hx, j, j1, j2⟩ := hσ i x v e1 e2
    obtain ⟨m, _, hloc⟩ := I.loc
    have hv : Vis X.env.scope x := hx.elim (fun z => .inr (.inl z)) fun z => .inr (.inr z)
    obtain ⟨u, r, lk⟩ := hloc j x v j1 j2 hv
    refine ⟨u, r, .inr ⟨relabel_free hf, ?_⟩⟩
    rcases lk with ⟨k, _⟩ | ⟨_, c, ec, ic⟩
    · rcases hx with z | z <;> rw [z] at k <;> cases k
    · refine ⟨c, ?_, ic.keeps keeps⟩
      have mf := PySem.mem_of_lookup hf
      show (cellsFrom (s.heap.objs.size + 1) scope.names cl).lookup x = some c
      rw [cellsFrom_old _ _ _ (hd x mf)]
      obtain ⟨c', mc⟩ := hcl2 x mf
      obtain ⟨d, ed⟩ := lookup_mem mc
      rw [ed]
      have := clook x d ed
      rw [ec] at this
      exact this.symm
  · intro x c e
    rcases cells x c e with k | k
    · exact I.hok.fresh (by omega)
    · exact I.freeC x c k

/-! ### the rules -/
section
variable {X : Cx}
/-- acc: the new list; W: the invariant by the turn and a measure -/
def CompG (J : It) (g : TG) (te : TE) (acc : Addr) (σ₀ : St) (H : Hp) (Q : VK) : Prop := ∃ W : Nat → Nat → St → Hp → Prop,
  (∃ m, W 0 m σ₀ (upd H acc (.lst []))) ∧ ∀ i m σ2 H2, W i m σ2 H2 →
    (J.stop i H2 ∧ Q (.ref acc) H2) ∨ (J.go i H2 ∧ ∃ (S : St → Prop) (N : V → Hp → Prop), (∀ σ3 v H4, S σ3 → N v H4 → ∃ xs, H4 acc = some (.lst xs) ∧ xs.length < sizeLine ∧ ∃ m', m' < m ∧ W (i + 1) m' σ3 (upd H4 acc (.lst (xs ++ [v])))) ∧ ∀ x H', J.yld i H2 x H' → g x σ2 H' fun σ3 H3 => S σ3 ∧ te σ3 H3 N)
def tComp (wi : TI) (ix : List (Option Nat)) (g : TG) (te : TE) : TE := fun σ H Q => wi σ H fun J H1 => ∀ acc, H1 acc = none → CompG J g te acc (ix.map fun o => o.bind fun j => (σ[j]?).join) H1 Q
theorem compOk_use {XN : List Str} {xn sn : List (Str × NameKind)} {N2 : List Str} {ix : List (Option Nat)} (h : compOk XN xn sn N2 ix = true) :
    ix.length = N2.length ∧ (∀ (i : Nat) (x : Str) (j : Nat), N2[i]? = some x → ix[i]? = some (some j) → XN[j]? = some x ∧ sn.lookup x = some .free ∧ (xn.lookup x = some .cell ∨ xn.lookup x = some .free)) ∧
    (∀ y ∈ sn, y.2 = .free → xn.lookup y.1 = some .cell ∨ xn.lookup y.1 = some .free) ∧ (∀ y ∈ sn, y.2 = .local → sn.lookup y.1 = some .local) ∧ ∀ x, (x, NameKind.free) ∈ sn → (x, NameKind.cell) ∉ sn := by
  unfold compOk at h
  obtain ⟨h, h5⟩ := Bool.and_eq_true_iff.mp h
  obtain ⟨h, h4⟩ := Bool.and_eq_true_iff.mp h
  obtain ⟨h, h3⟩ := Bool.and_eq_true_iff.mp h
  obtain ⟨h1, h2⟩ := Bool.and_eq_true_iff.mp h
  have e1 : ix.length = N2.length := by simpa using h1
  refine ⟨e1, fun i x j a b => ?_, fun y hy e => ?_, fun y hy e => ?_, fun x m1 m2 => ?_⟩
  · have m : (some j, x) ∈ ix.zip N2 := by
      refine List.mem_of_getElem? (i := i) ?_
      rw [List.getElem?_zip_eq_some]
      exact ⟨b, a⟩
    have q := List.all_eq_true.mp h2 _ m
    dsimp only at q
    obtain ⟨q, q3⟩ := Bool.and_eq_true_iff.mp q
    obtain ⟨q1, q2⟩ := Bool.and_eq_true_iff.mp q
    exact ⟨by simpa using q1, by simpa using q2, (Bool.or_eq_true_iff.mp q3).imp (fun z => by simpa using z) fun z => by simpa using z⟩
  · have q := List.all_eq_true.mp h3 y hy
    rcases Bool.or_eq_true_iff.mp q with z | z
    · rw [e] at z; simp at z
    · exact (Bool.or_eq_true_iff.mp z).imp (fun z => by simpa using z) fun z => by simpa using z
  · have q := List.all_eq_true.mp h4 y hy
    rcases Bool.or_eq_true_iff.mp q with z | z
    · rw [e] at z; simp at z
    · simpa using z
  · have q := List.all_eq_true.mp h5 _ m1
    rcases Bool.or_eq_true_iff.mp q with z | z
    · simp at z
    · have q2 := List.all_eq_true.mp z _ m2
      simp at q2
/-- the block of a comprehension: from its iterator and its new list to the end -/
theorem comp_block {tg iter elt : Expr} {scope : Scope} {pos : Pos} {N2 : List Str} {ix : List (Option Nat)} {g : TG} {te : TE} {cl : List (Str × Addr)} {pins : List (Addr × Obj)} {σ : St} {H : Hp} {s : Shared} {E : Value → Shared → Prop} {Q : VK}
    {RR : Value → Addr → Result → Shared → Prop} (hc : X.calm = true) (hg : ∀ cl s₂ H₂ fp, PG (cxComp X N2 scope cl s₂ H₂ fp) tg g) (he : ∀ cl s₂ H₂ fp, PE (cxComp X N2 scope cl s₂ H₂ fp) elt te)
    (hk : scope.kind = .function) (hn : compOk X.N X.env.scope.names scope.names N2 ix = true)
    (hcl1 : ∀ y c, (y, c) ∈ cl → X.env.cells.lookup y = some c) (hcl2 : ∀ y, (y, NameKind.free) ∈ scope.names → ∃ c, (y, c) ∈ cl)
    {it : Addr} {fp : List Addr} {tn : Nat → Heap → Prop} {J : It} (I : Inv X pins σ H s) (T : Turn X.prog X.w X.K tg J fp it tn) (st : tn 0 s.heap) (f : ∀ b ∈ fp, FpOk X pins H b)
    (h : ∀ acc, H acc = none → CompG J g te acc (ix.map fun o => o.bind fun j => (σ[j]?).join) H Q)
    (hR : ∀ acc C H' s' m, Inv X pins σ H' s' → s'.heap.Ns C m → H' C = none → C ≠ X.env.locals → X.s₀.heap.objs.size ≤ C → (∀ x c, X.env.cells.lookup x = some c → c ≠ C) → (∀ p ∈ X.pn ++ pins, p.1 ≠ C) → Q (.ref acc) H' → RR (.ref acc) C (.ok .next) s') :
    wpAny (model X.prog X.w) X.A (newList []) (fun acc s₃ => wpAny (model X.prog X.w) X.A (newFunctionEnv scope X.env.globals cl [] X.env.qual none .none (some X.env)) (fun cenv s₄ =>
      codeAny (model X.prog X.w) X.A (.compStart (.ListComp elt [⟨tg, iter, [], 0⟩] scope pos) 0 (.ref it) acc { cenv with scope := relabel scope X.env }) (RR acc cenv.locals) s₄) E s₃) E s := by
  obtain ⟨k1, k2, k3, k4, k5⟩ := compOk_use hn
  refine wpAny_newObj_type ?_
  have I3 : Inv X pins σ (upd H s.heap.objs.size (.lst [])) { s with heap := s.heap.push { cls := .type "list", data := .seq ([] : List Value).toArray } } :=
    I.laid (a := s.heap.objs.size) (o := .lst []) (t' := s.toks) (fun _ _ q => Heap.get?_push_of_some _ q) (Nat.le_refl _) ⟨Nat.zero_le _, [], _, .nil, Heap.get?_push_size _ rfl⟩
  obtain ⟨W, ⟨m0, w0⟩, turn⟩ := h s.heap.objs.size I.fresh
  have fo : ∀ b ∈ fp, b < s.heap.objs.size := fun b hb => by
    obtain ⟨o, e, _⟩ := T.obj 0 _ st b hb
    exact Heap.lt_size e
  have st3 : tn 0 (s.heap.push { cls := .type "list", data := .seq ([] : List Value).toArray }) := T.keep _ _ _ st fun b _ o e => Heap.get?_push_of_some _ e
  have f3 : ∀ b ∈ fp, FpOk X pins (upd H s.heap.objs.size (.lst [])) b := fun b hb => ⟨by rw [upd_ne (Nat.ne_of_lt (fo b hb))]; exact (f b hb).1, (f b hb).2⟩
  have fo3 : ∀ b ∈ fp, b < (s.heap.push { cls := .type "list", data := .seq ([] : List Value).toArray }).objs.size := fun b hb => by rw [Heap.size_push]; exact Nat.lt_succ_of_lt (fo b hb)
  generalize es3 : ({ s with heap := s.heap.push { cls := .type "list", data := .seq ([] : List Value).toArray } } : Shared) = s3 at *
  have eh3 : s3.heap = s.heap.push { cls := .type "list", data := .seq ([] : List Value).toArray } := by rw [← es3]
  rw [← eh3] at st3 fo3
  generalize s.heap.objs.size = acc at *
  generalize eH3 : upd H acc (.lst []) = H3 at *
  have IY := comp_enter (N2 := N2) (scope := scope) (cl := cl) (fp := fp) (σ2 := ix.map fun o => o.bind fun j => (σ[j]?).join) I3 hk hcl1 hcl2 f3 fo3 (by rw [List.length_map]; exact k1) (fun i x v e1 e2 => by
    rw [List.getElem?_map] at e2
    cases ei : ix[i]? with
    | none => rw [ei] at e2; cases e2
    | some o =>
      rw [ei] at e2
      cases o with
      | none => cases e2
      | some j =>
        obtain ⟨a1, a2, a3⟩ := k2 i x j e1 ei
        refine ⟨a2, a3, j, a1, ?_⟩
        have e3 : (σ[j]?).join = some v := Option.some.inj e2
        cases ej : σ[j]? with
        | none => rw [ej] at e3; cases e3
        | some z => rw [ej] at e3; exact congrArg some e3) k5
  have ne : wpAny (model X.prog X.w) X.A (newFunctionEnv scope X.env.globals cl [] X.env.qual none .none (some X.env)) (fun cenv s₄ =>
      cenv = { scope := scope, locals := s3.heap.objs.size, globals := X.env.globals, cells := cellsFrom (s3.heap.objs.size + 1) scope.names cl, qual := X.env.qual, func := none, code := X.env.code, frame := X.env.frame, builtins := X.env.builtins } ∧
      s₄ = { s3 with heap := pushCells (s3.heap.push { cls := .type "dict", data := .dict #[] }) scope.names }) E s3 := by
    simp only [newFunctionEnv, Option.isSome_some, if_true]
    refine wpAny_bind (wpAny_alloc ?_)
    refine wpAny_bind (wpAny_layCells _ (fun name kind cells => by cases hkc : kind == NameKind.cell <;> simp [hkc]) _ _ _ _ ?_)
    rw [List.forIn_nil]
    refine wpAny_bind (wpAny_pure (wpAny_pure ⟨?_, rfl⟩))
    rw [show ({ s3 with heap := s3.heap.push { cls := .type "dict", data := .dict #[] } } : Shared).heap.objs.size = s3.heap.objs.size + 1 from Heap.size_push ..]
  refine thn ne fun cenv s4 ⟨e1, e2⟩ => ?_
  subst e1 e2
  have stY : tn 0 (pushCells (s3.heap.push { cls := .type "dict", data := .dict #[] }) scope.names) := T.keep _ _ _ st3 fun b _ o e => pushCells_keeps _ _ b o (Heap.get?_push_of_some _ e)
  have hHC : s3.heap.objs.size ≠ X.env.locals := Nat.ne_of_gt I3.lt
  have stat : ∀ {H' : Hp}, (∀ b ∈ fp, H' b = none) → ∀ b ∈ fp, FpOk (cxComp X N2 scope cl s3 H3 fp) [] H' b := fun {H'} hn b hb =>
    ⟨hn b hb, (IY.ok.exf b hb).1, IY.ok.exfs b hb, .inl hb, (IY.ok.exf b hb).2, fun p hp => nomatch hp⟩
  have loop : codeAny (model X.prog X.w) X.A (.compLoop (.ListComp elt [⟨tg, iter, [], 0⟩] scope pos) 0 (.ref it) (.ref acc) (cxComp X N2 scope cl s3 H3 fp).env) (RR (.ref acc) s3.heap.objs.size)
      { s3 with heap := pushCells (s3.heap.push { cls := .type "dict", data := .dict #[] }) scope.names } := by
    refine compLoop_any (fun n s' => ∃ i σ' H', Inv (cxComp X N2 scope cl s3 H3 fp) [] σ' H' s' ∧ tn i s'.heap ∧ (∀ b ∈ fp, H' b = none) ∧ W i n σ' H') ?_ m0 ⟨0, _, H3, IY, stY, fun b hb => (f3 b hb).1, w0⟩
    rintro n s5 ⟨i, σ5, H5, I5, st5, fr5, w5⟩
    rcases turn i n σ5 H5 w5 with ⟨stop, qn⟩ | ⟨go, S, N, hSN, step⟩
    · refine thn (T.done (cxComp X N2 scope cl s3 H3 fp) rfl rfl rfl hc i [] s5 σ5 H5 (fun _ _ => False) I5 (stat fr5) st5 stop) fun r s6 ⟨hr, I6⟩ => ?_
      subst hr
      obtain ⟨m6, ns6, _⟩ := id I6.loc
      have IX : Inv X pins σ H5 s6 := I3.call' (ch := fp) I6.os I6.base I6.hok I6.bare fun b hb => ⟨(f3 b hb).2.2.2.1, (f3 b hb).2.1, (f3 b hb).2.2.2.2.1, (f3 b hb).2.2.2.2.2⟩
      refine hR acc s3.heap.objs.size H5 s6 m6 IX ns6 I6.free hHC I3.sz (fun x c e z => ?_) (fun p hp z => ?_) qn
      · obtain ⟨v, q⟩ := I3.cell x c e
        exact absurd q.lt (by rw [z]; exact Nat.lt_irrefl _)
      · exact absurd (Heap.lt_size (I3.pin p hp).1) (by rw [z]; exact Nat.lt_irrefl _)
    · refine thn (T.item (cxComp X N2 scope cl s3 H3 fp) rfl rfl rfl hc i [] s5 σ5 H5 (fun _ _ => False) I5 (stat fr5) st5 go) fun r s6 ⟨u, hr, h6⟩ => ?_
      subst hr
      refine thn h6 fun _ s7 ⟨x, H7, I7, r7, y7, st7, fr7⟩ => ?_
      have I7' := I7.pinned (stat fr7) (T.obj _ _ st7)
      refine thn (hg cl s3 H3 fp _ s7 σ5 H7 x u _ I7' r7 (step x H7 y7)) fun _ s8 ⟨σ8, H8, I8, hS8, q8⟩ => ?_
      refine thn (he cl s3 H3 fp _ s8 σ8 H8 _ I8 q8) fun y s9 ⟨v, H9, I9, r9, q9⟩ => ?_
      obtain ⟨xs, hxs, hxl, m', hm, w9⟩ := hSN σ8 v H9 hS8 q9
      refine thn (mt_append _ s9 σ8 H9 (.ref acc) [v] (.ref acc) [y] (fun z H10 => z = .non ∧ H10 = upd H9 acc (.lst (xs ++ [v]))) I9 rfl (.cons r9 .nil) ⟨acc, xs, v, rfl, rfl, hxs, hxl, rfl, rfl⟩) fun z s10 ⟨zv, H10, I10, r10, ez, eH⟩ => ?_
      subst eH
      refine ⟨m', hm, i + 1, σ8, _, I10.unpinned, T.keep _ _ _ st7 fun b hb o e => (I10.pin (b, o) (List.mem_append_right _ (List.mem_append_right _ (mem_pinsAt hb e)))).1, fun b hb => ?_, w9⟩
      obtain ⟨o, e, d⟩ := T.obj _ _ st7 b hb
      exact (I10.pin (b, o) (List.mem_append_right _ (List.mem_append_right _ (mem_pinsAt hb e)))).2.1
  exact codeAny_compStart_list loop (T.self _ 0 _ _ _ stY loop)

/-- [elt for tg in iter] -/
theorem pe_comp {tg iter elt : Expr} {scope : Scope} {pos : Pos} (N2 : List Str) (ix : List (Option Nat)) {wi : TI} {g : TG} {te : TE} (hc : X.calm = true) (hi : PI X tg iter wi)
    (hg : ∀ cl s₂ H₂ fp, PG (cxComp X N2 scope cl s₂ H₂ fp) tg g) (he : ∀ cl s₂ H₂ fp, PE (cxComp X N2 scope cl s₂ H₂ fp) elt te)
    (hk : scope.kind = .function) (hn : compOk X.N X.env.scope.names scope.names N2 ix = true) (hs : ∀ x, foldedSetIterable iter X.env x = pure x := by intro _; rfl) :
    PE X (.ListComp elt [⟨tg, iter, [], 0⟩] scope pos) (tComp wi ix g te) := by
  intro pins s σ H Q I h
  obtain ⟨k1, k2, k3, k4, k5⟩ := compOk_use hn
  obtain ⟨cl, ecl, c1, c2⟩ := closure_ok (scope := scope) (env := X.env) fun y hy e => I.ok.has y.1 (k3 y hy e)
  rw [eval_ListComp]
  refine wpAny_comprehension_free (use := none) rfl hs ecl hk k4 (thn (hi pins s σ H _ I h) fun v s1 h1 => thn h1 fun itv s2 h2 => ?_)
  obtain ⟨it, fp, tn, J, H2, e, I2, T, st2, f2, h2⟩ := h2
  subst e
  refine comp_block (RR := fun acc C => compPost (model X.prog X.w) X.A X.xe none (EP X pins σ Q) acc C) (Q := Q) hc hg he hk hn (fun y c m => (c1 y c m).1) c2 I2 T st2 f2 h2 ?_
  intro acc C H' s' m I' ns hHC hL hsz hcells hpins q
  exact ⟨m, ns, fun h' hs' => ⟨.ref acc, H', I'.turned (it := C) (t' := s'.toks) (fun b o hb e => (hs'.2 b hb).trans e) hHC hL (.inr hsz) hcells hpins, rfl, q⟩⟩
/-- x = [elt for tg in iter], x a plain local name: the stores are exchanged -/
theorem ps_setC {i : Nat} {x : Str} {px pos' : Pos} {tg iter elt : Expr} {scope : Scope} {pos : Pos} (N2 : List Str) (ix : List (Option Nat)) {wi : TI} {g : TG} {te : TE} (hN : X.N.Nodup) (hi : X.N[i]? = some x) (hx : X.env.scope.names.lookup x = some .local) (hc : X.calm = true) (hit : PI X tg iter wi)
    (hg : ∀ cl s₂ H₂ fp, PG (cxComp X N2 scope cl s₂ H₂ fp) tg g) (he : ∀ cl s₂ H₂ fp, PE (cxComp X N2 scope cl s₂ H₂ fp) elt te)
    (hk : scope.kind = .function) (hn : compOk X.N X.env.scope.names scope.names N2 ix = true) (hw : swapsWith (.ListComp elt [⟨tg, iter, [], 0⟩] scope pos) (some (.Name x px)) pos'.line X.env = pure true) (hs : ∀ x, foldedSetIterable iter X.env x = pure x := by intro _; rfl) :
    PS X (.Assign [.Name x px] (.ListComp elt [⟨tg, iter, [], 0⟩] scope pos) pos') (tAsg (tComp wi ix g te) (gName i)) := by
  intro pins s σ H D I h
  obtain ⟨k1, k2, k3, k4, k5⟩ := compOk_use hn
  obtain ⟨cl, ecl, c1, c2⟩ := closure_ok (scope := scope) (env := X.env) fun y hy e => I.ok.has y.1 (k3 y hy e)
  rw [exec_Assign_Name_used _ _ _ _ hw]
  refine wpAny_bind (wpAny_standAt (wpAny_bind ?_))
  show wpAny _ X.A (do let _ ← comprehension (.ListComp elt [⟨tg, iter, [], 0⟩] scope pos) scope X.env _ (newList []) false (eval iter X.env) (some (assign (.Name x px) X.env))) _ _ s
  refine wpAny_bind (thn (wpAny_comprehension_free (use := some (assign (.Name x px) X.env)) (Q := fun _ s' => SP X pins D .next s') rfl hs ecl hk k4 (thn (hit pins s σ H _ I h) fun v s1 h1 => thn h1 fun itv s2 h2 => ?_)) fun _ s' hq => wpAny_pure (wpAny_pure hq))
  obtain ⟨it, fp, tn, J, H2, e, I2, T, st2, f2, h2⟩ := h2
  subst e
  refine comp_block (RR := fun acc C => compPost (model X.prog X.w) X.A X.xe (some (assign (.Name x px) X.env)) (fun _ s' => SP X pins D .next s') acc C) (Q := fun v H' => D.nx (σ.set i (some v)) H') hc hg he hk hn (fun y c m => (c1 y c m).1) c2 I2 T st2 f2 h2 ?_
  intro acc C H' s' m I' ns hHC hL hsz hcells hpins q
  show wpAny _ X.A (assign (.Name x px) X.env (.ref acc)) _ _ _
  refine wpAny_assign_Name (store_ok2 I' hN hi (.inl hx) (v := .ref acc) rfl (fun s3 I3 ⟨a, sb, ha⟩ => ?_) (.inr hx))
  have ca : C ≠ a := by
    rcases ha with z | z
    · rw [z]; exact hL
    · exact fun e => hcells x a z e.symm
  exact ⟨m, ns.sameBut sb ca, fun h' hs' => ⟨_, H', I3.turned (it := C) (t' := s3.toks) (fun b o hb e => (hs'.2 b hb).trans e) hHC hL (.inr hsz) hcells hpins, q⟩⟩
end
/-! ### the forms one uses -/
/-- over a range; the loop's name stands in slot k of the block -/
theorem comp_range {lo : Int} {n k : Nat} {te : TE} {σ2 : St} {H : Hp} {acc : Addr} {Q : VK} (Pv : Nat → List V → Hp → Prop) (hn : n ≤ 100000) (h0 : Pv 0 [] (upd H acc (.lst [])))
    (hs : ∀ (i : Nat) (out : List V) (H1 : Hp), i < n → out.length = i → H1 acc = some (.lst out) → Pv i out H1 → te (σ2.set k (some (.int (lo + i)))) H1 fun v H4 => H4 acc = some (.lst out) ∧ Pv (i + 1) (out ++ [v]) (upd H4 acc (.lst (out ++ [v]))))
    (hd : ∀ (out : List V) (H1 : Hp), out.length = n → H1 acc = some (.lst out) → Pv n out H1 → Q (.ref acc) H1) :
    CompG (Itr lo n) (gName k) te acc σ2 H Q := by
  refine ⟨fun i m σ' H' => m = n - i ∧ i ≤ n ∧ (∀ v, σ'.set k (some v) = σ2.set k (some v)) ∧ ∃ out, out.length = i ∧ H' acc = some (.lst out) ∧ Pv i out H', ⟨n, by simp, Nat.zero_le _, fun _ => rfl, [], rfl, upd_same, h0⟩, ?_⟩
  rintro i m σ' H' ⟨rfl, hi, hσ, out, ho, ha, p⟩
  by_cases hlt : i < n
  · refine .inr ⟨hlt, fun σ3 => ∀ v, σ3.set k (some v) = σ2.set k (some v), fun v H4 => H4 acc = some (.lst out) ∧ Pv (i + 1) (out ++ [v]) (upd H4 acc (.lst (out ++ [v]))), fun σ3 v H4 hS ⟨a, b⟩ => ?_, fun x H1 y => ?_⟩
    · refine ⟨out, a, ?_, n - (i + 1), by omega, rfl, hlt, hS, out ++ [v], by rw [List.length_append, ho]; rfl, upd_same, b⟩
      have : sizeLine = 16777216 := sizeLine_eq
      omega
    · obtain ⟨e, y⟩ := y
      subst e y
      refine ⟨fun v => by rw [List.set_set]; exact hσ v, ?_⟩
      have q := hs i out _ hlt ho ha p
      rw [← hσ] at q
      exact q
  · have e : i = n := by omega
    subst e
    exact .inl ⟨Nat.le_refl _, hd out H' ho ha p⟩
/-- over a list that stays as it is -/
theorem comp_list {K : PySem.W.Frag} {a : Addr} {xs : List V} {k : Nat} {te : TE} {σ2 : St} {H : Hp} {acc : Addr} {Q : VK} (Pv : Nat → List V → Hp → Prop) (hn : xs.length ≤ 100000) (h0 : Pv 0 [] (upd H acc (.lst [])))
    (hl : ∀ (i : Nat) (out : List V) (H1 : Hp), i ≤ xs.length → H1 acc = some (.lst out) → Pv i out H1 → SqL K H1 a xs)
    (hs : ∀ (i : Nat) (x : V) (out : List V) (H1 : Hp), xs[i]? = some x → out.length = i → H1 acc = some (.lst out) → Pv i out H1 → te (σ2.set k (some x)) H1 fun v H4 => H4 acc = some (.lst out) ∧ Pv (i + 1) (out ++ [v]) (upd H4 acc (.lst (out ++ [v]))))
    (hd : ∀ (out : List V) (H1 : Hp), out.length = xs.length → H1 acc = some (.lst out) → Pv xs.length out H1 → Q (.ref acc) H1) :
    CompG (Itl K a) (gName k) te acc σ2 H Q := by
  refine ⟨fun i m σ' H' => m = xs.length - i ∧ i ≤ xs.length ∧ (∀ v, σ'.set k (some v) = σ2.set k (some v)) ∧ ∃ out, out.length = i ∧ H' acc = some (.lst out) ∧ Pv i out H', ⟨xs.length, by simp, Nat.zero_le _, fun _ => rfl, [], rfl, upd_same, h0⟩, ?_⟩
  rintro i m σ' H' ⟨rfl, hi, hσ, out, ho, ha, p⟩
  have q := hl i out H' hi ha p
  by_cases hlt : i < xs.length
  · refine .inr ⟨⟨xs, xs[i], q, by simp [hlt]⟩, fun σ3 => ∀ v, σ3.set k (some v) = σ2.set k (some v), fun v H4 => H4 acc = some (.lst out) ∧ Pv (i + 1) (out ++ [v]) (upd H4 acc (.lst (out ++ [v]))), fun σ3 v H4 hS ⟨a, b⟩ => ?_, fun x H1 y => ?_⟩
    · refine ⟨out, a, ?_, xs.length - (i + 1), by omega, rfl, hlt, hS, out ++ [v], by rw [List.length_append, ho]; rfl, upd_same, b⟩
      have : sizeLine = 16777216 := sizeLine_eq
      omega
    · obtain ⟨e, y⟩ := y
      subst e
      refine ⟨fun v => by rw [List.set_set]; exact hσ v, ?_⟩
      have q2 := hs i x out _ (y xs q) ho ha p
      rw [← hσ] at q2
      exact q2
  · have e : i = xs.length := by omega
    subst e
    exact .inl ⟨⟨xs, q, Nat.le_refl _⟩, hd out H' ho ha p⟩
theorem Same.upd_new {H H' : Hp} {p : Addr} (e : Same H H') (h : H p = none) (o : HO) : Same H (upd H' p o) := fun b u q => by rw [upd_ne (ne_of_none q h)]; exact e b u q
end L2

namespace L2
open PySem PySem.Spec PyProof.Rows
/-! ### promises about fractions -/
theorem shaped_pair (n d : Int) : SeqAt.shaped (.tuple [.int n, .int d]) = true := rfl
theorem eqv_pair (n d : Int) : PyData.eqv (.tuple [.int n, .int d]) (.tuple [.int n, .int d]) = true := by simp [PyData.eqv, PyData.eqvAll]
theorem dt_rat {K : PySem.W.Frag} {H : Hp} {p : Addr} {q : Rat} (h : H p = some (ratO q)) : Dt K H (.ref p) (.tuple [.int q.num, .int (q.den : Int)]) := .tup (SqT.of h) (.cons (.int _) (.cons (.int _) .nil))
/-- a drawn fraction -/
structure spRatio (K : PySem.W.Frag) (vs : List V) (H : Hp) (Q : VK) (E : XK) : Prop where
  ex : ∃ (a : Addr) (ns : List Int) (k j : Int), vs = [.ref a, .int k, .int j] ∧ SqL K H a (ns.map V.int) ∧ ns.length ≤ 63 ∧ 0 ≤ k ∧ 0 ≤ j ∧ j < 2 ^ 61 ∧
    ∀ (q : Rat) (r : Addr) (H' : Hp), -1000000000000000000 ≤ q.num → q.num ≤ 1000000000000000000 → (q.den : Int) ≤ 1000000000 → Same H H' → H' r = some (ratO q) → Q (.ref r) H'
theorem use_ratio {K : PySem.W.Frag} {H : Hp} {Q : VK} {E : XK} {a : Addr} {ns : List Int} {k j : Int} (hS : SqL K H a (ns.map V.int)) (h63 : ns.length ≤ 63) (h1 : 0 ≤ k) (h2 : 0 ≤ j) (h3 : j < 2 ^ 61)
    (h : ∀ (q : Rat) (r : Addr) (H' : Hp), -1000000000000000000 ≤ q.num → q.num ≤ 1000000000000000000 → (q.den : Int) ≤ 1000000000 → Same H H' → H' r = some (ratO q) → Q (.ref r) H') : spRatio K [.ref a, .int k, .int j] H Q E :=
  ⟨a, ns, k, j, rfl, hS, h63, h1, h2, h3, h⟩
/-- the lowest terms, as a structure -/
structure spLeast (vs : List V) (H : Hp) (Q : VK) (E : XK) : Prop where
  ex : ∃ t b : Int, vs = [.int t, .int b] ∧ 0 < b ∧ Jm.Sz 9000 b ∧ ∀ (r : Addr) (H' : Hp), Same H H' → H' r = some (ratO (Jm.fr t b)) → Q (.ref r) H'
theorem use_least {H : Hp} {Q : VK} {E : XK} {t b : Int} (h0 : 0 < b) (h1 : Jm.Sz 9000 b) (h : ∀ (r : Addr) (H' : Hp), Same H H' → H' r = some (ratO (Jm.fr t b)) → Q (.ref r) H') : spLeast [.int t, .int b] H Q E := ⟨t, b, rfl, h0, h1, h⟩
/-- is this fraction t over b -/
structure spIs (vs : List V) (H : Hp) (Q : VK) (E : XK) : Prop where
  ex : ∃ (p : Addr) (q : Rat) (t b : Int), vs = [.ref p, .int t, .int b] ∧ H p = some (ratO q) ∧ 0 < b ∧ Jm.Sz 9000 b ∧ q = Jm.fr t b ∧ ∀ H', Same H H' → Q (.bl true) H'
theorem use_is {H : Hp} {Q : VK} {E : XK} {p : Addr} {q : Rat} {t b : Int} (hp : H p = some (ratO q)) (h0 : 0 < b) (h1 : Jm.Sz 9000 b) (e : q = Jm.fr t b) (h : ∀ H', Same H H' → Q (.bl true) H') : spIs [.ref p, .int t, .int b] H Q E := ⟨p, q, t, b, rfl, hp, h0, h1, e, h⟩
def spBelow : Sp := fun vs H Q _ => ∃ (p r : Addr) (a b : Rat), vs = [.ref p, .ref r] ∧ H p = some (ratO a) ∧ H r = some (ratO b) ∧ (a.den : Int) < 2 ^ 64 ∧ (b.den : Int) < 2 ^ 64 ∧ Q (.bl (decide (a.num * b.den < b.num * a.den))) H
def spFloor : Sp := fun vs H Q _ => ∃ (p : Addr) (a : Rat), vs = [.ref p] ∧ H p = some (ratO a) ∧ (a.den : Int) < 2 ^ 64 ∧ Q (.int (a.num / a.den)) H
/-- the sum, the product .. of two fractions -/
structure spTwo (op : Rat → Rat → Rat) (C : Rat → Rat → Prop) (vs : List V) (H : Hp) (Q : VK) (E : XK) : Prop where
  ex : ∃ (p r : Addr) (a b : Rat), vs = [.ref p, .ref r] ∧ H p = some (ratO a) ∧ H r = some (ratO b) ∧ C a b ∧ ∀ (z : Addr) (H' : Hp), Same H H' → H' z = some (ratO (op a b)) → Q (.ref z) H'
theorem use_two {op : Rat → Rat → Rat} {C : Rat → Rat → Prop} {H : Hp} {Q : VK} {E : XK} {p r : Addr} {a b : Rat} (hp : H p = some (ratO a)) (hr : H r = some (ratO b)) (hc : C a b)
    (h : ∀ (z : Addr) (H' : Hp), Same H H' → H' z = some (ratO (op a b)) → Q (.ref z) H') : spTwo op C [.ref p, .ref r] H Q E := ⟨p, r, a, b, rfl, hp, hr, hc, h⟩
end L2
namespace L2
open PySem PySem.Spec PyProof.Rows
/-- two fractions of bounded size -/
def CSz (a b : Rat) : Prop := ∃ n, n ≤ 8900 ∧ Jm.SzR n a ∧ Jm.SzR n b
/-- a fraction so many times -/
structure spMany (vs : List V) (H : Hp) (Q : VK) (E : XK) : Prop where
  ex : ∃ (p : Addr) (m : Int) (a : Rat) (n : Nat), vs = [.ref p, .int m] ∧ H p = some (ratO a) ∧ n ≤ 8800 ∧ Jm.SzR n a ∧ Jm.Sz n m ∧ ∀ (z : Addr) (H' : Hp), Same H H' → H' z = some (ratO (a * (m : Rat))) → Q (.ref z) H'
theorem use_many {H : Hp} {Q : VK} {E : XK} {p : Addr} {m : Int} {a : Rat} (n : Nat) (hp : H p = some (ratO a)) (hn : n ≤ 8800) (ha : Jm.SzR n a) (hm : Jm.Sz n m)
    (h : ∀ (z : Addr) (H' : Hp), Same H H' → H' z = some (ratO (a * (m : Rat))) → Q (.ref z) H') : spMany [.ref p, .int m] H Q E := ⟨p, m, a, n, rfl, hp, hn, ha, hm, h⟩
end L2

namespace L2
open PySem PySem.Spec PyProof.Rows
section
variable {X : Cx}
/-- sum of a list of ints of any size -/
theorem call_sum (hc : X.calm = true) : CallR X (.builtin "sum") (fun xs H Q => ∃ (a : Addr) (ns : List Int), xs = [.ref a] ∧ SqL X.K H a (ns.map V.int) ∧ Q (.int ns.sum) H) := by
  intro pins s σ H xs us Q I r h
  obtain ⟨a, ns, rfl, hS, q⟩ := h
  obtain ⟨u, rfl, ru⟩ := vals1 r
  cases ru
  obtain ⟨its, rv, p, hz⟩ := I.list hS
  have hi := intsAre_of rv
  have hl := p.isList
  obtain ⟨o, ho, _⟩ := id hl
  have hne : a ≠ s.heap.objs.size := Nat.ne_of_lt (Heap.lt_size ho)
  have W := (Walks.list (prog := X.prog) (w := X.w) (A := X.A.in1) (I.ok.hd hc) s.heap.objs.size a hne its.toArray).toS
  have hln : its.length = ns.length := by rw [← rv.length, List.length_map]
  refine call_sum_walkAnyS (wpAny_pyIter_list hl ?_)
  refine ⟨s.heap.objs.size, _, _, _, _, _, _, fun i => ns.getD i 0, rfl, W, ⟨⟨_, Heap.get?_push_size _ rfl, rfl, rfl⟩, hl.at fun o e => Heap.get?_push_of_some _ e⟩, fun b hb => ?_, fun i v hP => ?_, fun s' t' hm => ?_⟩
  · rcases List.mem_cons.mp hb with rfl | hb
    · exact Heap.lt_size (Heap.get?_push_size _ rfl)
    · obtain rfl := List.mem_singleton.mp hb
      exact Heap.lt_size (Heap.get?_push_of_some _ ho)
  · have hP' : its[i]? = some v := by simpa using hP
    have hil : i < ns.length := by
      have := (List.getElem?_eq_some_iff.mp hP').1
      omega
    obtain ⟨u, hu, ru⟩ := rv.get (i := i) (x := V.int ns[i]) (by rw [List.getElem?_map, List.getElem?_eq_getElem hil]; rfl)
    rw [hP'] at hu
    cases hu
    obtain ⟨t, e⟩ := ru
    refine ⟨t, ?_⟩
    rw [e]
    show Value.int ns[i] t = Value.int (ns.getD i 0) t
    rw [List.getD_eq_getElem?_getD, List.getElem?_eq_getElem hil]
    rfl
  · obtain ⟨h', g', d', tk', os'⟩ := s'
    have e1 : g' = s.gens := hm.gens
    have e2 : d' = s.drawn := hm.drawn
    have e3 : os' = s.os := hm.os
    subst e1 e2 e3
    have hsz : its.toArray.size = ns.length := by rw [List.size_toArray, hln]
    rw [hsz, preSum_getD, List.take_of_length_le (Nat.le_refl _)]
    exact ⟨.int ns.sum, H, I.kept (h' := h') (t' := tk') fun b o e => hm.heap b o (fun hb => absurd (Heap.lt_size e) ((List.mem_singleton.mp hb) ▸ Nat.lt_irrefl _)) (Heap.get?_push_of_some _ e), ⟨t', rfl⟩, q⟩
/-- all of a list of bools -/
theorem call_all (hc : X.calm = true) : CallR X (.builtin "all") (fun xs H Q => ∃ (a : Addr) (bs : List Bool), xs = [.ref a] ∧ SqL X.K H a (bs.map V.bl) ∧ Q (.bl (bs.all id)) H) := by
  intro pins s σ H xs us Q I r h
  obtain ⟨a, bs, rfl, hS, q⟩ := h
  obtain ⟨u, rfl, ru⟩ := vals1 r
  cases ru
  obtain ⟨its, rv, p, hz⟩ := I.list hS
  have hl := p.isList
  obtain ⟨o, ho, _⟩ := id hl
  have hne : a ≠ s.heap.objs.size := Nat.ne_of_lt (Heap.lt_size ho)
  have hln : its.length = bs.length := by rw [← rv.length, List.length_map]
  refine call_all_walk (wpAny_pyIter_list hl ?_)
  refine ⟨s.heap.objs.size, _, _, _, _, _, fun i => bs.getD i false, rfl, Walks.list (prog := X.prog) (w := X.w) (A := X.A.in1) (I.ok.hd hc) s.heap.objs.size a hne its.toArray, ⟨⟨_, Heap.get?_push_size _ rfl, rfl, rfl⟩, hl.at fun o e => Heap.get?_push_of_some _ e⟩, fun i v s' Q' E' hP hQ => ?_, fun h' tk hk => ?_⟩
  · have hP' : its[i]? = some v := by simpa using hP
    have hil : i < bs.length := by
      have := (List.getElem?_eq_some_iff.mp hP').1
      omega
    obtain ⟨u, hu, ru⟩ := rv.get (i := i) (x := V.bl bs[i]) (by rw [List.getElem?_map, List.getElem?_eq_getElem hil]; rfl)
    rw [hP'] at hu
    cases hu
    have e : v = Value.bool bs[i] := ru
    subst e
    refine wpAny_truthy_bool ?_
    have hQ2 : Q' (bs.getD i false) s' := hQ
    rw [List.getD_eq_getElem?_getD, List.getElem?_eq_getElem hil] at hQ2
    exact hQ2
  · have hsz : its.toArray.size = bs.length := by rw [List.size_toArray, hln]
    have e : (List.range its.toArray.size).all (fun i => bs.getD i false) = bs.all id := by
      rw [hsz, Bool.eq_iff_iff, List.all_eq_true, List.all_eq_true]
      refine ⟨fun z x hx => ?_, fun z i hi => ?_⟩
      · obtain ⟨i, hi, e⟩ := List.mem_iff_getElem.mp hx
        have := z i (List.mem_range.mpr hi)
        rw [List.getD_eq_getElem?_getD, List.getElem?_eq_getElem hi] at this
        rw [← e]
        exact this
      · have hi' := List.mem_range.mp hi
        rw [List.getD_eq_getElem?_getD, List.getElem?_eq_getElem hi']
        exact z _ (List.getElem_mem hi')
    rw [e]
    exact ⟨.bl (bs.all id), H, I.kept (h' := h') (t' := tk) fun b o e => hk b o (fun hb => absurd (Heap.lt_size e) ((List.mem_singleton.mp hb) ▸ Nat.lt_irrefl _)) (Heap.get?_push_of_some _ e), rfl, q⟩
end
/-! ### the same rules, the written part told by its name (so that a comprehension's block may use them) -/
section
variable {X : Cx} (K : PySem.W.Frag)
theorem ix_tupK (hK : X.K = K := by rfl) : IxR X (rIxT K) := hK ▸ ix_tup
theorem ix_listK (hK : X.K = K := by rfl) : IxR X (rIxL K) := hK ▸ ix_list
theorem pi_listK {tg l : Expr} {tl : TE} (hl : PE X l tl) (hK : X.K = K := by rfl) : PI X tg l (iList K tl) := hK ▸ pi_list hl
theorem pi_tupK {tg l : Expr} {tl : TE} (hl : PE X l tl) (hK : X.K = K := by rfl) : PI X tg l (iTup K tl) := hK ▸ pi_tup hl
theorem op_eqDK (hu : X.A.units + 64 < cLine) (hK : X.K = K := by rfl) : OpR X (compareOp .Eq) (rEqD K) := hK ▸ op_eqD hu
theorem op_neDK (hu : X.A.units + 64 < cLine) (hK : X.K = K := by rfl) : OpR X (compareOp .NotEq) (rNeD K) := hK ▸ op_neD hu
theorem call_sumK (hc : X.calm = true) (hK : X.K = K := by rfl) : CallR X (.builtin "sum") (fun xs H Q => ∃ (a : Addr) (ns : List Int), xs = [.ref a] ∧ SqL K H a (ns.map V.int) ∧ Q (.int ns.sum) H) := hK ▸ call_sum hc
theorem call_allK (hc : X.calm = true) (hK : X.K = K := by rfl) : CallR X (.builtin "all") (fun xs H Q => ∃ (a : Addr) (bs : List Bool), xs = [.ref a] ∧ SqL K H a (bs.map V.bl) ∧ Q (.bl (bs.all id)) H) := hK ▸ call_all hc
theorem call_lenK (hK : X.K = K := by rfl) : CallR X (.builtin "len") (fun xs H Q => ∃ p ys, xs = [.ref p] ∧ (SqL K H p ys ∨ SqT K H p ys) ∧ Q (.int ys.length) H) := hK ▸ call_len_seq
theorem call_list_ofK (hK : X.K = K := by rfl) : CallR X (.type "list") (fun xs H Q => ∃ p ys, xs = [.ref p] ∧ (SqL K H p ys ∨ SqT K H p ys) ∧ ∀ l, H l = none → Q (.ref l) (upd H l (.lst ys))) := hK ▸ call_list_of
theorem call_isinstK (hK : X.K = K := by rfl) : CallR X (.builtin "isinstance") (fun xs H Q => ∃ x n t b, xs = [x, .ty n] ∧ TyOf K H x t ∧ PySem.W.kitOne K t (.type n) = some b ∧ Q (.bl b) H) := hK ▸ call_isinst
end
/-! ### lists of fractions -/
inductive Rats (H : Hp) : List V → List Rat → Prop
  | nil : Rats H [] []
  | cons {r : Addr} {q : Rat} {vs : List V} {qs : List Rat} : H r = some (ratO q) → Rats H vs qs → Rats H (.ref r :: vs) (q :: qs)
theorem Rats.mono {H H' : Hp} {vs : List V} {qs : List Rat} (h : Rats H vs qs) (g : Same H H') : Rats H' vs qs := by
  induction h with
  | nil => exact .nil
  | cons e _ ih => exact .cons (g _ _ e) ih
/-- the fractions stay where another list is written -/
theorem Rats.upd_lst {H : Hp} {vs : List V} {qs : List Rat} {a : Addr} {xs ys : List V} (h : Rats H vs qs) (ha : H a = some (.lst xs)) : Rats (upd H a (.lst ys)) vs qs := by
  induction h with
  | nil => exact .nil
  | cons e _ ih => exact .cons (by rw [upd_ne (ne_of e ha (by intro z; cases z))]; exact e) ih
theorem Rats.length {H : Hp} {vs : List V} {qs : List Rat} (h : Rats H vs qs) : vs.length = qs.length := by
  induction h with
  | nil => rfl
  | cons _ _ ih => simp [ih]
theorem Rats.snoc {H : Hp} {vs : List V} {qs : List Rat} {r : Addr} {q : Rat} (h : Rats H vs qs) (e : H r = some (ratO q)) : Rats H (vs ++ [.ref r]) (qs ++ [q]) := by
  induction h with
  | nil => exact .cons e .nil
  | cons e2 _ ih => exact .cons e2 ih
theorem Rats.get {H : Hp} {vs : List V} {qs : List Rat} (h : Rats H vs qs) : ∀ {i : Nat} {v : V}, vs[i]? = some v → ∃ r q, v = .ref r ∧ qs[i]? = some q ∧ H r = some (ratO q) := by
  induction h with
  | nil => intro i v e; simp at e
  | @cons r q vs qs e _ ih =>
    intro i v ev
    cases i with
    | zero => simp at ev; subst ev; exact ⟨r, q, rfl, rfl, e⟩
    | succ i => simp at ev; obtain ⟨r', q', a, b, c⟩ := ih ev; exact ⟨r', q', a, by simpa using b, c⟩
theorem Rats.getQ {H : Hp} {vs : List V} {qs : List Rat} (h : Rats H vs qs) : ∀ {i : Nat} {q : Rat}, qs[i]? = some q → ∃ r, vs[i]? = some (.ref r) ∧ H r = some (ratO q) := by
  induction h with
  | nil => intro i v e; simp at e
  | @cons r q vs qs e _ ih =>
    intro i v ev
    cases i with
    | zero => simp at ev; subst ev; exact ⟨r, rfl, e⟩
    | succ i => simp at ev; obtain ⟨r', a, c⟩ := ih ev; exact ⟨r', by simpa using a, c⟩
def ratD (q : Rat) : PyData := .tuple [.int q.num, .int (q.den : Int)]
theorem Rats.dt {K : PySem.W.Frag} {H : Hp} {vs : List V} {qs : List Rat} (h : Rats H vs qs) : DtA K H vs (qs.map ratD) := by
  induction h with
  | nil => exact .nil
  | cons e _ ih => exact .cons (dt_rat e) ih
theorem ratD_lay (qs : List Rat) : PyData.canLayAll0 (qs.map ratD) = true := by
  induction qs with
  | nil => rfl
  | cons q r ih =>
    rw [List.map_cons]
    unfold PyData.canLayAll0
    rw [ih]
    rfl
theorem ratD_depth (qs : List Rat) : PyData.depthAll (qs.map ratD) ≤ 1 := by
  induction qs with
  | nil => exact Nat.zero_le _
  | cons q r ih =>
    rw [List.map_cons]
    unfold PyData.depthAll
    have : PyData.depth (ratD q) ≤ 1 := Nat.le_of_ble_eq_true rfl
    omega
theorem shaped_rats (qs : List Rat) : SeqAt.shaped (.list (qs.map ratD)) = true := by
  unfold SeqAt.shaped PyData.canLay0 PyData.depth
  rw [ratD_lay]
  have := ratD_depth qs
  simp only [Bool.true_and, decide_eq_true_eq]
  omega
theorem eqv_rats (qs : List Rat) : PyData.eqv (.list (qs.map ratD)) (.list (qs.map ratD)) = true := by
  unfold PyData.eqv
  induction qs with
  | nil => rfl
  | cons q r ih =>
    rw [List.map_cons]
    unfold PyData.eqvAll
    rw [ih, Bool.and_true]
    exact eqv_pair _ _
/-- the sum of fractions -/
def rsum (qs : List Rat) : Rat := qs.foldr (· + ·) 0
structure spTotal (K : PySem.W.Frag) (vs : List V) (H : Hp) (Q : VK) (E : XK) : Prop where
  ex : ∃ (a : Addr) (xs : List V) (qs : List Rat) (n : Nat), vs = [.ref a] ∧ SqL K H a xs ∧ Rats H xs qs ∧ (∀ q ∈ qs, Jm.SzR n q) ∧ n * (qs.length + 1) ≤ 8900 ∧ qs.length ≤ 100 ∧ ∀ (z : Addr) (H' : Hp), Same H H' → H' z = some (ratO (rsum qs)) → Q (.ref z) H'
theorem use_total {K : PySem.W.Frag} {H : Hp} {Q : VK} {E : XK} {a : Addr} {xs : List V} {qs : List Rat} (n : Nat) (hS : SqL K H a xs) (hR : Rats H xs qs) (hz : ∀ q ∈ qs, Jm.SzR n q) (hn : n * (qs.length + 1) ≤ 8900) (hl : qs.length ≤ 100)
    (h : ∀ (z : Addr) (H' : Hp), Same H H' → H' z = some (ratO (rsum qs)) → Q (.ref z) H') : spTotal K [.ref a] H Q E := ⟨a, xs, qs, n, rfl, hS, hR, hz, hn, hl, h⟩
end L2
namespace L2
theorem rsum_snoc (qs : List Rat) (q : Rat) : rsum (qs ++ [q]) = rsum qs + q := by
  unfold rsum
  induction qs with
  | nil => show q + 0 = 0 + q; grind
  | cons x r ih =>
    show x + List.foldr (· + ·) 0 (r ++ [q]) = x + List.foldr (· + ·) 0 r + q
    rw [ih]; grind
end L2

/-! zip of two lists, walked with a target of two names -/
namespace L2
open PySem PySem.Spec PyProof.Rows
/-- two lists side by side; each turn a new pair -/
def Itz (K : PySem.W.Frag) (l1 l2 : Addr) : It :=
  ⟨fun i H => ∃ xs ys x y, SqL K H l1 xs ∧ SqL K H l2 ys ∧ xs[i]? = some x ∧ ys[i]? = some y,
   fun i H v H' => ∃ p x y, H p = none ∧ v = .ref p ∧ H' = upd H p (.tup [x, y]) ∧ ∀ xs ys, SqL K H l1 xs → SqL K H l2 ys → xs[i]? = some x ∧ ys[i]? = some y,
   fun i H => ∃ xs ys, SqL K H l1 xs ∧ SqL K H l2 ys ∧ (xs.length ≤ i ∨ ys.length ≤ i)⟩
theorem turn_zip {P : Program} {w : World} {K : PySem.W.Frag} {elts : List Expr} {kk : Nat} {pos : Pos} {z TI TO i1 i2 l1 l2 : Addr} (D : ZipApart z TI TO i1 i2 l1 l2) :
    Turn P w K (.Tuple elts kk pos) (Itz K l1 l2) [z, TI, TO, i1, i2] z (fun i h => IsZip h z TI TO .none ∧ IsPair h TI (.ref i1) (.ref i2) ∧ (∃ a b, IsPair h TO a b) ∧ h.IsListIter i1 l1 i ∧ h.IsListIter i2 l2 i) where
  mem := by simp
  obj := fun i h st b hb => by
    obtain ⟨hz, hTI, ⟨a, b', hTO⟩, ⟨o1, e1, c1, d1⟩, ⟨o2, e2, c2, d2⟩⟩ := st
    have hb' : b = z ∨ b = TI ∨ b = TO ∨ b = i1 ∨ b = i2 := by simpa using hb
    rcases hb' with rfl | rfl | rfl | rfl | rfl
    · exact ⟨_, hz, fun v q => by cases q⟩
    · exact ⟨_, hTI, fun v q => by cases q⟩
    · exact ⟨_, hTO, fun v q => by cases q⟩
    · exact ⟨o1, e1, fun v q => by rw [d1] at q; cases q⟩
    · exact ⟨o2, e2, fun v q => by rw [d2] at q; cases q⟩
  keep := fun i h h' st k => by
    obtain ⟨hz, hTI, ⟨a, b', hTO⟩, h1, h2⟩ := st
    exact ⟨k z (by simp) _ hz, k TI (by simp) _ hTI, ⟨a, b', k TO (by simp) _ hTO⟩, h1.at fun o e => k i1 (by simp) o e, h2.at fun o e => k i2 (by simp) o e⟩
  item := by
    intro X hP hw hK hc i pins s σ H E I hf st hg
    subst hP hw hK
    obtain ⟨hz, hTI, ⟨a, b, hTO⟩, h1, h2⟩ := st
    obtain ⟨xs, ys, x, y, hxs, hys, hx, hy⟩ := hg
    obtain ⟨its, rv, p, _⟩ := I.list hxs
    obtain ⟨its2, rv2, p2, _⟩ := I.list hys
    obtain ⟨u, hu, ru⟩ := rv.get hx
    obtain ⟨u2, hu2, ru2⟩ := rv2.get hy
    refine wpAny_pyNext_zip_item D hz hTI hTO h1 h2 p.isList p2.isList (x := u) (y := u2) (by simpa using hu) (by simpa using hu2) fun h' a1 a2 a3 a4 a5 a6 hk => ?_
    refine ⟨_, rfl, wpAny_letOwnedTupleGo_zip (s := { s with heap := h' }) a1 fun h'' b1 hs => ?_⟩
    have hTz : s.heap.objs.size ≠ z := Nat.ne_of_gt (Heap.lt_size hz)
    have kk2 : ∀ c o, c ≠ z → c ≠ TO → c ≠ i1 → c ≠ i2 → s.heap.get? c = some o → h''.get? c = some o := fun c o c1 c2 c3 c4 e => hs.extBut _ _ c1 (hk c o c1 c2 c3 c4 e)
    have hn := I.fresh
    have nf : ∀ b u, H b = some u → b ≠ z ∧ b ≠ TO ∧ b ≠ i1 ∧ b ≠ i2 := fun b u e => by
      have g : ∀ c ∈ [z, TI, TO, i1, i2], b ≠ c := fun c hc q => by
        have := (hf c hc).1
        rw [← q, e] at this
        cases this
      exact ⟨g z (by simp), g TO (by simp), g i1 (by simp), g i2 (by simp)⟩
    have nch : ∀ c, c ∉ [z, TI, TO, i1, i2] → c ≠ z ∧ c ≠ TO ∧ c ≠ i1 ∧ c ≠ i2 := fun c hc => ⟨fun q => hc (by simp [q]), fun q => hc (by simp [q]), fun q => hc (by simp [q]), fun q => hc (by simp [q])⟩
    have newT : IsPair h'' s.heap.objs.size u u2 := hs.extBut _ _ hTz a5
    have hok : HOk X.prog X.w (upd H s.heap.objs.size (.tup [x, y])) h'' := fun b ob e => by
      by_cases hb : b = s.heap.objs.size
      · subst hb
        rw [upd_same] at e
        cases e
        exact ⟨by show 2 ≤ sizeLine; decide, [u, u2], .cons ru (.cons ru2 .nil), _, newT, rfl, 0, rfl⟩
      · rw [upd_ne hb] at e
        refine (I.hok b ob e).stay (fun c v hcv q => ?_) (fun c q => by rw [upd_ne (ne_of_none q hn)]; exact q) fun c zs q => by rw [upd_ne (ne_of_none q hn)]; exact q
        rcases hcv with r | r
        · obtain ⟨n1, n2, n3, n4⟩ := nf b ob e
          rw [r]
          rw [r] at q
          exact kk2 b v n1 n2 n3 n4 q
        · obtain ⟨n1, n2, n3, n4⟩ := nf c _ r
          exact kk2 c v n1 n2 n3 n4 q
    have I2 : Inv X pins σ (upd H s.heap.objs.size (.tup [x, y])) { s with heap := h'', gens := s.gens, drawn := s.drawn, toks := s.toks } := by
      refine I.step (ch := [z, TI, TO, i1, i2]) (fun b hb => ⟨(hf b hb).2.2.2.1, (hf b hb).2.1, (hf b hb).2.2.2.2.1, (hf b hb).2.2.2.2.2⟩) (fun b o _ _ hc' e _ => ?_) (fun b o _ _ hc' e _ => ?_) (fun b o _ e n => ?_) (fun b o hc' e => ?_)
        (fun b zs q => by rw [upd_ne (ne_of_none q hn)]; exact q) (fun b o zs q => by rw [upd_ne (ne_of_none q hn)]; exact q) (fun b ps q => ⟨#[], by rw [upd_ne (ne_of_none q hn), q]; simp⟩) (fun m hm => ?_) hok I.bare
      · obtain ⟨n1, n2, n3, n4⟩ := nch b hc'
        exact kk2 b o n1 n2 n3 n4 e
      · obtain ⟨n1, n2, n3, n4⟩ := nch b hc'
        exact ⟨o.slots, kk2 b o n1 n2 n3 n4 e⟩
      · rw [upd_ne (Nat.ne_of_lt (Heap.lt_size e))]
        exact n
      · obtain ⟨n1, n2, n3, n4⟩ := nch b hc'
        exact ⟨o, kk2 b o n1 n2 n3 n4 e⟩
      · obtain ⟨o, es, ep, ho, r⟩ := hm
        have nl : ∀ c ∈ [z, TI, TO, i1, i2], X.env.locals ≠ c := fun c hc' q => (hf c hc').2.1 q.symm
        exact ⟨o, es, ep, kk2 _ o (nl z (by simp)) (nl TO (by simp)) (nl i1 (by simp)) (nl i2 (by simp)) ho, r⟩
    refine ⟨.ref s.heap.objs.size, _, I2, rfl, ⟨s.heap.objs.size, x, y, hn, rfl, rfl, fun xs' ys' q1 q2 => ?_⟩, ⟨b1, ?_, ⟨u, u2, ?_⟩, ?_, ?_⟩, fun b hb => ?_⟩
    · rw [I.list_inj q1 hxs, I.list_inj q2 hys]
      exact ⟨hx, hy⟩
    · exact kk2 _ _ D.TIz D.TITO D.TIi1 D.TIi2 hTI
    · exact hs.extBut _ _ D.TOz a2
    · exact a3.extBut hs.extBut D.i1z
    · exact a4.extBut hs.extBut D.i2z
    · have hlt : b ≠ s.heap.objs.size := by
        have hb' : b = z ∨ b = TI ∨ b = TO ∨ b = i1 ∨ b = i2 := by simpa using hb
        obtain ⟨_, e1, _⟩ := id h1
        obtain ⟨_, e2, _⟩ := id h2
        rcases hb' with rfl | rfl | rfl | rfl | rfl
        · exact Nat.ne_of_lt (Heap.lt_size hz)
        · exact Nat.ne_of_lt (Heap.lt_size hTI)
        · exact Nat.ne_of_lt (Heap.lt_size hTO)
        · exact Nat.ne_of_lt (Heap.lt_size e1)
        · exact Nat.ne_of_lt (Heap.lt_size e2)
      rw [upd_ne hlt]
      exact (hf b hb).1
  done := by
    intro X hP hw hK hc i pins s σ H E I hf st hg
    subst hP hw hK
    obtain ⟨hz, hTI, ⟨a, b, hTO⟩, h1, h2⟩ := st
    obtain ⟨xs, ys, hxs, hys, hend⟩ := hg
    obtain ⟨its, rv, p, _⟩ := I.list hxs
    obtain ⟨its2, rv2, p2, _⟩ := I.list hys
    have hl := rv.length
    have hl2 := rv2.length
    refine wpAny_pyNext_zip_end (I.ok.hd hc) D hz hTI hTO h1 h2 p.isList p2.isList (by
      rcases hend with q | q
      · exact .inl (by simp; omega)
      · exact .inr (by simp; omega)) fun h' hk => ⟨rfl, ?_⟩
    have nch : ∀ c, c ∉ [z, TI, TO, i1, i2] → c ≠ z ∧ c ≠ TO ∧ c ≠ i1 ∧ c ≠ i2 := fun c hc => ⟨fun q => hc (by simp [q]), fun q => hc (by simp [q]), fun q => hc (by simp [q]), fun q => hc (by simp [q])⟩
    have nf : ∀ b u, H b = some u → b ≠ z ∧ b ≠ TO ∧ b ≠ i1 ∧ b ≠ i2 := fun b u e => by
      have g : ∀ c ∈ [z, TI, TO, i1, i2], b ≠ c := fun c hc q => by
        have := (hf c hc).1
        rw [← q, e] at this
        cases this
      exact ⟨g z (by simp), g TO (by simp), g i1 (by simp), g i2 (by simp)⟩
    have I2 : Inv X pins σ H { s with heap := h', gens := s.gens, drawn := s.drawn, toks := s.toks } := by
      refine I.step (ch := [z, TI, TO, i1, i2]) (fun b hb => ⟨(hf b hb).2.2.2.1, (hf b hb).2.1, (hf b hb).2.2.2.2.1, (hf b hb).2.2.2.2.2⟩) (fun b o _ _ hc' e _ => ?_) (fun b o _ _ hc' e _ => ?_) (fun b o _ e n => n) (fun b o hc' e => ?_)
        (fun b zs q => q) (fun b o zs q => q) (fun b ps q => ⟨#[], by rw [q]; simp⟩) (fun m hm => ?_) (fun b ob e => ?_) I.bare
      · obtain ⟨n1, n2, n3, n4⟩ := nch b hc'
        exact hk b o n1 n2 n3 n4 e
      · obtain ⟨n1, n2, n3, n4⟩ := nch b hc'
        exact ⟨o.slots, hk b o n1 n2 n3 n4 e⟩
      · obtain ⟨n1, n2, n3, n4⟩ := nch b hc'
        exact ⟨o, hk b o n1 n2 n3 n4 e⟩
      · obtain ⟨o, es, ep, ho, r⟩ := hm
        have nl : ∀ c ∈ [z, TI, TO, i1, i2], X.env.locals ≠ c := fun c hc' q => (hf c hc').2.1 q.symm
        exact ⟨o, es, ep, hk _ o (nl z (by simp)) (nl TO (by simp)) (nl i1 (by simp)) (nl i2 (by simp)) ho, r⟩
      · refine (I.hok b ob e).stay (fun c v hcv q => ?_) (fun c q => q) fun c zs q => q
        rcases hcv with r | r
        · obtain ⟨n1, n2, n3, n4⟩ := nf b ob e
          rw [r]
          rw [r] at q
          exact hk b v n1 n2 n3 n4 q
        · obtain ⟨n1, n2, n3, n4⟩ := nf c _ r
          exact hk c v n1 n2 n3 n4 q
    exact I2
  self := fun _ _ _ _ _ st h => wpAny_pyIter_zip st.1 h
theorem zipApart_mk {n l1 l2 : Nat} (h1 : l1 < n) (h2 : l2 < n) : ZipApart (n + 4) (n + 2) (n + 3) n (n + 1) l1 l2 := by
  have nn : ∀ i j : Nat, i ≠ j → n + i ≠ n + j := fun i j h e => h (Nat.add_left_cancel e)
  have ne : ∀ (c k : Nat), c < n → c ≠ n + k := fun c k h => by omega
  exact ⟨nn 2 4 (by decide), nn 3 4 (by decide), nn 0 4 (by decide), nn 1 4 (by decide), nn 2 3 (by decide), nn 2 0 (by decide), nn 2 1 (by decide), nn 3 0 (by decide), nn 3 1 (by decide), nn 0 1 (by decide), ne _ 4 h1, ne _ 3 h1, ne _ 0 h1, ne _ 1 h1, ne _ 4 h2, ne _ 3 h2, ne _ 0 h2, ne _ 1 h2⟩
section
variable {X : Cx} {elts : List Expr} {kk : Nat} {tpos : Pos}
def iZip (K : PySem.W.Frag) (ta : TA) : TI := fun σ H R => ta σ H fun vs H1 => ∃ l1 l2 xs ys, vs = [.ref l1, .ref l2] ∧ SqL K H1 l1 xs ∧ SqL K H1 l2 ys ∧ R (Itz K l1 l2) H1
theorem pi_zip (K : PySem.W.Frag) {a b : Expr} {ta : TA} {p pos : Pos} (hg : Gl X "zip") (hm : X.mg "zip" = none) (ha : PA X [a, b] ta) (hK : X.K = K := by rfl)
    (hs : starEach [a, b] X.env = [(false, eval a X.env), (false, eval b X.env)] := by rfl) (hs2 : starEach [b] X.env = [(false, eval b X.env)] := by rfl) :
    PI X (.Tuple elts kk tpos) (.Call (.Name "zip" p) [a, b] [] pos) (iZip K ta) := by
  subst hK
  intro pins s σ H R I h
  refine Call_ (ld_blt I hg hm boot_zip (PyProof.Rows.callWith_type1 (thn (ha pos pins s σ H _ I h) fun us s1 ⟨vs, H1, I1, r1, q1⟩ => ?_) (by rw [hs, hs2]) (by rw [hs2]; rfl)))
  obtain ⟨l1, l2, xs, ys, e, hxs, hys, q⟩ := q1
  subst e
  obtain ⟨u, w', rfl, ru, rw'⟩ := vals2 r1
  cases ru
  cases rw'
  obtain ⟨its, rv, p1, _⟩ := I1.list hxs
  obtain ⟨its2, rv2, p2, _⟩ := I1.list hys
  refine call_zip_2 p1.isList p2.isList fun h' hz hTI hTO h1 h2 hsz hk => ?_
  have I2 : Inv X pins σ H1 { s1 with heap := h' } := I1.kept (t' := s1.toks) hk
  refine wpAny_pyIter_zip (s := { s1 with heap := h' }) hz ?_
  obtain ⟨o1, ho1, _⟩ := id p1.isList
  obtain ⟨o2, ho2, _⟩ := id p2.isList
  have t1 := Heap.lt_size ho1
  have t2 := Heap.lt_size ho2
  refine ⟨s1.heap.objs.size + 4, [s1.heap.objs.size + 4, s1.heap.objs.size + 2, s1.heap.objs.size + 3, s1.heap.objs.size, s1.heap.objs.size + 1], _, _, H1, rfl, I2, turn_zip (zipApart_mk t1 t2), ⟨hz, hTI, ⟨_, _, hTO⟩, h1, h2⟩, fun b hb => ?_, q⟩
  have hb' : b = s1.heap.objs.size + 4 ∨ b = s1.heap.objs.size + 2 ∨ b = s1.heap.objs.size + 3 ∨ b = s1.heap.objs.size ∨ b = s1.heap.objs.size + 1 := by simpa using hb
  have le : s1.heap.objs.size ≤ b := by
    rcases hb' with r | r | r | r | r
    · rw [r]; exact Nat.le_add_right _ _
    · rw [r]; exact Nat.le_add_right _ _
    · rw [r]; exact Nat.le_add_right _ _
    · rw [r]; exact Nat.le_refl _
    · rw [r]; exact Nat.le_add_right _ _
  exact I1.fpOk le (I1.hok.fresh le)
end
/-- [elt for x, y in zip(..)]: the two names stand in slots k1, k2 of the block -/
theorem comp_zip {K : PySem.W.Frag} {l1 l2 : Addr} {xs ys : List V} {k1 k2 : Nat} {te : TE} {σ2 : St} {H : Hp} {acc : Addr} {Q : VK} (Pv : Nat → List V → Hp → Prop) (hne : k1 ≠ k2) (hxy : xs.length = ys.length) (hn : xs.length ≤ 100000) (h0 : Pv 0 [] (upd H acc (.lst [])))
    (hl : ∀ (i : Nat) (out : List V) (H1 : Hp), i ≤ xs.length → H1 acc = some (.lst out) → Pv i out H1 → SqL K H1 l1 xs ∧ SqL K H1 l2 ys)
    (hs : ∀ (i : Nat) (x y : V) (out : List V) (H1 : Hp) (p : Addr), xs[i]? = some x → ys[i]? = some y → out.length = i → H1 acc = some (.lst out) → Pv i out H1 → H1 p = none →
      te ((σ2.set k1 (some x)).set k2 (some y)) (upd H1 p (.tup [x, y])) fun v H4 => H4 acc = some (.lst out) ∧ Pv (i + 1) (out ++ [v]) (upd H4 acc (.lst (out ++ [v]))))
    (hd : ∀ (out : List V) (H1 : Hp), out.length = xs.length → H1 acc = some (.lst out) → Pv xs.length out H1 → Q (.ref acc) H1) :
    CompG (Itz K l1 l2) (gTup K 2 (gCons (gName k1) (gCons (gName k2) gNil))) te acc σ2 H Q := by
  refine ⟨fun i m σ' H' => m = xs.length - i ∧ i ≤ xs.length ∧ (∀ v w, (σ'.set k1 (some v)).set k2 (some w) = (σ2.set k1 (some v)).set k2 (some w)) ∧ ∃ out, out.length = i ∧ H' acc = some (.lst out) ∧ Pv i out H', ⟨xs.length, by simp, Nat.zero_le _, fun _ _ => rfl, [], rfl, upd_same, h0⟩, ?_⟩
  rintro i m σ' H' ⟨rfl, hi, hσ, out, ho, ha, p⟩
  obtain ⟨q1, q2⟩ := hl i out H' hi ha p
  by_cases hlt : i < xs.length
  · refine .inr ⟨⟨xs, ys, xs[i], ys[i]'(by omega), q1, q2, by simp [hlt], by simp [hxy ▸ hlt]⟩, fun σ3 => ∀ v w, (σ3.set k1 (some v)).set k2 (some w) = (σ2.set k1 (some v)).set k2 (some w), fun v H4 => H4 acc = some (.lst out) ∧ Pv (i + 1) (out ++ [v]) (upd H4 acc (.lst (out ++ [v]))), fun σ3 v H4 hS ⟨a, b⟩ => ?_, fun x H1 y => ?_⟩
    · refine ⟨out, a, ?_, xs.length - (i + 1), by omega, rfl, hlt, hS, out ++ [v], by rw [List.length_append, ho]; rfl, upd_same, b⟩
      have : sizeLine = 16777216 := sizeLine_eq
      omega
    · obtain ⟨pp, x1, y1, hp, rfl, rfl, hy⟩ := y
      obtain ⟨e1, e2⟩ := hy xs ys q1 q2
      refine ⟨pp, [x1, y1], rfl, SqT.of upd_same, rfl, x1, [y1], rfl, y1, [], rfl, rfl, ?_, ?_⟩
      · intro v w
        rw [List.set_comm _ _ hne, List.set_set, List.set_comm _ _ (Ne.symm hne), List.set_set]
        exact hσ v w
      · have q3 := hs i x1 y1 out H' pp e1 e2 ho ha p hp
        rw [← hσ] at q3
        exact q3
  · have e : i = xs.length := by omega
    subst e
    exact .inl ⟨⟨xs, ys, q1, q2, .inl (Nat.le_refl _)⟩, hd out H' ho ha p⟩
end L2
namespace L2
open PySem PySem.Spec PyProof.Rows
theorem pg_tupK (K : PySem.W.Frag) {X : Cx} {es : List Expr} {k : Nat} {t : TGs} {n : Nat} {pos : Pos} (hc : X.calm = true) (h : PGs X es t) (hK : X.K = K := by rfl)
    (hn : (assignEach es X.env).length = n := by rfl) (hst : (assignEach es X.env).findIdx? (·.1) = none := by rfl) : PG X (.Tuple es k pos) (gTup K n t) := hK ▸ pg_tup hc h hn hst
end L2

namespace L2
open PySem PySem.Spec PyProof.Rows
/-! ### tables of fractions -/
inductive Tab (H : Hp) : List V → List (List Rat) → Prop
  | nil : Tab H [] []
  | cons {r : Addr} {vs : List V} {qs : List Rat} {rest : List V} {qss : List (List Rat)} : H r = some (.lst vs) → Rats H vs qs → Tab H rest qss → Tab H (.ref r :: rest) (qs :: qss)
theorem Tab.mono {H H' : Hp} {xs : List V} {qss : List (List Rat)} (h : Tab H xs qss) (g : Same H H') : Tab H' xs qss := by
  induction h with
  | nil => exact .nil
  | cons e r _ ih => exact .cons (g _ _ e) (r.mono g) ih
theorem Tab.length {H : Hp} {xs : List V} {qss : List (List Rat)} (h : Tab H xs qss) : xs.length = qss.length := by
  induction h with
  | nil => rfl
  | cons _ _ _ ih => simp [ih]
theorem Tab.snoc {H : Hp} {xs : List V} {qss : List (List Rat)} {r : Addr} {vs : List V} {qs : List Rat} (h : Tab H xs qss) (e : H r = some (.lst vs)) (hr : Rats H vs qs) : Tab H (xs ++ [.ref r]) (qss ++ [qs]) := by
  induction h with
  | nil => exact .cons e hr .nil
  | cons e2 r2 _ ih => exact .cons e2 r2 ih
theorem Tab.get {H : Hp} {xs : List V} {qss : List (List Rat)} (h : Tab H xs qss) : ∀ {i : Nat} {v : V}, xs[i]? = some v → ∃ r vs qs, v = .ref r ∧ qss[i]? = some qs ∧ H r = some (.lst vs) ∧ Rats H vs qs := by
  induction h with
  | nil => intro i v e; simp at e
  | @cons r vs qs rest qss e hr _ ih =>
    intro i v ev
    cases i with
    | zero => simp at ev; subst ev; exact ⟨r, vs, qs, rfl, rfl, e, hr⟩
    | succ i => simp at ev; obtain ⟨r', vs', q', a, b, c⟩ := ih ev; exact ⟨r', vs', q', a, by simpa using b, c⟩
theorem Tab.getQ {H : Hp} {xs : List V} {qss : List (List Rat)} (h : Tab H xs qss) {i : Nat} (hi : i < qss.length) : ∃ r vs qs, xs[i]? = some (.ref r) ∧ qss[i]? = some qs ∧ H r = some (.lst vs) ∧ Rats H vs qs := by
  have hl := h.length
  obtain ⟨r, vs, qs, e, b⟩ := h.get (i := i) (v := xs[i]'(by omega)) (by simp [hl, hi])
  exact ⟨r, vs, qs, by rw [← e]; simp [hl, hi], b⟩
/-- the table stays where a list is written that is none of its rows -/
theorem Tab.upd_lst {H : Hp} {xs : List V} {qss : List (List Rat)} {a : Addr} {zs ys : List V} (h : Tab H xs qss) (ha : H a = some (.lst zs)) (hn : V.ref a ∉ xs) : Tab (upd H a (.lst ys)) xs qss := by
  induction h with
  | nil => exact .nil
  | @cons r vs qs rest qss e hr _ ih =>
    have hra : r ≠ a := fun z => hn (by rw [z]; exact List.mem_cons_self)
    exact .cons (by rw [upd_ne hra]; exact e) (hr.upd_lst ha) (ih fun m => hn (List.mem_cons_of_mem _ m))
def tabD (qss : List (List Rat)) : List PyData := qss.map fun qs => .list (qs.map ratD)
theorem Tab.dt {K : PySem.W.Frag} {H : Hp} {xs : List V} {qss : List (List Rat)} (h : Tab H xs qss) : DtA K H xs (tabD qss) := by
  induction h with
  | nil => exact .nil
  | cons e r _ ih => exact .cons (.lst (SqL.of e) r.dt) ih
theorem tabD_lay (qss : List (List Rat)) : PyData.canLayAll0 (tabD qss) = true := by
  induction qss with
  | nil => rfl
  | cons q r ih =>
    show PyData.canLayAll0 (PyData.list (q.map ratD) :: tabD r) = true
    unfold PyData.canLayAll0
    rw [ih, Bool.and_true]
    unfold PyData.canLay0
    exact ratD_lay q
theorem tabD_depth (qss : List (List Rat)) : PyData.depthAll (tabD qss) ≤ 2 := by
  induction qss with
  | nil => exact Nat.zero_le _
  | cons q r ih =>
    show PyData.depthAll (PyData.list (q.map ratD) :: tabD r) ≤ 2
    unfold PyData.depthAll
    have : PyData.depth (.list (q.map ratD)) ≤ 2 := by
      unfold PyData.depth
      have := ratD_depth q
      omega
    omega
theorem shaped_tab (qss : List (List Rat)) : SeqAt.shaped (.list (tabD qss)) = true := by
  unfold SeqAt.shaped PyData.canLay0 PyData.depth
  rw [tabD_lay]
  have := tabD_depth qss
  simp only [Bool.true_and, decide_eq_true_eq]
  omega
theorem eqv_tab (qss : List (List Rat)) : PyData.eqv (.list (tabD qss)) (.list (tabD qss)) = true := by
  unfold PyData.eqv
  induction qss with
  | nil => rfl
  | cons q r ih =>
    show PyData.eqvAll (PyData.list (q.map ratD) :: tabD r) (PyData.list (q.map ratD) :: tabD r) = true
    unfold PyData.eqvAll
    rw [ih, Bool.and_true]
    exact eqv_rats q
/-! ints as data -/
theorem dt_ints {K : PySem.W.Frag} {H : Hp} : ∀ ns : List Int, DtA K H (ns.map V.int) (ns.map PyData.int)
  | [] => .nil
  | n :: r => .cons (.int n) (dt_ints r)
theorem shaped_ints (ns : List Int) : SeqAt.shaped (.list (ns.map PyData.int)) = true := PySem.W.ke_shaped_ints ns
theorem eqv_ints (ns : List Int) : PyData.eqv (.list (ns.map PyData.int)) (.list (ns.map PyData.int)) = true := by
  unfold PyData.eqv
  induction ns with
  | nil => rfl
  | cons q r ih =>
    rw [List.map_cons]
    unfold PyData.eqvAll
    rw [ih, Bool.and_true]
    unfold PyData.eqv
    exact beq_self_eq_true q
/-! ### promises about tables -/
/-- the sum of a column, each times its number -/
def wsum (qss : List (List Rat)) (ns : List Int) (p : Nat) : Rat := rsum ((qss.zip ns).map fun z => z.1.getD p 0 * (z.2 : Rat))
structure TabOk (H : Hp) (xs : List V) (qss : List (List Rat)) (cols n : Nat) : Prop where
  tab : Tab H xs qss
  len : ∀ qs ∈ qss, qs.length = cols
  sz : ∀ qs ∈ qss, ∀ q ∈ qs, Jm.SzR n q
theorem TabOk.mono {H H' : Hp} {xs : List V} {qss : List (List Rat)} {cols n : Nat} (h : TabOk H xs qss cols n) (g : Same H H') : TabOk H' xs qss cols n := ⟨h.tab.mono g, h.len, h.sz⟩
structure spWeighed (K : PySem.W.Frag) (vs : List V) (H : Hp) (Q : VK) (E : XK) : Prop where
  ex : ∃ (a b : Addr) (xs : List V) (qss : List (List Rat)) (ns : List Int) (p cols n : Nat), vs = [.ref a, .ref b, .int (p : Int)] ∧ SqL K H a xs ∧ TabOk H xs qss cols n ∧ SqL K H b (ns.map V.int) ∧ ns.length = qss.length ∧ (∀ m ∈ ns, Jm.Sz n m) ∧ p < cols ∧
    qss.length ≤ 100 ∧ (2 * n + 1) * (qss.length + 1) ≤ 8900 ∧ ∀ (z : Addr) (H' : Hp), Same H H' → H' z = some (ratO (wsum qss ns p)) → Q (.ref z) H'
theorem use_weighed {K : PySem.W.Frag} {H : Hp} {Q : VK} {E : XK} {a b : Addr} {xs : List V} {qss : List (List Rat)} {ns : List Int} {p cols : Nat} (n : Nat) (hS : SqL K H a xs) (hT : TabOk H xs qss cols n) (hN : SqL K H b (ns.map V.int)) (hl : ns.length = qss.length)
    (hm : ∀ m ∈ ns, Jm.Sz n m) (hp : p < cols) (h100 : qss.length ≤ 100) (hn : (2 * n + 1) * (qss.length + 1) ≤ 8900) (h : ∀ (z : Addr) (H' : Hp), Same H H' → H' z = some (ratO (wsum qss ns p)) → Q (.ref z) H') : spWeighed K [.ref a, .ref b, .int (p : Int)] H Q E :=
  ⟨a, b, xs, qss, ns, p, cols, n, rfl, hS, hT, hN, hl, hm, hp, h100, hn, h⟩
structure spStakes (K : PySem.W.Frag) (vs : List V) (H : Hp) (Q : VK) (E : XK) : Prop where
  ex : ∃ (a b : Addr) (xs : List V) (qss : List (List Rat)) (ns : List Int) (cols n : Nat), vs = [.ref a, .ref b, .int (cols : Int)] ∧ SqL K H a xs ∧ TabOk H xs qss cols n ∧ SqL K H b (ns.map V.int) ∧ ns.length = qss.length ∧ (∀ m ∈ ns, Jm.Sz n m) ∧
    qss.length ≤ 100 ∧ cols ≤ 100 ∧ (2 * n + 1) * (qss.length + 1) ≤ 8900 ∧ ∀ (z : Addr) (out : List V) (H' : Hp), Same H H' → H' z = some (.lst out) → Rats H' out ((List.range cols).map fun p => wsum qss ns p) → Q (.ref z) H'
theorem use_stakes {K : PySem.W.Frag} {H : Hp} {Q : VK} {E : XK} {a b : Addr} {xs : List V} {qss : List (List Rat)} {ns : List Int} {cols : Nat} (n : Nat) (hS : SqL K H a xs) (hT : TabOk H xs qss cols n) (hN : SqL K H b (ns.map V.int)) (hl : ns.length = qss.length)
    (hm : ∀ m ∈ ns, Jm.Sz n m) (h100 : qss.length ≤ 100) (hc : cols ≤ 100) (hn : (2 * n + 1) * (qss.length + 1) ≤ 8900) (h : ∀ (z : Addr) (out : List V) (H' : Hp), Same H H' → H' z = some (.lst out) → Rats H' out ((List.range cols).map fun p => wsum qss ns p) → Q (.ref z) H') :
    spStakes K [.ref a, .ref b, .int (cols : Int)] H Q E := ⟨a, b, xs, qss, ns, cols, n, rfl, hS, hT, hN, hl, hm, h100, hc, hn, h⟩
theorem use_stakesI {K : PySem.W.Frag} {H : Hp} {Q : VK} {E : XK} {a b : Addr} {xs : List V} {qss : List (List Rat)} {ns : List Int} {cols : Nat} {c : Int} (hci : c = (cols : Int)) (n : Nat) (hS : SqL K H a xs) (hT : TabOk H xs qss cols n) (hN : SqL K H b (ns.map V.int)) (hl : ns.length = qss.length)
    (hm : ∀ m ∈ ns, Jm.Sz n m) (h100 : qss.length ≤ 100) (hc : cols ≤ 100) (hn : (2 * n + 1) * (qss.length + 1) ≤ 8900) (h : ∀ (z : Addr) (out : List V) (H' : Hp), Same H H' → H' z = some (.lst out) → Rats H' out ((List.range cols).map fun p => wsum qss ns p) → Q (.ref z) H') :
    spStakes K [.ref a, .ref b, .int c] H Q E := by
  subst hci
  exact use_stakes n hS hT hN hl hm h100 hc hn h
structure spCopy (K : PySem.W.Frag) (vs : List V) (H : Hp) (Q : VK) (E : XK) : Prop where
  ex : ∃ (a : Addr) (xs : List V) (qss : List (List Rat)), vs = [.ref a] ∧ SqL K H a xs ∧ Tab H xs qss ∧ xs.length ≤ 1000 ∧ ∀ (z : Addr) (out : List V) (H' : Hp), Same H H' → H' z = some (.lst out) → Tab H' out qss → V.ref z ∉ out → (∀ r, V.ref r ∈ out → H r = none) → H z = none → Q (.ref z) H'
theorem use_copy {K : PySem.W.Frag} {H : Hp} {Q : VK} {E : XK} {a : Addr} {xs : List V} {qss : List (List Rat)} (hS : SqL K H a xs) (hT : Tab H xs qss) (hl : xs.length ≤ 1000)
    (h : ∀ (z : Addr) (out : List V) (H' : Hp), Same H H' → H' z = some (.lst out) → Tab H' out qss → V.ref z ∉ out → (∀ r, V.ref r ∈ out → H r = none) → H z = none → Q (.ref z) H') : spCopy K [.ref a] H Q E := ⟨a, xs, qss, rfl, hS, hT, hl, h⟩
/-- the law's own stake: top over bottom, not in lowest terms -/
structure spStake (K : PySem.W.Frag) (vs : List V) (H : Hp) (Q : VK) (E : XK) : Prop where
  ex : ∃ (a b : Addr) (xs : List V) (qss : List (List Rat)) (ns : List Int) (p cols n : Nat), vs = [.ref a, .ref b, .int (p : Int)] ∧ SqL K H a xs ∧ TabOk H xs qss cols n ∧ SqL K H b (ns.map V.int) ∧ ns.length = qss.length ∧ (∀ m ∈ ns, Jm.Sz n m) ∧ p < cols ∧
    (3 * n + 1) * (qss.length + 1) ≤ 8000 ∧ ∀ (z : Addr) (T B : Int) (H' : Hp), Same H H' → H' z = some (.tup [.int T, .int B]) → 0 < B → Jm.Sz 9000 B → Jm.fr T B = wsum qss ns p → Q (.ref z) H'
theorem use_stake {K : PySem.W.Frag} {H : Hp} {Q : VK} {E : XK} {a b : Addr} {xs : List V} {qss : List (List Rat)} {ns : List Int} {p cols : Nat} (n : Nat) (hS : SqL K H a xs) (hT : TabOk H xs qss cols n) (hN : SqL K H b (ns.map V.int)) (hl : ns.length = qss.length)
    (hm : ∀ m ∈ ns, Jm.Sz n m) (hp : p < cols) (hn : (3 * n + 1) * (qss.length + 1) ≤ 8000) (h : ∀ (z : Addr) (T B : Int) (H' : Hp), Same H H' → H' z = some (.tup [.int T, .int B]) → 0 < B → Jm.Sz 9000 B → Jm.fr T B = wsum qss ns p → Q (.ref z) H') :
    spStake K [.ref a, .ref b, .int (p : Int)] H Q E := ⟨a, b, xs, qss, ns, p, cols, n, rfl, hS, hT, hN, hl, hm, hp, hn, h⟩
/-- a drawn amount from 1 to 10 ** 9 -/
structure spMuch (K : PySem.W.Frag) (vs : List V) (H : Hp) (Q : VK) (E : XK) : Prop where
  ex : ∃ (a : Addr) (ns : List Int) (k j : Int), vs = [.ref a, .int k, .int j] ∧ SqL K H a (ns.map V.int) ∧ ns.length ≤ 63 ∧ 0 ≤ k ∧ 0 ≤ j ∧ j < 2 ^ 61 ∧ ∀ (m : Int) (H' : Hp), 1 ≤ m → m ≤ 1000000000 → Same H H' → Q (.int m) H'
theorem use_much {K : PySem.W.Frag} {H : Hp} {Q : VK} {E : XK} {a : Addr} {ns : List Int} {k j : Int} (hS : SqL K H a (ns.map V.int)) (h63 : ns.length ≤ 63) (h1 : 0 ≤ k) (h2 : 0 ≤ j) (h3 : j < 2 ^ 61)
    (h : ∀ (m : Int) (H' : Hp), 1 ≤ m → m ≤ 1000000000 → Same H H' → Q (.int m) H') : spMuch K [.ref a, .int k, .int j] H Q E := ⟨a, ns, k, j, rfl, hS, h63, h1, h2, h3, h⟩
/-- drawn worths, not all nought -/
structure spWorths (K : PySem.W.Frag) (vs : List V) (H : Hp) (Q : VK) (E : XK) : Prop where
  ex : ∃ (a : Addr) (ns : List Int) (k : Int) (many : Nat), vs = [.ref a, .int k, .int (many : Int)] ∧ SqL K H a (ns.map V.int) ∧ ns.length ≤ 63 ∧ 0 ≤ k ∧ 1 ≤ many ∧ many ≤ 1000 ∧
    ∀ (z : Addr) (ws : List Int) (H' : Hp), Same H H' → H' z = some (.lst (ws.map V.int)) → H z = none → ws.length = many → (∀ m ∈ ws, 0 ≤ m ∧ m ≤ 1000000000) → 0 < ws.sum → Q (.ref z) H'
theorem use_worths {K : PySem.W.Frag} {H : Hp} {Q : VK} {E : XK} {a : Addr} {ns : List Int} {k : Int} {many : Nat} (hS : SqL K H a (ns.map V.int)) (h63 : ns.length ≤ 63) (h1 : 0 ≤ k) (h2 : 1 ≤ many) (h3 : many ≤ 1000)
    (h : ∀ (z : Addr) (ws : List Int) (H' : Hp), Same H H' → H' z = some (.lst (ws.map V.int)) → H z = none → ws.length = many → (∀ m ∈ ws, 0 ≤ m ∧ m ≤ 1000000000) → 0 < ws.sum → Q (.ref z) H') : spWorths K [.ref a, .int k, .int (many : Int)] H Q E := ⟨a, ns, k, many, rfl, hS, h63, h1, h2, h3, h⟩
theorem atI_ref {xs : List V} {i : Nat} {v : V} (h : xs[i]? = some v) : atI xs (i : Int) = some v := atI_nat h
theorem wsum_take {qss : List (List Rat)} {ns : List Int} {p i : Nat} {qs : List Rat} {m : Int} (hq : qss[i]? = some qs) (hm : ns[i]? = some m) :
    wsum (qss.take (i + 1)) (ns.take (i + 1)) p = wsum (qss.take i) (ns.take i) p + qs.getD p 0 * (m : Rat) := by
  unfold wsum
  rw [List.take_add_one, List.take_add_one, hq, hm]
  have hl : (qss.take i).length = (ns.take i).length := by
    have h1 := (List.getElem?_eq_some_iff.mp hq).1
    have h2 := (List.getElem?_eq_some_iff.mp hm).1
    rw [List.length_take, List.length_take]
    omega
  rw [List.zip_append hl, List.map_append]
  exact rsum_snoc _ _
theorem sum_nonneg : ∀ {ws : List Int}, (∀ m ∈ ws, 0 ≤ m) → 0 ≤ ws.sum
  | [], _ => Int.le_refl 0
  | x :: r, h => by
    rw [List.sum_cons]
    have := sum_nonneg (ws := r) fun m hm => h m (List.mem_cons_of_mem _ hm)
    have := h x List.mem_cons_self
    omega
theorem sum_zero : ∀ {ws : List Int}, (∀ m ∈ ws, 0 ≤ m) → ws.sum = 0 → ∀ m ∈ ws, m = 0
  | [], _, _ => fun m hm => nomatch hm
  | x :: r, h, e => by
    rw [List.sum_cons] at e
    have h1 := sum_nonneg (ws := r) fun m hm => h m (List.mem_cons_of_mem _ hm)
    have h2 := h x List.mem_cons_self
    intro m hm
    rcases List.mem_cons.mp hm with z | z
    · omega
    · exact sum_zero (fun m hm => h m (List.mem_cons_of_mem _ hm)) (by omega) m z
theorem sum_last : ∀ (ws : List Int), (∀ m ∈ ws, m = 0) → ws ≠ [] → ∀ x : Int, (ws.set (ws.length - 1) x).sum = x
  | [], _, h => absurd rfl h
  | [a], _, _ => fun x => by simp
  | a :: b :: r, h, _ => fun x => by
    have h1 := sum_last (b :: r) (fun m hm => h m (List.mem_cons_of_mem _ hm)) (by simp) x
    have h2 := h a List.mem_cons_self
    show (a :: (b :: r).set ((b :: r).length - 1) x).sum = x
    rw [List.sum_cons, h1, h2]
    omega
end L2

namespace L2
open PySem PySem.Spec PyProof.Rows
/-! ### the mix of a table -/
def ratK (q : Rat) : List Key := [Sum.inl q.num, Sum.inl (q.den : Int)]
theorem ratK_inj {a b : Rat} (h : ratK a = ratK b) : a = b := by
  unfold ratK at h
  injection h with h1 h2
  injection h2 with h2 _
  injection h1 with h1
  injection h2 with h2
  exact Rat.ext h1 (by omega)
structure spBlended (K : PySem.W.Frag) (vs : List V) (H : Hp) (Q : VK) (E : XK) : Prop where
  ex : ∃ (a rk rb : Addr) (xs : List V) (qss : List (List Rat)) (p cols n : Nat) (kept added : Rat), vs = [.ref a, .int (p : Int), .ref rk, .ref rb] ∧ SqL K H a xs ∧ TabOk H xs qss cols n ∧ p < cols ∧ H rk = some (ratO kept) ∧ H rb = some (ratO added) ∧
    Jm.SzR n kept ∧ Jm.SzR (2 * n) added ∧ n ≤ 4400 ∧ qss.length ≤ 100 ∧ ∀ (z : Addr) (out : List V) (H' : Hp), Same H H' → H' z = some (.lst out) → H z = none → Rats H' out (qss.map fun qs => qs.getD p 0 * kept + added) → Q (.ref z) H'
theorem use_blended {K : PySem.W.Frag} {H : Hp} {Q : VK} {E : XK} {a rk rb : Addr} {xs : List V} {qss : List (List Rat)} {p cols : Nat} {kept added : Rat} (n : Nat) (hS : SqL K H a xs) (hT : TabOk H xs qss cols n) (hp : p < cols) (hk : H rk = some (ratO kept)) (hb : H rb = some (ratO added))
    (sk : Jm.SzR n kept) (sb : Jm.SzR (2 * n) added) (hn : n ≤ 4400) (h100 : qss.length ≤ 100) (h : ∀ (z : Addr) (out : List V) (H' : Hp), Same H H' → H' z = some (.lst out) → H z = none → Rats H' out (qss.map fun qs => qs.getD p 0 * kept + added) → Q (.ref z) H') :
    spBlended K [.ref a, .int (p : Int), .ref rk, .ref rb] H Q E := ⟨a, rk, rb, xs, qss, p, cols, n, kept, added, rfl, hS, hT, hp, hk, hb, sk, sb, hn, h100, h⟩
/-- rows and columns exchanged -/
def turnT (css : List (List Rat)) (many : Nat) : List (List Rat) := (List.range many).map fun at' => css.map fun col => col.getD at' 0
structure spTurned (K : PySem.W.Frag) (vs : List V) (H : Hp) (Q : VK) (E : XK) : Prop where
  ex : ∃ (c : Addr) (xs : List V) (css : List (List Rat)) (many : Nat), vs = [.ref c, .int (many : Int)] ∧ SqL K H c xs ∧ Tab H xs css ∧ (∀ col ∈ css, col.length = many) ∧ many ≤ 100 ∧ css.length ≤ 100 ∧
    ∀ (z : Addr) (out : List V) (H' : Hp), Same H H' → H' z = some (.lst out) → H z = none → Tab H' out (turnT css many) → V.ref z ∉ out → out.Nodup → (∀ r, V.ref r ∈ out → H r = none) → Q (.ref z) H'
theorem use_turned {K : PySem.W.Frag} {H : Hp} {Q : VK} {E : XK} {c : Addr} {xs : List V} {css : List (List Rat)} {many : Nat} (hS : SqL K H c xs) (hT : Tab H xs css) (hl : ∀ col ∈ css, col.length = many) (hm : many ≤ 100) (hc : css.length ≤ 100)
    (h : ∀ (z : Addr) (out : List V) (H' : Hp), Same H H' → H' z = some (.lst out) → H z = none → Tab H' out (turnT css many) → V.ref z ∉ out → out.Nodup → (∀ r, V.ref r ∈ out → H r = none) → Q (.ref z) H') :
    spTurned K [.ref c, .int (many : Int)] H Q E := ⟨c, xs, css, many, rfl, hS, hT, hl, hm, hc, h⟩
def keptOf (V L : Int) : Rat := Jm.fr (V - L) V
/-- point 5 -/
def mixT (qss : List (List Rat)) (V : Int) (as : List Int) (cols : Nat) : List (List Rat) := qss.map fun qs => (List.range cols).map fun p => qs.getD p 0 * keptOf V as.sum + wsum qss as p * Jm.fr 1 V
/-- point 6 -/
def giftT (qss : List (List Rat)) (V A : Int) (place cols : Nat) : List (List Rat) := qss.map fun qs => (List.range cols).map fun p => qs.getD p 0 * keptOf V A + (if p = place then Jm.fr A V else 0)
theorem turn_cols (qss : List (List Rat)) (cols : Nat) (f : Nat → List Rat → Rat) :
    turnT ((List.range cols).map fun p => qss.map fun qs => f p qs) qss.length = qss.map fun qs => (List.range cols).map fun p => f p qs := by
  unfold turnT
  apply List.ext_getElem
  · simp
  · intro i h1 h2
    simp at h1 h2
    simp only [List.getElem_map, List.getElem_range, List.map_map]
    apply List.map_congr_left
    intro p hp
    simp [h1]
structure spMix (K : PySem.W.Frag) (vs : List V) (H : Hp) (Q : VK) (E : XK) : Prop where
  ex : ∃ (a b c : Addr) (xs : List V) (qss : List (List Rat)) (ws as : List Int) (cols n : Nat), vs = [.ref a, .ref b, .ref c] ∧ SqL K H a xs ∧ TabOk H xs qss cols n ∧ SqL K H b (ws.map V.int) ∧ SqL K H c (as.map V.int) ∧ ws.length = qss.length ∧ as.length = qss.length ∧
    (∀ m ∈ ws, Jm.Sz n m) ∧ (∀ m ∈ as, Jm.Sz n m) ∧ 0 < ws.sum ∧ 1 ≤ qss.length ∧ qss.length ≤ 100 ∧ cols ≤ 100 ∧ (2 * n + 3) * (qss.length + 1) ≤ 8000 ∧
    ∀ (z : Addr) (out : List V) (H' : Hp), Same H H' → H' z = some (.lst out) → H z = none → Tab H' out (mixT qss ws.sum as cols) → V.ref z ∉ out → out.Nodup → (∀ r, V.ref r ∈ out → H r = none) → Q (.ref z) H'
theorem use_mix {K : PySem.W.Frag} {H : Hp} {Q : VK} {E : XK} {a b c : Addr} {xs : List V} {qss : List (List Rat)} {ws as : List Int} {cols : Nat} (n : Nat) (hS : SqL K H a xs) (hT : TabOk H xs qss cols n) (hW : SqL K H b (ws.map V.int)) (hA : SqL K H c (as.map V.int))
    (h1 : ws.length = qss.length) (h2 : as.length = qss.length) (s1 : ∀ m ∈ ws, Jm.Sz n m) (s2 : ∀ m ∈ as, Jm.Sz n m) (hpos : 0 < ws.sum) (h3 : 1 ≤ qss.length) (h4 : qss.length ≤ 100) (h5 : cols ≤ 100) (hn : (2 * n + 3) * (qss.length + 1) ≤ 8000)
    (h : ∀ (z : Addr) (out : List V) (H' : Hp), Same H H' → H' z = some (.lst out) → H z = none → Tab H' out (mixT qss ws.sum as cols) → V.ref z ∉ out → out.Nodup → (∀ r, V.ref r ∈ out → H r = none) → Q (.ref z) H') : spMix K [.ref a, .ref b, .ref c] H Q E :=
  ⟨a, b, c, xs, qss, ws, as, cols, n, rfl, hS, hT, hW, hA, h1, h2, s1, s2, hpos, h3, h4, h5, hn, h⟩
structure spGift (K : PySem.W.Frag) (vs : List V) (H : Hp) (Q : VK) (E : XK) : Prop where
  ex : ∃ (a b : Addr) (xs : List V) (qss : List (List Rat)) (ws : List Int) (A : Int) (place cols n : Nat), vs = [.ref a, .ref b, .int (place : Int), .int A] ∧ SqL K H a xs ∧ TabOk H xs qss cols n ∧ SqL K H b (ws.map V.int) ∧ ws.length = qss.length ∧
    (∀ m ∈ ws, Jm.Sz n m) ∧ Jm.Sz n A ∧ 0 < ws.sum ∧ 1 ≤ qss.length ∧ qss.length ≤ 100 ∧ cols ≤ 100 ∧ n + qss.length + 1 ≤ 4400 ∧
    ∀ (z : Addr) (out : List V) (H' : Hp), Same H H' → H' z = some (.lst out) → H z = none → Tab H' out (giftT qss ws.sum A place cols) → V.ref z ∉ out → out.Nodup → (∀ r, V.ref r ∈ out → H r = none) → Q (.ref z) H'
theorem use_gift {K : PySem.W.Frag} {H : Hp} {Q : VK} {E : XK} {a b : Addr} {xs : List V} {qss : List (List Rat)} {ws : List Int} {A : Int} {place cols : Nat} (n : Nat) (hS : SqL K H a xs) (hT : TabOk H xs qss cols n) (hW : SqL K H b (ws.map V.int)) (h1 : ws.length = qss.length)
    (s1 : ∀ m ∈ ws, Jm.Sz n m) (s2 : Jm.Sz n A) (hpos : 0 < ws.sum) (h3 : 1 ≤ qss.length) (h4 : qss.length ≤ 100) (h5 : cols ≤ 100) (hn : n + qss.length + 1 ≤ 4400)
    (h : ∀ (z : Addr) (out : List V) (H' : Hp), Same H H' → H' z = some (.lst out) → H z = none → Tab H' out (giftT qss ws.sum A place cols) → V.ref z ∉ out → out.Nodup → (∀ r, V.ref r ∈ out → H r = none) → Q (.ref z) H') : spGift K [.ref a, .ref b, .int (place : Int), .int A] H Q E :=
  ⟨a, b, xs, qss, ws, A, place, cols, n, rfl, hS, hT, hW, h1, s1, s2, hpos, h3, h4, h5, hn, h⟩
/-- the fractions stay where a dict or a list is written -/
theorem Rats.upd_other {H : Hp} {vs : List V} {qs : List Rat} {a : Addr} {o : HO} (h : Rats H vs qs) (hn : ∀ q : Rat, H a ≠ some (ratO q)) : Rats (upd H a o) vs qs := by
  induction h with
  | nil => exact .nil
  | cons e _ ih => exact .cons (by rw [upd_ne (fun z => hn _ (z ▸ e))]; exact e) ih
end L2

/-! range as a value, list(range(..)), xs[::-1] -/
namespace L2
open PySem PySem.Spec PyProof.Rows
section
variable {X : Cx}
def tRng (ta : TA) : TE := fun σ H Q => ta σ H fun vs H1 => ∃ j : Int, vs = [.int j] ∧ ∀ p, H1 p = none → Q (.ref p) (upd H1 p (.rng 0 j))
theorem pe_range1 {a : Expr} {ta : TA} {p pos : Pos} (hg : Gl X "range") (hm : X.mg "range" = none) (ha : PA X [a] ta) (hs : starEach [a] X.env = [(false, eval a X.env)] := by rfl) : PE X (.Call (.Name "range" p) [a] [] pos) (tRng ta) := by
  intro pins s σ H Q I h
  refine Call_ (ld_blt I hg hm boot_range (PyProof.Rows.callWith_type1 (thn (ha pos pins s σ H _ I h) fun us s1 ⟨vs, H1, I1, r1, q1⟩ => ?_) hs rfl))
  obtain ⟨j, e, q⟩ := q1
  subst e
  obtain ⟨u, rfl, ru⟩ := vals1 r1
  obtain ⟨t, rfl⟩ := ru
  exact call_range_1 ⟨.ref s1.heap.objs.size, _, I1.laid (a := s1.heap.objs.size) (o := .rng 0 j) (fun b o e => Heap.get?_push_of_some _ e) (Nat.le_refl _) ⟨_, _, _, Heap.get?_push_size _ rfl⟩, rfl, q _ I1.fresh⟩
/-- 0, 1, .. as values -/
def upTo (n : Nat) : List Int := (List.range n).map fun i => ((i : Nat) : Int)
theorem call_list_rng (hc : X.calm = true) : CallR X (.type "list") (fun xs H Q => ∃ (r : Addr) (n : Nat), xs = [.ref r] ∧ H r = some (.rng 0 (n : Int)) ∧ n ≤ 1000 ∧ ∀ l, H l = none → Q (.ref l) (upd H l (.lst ((upTo n).map V.int)))) := by
  intro pins s σ H xs us Q I r h
  obtain ⟨a, n, rfl, hr, hn, q⟩ := h
  obtain ⟨u, rfl, ru⟩ := vals1 r
  cases ru
  obtain ⟨t, t2, t3, e⟩ := (show ObjOk X.prog X.w H s.heap a (.rng 0 (n : Int)) from I.hok a _ hr)
  refine call_list_range (n := n) (I.ok.hd hc) e (small_one (by decide) (by decide) (by omega) (by omega)) (by rw [rangeSize_one]; split <;> omega) (by omega) fun h' tk acc' c' hk hS hI => ?_
  obtain ⟨hsz, hit⟩ := hI
  have hv : Vals ((upTo n).map V.int) acc'.toList := by
    have gen : ∀ (m : Nat) (us : List Value) (k : Nat), us.length = m → (∀ (j : Nat) (v : Value), us[j]? = some v → ∃ t, v = .int ((0 : Int) + ((k + j : Nat) : Int) * 1) t) → Vals (((List.range' k m).map fun i => ((i : Nat) : Int)).map V.int) us := by
      intro m
      induction m with
      | zero => intro us k hl _; rw [List.length_eq_zero_iff.mp hl]; exact .nil
      | succ m ih =>
        intro us k hl hu
        cases us with
        | nil => cases hl
        | cons v r =>
          obtain ⟨t, e⟩ := hu 0 v rfl
          refine .cons ⟨t, ?_⟩ (ih r (k + 1) (by simpa using hl) fun j v' hj => ?_)
          · rw [e]
            show Value.int _ t = Value.int ((k : Nat) : Int) t
            congr 1
            omega
          · obtain ⟨t, e⟩ := hu (j + 1) v' (by simpa using hj)
            exact ⟨t, by rw [e]; congr 1; omega⟩
    have := gen n acc'.toList 0 (by simpa using hsz) fun j v hj => by
      obtain ⟨t, e⟩ := hit j v (by simpa using hj)
      exact ⟨t, by rw [e]; congr 1; omega⟩
    unfold upTo
    rw [List.range_eq_range']
    exact this
  have hlen : ((upTo n).map V.int).length ≤ sizeLine := by unfold upTo; simp; exact small (by omega)
  exact ⟨.ref s.heap.objs.size, _, I.laid (a := s.heap.objs.size) (o := .lst ((upTo n).map V.int)) (h' := h') (t' := tk) hk (Nat.le_refl _) ⟨hlen, acc'.toList, c', hv, by simpa using hS⟩, rfl, q _ I.fresh⟩
def tRev (K : PySem.W.Frag) (te ts : TE) : TE := fun σ H Q => te σ H fun x H1 => ts σ H1 fun y H2 => y = .int (-1) ∧ ∃ a xs, x = .ref a ∧ SqL K H2 a xs ∧ ∀ p, H2 p = none → Q (.ref p) (upd H2 p (.lst xs.reverse))
theorem pe_rev (K : PySem.W.Frag) {e st : Expr} {te ts : TE} {pos p2 : Pos} (he : PE X e te) (hst : PE X st ts) (hK : X.K = K := by rfl) : PE X (.Subscript e (.Slice none none (some st) p2) pos) (tRev K te ts) := by
  subst hK
  intro pins s σ H Q I h
  refine Subscript_ (thn (he pins s σ H _ I h) fun v s1 ⟨x, H1, I1, r1, q1⟩ => ?_)
  refine wpAny_Slice ?_
  rw [evalPart_none]
  refine wpAny_pure (wpAny_pure ?_)
  rw [evalPart_some]
  refine thn (hst pins s1 σ H1 _ I1 q1) fun w3 s3 ⟨y, H3, I3, r3, q3⟩ => ?_
  obtain ⟨ey, a, xs, rfl, hx, q⟩ := q3
  subst ey
  obtain ⟨t, rfl⟩ := r3
  cases r1
  have I4 : Inv X pins σ H3 { s3 with heap := s3.heap.push { cls := .type "slice", data := .fields #[.none, .none, .int (-1) t] } } := I3.kept (t' := s3.toks) fun b ob q => Heap.get?_push_of_some _ q
  obtain ⟨its, r, ht, hz⟩ := I4.list hx
  have hlen := r.length
  refine tail_any (ops := [.ref a, .ref s3.heap.objs.size]) ht.isList.typeIs slot_list_getitem.lookup ?_ (by with_unfolding_all rfl)
  refine wpAny_getItem_list_slice ht.isList (Heap.IsSliceOf.new ..) .none .none (.int (-1) t) (by decide) ?_ (by rw [List.size_toArray] <;> omega)
  rw [PySem.W.krv_pick]
  refine ⟨.ref _, _, I4.laid (t' := s3.toks) (o := .lst xs.reverse) (fun b ob q => Heap.get?_push_of_some _ q) (Nat.le_refl _) ?_, rfl, q _ I4.fresh⟩
  exact ⟨by rw [List.length_reverse]; exact hz, its.reverse, 0, r.reverse, Heap.get?_push_size _ rfl⟩
end
end L2

namespace L2
open PySem PySem.Spec PyProof.Rows
/-! ### tables of whole numbers -/
inductive ITab (H : Hp) : List V → List (List Int) → Prop
  | nil : ITab H [] []
  | cons {r : Addr} {ns : List Int} {rest : List V} {nss : List (List Int)} : H r = some (.lst (ns.map V.int)) → ITab H rest nss → ITab H (.ref r :: rest) (ns :: nss)
theorem ITab.mono {H H' : Hp} {xs : List V} {nss : List (List Int)} (h : ITab H xs nss) (g : Same H H') : ITab H' xs nss := by
  induction h with
  | nil => exact .nil
  | cons e _ ih => exact .cons (g _ _ e) ih
theorem ITab.length {H : Hp} {xs : List V} {nss : List (List Int)} (h : ITab H xs nss) : xs.length = nss.length := by
  induction h with
  | nil => rfl
  | cons _ _ ih => simp [ih]
theorem ITab.snoc {H : Hp} {xs : List V} {nss : List (List Int)} {r : Addr} {ns : List Int} (h : ITab H xs nss) (e : H r = some (.lst (ns.map V.int))) : ITab H (xs ++ [.ref r]) (nss ++ [ns]) := by
  induction h with
  | nil => exact .cons e .nil
  | cons e2 _ ih => exact .cons e2 ih
theorem ITab.get {H : Hp} {xs : List V} {nss : List (List Int)} (h : ITab H xs nss) : ∀ {i : Nat} {v : V}, xs[i]? = some v → ∃ r ns, v = .ref r ∧ nss[i]? = some ns ∧ H r = some (.lst (ns.map V.int)) := by
  induction h with
  | nil => intro i v e; simp at e
  | @cons r ns rest nss e _ ih =>
    intro i v ev
    cases i with
    | zero => simp at ev; subst ev; exact ⟨r, ns, rfl, rfl, e⟩
    | succ i => simp at ev; obtain ⟨r', ns', a, b, c⟩ := ih ev; exact ⟨r', ns', a, by simpa using b, c⟩
theorem ITab.upd_lst {H : Hp} {xs : List V} {nss : List (List Int)} {a : Addr} {ys : List V} (h : ITab H xs nss) (hn : V.ref a ∉ xs) : ITab (upd H a (.lst ys)) xs nss := by
  induction h with
  | nil => exact .nil
  | @cons r ns rest nss e _ ih =>
    have hra : r ≠ a := fun z => hn (by rw [z]; exact List.mem_cons_self)
    exact .cons (by rw [upd_ne hra]; exact e) (ih fun m => hn (List.mem_cons_of_mem _ m))
theorem ITab.set {H : Hp} {xs : List V} {nss : List (List Int)} {r : Addr} {ns : List Int} (e : H r = some (.lst (ns.map V.int))) (h : ITab H xs nss) : ∀ j : Nat, ITab H (xs.set j (.ref r)) (nss.set j ns) := by
  induction h with
  | nil => intro j; exact .nil
  | cons e2 t ih =>
    intro j
    cases j with
    | zero => exact .cons e t
    | succ j => exact .cons e2 (ih j)
structure RowOk (owners : Nat) (ns : List Int) : Prop where
  len : ns.length = owners
  bound : ∀ t ∈ ns, 0 ≤ t ∧ t ≤ 1000
  pos : 0 < ns.sum
def fracs (ns : List Int) : List Rat := ns.map fun t => Jm.fr t ns.sum
structure spRow (K : PySem.W.Frag) (vs : List V) (H : Hp) (Q : VK) (E : XK) : Prop where
  ex : ∃ (a : Addr) (ms : List Int) (k : Int) (owners : Nat), vs = [.ref a, .int k, .int (owners : Int)] ∧ SqL K H a (ms.map V.int) ∧ ms.length ≤ 63 ∧ 0 ≤ k ∧ 1 ≤ owners ∧ owners ≤ 100 ∧
    ∀ (z : Addr) (ns : List Int) (H' : Hp), Same H H' → H' z = some (.lst (ns.map V.int)) → H z = none → RowOk owners ns → Q (.ref z) H'
theorem use_row {K : PySem.W.Frag} {H : Hp} {Q : VK} {E : XK} {a : Addr} {ms : List Int} {k : Int} {owners : Nat} (hS : SqL K H a (ms.map V.int)) (h63 : ms.length ≤ 63) (h1 : 0 ≤ k) (h2 : 1 ≤ owners) (h3 : owners ≤ 100)
    (h : ∀ (z : Addr) (ns : List Int) (H' : Hp), Same H H' → H' z = some (.lst (ns.map V.int)) → H z = none → RowOk owners ns → Q (.ref z) H') : spRow K [.ref a, .int k, .int (owners : Int)] H Q E := ⟨a, ms, k, owners, rfl, hS, h63, h1, h2, h3, h⟩
structure spTable (K : PySem.W.Frag) (vs : List V) (H : Hp) (Q : VK) (E : XK) : Prop where
  ex : ∃ (a : Addr) (ms : List Int) (k : Int) (parts owners : Nat), vs = [.ref a, .int k, .int (parts : Int), .int (owners : Int)] ∧ SqL K H a (ms.map V.int) ∧ ms.length ≤ 63 ∧ 0 ≤ k ∧ 1 ≤ parts ∧ parts ≤ 100 ∧ 1 ≤ owners ∧ owners ≤ 100 ∧
    ∀ (z : Addr) (xs : List V) (nss : List (List Int)) (H' : Hp), Same H H' → H' z = some (.lst xs) → ITab H' xs nss → nss.length = parts → (∀ ns ∈ nss, RowOk owners ns) → Q (.ref z) H'
theorem use_table {K : PySem.W.Frag} {H : Hp} {Q : VK} {E : XK} {a : Addr} {ms : List Int} {k : Int} (parts owners : Nat) {pi oi : Int} (hpi : pi = (parts : Int)) (hoi : oi = (owners : Int)) (hS : SqL K H a (ms.map V.int)) (h63 : ms.length ≤ 63) (h1 : 0 ≤ k) (h2 : 1 ≤ parts) (h3 : parts ≤ 100) (h4 : 1 ≤ owners) (h5 : owners ≤ 100)
    (h : ∀ (z : Addr) (xs : List V) (nss : List (List Int)) (H' : Hp), Same H H' → H' z = some (.lst xs) → ITab H' xs nss → nss.length = parts → (∀ ns ∈ nss, RowOk owners ns) → Q (.ref z) H') : spTable K [.ref a, .int k, .int pi, .int oi] H Q E := by
  subst hpi hoi
  exact ⟨a, ms, k, parts, owners, rfl, hS, h63, h1, h2, h3, h4, h5, h⟩
structure spFracRow (K : PySem.W.Frag) (vs : List V) (H : Hp) (Q : VK) (E : XK) : Prop where
  ex : ∃ (r : Addr) (ns : List Int), vs = [.ref r] ∧ SqL K H r (ns.map V.int) ∧ ns.length ≤ 100 ∧ (∀ t ∈ ns, 0 ≤ t ∧ t ≤ 1000) ∧ 0 < ns.sum ∧ ∀ (z : Addr) (out : List V) (H' : Hp), Same H H' → H' z = some (.lst out) → H z = none → Rats H' out (fracs ns) → Q (.ref z) H'
theorem use_fracrow {K : PySem.W.Frag} {H : Hp} {Q : VK} {E : XK} {r : Addr} {ns : List Int} (hS : SqL K H r (ns.map V.int)) (hl : ns.length ≤ 100) (hb : ∀ t ∈ ns, 0 ≤ t ∧ t ≤ 1000) (hp : 0 < ns.sum)
    (h : ∀ (z : Addr) (out : List V) (H' : Hp), Same H H' → H' z = some (.lst out) → H z = none → Rats H' out (fracs ns) → Q (.ref z) H') : spFracRow K [.ref r] H Q E := ⟨r, ns, rfl, hS, hl, hb, hp, h⟩
structure spFracs (K : PySem.W.Frag) (vs : List V) (H : Hp) (Q : VK) (E : XK) : Prop where
  ex : ∃ (a : Addr) (xs : List V) (nss : List (List Int)) (owners : Nat), vs = [.ref a] ∧ SqL K H a xs ∧ ITab H xs nss ∧ (∀ ns ∈ nss, RowOk owners ns) ∧ owners ≤ 100 ∧ nss.length ≤ 100 ∧ ∀ (z : Addr) (out : List V) (H' : Hp), Same H H' → H' z = some (.lst out) → H z = none → TabOk H' out (nss.map fracs) owners 30 → Q (.ref z) H'
theorem use_fracs {K : PySem.W.Frag} {H : Hp} {Q : VK} {E : XK} {a : Addr} {xs : List V} {nss : List (List Int)} {owners : Nat} (hS : SqL K H a xs) (hT : ITab H xs nss) (hr : ∀ ns ∈ nss, RowOk owners ns) (ho : owners ≤ 100) (hl : nss.length ≤ 100)
    (h : ∀ (z : Addr) (out : List V) (H' : Hp), Same H H' → H' z = some (.lst out) → H z = none → TabOk H' out (nss.map fracs) owners 30 → Q (.ref z) H') : spFracs K [.ref a] H Q E := ⟨a, xs, nss, owners, rfl, hS, hT, hr, ho, hl, h⟩
/-- amounts of worths: each from nought to its worth, less than all -/
structure AmtOk (ws as : List Int) : Prop where
  len : as.length = ws.length
  lo : ∀ j : Nat, 0 ≤ as.getD j 0
  hi : ∀ j : Nat, as.getD j 0 ≤ ws.getD j 0
  less : as.sum < ws.sum
structure spAmounts (K : PySem.W.Frag) (vs : List V) (H : Hp) (Q : VK) (E : XK) : Prop where
  ex : ∃ (a b : Addr) (ms ws : List Int) (k : Int), vs = [.ref a, .int k, .ref b] ∧ SqL K H a (ms.map V.int) ∧ ms.length ≤ 63 ∧ 0 ≤ k ∧ SqL K H b (ws.map V.int) ∧ ws.length ≤ 100 ∧ (∀ w ∈ ws, 0 ≤ w) ∧ 0 < ws.sum ∧
    ∀ (z : Addr) (as : List Int) (H' : Hp), Same H H' → H' z = some (.lst (as.map V.int)) → H z = none → AmtOk ws as → Q (.ref z) H'
theorem use_amounts {K : PySem.W.Frag} {H : Hp} {Q : VK} {E : XK} {a b : Addr} {ms ws : List Int} {k : Int} (hS : SqL K H a (ms.map V.int)) (h63 : ms.length ≤ 63) (h1 : 0 ≤ k) (hW : SqL K H b (ws.map V.int)) (hl : ws.length ≤ 100) (hw : ∀ w ∈ ws, 0 ≤ w) (hp : 0 < ws.sum)
    (h : ∀ (z : Addr) (as : List Int) (H' : Hp), Same H H' → H' z = some (.lst (as.map V.int)) → H z = none → AmtOk ws as → Q (.ref z) H') : spAmounts K [.ref a, .int k, .ref b] H Q E := ⟨a, b, ms, ws, k, rfl, hS, h63, h1, hW, hl, hw, hp, h⟩
theorem sum_set : ∀ (as : List Int) (j : Nat) (x : Int), j < as.length → (as.set j x).sum = as.sum - as.getD j 0 + x
  | [], j, _, h => absurd h (Nat.not_lt_zero _)
  | a :: r, 0, x, _ => by
    show (x :: r).sum = (a :: r).sum - a + x
    rw [List.sum_cons, List.sum_cons]; omega
  | a :: r, j + 1, x, h => by
    show (a :: r.set j x).sum = (a :: r).sum - r.getD j 0 + x
    rw [List.sum_cons, List.sum_cons, sum_set r j x (by simpa using h)]; omega
theorem getD_set (as : List Int) (j k : Nat) (x : Int) (h : j < as.length) : (as.set j x).getD k 0 = if k = j then x else as.getD k 0 := by
  rw [List.getD_eq_getElem?_getD, List.getElem?_set]
  by_cases e : j = k
  · subst e
    rw [if_pos rfl, if_pos h, if_pos rfl]
    rfl
  · rw [if_neg e, if_neg (Ne.symm e), ← List.getD_eq_getElem?_getD]
theorem mem_getD {as : List Int} {j : Nat} (h : j < as.length) : as.getD j 0 ∈ as := by
  rw [List.getD_eq_getElem?_getD, List.getElem?_eq_getElem h]
  exact List.getElem_mem h
theorem getD_mem {as : List Int} {m : Int} (h : m ∈ as) : ∃ j, j < as.length ∧ as.getD j 0 = m := by
  obtain ⟨j, hj, e⟩ := List.mem_iff_getElem.mp h
  exact ⟨j, hj, by rw [List.getD_eq_getElem?_getD, List.getElem?_eq_getElem hj]; exact e⟩
theorem use_worthsI {K : PySem.W.Frag} {H : Hp} {Q : VK} {E : XK} {a : Addr} {ns : List Int} {k : Int} {many : Nat} {mi : Int} (hmi : mi = (many : Int)) (hS : SqL K H a (ns.map V.int)) (h63 : ns.length ≤ 63) (h1 : 0 ≤ k) (h2 : 1 ≤ many) (h3 : many ≤ 1000)
    (h : ∀ (z : Addr) (ws : List Int) (H' : Hp), Same H H' → H' z = some (.lst (ws.map V.int)) → H z = none → ws.length = many → (∀ m ∈ ws, 0 ≤ m ∧ m ≤ 1000000000) → 0 < ws.sum → Q (.ref z) H') : spWorths K [.ref a, .int k, .int mi] H Q E := by
  subst hmi
  exact use_worths hS h63 h1 h2 h3 h
end L2

namespace L2
open PySem PySem.Spec PyProof.Rows
/-! ### what follows from the mix -/
theorem fr_div (t b : Int) : Jm.fr t b = (t : Rat) / (b : Rat) := Rat.divInt_eq_div t b
theorem rsum_cons (q : Rat) (r : List Rat) : rsum (q :: r) = q + rsum r := rfl
theorem wsum_cons (qs : List Rat) (qss : List (List Rat)) (m : Int) (ns : List Int) (p : Nat) : wsum (qs :: qss) (m :: ns) p = qs.getD p 0 * (m : Rat) + wsum qss ns p := rfl
/-- a table whose column p is f of the old one -/
theorem wsum_lin (f : List Rat → List Rat) (k c : Rat) (p : Nat) : ∀ (qss : List (List Rat)) (ns : List Int), (∀ qs ∈ qss, (f qs).getD p 0 = qs.getD p 0 * k + c) → ns.length = qss.length → wsum (qss.map f) ns p = wsum qss ns p * k + c * ((ns.sum : Int) : Rat)
  | [], [], _, _ => by show (0 : Rat) = 0 * k + c * ((0 : Int) : Rat); grind
  | qs :: r, m :: ns, h, hl => by
    rw [List.map_cons, wsum_cons, wsum_cons, wsum_lin f k c p r ns (fun x hx => h x (List.mem_cons_of_mem _ hx)) (by simpa using hl), h qs List.mem_cons_self, List.sum_cons, Rat.intCast_add]
    grind
theorem wsum_add (p : Nat) : ∀ (qss : List (List Rat)) (as bs : List Int), as.length = qss.length → bs.length = qss.length → wsum qss (List.zipWith (· + ·) as bs) p = wsum qss as p + wsum qss bs p
  | [], [], [], _, _ => by show (0 : Rat) = 0 + 0; grind
  | qs :: r, a :: as, b :: bs, h1, h2 => by
    rw [List.zipWith_cons_cons, wsum_cons, wsum_cons, wsum_cons, wsum_add p r as bs (by simpa using h1) (by simpa using h2), Rat.intCast_add]
    grind
theorem wsum_sub (p : Nat) : ∀ (qss : List (List Rat)) (as bs : List Int), as.length = qss.length → bs.length = qss.length → wsum qss (List.zipWith (· - ·) as bs) p = wsum qss as p - wsum qss bs p
  | [], [], [], _, _ => by show (0 : Rat) = 0 - 0; grind
  | qs :: r, a :: as, b :: bs, h1, h2 => by
    rw [List.zipWith_cons_cons, wsum_cons, wsum_cons, wsum_cons, wsum_sub p r as bs (by simpa using h1) (by simpa using h2), Rat.intCast_sub]
    grind
theorem sum_zipSub : ∀ (as bs : List Int), as.length = bs.length → (List.zipWith (· - ·) as bs).sum = as.sum - bs.sum
  | [], [], _ => rfl
  | a :: as, b :: bs, h => by
    rw [List.zipWith_cons_cons, List.sum_cons, List.sum_cons, List.sum_cons, sum_zipSub as bs (by simpa using h)]; omega
theorem sum_zipAdd : ∀ (as bs : List Int), as.length = bs.length → (List.zipWith (· + ·) as bs).sum = as.sum + bs.sum
  | [], [], _ => rfl
  | a :: as, b :: bs, h => by
    rw [List.zipWith_cons_cons, List.sum_cons, List.sum_cons, List.sum_cons, sum_zipAdd as bs (by simpa using h)]; omega
theorem cell_getD (cols p : Nat) (g : Nat → Rat) (h : p < cols) : ((List.range cols).map g).getD p 0 = g p := by
  rw [List.getD_eq_getElem?_getD, List.getElem?_map, List.getElem?_range h]
  rfl
/-- two mixes are one -/
theorem mix_mix (qss : List (List Rat)) (V : Int) (as bs : List Int) (cols : Nat) (hV : V ≠ 0) (hW : V - as.sum ≠ 0) (h1 : as.length = qss.length) (h2 : bs.length = qss.length) :
    mixT (mixT qss V as cols) (V - as.sum) bs cols = mixT qss V (List.zipWith (· + ·) as bs) cols := by
  have hV' : (V : Rat) ≠ 0 := fun z => hV (Rat.intCast_eq_zero_iff.mp z)
  have hW' : (V : Rat) - ((as.sum : Int) : Rat) ≠ 0 := fun z => hW (Rat.intCast_eq_zero_iff.mp (by rw [Rat.intCast_sub]; exact z))
  have hl : ∀ p, p < cols → wsum (mixT qss V as cols) bs p = wsum qss bs p * keptOf V as.sum + wsum qss as p * Jm.fr 1 V * ((bs.sum : Int) : Rat) := fun p hp =>
    wsum_lin _ _ _ p qss bs (fun qs _ => cell_getD cols p _ hp) h2
  have e0 : mixT (mixT qss V as cols) (V - as.sum) bs cols = qss.map fun qs => (List.range cols).map fun p => (((List.range cols).map fun p => qs.getD p 0 * keptOf V as.sum + wsum qss as p * Jm.fr 1 V).getD p 0) * keptOf (V - as.sum) bs.sum + wsum (mixT qss V as cols) bs p * Jm.fr 1 (V - as.sum) := by
    unfold mixT
    rw [List.map_map]
    rfl
  rw [e0]
  unfold mixT
  refine List.map_congr_left fun qs _ => List.map_congr_left fun p hp => ?_
  have hp' := List.mem_range.mp hp
  rw [cell_getD cols p _ hp']
  have hl' := hl p hp'
  unfold mixT at hl'
  rw [hl', wsum_add p qss as bs h1 h2, sum_zipAdd as bs (by omega)]
  unfold keptOf
  rw [fr_div, fr_div, fr_div, fr_div, fr_div]
  simp only [Rat.intCast_sub, Rat.intCast_add]
  have e1 : ((1 : Int) : Rat) = 1 := rfl
  rw [e1]
  generalize (V : Rat) = v at *
  generalize ((as.sum : Int) : Rat) = l at *
  generalize ((bs.sum : Int) : Rat) = m at *
  generalize qs.getD p 0 = x
  generalize wsum qss as p = y
  generalize wsum qss bs p = z
  grind
/-- stakes behind a cast -/
theorem stake_mix (qss : List (List Rat)) (ws as : List Int) (cols p : Nat) (hp : p < cols) (hV : ws.sum ≠ 0) (h1 : ws.length = qss.length) (h2 : as.length = qss.length) :
    wsum (mixT qss ws.sum as cols) (List.zipWith (· - ·) ws as) p = wsum qss ws p * keptOf ws.sum as.sum := by
  have hV' : ((ws.sum : Int) : Rat) ≠ 0 := fun z => hV (Rat.intCast_eq_zero_iff.mp z)
  have hl : wsum (mixT qss ws.sum as cols) (List.zipWith (· - ·) ws as) p = wsum qss (List.zipWith (· - ·) ws as) p * keptOf ws.sum as.sum + wsum qss as p * Jm.fr 1 ws.sum * (((List.zipWith (· - ·) ws as).sum : Int) : Rat) :=
    wsum_lin _ _ _ p qss _ (fun qs _ => cell_getD cols p _ hp) (by rw [List.length_zipWith, h1, h2, Nat.min_self])
  rw [hl, wsum_sub p qss ws as h1 h2, sum_zipSub ws as (by omega)]
  unfold keptOf
  rw [fr_div, fr_div]
  simp only [Rat.intCast_sub]
  have e1 : ((1 : Int) : Rat) = 1 := rfl
  rw [e1]
  generalize ((ws.sum : Int) : Rat) = v at *
  generalize ((as.sum : Int) : Rat) = l at *
  generalize wsum qss as p = y
  generalize wsum qss ws p = z
  grind
theorem wsum_sz {n : Nat} {qss : List (List Rat)} {as : List Int} {cols i : Nat} (hlen : ∀ qs ∈ qss, qs.length = cols) (hsz : ∀ qs ∈ qss, ∀ q ∈ qs, Jm.SzR n q) (h2 : as.length = qss.length) (s2 : ∀ m ∈ as, Jm.Sz n m) (hi : i < cols) : Jm.SzR ((2 * n + 2) * qss.length + 1) (wsum qss as i) := by
  have := Jm.rsum_sz (m := 2 * n + 1) (qs := (qss.zip as).map fun z => z.1.getD i 0 * (z.2 : Rat)) fun x hx => by
    obtain ⟨z, hz, rfl⟩ := List.mem_map.mp hx
    obtain ⟨j, hj, ez⟩ := List.mem_iff_getElem.mp hz
    have hzz : (qss.zip as)[j]? = some z := by rw [List.getElem?_eq_getElem hj, ez]
    obtain ⟨hq, hmi⟩ := List.getElem?_zip_eq_some.mp hzz
    have hc := hlen z.1 (List.mem_of_getElem? hq)
    have hpq : z.1[i]? = some (z.1.getD i 0) := by rw [List.getD_eq_getElem?_getD, List.getElem?_eq_getElem (by omega)]; rfl
    have t1 := hsz z.1 (List.mem_of_getElem? hq) _ (List.mem_of_getElem? hpq)
    have t2 : Jm.SzR (n + 1) ((z.2 : Int) : Rat) := ⟨(s2 z.2 (List.mem_of_getElem? hmi)).mono (by omega), (show Jm.Sz 1 1 from sz_lit (by decide)).mono (by omega)⟩
    exact (Jm.mul_sz t1 t2).mono (by omega)
  exact this.mono (by rw [List.length_map, List.length_zip, h2, Nat.min_self]; exact Nat.le_refl _)
/-- the mixed table's sizes -/
theorem mix_tabOk {H H' : Hp} {xs out : List V} {qss : List (List Rat)} {cols n : Nat} {V : Int} {as : List Int} (hT : TabOk H xs qss cols n) (hR : Tab H' out (mixT qss V as cols)) (hV : 0 < V) (sV : Jm.Sz (n + qss.length) V) (h2 : as.length = qss.length) (s2 : ∀ m ∈ as, Jm.Sz n m) :
    TabOk H' out (mixT qss V as cols) cols (n + (n + qss.length + 1) + ((2 * n + 2) * qss.length + 1 + (n + qss.length + 1)) + 1) := by
  have szL : Jm.Sz (n + qss.length) as.sum := h2 ▸ Jm.sum_sz s2
  have szK : Jm.SzR (n + qss.length + 1) (keptOf V as.sum) := by
    refine Jm.fr_sz hV ?_ (sV.mono (by omega))
    rw [Int.sub_eq_add_neg]
    exact sV.addS szL.neg
  have szO : Jm.SzR (n + qss.length + 1) (Jm.fr 1 V) := Jm.fr_sz hV ((show Jm.Sz 1 1 from sz_lit (by decide)).mono (by omega)) (sV.mono (by omega))
  refine ⟨hR, fun qs hqs => ?_, fun qs hqs x hx => ?_⟩
  · obtain ⟨q0, _, rfl⟩ := List.mem_map.mp hqs
    rw [List.length_map, List.length_range]
  · obtain ⟨q0, hq0, rfl⟩ := List.mem_map.mp hqs
    obtain ⟨p, hp, rfl⟩ := List.mem_map.mp hx
    have hp' := List.mem_range.mp hp
    have hc := hT.len q0 hq0
    have hpq : q0[p]? = some (q0.getD p 0) := by rw [List.getD_eq_getElem?_getD, List.getElem?_eq_getElem (by omega)]; rfl
    have t1 := hT.sz q0 hq0 _ (List.mem_of_getElem? hpq)
    exact Jm.add_sz (Jm.mul_sz t1 szK) (Jm.mul_sz (wsum_sz hT.len hT.sz h2 s2 hp') szO)
theorem zipWith_getD (f : Int → Int → Int) : ∀ (as bs : List Int) (i : Nat), i < as.length → i < bs.length → (List.zipWith f as bs)[i]? = some (f (as.getD i 0) (bs.getD i 0)) := by
  intro as bs i h1 h2
  rw [List.getElem?_zipWith]
  rw [List.getD_eq_getElem?_getD, List.getD_eq_getElem?_getD, List.getElem?_eq_getElem h1, List.getElem?_eq_getElem h2]
  rfl
theorem zipWith_take (f : Int → Int → Int) (as bs : List Int) (i : Nat) (h1 : i < as.length) (h2 : i < bs.length) : (List.zipWith f as bs).take (i + 1) = (List.zipWith f as bs).take i ++ [f (as.getD i 0) (bs.getD i 0)] := by
  rw [List.take_add_one, zipWith_getD f as bs i h1 h2]
  rfl
theorem AmtOk.sub_nonneg {ws as : List Int} (h : AmtOk ws as) : ∀ m ∈ List.zipWith (· - ·) ws as, 0 ≤ m := fun m hm => by
  obtain ⟨i, hi, e⟩ := List.mem_iff_getElem.mp hm
  rw [List.length_zipWith] at hi
  have := zipWith_getD (· - ·) ws as i (by omega) (by omega)
  rw [List.getElem?_eq_getElem (by rw [List.length_zipWith]; exact hi), e] at this
  have e2 := Option.some.inj this
  have := h.hi i
  omega
theorem AmtOk.le_max {ws as : List Int} (h : AmtOk ws as) {B : Int} (hb : ∀ m ∈ ws, 0 ≤ m ∧ m ≤ B) : ∀ m ∈ as, 0 ≤ m ∧ m ≤ B := fun m hm => by
  obtain ⟨j, hj, rfl⟩ := getD_mem hm
  have h1 := h.lo j
  have h2 := h.hi j
  have h3 := hb _ (mem_getD (as := ws) (j := j) (by rw [← h.len]; exact hj))
  omega
theorem AmtOk.sub_max {ws as : List Int} (h : AmtOk ws as) {B : Int} (hb : ∀ m ∈ ws, 0 ≤ m ∧ m ≤ B) : ∀ m ∈ List.zipWith (· - ·) ws as, 0 ≤ m ∧ m ≤ B := fun m hm => by
  refine ⟨h.sub_nonneg m hm, ?_⟩
  obtain ⟨i, hi, e⟩ := List.mem_iff_getElem.mp hm
  rw [List.length_zipWith] at hi
  have := zipWith_getD (· - ·) ws as i (by omega) (by omega)
  rw [List.getElem?_eq_getElem (by rw [List.length_zipWith]; exact hi), e] at this
  have e2 := Option.some.inj this
  have h1 := h.lo i
  have h3 := hb _ (mem_getD (as := ws) (j := i) (by omega))
  omega
end L2

namespace L2
open PySem PySem.Spec PyProof.Rows
/-! ### other amounts of the same sum -/
inductive AmtL : List Int → List Int → Prop
  | nil : AmtL [] []
  | cons {w o : Int} {ws os : List Int} : 0 ≤ o → o ≤ w → AmtL ws os → AmtL (w :: ws) (o :: os)
theorem AmtL.length {ws os : List Int} (h : AmtL ws os) : os.length = ws.length := by
  induction h with
  | nil => rfl
  | cons _ _ _ ih => simp [ih]
theorem AmtL.ok {ws os : List Int} (h : AmtL ws os) (hs : os.sum < ws.sum) : AmtOk ws os := by
  refine ⟨h.length, fun j => ?_, fun j => ?_, hs⟩
  · clear hs
    induction h generalizing j with
    | nil => exact Int.le_refl 0
    | cons a b _ ih =>
      cases j with
      | zero => exact a
      | succ j => exact ih j
  · clear hs
    induction h generalizing j with
    | nil => exact Int.le_refl 0
    | cons a b _ ih =>
      cases j with
      | zero => exact b
      | succ j => exact ih j
theorem AmtOk.nonneg {ws as : List Int} (h : AmtOk ws as) : ∀ m ∈ as, 0 ≤ m := fun m hm => by
  obtain ⟨j, _, rfl⟩ := getD_mem hm
  exact h.lo j
structure spOther (K : PySem.W.Frag) (vs : List V) (H : Hp) (Q : VK) (E : XK) : Prop where
  ex : ∃ (a b : Addr) (as ws : List Int), vs = [.ref a, .ref b] ∧ SqL K H a (as.map V.int) ∧ SqL K H b (ws.map V.int) ∧ ws.length ≤ 100 ∧ (∀ w ∈ ws, 0 ≤ w) ∧ 0 ≤ as.sum ∧ as.sum < ws.sum ∧
    ∀ (z : Addr) (os : List Int) (H' : Hp), Same H H' → H' z = some (.lst (os.map V.int)) → AmtOk ws os → os.sum = as.sum → Q (.ref z) H'
theorem use_other {K : PySem.W.Frag} {H : Hp} {Q : VK} {E : XK} {a b : Addr} {as ws : List Int} (hA : SqL K H a (as.map V.int)) (hW : SqL K H b (ws.map V.int)) (hl : ws.length ≤ 100) (hw : ∀ w ∈ ws, 0 ≤ w) (h0 : 0 ≤ as.sum) (h1 : as.sum < ws.sum)
    (h : ∀ (z : Addr) (os : List Int) (H' : Hp), Same H H' → H' z = some (.lst (os.map V.int)) → AmtOk ws os → os.sum = as.sum → Q (.ref z) H') : spOther K [.ref a, .ref b] H Q E := ⟨a, b, as, ws, rfl, hA, hW, hl, hw, h0, h1, h⟩
/-- stakes behind a cast, as the program tells them -/
structure spBehind (K : PySem.W.Frag) (vs : List V) (H : Hp) (Q : VK) (E : XK) : Prop where
  ex : ∃ (a b c : Addr) (xs : List V) (qss : List (List Rat)) (ws as : List Int) (cols : Nat), vs = [.ref a, .ref b, .ref c, .int (cols : Int)] ∧ SqL K H a xs ∧ TabOk H xs qss cols 30 ∧ SqL K H b (ws.map V.int) ∧ SqL K H c (as.map V.int) ∧ ws.length = qss.length ∧
    (∀ m ∈ ws, 0 ≤ m ∧ m ≤ 1000000000) ∧ AmtOk ws as ∧ 0 < ws.sum ∧ 1 ≤ qss.length ∧ qss.length ≤ 5 ∧ cols ≤ 100 ∧
    ∀ (z : Addr) (out : List V) (H' : Hp), Same H H' → H' z = some (.lst out) → Rats H' out ((List.range cols).map fun p => wsum qss ws p * keptOf ws.sum as.sum) → Q (.ref z) H'
theorem use_behind {K : PySem.W.Frag} {H : Hp} {Q : VK} {E : XK} {a b c : Addr} {xs : List V} {qss : List (List Rat)} {ws as : List Int} {cols : Nat} {ci : Int} (hci : ci = (cols : Int)) (hS : SqL K H a xs) (hT : TabOk H xs qss cols 30) (hW : SqL K H b (ws.map V.int)) (hA : SqL K H c (as.map V.int))
    (h1 : ws.length = qss.length) (hb : ∀ m ∈ ws, 0 ≤ m ∧ m ≤ 1000000000) (hao : AmtOk ws as) (hpos : 0 < ws.sum) (h3 : 1 ≤ qss.length) (h4 : qss.length ≤ 5) (h5 : cols ≤ 100)
    (h : ∀ (z : Addr) (out : List V) (H' : Hp), Same H H' → H' z = some (.lst out) → Rats H' out ((List.range cols).map fun p => wsum qss ws p * keptOf ws.sum as.sum) → Q (.ref z) H') : spBehind K [.ref a, .ref b, .ref c, .int ci] H Q E := by
  subst hci
  exact ⟨a, b, c, xs, qss, ws, as, cols, rfl, hS, hT, hW, hA, h1, hb, hao, hpos, h3, h4, h5, h⟩
theorem num_cast (q : Rat) : ((q.num : Int) : Rat) = q * (((q.den : Nat) : Int) : Rat) := by
  have h : (((q.den : Nat) : Int) : Rat) ≠ 0 := fun z => by
    have := Rat.intCast_eq_zero_iff.mp z
    have := q.den_pos
    omega
  have e : q = Rat.divInt q.num (q.den : Int) := (Rat.num_divInt_den q).symm
  rw [Rat.divInt_eq_div] at e
  generalize ((q.num : Int) : Rat) = n at *
  generalize (((q.den : Nat) : Int) : Rat) = d at *
  subst e
  grind
/-- across: a stake behind a cast against the one ahead of it -/
theorem across (q r : Rat) (V L : Int) (hV : V ≠ 0) (e : q = r * keptOf V L) : q.num * V * (r.den : Int) = r.num * (V - L) * (q.den : Int) := by
  have hV' : (V : Rat) ≠ 0 := fun z => hV (Rat.intCast_eq_zero_iff.mp z)
  have : (((q.num * V * (r.den : Int) : Int)) : Rat) = (((r.num * (V - L) * (q.den : Int) : Int)) : Rat) := by
    rw [Rat.intCast_mul, Rat.intCast_mul, Rat.intCast_mul, Rat.intCast_mul, num_cast, num_cast, Rat.intCast_sub]
    unfold keptOf at e
    rw [fr_div, Rat.intCast_sub] at e
    generalize (V : Rat) = v at *
    generalize (L : Rat) = l at *
    generalize (((q.den : Nat) : Int) : Rat) = d at *
    generalize (((r.den : Nat) : Int) : Rat) = d2 at *
    subst e
    grind
  exact Rat.intCast_inj.mp this
/-! ### rows that come to one -/
def rowOne (qs : List Rat) : Prop := rsum qs = 1
theorem rsum_map_add {α : Type} (f g : α → Rat) : ∀ (l : List α), rsum (l.map fun x => f x + g x) = rsum (l.map f) + rsum (l.map g)
  | [] => by show (0 : Rat) = 0 + 0; grind
  | x :: r => by
    rw [List.map_cons, List.map_cons, List.map_cons, rsum_cons, rsum_cons, rsum_cons, rsum_map_add f g r]; grind
theorem rsum_map_mul {α : Type} (f : α → Rat) (k : Rat) : ∀ (l : List α), rsum (l.map fun x => f x * k) = rsum (l.map f) * k
  | [] => by show (0 : Rat) = 0 * k; grind
  | x :: r => by
    rw [List.map_cons, List.map_cons, rsum_cons, rsum_cons, rsum_map_mul f k r]; grind
theorem range_getD (qs : List Rat) : ∀ n, qs.length = n → (List.range n).map (fun p => qs.getD p 0) = qs := by
  intro n h
  subst h
  apply List.ext_getElem
  · simp
  · intro i h1 h2
    simp [h2]
/-- the sum over all columns of what was cast -/
theorem rsum_wsum (cols : Nat) : ∀ (qss : List (List Rat)) (as : List Int), (∀ qs ∈ qss, qs.length = cols ∧ rsum qs = 1) → as.length = qss.length → rsum ((List.range cols).map fun p => wsum qss as p) = ((as.sum : Int) : Rat)
  | [], [], _, _ => by
    show rsum ((List.range cols).map fun p => (0 : Rat)) = ((0 : Int) : Rat)
    have : ∀ l : List Nat, rsum (l.map fun _ => (0 : Rat)) = 0 := fun l => by
      induction l with
      | nil => rfl
      | cons x r ih => rw [List.map_cons, rsum_cons, ih]; grind
    rw [this]
    rfl
  | qs :: r, m :: ns, h, hl => by
    have e : (fun p => wsum (qs :: r) (m :: ns) p) = fun p => qs.getD p 0 * (m : Rat) + wsum r ns p := funext fun p => wsum_cons _ _ _ _ _
    rw [e, rsum_map_add, rsum_map_mul, rsum_wsum cols r ns (fun x hx => h x (List.mem_cons_of_mem _ hx)) (by simpa using hl), range_getD qs cols (h qs List.mem_cons_self).1, (h qs List.mem_cons_self).2, List.sum_cons, Rat.intCast_add]
    grind
theorem rsum_mix (qss : List (List Rat)) (V : Int) (as : List Int) (cols : Nat) (hV : V ≠ 0) (h : ∀ qs ∈ qss, qs.length = cols ∧ rsum qs = 1) (h2 : as.length = qss.length) : ∀ qs ∈ mixT qss V as cols, qs.length = cols ∧ rsum qs = 1 := by
  intro y hy
  obtain ⟨qs, hq, rfl⟩ := List.mem_map.mp hy
  refine ⟨by rw [List.length_map, List.length_range], ?_⟩
  rw [rsum_map_add, rsum_map_mul, rsum_map_mul, rsum_wsum cols qss as h h2, range_getD qs cols (h qs hq).1, (h qs hq).2]
  have hV' : (V : Rat) ≠ 0 := fun z => hV (Rat.intCast_eq_zero_iff.mp z)
  unfold keptOf
  rw [fr_div, fr_div, Rat.intCast_sub]
  have e1 : ((1 : Int) : Rat) = 1 := rfl
  rw [e1]
  generalize (V : Rat) = v at *
  grind
theorem rsum_at (place : Nat) (x : Rat) : ∀ n, place < n → rsum ((List.range n).map fun p => if p = place then x else 0) = x := by
  have z : ∀ n, n ≤ place → rsum ((List.range n).map fun p => if p = place then x else 0) = 0 := by
    intro n
    induction n with
    | zero => intro _; rfl
    | succ n ih => intro h; rw [List.range_succ, List.map_append, List.map_singleton, rsum_snoc, ih (by omega), if_neg (by omega)]; grind
  intro n
  induction n with
  | zero => intro h; omega
  | succ n ih =>
    intro h
    rw [List.range_succ, List.map_append, List.map_singleton, rsum_snoc]
    by_cases e : n = place
    · rw [if_pos e, z n (by omega)]; grind
    · rw [if_neg e, ih (by omega)]; grind
theorem rsum_gift (qss : List (List Rat)) (V A : Int) (place cols : Nat) (hV : V ≠ 0) (hp : place < cols) (h : ∀ qs ∈ qss, qs.length = cols ∧ rsum qs = 1) : ∀ qs ∈ giftT qss V A place cols, qs.length = cols ∧ rsum qs = 1 := by
  intro y hy
  obtain ⟨qs, hq, rfl⟩ := List.mem_map.mp hy
  refine ⟨by rw [List.length_map, List.length_range], ?_⟩
  rw [rsum_map_add, rsum_map_mul, range_getD qs cols (h qs hq).1, (h qs hq).2, rsum_at _ _ _ hp]
  have hV' : (V : Rat) ≠ 0 := fun z => hV (Rat.intCast_eq_zero_iff.mp z)
  unfold keptOf
  rw [fr_div, fr_div, Rat.intCast_sub]
  generalize (V : Rat) = v at *
  grind
theorem fr_sum : ∀ (ns : List Int) (S : Int), S ≠ 0 → rsum (ns.map fun t => Jm.fr t S) = ((ns.sum : Int) : Rat) / (S : Rat)
  | [], S, h => by
    show (0 : Rat) = ((0 : Int) : Rat) / (S : Rat)
    have e : ((0 : Int) : Rat) = 0 := rfl
    rw [e]
    have hV' : (S : Rat) ≠ 0 := fun z => h (Rat.intCast_eq_zero_iff.mp z)
    grind
  | t :: r, S, h => by
    have hV' : (S : Rat) ≠ 0 := fun z => h (Rat.intCast_eq_zero_iff.mp z)
    rw [List.map_cons, rsum_cons, fr_sum r S h, fr_div, List.sum_cons, Rat.intCast_add]
    grind
theorem fracs_one {owners : Nat} {ns : List Int} (h : RowOk owners ns) : (fracs ns).length = owners ∧ rsum (fracs ns) = 1 := by
  refine ⟨by unfold fracs; rw [List.length_map]; exact h.len, ?_⟩
  unfold fracs
  have hz : ns.sum ≠ 0 := by have := h.pos; omega
  rw [fr_sum ns _ hz]
  have hV' : ((ns.sum : Int) : Rat) ≠ 0 := fun z => hz (Rat.intCast_eq_zero_iff.mp z)
  grind
end L2

namespace L2
open PySem PySem.Spec PyProof.Rows
/-! ### no cell below nought -/
theorem fr_nonneg {t b : Int} (h : 0 ≤ t) (hb : 0 < b) : 0 ≤ Jm.fr t b := by
  rw [← Rat.num_nonneg, Jm.fr_num t b hb]
  exact Int.ediv_nonneg h (Int.le_of_lt (Jm.cf_pos _ _ (.inl hb)))
theorem rsum_nonneg : ∀ {qs : List Rat}, (∀ q ∈ qs, 0 ≤ q) → 0 ≤ rsum qs
  | [], _ => Rat.le_refl
  | q :: r, h => by rw [rsum_cons]; exact Rat.add_nonneg (h q List.mem_cons_self) (rsum_nonneg fun x hx => h x (List.mem_cons_of_mem _ hx))
def NonNeg (qss : List (List Rat)) : Prop := ∀ qs ∈ qss, ∀ q ∈ qs, 0 ≤ q
theorem NonNeg.at {qss : List (List Rat)} (h : NonNeg qss) {qs : List Rat} (hq : qs ∈ qss) (p : Nat) : 0 ≤ qs.getD p 0 := by
  rw [List.getD_eq_getElem?_getD]
  cases e : qs[p]? with
  | none => exact Rat.le_refl
  | some q => exact h qs hq q (List.mem_of_getElem? e)
theorem cast_nonneg {m : Int} (h : 0 ≤ m) : 0 ≤ (m : Rat) := Rat.intCast_nonneg.mpr h
theorem wsum_nonneg {qss : List (List Rat)} (h : NonNeg qss) {as : List Int} (ha : ∀ m ∈ as, 0 ≤ m) (p : Nat) : 0 ≤ wsum qss as p := by
  unfold wsum
  refine rsum_nonneg fun x hx => ?_
  obtain ⟨z, hz, rfl⟩ := List.mem_map.mp hx
  have := List.of_mem_zip hz
  exact Rat.mul_nonneg (h.at this.1 p) (cast_nonneg (ha _ this.2))
theorem mix_nonneg {qss : List (List Rat)} (h : NonNeg qss) {V : Int} {as : List Int} {cols : Nat} (hV : 0 < V) (ha : ∀ m ∈ as, 0 ≤ m) (hs : as.sum ≤ V) : NonNeg (mixT qss V as cols) := by
  intro y hy q hq
  obtain ⟨qs, h1, rfl⟩ := List.mem_map.mp hy
  obtain ⟨p, _, rfl⟩ := List.mem_map.mp hq
  exact Rat.add_nonneg (Rat.mul_nonneg (h.at h1 p) (fr_nonneg (by omega) hV)) (Rat.mul_nonneg (wsum_nonneg h ha p) (fr_nonneg (by decide) hV))
theorem gift_nonneg {qss : List (List Rat)} (h : NonNeg qss) {V A : Int} {place cols : Nat} (hV : 0 < V) (h0 : 0 ≤ A) (hs : A ≤ V) : NonNeg (giftT qss V A place cols) := by
  intro y hy q hq
  obtain ⟨qs, h1, rfl⟩ := List.mem_map.mp hy
  obtain ⟨p, _, rfl⟩ := List.mem_map.mp hq
  refine Rat.add_nonneg (Rat.mul_nonneg (h.at h1 p) (fr_nonneg (by omega) hV)) ?_
  split
  · exact fr_nonneg h0 hV
  · exact Rat.le_refl
theorem fracs_nonneg {owners : Nat} {nss : List (List Int)} (h : ∀ ns ∈ nss, RowOk owners ns) : NonNeg (nss.map fracs) := by
  intro y hy q hq
  obtain ⟨ns, h1, rfl⟩ := List.mem_map.mp hy
  obtain ⟨t, h2, rfl⟩ := List.mem_map.mp hq
  exact fr_nonneg ((h ns h1).bound t h2).1 (h ns h1).pos
/-- the gift's sizes -/
theorem gift_tabOk {H H' : Hp} {xs out : List V} {qss : List (List Rat)} {cols n : Nat} {V A : Int} {place : Nat} (hT : TabOk H xs qss cols n) (hR : Tab H' out (giftT qss V A place cols)) (hV : 0 < V) (sV : Jm.Sz (n + qss.length) V) (s2 : Jm.Sz n A) :
    TabOk H' out (giftT qss V A place cols) cols (n + (n + qss.length + 1) + (n + qss.length + 1) + 1) := by
  have szK : Jm.SzR (n + qss.length + 1) (keptOf V A) := by
    refine Jm.fr_sz hV ?_ (sV.mono (by omega))
    rw [Int.sub_eq_add_neg]
    exact sV.addS (s2.mono (by omega)).neg
  have szA : Jm.SzR (n + qss.length + 1) (Jm.fr A V) := Jm.fr_sz hV (s2.mono (by omega)) (sV.mono (by omega))
  refine ⟨hR, fun qs hqs => ?_, fun qs hqs x hx => ?_⟩
  · obtain ⟨q0, _, rfl⟩ := List.mem_map.mp hqs
    rw [List.length_map, List.length_range]
  · obtain ⟨q0, hq0, rfl⟩ := List.mem_map.mp hqs
    obtain ⟨p, hp, rfl⟩ := List.mem_map.mp hx
    have hp' := List.mem_range.mp hp
    have hc := hT.len q0 hq0
    have hpq : q0[p]? = some (q0.getD p 0) := by rw [List.getD_eq_getElem?_getD, List.getElem?_eq_getElem (by omega)]; rfl
    have t1 := hT.sz q0 hq0 _ (List.mem_of_getElem? hpq)
    refine Jm.add_sz (Jm.mul_sz t1 szK) ?_
    split
    · exact szA
    · exact (show Jm.SzR 1 0 from ⟨sz_lit (by decide), sz_lit (by decide)⟩).mono (by omega)
structure spRowSums (K : PySem.W.Frag) (vs : List V) (H : Hp) (Q : VK) (E : XK) : Prop where
  ex : ∃ (a : Addr) (xs : List V) (qss : List (List Rat)) (cols n : Nat), vs = [.ref a, .int (cols : Int)] ∧ SqL K H a xs ∧ TabOk H xs qss cols n ∧ n ≤ 10000 ∧ cols ≤ 100 ∧ (∀ qs ∈ qss, rsum qs = 1) ∧ NonNeg qss ∧ Q (.bl true) H
theorem use_rowsums {K : PySem.W.Frag} {H : Hp} {Q : VK} {E : XK} {a : Addr} {xs : List V} {qss : List (List Rat)} {cols : Nat} {ci : Int} (hci : ci = (cols : Int)) (n : Nat) (hS : SqL K H a xs) (hT : TabOk H xs qss cols n) (hn : n ≤ 10000) (hc : cols ≤ 100) (h1 : ∀ qs ∈ qss, rsum qs = 1) (h2 : NonNeg qss) (h : Q (.bl true) H) :
    spRowSums K [.ref a, .int ci] H Q E := by
  subst hci
  exact ⟨a, xs, qss, cols, n, rfl, hS, hT, hn, hc, h1, h2, h⟩
theorem rsum_take {qs : List Rat} {i : Nat} {q : Rat} (h : qs[i]? = some q) : rsum (qs.take (i + 1)) = rsum (qs.take i) + q := by
  rw [List.take_add_one, h]
  exact rsum_snoc _ _
theorem one_fr {T B : Int} (hB : 0 < B) (e : Jm.fr T B = 1) : T = B := by
  have e2 : (1 : Rat) = Jm.fr 1 1 := by rw [fr_div]; have e1 : ((1 : Int) : Rat) = 1 := rfl; rw [e1]; grind
  rw [e2] at e
  have := Jm.fr_inj hB (by decide) e
  omega
end L2

namespace L2
open PySem PySem.Spec PyProof.Rows
/-! ### tables of whole numbers over one bottom -/
def overR (B : Int) (ns : List Int) : List Rat := ns.map fun t => Jm.fr t B
def overT (B : Int) (nss : List (List Int)) : List (List Rat) := nss.map (overR B)
def isum (nss : List (List Int)) (as : List Int) (p : Nat) : Int := ((nss.zip as).map fun z => z.1.getD p 0 * z.2).sum
def mixI (nss : List (List Int)) (V : Int) (as : List Int) (cols : Nat) : List (List Int) := nss.map fun ns => (List.range cols).map fun p => ns.getD p 0 * (V - as.sum) + isum nss as p
def giftI (nss : List (List Int)) (B V A : Int) (place cols : Nat) : List (List Int) := nss.map fun ns => (List.range cols).map fun p => ns.getD p 0 * (V - A) + (if p = place then A * B else 0)
theorem overR_getD (B : Int) (ns : List Int) (p : Nat) : (overR B ns).getD p 0 = Jm.fr (ns.getD p 0) B := by
  unfold overR
  rw [List.getD_eq_getElem?_getD, List.getD_eq_getElem?_getD, List.getElem?_map]
  cases ns[p]? with
  | none => exact (Jm.fr_zero B).symm
  | some t => rfl
theorem wsum_over (B : Int) (hB : B ≠ 0) (p : Nat) : ∀ (nss : List (List Int)) (as : List Int), as.length = nss.length → wsum (overT B nss) as p = Jm.fr (isum nss as p) B
  | [], [], _ => (Jm.fr_zero B).symm
  | ns :: r, m :: as, h => by
    have hB' : (B : Rat) ≠ 0 := fun z => hB (Rat.intCast_eq_zero_iff.mp z)
    have e1 : overT B (ns :: r) = overR B ns :: overT B r := rfl
    have e2 : isum (ns :: r) (m :: as) p = ns.getD p 0 * m + isum r as p := rfl
    rw [e1, e2, wsum_cons, wsum_over B hB p r as (by simpa using h), overR_getD, fr_div, fr_div, fr_div, Rat.intCast_add, Rat.intCast_mul]
    grind
theorem mix_over (nss : List (List Int)) (B V : Int) (as : List Int) (cols : Nat) (hB : B ≠ 0) (hV : V ≠ 0) (h2 : as.length = nss.length) : mixT (overT B nss) V as cols = overT (B * V) (mixI nss V as cols) := by
  have hB' : (B : Rat) ≠ 0 := fun z => hB (Rat.intCast_eq_zero_iff.mp z)
  have hV' : (V : Rat) ≠ 0 := fun z => hV (Rat.intCast_eq_zero_iff.mp z)
  have e : ∀ ns : List Int, ((List.range cols).map fun p => (overR B ns).getD p 0 * keptOf V as.sum + wsum (overT B nss) as p * Jm.fr 1 V) = overR (B * V) ((List.range cols).map fun p => ns.getD p 0 * (V - as.sum) + isum nss as p) := fun ns => by
    unfold overR
    rw [List.map_map]
    refine List.map_congr_left fun p _ => ?_
    show (overR B ns).getD p 0 * keptOf V as.sum + wsum (overT B nss) as p * Jm.fr 1 V = Jm.fr (ns.getD p 0 * (V - as.sum) + isum nss as p) (B * V)
    rw [overR_getD, wsum_over B hB p nss as h2]
    unfold keptOf
    rw [fr_div, fr_div, fr_div, fr_div, fr_div, Rat.intCast_add, Rat.intCast_mul, Rat.intCast_mul, Rat.intCast_sub]
    have e1 : ((1 : Int) : Rat) = 1 := rfl
    rw [e1]
    generalize (V : Rat) = v at *
    generalize (B : Rat) = b at *
    grind
  unfold mixT mixI
  show List.map _ (List.map (overR B) nss) = List.map (overR (B * V)) _
  rw [List.map_map, List.map_map]
  exact List.map_congr_left fun ns _ => e ns
theorem gift_over (nss : List (List Int)) (B V A : Int) (place cols : Nat) (hB : B ≠ 0) (hV : V ≠ 0) : giftT (overT B nss) V A place cols = overT (B * V) (giftI nss B V A place cols) := by
  have hB' : (B : Rat) ≠ 0 := fun z => hB (Rat.intCast_eq_zero_iff.mp z)
  have hV' : (V : Rat) ≠ 0 := fun z => hV (Rat.intCast_eq_zero_iff.mp z)
  have e : ∀ ns : List Int, ((List.range cols).map fun p => (overR B ns).getD p 0 * keptOf V A + (if p = place then Jm.fr A V else 0)) = overR (B * V) ((List.range cols).map fun p => ns.getD p 0 * (V - A) + (if p = place then A * B else 0)) := fun ns => by
    unfold overR
    rw [List.map_map]
    refine List.map_congr_left fun p _ => ?_
    show (overR B ns).getD p 0 * keptOf V A + (if p = place then Jm.fr A V else 0) = Jm.fr (ns.getD p 0 * (V - A) + (if p = place then A * B else 0)) (B * V)
    rw [overR_getD]
    unfold keptOf
    split
    · rw [fr_div, fr_div, fr_div, fr_div, Rat.intCast_add, Rat.intCast_mul, Rat.intCast_mul, Rat.intCast_mul, Rat.intCast_sub]
      generalize (V : Rat) = v at *
      generalize (B : Rat) = b at *
      grind
    · rw [fr_div, fr_div, fr_div, Rat.intCast_add, Rat.intCast_mul, Rat.intCast_mul, Rat.intCast_sub]
      have e0 : ((0 : Int) : Rat) = 0 := rfl
      rw [e0]
      generalize (V : Rat) = v at *
      generalize (B : Rat) = b at *
      grind
  unfold giftT giftI
  show List.map _ (List.map (overR B) nss) = List.map (overR (B * V)) _
  rw [List.map_map, List.map_map]
  exact List.map_congr_left fun ns _ => e ns
def topsOf (B : Int) (ns : List Int) : List Int := ns.map fun t => t * (B / ns.sum)
theorem fracs_tops {B : Int} {ns : List Int} (hB : 0 < B) (hp : 0 < ns.sum) (d : ns.sum ∣ B) : fracs ns = overR B (topsOf B ns) := by
  unfold fracs overR topsOf
  rw [List.map_map]
  refine List.map_congr_left fun t _ => ?_
  show Jm.fr t ns.sum = Jm.fr (t * (B / ns.sum)) B
  exact Jm.fr_eq hp hB (by rw [Int.mul_assoc, Int.ediv_mul_cancel d])
theorem fracs_over {B : Int} {owners : Nat} {nss : List (List Int)} (hB : 0 < B) (hr : ∀ ns ∈ nss, RowOk owners ns) (d : ∀ ns ∈ nss, ns.sum ∣ B) : nss.map fracs = overT B (nss.map (topsOf B)) := by
  unfold overT
  rw [List.map_map]
  exact List.map_congr_left fun ns hn => fracs_tops hB (hr ns hn).pos (d ns hn)
theorem ITab.getQ {H : Hp} {xs : List V} {nss : List (List Int)} (h : ITab H xs nss) {i : Nat} (hi : i < nss.length) : ∃ r ns, xs[i]? = some (.ref r) ∧ nss[i]? = some ns ∧ H r = some (.lst (ns.map V.int)) := by
  have hl := h.length
  obtain ⟨r, ns, e, b⟩ := h.get (i := i) (v := xs[i]'(by omega)) (by simp [hl, hi])
  exact ⟨r, ns, by rw [← e]; simp [hl, hi], b⟩
theorem ITab.drop {H : Hp} {xs : List V} {nss : List (List Int)} (h : ITab H xs nss) : ITab H (xs.drop 1) (nss.drop 1) := by
  cases h with
  | nil => exact .nil
  | cons _ t => exact t
theorem Tab.drop {H : Hp} {xs : List V} {qss : List (List Rat)} (h : Tab H xs qss) : Tab H (xs.drop 1) (qss.drop 1) := by
  cases h with
  | nil => exact .nil
  | cons _ _ t => exact t
theorem getI {ns : List Int} {i : Nat} (h : i < ns.length) : (ns.map V.int)[i]? = some (.int (ns.getD i 0)) := by
  rw [List.getElem?_map, List.getD_eq_getElem?_getD, List.getElem?_eq_getElem h]; rfl
/-! promises -/
structure spCommon (K : PySem.W.Frag) (vs : List V) (H : Hp) (Q : VK) (E : XK) : Prop where
  ex : ∃ (a : Addr) (xs : List V) (nss : List (List Int)) (owners : Nat), vs = [.ref a] ∧ SqL K H a xs ∧ ITab H xs nss ∧ (∀ ns ∈ nss, RowOk owners ns) ∧ owners ≤ 100 ∧ nss.length ≤ 100 ∧ ∀ B : Int, 0 < B → Jm.Sz (30 * nss.length + 1) B → (∀ ns ∈ nss, ns.sum ∣ B) → Q (.int B) H
theorem use_common {K : PySem.W.Frag} {H : Hp} {Q : VK} {E : XK} {a : Addr} {xs : List V} {nss : List (List Int)} {owners : Nat} (hS : SqL K H a xs) (hT : ITab H xs nss) (hr : ∀ ns ∈ nss, RowOk owners ns) (ho : owners ≤ 100) (hl : nss.length ≤ 100)
    (h : ∀ B : Int, 0 < B → Jm.Sz (30 * nss.length + 1) B → (∀ ns ∈ nss, ns.sum ∣ B) → Q (.int B) H) : spCommon K [.ref a] H Q E := ⟨a, xs, nss, owners, rfl, hS, hT, hr, ho, hl, h⟩
theorem RowOk.sum_sz {owners : Nat} {ns : List Int} (h : RowOk owners ns) (ho : owners ≤ 100) : Jm.Sz 30 ns.sum := by
  have b : ∀ (l : List Int), (∀ t ∈ l, 0 ≤ t ∧ t ≤ 1000) → l.sum ≤ 1000 * (l.length : Int) := by
    intro l
    induction l with
    | nil => intro _; decide
    | cons y r ih =>
      intro hl
      have h1 := ih fun t ht => hl t (List.mem_cons_of_mem _ ht)
      have h2 := hl y List.mem_cons_self
      rw [List.sum_cons, List.length_cons]
      omega
  have b2 := b ns h.bound
  have b3 := h.len
  have b4 := h.pos
  exact .of_abs (B := 100000) (by omega) (by omega) (sz_lit (by decide +kernel))
theorem small64 {n : Nat} {x : Int} (h : Jm.Sz n x) (hn : n ≤ 64) : -(2 ^ 64) < x ∧ x < 2 ^ 64 := by
  have h2 : x.natAbs < 2 ^ 64 := h.mono hn
  have e : (2 : Int) ^ 64 = 18446744073709551616 := by decide +kernel
  have e' : (2 : Nat) ^ 64 = 18446744073709551616 := by decide +kernel
  rw [e]
  rw [e'] at h2
  omega
structure spTops (K : PySem.W.Frag) (vs : List V) (H : Hp) (Q : VK) (E : XK) : Prop where
  ex : ∃ (r : Addr) (ns : List Int) (B : Int) (owners : Nat), vs = [.ref r, .int B] ∧ SqL K H r (ns.map V.int) ∧ RowOk owners ns ∧ owners ≤ 100 ∧ ∀ (z : Addr) (H' : Hp), Same H H' → H' z = some (.lst ((topsOf B ns).map V.int)) → H z = none → Q (.ref z) H'
theorem use_tops {K : PySem.W.Frag} {H : Hp} {Q : VK} {E : XK} {r : Addr} {ns : List Int} {B : Int} {owners : Nat} (hS : SqL K H r (ns.map V.int)) (hr : RowOk owners ns) (ho : owners ≤ 100)
    (h : ∀ (z : Addr) (H' : Hp), Same H H' → H' z = some (.lst ((topsOf B ns).map V.int)) → H z = none → Q (.ref z) H') : spTops K [.ref r, .int B] H Q E := ⟨r, ns, B, owners, rfl, hS, hr, ho, h⟩
structure spMixed (K : PySem.W.Frag) (vs : List V) (H : Hp) (Q : VK) (E : XK) : Prop where
  ex : ∃ (a b c : Addr) (xs : List V) (nss : List (List Int)) (ws as : List Int) (cols : Nat), vs = [.ref a, .ref b, .ref c] ∧ SqL K H a xs ∧ ITab H xs nss ∧ (∀ ns ∈ nss, ns.length = cols) ∧ SqL K H b (ws.map V.int) ∧ SqL K H c (as.map V.int) ∧ as.length = nss.length ∧ (∀ m ∈ as, 0 ≤ m ∧ m ≤ 1000000000) ∧
    Jm.Sz 60 (ws.sum - as.sum) ∧ 1 ≤ nss.length ∧ nss.length ≤ 100 ∧ cols ≤ 100 ∧ ∀ (z : Addr) (out : List V) (H' : Hp), Same H H' → H' z = some (.lst out) → ITab H' out (mixI nss ws.sum as cols) → Q (.ref z) H'
theorem use_mixed {K : PySem.W.Frag} {H : Hp} {Q : VK} {E : XK} {a b c : Addr} {xs : List V} {nss : List (List Int)} {ws as : List Int} {cols : Nat} (hS : SqL K H a xs) (hT : ITab H xs nss) (hc : ∀ ns ∈ nss, ns.length = cols) (hW : SqL K H b (ws.map V.int)) (hA : SqL K H c (as.map V.int)) (h1 : as.length = nss.length) (h2 : ∀ m ∈ as, 0 ≤ m ∧ m ≤ 1000000000)
    (h3 : Jm.Sz 60 (ws.sum - as.sum)) (h4 : 1 ≤ nss.length) (h5 : nss.length ≤ 100) (h6 : cols ≤ 100) (h : ∀ (z : Addr) (out : List V) (H' : Hp), Same H H' → H' z = some (.lst out) → ITab H' out (mixI nss ws.sum as cols) → Q (.ref z) H') : spMixed K [.ref a, .ref b, .ref c] H Q E :=
  ⟨a, b, c, xs, nss, ws, as, cols, rfl, hS, hT, hc, hW, hA, h1, h2, h3, h4, h5, h6, h⟩
structure spTableIs (K : PySem.W.Frag) (vs : List V) (H : Hp) (Q : VK) (E : XK) : Prop where
  ex : ∃ (a b : Addr) (B : Int) (xs ys : List V) (nss : List (List Int)), vs = [.ref a, .ref b, .int B] ∧ H a = some (.lst xs) ∧ Tab H xs (overT B nss) ∧ SqL K H b ys ∧ ITab H ys nss ∧ 0 < B ∧ Jm.Sz 9000 B ∧ nss.length ≤ 1000 ∧ (∀ ns ∈ nss, ns.length ≤ 1000) ∧ ∀ H' : Hp, Same H H' → Q (.bl true) H'
theorem use_tableis {K : PySem.W.Frag} {H : Hp} {Q : VK} {E : XK} {a b : Addr} {B : Int} {xs ys : List V} {nss : List (List Int)} (hS : H a = some (.lst xs)) (hT : Tab H xs (overT B nss)) (hS2 : SqL K H b ys) (hI : ITab H ys nss) (hB : 0 < B) (sB : Jm.Sz 9000 B) (h1 : nss.length ≤ 1000) (h2 : ∀ ns ∈ nss, ns.length ≤ 1000)
    (h : ∀ H' : Hp, Same H H' → Q (.bl true) H') : spTableIs K [.ref a, .ref b, .int B] H Q E := ⟨a, b, B, xs, ys, nss, rfl, hS, hT, hS2, hI, hB, sB, h1, h2, h⟩
end L2
namespace L2
open PySem PySem.Spec PyProof.Rows
def itabD (nss : List (List Int)) : List PyData := nss.map fun ns => .list (ns.map PyData.int)
theorem ITab.dt {K : PySem.W.Frag} {H : Hp} {xs : List V} {nss : List (List Int)} (h : ITab H xs nss) : DtA K H xs (itabD nss) := by
  induction h with
  | nil => exact .nil
  | cons e _ ih => exact .cons (.lst (SqL.of e) (dt_ints _)) ih
theorem ints_lay (ns : List Int) : PyData.canLayAll0 (ns.map PyData.int) = true := by
  induction ns with
  | nil => rfl
  | cons q r ih => rw [List.map_cons]; unfold PyData.canLayAll0; rw [ih]; rfl
theorem ints_depth (ns : List Int) : PyData.depthAll (ns.map PyData.int) ≤ 1 := by
  induction ns with
  | nil => exact Nat.zero_le _
  | cons q r ih =>
    rw [List.map_cons]
    unfold PyData.depthAll
    have : PyData.depth (.int q) ≤ 1 := Nat.le_of_ble_eq_true rfl
    omega
theorem itabD_lay (nss : List (List Int)) : PyData.canLayAll0 (itabD nss) = true := by
  induction nss with
  | nil => rfl
  | cons q r ih =>
    show PyData.canLayAll0 (PyData.list (q.map PyData.int) :: itabD r) = true
    unfold PyData.canLayAll0
    rw [ih, Bool.and_true]
    unfold PyData.canLay0
    exact ints_lay q
theorem itabD_depth (nss : List (List Int)) : PyData.depthAll (itabD nss) ≤ 2 := by
  induction nss with
  | nil => exact Nat.zero_le _
  | cons q r ih =>
    show PyData.depthAll (PyData.list (q.map PyData.int) :: itabD r) ≤ 2
    unfold PyData.depthAll
    have : PyData.depth (.list (q.map PyData.int)) ≤ 2 := by
      unfold PyData.depth
      have := ints_depth q
      omega
    omega
theorem shaped_itab (nss : List (List Int)) : SeqAt.shaped (.list (itabD nss)) = true := by
  unfold SeqAt.shaped PyData.canLay0 PyData.depth
  rw [itabD_lay]
  have := itabD_depth nss
  simp only [Bool.true_and, decide_eq_true_eq]
  omega
theorem eqv_itab (nss : List (List Int)) : PyData.eqv (.list (itabD nss)) (.list (itabD nss)) = true := by
  unfold PyData.eqv
  induction nss with
  | nil => rfl
  | cons q r ih =>
    show PyData.eqvAll (PyData.list (q.map PyData.int) :: itabD r) (PyData.list (q.map PyData.int) :: itabD r) = true
    unfold PyData.eqvAll
    rw [ih, Bool.and_true]
    exact eqv_ints q
theorem mixI_len {nss : List (List Int)} {V : Int} {as : List Int} {cols : Nat} : (mixI nss V as cols).length = nss.length := by unfold mixI; rw [List.length_map]
theorem mixI_row {nss : List (List Int)} {V : Int} {as : List Int} {cols : Nat} : ∀ ns ∈ mixI nss V as cols, ns.length = cols := fun y hy => by
  obtain ⟨ns, _, rfl⟩ := List.mem_map.mp hy
  rw [List.length_map, List.length_range]
theorem giftI_len {nss : List (List Int)} {B V A : Int} {place cols : Nat} : (giftI nss B V A place cols).length = nss.length := by unfold giftI; rw [List.length_map]
theorem giftI_row {nss : List (List Int)} {B V A : Int} {place cols : Nat} : ∀ ns ∈ giftI nss B V A place cols, ns.length = cols := fun y hy => by
  obtain ⟨ns, _, rfl⟩ := List.mem_map.mp hy
  rw [List.length_map, List.length_range]
theorem overT_drop (B : Int) (nss : List (List Int)) : (overT B nss).drop 1 = overT B (nss.drop 1) := by unfold overT; rw [List.map_drop]
theorem cutV1 (xs : List V) : cutV xs (some 1) none = xs.drop 1 := by
  unfold cutV
  have e : HT.sIx xs.length 0 (some 1) = min 1 xs.length := by
    unfold HT.sIx
    simp
    try omega
  have e2 : HT.sIx xs.length xs.length none = xs.length := rfl
  rw [e, e2]
  rcases Nat.lt_or_ge xs.length 1 with h | h
  · have : xs = [] := List.length_eq_zero_iff.mp (by omega)
    subst this
    rfl
  · rw [Nat.min_eq_left h]
    exact List.take_of_length_le (by rw [List.length_drop]; omega)
/-- what _law_free promises -/
structure spFree (K : PySem.W.Frag) (vs : List V) (H : Hp) (Q : VK) (E : XK) : Prop where
  ex : ∃ (a : Addr) (ns : List Int), vs = [.ref a] ∧ SqL K H a (ns.map V.int) ∧ ns.length ≤ 63 ∧ ∀ H', Q (.bl true) H'
theorem use_free {K : PySem.W.Frag} {H : Hp} {Q : VK} {E : XK} {a : Addr} {ns : List Int} (hS : SqL K H a (ns.map V.int)) (h63 : ns.length ≤ 63) (h : ∀ H', Q (.bl true) H') : spFree K [.ref a] H Q E := ⟨a, ns, rfl, hS, h63, h⟩
end L2

namespace L2
open PySem PySem.Spec PyProof.Rows
theorem ITab.upd_row {H : Hp} {xs : List V} {nss : List (List Int)} (h : ITab H xs nss) (hnd : xs.Nodup) : ∀ {i : Nat} {r : Addr} {ms : List Int}, xs[i]? = some (.ref r) → ITab (upd H r (.lst (ms.map V.int))) xs (nss.set i ms) := by
  induction h with
  | nil => intro i r ms e; simp at e
  | @cons r0 ns rest nss e t ih =>
    intro i r ms ei
    have hnd' := List.nodup_cons.mp hnd
    cases i with
    | zero =>
      simp at ei
      subst ei
      exact .cons upd_same (t.upd_lst hnd'.1)
    | succ i =>
      simp at ei
      have hne : r0 ≠ r := fun z => hnd'.1 (by rw [z]; exact List.mem_of_getElem? ei)
      exact .cons (by rw [upd_ne hne]; exact e) (ih hnd'.2 ei)
theorem gift_set (ns : List Int) (k x : Int) (place cols : Nat) (hl : ns.length = cols) (hp : place < cols) :
    (ns.map fun t => t * k).set place ((ns.map fun t => t * k).getD place 0 + x) = (List.range cols).map fun p => ns.getD p 0 * k + (if p = place then x else 0) := by
  subst hl
  apply List.ext_getElem
  · simp
  · intro i h1 h2
    simp only [List.length_set, List.length_map] at h1
    rw [List.getElem_set, List.getElem_map, List.getElem_map, List.getElem_range]
    have e1 : ns.getD i 0 = ns[i] := by rw [List.getD_eq_getElem?_getD, List.getElem?_eq_getElem h1]; rfl
    by_cases e : place = i
    · subst e
      rw [if_pos rfl, if_pos rfl, e1, List.getD_eq_getElem?_getD, List.getElem?_map, List.getElem?_eq_getElem h1]
      rfl
    · rw [if_neg e, if_neg (Ne.symm e), e1, Int.add_zero]
theorem ixN_nat {n k : Nat} (h : k < n) : ixN n (k : Int) = some k := by
  unfold ixN
  rw [if_pos (by omega), if_pos (by omega)]
  rfl
end L2

/-! texts: walked sign by sign, cut -/
namespace L2
open PySem PySem.Spec PyProof.Rows
/-- a text of these signs -/
abbrev tx (cs : List Nat) : Str := ⟨cs.toArray⟩
theorem tx_eta (x : Str) : tx x.cps.toList = x := by cases x; rfl
theorem tx_length (cs : List Nat) : (tx cs).length = cs.length := by show cs.toArray.size = _; rw [List.size_toArray]
theorem tx_cat (a b : List Nat) : (tx a ++ tx b : Str) = tx (a ++ b) := by
  show (⟨a.toArray ++ b.toArray⟩ : Str) = _
  simp [tx]
def Its (cs : List Nat) : It := ⟨fun i _ => i < cs.length, fun i H v H' => H' = H ∧ ∃ c, cs[i]? = some c ∧ v = .str (tx [c]), fun i _ => cs.length ≤ i⟩
theorem turn_ascii {P : Program} {w : World} {K : PySem.W.Frag} {tg : Expr} (x : Str) (t : Tok) (it : Addr) : Turn P w K tg (Its x.cps.toList) [it] it (fun i h => h.IsStrIter it "str_ascii_iterator" x t i) where
  mem := by simp
  obj := fun i h st b hb => by
    have e : b = it := by simpa using hb
    subst e
    obtain ⟨o, e, c, d⟩ := st
    exact ⟨o, e, fun v z => by rw [d] at z; cases z⟩
  keep := fun i h h' st k => let ⟨o, ho, r⟩ := st; ⟨o, k it (by simp) o ho, r⟩
  item := by
    intro X hP hw hK hc i pins s σ H E I hf st hg
    subst hP hw hK
    have hi : i < x.cps.size := by have hg' : i < x.cps.toList.length := hg; simpa using hg'
    obtain ⟨f0, f1, f2, f3, f4, f5⟩ := hf it (by simp)
    refine wpAny_pyNext_ascii_item st (c := x.cps[i]) (by simp [hi]) fun h' st' sb => ?_
    have I1 : Inv X pins σ H { s with heap := h', toks := s.toks + 1 } := I.turned (t' := s.toks + 1) (fun b o hb e => sb.extBut b o hb e) f0 f1 f3 f4 f5
    obtain ⟨o, e, c, d⟩ := id st'
    exact ⟨_, rfl, go_of (s := { s with heap := h', toks := s.toks + 1 }) e c d (by decide) ⟨.str (tx [x.cps[i]]), H, I1, ⟨_, rfl⟩, ⟨rfl, x.cps[i], by simp [hi], rfl⟩, st', fun b hb => (hf b hb).1⟩⟩
  done := by
    intro X hP hw hK hc i pins s σ H E I hf st hg
    subst hP hw hK
    have hi : x.cps.size ≤ i := by have hg' : x.cps.toList.length ≤ i := hg; simpa using hg'
    obtain ⟨f0, f1, f2, f3, f4, f5⟩ := hf it (by simp)
    exact wpAny_pyNext_ascii_end (I.ok.hd hc) st (by simp; omega) fun h' eb => ⟨rfl, I.turned (t' := s.toks) (fun b o hb e => eb b o hb e) f0 f1 f3 f4 f5⟩
  self := fun _ _ _ _ _ st h => wpAny_pyIter_striter_ascii st h
theorem turn_wide {P : Program} {w : World} {K : PySem.W.Frag} {tg : Expr} (x : Str) (t : Tok) (it : Addr) : Turn P w K tg (Its x.cps.toList) [it] it (fun i h => h.IsStrIter it "str_iterator" x t i) where
  mem := by simp
  obj := fun i h st b hb => by
    have e : b = it := by simpa using hb
    subst e
    obtain ⟨o, e, c, d⟩ := st
    exact ⟨o, e, fun v z => by rw [d] at z; cases z⟩
  keep := fun i h h' st k => let ⟨o, ho, r⟩ := st; ⟨o, k it (by simp) o ho, r⟩
  item := by
    intro X hP hw hK hc i pins s σ H E I hf st hg
    subst hP hw hK
    have hi : i < x.cps.size := by have hg' : i < x.cps.toList.length := hg; simpa using hg'
    obtain ⟨f0, f1, f2, f3, f4, f5⟩ := hf it (by simp)
    refine wpAny_pyNext_wide_item st (c := x.cps[i]) (by simp [hi]) fun h' st' sb => ?_
    have I1 : Inv X pins σ H { s with heap := h', toks := s.toks + 1 } := I.turned (t' := s.toks + 1) (fun b o hb e => sb.extBut b o hb e) f0 f1 f3 f4 f5
    obtain ⟨o, e, c, d⟩ := id st'
    exact ⟨_, rfl, go_of (s := { s with heap := h', toks := s.toks + 1 }) e c d (by decide) ⟨.str (tx [x.cps[i]]), H, I1, ⟨_, rfl⟩, ⟨rfl, x.cps[i], by simp [hi], rfl⟩, st', fun b hb => (hf b hb).1⟩⟩
  done := by
    intro X hP hw hK hc i pins s σ H E I hf st hg
    subst hP hw hK
    have hi : x.cps.size ≤ i := by have hg' : x.cps.toList.length ≤ i := hg; simpa using hg'
    obtain ⟨f0, f1, f2, f3, f4, f5⟩ := hf it (by simp)
    exact wpAny_pyNext_wide_end (I.ok.hd hc) st (by simp; omega) fun h' eb => ⟨rfl, I.turned (t' := s.toks) (fun b o hb e => eb b o hb e) f0 f1 f3 f4 f5⟩
  self := fun _ _ _ _ _ st h => wpAny_pyIter_striter_wide st h
section
variable {X : Cx} {tg : Expr}
def iStr (te : TE) : TI := fun σ H R => te σ H fun x H1 => ∃ cs : List Nat, x = .str (tx cs) ∧ R (Its cs) H1
theorem pi_str {l : Expr} {tl : TE} (hl : PE X l tl) : PI X tg l (iStr tl) := by
  intro pins s σ H R I h
  refine thn (hl pins s σ H _ I h) fun v s1 ⟨x, H1, I1, r1, q1⟩ => ?_
  obtain ⟨cs, e, q⟩ := q1
  subst e
  obtain ⟨t, rfl⟩ := r1
  have fp : ∀ b ∈ [s1.heap.objs.size], FpOk X pins H1 b := fun b hb => by
    have e : b = s1.heap.objs.size := by simpa using hb
    subst e
    exact I1.fpOk (Nat.le_refl _) (I1.hok.fresh (Nat.le_refl _))
  have tw := @turn_wide X.prog X.w X.K tg (tx cs) t s1.heap.objs.size
  have ta := @turn_ascii X.prog X.w X.K tg (tx cs) t s1.heap.objs.size
  cases ha : (tx cs).cps.all (· < 128)
  · exact wpAny_pyIter_wide ha ⟨s1.heap.objs.size, [s1.heap.objs.size], _, _, H1, rfl, I1.kept (t' := s1.toks) fun b o e => Heap.get?_push_of_some _ e, tw, ⟨_, Heap.get?_push_size _ rfl, rfl, rfl⟩, fp, q⟩
  · exact wpAny_pyIter_ascii ha ⟨s1.heap.objs.size, [s1.heap.objs.size], _, _, H1, rfl, I1.kept (t' := s1.toks) fun b o e => Heap.get?_push_of_some _ e, ta, ⟨_, Heap.get?_push_size _ rfl, rfl, rfl⟩, fp, q⟩
theorem for_str {cs : List Nat} {g : TG} {tb : TS} {D : Ends} {σ : St} {H : Hp} (Pv : Nat → St → Hp → Prop) (h0 : Pv 0 σ H)
    (hs : ∀ i c σ H, cs[i]? = some c → Pv i σ H → g (.str (tx [c])) σ H fun σ2 H2 => tb { D with nx := Pv (i + 1), ct := Pv (i + 1), bk := D.nx } σ2 H2) (hd : ∀ σ H, Pv cs.length σ H → D.nx σ H) :
    ∃ W : Nat → Nat → St → Hp → Prop, (∃ m, W 0 m σ H) ∧ ∀ i m σ H, W i m σ H →
      ((Its cs).stop i H ∧ D.nx σ H) ∨ ((Its cs).go i H ∧ ∃ N : St → Hp → Prop, (∀ σ' H', N σ' H' → ∃ m', m' < m ∧ W (i + 1) m' σ' H') ∧ ∀ x H', (Its cs).yld i H x H' → g x σ H' fun σ2 H2 => tb { D with nx := N, ct := N, bk := D.nx } σ2 H2) := by
  refine ⟨fun i m σ H => m = cs.length - i ∧ i ≤ cs.length ∧ Pv i σ H, ⟨cs.length, by simp, Nat.zero_le _, h0⟩, ?_⟩
  rintro i m σ H ⟨rfl, hi, p⟩
  by_cases hlt : i < cs.length
  · refine .inr ⟨hlt, fun σ' H' => Pv (i + 1) σ' H', fun σ' H' q => ⟨cs.length - (i + 1), by omega, rfl, hlt, q⟩, ?_⟩
    rintro x H' ⟨rfl, c, hc, rfl⟩
    exact hs i c σ _ hc p
  · have e : i = cs.length := by omega
    subst e
    exact .inl ⟨Nat.le_refl _, hd σ H p⟩
theorem comp_str {cs : List Nat} {k : Nat} {te : TE} {σ2 : St} {H : Hp} {acc : Addr} {Q : VK} (Pv : Nat → List V → Hp → Prop) (hn : cs.length ≤ 100000) (h0 : Pv 0 [] (upd H acc (.lst [])))
    (hs : ∀ (i : Nat) (c : Nat) (out : List V) (H1 : Hp), cs[i]? = some c → out.length = i → H1 acc = some (.lst out) → Pv i out H1 → te (σ2.set k (some (.str (tx [c])))) H1 fun v H4 => H4 acc = some (.lst out) ∧ Pv (i + 1) (out ++ [v]) (upd H4 acc (.lst (out ++ [v]))))
    (hd : ∀ (out : List V) (H1 : Hp), out.length = cs.length → H1 acc = some (.lst out) → Pv cs.length out H1 → Q (.ref acc) H1) :
    CompG (Its cs) (gName k) te acc σ2 H Q := by
  refine ⟨fun i m σ' H' => m = cs.length - i ∧ i ≤ cs.length ∧ (∀ v, σ'.set k (some v) = σ2.set k (some v)) ∧ ∃ out, out.length = i ∧ H' acc = some (.lst out) ∧ Pv i out H', ⟨cs.length, by simp, Nat.zero_le _, fun _ => rfl, [], rfl, upd_same, h0⟩, ?_⟩
  rintro i m σ' H' ⟨rfl, hi, hσ, out, ho, ha, p⟩
  by_cases hlt : i < cs.length
  · refine .inr ⟨hlt, fun σ3 => ∀ v, σ3.set k (some v) = σ2.set k (some v), fun v H4 => H4 acc = some (.lst out) ∧ Pv (i + 1) (out ++ [v]) (upd H4 acc (.lst (out ++ [v]))), fun σ3 v H4 hS ⟨a, b⟩ => ?_, fun x H1 y => ?_⟩
    · refine ⟨out, a, ?_, cs.length - (i + 1), by omega, rfl, hlt, hS, out ++ [v], by rw [List.length_append, ho]; rfl, upd_same, b⟩
      have : sizeLine = 16777216 := sizeLine_eq
      omega
    · obtain ⟨e, c, hc, ex⟩ := y
      subst e ex
      refine ⟨fun v => by rw [List.set_set]; exact hσ v, ?_⟩
      have q2 := hs i c out _ hc ho ha p
      rw [← hσ] at q2
      exact q2
  · have e : i = cs.length := by omega
    subst e
    exact .inl ⟨Nat.le_refl _, hd out H' ho ha p⟩
/-- the signs of x[lo:hi] -/
def cutN (cs : List Nat) (lo hi : Option Int) : List Nat := (cs.drop (HT.sIx cs.length 0 lo)).take (HT.sIx cs.length cs.length hi - HT.sIx cs.length 0 lo)
theorem cutN_length (cs : List Nat) (lo hi : Option Int) : (cutN cs lo hi).length ≤ cs.length := by
  unfold cutN
  rw [List.length_take, List.length_drop]
  omega
theorem picked_cut (cs : List Nat) (lo hi : Option Int) : Builtin.Str.strSliceIndices lo hi 1 cs.length = (List.range (HT.sIx cs.length cs.length hi - HT.sIx cs.length 0 lo)).map (HT.sIx cs.length 0 lo + ·) := by
  rw [← sliceRange_one]
  unfold Builtin.Str.strSliceIndices
  simp only [show ((1 : Int) > 0) = True from by simp, if_true]
  congr 1
  · cases lo with
    | none => rfl
    | some i =>
      simp only [HT.sIx]
      by_cases h : i < 0
      · simp only [h, if_true] <;> omega
      · simp only [h, if_false] <;> omega
  · cases hi with
    | none => rfl
    | some i =>
      simp only [HT.sIx]
      by_cases h : i < 0
      · simp only [h, if_true] <;> omega
      · simp only [h, if_false] <;> omega
def rSlS : V → Option Int → Option Int → Hp → VK → Prop := fun x lo hi H Q => ∃ cs, x = .str (tx cs) ∧ cs.length ≤ sizeLine ∧ Q (.str (tx (cutN cs lo hi))) H
theorem sl_str : SlR X rSlS := by
  intro pins s σ H x v vl vu lo hi sl Q I rx hs pl pu h
  obtain ⟨cs, rfl, hz, q⟩ := h
  obtain ⟨t, rfl⟩ := rx
  refine ⟨"str", _, F.slot_str_getitem.lookup, typeIs_str s _ t, ?_⟩
  obtain ⟨l, rfl, el⟩ : ∃ l : Option (Int × Tok), vl = partValue l ∧ l.map (·.1) = lo := by
    cases pl with
    | none => exact ⟨none, rfl, rfl⟩
    | int i t => exact ⟨some (i, t), rfl, rfl⟩
  obtain ⟨u, rfl, eu⟩ : ∃ u : Option (Int × Tok), vu = partValue u ∧ u.map (·.1) = hi := by
    cases pu with
    | none => exact ⟨none, rfl, rfl⟩
    | int i t => exact ⟨some (i, t), rfl, rfl⟩
  refine wpAny_getItem_str_slice (l := l) (u := u) (st := none) hs rfl ?_
  have e1 : slicePicked (tx cs) l u none = (List.range (HT.sIx cs.length cs.length hi - HT.sIx cs.length 0 lo)).map (HT.sIx cs.length 0 lo + ·) := by
    unfold slicePicked
    rw [el, eu, tx_length]
    exact picked_cut cs lo hi
  have e2 : (slicePicked (tx cs) l u none).filterMap ((tx cs).cps[·]?) = cutN cs lo hi := by
    rw [e1, pick_run]
    rfl
  unfold sliceMade
  split
  · rename_i hc
    have hl : (slicePicked (tx cs) l u none).length = cs.length := by
      have := (Bool.and_eq_true_iff.mp hc).2
      rw [tx_length] at this
      simpa using this
    have hcut : cutN cs lo hi = cs := by
      rw [e1, List.length_map, List.length_range] at hl
      unfold cutN
      have h1 := HT.sIx_le cs.length cs.length (Nat.le_refl _) hi
      have h0 : HT.sIx cs.length 0 lo = 0 ∨ cs.length = 0 := by omega
      rcases h0 with h0 | h0
      · rw [h0] at hl ⊢
        rw [List.drop_zero, hl, List.take_length]
      · have : cs = [] := List.length_eq_zero_iff.mp h0
        subst this
        simp
    rw [hcut] at q
    exact ⟨.str (tx cs), H, I, ⟨t, rfl⟩, q⟩
  · show (Made.str ⟨_⟩).post _ _
    rw [e2]
    refine ⟨?_, .str (tx (cutN cs lo hi)), H, I.tok _, ⟨_, rfl⟩, q⟩
    show (tx (cutN cs lo hi)).length ≤ sizeLine
    rw [tx_length]
    exact Nat.le_trans (cutN_length cs lo hi) hz
end
theorem cutN_to (cs : List Nat) (k : Nat) : cutN cs none (some (k : Int)) = cs.take k := by
  unfold cutN
  rw [HT.sIx_none, HT.sIx_nat, List.drop_zero, Nat.sub_zero]
  rcases Nat.le_total k cs.length with h | h
  · rw [Nat.min_eq_left h]
  · rw [Nat.min_eq_right h, List.take_length, List.take_of_length_le h]
theorem cutN_from (cs : List Nat) (k : Nat) : cutN cs (some (k : Int)) none = cs.drop k := by
  unfold cutN
  rw [HT.sIx_none, HT.sIx_nat]
  rcases Nat.le_total k cs.length with h | h
  · rw [Nat.min_eq_left h]
    exact List.take_of_length_le (by rw [List.length_drop]; omega)
  · rw [Nat.min_eq_right h, List.drop_length, List.drop_of_length_le h, List.take_nil]
/-- whether a sign stands among these -/
def inS (signs : Str) (c : Nat) : Bool := !(Builtin.Str.occurrences signs (tx [c]) 0 signs.length 1).isEmpty
/-- the k-th of the names of n letters -/
def nmL (c : Int) (n : Nat) : List Nat := (List.range n).map fun i => 97 + ((c / 26 ^ i) % 26).toNat
theorem nmL_length (c : Int) (n : Nat) : (nmL c n).length = n := by unfold nmL; rw [List.length_map, List.length_range]
theorem nmL_succ (c : Int) (n : Nat) : nmL c (n + 1) = nmL c n ++ [97 + ((c / 26 ^ n) % 26).toNat] := by
  unfold nmL
  rw [List.range_succ, List.map_append]
  rfl
theorem letter_at {k : Int} (h0 : 0 ≤ k) (h1 : k < 26) : atI (("abcdefghijklmnopqrstuvwxyz" : Str).cps.toList) k = some (97 + k.toNat) := by
  have h : ∀ n : Nat, n < 26 → ("abcdefghijklmnopqrstuvwxyz" : Str).cps.toList[n]? = some (97 + n) := by decide +kernel
  have e : k = ((k.toNat : Nat) : Int) := by omega
  have := atI_nat (h k.toNat (by omega))
  rw [← e] at this
  exact this
def spName : Sp := fun vs H Q _ => ∃ (c : Int) (n : Nat), vs = [.int c, .int (n : Int)] ∧ 0 ≤ c ∧ n ≤ 1000 ∧ Q (.str (tx (nmL c n))) H
structure spName' (vs : List V) (H : Hp) (Q : VK) (E : XK) : Prop where
  ex : ∃ (c : Int) (n : Nat), vs = [.int c, .int (n : Int)] ∧ 0 ≤ c ∧ n ≤ 1000 ∧ Q (.str (tx (nmL c n))) H
theorem use_name {H : Hp} {Q : VK} {E : XK} {c ni : Int} {n : Nat} (e : ni = (n : Int)) (hc : 0 ≤ c) (hn : n ≤ 1000) (q : Q (.str (tx (nmL c n))) H) : spName' [.int c, .int ni] H Q E := by
  subst e
  exact ⟨c, n, rfl, hc, hn, q⟩
structure spMadeOf (vs : List V) (H : Hp) (Q : VK) (E : XK) : Prop where
  ex : ∃ (cs : List Nat) (signs : Str), vs = [.str (tx cs), .str signs] ∧ cs.length ≤ 100000 ∧ ∀ H', Same H H' → Q (.bl (cs.all (inS signs))) H'
theorem use_madeof {H : Hp} {Q : VK} {E : XK} {cs : List Nat} {signs : Str} (hl : cs.length ≤ 100000) (q : ∀ H', Same H H' → Q (.bl (cs.all (inS signs))) H') : spMadeOf [.str (tx cs), .str signs] H Q E := ⟨cs, signs, rfl, hl, q⟩
def letters : Str := "abcdefghijklmnopqrstuvwxyz"
def isName (cs : List Nat) : Bool := decide (1 ≤ (cs.length : Int)) && decide ((cs.length : Int) ≤ 8) && cs.all (inS "abcdefghijklmnopqrstuvwxyz")
structure spIsName (vs : List V) (H : Hp) (Q : VK) (E : XK) : Prop where
  ex : ∃ (cs : List Nat), vs = [.str (tx cs)] ∧ cs.length ≤ 100000 ∧ ∀ H', Same H H' → Q (.bl (isName cs)) H'
theorem use_isname {H : Hp} {Q : VK} {E : XK} {cs : List Nat} (hl : cs.length ≤ 100000) (q : ∀ H', Same H H' → Q (.bl (isName cs)) H') : spIsName [.str (tx cs)] H Q E := ⟨cs, rfl, hl, q⟩
structure spSign (vs : List V) (H : Hp) (Q : VK) (E : XK) : Prop where
  ex : ∃ k : Int, vs = [.int k] ∧ ∀ c : Nat, Q (.str (tx [c])) H
theorem use_sign {H : Hp} {Q : VK} {E : XK} {k : Int} (q : ∀ c : Nat, Q (.str (tx [c])) H) : spSign [.int k] H Q E := ⟨k, rfl, q⟩
end L2

/-! comprehensions with one test -/
namespace L2
open PySem PySem.Spec PyProof.Rows
theorem ite_use_tt {p q : Prop} (h : if true = true then p else q) : p := by rwa [if_pos rfl] at h
theorem ite_use_ff {p q : Prop} (h : if false = true then p else q) : q := by rwa [if_neg Bool.false_ne_true] at h
section
variable {prog : Program} {w : World} {A : Around} {R : Result → Shared → Prop} {s : Shared}
theorem compLoopI_any {elt target iter cond : Expr} {scope : Scope} {pos : Pos} {it acc : Value} {env : Env} (J : Nat → Shared → Prop)
    (turn : ∀ n s, J n s → wpAny (model prog w) A (pyNext it) (fun r s₁ => match r with
      | none => R (.ok .next) s₁
      | some v => wpAny (model prog w) A (letOwnedTupleGo target it v) (fun _ s₂ => wpAny (model prog w) A (assign target env v) (fun _ s₃ => wpAny (model prog w) A (isTrue cond env (eval cond env)) (fun ok s₃' => if ok = true then
            wpAny (model prog w) A (eval elt env) (fun x s₄ => wpAny (model prog w) A (call (.builtin "list.append") [acc, x]) (fun _ s₅ => ∃ m, m < n ∧ J m s₅) (fun _ _ => False) s₄) (fun _ _ => False) s₃'
            else ∃ m, m < n ∧ J m s₃') (fun _ _ => False) s₃) (fun _ _ => False) s₂) (fun _ _ => False) s₁) (fun _ _ => False) s)
    (n : Nat) (h : J n s) : codeAny (model prog w) A (.compLoop (.ListComp elt [⟨target, iter, [cond], 0⟩] scope pos) 0 it acc env) R s := by
  refine codeAny_loop rfl J (fun n s hI => ?_) n h
  show wpAny _ A ((compTurn (.ListComp elt [⟨target, iter, [cond], 0⟩] scope pos) 0 it acc env).onRaise (fun x => do noteFrame x env; theTreesLotGoes x)) _ _ s
  refine wpAny_noted ?_
  rw [compTurn_list]
  refine wpAny_bind (wpAny_standAt (wpAny_bind (wpAny_mono (turn n s hI) (fun r s₁ h₁ => ?_) fun _ _ h' => h'.elim)))
  cases r with
  | none => exact wpAny_pure h₁
  | some v =>
    refine wpAny_bind (wpAny_mono h₁ (fun _ s₂ h₂ => wpAny_bind (wpAny_mono h₂ (fun _ s₃ h₃ => ?_) fun _ _ h' => h'.elim)) fun _ _ h' => h'.elim)
    refine wpAny_bind (wpAny_tests_one (wpAny_mono h₃ (fun ok s₃' h₃' => ?_) fun _ _ h' => h'.elim))
    cases ok with
    | false => exact wpAny_pure ⟨rfl, ite_use_ff h₃'⟩
    | true => exact wpAny_bind (wpAny_bind (wpAny_mono (ite_use_tt h₃') (fun x s₄ h₄ => wpAny_bind (wpAny_mono h₄ (fun _ s₅ h₅ => wpAny_pure (wpAny_pure ⟨rfl, h₅⟩)) fun _ _ h' => h'.elim)) fun _ _ h' => h'.elim))
end
section
variable {X : Cx}
def CompGI (J : It) (g : TG) (tc : TT) (te : TE) (acc : Addr) (σ₀ : St) (H : Hp) (Q : VK) : Prop := ∃ W : Nat → Nat → St → Hp → Prop,
  (∃ m, W 0 m σ₀ (upd H acc (.lst []))) ∧ ∀ i m σ2 H2, W i m σ2 H2 →
    (J.stop i H2 ∧ Q (.ref acc) H2) ∨ (J.go i H2 ∧ ∃ (S : St → Prop) (N : V → Hp → Prop) (N0 : Hp → Prop), (∀ σ3 v H4, S σ3 → N v H4 → ∃ xs, H4 acc = some (.lst xs) ∧ xs.length < sizeLine ∧ ∃ m', m' < m ∧ W (i + 1) m' σ3 (upd H4 acc (.lst (xs ++ [v])))) ∧
      (∀ σ3 H4, S σ3 → N0 H4 → ∃ m', m' < m ∧ W (i + 1) m' σ3 H4) ∧ ∀ x H', J.yld i H2 x H' → g x σ2 H' fun σ3 H3 => S σ3 ∧ tc σ3 H3 fun b H4 => if b = true then te σ3 H4 N else N0 H4)
def tCompI (wi : TI) (ix : List (Option Nat)) (g : TG) (tc : TT) (te : TE) : TE := fun σ H Q => wi σ H fun J H1 => ∀ acc, H1 acc = none → CompGI J g tc te acc (ix.map fun o => o.bind fun j => (σ[j]?).join) H1 Q
/-- the block of a comprehension: from its iterator and its new list to the end -/
theorem compI_block {tg iter elt cond : Expr} {scope : Scope} {pos : Pos} {N2 : List Str} {ix : List (Option Nat)} {g : TG} {tc : TT} {te : TE} {cl : List (Str × Addr)} {pins : List (Addr × Obj)} {σ : St} {H : Hp} {s : Shared} {E : Value → Shared → Prop} {Q : VK}
    {RR : Value → Addr → Result → Shared → Prop} (hc : X.calm = true) (hg : ∀ cl s₂ H₂ fp, PG (cxComp X N2 scope cl s₂ H₂ fp) tg g) (he : ∀ cl s₂ H₂ fp, PE (cxComp X N2 scope cl s₂ H₂ fp) elt te)
    (ht : ∀ cl s₂ H₂ fp, PT (cxComp X N2 scope cl s₂ H₂ fp) cond tc) (hk : scope.kind = .function) (hn : compOk X.N X.env.scope.names scope.names N2 ix = true)
    (hcl1 : ∀ y c, (y, c) ∈ cl → X.env.cells.lookup y = some c) (hcl2 : ∀ y, (y, NameKind.free) ∈ scope.names → ∃ c, (y, c) ∈ cl)
    {it : Addr} {fp : List Addr} {tn : Nat → Heap → Prop} {J : It} (I : Inv X pins σ H s) (T : Turn X.prog X.w X.K tg J fp it tn) (st : tn 0 s.heap) (f : ∀ b ∈ fp, FpOk X pins H b)
    (h : ∀ acc, H acc = none → CompGI J g tc te acc (ix.map fun o => o.bind fun j => (σ[j]?).join) H Q)
    (hR : ∀ acc C H' s' m, Inv X pins σ H' s' → s'.heap.Ns C m → H' C = none → C ≠ X.env.locals → X.s₀.heap.objs.size ≤ C → (∀ x c, X.env.cells.lookup x = some c → c ≠ C) → (∀ p ∈ X.pn ++ pins, p.1 ≠ C) → Q (.ref acc) H' → RR (.ref acc) C (.ok .next) s') :
    wpAny (model X.prog X.w) X.A (newList []) (fun acc s₃ => wpAny (model X.prog X.w) X.A (newFunctionEnv scope X.env.globals cl [] X.env.qual none .none (some X.env)) (fun cenv s₄ =>
      codeAny (model X.prog X.w) X.A (.compStart (.ListComp elt [⟨tg, iter, [cond], 0⟩] scope pos) 0 (.ref it) acc { cenv with scope := relabel scope X.env }) (RR acc cenv.locals) s₄) E s₃) E s := by
  obtain ⟨k1, k2, k3, k4, k5⟩ := compOk_use hn
  refine wpAny_newObj_type ?_
  have I3 : Inv X pins σ (upd H s.heap.objs.size (.lst [])) { s with heap := s.heap.push { cls := .type "list", data := .seq ([] : List Value).toArray } } :=
    I.laid (a := s.heap.objs.size) (o := .lst []) (t' := s.toks) (fun _ _ q => Heap.get?_push_of_some _ q) (Nat.le_refl _) ⟨Nat.zero_le _, [], _, .nil, Heap.get?_push_size _ rfl⟩
  obtain ⟨W, ⟨m0, w0⟩, turn⟩ := h s.heap.objs.size I.fresh
  have fo : ∀ b ∈ fp, b < s.heap.objs.size := fun b hb => by
    obtain ⟨o, e, _⟩ := T.obj 0 _ st b hb
    exact Heap.lt_size e
  have st3 : tn 0 (s.heap.push { cls := .type "list", data := .seq ([] : List Value).toArray }) := T.keep _ _ _ st fun b _ o e => Heap.get?_push_of_some _ e
  have f3 : ∀ b ∈ fp, FpOk X pins (upd H s.heap.objs.size (.lst [])) b := fun b hb => ⟨by rw [upd_ne (Nat.ne_of_lt (fo b hb))]; exact (f b hb).1, (f b hb).2⟩
  have fo3 : ∀ b ∈ fp, b < (s.heap.push { cls := .type "list", data := .seq ([] : List Value).toArray }).objs.size := fun b hb => by rw [Heap.size_push]; exact Nat.lt_succ_of_lt (fo b hb)
  generalize es3 : ({ s with heap := s.heap.push { cls := .type "list", data := .seq ([] : List Value).toArray } } : Shared) = s3 at *
  have eh3 : s3.heap = s.heap.push { cls := .type "list", data := .seq ([] : List Value).toArray } := by rw [← es3]
  rw [← eh3] at st3 fo3
  generalize s.heap.objs.size = acc at *
  generalize eH3 : upd H acc (.lst []) = H3 at *
  have IY := comp_enter (N2 := N2) (scope := scope) (cl := cl) (fp := fp) (σ2 := ix.map fun o => o.bind fun j => (σ[j]?).join) I3 hk hcl1 hcl2 f3 fo3 (by rw [List.length_map]; exact k1) (fun i x v e1 e2 => by
    rw [List.getElem?_map] at e2
    cases ei : ix[i]? with
    | none => rw [ei] at e2; cases e2
    | some o =>
      rw [ei] at e2
      cases o with
      | none => cases e2
      | some j =>
        obtain ⟨a1, a2, a3⟩ := k2 i x j e1 ei
        refine ⟨a2, a3, j, a1, ?_⟩
        have e3 : (σ[j]?).join = some v := Option.some.inj e2
        cases ej : σ[j]? with
        | none => rw [ej] at e3; cases e3
        | some z => rw [ej] at e3; exact congrArg some e3) k5
  have ne : wpAny (model X.prog X.w) X.A (newFunctionEnv scope X.env.globals cl [] X.env.qual none .none (some X.env)) (fun cenv s₄ =>
      cenv = { scope := scope, locals := s3.heap.objs.size, globals := X.env.globals, cells := cellsFrom (s3.heap.objs.size + 1) scope.names cl, qual := X.env.qual, func := none, code := X.env.code, frame := X.env.frame, builtins := X.env.builtins } ∧
      s₄ = { s3 with heap := pushCells (s3.heap.push { cls := .type "dict", data := .dict #[] }) scope.names }) E s3 := by
    simp only [newFunctionEnv, Option.isSome_some, if_true]
    refine wpAny_bind (wpAny_alloc ?_)
    refine wpAny_bind (wpAny_layCells _ (fun name kind cells => by cases hkc : kind == NameKind.cell <;> simp [hkc]) _ _ _ _ ?_)
    rw [List.forIn_nil]
    refine wpAny_bind (wpAny_pure (wpAny_pure ⟨?_, rfl⟩))
    rw [show ({ s3 with heap := s3.heap.push { cls := .type "dict", data := .dict #[] } } : Shared).heap.objs.size = s3.heap.objs.size + 1 from Heap.size_push ..]
  refine thn ne fun cenv s4 ⟨e1, e2⟩ => ?_
  subst e1 e2
  have stY : tn 0 (pushCells (s3.heap.push { cls := .type "dict", data := .dict #[] }) scope.names) := T.keep _ _ _ st3 fun b _ o e => pushCells_keeps _ _ b o (Heap.get?_push_of_some _ e)
  have hHC : s3.heap.objs.size ≠ X.env.locals := Nat.ne_of_gt I3.lt
  have stat : ∀ {H' : Hp}, (∀ b ∈ fp, H' b = none) → ∀ b ∈ fp, FpOk (cxComp X N2 scope cl s3 H3 fp) [] H' b := fun {H'} hn b hb =>
    ⟨hn b hb, (IY.ok.exf b hb).1, IY.ok.exfs b hb, .inl hb, (IY.ok.exf b hb).2, fun p hp => nomatch hp⟩
  have loop : codeAny (model X.prog X.w) X.A (.compLoop (.ListComp elt [⟨tg, iter, [cond], 0⟩] scope pos) 0 (.ref it) (.ref acc) (cxComp X N2 scope cl s3 H3 fp).env) (RR (.ref acc) s3.heap.objs.size)
      { s3 with heap := pushCells (s3.heap.push { cls := .type "dict", data := .dict #[] }) scope.names } := by
    refine compLoopI_any (fun n s' => ∃ i σ' H', Inv (cxComp X N2 scope cl s3 H3 fp) [] σ' H' s' ∧ tn i s'.heap ∧ (∀ b ∈ fp, H' b = none) ∧ W i n σ' H') ?_ m0 ⟨0, _, H3, IY, stY, fun b hb => (f3 b hb).1, w0⟩
    rintro n s5 ⟨i, σ5, H5, I5, st5, fr5, w5⟩
    rcases turn i n σ5 H5 w5 with ⟨stop, qn⟩ | ⟨go, S, N, N0, hSN, hS0, step⟩
    · refine thn (T.done (cxComp X N2 scope cl s3 H3 fp) rfl rfl rfl hc i [] s5 σ5 H5 (fun _ _ => False) I5 (stat fr5) st5 stop) fun r s6 ⟨hr, I6⟩ => ?_
      subst hr
      obtain ⟨m6, ns6, _⟩ := id I6.loc
      have IX : Inv X pins σ H5 s6 := I3.call' (ch := fp) I6.os I6.base I6.hok I6.bare fun b hb => ⟨(f3 b hb).2.2.2.1, (f3 b hb).2.1, (f3 b hb).2.2.2.2.1, (f3 b hb).2.2.2.2.2⟩
      refine hR acc s3.heap.objs.size H5 s6 m6 IX ns6 I6.free hHC I3.sz (fun x c e z => ?_) (fun p hp z => ?_) qn
      · obtain ⟨v, q⟩ := I3.cell x c e
        exact absurd q.lt (by rw [z]; exact Nat.lt_irrefl _)
      · exact absurd (Heap.lt_size (I3.pin p hp).1) (by rw [z]; exact Nat.lt_irrefl _)
    · refine thn (T.item (cxComp X N2 scope cl s3 H3 fp) rfl rfl rfl hc i [] s5 σ5 H5 (fun _ _ => False) I5 (stat fr5) st5 go) fun r s6 ⟨u, hr, h6⟩ => ?_
      subst hr
      refine thn h6 fun _ s7 ⟨x, H7, I7, r7, y7, st7, fr7⟩ => ?_
      have I7' := I7.pinned (stat fr7) (T.obj _ _ st7)
      refine thn (hg cl s3 H3 fp _ s7 σ5 H7 x u _ I7' r7 (step x H7 y7)) fun _ s8 ⟨σ8, H8, I8, hS8, q8⟩ => ?_
      refine thn (ht cl s3 H3 fp _ s8 σ8 H8 _ I8 q8) fun ok s9' ⟨H9', I9', q9'⟩ => ?_
      cases ok with
      | false =>
        obtain ⟨m', hm, w9⟩ := hS0 σ8 H9' hS8 (ite_use_ff q9')
        refine ite_ff ⟨m', hm, i + 1, σ8, _, I9'.unpinned, T.keep _ _ _ st7 fun b hb o e => (I9'.pin (b, o) (List.mem_append_right _ (List.mem_append_right _ (mem_pinsAt hb e)))).1, fun b hb => ?_, w9⟩
        obtain ⟨o, e, d⟩ := T.obj _ _ st7 b hb
        exact (I9'.pin (b, o) (List.mem_append_right _ (List.mem_append_right _ (mem_pinsAt hb e)))).2.1
      | true =>
        refine ite_tt ?_
        refine thn (he cl s3 H3 fp _ s9' σ8 H9' _ I9' (ite_use_tt q9')) fun y s9 ⟨v, H9, I9, r9, q9⟩ => ?_
        obtain ⟨xs, hxs, hxl, m', hm, w9⟩ := hSN σ8 v H9 hS8 q9
        refine thn (mt_append _ s9 σ8 H9 (.ref acc) [v] (.ref acc) [y] (fun z H10 => z = .non ∧ H10 = upd H9 acc (.lst (xs ++ [v]))) I9 rfl (.cons r9 .nil) ⟨acc, xs, v, rfl, rfl, hxs, hxl, rfl, rfl⟩) fun z s10 ⟨zv, H10, I10, r10, ez, eH⟩ => ?_
        subst eH
        refine ⟨m', hm, i + 1, σ8, _, I10.unpinned, T.keep _ _ _ st7 fun b hb o e => (I10.pin (b, o) (List.mem_append_right _ (List.mem_append_right _ (mem_pinsAt hb e)))).1, fun b hb => ?_, w9⟩
        obtain ⟨o, e, d⟩ := T.obj _ _ st7 b hb
        exact (I10.pin (b, o) (List.mem_append_right _ (List.mem_append_right _ (mem_pinsAt hb e)))).2.1
  exact codeAny_compStart_list loop (T.self _ 0 _ _ _ stY loop)

/-- [elt for tg in iter] -/
theorem pe_compI {tg iter elt cond : Expr} {scope : Scope} {pos : Pos} (N2 : List Str) (ix : List (Option Nat)) {wi : TI} {g : TG} {tc : TT} {te : TE} (hc : X.calm = true) (hi : PI X tg iter wi)
    (hg : ∀ cl s₂ H₂ fp, PG (cxComp X N2 scope cl s₂ H₂ fp) tg g) (he : ∀ cl s₂ H₂ fp, PE (cxComp X N2 scope cl s₂ H₂ fp) elt te)
    (ht : ∀ cl s₂ H₂ fp, PT (cxComp X N2 scope cl s₂ H₂ fp) cond tc) (hk : scope.kind = .function) (hn : compOk X.N X.env.scope.names scope.names N2 ix = true) (hs : ∀ x, foldedSetIterable iter X.env x = pure x := by intro _; rfl) :
    PE X (.ListComp elt [⟨tg, iter, [cond], 0⟩] scope pos) (tCompI wi ix g tc te) := by
  intro pins s σ H Q I h
  obtain ⟨k1, k2, k3, k4, k5⟩ := compOk_use hn
  obtain ⟨cl, ecl, c1, c2⟩ := closure_ok (scope := scope) (env := X.env) fun y hy e => I.ok.has y.1 (k3 y hy e)
  rw [eval_ListComp]
  refine wpAny_comprehension_free (use := none) rfl hs ecl hk k4 (thn (hi pins s σ H _ I h) fun v s1 h1 => thn h1 fun itv s2 h2 => ?_)
  obtain ⟨it, fp, tn, J, H2, e, I2, T, st2, f2, h2⟩ := h2
  subst e
  refine compI_block (RR := fun acc C => compPost (model X.prog X.w) X.A X.xe none (EP X pins σ Q) acc C) (Q := Q) hc hg he ht hk hn (fun y c m => (c1 y c m).1) c2 I2 T st2 f2 h2 ?_
  intro acc C H' s' m I' ns hHC hL hsz hcells hpins q
  exact ⟨m, ns, fun h' hs' => ⟨.ref acc, H', I'.turned (it := C) (t' := s'.toks) (fun b o hb e => (hs'.2 b hb).trans e) hHC hL (.inr hsz) hcells hpins, rfl, q⟩⟩
/-- x = [elt for tg in iter], x a plain local name: the stores are exchanged -/
theorem ps_setCI {i : Nat} {x : Str} {px pos' : Pos} {tg iter elt cond : Expr} {scope : Scope} {pos : Pos} (N2 : List Str) (ix : List (Option Nat)) {wi : TI} {g : TG} {tc : TT} {te : TE} (hN : X.N.Nodup) (hi : X.N[i]? = some x) (hx : X.env.scope.names.lookup x = some .local) (hc : X.calm = true) (hit : PI X tg iter wi)
    (hg : ∀ cl s₂ H₂ fp, PG (cxComp X N2 scope cl s₂ H₂ fp) tg g) (he : ∀ cl s₂ H₂ fp, PE (cxComp X N2 scope cl s₂ H₂ fp) elt te)
    (ht : ∀ cl s₂ H₂ fp, PT (cxComp X N2 scope cl s₂ H₂ fp) cond tc) (hk : scope.kind = .function) (hn : compOk X.N X.env.scope.names scope.names N2 ix = true) (hw : swapsWith (.ListComp elt [⟨tg, iter, [cond], 0⟩] scope pos) (some (.Name x px)) pos'.line X.env = pure true) (hs : ∀ x, foldedSetIterable iter X.env x = pure x := by intro _; rfl) :
    PS X (.Assign [.Name x px] (.ListComp elt [⟨tg, iter, [cond], 0⟩] scope pos) pos') (tAsg (tCompI wi ix g tc te) (gName i)) := by
  intro pins s σ H D I h
  obtain ⟨k1, k2, k3, k4, k5⟩ := compOk_use hn
  obtain ⟨cl, ecl, c1, c2⟩ := closure_ok (scope := scope) (env := X.env) fun y hy e => I.ok.has y.1 (k3 y hy e)
  rw [exec_Assign_Name_used _ _ _ _ hw]
  refine wpAny_bind (wpAny_standAt (wpAny_bind ?_))
  show wpAny _ X.A (do let _ ← comprehension (.ListComp elt [⟨tg, iter, [cond], 0⟩] scope pos) scope X.env _ (newList []) false (eval iter X.env) (some (assign (.Name x px) X.env))) _ _ s
  refine wpAny_bind (thn (wpAny_comprehension_free (use := some (assign (.Name x px) X.env)) (Q := fun _ s' => SP X pins D .next s') rfl hs ecl hk k4 (thn (hit pins s σ H _ I h) fun v s1 h1 => thn h1 fun itv s2 h2 => ?_)) fun _ s' hq => wpAny_pure (wpAny_pure hq))
  obtain ⟨it, fp, tn, J, H2, e, I2, T, st2, f2, h2⟩ := h2
  subst e
  refine compI_block (RR := fun acc C => compPost (model X.prog X.w) X.A X.xe (some (assign (.Name x px) X.env)) (fun _ s' => SP X pins D .next s') acc C) (Q := fun v H' => D.nx (σ.set i (some v)) H') hc hg he ht hk hn (fun y c m => (c1 y c m).1) c2 I2 T st2 f2 h2 ?_
  intro acc C H' s' m I' ns hHC hL hsz hcells hpins q
  show wpAny _ X.A (assign (.Name x px) X.env (.ref acc)) _ _ _
  refine wpAny_assign_Name (store_ok2 I' hN hi (.inl hx) (v := .ref acc) rfl (fun s3 I3 ⟨a, sb, ha⟩ => ?_) (.inr hx))
  have ca : C ≠ a := by
    rcases ha with z | z
    · rw [z]; exact hL
    · exact fun e => hcells x a z e.symm
  exact ⟨m, ns.sameBut sb ca, fun h' hs' => ⟨_, H', I3.turned (it := C) (t' := s3.toks) (fun b o hb e => (hs'.2 b hb).trans e) hHC hL (.inr hsz) hcells hpins, q⟩⟩
end
/-- over a range -/
theorem compI_range {lo : Int} {n k : Nat} {tc : TT} {te : TE} {σ2 : St} {H : Hp} {acc : Addr} {Q : VK} (Pv : Nat → List V → Hp → Prop) (hn : n ≤ 100000) (h0 : Pv 0 [] (upd H acc (.lst [])))
    (hs : ∀ (i : Nat) (out : List V) (H1 : Hp), i < n → out.length ≤ i → H1 acc = some (.lst out) → Pv i out H1 → tc (σ2.set k (some (.int (lo + i)))) H1 fun b H2 =>
      if b = true then te (σ2.set k (some (.int (lo + i)))) H2 fun v H4 => H4 acc = some (.lst out) ∧ Pv (i + 1) (out ++ [v]) (upd H4 acc (.lst (out ++ [v]))) else H2 acc = some (.lst out) ∧ Pv (i + 1) out H2)
    (hd : ∀ (out : List V) (H1 : Hp), out.length ≤ n → H1 acc = some (.lst out) → Pv n out H1 → Q (.ref acc) H1) :
    CompGI (Itr lo n) (gName k) tc te acc σ2 H Q := by
  refine ⟨fun i m σ' H' => m = n - i ∧ i ≤ n ∧ (∀ v, σ'.set k (some v) = σ2.set k (some v)) ∧ ∃ out, out.length ≤ i ∧ H' acc = some (.lst out) ∧ Pv i out H', ⟨n, by simp, Nat.zero_le _, fun _ => rfl, [], Nat.le_refl _, upd_same, h0⟩, ?_⟩
  rintro i m σ' H' ⟨rfl, hi, hσ, out, ho, ha, p⟩
  by_cases hlt : i < n
  · refine .inr ⟨hlt, fun σ3 => ∀ v, σ3.set k (some v) = σ2.set k (some v), fun v H4 => H4 acc = some (.lst out) ∧ Pv (i + 1) (out ++ [v]) (upd H4 acc (.lst (out ++ [v]))), fun H4 => H4 acc = some (.lst out) ∧ Pv (i + 1) out H4, fun σ3 v H4 hS ⟨a, b⟩ => ?_, fun σ3 H4 hS ⟨a, b⟩ => ?_, fun x H1 y => ?_⟩
    · refine ⟨out, a, ?_, n - (i + 1), by omega, rfl, hlt, hS, out ++ [v], by rw [List.length_append]; show _ + 1 ≤ _; omega, upd_same, b⟩
      have : sizeLine = 16777216 := sizeLine_eq
      omega
    · exact ⟨n - (i + 1), by omega, rfl, hlt, hS, out, by omega, a, b⟩
    · obtain ⟨e, y⟩ := y
      subst e y
      refine ⟨fun v => by rw [List.set_set]; exact hσ v, ?_⟩
      have q := hs i out _ hlt ho ha p
      rw [← hσ] at q
      exact q
  · have e : i = n := by omega
    subst e
    exact .inl ⟨Nat.le_refl _, hd out H' ho ha p⟩
/-- over a list of pairs (tuples) that stays, a target of two names -/
theorem compI_pairs {K : PySem.W.Frag} {a : Addr} {xs : List V} {k1 k2 : Nat} {tc : TT} {te : TE} {σ2 : St} {H : Hp} {acc : Addr} {Q : VK} (Pv : Nat → List V → Hp → Prop) (hne : k1 ≠ k2) (hn : xs.length ≤ 100000) (h0 : Pv 0 [] (upd H acc (.lst [])))
    (hl : ∀ (i : Nat) (out : List V) (H1 : Hp), i ≤ xs.length → H1 acc = some (.lst out) → Pv i out H1 → SqL K H1 a xs)
    (hs : ∀ (i : Nat) (x : V) (out : List V) (H1 : Hp), xs[i]? = some x → out.length ≤ i → H1 acc = some (.lst out) → Pv i out H1 → ∃ r y z, x = .ref r ∧ SqT K H1 r [y, z] ∧ tc ((σ2.set k1 (some y)).set k2 (some z)) H1 fun b H2 =>
      if b = true then te ((σ2.set k1 (some y)).set k2 (some z)) H2 fun v H4 => H4 acc = some (.lst out) ∧ Pv (i + 1) (out ++ [v]) (upd H4 acc (.lst (out ++ [v]))) else H2 acc = some (.lst out) ∧ Pv (i + 1) out H2)
    (hd : ∀ (out : List V) (H1 : Hp), out.length ≤ xs.length → H1 acc = some (.lst out) → Pv xs.length out H1 → Q (.ref acc) H1) :
    CompGI (Itl K a) (gTup K 2 (gCons (gName k1) (gCons (gName k2) gNil))) tc te acc σ2 H Q := by
  refine ⟨fun i m σ' H' => m = xs.length - i ∧ i ≤ xs.length ∧ (∀ v w, (σ'.set k1 (some v)).set k2 (some w) = (σ2.set k1 (some v)).set k2 (some w)) ∧ ∃ out, out.length ≤ i ∧ H' acc = some (.lst out) ∧ Pv i out H', ⟨xs.length, by simp, Nat.zero_le _, fun _ _ => rfl, [], Nat.le_refl _, upd_same, h0⟩, ?_⟩
  rintro i m σ' H' ⟨rfl, hi, hσ, out, ho, ha, p⟩
  have q := hl i out H' hi ha p
  by_cases hlt : i < xs.length
  · refine .inr ⟨⟨xs, xs[i], q, by simp [hlt]⟩, fun σ3 => ∀ v w, (σ3.set k1 (some v)).set k2 (some w) = (σ2.set k1 (some v)).set k2 (some w), fun v H4 => H4 acc = some (.lst out) ∧ Pv (i + 1) (out ++ [v]) (upd H4 acc (.lst (out ++ [v]))), fun H4 => H4 acc = some (.lst out) ∧ Pv (i + 1) out H4, fun σ3 v H4 hS ⟨a, b⟩ => ?_, fun σ3 H4 hS ⟨a, b⟩ => ?_, fun x H1 y => ?_⟩
    · refine ⟨out, a, ?_, xs.length - (i + 1), by omega, rfl, hlt, hS, out ++ [v], by rw [List.length_append]; show _ + 1 ≤ _; omega, upd_same, b⟩
      have : sizeLine = 16777216 := sizeLine_eq
      omega
    · exact ⟨xs.length - (i + 1), by omega, rfl, hlt, hS, out, by omega, a, b⟩
    · obtain ⟨e, y⟩ := y
      subst e
      obtain ⟨r, y1, z1, rfl, hq, q2⟩ := hs i x out _ (y xs q) ho ha p
      refine ⟨r, [y1, z1], rfl, hq, rfl, y1, [z1], rfl, z1, [], rfl, rfl, ?_, ?_⟩
      · intro v w
        rw [List.set_comm _ _ hne, List.set_set, List.set_comm _ _ (Ne.symm hne), List.set_set]
        exact hσ v w
      · rw [← hσ] at q2
        exact q2
  · have e : i = xs.length := by omega
    subst e
    exact .inl ⟨⟨xs, q, Nat.le_refl _⟩, hd out H' ho ha p⟩
theorem comp_pairs {K : PySem.W.Frag} {a : Addr} {xs : List V} {k1 k2 : Nat} {te : TE} {σ2 : St} {H : Hp} {acc : Addr} {Q : VK} (Pv : Nat → List V → Hp → Prop) (hne : k1 ≠ k2) (hn : xs.length ≤ 100000) (h0 : Pv 0 [] (upd H acc (.lst [])))
    (hl : ∀ (i : Nat) (out : List V) (H1 : Hp), i ≤ xs.length → H1 acc = some (.lst out) → Pv i out H1 → SqL K H1 a xs)
    (hs : ∀ (i : Nat) (x : V) (out : List V) (H1 : Hp), xs[i]? = some x → out.length = i → H1 acc = some (.lst out) → Pv i out H1 → ∃ r y z, x = .ref r ∧ SqT K H1 r [y, z] ∧ te ((σ2.set k1 (some y)).set k2 (some z)) H1 fun v H4 => H4 acc = some (.lst out) ∧ Pv (i + 1) (out ++ [v]) (upd H4 acc (.lst (out ++ [v]))))
    (hd : ∀ (out : List V) (H1 : Hp), out.length = xs.length → H1 acc = some (.lst out) → Pv xs.length out H1 → Q (.ref acc) H1) :
    CompG (Itl K a) (gTup K 2 (gCons (gName k1) (gCons (gName k2) gNil))) te acc σ2 H Q := by
  refine ⟨fun i m σ' H' => m = xs.length - i ∧ i ≤ xs.length ∧ (∀ v w, (σ'.set k1 (some v)).set k2 (some w) = (σ2.set k1 (some v)).set k2 (some w)) ∧ ∃ out, out.length = i ∧ H' acc = some (.lst out) ∧ Pv i out H', ⟨xs.length, by simp, Nat.zero_le _, fun _ _ => rfl, [], rfl, upd_same, h0⟩, ?_⟩
  rintro i m σ' H' ⟨rfl, hi, hσ, out, ho, ha, p⟩
  have q := hl i out H' hi ha p
  by_cases hlt : i < xs.length
  · refine .inr ⟨⟨xs, xs[i], q, by simp [hlt]⟩, fun σ3 => ∀ v w, (σ3.set k1 (some v)).set k2 (some w) = (σ2.set k1 (some v)).set k2 (some w), fun v H4 => H4 acc = some (.lst out) ∧ Pv (i + 1) (out ++ [v]) (upd H4 acc (.lst (out ++ [v]))), fun σ3 v H4 hS ⟨a, b⟩ => ?_, fun x H1 y => ?_⟩
    · refine ⟨out, a, ?_, xs.length - (i + 1), by omega, rfl, hlt, hS, out ++ [v], by rw [List.length_append, ho]; rfl, upd_same, b⟩
      have : sizeLine = 16777216 := sizeLine_eq
      omega
    · obtain ⟨e, y⟩ := y
      subst e
      obtain ⟨r, y1, z1, rfl, hq, q2⟩ := hs i x out _ (y xs q) ho ha p
      refine ⟨r, [y1, z1], rfl, hq, rfl, y1, [z1], rfl, z1, [], rfl, rfl, ?_, ?_⟩
      · intro v w
        rw [List.set_comm _ _ hne, List.set_set, List.set_comm _ _ (Ne.symm hne), List.set_set]
        exact hσ v w
      · rw [← hσ] at q2
        exact q2
  · have e : i = xs.length := by omega
    subst e
    exact .inl ⟨⟨xs, q, Nat.le_refl _⟩, hd out H' ho ha p⟩
end L2

namespace L2
open PySem PySem.Spec PyProof.Rows
/-! ### names: none twice -/
theorem nodup_le {α : Type} [DecidableEq α] : ∀ {l m : List α}, l.Nodup → (∀ x ∈ l, x ∈ m) → l.length ≤ m.length
  | [], _, _, _ => Nat.zero_le _
  | x :: r, m, h, hs => by
    have hn := List.nodup_cons.mp h
    have hx := hs x List.mem_cons_self
    have := nodup_le (l := r) (m := m.erase x) hn.2 fun y hy => by
      have hne : y ≠ x := fun e => hn.1 (e ▸ hy)
      exact (List.mem_erase_of_ne hne).mpr (hs y (List.mem_cons_of_mem _ hy))
    rw [List.length_erase_of_mem hx] at this
    have hp : 0 < m.length := List.length_pos_of_mem hx
    rw [List.length_cons]
    omega
theorem nmL_at (c : Int) {n i : Nat} (h : i < n) : (nmL c n)[i]? = some (97 + ((c / 26 ^ i) % 26).toNat) := by
  unfold nmL
  rw [List.getElem?_map, List.getElem?_range h]
  rfl
/-- the sign number d of a name tells the code's figure -/
theorem nmL_fig {c c' : Int} {n d : Nat} (h : d < n) (e : nmL c n = nmL c' n) : (c / 26 ^ d) % 26 = (c' / 26 ^ d) % 26 := by
  have h1 := nmL_at c h
  rw [e, nmL_at c' h] at h1
  have h2 := Option.some.inj h1
  have a0 : 0 ≤ (c / 26 ^ d) % 26 := Int.emod_nonneg _ (by decide)
  have b0 : 0 ≤ (c' / 26 ^ d) % 26 := Int.emod_nonneg _ (by decide)
  omega
theorem nmL_two {c c' : Int} {n : Nat} (h : 2 ≤ n) (e : nmL c n = nmL c' n) : c % 676 = c' % 676 := by
  have h0 := nmL_fig (d := 0) (by omega) e
  have h1 := nmL_fig (d := 1) (by omega) e
  rw [Int.pow_zero, Int.ediv_one, Int.ediv_one] at h0
  rw [show (26 : Int) ^ 1 = 26 from rfl] at h1
  omega
structure NameOk (x : List Nat) : Prop where
  lo : 1 ≤ x.length
  hi : x.length ≤ 8
  letters : ∀ c ∈ x, 97 ≤ c ∧ c < 123
theorem nmL_ok (c : Int) {n : Nat} (h1 : 1 ≤ n) (h2 : n ≤ 8) : NameOk (nmL c n) := by
  refine ⟨by rw [nmL_length]; exact h1, by rw [nmL_length]; exact h2, fun x hx => ?_⟩
  obtain ⟨i, _, rfl⟩ := List.mem_map.mp hx
  have a0 : 0 ≤ (c / 26 ^ i) % 26 := Int.emod_nonneg _ (by decide)
  have a1 : (c / 26 ^ i) % 26 < 26 := Int.emod_lt_of_pos _ (by decide)
  omega
/-- texts as values -/
def txs (nss : List (List Nat)) : List V := nss.map fun x => V.str (tx x)
theorem txs_flat (nss : List (List Nat)) : (txs nss).all flatV = true := by
  unfold txs
  rw [List.all_map, List.all_eq_true]
  exact fun _ _ => rfl
theorem tx_inj {a b : List Nat} (h : tx a = tx b) : a = b := by
  have : a.toArray = b.toArray := by injection h
  simpa using this
theorem inV_txs (x : List Nat) (nss : List (List Nat)) : inV (.str (tx x)) (txs nss) = decide (x ∈ nss) := by
  unfold inV txs
  rw [List.any_map, Bool.eq_iff_iff, List.any_eq_true, decide_eq_true_eq]
  constructor
  · rintro ⟨y, hy, e⟩
    have e2 : eqV (.str (tx y)) (.str (tx x)) = true := e
    have e3 : tx y = tx x := by
      unfold eqV at e2
      simpa using e2
    rw [← tx_inj e3]
    exact hy
  · intro h
    refine ⟨x, h, ?_⟩
    show eqV (.str (tx x)) (.str (tx x)) = true
    unfold eqV
    simp
structure spManyNames (K : PySem.W.Frag) (vs : List V) (H : Hp) (Q : VK) (E : XK) : Prop where
  ex : ∃ (a : Addr) (ms : List Int) (k : Int) (many : Nat), vs = [.ref a, .int k, .int (many : Int)] ∧ SqL K H a (ms.map V.int) ∧ ms.length ≤ 63 ∧ 0 ≤ k ∧ many ≤ 100 ∧
    ∀ (z : Addr) (nss : List (List Nat)) (H' : Hp), Same H H' → H' z = some (.lst (txs nss)) → H z = none → nss.length = many → nss.Nodup → (∀ x ∈ nss, NameOk x ∧ 2 ≤ x.length) → Q (.ref z) H'
theorem use_manynames {K : PySem.W.Frag} {H : Hp} {Q : VK} {E : XK} {a : Addr} {ms : List Int} {k mi : Int} {many : Nat} (hmi : mi = (many : Int)) (hS : SqL K H a (ms.map V.int)) (h63 : ms.length ≤ 63) (h1 : 0 ≤ k) (h2 : many ≤ 100)
    (h : ∀ (z : Addr) (nss : List (List Nat)) (H' : Hp), Same H H' → H' z = some (.lst (txs nss)) → H z = none → nss.length = many → nss.Nodup → (∀ x ∈ nss, NameOk x ∧ 2 ≤ x.length) → Q (.ref z) H') : spManyNames K [.ref a, .int k, .int mi] H Q E := by
  subst hmi
  exact ⟨a, ms, k, many, rfl, hS, h63, h1, h2, h⟩
/-- so many tries in a row were names already -/
theorem tries_le {nss : List (List Nat)} {c : Int} {n t : Nat} (h2 : 2 ≤ n) (ht : t ≤ 676) (h : ∀ j : Nat, j < t → nmL (c + (j : Int)) n ∈ nss) : t ≤ nss.length := by
  have hn : ((List.range t).map fun j => nmL (c + ((j : Nat) : Int)) n).Nodup := by
    have : (List.range t).Pairwise (fun a b => a < b) := List.pairwise_lt_range
    refine List.Pairwise.map _ ?_ (List.Pairwise.and_mem.mp this)
    rintro a b ⟨ha, hb, hab⟩ e
    have ha' := List.mem_range.mp ha
    have hb' := List.mem_range.mp hb
    have := nmL_two h2 e
    omega
  have := nodup_le hn fun x hx => by
    obtain ⟨j, hj, rfl⟩ := List.mem_map.mp hx
    exact h j (List.mem_range.mp hj)
  rw [List.length_map, List.length_range] at this
  exact this
end L2

namespace L2
open PySem PySem.Spec PyProof.Rows
/-! ### who pays whom -/
abbrev Pr := List Nat × Int
abbrev Tr := List Nat × List Nat × Int
def pay : List Pr → List Pr → List Tr
  | [], _ => []
  | _ :: _, [] => []
  | (g, a) :: gs, (t, b) :: ts =>
    (g, t, if b < a then b else a) :: (if a < b then pay gs ((t, b - a) :: ts) else if b < a then pay ((g, a - b) :: gs) ts else pay gs ts)
termination_by gs ts => gs.length + ts.length
decreasing_by all_goals (simp only [List.length_cons]; omega)
def negs (cs : List Pr) : List Pr := (cs.filter fun p => decide (p.2 < 0)).map fun p => (p.1, -p.2)
def poss (cs : List Pr) : List Pr := cs.filter fun p => decide (0 < p.2)
def psum (cs : List Pr) : Int := (cs.map (·.2)).sum
theorem psum_cons (p : Pr) (cs : List Pr) : psum (p :: cs) = p.2 + psum cs := by unfold psum; rw [List.map_cons, List.sum_cons]
theorem psum_append (a b : List Pr) : psum (a ++ b) = psum a + psum b := by
  induction a with
  | nil => show psum b = 0 + psum b; omega
  | cons p r ih => rw [List.cons_append, psum_cons, psum_cons, ih]; omega
def AllPos (cs : List Pr) : Prop := ∀ p ∈ cs, 0 < p.2
theorem AllPos.sum {cs : List Pr} (h : AllPos cs) : 0 ≤ psum cs ∧ (psum cs = 0 → cs = []) := by
  induction cs with
  | nil => exact ⟨Int.le_refl 0, fun _ => rfl⟩
  | cons p r ih =>
    have h1 := ih fun q hq => h q (List.mem_cons_of_mem _ hq)
    have h2 := h p List.mem_cons_self
    rw [psum_cons]
    exact ⟨by omega, fun e => by omega⟩
theorem negs_pos (cs : List Pr) : AllPos (negs cs) := fun p hp => by
  obtain ⟨q, hq, rfl⟩ := List.mem_map.mp hp
  have := of_decide_eq_true (List.mem_filter.mp hq).2
  show 0 < -q.2
  omega
theorem poss_pos (cs : List Pr) : AllPos (poss cs) := fun p hp => of_decide_eq_true (List.mem_filter.mp hp).2
theorem negs_append (a b : List Pr) : negs (a ++ b) = negs a ++ negs b := by unfold negs; rw [List.filter_append, List.map_append]
theorem poss_append (a b : List Pr) : poss (a ++ b) = poss a ++ poss b := by unfold poss; rw [List.filter_append]
theorem negs_cons (p : Pr) (cs : List Pr) : negs (p :: cs) = if p.2 < 0 then (p.1, -p.2) :: negs cs else negs cs := by
  unfold negs
  rw [List.filter_cons]
  by_cases h : p.2 < 0
  · rw [if_pos (decide_eq_true h), if_pos h, List.map_cons]
  · rw [if_neg (by simpa using h), if_neg h]
theorem poss_cons (p : Pr) (cs : List Pr) : poss (p :: cs) = if 0 < p.2 then p :: poss cs else poss cs := by
  unfold poss
  rw [List.filter_cons]
  by_cases h : 0 < p.2
  · rw [if_pos (decide_eq_true h), if_pos h]
  · rw [if_neg (by simpa using h), if_neg h]
theorem psum_split (cs : List Pr) : psum cs = psum (poss cs) - psum (negs cs) := by
  induction cs with
  | nil => rfl
  | cons p r ih =>
    rw [psum_cons, negs_cons, poss_cons]
    by_cases h : p.2 < 0
    · rw [if_pos h, if_neg (by omega), psum_cons]
      show _ = _ - (-p.2 + _)
      omega
    · by_cases h2 : 0 < p.2
      · rw [if_neg h, if_pos h2, psum_cons]; omega
      · rw [if_neg h, if_neg h2]; omega
theorem negs_first {cs : List Pr} {g : List Nat} {a : Int} {gs : List Pr} (h : negs cs = (g, a) :: gs) : ∃ pre post, cs = pre ++ (g, -a) :: post ∧ 0 < a ∧ (∀ p ∈ pre, ¬ p.2 < 0) ∧ gs = negs post ∧ negs pre = [] := by
  induction cs with
  | nil => cases h
  | cons p r ih =>
    rw [negs_cons] at h
    by_cases hp : p.2 < 0
    · rw [if_pos hp] at h
      injection h with h1 h2
      injection h1 with h3 h4
      refine ⟨[], r, ?_, by omega, (fun _ m => nomatch m), h2.symm, rfl⟩
      obtain ⟨p1, p2⟩ := p
      show (p1, p2) :: r = (g, -a) :: r
      have e1 : p1 = g := h3
      have e2 : -p2 = a := h4
      rw [e1, ← e2, Int.neg_neg]
    · rw [if_neg hp] at h
      obtain ⟨pre, post, e, ha, hpre, hg, hn⟩ := ih h
      refine ⟨p :: pre, post, by rw [e]; rfl, ha, fun q hq => ?_, hg, by rw [negs_cons, if_neg hp]; exact hn⟩
      rcases List.mem_cons.mp hq with z | z
      · rw [z]; exact hp
      · exact hpre q z
theorem poss_first {cs : List Pr} {t : List Nat} {b : Int} {ts : List Pr} (h : poss cs = (t, b) :: ts) : ∃ pre post, cs = pre ++ (t, b) :: post ∧ 0 < b ∧ (∀ p ∈ pre, ¬ 0 < p.2) ∧ ts = poss post ∧ poss pre = [] := by
  induction cs with
  | nil => cases h
  | cons p r ih =>
    rw [poss_cons] at h
    by_cases hp : 0 < p.2
    · rw [if_pos hp] at h
      injection h with h1 h2
      subst h1
      exact ⟨[], r, rfl, hp, (fun _ m => nomatch m), h2.symm, rfl⟩
    · rw [if_neg hp] at h
      obtain ⟨pre, post, e, ha, hpre, hg, hn⟩ := ih h
      refine ⟨p :: pre, post, by rw [e]; rfl, ha, fun q hq => ?_, hg, by rw [poss_cons, if_neg hp]; exact hn⟩
      rcases List.mem_cons.mp hq with z | z
      · rw [z]; exact hp
      · exact hpre q z
/-- the end: all nought -/
theorem pay_nil {cs : List Pr} (h : pay (negs cs) (poss cs) = []) (hs : psum cs = 0) : negs cs = [] ∧ poss cs = [] := by
  have h1 := psum_split cs
  have n1 := (negs_pos cs).sum
  have p1 := (poss_pos cs).sum
  generalize negs cs = ns at *
  generalize poss cs = ps at *
  cases ns with
  | nil => exact ⟨rfl, p1.2 (by have : psum ([] : List Pr) = 0 := rfl; omega)⟩
  | cons x r =>
    cases ps with
    | nil =>
      have : psum ([] : List Pr) = 0 := rfl
      exact absurd (n1.2 (by omega)) (by simp)
    | cons y q => obtain ⟨g, a⟩ := x; obtain ⟨t, b⟩ := y; unfold pay at h; cases h
theorem all_zero {cs : List Pr} (h1 : negs cs = []) (h2 : poss cs = []) : ∀ p ∈ cs, p.2 = 0 := by
  induction cs with
  | nil => exact fun _ m => nomatch m
  | cons p r ih =>
    rw [negs_cons] at h1
    rw [poss_cons] at h2
    by_cases a : p.2 < 0
    · rw [if_pos a] at h1; cases h1
    · by_cases b : 0 < p.2
      · rw [if_pos b] at h2; cases h2
      · rw [if_neg a] at h1
        rw [if_neg b] at h2
        intro q hq
        rcases List.mem_cons.mp hq with z | z
        · rw [z]; omega
        · exact ih h1 h2 q z
/-- how many payments at most -/
theorem pay_len : ∀ (gs ts : List Pr), AllPos gs → AllPos ts → psum gs = psum ts → (pay gs ts).length + 1 ≤ gs.length + ts.length ∨ pay gs ts = []
  | [], _, _, _, _ => by right; unfold pay; rfl
  | _ :: _, [], _, _, _ => by right; unfold pay; rfl
  | (g, a) :: gs, (t, b) :: ts, hg, ht, hs => by
    left
    have ha := hg (g, a) List.mem_cons_self
    have hb := ht (t, b) List.mem_cons_self
    have hg' : AllPos gs := fun p hp => hg p (List.mem_cons_of_mem _ hp)
    have ht' : AllPos ts := fun p hp => ht p (List.mem_cons_of_mem _ hp)
    rw [psum_cons, psum_cons] at hs
    have ha' : 0 < a := ha
    have hb' : 0 < b := hb
    have hs' : a + psum gs = b + psum ts := hs
    unfold pay
    rw [List.length_cons, List.length_cons, List.length_cons]
    by_cases c : a < b
    · rw [if_pos c]
      have hp : AllPos ((t, b - a) :: ts) := fun p hp => by
        rcases List.mem_cons.mp hp with z | z
        · rw [z]; show 0 < b - a; omega
        · exact ht' p z
      rcases pay_len gs ((t, b - a) :: ts) hg' hp (by rw [psum_cons]; show _ = b - a + _; omega) with z | z
      · rw [List.length_cons] at z; omega
      · rw [z]; simp; omega
    · rw [if_neg c]
      by_cases d : b < a
      · rw [if_pos d]
        have hp : AllPos ((g, a - b) :: gs) := fun p hp => by
          rcases List.mem_cons.mp hp with z | z
          · rw [z]; show 0 < a - b; omega
          · exact hg' p z
        rcases pay_len ((g, a - b) :: gs) ts hp ht' (by rw [psum_cons]; show a - b + _ = _; omega) with z | z
        · rw [List.length_cons] at z; omega
        · rw [z]; simp; omega
      · rw [if_neg d]
        rcases pay_len gs ts hg' ht' (by omega) with z | z
        · omega
        · rw [z]; simp; omega
termination_by gs ts => gs.length + ts.length
decreasing_by all_goals (simp only [List.length_cons]; omega)
/-! in the heap -/
abbrev prO (p : Pr) : HO := .tup [.str (tx p.1), .int p.2]
abbrev trO (p : Tr) : HO := .tup [.str (tx p.1), .str (tx p.2.1), .int p.2.2]
inductive Prs (H : Hp) : List V → List Pr → Prop
  | nil : Prs H [] []
  | cons {r : Addr} {p : Pr} {vs : List V} {ps : List Pr} : H r = some (prO p) → Prs H vs ps → Prs H (.ref r :: vs) (p :: ps)
theorem Prs.mono {H H' : Hp} {vs : List V} {ps : List Pr} (h : Prs H vs ps) (g : Same H H') : Prs H' vs ps := by
  induction h with
  | nil => exact .nil
  | cons e _ ih => exact .cons (g _ _ e) ih
theorem Prs.upd_lst {H : Hp} {vs : List V} {ps : List Pr} {a : Addr} {xs ys : List V} (h : Prs H vs ps) (ha : H a = some (.lst xs)) : Prs (upd H a (.lst ys)) vs ps := by
  induction h with
  | nil => exact .nil
  | cons e _ ih => exact .cons (by rw [upd_ne (ne_of e ha (by intro z; cases z))]; exact e) ih
theorem Prs.length {H : Hp} {vs : List V} {ps : List Pr} (h : Prs H vs ps) : vs.length = ps.length := by
  induction h with
  | nil => rfl
  | cons _ _ ih => simp [ih]
theorem Prs.snoc {H : Hp} {vs : List V} {ps : List Pr} {r : Addr} {p : Pr} (h : Prs H vs ps) (e : H r = some (prO p)) : Prs H (vs ++ [.ref r]) (ps ++ [p]) := by
  induction h with
  | nil => exact .cons e .nil
  | cons e2 _ ih => exact .cons e2 ih
theorem Prs.get {H : Hp} {vs : List V} {ps : List Pr} (h : Prs H vs ps) : ∀ {i : Nat} {v : V}, vs[i]? = some v → ∃ r p, v = .ref r ∧ ps[i]? = some p ∧ H r = some (prO p) := by
  induction h with
  | nil => intro i v e; simp at e
  | @cons r p vs ps e _ ih =>
    intro i v ev
    cases i with
    | zero => simp at ev; subst ev; exact ⟨r, p, rfl, rfl, e⟩
    | succ i => simp at ev; obtain ⟨r', p', a, b, c⟩ := ih ev; exact ⟨r', p', a, by simpa using b, c⟩
theorem Prs.getQ {H : Hp} {vs : List V} {ps : List Pr} (h : Prs H vs ps) : ∀ {i : Nat} {p : Pr}, ps[i]? = some p → ∃ r, vs[i]? = some (.ref r) ∧ H r = some (prO p) := by
  induction h with
  | nil => intro i v e; simp at e
  | @cons r p vs ps e _ ih =>
    intro i v ev
    cases i with
    | zero => simp at ev; subst ev; exact ⟨r, rfl, e⟩
    | succ i => simp at ev; obtain ⟨r', a, c⟩ := ih ev; exact ⟨r', by simpa using a, c⟩
theorem Prs.set {H : Hp} {vs : List V} {ps : List Pr} {r : Addr} {p : Pr} (e : H r = some (prO p)) (h : Prs H vs ps) : ∀ j : Nat, Prs H (vs.set j (.ref r)) (ps.set j p) := by
  induction h with
  | nil => intro j; exact .nil
  | cons e2 t ih =>
    intro j
    cases j with
    | zero => exact .cons e t
    | succ j => exact .cons e2 (ih j)
def prD (p : Pr) : PyData := .tuple [.str (tx p.1), .int p.2]
theorem Prs.dt {K : PySem.W.Frag} {H : Hp} {vs : List V} {ps : List Pr} (h : Prs H vs ps) : DtA K H vs (ps.map prD) := by
  induction h with
  | nil => exact .nil
  | cons e _ ih => exact .cons (.tup (SqT.of e) (.cons (.str _) (.cons (.int _) .nil))) ih
def NmsOk (ps : List Pr) : Prop := ∀ p ∈ ps, PySem.PyData.strOk (tx p.1) = true
theorem prD_lay (ps : List Pr) (hk : NmsOk ps) : PyData.canLayAll0 (ps.map prD) = true := by
  induction ps with
  | nil => rfl
  | cons q r ih =>
    rw [List.map_cons]
    unfold PyData.canLayAll0
    rw [ih fun p hp => hk p (List.mem_cons_of_mem _ hp), Bool.and_true]
    unfold prD PyData.canLay0 PyData.canLayAll0 PyData.canLayAll0 PyData.canLayAll0 PyData.canLay0
    rw [hk q List.mem_cons_self]
    rfl
theorem prD_depth (ps : List Pr) : PyData.depthAll (ps.map prD) ≤ 1 := by
  induction ps with
  | nil => exact Nat.zero_le _
  | cons q r ih =>
    rw [List.map_cons]
    unfold PyData.depthAll
    have : PyData.depth (prD q) ≤ 1 := Nat.le_of_ble_eq_true rfl
    omega
theorem shaped_prs (ps : List Pr) (hk : NmsOk ps) : SeqAt.shaped (.list (ps.map prD)) = true := by
  unfold SeqAt.shaped PyData.canLay0 PyData.depth
  rw [prD_lay ps hk]
  have := prD_depth ps
  simp only [Bool.true_and, decide_eq_true_eq]
  omega
theorem eqv_str (x : Str) : PyData.eqv (.str x) (.str x) = true := by unfold PyData.eqv; exact beq_self_eq_true x
theorem eqv_int (i : Int) : PyData.eqv (.int i) (.int i) = true := by unfold PyData.eqv; exact beq_self_eq_true i
theorem eqv_prD (p : Pr) : PyData.eqv (prD p) (prD p) = true := by
  unfold prD PyData.eqv PyData.eqvAll PyData.eqvAll PyData.eqvAll
  rw [eqv_str, eqv_int]
  rfl
theorem eqv_prs (ps : List Pr) : PyData.eqv (.list (ps.map prD)) (.list (ps.map prD)) = true := by
  unfold PyData.eqv
  induction ps with
  | nil => rfl
  | cons q r ih =>
    rw [List.map_cons]
    unfold PyData.eqvAll
    rw [ih, Bool.and_true]
    exact eqv_prD q
inductive Trs (H : Hp) : List V → List Tr → Prop
  | nil : Trs H [] []
  | cons {r : Addr} {p : Tr} {vs : List V} {ps : List Tr} : H r = some (trO p) → Trs H vs ps → Trs H (.ref r :: vs) (p :: ps)
theorem Trs.mono {H H' : Hp} {vs : List V} {ps : List Tr} (h : Trs H vs ps) (g : Same H H') : Trs H' vs ps := by
  induction h with
  | nil => exact .nil
  | cons e _ ih => exact .cons (g _ _ e) ih
theorem Trs.upd_lst {H : Hp} {vs : List V} {ps : List Tr} {a : Addr} {xs ys : List V} (h : Trs H vs ps) (ha : H a = some (.lst xs)) : Trs (upd H a (.lst ys)) vs ps := by
  induction h with
  | nil => exact .nil
  | cons e _ ih => exact .cons (by rw [upd_ne (ne_of e ha (by intro z; cases z))]; exact e) ih
theorem Trs.length {H : Hp} {vs : List V} {ps : List Tr} (h : Trs H vs ps) : vs.length = ps.length := by
  induction h with
  | nil => rfl
  | cons _ _ ih => simp [ih]
theorem Trs.snoc {H : Hp} {vs : List V} {ps : List Tr} {r : Addr} {p : Tr} (h : Trs H vs ps) (e : H r = some (trO p)) : Trs H (vs ++ [.ref r]) (ps ++ [p]) := by
  induction h with
  | nil => exact .cons e .nil
  | cons e2 _ ih => exact .cons e2 ih
theorem Trs.get {H : Hp} {vs : List V} {ps : List Tr} (h : Trs H vs ps) : ∀ {i : Nat} {v : V}, vs[i]? = some v → ∃ r p, v = .ref r ∧ ps[i]? = some p ∧ H r = some (trO p) := by
  induction h with
  | nil => intro i v e; simp at e
  | @cons r p vs ps e _ ih =>
    intro i v ev
    cases i with
    | zero => simp at ev; subst ev; exact ⟨r, p, rfl, rfl, e⟩
    | succ i => simp at ev; obtain ⟨r', p', a, b, c⟩ := ih ev; exact ⟨r', p', a, by simpa using b, c⟩
structure spPay (K : PySem.W.Frag) (vs : List V) (H : Hp) (Q : VK) (E : XK) : Prop where
  ex : ∃ (a : Addr) (xs : List V) (cs : List Pr), vs = [.ref a] ∧ SqL K H a xs ∧ Prs H xs cs ∧ cs.length ≤ 200 ∧ psum cs = 0 ∧ ∀ (z : Addr) (out : List V) (H' : Hp), Same H H' → H' z = some (.lst out) → Trs H' out (pay (negs cs) (poss cs)) → Q (.ref z) H'
theorem use_pay {K : PySem.W.Frag} {H : Hp} {Q : VK} {E : XK} {a : Addr} {xs : List V} {cs : List Pr} (hS : SqL K H a xs) (hP : Prs H xs cs) (hl : cs.length ≤ 200) (hs : psum cs = 0)
    (h : ∀ (z : Addr) (out : List V) (H' : Hp), Same H H' → H' z = some (.lst out) → Trs H' out (pay (negs cs) (poss cs)) → Q (.ref z) H') : spPay K [.ref a] H Q E := ⟨a, xs, cs, rfl, hS, hP, hl, hs, h⟩
structure spPaid (K : PySem.W.Frag) (vs : List V) (H : Hp) (Q : VK) (E : XK) : Prop where
  ex : ∃ (a b : Addr) (out xs : List V) (cs : List Pr), vs = [.ref a, .ref b] ∧ H a = some (.lst out) ∧ Trs H out (pay (negs cs) (poss cs)) ∧ SqL K H b xs ∧ Prs H xs cs ∧ cs.length ≤ 200 ∧ psum cs = 0 ∧ NmsOk cs ∧ ∀ H' : Hp, Same H H' → Q (.bl true) H'
theorem use_paid {K : PySem.W.Frag} {H : Hp} {Q : VK} {E : XK} {a b : Addr} {out xs : List V} {cs : List Pr} (ha : H a = some (.lst out)) (hT : Trs H out (pay (negs cs) (poss cs))) (hS : SqL K H b xs) (hP : Prs H xs cs) (hl : cs.length ≤ 200) (hs : psum cs = 0) (hk : NmsOk cs) (h : ∀ H' : Hp, Same H H' → Q (.bl true) H') :
    spPaid K [.ref a, .ref b] H Q E := ⟨a, b, out, xs, cs, rfl, ha, hT, hS, hP, hl, hs, hk, h⟩
theorem filter_first {n k : Nat} {p : Nat → Bool} (hk : k < n) (hp : p k = true) (hb : ∀ j, j < k → p j = false) : ∃ rest, (List.range n).filter p = k :: rest := by
  have e : List.range n = List.range k ++ (k :: List.range' (k + 1) (n - k - 1)) := by
    rw [List.range_eq_range', List.range_eq_range']
    have e1 : n = k + (1 + (n - k - 1)) := by omega
    have h1 := List.range'_append (s := 0) (m := k) (n := 1 + (n - k - 1)) (step := 1)
    rw [← e1] at h1
    rw [← h1]
    congr 1
    rw [Nat.add_comm 1, List.range'_succ]
    simp
  refine ⟨(List.range' (k + 1) (n - k - 1)).filter p, ?_⟩
  rw [e, List.filter_append, List.filter_cons, if_pos hp]
  have : (List.range k).filter p = [] := List.filter_eq_nil_iff.mpr fun j hj => by rw [hb j (List.mem_range.mp hj)]; exact Bool.false_ne_true
  rw [this]
  rfl
end L2

namespace L2
open PySem PySem.Spec PyProof.Rows
theorem split_at {cs : List Pr} {k : Nat} {p : Pr} (h : cs[k]? = some p) (x : Pr) : cs = cs.take k ++ p :: cs.drop (k + 1) ∧ cs.set k x = cs.take k ++ x :: cs.drop (k + 1) := by
  obtain ⟨hk, e⟩ := List.getElem?_eq_some_iff.mp h
  refine ⟨?_, ?_⟩
  · have h1 := List.drop_eq_getElem_cons hk
    rw [e] at h1
    rw [← h1, List.take_append_drop]
  · rw [List.set_eq_take_append_cons_drop, if_pos hk]
theorem negs_none {cs : List Pr} (h : ∀ p ∈ cs, ¬ p.2 < 0) : negs cs = [] := by
  induction cs with
  | nil => rfl
  | cons p r ih => rw [negs_cons, if_neg (h p List.mem_cons_self)]; exact ih fun q hq => h q (List.mem_cons_of_mem _ hq)
theorem poss_none {cs : List Pr} (h : ∀ p ∈ cs, ¬ 0 < p.2) : poss cs = [] := by
  induction cs with
  | nil => rfl
  | cons p r ih => rw [poss_cons, if_neg (h p List.mem_cons_self)]; exact ih fun q hq => h q (List.mem_cons_of_mem _ hq)
theorem take_all {cs : List Pr} {k : Nat} {R : Pr → Prop} (h : ∀ j p, j < k → cs[j]? = some p → R p) : ∀ p ∈ cs.take k, R p := fun p hp => by
  obtain ⟨j, hj, e⟩ := List.mem_iff_getElem.mp hp
  rw [List.length_take] at hj
  rw [List.getElem_take] at e
  exact h j p (by omega) (by rw [← e]; exact List.getElem?_eq_getElem (by omega))
theorem set_neg {cs : List Pr} {k : Nat} {g : List Nat} {a m : Int} (h : cs[k]? = some (g, -a)) (hb : ∀ j p, j < k → cs[j]? = some p → ¬ p.2 < 0) (ha : 0 < a) (hm : m ≤ a) :
    negs (cs.set k (g, -a + m)) = (if m < a then [(g, a - m)] else []) ++ (negs cs).tail ∧ poss (cs.set k (g, -a + m)) = poss cs := by
  obtain ⟨e1, e2⟩ := split_at h (g, -a + m)
  have hn := negs_none (take_all hb)
  refine ⟨?_, ?_⟩
  · have e3 : negs cs = (g, a) :: negs (cs.drop (k + 1)) := by
      rw [e1, negs_append]
      rw [← e1, hn, negs_cons, if_pos (show (g, -a).2 < 0 from by show -a < 0; omega)]
      show (g, - -a) :: _ = _
      rw [Int.neg_neg]
    rw [e3, e2, negs_append, hn, negs_cons]
    show (if -a + m < 0 then (g, -(-a + m)) :: _ else _) = _
    by_cases c : m < a
    · rw [if_pos c, if_pos (by omega), show -(-a + m) = a - m from by omega]; rfl
    · rw [if_neg c, if_neg (by omega)]; rfl
  · have e3 : poss cs = poss (cs.take k) ++ poss (cs.drop (k + 1)) := by
      have := congrArg poss e1
      rw [poss_append, poss_cons, if_neg (show ¬ 0 < (g, -a).2 from by show ¬ 0 < -a; omega)] at this
      exact this
    rw [e2, poss_append, poss_cons, if_neg (show ¬ 0 < (g, -a + m).2 from by show ¬ 0 < -a + m; omega), ← e3]
theorem set_pos {cs : List Pr} {k : Nat} {t : List Nat} {b m : Int} (h : cs[k]? = some (t, b)) (hb : ∀ j p, j < k → cs[j]? = some p → ¬ 0 < p.2) (ha : 0 < b) (hm : m ≤ b) :
    poss (cs.set k (t, b - m)) = (if m < b then [(t, b - m)] else []) ++ (poss cs).tail ∧ negs (cs.set k (t, b - m)) = negs cs := by
  obtain ⟨e1, e2⟩ := split_at h (t, b - m)
  have hn := poss_none (take_all hb)
  refine ⟨?_, ?_⟩
  · have e3 : poss cs = (t, b) :: poss (cs.drop (k + 1)) := by
      rw [e1, poss_append]
      rw [← e1, hn, poss_cons, if_pos (show 0 < (t, b).2 from ha)]
      rfl
    rw [e3, e2, poss_append, hn, poss_cons]
    show (if 0 < b - m then (t, b - m) :: _ else _) = _
    by_cases c : m < b
    · rw [if_pos c, if_pos (by omega)]; rfl
    · rw [if_neg c, if_neg (by omega)]; rfl
  · have e3 : negs cs = negs (cs.take k) ++ negs (cs.drop (k + 1)) := by
      have := congrArg negs e1
      rw [negs_append, negs_cons, if_neg (show ¬ (t, b).2 < 0 from by show ¬ b < 0; omega)] at this
      exact this
    rw [e2, negs_append, negs_cons, if_neg (show ¬ (t, b - m).2 < 0 from by show ¬ b - m < 0; omega), ← e3]
theorem psum_set {cs : List Pr} {k : Nat} {p : Pr} (h : cs[k]? = some p) (x : Pr) : psum (cs.set k x) = psum cs - p.2 + x.2 := by
  obtain ⟨e1, e2⟩ := split_at h x
  have h1 := congrArg psum e1
  rw [psum_append, psum_cons] at h1
  rw [e2, psum_append, psum_cons]
  omega
theorem fst_set {cs : List Pr} {k : Nat} {p : Pr} (h : cs[k]? = some p) (y : Int) : (cs.set k (p.1, y)).map (·.1) = cs.map (·.1) := by
  obtain ⟨e1, e2⟩ := split_at h (p.1, y)
  have h1 := congrArg (List.map (·.1)) e1
  rw [List.map_append, List.map_cons] at h1
  rw [e2, List.map_append, List.map_cons, h1]
theorem snd_set (cs : List Pr) (k : Nat) (p : Pr) : (cs.set k p).map (·.2) = (cs.map (·.2)).set k p.2 := by rw [List.map_set]
/-- one payment: what stands before and behind it -/
theorem pay_step {cs : List Pr} {g t : List Nat} {m : Int} {rest : List Tr} (h : pay (negs cs) (poss cs) = (g, t, m) :: rest) :
    ∃ (k1 k2 : Nat) (a b : Int), cs[k1]? = some (g, -a) ∧ cs[k2]? = some (t, b) ∧ 0 < a ∧ 0 < b ∧ k1 ≠ k2 ∧ (∀ j p, j < k1 → cs[j]? = some p → ¬ p.2 < 0) ∧ (∀ j p, j < k2 → cs[j]? = some p → ¬ 0 < p.2) ∧ m = (if b < a then b else a) ∧
      pay (negs ((cs.set k1 (g, -a + m)).set k2 (t, b - m))) (poss ((cs.set k1 (g, -a + m)).set k2 (t, b - m))) = rest := by
  cases hn : negs cs with
  | nil => rw [hn] at h; unfold pay at h; cases h
  | cons x gs =>
    cases hp : poss cs with
    | nil => rw [hn, hp] at h; unfold pay at h; cases h
    | cons y ts =>
      obtain ⟨g', a⟩ := x
      obtain ⟨t', b⟩ := y
      rw [hn, hp] at h
      rw [pay] at h
      injection h with h1 h2
      injection h1 with e1 h1
      injection h1 with e2 e3
      subst e1 e2
      obtain ⟨pre, post, c1, ha, hpre, _, _⟩ := negs_first hn
      obtain ⟨pre2, post2, c2, hb, hpre2, _, _⟩ := poss_first hp
      have k1 : cs[pre.length]? = some (g', -a) := by rw [c1, List.getElem?_append_right (Nat.le_refl _), Nat.sub_self]; rfl
      have k2 : cs[pre2.length]? = some (t', b) := by rw [c2, List.getElem?_append_right (Nat.le_refl _), Nat.sub_self]; rfl
      have hne : pre.length ≠ pre2.length := fun e => by
        rw [e, k2] at k1
        have := congrArg Prod.snd (Option.some.inj k1)
        have : b = -a := this
        omega
      have b1 : ∀ j p, j < pre.length → cs[j]? = some p → ¬ p.2 < 0 := fun j p hj e => by
        rw [c1, List.getElem?_append_left hj] at e
        exact hpre p (List.mem_of_getElem? e)
      have b2 : ∀ j p, j < pre2.length → cs[j]? = some p → ¬ 0 < p.2 := fun j p hj e => by
        rw [c2, List.getElem?_append_left hj] at e
        exact hpre2 p (List.mem_of_getElem? e)
      have mle : m ≤ a ∧ m ≤ b := by rw [← e3]; split <;> omega
      refine ⟨pre.length, pre2.length, a, b, k1, k2, ha, hb, hne, b1, b2, e3.symm, ?_⟩
      obtain ⟨s1, s2⟩ := set_neg k1 b1 ha mle.1
      have k2' : (cs.set pre.length (g', -a + m))[pre2.length]? = some (t', b) := by rw [List.getElem?_set_ne hne]; exact k2
      have b2' : ∀ j p, j < pre2.length → (cs.set pre.length (g', -a + m))[j]? = some p → ¬ 0 < p.2 := fun j p hj e => by
        by_cases ej : pre.length = j
        · subst ej
          rw [List.getElem?_set_self (List.getElem?_eq_some_iff.mp k1).1] at e
          cases e
          show ¬ 0 < -a + m
          omega
        · rw [List.getElem?_set_ne ej] at e
          exact b2 j p hj e
      obtain ⟨s3, s4⟩ := set_pos k2' b2' hb mle.2
      rw [s3, s4, s1, s2, hn, hp, List.tail_cons, List.tail_cons, ← h2]
      by_cases q1 : a < b
      · have em : m = a := by rw [← e3, if_neg (by omega)]
        rw [if_pos q1, if_neg (by omega), if_pos (by omega), em]
        rfl
      · by_cases q2 : b < a
        · have em : m = b := by rw [← e3, if_pos q2]
          rw [if_neg q1, if_pos q2, if_pos (by omega), if_neg (by omega), em]
          rfl
        · have em : m = b := by rw [← e3, if_neg q2]; omega
          rw [if_neg q1, if_neg q2, if_neg (by omega), if_neg (by omega)]
          rfl
theorem moved_len (cs : List Pr) : (cs.filter fun p => decide (p.2 ≠ 0)).length = (negs cs).length + (poss cs).length := by
  induction cs with
  | nil => rfl
  | cons p r ih =>
    rw [List.filter_cons, negs_cons, poss_cons]
    by_cases a : p.2 < 0
    · rw [if_pos (by simp; omega), if_pos a, if_neg (by omega), List.length_cons, List.length_cons, ih]; omega
    · by_cases b : 0 < p.2
      · rw [if_pos (by simp; omega), if_neg a, if_pos b, List.length_cons, List.length_cons, ih]; omega
      · rw [if_neg (by simp; omega), if_neg a, if_neg b, ih]
def trD (p : Tr) : PyData := .tuple [.str (tx p.1), .str (tx p.2.1), .int p.2.2]
theorem shaped_tr (p : Tr) (h1 : PySem.PyData.strOk (tx p.1) = true) (h2 : PySem.PyData.strOk (tx p.2.1) = true) : SeqAt.shaped (trD p) = true := by
  unfold SeqAt.shaped trD PyData.canLay0 PyData.canLayAll0 PyData.canLayAll0 PyData.canLayAll0 PyData.canLayAll0 PyData.canLay0
  rw [h1, h2]
  rfl
theorem eqv_tr (p : Tr) : PyData.eqv (trD p) (trD p) = true := by
  unfold trD PyData.eqv PyData.eqvAll PyData.eqvAll PyData.eqvAll PyData.eqvAll
  rw [eqv_str, eqv_str, eqv_int]
  rfl
theorem dt_tr {K : PySem.W.Frag} {H : Hp} {r : Addr} {p : Tr} (e : H r = some (trO p)) : Dt K H (.ref r) (trD p) := .tup (SqT.of e) (.cons (.str _) (.cons (.str _) (.cons (.int _) .nil)))
theorem zeros {cs : List Pr} (h : ∀ p ∈ cs, p.2 = 0) : cs.map (·.2) = cs.map fun _ => (0 : Int) := List.map_congr_left fun p hp => h p hp
end L2

namespace L2
open PySem PySem.Spec PyProof.Rows PySem.NumText
/-! whole numbers from texts and back, up to 4300 figures -/
/-- the interpreter's own table has no limit of figures set -/
def keysOk (es : Array DictEntry) : Bool := es.toList.all (fun e => match e.key with | .str _ _ => true | _ => false) && (nsFind es "sys.int_max_str_digits").isNone
def digOk (K : PySem.W.Frag) : Bool := match K.lookup cStatics with
  | some ⟨_, _, .dict es _, _⟩ => keysOk es
  | _ => false
theorem digOk_of {K : PySem.W.Frag} {oc : Value} {od : Option Addr} {es : Array DictEntry} {n : Nat} {sl : Array (Option Value)} (e : K.lookup cStatics = some ⟨oc, od, .dict es n, sl⟩) (h : keysOk es = true) : digOk K = true := by
  unfold digOk
  rw [e]
  exact h
theorem noDigits_of {K : PySem.W.Frag} {h : Heap} (X : K.In h) (e : digOk K = true) : h.NoDigits := by
  unfold digOk at e
  split at e
  · rename_i c d es n sl q
    have ho := X _ _ q
    unfold keysOk at e
    obtain ⟨e1, e2⟩ := Bool.and_eq_true_iff.mp e
    refine ⟨nsFind es, ⟨_, es, n, ho, rfl, fun x hx => ?_, fun _ => rfl⟩, by simpa using e2⟩
    have := List.all_eq_true.mp e1 x (by simpa using hx)
    split at this
    · exact ⟨_, _, by assumption⟩
    · cases this
  · cases e
theorem wp_limit {M : Model} {A : Around} {E : Value → Shared → Prop} {s : Shared} {Q : Nat → Shared → Prop} (hn : s.heap.NoDigits) (h : Q 4300 s) : wpAny M A Builtin.intMaxStrDigits Q E s := by
  obtain ⟨mc, hns, hnone⟩ := hn
  unfold Builtin.intMaxStrDigits
  refine wpAny_bind (wpAny_nsGet hns ?_)
  rw [hnone]
  exact wpAny_pure h
theorem wp_textL {M : Model} {A : Around} {E : Value → Shared → Prop} {s : Shared} {Q : Value → Shared → Prop} {v : Value} {text : List Nat} {n : Int}
    (hs : ¬ (text.takeWhile (· != 0)).length ≤ 640) (hn : s.heap.NoDigits) (hr : (int_private% "readNumeral") 4300 10 (text.takeWhile (· != 0)) = (int_private% "Numeral.value") n)
    (ha : ((text.takeWhile (· != 0)).length == text.length) = true) (h : Q (.int n s.toks) { s with toks := s.toks + 1 }) :
    wpAny M A ((int_private% "intFromText") v text 10) Q E s := by
  obtain ⟨hp, g, d, tk, os⟩ := s
  repeat (any_goals (first
    | assumption
    | (with_reducible refine wpAny_ite_false (decide_eq_false hs) ?_)
    | (with_reducible refine wp_limit hn ?_)
    | (with_reducible refine wpAny_bind (wp_limit hn ?_))
    | (with_reducible refine wpAny_ite_true (decide_eq_true ha) ?_)
    | wp_step))
  all_goals (try rw [hr])
  all_goals (try dsimp only)
  repeat (any_goals (first
    | assumption
    | (with_reducible refine wpAny_ite_true (decide_eq_true ha) ?_)
    | wp_step))
theorem meets_textL {x : PySem.Str} {u : Tok} {n : Int} (hx : x.length ≤ sizeLine) (hl : ¬ (numSeenOf x).length ≤ 640) (hn : PySem.intText? x = some n) :
    Meets (Builtin.«int.__new__» ⟨[.type "int", .str x u], []⟩) (fun A R s => s.heap.NoDigits ∧ (Made.int n).post (fun v s' => R (.ok (.ret v)) s') s) := by
  intro prog w A R s hq
  obtain ⟨hnd, h⟩ := hq
  obtain ⟨hp, g, d, tk, os⟩ := s
  have f1 := F.conv_sub_int
  have f2 := F.madeHere_int
  have f3 := PySem.W.KIN.str_int
  have f4 := PySem.W.KIN.str_idx
  have f5 := PySem.W.KIN.str_trunc
  have f6 : typeOf (.str x u) = pure (.type "str") := rfl
  have hr : (int_private% "readNumeral") 4300 10 (numSeenOf x) = (int_private% "Numeral.value") n ∧ ((numSeenOf x).length == (numTextOf x).length) = true := by
    have e : numLimitOf x = 4300 := if_neg hl
    rcases readAny x hx with ⟨m, h1, h2, h3⟩ | ⟨h1, _⟩
    · rw [hn] at h1
      injection h1 with h1
      subst h1
      rw [e] at h3
      exact ⟨h3, h2⟩
    · rw [hn] at h1
      cases h1
  have hk := PySem.W.KIN.Hid.mk (And.intro hl hr)
  have hd := PySem.W.KIN.Hid.mk hnd
  clear hl hr hn hnd
  repeat (any_goals (first
    | assumption
    | ((with_reducible show wpAny _ _ ((int_private% "intFromText") _ _ _) _ _ _); refine wp_textL hk.out.1 hd.out hk.out.2.1 hk.out.2.2 ?_)
    | wp_step))
  all_goals first | exact h | skip
theorem takeWhile_all {α : Type} {p : α → Bool} : ∀ {l : List α}, (∀ x ∈ l, p x = true) → l.takeWhile p = l
  | [], _ => rfl
  | x :: r, h => by rw [List.takeWhile_cons, if_pos (h x List.mem_cons_self), takeWhile_all fun y hy => h y (List.mem_cons_of_mem _ hy)]
theorem seen_digits {cs : List Nat} (hd : AllDigits cs) : numSeenOf (tx cs) = cs := by
  have e1 : numTextOf (tx cs) = cs := by
    have : (tx cs).cps.all (· < 128) = true := by
      rw [Array.all_eq_true']
      intro c hc
      have := hd c (by simpa using hc)
      exact decide_eq_true (by omega)
    show (if (tx cs).cps.all (· < 128) then (tx cs).cps.toList else _) = cs
    rw [if_pos this]
  show (numTextOf (tx cs)).takeWhile (· != 0) = cs
  rw [e1]
  exact takeWhile_all fun c hc => by have := hd c hc; simp; omega
section
variable {X : Cx}
/-- int(x) of a text of figures -/
theorem call_int_text (hc : X.calm = true) (hz : digOk X.K = true) : CallR X (.type "int") (fun xs H Q => ∃ (cs : List Nat), xs = [.str (tx cs)] ∧ AllDigits cs ∧ cs ≠ [] ∧ cs.length ≤ 4300 ∧ Q (.int ((digitsVal cs : Nat) : Int)) H) := by
  intro pins s σ H xs us Q I r h
  obtain ⟨cs, rfl, hd, hne, hl, q⟩ := h
  obtain ⟨u, rfl, t, rfl⟩ := vals1 r
  have e := intText_digits (x := tx cs) (by simpa using hd) (by simpa using hne) (by rw [tx_length]; exact hl)
  have e' : PySem.intText? (tx cs) = some ((digitsVal cs : Nat) : Int) := by simpa using e
  by_cases h6 : (tx cs).length ≤ 640
  · exact PySem.W.KIN.call_text e' h6 ⟨.int _, H, I.tok _, ⟨_, rfl⟩, q⟩
  · have hx : (tx cs).length ≤ sizeLine := by rw [tx_length, sizeLine_eq]; omega
    by_cases hs : (numSeenOf (tx cs)).length ≤ 640
    · rw [seen_digits hd, ← tx_length] at hs
      exact absurd hs h6
    · exact call_int_1 (meets_textL hx hs e') ⟨noDigits_of I.kIn hz, rfl, ⟨.int _, H, I.tok _, ⟨_, rfl⟩, q⟩⟩
/-- str(i) of any whole number below 10 ** 4300 -/
theorem call_str_big (hc : X.calm = true) (hz : digOk X.K = true) : CallR X (.type "str") (fun xs H Q => ∃ i : Int, xs = [.int i] ∧ i.natAbs < 10 ^ 4300 ∧ Q (.str (toString i)) H) := by
  intro pins s σ H xs us Q I r h
  obtain ⟨i, rfl, hl, q⟩ := h
  obtain ⟨u, rfl, t, rfl⟩ := vals1 r
  refine str_of_int_or (I.ok.hd hc) (noDigits_of I.kIn hz) (fun _ => ⟨.str _, H, I.tok _, ⟨_, rfl⟩, q⟩) (fun h2 => absurd hl (Nat.not_lt.mpr h2))
end
end L2

namespace L2
open PySem PySem.Spec PyProof.Rows PySem.NumText
/-! a range with a step -/
def Itrs (lo st : Int) (n : Nat) : It := ⟨fun i _ => i < n, fun i H x H' => H' = H ∧ x = .int (lo + i * st), fun i _ => n ≤ i⟩
theorem turn_rangeS {P : Program} {w : World} {K : PySem.W.Frag} {tg : Expr} (it : Addr) (lo st : Int) (n : Nat) : Turn P w K tg (Itrs lo st n) [it] it (fun i h => IsRangeIter h it (lo + (i : Nat) * st) ((n : Int) - (i : Nat)) st) where
  mem := by simp
  obj := fun i h st b hb => by
    have e : b = it := by simpa using hb
    subst e
    exact ⟨_, st, fun v z => by
      have z' : Data.fields _ = Data.cell v := z
      cases z'⟩
  keep := fun i h h' st k => k it (by simp) _ st
  item := by
    intro X hP hw hK hc i pins s σ H E I hf st' hg
    subst hP hw hK
    obtain ⟨f0, f1, f2, f3, f4, f5⟩ := hf it (by simp)
    have W := Walks.range (prog := X.prog) (w := X.w) (I.ok.hd hc) it lo st n
    refine W.item i s _ _ hg st' fun v h' tk hv st2 kk => ?_
    obtain ⟨t, rfl⟩ := hv
    have I1 : Inv X pins σ H { s with heap := h', toks := tk } := I.turned (fun b o hb e => kk b o (by simpa using hb) e) f0 f1 f3 f4 f5
    exact ⟨_, rfl, go_of (s := { s with heap := h', toks := tk }) (n := "range_iterator") st2 rfl rfl (by decide) ⟨.int (lo + i * st), H, I1, ⟨t, rfl⟩, ⟨rfl, rfl⟩, st2, fun b hb => (hf b hb).1⟩⟩
  done := by
    intro X hP hw hK hc i pins s σ H E I hf st' hg
    subst hP hw hK
    obtain ⟨f0, f1, f2, f3, f4, f5⟩ := hf it (by simp)
    exact wpAny_pyNext_range_end (I.ok.hd hc) st' (by have : n ≤ i := hg; omega) fun h' eb => ⟨rfl, I.turned (t' := s.toks) (fun b o hb e => eb b o hb e) f0 f1 f3 f4 f5⟩
  self := fun _ _ _ _ _ st h => wpAny_pyIter_rangeiter st h
section
variable {X : Cx} {tg : Expr}
def stepsTo (lo hi st : Int) : Nat := (Builtin.Range.rangeSize lo hi st).toNat
def iRng3 (ta : TA) : TI := fun σ H R => ta σ H fun vs H1 => ∃ i j k : Int, vs = [.int i, .int j, .int k] ∧ (0 ≤ i ∧ i ≤ 1000000 ∧ 0 ≤ j ∧ j ≤ 1000000 ∧ 0 < k ∧ k ≤ 1000000) ∧ R (Itrs i k (stepsTo i j k)) H1
theorem range_small {a b c : Int} (h1 : 0 ≤ a) (h2 : a ≤ 1000000) (h3 : 0 ≤ b) (h4 : b ≤ 1000000) (h5 : 0 < c) (h6 : c ≤ 1000000) : Builtin.Range.small a b c = true ∧ 0 ≤ Builtin.Range.rangeSize a b c := by
  have hr : 0 ≤ Builtin.Range.rangeSize a b c ∧ Builtin.Range.rangeSize a b c ≤ 1000001 := by
    unfold Builtin.Range.rangeSize
    rw [if_pos (by omega)]
    split
    · have e0 : 0 ≤ (b - a - 1) / c := Int.ediv_nonneg (by omega) (by omega)
      have e1 : (b - a - 1) / c ≤ b - a - 1 := Int.ediv_le_self _ (by omega)
      omega
    · omega
  refine ⟨?_, hr.1⟩
  unfold Builtin.Range.small
  simp only [Builtin.Range.rangeFitsLong, Bool.and_eq_true, Bool.or_eq_true, decide_eq_true_eq, beq_iff_eq, show c > 0 from h5, if_true]
  omega
theorem pi_range3 {a b c : Expr} {ta : TA} {p pos : Pos} (hg : Gl X "range") (hm : X.mg "range" = none) (ha : PA X [a, b, c] ta) (hs : starEach [a, b, c] X.env = [(false, eval a X.env), (false, eval b X.env), (false, eval c X.env)] := by rfl) (hs2 : starEach [b, c] X.env = [(false, eval b X.env), (false, eval c X.env)] := by rfl) :
    PI X tg (.Call (.Name "range" p) [a, b, c] [] pos) (iRng3 ta) := by
  intro pins s σ H R I h
  refine Call_ (ld_blt I hg hm boot_range (PyProof.Rows.callWith_type1 (thn (ha pos pins s σ H _ I h) fun us s1 ⟨vs, H1, I1, r1, q1⟩ => ?_) (by rw [hs, hs2]) (by rw [hs2]; rfl)))
  obtain ⟨i, j, k, e, ⟨q1, q2, q3, q4, q5, q6⟩, q⟩ := q1
  subst e
  cases r1 with
  | cons r rr =>
    cases rr with
    | cons r' rr =>
      cases rr with
      | cons r'' rr =>
        cases rr
        obtain ⟨t, rfl⟩ := r
        obtain ⟨t', rfl⟩ := r'
        obtain ⟨t'', rfl⟩ := r''
        obtain ⟨sm, sz⟩ := range_small q1 q2 q3 q4 q5 q6
        refine call_range_3 (by omega) ?_ (Or.inl (PyProof.noPylong_small (by omega)))
        refine wpAny_pyIter_range (IsRange.new ..) sm ?_
        have I2 : Inv X pins σ H1 { s1 with heap := s1.heap.push { cls := .type "range", data := .fields #[.int i t, .int j t', .int k t''] }, toks := s1.toks } := I1.kept fun b o e => Heap.get?_push_of_some _ e
        refine ⟨(s1.heap.push { cls := .type "range", data := .fields #[.int i t, .int j t', .int k t''] }).objs.size, [(s1.heap.push { cls := .type "range", data := .fields #[.int i t, .int j t', .int k t''] }).objs.size], _, _, H1, rfl,
          I2.kept (t' := s1.toks) fun b o e => Heap.get?_push_of_some _ e, turn_rangeS _ i k (stepsTo i j k), ?_, fun b hb => ?_, q⟩
        · have e1 : i + ((0 : Nat) : Int) * k = i := by simp
          have e2 : ((stepsTo i j k : Nat) : Int) - ((0 : Nat) : Int) = Builtin.Range.rangeSize i j k := by unfold stepsTo; omega
          show IsRangeIter _ _ (i + ((0 : Nat) : Int) * k) (((stepsTo i j k : Nat) : Int) - ((0 : Nat) : Int)) k
          rw [e1, e2]
          exact Heap.get?_push_size _ rfl
        · have e : b = (s1.heap.push { cls := .type "range", data := .fields #[.int i t, .int j t', .int k t''] }).objs.size := by simpa using hb
          subst e
          exact I2.fpOk (Nat.le_refl _) (I2.hok.fresh (Nat.le_refl _))
theorem for_rangeS {lo st : Int} {n : Nat} {g : TG} {tb : TS} {D : Ends} {σ : St} {H : Hp} (Pv : Nat → St → Hp → Prop) (h0 : Pv 0 σ H)
    (hs : ∀ i σ H, i < n → Pv i σ H → g (.int (lo + i * st)) σ H fun σ2 H2 => tb { D with nx := Pv (i + 1), ct := Pv (i + 1), bk := D.nx } σ2 H2) (hd : ∀ σ H, Pv n σ H → D.nx σ H) :
    ∃ W : Nat → Nat → St → Hp → Prop, (∃ m, W 0 m σ H) ∧ ∀ i m σ H, W i m σ H →
      ((Itrs lo st n).stop i H ∧ D.nx σ H) ∨ ((Itrs lo st n).go i H ∧ ∃ N : St → Hp → Prop, (∀ σ' H', N σ' H' → ∃ m', m' < m ∧ W (i + 1) m' σ' H') ∧ ∀ x H', (Itrs lo st n).yld i H x H' → g x σ H' fun σ2 H2 => tb { D with nx := N, ct := N, bk := D.nx } σ2 H2) := by
  refine ⟨fun i m σ H => m = n - i ∧ i ≤ n ∧ Pv i σ H, ⟨n, by simp, Nat.zero_le _, h0⟩, ?_⟩
  rintro i m σ H ⟨rfl, hi, p⟩
  by_cases hlt : i < n
  · refine .inr ⟨hlt, fun σ' H' => Pv (i + 1) σ' H', fun σ' H' q => ⟨n - (i + 1), by omega, rfl, hlt, q⟩, ?_⟩
    rintro x H' ⟨rfl, rfl⟩
    exact hs i σ _ hlt p
  · have e : i = n := by omega
    subst e
    exact .inl ⟨Nat.le_refl _, hd σ H p⟩
end
/-! ### numbers by figures -/
theorem fold_acc : ∀ (b : List Nat) (acc : Nat), b.foldl (fun acc c => acc * 10 + (c - 48)) acc = acc * 10 ^ b.length + b.foldl (fun acc c => acc * 10 + (c - 48)) 0
  | [], acc => by show acc = acc * 1 + 0; omega
  | c :: r, acc => by
    show r.foldl (fun acc c => acc * 10 + (c - 48)) (acc * 10 + (c - 48)) = acc * 10 ^ (r.length + 1) + r.foldl (fun acc c => acc * 10 + (c - 48)) (0 * 10 + (c - 48))
    rw [fold_acc r (acc * 10 + (c - 48)), fold_acc r (0 * 10 + (c - 48)), Nat.pow_succ, Nat.add_mul, Nat.zero_mul, Nat.zero_add]
    have : acc * 10 * 10 ^ r.length = acc * (10 ^ r.length * 10) := by rw [Nat.mul_assoc, Nat.mul_comm 10]
    omega
theorem digitsVal_append (a b : List Nat) : digitsVal (a ++ b) = digitsVal a * 10 ^ b.length + digitsVal b := by
  unfold digitsVal
  rw [List.foldl_append, fold_acc]
theorem fold_lt : ∀ (cs : List Nat) (acc : Nat), AllDigits cs → cs.foldl (fun acc c => acc * 10 + (c - 48)) acc < (acc + 1) * 10 ^ cs.length
  | [], acc, _ => by show acc < (acc + 1) * 1; omega
  | c :: r, acc, h => by
    have h1 := fold_lt r (acc * 10 + (c - 48)) fun x hx => h x (List.mem_cons_of_mem _ hx)
    have h2 := h c List.mem_cons_self
    show r.foldl (fun acc c => acc * 10 + (c - 48)) (acc * 10 + (c - 48)) < (acc + 1) * 10 ^ (r.length + 1)
    refine Nat.lt_of_lt_of_le h1 ?_
    rw [Nat.pow_succ, Nat.mul_comm (10 ^ r.length), ← Nat.mul_assoc]
    exact Nat.mul_le_mul_right _ (by omega)
theorem digitsVal_lt {cs : List Nat} (h : AllDigits cs) : digitsVal cs < 10 ^ cs.length := by
  have := fold_lt cs 0 h
  rw [Nat.zero_add, Nat.one_mul] at this
  exact this
theorem inS_mem (signs : Str) (c : Nat) : inS signs c = decide (c ∈ signs.cps.toList) := PySem.StrLaws.found_one signs c
theorem figs_digits {cs : List Nat} (h : cs.all (inS "0123456789") = true) : AllDigits cs := fun c hc => by
  have h1 := List.all_eq_true.mp h c hc
  rw [inS_mem] at h1
  have h2 : c ∈ ("0123456789" : Str).cps.toList := of_decide_eq_true h1
  have h3 : ("0123456789" : Str).cps.toList = [48, 49, 50, 51, 52, 53, 54, 55, 56, 57] := by decide +kernel
  rw [h3] at h2
  simp at h2
  omega
/-- whether a text writes a whole number -/
def numOk (cs : List Nat) : Bool := !(decide (cs = [])) && cs.all (inS "0123456789") && !(decide (cs.head? = some 48) && decide (1 < cs.length))
def numV (cs : List Nat) : V := if numOk cs = true then .int ((digitsVal cs : Nat) : Int) else .non
structure spNumber (vs : List V) (H : Hp) (Q : VK) (E : XK) : Prop where
  ex : ∃ (cs : List Nat), vs = [.str (tx cs)] ∧ cs.length ≤ 4000 ∧ ∀ H', Same H H' → Q (numV cs) H'
theorem use_number {H : Hp} {Q : VK} {E : XK} {cs : List Nat} (hl : cs.length ≤ 4000) (q : ∀ H', Same H H' → Q (numV cs) H') : spNumber [.str (tx cs)] H Q E := ⟨cs, rfl, hl, q⟩
structure spValue (vs : List V) (H : Hp) (Q : VK) (E : XK) : Prop where
  ex : ∃ (cs : List Nat), vs = [.str (tx cs)] ∧ cs.length ≤ 4000 ∧ AllDigits cs ∧ Q (.int ((digitsVal cs : Nat) : Int)) H
theorem use_value {H : Hp} {Q : VK} {E : XK} {cs : List Nat} (hl : cs.length ≤ 4000) (hd : AllDigits cs) (q : Q (.int ((digitsVal cs : Nat) : Int)) H) : spValue [.str (tx cs)] H Q E := ⟨cs, rfl, hl, hd, q⟩
theorem str_eq_nil (cs : List Nat) : decide (V.str (tx cs) = V.str "") = decide (cs = []) := by
  by_cases h : cs = []
  · subst h; rw [decide_eq_true rfl]; exact decide_eq_true rfl
  · rw [decide_eq_false h]
    refine decide_eq_false fun e => h ?_
    have e1 : tx cs = tx [] := V.str.inj e
    exact tx_inj e1
theorem str_eq_zero (c : Nat) : decide (V.str (tx [c]) = V.str "0") = decide (c = 48) := by
  by_cases h : c = 48
  · subst h; rw [decide_eq_true rfl]; exact decide_eq_true rfl
  · rw [decide_eq_false h]
    refine decide_eq_false fun e => h ?_
    have e1 : tx [c] = tx [48] := V.str.inj e
    have := tx_inj e1
    simpa using this
theorem sz_digits {cs : List Nat} (h : AllDigits cs) : Jm.Sz (4 * cs.length) ((digitsVal cs : Nat) : Int) := by
  have h1 := digitsVal_lt h
  show ((digitsVal cs : Nat) : Int).natAbs < 2 ^ (4 * cs.length)
  rw [Int.natAbs_natCast, Nat.pow_mul]
  exact Nat.lt_of_lt_of_le h1 (Nat.pow_le_pow_left (by decide) _)
end L2
namespace L2
open PySem PySem.Spec PyProof.Rows PySem.NumText
theorem cutN_mid {cs : List Nat} {a b : Nat} (h : a ≤ b) (hb : b ≤ cs.length) : cutN cs (some (a : Int)) (some (b : Int)) = (cs.drop a).take (b - a) := by
  unfold cutN
  rw [HT.sIx_nat, HT.sIx_nat, Nat.min_eq_left hb, Nat.min_eq_left (show a ≤ cs.length by omega)]
end L2
namespace L2
open PySem PySem.Spec PyProof.Rows PySem.NumText
structure spSpoilt (K : PySem.W.Frag) (vs : List V) (H : Hp) (Q : VK) (E : XK) : Prop where
  ex : ∃ (a : Addr) (ms : List Int) (k : Int) (cs : List Nat), vs = [.ref a, .int k, .str (tx cs)] ∧ SqL K H a (ms.map V.int) ∧ ms.length ≤ 63 ∧ 0 ≤ k ∧ cs.length ≤ 3900 ∧ ∀ ds : List Nat, ds.length ≤ cs.length + 1 → Q (.str (tx ds)) H
theorem use_spoilt {K : PySem.W.Frag} {H : Hp} {Q : VK} {E : XK} {a : Addr} {ms : List Int} {k : Int} {cs : List Nat} (hS : SqL K H a (ms.map V.int)) (h63 : ms.length ≤ 63) (hk : 0 ≤ k) (hl : cs.length ≤ 3900) (h : ∀ ds : List Nat, ds.length ≤ cs.length + 1 → Q (.str (tx ds)) H) :
    spSpoilt K [.ref a, .int k, .str (tx cs)] H Q E := ⟨a, ms, k, cs, rfl, hS, h63, hk, hl, h⟩
structure spBig (vs : List V) (H : Hp) (Q : VK) (E : XK) : Prop where
  ex : ∃ n : Nat, vs = [.int (n : Int)] ∧ n ≤ 100 ∧ Q (.int (((10 ^ (60 * n) : Nat)) : Int)) H
theorem use_big {H : Hp} {Q : VK} {E : XK} {n : Nat} {ni : Int} (e : ni = (n : Int)) (hn : n ≤ 100) (q : Q (.int (((10 ^ (60 * n) : Nat)) : Int)) H) : spBig [.int ni] H Q E := by
  subst e
  exact ⟨n, rfl, hn, q⟩
theorem toDigits_len : ∀ (k n : Nat), n < 10 ^ (k + 1) → (Nat.toDigits 10 n).length ≤ k + 1
  | 0, n, h => by rw [Nat.toDigits_of_lt_base (by simpa using h)]; exact Nat.le_refl _
  | k + 1, n, h => by
    by_cases hb : n < 10
    · rw [Nat.toDigits_of_lt_base hb]; show 1 ≤ _; omega
    · have hm : n % 10 < 10 := Nat.mod_lt n (by decide)
      have t : Nat.toDigits 10 (n / 10) ++ Nat.toDigits 10 (n % 10) = Nat.toDigits 10 (10 * (n / 10) + n % 10) := Nat.toDigits_append_toDigits (by decide) (by omega) hm
      rw [Nat.div_add_mod] at t
      rw [← t, List.length_append, Nat.toDigits_of_lt_base hm]
      have := toDigits_len k (n / 10) (by rw [Nat.pow_succ] at h; exact Nat.div_lt_of_lt_mul (by rw [Nat.mul_comm]; exact h))
      show _ + 1 ≤ _
      omega
/-- a whole number as a text -/
theorem str_of_nat (n : Nat) {k : Nat} (h : n < 10 ^ (k + 1)) : ∃ cs : List Nat, (toString ((n : Nat) : Int) : Str) = tx cs ∧ cs.length ≤ k + 1 := by
  refine ⟨(Nat.toDigits 10 n).map Char.toNat, ?_, by rw [List.length_map]; exact toDigits_len k n h⟩
  have e := PySem.W.KIN.signs_num n
  rw [← e, tx_eta]
end L2

namespace L2
open PySem PySem.Spec PyProof.Rows PySem.NumText Builtin Builtin.Str
section
variable {X : Cx}
/-- divmod by a divisor below 2 ** 9000 -/
theorem call_divmodW : CallR X (.builtin "divmod") (fun xs H Q => ∃ i j, xs = [.int i, .int j] ∧ CDivW i j ∧ ∀ p, H p = none → Q (.ref p) (upd H p (.tup [.int (i / j), .int (i % j)]))) := by
  intro pins s σ H xs us Q I r h
  obtain ⟨i, j, rfl, hc, q⟩ := h
  obtain ⟨u, w', rfl, ⟨t, rfl⟩, ⟨t', rfl⟩⟩ := vals2 r
  have h1 : (0 : Int) < j := hc.1
  refine divmod_int (by omega) ?_ (.inl (PyProof.noPylong_of_log2 hc.2))
  rw [Int.fdiv_eq_ediv_of_nonneg i (by omega), Int.fmod_eq_emod_of_nonneg i (by omega)]
  have hn : H s.heap.objs.size = none := I.hok.fresh (Nat.le_refl _)
  refine ⟨.ref s.heap.objs.size, _, ?_, rfl, q _ hn⟩
  refine I.laid (fun b o e => Heap.get?_push_of_some _ e) (Nat.le_refl _) ⟨by simp only [List.length_cons, List.length_nil]; rw [sizeLine_eq]; decide, [.int (i / j) s.toks, .int (i % j) (s.toks + 1)], .cons ⟨_, rfl⟩ (.cons ⟨_, rfl⟩ .nil), ?_⟩
  exact ⟨_, Heap.get?_push_size s.heap rfl, rfl, 0, rfl⟩
/-- figures with noughts ahead -/
def zf (cs : List Nat) (n : Nat) : List Nat := List.replicate (n - cs.length) 48 ++ cs
theorem mt_zfill : MtR X "str.zfill" (fun x vs H Q => ∃ (cs : List Nat) (n : Nat), x = .str (tx cs) ∧ vs = [.int (n : Int)] ∧ n ≤ 1000 ∧ cs.length ≤ 1000 ∧ AllDigits cs ∧ Q (.str (tx (zf cs n))) H) := by
  intro pins s σ H x vs v us Q I rx rv h
  obtain ⟨cs, n, rfl, rfl, hn, hl, hd, q⟩ := h
  obtain ⟨t, rfl⟩ := rx
  obtain ⟨u, rfl, t', rfl⟩ := vals1 rv
  have hr : (decide ((n : Int) < -(2 ^ 63 : Int)) || decide ((n : Int) ≥ 2 ^ 63)) = false := by
    rw [decide_eq_false (by omega), decide_eq_false (by omega)]; rfl
  have hlong : tooLong ((n : Int)).toNat = false := by
    unfold tooLong
    exact decide_eq_false (by rw [Int.toNat_natCast, sizeLine_eq] <;> omega)
  refine call_meets F.slot_str_zfill (typeIs_str _ _ _) F.entry_str_zfill (F.args_str_zfill_2 _ _) (gives_str_zfill (tx cs) (n : Int) t t' hr hlong).meets ?_
  by_cases hc : (n : Int) ≤ ((tx cs).length : Int)
  · rw [if_pos hc]
    have e : zf cs n = cs := by
      unfold zf
      rw [tx_length] at hc
      rw [show n - cs.length = 0 from by omega]
      rfl
    rw [e] at q
    exact ⟨.str (tx cs), H, I, ⟨t, rfl⟩, q⟩
  · rw [if_neg hc]
    have ez : zfilled (tx cs) (((n : Int)).toNat - (tx cs).length) = tx (zf cs n) := by
      rw [Int.toNat_natCast, tx_length]
      unfold zfilled zf
      have hp : padded (tx cs) (n - cs.length) 0 48 = tx (List.replicate (n - cs.length) 48 ++ cs) := by
        unfold padded
        simp [tx]
      split
      · rename_i e
        have : 43 ∈ cs := List.mem_of_getElem? (i := 0) (by simpa using e)
        have := hd 43 this
        omega
      · rename_i e
        have : 45 ∈ cs := List.mem_of_getElem? (i := 0) (by simpa using e)
        have := hd 45 this
        omega
      · exact hp
    rw [ez]
    refine ⟨?_, .str (tx (zf cs n)), H, I.tok _, ⟨_, rfl⟩, q⟩
    rw [tx_length, sizeLine_eq]
    unfold zf
    rw [List.length_append, List.length_replicate]
    omega
theorem glued_empty : ∀ (l : List Str) (acc : Array Nat), (l.foldl (fun acc p => acc ++ (Str.empty).cps ++ p.cps) acc).toList = acc.toList ++ (l.map (·.cps.toList)).flatten
  | [], acc => by simp
  | p :: r, acc => by
    rw [List.foldl_cons, glued_empty r]
    simp [Str.empty]
theorem glued_flat (l : List Str) : glued Str.empty l = tx (l.map (·.cps.toList)).flatten := by
  unfold glued
  have h := glued_empty (l.drop 1) (l.headD Str.empty).cps
  have e : (l.map (·.cps.toList)).flatten = (l.headD Str.empty).cps.toList ++ ((l.drop 1).map (·.cps.toList)).flatten := by
    cases l with
    | nil => rfl
    | cons x r => rfl
  rw [e, ← h]
theorem vals_strs : ∀ {css : List (List Nat)} {its : List Value}, Vals (txs css) its → ∃ l : List (Str × Tok), its = strValues l ∧ l.map (·.1) = css.map tx
  | [], its, r => by cases r; exact ⟨[], rfl, rfl⟩
  | c :: cs, its, r => by
    cases r with
    | cons r1 r2 =>
      obtain ⟨t, rfl⟩ := r1
      obtain ⟨l, rfl, e⟩ := vals_strs r2
      exact ⟨(tx c, t) :: l, rfl, by rw [List.map_cons, List.map_cons, e]⟩
theorem flat_tx (css : List (List Nat)) : ((css.map tx).map (·.cps.toList)) = css := by
  rw [List.map_map]
  conv => rhs; rw [← List.map_id css]
  exact List.map_congr_left fun c _ => by simp [tx]
theorem fold_len : ∀ (l : List Str) (n : Nat), l.foldl (fun a p => a + p.length + (Str.empty).length) n = n + (l.map (·.cps.toList)).flatten.length
  | [], n => by simp
  | p :: r, n => by
    rw [List.foldl_cons, fold_len r]
    have : p.length = p.cps.toList.length := by show p.cps.size = _; simp
    rw [List.map_cons, List.flatten_cons, List.length_append, this]
    show n + _ + 0 + _ = _
    omega
/-- texts joined with nothing between -/
theorem mt_join0 : MtR X "str.join" (fun x vs H Q => ∃ (a : Addr) (css : List (List Nat)), x = .str Str.empty ∧ vs = [.ref a] ∧ SqL X.K H a (txs css) ∧ css.flatten.length ≤ 100000 ∧ Q (.str (tx css.flatten)) H) := by
  intro pins s σ H x vs v us Q I rx rv h
  obtain ⟨a, css, rfl, rfl, hS, hl, q⟩ := h
  obtain ⟨t, rfl⟩ := rx
  obtain ⟨u, rfl, ru⟩ := vals1 rv
  cases ru
  obtain ⟨its, r, pl, hz⟩ := I.list hS
  obtain ⟨l, rfl, el⟩ := vals_strs r
  have hlen : (l.map (·.1)).toArray.foldl (· + ·.length + (Str.empty).length) 0 = css.flatten.length := by
    rw [List.foldl_toArray, fold_len, el, flat_tx]
    omega
  have hlong : tooLong ((l.map (·.1)).toArray.foldl (· + ·.length + (Str.empty).length) 0) = false := by
    rw [hlen]
    unfold tooLong
    exact decide_eq_false (by rw [sizeLine_eq]; omega)
  refine call_meets F.slot_str_join (typeIs_str _ _ _) F.entry_str_join (F.args_str_join_2 _ _) (meets_str_join_list Str.empty t a l hlong) ⟨pl.isList, ?_⟩
  have hg : glued Str.empty (l.map (·.1)) = tx css.flatten := by rw [glued_flat, el, flat_tx]
  have hfin : (tx css.flatten).length ≤ sizeLine := by rw [tx_length, sizeLine_eq]; omega
  have hst : Vals [V.str (tx css.flatten)] [Value.str (tx css.flatten) t] := .cons ⟨t, rfl⟩ .nil
  cases l with
  | nil => exact ⟨by rw [hg]; exact hfin, .str (tx css.flatten), H, I.tok _, ⟨_, by rw [hg]⟩, q⟩
  | cons p r' =>
    cases r' with
    | nil =>
      have e : p.1 = tx css.flatten := hg
      exact ⟨.str (tx css.flatten), H, I, ⟨p.2, by rw [← e]⟩, q⟩
    | cons p' r'' => exact ⟨by rw [hg]; exact hfin, .str (tx css.flatten), H, I.tok _, ⟨_, by rw [hg]⟩, q⟩
/-- a text split at one sign -/
def splitN (cs : List Nat) (c : Nat) : List (List Nat) := (Txt.split (tx cs) (tx [c])).map (·.cps.toList)
theorem txs_back (l : List Str) : txs (l.map (·.cps.toList)) = l.map V.str := by
  unfold txs
  rw [List.map_map]
  exact List.map_congr_left fun x _ => by show V.str (tx x.cps.toList) = V.str x; rw [tx_eta]
theorem vals_numbered : ∀ {l : List (Str × Tok)}, Vals (l.map fun p => V.str p.1) (strValues l)
  | [] => .nil
  | p :: r => .cons ⟨p.2, rfl⟩ vals_numbered
theorem mt_split1 : MtR X "str.split" (fun x vs H Q => ∃ (cs : List Nat) (c : Nat), x = .str (tx cs) ∧ vs = [.str (tx [c])] ∧ cs.length ≤ 100000 ∧ ∀ p, H p = none → Q (.ref p) (upd H p (.lst (txs (splitN cs c))))) := by
  intro pins s σ H x vs v us Q I rx rv h
  obtain ⟨cs, c, rfl, rfl, hl, q⟩ := h
  obtain ⟨t, rfl⟩ := rx
  obtain ⟨u, rfl, t', rfl⟩ := vals1 rv
  have hx : (tx cs).length ≤ sizeLine := by rw [tx_length, sizeLine_eq]; omega
  have hsl := split_le (tx cs) (tx [c])
  have hy : ((tx [c]).length == 0) = false := rfl
  have fin : ∀ (l : List (Str × Tok)) (tk : Nat), l.map (·.1) = Txt.split (tx cs) (tx [c]) → EP X pins σ Q (.ref s.heap.objs.size) { s with heap := s.heap.push { cls := .type "list", data := .seq (strValues l).toArray }, toks := tk } := fun l tk e => by
    have e2 : txs (splitN cs c) = l.map fun p => V.str p.1 := by
      unfold splitN
      rw [txs_back, ← e, List.map_map]
      rfl
    have hlen : l.length ≤ sizeLine := by
      have := congrArg List.length e
      rw [List.length_map] at this
      rw [tx_length] at hsl
      rw [sizeLine_eq]
      omega
    refine ⟨.ref s.heap.objs.size, _, I.laid (a := s.heap.objs.size) (o := .lst (txs (splitN cs c))) (t' := tk) (fun b o e => Heap.get?_push_of_some _ e) (Nat.le_refl _) ⟨by rw [e2, List.length_map]; exact hlen, strValues l, 0, ?_, Heap.get?_push_size _ rfl⟩, rfl, q _ I.fresh⟩
    rw [e2]
    exact vals_numbered
  cases h1 : (decide ((tx cs).length < (tx [c]).length) || decide (strKind (tx cs) < strKind (tx [c])))
  · cases hf : (occurrences (tx cs) (tx [c]) 0 (tx cs).length ((tx cs).length + 1)).isEmpty
    · have hn : (partsBetween (tx cs) (occurrences (tx cs) (tx [c]) 0 (tx cs).length ((tx cs).length + 1)) (tx [c]).length).length ≤ sizeLine := by
        have e : Txt.split (tx cs) (tx [c]) = partsBetween (tx cs) (occurrences (tx cs) (tx [c]) 0 (tx cs).length ((tx cs).length + 1)) (tx [c]).length := (if_neg (ne_true_of_eq_false h1)).trans (if_neg (ne_true_of_eq_false hf))
        rw [e] at hsl
        have hcl := tx_length cs
        rw [sizeLine_eq]
        omega
      refine call_meets F.slot_str_split (typeIs_str _ _ _) F.entry_str_split (F.args_str_split_2 _ _) (meets_str_split_sep (tx cs) (tx [c]) t t' h1 hy hf hx hn) ?_
      show wants (EP X pins σ Q) X.xe _ { s with toks := _, heap := s.heap.push { cls := .type "list", data := .seq (strsFrom s.toks (partsBetween (tx cs) (occurrences (tx cs) (tx [c]) 0 (tx cs).length ((tx cs).length + 1)) (tx [c]).length)).toArray } }
      rw [strsFrom_eq]
      exact fin (numbered s.toks _) _ ((numbered_texts _ _).trans ((if_neg (ne_true_of_eq_false h1)).trans (if_neg (ne_true_of_eq_false hf))).symm)
    · exact call_meets F.slot_str_split (typeIs_str _ _ _) F.entry_str_split (F.args_str_split_2 _ _) (meets_str_split_not_found (tx cs) (tx [c]) t t' h1 hy hf) (fin [(tx cs, t)] _ ((if_neg (ne_true_of_eq_false h1)).trans (if_pos hf)).symm)
  · exact call_meets F.slot_str_split (typeIs_str _ _ _) F.entry_str_split (F.args_str_split_2 _ _) (meets_str_split_cannot_occur (tx cs) (tx [c]) t t' h1) (fin [(tx cs, t)] _ (if_pos h1).symm)
/-- f'{a}SIGNS{b}' of two texts -/
def tF2 (ta tb : TE) (mid : Str) : TE := fun σ H Q => ta σ H fun x H1 => ∃ cs : List Nat, x = .str (tx cs) ∧ cs.length ≤ 100000 ∧ tb σ H1 fun y H2 => ∃ ds : List Nat, y = .str (tx ds) ∧ ds.length ≤ 100000 ∧ Q (.str (tx (cs ++ mid.cps.toList ++ ds))) H2
theorem pe_f2 {a b : Expr} {ta tb : TE} {mid : Str} {k : Nat} {p1 p2 p3 pos : Pos} (ha : PE X a ta) (hb : PE X b tb) (hm : mid.length ≤ 1000) : PE X (.JoinedStr [.FormattedValue a (-1) none p1, .Constant (.str mid) k p2, .FormattedValue b (-1) none p3] pos) (tF2 ta tb mid) := by
  intro pins s σ H Q I h
  have e0 : ∀ cs : List Nat, (Str.empty ++ tx cs : Str) = tx cs := fun cs => by
    have : (Str.empty : Str) = tx [] := rfl
    rw [this, tx_cat]
    rfl
  have hmt : mid = tx mid.cps.toList := (tx_eta mid).symm
  have hml : mid.cps.toList.length = mid.length := by show _ = mid.cps.size; simp
  refine JoinedStr_many (joinParts_cons (wpAny_FormattedValue_plain (thn (ha pins s σ H _ I h) fun v s1 ⟨x, H1, I1, r1, q1⟩ => ?_)))
  obtain ⟨cs, rfl, hcl, q1⟩ := q1
  obtain ⟨t, rfl⟩ := r1
  refine SB.field_str (fun t' k => ?_) (by rw [tx_length, sizeLine_eq]; omega)
  show (Str.empty ++ tx cs : Str).length ≤ sizeLine ∧ wpAny _ _ (joinParts (Str.empty ++ tx cs) _) _ _ _
  rw [e0]
  refine ⟨by rw [tx_length, sizeLine_eq]; omega, ?_⟩
  refine joinParts_cons (Calls.Constant_str ?_)
  have hc2 : (tx cs ++ mid : Str) = tx (cs ++ mid.cps.toList) := by
    conv => lhs; rw [hmt]
    exact tx_cat _ _
  show (tx cs ++ mid : Str).length ≤ sizeLine ∧ wpAny _ _ (joinParts (tx cs ++ mid) _) _ _ _
  rw [hc2]
  refine ⟨by rw [tx_length, List.length_append, sizeLine_eq]; omega, ?_⟩
  refine joinParts_cons (wpAny_FormattedValue_plain (thn (hb pins _ σ H1 _ (I1.tok _) q1) fun v s2 ⟨y, H2, I2, r2, q2⟩ => ?_))
  obtain ⟨ds, rfl, hdl, q2⟩ := q2
  obtain ⟨t2, rfl⟩ := r2
  refine SB.field_str (fun t' k => ?_) (by rw [tx_length, sizeLine_eq]; omega)
  show (tx (cs ++ mid.cps.toList) ++ tx ds : Str).length ≤ sizeLine ∧ wpAny _ _ (joinParts (tx (cs ++ mid.cps.toList) ++ tx ds) _) _ _ _
  rw [tx_cat]
  have hlen : (tx (cs ++ mid.cps.toList ++ ds)).length ≤ sizeLine := by rw [tx_length, List.length_append, List.length_append, sizeLine_eq]; omega
  refine ⟨hlen, joinParts_nil ?_ hlen⟩
  exact ⟨.str (tx (cs ++ mid.cps.toList ++ ds)), H2, I2.tok _, ⟨_, rfl⟩, q2⟩
end
/-! what a split gives -/
theorem split_two {a b : List Nat} {c : Nat} (ha : c ∉ a) (hb : c ∉ b) : splitN (a ++ [c] ++ b) c = [a, b] := by
  have hj := PySem.StrLaws.join_split (tx (a ++ [c] ++ b)) (tx [c])
  have hf := PySem.StrLaws.split_free (tx (a ++ [c] ++ b)) c
  have hl := split_len (tx (a ++ [c] ++ b)) c
  have hcnt : cnt c (tx (a ++ [c] ++ b)).cps.toList = 1 := by
    show cnt c (a ++ [c] ++ b).toArray.toList = 1
    simp only [List.toList_toArray]
    rw [cnt_append, cnt_append, cnt_none c a ha, cnt_none c b hb, cnt_cons, cnt_nil, if_pos rfl]
    rfl
  rw [hcnt] at hl
  unfold splitN
  have hsp : (Txt.split (tx (a ++ [c] ++ b)) (tx [c])) = Txt.split (tx (a ++ [c] ++ b)) ⟨#[c]⟩ := rfl
  rw [← hsp] at hf hl
  generalize Txt.split (tx (a ++ [c] ++ b)) (tx [c]) = l at *
  match l, hl with
  | [x, y], _ =>
    have hx := hf x (by simp)
    have hy := hf y (by simp)
    have e1 : x ++ tx [c] ++ y = tx (a ++ [c] ++ b) := hj
    have e2 : x.cps.toList ++ [c] ++ y.cps.toList = a ++ [c] ++ b := by
      have := congrArg (fun z : Str => z.cps.toList) e1
      rw [← tx_eta x, ← tx_eta y, tx_cat, tx_cat] at this
      simpa using this
    have gen : ∀ (p q r s : List Nat), c ∉ p → c ∉ r → p ++ c :: q = r ++ c :: s → p = r ∧ q = s := by
      intro p
      induction p with
      | nil =>
        intro q r s _ hr e
        cases r with
        | nil => exact ⟨rfl, by simpa using e⟩
        | cons z r => simp at e; exact absurd (by rw [e.1]; exact List.mem_cons_self) hr
      | cons w p ih =>
        intro q r s hp hr e
        cases r with
        | nil => simp at e; exact absurd (by rw [e.1]; exact List.mem_cons_self) hp
        | cons z r =>
          simp at e
          obtain ⟨e3, e4⟩ := ih q r s (fun m => hp (List.mem_cons_of_mem _ m)) (fun m => hr (List.mem_cons_of_mem _ m)) e.2
          exact ⟨by rw [e.1, e3], e4⟩
    obtain ⟨e3, e4⟩ := gen x.cps.toList y.cps.toList a b hx ha (by simpa using e2)
    show [x.cps.toList, y.cps.toList] = [a, b]
    rw [e3, e4]
  | [], hl => simp at hl
  | [_], hl => simp at hl
  | _ :: _ :: _ :: _, hl => simp at hl; omega
theorem split_part_len {cs p : List Nat} {c : Nat} (h : p ∈ splitN cs c) : p.length ≤ cs.length := by
  obtain ⟨x, hx, rfl⟩ := List.mem_map.mp h
  have := part_short hx
  have hcl := tx_length cs
  have e : x.cps.toList.length = x.length := by show _ = x.cps.size; simp
  omega
end L2

namespace L2
open PySem PySem.Spec PyProof.Rows PySem.NumText
/-- the figures of a whole number -/
def digs (n : Nat) : List Nat := (Nat.toDigits 10 n).map Char.toNat
theorem str_digs (n : Nat) : (toString ((n : Nat) : Int) : Str) = tx (digs n) := by
  have e := PySem.W.KIN.signs_num n
  unfold digs
  rw [← e, tx_eta]
theorem digs_val (n : Nat) : digitsVal (digs n) = n := PySem.W.KIN.val_back n
theorem digs_all (n : Nat) : AllDigits (digs n) := fun c hc => by
  obtain ⟨ch, hch, e⟩ := List.mem_map.mp hc
  have r := digit_range (Nat.isDigit_of_mem_toDigits (by decide) (by decide) hch)
  rw [← e]
  exact r
theorem digs_len {n k : Nat} (h : n < 10 ^ (k + 1)) : (digs n).length ≤ k + 1 := by unfold digs; rw [List.length_map]; exact toDigits_len k n h
theorem digs_split {n : Nat} (h : 10 ≤ n) : digs n = digs (n / 10) ++ digs (n % 10) := by
  have hm : n % 10 < 10 := Nat.mod_lt n (by decide)
  have t : Nat.toDigits 10 (n / 10) ++ Nat.toDigits 10 (n % 10) = Nat.toDigits 10 (10 * (n / 10) + n % 10) := Nat.toDigits_append_toDigits (by decide) (by omega) hm
  rw [Nat.div_add_mod] at t
  unfold digs
  rw [← t, List.map_append]
theorem digs_one {n : Nat} (h : n < 10) : digs n = [48 + n] := by
  unfold digs
  rw [Nat.toDigits_of_lt_base h, digitChar_of n h]
  show [(Char.ofNat (48 + n)).toNat] = [48 + n]
  have : ∀ n : Nat, n < 10 → (Char.ofNat (48 + n)).toNat = 48 + n := by decide
  rw [this n h]
theorem digs_ne (n : Nat) : digs n ≠ [] := by
  by_cases h : n < 10
  · rw [digs_one h]; simp
  · rw [digs_split (by omega), digs_one (Nat.mod_lt n (by decide))]; simp
theorem digs_head : ∀ (n : Nat), 0 < n → ∃ c r, digs n = c :: r ∧ 49 ≤ c := by
  intro n
  induction n using Nat.strongRecOn with
  | _ n ih =>
    intro h
    by_cases hb : n < 10
    · exact ⟨48 + n, [], digs_one hb, by omega⟩
    · obtain ⟨c, r, e, hc⟩ := ih (n / 10) (by omega) (by omega)
      exact ⟨c, r ++ digs (n % 10), by rw [digs_split (by omega), e]; rfl, hc⟩
theorem map_back {cs : List Nat} (h : AllDigits cs) : (cs.map Char.ofNat).map Char.toNat = cs := by
  rw [List.map_map]
  conv => rhs; rw [← List.map_id cs]
  refine List.map_congr_left fun c hc => ?_
  have := h c hc
  have hh : ∀ n : Nat, n < 10 → (Char.ofNat (48 + n)).toNat = 48 + n := by decide
  have e : c = 48 + (c - 48) := by omega
  show (Char.ofNat c).toNat = c
  rw [e]
  exact hh (c - 48) (by omega)
/-- a text of figures without a nought ahead is the figures of its number -/
theorem digs_back {cs : List Nat} (h : AllDigits cs) (hh : ∃ c r, cs = c :: r ∧ 49 ≤ c) : digs (digitsVal cs) = cs := by
  obtain ⟨c, r, e, hc⟩ := hh
  have := toDigits_digitsVal r.length cs (by rw [e]; rfl) h (Or.inr ⟨c, r, e, hc⟩)
  unfold digs
  rw [this]
  exact map_back h
theorem zeros_val : ∀ (k : Nat) (cs : List Nat), digitsVal (List.replicate k 48 ++ cs) = digitsVal cs
  | 0, _ => rfl
  | k + 1, cs => by rw [List.replicate_succ, List.cons_append, digitsVal_zero, zeros_val k cs]
theorem zf_len {cs : List Nat} {n : Nat} (h : cs.length ≤ n) : (zf cs n).length = n := by
  unfold zf
  rw [List.length_append, List.length_replicate]
  omega
theorem zf_all {cs : List Nat} {n : Nat} (h : AllDigits cs) : AllDigits (zf cs n) := fun c hc => by
  unfold zf at hc
  rcases List.mem_append.mp hc with z | z
  · rw [List.eq_of_mem_replicate z]; exact ⟨by decide, by decide⟩
  · exact h c z
/-- a group of figures behind the others -/
theorem digs_group {q r k : Nat} (hq : 0 < q) (hr : r < 10 ^ (k + 1)) : digs (q * 10 ^ (k + 1) + r) = digs q ++ zf (digs r) (k + 1) := by
  have hl : (zf (digs r) (k + 1)).length = k + 1 := zf_len (digs_len hr)
  have hv : digitsVal (digs q ++ zf (digs r) (k + 1)) = q * 10 ^ (k + 1) + r := by
    rw [digitsVal_append, digs_val, hl]
    congr 1
    unfold zf
    rw [zeros_val, digs_val]
  rw [← hv]
  refine digs_back (fun c hc => ?_) ?_
  · rcases List.mem_append.mp hc with z | z
    · exact digs_all q c z
    · exact zf_all (digs_all r) c z
  · obtain ⟨c, r', e, hc⟩ := digs_head q hq
    exact ⟨c, r' ++ zf (digs r) (k + 1), by rw [e]; rfl, hc⟩
structure spFigs (vs : List V) (H : Hp) (Q : VK) (E : XK) : Prop where
  ex : ∃ n : Nat, vs = [.int (n : Int)] ∧ n < 10 ^ 2000 ∧ ∀ H', Same H H' → Q (.str (tx (digs n))) H'
theorem use_figs {H : Hp} {Q : VK} {E : XK} {n : Nat} (hn : n < 10 ^ 2000) (h : ∀ H', Same H H' → Q (.str (tx (digs n))) H') : spFigs [.int (n : Int)] H Q E := ⟨n, rfl, hn, h⟩
structure spRatText (K : PySem.W.Frag) (vs : List V) (H : Hp) (Q : VK) (E : XK) : Prop where
  ex : ∃ (a : Addr) (t b : Nat), vs = [.ref a] ∧ H a = some (.tup [.int (t : Int), .int (b : Int)]) ∧ t < 10 ^ 2000 ∧ b < 10 ^ 2000 ∧ ∀ H', Same H H' → Q (.str (tx (digs t ++ [47] ++ digs b))) H'
theorem use_rattext {K : PySem.W.Frag} {H : Hp} {Q : VK} {E : XK} {a : Addr} {t b : Nat} (ha : H a = some (.tup [.int (t : Int), .int (b : Int)])) (ht : t < 10 ^ 2000) (hb : b < 10 ^ 2000) (h : ∀ H', Same H H' → Q (.str (tx (digs t ++ [47] ++ digs b))) H') : spRatText K [.ref a] H Q E := ⟨a, t, b, rfl, ha, ht, hb, h⟩
/-- the fraction that a text writes -/
def ratP (cs : List Nat) : Option (Nat × Nat) := match splitN cs 47 with
  | [p, q] => if (numOk p && numOk q && !decide (digitsVal q = 0) && decide ((Jm.fr (digitsVal p : Nat) (digitsVal q : Nat)).num = (digitsVal p : Nat) ∧ ((Jm.fr (digitsVal p : Nat) (digitsVal q : Nat)).den : Int) = (digitsVal q : Nat))) = true then some (digitsVal p, digitsVal q) else none
  | _ => none
def RV (H : Hp) (v : V) (o : Option (Nat × Nat)) : Prop := match o with
  | none => v = .non
  | some (t, b) => ∃ z, v = .ref z ∧ H z = some (.tup [.int (t : Int), .int (b : Int)])
structure spRatioOf (vs : List V) (H : Hp) (Q : VK) (E : XK) : Prop where
  ex : ∃ cs : List Nat, vs = [.str (tx cs)] ∧ cs.length ≤ 2000 ∧ ∀ H' v, Same H H' → RV H' v (ratP cs) → Q v H'
theorem use_ratioof {H : Hp} {Q : VK} {E : XK} {cs : List Nat} (hl : cs.length ≤ 2000) (h : ∀ H' v, Same H H' → RV H' v (ratP cs) → Q v H') : spRatioOf [.str (tx cs)] H Q E := ⟨cs, rfl, hl, h⟩
theorem ratP_some {cs : List Nat} {t b : Nat} (h : ratP cs = some (t, b)) : 0 < b ∧ (Jm.fr (t : Int) (b : Int)).num = (t : Int) ∧ ((Jm.fr (t : Int) (b : Int)).den : Int) = (b : Int) := by
  unfold ratP at h
  split at h
  · split at h
    · rename_i hc
      obtain ⟨h1, h2⟩ := Bool.and_eq_true_iff.mp hc
      obtain ⟨h1, h3⟩ := Bool.and_eq_true_iff.mp h1
      have h2' := of_decide_eq_true h2
      injection h with h
      injection h with e1 e2
      subst e1 e2
      exact ⟨by have := h3; simp at this; omega, h2'⟩
    · cases h
  · cases h
theorem ratP_len {cs : List Nat} {t b : Nat} (h : ratP cs = some (t, b)) (hl : cs.length ≤ 2000) : Jm.Sz 8000 (b : Int) := by
  unfold ratP at h
  split at h
  · rename_i p q he
    split at h
    · rename_i hc
      obtain ⟨h1, h2⟩ := Bool.and_eq_true_iff.mp hc
      obtain ⟨h1, h3⟩ := Bool.and_eq_true_iff.mp h1
      obtain ⟨h1, h4⟩ := Bool.and_eq_true_iff.mp h1
      injection h with h
      injection h with e1 e2
      subst e2
      have hq : q ∈ splitN cs 47 := by rw [he]; simp
      have hql := split_part_len hq
      have hqa : q.all (inS "0123456789") = true := by
        unfold numOk at h4
        exact (Bool.and_eq_true_iff.mp (Bool.and_eq_true_iff.mp h4).1).2
      exact (sz_digits (figs_digits hqa)).mono (by omega)
    · cases h
  · cases h
theorem numOk_digs (n : Nat) : numOk (digs n) = true := by
  unfold numOk
  have h1 : (digs n).all (inS "0123456789") = true := by
    rw [List.all_eq_true]
    intro c hc
    have := digs_all n c hc
    rw [inS_mem]
    have h3 : ("0123456789" : Str).cps.toList = [48, 49, 50, 51, 52, 53, 54, 55, 56, 57] := by decide +kernel
    rw [h3]
    exact decide_eq_true (by simp; omega)
  rw [h1, decide_eq_false (digs_ne n)]
  by_cases h0 : n = 0
  · subst h0; rfl
  · obtain ⟨c, r, e, hc⟩ := digs_head n (by omega)
    rw [e, decide_eq_false (show ¬ (c :: r).head? = some 48 from fun z => by have := Option.some.inj z; omega)]
    rfl
theorem ratP_digs {t b : Nat} (hb : 0 < b) (h : (Jm.fr (t : Int) (b : Int)).num = (t : Int) ∧ ((Jm.fr (t : Int) (b : Int)).den : Int) = (b : Int)) : ratP (digs t ++ [47] ++ digs b) = some (t, b) := by
  have n47 : ∀ n, 47 ∉ digs n := fun n m => by have := digs_all n 47 m; omega
  unfold ratP
  rw [split_two (n47 t) (n47 b)]
  show (if (numOk (digs t) && numOk (digs b) && !decide (digitsVal (digs b) = 0) && decide _) = true then some (digitsVal (digs t), digitsVal (digs b)) else none) = _
  simp only [digs_val, numOk_digs]
  rw [decide_eq_true h, decide_eq_false (show ¬ b = 0 by omega)]
  rfl
theorem eqv_pairs (a b c d : Int) : PyData.eqv (.tuple [.int a, .int b]) (.tuple [.int c, .int d]) = decide (a = c ∧ b = d) := by
  unfold PyData.eqv PyData.eqvAll PyData.eqvAll PyData.eqvAll PyData.eqv
  by_cases h1 : a = c
  · by_cases h2 : b = d
    · subst h1 h2; simp
    · rw [decide_eq_false (fun z => h2 z.2)]; simp [h2]
  · rw [decide_eq_false (fun z => h1 z.1)]; simp [h1]
theorem ratO_low {t b : Nat} (h : (Jm.fr (t : Int) (b : Int)).num = (t : Int) ∧ ((Jm.fr (t : Int) (b : Int)).den : Int) = (b : Int)) : (HO.tup [.int (t : Int), .int (b : Int)]) = ratO (Jm.fr (t : Int) (b : Int)) := by
  show HO.tup [.int (t : Int), .int (b : Int)] = HO.tup [.int (Jm.fr (t : Int) (b : Int)).num, .int ((Jm.fr (t : Int) (b : Int)).den : Int)]
  rw [h.1, h.2]
theorem fr_low (t b : Int) (hb : 0 < b) : (Jm.fr (Jm.fr t b).num ((Jm.fr t b).den : Int)).num = (Jm.fr t b).num ∧ ((Jm.fr (Jm.fr t b).num ((Jm.fr t b).den : Int)).den : Int) = ((Jm.fr t b).den : Int) := by
  rw [Jm.fr_self]
  exact ⟨rfl, rfl⟩
end L2
namespace L2
theorem flat64 : ∀ {gs : List (List Nat)}, (∀ x ∈ gs, x.length = 64) → gs.flatten.length = 64 * gs.length
  | [], _ => rfl
  | x :: r, h => by
    rw [List.flatten_cons, List.length_append, flat64 fun y hy => h y (List.mem_cons_of_mem _ hy), h x List.mem_cons_self, List.length_cons]
    omega
end L2

namespace Law
open PySem L2
def top (i : Nat) : Stmt := PySem.Challenge.pw_jettison_k14_fractions_written.main.body.getD i (.Pass ⟨0, 0, 0, 0⟩)
section
variable {P : Program} {w : World} {K : PySem.W.Frag} {mg : Str → Option Value} {base : Heap} {f : Addr} {fd : FuncData}
abbrev sd_common_factor : Stmt := top 1
abbrev N_common_factor : List Str := ["one", "other"]
abbrev P_common_factor : List Str := ["one", "other"]
theorem sc_common_factor : FnScope N_common_factor P_common_factor (defScope sd_common_factor) := ⟨rfl, rfl, rfl, by decide +kernel, rfl, by decide +kernel, by decide +kernel⟩

theorem ok_common_factor (F : At K mg "common_factor" sd_common_factor f fd) : Dn P w K mg base 1 "common_factor" P_common_factor spCf := by
  refine F.ok sc_common_factor (fun vs H Q E h => ?_) (fun cdv A outer s H vs Q E hr h => ?_) (fun _ _ _ _ _ _ us hl => match us, hl with | [_, _], _ => rfl)
  · obtain ⟨a, b, rfl, _⟩ := h
    rfl
  obtain ⟨a, b, rfl, ha, hb, q⟩ := h
  refine ⟨_, (pss_cons (ps_while PassesOwn.never (pt_cmpR op_gt (pv 1) pe_int (nomark _)) (pss_one (ps_par (i := 0) (j := 1) rfl sc_common_factor.nd rfl rfl (by decide) rfl rfl (pa_cons (pv 1) (pa_cons (pe_op op_mod (pv 0) (pv 1)) pa_nil)) (by rfl))))
    (pss_one (ps_ret (pv 0)))), ?_⟩
  refine ⟨fun m σ H' => ∃ x y : Int, m = y.toNat ∧ σ = [some (.int x), some (.int y)] ∧ H' = H ∧ 0 ≤ x ∧ 0 ≤ y ∧ Jm.cf x y = Jm.cf a b, ⟨_, a, b, rfl, rfl, rfl, ha, hb, rfl⟩, ?_⟩
  rintro m σ H' ⟨x, y, rfl, rfl, rfl, hx, hy, e⟩
  refine ⟨_, rfl, _, _, rfl, rfl, _, rfl, ?_⟩
  refine ite2 (fun c => ?_) (fun c => ?_)
  · have c' : 0 < y := of_decide_eq_true c
    refine ⟨_, fun _ _ z => z, ?_⟩
    refine ⟨_, rfl, _, rfl, _, rfl, _, _, rfl, rfl, c', _, _, rfl, ?_⟩
    have h1 : 0 ≤ x % y := Int.emod_nonneg _ (by omega)
    have h2 : x % y < y := Int.emod_lt_of_pos _ c'
    exact ⟨_, (by omega : (x % y).toNat < y.toNat), y, x % y, rfl, rfl, rfl, hy, h1, (Jm.cf_step x y c').trans e⟩
  · have c' : ¬ 0 < y := of_decide_eq_false (Bool.eq_false_iff.mpr c)
    have ey : y = 0 := by omega
    subst ey
    rw [Jm.cf_zero x hx] at e
    refine ⟨_, rfl, ?_⟩
    rw [e]
    exact q
abbrev sd_lowest : Stmt := top 2
abbrev N_lowest : List Str := ["top", "bottom", "factor"]
abbrev P_lowest : List Str := ["top", "bottom"]
theorem sc_lowest : FnScope N_lowest P_lowest (defScope sd_lowest) := ⟨rfl, rfl, rfl, by decide +kernel, rfl, by decide +kernel, by decide +kernel⟩

theorem ok_lowest (F : At K mg "lowest" sd_lowest f fd) (D_common_factor : Dn P w K mg base 1 "common_factor" ["one", "other"] spCf) (m_abs : mg "abs" = none) : Dn P w K mg base 2 "lowest" P_lowest spLow := by
  refine F.ok sc_lowest (fun vs H Q E h => ?_) (fun cdv A outer s H vs Q E hr h => ?_) (fun _ _ _ _ _ _ us hl => match us, hl with | [_, _], _ => rfl)
  · obtain ⟨a, b, rfl, _⟩ := h
    rfl
  obtain ⟨t, b, rfl, hb, hb2, q⟩ := h
  refine ⟨_, (pss_cons (ps_set (i := 2) sc_lowest.nd rfl (Or.inl rfl) (pe_fn D_common_factor hr (pa_cons (pv 1) (pa_cons (pe_callB call_abs (by rfl) m_abs PyProof.Rows.boot_abs (pa_cons (pv 0) pa_nil)) pa_nil))))
    (pss_one (ps_ret (pe_tup (pa_cons (pe_op op_fdivW (pv 0) (pv 2)) (pa_cons (pe_op op_fdivW (pv 1) (pv 2)) pa_nil)))))), ?_⟩
  refine ⟨_, rfl, _, rfl, _, rfl, b, _, rfl, Int.le_of_lt hb, (by show 0 ≤ (if t < 0 then -t else t); split <;> omega), ?_⟩
  rw [Jm.cf_abs b t]
  have g0 : 0 < Jm.cf b t := Jm.cf_pos _ _ (.inl hb)
  have g1 : Jm.Sz 9000 (Jm.cf b t) := hb2.dvd hb (Int.le_of_lt g0) (Jm.dvd_cf_left b t)
  have gd : ∀ i, CDivW i (Jm.cf b t) := fun i => cdivW_sz g0 g1
  refine ⟨_, rfl, _, rfl, _, _, rfl, rfl, gd _, _, rfl, _, rfl, _, _, rfl, rfl, gd _, (by show 2 ≤ sizeLine; decide), fun p hp => ?_⟩
  refine q p _ (same_new hp _) ?_
  rw [upd_same]
  show some (HO.tup [V.int (t / Jm.cf b t), V.int (b / Jm.cf b t)]) = some (HO.tup [V.int (Jm.fr t b).num, V.int ((Jm.fr t b).den : Int)])
  rw [Jm.fr_num t b hb, Jm.fr_den t b hb]
abbrev sd_made_of : Stmt := top 10
abbrev N_made_of : List Str := ["text", "signs"]
abbrev P_made_of : List Str := ["text", "signs"]
theorem sc_made_of : FnScope N_made_of P_made_of (defScope sd_made_of) := ⟨rfl, rfl, rfl, by decide +kernel, rfl, by decide +kernel, by decide +kernel⟩

theorem ok_made_of (F : At K mg "made_of" sd_made_of f fd) (m_all : mg "all" = none) : Dn P w K mg base 1 "made_of" P_made_of spMadeOf := by
  refine F.ok sc_made_of (fun vs H Q E h => ?_) (fun cdv A outer s H vs Q E hr h => ?_) (fun _ _ _ _ _ _ us hl => match us, hl with | [_, _], _ => rfl)
  · obtain ⟨cs, signs, rfl, _⟩ := h.ex
    rfl
  obtain ⟨cs, signs, rfl, hl, q⟩ := h.ex
  refine ⟨_, (pss_one (ps_ret (pe_callB (call_allK K rfl) (by rfl) m_all PyProof.Rows.boot_all (pa_cons (pe_comp ["sign", "signs"] [none, some 1] rfl (pi_str (pv 0)) (fun _ _ _ _ => (pg_name (i := 0) (show List.Nodup (["sign", "signs"] : List Str) from by decide +kernel) rfl (Or.inl rfl))) (fun _ _ _ _ => (pe_cmpR op_in_str (pv 0) (pv 1) (by with_unfolding_all rfl))) rfl (by rfl)) pa_nil)))), ?_⟩
  refine ⟨_, rfl, cs, rfl, fun acc hacc => ?_⟩
  refine comp_str (fun i out H1 => Same H H1 ∧ out = ((cs.take i).map (inS signs)).map V.bl) hl ⟨same_new hacc _, rfl⟩ ?_ ?_
  · rintro i c out H1 hx hol ha ⟨g, e⟩
    refine ⟨_, rfl, _, rfl, _, _, rfl, rfl, ha, g.upd_new hacc _, ?_⟩
    rw [e, List.take_add_one, hx, List.map_append, List.map_append]
    rfl
  rintro out H1 hol ha ⟨g, e⟩
  rw [List.take_length] at e
  refine ⟨acc, cs.map (inS signs), rfl, SqL.of (by rw [ha, e]), ?_⟩
  have e2 : (cs.map (inS signs)).all id = cs.all (inS signs) := by rw [List.all_map]; rfl
  rw [e2]
  exact q H1 g
abbrev sd_value_of : Stmt := top 11
abbrev N_value_of : List Str := ["figures", "head", "value", "at"]
abbrev P_value_of : List Str := ["figures"]
theorem sc_value_of : FnScope N_value_of P_value_of (defScope sd_value_of) := ⟨rfl, rfl, rfl, by decide +kernel, rfl, by decide +kernel, by decide +kernel⟩

theorem ok_value_of {tkW tkG : Tok} (F : At K mg "value_of" sd_value_of f fd) (z_dig : digOk K = true) (m_len : mg "len" = none) (m_int : mg "int" = none) (m_range : mg "range" = none) (m_WIDTH : mg "WIDTH" = some (.int 64 tkW)) (m_GROUP : mg "GROUP" = some (.int (10 ^ 64) tkG)) : Dn P w K mg base 1 "value_of" P_value_of spValue := by
  refine F.ok sc_value_of (fun vs H Q E h => ?_) (fun cdv A outer s H vs Q E hr h => ?_) (fun _ _ _ _ _ _ us hl => match us, hl with | [_], _ => rfl)
  · obtain ⟨cs, rfl, _⟩ := h.ex
    rfl
  obtain ⟨cs, rfl, hl, hd, q⟩ := h.ex
  refine ⟨_, (pss_cons (ps_set (i := 1) sc_value_of.nd rfl (Or.inl rfl) (pe_op op_mod (pe_callB call_len_str (by rfl) m_len PySem.boot_len (pa_cons (pv 0) pa_nil)) (pe_glob (v := .int 64) (by rfl) m_WIDTH ⟨_, rfl⟩)))
    (pss_cons (ps_set (i := 2) sc_value_of.nd rfl (Or.inl rfl) (pe_callTy (call_int_text rfl z_dig) (by rfl) m_int PyProof.Rows.boot_int (pa_cons (pe_op op_add_str pe_str (pe_slice sl_str (pv 0) po_none (po_some (pv 1)))) pa_nil)))
    (pss_cons (ps_for PassesOwn.never rfl (pi_range3 (by rfl) m_range (pa_cons (pv 1) (pa_cons (pe_callB call_len_str (by rfl) m_len PySem.boot_len (pa_cons (pv 0) pa_nil)) (pa_cons (pe_glob (v := .int 64) (by rfl) m_WIDTH ⟨_, rfl⟩) pa_nil)))) (pg_name (i := 3) sc_value_of.nd rfl (Or.inl rfl)) (pss_one (ps_set (i := 2) sc_value_of.nd rfl (Or.inl rfl) (pe_op op_add (pe_op op_mulW (pv 2) (pe_glob (v := .int (10 ^ 64)) (by rfl) m_GROUP ⟨_, rfl⟩)) (pe_callTy (call_int_text rfl z_dig) (by rfl) m_int PyProof.Rows.boot_int (pa_cons (pe_slice sl_str (pv 0) (po_some (pv 3)) (po_some (pe_op op_add (pv 3) (pe_glob (v := .int 64) (by rfl) m_WIDTH ⟨_, rfl⟩)))) pa_nil))))))
    (pss_one (ps_ret (pv 2)))))), ?_⟩
  have hz : (tx cs).length ≤ sizeLine := by rw [tx_length, sizeLine_eq]; omega
  have hzc : cs.length ≤ sizeLine := by rw [sizeLine_eq]; omega
  have hm0 : 0 ≤ ((cs.length : Nat) : Int) % 64 := Int.emod_nonneg _ (by decide)
  refine ⟨_, rfl, _, rfl, hz, _, _, rfl, rfl, (by show (0 : Int) < 64; decide), ?_⟩
  rw [tx_length]
  obtain ⟨hd', ehd⟩ : ∃ k : Nat, ((cs.length : Nat) : Int) % 64 = (k : Int) := ⟨cs.length % 64, by omega⟩
  have hdl : hd' ≤ cs.length := by omega
  show gName 1 (.int (((cs.length : Nat) : Int) % 64)) _ _ _
  rw [ehd]
  have hk64 : (cs.length - hd') = 64 * (cs.length / 64) := by omega
  refine ⟨_, rfl, _, rfl, (hd' : Int), rfl, cs, rfl, hzc, ?_⟩
  rw [cutN_to]
  refine ⟨_, _, rfl, rfl, (by show 1 + (tx (cs.take hd')).length ≤ sizeLine; rw [tx_length, List.length_take, sizeLine_eq]; omega), ?_⟩
  have e0 : (("0" : Str) ++ tx (cs.take hd') : Str) = tx (48 :: cs.take hd') := by rw [show ("0" : Str) = tx [48] from rfl, tx_cat]; rfl
  rw [e0]
  have hdt : ∀ n, NumText.AllDigits (cs.take n) := fun n x hx => hd x (List.mem_of_mem_take hx)
  refine ⟨48 :: cs.take hd', rfl, fun x hx => ?_, by simp, ?_, ?_⟩
  · rcases List.mem_cons.mp hx with z | z
    · subst z; exact ⟨by decide, by decide⟩
    · exact hdt _ x z
  · rw [List.length_cons, List.length_take]; omega
  rw [NumText.digitsVal_zero]
  refine ⟨_, rfl, _, rfl, _, rfl, hz, ?_⟩
  refine ⟨(hd' : Int), (((tx cs).length : Nat) : Int), 64, rfl, ⟨by omega, by omega, by omega, by rw [tx_length]; omega, by decide, by decide⟩, ?_⟩
  have est : stepsTo (hd' : Int) (((tx cs).length : Nat) : Int) 64 = cs.length / 64 := by
    rw [tx_length]
    unfold stepsTo Builtin.Range.rangeSize
    rw [if_pos (by decide)]
    split <;> omega
  rw [est]
  refine for_rangeS (lo := (hd' : Int)) (st := 64) (n := cs.length / 64) (fun i σ H' => H' = H ∧ ∃ (s1 : Option V), σ = [some (.str (tx cs)), some (.int (hd' : Int)), some (.int ((NumText.digitsVal (cs.take (hd' + 64 * i)) : Nat) : Int)), s1]) ⟨rfl, none, rfl⟩ ?_ ?_
  · rintro i σ H' hi ⟨rfl, s1, rfl⟩
    have ea : (hd' : Int) + (i : Int) * 64 = ((hd' + 64 * i : Nat) : Int) := by omega
    rw [ea]
    have hle : hd' + 64 * i + 64 ≤ cs.length := by omega
    have hsz := sz_digits (hdt (hd' + 64 * i))
    refine ⟨_, rfl, _, _, rfl, rfl, cmul_sz hsz (sz_lit (n := 213) (by decide +kernel)) (by rw [List.length_take]; omega), ?_⟩
    refine ⟨_, rfl, _, rfl, ((hd' + 64 * i : Nat) : Int), rfl, _, rfl, _, _, rfl, rfl, ((hd' + 64 * i : Nat) : Int) + 64, rfl, cs, rfl, hzc, ?_⟩
    rw [show (((hd' + 64 * i : Nat) : Int) + 64) = ((hd' + 64 * i + 64 : Nat) : Int) from by omega, cutN_mid (by omega) hle]
    rw [show hd' + 64 * i + 64 - (hd' + 64 * i) = 64 from by omega]
    have hne : (cs.drop (hd' + 64 * i)).take 64 ≠ [] := fun e => by
      have := congrArg List.length e
      rw [List.length_take, List.length_drop] at this
      simp at this
      omega
    refine ⟨(cs.drop (hd' + 64 * i)).take 64, rfl, fun x hx => hd x (List.mem_of_mem_drop (List.mem_of_mem_take hx)), hne, by rw [List.length_take]; omega, ?_⟩
    refine ⟨_, _, rfl, rfl, rfl, some (.int ((hd' + 64 * i : Nat) : Int)), ?_⟩
    have e64 : (10 ^ 64 : Int) = ((10 ^ 64 : Nat) : Int) := by decide +kernel
    have ev : ((NumText.digitsVal (cs.take (hd' + 64 * i)) : Nat) : Int) * (10 ^ 64 : Int) + ((NumText.digitsVal ((cs.drop (hd' + 64 * i)).take 64) : Nat) : Int) = ((NumText.digitsVal (cs.take (hd' + 64 * (i + 1))) : Nat) : Int) := by
      have et : cs.take (hd' + 64 * i + 64) = cs.take (hd' + 64 * i) ++ (cs.drop (hd' + 64 * i)).take 64 := List.take_add ..
      rw [show hd' + 64 * (i + 1) = hd' + 64 * i + 64 from by omega, et, digitsVal_append, List.length_take, List.length_drop, Nat.min_eq_left (by omega), e64, Int.natCast_add, Int.natCast_mul]
    rw [← ev]
    rfl
  rintro σ H' ⟨rfl, s1, rfl⟩
  refine ⟨_, rfl, ?_⟩
  rw [show hd' + 64 * (cs.length / 64) = cs.length from by omega, List.take_length]
  exact q
abbrev sd_number : Stmt := top 7
abbrev N_number : List Str := ["text"]
abbrev P_number : List Str := ["text"]
theorem sc_number : FnScope N_number P_number (defScope sd_number) := ⟨rfl, rfl, rfl, by decide +kernel, rfl, by decide +kernel, by decide +kernel⟩

theorem ok_number {tkF : Tok} (F : At K mg "number" sd_number f fd) (D_made_of : Dn P w K mg base 1 "made_of" ["text", "signs"] spMadeOf) (D_value_of : Dn P w K mg base 1 "value_of" ["figures"] spValue) (m_len : mg "len" = none) (m_FIGURES : mg "FIGURES" = some (.str "0123456789" tkF)) : Dn P w K mg base 2 "number" P_number spNumber := by
  refine F.ok sc_number (fun vs H Q E h => ?_) (fun cdv A outer s H vs Q E hr h => ?_) (fun _ _ _ _ _ _ us hl => match us, hl with | [_], _ => rfl)
  · obtain ⟨cs, rfl, _⟩ := h.ex
    rfl
  obtain ⟨cs, rfl, hl, q⟩ := h.ex
  refine ⟨_, (pss_cons (ps_if (PW.pt (pw_or (pt_cmpR op_eq (pv 0) pe_str (nomark _)) (pw_or1 (pt_not (pt_val (pe_fn D_made_of hr (pa_cons (pv 0) (pa_cons (pe_glob (v := .str "0123456789") (by rfl) m_FIGURES ⟨_, rfl⟩) pa_nil)))))))) (pss_one (ps_ret pe_non)) pss_nil)
    (pss_cons (ps_if (pt_pure (PW.pt (pw_and (pt_cmpR op_eq (pe_ix ix_str (pv 0) pe_int (fun _ _ => rfl)) pe_str (nomark _)) (pw_and1 (pt_cmpR op_gt (pe_callB call_len_str (by rfl) m_len PySem.boot_len (pa_cons (pv 0) pa_nil)) pe_int (nomark _)))))) (pss_one (ps_ret pe_non)) pss_nil)
    (pss_one (ps_ret (pe_fn D_value_of hr (pa_cons (pv 0) pa_nil)))))), ?_⟩
  have hz : (tx cs).length ≤ sizeLine := by rw [tx_length, sizeLine_eq]; omega
  refine ⟨_, rfl, rfl, _, rfl, ?_⟩
  rw [str_eq_nil]
  by_cases h0 : cs = []
  · rw [decide_eq_true h0]
    refine iteT (iteT ?_)
    have := q H (Same.refl _)
    rw [show numV cs = .non from by rw [h0]; rfl] at this
    exact this
  rw [decide_eq_false h0]
  refine iteF ⟨_, rfl, use_madeof (by omega) fun H1 g1 => ⟨_, rfl, ?_⟩⟩
  by_cases h1 : cs.all (inS "0123456789") = true
  · rw [h1]
    refine iteF ?_
    have hd := figs_digits h1
    obtain ⟨c, r, rfl⟩ : ∃ c r, cs = c :: r := by
      cases cs with
      | nil => exact absurd rfl h0
      | cons c r => exact ⟨c, r, rfl⟩
    refine ⟨decide (c = 48) && decide ((1 : Int) < ((c :: r).length : Int)), ?_, ?_⟩
    · refine ⟨_, rfl, _, ((0 : Nat) : Int), c, rfl, rfl, hz, atI_nat (by simp), rfl, _, rfl, ?_⟩
      show if decide (V.str (tx [c]) = V.str "0") = true then _ else _
      rw [str_eq_zero]
      by_cases hc : c = 48
      · rw [decide_eq_true hc]
        refine iteT ⟨_, rfl, _, rfl, hz, _, _, rfl, rfl, _, rfl, ?_, rfl⟩
        rw [tx_length, Bool.true_and]
      · rw [decide_eq_false hc]
        exact iteF ⟨rfl, rfl⟩
    · by_cases hb : (decide (c = 48) && decide ((1 : Int) < ((c :: r).length : Int))) = true
      · rw [hb]
        refine iteT ?_
        have hn : numV (c :: r) = .non := by
          unfold numV numOk
          obtain ⟨b1, b2⟩ := Bool.and_eq_true_iff.mp hb
          have b1' : c = 48 := of_decide_eq_true b1
          have b2' : (1 : Int) < ((c :: r).length : Int) := of_decide_eq_true b2
          rw [decide_eq_true (show (c :: r).head? = some 48 from by rw [b1']; rfl), decide_eq_true (show 1 < (c :: r).length from by omega)]
          simp
        have := q H1 g1
        rw [hn] at this
        exact this
      · have hb' := Bool.eq_false_iff.mpr hb
        rw [hb']
        refine iteF ⟨_, rfl, use_value hl hd ?_⟩
        have hn : numV (c :: r) = .int ((NumText.digitsVal (c :: r) : Nat) : Int) := by
          unfold numV numOk
          have e2 : (decide ((c :: r).head? = some 48) && decide (1 < (c :: r).length)) = false := by
            rw [← hb']
            congr 1
            · exact decide_eq_decide.mpr ⟨fun e => Option.some.inj e, fun e => congrArg some e⟩
            · exact decide_eq_decide.mpr ⟨fun e => by omega, fun e => by omega⟩
          rw [e2, h1, decide_eq_false h0]
          rfl
        have := q H1 g1
        rw [hn] at this
        exact this
  · have h1' := Bool.eq_false_iff.mpr h1
    rw [h1']
    refine iteT ?_
    have hn : numV cs = .non := by unfold numV numOk; rw [h1', Bool.and_false, Bool.false_and]; rfl
    have := q H1 g1
    rw [hn] at this
    exact this
abbrev sd_figures_of : Stmt := top 12
abbrev N_figures_of : List Str := ["value", "groups", "low"]
abbrev P_figures_of : List Str := ["value"]
theorem sc_figures_of : FnScope N_figures_of P_figures_of (defScope sd_figures_of) := ⟨rfl, rfl, rfl, by decide +kernel, rfl, by decide +kernel, by decide +kernel⟩

theorem ok_figures_of {tkW tkG : Tok} (F : At K mg "figures_of" sd_figures_of f fd) (z_dig : digOk K = true) (m_str : mg "str" = none) (m_divmod : mg "divmod" = none) (m_WIDTH : mg "WIDTH" = some (.int 64 tkW)) (m_GROUP : mg "GROUP" = some (.int (10 ^ 64) tkG)) : Dn P w K mg base 1 "figures_of" P_figures_of spFigs := by
  refine F.ok sc_figures_of (fun vs H Q E h => ?_) (fun cdv A outer s H vs Q E hr h => ?_) (fun _ _ _ _ _ _ us hl => match us, hl with | [_], _ => rfl)
  · obtain ⟨n, rfl, _⟩ := h.ex
    rfl
  obtain ⟨n, rfl, hn, q⟩ := h.ex
  refine ⟨_, (pss_cons (ps_set (i := 1) sc_figures_of.nd rfl (Or.inl rfl) (pe_lst pa_nil))
    (pss_cons (ps_while PassesOwn.never (pt_cmpR op_ge (pv 0) (pe_glob (v := .int (10 ^ 64)) (by rfl) m_GROUP ⟨_, rfl⟩) (nomark _)) (pss_cons (ps_asg (pe_callB call_divmodW (by rfl) m_divmod PyProof.Rows.boot_divmod (pa_cons (pv 0) (pa_cons (pe_glob (v := .int (10 ^ 64)) (by rfl) m_GROUP ⟨_, rfl⟩) pa_nil))) (pg_tupK K (n := 2) rfl (pgs_cons (pg_name (i := 0) sc_figures_of.nd rfl (Or.inl rfl)) (pgs_cons (pg_name (i := 2) sc_figures_of.nd rfl (Or.inl rfl)) pgs_nil))))
    (pss_one (ps_expr (pe_bm PySem.F.plainAttrs_list PySem.F.slot_list_append PySem.F.type_list_append mt_append (pv 1) (pa_cons (pe_bm PySem.F.plainAttrs_str PySem.F.slot_str_zfill PySem.F.type_str_zfill mt_zfill (pe_callTy (call_str_big rfl z_dig) (by rfl) m_str PyProof.Rows.boot_str (pa_cons (pv 2) pa_nil)) (pa_cons (pe_glob (v := .int 64) (by rfl) m_WIDTH ⟨_, rfl⟩) pa_nil)) pa_nil))))))
    (pss_cons (ps_expr (pe_bm PySem.F.plainAttrs_list PySem.F.slot_list_append PySem.F.type_list_append mt_append (pv 1) (pa_cons (pe_callTy (call_str_big rfl z_dig) (by rfl) m_str PyProof.Rows.boot_str (pa_cons (pv 0) pa_nil)) pa_nil)))
    (pss_one (ps_ret (pe_bm PySem.F.plainAttrs_str PySem.F.slot_str_join PySem.F.type_str_join mt_join0 pe_str (pa_cons (pe_rev K (pv 1) (pe_un un_neg pe_int)) pa_nil))))))), ?_⟩
  have e64 : (10 ^ 64 : Int) = ((10 ^ 64 : Nat) : Int) := by decide +kernel
  have hbig : ∀ v : Nat, v ≤ n → ((v : Nat) : Int).natAbs < 10 ^ 4300 := fun v hv => by
    rw [Int.natAbs_natCast]
    exact Nat.lt_of_le_of_lt hv (Nat.lt_of_lt_of_le hn (Nat.pow_le_pow_right (by decide) (by decide)))
  refine ⟨(by show 0 ≤ sizeLine; decide), fun pg hpg => ?_⟩
  have g0 := same_new hpg (.lst [])
  refine ⟨fun m σ H' => Same H H' ∧ ∃ (v : Nat) (gs : List (List Nat)) (s1 : Option V), m = v ∧ v ≤ n ∧ σ = [some (.int (v : Int)), some (.ref pg), s1] ∧ H' pg = some (.lst (txs gs)) ∧ digs n = digs v ++ gs.reverse.flatten ∧ (∀ x ∈ gs, x.length = 64),
    ⟨_, g0, n, [], none, rfl, Nat.le_refl _, rfl, upd_same, by simp, fun _ m => nomatch m⟩, ?_⟩
  have hdl : (digs n).length ≤ 2000 := digs_len (k := 1999) hn
  rintro m σ H' ⟨g, v, gs, s1, rfl, hv, rfl, hg, hd, hgl⟩
  have hgs : 64 * gs.length ≤ 2000 := by
    have h1 := congrArg List.length hd
    rw [List.length_append, flat64 (gs := gs.reverse) (fun x hx => hgl x (List.mem_reverse.mp hx)), List.length_reverse] at h1
    omega
  have hgn : (txs gs).length = gs.length := by unfold txs; rw [List.length_map]
  refine ⟨_, rfl, _, _, rfl, rfl, _, rfl, ite2 (fun c => ?_) (fun c => ?_)⟩
  · have c' : (10 ^ 64 : Int) ≤ (m : Int) := of_decide_eq_true c
    have hm : 10 ^ 64 ≤ m := by rw [e64] at c'; exact Int.ofNat_le.mp c'
    have hq0 : 0 < m / 10 ^ 64 := Nat.div_pos hm (Nat.pow_pos (by decide))
    have hr0 : m % 10 ^ 64 < 10 ^ 64 := Nat.mod_lt _ (Nat.pow_pos (by decide))
    have hlt : m / 10 ^ 64 < m := Nat.div_lt_self (Nat.lt_of_lt_of_le (Nat.pow_pos (by decide)) hm) (by decide +kernel)
    have ediv : (m : Int) / (10 ^ 64 : Int) = ((m / 10 ^ 64 : Nat) : Int) := by rw [e64]; exact (Int.natCast_ediv m (10 ^ 64)).symm
    have emod : (m : Int) % (10 ^ 64 : Int) = ((m % 10 ^ 64 : Nat) : Int) := by rw [e64]; exact (Int.natCast_emod m (10 ^ 64)).symm
    refine ⟨_, fun _ _ z => z, ?_⟩
    refine ⟨_, rfl, _, _, rfl, cdivW_sz (by decide +kernel) (sz_lit (by decide +kernel)), fun p hp => ?_⟩
    rw [ediv, emod]
    have g1 := same_new hp (.tup [.int ((m / 10 ^ 64 : Nat) : Int), .int ((m % 10 ^ 64 : Nat) : Int)])
    have hp1 : upd H' p (.tup [.int ((m / 10 ^ 64 : Nat) : Int), .int ((m % 10 ^ 64 : Nat) : Int)]) p = some (.tup [.int ((m / 10 ^ 64 : Nat) : Int), .int ((m % 10 ^ 64 : Nat) : Int)]) := upd_same
    generalize upd H' p (.tup [.int ((m / 10 ^ 64 : Nat) : Int), .int ((m % 10 ^ 64 : Nat) : Int)]) = H1 at *
    have hg1 := g1 _ _ hg
    refine ⟨p, _, rfl, SqT.of hp1, rfl, _, _, rfl, _, _, rfl, rfl, ?_⟩
    refine ⟨_, rfl, .inl ⟨rfl, _, SqL.of hg1⟩, ?_⟩
    refine ⟨_, rfl, ((m % 10 ^ 64 : Nat) : Int), rfl, hbig _ (by omega), ?_⟩
    have hdr : (digs (m % 10 ^ 64)).length ≤ 64 := digs_len (k := 63) hr0
    refine ⟨rfl, digs (m % 10 ^ 64), 64, congrArg V.str (str_digs _), rfl, by decide, by omega, digs_all _, ?_⟩
    have hgrp : digs m = digs (m / 10 ^ 64) ++ zf (digs (m % 10 ^ 64)) 64 := by
      have := digs_group (q := m / 10 ^ 64) (r := m % 10 ^ 64) (k := 63) hq0 hr0
      rw [show m / 10 ^ 64 * 10 ^ (63 + 1) + m % 10 ^ 64 = m from by rw [Nat.mul_comm]; exact Nat.div_add_mod m (10 ^ 64)] at this
      exact this
    refine ⟨pg, txs gs, _, rfl, rfl, hg1, small1000 (by omega), ?_⟩
    refine ⟨m / 10 ^ 64, hlt, (g.trans g1).upd_new hpg _, m / 10 ^ 64, gs ++ [zf (digs (m % 10 ^ 64)) 64], _, rfl, by omega, rfl, ?_, ?_, fun x hx => ?_⟩
    · rw [upd_same]
      unfold txs
      rw [List.map_append]
      rfl
    · rw [hd, hgrp, List.reverse_append]
      simp
    · rcases List.mem_append.mp hx with z | z
      · exact hgl x z
      · rw [List.mem_singleton.mp z]
        exact zf_len hdr
  · refine ⟨_, rfl, .inl ⟨rfl, _, SqL.of hg⟩, _, rfl, (m : Int), rfl, hbig _ hv, ?_⟩
    refine ⟨pg, txs gs, _, rfl, rfl, hg, small1000 (by omega), ?_⟩
    have e1 : txs gs ++ [V.str (toString ((m : Nat) : Int))] = txs (gs ++ [digs m]) := by
      rw [str_digs]
      unfold txs
      rw [List.map_append]
      rfl
    rw [e1]
    have g1 : Same H (upd H' pg (.lst (txs (gs ++ [digs m])))) := g.upd_new hpg _
    have hg1 : upd H' pg (.lst (txs (gs ++ [digs m]))) pg = some (.lst (txs (gs ++ [digs m]))) := upd_same
    generalize upd H' pg (.lst (txs (gs ++ [digs m]))) = H1 at *
    refine ⟨rfl, _, rfl, _, rfl, rfl, pg, _, rfl, SqL.of hg1, fun p2 hp2 => ?_⟩
    have g2 := same_new hp2 (.lst (txs (gs ++ [digs m])).reverse)
    have er : (txs (gs ++ [digs m])).reverse = txs (gs ++ [digs m]).reverse := by unfold txs; rw [List.map_reverse]
    have ef : (gs ++ [digs m]).reverse.flatten = digs n := by rw [hd, List.reverse_append]; simp
    refine ⟨p2, (gs ++ [digs m]).reverse, rfl, rfl, SqL.of (by rw [upd_same, er]), by rw [ef]; omega, ?_⟩
    rw [ef]
    exact q _ (g1.trans g2)
abbrev sd_ratio_text : Stmt := top 8
abbrev N_ratio_text : List Str := ["a"]
abbrev P_ratio_text : List Str := ["a"]
theorem sc_ratio_text : FnScope N_ratio_text P_ratio_text (defScope sd_ratio_text) := ⟨rfl, rfl, rfl, by decide +kernel, rfl, by decide +kernel, by decide +kernel⟩

theorem ok_ratio_text (F : At K mg "ratio_text" sd_ratio_text f fd) (D_figures_of : Dn P w K mg base 1 "figures_of" ["value"] spFigs) : Dn P w K mg base 2 "ratio_text" P_ratio_text (spRatText K) := by
  refine F.ok sc_ratio_text (fun vs H Q E h => ?_) (fun cdv A outer s H vs Q E hr h => ?_) (fun _ _ _ _ _ _ us hl => match us, hl with | [_], _ => rfl)
  · obtain ⟨a, t, b, rfl, _⟩ := h.ex
    rfl
  obtain ⟨a, t, b, rfl, ha, ht, hb, q⟩ := h.ex
  refine ⟨_, (pss_one (ps_ret (pe_f2 (pe_fn D_figures_of hr (pa_cons (pe_ix (ix_tupK K) (pv 0) pe_int (fun _ _ => rfl)) pa_nil)) (pe_fn D_figures_of hr (pa_cons (pe_ix (ix_tupK K) (pv 0) pe_int (fun _ _ => rfl)) pa_nil)) (by decide +kernel)))), ?_⟩
  have h1 : (digs t).length ≤ 2000 := digs_len (k := 1999) ht
  have h2 : (digs b).length ≤ 2000 := digs_len (k := 1999) hb
  refine ⟨_, rfl, a, _, ((0 : Nat) : Int), _, rfl, rfl, SqT.of ha, rfl, use_figs ht fun H1 g1 => ⟨digs t, rfl, by omega, ?_⟩⟩
  refine ⟨_, rfl, a, _, ((1 : Nat) : Int), _, rfl, rfl, SqT.of (g1 _ _ ha), rfl, use_figs hb fun H2 g2 => ⟨digs b, rfl, by omega, ?_⟩⟩
  exact q _ (g1.trans g2)
abbrev sd_ratio_of : Stmt := top 9
abbrev N_ratio_of : List Str := ["text", "sides", "top", "bottom"]
abbrev P_ratio_of : List Str := ["text"]
theorem sc_ratio_of : FnScope N_ratio_of P_ratio_of (defScope sd_ratio_of) := ⟨rfl, rfl, rfl, by decide +kernel, rfl, by decide +kernel, by decide +kernel⟩

theorem ok_ratio_of (F : At K mg "ratio_of" sd_ratio_of f fd) (D_number : Dn P w K mg base 2 "number" ["text"] spNumber) (D_lowest : Dn P w K mg base 2 "lowest" ["top", "bottom"] spLow) (m_len : mg "len" = none) : Dn P w K mg base 3 "ratio_of" P_ratio_of spRatioOf := by
  refine F.ok sc_ratio_of (fun vs H Q E h => ?_) (fun cdv A outer s H vs Q E hr h => ?_) (fun _ _ _ _ _ _ us hl => match us, hl with | [_], _ => rfl)
  · obtain ⟨cs, rfl, _⟩ := h.ex
    rfl
  obtain ⟨cs, rfl, hl, q⟩ := h.ex
  refine ⟨_, (pss_cons (ps_set (i := 1) sc_ratio_of.nd rfl (Or.inl rfl) (pe_bm PySem.F.plainAttrs_str PySem.F.slot_str_split PySem.F.type_str_split mt_split1 (pv 0) (pa_cons pe_str pa_nil)))
    (pss_cons (ps_if (pt_cmpR op_ne (pe_callB (call_lenK K) (by rfl) m_len PySem.boot_len (pa_cons (pv 1) pa_nil)) pe_int (nomark _)) (pss_one (ps_ret pe_non)) pss_nil)
    (pss_cons (ps_set (i := 2) sc_ratio_of.nd rfl (Or.inl rfl) (pe_fn D_number hr (pa_cons (pe_ix (ix_listK K) (pv 1) pe_int (fun _ _ => rfl)) pa_nil)))
    (pss_cons (ps_set (i := 3) sc_ratio_of.nd rfl (Or.inl rfl) (pe_fn D_number hr (pa_cons (pe_ix (ix_listK K) (pv 1) pe_int (fun _ _ => rfl)) pa_nil)))
    (pss_cons (ps_if (pt_pure (PW.pt (pw_or (pt_cmpR op_isN (pv 2) pe_non (nomark _)) (pw_or (pt_cmpR op_isN (pv 3) pe_non (nomark _)) (pw_or1 (pt_cmpR op_eq (pv 3) pe_int (nomark _))))))) (pss_one (ps_ret pe_non)) pss_nil)
    (pss_cons (ps_if (pt_cmpR (op_neDK K hr.units) (pe_fn D_lowest hr (pa_cons (pv 2) (pa_cons (pv 3) pa_nil))) (pe_tup (pa_cons (pv 2) (pa_cons (pv 3) pa_nil))) (nomark _)) (pss_one (ps_ret pe_non)) pss_nil)
    (pss_one (ps_ret (pe_tup (pa_cons (pv 2) (pa_cons (pv 3) pa_nil))))))))))), ?_⟩
  refine ⟨_, rfl, rfl, cs, 47, rfl, rfl, by omega, fun ps hps => ?_⟩
  have g0 := same_new hps (.lst (txs (splitN cs 47)))
  have hps0 : upd H ps (.lst (txs (splitN cs 47))) ps = some (.lst (txs (splitN cs 47))) := upd_same
  generalize upd H ps (.lst (txs (splitN cs 47))) = H0 at *
  have hlen : (txs (splitN cs 47)).length = (splitN cs 47).length := by unfold txs; rw [List.length_map]
  have hpl := fun p (hp : p ∈ splitN cs 47) => split_part_len hp
  refine ⟨_, rfl, ps, _, rfl, .inl (SqL.of hps0), rfl, _, rfl, ?_⟩
  by_cases h2 : (splitN cs 47).length = 2
  · rw [show decide (V.int ((txs (splitN cs 47)).length : Int) = V.int 2) = true from decide_eq_true (by rw [hlen, h2]; rfl)]
    refine iteF ?_
    obtain ⟨p1, p2, e2⟩ : ∃ p1 p2, splitN cs 47 = [p1, p2] := by
      generalize splitN cs 47 = l at h2
      match l, h2 with
      | [x, y], _ => exact ⟨x, y, rfl⟩
    have l1 : p1.length ≤ cs.length := hpl p1 (by rw [e2]; simp)
    have l2 : p2.length ≤ cs.length := hpl p2 (by rw [e2]; simp)
    have i0 : (txs (splitN cs 47))[0]? = some (.str (tx p1)) := by rw [e2]; rfl
    have i1 : (txs (splitN cs 47))[1]? = some (.str (tx p2)) := by rw [e2]; rfl
    have eP : ratP cs = if (numOk p1 && numOk p2 && !decide (NumText.digitsVal p2 = 0) && decide ((Jm.fr (NumText.digitsVal p1 : Nat) (NumText.digitsVal p2 : Nat)).num = (NumText.digitsVal p1 : Nat) ∧ ((Jm.fr (NumText.digitsVal p1 : Nat) (NumText.digitsVal p2 : Nat)).den : Int) = (NumText.digitsVal p2 : Nat))) = true then some (NumText.digitsVal p1, NumText.digitsVal p2) else none := by
      unfold ratP
      rw [e2]
    refine ⟨_, rfl, ps, _, ((0 : Nat) : Int), _, rfl, rfl, SqL.of hps0, atI_ref i0, use_number (by omega) fun H1 g1 => ?_⟩
    refine ⟨_, rfl, ps, _, ((1 : Nat) : Int), _, rfl, rfl, SqL.of (g1 _ _ hps0), atI_ref i1, use_number (by omega) fun H2 g2 => ?_⟩
    have g02 := g0.trans (g1.trans g2)
    have none_of : (∀ b, (numOk p1 && numOk p2 && !decide (NumText.digitsVal p2 = 0) && b) = false) → Q .non H2 := fun hb => q H2 .non g02 (by rw [eP, hb, if_neg Bool.false_ne_true]; rfl)
    by_cases k1 : numOk p1 = true
    · by_cases k2 : numOk p2 = true
      · have v1 : numV p1 = .int ((NumText.digitsVal p1 : Nat) : Int) := if_pos k1
        have v2 : numV p2 = .int ((NumText.digitsVal p2 : Nat) : Int) := if_pos k2
        rw [v1, v2]
        refine ⟨decide (NumText.digitsVal p2 = 0), ?_, ?_⟩
        · refine ⟨_, rfl, rfl, _, rfl, iteF ⟨_, rfl, rfl, _, rfl, iteF ⟨_, rfl, rfl, _, rfl, ?_, rfl⟩⟩⟩
          exact decide_eq_decide.mpr ⟨fun e => by have := V.int.inj e; omega, fun e => by rw [e]; rfl⟩
        by_cases k3 : NumText.digitsVal p2 = 0
        · rw [decide_eq_true k3]
          refine iteT ?_
          exact none_of fun b => by rw [decide_eq_true k3, Bool.not_true, Bool.and_false, Bool.false_and]
        · rw [decide_eq_false k3]
          refine iteF ?_
          have hb : (0 : Int) < ((NumText.digitsVal p2 : Nat) : Int) := by omega
          have a2 : p2.all (inS "0123456789") = true := by
            unfold numOk at k2
            exact (Bool.and_eq_true_iff.mp (Bool.and_eq_true_iff.mp k2).1).2
          have sb : Jm.Sz 9000 ((NumText.digitsVal p2 : Nat) : Int) := (sz_digits (figs_digits a2)).mono (by omega)
          refine ⟨_, rfl, _, rfl, _, _, rfl, hb, sb, fun z3 H3 g3 hz3 => ?_⟩
          have g03 := g02.trans g3
          refine ⟨_, rfl, _, rfl, (by show 2 ≤ sizeLine; decide), fun z4 hz4 => ?_⟩
          have g4 := same_new hz4 (.tup [.int ((NumText.digitsVal p1 : Nat) : Int), .int ((NumText.digitsVal p2 : Nat) : Int)])
          have hz44 : upd H3 z4 (.tup [.int ((NumText.digitsVal p1 : Nat) : Int), .int ((NumText.digitsVal p2 : Nat) : Int)]) z4 = some (.tup [.int ((NumText.digitsVal p1 : Nat) : Int), .int ((NumText.digitsVal p2 : Nat) : Int)]) := upd_same
          generalize upd H3 z4 (.tup [.int ((NumText.digitsVal p1 : Nat) : Int), .int ((NumText.digitsVal p2 : Nat) : Int)]) = H4 at *
          refine ⟨_, _, dt_rat (g4 _ _ hz3), .tup (SqT.of hz44) (.cons (.int _) (.cons (.int _) .nil)), rfl, rfl, _, rfl, ?_⟩
          rw [eqv_pairs]
          by_cases k4 : (Jm.fr (NumText.digitsVal p1 : Nat) (NumText.digitsVal p2 : Nat)).num = (NumText.digitsVal p1 : Nat) ∧ ((Jm.fr (NumText.digitsVal p1 : Nat) (NumText.digitsVal p2 : Nat)).den : Int) = (NumText.digitsVal p2 : Nat)
          · rw [decide_eq_true k4]
            refine iteF ⟨_, rfl, _, rfl, (by show 2 ≤ sizeLine; decide), fun z5 hz5 => ?_⟩
            refine q _ _ ((g03.trans g4).trans (same_new hz5 _)) ?_
            rw [eP, k1, k2, decide_eq_false k3, decide_eq_true k4]
            exact ⟨z5, rfl, upd_same⟩
          · rw [decide_eq_false k4]
            refine iteT ?_
            refine q _ _ (g03.trans g4) ?_
            rw [eP, decide_eq_false k4, Bool.and_false, if_neg Bool.false_ne_true]
            rfl
      · have k2' := Bool.eq_false_iff.mpr k2
        have v2 : numV p2 = .non := if_neg k2
        rw [v2]
        refine ⟨true, ?_, iteT (none_of fun b => by rw [k2', Bool.and_false, Bool.false_and, Bool.false_and])⟩
        have v1 : numV p1 = .int ((NumText.digitsVal p1 : Nat) : Int) := if_pos k1
        rw [v1]
        exact ⟨_, rfl, rfl, _, rfl, iteF ⟨_, rfl, rfl, _, rfl, iteT ⟨rfl, rfl⟩⟩⟩
    · have k1' := Bool.eq_false_iff.mpr k1
      have v1 : numV p1 = .non := if_neg k1
      rw [v1]
      refine ⟨true, ?_, iteT (none_of fun b => by rw [k1', Bool.false_and, Bool.false_and, Bool.false_and])⟩
      exact ⟨_, rfl, rfl, _, rfl, iteT ⟨rfl, rfl⟩⟩
  · rw [show decide (V.int ((txs (splitN cs 47)).length : Int) = V.int 2) = false from decide_eq_false (fun e => h2 (by have := V.int.inj e; omega))]
    refine iteT ?_
    refine q _ _ g0 ?_
    have eP : ratP cs = none := by
      unfold ratP
      generalize splitN cs 47 = l at h2
      match l, h2 with
      | [], _ => rfl
      | [_], _ => rfl
      | [_, _], h2 => exact absurd rfl h2
      | _ :: _ :: _ :: _, _ => rfl
    rw [eP]
    rfl
abbrev sd__law_draw : Stmt := top 14
abbrev N__law_draw : List Str := ["_law_script", "_law_k", "_law_j", "_law_many", "_law_cell", "_law_turn", "_law_rest", "_law_step", "_law_one", "_law_two"]
abbrev P__law_draw : List Str := ["_law_script", "_law_k", "_law_j", "_law_many"]
theorem sc__law_draw : FnScope N__law_draw P__law_draw (defScope sd__law_draw) := ⟨rfl, rfl, rfl, by decide +kernel, rfl, by decide +kernel, by decide +kernel⟩

theorem ok__law_draw (F : At K mg "_law_draw" sd__law_draw f fd) (m_len : mg "len" = none) (m_range : mg "range" = none) : Dn P w K mg base 1 "_law_draw" P__law_draw (spDraw K) := by
  refine F.ok sc__law_draw (fun vs H Q E h => ?_) (fun cdv A outer s H vs Q E hr h => ?_) (fun _ _ _ _ _ _ us hl => match us, hl with | [_, _, _, _], _ => rfl)
  · obtain ⟨a, ns, k, j, many, rfl, _⟩ := h.ex
    rfl
  obtain ⟨a, ns, k, j, many, rfl, hS, h63, hk, hj, hj2, hm, q⟩ := h.ex
  refine ⟨_, (pss_cons (ps_set (i := 4) sc__law_draw.nd rfl (Or.inl rfl) pe_int)
    (pss_cons (ps_set (i := 5) sc__law_draw.nd rfl (Or.inl rfl) pe_int)
    (pss_cons (ps_ifJ (pt_cmpR op_gt (pe_callB (call_lenK K) (by rfl) m_len PySem.boot_len (pa_cons (pv 0) pa_nil)) pe_int (nomark _)) (pss_cons (ps_set (i := 4) sc__law_draw.nd rfl (Or.inl rfl) (pe_ix (ix_listK K) (pv 0) (pe_op op_mod (pv 1) (pe_callB (call_lenK K) (by rfl) m_len PySem.boot_len (pa_cons (pv 0) pa_nil))) (fun _ _ => rfl)))
    (pss_one (ps_set (i := 5) sc__law_draw.nd rfl (Or.inl rfl) (pe_op op_fdivW (pv 1) (pe_callB (call_lenK K) (by rfl) m_len PySem.boot_len (pa_cons (pv 0) pa_nil)))))) pss_nil)
    (pss_cons (ps_set (i := 6) sc__law_draw.nd rfl (Or.inl rfl) (pv 4))
    (pss_cons (ps_for PassesOwn.never rfl (pi_range1 (by rfl) m_range (pa_cons (pv 2) pa_nil)) (pg_name (i := 7) sc__law_draw.nd rfl (Or.inl rfl)) (pss_one (ps_set (i := 6) sc__law_draw.nd rfl (Or.inl rfl) (pe_op op_fdivW (pv 6) (pe_op op_pow pe_int pe_int)))))
    (pss_cons (ps_if (pt_pure (PW.pt (pw_and (pt_cmpR op_eq (pv 5) pe_int (nomark _)) (pw_and (pt_cmpR op_ge (pv 4) (pe_op op_pow pe_int pe_int) (nomark _)) (pw_and1 (pt_cmpR op_gt (pv 6) pe_int (nomark _))))))) (pss_one (ps_ret (pe_op op_mod (pe_op op_mod (pv 6) (pe_op op_pow pe_int pe_int)) (pv 3)))) pss_nil)
    (pss_cons (ps_set (i := 8) sc__law_draw.nd rfl (Or.inl rfl) (pe_op op_mod (pe_op op_add (pe_op op_add (pe_op op_add (pe_op op_mul (pv 4) pe_int) (pe_op op_mul (pv 1) pe_int)) (pe_op op_mul (pv 2) pe_int)) pe_int) pe_int))
    (pss_cons (ps_set (i := 9) sc__law_draw.nd rfl (Or.inl rfl) (pe_op op_mod (pe_op op_add (pe_op op_mul (pv 8) pe_int) (pe_op op_fdivW (pv 4) pe_int)) pe_int))
    (pss_cons (ps_set (i := 9) sc__law_draw.nd rfl (Or.inl rfl) (pe_op op_mod (pe_op op_add (pe_op op_mul (pv 9) (pe_op op_add (pe_op op_mod (pv 8) pe_int) pe_int)) (pv 2)) pe_int))
    (pss_one (ps_ret (pe_op op_mod (pe_op op_mod (pe_op op_add (pe_op op_add (pe_op op_mul (pv 8) pe_int) (pe_op op_mul (pv 9) pe_int)) (pe_op op_fdivW (pv 9) pe_int)) pe_int) (pv 3))))))))))))), ?_⟩
  have hl : (ns.map V.int).length = ns.length := List.length_map _
  -- the cell and the turn
  refine ⟨fun σ H' => H' = H ∧ σ = [some (.ref a), some (.int k), some (.int j), some (.int many), some (.int (Jm.cellOf ns k)), some (.int (Jm.turnOf ns k)), none, none, none, none], ?_, ?_⟩
  · refine ⟨_, rfl, a, _, rfl, .inl hS, _, _, rfl, rfl, _, rfl, ?_⟩
    refine ite2 (fun c => ?_) (fun c => ?_)
    · have c' : 0 < (((ns.map V.int).length : Nat) : Int) := of_decide_eq_true c
      rw [hl] at c'
      have i0 : 0 ≤ k % (ns.length : Int) := Int.emod_nonneg _ (by omega)
      have i1 : k % (ns.length : Int) < (ns.length : Int) := Int.emod_lt_of_pos _ c'
      refine ⟨_, rfl, _, rfl, _, rfl, a, _, rfl, .inl hS, _, _, rfl, rfl, (by show (0 : Int) < _; rw [hl]; exact c'), a, _, _, .int (ns.getD (k % ns.length).toNat 0), rfl, rfl, hS, ?_, ?_⟩
      · rw [hl]
        exact atI_map i0 i1
      refine ⟨_, rfl, _, rfl, a, _, rfl, .inl hS, _, _, rfl, rfl, cdivW_of (n := 10) (by rw [hl]; exact c') (by rw [hl]; omega) (by decide), rfl, ?_⟩
      unfold Jm.cellOf Jm.turnOf
      rw [if_pos c', if_pos c', hl]
      rfl
    · have c' : ¬ 0 < (((ns.map V.int).length : Nat) : Int) := of_decide_eq_false (Bool.eq_false_iff.mpr c)
      rw [hl] at c'
      refine ⟨rfl, ?_⟩
      unfold Jm.cellOf Jm.turnOf
      rw [if_neg c', if_neg c']
      rfl
  rintro σ H' ⟨rfl, rfl⟩
  generalize ec : Jm.cellOf ns k = cell at *
  generalize et : Jm.turnOf ns k = turn at *
  refine ⟨_, rfl, _, rfl, j, rfl, by omega, hj2, ?_⟩
  refine for_range (lo := 0) (n := j.toNat) (fun i σ H'' => H'' = H' ∧ ∃ st : Option V, σ = [some (.ref a), some (.int k), some (.int j), some (.int many), some (.int cell), some (.int turn), some (.int (Jm.restN cell i)), st, none, none]) ⟨rfl, none, rfl⟩ ?_ ?_
  · rintro i σ H'' hi ⟨rfl, st, rfl⟩
    refine ⟨_, rfl, _, _, rfl, rfl, ⟨by decide, by decide, by decide⟩, _, _, rfl, rfl, cdivW_lit (by decide +kernel), rfl, ?_⟩
    exact ⟨_, rfl⟩
  rintro σ H'' ⟨rfl, st, rfl⟩
  have full : Q (.int (Jm.draw ns k j many)) H'' := q
  unfold Jm.draw at full
  rw [ec, et] at full
  generalize er : Jm.restN cell j.toNat = rest at *
  refine ⟨decide (turn = 0 ∧ 1000000000000000000 ≤ cell ∧ 0 < rest), ?_, ?_⟩
  · refine ⟨_, rfl, rfl, _, rfl, ?_⟩
    by_cases h1 : turn = 0
    · rw [decide_eq_true (by rw [h1] : V.int turn = V.int 0)]
      refine iteT ⟨_, rfl, _, _, rfl, rfl, ⟨by decide, by decide, by decide⟩, _, _, rfl, rfl, _, rfl, ?_⟩
      by_cases h2 : 1000000000000000000 ≤ cell
      · rw [decide_eq_true (show (10 : Int) ^ (18 : Int).toNat ≤ cell from h2)]
        refine iteT ⟨_, rfl, _, _, rfl, rfl, _, rfl, ?_, rfl⟩
        by_cases h3 : 0 < rest
        · rw [decide_eq_true h3, decide_eq_true ⟨h1, h2, h3⟩]
        · rw [decide_eq_false h3, decide_eq_false fun z => h3 z.2.2]
      · rw [decide_eq_false (show ¬ (10 : Int) ^ (18 : Int).toNat ≤ cell from h2)]
        exact iteF ⟨(decide_eq_false fun z => h2 z.2.1).symm, rfl⟩
    · rw [decide_eq_false (fun z => h1 (V.int.inj z))]
      exact iteF ⟨(decide_eq_false fun z => h1 z.1).symm, rfl⟩
  by_cases h : turn = 0 ∧ 1000000000000000000 ≤ cell ∧ 0 < rest
  · rw [decide_eq_true h]
    rw [if_pos h] at full
    refine iteT ⟨_, rfl, _, _, rfl, rfl, ⟨by decide, by decide, by decide⟩, _, _, rfl, rfl, (by show (0 : Int) < _; decide), _, rfl, _, _, rfl, rfl, hm, ?_⟩
    exact full
  · rw [decide_eq_false h]
    rw [if_neg h] at full
    refine iteF ?_
    refine ⟨_, rfl, _, _, rfl, rfl, .inr ⟨by decide, by decide⟩, _, rfl, _, _, rfl, rfl, .inr ⟨by decide, by decide⟩, _, _, rfl, rfl, _, rfl, _, _, rfl, rfl, .inr ⟨by decide, by decide⟩, _, _, rfl, rfl, _, _, rfl, rfl, _, _, rfl, rfl, (by show (0 : Int) < _; decide), ?_⟩
    refine ⟨_, rfl, _, _, rfl, rfl, .inr ⟨by decide, by decide⟩, _, rfl, _, _, rfl, rfl, cdivW_lit (by decide +kernel), _, _, rfl, rfl, _, _, rfl, rfl, (by show (0 : Int) < _; decide), ?_⟩
    unfold Jm.mixed at full
    dsimp only at full ⊢
    generalize e1 : (cell * 7919 + k * 104729 + j * 1299709 + 31) % 1000000007 = one at *
    generalize e2 : (one * 48271 + cell / 1009) % 998244353 = two at *
    have b1 : 0 ≤ one % 9973 := Int.emod_nonneg _ (by decide)
    have b2 : one % 9973 < 9973 := Int.emod_lt_of_pos _ (by decide)
    refine ⟨_, rfl, _, rfl, _, _, rfl, rfl, (by show (0 : Int) < _; decide), _, _, rfl, rfl, _, _, rfl, rfl, .inr ⟨by omega, by omega⟩, _, rfl, _, _, rfl, rfl, _, _, rfl, rfl, (by show (0 : Int) < _; decide), ?_⟩
    refine ⟨_, rfl, _, _, rfl, rfl, .inr ⟨by decide, by decide⟩, _, rfl, _, _, rfl, rfl, .inr ⟨by decide, by decide⟩, _, _, rfl, rfl, _, rfl, _, _, rfl, rfl, cdivW_lit (by decide +kernel), _, _, rfl, rfl, _, _, rfl, rfl, (by show (0 : Int) < _; decide), _, rfl, _, _, rfl, rfl, hm, ?_⟩
    exact full
abbrev sd__law_least : Stmt := top 18
abbrev N__law_least : List Str := ["_law_top", "_law_bottom", "_law_one", "_law_other"]
abbrev P__law_least : List Str := ["_law_top", "_law_bottom"]
theorem sc__law_least : FnScope N__law_least P__law_least (defScope sd__law_least) := ⟨rfl, rfl, rfl, by decide +kernel, rfl, by decide +kernel, by decide +kernel⟩

theorem ok__law_least (F : At K mg "_law_least" sd__law_least f fd) (m_abs : mg "abs" = none) : Dn P w K mg base 1 "_law_least" P__law_least spLeast := by
  refine F.ok sc__law_least (fun vs H Q E h => ?_) (fun cdv A outer s H vs Q E hr h => ?_) (fun _ _ _ _ _ _ us hl => match us, hl with | [_, _], _ => rfl)
  · obtain ⟨a, b, rfl, _⟩ := h.ex
    rfl
  obtain ⟨t, b, rfl, hb, hb2, q⟩ := h.ex
  refine ⟨_, (pss_cons (ps_set (i := 2) sc__law_least.nd rfl (Or.inl rfl) (pe_callB call_abs (by rfl) m_abs PyProof.Rows.boot_abs (pa_cons (pv 0) pa_nil)))
    (pss_cons (ps_set (i := 3) sc__law_least.nd rfl (Or.inl rfl) (pv 1))
    (pss_cons (ps_while PassesOwn.never (pt_cmpR op_ne (pv 3) pe_int (nomark _)) (pss_one (ps_par (i := 2) (j := 3) rfl sc__law_least.nd rfl rfl (by decide) rfl rfl (pa_cons (pv 3) (pa_cons (pe_op op_mod (pv 2) (pv 3)) pa_nil)) (by rfl))))
    (pss_one (ps_ret (pe_tup (pa_cons (pe_op op_fdivW (pv 0) (pv 2)) (pa_cons (pe_op op_fdivW (pv 1) (pv 2)) pa_nil)))))))), ?_⟩
  refine ⟨_, rfl, _, rfl, _, rfl, ?_⟩
  refine ⟨fun m σ H' => ∃ x y : Int, m = y.toNat ∧ σ = [some (.int t), some (.int b), some (.int x), some (.int y)] ∧ H' = H ∧ 0 ≤ x ∧ 0 ≤ y ∧ Jm.cf x y = Jm.cf b t,
    ⟨_, (if t < 0 then -t else t), b, rfl, rfl, rfl, (by split <;> omega), Int.le_of_lt hb, (by rw [Jm.cf_comm, Jm.cf_abs])⟩, ?_⟩
  rintro m σ H' ⟨x, y, rfl, rfl, rfl, hx, hy, e⟩
  refine ⟨_, rfl, rfl, _, rfl, ite2 (fun c => ?_) (fun c => ?_)⟩
  · have c1 : ¬ V.int y = V.int 0 := of_decide_eq_false (by simpa using c)
    have c' : 0 < y := by
      have : y ≠ 0 := fun z => c1 (by rw [z])
      omega
    refine ⟨_, fun _ _ z => z, ?_⟩
    refine ⟨_, rfl, _, rfl, _, rfl, _, _, rfl, rfl, c', _, _, rfl, ?_⟩
    have h1 : 0 ≤ x % y := Int.emod_nonneg _ (by omega)
    have h2 : x % y < y := Int.emod_lt_of_pos _ c'
    exact ⟨_, (by omega : (x % y).toNat < y.toNat), y, x % y, rfl, rfl, rfl, hy, h1, (Jm.cf_step x y c').trans e⟩
  · have c1 : V.int y = V.int 0 := by simpa using c
    have ey : y = 0 := V.int.inj c1
    subst ey
    rw [Jm.cf_zero x hx] at e
    subst e
    have g0 : 0 < Jm.cf b t := Jm.cf_pos _ _ (.inl hb)
    have g1 : Jm.Sz 9000 (Jm.cf b t) := hb2.dvd hb (Int.le_of_lt g0) (Jm.dvd_cf_left b t)
    have gd : ∀ i, CDivW i (Jm.cf b t) := fun i => cdivW_sz g0 g1
    refine ⟨_, rfl, _, rfl, _, _, rfl, rfl, gd _, _, rfl, _, rfl, _, _, rfl, rfl, gd _, (by show 2 ≤ sizeLine; decide), fun p hp => ?_⟩
    refine q p _ (same_new hp _) ?_
    rw [upd_same]
    show some (HO.tup [V.int (t / Jm.cf b t), V.int (b / Jm.cf b t)]) = some (HO.tup [V.int (Jm.fr t b).num, V.int ((Jm.fr t b).den : Int)])
    rw [Jm.fr_num t b hb, Jm.fr_den t b hb]
abbrev sd__law_sign : Stmt := top 15
abbrev N__law_sign : List Str := ["_law_code", "_law_some"]
abbrev P__law_sign : List Str := ["_law_code"]
theorem sc__law_sign : FnScope N__law_sign P__law_sign (defScope sd__law_sign) := ⟨rfl, rfl, rfl, by decide +kernel, rfl, by decide +kernel, by decide +kernel⟩

theorem ok__law_sign (F : At K mg "_law_sign" sd__law_sign f fd) : Dn P w K mg base 1 "_law_sign" P__law_sign spSign := by
  refine F.ok sc__law_sign (fun vs H Q E h => ?_) (fun cdv A outer s H vs Q E hr h => ?_) (fun _ _ _ _ _ _ us hl => match us, hl with | [_], _ => rfl)
  · obtain ⟨k, rfl, _⟩ := h.ex
    rfl
  obtain ⟨k, rfl, q⟩ := h.ex
  refine ⟨_, (pss_cons (ps_set (i := 1) sc__law_sign.nd rfl (Or.inl rfl) pe_str)
    (pss_cons (ps_set (i := 1) sc__law_sign.nd rfl (Or.inl rfl) (pe_op op_add_str (pv 1) pe_str))
    (pss_one (ps_ret (pe_ix ix_str (pv 1) (pe_op op_mod (pv 0) pe_int) (fun _ _ => rfl)))))), ?_⟩
  have hm0 : 0 ≤ k % 95 := Int.emod_nonneg _ (by decide)
  have hm1 : k % 95 < 95 := Int.emod_lt_of_pos _ (by decide)
  refine ⟨_, rfl, _, _, rfl, rfl, (by decide +kernel), ?_⟩
  refine ⟨_, rfl, _, rfl, _, _, rfl, rfl, (by show (0 : Int) < 95; decide), ?_⟩
  have hh : ∀ n : Nat, n < 95 → ∃ c, (" !\"#$&'()*+,-./0123456789:;<=>?@ABCDEFGHIJKLMNOPQRSTUVWXYZ[\\]^_`" ++ "abcdefghijklmnopqrstuvwxyz{|}~\n" : Str).cps.toList[n]? = some c := fun n hn => by
    have hl : (" !\"#$&'()*+,-./0123456789:;<=>?@ABCDEFGHIJKLMNOPQRSTUVWXYZ[\\]^_`" ++ "abcdefghijklmnopqrstuvwxyz{|}~\n" : Str).cps.toList.length = 95 := by decide +kernel
    exact ⟨_, List.getElem?_eq_getElem (by rw [hl]; exact hn)⟩
  obtain ⟨c, hc⟩ := hh (k % 95).toNat (by omega)
  have e : k % 95 = (((k % 95).toNat : Nat) : Int) := by omega
  have hat := atI_nat hc
  rw [← e] at hat
  exact ⟨_, _, c, rfl, rfl, (by decide +kernel), hat, q c⟩
abbrev sd__law_number : Stmt := top 17
abbrev N__law_number : List Str := ["_law_word", "_law_sign_here"]
abbrev P__law_number : List Str := ["_law_word"]
theorem sc__law_number : FnScope N__law_number P__law_number (defScope sd__law_number) := ⟨rfl, rfl, rfl, by decide +kernel, rfl, by decide +kernel, by decide +kernel⟩

theorem ok__law_number (F : At K mg "_law_number" sd__law_number f fd) (z_dig : digOk K = true) (m_len : mg "len" = none) (m_int : mg "int" = none) : Dn P w K mg base 1 "_law_number" P__law_number spNumber := by
  refine F.ok sc__law_number (fun vs H Q E h => ?_) (fun cdv A outer s H vs Q E hr h => ?_) (fun _ _ _ _ _ _ us hl => match us, hl with | [_], _ => rfl)
  · obtain ⟨cs, rfl, _⟩ := h.ex
    rfl
  obtain ⟨cs, rfl, hl, q⟩ := h.ex
  refine ⟨_, (pss_cons (ps_if (pt_pure (PW.pt (pw_or (pt_cmpR op_eq (pv 0) pe_str (nomark _)) (pw_or1 (pt_pure (PW.pt (pw_and (pt_cmpR op_gt (pe_callB call_len_str (by rfl) m_len PySem.boot_len (pa_cons (pv 0) pa_nil)) pe_int (nomark _)) (pw_and1 (pt_cmpR op_eq (pe_ix ix_str (pv 0) pe_int (fun _ _ => rfl)) pe_str (nomark _)))))))))) (pss_one (ps_ret pe_non)) pss_nil)
    (pss_cons (ps_for PassesOwn.never rfl (pi_str (pv 0)) (pg_name (i := 1) sc__law_number.nd rfl (Or.inl rfl)) (pss_one (ps_if (pt_cmpR op_notin_str (pv 1) pe_str (by with_unfolding_all rfl)) (pss_one (ps_ret pe_non)) pss_nil)))
    (pss_one (ps_ret (pe_callTy (call_int_text rfl z_dig) (by rfl) m_int PyProof.Rows.boot_int (pa_cons (pv 0) pa_nil)))))), ?_⟩
  have hz : (tx cs).length ≤ sizeLine := by rw [tx_length, sizeLine_eq]; omega
  have hq := q H (Same.refl _)
  refine ⟨decide (cs = []) || (decide ((1 : Int) < (cs.length : Int)) && decide (cs.head? = some 48)), ?_, ?_⟩
  · refine ⟨_, rfl, rfl, _, rfl, ?_⟩
    rw [str_eq_nil]
    by_cases h0 : cs = []
    · rw [decide_eq_true h0, Bool.true_or]
      exact iteT ⟨rfl, rfl⟩
    rw [decide_eq_false h0, Bool.false_or]
    refine iteF ⟨decide ((1 : Int) < (cs.length : Int)) && decide (cs.head? = some 48), ?_, rfl, rfl⟩
    refine ⟨_, rfl, _, rfl, hz, _, _, rfl, rfl, _, rfl, ?_⟩
    rw [tx_length]
    by_cases h1 : (1 : Int) < (cs.length : Int)
    · rw [decide_eq_true h1, Bool.true_and]
      obtain ⟨c, r, rfl⟩ : ∃ c r, cs = c :: r := by
        cases cs with
        | nil => exact absurd rfl h0
        | cons c r => exact ⟨c, r, rfl⟩
      refine iteT ⟨_, rfl, _, ((0 : Nat) : Int), c, rfl, rfl, hz, atI_nat (by simp), rfl, _, rfl, ?_, rfl⟩
      show decide (V.str (tx [c]) = V.str "0") = _
      rw [str_eq_zero]
      exact decide_eq_decide.mpr ⟨fun e => congrArg some e, fun e => Option.some.inj e⟩
    · rw [decide_eq_false h1, Bool.false_and]
      exact iteF ⟨rfl, rfl⟩
  cases hb : (decide (cs = []) || (decide ((1 : Int) < (cs.length : Int)) && decide (cs.head? = some 48))) with
  | true =>
    refine iteT ?_
    have hn : numV cs = .non := by
      unfold numV numOk
      rcases Bool.or_eq_true_iff.mp hb with z | z
      · rw [z]; rfl
      · obtain ⟨z1, z2⟩ := Bool.and_eq_true_iff.mp z
        have z1' : (1 : Int) < (cs.length : Int) := of_decide_eq_true z1
        rw [z2, decide_eq_true (show 1 < cs.length by omega)]
        simp
    rw [hn] at hq
    exact hq
  | false =>
    refine iteF ?_
    obtain ⟨b1, b2⟩ := Bool.or_eq_false_iff.mp hb
    refine ⟨_, rfl, cs, rfl, ?_⟩
    refine for_str (fun i σ H2 => H2 = H ∧ (cs.take i).all (inS "0123456789") = true ∧ ∃ (s1 : Option V), σ = [some (.str (tx cs)), s1]) ⟨rfl, rfl, none, rfl⟩ ?_ ?_
    · rintro i ch σ H2 hc ⟨rfl, hall, s1, rfl⟩
      refine ⟨_, rfl, _, _, rfl, rfl, _, rfl, ?_⟩
      show if (!inS "0123456789" ch) = true then _ else _
      cases hi : inS "0123456789" ch with
      | true =>
        refine iteF ⟨rfl, ?_, _, rfl⟩
        rw [List.take_add_one, hc, List.all_append, hall]
        show (true && (inS _ ch && true)) = true
        rw [hi]
        rfl
      | false =>
        refine iteT ?_
        have hn : numV cs = .non := by
          unfold numV numOk
          have : cs.all (inS "0123456789") = false := by
            rw [List.all_eq_false]
            exact ⟨ch, List.mem_of_getElem? hc, by rw [hi]; exact Bool.false_ne_true⟩
          rw [this, Bool.and_false, Bool.false_and]
          rfl
        rw [hn] at hq
        exact hq
    rintro σ H2 ⟨rfl, hall, s1, rfl⟩
    rw [List.take_length] at hall
    have h0 : ¬ cs = [] := of_decide_eq_false b1
    refine ⟨_, rfl, cs, rfl, figs_digits hall, h0, by omega, ?_⟩
    have hn : numV cs = .int ((NumText.digitsVal cs : Nat) : Int) := by
      unfold numV numOk
      have e2 : (decide (cs.head? = some 48) && decide (1 < cs.length)) = false := by
        rw [← b2, Bool.and_comm]
        congr 1
        exact decide_eq_decide.mpr ⟨fun e => by omega, fun e => by omega⟩
      rw [e2, hall, b1]
      rfl
    rw [hn] at hq
    exact hq
abbrev sd__law_spoilt : Stmt := top 16
abbrev N__law_spoilt : List Str := ["_law_script", "_law_k", "_law_word", "_law_at", "_law_sign_here", "_law_way"]
abbrev P__law_spoilt : List Str := ["_law_script", "_law_k", "_law_word"]
theorem sc__law_spoilt : FnScope N__law_spoilt P__law_spoilt (defScope sd__law_spoilt) := ⟨rfl, rfl, rfl, by decide +kernel, rfl, by decide +kernel, by decide +kernel⟩

theorem ok__law_spoilt (F : At K mg "_law_spoilt" sd__law_spoilt f fd) (D__law_draw : Dn P w K mg base 1 "_law_draw" ["_law_script", "_law_k", "_law_j", "_law_many"] (spDraw K)) (D__law_sign : Dn P w K mg base 1 "_law_sign" ["_law_code"] spSign) (m_len : mg "len" = none) : Dn P w K mg base 2 "_law_spoilt" P__law_spoilt (spSpoilt K) := by
  refine F.ok sc__law_spoilt (fun vs H Q E h => ?_) (fun cdv A outer s H vs Q E hr h => ?_) (fun _ _ _ _ _ _ us hl => match us, hl with | [_, _, _], _ => rfl)
  · obtain ⟨a, ms, k, cs, rfl, _⟩ := h.ex
    rfl
  obtain ⟨a, ms, k, cs, rfl, hS, h63, hk, hl, q⟩ := h.ex
  refine ⟨_, (pss_cons (ps_set (i := 3) sc__law_spoilt.nd rfl (Or.inl rfl) (pe_fn D__law_draw hr (pa_cons (pv 0) (pa_cons (pv 1) (pa_cons pe_int (pa_cons (pe_op op_add (pe_callB call_len_str (by rfl) m_len PySem.boot_len (pa_cons (pv 2) pa_nil)) pe_int) pa_nil))))))
    (pss_cons (ps_set (i := 4) sc__law_spoilt.nd rfl (Or.inl rfl) (pe_fn D__law_sign hr (pa_cons (pe_fn D__law_draw hr (pa_cons (pv 0) (pa_cons (pv 1) (pa_cons pe_int (pa_cons pe_int pa_nil))))) pa_nil)))
    (pss_cons (ps_ifJ (pt_cmpR op_eq (pe_fn D__law_draw hr (pa_cons (pv 0) (pa_cons (pv 1) (pa_cons pe_int (pa_cons pe_int pa_nil))))) pe_int (nomark _)) (pss_one (ps_set (i := 4) sc__law_spoilt.nd rfl (Or.inl rfl) (pe_ix ix_str pe_str (pe_fn D__law_draw hr (pa_cons (pv 0) (pa_cons (pv 1) (pa_cons pe_int (pa_cons pe_int pa_nil))))) (fun _ _ => rfl)))) pss_nil)
    (pss_cons (ps_set (i := 5) sc__law_spoilt.nd rfl (Or.inl rfl) (pe_fn D__law_draw hr (pa_cons (pv 0) (pa_cons (pv 1) (pa_cons pe_int (pa_cons pe_int pa_nil))))))
    (pss_cons (ps_if (pt_cmpR op_eq (pv 5) pe_int (nomark _)) (pss_one (ps_ret (pe_op op_add_str (pe_op op_add_str (pe_slice sl_str (pv 2) po_none (po_some (pv 3))) (pv 4)) (pe_slice sl_str (pv 2) (po_some (pv 3)) po_none)))) pss_nil)
    (pss_cons (ps_if (pt_cmpR op_eq (pv 5) pe_int (nomark _)) (pss_one (ps_ret (pe_op op_add_str (pe_slice sl_str (pv 2) po_none (po_some (pv 3))) (pe_slice sl_str (pv 2) (po_some (pe_op op_add (pv 3) pe_int)) po_none)))) pss_nil)
    (pss_cons (ps_if (pt_cmpR op_eq (pv 5) pe_int (nomark _)) (pss_one (ps_ret (pe_op op_add_str (pe_op op_add_str (pe_slice sl_str (pv 2) po_none (po_some (pv 3))) (pv 4)) (pe_slice sl_str (pv 2) (po_some (pe_op op_add (pv 3) pe_int)) po_none)))) pss_nil)
    (pss_one (ps_ret (pv 2)))))))))), ?_⟩
  have hz : (tx cs).length ≤ sizeLine := by rw [tx_length, sizeLine_eq]; omega
  have hzc : cs.length ≤ sizeLine := by rw [sizeLine_eq]; omega
  refine ⟨_, rfl, _, rfl, _, rfl, _, rfl, hz, _, _, rfl, rfl, ?_⟩
  rw [tx_length]
  refine use_draw hS h63 hk (by decide) (by decide) (by omega) fun at' _ a0 a1 => ?_
  obtain ⟨n, en⟩ : ∃ n : Nat, at' = (n : Int) := ⟨at'.toNat, by omega⟩
  subst en
  refine ⟨_, rfl, _, rfl, use_draw hS h63 hk (by decide) (by decide) (by decide) fun sg _ _ _ => use_sign fun ch => ?_⟩
  refine ⟨fun σ H' => H' = H ∧ ∃ c : Nat, σ = [some (.ref a), some (.int k), some (.str (tx cs)), some (.int (n : Int)), some (.str (tx [c])), none], ?_, ?_⟩
  · refine ⟨_, rfl, _, rfl, use_draw hS h63 hk (by decide) (by decide) (by decide) fun wd _ _ _ => ⟨rfl, _, rfl, ite2 (fun _ => ?_) (fun _ => ?_)⟩⟩
    · refine ⟨_, rfl, _, rfl, use_draw hS h63 hk (by decide) (by decide) (by decide) fun d _ d0 d1 => ?_⟩
      obtain ⟨c, hc⟩ : ∃ c, atI (" /0\n" : Str).cps.toList d = some c := by
        have hl4 : (" /0\n" : Str).cps.toList.length = 4 := by decide +kernel
        have e : d = ((d.toNat : Nat) : Int) := by omega
        rw [e]
        exact ⟨_, atI_nat (List.getElem?_eq_getElem (by rw [hl4]; omega))⟩
      exact ⟨_, _, c, rfl, rfl, (by decide +kernel), hc, rfl, c, rfl⟩
    · exact ⟨rfl, ch, rfl⟩
  rintro σ H' ⟨rfl, c, rfl⟩
  refine ⟨_, rfl, _, rfl, use_draw hS h63 hk (by decide) (by decide) (by decide) fun way _ _ _ => ?_⟩
  have hlen1 : (tx (cs.take n)).length + (tx [c]).length ≤ sizeLine := by rw [tx_length, tx_length, List.length_take, sizeLine_eq]; show _ + 1 ≤ _; omega
  refine ⟨_, rfl, rfl, _, rfl, ite2 (fun _ => ?_) (fun _ => ?_)⟩
  · refine ⟨_, rfl, _, rfl, (n : Int), rfl, cs, rfl, hzc, ?_⟩
    rw [cutN_to]
    refine ⟨_, rfl, _, _, rfl, rfl, hlen1, ?_⟩
    rw [tx_cat]
    refine ⟨_, rfl, _, rfl, (n : Int), rfl, cs, rfl, hzc, ?_⟩
    rw [cutN_from]
    refine ⟨_, _, rfl, rfl, (by rw [tx_length, tx_length, List.length_append, List.length_take, List.length_drop, sizeLine_eq]; show _ + 1 + _ ≤ _; omega), ?_⟩
    rw [tx_cat]
    exact q _ (by rw [List.length_append, List.length_append, List.length_take, List.length_drop]; show _ + 1 + _ ≤ _; omega)
  refine ⟨_, rfl, rfl, _, rfl, ite2 (fun _ => ?_) (fun _ => ?_)⟩
  · refine ⟨_, rfl, _, rfl, (n : Int), rfl, cs, rfl, hzc, ?_⟩
    rw [cutN_to]
    refine ⟨_, rfl, _, rfl, _, _, rfl, rfl, ((n : Int) + 1), rfl, cs, rfl, hzc, ?_⟩
    rw [show ((n : Int) + 1) = ((n + 1 : Nat) : Int) from by omega, cutN_from]
    refine ⟨_, _, rfl, rfl, (by rw [tx_length, tx_length, List.length_take, List.length_drop, sizeLine_eq]; omega), ?_⟩
    rw [tx_cat]
    exact q _ (by rw [List.length_append, List.length_take, List.length_drop]; omega)
  refine ⟨_, rfl, rfl, _, rfl, ite2 (fun _ => ?_) (fun _ => ?_)⟩
  · refine ⟨_, rfl, _, rfl, (n : Int), rfl, cs, rfl, hzc, ?_⟩
    rw [cutN_to]
    refine ⟨_, rfl, _, _, rfl, rfl, hlen1, ?_⟩
    rw [tx_cat]
    refine ⟨_, rfl, _, rfl, _, _, rfl, rfl, ((n : Int) + 1), rfl, cs, rfl, hzc, ?_⟩
    rw [show ((n : Int) + 1) = ((n + 1 : Nat) : Int) from by omega, cutN_from]
    refine ⟨_, _, rfl, rfl, (by rw [tx_length, tx_length, List.length_append, List.length_take, List.length_drop, sizeLine_eq]; show _ + 1 + _ ≤ _; omega), ?_⟩
    rw [tx_cat]
    exact q _ (by rw [List.length_append, List.length_append, List.length_take, List.length_drop]; show _ + 1 + _ ≤ _; omega)
  exact ⟨_, rfl, q cs (by omega)⟩
abbrev sd__law_big : Stmt := top 21
abbrev N__law_big : List Str := ["_law_many", "_law_found", "_law_step"]
abbrev P__law_big : List Str := ["_law_many"]
theorem sc__law_big : FnScope N__law_big P__law_big (defScope sd__law_big) := ⟨rfl, rfl, rfl, by decide +kernel, rfl, by decide +kernel, by decide +kernel⟩

theorem ok__law_big (F : At K mg "_law_big" sd__law_big f fd) (m_range : mg "range" = none) : Dn P w K mg base 1 "_law_big" P__law_big spBig := by
  refine F.ok sc__law_big (fun vs H Q E h => ?_) (fun cdv A outer s H vs Q E hr h => ?_) (fun _ _ _ _ _ _ us hl => match us, hl with | [_], _ => rfl)
  · obtain ⟨n, rfl, _⟩ := h.ex
    rfl
  obtain ⟨n, rfl, hn, q⟩ := h.ex
  refine ⟨_, (pss_cons (ps_set (i := 1) sc__law_big.nd rfl (Or.inl rfl) pe_int)
    (pss_cons (ps_for PassesOwn.never rfl (pi_range1 (by rfl) m_range (pa_cons (pv 0) pa_nil)) (pg_name (i := 2) sc__law_big.nd rfl (Or.inl rfl)) (pss_one (ps_set (i := 1) sc__law_big.nd rfl (Or.inl rfl) (pe_op op_mulW (pv 1) (pe_op op_pow pe_int pe_int)))))
    (pss_one (ps_ret (pv 1))))), ?_⟩
  have P60 : CPow 10 60 := ⟨by decide, by decide, by decide +kernel⟩
  refine ⟨_, rfl, (n : Int), rfl, by omega, by omega, ?_⟩
  refine for_range (lo := 0) (n := (n : Int).toNat) (fun i σ H' => H' = H ∧ ∃ s1 : Option V, σ = [some (.int n), some (.int (((10 ^ (60 * i) : Nat)) : Int)), s1]) ⟨rfl, none, rfl⟩ ?_ ?_
  · rintro i σ H' hi ⟨rfl, s1, rfl⟩
    have e60 : ((10 : Int) ^ (60 : Int).toNat) = ((10 ^ 60 : Nat) : Int) := by decide +kernel
    have hsz : Jm.Sz (4 * (60 * i) + 1) (((10 ^ (60 * i) : Nat)) : Int) := by
      show (((10 ^ (60 * i) : Nat)) : Int).natAbs < _
      have e2 : 2 ^ (4 * (60 * i)) = (2 ^ 4) ^ (60 * i) := Nat.pow_mul ..
      rw [Int.natAbs_natCast, Nat.pow_succ, e2]
      have : 10 ^ (60 * i) ≤ (2 ^ 4) ^ (60 * i) := Nat.pow_le_pow_left (by decide) _
      have h1 : 0 < 10 ^ (60 * i) := Nat.pow_pos (by decide)
      generalize (2 ^ 4) ^ (60 * i) = X2 at *
      generalize 10 ^ (60 * i) = X1 at *
      omega
    refine ⟨_, rfl, _, _, rfl, rfl, P60, _, _, rfl, rfl, cmul_sz hsz (sz_lit (n := 200) (by decide +kernel)) (by omega), rfl, some (.int ((0 : Int) + (i : Int))), ?_⟩
    have ev : (((10 ^ (60 * i) : Nat)) : Int) * ((10 : Int) ^ (60 : Int).toNat) = (((10 ^ (60 * (i + 1)) : Nat)) : Int) := by
      rw [e60, ← Int.natCast_mul, ← Nat.pow_add]
      rfl
    rw [← ev]
    rfl
  rintro σ H' ⟨rfl, s1, rfl⟩
  rw [Int.toNat_natCast]
  exact ⟨_, rfl, q⟩
abbrev sd__law_int : Stmt := top 19
abbrev N__law_int : List Str := ["_law_found"]
abbrev P__law_int : List Str := ["_law_found"]
theorem sc__law_int : FnScope N__law_int P__law_int (defScope sd__law_int) := ⟨rfl, rfl, rfl, by decide +kernel, rfl, by decide +kernel, by decide +kernel⟩

theorem ok__law_int (F : At K mg "_law_int" sd__law_int f fd) (m_isinstance : mg "isinstance" = none) (m_int : mg "int" = none) (m_bool : mg "bool" = none) : Dn P w K mg base 1 "_law_int" P__law_int spInt := by
  refine F.ok sc__law_int (fun vs H Q E h => ?_) (fun cdv A outer s H vs Q E hr h => ?_) (fun _ _ _ _ _ _ us hl => match us, hl with | [_], _ => rfl)
  · obtain ⟨a, rfl, _⟩ := h
    rfl
  obtain ⟨i, rfl, q⟩ := h
  refine ⟨_, (pss_one (ps_ret (pe_and (pe_callB (call_isinstK K) (by rfl) m_isinstance PyProof.Rows.boot_isinstance (pa_cons (pv 0) (pa_cons (pe_ty PyProof.Rows.boot_int rfl m_int) pa_nil))) (pe_one (pe_not (pe_callB (call_isinstK K) (by rfl) m_isinstance PyProof.Rows.boot_isinstance (pa_cons (pv 0) (pa_cons (pe_ty PyProof.Rows.boot_bool rfl m_bool) pa_nil)))))))), ?_⟩
  refine ⟨_, rfl, _, _, _, _, rfl, TyOf.int i, isi_same, _, rfl, iteT ?_⟩
  refine ⟨_, rfl, _, _, _, _, rfl, TyOf.int i, isi_int_bool, _, rfl, ?_⟩
  exact q
abbrev sd__law_is : Stmt := top 20
abbrev N__law_is : List Str := ["_law_found", "_law_top", "_law_bottom"]
abbrev P__law_is : List Str := ["_law_found", "_law_top", "_law_bottom"]
theorem sc__law_is : FnScope N__law_is P__law_is (defScope sd__law_is) := ⟨rfl, rfl, rfl, by decide +kernel, rfl, by decide +kernel, by decide +kernel⟩

theorem ok__law_is (F : At K mg "_law_is" sd__law_is f fd) (D__law_int : Dn P w K mg base 1 "_law_int" ["_law_found"] spInt) (D__law_least : Dn P w K mg base 1 "_law_least" ["_law_top", "_law_bottom"] spLeast)
    (m_isinstance : mg "isinstance" = none) (m_tuple : mg "tuple" = none) (m_len : mg "len" = none) : Dn P w K mg base 2 "_law_is" P__law_is spIs := by
  refine F.ok sc__law_is (fun vs H Q E h => ?_) (fun cdv A outer s H vs Q E hr h => ?_) (fun _ _ _ _ _ _ us hl => match us, hl with | [_, _, _], _ => rfl)
  · obtain ⟨p, q, t, b, rfl, _⟩ := h.ex
    rfl
  obtain ⟨p, q, t, b, rfl, hp, h0, h1, e, hq⟩ := h.ex
  refine ⟨_, (pss_cons (ps_if (pt_pure (PW.pt (pw_or (pt_not (pt_val (pe_callB (call_isinstK K) (by rfl) m_isinstance PyProof.Rows.boot_isinstance (pa_cons (pv 0) (pa_cons (pe_ty PyProof.Rows.boot_tuple rfl m_tuple) pa_nil))))) (pw_or1 (pt_cmpR op_ne (pe_callB (call_lenK K) (by rfl) m_len PySem.boot_len (pa_cons (pv 0) pa_nil)) pe_int (nomark _)))))) (pss_one (ps_ret pe_bl)) pss_nil)
    (pss_cons (ps_if (pt_pure (PW.pt (pw_or (pt_not (pt_val (pe_fn D__law_int hr (pa_cons (pe_ix (ix_tupK K) (pv 0) pe_int (fun _ _ => rfl)) pa_nil)))) (pw_or1 (pt_not (pt_val (pe_fn D__law_int hr (pa_cons (pe_ix (ix_tupK K) (pv 0) pe_int (fun _ _ => rfl)) pa_nil)))))))) (pss_one (ps_ret pe_bl)) pss_nil)
    (pss_one (ps_ret (pe_cmpR (op_eqDK K hr.units) (pv 0) (pe_fn D__law_least hr (pa_cons (pv 1) (pa_cons (pv 2) pa_nil))) (nomark _)))))), ?_⟩
  refine ⟨false, ?_, iteF ?_⟩
  · refine ⟨_, rfl, _, _, _, _, rfl, TyOf.tup hp, isi_same, _, rfl, iteF ?_⟩
    exact ⟨_, rfl, _, _, rfl, .inr (SqT.of hp), rfl, _, rfl, rfl, rfl⟩
  refine ⟨false, ?_, iteF ?_⟩
  · refine ⟨_, rfl, p, _, _, _, rfl, rfl, SqT.of hp, rfl, _, rfl, _, rfl, iteF ?_⟩
    exact ⟨_, rfl, p, _, _, _, rfl, rfl, SqT.of hp, rfl, _, rfl, _, rfl, rfl, rfl⟩
  refine ⟨_, rfl, _, rfl, _, rfl, use_least h0 h1 fun r H1 g1 hr1 => ?_⟩
  rw [← e] at hr1
  refine ⟨_, _, dt_rat (g1 _ _ hp), dt_rat hr1, shaped_pair _ _, shaped_pair _ _, ?_⟩
  rw [eqv_pair]
  exact hq H1 g1
abbrev sd__law_ratio_of : Stmt := top 22
abbrev N__law_ratio_of : List Str := ["_law_word", "_law_halves", "_law_top", "_law_bottom"]
abbrev P__law_ratio_of : List Str := ["_law_word"]
theorem sc__law_ratio_of : FnScope N__law_ratio_of P__law_ratio_of (defScope sd__law_ratio_of) := ⟨rfl, rfl, rfl, by decide +kernel, rfl, by decide +kernel, by decide +kernel⟩

theorem ok__law_ratio_of (F : At K mg "_law_ratio_of" sd__law_ratio_of f fd) (D__law_number : Dn P w K mg base 1 "_law_number" ["_law_word"] spNumber) (D__law_least : Dn P w K mg base 1 "_law_least" ["_law_top", "_law_bottom"] spLeast) (m_len : mg "len" = none) : Dn P w K mg base 3 "_law_ratio_of" P__law_ratio_of spRatioOf := by
  refine F.ok sc__law_ratio_of (fun vs H Q E h => ?_) (fun cdv A outer s H vs Q E hr h => ?_) (fun _ _ _ _ _ _ us hl => match us, hl with | [_], _ => rfl)
  · obtain ⟨cs, rfl, _⟩ := h.ex
    rfl
  obtain ⟨cs, rfl, hl, q⟩ := h.ex
  refine ⟨_, (pss_cons (ps_set (i := 1) sc__law_ratio_of.nd rfl (Or.inl rfl) (pe_bm PySem.F.plainAttrs_str PySem.F.slot_str_split PySem.F.type_str_split mt_split1 (pv 0) (pa_cons pe_str pa_nil)))
    (pss_cons (ps_if (pt_cmpR op_ne (pe_callB (call_lenK K) (by rfl) m_len PySem.boot_len (pa_cons (pv 1) pa_nil)) pe_int (nomark _)) (pss_one (ps_ret pe_non)) pss_nil)
    (pss_cons (ps_set (i := 2) sc__law_ratio_of.nd rfl (Or.inl rfl) (pe_fn D__law_number hr (pa_cons (pe_ix (ix_listK K) (pv 1) pe_int (fun _ _ => rfl)) pa_nil)))
    (pss_cons (ps_set (i := 3) sc__law_ratio_of.nd rfl (Or.inl rfl) (pe_fn D__law_number hr (pa_cons (pe_ix (ix_listK K) (pv 1) pe_int (fun _ _ => rfl)) pa_nil)))
    (pss_cons (ps_if (pt_pure (PW.pt (pw_or (pt_cmpR op_isN (pv 2) pe_non (nomark _)) (pw_or (pt_cmpR op_isN (pv 3) pe_non (nomark _)) (pw_or1 (pt_cmpR op_eq (pv 3) pe_int (nomark _))))))) (pss_one (ps_ret pe_non)) pss_nil)
    (pss_cons (ps_if (pt_cmpR (op_neDK K hr.units) (pe_fn D__law_least hr (pa_cons (pv 2) (pa_cons (pv 3) pa_nil))) (pe_tup (pa_cons (pv 2) (pa_cons (pv 3) pa_nil))) (nomark _)) (pss_one (ps_ret pe_non)) pss_nil)
    (pss_one (ps_ret (pe_tup (pa_cons (pv 2) (pa_cons (pv 3) pa_nil))))))))))), ?_⟩
  refine ⟨_, rfl, rfl, cs, 47, rfl, rfl, by omega, fun ps hps => ?_⟩
  have g0 := same_new hps (.lst (txs (splitN cs 47)))
  have hps0 : upd H ps (.lst (txs (splitN cs 47))) ps = some (.lst (txs (splitN cs 47))) := upd_same
  generalize upd H ps (.lst (txs (splitN cs 47))) = H0 at *
  have hlen : (txs (splitN cs 47)).length = (splitN cs 47).length := by unfold txs; rw [List.length_map]
  have hpl := fun p (hp : p ∈ splitN cs 47) => split_part_len hp
  refine ⟨_, rfl, ps, _, rfl, .inl (SqL.of hps0), rfl, _, rfl, ?_⟩
  by_cases h2 : (splitN cs 47).length = 2
  · rw [show decide (V.int ((txs (splitN cs 47)).length : Int) = V.int 2) = true from decide_eq_true (by rw [hlen, h2]; rfl)]
    refine iteF ?_
    obtain ⟨p1, p2, e2⟩ : ∃ p1 p2, splitN cs 47 = [p1, p2] := by
      generalize splitN cs 47 = l at h2
      match l, h2 with
      | [x, y], _ => exact ⟨x, y, rfl⟩
    have l1 : p1.length ≤ cs.length := hpl p1 (by rw [e2]; simp)
    have l2 : p2.length ≤ cs.length := hpl p2 (by rw [e2]; simp)
    have i0 : (txs (splitN cs 47))[0]? = some (.str (tx p1)) := by rw [e2]; rfl
    have i1 : (txs (splitN cs 47))[1]? = some (.str (tx p2)) := by rw [e2]; rfl
    have eP : ratP cs = if (numOk p1 && numOk p2 && !decide (NumText.digitsVal p2 = 0) && decide ((Jm.fr (NumText.digitsVal p1 : Nat) (NumText.digitsVal p2 : Nat)).num = (NumText.digitsVal p1 : Nat) ∧ ((Jm.fr (NumText.digitsVal p1 : Nat) (NumText.digitsVal p2 : Nat)).den : Int) = (NumText.digitsVal p2 : Nat))) = true then some (NumText.digitsVal p1, NumText.digitsVal p2) else none := by
      unfold ratP
      rw [e2]
    refine ⟨_, rfl, ps, _, ((0 : Nat) : Int), _, rfl, rfl, SqL.of hps0, atI_ref i0, use_number (by omega) fun H1 g1 => ?_⟩
    refine ⟨_, rfl, ps, _, ((1 : Nat) : Int), _, rfl, rfl, SqL.of (g1 _ _ hps0), atI_ref i1, use_number (by omega) fun H2 g2 => ?_⟩
    have g02 := g0.trans (g1.trans g2)
    have none_of : (∀ b, (numOk p1 && numOk p2 && !decide (NumText.digitsVal p2 = 0) && b) = false) → Q .non H2 := fun hb => q H2 .non g02 (by rw [eP, hb, if_neg Bool.false_ne_true]; rfl)
    by_cases k1 : numOk p1 = true
    · by_cases k2 : numOk p2 = true
      · have v1 : numV p1 = .int ((NumText.digitsVal p1 : Nat) : Int) := if_pos k1
        have v2 : numV p2 = .int ((NumText.digitsVal p2 : Nat) : Int) := if_pos k2
        rw [v1, v2]
        refine ⟨decide (NumText.digitsVal p2 = 0), ?_, ?_⟩
        · refine ⟨_, rfl, rfl, _, rfl, iteF ⟨_, rfl, rfl, _, rfl, iteF ⟨_, rfl, rfl, _, rfl, ?_, rfl⟩⟩⟩
          exact decide_eq_decide.mpr ⟨fun e => by have := V.int.inj e; omega, fun e => by rw [e]; rfl⟩
        by_cases k3 : NumText.digitsVal p2 = 0
        · rw [decide_eq_true k3]
          refine iteT ?_
          exact none_of fun b => by rw [decide_eq_true k3, Bool.not_true, Bool.and_false, Bool.false_and]
        · rw [decide_eq_false k3]
          refine iteF ?_
          have hb : (0 : Int) < ((NumText.digitsVal p2 : Nat) : Int) := by omega
          have a2 : p2.all (inS "0123456789") = true := by
            unfold numOk at k2
            exact (Bool.and_eq_true_iff.mp (Bool.and_eq_true_iff.mp k2).1).2
          have sb : Jm.Sz 9000 ((NumText.digitsVal p2 : Nat) : Int) := (sz_digits (figs_digits a2)).mono (by omega)
          refine ⟨_, rfl, _, rfl, use_least hb sb fun z3 H3 g3 hz3 => ?_⟩
          have g03 := g02.trans g3
          refine ⟨_, rfl, _, rfl, (by show 2 ≤ sizeLine; decide), fun z4 hz4 => ?_⟩
          have g4 := same_new hz4 (.tup [.int ((NumText.digitsVal p1 : Nat) : Int), .int ((NumText.digitsVal p2 : Nat) : Int)])
          have hz44 : upd H3 z4 (.tup [.int ((NumText.digitsVal p1 : Nat) : Int), .int ((NumText.digitsVal p2 : Nat) : Int)]) z4 = some (.tup [.int ((NumText.digitsVal p1 : Nat) : Int), .int ((NumText.digitsVal p2 : Nat) : Int)]) := upd_same
          generalize upd H3 z4 (.tup [.int ((NumText.digitsVal p1 : Nat) : Int), .int ((NumText.digitsVal p2 : Nat) : Int)]) = H4 at *
          refine ⟨_, _, dt_rat (g4 _ _ hz3), .tup (SqT.of hz44) (.cons (.int _) (.cons (.int _) .nil)), rfl, rfl, _, rfl, ?_⟩
          rw [eqv_pairs]
          by_cases k4 : (Jm.fr (NumText.digitsVal p1 : Nat) (NumText.digitsVal p2 : Nat)).num = (NumText.digitsVal p1 : Nat) ∧ ((Jm.fr (NumText.digitsVal p1 : Nat) (NumText.digitsVal p2 : Nat)).den : Int) = (NumText.digitsVal p2 : Nat)
          · rw [decide_eq_true k4]
            refine iteF ⟨_, rfl, _, rfl, (by show 2 ≤ sizeLine; decide), fun z5 hz5 => ?_⟩
            refine q _ _ ((g03.trans g4).trans (same_new hz5 _)) ?_
            rw [eP, k1, k2, decide_eq_false k3, decide_eq_true k4]
            exact ⟨z5, rfl, upd_same⟩
          · rw [decide_eq_false k4]
            refine iteT ?_
            refine q _ _ (g03.trans g4) ?_
            rw [eP, decide_eq_false k4, Bool.and_false, if_neg Bool.false_ne_true]
            rfl
      · have k2' := Bool.eq_false_iff.mpr k2
        have v2 : numV p2 = .non := if_neg k2
        rw [v2]
        refine ⟨true, ?_, iteT (none_of fun b => by rw [k2', Bool.and_false, Bool.false_and, Bool.false_and])⟩
        have v1 : numV p1 = .int ((NumText.digitsVal p1 : Nat) : Int) := if_pos k1
        rw [v1]
        exact ⟨_, rfl, rfl, _, rfl, iteF ⟨_, rfl, rfl, _, rfl, iteT ⟨rfl, rfl⟩⟩⟩
    · have k1' := Bool.eq_false_iff.mpr k1
      have v1 : numV p1 = .non := if_neg k1
      rw [v1]
      refine ⟨true, ?_, iteT (none_of fun b => by rw [k1', Bool.false_and, Bool.false_and, Bool.false_and])⟩
      exact ⟨_, rfl, rfl, _, rfl, iteT ⟨rfl, rfl⟩⟩
  · rw [show decide (V.int ((txs (splitN cs 47)).length : Int) = V.int 2) = false from decide_eq_false (fun e => h2 (by have := V.int.inj e; omega))]
    refine iteT ?_
    refine q _ _ g0 ?_
    have eP : ratP cs = none := by
      unfold ratP
      generalize splitN cs 47 = l at h2
      match l, h2 with
      | [], _ => rfl
      | [_], _ => rfl
      | [_, _], h2 => exact absurd rfl h2
      | _ :: _ :: _ :: _, _ => rfl
    rw [eP]
    rfl
abbrev sd_law : Stmt := top 23
abbrev N_law : List Str := ["_law_script", "_law_size", "_law_top", "_law_bottom", "_law_one", "_law_word", "_law_way", "_law_due", "_law_found"]
abbrev P_law : List Str := ["_law_script"]
theorem sc_law : FnScope N_law P_law (defScope sd_law) := ⟨rfl, rfl, rfl, by decide +kernel, rfl, by decide +kernel, by decide +kernel⟩

theorem ok_law (F : At K mg "law" sd_law f fd) (D__law_draw : Dn P w K mg base 1 "_law_draw" ["_law_script", "_law_k", "_law_j", "_law_many"] (spDraw K)) (D__law_big : Dn P w K mg base 1 "_law_big" ["_law_many"] spBig) (D__law_spoilt : Dn P w K mg base 2 "_law_spoilt" ["_law_script", "_law_k", "_law_word"] (spSpoilt K)) (D__law_least : Dn P w K mg base 1 "_law_least" ["_law_top", "_law_bottom"] spLeast) (D__law_is : Dn P w K mg base 2 "_law_is" ["_law_found", "_law_top", "_law_bottom"] spIs)
    (D_ratio_text : Dn P w K mg base 2 "ratio_text" ["a"] (spRatText K)) (D_ratio_of : Dn P w K mg base 3 "ratio_of" ["text"] spRatioOf) (D__law_ratio_of : Dn P w K mg base 3 "_law_ratio_of" ["_law_word"] spRatioOf)
    (z_dig : digOk K = true) (m_str : mg "str" = none) (m_isinstance : mg "isinstance" = none) : FnOk P w K mg base CX0 4 f fd P_law (spLaw K) := by
  refine F.fn.ok sc_law (fun vs H Q E h => ?_) (fun cdv A outer s H vs Q E hr h => ?_)
  · obtain ⟨a, ns, rfl, _⟩ := h
    rfl
  obtain ⟨a, ns, rfl, hS, h63, q⟩ := h
  refine ⟨_, (pss_cons (ps_set (i := 1) sc_law.nd rfl (Or.inl rfl) (pe_ix (ix_listK K) (pe_lst (pa_cons pe_int (pa_cons (pe_op op_pow pe_int pe_int) pa_nil))) (pe_fn D__law_draw hr (pa_cons (pv 0) (pa_cons pe_int (pa_cons pe_int (pa_cons pe_int pa_nil))))) (fun _ _ => rfl)))
    (pss_cons (ps_set (i := 2) sc_law.nd rfl (Or.inl rfl) (pe_fn D__law_draw hr (pa_cons (pv 0) (pa_cons pe_int (pa_cons pe_int (pa_cons (pv 1) pa_nil))))))
    (pss_cons (ps_set (i := 3) sc_law.nd rfl (Or.inl rfl) (pe_op op_add pe_int (pe_fn D__law_draw hr (pa_cons (pv 0) (pa_cons pe_int (pa_cons pe_int (pa_cons (pv 1) pa_nil)))))))
    (pss_cons (ps_ifJ (pt_cmpR op_eq (pe_fn D__law_draw hr (pa_cons (pv 0) (pa_cons pe_int (pa_cons pe_int (pa_cons pe_int pa_nil))))) pe_int (nomark _)) (pss_one (ps_set (i := 2) sc_law.nd rfl (Or.inl rfl) (pe_op op_add (pv 2) (pe_op op_pow pe_int pe_int)))) pss_nil)
    (pss_cons (ps_ifJ (pt_cmpR op_eq (pe_fn D__law_draw hr (pa_cons (pv 0) (pa_cons pe_int (pa_cons pe_int (pa_cons pe_int pa_nil))))) pe_int (nomark _)) (pss_one (ps_set (i := 2) sc_law.nd rfl (Or.inl rfl) (pe_op op_add (pv 2) (pe_fn D__law_big hr (pa_cons (pe_op op_add pe_int (pe_fn D__law_draw hr (pa_cons (pv 0) (pa_cons pe_int (pa_cons pe_int (pa_cons pe_int pa_nil)))))) pa_nil))))) pss_nil)
    (pss_cons (ps_set (i := 4) sc_law.nd rfl (Or.inl rfl) (pe_fn D__law_least hr (pa_cons (pv 2) (pa_cons (pv 3) pa_nil))))
    (pss_cons (ps_set (i := 5) sc_law.nd rfl (Or.inl rfl) (pe_fn D_ratio_text hr (pa_cons (pv 4) pa_nil)))
    (pss_cons (ps_if (pt_pure (PW.pt (pw_or (pt_not (pt_val (pe_callB (call_isinstK K) (by rfl) m_isinstance PyProof.Rows.boot_isinstance (pa_cons (pv 5) (pa_cons (pe_ty PyProof.Rows.boot_str rfl m_str) pa_nil))))) (pw_or1 (pt_cmpR op_ne (pv 5) (pe_op op_add_str (pe_op op_add_str (pe_callTy (call_str_big rfl z_dig) (by rfl) m_str PyProof.Rows.boot_str (pa_cons (pe_ix (ix_tupK K) (pv 4) pe_int (fun _ _ => rfl)) pa_nil)) pe_str) (pe_callTy (call_str_big rfl z_dig) (by rfl) m_str PyProof.Rows.boot_str (pa_cons (pe_ix (ix_tupK K) (pv 4) pe_int (fun _ _ => rfl)) pa_nil))) (nomark _)))))) (pss_one (ps_ret pe_bl)) pss_nil)
    (pss_cons (ps_if (pt_not (pt_val (pe_fn D__law_is hr (pa_cons (pe_fn D_ratio_of hr (pa_cons (pv 5) pa_nil)) (pa_cons (pe_ix (ix_tupK K) (pv 4) pe_int (fun _ _ => rfl)) (pa_cons (pe_ix (ix_tupK K) (pv 4) pe_int (fun _ _ => rfl)) pa_nil)))))) (pss_one (ps_ret pe_bl)) pss_nil)
    (pss_cons (ps_set (i := 6) sc_law.nd rfl (Or.inl rfl) (pe_fn D__law_draw hr (pa_cons (pv 0) (pa_cons pe_int (pa_cons pe_int (pa_cons pe_int pa_nil))))))
    (pss_cons (ps_ifJ (pt_cmpR op_eq (pv 6) pe_int (nomark _)) (pss_one (ps_set (i := 5) sc_law.nd rfl (Or.inl rfl) (pe_op op_add_str (pe_op op_add_str (pe_callTy (call_str_big rfl z_dig) (by rfl) m_str PyProof.Rows.boot_str (pa_cons (pv 2) pa_nil)) pe_str) (pe_callTy (call_str_big rfl z_dig) (by rfl) m_str PyProof.Rows.boot_str (pa_cons (pv 3) pa_nil))))) pss_nil)
    (pss_cons (ps_ifJ (pt_cmpR op_eq (pv 6) pe_int (nomark _)) (pss_one (ps_set (i := 5) sc_law.nd rfl (Or.inl rfl) (pe_op op_add_str (pe_callTy (call_str_big rfl z_dig) (by rfl) m_str PyProof.Rows.boot_str (pa_cons (pv 2) pa_nil)) pe_str))) pss_nil)
    (pss_cons (ps_set (i := 5) sc_law.nd rfl (Or.inl rfl) (pe_fn D__law_spoilt hr (pa_cons (pv 0) (pa_cons pe_int (pa_cons (pv 5) pa_nil)))))
    (pss_cons (ps_set (i := 7) sc_law.nd rfl (Or.inl rfl) (pe_fn D__law_ratio_of hr (pa_cons (pv 5) pa_nil)))
    (pss_cons (ps_set (i := 8) sc_law.nd rfl (Or.inl rfl) (pe_fn D_ratio_of hr (pa_cons (pv 5) pa_nil)))
    (pss_cons (ps_if (pt_cmpR op_isN (pv 7) pe_non (nomark _)) (pss_one (ps_ret (pe_cmpR op_isN (pv 8) pe_non (nomark _)))) pss_nil)
    (pss_one (ps_ret (pe_fn D__law_is hr (pa_cons (pv 8) (pa_cons (pe_ix (ix_tupK K) (pv 7) pe_int (fun _ _ => rfl)) (pa_cons (pe_ix (ix_tupK K) (pv 7) pe_int (fun _ _ => rfl)) pa_nil)))))))))))))))))))))), ?_⟩
  have P9 : CPow 10 9 := ⟨by decide, by decide, by decide +kernel⟩
  have P30 : CPow 10 30 := ⟨by decide, by decide, by decide +kernel⟩
  have e30 : (10 : Int) ^ (30 : Int).toNat = ((10 ^ 30 : Nat) : Int) := by decide +kernel
  refine ⟨_, _, rfl, rfl, P9, (by show 2 ≤ sizeLine; decide), fun p1 hp1 => ?_⟩
  have g1 := same_new hp1 (.lst [.int 12, .int (10 ^ (9 : Int).toNat)])
  refine ⟨_, rfl, use_draw (g1.seq hS) h63 (by decide) (by decide) (by decide) (by decide) fun d _ d0 d1 => ?_⟩
  obtain ⟨B, hB, hB0, hB1⟩ : ∃ B : Int, atI [V.int 12, V.int (10 ^ (9 : Int).toNat)] d = some (.int B) ∧ 0 < B ∧ B ≤ 1000000000 := by
    rcases (by omega : d = 0 ∨ d = 1) with e | e
    · exact ⟨12, by rw [e]; rfl, by decide, by decide⟩
    · exact ⟨10 ^ (9 : Int).toNat, by rw [e]; rfl, by decide +kernel, by decide +kernel⟩
  refine ⟨p1, _, _, _, rfl, rfl, SqL.of upd_same, hB, ?_⟩
  generalize upd H p1 (.lst [.int 12, .int (10 ^ (9 : Int).toNat)]) = H1 at *
  have hS1 := g1.seq hS
  clear hp1 g1
  refine ⟨_, rfl, _, rfl, use_draw hS1 h63 (by decide) (by decide) (by decide) hB0 fun t0 _ t00 t01 => ?_⟩
  refine ⟨_, rfl, _, rfl, use_draw hS1 h63 (by decide) (by decide) (by decide) hB0 fun b0 _ b00 b01 => ⟨_, _, rfl, rfl, ?_⟩⟩
  obtain ⟨tn0, rfl⟩ : ∃ n : Nat, t0 = (n : Int) := ⟨t0.toNat, by omega⟩
  obtain ⟨bn, ebn⟩ : ∃ n : Nat, 1 + b0 = (n : Int) := ⟨(1 + b0).toNat, by omega⟩
  have hbn : 0 < bn := by omega
  have hbn1 : bn ≤ 1000000000 := by omega
  show gName 3 (.int (1 + b0)) _ _ _
  rw [ebn]
  -- the top
  refine ⟨fun σ H' => H' = H1 ∧ ∃ n : Nat, n ≤ 1000000000 + 10 ^ 30 ∧ σ = [some (.ref a), some (.int B), some (.int (n : Int)), some (.int (bn : Int)), none, none, none, none, none], ?_, ?_⟩
  · refine ⟨_, rfl, use_draw hS1 h63 (by decide) (by decide) (by decide) (by decide) fun w _ _ _ => ⟨rfl, _, rfl, ite2 (fun _ => ?_) (fun _ => ?_)⟩⟩
    · refine ⟨_, rfl, _, _, rfl, rfl, P30, _, _, rfl, rfl, rfl, tn0 + 10 ^ 30, Nat.add_le_add_right (by omega) _, ?_⟩
      rw [e30, Int.natCast_add]
      rfl
    · exact ⟨rfl, tn0, Nat.le_trans (show tn0 ≤ 1000000000 by omega) (Nat.le_add_right _ _), rfl⟩
  rintro σ H' ⟨rfl, n1, hn1, rfl⟩
  refine ⟨fun σ H2 => H2 = H' ∧ ∃ n : Nat, n < 10 ^ (999 + 1) ∧ σ = [some (.ref a), some (.int B), some (.int (n : Int)), some (.int (bn : Int)), none, none, none, none, none], ?_, ?_⟩
  · refine ⟨_, rfl, use_draw hS1 h63 (by decide) (by decide) (by decide) (by decide) fun w _ _ _ => ⟨rfl, _, rfl, ite2 (fun _ => ?_) (fun _ => ?_)⟩⟩
    · refine ⟨_, rfl, _, rfl, use_draw hS1 h63 (by decide) (by decide) (by decide) (by decide) fun b _ b0 b1 => ⟨_, _, rfl, rfl, ?_⟩⟩
      obtain ⟨k, ek⟩ : ∃ k : Nat, 1 + b = (k : Int) := ⟨(1 + b).toNat, by omega⟩
      refine use_big ek (by omega) ?_
      have hpk : 10 ^ (60 * k) ≤ 10 ^ 960 := Nat.pow_le_pow_right (by decide) (by omega)
      refine ⟨_, _, rfl, rfl, rfl, n1 + 10 ^ (60 * k), ?_, ?_⟩
      · have h2 : 1000000000 + 10 ^ 30 + 10 ^ 960 < 10 ^ (999 + 1) := by decide +kernel
        exact Nat.lt_of_le_of_lt (Nat.add_le_add hn1 hpk) h2
      · rw [Int.natCast_add]
        rfl
    · have h2 : 1000000000 + 10 ^ 30 < 10 ^ (999 + 1) := by decide +kernel
      exact ⟨rfl, n1, Nat.lt_of_le_of_lt hn1 h2, rfl⟩
  rintro σ H2 ⟨rfl, tn, htn, rfl⟩
  -- in lowest terms
  have sb : Jm.Sz 9000 (bn : Int) := (Jm.Sz.of_abs (n := 30) (B := 1000000000) (by omega) (by omega) (sz_lit (by decide +kernel))).mono (by decide)
  refine ⟨_, rfl, _, rfl, use_least (by omega) sb fun po H3 g3 hpo => ?_⟩
  have hS3 := g3.seq hS1
  have hlow := fr_low (tn : Int) (bn : Int) (by omega)
  have hden0 := Jm.den_pos (Jm.fr (tn : Int) (bn : Int))
  have hdenle := Jm.fr_den_le (tn : Int) (bn : Int) (by omega)
  have hnum := Jm.fr_bounds (tn : Int) (bn : Int) (tn : Int) (by omega) (by omega) (Int.le_refl _)
  have hnum0 : 0 ≤ (Jm.fr (tn : Int) (bn : Int)).num := Rat.num_nonneg.mpr (fr_nonneg (by omega) (by omega))
  obtain ⟨x, ex⟩ : ∃ x : Nat, (Jm.fr (tn : Int) (bn : Int)).num = (x : Int) := ⟨(Jm.fr (tn : Int) (bn : Int)).num.toNat, by omega⟩
  obtain ⟨y, ey⟩ : ∃ y : Nat, ((Jm.fr (tn : Int) (bn : Int)).den : Int) = (y : Int) := ⟨_, rfl⟩
  have hpo' : H3 po = some (.tup [.int (x : Int), .int (y : Int)]) := by
    rw [hpo]
    show some (HO.tup [.int (Jm.fr (tn : Int) (bn : Int)).num, .int ((Jm.fr (tn : Int) (bn : Int)).den : Int)]) = _
    rw [ex, ey]
  rw [ex, ey] at hlow
  have hy0 : 0 < y := by omega
  have hx1 : x < 10 ^ (999 + 1) := Nat.lt_of_le_of_lt (show x ≤ tn by omega) htn
  have hy1 : y < 10 ^ (9 + 1) := Nat.lt_of_le_of_lt (show y ≤ 1000000000 by omega) (by decide +kernel)
  clear hpo hnum hnum0 hden0
  have up : ∀ {v k : Nat}, v < 10 ^ (k + 1) → k ≤ 1999 → v < 10 ^ 2000 := fun h hk => Nat.lt_of_lt_of_le h (Nat.pow_le_pow_right (by decide) (by omega))
  have up2 : ∀ {v k : Nat}, v < 10 ^ (k + 1) → k ≤ 1999 → ((v : Nat) : Int).natAbs < 10 ^ 4300 := fun h hk => by
    rw [Int.natAbs_natCast]
    exact Nat.lt_of_lt_of_le h (Nat.pow_le_pow_right (by decide) (by omega))
  have lx := digs_len hx1
  have ly := digs_len hy1
  refine ⟨_, rfl, use_rattext hpo' (up hx1 (by decide)) (up hy1 (by decide)) fun H4 g4 => ?_⟩
  have hpo4 := g4 _ _ hpo'
  have z47 : ("/" : Str) = tx [47] := rfl
  refine ⟨false, ?_, iteF ?_⟩
  · refine ⟨_, rfl, _, _, _, _, rfl, TyOf.str _, isi_same, _, rfl, iteF ?_⟩
    refine ⟨_, rfl, _, rfl, po, _, ((0 : Nat) : Int), _, rfl, rfl, SqT.of hpo4, rfl, (x : Int), rfl, up2 hx1 (by decide), ?_⟩
    rw [str_digs x]
    refine ⟨_, _, rfl, rfl, (by rw [z47, tx_length, tx_length, sizeLine_eq]; show _ + 1 ≤ _; omega), ?_⟩
    rw [z47, tx_cat]
    refine ⟨_, rfl, po, _, ((1 : Nat) : Int), _, rfl, rfl, SqT.of hpo4, rfl, (y : Int), rfl, up2 hy1 (by decide), ?_⟩
    rw [str_digs y]
    refine ⟨_, _, rfl, rfl, (by rw [tx_length, tx_length, List.length_append, sizeLine_eq]; show _ + 1 + _ ≤ _; omega), ?_⟩
    rw [tx_cat]
    refine ⟨rfl, _, rfl, ?_, rfl⟩
    show (!decide (V.str (tx (digs x ++ [47] ++ digs y)) = V.str (tx (digs x ++ [47] ++ digs y)))) = false
    rw [decide_eq_true rfl]
    rfl
  refine ⟨_, rfl, use_ratioof (by rw [List.length_append, List.length_append]; show _ + 1 + _ ≤ _; omega) fun H5 v g5 hv => ?_⟩
  rw [ratP_digs hy0 hlow] at hv
  obtain ⟨z5, rfl, hz5⟩ := hv
  rw [ratO_low hlow] at hz5
  have hpo5 := g5 _ _ hpo4
  have sy : Jm.Sz 9000 (y : Int) := (Jm.Sz.of_abs (n := 30) (B := 1000000000) (by omega) (by omega) (sz_lit (by decide +kernel))).mono (by decide)
  refine ⟨_, rfl, po, _, ((0 : Nat) : Int), _, rfl, rfl, SqT.of hpo5, rfl, _, rfl, po, _, ((1 : Nat) : Int), _, rfl, rfl, SqT.of hpo5, rfl, ?_⟩
  refine use_is hz5 (by omega) sy rfl fun H6 g6 => ⟨_, rfl, iteF ?_⟩
  have hS6 := (g4.trans (g5.trans g6)).seq hS3
  refine ⟨_, rfl, use_draw hS6 h63 (by decide) (by decide) (by decide) (by decide) fun way _ _ _ => ?_⟩
  have ltn := digs_len htn
  have hb1 : bn < 10 ^ (9 + 1) := Nat.lt_of_le_of_lt hbn1 (by decide +kernel)
  have lbn := digs_len hb1
  -- other words
  refine ⟨fun σ H7 => H7 = H6 ∧ ∃ cs : List Nat, cs.length ≤ 1500 ∧ σ = [some (.ref a), some (.int B), some (.int (tn : Int)), some (.int (bn : Int)), some (.ref po), some (.str (tx cs)), some (.int way), none, none], ?_, ?_⟩
  · refine ⟨_, rfl, rfl, _, rfl, ite2 (fun _ => ?_) (fun _ => ?_)⟩
    · refine ⟨_, rfl, (tn : Int), rfl, up2 htn (by decide), ?_⟩
      rw [str_digs tn]
      refine ⟨_, _, rfl, rfl, (by rw [z47, tx_length, tx_length, sizeLine_eq]; show _ + 1 ≤ _; omega), ?_⟩
      rw [z47, tx_cat]
      refine ⟨_, rfl, (bn : Int), rfl, up2 hb1 (by decide), ?_⟩
      rw [str_digs bn]
      refine ⟨_, _, rfl, rfl, (by rw [tx_length, tx_length, List.length_append, sizeLine_eq]; show _ + 1 + _ ≤ _; omega), ?_⟩
      rw [tx_cat]
      exact ⟨rfl, _, (by rw [List.length_append, List.length_append]; show _ + 1 + _ ≤ _; omega), rfl⟩
    · exact ⟨rfl, _, (by rw [List.length_append, List.length_append]; show _ + 1 + _ ≤ _; omega), rfl⟩
  rintro σ H7 ⟨rfl, cs1, hl1, rfl⟩
  refine ⟨fun σ H8 => H8 = H7 ∧ ∃ cs : List Nat, cs.length ≤ 1500 ∧ σ = [some (.ref a), some (.int B), some (.int (tn : Int)), some (.int (bn : Int)), some (.ref po), some (.str (tx cs)), some (.int way), none, none], ?_, ?_⟩
  · refine ⟨_, rfl, rfl, _, rfl, ite2 (fun _ => ?_) (fun _ => ?_)⟩
    · refine ⟨_, rfl, (tn : Int), rfl, up2 htn (by decide), ?_⟩
      rw [str_digs tn]
      have z0 : ("/0" : Str) = tx [47, 48] := rfl
      refine ⟨_, _, rfl, rfl, (by rw [z0, tx_length, tx_length, sizeLine_eq]; show _ + 2 ≤ _; omega), ?_⟩
      rw [z0, tx_cat]
      exact ⟨rfl, _, (by rw [List.length_append]; show _ + 2 ≤ _; omega), rfl⟩
    · exact ⟨rfl, cs1, hl1, rfl⟩
  rintro σ H8 ⟨rfl, cs, hl, rfl⟩
  refine ⟨_, rfl, _, rfl, use_spoilt hS6 h63 (by decide) (by omega) fun ds hds => ?_⟩
  refine ⟨_, rfl, use_ratioof (by omega) fun H9 v9 g9 hv9 => ?_⟩
  refine ⟨_, rfl, use_ratioof (by omega) fun Ha va ga hva => ?_⟩
  cases hP : ratP ds with
  | none =>
    rw [hP] at hv9 hva
    cases (show v9 = .non from hv9)
    cases (show va = .non from hva)
    refine ⟨_, rfl, rfl, _, rfl, iteT ?_⟩
    exact ⟨_, rfl, rfl, q _⟩
  | some tb =>
    obtain ⟨t, b⟩ := tb
    rw [hP] at hv9 hva
    obtain ⟨z9, rfl, hz9⟩ := hv9
    obtain ⟨za, rfl, hza⟩ := hva
    obtain ⟨hb0, hlo⟩ := ratP_some hP
    have hsz := ratP_len hP (by omega)
    rw [ratO_low hlo] at hza
    refine ⟨_, rfl, rfl, _, rfl, iteF ?_⟩
    have hz9a := ga _ _ hz9
    refine ⟨_, rfl, _, rfl, z9, _, ((0 : Nat) : Int), _, rfl, rfl, SqT.of hz9a, rfl, _, rfl, z9, _, ((1 : Nat) : Int), _, rfl, rfl, SqT.of hz9a, rfl, ?_⟩
    exact use_is hza (by omega) (hsz.mono (by decide)) rfl fun Hb gb => q _
end
theorem all_mk {l : PySem.W.OpenLaw} {w : World} {K : PySem.W.Frag} {h : Heap} {mg : Str → Option Value} {fa : Addr} (X : K.In h) (G : h.Ns mainGlobals mg) (hfa : mg "law" = some (.ref fa))
    {f0 : Addr} {od0 an0 : Option Addr} {sl0 : Array (Option Value)} {oc0 kV0 dc0 pm0 cd0 ct0 : Value}
    {f1 : Addr} {od1 an1 : Option Addr} {sl1 : Array (Option Value)} {oc1 kV1 dc1 pm1 cd1 ct1 : Value}
    {f2 : Addr} {od2 an2 : Option Addr} {sl2 : Array (Option Value)} {oc2 kV2 dc2 pm2 cd2 ct2 : Value}
    {f3 : Addr} {od3 an3 : Option Addr} {sl3 : Array (Option Value)} {oc3 kV3 dc3 pm3 cd3 ct3 : Value}
    {f4 : Addr} {od4 an4 : Option Addr} {sl4 : Array (Option Value)} {oc4 kV4 dc4 pm4 cd4 ct4 : Value}
    {f5 : Addr} {od5 an5 : Option Addr} {sl5 : Array (Option Value)} {oc5 kV5 dc5 pm5 cd5 ct5 : Value}
    {f6 : Addr} {od6 an6 : Option Addr} {sl6 : Array (Option Value)} {oc6 kV6 dc6 pm6 cd6 ct6 : Value}
    {f7 : Addr} {od7 an7 : Option Addr} {sl7 : Array (Option Value)} {oc7 kV7 dc7 pm7 cd7 ct7 : Value}
    {f8 : Addr} {od8 an8 : Option Addr} {sl8 : Array (Option Value)} {oc8 kV8 dc8 pm8 cd8 ct8 : Value}
    {f9 : Addr} {od9 an9 : Option Addr} {sl9 : Array (Option Value)} {oc9 kV9 dc9 pm9 cd9 ct9 : Value}
    {f10 : Addr} {od10 an10 : Option Addr} {sl10 : Array (Option Value)} {oc10 kV10 dc10 pm10 cd10 ct10 : Value}
    {f11 : Addr} {od11 an11 : Option Addr} {sl11 : Array (Option Value)} {oc11 kV11 dc11 pm11 cd11 ct11 : Value}
    {f12 : Addr} {od12 an12 : Option Addr} {sl12 : Array (Option Value)} {oc12 kV12 dc12 pm12 cd12 ct12 : Value}
    {f13 : Addr} {od13 an13 : Option Addr} {sl13 : Array (Option Value)} {oc13 kV13 dc13 pm13 cd13 ct13 : Value}
    {f14 : Addr} {od14 an14 : Option Addr} {sl14 : Array (Option Value)} {oc14 kV14 dc14 pm14 cd14 ct14 : Value}
    {f15 : Addr} {od15 an15 : Option Addr} {sl15 : Array (Option Value)} {oc15 kV15 dc15 pm15 cd15 ct15 : Value}
    {f16 : Addr} {od16 an16 : Option Addr} {sl16 : Array (Option Value)} {oc16 kV16 dc16 pm16 cd16 ct16 : Value}
    {f17 : Addr} {od17 an17 : Option Addr} {sl17 : Array (Option Value)} {oc17 kV17 dc17 pm17 cd17 ct17 : Value}
    (a0 : PySem.W.nsIn K mainGlobals "common_factor" = some (some (.ref f0))) (l0 : K.lookup f0 = some ⟨oc0, od0, .func (PySem.W.fnOf "common_factor" "common_factor" (defArgs sd_common_factor) (defBody sd_common_factor) (defScope sd_common_factor) .none kV0 dc0 pm0 an0 cd0 ct0), sl0⟩) (c0 : PySem.W.codeIn K cd0 "common_factor" = true) (k0 : PySem.W.keepIn K (.ref f0) = true)
    (a1 : PySem.W.nsIn K mainGlobals "lowest" = some (some (.ref f1))) (l1 : K.lookup f1 = some ⟨oc1, od1, .func (PySem.W.fnOf "lowest" "lowest" (defArgs sd_lowest) (defBody sd_lowest) (defScope sd_lowest) .none kV1 dc1 pm1 an1 cd1 ct1), sl1⟩) (c1 : PySem.W.codeIn K cd1 "lowest" = true) (k1 : PySem.W.keepIn K (.ref f1) = true)
    (a2 : PySem.W.nsIn K mainGlobals "number" = some (some (.ref f2))) (l2 : K.lookup f2 = some ⟨oc2, od2, .func (PySem.W.fnOf "number" "number" (defArgs sd_number) (defBody sd_number) (defScope sd_number) .none kV2 dc2 pm2 an2 cd2 ct2), sl2⟩) (c2 : PySem.W.codeIn K cd2 "number" = true) (k2 : PySem.W.keepIn K (.ref f2) = true)
    (a3 : PySem.W.nsIn K mainGlobals "ratio_text" = some (some (.ref f3))) (l3 : K.lookup f3 = some ⟨oc3, od3, .func (PySem.W.fnOf "ratio_text" "ratio_text" (defArgs sd_ratio_text) (defBody sd_ratio_text) (defScope sd_ratio_text) .none kV3 dc3 pm3 an3 cd3 ct3), sl3⟩) (c3 : PySem.W.codeIn K cd3 "ratio_text" = true) (k3 : PySem.W.keepIn K (.ref f3) = true)
    (a4 : PySem.W.nsIn K mainGlobals "ratio_of" = some (some (.ref f4))) (l4 : K.lookup f4 = some ⟨oc4, od4, .func (PySem.W.fnOf "ratio_of" "ratio_of" (defArgs sd_ratio_of) (defBody sd_ratio_of) (defScope sd_ratio_of) .none kV4 dc4 pm4 an4 cd4 ct4), sl4⟩) (c4 : PySem.W.codeIn K cd4 "ratio_of" = true) (k4 : PySem.W.keepIn K (.ref f4) = true)
    (a5 : PySem.W.nsIn K mainGlobals "made_of" = some (some (.ref f5))) (l5 : K.lookup f5 = some ⟨oc5, od5, .func (PySem.W.fnOf "made_of" "made_of" (defArgs sd_made_of) (defBody sd_made_of) (defScope sd_made_of) .none kV5 dc5 pm5 an5 cd5 ct5), sl5⟩) (c5 : PySem.W.codeIn K cd5 "made_of" = true) (k5 : PySem.W.keepIn K (.ref f5) = true)
    (a6 : PySem.W.nsIn K mainGlobals "value_of" = some (some (.ref f6))) (l6 : K.lookup f6 = some ⟨oc6, od6, .func (PySem.W.fnOf "value_of" "value_of" (defArgs sd_value_of) (defBody sd_value_of) (defScope sd_value_of) .none kV6 dc6 pm6 an6 cd6 ct6), sl6⟩) (c6 : PySem.W.codeIn K cd6 "value_of" = true) (k6 : PySem.W.keepIn K (.ref f6) = true)
    (a7 : PySem.W.nsIn K mainGlobals "figures_of" = some (some (.ref f7))) (l7 : K.lookup f7 = some ⟨oc7, od7, .func (PySem.W.fnOf "figures_of" "figures_of" (defArgs sd_figures_of) (defBody sd_figures_of) (defScope sd_figures_of) .none kV7 dc7 pm7 an7 cd7 ct7), sl7⟩) (c7 : PySem.W.codeIn K cd7 "figures_of" = true) (k7 : PySem.W.keepIn K (.ref f7) = true)
    (a8 : PySem.W.nsIn K mainGlobals "_law_draw" = some (some (.ref f8))) (l8 : K.lookup f8 = some ⟨oc8, od8, .func (PySem.W.fnOf "_law_draw" "_law_draw" (defArgs sd__law_draw) (defBody sd__law_draw) (defScope sd__law_draw) .none kV8 dc8 pm8 an8 cd8 ct8), sl8⟩) (c8 : PySem.W.codeIn K cd8 "_law_draw" = true) (k8 : PySem.W.keepIn K (.ref f8) = true)
    (a9 : PySem.W.nsIn K mainGlobals "_law_sign" = some (some (.ref f9))) (l9 : K.lookup f9 = some ⟨oc9, od9, .func (PySem.W.fnOf "_law_sign" "_law_sign" (defArgs sd__law_sign) (defBody sd__law_sign) (defScope sd__law_sign) .none kV9 dc9 pm9 an9 cd9 ct9), sl9⟩) (c9 : PySem.W.codeIn K cd9 "_law_sign" = true) (k9 : PySem.W.keepIn K (.ref f9) = true)
    (a10 : PySem.W.nsIn K mainGlobals "_law_spoilt" = some (some (.ref f10))) (l10 : K.lookup f10 = some ⟨oc10, od10, .func (PySem.W.fnOf "_law_spoilt" "_law_spoilt" (defArgs sd__law_spoilt) (defBody sd__law_spoilt) (defScope sd__law_spoilt) .none kV10 dc10 pm10 an10 cd10 ct10), sl10⟩) (c10 : PySem.W.codeIn K cd10 "_law_spoilt" = true) (k10 : PySem.W.keepIn K (.ref f10) = true)
    (a11 : PySem.W.nsIn K mainGlobals "_law_number" = some (some (.ref f11))) (l11 : K.lookup f11 = some ⟨oc11, od11, .func (PySem.W.fnOf "_law_number" "_law_number" (defArgs sd__law_number) (defBody sd__law_number) (defScope sd__law_number) .none kV11 dc11 pm11 an11 cd11 ct11), sl11⟩) (c11 : PySem.W.codeIn K cd11 "_law_number" = true) (k11 : PySem.W.keepIn K (.ref f11) = true)
    (a12 : PySem.W.nsIn K mainGlobals "_law_least" = some (some (.ref f12))) (l12 : K.lookup f12 = some ⟨oc12, od12, .func (PySem.W.fnOf "_law_least" "_law_least" (defArgs sd__law_least) (defBody sd__law_least) (defScope sd__law_least) .none kV12 dc12 pm12 an12 cd12 ct12), sl12⟩) (c12 : PySem.W.codeIn K cd12 "_law_least" = true) (k12 : PySem.W.keepIn K (.ref f12) = true)
    (a13 : PySem.W.nsIn K mainGlobals "_law_int" = some (some (.ref f13))) (l13 : K.lookup f13 = some ⟨oc13, od13, .func (PySem.W.fnOf "_law_int" "_law_int" (defArgs sd__law_int) (defBody sd__law_int) (defScope sd__law_int) .none kV13 dc13 pm13 an13 cd13 ct13), sl13⟩) (c13 : PySem.W.codeIn K cd13 "_law_int" = true) (k13 : PySem.W.keepIn K (.ref f13) = true)
    (a14 : PySem.W.nsIn K mainGlobals "_law_is" = some (some (.ref f14))) (l14 : K.lookup f14 = some ⟨oc14, od14, .func (PySem.W.fnOf "_law_is" "_law_is" (defArgs sd__law_is) (defBody sd__law_is) (defScope sd__law_is) .none kV14 dc14 pm14 an14 cd14 ct14), sl14⟩) (c14 : PySem.W.codeIn K cd14 "_law_is" = true) (k14 : PySem.W.keepIn K (.ref f14) = true)
    (a15 : PySem.W.nsIn K mainGlobals "_law_big" = some (some (.ref f15))) (l15 : K.lookup f15 = some ⟨oc15, od15, .func (PySem.W.fnOf "_law_big" "_law_big" (defArgs sd__law_big) (defBody sd__law_big) (defScope sd__law_big) .none kV15 dc15 pm15 an15 cd15 ct15), sl15⟩) (c15 : PySem.W.codeIn K cd15 "_law_big" = true) (k15 : PySem.W.keepIn K (.ref f15) = true)
    (a16 : PySem.W.nsIn K mainGlobals "_law_ratio_of" = some (some (.ref f16))) (l16 : K.lookup f16 = some ⟨oc16, od16, .func (PySem.W.fnOf "_law_ratio_of" "_law_ratio_of" (defArgs sd__law_ratio_of) (defBody sd__law_ratio_of) (defScope sd__law_ratio_of) .none kV16 dc16 pm16 an16 cd16 ct16), sl16⟩) (c16 : PySem.W.codeIn K cd16 "_law_ratio_of" = true) (k16 : PySem.W.keepIn K (.ref f16) = true)
    (a17 : PySem.W.nsIn K mainGlobals "law" = some (some (.ref f17))) (l17 : K.lookup f17 = some ⟨oc17, od17, .func (PySem.W.fnOf "law" "law" (defArgs sd_law) (defBody sd_law) (defScope sd_law) .none kV17 dc17 pm17 an17 cd17 ct17), sl17⟩) (c17 : PySem.W.codeIn K cd17 "law" = true) (k17 : PySem.W.keepIn K (.ref f17) = true)
    (z_len : PySem.W.nsIn K mainGlobals "len" = some none)
    (z_range : PySem.W.nsIn K mainGlobals "range" = some none)
    (z_all : PySem.W.nsIn K mainGlobals "all" = some none)
    (z_int : PySem.W.nsIn K mainGlobals "int" = some none)
    (z_bool : PySem.W.nsIn K mainGlobals "bool" = some none)
    (z_str : PySem.W.nsIn K mainGlobals "str" = some none)
    (z_isinstance : PySem.W.nsIn K mainGlobals "isinstance" = some none)
    (z_abs : PySem.W.nsIn K mainGlobals "abs" = some none)
    (z_tuple : PySem.W.nsIn K mainGlobals "tuple" = some none)
    (z_divmod : PySem.W.nsIn K mainGlobals "divmod" = some none)
    {tk_FIGURES : Tok} (b_FIGURES : PySem.W.nsIn K mainGlobals "FIGURES" = some (some (.str "0123456789" tk_FIGURES)))
    {tk_WIDTH : Tok} (b_WIDTH : PySem.W.nsIn K mainGlobals "WIDTH" = some (some (.int 64 tk_WIDTH)))
    {tk_GROUP : Tok} (b_GROUP : PySem.W.nsIn K mainGlobals "GROUP" = some (some (.int (10 ^ 64) tk_GROUP)))
    {ocD : Value} {odD : Option Addr} {esD : Array DictEntry} {nD : Nat} {slD : Array (Option Value)} (l_dig : K.lookup cStatics = some ⟨ocD, odD, .dict esD nD, slD⟩) (h_dig : keysOk esD = true)
    : ∃ fd : FuncData, (∀ (s : Shared) (v : Value), BindsTo s fd ⟨[v], []⟩ [("_law_script", v)]) ∧ ∀ base : Heap, K.In base → base.Ns mainGlobals mg → FnOk l.prog w K mg base CX0 4 fa fd ["_law_script"] (spLaw K) := by
  have e := hfa.symm.trans (PySem.W.mg_of X G a17)
  cases e
  have F_common_factor := at_mk (st := sd_common_factor) X G a0 l0 c0 k0
  have F_lowest := at_mk (st := sd_lowest) X G a1 l1 c1 k1
  have F_number := at_mk (st := sd_number) X G a2 l2 c2 k2
  have F_ratio_text := at_mk (st := sd_ratio_text) X G a3 l3 c3 k3
  have F_ratio_of := at_mk (st := sd_ratio_of) X G a4 l4 c4 k4
  have F_made_of := at_mk (st := sd_made_of) X G a5 l5 c5 k5
  have F_value_of := at_mk (st := sd_value_of) X G a6 l6 c6 k6
  have F_figures_of := at_mk (st := sd_figures_of) X G a7 l7 c7 k7
  have F__law_draw := at_mk (st := sd__law_draw) X G a8 l8 c8 k8
  have F__law_sign := at_mk (st := sd__law_sign) X G a9 l9 c9 k9
  have F__law_spoilt := at_mk (st := sd__law_spoilt) X G a10 l10 c10 k10
  have F__law_number := at_mk (st := sd__law_number) X G a11 l11 c11 k11
  have F__law_least := at_mk (st := sd__law_least) X G a12 l12 c12 k12
  have F__law_int := at_mk (st := sd__law_int) X G a13 l13 c13 k13
  have F__law_is := at_mk (st := sd__law_is) X G a14 l14 c14 k14
  have F__law_big := at_mk (st := sd__law_big) X G a15 l15 c15 k15
  have F__law_ratio_of := at_mk (st := sd__law_ratio_of) X G a16 l16 c16 k16
  have F_law := at_mk (st := sd_law) X G a17 l17 c17 k17
  have m_len := PySem.W.mg_none_of X G z_len
  have m_range := PySem.W.mg_none_of X G z_range
  have m_all := PySem.W.mg_none_of X G z_all
  have m_int := PySem.W.mg_none_of X G z_int
  have m_bool := PySem.W.mg_none_of X G z_bool
  have m_str := PySem.W.mg_none_of X G z_str
  have m_isinstance := PySem.W.mg_none_of X G z_isinstance
  have m_abs := PySem.W.mg_none_of X G z_abs
  have m_tuple := PySem.W.mg_none_of X G z_tuple
  have m_divmod := PySem.W.mg_none_of X G z_divmod
  have m_FIGURES := PySem.W.mg_of X G b_FIGURES
  have m_WIDTH := PySem.W.mg_of X G b_WIDTH
  have m_GROUP := PySem.W.mg_of X G b_GROUP
  have z_dig : digOk K = true := digOk_of l_dig h_dig
  refine ⟨PySem.W.fnOf "law" "law" (defArgs sd_law) (defBody sd_law) (defScope sd_law) .none kV17 dc17 pm17 an17 cd17 ct17, fun s v => .of_eq rfl, fun base _ _ => ?_⟩
  have D1 := ok_made_of (P := l.prog) (w := w) (base := base) F_made_of m_all
  have D2 := ok_value_of (P := l.prog) (w := w) (base := base) F_value_of z_dig m_len m_int m_range m_WIDTH m_GROUP
  have D3 := ok_number F_number D1 D2 m_len m_FIGURES
  have D4 := ok_common_factor (P := l.prog) (w := w) (base := base) F_common_factor
  have D5 := ok_lowest F_lowest D4 m_abs
  have D6 := ok_figures_of (P := l.prog) (w := w) (base := base) F_figures_of z_dig m_str m_divmod m_WIDTH m_GROUP
  have D7 := ok_ratio_text F_ratio_text D6
  have D8 := ok_ratio_of F_ratio_of D3 D5 m_len
  have E1 := ok__law_draw (P := l.prog) (w := w) (base := base) F__law_draw m_len m_range
  have E2 := ok__law_sign (P := l.prog) (w := w) (base := base) F__law_sign
  have E3 := ok__law_spoilt F__law_spoilt E1 E2 m_len
  have E4 := ok__law_number (P := l.prog) (w := w) (base := base) F__law_number z_dig m_len m_int
  have E5 := ok__law_int (P := l.prog) (w := w) (base := base) F__law_int m_isinstance m_int m_bool
  have E6 := ok__law_big (P := l.prog) (w := w) (base := base) F__law_big m_range
  have E7 := ok__law_least (P := l.prog) (w := w) (base := base) F__law_least m_abs
  have E8 := ok__law_is F__law_is E5 E7 m_isinstance m_tuple m_len
  have E9 := ok__law_ratio_of F__law_ratio_of E4 E7 m_len
  exact ok_law F_law E1 E6 E3 E7 E8 D7 D8 E9 z_dig m_str m_isinstance
theorem walk {l : PySem.W.OpenLaw} {q : Program} {loose : List Str} {XP : (Str → Option Value) → Heap → Prop} {YP : World → Heap → Prop} {d : DefRec} {K : Params → PySem.W.Frag} (hn : l.most = some 63) (hdf : d.params.defaults = [])
    (hY : ∀ (w : World) (h : Heap), YP w h → (K w.params).In h)
    (F : ∀ (w : World) (mg : Str → Option Value) (fa : Addr) (h : Heap), (K w.params).In h → h.Ns mainGlobals mg → mg d.name = some (.ref fa) →
      ∃ fd : FuncData, (∀ (s : Shared) (u : Value), BindsTo s fd ⟨[u], []⟩ [("_law_script", u)]) ∧ ∀ base : Heap, (K w.params).In base → base.Ns mainGlobals mg → FnOk l.prog w (K w.params) mg base CX0 4 fa fd ["_law_script"] (spLaw (K w.params))) :
    PySem.W.WalkO q loose XP YP l.row.toRowW d [] (fun f vs => PySem.call f vs) :=
  L2.walk_of (n := 63) (k := 4) (x := "_law_script") (CX := fun _ => CX0) (sp := fun w => spLaw (K w.params)) hn (by decide) hdf ⟨rfl, by decide, by decide⟩ hY F (fun _ _ a ns hl _ hS => ⟨a, ns, rfl, hS, hl, fun _ => rfl⟩) fun _ _ _ _ _ z => z
end Law
open PySem PySem.W PyProof.Rows
set_option maxRecDepth 100000 in
set_option maxHeartbeats 0 in
theorem PySem.Challenge.cw_jettison_k14_fractions_written_holds : PySem.Challenge.rw_jettison_k14_fractions_written.Holds := by
  w_on; o_law; k_head; (case hw => w_witness2)
  k_fill
  refine Law.walk (l := PySem.Challenge.rw_jettison_k14_fractions_written) rfl rfl (fun w h Y => PySem.W.kIn_of Y) ?F
  case F =>
    intro w mg fa h KX G hmg
    refine' Law.all_mk KX G hmg ?a0 ?l0 ?c0 ?k0 ?a1 ?l1 ?c1 ?k1 ?a2 ?l2 ?c2 ?k2 ?a3 ?l3 ?c3 ?k3 ?a4 ?l4 ?c4 ?k4 ?a5 ?l5 ?c5 ?k5 ?a6 ?l6 ?c6 ?k6 ?a7 ?l7 ?c7 ?k7 ?a8 ?l8 ?c8 ?k8 ?a9 ?l9 ?c9 ?k9 ?a10 ?l10 ?c10 ?k10 ?a11 ?l11 ?c11 ?k11 ?a12 ?l12 ?c12 ?k12 ?a13 ?l13 ?c13 ?k13 ?a14 ?l14 ?c14 ?k14 ?a15 ?l15 ?c15 ?k15 ?a16 ?l16 ?c16 ?k16 ?a17 ?l17 ?c17 ?k17 ?z_len ?z_range ?z_all ?z_int ?z_bool ?z_str ?z_isinstance ?z_abs ?z_tuple ?z_divmod ?b_FIGURES ?b_WIDTH ?b_GROUP ?l_dig ?h_dig
    (case a0 => k_is); (case l0 => k_is); (case c0 => k_is); (case k0 => k_is)
    (case a1 => k_is); (case l1 => k_is); (case c1 => k_is); (case k1 => k_is)
    (case a2 => k_is); (case l2 => k_is); (case c2 => k_is); (case k2 => k_is)
    (case a3 => k_is); (case l3 => k_is); (case c3 => k_is); (case k3 => k_is)
    (case a4 => k_is); (case l4 => k_is); (case c4 => k_is); (case k4 => k_is)
    (case a5 => k_is); (case l5 => k_is); (case c5 => k_is); (case k5 => k_is)
    (case a6 => k_is); (case l6 => k_is); (case c6 => k_is); (case k6 => k_is)
    (case a7 => k_is); (case l7 => k_is); (case c7 => k_is); (case k7 => k_is)
    (case a8 => k_is); (case l8 => k_is); (case c8 => k_is); (case k8 => k_is)
    (case a9 => k_is); (case l9 => k_is); (case c9 => k_is); (case k9 => k_is)
    (case a10 => k_is); (case l10 => k_is); (case c10 => k_is); (case k10 => k_is)
    (case a11 => k_is); (case l11 => k_is); (case c11 => k_is); (case k11 => k_is)
    (case a12 => k_is); (case l12 => k_is); (case c12 => k_is); (case k12 => k_is)
    (case a13 => k_is); (case l13 => k_is); (case c13 => k_is); (case k13 => k_is)
    (case a14 => k_is); (case l14 => k_is); (case c14 => k_is); (case k14 => k_is)
    (case a15 => k_is); (case l15 => k_is); (case c15 => k_is); (case k15 => k_is)
    (case a16 => k_is); (case l16 => k_is); (case c16 => k_is); (case k16 => k_is)
    (case a17 => k_is); (case l17 => k_is); (case c17 => k_is); (case k17 => k_is)
    (case z_len => k_is)
    (case z_range => k_is)
    (case z_all => k_is)
    (case z_int => k_is)
    (case z_bool => k_is)
    (case z_str => k_is)
    (case z_isinstance => k_is)
    (case z_abs => k_is)
    (case z_tuple => k_is)
    (case z_divmod => k_is)
    (case b_FIGURES => k_is)
    (case b_WIDTH => k_is)
    (case b_GROUP => k_is)
    (case l_dig => k_is); (case h_dig => rfl)


