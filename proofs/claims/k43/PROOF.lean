import PyProof.Rows.All
import Wide.All
import OpenK.AllK
import Wide.FinOn
import Lean
import PyProof.EqAt
import PyProof.EqKinds
import PyProof.TupleCall
import PySem.Challenge.RW_jettison_k43_lines_read_or_refused
set_option Elab.async false
set_option linter.all false
set_option maxRecDepth 100000
set_option Elab.async false
set_option linter.all false
set_option maxRecDepth 100000
namespace L2
open PySem PySem.Spec PyProof.Rows
abbrev Key := Sum Int Str
def keyIs : Key → Value → Bool
  | .inl k, v => Value.isInt k v
  | .inr x, v => Value.isStrOf x v
def keyH (w : World) : Key → Int
  | .inl k => hashInt k
  | .inr x => hashStr w x
theorem keyIs_shape : ∀ {k : Key} {v : Value}, keyIs k v = true → (∃ i t, k = Sum.inl i ∧ v = Value.int i t) ∨ (∃ x t, k = Sum.inr x ∧ v = Value.str x t)
  | .inl i, v, h => by
    obtain ⟨t, e⟩ := Value.isInt_shape (k := i) (v := v) h
    exact .inl ⟨i, t, rfl, e⟩
  | .inr x, v, h => by
    obtain ⟨t, e⟩ := Value.isStrOf_shape (x := x) (v := v) h
    exact .inr ⟨x, t, rfl, e⟩
theorem keyIs_int (i : Int) (t : Tok) : keyIs (.inl i) (.int i t) = true := by simp [keyIs, Value.isInt]
theorem keyIs_str (x : Str) (t : Tok) : keyIs (.inr x) (.str x t) = true := by simp [keyIs, Value.isStrOf]
theorem key_ll (a b : Int) : decide ((Sum.inl a : Key) = Sum.inl b) = (a == b) := by
  by_cases e : a = b
  · subst e; simp
  · have h : ¬ (Sum.inl a : Key) = Sum.inl b := fun q => e (Sum.inl.inj q)
    rw [decide_eq_false h]
    exact (beq_eq_false_iff_ne.mpr e).symm
theorem key_rr (a b : Str) : decide ((Sum.inr a : Key) = Sum.inr b) = decide (a = b) := by
  by_cases e : a = b
  · subst e; simp
  · have h : ¬ (Sum.inr a : Key) = Sum.inr b := fun q => e (Sum.inr.inj q)
    rw [decide_eq_false h, decide_eq_false e]
theorem key_lr (a : Int) (b : Str) : decide ((Sum.inl a : Key) = Sum.inr b) = false := decide_eq_false (fun q => nomatch q)
theorem key_rl (a : Str) (b : Int) : decide ((Sum.inr a : Key) = Sum.inl b) = false := decide_eq_false (fun q => nomatch q)
def mixKind (prog : Program) (w : World) : PySem.KeyKind prog w Key where
  is := keyIs
  hash := keyH w
  inj := fun v a b ha hb => by
    rcases keyIs_shape ha with ⟨i, t, rfl, rfl⟩ | ⟨x, t, rfl, rfl⟩
    · rcases keyIs_shape hb with ⟨j, u, rfl, e⟩ | ⟨y, u, rfl, e⟩
      · injection e with e1 _; rw [e1]
      · exact nomatch e
    · rcases keyIs_shape hb with ⟨j, u, rfl, e⟩ | ⟨y, u, rfl, e⟩
      · exact nomatch e
      · injection e with e1 _; rw [e1]
  byValue := fun k v h => by
    rcases keyIs_shape h with ⟨i, t, rfl, rfl⟩ | ⟨x, t, rfl, rfl⟩ <;> rfl
  pyHash := fun hv h => by
    rcases keyIs_shape hv with ⟨i, t, rfl, rfl⟩ | ⟨x, t, rfl, rfl⟩
    · exact wpAny_pyHash_int h
    · exact wpAny_pyHash_str h
  eqBool := fun hu hv h => by
    rcases keyIs_shape hu with ⟨i, t, rfl, rfl⟩ | ⟨x, t, rfl, rfl⟩
    · rcases keyIs_shape hv with ⟨j, u, rfl, rfl⟩ | ⟨y, u, rfl, rfl⟩
      · rw [key_ll] at h; exact wpAny_eqBool_int h
      · rw [key_lr] at h; exact SeqAt.EqAt.int_str i t y u _ _ _ _ h
    · rcases keyIs_shape hv with ⟨j, u, rfl, rfl⟩ | ⟨y, u, rfl, rfl⟩
      · rw [key_rl] at h; exact SeqAt.EqAt.str_int x t j u _ _ _ _ h
      · rw [key_rr] at h; exact wpAny_eqBool_str h
  «strs» := fun k x t v h => by
    rcases keyIs_shape h with ⟨i, u, rfl, e⟩ | ⟨y, u, rfl, e⟩
    · exact nomatch e
    · injection e with e1 _
      subst e1
      cases v <;> rfl
theorem mixKind_is (prog : Program) (w : World) (k : Key) (v : Value) : (mixKind prog w).is k v = keyIs k v := rfl
theorem mixKind_int (prog : Program) (w : World) (i : Int) (t : Tok) : (mixKind prog w).is (.inl i) (.int i t) = true := keyIs_int i t
theorem mixKind_str (prog : Program) (w : World) (x : Str) (t : Tok) : (mixKind prog w).is (.inr x) (.str x t) = true := keyIs_str x t
end L2
namespace L2
open PySem PySem.Spec PyProof.Rows
inductive V where
  | non | bl (b : Bool) | int (i : Int) | str (x : Str) | byt (b : Array UInt8) | flt (b : UInt64) | ref (a : Addr) | ty (n : String)
  deriving DecidableEq
def RelV : V → Value → Prop
  | .non, u => u = Value.none
  | .bl b, u => u = Value.bool b
  | .int i, u => ∃ t, u = Value.int i t
  | .str x, u => ∃ t, u = Value.str x t
  | .byt b, u => ∃ t, u = Value.bytes b t
  | .flt b, u => ∃ t, u = Value.float b t
  | .ref a, u => u = Value.ref a
  | .ty n, u => u = Value.type n
abbrev Vals : List V → List Value → Prop := Paired RelV
theorem Vals.length {xs : List V} {us : List Value} (r : Vals xs us) : xs.length = us.length := Paired.length r
theorem Vals.get : ∀ {xs : List V} {us : List Value} {i : Nat} {x : V}, Vals xs us → xs[i]? = some x → ∃ u, us[i]? = some u ∧ RelV x u
  | _, _, _, _, .nil, e => by simp at e
  | _, _, 0, _, .cons r _, e => by simp at e; subst e; exact ⟨_, rfl, r⟩
  | _, _, i + 1, x, .cons _ t, e => by
    obtain ⟨u, h1, h2⟩ := Vals.get (i := i) (x := x) t (by simpa using e)
    exact ⟨u, by simpa using h1, h2⟩
theorem Vals.set {x : V} {u : Value} (r : RelV x u) : ∀ {xs : List V} {us : List Value} (i : Nat), Vals xs us → Vals (xs.set i x) (us.set i u)
  | _, _, _, .nil => .nil
  | _, _, 0, .cons _ t => .cons r t
  | _, _, i + 1, .cons q t => .cons q (Vals.set r i t)
theorem Vals.append : ∀ {xs ys : List V} {us ws : List Value}, Vals xs us → Vals ys ws → Vals (xs ++ ys) (us ++ ws)
  | _, _, _, _, .nil, s => s
  | _, _, _, _, .cons r t, s => .cons r (Vals.append t s)
theorem Vals.take : ∀ {xs : List V} {us : List Value} (n : Nat), Vals xs us → Vals (xs.take n) (us.take n)
  | _, _, 0, _ => .nil
  | _, _, _ + 1, .nil => .nil
  | _, _, n + 1, .cons r t => .cons r (Vals.take n t)
theorem Vals.drop : ∀ {xs : List V} {us : List Value} (n : Nat), Vals xs us → Vals (xs.drop n) (us.drop n)
  | _, _, 0, r => r
  | _, _, _ + 1, .nil => .nil
  | _, _, n + 1, .cons _ t => Vals.drop n t
def RelO : Option V → Option Value → Prop
  | some v, some u => RelV v u
  | none, none => True
  | _, _ => False
def KV {κ : Type} : List (κ × V) → List (κ × Value) → Prop := Paired fun (p : κ × V) (q : κ × Value) => p.1 = q.1 ∧ RelV p.2 q.2
def kV : Key → V
  | .inl i => .int i
  | .inr x => .str x
inductive HO where
  | lst (xs : List V)
  | tup (xs : List V)
  | dK (kvs : List (Key × V)) | dT (kvs : List (List Key × V))
  | set (S : Int → Bool) (n : Nat)
  | ins (C dx : Addr) (fs : List (Str × V))
  | own (x : Addr)
  | xd (fs : List (Str × V))
  | met (f x : Addr)
  | rng (lo hi : Int)
  | frz (o : Obj) (u : HO)
  | tbl (ps : Array Value)
  | ext (φ : Heap → Prop)
abbrev Hp := Addr → Option HO
def upd (H : Hp) (a : Addr) (o : HO) : Hp := fun b => if b = a then some o else H b
theorem upd_same {H : Hp} {a : Addr} {o : HO} : upd H a o a = some o := by unfold upd; rw [if_pos rfl]
theorem upd_ne {H : Hp} {a b : Addr} {o : HO} (h : b ≠ a) : upd H a o b = H b := by unfold upd; rw [if_neg h]
theorem upd_upd {H : Hp} {a : Addr} {o u : HO} : upd (upd H a o) a u = upd H a u := by
  funext b; unfold upd; split <;> rfl
theorem ne_of {H : Hp} {a b : Addr} {o u : HO} (h : H a = some o) (h' : H b = some u) (d : o ≠ u) : a ≠ b := by
  intro e; subst e; rw [h] at h'; exact d (Option.some.inj h')
theorem ne_of_none {H : Hp} {a b : Addr} {o : HO} (h : H a = some o) (h' : H b = none) : a ≠ b := by
  intro e; subst e; rw [h] at h'; cases h'
section
variable (P : Program) (w : World)
def ObjOk (H : Hp) (h : Heap) (a : Addr) : HO → Prop
  | .lst xs => xs.length ≤ sizeLine ∧ ∃ (its : List Value) (n : Nat), Vals xs its ∧ h.get? a = some { cls := .type "list", data := .seq its.toArray n }
  | .tup xs => xs.length ≤ sizeLine ∧ ∃ its : List Value, Vals xs its ∧ IsTup h a its.toArray
  | .dK kvs => kvs.length ≤ sizeLine ∧ (a == sysModules) = false ∧ ∃ vs, KV kvs vs ∧ h.DictOf (mixKind P w) a vs
  | .dT kvs => kvs.length ≤ sizeLine ∧ (a == sysModules) = false ∧ ∃ xs : List (List Key × Addr × Value),
      Paired (fun (p : List Key × V) (q : List Key × Addr × Value) => p.1 = q.1 ∧ H q.2.1 = some (.tup (p.1.map kV)) ∧ RelV p.2 q.2.2) kvs xs ∧
      ∃ o es ep, h.get? a = some o ∧ o.ExactDict ∧ o.data = .dict es ep ∧ es.toList = xs.map (entryOfKey (tupleKind (mixKind P w))) ∧ (xs.map (·.1)).Nodup
  | .set S n => h.SetOf (intKind P w) a S n
  | .ins C dx fs => H dx = some (.own a) ∧ fs.length ≤ 1000 ∧ dx ≠ a ∧ h.get? a = some (PySem.W.instObj C dx) ∧
      ∃ mA, h.Ns1 dx mA ∧ (∀ f, RelO (fs.lookup f) (mA f)) ∧ PySem.Within mA (fs.map (·.1))
  | .own _ => ∃ o, h.get? a = some o
  | .xd fs => ∃ mA, h.Ns1 a mA ∧ ∀ f, RelO (fs.lookup f) (mA f)
  | .rng lo hi => ∃ t u v, h.get? a = some { cls := .type "range", data := .fields #[.int lo t, .int hi u, .int 1 v] }
  | .frz o u => h.get? a = some o ∧ ObjOk H h a u
  | .tbl ps => h.get? a = some { cls := .none, data := .fields ps }
  | .met f x => h.get? a = some (PySem.W.methodObj (.ref f) (.ref x))
  | .ext φ => φ h ∧ (∃ o, h.get? a = some o) ∧ ∀ h1 h2 : Heap, φ h1 → (∀ o, h1.get? a = some o → h2.get? a = some o) → φ h2
def HOk (H : Hp) (h : Heap) : Prop := ∀ a o, H a = some o → ObjOk P w H h a o
end
section
variable {P : Program} {w : World} {H H' : Hp} {h h' : Heap} {a : Addr} {o : HO}
theorem ObjOk.lt (x : ObjOk P w H h a o) : a < h.objs.size := by
  cases o with
  | lst xs => obtain ⟨_, _, _, _, e⟩ := x; exact Heap.lt_size e
  | tup xs => obtain ⟨_, _, _, p⟩ := x; exact p.lt
  | dK kvs => obtain ⟨_, _, _, _, o, _, _, e, _⟩ := x; exact Heap.lt_size e
  | dT kvs => obtain ⟨_, _, _, _, o, _, _, e, _⟩ := x; exact Heap.lt_size e
  | set S n => obtain ⟨o, _, _, _, e, _⟩ := x; exact Heap.lt_size e
  | ins C dx fs => obtain ⟨_, _, _, e, _⟩ := x; exact Heap.lt_size e
  | own y => obtain ⟨_, e⟩ := x; exact Heap.lt_size e
  | xd fs => obtain ⟨_, ⟨_, _, _, e, _⟩, _⟩ := x; exact Heap.lt_size e
  | rng lo hi => obtain ⟨_, _, _, e⟩ := x; exact Heap.lt_size e
  | frz ob u => obtain ⟨e, _⟩ := x; exact Heap.lt_size e
  | tbl ps => exact Heap.lt_size (show h.get? a = some _ from x)
  | met f y => exact Heap.lt_size (show h.get? a = some _ from x)
  | ext φ => obtain ⟨_, ⟨_, e⟩, _⟩ := x; exact Heap.lt_size e
theorem Paired.mapP {α β : Type} {F G : α → β → Prop} : ∀ {l₁ : List α} {l₂ : List β}, Paired F l₁ l₂ → (∀ a b, F a b → G a b) → Paired G l₁ l₂
  | _, _, .nil, _ => .nil
  | _, _, .cons r t, f => .cons (f _ _ r) (Paired.mapP t f)
theorem ObjOk.stay (x : ObjOk P w H h a o) (k : ∀ b u, (b = a ∨ H b = some (.own a)) → h.get? b = some u → h'.get? b = some u)
    (ho : ∀ b, H b = some (.own a) → H' b = some (.own a)) (ht : ∀ b xs, H b = some (.tup xs) → H' b = some (.tup xs)) : ObjOk P w H' h' a o := by
  induction o with
  | lst xs => obtain ⟨z, its, n, r, e⟩ := x; exact ⟨z, its, n, r, k _ _ (.inl rfl) e⟩
  | tup xs => obtain ⟨z, its, r, ob, e, c⟩ := x; exact ⟨z, its, r, ob, k _ _ (.inl rfl) e, c⟩
  | dK kvs => obtain ⟨z, y, vs, r, ob, es, ep, e, c⟩ := x; exact ⟨z, y, vs, r, ob, es, ep, k _ _ (.inl rfl) e, c⟩
  | dT kvs =>
    obtain ⟨z, y, xs, r, ob, es, ep, e, c⟩ := x
    exact ⟨z, y, xs, Paired.mapP r fun p q z => ⟨z.1, ht _ _ z.2.1, z.2.2⟩, ob, es, ep, k _ _ (.inl rfl) e, c⟩
  | set S n => obtain ⟨ob, es, ep, t, e, c⟩ := x; exact ⟨ob, es, ep, t, k _ _ (.inl rfl) e, c⟩
  | ins C dx fs =>
    obtain ⟨d, z, ne, e, mA, ⟨od, es, ep, e2, c⟩, r⟩ := x
    exact ⟨ho _ d, z, ne, k _ _ (.inl rfl) e, mA, ⟨od, es, ep, k _ _ (.inr d) e2, c⟩, r⟩
  | own y => obtain ⟨ob, e⟩ := x; exact ⟨ob, k _ _ (.inl rfl) e⟩
  | xd fs => obtain ⟨mA, ⟨od, es, ep, e, c⟩, r⟩ := x; exact ⟨mA, ⟨od, es, ep, k _ _ (.inl rfl) e, c⟩, r⟩
  | rng lo hi => obtain ⟨t, u, v, e⟩ := x; exact ⟨t, u, v, k _ _ (.inl rfl) e⟩
  | frz ob u ih => obtain ⟨e, q⟩ := x; exact ⟨k _ _ (.inl rfl) e, ih q⟩
  | tbl ps =>
    have e : h.get? a = some { cls := .none, data := .fields ps } := x
    show h'.get? a = some { cls := .none, data := .fields ps }
    exact k a _ (.inl rfl) e
  | met f y =>
    have e : h.get? a = some (PySem.W.methodObj (.ref f) (.ref y)) := x
    show h'.get? a = some (PySem.W.methodObj (.ref f) (.ref y))
    exact k a _ (.inl rfl) e
  | ext φ => obtain ⟨p, ⟨o, e⟩, st⟩ := x; exact ⟨st _ _ p fun o q => k _ _ (.inl rfl) q, ⟨o, k _ _ (.inl rfl) e⟩, st⟩
theorem HOk.lt (x : HOk P w H h) (e : H a = some o) : a < h.objs.size := (x a o e).lt
theorem HOk.fresh (x : HOk P w H h) (e : h.objs.size ≤ a) : H a = none := by
  cases q : H a with
  | none => rfl
  | some u => exact absurd (Nat.lt_of_lt_of_le (x.lt q) e) (Nat.lt_irrefl _)
theorem HOk.kept (x : HOk P w H h) (k : ∀ b u, h.get? b = some u → h'.get? b = some u) : HOk P w H h' := fun a o e =>
  (x a o e).stay (fun b u _ q => k b u q) (fun _ q => q) fun _ _ q => q
theorem HOk.laid (x : HOk P w H h) (k : ∀ b u, h.get? b = some u → h'.get? b = some u) (hp : h.objs.size ≤ a) (new : ObjOk P w (upd H a o) h' a o) : HOk P w (upd H a o) h' := fun b u e => by
  have hn := x.fresh hp
  by_cases hb : b = a
  · subst hb; rw [upd_same] at e; cases e; exact new
  · rw [upd_ne hb] at e
    exact (x b u e).stay (fun c v _ q => k c v q) (fun c q => by rw [upd_ne (ne_of_none q hn)]; exact q) fun c xs q => by rw [upd_ne (ne_of_none q hn)]; exact q
end
def Rd (H : Hp) (a : Addr) (u : HO) : Prop := H a = some u ∨ ∃ o, H a = some (.frz o u)
theorem Rd.ok {P : Program} {w : World} {H : Hp} {h : Heap} {a : Addr} {u : HO} (r : Rd H a u) (x : HOk P w H h) : ObjOk P w H h a u := by
  rcases r with r | ⟨o, r⟩
  · exact x a u r
  · obtain ⟨_, q⟩ := x a _ r
    exact q
def Mut : Option HO → Prop
  | some (.lst _) => True
  | some (.dK _) => True
  | some (.dT _) => True
  | some (.set _ _) => True
  | some (.ins _ _ _) => True
  | some (.ext _) => True
  | _ => False
section
variable {P : Program} {w : World} {H : Hp} {h h' : Heap} {x e : Addr} {o' : HO}
theorem HOk.write (ok : HOk P w H h) (mu : Mut (H x)) (he : e = x ∨ H e = some (.own x)) (k : ∀ b u, b ≠ e → h.get? b = some u → h'.get? b = some u) (heo : ∃ u, h'.get? e = some u)
    (new : ObjOk P w (upd H x o') h' x o') : HOk P w (upd H x o') h' := fun b u q => by
  have nown : ∀ c y, H c = some (.own y) → c ≠ x := fun c y r z => by subst z; rw [r] at mu; exact mu
  have ntup : ∀ c xs, H c = some (.tup xs) → c ≠ x := fun c xs r z => by subst z; rw [r] at mu; exact mu
  by_cases hb : b = x
  · subst hb; rw [upd_same] at q; cases q; exact new
  · rw [upd_ne hb] at q
    by_cases hbe : b = e
    · have q' : H b = some (.own x) := by
        rcases he with z | z
        · exact absurd (hbe.trans z) hb
        · rw [hbe]; exact z
      rw [q] at q'; cases q'
      obtain ⟨v, hv⟩ := heo
      exact ⟨v, by rw [hbe]; exact hv⟩
    · refine (ok b u q).stay (fun c v hc r => k c v ?_ r) (fun c r => by rw [upd_ne (nown c b r)]; exact r) fun c xs r => by rw [upd_ne (ntup c xs r)]; exact r
      rcases hc with rfl | hc
      · exact hbe
      · rintro rfl
        rcases he with z | z
        · exact nown c b hc z
        · rw [hc] at z; cases z; exact hb rfl
end
structure Un (fs ex : List Addr) (H H' : Hp) (h h' : Heap) : Prop where
  keep : ∀ b o, h.get? b = some o → H b = none → b ∉ fs → b ∉ ex → h'.get? b = some o
  slot : ∀ b o, h.get? b = some o → H b = none → b ∈ fs → b ∉ ex → ∃ sl, h'.get? b = some { o with slots := sl }
  free : ∀ b o, h.get? b = some o → H b = none → b ∉ ex → H' b = none
  there : ∀ b o, h.get? b = some o → b ∉ ex → ∃ o', h'.get? b = some o'
  tups : ∀ b xs, H b = some (.tup xs) → H' b = some (.tup xs)
  frzs : ∀ b o u, H b = some (.frz o u) → H' b = some (.frz o u)
  tbls : ∀ b ps, H b = some (.tbl ps) → ∃ more, H' b = some (.tbl (ps ++ more))
section
variable {fs fs' ex ex' : List Addr} {H H1 H2 : Hp} {h h1 h2 h' : Heap} {a x e : Addr} {o : HO}
theorem Un.any (u : Un fs ex H H1 h h1) {b : Addr} {ob : Obj} (q : h.get? b = some ob) (n : H b = none) (hx : b ∉ ex) : ∃ sl, h1.get? b = some { ob with slots := sl } := by
  by_cases hb : b ∈ fs
  · exact u.slot b ob q n hb hx
  · exact ⟨ob.slots, u.keep b ob q n hb hx⟩
theorem Un.kept (k : ∀ b u, h.get? b = some u → h'.get? b = some u) : Un fs ex H H h h' :=
  ⟨fun b ob q _ _ _ => k b ob q, fun b ob q _ _ _ => ⟨ob.slots, k b ob q⟩, fun _ _ _ n _ => n, fun b ob q _ => ⟨ob, k b ob q⟩, fun _ _ q => q, fun _ _ _ q => q, fun _ ps q => ⟨#[], by rw [q]; simp⟩⟩
theorem Un.refl : Un fs ex H H h h := Un.kept fun _ _ q => q
theorem Un.laid (k : ∀ b u, h.get? b = some u → h'.get? b = some u) (hp : h.objs.size ≤ a) (hn : H a = none) : Un fs ex H (upd H a o) h h' where
  keep := fun b u q _ _ _ => k b u q
  slot := fun b u q _ _ _ => ⟨u.slots, k b u q⟩
  free := fun b u q n _ => by rw [upd_ne (Nat.ne_of_lt (Nat.lt_of_lt_of_le (Heap.lt_size q) hp))]; exact n
  there := fun b u q _ => ⟨u, k b u q⟩
  tups := fun b xs q => by rw [upd_ne (ne_of_none q hn)]; exact q
  frzs := fun b u xs q => by rw [upd_ne (ne_of_none q hn)]; exact q
  tbls := fun b ps q => ⟨#[], by rw [upd_ne (ne_of_none q hn), q]; simp⟩
theorem Un.write (mu : Mut (H x)) (he : e = x ∨ H e = some (.own x)) (k : ∀ b u, b ≠ e → h.get? b = some u → h'.get? b = some u) (heo : ∃ u, h'.get? e = some u) : Un fs ex H (upd H x o) h h' := by
  have hx : ∀ b, H b = none → b ≠ x := fun b n z => by subst z; rw [n] at mu; exact mu
  have hb : ∀ b, H b = none → b ≠ e := fun b n z => by
    subst z
    rcases he with r | r
    · exact hx b n r
    · rw [n] at r; cases r
  have hm : ∀ b u, H b = some u → ¬ Mut (some u) → b ≠ x := fun b u q nm z => by subst z; rw [q] at mu; exact nm mu
  refine ⟨fun b u q n _ _ => k b u (hb b n) q, fun b u q n _ _ => ⟨u.slots, k b u (hb b n) q⟩, fun b u q n _ => by rw [upd_ne (hx b n)]; exact n, fun b u q _ => ?_,
    fun b xs q => by rw [upd_ne (hm b _ q fun z => z)]; exact q, fun b u xs q => by rw [upd_ne (hm b _ q fun z => z)]; exact q, fun b ps q => ⟨#[], by rw [upd_ne (hm b _ q fun z => z), q]; simp⟩⟩
  by_cases hbe : b = e
  · subst hbe; exact heo
  · exact ⟨u, k b u hbe q⟩
end
def trk (h : Heap) (H : Hp) : List Addr := (List.range h.objs.size).filter fun a => (H a).isSome
def hidT (h : Heap) (H : Hp) : Heap := PySem.W.hideAll h (trk h H)
theorem hidT_size (h : Heap) (H : Hp) : (hidT h H).objs.size = h.objs.size := PySem.W.hideAll_size _ _
theorem hidT_get {h : Heap} {H : Hp} {b : Addr} {o : Obj} (e : h.get? b = some o) (n : H b = none) : (hidT h H).get? b = some o :=
  PySem.W.hideAll_get _ e fun hm => by
    have q : (H b).isSome = true := (List.mem_filter.mp hm).2
    rw [n] at q; simp at q
theorem of_hidT {h : Heap} {H : Hp} {b : Addr} {o : Obj} (e : (hidT h H).get? b = some o) : h.get? b = some o ∧ H b = none := by
  have e' : h.get? b = some o := PySem.W.of_hideAll (trk h H) e
  refine ⟨e', ?_⟩
  cases q : H b with
  | none => rfl
  | some x =>
    have hm : b ∈ trk h H := List.mem_filter.mpr ⟨List.mem_range.mpr (Heap.lt_size e'), by simp [q]⟩
    have z : (hidT h H).get? b = none := PySem.W.hideAll_none (trk h H) hm
    rw [z] at e; cases e
end L2
namespace L2
open PySem PySem.Spec PyProof.Rows
structure Mod (K : PySem.W.Frag) (mg : Str → Option Value) (base : Heap) : Prop where
  kin : K.In base
  glob : base.Ns mainGlobals mg
  blt : ∃ mb, base.Ns builtinsNs mb ∧ ∀ x : Str, x ≠ "__name__" → mb x = bootBuiltins x
  nolimit : base.NoLimit
structure Cx where
  prog : Program
  w : World
  K : PySem.W.Frag
  mg : Str → Option Value
  base : Heap
  A : Around
  N : List Str
  s₀ : Shared
  H₀ : Hp
  env : Env
  outer : List Env
  stack : List Env
  ex : List Addr
  fn : Str → Bool
  calm : Bool
  pn : List (Addr × Obj)
  xe : Value → Shared → Prop
def frs (l : List Env) : List Addr := l.filterMap (·.frame)
abbrev Cx.fs (X : Cx) : List Addr := frs X.outer
def Vis (sc : Scope) (x : Str) : Prop := sc.names.lookup x = some .local ∨ sc.names.lookup x = some .cell ∨ sc.names.lookup x = some .free
def Loc (sc : Scope) (x : Str) : Prop := sc.names.lookup x = some .local ∨ sc.names.lookup x = some .cell
def Look (env : Env) (h : Heap) (m : Str → Option Value) (x : Str) (u : Value) : Prop :=
  (env.kindOf x = some .local ∧ m x = some u) ∨ ((env.kindOf x = some .cell ∨ env.kindOf x = some .free) ∧ ∃ c, env.cells.lookup x = some c ∧ h.IsCell c (some u))
structure Cx.Ok (X : Cx) : Prop where
  mod : Mod X.K X.mg X.base
  kind : X.env.scope.kind = .function
  glob : X.env.globals = mainGlobals
  blt : X.env.builtins = builtinsNs
  above : X.s₀.heap.objs.size ≤ X.env.locals
  inj : ∀ x y c, X.env.cells.lookup x = some c → X.env.cells.lookup y = some c → x = y
  has : ∀ x, (X.env.kindOf x = some .cell ∨ X.env.kindOf x = some .free) → ∃ c, X.env.cells.lookup x = some c
  cab : ∀ x c, X.fn x = true → X.env.cells.lookup x = some c → X.s₀.heap.objs.size ≤ c
  hd : X.calm = true → X.A.handled = none
  frames : X.A.frames = some X.stack
  stk : X.stack = X.outer ∨ (X.stack = X.env :: X.outer ∧ X.env.frame = some X.env.locals)
  exf : ∀ b ∈ X.ex, b ≠ X.env.locals ∧ ∀ x c, X.env.cells.lookup x = some c → c ≠ b
  bs : ∀ b o, X.base.get? b = some o → X.s₀.heap.get? b = some o ∧ X.H₀ b = none
  bsz : X.base.objs.size ≤ X.s₀.heap.objs.size
  noex : ∀ b o, X.base.get? b = some o → b ∉ X.ex
  exfs : ∀ b ∈ X.ex, b ∉ X.fs
  funs : X.s₀.heap.FunFrames X.base X.outer
  frf : ∀ b ∈ X.fs, X.H₀ b = none
structure Inv (X : Cx) (pins : List (Addr × Obj)) (σ : List (Option V)) (H : Hp) (s : Shared) : Prop where
  ok : X.Ok
  os : s.os = X.s₀.os
  bare : AllBare s.gens
  base : Un X.fs X.ex X.H₀ H X.s₀.heap s.heap
  loc : ∃ m, s.heap.Ns X.env.locals m ∧ ∀ (i : Nat) (x : Str) (v : V), X.N[i]? = some x → σ[i]? = some (some v) → Vis X.env.scope x → ∃ u, RelV v u ∧ Look X.env s.heap m x u
  cell : ∀ x c, X.env.cells.lookup x = some c → ∃ v, s.heap.IsCell c v
  free : H X.env.locals = none
  freeC : ∀ x c, X.env.cells.lookup x = some c → H c = none
  pin : ∀ p ∈ X.pn ++ pins, s.heap.get? p.1 = some p.2 ∧ H p.1 = none ∧ p.1 ≠ X.env.locals ∧ p.1 ∉ X.fs ∧ ∀ v, p.2.data ≠ .cell v
  hok : HOk X.prog X.w H s.heap
  len : σ.length = X.N.length
section
variable {X : Cx} {pins : List (Addr × Obj)} {σ : List (Option V)} {H H' : Hp} {s : Shared} {h' : Heap}
theorem Cx.Ok.nofr (ok : X.Ok) {b : Addr} {o : Obj} (e : X.base.get? b = some o) : b ∉ X.fs := fun hb => by
  have := (ok.funs.mem hb).1
  rw [e] at this; cases this
theorem Inv.bs (I : Inv X pins σ H s) : ∀ b o, X.base.get? b = some o → s.heap.get? b = some o ∧ H b = none := fun b o e =>
  ⟨I.base.keep b o (I.ok.bs b o e).1 (I.ok.bs b o e).2 (I.ok.nofr e) (I.ok.noex b o e), I.base.free b o (I.ok.bs b o e).1 (I.ok.bs b o e).2 (I.ok.noex b o e)⟩
theorem Inv.bk (I : Inv X pins σ H s) : ∀ b o, X.base.get? b = some o → s.heap.get? b = some o := fun b o e => (I.bs b o e).1
theorem Inv.mod (I : Inv X pins σ H s) : Mod X.K X.mg X.base := I.ok.mod
theorem Inv.kIn (I : Inv X pins σ H s) : X.K.In s.heap := I.ok.mod.kin.keeps I.bk
theorem Inv.lt (I : Inv X pins σ H s) : X.env.locals < s.heap.objs.size := let ⟨_, hn, _⟩ := I.loc; hn.lt
theorem Inv.sz (I : Inv X pins σ H s) : X.s₀.heap.objs.size ≤ s.heap.objs.size := Nat.le_trans I.ok.above (Nat.le_of_lt I.lt)
theorem Inv.nofs (I : Inv X pins σ H s) {a : Addr} (h : s.heap.objs.size ≤ a) : a ∉ X.fs := fun hb => by
  obtain ⟨_, o, ho, _⟩ := I.ok.funs.mem hb
  exact absurd (Nat.lt_of_lt_of_le (Heap.lt_size ho) (Nat.le_trans I.sz h)) (Nat.lt_irrefl _)
theorem Inv.cne (I : Inv X pins σ H s) : ∀ x c, X.env.cells.lookup x = some c → c ≠ X.env.locals := fun x c e z => by
  obtain ⟨v, o, ho, hd⟩ := I.cell x c e
  obtain ⟨m, ⟨o', es, ep, ho', hd', _⟩, _⟩ := I.loc
  rw [z, ho'] at ho; cases ho; rw [hd'] at hd; cases hd
theorem Inv.funs (I : Inv X pins σ H s) : s.heap.FunFrames X.base X.outer := by
  have all : ∀ (l : List Env), (∀ b ∈ frs l, b ∈ X.fs) → X.s₀.heap.FunFrames X.base l → s.heap.FunFrames X.base l := by
    intro l
    induction l with
    | nil => intro _ _; trivial
    | cons env r ih =>
      intro hs hl
      obtain ⟨hk, ⟨L, o, hf, hn, ho, hd⟩, hr⟩ := hl
      have hL : L ∈ X.fs := hs L (by unfold frs; rw [List.filterMap_cons, hf]; exact List.mem_cons_self)
      obtain ⟨sl, e⟩ := I.base.slot L o ho (I.ok.frf L hL) hL fun z => I.ok.exfs L z hL
      exact ⟨hk, ⟨L, _, hf, hn, e, hd⟩, ih (fun b hb => hs b (by unfold frs; rw [List.filterMap_cons, hf]; exact List.mem_cons_of_mem _ hb)) hr⟩
  exact all X.outer (fun _ hb => hb) I.ok.funs
theorem Inv.stack (I : Inv X pins σ H s) : s.heap.FunFrames X.base X.stack := by
  rcases I.ok.stk with e | ⟨e, hf⟩
  · rw [e]; exact I.funs
  · rw [e]
    obtain ⟨m, hn, _⟩ := I.loc
    refine .cons (by rw [I.ok.kind]; decide) hf hn ?_ I.funs
    exact Heap.get?_none_of_le (Nat.le_trans I.ok.bsz I.ok.above)
theorem Inv.stkSub (I : Inv X pins σ H s) : ∀ b ∈ frs X.stack, b ∈ X.env.locals :: X.fs := fun b hb => by
  rcases I.ok.stk with e | ⟨e, hf⟩
  · rw [e] at hb; exact List.mem_cons_of_mem _ hb
  · rw [e] at hb
    unfold frs at hb
    rw [List.filterMap_cons, hf] at hb
    exact hb
theorem Inv.stkFree (I : Inv X pins σ H s) : ∀ b ∈ frs X.stack, H b = none := fun b hb => by
  rcases List.mem_cons.mp (I.stkSub b hb) with e | hb
  · rw [e]; exact I.free
  · obtain ⟨_, o, ho, _⟩ := I.ok.funs.mem hb
    exact I.base.free b o ho (I.ok.frf b hb) fun z => I.ok.exfs b z hb
theorem Inv.step {g' : Array GenState} {t' : Nat} {d' : Drawn} {ch : List Addr} (I : Inv X pins σ H s)
    (hch : ∀ b ∈ ch, (b ∈ X.ex ∨ X.s₀.heap.objs.size ≤ b) ∧ b ≠ X.env.locals ∧ (∀ x c, X.env.cells.lookup x = some c → c ≠ b) ∧ ∀ p ∈ X.pn ++ pins, p.1 ≠ b)
    (keep : ∀ b o, b ≠ X.env.locals → b ∉ X.fs → b ∉ ch → s.heap.get? b = some o → H b = none → h'.get? b = some o)
    (slot : ∀ b o, b ≠ X.env.locals → b ∈ X.fs → b ∉ ch → s.heap.get? b = some o → H b = none → ∃ sl, h'.get? b = some { o with slots := sl }) (free : ∀ b o, b ∉ ch → s.heap.get? b = some o → H b = none → H' b = none)
    (there : ∀ b o, b ∉ ch → s.heap.get? b = some o → ∃ o', h'.get? b = some o')
    (tups : ∀ b xs, H b = some (.tup xs) → H' b = some (.tup xs)) (frzs : ∀ b o u, H b = some (.frz o u) → H' b = some (.frz o u)) (tbls : ∀ b ps, H b = some (.tbl ps) → ∃ more, H' b = some (.tbl (ps ++ more)))
    (ns : ∀ m, s.heap.Ns X.env.locals m → h'.Ns X.env.locals m) (hok : HOk X.prog X.w H' h') (hg : AllBare g') :
    Inv X pins σ H' { s with heap := h', gens := g', drawn := d', toks := t' } := by
  have neL : ∀ b o, X.s₀.heap.get? b = some o → b ≠ X.env.locals := fun b o e => Nat.ne_of_lt (Nat.lt_of_lt_of_le (Heap.lt_size e) I.ok.above)
  have neC : ∀ b o, X.s₀.heap.get? b = some o → b ∉ X.ex → b ∉ ch := fun b o e hx hb => by
    rcases (hch b hb).1 with z | z
    · exact hx z
    · exact absurd (Nat.lt_of_lt_of_le (Heap.lt_size e) z) (Nat.lt_irrefl _)
  have cellK : ∀ x c, X.env.cells.lookup x = some c → ∀ v, s.heap.IsCell c v → h'.IsCell c v := fun x c e v ⟨o, ho, hd⟩ => by
    have nch : c ∉ ch := fun z => (hch c z).2.2.1 x c e rfl
    by_cases hc : c ∈ X.fs
    · obtain ⟨sl, q⟩ := slot c o (I.cne x c e) hc nch ho (I.freeC x c e)
      exact ⟨_, q, hd⟩
    · exact ⟨o, keep c o (I.cne x c e) hc nch ho (I.freeC x c e), hd⟩
  refine ⟨I.ok, I.os, hg, ⟨fun b o e n hb hx => ?_, fun b o e n hb hx => ?_, fun b o e n hx => ?_, fun b o e hx => ?_, fun b xs e => tups b xs (I.base.tups b xs e), fun b o xs e => frzs b o xs (I.base.frzs b o xs e), fun b ps e => ?_⟩, ?_, fun x c e => ?_, ?_, fun x c e => ?_, fun p hp => ?_, hok, I.len⟩
  · exact keep b o (neL b o e) hb (neC b o e hx) (I.base.keep b o e n hb hx) (I.base.free b o e n hx)
  · obtain ⟨sl, e1⟩ := I.base.slot b o e n hb hx
    obtain ⟨sl', e2⟩ := slot b _ (neL b o e) hb (neC b o e hx) e1 (I.base.free b o e n hx)
    exact ⟨sl', e2⟩
  · obtain ⟨o', e1⟩ := I.base.there b o e hx
    exact free b o' (neC b o e hx) e1 (I.base.free b o e n hx)
  · obtain ⟨o', e1⟩ := I.base.there b o e hx
    exact there b o' (neC b o e hx) e1
  · obtain ⟨m1, e1⟩ := I.base.tbls b ps e
    obtain ⟨m2, e2⟩ := tbls b _ e1
    exact ⟨m1 ++ m2, by rw [e2, Array.append_assoc]⟩
  · obtain ⟨m, hn, hl⟩ := I.loc
    refine ⟨m, ns m hn, fun i x v e1 e2 e3 => ?_⟩
    obtain ⟨u, r, l⟩ := hl i x v e1 e2 e3
    refine ⟨u, r, ?_⟩
    rcases l with l | ⟨k, c, e, z⟩
    · exact .inl l
    · exact .inr ⟨k, c, e, cellK x c e _ z⟩
  · obtain ⟨v, z⟩ := I.cell x c e
    exact ⟨v, cellK x c e v z⟩
  · obtain ⟨m, ⟨o, _, _, ho, _⟩, _⟩ := I.loc
    exact free _ o (fun z => (hch _ z).2.1 rfl) ho I.free
  · obtain ⟨v, o, ho, hd⟩ := I.cell x c e
    exact free c o (fun z => (hch c z).2.2.1 x c e rfl) ho (I.freeC x c e)
  · obtain ⟨e, n, ne, nf, d⟩ := I.pin p hp
    have nch : p.1 ∉ ch := fun z => (hch p.1 z).2.2.2 p hp rfl
    exact ⟨keep p.1 p.2 ne nf nch e n, free p.1 p.2 nch e n, ne, nf, d⟩
theorem Inv.un {t' : Nat} (I : Inv X pins σ H s) (u : Un X.fs [] H H' s.heap h') (hok : HOk X.prog X.w H' h') : Inv X pins σ H' { s with heap := h', toks := t' } := by
  obtain ⟨m, ⟨o, es, ep, ho, r⟩, _⟩ := id I.loc
  obtain ⟨sl, hL⟩ := u.any ho I.free (by simp)
  exact I.step (g' := s.gens) (d' := s.drawn) (ch := []) (fun _ z => nomatch z) (fun b o _ hb _ e n => u.keep b o e n hb (by simp)) (fun b o _ hb _ e n => u.slot b o e n hb (by simp)) (fun b o _ e n => u.free b o e n (by simp)) (fun b o _ e => u.there b o e (by simp)) u.tups u.frzs u.tbls (fun m' hm => by
    obtain ⟨o', es', ep', ho', r'⟩ := hm
    rw [ho] at ho'; cases ho'
    exact ⟨_, es', ep', hL, r'⟩) hok I.bare
theorem Inv.call {g' : Array GenState} {t' : Nat} {d' : Drawn} {ch : List Addr} (I : Inv X pins σ H s) (u : Un (frs X.stack) ch H H' s.heap h') (hok : HOk X.prog X.w H' h') (hg : AllBare g')
    (hch : ∀ b ∈ ch, (b ∈ X.ex ∨ X.s₀.heap.objs.size ≤ b) ∧ b ≠ X.env.locals ∧ (∀ x c, X.env.cells.lookup x = some c → c ≠ b) ∧ ∀ p ∈ X.pn ++ pins, p.1 ≠ b) :
    Inv X pins σ H' { s with heap := h', gens := g', drawn := d', toks := t' } := by
  obtain ⟨m, ⟨o, es, ep, ho, r⟩, _⟩ := id I.loc
  obtain ⟨sl, hL⟩ := u.any ho I.free fun z => (hch _ z).2.1 rfl
  exact I.step (ch := ch) hch (fun b o hL hb hc e n => u.keep b o e n (fun z => (List.mem_cons.mp (I.stkSub b z)).elim hL hb) hc) (fun b o _ _ hc e n => u.any e n hc) (fun b o hc e n => u.free b o e n hc) (fun b o hc e => u.there b o e hc) u.tups u.frzs u.tbls (fun m' hm => by
    obtain ⟨o', es', ep', ho', r'⟩ := hm
    rw [ho] at ho'; cases ho'
    exact ⟨_, es', ep', hL, r'⟩) hok hg
theorem Inv.turned {t' : Nat} {it : Addr} (I : Inv X pins σ H s) (k : ∀ b o, b ≠ it → s.heap.get? b = some o → h'.get? b = some o) (hn : H it = none) (hL : it ≠ X.env.locals)
    (h1 : it ∈ X.ex ∨ X.s₀.heap.objs.size ≤ it) (h2 : ∀ x c, X.env.cells.lookup x = some c → c ≠ it) (h3 : ∀ p ∈ X.pn ++ pins, p.1 ≠ it) : Inv X pins σ H { s with heap := h', toks := t' } := by
  have nit : ∀ b u, H b = some u → b ≠ it := fun b u e z => by rw [z, hn] at e; cases e
  refine I.step (g' := s.gens) (d' := s.drawn) (ch := [it]) (fun b hb => ?_) (fun b o _ _ hc e _ => k b o (fun z => hc (by simp [z])) e) (fun b o _ _ hc e _ => ⟨o.slots, k b o (fun z => hc (by simp [z])) e⟩) (fun _ _ _ _ n => n)
    (fun b o hc e => ⟨o, k b o (fun z => hc (by simp [z])) e⟩) (fun _ _ e => e) (fun _ _ _ e => e) (fun b ps e => ⟨#[], by rw [e]; simp⟩) (fun m hm => ?_) (fun b u e => ?_) I.bare
  · have e : b = it := by simpa using hb
    subst e
    exact ⟨h1, hL, h2, h3⟩
  · obtain ⟨o, es, ep, ho, r⟩ := hm
    exact ⟨o, es, ep, k _ o (Ne.symm hL) ho, r⟩
  · refine (I.hok b u e).stay (fun c v hc q => k c v ?_ q) (fun _ q => q) fun _ _ q => q
    rcases hc with z | z
    · rw [z]; exact nit b u e
    · exact nit c _ z
theorem Inv.tok (I : Inv X pins σ H s) (t : Nat) : Inv X pins σ H { s with toks := t } := I.un (h' := s.heap) (t' := t) Un.refl I.hok
theorem Inv.kept {t' : Nat} (I : Inv X pins σ H s) (k : ∀ b u, s.heap.get? b = some u → h'.get? b = some u) : Inv X pins σ H { s with heap := h', toks := t' } := I.un (Un.kept k) (I.hok.kept k)
theorem Inv.laid {a : Addr} {o : HO} {t' : Nat} (I : Inv X pins σ H s) (k : ∀ b u, s.heap.get? b = some u → h'.get? b = some u) (hp : s.heap.objs.size ≤ a) (new : ObjOk X.prog X.w (upd H a o) h' a o) :
    Inv X pins σ (upd H a o) { s with heap := h', toks := t' } := I.un (Un.laid k hp (I.hok.fresh hp)) (I.hok.laid k hp new)
theorem Inv.write {x e : Addr} {o : HO} {t' : Nat} (I : Inv X pins σ H s) (mu : Mut (H x)) (he : e = x ∨ H e = some (.own x)) (k : ∀ b u, b ≠ e → s.heap.get? b = some u → h'.get? b = some u) (heo : ∃ u, h'.get? e = some u)
    (new : ObjOk X.prog X.w (upd H x o) h' x o) : Inv X pins σ (upd H x o) { s with heap := h', toks := t' } := I.un (Un.write mu he k heo) (I.hok.write mu he k heo new)
theorem Inv.pins_of {pins' : List (Addr × Obj)} (I : Inv X pins σ H s) (h : ∀ p ∈ pins', s.heap.get? p.1 = some p.2 ∧ H p.1 = none ∧ p.1 ≠ X.env.locals ∧ p.1 ∉ X.fs ∧ ∀ v, p.2.data ≠ .cell v) : Inv X pins' σ H s :=
  ⟨I.ok, I.os, I.bare, I.base, I.loc, I.cell, I.free, I.freeC, fun p hp => (List.mem_append.mp hp).elim (fun z => I.pin p (List.mem_append_left _ z)) (h p), I.hok, I.len⟩
theorem nodup_ix {N : List Str} (hN : N.Nodup) {i j : Nat} {x : Str} (a : N[i]? = some x) (b : N[j]? = some x) : i = j := by
  obtain ⟨h1, e1⟩ := List.getElem?_eq_some_iff.mp a
  obtain ⟨h2, e2⟩ := List.getElem?_eq_some_iff.mp b
  exact (List.getElem_inj hN).mp (e1.trans e2.symm)
theorem store_ok2 {M : Model} {A : Around} {E : Value → Shared → Prop} {i : Nat} {x : Str} {v : V} {u : Value} {Q : Unit → Shared → Prop} (I : Inv X pins σ H s) (hN : X.N.Nodup) (hi : X.N[i]? = some x) (hx : Loc X.env.scope x) (r : RelV v u)
    (h : ∀ s', Inv X pins (σ.set i (some v)) H s' → (∃ a, Heap.SameBut a s.heap s'.heap ∧ (a = X.env.locals ∨ X.env.cells.lookup x = some a)) → Q () s') (hf : X.fn x = true ∨ X.env.scope.names.lookup x = some .local := by first | exact .inl rfl | exact .inr rfl | assumption) : wpAny M A (storeName X.env x u) Q E s := by
  obtain ⟨m, hn, hl⟩ := id I.loc
  have hcls : (X.env.scope.kind == .class || (X.env.scope.kind == .module && X.env.locals != X.env.globals)) = false := by rw [I.ok.kind]; rfl
  have hiσ : i < σ.length := by rw [I.len]; exact (List.getElem?_eq_some_iff.mp hi).1
  have cne := I.cne
  have tracked : ∀ {a : Addr} {h' : Heap}, (∃ o, s.heap.get? a = some o ∧ H a = none) → Heap.SameBut a s.heap h' → HOk X.prog X.w H h' := fun {a h'} ha hs b ob e => by
    obtain ⟨_, _, hfree⟩ := ha
    refine (I.hok b ob e).stay (fun c w' hc q => (hs.2 c ?_).trans q) (fun _ q => q) fun _ _ q => q
    rintro rfl
    rcases hc with rfl | hc
    · rw [hfree] at e; cases e
    · rw [hfree] at hc; cases hc
  rcases hx with hk | hk
  · refine wpAny_storeName_local hk hn (fun h' hn' hs => ?_) hcls
    obtain ⟨oL, _, _, hoL, _⟩ := id hn
    refine h _ ⟨I.ok, I.os, I.bare, ⟨fun b o e n hb hx => ?_, fun b o e n hb hx => ?_, I.base.free, fun b o e hx => ?_, I.base.tups, I.base.frzs, I.base.tbls⟩, ⟨_, hn', fun j y v' e1 e2 e3 => ?_⟩, fun y c e => ?_, I.free, I.freeC, fun p hp => ?_, tracked ⟨oL, hoL, I.free⟩ hs, by simpa using I.len⟩ ⟨_, hs, .inl rfl⟩
    · exact (hs.2 b (Nat.ne_of_lt (Nat.lt_of_lt_of_le (Heap.lt_size e) I.ok.above))).trans (I.base.keep b o e n hb hx)
    · obtain ⟨sl, e1⟩ := I.base.slot b o e n hb hx
      exact ⟨sl, (hs.2 b (Nat.ne_of_lt (Nat.lt_of_lt_of_le (Heap.lt_size e) I.ok.above))).trans e1⟩
    · obtain ⟨o', e1⟩ := I.base.there b o e hx
      exact ⟨o', (hs.2 b (Nat.ne_of_lt (Nat.lt_of_lt_of_le (Heap.lt_size e) I.ok.above))).trans e1⟩
    · by_cases hj : j = i
      · subst hj
        rw [hi] at e1; cases e1
        rw [List.getElem?_set_self hiσ] at e2
        cases e2
        exact ⟨u, r, .inl ⟨hk, by simp⟩⟩
      · rw [List.getElem?_set_ne (Ne.symm hj)] at e2
        obtain ⟨u', r', q⟩ := hl j y v' e1 e2 e3
        refine ⟨u', r', ?_⟩
        rcases q with ⟨k, e⟩ | ⟨k, c, e, z⟩
        · refine .inl ⟨k, ?_⟩
          have : y ≠ x := fun e => hj (nodup_ix hN e1 (e ▸ hi))
          simp [this, e]
        · exact .inr ⟨k, c, e, z.sameBut hs (cne y c e)⟩
    · obtain ⟨w', z⟩ := I.cell y c e
      exact ⟨w', z.sameBut hs (cne y c e)⟩
    · obtain ⟨e, n, ne, nf, d⟩ := I.pin p hp
      exact ⟨(hs.2 p.1 ne).trans e, n, ne, nf, d⟩
  · have hfn : X.fn x = true := by
      rcases hf with z | z
      · exact z
      · rw [z] at hk; cases hk
    obtain ⟨c, hc⟩ := I.ok.has x (.inl hk)
    obtain ⟨w', z⟩ := I.cell x c hc
    refine wpAny_storeName_cell I.ok.kind hk hc z (fun h' hc' hs => ?_)
    obtain ⟨oc, hoc, hocd⟩ := id z
    refine h { s with heap := h' } ⟨I.ok, I.os, I.bare, ⟨fun b o e n hb hx => ?_, fun b o e n hb hx => ?_, I.base.free, fun b o e hx => ?_, I.base.tups, I.base.frzs, I.base.tbls⟩, ⟨m, hn.sameBut hs (Ne.symm (cne x c hc)), fun j y v' e1 e2 e3 => ?_⟩, fun y c' e => ?_, I.free, I.freeC, fun p hp => ?_, tracked ⟨oc, hoc, I.freeC x c hc⟩ hs, by simpa using I.len⟩ ⟨c, hs, .inr hc⟩
    · exact (hs.2 b (Nat.ne_of_lt (Nat.lt_of_lt_of_le (Heap.lt_size e) (I.ok.cab x c hfn hc)))).trans (I.base.keep b o e n hb hx)
    · obtain ⟨sl, e1⟩ := I.base.slot b o e n hb hx
      exact ⟨sl, (hs.2 b (Nat.ne_of_lt (Nat.lt_of_lt_of_le (Heap.lt_size e) (I.ok.cab x c hfn hc)))).trans e1⟩
    · obtain ⟨o', e1⟩ := I.base.there b o e hx
      exact ⟨o', (hs.2 b (Nat.ne_of_lt (Nat.lt_of_lt_of_le (Heap.lt_size e) (I.ok.cab x c hfn hc)))).trans e1⟩
    · by_cases hj : j = i
      · subst hj
        rw [hi] at e1; cases e1
        rw [List.getElem?_set_self hiσ] at e2
        cases e2
        exact ⟨u, r, .inr ⟨.inl hk, c, hc, hc'⟩⟩
      · rw [List.getElem?_set_ne (Ne.symm hj)] at e2
        obtain ⟨u', r', q⟩ := hl j y v' e1 e2 e3
        refine ⟨u', r', ?_⟩
        rcases q with q | ⟨k, c', e, z'⟩
        · exact .inl q
        · refine .inr ⟨k, c', e, z'.sameBut hs ?_⟩
          rintro rfl
          exact hj (nodup_ix hN e1 (I.ok.inj _ _ _ e hc ▸ hi))
    · by_cases hcc : c' = c
      · subst hcc; exact ⟨_, hc'⟩
      · obtain ⟨w2, z2⟩ := I.cell y c' e
        exact ⟨w2, z2.sameBut hs hcc⟩
    · obtain ⟨e, n, ne, nf, d⟩ := I.pin p hp
      refine ⟨(hs.2 p.1 ?_).trans e, n, ne, nf, d⟩
      intro q
      rw [q, hoc] at e
      have q' : oc = p.2 := Option.some.inj e
      exact d w' (by rw [← q']; exact hocd)
theorem store_ok {M : Model} {A : Around} {E : Value → Shared → Prop} {i : Nat} {x : Str} {v : V} {u : Value} {Q : Unit → Shared → Prop} (I : Inv X pins σ H s) (hN : X.N.Nodup) (hi : X.N[i]? = some x) (hx : Loc X.env.scope x) (r : RelV v u)
    (h : ∀ s', Inv X pins (σ.set i (some v)) H s' → Q () s') (hf : X.fn x = true ∨ X.env.scope.names.lookup x = some .local := by first | exact .inl rfl | exact .inr rfl | assumption) : wpAny M A (storeName X.env x u) Q E s :=
  store_ok2 I hN hi hx r (fun s' I' _ => h s' I') hf
theorem Inv.call' {s' : Shared} {ch : List Addr} (I : Inv X pins σ H s) (ho : s'.os = s.os) (u : Un (frs X.stack) ch H H' s.heap s'.heap) (hok : HOk X.prog X.w H' s'.heap) (hg : AllBare s'.gens)
    (hch : ∀ b ∈ ch, (b ∈ X.ex ∨ X.s₀.heap.objs.size ≤ b) ∧ b ≠ X.env.locals ∧ (∀ x c, X.env.cells.lookup x = some c → c ≠ b) ∧ ∀ p ∈ X.pn ++ pins, p.1 ≠ b) : Inv X pins σ H' s' := by
  obtain ⟨h', g', d', t', o'⟩ := s'
  have e : o' = s.os := ho
  subst e
  exact I.call (g' := g') (t' := t') (d' := d') u hok hg hch
end
abbrev XK := Value → Option Addr → Hp → Prop
abbrev St := List (Option V)
abbrev VK := V → Hp → Prop
abbrev TE := St → Hp → VK → Prop
abbrev TT := St → Hp → (Bool → Hp → Prop) → Prop
abbrev TA := St → Hp → (List V → Hp → Prop) → Prop
structure Ends where
  nx : St → Hp → Prop
  rt : VK
  bk : St → Hp → Prop := fun _ _ => False
  ct : St → Hp → Prop := fun _ _ => False
abbrev TS := Ends → St → Hp → Prop
def EP (X : Cx) (pins : List (Addr × Obj)) (σ : St) (Q : VK) (u : Value) (s' : Shared) : Prop := ∃ v H', Inv X pins σ H' s' ∧ RelV v u ∧ Q v H'
def TP (X : Cx) (pins : List (Addr × Obj)) (σ : St) (Q : Bool → Hp → Prop) (b : Bool) (s' : Shared) : Prop := ∃ H', Inv X pins σ H' s' ∧ Q b H'
def AP (X : Cx) (pins : List (Addr × Obj)) (σ : St) (Q : List V → Hp → Prop) (us : List Value) (s' : Shared) : Prop := ∃ vs H', Inv X pins σ H' s' ∧ Vals vs us ∧ Q vs H'
def SP (X : Cx) (pins : List (Addr × Obj)) (D : Ends) (f : Flow) (s' : Shared) : Prop :=
  match f with
  | .next => ∃ σ' H', Inv X pins σ' H' s' ∧ D.nx σ' H'
  | .brk => ∃ σ' H', Inv X pins σ' H' s' ∧ D.bk σ' H'
  | .cont => ∃ σ' H', Inv X pins σ' H' s' ∧ D.ct σ' H'
  | .ret u => ∃ v σ' H', Inv X pins σ' H' s' ∧ RelV v u ∧ D.rt v H'
def PE (X : Cx) (e : Expr) (t : TE) : Prop :=
  ∀ (pins : List (Addr × Obj)) (s : Shared) (σ : St) (H : Hp) (Q : VK), Inv X pins σ H s → t σ H Q → wpAny (model X.prog X.w) X.A (eval e X.env) (EP X pins σ Q) X.xe s
def PT (X : Cx) (e : Expr) (t : TT) : Prop :=
  ∀ (pins : List (Addr × Obj)) (s : Shared) (σ : St) (H : Hp) (Q : Bool → Hp → Prop), Inv X pins σ H s → t σ H Q → wpAny (model X.prog X.w) X.A (isTrue e X.env (eval e X.env)) (TP X pins σ Q) X.xe s
def PW (X : Cx) (e : Expr) (t : TT) : Prop :=
  ∀ (whole : Sem Value) (pins : List (Addr × Obj)) (s : Shared) (σ : St) (H : Hp) (Q : Bool → Hp → Prop), Inv X pins σ H s → t σ H Q → wpAny (model X.prog X.w) X.A (isTrue e X.env whole) (TP X pins σ Q) X.xe s
theorem PW.pt {X : Cx} {e : Expr} {t : TT} (h : PW X e t) : PT X e t := h _
def PA (X : Cx) (es : List Expr) (t : TA) : Prop :=
  ∀ (pos : Pos) (pins : List (Addr × Obj)) (s : Shared) (σ : St) (H : Hp) (Q : List V → Hp → Prop), Inv X pins σ H s → t σ H Q → wpAny (model X.prog X.w) X.A (spliced (backTo pos (starEach es X.env))) (AP X pins σ Q) X.xe s
def PS (X : Cx) (st : Stmt) (t : TS) : Prop :=
  ∀ (pins : List (Addr × Obj)) (s : Shared) (σ : St) (H : Hp) (D : Ends), Inv X pins σ H s → t D σ H → wpAny (model X.prog X.w) X.A (exec st X.env) (SP X pins D) X.xe s
def PSs (X : Cx) (st : List Stmt) (t : TS) : Prop :=
  ∀ (pins : List (Addr × Obj)) (s : Shared) (σ : St) (H : Hp) (D : Ends), Inv X pins σ H s → t D σ H → wpAny (model X.prog X.w) X.A (execs st X.env) (SP X pins D) X.xe s
theorem thn {α : Type} {t : Sem α} {Q Q' : α → Shared → Prop} {M : Model} {A : Around} {E : Value → Shared → Prop} {s : Shared} (h : wpAny M A t Q E s) (hQ : ∀ a s, Q a s → Q' a s) : wpAny M A t Q' E s := wpAny_mono h hQ fun _ _ x => x
end L2
namespace L2
open PySem PySem.Spec PyProof.Rows
section
variable {X : Cx}
def tVar (i : Nat) : TE := fun σ H Q => ∃ v, σ[i]? = some (some v) ∧ Q v H
def tC (v : V) : TE := fun _ H Q => Q v H
theorem pe_var {i : Nat} {x : Str} {pos : Pos} (hN : X.N[i]? = some x) (hv : Vis X.env.scope x) (hd : (x == ("__debug__" : Str)) = false := by decide) (hcd : (x == ("__classdict__" : Str)) = false := by decide) : PE X (.Name x pos) (tVar i) := by
  intro pins s σ H Q I h
  obtain ⟨v, e, h⟩ := h
  obtain ⟨m, hn, hl⟩ := I.loc
  obtain ⟨u, r, l⟩ := hl i x v hN e hv
  have fin : EP X pins σ Q u s := ⟨v, H, I, r, h⟩
  rcases l with ⟨hk, hm⟩ | ⟨hk, c, hc, hcell⟩
  · exact wpAny_Name (wpAny_loadName_local I.ok.kind hk hn hm fin) hd
  · rcases hk with hk | hk
    · exact wpAny_Name (wpAny_loadName_cell I.ok.kind hk hc hcell fin) hd
    · exact wpAny_Name (wpAny_loadName_free I.ok.kind hk hc hcell fin hcd) hd
theorem pe_int {i j pos} : PE X (.Constant (.int i) j pos) (tC (.int i)) := fun _ _ _ H _ I h => wpAny_Constant_int ⟨.int i, H, I.tok _, ⟨_, rfl⟩, h⟩
theorem pe_bl {b j pos} : PE X (.Constant (.bool b) j pos) (tC (.bl b)) := fun _ _ _ H _ I h => Constant_bool ⟨.bl b, H, I, rfl, h⟩
theorem pe_non {j pos} : PE X (.Constant .none j pos) (tC .non) := fun _ _ _ H _ I h => Constant_none ⟨.non, H, I, rfl, h⟩
theorem pe_str {x j pos} : PE X (.Constant (.str x) j pos) (tC (.str x)) := fun _ _ _ H _ I h => Calls.Constant_str ⟨.str x, H, I.tok _, ⟨_, rfl⟩, h⟩
def Gl (X : Cx) (x : Str) : Prop := X.env.kindOf x = some .globalImplicit
theorem ld_glob {E : Value → Shared → Prop} {pins : List (Addr × Obj)} {s : Shared} {σ : St} {H : Hp} {x : Str} {u : Value} {pos : Pos} {Q : Value → Shared → Prop} (I : Inv X pins σ H s) (hg : Gl X x) (hm : X.mg x = some u) (h : Q u s)
    (hd : (x == ("__debug__" : Str)) = false := by decide) : wpAny (model X.prog X.w) X.A (eval (.Name x pos) X.env) Q E s :=
  Calls.Name_function_global I.ok.kind hg (Calls.loadGlobal_global (by rw [I.ok.glob]; exact I.mod.glob.keeps I.bk) hm h) hd
theorem ld_blt {E : Value → Shared → Prop} {pins : List (Addr × Obj)} {s : Shared} {σ : St} {H : Hp} {x : Str} {u : Value} {pos : Pos} {Q : Value → Shared → Prop} (I : Inv X pins σ H s) (hg : Gl X x) (hm : X.mg x = none) (hv : bootBuiltins x = some u) (h : Q u s)
    (hn : x ≠ "__name__" := by decide) (hd : (x == ("__debug__" : Str)) = false := by decide) : wpAny (model X.prog X.w) X.A (eval (.Name x pos) X.env) Q E s := by
  obtain ⟨mb, h1, h2⟩ := I.mod.blt
  exact Calls.Name_function_global I.ok.kind hg (Calls.loadGlobal_builtin (by rw [I.ok.glob]; exact I.mod.glob.keeps I.bk) hm (by rw [I.ok.blt]; exact h1.keeps I.bk) ((h2 x hn).trans hv) h) hd
theorem pe_glob {x : Str} {v : V} {u : Value} {pos : Pos} (hg : Gl X x) (hm : X.mg x = some u) (r : RelV v u) (hd : (x == ("__debug__" : Str)) = false := by decide) : PE X (.Name x pos) (tC v) :=
  fun _ _ _ H _ I h => ld_glob I hg hm ⟨v, H, I, r, h⟩ hd
theorem pe_bltn {x : Str} {v : V} {u : Value} {pos : Pos} (hg : Gl X x) (hm : X.mg x = none) (hv : bootBuiltins x = some u) (r : RelV v u) (hn : x ≠ "__name__" := by decide) (hd : (x == ("__debug__" : Str)) = false := by decide) : PE X (.Name x pos) (tC v) :=
  fun _ _ _ H _ I h => ld_blt I hg hm hv ⟨v, H, I, r, h⟩ hn hd
variable {a b : Expr} {ta tb : TE} {pos : Pos}
def PC (X : Cx) (op : CmpOp) (a b : Expr) (t : TE) : Prop :=
  ∀ (pins : List (Addr × Obj)) (s : Shared) (σ : St) (H : Hp) (Q : VK), Inv X pins σ H s → t σ H Q →
    wpAny (model X.prog X.w) X.A (eval a X.env) (fun v s₁ => wpAny (model X.prog X.w) X.A (eval b X.env) (fun u s₂ => wpAny (model X.prog X.w) X.A (compareOp op v u) (EP X pins σ Q) X.xe s₂) X.xe s₁) X.xe s
def tB (t : TE) : TT := fun σ H Q => t σ H fun x H1 => ∃ c, x = .bl c ∧ Q c H1
theorem pt_cmp {op : CmpOp} {t : TE} (h : PC X op a b t) (h1 : behindInMarks op b = false := by first | exact nobehind _ (by decide) (by decide) | rfl) : PT X (.Compare a [op] [b] pos) (tB t) := by
  intro pins s σ H Q I hw
  refine wpAny_isTrue_Compare1 (thn (h pins s σ H _ I hw) fun v s1 h1 => thn h1 fun u s2 h2 => thn h2 fun c s3 ⟨x, H1, I1, r1, q1⟩ => ?_) h1
  obtain ⟨d, rfl, q⟩ := q1
  cases r1
  exact wpAny_truthy_bool ⟨H1, I1, q⟩
theorem pt_val {e : Expr} {t : TE} (h : PE X e t) (he : ∀ whole, isTrue e X.env whole = (do let v ← whole; standAt e.pos; holding [v] (truthy v)) := by intro _; rfl) : PT X e (tB t) := by
  intro pins s σ H Q I hw
  refine isTrue_plain (thn (h pins s σ H _ I hw) fun v s1 ⟨x, H1, I1, r1, q1⟩ => ?_) (he _)
  obtain ⟨d, rfl, q⟩ := q1
  cases r1
  exact wpAny_truthy_bool ⟨H1, I1, q⟩
variable {tA tB' : TT} {rest : List Expr}
def tAnd (t u : TT) : TT := fun σ H Q => t σ H fun c H1 => if c = true then u σ H1 Q else Q false H1
def tOr (t u : TT) : TT := fun σ H Q => t σ H fun c H1 => if c = true then Q true H1 else u σ H1 Q
def tNot (t : TT) : TT := fun σ H Q => t σ H fun c H1 => Q (!c) H1
theorem pw_and1 (ha : PT X a tA) : PW X (.BoolOp .And [a] pos) tA := by
  intro wh pins s σ H Q I h
  refine isTrue_and (thn (ha pins s σ H Q I h) fun c s1 e => ?_)
  cases c with
  | true => exact isTrue_and_nil e
  | false => exact e
theorem pw_or1 (ha : PT X a tA) : PW X (.BoolOp .Or [a] pos) tA := by
  intro wh pins s σ H Q I h
  refine isTrue_or (thn (ha pins s σ H Q I h) fun c s1 e => ?_)
  cases c with
  | false => exact isTrue_or_nil e
  | true => exact e
theorem pw_and (ha : PT X a tA) (hb : PW X (.BoolOp .And (b :: rest) pos) tB') : PW X (.BoolOp .And (a :: b :: rest) pos) (tAnd tA tB') := by
  intro wh pins s σ H Q I h
  refine isTrue_and (thn (ha pins s σ H _ I h) fun c s1 ⟨H1, I1, q1⟩ => ?_)
  cases c with
  | true => exact hb wh pins s1 σ H1 Q I1 q1
  | false => exact ⟨H1, I1, q1⟩
theorem pw_or (ha : PT X a tA) (hb : PW X (.BoolOp .Or (b :: rest) pos) tB') : PW X (.BoolOp .Or (a :: b :: rest) pos) (tOr tA tB') := by
  intro wh pins s σ H Q I h
  refine isTrue_or (thn (ha pins s σ H _ I h) fun c s1 ⟨H1, I1, q1⟩ => ?_)
  cases c with
  | true => exact ⟨H1, I1, q1⟩
  | false => exact hb wh pins s1 σ H1 Q I1 q1
theorem pt_not (ha : PT X a tA) : PT X (.UnaryOp .Not a pos) (tNot tA) := by
  intro pins s σ H Q I h
  exact isTrue_not (ha pins s σ H (fun c H1 => Q (!c) H1) I h)
def tAndV (ta tb : TE) : TE := fun σ H Q => ta σ H fun x H1 => ∃ c, x = .bl c ∧ if c = true then tb σ H1 Q else Q (.bl false) H1
def tNotV (ta : TE) : TE := fun σ H Q => ta σ H fun x H1 => ∃ c, x = .bl c ∧ Q (.bl (!c)) H1
theorem pe_one {op} {t : TE} (h : PE X a t) : PE X (.BoolOp op [a] pos) t := fun pins s σ H Q I hw => BoolOp_one (h pins s σ H Q I hw)
theorem pe_and (ha : PE X a ta) (hb : PE X (.BoolOp .And (b :: rest) pos) tb) : PE X (.BoolOp .And (a :: b :: rest) pos) (tAndV ta tb) := by
  intro pins s σ H Q I h
  refine BoolOp_and (thn (ha pins s σ H _ I h) fun v s1 ⟨x, H1, I1, r1, q1⟩ => ?_)
  obtain ⟨c, rfl, q1⟩ := q1
  cases r1
  refine wpAny_truthy_bool ?_
  cases c with
  | true => exact hb pins s1 σ H1 Q I1 q1
  | false => exact ⟨.bl false, H1, I1, rfl, q1⟩
theorem pe_not (ha : PE X a ta) : PE X (.UnaryOp .Not a pos) (tNotV ta) := by
  intro pins s σ H Q I h
  refine UnaryOp_ (thn (ha pins s σ H _ I h) fun v s1 ⟨x, H1, I1, r1, q1⟩ => ?_)
  obtain ⟨c, rfl, q1⟩ := q1
  cases r1
  exact not_of (wpAny_truthy_bool ⟨.bl (!c), H1, I1, rfl, q1⟩)
def tIf (t : TT) (ta tb : TE) : TE := fun σ H Q => t σ H fun c H1 => if c = true then ta σ H1 Q else tb σ H1 Q
theorem pe_ifExp {c : Expr} (hc : PT X c tA) (ha : PE X a ta) (hb : PE X b tb) : PE X (.IfExp c a b pos) (tIf tA ta tb) := by
  intro pins s σ H Q I h
  refine wpAny_IfExp (thn (hc pins s σ H _ I h) fun d s1 ⟨H1, I1, q1⟩ => ?_)
  cases d with
  | true => exact ha pins s1 σ H1 Q I1 q1
  | false => exact hb pins s1 σ H1 Q I1 q1
end
end L2
namespace L2
open PySem PySem.Spec PyProof.Rows
def SqL (K : PySem.W.Frag) (H : Hp) (a : Addr) (xs : List V) : Prop :=
  Rd H a (.lst xs) ∨
    ∃ (o : Obj) (its : Array Value) (n : Nat), K.lookup a = some o ∧ o.cls = .type "list" ∧ o.dict = none ∧ o.data = .seq its n ∧ its.size ≤ sizeLine ∧ Vals xs its.toList
def SqT (K : PySem.W.Frag) (H : Hp) (a : Addr) (xs : List V) : Prop :=
  Rd H a (.tup xs) ∨
    ∃ (o : Obj) (its : Array Value) (n : Nat), K.lookup a = some o ∧ o.cls = .type "tuple" ∧ o.data = .seq its n ∧ its.size ≤ sizeLine ∧ Vals xs its.toList
def absV : Value → Option V
  | .none => some .non
  | .bool b => some (.bl b)
  | .int i _ => some (.int i)
  | .str x _ => some (.str x)
  | .bytes b _ => some (.byt b)
  | .float b _ => some (.flt b)
  | .ref a => some (.ref a)
  | .type n => some (.ty n)
  | _ => none
theorem RelV.abs {x : V} {u : Value} (r : RelV x u) : absV u = some x := by
  cases x with
  | non => cases r; rfl
  | bl _ => cases r; rfl
  | int _ => obtain ⟨t, rfl⟩ := r; rfl
  | str _ => obtain ⟨t, rfl⟩ := r; rfl
  | byt _ => obtain ⟨t, rfl⟩ := r; rfl
  | flt _ => obtain ⟨t, rfl⟩ := r; rfl
  | ref _ => cases r; rfl
  | ty _ => cases r; rfl
theorem RelV.inj {x y : V} {u : Value} (r : RelV x u) (q : RelV y u) : x = y := Option.some.inj (r.abs.symm.trans q.abs)
theorem Vals.inj : ∀ {xs ys : List V} {us : List Value}, Vals xs us → Vals ys us → xs = ys
  | _, _, _, .nil, .nil => rfl
  | _, _, _, .cons r t, .cons r' t' => by rw [r.inj r', Vals.inj t t']
section
variable {X : Cx} {pins : List (Addr × Obj)} {σ : St} {H : Hp} {s : Shared} {a : Addr} {xs ys : List V}
theorem SqL.of {K : PySem.W.Frag} (h : H a = some (.lst xs)) : SqL K H a xs := .inl (.inl h)
theorem SqT.of {K : PySem.W.Frag} (h : H a = some (.tup xs)) : SqT K H a xs := .inl (.inl h)
theorem Inv.list (I : Inv X pins σ H s) (h : SqL X.K H a xs) : ∃ its : List Value, Vals xs its ∧ PlainL s.heap a its.toArray ∧ xs.length ≤ sizeLine := by
  rcases h with h | ⟨o, its, n, hk, hc, hd, hs, hz, r⟩
  · obtain ⟨z, its, n, r, e⟩ := h.ok I.hok
    exact ⟨its, r, ⟨_, n, e, rfl, rfl, rfl⟩, z⟩
  · refine ⟨its.toList, r, ⟨o, n, I.kIn a o hk, hc, hd, by simpa using hs⟩, ?_⟩
    have e := r.length
    simp only [Array.length_toList] at e
    omega
theorem Inv.tuple (I : Inv X pins σ H s) (h : SqT X.K H a xs) : ∃ its : List Value, Vals xs its ∧ IsTup s.heap a its.toArray ∧ xs.length ≤ sizeLine := by
  rcases h with h | ⟨o, its, n, hk, hc, hs, hz, r⟩
  · obtain ⟨z, its, r, p⟩ := h.ok I.hok
    exact ⟨its, r, p, z⟩
  · refine ⟨its.toList, r, ⟨o, I.kIn a o hk, hc, n, by simpa using hs⟩, ?_⟩
    have e := r.length
    simp only [Array.length_toList] at e
    omega
theorem Inv.list_inj (I : Inv X pins σ H s) (h : SqL X.K H a xs) (h' : SqL X.K H a ys) : xs = ys := by
  obtain ⟨its, r, ⟨o, n, e, _, _, d⟩, _⟩ := I.list h
  obtain ⟨its', r', ⟨o', n', e', _, _, d'⟩, _⟩ := I.list h'
  rw [e] at e'; cases e'
  rw [d] at d'
  injection d' with d1 _
  have : its = its' := by simpa using congrArg Array.toList d1
  subst this
  exact r.inj r'
theorem Inv.tuple_inj (I : Inv X pins σ H s) (h : SqT X.K H a xs) (h' : SqT X.K H a ys) : xs = ys := by
  obtain ⟨its, r, ⟨o, e, _, n, d⟩, _⟩ := I.tuple h
  obtain ⟨its', r', ⟨o', e', _, n', d'⟩, _⟩ := I.tuple h'
  rw [e] at e'; cases e'
  rw [d] at d'
  injection d' with d1 _
  have : its = its' := by simpa using congrArg Array.toList d1
  subst this
  exact r.inj r'
end
abbrev Cx.wish (X : Cx) (E : Value → Shared → Prop) : Cx := { X with xe := E }
abbrev Cx.nox (X : Cx) : Cx := X.wish fun _ _ => False
theorem Cx.Ok.wish {X : Cx} (ok : X.Ok) (E : Value → Shared → Prop) : (X.wish E).Ok :=
  ⟨ok.mod, ok.kind, ok.glob, ok.blt, ok.above, ok.inj, ok.has, ok.cab, ok.hd, ok.frames, ok.stk, ok.exf, ok.bs, ok.bsz, ok.noex, ok.exfs, ok.funs, ok.frf⟩
theorem Cx.Ok.unwish {X : Cx} {E : Value → Shared → Prop} (ok : (X.wish E).Ok) : X.Ok :=
  ⟨ok.mod, ok.kind, ok.glob, ok.blt, ok.above, ok.inj, ok.has, ok.cab, ok.hd, ok.frames, ok.stk, ok.exf, ok.bs, ok.bsz, ok.noex, ok.exfs, ok.funs, ok.frf⟩
section
variable {X : Cx} {pins : List (Addr × Obj)} {σ : St} {H : Hp} {s : Shared} {E : Value → Shared → Prop}
theorem Inv.wish (I : Inv X pins σ H s) (E : Value → Shared → Prop) : Inv (X.wish E) pins σ H s := ⟨I.ok.wish E, I.os, I.bare, I.base, I.loc, I.cell, I.free, I.freeC, I.pin, I.hok, I.len⟩
theorem Inv.unwish (I : Inv (X.wish E) pins σ H s) : Inv X pins σ H s := ⟨I.ok.unwish, I.os, I.bare, I.base, I.loc, I.cell, I.free, I.freeC, I.pin, I.hok, I.len⟩
theorem SP.unwish {D : Ends} {f : Flow} {s' : Shared} (h : SP (X.wish E) pins D f s') : SP X pins D f s' := by
  cases f with
  | next => obtain ⟨σ', H', I, q⟩ := h; exact ⟨σ', H', I.unwish, q⟩
  | brk => obtain ⟨σ', H', I, q⟩ := h; exact ⟨σ', H', I.unwish, q⟩
  | cont => obtain ⟨σ', H', I, q⟩ := h; exact ⟨σ', H', I.unwish, q⟩
  | ret u => obtain ⟨v, σ', H', I, r, q⟩ := h; exact ⟨v, σ', H', I.unwish, r, q⟩
theorem PSs.nox {st : List Stmt} {t : TS} (h : PSs X.nox st t) : PSs X st t := fun pins s σ H D I hw =>
  wpAny_mono (h pins s σ H D (I.wish _) hw) (fun _ _ q => q.unwish) fun _ _ z => False.elim z
end
section
variable {X : Cx} {st : Stmt} {rest : List Stmt} {t u : TS} {e : Expr} {te : TE} {pos : Pos}
def tNext : TS := fun D σ H => D.nx σ H
def tSeq (t u : TS) : TS := fun D σ H => t { D with nx := u D } σ H
theorem pss_nil : PSs X [] tNext := fun _ _ σ H _ I h => wpAny_execs_nil ⟨σ, H, I, h⟩
theorem pss_cons (h1 : PS X st t) (h2 : PSs X rest u) : PSs X (st :: rest) (tSeq t u) := by
  intro pins s σ H D I h
  refine wpAny_execs_cons (thn (h1 pins s σ H { D with nx := u D } I h) fun f s1 q => ?_)
  cases f with
  | next =>
    obtain ⟨σ', H', I', q⟩ := q
    exact h2 pins s1 σ' H' D I' q
  | ret v => exact q
  | brk => exact q
  | cont => exact q
theorem pss_one (h1 : PS X st t) : PSs X [st] t := by
  intro pins s σ H D I h
  refine wpAny_execs_cons (thn (h1 pins s σ H D I h) fun f s1 q => ?_)
  cases f with
  | next => exact wpAny_execs_nil q
  | ret v => exact q
  | brk => exact q
  | cont => exact q
theorem Inv.quiet {pins : List (Addr × Obj)} {σ : St} {H : Hp} {s : Shared} (I : Inv X pins σ H s) : interactive X.env = false := by simp [interactive, I.ok.kind]
def tDrop (te : TE) : TS := fun D σ H => te σ H fun _ H1 => D.nx σ H1
theorem ps_expr (he : PE X e te) (hs : swapsWith e none pos.line X.env = pure false := by rfl) : PS X (.Expr e pos) (tDrop te) := by
  intro pins s σ H D I h
  exact wpAny_Expr_any (thn (he pins s σ H _ I h) fun v s1 ⟨x, H1, I1, r1, q1⟩ => ⟨σ, H1, I1, q1⟩) I.quiet hs
def tRet (te : TE) : TS := fun D σ H => te σ H D.rt
theorem ps_ret (he : PE X e te) : PS X (.Return (some e) pos) (tRet te) := by
  intro pins s σ H D I h
  exact wpAny_Return_some (thn (he pins s σ H _ I h) fun v s1 ⟨x, H1, I1, r1, q1⟩ => ⟨x, σ, H1, I1, r1, q1⟩)
def tIfS (c : TT) (t u : TS) : TS := fun D σ H => c σ H fun b H1 => if b = true then t D σ H1 else u D σ H1
theorem ps_if {c : Expr} {a b : List Stmt} {tc : TT} (hc : PT X c tc) (ha : PSs X a t) (hb : PSs X b u) : PS X (.If c a b pos) (tIfS tc t u) := by
  intro pins s σ H D I h
  refine wpAny_If (thn (hc pins s σ H _ I h) fun d s1 ⟨H1, I1, q1⟩ => ?_)
  cases d with
  | true => exact ha pins s1 σ H1 D I1 q1
  | false => exact hb pins s1 σ H1 D I1 q1
end
abbrev TG := V → St → Hp → (St → Hp → Prop) → Prop
abbrev TGs := List V → St → Hp → (St → Hp → Prop) → Prop
def PG (X : Cx) (target : Expr) (t : TG) : Prop :=
  ∀ (pins : List (Addr × Obj)) (s : Shared) (σ : St) (H : Hp) (v : V) (u : Value) (Q : St → Hp → Prop), Inv X pins σ H s → RelV v u → t v σ H Q →
    wpAny (model X.prog X.w) X.A (assign target X.env u) (fun _ s' => ∃ σ' H', Inv X pins σ' H' s' ∧ Q σ' H') X.xe s
def PGs (X : Cx) (ts : List Expr) (t : TGs) : Prop :=
  ∀ (pins : List (Addr × Obj)) (s : Shared) (σ : St) (H : Hp) (vs : List V) (us : List Value) (Q : St → Hp → Prop), Inv X pins σ H s → Vals vs us → t vs σ H Q →
    wpAny (model X.prog X.w) X.A (assignInOrder ((assignEach ts X.env).map (·.2)) us) (fun _ s' => ∃ σ' H', Inv X pins σ' H' s' ∧ Q σ' H') X.xe s
abbrev TSet := V → V → V → Hp → (Hp → Prop) → Prop
def PSet (X : Cx) (t : TSet) : Prop :=
  ∀ (pins : List (Addr × Obj)) (s : Shared) (σ : St) (H : Hp) (o i v : V) (ov iv u : Value) (Q : Hp → Prop), Inv X pins σ H s → RelV o ov → RelV i iv → RelV v u → t o i v H Q →
    wpAny (model X.prog X.w) X.A (setItem ov iv u) (fun _ s' => ∃ H', Inv X pins σ H' s' ∧ Q H') X.xe s
section
variable {X : Cx} {pos : Pos}
def gName (i : Nat) : TG := fun v σ H Q => Q (σ.set i (some v)) H
theorem pg_name {i : Nat} {x : Str} (hN : X.N.Nodup) (hi : X.N[i]? = some x) (hx : Loc X.env.scope x) (hf : X.fn x = true ∨ X.env.scope.names.lookup x = some .local := by first | exact .inl rfl | exact .inr rfl | assumption) : PG X (.Name x pos) (gName i) := by
  intro pins s σ H v u Q I r h
  exact wpAny_assign_Name (store_ok I hN hi hx r (fun s' I' => ⟨_, H, I', h⟩) hf)
def gNil : TGs := fun vs σ H Q => vs = [] ∧ Q σ H
def gCons (t : TG) (u : TGs) : TGs := fun vs σ H Q => ∃ v r, vs = v :: r ∧ t v σ H fun σ' H' => u r σ' H' Q
theorem pgs_nil : PGs X [] gNil := by
  intro pins s σ H vs us Q I r h
  obtain ⟨e, h⟩ := h
  subst e
  cases r
  exact assignInOrder_nil ⟨σ, H, I, h⟩
theorem pgs_cons {e : Expr} {es : List Expr} {t : TG} {u : TGs} (h1 : PG X e t) (h2 : PGs X es u)
    (hs : (assignEach (e :: es) X.env).map (·.2) = assign e X.env :: (assignEach es X.env).map (·.2) := by rfl) : PGs X (e :: es) (gCons t u) := by
  intro pins s σ H vs us Q I r h
  obtain ⟨v, vr, e1, h⟩ := h
  subst e1
  cases r with
  | cons r rr =>
    rw [hs]
    refine assignInOrder_cons (thn (h1 pins s σ H _ _ _ I r h) fun _ s1 ⟨σ1, H1, I1, q1⟩ => ?_)
    exact h2 pins s1 σ1 H1 _ _ Q I1 rr q1
def gTup (K : PySem.W.Frag) (n : Nat) (t : TGs) : TG := fun v σ H Q => ∃ a xs, v = .ref a ∧ SqT K H a xs ∧ xs.length = n ∧ t xs σ H Q
theorem pg_tup {es : List Expr} {k : Nat} {t : TGs} {n : Nat} (hc : X.calm = true) (h : PGs X es t)
    (hn : (assignEach es X.env).length = n := by rfl) (hst : (assignEach es X.env).findIdx? (·.1) = none := by rfl) : PG X (.Tuple es k pos) (gTup X.K n t) := by
  intro pins s σ H v u Q I r hw
  obtain ⟨a, xs, e1, hq, hl, hw⟩ := hw
  subst e1
  cases r
  obtain ⟨its, rv, ht, hz⟩ := I.tuple hq
  refine assign_Tuple_tuple (I.ok.hd hc) ht (by simp [hn, ← hl, rv.length]) hst fun h' hx => ?_
  have I1 : Inv X pins σ H { s with heap := h' } := I.kept (t' := s.toks) fun b o e => hx b o (Nat.ne_of_lt (Heap.lt_size e)) e
  exact h pins _ σ H xs _ Q I1 (by simpa using rv) hw
def gSub (to ti : TE) (t : TSet) : TG := fun v σ H Q => to σ H fun o H1 => ti σ H1 fun i H2 => t o i v H2 fun H3 => Q σ H3
theorem pg_sub {o i : Expr} {to ti : TE} {t : TSet} (ho : PE X o to) (hi : PE X i ti) (hs : PSet X t)
    (ha : ∀ v, assign (.Subscript o i pos) X.env v = (do
      let ov ← holding [v] (eval o X.env)
      let iv ← holding [v, ov] (eval i X.env)
      standAt pos
      holding [v, ov, iv] (setItem ov iv v)
      release [v, ov, iv] []) := by intro _; rfl) : PG X (.Subscript o i pos) (gSub to ti t) := by
  intro pins s σ H v u Q I r h
  rw [ha]
  refine wpAny_bind (wpAny_holding (thn (ho pins s σ H _ I h) fun ov s1 ⟨x, H1, I1, r1, q1⟩ => ?_))
  refine wpAny_bind (wpAny_holding (thn (hi pins s1 σ H1 _ I1 q1) fun iv s2 ⟨y, H2, I2, r2, q2⟩ => ?_))
  refine wpAny_bind (wpAny_standAt (wpAny_bind (wpAny_holding (thn (hs pins s2 σ H2 x y v ov iv u _ I2 r1 r2 r q2) fun _ s3 ⟨H3, I3, q3⟩ => ?_))))
  exact wpAny_release ⟨σ, H3, I3, q3⟩
def tAsg (te : TE) (g : TG) : TS := fun D σ H => te σ H fun x H1 => g x σ H1 D.nx
theorem ps_asg {tg e : Expr} {te : TE} {g : TG} (he : PE X e te) (hg : PG X tg g) (hs : swapsWithSole [tg] e pos.line X.env = pure false := by rfl) (hw : swappedStores [tg] e X.env = pure none := by rfl)
    (h1 : (assignEach [tg] X.env).map (·.2) = [assign tg X.env] := by rfl) : PS X (.Assign [tg] e pos) (tAsg te g) := by
  intro pins s σ H D I h
  refine wpAny_Assign_stores (thn (he pins s σ H _ I h) fun v s1 ⟨x, H1, I1, r1, q1⟩ => ?_) hs hw
  rw [h1]
  exact thn (hg pins s1 σ H1 x v _ I1 r1 q1) fun _ s2 q => q
theorem ps_set {i : Nat} {x : Str} {e : Expr} {te : TE} {pos' : Pos} (hN : X.N.Nodup) (hi : X.N[i]? = some x) (hx : Loc X.env.scope x) (he : PE X e te) (hs : swapsWith e (some (.Name x pos')) pos.line X.env = pure false := by rfl) (hf : X.fn x = true ∨ X.env.scope.names.lookup x = some .local := by first | exact .inl rfl | exact .inr rfl | assumption) :
    PS X (.Assign [.Name x pos'] e pos) (tAsg te (gName i)) := by
  intro pins s σ H D I h
  refine wpAny_Assign_Name (thn (he pins s σ H _ I h) fun v s1 ⟨y, H1, I1, r1, q1⟩ => ?_) hs
  exact store_ok I1 hN hi hx r1 (fun s2 I2 => ⟨_, H1, I2, q1⟩) hf
end
section
variable {X : Cx} {pos : Pos}
def tWhile (c : TT) (tb : TS) : TS := fun D σ H => ∃ W : Nat → St → Hp → Prop, (∃ m, W m σ H) ∧ ∀ m σ H, W m σ H →
  c σ H fun b H1 => if b = true then ∃ N : St → Hp → Prop, (∀ σ' H', N σ' H' → ∃ m', m' < m ∧ W m' σ' H') ∧ tb { D with nx := N, ct := N, bk := D.nx } σ H1 else D.nx σ H1
theorem ps_while {c : Expr} {body : List Stmt} {tc : TT} {tb : TS} (hp : PassesOwn (model X.prog X.w) X.A X.env X.xe) (hc : PT X c tc) (hb : PSs X body tb) : PS X (.While c body [] pos) (tWhile tc tb) := by
  intro pins s σ H D I h
  obtain ⟨W, ⟨m0, w0⟩, turn⟩ := h
  refine wpAny_While (codeAny_whileLoop (fun n s' => ∃ σ' H', Inv X pins σ' H' s' ∧ W n σ' H') ?_ m0 ⟨σ, H, I, w0⟩)
  rintro n s1 ⟨σ1, H1, I1, w1⟩
  refine wpAny_passesOwn hp (thn (hc pins s1 σ1 H1 _ I1 (turn n σ1 H1 w1)) fun b s2 ⟨H2, I2, q2⟩ => ?_)
  cases b with
  | true =>
    obtain ⟨N, hN, q2⟩ := q2
    rw [if_pos rfl]
    refine wpAny_passesOwn hp (thn (hb pins s2 σ1 H2 _ I2 q2) fun f s3 q3 => ?_)
    cases f with
    | next =>
      obtain ⟨σ3, H3, I3, n3⟩ := q3
      obtain ⟨m', hm, w3⟩ := hN σ3 H3 n3
      exact ⟨m', hm, σ3, H3, I3, w3⟩
    | cont =>
      obtain ⟨σ3, H3, I3, n3⟩ := q3
      obtain ⟨m', hm, w3⟩ := hN σ3 H3 n3
      exact ⟨m', hm, σ3, H3, I3, w3⟩
    | brk => exact q3
    | ret v => exact q3
  | false =>
    rw [if_neg Bool.false_ne_true]
    exact wpAny_execs_nil ⟨σ1, H2, I2, q2⟩
end
structure It where
  go : Nat → Hp → Prop
  yld : Nat → Hp → V → Hp → Prop
  stop : Nat → Hp → Prop
def FpOk (X : Cx) (pins : List (Addr × Obj)) (H : Hp) (b : Addr) : Prop :=
  H b = none ∧ b ≠ X.env.locals ∧ b ∉ X.fs ∧ (b ∈ X.ex ∨ X.s₀.heap.objs.size ≤ b) ∧ (∀ x c, X.env.cells.lookup x = some c → c ≠ b) ∧ ∀ p ∈ X.pn ++ pins, p.1 ≠ b
theorem Inv.fpOk {X : Cx} {pins : List (Addr × Obj)} {σ : St} {H H' : Hp} {s : Shared} {b : Addr} (I : Inv X pins σ H s) (hb : s.heap.objs.size ≤ b) (hn : H' b = none) : FpOk X pins H' b := by
  refine ⟨hn, Nat.ne_of_gt (Nat.lt_of_lt_of_le I.lt hb), I.nofs hb, .inr (Nat.le_trans I.sz hb), fun x c e z => ?_, fun p hp z => ?_⟩
  · obtain ⟨v, q⟩ := I.cell x c e
    exact absurd (Nat.lt_of_lt_of_le q.lt (by rw [z]; exact hb)) (Nat.lt_irrefl _)
  · exact absurd (Nat.lt_of_lt_of_le (Heap.lt_size (I.pin p hp).1) (by rw [z]; exact hb)) (Nat.lt_irrefl _)
structure Turn (P : Program) (w : World) (K : PySem.W.Frag) (tg : Expr) (J : It) (fp : List Addr) (it : Addr) (tn : Nat → Heap → Prop) : Prop where
  mem : it ∈ fp
  obj : ∀ i h, tn i h → ∀ b ∈ fp, ∃ o, h.get? b = some o ∧ ∀ v, o.data ≠ .cell v
  keep : ∀ i h h', tn i h → (∀ b ∈ fp, ∀ o, h.get? b = some o → h'.get? b = some o) → tn i h'
  item : ∀ (X : Cx), X.prog = P → X.w = w → X.K = K → X.calm = true → ∀ (i : Nat) (pins : List (Addr × Obj)) (s : Shared) (σ : St) (H : Hp) (E : Value → Shared → Prop), Inv X pins σ H s → (∀ b ∈ fp, FpOk X pins H b) → tn i s.heap → J.go i H →
    wpAny (model P w) X.A (pyNext (.ref it)) (fun r s1 => ∃ u, r = some u ∧
      wpAny (model P w) X.A (letOwnedTupleGo tg (.ref it) u) (fun _ s2 => ∃ x H', Inv X pins σ H' s2 ∧ RelV x u ∧ J.yld i H x H' ∧ tn (i + 1) s2.heap ∧ ∀ b ∈ fp, H' b = none) E s1) E s
  done : ∀ (X : Cx), X.prog = P → X.w = w → X.K = K → X.calm = true → ∀ (i : Nat) (pins : List (Addr × Obj)) (s : Shared) (σ : St) (H : Hp) (E : Value → Shared → Prop), Inv X pins σ H s → (∀ b ∈ fp, FpOk X pins H b) → tn i s.heap → J.stop i H →
    wpAny (model P w) X.A (pyNext (.ref it)) (fun r s1 => r = none ∧ Inv X pins σ H s1) E s
  self : ∀ (A : Around) (i : Nat) (s : Shared) (Q : Value → Shared → Prop) (E : Value → Shared → Prop), tn i s.heap → Q (.ref it) s → wpAny (model P w) A (pyIter (.ref it)) Q E s
abbrev TI := St → Hp → (It → Hp → Prop) → Prop
def PIE (X : Cx) (pins : List (Addr × Obj)) (σ : St) (tg : Expr) (R : It → Hp → Prop) (itv : Value) (s2 : Shared) : Prop :=
  ∃ (it : Addr) (fp : List Addr) (tn : Nat → Heap → Prop) (J : It) (H' : Hp), itv = .ref it ∧ Inv X pins σ H' s2 ∧ Turn X.prog X.w X.K tg J fp it tn ∧ tn 0 s2.heap ∧ (∀ b ∈ fp, FpOk X pins H' b) ∧ R J H'
def PI (X : Cx) (tg iter : Expr) (wi : TI) : Prop :=
  ∀ (pins : List (Addr × Obj)) (s : Shared) (σ : St) (H : Hp) (R : It → Hp → Prop), Inv X pins σ H s → wi σ H R →
    wpAny (model X.prog X.w) X.A (eval iter X.env) (fun v s1 => wpAny (model X.prog X.w) X.A (pyIter v) (PIE X pins σ tg R) X.xe s1) X.xe s
theorem go_of {M : Model} {A : Around} {E : Value → Shared → Prop} {s : Shared} {tg : Expr} {it : Addr} {u : Value} {o : Obj} {n : String} {vs : Array Value} {Q : Unit → Shared → Prop} (ho : s.heap.get? it = some o) (hc : o.cls = .type n) (hd : o.data = .fields vs)
    (hn : ["enumerate", "zip", "dict_itemiterator", "dict_reverseitemiterator", "odict_iterator", "itertools.zip_longest", "itertools.pairwise"].contains n = false) (hQ : Q () s) : wpAny M A (letOwnedTupleGo tg (.ref it) u) Q E s := by
  unfold letOwnedTupleGo
  cases tg <;> first
    | exact wpAny_pure hQ
    | (cases u <;> first
        | exact wpAny_pure hQ
        | (refine wpAny_bind (wpAny_load ho ?_)
           rw [hc, hd]
           show wpAny M A (if (["enumerate", "zip", "dict_itemiterator", "dict_reverseitemiterator", "odict_iterator", "itertools.zip_longest", "itertools.pairwise"].contains n && vs[0]? == some (rawInt _)) = true then _ else _) Q E s
           rw [if_neg (by intro h; rw [hn, Bool.false_and] at h; cases h)]
           exact wpAny_pure hQ))
def Itl (K : PySem.W.Frag) (a : Addr) : It :=
  ⟨fun i H => ∃ xs x, SqL K H a xs ∧ xs[i]? = some x, fun i H x H' => H' = H ∧ ∀ xs, SqL K H a xs → xs[i]? = some x, fun i H => ∃ xs, SqL K H a xs ∧ xs.length ≤ i⟩
def Itt (K : PySem.W.Frag) (a : Addr) : It :=
  ⟨fun i H => ∃ xs x, SqT K H a xs ∧ xs[i]? = some x, fun i H x H' => H' = H ∧ ∀ xs, SqT K H a xs → xs[i]? = some x, fun i H => ∃ xs, SqT K H a xs ∧ xs.length ≤ i⟩
def Itr (lo : Int) (n : Nat) : It := ⟨fun i _ => i < n, fun i H x H' => H' = H ∧ x = .int (lo + i), fun i _ => n ≤ i⟩
theorem turn_list {P : Program} {w : World} {K : PySem.W.Frag} {tg : Expr} (a it : Addr) : Turn P w K tg (Itl K a) [it] it (fun i h => h.IsListIter it a i) where
  mem := by simp
  obj := fun i h st b hb => by
    have e : b = it := by simpa using hb
    subst e
    obtain ⟨o, e, c, d⟩ := st
    exact ⟨o, e, fun v z => by rw [d] at z; cases z⟩
  keep := fun i h h' st k => st.at fun o e => k it (by simp) o e
  item := by
    intro X hP hw hK hc i pins s σ H E I hf st hg
    subst hP hw hK
    obtain ⟨xs, x, hq, hx⟩ := hg
    obtain ⟨its, rv, p, hz⟩ := I.list hq
    obtain ⟨u, hu, ru⟩ := rv.get hx
    obtain ⟨f0, f1, f2, f3, f4, f5⟩ := hf it (by simp)
    refine wpAny_pyNext_list_item st p.isList (x := u) (by simpa using hu) fun h' st' sb => ?_
    have I1 : Inv X pins σ H { s with heap := h' } := I.turned (t' := s.toks) (fun b o hb e => (sb.2 b hb).trans e) f0 f1 f3 f4 f5
    obtain ⟨o, e, c, d⟩ := id st'
    exact ⟨u, rfl, go_of (s := { s with heap := h' }) e c d (by decide) ⟨x, H, I1, ru, ⟨rfl, fun ys hy => by rw [I.list_inj hy hq]; exact hx⟩, st', fun b hb => (hf b hb).1⟩⟩
  done := by
    intro X hP hw hK hc i pins s σ H E I hf st hg
    subst hP hw hK
    obtain ⟨xs, hq, hx⟩ := hg
    obtain ⟨its, rv, p, hz⟩ := I.list hq
    obtain ⟨f0, f1, f2, f3, f4, f5⟩ := hf it (by simp)
    have hl := rv.length
    exact wpAny_pyNext_list_end (I.ok.hd hc) st p.isList (by simp; omega) fun h' eb => ⟨rfl, I.turned (t' := s.toks) (fun b o hb e => eb b o hb e) f0 f1 f3 f4 f5⟩
  self := fun _ _ _ _ _ st h => wpAny_pyIter_listiter st h
theorem turn_tuple {P : Program} {w : World} {K : PySem.W.Frag} {tg : Expr} (a it : Addr) : Turn P w K tg (Itt K a) [it] it (fun i h => h.IsTupleIter it a i) where
  mem := by simp
  obj := fun i h st b hb => by
    have e : b = it := by simpa using hb
    subst e
    obtain ⟨o, e, c, d⟩ := st
    exact ⟨o, e, fun v z => by rw [d] at z; cases z⟩
  keep := fun i h h' st k => st.at fun o e => k it (by simp) o e
  item := by
    intro X hP hw hK hc i pins s σ H E I hf st hg
    subst hP hw hK
    obtain ⟨xs, x, hq, hx⟩ := hg
    obtain ⟨its, rv, p, hz⟩ := I.tuple hq
    obtain ⟨u, hu, ru⟩ := rv.get hx
    obtain ⟨f0, f1, f2, f3, f4, f5⟩ := hf it (by simp)
    refine wpAny_pyNext_tuple_item st (show s.heap.IsTuple a its.toArray from p) (x := u) (by simpa using hu) fun h' st' sb => ?_
    have I1 : Inv X pins σ H { s with heap := h' } := I.turned (t' := s.toks) (fun b o hb e => (sb.2 b hb).trans e) f0 f1 f3 f4 f5
    obtain ⟨o, e, c, d⟩ := id st'
    exact ⟨u, rfl, go_of (s := { s with heap := h' }) e c d (by decide) ⟨x, H, I1, ru, ⟨rfl, fun ys hy => by rw [I.tuple_inj hy hq]; exact hx⟩, st', fun b hb => (hf b hb).1⟩⟩
  done := by
    intro X hP hw hK hc i pins s σ H E I hf st hg
    subst hP hw hK
    obtain ⟨xs, hq, hx⟩ := hg
    obtain ⟨its, rv, p, hz⟩ := I.tuple hq
    obtain ⟨f0, f1, f2, f3, f4, f5⟩ := hf it (by simp)
    have hl := rv.length
    exact wpAny_pyNext_tuple_end (I.ok.hd hc) st (show s.heap.IsTuple a its.toArray from p) (by simp; omega) fun h' eb => ⟨rfl, I.turned (t' := s.toks) (fun b o hb e => eb b o hb e) f0 f1 f3 f4 f5⟩
  self := fun _ _ _ _ _ st h => wpAny_pyIter_tupleiter st h
theorem turn_range {P : Program} {w : World} {K : PySem.W.Frag} {tg : Expr} (it : Addr) (lo : Int) (n : Nat) : Turn P w K tg (Itr lo n) [it] it (fun i h => IsRangeIter h it (lo + (i : Nat) * 1) ((n : Int) - (i : Nat)) 1) where
  mem := by simp
  obj := fun i h st b hb => by
    have e : b = it := by simpa using hb
    subst e
    exact ⟨_, st, fun v z => by
      have z' : Data.fields _ = Data.cell v := z
      cases z'⟩
  keep := fun i h h' st k => k it (by simp) _ st
  item := by
    intro X hP hw hK hc i pins s σ H E I hf st hg
    subst hP hw hK
    obtain ⟨f0, f1, f2, f3, f4, f5⟩ := hf it (by simp)
    have W := Walks.range (prog := X.prog) (w := X.w) (I.ok.hd hc) it lo 1 n
    refine W.item i s _ _ hg st fun v h' tk hv st' kk => ?_
    obtain ⟨t, rfl⟩ := hv
    have I1 : Inv X pins σ H { s with heap := h', toks := tk } := I.turned (fun b o hb e => kk b o (by simpa using hb) e) f0 f1 f3 f4 f5
    refine ⟨_, rfl, go_of (s := { s with heap := h', toks := tk }) (n := "range_iterator") st' rfl rfl (by decide) ⟨.int (lo + i), H, I1, ⟨t, ?_⟩, ⟨rfl, rfl⟩, st', fun b hb => (hf b hb).1⟩⟩
    rw [Int.mul_one]
  done := by
    intro X hP hw hK hc i pins s σ H E I hf st hg
    subst hP hw hK
    obtain ⟨f0, f1, f2, f3, f4, f5⟩ := hf it (by simp)
    exact wpAny_pyNext_range_end (I.ok.hd hc) st (by have : n ≤ i := hg; omega) fun h' eb => ⟨rfl, I.turned (t' := s.toks) (fun b o hb e => eb b o hb e) f0 f1 f3 f4 f5⟩
  self := fun _ _ _ _ _ st h => wpAny_pyIter_rangeiter st h
end L2
namespace L2
open PySem PySem.Spec PyProof.Rows
section
variable {X : Cx} {tg : Expr}
def iList (K : PySem.W.Frag) (tl : TE) : TI := fun σ H R => tl σ H fun x H1 => ∃ a, x = .ref a ∧ (∃ xs, SqL K H1 a xs) ∧ R (Itl K a) H1
def iTup (K : PySem.W.Frag) (tl : TE) : TI := fun σ H R => tl σ H fun x H1 => ∃ a, x = .ref a ∧ (∃ xs, SqT K H1 a xs) ∧ R (Itt K a) H1
theorem pi_list {l : Expr} {tl : TE} (hl : PE X l tl) : PI X tg l (iList X.K tl) := by
  intro pins s σ H R I h
  refine thn (hl pins s σ H _ I h) fun v s1 ⟨x, H1, I1, r1, q1⟩ => ?_
  obtain ⟨a, e, ⟨xs, hq⟩, q⟩ := q1
  subst e
  cases r1
  obtain ⟨its, rv, p, hz⟩ := I1.list hq
  refine wpAny_pyIter_list p.isList ?_
  refine ⟨s1.heap.objs.size, [s1.heap.objs.size], _, _, H1, rfl, I1.kept (t' := s1.toks) fun b o e => Heap.get?_push_of_some _ e, turn_list a _, ⟨_, Heap.get?_push_size _ rfl, rfl, rfl⟩, fun b hb => ?_, q⟩
  have e : b = s1.heap.objs.size := by simpa using hb
  subst e
  exact I1.fpOk (Nat.le_refl _) (I1.hok.fresh (Nat.le_refl _))
theorem pi_tup {l : Expr} {tl : TE} (hl : PE X l tl) : PI X tg l (iTup X.K tl) := by
  intro pins s σ H R I h
  refine thn (hl pins s σ H _ I h) fun v s1 ⟨x, H1, I1, r1, q1⟩ => ?_
  obtain ⟨a, e, ⟨xs, hq⟩, q⟩ := q1
  subst e
  cases r1
  obtain ⟨its, rv, p, hz⟩ := I1.tuple hq
  refine wpAny_pyIter_tuple (show s1.heap.IsTuple a its.toArray from p) ?_
  refine ⟨s1.heap.objs.size, [s1.heap.objs.size], _, _, H1, rfl, I1.kept (t' := s1.toks) fun b o e => Heap.get?_push_of_some _ e, turn_tuple a _, ⟨_, Heap.get?_push_size _ rfl, rfl, rfl⟩, fun b hb => ?_, q⟩
  have e : b = s1.heap.objs.size := by simpa using hb
  subst e
  exact I1.fpOk (Nat.le_refl _) (I1.hok.fresh (Nat.le_refl _))
theorem range_it {pins : List (Addr × Obj)} {σ : St} {H : Hp} {s : Shared} {R : It → Hp → Prop} {E : Value → Shared → Prop} {lo hi : Int} {t u v : Tok} {tk : Nat} (I : Inv X pins σ H s) (h1 : -(2 ^ 62) ≤ lo) (h2 : lo < 2 ^ 62) (h3 : -(2 ^ 62) ≤ hi) (h4 : hi < 2 ^ 62)
    (q : R (Itr lo (hi - lo).toNat) H) : wpAny (model X.prog X.w) X.A (pyIter (.ref s.heap.objs.size)) (PIE X pins σ tg R) E { s with heap := s.heap.push { cls := .type "range", data := .fields #[.int lo t, .int hi u, .int 1 v] }, toks := tk } := by
  refine wpAny_pyIter_range (IsRange.new ..) (small_one h1 h2 h3 h4) ?_
  have I1 : Inv X pins σ H { s with heap := s.heap.push { cls := .type "range", data := .fields #[.int lo t, .int hi u, .int 1 v] }, toks := tk } := I.kept fun b o e => Heap.get?_push_of_some _ e
  refine ⟨(s.heap.push { cls := .type "range", data := .fields #[.int lo t, .int hi u, .int 1 v] }).objs.size, [(s.heap.push { cls := .type "range", data := .fields #[.int lo t, .int hi u, .int 1 v] }).objs.size], _, _, H, rfl,
    I1.kept (t' := tk) fun b o e => Heap.get?_push_of_some _ e, turn_range _ lo (hi - lo).toNat, ?_, fun b hb => ?_, q⟩
  · have e1 : lo + ((0 : Nat) : Int) * 1 = lo := by simp
    have e2 : (((hi - lo).toNat : Nat) : Int) - ((0 : Nat) : Int) = Builtin.Range.rangeSize lo hi 1 := by rw [rangeSize_one]; split <;> omega
    show IsRangeIter _ _ (lo + ((0 : Nat) : Int) * 1) ((((hi - lo).toNat : Nat) : Int) - ((0 : Nat) : Int)) 1
    rw [e1, e2]
    exact Heap.get?_push_size _ rfl
  · have e : b = (s.heap.push { cls := .type "range", data := .fields #[.int lo t, .int hi u, .int 1 v] }).objs.size := by simpa using hb
    subst e
    exact I1.fpOk (Nat.le_refl _) (I1.hok.fresh (Nat.le_refl _))
def iRng1 (ta : TA) : TI := fun σ H R => ta σ H fun vs H1 => ∃ j : Int, vs = [.int j] ∧ -(2 ^ 62) ≤ j ∧ j < 2 ^ 62 ∧ R (Itr 0 j.toNat) H1
theorem pi_range1 {a : Expr} {ta : TA} {p pos : Pos} (hg : Gl X "range") (hm : X.mg "range" = none) (ha : PA X [a] ta) (hs : starEach [a] X.env = [(false, eval a X.env)] := by rfl) : PI X tg (.Call (.Name "range" p) [a] [] pos) (iRng1 ta) := by
  intro pins s σ H R I h
  refine Call_ (ld_blt I hg hm boot_range (PyProof.Rows.callWith_type1 (thn (ha pos pins s σ H _ I h) fun us s1 ⟨vs, H1, I1, r1, q1⟩ => ?_) hs rfl))
  obtain ⟨j, e, q1, q2, q⟩ := q1
  subst e
  cases r1 with
  | cons r rr =>
    cases rr
    obtain ⟨t, rfl⟩ := r
    exact call_range_1 (range_it I1 (by omega) (by omega) q1 q2 (by simpa using q))
def tFor (wi : TI) (g : TG) (tb : TS) : TS := fun D σ H => wi σ H fun J H1 => ∃ W : Nat → Nat → St → Hp → Prop, (∃ m, W 0 m σ H1) ∧ ∀ i m σ H, W i m σ H →
  (J.stop i H ∧ D.nx σ H) ∨ (J.go i H ∧ ∃ N : St → Hp → Prop, (∀ σ' H', N σ' H' → ∃ m', m' < m ∧ W (i + 1) m' σ' H') ∧ ∀ x H', J.yld i H x H' → g x σ H' fun σ2 H2 => tb { D with nx := N, ct := N, bk := D.nx } σ2 H2)
def pinsAt (fp : List Addr) (h : Heap) : List (Addr × Obj) := fp.filterMap fun b => (h.get? b).map fun o => (b, o)
theorem mem_pinsAt {fp : List Addr} {h : Heap} {b : Addr} {o : Obj} (hb : b ∈ fp) (e : h.get? b = some o) : (b, o) ∈ pinsAt fp h := List.mem_filterMap.mpr ⟨b, hb, by rw [e]; rfl⟩
theorem of_pinsAt {fp : List Addr} {h : Heap} {p : Addr × Obj} (hp : p ∈ pinsAt fp h) : p.1 ∈ fp ∧ h.get? p.1 = some p.2 := by
  obtain ⟨b, hb, e⟩ := List.mem_filterMap.mp hp
  cases q : h.get? b with
  | none => rw [q] at e; cases e
  | some o =>
    rw [q] at e
    have e' : (b, o) = p := Option.some.inj e
    subst e'
    exact ⟨hb, q⟩
theorem Inv.pinned {pins : List (Addr × Obj)} {σ : St} {H : Hp} {s : Shared} {fp : List Addr} (I : Inv X pins σ H s) (hf : ∀ b ∈ fp, FpOk X pins H b) (ho : ∀ b ∈ fp, ∃ o, s.heap.get? b = some o ∧ ∀ v, o.data ≠ .cell v) : Inv X (pins ++ pinsAt fp s.heap) σ H s :=
  I.pins_of fun p hp => (List.mem_append.mp hp).elim (fun z => I.pin p (List.mem_append_right _ z)) fun z => by
    obtain ⟨hb, e⟩ := of_pinsAt z
    obtain ⟨f0, f1, f2, _⟩ := hf p.1 hb
    obtain ⟨o, e', d⟩ := ho p.1 hb
    rw [e] at e'; cases e'
    exact ⟨e, f0, f1, f2, d⟩
theorem Inv.unpinned {pins pl : List (Addr × Obj)} {σ : St} {H : Hp} {s : Shared} (I : Inv X (pins ++ pl) σ H s) : Inv X pins σ H s := I.pins_of fun p hp => I.pin p (List.mem_append_right _ (List.mem_append_left _ hp))
theorem ps_for {iter : Expr} {body : List Stmt} {wi : TI} {g : TG} {tb : TS} {pos : Pos} (hp : PassesOwn (model X.prog X.w) X.A X.env X.xe) (hc : X.calm = true) (hi : PI X tg iter wi) (hg : PG X tg g) (hb : PSs X body tb)
    (hs : ∀ x, foldedSetIterable iter X.env x = pure x := by intro _; rfl) : PS X (.For tg iter body [] pos) (tFor wi g tb) := by
  intro pins s σ H D I h
  refine wpAny_For (thn (hi pins s σ H _ I h) fun v s1 h1 => thn h1 fun itv s2 h2 => ?_) hs
  obtain ⟨it, fp, tn, J, H2, e, I2, T, st2, f2, W, ⟨m0, w0⟩, turn⟩ := h2
  subst e
  have stat : ∀ {H' : Hp}, (∀ b ∈ fp, H' b = none) → ∀ b ∈ fp, FpOk X pins H' b := fun hn b hb => ⟨hn b hb, (f2 b hb).2⟩
  refine codeAny_forLoop_any (fun n s' => ∃ i σ' H', Inv X pins σ' H' s' ∧ tn i s'.heap ∧ (∀ b ∈ fp, H' b = none) ∧ W i n σ' H') ?_ m0 ⟨0, σ, H2, I2, st2, fun b hb => (f2 b hb).1, w0⟩
  rintro n s3 ⟨i, σ3, H3, I3, st3, fr3, w3⟩
  rcases turn i n σ3 H3 w3 with ⟨stop, qn⟩ | ⟨go, N, hN, step⟩
  · refine wpAny_passesOwn hp (thn (T.done X rfl rfl rfl hc i pins s3 σ3 H3 X.xe I3 (stat fr3) st3 stop) fun r s4 ⟨hr, I4⟩ => ?_)
    subst hr
    exact wpAny_execs_nil ⟨σ3, H3, I4, qn⟩
  · refine wpAny_passesOwn hp (thn (T.item X rfl rfl rfl hc i pins s3 σ3 H3 X.xe I3 (stat fr3) st3 go) fun r s4 ⟨u, hr, h4⟩ => ?_)
    subst hr
    refine wpAny_passesOwn hp (thn h4 fun _ s5 ⟨x, H5, I5, r5, y5, st5, fr5⟩ => ?_)
    have I5' := I5.pinned (stat fr5) (T.obj _ _ st5)
    refine wpAny_passesOwn hp (thn (hg _ s5 σ3 H5 x u _ I5' r5 (step x H5 y5)) fun _ s6 ⟨σ6, H6, I6, q6⟩ => ?_)
    refine wpAny_passesOwn hp (thn (hb _ s6 σ6 H6 _ I6 q6) fun f s7 q7 => ?_)
    have again : ∀ {σ7 : St} {H7 : Hp}, Inv X (pins ++ pinsAt fp s5.heap) σ7 H7 s7 → N σ7 H7 → ∃ m, m < n ∧ ∃ i σ' H', Inv X pins σ' H' s7 ∧ tn i s7.heap ∧ (∀ b ∈ fp, H' b = none) ∧ W i m σ' H' := fun {σ7 H7} I7 n7 => by
      obtain ⟨m', hm, w7⟩ := hN σ7 H7 n7
      refine ⟨m', hm, i + 1, σ7, H7, I7.unpinned, T.keep _ _ _ st5 fun b hb o e => (I7.pin (b, o) (List.mem_append_right _ (List.mem_append_right _ (mem_pinsAt hb e)))).1, fun b hb => ?_, w7⟩
      obtain ⟨o, e, d⟩ := T.obj _ _ st5 b hb
      exact (I7.pin (b, o) (List.mem_append_right _ (List.mem_append_right _ (mem_pinsAt hb e)))).2.1
    cases f with
    | next => obtain ⟨σ7, H7, I7, n7⟩ := q7; exact again I7 n7
    | cont => obtain ⟨σ7, H7, I7, n7⟩ := q7; exact again I7 n7
    | brk => obtain ⟨σ7, H7, I7, q7⟩ := q7; exact ⟨σ7, H7, I7.unpinned, q7⟩
    | ret v => obtain ⟨x7, σ7, H7, I7, r7, q7⟩ := q7; exact ⟨x7, σ7, H7, I7.unpinned, r7, q7⟩
end
theorem for_list {K : PySem.W.Frag} {a : Addr} {xs : List V} {g : TG} {tb : TS} {D : Ends} {σ : St} {H : Hp} (Pv : Nat → St → Hp → Prop) (h0 : Pv 0 σ H) (hl : ∀ i σ H, i ≤ xs.length → Pv i σ H → SqL K H a xs)
    (hs : ∀ i x σ H, xs[i]? = some x → Pv i σ H → g x σ H fun σ2 H2 => tb { D with nx := Pv (i + 1), ct := Pv (i + 1), bk := D.nx } σ2 H2) (hd : ∀ σ H, Pv xs.length σ H → D.nx σ H) :
    ∃ W : Nat → Nat → St → Hp → Prop, (∃ m, W 0 m σ H) ∧ ∀ i m σ H, W i m σ H →
      ((Itl K a).stop i H ∧ D.nx σ H) ∨ ((Itl K a).go i H ∧ ∃ N : St → Hp → Prop, (∀ σ' H', N σ' H' → ∃ m', m' < m ∧ W (i + 1) m' σ' H') ∧ ∀ x H', (Itl K a).yld i H x H' → g x σ H' fun σ2 H2 => tb { D with nx := N, ct := N, bk := D.nx } σ2 H2) := by
  refine ⟨fun i m σ H => m = xs.length - i ∧ i ≤ xs.length ∧ Pv i σ H, ⟨xs.length, by simp, Nat.zero_le _, h0⟩, ?_⟩
  rintro i m σ H ⟨rfl, hi, p⟩
  have q := hl i σ H hi p
  by_cases hlt : i < xs.length
  · refine .inr ⟨⟨xs, xs[i], q, by simp [hlt]⟩, Pv (i + 1), fun σ' H' p' => ⟨xs.length - (i + 1), by omega, rfl, hlt, p'⟩, fun x H' y => ?_⟩
    obtain ⟨e, y⟩ := y
    subst e
    exact hs i x σ _ (y xs q) p
  · have e : i = xs.length := by omega
    subst e
    exact .inl ⟨⟨xs, q, Nat.le_refl _⟩, hd σ H p⟩
theorem for_range {lo : Int} {n : Nat} {g : TG} {tb : TS} {D : Ends} {σ : St} {H : Hp} (Pv : Nat → St → Hp → Prop) (h0 : Pv 0 σ H)
    (hs : ∀ i σ H, i < n → Pv i σ H → g (.int (lo + i)) σ H fun σ2 H2 => tb { D with nx := Pv (i + 1), ct := Pv (i + 1), bk := D.nx } σ2 H2) (hd : ∀ σ H, Pv n σ H → D.nx σ H) :
    ∃ W : Nat → Nat → St → Hp → Prop, (∃ m, W 0 m σ H) ∧ ∀ i m σ H, W i m σ H →
      ((Itr lo n).stop i H ∧ D.nx σ H) ∨ ((Itr lo n).go i H ∧ ∃ N : St → Hp → Prop, (∀ σ' H', N σ' H' → ∃ m', m' < m ∧ W (i + 1) m' σ' H') ∧ ∀ x H', (Itr lo n).yld i H x H' → g x σ H' fun σ2 H2 => tb { D with nx := N, ct := N, bk := D.nx } σ2 H2) := by
  refine ⟨fun i m σ H => m = n - i ∧ i ≤ n ∧ Pv i σ H, ⟨n, by simp, Nat.zero_le _, h0⟩, ?_⟩
  rintro i m σ H ⟨rfl, hi, p⟩
  by_cases hlt : i < n
  · refine .inr ⟨hlt, Pv (i + 1), fun σ' H' p' => ⟨n - (i + 1), by omega, rfl, hlt, p'⟩, fun x H' y => ?_⟩
    obtain ⟨e, y⟩ := y
    subst e y
    exact hs i σ _ hlt p
  · have e : i = n := by omega
    subst e
    exact .inl ⟨Nat.le_refl _, hd σ H p⟩
end L2
namespace L2
open PySem PySem.Spec PyProof.Rows
abbrev R2 := V → V → Hp → VK → Prop
def OpR (X : Cx) (f : Value → Value → Sem Value) (r : R2) : Prop :=
  ∀ (pins : List (Addr × Obj)) (s : Shared) (σ : St) (H : Hp) (x y : V) (v u : Value) (Q : VK), Inv X pins σ H s → RelV x v → RelV y u → r x y H Q →
    wpAny (model X.prog X.w) X.A (f v u) (EP X pins σ Q) X.xe s
def UnR (X : Cx) (f : Value → Sem Value) (r : V → Hp → VK → Prop) : Prop :=
  ∀ (pins : List (Addr × Obj)) (s : Shared) (σ : St) (H : Hp) (x : V) (v : Value) (Q : VK), Inv X pins σ H s → RelV x v → r x H Q →
    wpAny (model X.prog X.w) X.A (f v) (EP X pins σ Q) X.xe s
def CallR (X : Cx) (f : Value) (r : List V → Hp → VK → Prop) : Prop :=
  ∀ (pins : List (Addr × Obj)) (s : Shared) (σ : St) (H : Hp) (xs : List V) (us : List Value) (Q : VK), Inv X pins σ H s → Vals xs us → r xs H Q →
    wpAny (model X.prog X.w) X.A (call f us) (EP X pins σ Q) X.xe s
def tOp (r : R2) (ta tb : TE) : TE := fun σ H Q => ta σ H fun x H1 => tb σ H1 fun y H2 => r x y H2 Q
def tUn (r : V → Hp → VK → Prop) (ta : TE) : TE := fun σ H Q => ta σ H fun x H1 => r x H1 Q
def rI (C : Int → Int → Prop) (g : Int → Int → V) : R2 := fun x y H Q => ∃ i j, x = .int i ∧ y = .int j ∧ C i j ∧ Q (g i j) H
def rI0 (g : Int → Int → V) : R2 := fun x y H Q => ∃ i j, x = .int i ∧ y = .int j ∧ Q (g i j) H
def rU (g : Int → V) : V → Hp → VK → Prop := fun x H Q => ∃ i, x = .int i ∧ Q (g i) H
section
variable {X : Cx} {a b c : Expr} {ta tb tc : TE} {pos : Pos}
theorem binT (ha : PE X a ta) (hb : PE X b tb) {pins : List (Addr × Obj)} {s : Shared} {σ : St} {H : Hp} {R : V → V → Hp → Prop} (I : Inv X pins σ H s)
    (h : ta σ H fun x H1 => tb σ H1 fun y H2 => R x y H2) {Q : Value → Shared → Prop} {f : Value → Value → Sem Value}
    (hf : ∀ v u s2 x y H2, Inv X pins σ H2 s2 → RelV x v → RelV y u → R x y H2 → wpAny (model X.prog X.w) X.A (f v u) Q X.xe s2) :
    wpAny (model X.prog X.w) X.A (eval a X.env) (fun v s₁ => wpAny (model X.prog X.w) X.A (eval b X.env) (fun u s₂ => wpAny (model X.prog X.w) X.A (f v u) Q X.xe s₂) X.xe s₁) X.xe s := by
  refine thn (ha pins s σ H _ I h) fun v s1 ⟨x, H1, I1, r1, q1⟩ => ?_
  refine thn (hb pins s1 σ H1 _ I1 q1) fun u s2 ⟨y, H2, I2, r2, q2⟩ => ?_
  exact hf v u s2 x y H2 I2 r1 r2 q2
theorem pe_op {op : Operator} {r : R2} (ho : OpR X (binaryOp op) r) (ha : PE X a ta) (hb : PE X b tb) : PE X (.BinOp a op b pos) (tOp r ta tb) := by
  intro pins s σ H Q I h
  exact wpAny_BinOp (binT ha hb I h fun v u s2 x y H2 I2 rx ry q => ho pins s2 σ H2 x y v u Q I2 rx ry q)
theorem pe_un {op : UnaryOp} {r : V → Hp → VK → Prop} (ho : UnR X (unaryOp op) r) (ha : PE X a ta) : PE X (.UnaryOp op a pos) (tUn r ta) := by
  intro pins s σ H Q I h
  exact UnaryOp_ (thn (ha pins s σ H _ I h) fun v s1 ⟨x, H1, I1, r1, q1⟩ => ho pins s1 σ H1 x v Q I1 r1 q1)
theorem opI {f : Value → Value → Sem Value} {C : Int → Int → Prop} {g : Int → Int → Int}
    (rule : ∀ (i j : Int) (t u : Tok) (s : Shared) (Q : Value → Shared → Prop) (E : Value → Shared → Prop), C i j → Q (.int (g i j) s.toks) { s with toks := s.toks + 1 } → wpAny (model X.prog X.w) X.A (f (.int i t) (.int j u)) Q E s) :
    OpR X f (rI C fun i j => .int (g i j)) := by
  intro pins s σ H x y v u Q I rx ry h
  obtain ⟨i, j, rfl, rfl, hc, q⟩ := h
  obtain ⟨t, rfl⟩ := rx
  obtain ⟨t', rfl⟩ := ry
  exact rule i j t t' s _ _ hc ⟨.int (g i j), H, I.tok _, ⟨_, rfl⟩, q⟩
theorem opI0 {f : Value → Value → Sem Value} {g : Int → Int → Int}
    (rule : ∀ (i j : Int) (t u : Tok) (s : Shared) (Q : Value → Shared → Prop) (E : Value → Shared → Prop), Q (.int (g i j) s.toks) { s with toks := s.toks + 1 } → wpAny (model X.prog X.w) X.A (f (.int i t) (.int j u)) Q E s) :
    OpR X f (rI0 fun i j => .int (g i j)) := by
  intro pins s σ H x y v u Q I rx ry h
  obtain ⟨i, j, rfl, rfl, q⟩ := h
  obtain ⟨t, rfl⟩ := rx
  obtain ⟨t', rfl⟩ := ry
  exact rule i j t t' s _ _ ⟨.int (g i j), H, I.tok _, ⟨_, rfl⟩, q⟩
theorem opB0 {f : Value → Value → Sem Value} {g : Int → Int → Bool}
    (rule : ∀ (i j : Int) (t u : Tok) (s : Shared) (Q : Value → Shared → Prop) (E : Value → Shared → Prop), Q (.bool (g i j)) s → wpAny (model X.prog X.w) X.A (f (.int i t) (.int j u)) Q E s) :
    OpR X f (rI0 fun i j => .bl (g i j)) := by
  intro pins s σ H x y v u Q I rx ry h
  obtain ⟨i, j, rfl, rfl, q⟩ := h
  obtain ⟨t, rfl⟩ := rx
  obtain ⟨t', rfl⟩ := ry
  exact rule i j t t' s _ _ ⟨.bl (g i j), H, I, rfl, q⟩
def CPow (i j : Int) : Prop := 0 ≤ j ∧ j ≤ 1000000 ∧ i.natAbs < 2 ^ 64
def CMul (i j : Int) : Prop := (-(2 ^ 64) < i ∧ i < 2 ^ 64) ∨ (-(2 ^ 64) < j ∧ j < 2 ^ 64)
theorem CMul.ok {i j : Int} (h : CMul i j) : IntMulOk i j := by
  rcases h with ⟨h1, h2⟩ | ⟨h1, h2⟩
  · exact .of_left (intBits_le_64 h1 h2)
  · exact .of_right (intBits_le_64 h1 h2)
theorem op_add : OpR X (binaryOp .Add) (rI0 fun i j => .int (i + j)) := opI0 fun _ _ _ _ _ _ _ q => add_int q
theorem op_sub : OpR X (binaryOp .Sub) (rI0 fun i j => .int (i - j)) := opI0 fun _ _ _ _ _ _ _ q => sub_int q
theorem op_mul : OpR X (binaryOp .Mult) (rI CMul fun i j => .int (i * j)) := opI fun _ _ _ _ _ _ _ hc q => mul_int q hc.ok
theorem op_mod : OpR X (binaryOp .Mod) (rI (fun _ j => 0 < j) fun i j => .int (i % j)) := opI fun i j _ _ _ _ _ hc q => by
  have h1 : (0 : Int) < j := hc
  exact mod_int' (by omega) (by rw [Int.fmod_eq_emod_of_nonneg i (by omega)]; exact q)
theorem op_pow : OpR X (binaryOp .Pow) (rI CPow fun i j => .int (i ^ j.toNat)) := opI fun _ _ _ _ _ _ _ hc q => pow_int_small hc.1 hc.2.1 hc.2.2 q
theorem unI {f : Value → Sem Value} {g : Int → Int}
    (rule : ∀ (i : Int) (t : Tok) (s : Shared) (Q : Value → Shared → Prop) (E : Value → Shared → Prop), Q (.int (g i) s.toks) { s with toks := s.toks + 1 } → wpAny (model X.prog X.w) X.A (f (.int i t)) Q E s) :
    UnR X f (rU fun i => .int (g i)) := by
  intro pins s σ H x v Q I rx h
  obtain ⟨i, rfl, q⟩ := h
  obtain ⟨t, rfl⟩ := rx
  exact rule i t s _ _ ⟨.int (g i), H, I.tok _, ⟨_, rfl⟩, q⟩
theorem un_neg : UnR X (unaryOp .USub) (rU fun i => .int (-i)) := unI fun _ _ _ _ _ q => neg_int q
end
def scal : V → V → Bool
  | .non, .non => true | .non, .int _ => true | .int _, .non => true | .non, .bl _ => true | .bl _, .non => true | .non, .str _ => true | .str _, .non => true
  | .int _, .int _ => true | .bl _, .bl _ => true | .str _, .str _ => true | .byt _, .byt _ => true
  | .int _, .str _ => true | .str _, .int _ => true | .bl _, .str _ => true | .str _, .bl _ => true
  | _, _ => false
def rEq : R2 := fun x y H Q => scal x y = true ∧ Q (.bl (decide (x = y))) H
def rNe : R2 := fun x y H Q => scal x y = true ∧ Q (.bl (!decide (x = y))) H
theorem dec_int {i j : Int} : decide (V.int i = V.int j) = (i == j) := by
  rw [Bool.eq_iff_iff]
  simp
theorem dec_bl {i j : Bool} : decide (V.bl i = V.bl j) = (i == j) := by
  rw [Bool.eq_iff_iff]
  simp
theorem dec_str {i j : Str} : decide (V.str i = V.str j) = (i == j) := by
  rw [Bool.eq_iff_iff]
  simp
theorem dec_byt {i j : Array UInt8} : decide (V.byt i = V.byt j) = (i.toList == j.toList) := by
  rw [Bool.eq_iff_iff]
  cases i
  cases j
  simp
section
variable {X : Cx} {a b c : Expr} {ta tb tc : TE} {pos : Pos}
theorem fin_bl {pins : List (Addr × Obj)} {σ : St} {H : Hp} {s : Shared} {Q : VK} {k k' : Bool} (I : Inv X pins σ H s) (q : Q (.bl k) H) (e : k = k') : EP X pins σ Q (.bool k') s := by
  subst e
  exact ⟨.bl k, H, I, rfl, q⟩
theorem op_eq : OpR X (compareOp .Eq) rEq := by
  intro pins s σ H x y v u Q I rx ry h
  obtain ⟨hs, q⟩ := h
  cases x with
  | non =>
    cases rx
    cases y with
    | non => cases ry; exact PySem.EqNone.eq_none_none (fin_bl I q (by simp))
    | bl j => cases ry; exact PySem.EqNone.eq_none_bool (fin_bl I q (by simp))
    | int j => obtain ⟨t', rfl⟩ := ry; exact PySem.EqNone.eq_none_int (fin_bl I q (by simp))
    | str j => obtain ⟨t', rfl⟩ := ry; exact PySem.EqNone.eq_none_str (fin_bl I q (by simp))
    | _ => exact absurd (show false = true from hs) Bool.false_ne_true
  | bl i =>
    cases rx
    cases y with
    | non => cases ry; exact PySem.EqNone.eq_bool_none (fin_bl I q (by simp))
    | bl j => cases ry; exact eq_bool (fin_bl I q dec_bl)
    | str j => obtain ⟨t', rfl⟩ := ry; exact PySem.EqMixed.eq_bool_str (fin_bl I q (by simp))
    | _ => exact absurd (show false = true from hs) Bool.false_ne_true
  | int i =>
    obtain ⟨t, rfl⟩ := rx
    cases y with
    | non => cases ry; exact PySem.EqNone.eq_int_none (fin_bl I q (by simp))
    | int j => obtain ⟨t', rfl⟩ := ry; exact eq_int (fin_bl I q dec_int)
    | str j => obtain ⟨t', rfl⟩ := ry; exact PySem.EqMixed.eq_int_str (fin_bl I q (by simp))
    | _ => exact absurd (show false = true from hs) Bool.false_ne_true
  | str i =>
    obtain ⟨t, rfl⟩ := rx
    cases y with
    | non => cases ry; exact PySem.EqNone.eq_str_none (fin_bl I q (by simp))
    | bl j => cases ry; exact PySem.EqMixed.eq_str_bool (fin_bl I q (by simp))
    | int j => obtain ⟨t', rfl⟩ := ry; exact PySem.EqMixed.eq_str_int (fin_bl I q (by simp))
    | str j => obtain ⟨t', rfl⟩ := ry; exact eq_str (fin_bl I q dec_str)
    | _ => exact absurd (show false = true from hs) Bool.false_ne_true
  | byt i =>
    obtain ⟨t, rfl⟩ := rx
    cases y with
    | byt j => obtain ⟨t', rfl⟩ := ry; exact PySem.W.eq_bytes (fin_bl I q dec_byt)
    | _ => exact absurd (show false = true from hs) Bool.false_ne_true
  | _ => cases y <;> exact absurd (show false = true from hs) Bool.false_ne_true
theorem op_ne : OpR X (compareOp .NotEq) rNe := by
  intro pins s σ H x y v u Q I rx ry h
  obtain ⟨hs, q⟩ := h
  cases x with
  | non =>
    cases rx
    cases y with
    | non => cases ry; exact PySem.EqNone.ne_none_none (fin_bl I q (by simp))
    | bl j => cases ry; exact PySem.EqNone.ne_none_bool (fin_bl I q (by simp))
    | int j => obtain ⟨t', rfl⟩ := ry; exact PySem.EqNone.ne_none_int (fin_bl I q (by simp))
    | str j => obtain ⟨t', rfl⟩ := ry; exact PySem.EqNone.ne_none_str (fin_bl I q (by simp))
    | _ => exact absurd (show false = true from hs) Bool.false_ne_true
  | bl i =>
    cases rx
    cases y with
    | non => cases ry; exact PySem.EqNone.ne_bool_none (fin_bl I q (by simp))
    | bl j => cases ry; exact ne_bool (fin_bl I q (congrArg not dec_bl))
    | str j => obtain ⟨t', rfl⟩ := ry; exact PySem.EqMixed.ne_bool_str (fin_bl I q (by simp))
    | _ => exact absurd (show false = true from hs) Bool.false_ne_true
  | int i =>
    obtain ⟨t, rfl⟩ := rx
    cases y with
    | non => cases ry; exact PySem.EqNone.ne_int_none (fin_bl I q (by simp))
    | int j => obtain ⟨t', rfl⟩ := ry; exact ne_int (fin_bl I q (congrArg not dec_int))
    | str j => obtain ⟨t', rfl⟩ := ry; exact PySem.EqMixed.ne_int_str (fin_bl I q (by simp))
    | _ => exact absurd (show false = true from hs) Bool.false_ne_true
  | str i =>
    obtain ⟨t, rfl⟩ := rx
    cases y with
    | non => cases ry; exact PySem.EqNone.ne_str_none (fin_bl I q (by simp))
    | bl j => cases ry; exact PySem.EqMixed.ne_str_bool (fin_bl I q (by simp))
    | int j => obtain ⟨t', rfl⟩ := ry; exact PySem.EqMixed.ne_str_int (fin_bl I q (by simp))
    | str j => obtain ⟨t', rfl⟩ := ry; exact ne_str (fin_bl I q (congrArg not dec_str))
    | _ => exact absurd (show false = true from hs) Bool.false_ne_true
  | byt i =>
    obtain ⟨t, rfl⟩ := rx
    cases y with
    | byt j => obtain ⟨t', rfl⟩ := ry; exact PySem.W.ne_bytes (fin_bl I q (congrArg not dec_byt))
    | _ => exact absurd (show false = true from hs) Bool.false_ne_true
  | _ => cases y <;> exact absurd (show false = true from hs) Bool.false_ne_true
theorem op_lt : OpR X (compareOp .Lt) (rI0 fun i j => .bl (decide (i < j))) := opB0 fun _ _ _ _ _ _ _ q => lt_int q
theorem op_le : OpR X (compareOp .LtE) (rI0 fun i j => .bl (decide (i ≤ j))) := opB0 fun _ _ _ _ _ _ _ q => le_int q
theorem op_gt : OpR X (compareOp .Gt) (rI0 fun i j => .bl (decide (j < i))) := opB0 fun _ _ _ _ _ _ _ q => gt_int q
theorem op_ge : OpR X (compareOp .GtE) (rI0 fun i j => .bl (decide (j ≤ i))) := opB0 fun _ _ _ _ _ _ _ q => ge_int q
theorem op_in_str : OpR X (compareOp .In) (fun x y H Q => ∃ i j, x = .str i ∧ y = .str j ∧ Q (.bl (!(Builtin.Str.occurrences j i 0 j.length 1).isEmpty)) H) := by
  intro pins s σ H x y v u Q I rx ry h
  obtain ⟨i, j, rfl, rfl, q⟩ := h
  obtain ⟨t, rfl⟩ := rx
  obtain ⟨t', rfl⟩ := ry
  exact in_str (fin_bl I q rfl)
theorem op_isN : OpR X (compareOp .Is) (fun x y H Q => y = .non ∧ Q (.bl (decide (x = .non))) H) := by
  intro pins s σ H x y v u Q I rx ry h
  obtain ⟨rfl, q⟩ := h
  cases ry
  refine is_none_gen (fin_bl I q ?_)
  cases x <;> first
    | (cases rx; rfl)
    | (obtain ⟨t, rfl⟩ := rx; rfl)
theorem op_notin_str : OpR X (compareOp .NotIn) (fun x y H Q => ∃ i j, x = .str i ∧ y = .str j ∧ Q (.bl (!(!(Builtin.Str.occurrences j i 0 j.length 1).isEmpty))) H) := by
  intro pins s σ H x y v u Q I rx ry h
  obtain ⟨i, j, rfl, rfl, q⟩ := h
  obtain ⟨t, rfl⟩ := rx
  obtain ⟨t', rfl⟩ := ry
  exact notIn_str (fin_bl I q rfl)
theorem nomark (b : Expr) {op : CmpOp} (h : op ≠ .In := by decide) (h2 : op ≠ .NotIn := by decide) : behindInMarks op b = false := by
  have e1 : (op == CmpOp.In) = false := by cases op <;> first | rfl | exact absurd rfl h
  have e2 : (op == CmpOp.NotIn) = false := by cases op <;> first | rfl | exact absurd rfl h2
  cases b <;> simp [behindInMarks, e1, e2]
theorem pe_cmpR {op : CmpOp} {r : R2} (ho : OpR X (compareOp op) r) (ha : PE X a ta) (hb : PE X b tb) (hm : behindInMarks op b = false) : PE X (.Compare a [op] [b] pos) (tOp r ta tb) := by
  intro pins s σ H Q I h
  exact wpAny_Compare1 (binT ha hb I h fun v u s2 x y H2 I2 rx ry q => ho pins s2 σ H2 x y v u Q I2 rx ry q) hm
def tTest (t : TE) : TT := fun σ H Q => t σ H fun x H' => ∃ k, x = .bl k ∧ Q k H'
theorem pt_cmpR {op : CmpOp} {r : R2} (ho : OpR X (compareOp op) r) (ha : PE X a ta) (hb : PE X b tb) (hm : behindInMarks op b = false) : PT X (.Compare a [op] [b] pos) (tTest (tOp r ta tb)) := by
  intro pins s σ H Q I h
  refine wpAny_isTrue_Compare1 (thn (ha pins s σ H _ I h) fun v s1 ⟨x, H1, I1, r1, q1⟩ => thn (hb pins s1 σ H1 _ I1 q1) fun u s2 ⟨y, H2, I2, r2, q2⟩ =>
    thn (ho pins s2 σ H2 x y v u _ I2 r1 r2 q2) fun c s3 ⟨z, H3, I3, r3, k, e, q3⟩ => ?_) hm
  subst e
  cases r3
  exact wpAny_truthy_bool ⟨H3, I3, q3⟩
def tChain (r r' : R2) (ta tb tc : TE) : TE := fun σ H Q => ta σ H fun x H1 => tb σ H1 fun y H2 => r x y H2 fun z H3 => ∃ k, z = .bl k ∧
  (if k = true then tc σ H3 fun w' H4 => r' y w' H4 Q else Q (.bl false) H3)
theorem pe_chain {op op' : CmpOp} {r r' : R2} (ho : OpR X (compareOp op) r) (ho' : OpR X (compareOp op') r') (ha : PE X a ta) (hb : PE X b tb) (hc : PE X c tc)
    (hm : lastMarks [op, op'] [b, c] = false := by with_unfolding_all rfl) : PE X (.Compare a [op, op'] [b, c] pos) (tChain r r' ta tb tc) := by
  intro pins s σ H Q I h
  refine Compare_chain (thn (ha pins s σ H _ I h) fun v s1 ⟨x, H1, I1, r1, q1⟩ => chain_link (thn (hb pins s1 σ H1 _ I1 q1) fun u s2 ⟨y, H2, I2, r2, q2⟩ =>
    thn (ho pins s2 σ H2 x y v u _ I2 r1 r2 q2) fun d s3 ⟨z, H3, I3, r3, k, e, q3⟩ => ?_)) hm
  subst e
  cases r3
  refine wpAny_truthy_bool ?_
  cases k with
  | false => exact ite_ff ⟨.bl false, H3, I3, rfl, q3⟩
  | true => exact ite_tt (chain_last (thn (hc pins s3 σ H3 _ I3 q3) fun w' s4 ⟨z', H4, I4, r4, q4⟩ => ho' pins s4 σ H4 y z' u w' Q I4 r2 r4 q4))
theorem line63 : (sizeLine : Nat) < 2 ^ 63 := by rw [sizeLine_eq]; decide
theorem op_add_str : OpR X (binaryOp .Add) (fun x y H Q => ∃ i j, x = .str i ∧ y = .str j ∧ i.length + j.length ≤ sizeLine ∧ Q (.str (i ++ j)) H) := by
  intro pins s σ H x y v u Q I rx ry h
  obtain ⟨i, j, rfl, rfl, hz, q⟩ := h
  obtain ⟨t, rfl⟩ := rx
  obtain ⟨t', rfl⟩ := ry
  exact add_str (fun t' tk => ⟨.str (i ++ j), H, I.tok _, ⟨_, rfl⟩, q⟩) hz
theorem vals1 {x : V} {us : List Value} (r : Vals [x] us) : ∃ u, us = [u] ∧ RelV x u := by
  cases r with
  | cons r1 r2 => cases r2; exact ⟨_, rfl, r1⟩
theorem vals2 {x y : V} {us : List Value} (r : Vals [x, y] us) : ∃ u w', us = [u, w'] ∧ RelV x u ∧ RelV y w' := by
  cases r with
  | cons r1 r2 =>
    cases r2 with
    | cons r3 r4 => cases r4; exact ⟨_, _, rfl, r1, r3⟩
theorem call_max2 (hc : X.calm = true) : CallR X (.builtin "max") (fun xs H Q => ∃ i j, xs = [.int i, .int j] ∧ Q (.int (if j > i then j else i)) H) := by
  intro pins s σ H xs us Q I r h
  obtain ⟨i, j, rfl, q⟩ := h
  obtain ⟨u, w', rfl, ⟨t, rfl⟩, ⟨t', rfl⟩⟩ := vals2 r
  refine max_two_ints (I.ok.hd hc) fun h' tk k => ⟨_, H, I.kept k, ?_, q⟩
  by_cases hj : j > i
  · rw [if_pos hj, if_pos hj]; exact ⟨_, rfl⟩
  · rw [if_neg hj, if_neg hj]; exact ⟨_, rfl⟩
theorem call_int1 : CallR X (.type "int") (fun xs H Q => (∃ i, xs = [.int i] ∧ Q (.int i) H) ∨ ∃ k, xs = [.bl k] ∧ Q (.int (if k then 1 else 0)) H) := by
  intro pins s σ H xs us Q I r h
  rcases h with ⟨i, rfl, q⟩ | ⟨k, rfl, q⟩
  · obtain ⟨u, rfl, t, rfl⟩ := vals1 r
    exact call_int_int ⟨.int i, H, I, ⟨_, rfl⟩, q⟩
  · obtain ⟨u, rfl, r1⟩ := vals1 r
    cases r1
    exact call_int_bool ⟨.int (if k then 1 else 0), H, I.tok _, ⟨_, rfl⟩, q⟩
theorem call_str_int : CallR X (.type "str") (fun xs H Q => ∃ i, xs = [.int i] ∧ i.natAbs.log2 < 1920 ∧ Q (.str (toString i)) H) := by
  intro pins s σ H xs us Q I r h
  obtain ⟨i, rfl, hz, q⟩ := h
  obtain ⟨u, rfl, t, rfl⟩ := vals1 r
  exact PySem.P.str_of_int hz ⟨.str _, H, I.tok _, ⟨_, rfl⟩, q⟩
end
end L2
namespace L2
open PySem PySem.Spec PyProof.Rows
structure ObjM (h : Heap) (x dx C : Addr) (mA : Str → Option Value) : Prop where
  obj : h.get? x = some (PySem.W.instObj C dx)
  ns : h.Ns1 dx mA
  ne : dx ≠ x
theorem lookIn_ns {h : Heap} {dx : Addr} {mA : Str → Option Value} (n : h.Ns1 dx mA) : ∃ od, h.get? dx = some od ∧ ∀ name, PySem.W.lookIn name od = some (mA name) := by
  obtain ⟨o, es, ep, ho, hd, hk, _, hm⟩ := n
  refine ⟨o, ho, fun name => ?_⟩
  have e := hm name
  unfold nsFind findBy at e
  rw [← Array.find?_toList] at e
  unfold PySem.W.lookIn
  rw [hd]
  dsimp only
  split
  · rename_i y q
    rw [q] at e
    exact congrArg some e
  · rename_i q
    rw [q] at e
    have a : es.toList.any (·.refKey) = false := by
      rw [List.any_eq_false]
      intro y hy
      obtain ⟨z, t, hkey⟩ := hk y (Array.mem_toList_iff.mp hy)
      simp [DictEntry.refKey, hkey]
    have a' : ¬ es.toList.any (·.refKey) = true := by rw [a]; exact Bool.false_ne_true
    rw [if_neg a']
    exact congrArg some e
theorem ObjM.look {h : Heap} {x dx C : Addr} {mA : Str → Option Value} (I : ObjM h x dx C mA) : ∃ od, PySem.W.InstAt h x (PySem.W.instObj C dx) C (some od) ∧ ∀ name, PySem.W.lookIn name od = some (mA name) :=
  let ⟨od, ho, hl⟩ := lookIn_ns I.ns
  ⟨od, ⟨I.obj, rfl, rfl, ho⟩, hl⟩
section
variable {prog : Program} {w : World} {A : Around} {E : Value → Shared → Prop} {s : Shared} {K : PySem.W.Frag} {x dx C f : Addr} {mA : Str → Option Value} {name : Str} {v : Value}
end
theorem RelO.some_of {v : V} {o : Option Value} (r : RelO (some v) o) : ∃ u, o = some u ∧ RelV v u := by
  cases o with
  | none => exact (show False from r).elim
  | some u => exact ⟨u, rfl, r⟩
section
variable {P : Program} {w : World} {H H' : Hp} {h h' : Heap} {a C dx : Addr} {fs fs' : List (Str × V)}
theorem ins_get (hok : HOk P w H h) (e : H a = some (.ins C dx fs)) : ∃ mA, ObjM h a dx C mA ∧ (∀ f, RelO (fs.lookup f) (mA f)) ∧ PySem.Within mA (fs.map (·.1)) ∧ fs.length ≤ 1000 ∧ H dx = some (.own a) := by
  obtain ⟨d, z, ne, ob, mA, n, r, q⟩ := (show ObjOk P w H h a (.ins C dx fs) from hok a _ e)
  exact ⟨mA, ⟨ob, n, ne⟩, r, q, z, d⟩
end
structure Cls (K : PySem.W.Frag) (C : Addr) : Prop where
  pg : PySem.W.plainGet K C Str.empty = true
  hd : PySem.W.hasDictIn K C = true
  po : PySem.W.plainOver K C = true
  sa : PySem.W.findIn K (.ref C) "__setattr__" = some (some (.builtin "object.__setattr__"))
theorem Cls.get {K : PySem.W.Frag} {C : Addr} (c : Cls K C) (f : Str) : PySem.W.plainGet K C f = true := c.pg
section
variable {X : Cx} {pins : List (Addr × Obj)} {σ : St} {H : Hp} {s : Shared} {a C dx : Addr} {fs : List (Str × V)} {f : Str} {v : V} {A : Around} {E : Value → Shared → Prop}
end
section
variable {X : Cx} {o e value : Expr} {f : Str} {pos pos' tpos : Pos} {ta tv : TE}
end
section
variable {X : Cx} {pins : List (Addr × Obj)} {σ : St} {H : Hp} {s : Shared} {A : Around} {E : Value → Shared → Prop} {Q : Value → Shared → Prop} {c : Value} {b : Bool}
inductive TyOf (K : PySem.W.Frag) (H : Hp) : V → Value → Prop where
  | non : TyOf K H .non (.type "NoneType")
  | bl (x : Bool) : TyOf K H (.bl x) (.type "bool")
  | int (i : Int) : TyOf K H (.int i) (.type "int")
  | str (x : Str) : TyOf K H (.str x) (.type "str")
  | flt (x : UInt64) : TyOf K H (.flt x) (.type "float")
  | lst {a : Addr} {xs : List V} (e : H a = some (.lst xs)) : TyOf K H (.ref a) (.type "list")
  | frz {a : Addr} {o : Obj} {xs : List V} (e : H a = some (.frz o (.lst xs))) : TyOf K H (.ref a) (.type "list")
  | tup {a : Addr} {xs : List V} (e : H a = some (.tup xs)) : TyOf K H (.ref a) (.type "tuple")
  | dK {a : Addr} {kvs : List (Key × V)} (e : H a = some (.dK kvs)) : TyOf K H (.ref a) (.type "dict")
  | dT {a : Addr} {kvs : List (List Key × V)} (e : H a = some (.dT kvs)) : TyOf K H (.ref a) (.type "dict")
  | ins {a C dx : Addr} {fs : List (Str × V)} (e : H a = some (.ins C dx fs)) (cl : Cls K C) (ha : PySem.W.findIn K (.ref C) "__class__" = some (some (.builtin "object.__class__")))
      (hn : PySem.W.specialIn K (.builtin "object.__class__") "__get__" = some (some (.builtin "getset_descriptor.__get__"))) (htk : PySem.W.takesIn K (.builtin "object.__class__") = some true)
      (hm : PySem.W.mroIn K C (.type "object") = some true) : TyOf K H (.ref a) (.ref C)
theorem isinst_ok {x : V} {u t : Value} (I : Inv X pins σ H s) (rx : RelV x u) (ty : TyOf X.K H x t) (e : PySem.W.kitOne X.K t c = some b) (h : ∀ tk, Q (.bool b) { s with toks := tk }) :
    wpAny (model X.prog X.w) A (call (.builtin "isinstance") [u, c]) Q E s := by
  cases ty with
  | non => cases (show u = Value.none from rx); exact PySem.W.kia_one PySem.W.kitx_none I.kIn True.intro e (fun z => nomatch z) h
  | bl y => cases (show u = Value.bool y from rx); exact PySem.W.kia_one PySem.W.kitx_bool I.kIn True.intro e (fun z => nomatch z) h
  | int i => obtain ⟨t, q⟩ := (show ∃ t, u = Value.int i t from rx); cases q; exact PySem.W.kia_one PySem.W.kitx_int I.kIn True.intro e (fun z => nomatch z) h
  | str y => obtain ⟨t, q⟩ := (show ∃ t, u = Value.str y t from rx); cases q; exact PySem.W.kia_one PySem.W.kitx_str I.kIn True.intro e (fun z => nomatch z) h
  | flt y => obtain ⟨t, q⟩ := (show ∃ t, u = Value.float y t from rx); cases q; exact PySem.W.kia_one PySem.W.kitx_float I.kIn True.intro e (fun z => nomatch z) h
  | @lst a xs ea =>
    cases (show u = Value.ref a from rx)
    obtain ⟨_, _, n, _, h1⟩ := (show ObjOk X.prog X.w H s.heap a (.lst xs) from I.hok a _ ea)
    exact PySem.W.kia_one PySem.W.kitx_list I.kIn ⟨_, h1, rfl⟩ e (fun z => nomatch z) h
  | @frz a ob xs ea =>
    cases (show u = Value.ref a from rx)
    obtain ⟨_, _, _, n, _, h1⟩ := (show ObjOk X.prog X.w H s.heap a (.frz ob (.lst xs)) from I.hok a _ ea)
    exact PySem.W.kia_one PySem.W.kitx_list I.kIn ⟨_, h1, rfl⟩ e (fun z => nomatch z) h
  | @tup a xs ea =>
    cases (show u = Value.ref a from rx)
    obtain ⟨_, _, _, p⟩ := (show ObjOk X.prog X.w H s.heap a (.tup xs) from I.hok a _ ea)
    obtain ⟨o, h1, h2, _⟩ := p
    exact PySem.W.kia_one PySem.W.kitx_tuple I.kIn ⟨o, h1, h2⟩ e (fun z => nomatch z) h
  | @dK a kvs ea =>
    cases (show u = Value.ref a from rx)
    obtain ⟨_, _, vs, _, p⟩ := (show ObjOk X.prog X.w H s.heap a (.dK kvs) from I.hok a _ ea)
    obtain ⟨o, es, ep, h1, h2, _⟩ := p
    exact PySem.W.kia_one PySem.W.kitx_dict I.kIn ⟨o, h1, h2.1⟩ e (fun z => nomatch z) h
  | @dT a kvs ea =>
    cases (show u = Value.ref a from rx)
    obtain ⟨_, _, xs, _, o, es, ep, h1, h2, _⟩ := (show ObjOk X.prog X.w H s.heap a (.dT kvs) from I.hok a _ ea)
    exact PySem.W.kia_one PySem.W.kitx_dict I.kIn ⟨o, h1, h2.1⟩ e (fun z => nomatch z) h
  | @ins a C dx fs ea cl ha hn htk hm =>
    cases (show u = Value.ref a from rx)
    obtain ⟨mA, O, _⟩ := ins_get I.hok ea
    obtain ⟨od, J, _⟩ := O.look
    exact PySem.W.kia_one (PySem.W.kitx_own (cl.get _) cl.hd ha hn htk hm) I.kIn J e (fun z => nomatch z) h
end
end L2
namespace L2
open PySem PySem.Spec PyProof.Rows
structure Room (k : Nat) (A : Around) : Prop where
  hd : A.handled = none
  dp : A.depth + 3 * k + 5 < recursionLimit
  un : A.units + 16 * k + 200 < cLine
theorem Room.mono {j k : Nat} {A : Around} (r : Room k A) (h : j ≤ k) : Room j A := ⟨r.hd, by have := r.dp; omega, by have := r.un; omega⟩
theorem Room.deeper {k : Nat} {A : Around} (r : Room (k + 1) A) (env : Env) : Room k (A.deeper env) :=
  ⟨r.hd, by have := r.dp; show A.depth + 1 + 3 * k + 5 < _; omega, by have := r.un; show A.units + 3 + 16 * k + 200 < _; omega⟩
theorem Room.depth {k : Nat} {A : Around} (r : Room k A) : A.depth < recursionLimit := by have := r.dp; omega
theorem Room.units {k : Nat} {A : Around} (r : Room k A) : A.units + 64 < cLine := by have := r.un; omega
def tNil : TA := fun _ H Q => Q [] H
def tCons (ta : TE) (tr : TA) : TA := fun σ H Q => ta σ H fun x H1 => tr σ H1 fun xs H2 => Q (x :: xs) H2
section
variable {X : Cx} {e : Expr} {es : List Expr} {te : TE} {t : TA} {pos : Pos}
theorem pa_nil : PA X [] tNil := fun _ _ _ _ H Q I h => Calls.spliced_nil ⟨[], H, I, .nil, h⟩
theorem pa_cons (ha : PE X e te) (hr : PA X es t) (hs : starEach (e :: es) X.env = (false, eval e X.env) :: starEach es X.env := by rfl) : PA X (e :: es) (tCons te t) := by
  intro pos pins s σ H Q I h
  rw [hs]
  show wpAny _ _ (spliced ((false, eval e X.env) :: backTo pos (starEach es X.env))) _ _ s
  refine Calls.spliced_cons (thn (ha pins s σ H _ I h) fun u s1 ⟨x, H1, I1, r1, q1⟩ => ?_)
  exact thn (hr pos pins s1 σ H1 _ I1 q1) fun us s2 ⟨xs, H2, I2, r2, q2⟩ => ⟨x :: xs, H2, I2, .cons r1 r2, q2⟩
def tTup (t : TA) : TE := fun σ H Q => t σ H fun xs H1 => xs.length ≤ sizeLine ∧ ∀ p, H1 p = none → Q (.ref p) (upd H1 p (.tup xs))
def tLst (t : TA) : TE := fun σ H Q => t σ H fun xs H1 => xs.length ≤ sizeLine ∧ ∀ p, H1 p = none → Q (.ref p) (upd H1 p (.lst xs))
theorem pe_tup {x1} (h : PA X es t) : PE X (.Tuple es x1 pos) (tTup t) := by
  intro pins s σ H Q I hq
  refine wpAny_Tuple_spliced (thn (h pos pins s σ H _ I hq) fun us s1 ⟨xs, H1, I1, r, z, q⟩ => ⟨by rw [← r.length]; exact z, ?_⟩)
  have hf : H1 s1.heap.objs.size = none := I1.hok.fresh (Nat.le_refl _)
  refine ⟨.ref s1.heap.objs.size, upd H1 s1.heap.objs.size (.tup xs), I1.laid (t' := s1.toks) (fun b u e => Heap.get?_push_of_some _ e) (Nat.le_refl _) ?_, rfl, q _ hf⟩
  exact ⟨z, us, r, ⟨_, Heap.get?_push_size _ rfl, rfl, _, rfl⟩⟩
theorem pe_lst (h : PA X es t) : PE X (.List es pos) (tLst t) := by
  intro pins s σ H Q I hq
  refine wpAny_List_spliced (thn (h pos pins s σ H _ I hq) fun us s1 ⟨xs, H1, I1, r, z, q⟩ => ⟨by rw [← r.length]; exact z, ?_⟩)
  have hf : H1 s1.heap.objs.size = none := I1.hok.fresh (Nat.le_refl _)
  refine ⟨.ref s1.heap.objs.size, upd H1 s1.heap.objs.size (.lst xs), I1.laid (t' := s1.toks) (fun b u e => Heap.get?_push_of_some _ e) (Nat.le_refl _) ?_, rfl, q _ hf⟩
  exact ⟨z, us, 0, r, Heap.get?_push_size _ rfl⟩
end
abbrev Sp := List V → Hp → VK → XK → Prop
abbrev CXT := List Env → Hp → Shared → XK → Value → Shared → Prop
structure Env0 (P : Program) (w : World) (K : PySem.W.Frag) (mg : Str → Option Value) (base : Heap) (A : Around) (outer : List Env) (s : Shared) (H : Hp) : Prop where
  frames : A.frames = some outer
  mod : Mod K mg base
  bs : ∀ b o, base.get? b = some o → s.heap.get? b = some o ∧ H b = none
  bsz : base.objs.size ≤ s.heap.objs.size
  funs : s.heap.FunFrames base outer
  frf : ∀ b ∈ frs outer, H b = none
  hok : HOk P w H s.heap
  bare : AllBare s.gens
def CE (outer : List Env) (P : Program) (w : World) (H : Hp) (s : Shared) (Q : VK) (u : Value) (s' : Shared) : Prop :=
  ∃ v H', s'.os = s.os ∧ AllBare s'.gens ∧ Un (frs outer) [] H H' s.heap s'.heap ∧ HOk P w H' s'.heap ∧ RelV v u ∧ Q v H'
def CR (CX : CXT) (outer : List Env) (P : Program) (w : World) (H : Hp) (s : Shared) (Q : VK) (E : XK) (r : Result) (s' : Shared) : Prop :=
  match r with
  | .ok (.ret u) => CE outer P w H s Q u s'
  | .ok _ => False
  | .error e => CX outer H s E e s'
structure FnOk (P : Program) (w : World) (K : PySem.W.Frag) (mg : Str → Option Value) (base : Heap) (CX : CXT) (k : Nat) (f : Addr) (fd : FuncData) (ps : List Str) (sp : Sp) : Prop where
  len : ∀ vs H Q E, sp vs H Q E → vs.length = ps.length
  run : ∀ (A : Around) (outer : List Env) (s : Shared) (H : Hp) (args : Args) (us : List Value) (vs : List V) (Q : VK) (E : XK), Room k A → Env0 P w K mg base A outer s H → BindsTo s fd args (ps.zip us) → Vals vs us → sp vs H Q E →
    codeAny (model P w) A (.call (.ref f) args) (CR CX outer P w H s Q E) s
section
variable {X : Cx} {pins : List (Addr × Obj)} {σ : St} {H : Hp} {s s' : Shared}
theorem Inv.env0 (I : Inv X pins σ H s) : Env0 X.prog X.w X.K X.mg X.base X.A X.stack s H :=
  ⟨I.ok.frames, I.ok.mod, I.bs, Nat.le_trans I.ok.bsz I.sz, I.stack, I.stkFree, I.hok, I.bare⟩
theorem Inv.after {Q : VK} {u : Value} (I : Inv X pins σ H s) (h : CE X.stack X.prog X.w H s Q u s') : EP X pins σ Q u s' := by
  obtain ⟨v, H', os, bare, un, hok, r, q⟩ := h
  obtain ⟨hh, g, d, t, os'⟩ := s'
  obtain rfl : os' = s.os := os
  exact ⟨v, H', I.call (h' := hh) (g' := g) (d' := d) (t' := t) (ch := []) un hok bare (fun b z => absurd z (by simp)), r, q⟩
end
def tCall (sp : Sp) (dvs : List V) (E : XK) (t : TA) : TE := fun σ H Q => t σ H fun vs H1 => sp (vs ++ dvs) H1 Q E
def Binds (K : PySem.W.Frag) (fd : FuncData) (ps : List Str) (ds : List Value) : Prop :=
  ∀ (s : Shared) (us : List Value), K.In s.heap → (us ++ ds).length = ps.length → BindsTo s fd ⟨us, []⟩ (ps.zip (us ++ ds))
theorem Binds.all {K : PySem.W.Frag} {fd : FuncData} {ps : List Str} (h : ∀ us : List Value, us.length = ps.length → bindArgs fd ⟨us, []⟩ = pure (ps.zip us)) : Binds K fd ps [] := fun s us _ hl => by
  rw [List.append_nil] at hl ⊢
  exact .of_eq (h us hl)
def Passes (CX : CXT) (X : Cx) (E : XK) : Prop := ∀ (pins : List (Addr × Obj)) (σ : St) (H : Hp) (s : Shared) (e : Value) (s' : Shared), Inv X pins σ H s → CX X.stack H s E e s' → X.xe e s'
section
variable {X : Cx} {CX : CXT} {k : Nat} {f C : Addr} {fd : FuncData} {ps : List Str} {sp : Sp} {dvs : List V} {ds : List Value} {E : XK} {x m : Str} {p pos apos : Pos} {e o : Expr} {es : List Expr} {ta : TE} {t : TA}
theorem run_fn {pins : List (Addr × Obj)} {σ : St} {H : Hp} {s : Shared} {Q : VK} {us : List Value} {vs : List V} (F : FnOk X.prog X.w X.K X.mg X.base CX k f fd ps sp) (hr : Room k X.A) (hb : Binds X.K fd ps ds) (hd : Vals dvs ds) (hx : Passes CX X E)
    (I : Inv X pins σ H s) (r : Vals vs us) (h : sp (vs ++ dvs) H Q E) : wpAny (model X.prog X.w) X.A (call (.ref f) us) (EP X pins σ Q) X.xe s := by
  have r2 : Vals (vs ++ dvs) (us ++ ds) := r.append hd
  have hl : (us ++ ds).length = ps.length := by rw [← r2.length]; exact F.len _ _ _ _ h
  refine wpAny_call (codeAny_mono (F.run X.A X.stack s H ⟨us, []⟩ (us ++ ds) (vs ++ dvs) Q E hr I.env0 (hb s us I.kIn hl) r2 h) fun r s' hq => ?_)
  cases r with
  | error e => exact hx pins σ H s e s' I hq
  | ok fl =>
    cases fl with
    | ret u => exact I.after hq
    | next => exact False.elim hq
    | brk => exact False.elim hq
    | cont => exact False.elim hq
theorem pe_call (F : FnOk X.prog X.w X.K X.mg X.base CX k f fd ps sp) (hr : Room k X.A) (hg : Gl X x) (hm : X.mg x = some (.ref f)) (hk : PySem.W.keepIn X.K (.ref f) = true) (hb : Binds X.K fd ps ds) (hd : Vals dvs ds) (hx : Passes CX X E)
    (ha : PA X (e :: es) t) (hdb : (x == ("__debug__" : Str)) = false := by decide) (he : starEach (e :: es) X.env = (false, eval e X.env) :: starEach es X.env := by rfl) (hpl : (backTo pos (starEach es X.env)).any (·.1) = false := by rfl) :
    PE X (.Call (.Name x p) (e :: es) [] pos) (tCall sp dvs E t) := by
  intro pins s σ H Q I h
  refine wpAny_Call_Name_kw (ld_glob I hg hm ?_ hdb)
  refine PySem.W.callWith_K (h₀ := X.base) I.ok.mod.kin hk (thn (ha pos pins s σ H _ I h) fun us s1 ⟨vs, H1, I1, r, q⟩ => ⟨I1.kIn, ?_⟩) he hpl
  exact run_fn F hr hb hd hx I1 r q
end
section
variable {X : Cx} {CX : CXT} {k : Nat} {f C : Addr} {fd : FuncData} {ps ks : List Str} {sp : Sp} {E : XK} {x m : Str} {p pos apos kpos : Pos} {e o : Expr} {es : List Expr} {kws : List Keyword} {te ta : TE} {t tk : TA} {nm : Option Str}
variable {g : List Value → List Value → List Value} {gV : List V → List V → List V}
end
structure FnScope (N P : List Str) (sc : Scope) : Prop where
  kind : sc.kind = .function
  co : sc.isCoroutine = false
  gen : sc.isGenerator = false
  nd : N.Nodup
  pre : N.take P.length = P
  par : ∀ x ∈ P, sc.names.lookup x = some .local ∨ sc.names.lookup x = some .cell
  nofree : ∀ y ∈ sc.names, y.2 ≠ .free
theorem bindL_out {kindOf : Str → Option NameKind} {x : Str} : ∀ {binds : List (Str × Value)} {m : Str → Option Value}, (∀ v, (x, v) ∉ binds) → bindL kindOf binds m x = m x
  | [], _, _ => rfl
  | (n, v) :: r, m, h => by
    unfold bindL
    rw [bindL_out fun w hw => h w (List.mem_cons_of_mem _ hw)]
    split
    · have : x ≠ n := by rintro rfl; exact h v List.mem_cons_self
      simp [this]
    · rfl
theorem bindC_out {kindOf : Str → Option NameKind} {x : Str} : ∀ {binds : List (Str × Value)} {m : Str → Option Value}, (∀ v, (x, v) ∉ binds) → bindC kindOf binds m x = m x
  | [], _, _ => rfl
  | (n, v) :: r, m, h => by
    unfold bindC
    rw [bindC_out fun w hw => h w (List.mem_cons_of_mem _ hw)]
    split
    · rfl
    · have : x ≠ n := by rintro rfl; exact h v List.mem_cons_self
      simp [this]
theorem bindL_get {kindOf : Str → Option NameKind} {x : Str} {v : Value} : ∀ {P : List Str} {vs : List Value} {i : Nat} {m : Str → Option Value}, P.Nodup → P[i]? = some x → vs[i]? = some v → kindOf x = some .local →
    bindL kindOf (P.zip vs) m x = some v
  | [], _, _, _, _, h, _, _ => by simp at h
  | _ :: _, [], _, _, _, _, h, _ => by simp at h
  | p :: P, w :: vs, 0, m, nd, h1, h2, hk => by
    simp at h1 h2; subst h1; subst h2
    show bindL kindOf ((p, w) :: P.zip vs) m p = _
    unfold bindL
    rw [bindL_out fun v hv => (List.nodup_cons.mp nd).1 (List.of_mem_zip hv).1, if_pos hk]
    simp
  | p :: P, w :: vs, i + 1, m, nd, h1, h2, hk => by
    show bindL kindOf ((p, w) :: P.zip vs) m x = _
    unfold bindL
    exact bindL_get (i := i) (List.nodup_cons.mp nd).2 (by simpa using h1) (by simpa using h2) hk
theorem bindC_get {kindOf : Str → Option NameKind} {x : Str} {v : Value} : ∀ {P : List Str} {vs : List Value} {i : Nat} {m : Str → Option Value}, P.Nodup → P[i]? = some x → vs[i]? = some v → kindOf x ≠ some .local →
    bindC kindOf (P.zip vs) m x = some v
  | [], _, _, _, _, h, _, _ => by simp at h
  | _ :: _, [], _, _, _, _, h, _ => by simp at h
  | p :: P, w :: vs, 0, m, nd, h1, h2, hk => by
    simp at h1 h2; subst h1; subst h2
    show bindC kindOf ((p, w) :: P.zip vs) m p = _
    unfold bindC
    rw [bindC_out fun v hv => (List.nodup_cons.mp nd).1 (List.of_mem_zip hv).1, if_neg hk]
    simp
  | p :: P, w :: vs, i + 1, m, nd, h1, h2, hk => by
    show bindC kindOf ((p, w) :: P.zip vs) m x = _
    unfold bindC
    exact bindC_get (i := i) (List.nodup_cons.mp nd).2 (by simpa using h1) (by simpa using h2) hk
def start (N : List Str) (vs : List V) : St := vs.map some ++ List.replicate (N.length - vs.length) none
def cxOf (CX : CXT) (P : Program) (w : World) (K : PySem.W.Frag) (mg : Str → Option Value) (base : Heap) (N : List Str) (qual : Str) (scope : Scope) (f : Addr) (cd : Value) (A : Around) (outer : List Env) (s : Shared) (H : Hp) (E : XK) : Cx where
  prog := P
  w := w
  K := K
  mg := mg
  base := base
  A := A.deeper (envOfC qual scope s.heap.objs.size f cd)
  N := N
  s₀ := s
  H₀ := H
  env := envOfC qual scope s.heap.objs.size f cd
  outer := outer
  stack := envOfC qual scope s.heap.objs.size f cd :: outer
  ex := []
  calm := true
  fn := fun _ => true
  pn := []
  xe := fun e s' => wpAny (model P w) (A.deeper (envOfC qual scope s.heap.objs.size f cd)) (leaving (envOfC qual scope s.heap.objs.size f cd) e) (fun _ s'' => CX outer H s E e s'') (fun e' s'' => CX outer H s E e' s'') s'
theorem cell_has {sc : Scope} {n : Nat} {x : Str} (h : sc.names.lookup x = some .cell) : ∃ c, (cellsFrom n sc.names []).lookup x = some c := by
  have q := PySem.W.cellsFrom_some sc.names n [] (.inl h)
  exact Option.isSome_iff_exists.mp q
theorem inv_start {CX : CXT} {P : Program} {w : World} {K : PySem.W.Frag} {mg : Str → Option Value} {base : Heap} {N ps : List Str} {qual : Str} {scope : Scope} {f : Addr} {cd : Value} {A : Around} {outer : List Env} {s s1 : Shared} {H : Hp} {E : XK} {us : List Value} {vs : List V}
    (S : FnScope N ps scope) (hd : A.handled = none) (e0 : Env0 P w K mg base A outer s H) (hl : vs.length = ps.length) (r : Vals vs us)
    (x : InCallC s s.heap.objs.size (bindL (envOfC qual scope s.heap.objs.size f cd).kindOf (ps.zip us) fun _ => none) (cellsFrom (s.heap.objs.size + 1) scope.names []) (bindC (envOfC qual scope s.heap.objs.size f cd).kindOf (ps.zip us) fun _ => none) s1) :
    Inv (cxOf CX P w K mg base N qual scope f cd A outer s H E) [] (start N vs) H s1 := by
  have hpl : ps.length ≤ N.length := by have := congrArg List.length S.pre; rw [List.length_take] at this; omega
  obtain ⟨h1, tk, rfl, hk⟩ := x.done
  have noA : ∀ b : Addr, b ∉ (cxOf CX P w K mg base N qual scope f cd A outer s H E).ex := fun b z => absurd (show b ∈ ([] : List Addr) from z) (by simp)
  refine ⟨⟨e0.mod, S.kind, rfl, rfl, Nat.le_refl _, fun y z c h1 h2 => ?_, fun y hy => ?_, fun y c _ h => ?_, fun _ => hd, Around.frames_deeper e0.frames, .inr ⟨rfl, rfl⟩, fun b z => absurd z (noA b), e0.bs, e0.bsz, fun b _ _ => noA b, fun b z => absurd z (noA b), e0.funs, e0.frf⟩,
    rfl, e0.bare, Un.kept hk, ⟨_, x.toInCall.ns, fun i y v h1 h2 h3 => ?_⟩, fun y c h => ⟨_, x.cell y c h⟩, e0.hok.fresh (Nat.le_refl _), fun y c h => ?_, fun p hp => absurd (show p ∈ ([] : List (Addr × Obj)) from hp) (by simp), e0.hok.kept hk, ?_⟩
  · exact name_of_addr x.apart (PySem.mem_of_lookup h1) (PySem.mem_of_lookup h2)
  · have hy : scope.names.lookup y = some .cell ∨ scope.names.lookup y = some .free := hy
    rcases hy with hy | hy
    · exact cell_has hy
    · exact absurd rfl (S.nofree _ (PySem.mem_of_lookup hy))
  · exact Nat.le_of_lt (x.above y c (PySem.mem_of_lookup h))
  · have hi : i < vs.length := by
      unfold start at h2
      by_cases hi : i < vs.length
      · exact hi
      · rw [List.getElem?_append_right (by simpa using hi)] at h2
        rw [List.getElem?_replicate] at h2
        split at h2 <;> cases h2
    have ha : vs[i]? = some v := by
      unfold start at h2
      rw [List.getElem?_append_left (by simpa using hi), List.getElem?_map] at h2
      cases e : vs[i]? with
      | none => rw [e] at h2; cases h2
      | some a => rw [e] at h2; cases h2; rfl
    obtain ⟨u, hu, rv⟩ := r.get ha
    have hp : ps[i]? = some y := by
      rw [← S.pre, List.getElem?_take_of_lt (by omega)]; exact h1
    have ndP : ps.Nodup := by rw [← S.pre]; exact S.nd.sublist (List.take_sublist _ _)
    refine ⟨u, rv, ?_⟩
    rcases S.par y (List.mem_of_getElem? hp) with k | k
    · exact .inl ⟨k, bindL_get ndP hp hu k⟩
    · obtain ⟨c, e⟩ := cell_has (n := s.heap.objs.size + 1) k
      refine .inr ⟨.inl k, c, e, ?_⟩
      have q := x.cell y c e
      rw [bindC_get ndP hp hu (by show scope.names.lookup y ≠ _; rw [k]; decide)] at q
      exact q
  · exact e0.hok.fresh (Nat.le_of_lt (x.above y c (PySem.mem_of_lookup h)))
  · unfold start
    show _ = N.length
    rw [List.length_append, List.length_map, List.length_replicate]
    omega
theorem fn_of {CX : CXT} {P : Program} {w : World} {K : PySem.W.Frag} {mg : Str → Option Value} {base : Heap} {k : Nat} {f : Addr} {name qual : Str} {params : Arguments} {body : List Stmt} {scope : Scope} {dV kV doc pm cdv ct oc : Value} {an od : Option Addr}
    {osl : Array (Option Value)} {N ps : List Str} {sp : Sp} (lk : K.lookup f = some ⟨oc, od, .func (PySem.W.fnOf name qual params body scope dV kV doc pm an cdv ct), osl⟩) (hcd : PySem.W.codeIn K cdv qual = true) (S : FnScope N ps scope)
    (len : ∀ vs H Q E, sp vs H Q E → vs.length = ps.length)
    (hbody : ∀ (A : Around) (outer : List Env) (s : Shared) (H : Hp) (vs : List V) (Q : VK) (E : XK), Room k (A.deeper (envOfC qual scope s.heap.objs.size f cdv)) → sp vs H Q E →
      ∃ t, PSs (cxOf CX P w K mg base N qual scope f cdv A outer s H E) body t ∧ t { nx := fun _ H' => Q .non H', rt := Q } (start N vs) H) :
    FnOk P w K mg base CX (k + 1) f (PySem.W.fnOf name qual params body scope dV kV doc pm an cdv ct) ps sp := by
  refine ⟨len, fun A outer s H args us vs Q E hr e0 hb r hsp => ?_⟩
  have hl := len _ _ _ _ hsp
  have KX : K.In s.heap := e0.mod.kin.keeps fun b o e => (e0.bs b o e).1
  have lim : s.heap.NoLimit := e0.mod.nolimit.keeps fun b o e => (e0.bs b o e).1
  have hkind : ∀ y ∈ ps.zip us, scope.names.lookup y.1 = some .local ∨ (scope.names.lookup y.1 = some .cell ∧ ((cellsFrom (s.heap.objs.size + 1) scope.names []).lookup y.1).isSome = true) := fun ⟨n, v⟩ hy => by
    rcases S.par n (List.of_mem_zip hy).1 with q | q
    · exact .inl q
    · exact .inr ⟨q, PySem.W.cellsFrom_some _ _ _ (.inl q)⟩
  refine codeAny_call_function hr.depth (KX _ _ lk) rfl S.co S.gen rfl (PySem.W.codeRec_of KX hcd) (hb _ _ _ _ ?_)
  refine wpAny_newFunctionEnv_cells S.kind hkind fun env he s1 x => ?_
  subst he
  refine ⟨lim.keeps x.toInCall.keep, codeAny_func ?_⟩
  obtain ⟨t, ht, hq⟩ := hbody A outer s H vs Q E (hr.deeper _) hsp
  have I : Inv (cxOf CX P w K mg base N qual scope f cdv A outer s H E) [] (start N vs) H s1 := inv_start S hr.hd e0 hl r x
  refine wpAny_mono (ht [] s1 (start N vs) H _ I hq) (fun fl s' hs => ?_) fun e s' hs => hs
  have fin : ∀ {σ' : St} {H' : Hp} {v : V} {u : Value}, Inv (cxOf CX P w K mg base N qual scope f cdv A outer s H E) [] σ' H' s' → RelV v u → Q v H' → CE outer P w H s Q u s' :=
    fun {σ' H' v u} J rv q => ⟨v, H', J.os, J.bare, J.base, J.hok, rv, q⟩
  cases fl with
  | ret u =>
    obtain ⟨v, σ', H', J, rv, q⟩ := hs
    exact fin J rv q
  | next =>
    obtain ⟨σ', H', J, q⟩ := hs
    exact fin (v := V.non) (u := Value.none) J rfl q
  | brk =>
    obtain ⟨_, _, _, q⟩ := hs
    exact False.elim q
  | cont =>
    obtain ⟨_, _, _, q⟩ := hs
    exact False.elim q
end L2
namespace L2
open PySem PySem.Spec PyProof.Rows
section
variable {X : Cx} {x : Str} {p pos : Pos} {e : Expr} {es : List Expr} {t : TA} {id T : String} {r : List V → Hp → VK → Prop}
def tCB (r : List V → Hp → VK → Prop) (t : TA) : TE := fun σ H Q => t σ H fun vs H1 => r vs H1 Q
theorem pe_callB (hc : CallR X (.builtin id) r) (hg : Gl X x) (hm : X.mg x = none) (hv : bootBuiltins x = some (.builtin id)) (ha : PA X (e :: es) t) (hn : x ≠ "__name__" := by decide) (hdb : (x == ("__debug__" : Str)) = false := by decide)
    (he : starEach (e :: es) X.env = (false, eval e X.env) :: starEach es X.env := by rfl) (hpl : (backTo pos (starEach es X.env)).any (·.1) = false := by rfl) : PE X (.Call (.Name x p) (e :: es) [] pos) (tCB r t) := by
  intro pins s σ H Q I h
  refine wpAny_Call_Name_kw (ld_blt I hg hm hv ?_ hn hdb)
  exact PyProof.Rows.callWith_builtin1 (thn (ha pos pins s σ H _ I h) fun us s1 ⟨vs, H1, I1, r1, q1⟩ => hc pins s1 σ H1 vs us Q I1 r1 q1) he hpl
theorem pe_callTy (hc : CallR X (.type T) r) (hg : Gl X x) (hm : X.mg x = none) (hv : bootBuiltins x = some (.type T)) (ha : PA X (e :: es) t) (hn : x ≠ "__name__" := by decide) (hdb : (x == ("__debug__" : Str)) = false := by decide)
    (he : starEach (e :: es) X.env = (false, eval e X.env) :: starEach es X.env := by rfl) (hpl : (backTo pos (starEach es X.env)).any (·.1) = false := by rfl) : PE X (.Call (.Name x p) (e :: es) [] pos) (tCB r t) := by
  intro pins s σ H Q I h
  refine wpAny_Call_Name_kw (ld_blt I hg hm hv ?_ hn hdb)
  exact PyProof.Rows.callWith_type1 (thn (ha pos pins s σ H _ I h) fun us s1 ⟨vs, H1, I1, r1, q1⟩ => hc pins s1 σ H1 vs us Q I1 r1 q1) he hpl
end
end L2
namespace HT
open PySem PyProof.Rows
section
open PySem.SeqAt
open PySem.AutoSeq1 (wpAny_loadPart')
open PySem.MeetsSeq PySem.MeetsSeq2 PySem.MeetsSeq3
end
section
variable {prog : Program} {w : World} {A : Around} {E : Value → Shared → Prop} {s : Shared}
theorem cat_tup {t b : Addr} {vs ws : List Value} {Q : Value → Shared → Prop} (ht : IsTup s.heap t vs.toArray) (hb : IsTup s.heap b ws.toArray) (hv : vs ≠ [])
    (h1 : ws = [] → Q (.ref t) s) (h2 : ws ≠ [] → Q (.ref s.heap.objs.size) { s with heap := s.heap.push { cls := .type "tuple", data := .seq (vs ++ ws).toArray } })
    (hsz : vs.length + ws.length ≤ sizeLine) : wpAny (model prog w) A (binaryOp .Add (.ref t) (.ref b)) Q E s := by
  obtain ⟨⟨cls, dd, data, sl⟩, ho, hc, n, hd⟩ := id ht
  obtain ⟨⟨cls2, dd2, data2, sl2⟩, ho2, hc2, n2, hd2⟩ := id hb
  simp only at hc hd hc2 hd2
  subst hc hd hc2 hd2
  have e : vs.toArray ++ ws.toArray = (vs ++ ws).toArray := by simp
  by_cases hw : ws = []
  · exact concat_meets ⟨_, ho, rfl⟩ ⟨_, ho2, rfl⟩ noFill_tuple_add seq_tuple_add PySem.F.slot_tuple_add PySem.F.entry_tuple_add (PySem.F.args_tuple_add_2 _ _)
      (tuple_addW1 t b vs.toArray ws.toArray n n2 dd dd2 sl sl2 (by simpa using hv) (by simp [hw])) ⟨ho, ho2, h1 hw⟩
  · refine concat_meets ⟨_, ho, rfl⟩ ⟨_, ho2, rfl⟩ noFill_tuple_add seq_tuple_add PySem.F.slot_tuple_add PySem.F.entry_tuple_add (PySem.F.args_tuple_add_2 _ _)
      (tuple_addW2 t b vs.toArray ws.toArray n n2 dd dd2 sl sl2 (by simpa using hv) (by simpa using hw) (by rw [List.size_toArray, List.size_toArray]; exact hsz)) ⟨ho, ho2, ?_⟩
    rw [e]
    exact h2 hw
def sIx (n d : Nat) : Option Int → Nat
  | none => d
  | some v => if v < 0 then (v + (n : Int)).toNat else min v.toNat n
theorem sIx_none (n d : Nat) : sIx n d none = d := rfl
theorem sIx_nat (n d k : Nat) : sIx n d (some (k : Int)) = min k n := by
  show (if (k : Int) < 0 then ((k : Int) + (n : Int)).toNat else min (k : Int).toNat n) = min k n
  rw [if_neg (by omega), Int.toNat_natCast]
theorem sIx_le (n d : Nat) (hd : d ≤ n) (o : Option Int) : sIx n d o ≤ n := by
  cases o with
  | none => exact hd
  | some v =>
    show (if v < 0 then (v + (n : Int)).toNat else min v.toNat n) ≤ n
    by_cases hv : v < 0
    · rw [if_pos hv]; omega
    · rw [if_neg hv]; exact Nat.min_le_right _ _
theorem clip_eq (v : Int) (n d : Nat) : (if v < 0 then max (v + (n : Int)) 0 else min v (n : Int)) = ((sIx n d (some v) : Nat) : Int) := by
  show (if v < 0 then max (v + (n : Int)) 0 else min v (n : Int)) = (((if v < 0 then (v + (n : Int)).toNat else min v.toNat n) : Nat) : Int)
  by_cases hv : v < 0
  · simp only [if_pos hv]; omega
  · simp only [if_neg hv]; omega
theorem adjust_gen (lo hi : Option Int) (n : Nat) : Builtin.Slice.sliceAdjust lo hi 1 (n : Int) = (((sIx n 0 lo : Nat) : Int), ((sIx n n hi : Nat) : Int)) := by
  have h1 : ¬ ((1 : Int) < 0) := by omega
  unfold Builtin.Slice.sliceAdjust
  simp only [h1, if_false]
  refine Prod.ext ?_ ?_
  · cases lo with
    | none => rfl
    | some v => exact clip_eq v n 0
  · cases hi with
    | none => rfl
    | some v => exact clip_eq v n n
theorem places_gen (i j : Nat) : Builtin.Slice.slicePlaces (i : Int) (j : Int) 1 = j - i := by
  unfold Builtin.Slice.slicePlaces
  have h1 : (1 : Int) > 0 := by omega
  simp only [h1, if_true, Int.ediv_one]
  split <;> omega
theorem slicePart_ {v : Value} {o : Option Int} {Q : Option Int → Shared → Prop} (p : IsPart v o) (h : Q o s) : wpAny (model prog w) A (Builtin.Slice.slicePartIndex v) Q E s := by
  cases p with
  | none => exact slicePart_none h
  | int i t => exact slicePart_int h
theorem sliceApplied_gen {sl : Addr} {vl vu : Value} {lo hi : Option Int} {n : Nat} {Q : Int × Int × Nat → Shared → Prop} (hs : s.heap.IsSliceOf sl vl vu .none) (pl : IsPart vl lo) (pu : IsPart vu hi)
    (h : Q (((sIx n 0 lo : Nat) : Int), 1, sIx n n hi - sIx n 0 lo) s) : wpAny (model prog w) A (Builtin.Slice.sliceApplied (.ref sl) (pure (n : Int))) Q E s := by
  obtain ⟨os, hos, hcs, hds⟩ := id hs
  unfold Builtin.Slice.sliceApplied Builtin.Slice.sliceFields
  refine wpAny_bind (wpAny_bind (wpAny_field hos hds (x := vl) rfl (wpAny_bind (wpAny_field hos hds (x := vu) rfl (wpAny_bind (wpAny_field hos hds (x := .none) rfl (wpAny_pure ?_)))))))
  refine wpAny_bind (slicePart_none ?_)
  show wpAny _ _ (if ((1 : Int) == 0) = true then _ else _) _ _ s
  rw [if_neg (by decide)]
  refine wpAny_bind (slicePart_ pl (wpAny_bind (slicePart_ pu (wpAny_bind (wpAny_pure ?_)))))
  show wpAny _ _ (match Builtin.Slice.sliceAdjust lo hi 1 (n : Int) with | (lo, hi) => pure (lo, (1 : Int), Builtin.Slice.slicePlaces lo hi 1)) _ _ s
  rw [adjust_gen lo hi n]
  show wpAny _ _ (pure (((sIx n 0 lo : Nat) : Int), (1 : Int), Builtin.Slice.slicePlaces ((sIx n 0 lo : Nat) : Int) ((sIx n n hi : Nat) : Int) 1)) _ _ s
  rw [places_gen]
  exact wpAny_pure h
theorem pick_gen (xs : Array Value) (i k : Nat) : ((List.range k).filterMap fun (m : Nat) => xs[((i : Int) + (m : Int) * 1).toNat]?).toArray = ((xs.toList.drop i).take k).toArray := by
  have e : (fun (m : Nat) => xs[((i : Int) + (m : Int) * 1).toNat]?) = fun m => xs[i + m]? := by
    funext m
    have : ((i : Int) + (m : Int) * 1).toNat = i + m := by omega
    rw [this]
  rw [e]
  have := pick_run xs i k
  rw [List.filterMap_map] at this
  have e2 : ((fun x => xs[x]?) ∘ fun x => i + x) = fun m => xs[i + m]? := rfl
  rw [e2] at this
  rw [this]
theorem getItem_tuple_cut {t sl : Addr} {items : Array Value} {vl vu : Value} {lo hi : Option Int} {Q : Value → Shared → Prop} (ht : IsTup s.heap t items) (hs : s.heap.IsSliceOf sl vl vu .none) (pl : IsPart vl lo) (pu : IsPart vu hi)
    (hw : ¬ (sIx items.size 0 lo = 0 ∧ sIx items.size items.size hi = items.size))
    (h : Q (.ref s.heap.objs.size) { s with heap := s.heap.push { cls := .type "tuple", data := .seq ((items.toList.drop (sIx items.size 0 lo)).take (sIx items.size items.size hi - sIx items.size 0 lo)).toArray } })
    (hsz : items.size ≤ sizeLine) : wpAny (model prog w) A (getItem (.ref t) (.ref sl)) Q E s := by
  have htake : sizeOk (.seq ((items.toList.drop (sIx items.size 0 lo)).take (sIx items.size items.size hi - sIx items.size 0 lo)).toArray) := by
    show ((items.toList.drop (sIx items.size 0 lo)).take (sIx items.size items.size hi - sIx items.size 0 lo)).toArray.size ≤ sizeLine
    rw [List.size_toArray, List.length_take, List.length_drop, Array.length_toList]
    omega
  have hj : sIx items.size items.size hi ≤ items.size := sIx_le _ _ (Nat.le_refl _) hi
  obtain ⟨os, hos, hcs, hds⟩ := id hs
  have hTs : s.TypeIs (.ref sl) "slice" := ⟨os, hos, hcs⟩
  unfold getItem
  try with_reducible refine wpAny_holding ?_
  first | refine wpAny_bind (wpAny_pure ?_) | skip
  refine wpAny_bind (wpAny_sequenceKey ht.typeIs (by decide) ?_)
  refine wpAny_bind (wpAny_callSpecial?_slot (name := Str.ofString "__getitem__") ht.typeIs PyProof.Rows.slot_tuple_getitem
    (wpAny_call_entry PyProof.Rows.slot_tuple_getitem ht.typeIs entry_tuple_getitem ?_ (args_tuple_getitem _ _)))
  show wpAny _ _ (Builtin.Tuple.tupleItemsOf (.ref t) >>= _) _ _ s
  refine wpAny_bind (tupleItemsOf_ ht ?_)
  refine wpAny_bind (wpAny_typeOf hTs ?_)
  rw [if_pos (by decide)]
  refine wpAny_bind (sliceApplied_gen hs pl pu ?_)
  have hno : ¬ ((((sIx items.size 0 lo : Nat) : Int) == 0 && (1 : Int) == 1 && (sIx items.size items.size hi - sIx items.size 0 lo) == items.size) = true) := by
    intro q
    rw [Bool.and_eq_true, Bool.and_eq_true] at q
    have q1 : ((sIx items.size 0 lo : Nat) : Int) = 0 := eq_of_beq q.1.1
    have q2 : sIx items.size items.size hi - sIx items.size 0 lo = items.size := eq_of_beq q.2
    exact hw ⟨by omega, by omega⟩
  show wpAny _ _ (if (((sIx items.size 0 lo : Nat) : Int) == 0 && (1 : Int) == 1 && (sIx items.size items.size hi - sIx items.size 0 lo) == items.size) = true then _ else _) _ _ s
  rw [if_neg hno, pick_gen]
  first
    | exact wpAny_bind (m := Builtin.Tuple.tupleExact _) (wpAny_newObj_type (wpAny_pure ⟨_, rfl, wpAny_pure h⟩) htake)
    | exact wpAny_bind (m := Builtin.Tuple.tupleExact _) (wpAny_newObj_type (wpAny_bind (wpAny_pure (wpAny_pure ⟨_, rfl, wpAny_pure h⟩))) htake)
    | exact wpAny_bind (wpAny_bind (m := Builtin.Tuple.tupleExact _) (wpAny_newObj_type (wpAny_pure (wpAny_pure ⟨_, rfl, wpAny_pure h⟩)) htake))
    | exact wpAny_bind (wpAny_bind (m := Builtin.Tuple.tupleExact _) (wpAny_newObj_type (wpAny_pure ⟨_, rfl, wpAny_pure h⟩) htake))
end
end HT
namespace L2
open PySem PySem.Spec PyProof.Rows
abbrev TO := St → Hp → (Option Int → Hp → Prop) → Prop
def PO (X : Cx) (e : Option Expr) (t : TO) : Prop :=
  ∀ (pins : List (Addr × Obj)) (s : Shared) (σ : St) (H : Hp) (Q : Option Int → Hp → Prop), Inv X pins σ H s → t σ H Q →
    wpAny (model X.prog X.w) X.A (evalPart e X.env) (fun u s' => ∃ o H', Inv X pins σ H' s' ∧ IsPart u o ∧ Q o H') X.xe s
def tNoPart : TO := fun _ H Q => Q none H
def tPart (t : TE) : TO := fun σ H Q => t σ H fun x H1 => ∃ i, x = .int i ∧ Q (some i) H1
section
variable {X : Cx} {e : Expr} {te : TE} {lo hi : Option Expr} {tl th : TO} {pos p2 : Pos}
theorem po_none : PO X none tNoPart := by
  intro pins s σ H Q I h
  rw [evalPart_none]
  exact wpAny_pure ⟨none, H, I, .none, h⟩
theorem po_some (h : PE X e te) : PO X (some e) (tPart te) := by
  intro pins s σ H Q I hw
  rw [evalPart_some]
  refine thn (h pins s σ H _ I hw) fun u s1 ⟨x, H1, I1, r1, q1⟩ => ?_
  obtain ⟨i, rfl, q⟩ := q1
  obtain ⟨t, rfl⟩ := r1
  exact ⟨some i, H1, I1, .int i t, q⟩
def SlR (X : Cx) (r : V → Option Int → Option Int → Hp → VK → Prop) : Prop :=
  ∀ (pins : List (Addr × Obj)) (s : Shared) (σ : St) (H : Hp) (x : V) (v vl vu : Value) (lo hi : Option Int) (sl : Addr) (Q : VK), Inv X pins σ H s → RelV x v → s.heap.IsSliceOf sl vl vu .none → IsPart vl lo → IsPart vu hi → r x lo hi H Q →
    ∃ T id, typeLookup (.type T) "__getitem__" = pure (some (.builtin id)) ∧ s.TypeIs v T ∧ wpAny (model X.prog X.w) X.A (getItem v (.ref sl)) (EP X pins σ Q) X.xe s
def tSl (r : V → Option Int → Option Int → Hp → VK → Prop) (te : TE) (tl th : TO) : TE := fun σ H Q => te σ H fun x H1 => tl σ H1 fun l H2 => th σ H2 fun u H3 => r x l u H3 Q
theorem pe_slice {r : V → Option Int → Option Int → Hp → VK → Prop} (hr : SlR X r) (he : PE X e te) (hl : PO X lo tl) (hu : PO X hi th) : PE X (.Subscript e (.Slice lo hi none p2) pos) (tSl r te tl th) := by
  intro pins s σ H Q I h
  refine Subscript_ (thn (he pins s σ H _ I h) fun v s1 ⟨x, H1, I1, r1, q1⟩ => ?_)
  refine wpAny_Slice (thn (hl pins s1 σ H1 _ I1 q1) fun vl s2 ⟨l, H2, I2, pl, q2⟩ => thn (hu pins s2 σ H2 _ I2 q2) fun vu s3 ⟨u, H3, I3, pu, q3⟩ => ?_)
  rw [evalPart_none]
  refine wpAny_pure ?_
  have I4 : Inv X pins σ H3 { s3 with heap := s3.heap.push { cls := .type "slice", data := .fields #[vl, vu, .none] } } := I3.kept (t' := s3.toks) fun b ob q => Heap.get?_push_of_some _ q
  obtain ⟨T, id, hT, ht, hg⟩ := hr pins { s3 with heap := s3.heap.push { cls := .type "slice", data := .fields #[vl, vu, .none] } } σ H3 x v vl vu l u s3.heap.objs.size Q I4 r1 (Heap.IsSliceOf.new ..) pl pu q3
  show wpAny (model X.prog X.w) X.A (subscriptTail e (.Slice lo hi none p2) v (.ref s3.heap.objs.size)) (EP X pins σ Q) X.xe { s3 with heap := s3.heap.push { cls := .type "slice", data := .fields #[vl, vu, .none] } }
  exact tail_any (ops := [.ref s3.heap.objs.size, v]) ht hT hg (by with_unfolding_all rfl)
def cutV (xs : List V) (lo hi : Option Int) : List V := (xs.drop (HT.sIx xs.length 0 lo)).take (HT.sIx xs.length xs.length hi - HT.sIx xs.length 0 lo)
theorem cutV_length (xs : List V) (lo hi : Option Int) : (cutV xs lo hi).length ≤ xs.length := by
  unfold cutV
  rw [List.length_take, List.length_drop]
  omega
def rSlT (K : PySem.W.Frag) : V → Option Int → Option Int → Hp → VK → Prop := fun x lo hi H Q => ∃ a xs, x = .ref a ∧ SqT K H a xs ∧
  ¬ (HT.sIx xs.length 0 lo = 0 ∧ HT.sIx xs.length xs.length hi = xs.length) ∧ ∀ p, H p = none → Q (.ref p) (upd H p (.tup (cutV xs lo hi)))
theorem sl_tup : SlR X (rSlT X.K) := by
  intro pins s σ H x v vl vu lo hi sl Q I rx hs pl pu h
  obtain ⟨a, xs, rfl, hx, hw, q⟩ := h
  cases rx
  obtain ⟨its, r, ht, hz⟩ := I.tuple hx
  have hlen : its.toArray.size = xs.length := by rw [List.size_toArray]; exact r.length.symm
  refine ⟨"tuple", _, PyProof.Rows.slot_tuple_getitem.lookup, ht.typeIs, ?_⟩
  refine HT.getItem_tuple_cut ht hs pl pu (by rw [hlen]; exact hw) ?_ (by rw [hlen]; exact hz)
  rw [hlen]
  refine ⟨.ref s.heap.objs.size, _, I.laid (t' := s.toks) (o := .tup (cutV xs lo hi)) (fun b ob q => Heap.get?_push_of_some _ q) (Nat.le_refl _) ?_, rfl, q _ (I.hok.fresh (Nat.le_refl _))⟩
  exact ⟨Nat.le_trans (cutV_length xs lo hi) hz, _, (r.drop (HT.sIx xs.length 0 lo)).take (HT.sIx xs.length xs.length hi - HT.sIx xs.length 0 lo), IsTup.new _ _⟩
def rCatT (K : PySem.W.Frag) : R2 := fun x y H Q => ∃ a b xs ys, x = .ref a ∧ y = .ref b ∧ SqT K H a xs ∧ SqT K H b ys ∧ xs ≠ [] ∧ xs.length + ys.length ≤ sizeLine ∧
  (ys = [] → Q (.ref a) H) ∧ (ys ≠ [] → ∀ p, H p = none → Q (.ref p) (upd H p (.tup (xs ++ ys))))
theorem Vals.nil_iff {xs : List V} {us : List Value} (r : Vals xs us) : us = [] ↔ xs = [] := by
  cases r with
  | nil => simp
  | cons _ _ => simp
theorem op_catT : OpR X (binaryOp .Add) (rCatT X.K) := by
  intro pins s σ H x y v u Q I rx ry h
  obtain ⟨a, b, xs, ys, rfl, rfl, ha, hb, hx, hz, q1, q2⟩ := h
  cases rx
  cases ry
  obtain ⟨its, r1, p1, _⟩ := I.tuple ha
  obtain ⟨its2, r2, p2, _⟩ := I.tuple hb
  refine HT.cat_tup p1 p2 (fun z => hx (r1.nil_iff.mp z)) (fun z => ⟨.ref a, H, I, rfl, q1 (r2.nil_iff.mp z)⟩) (fun z => ?_) (by rw [← r1.length, ← r2.length]; exact hz)
  refine ⟨.ref s.heap.objs.size, _, I.laid (t' := s.toks) (o := .tup (xs ++ ys)) (fun b ob q => Heap.get?_push_of_some _ q) (Nat.le_refl _) ?_, rfl, q2 (fun w => z (r2.nil_iff.mpr w)) _ (I.hok.fresh (Nat.le_refl _))⟩
  exact ⟨by rw [List.length_append]; exact hz, _, r1.append r2, IsTup.new _ _⟩
end
end L2
namespace L2
open PySem PySem.Spec PyProof.Rows
def ixN (n : Nat) (i : Int) : Option Nat := if 0 ≤ i then (if i < n then some i.toNat else none) else if -(n : Int) ≤ i then some (i + n).toNat else none
def atI {α : Type} (xs : List α) (i : Int) : Option α := (ixN xs.length i).bind fun j => xs[j]?
theorem ixN_seq {n : Nat} {i : Int} {j : Nat} (h : ixN n i = some j) : seqIndex? i n = some j ∧ j < n ∧ -(n : Int) ≤ i ∧ i < n := by
  unfold ixN at h
  by_cases h0 : 0 ≤ i
  · rw [if_pos h0] at h
    by_cases h1 : i < n
    · rw [if_pos h1] at h
      have e : i.toNat = j := Option.some.inj h
      exact ⟨by rw [seqIndex_of h0 h1, e], by omega, by omega, h1⟩
    · rw [if_neg h1] at h; cases h
  · rw [if_neg h0] at h
    by_cases h1 : -(n : Int) ≤ i
    · rw [if_pos h1] at h
      have e : (i + n).toNat = j := Option.some.inj h
      exact ⟨by rw [seqIndex_neg (by omega) h1, e], by omega, h1, by omega⟩
    · rw [if_neg h1] at h; cases h
theorem atI_get {α : Type} {xs : List α} {i : Int} {v : α} (h : atI xs i = some v) : ∃ j, seqIndex? i xs.length = some j ∧ xs[j]? = some v ∧ j < xs.length ∧ -(xs.length : Int) ≤ i ∧ i < xs.length := by
  unfold atI at h
  cases e : ixN xs.length i with
  | none => rw [e] at h; cases h
  | some j =>
    rw [e] at h
    obtain ⟨h1, h2, h3, h4⟩ := ixN_seq e
    exact ⟨j, h1, h, h2, h3, h4⟩
theorem atI_nat {α : Type} {xs : List α} {j : Nat} {v : α} (h : xs[j]? = some v) : atI xs (j : Int) = some v := by
  have hj : j < xs.length := (List.getElem?_eq_some_iff.mp h).1
  have e : ixN xs.length (j : Int) = some j := by
    unfold ixN
    rw [if_pos (by omega), if_pos (by omega)]; simp
  unfold atI; rw [e]; exact h
def PlainIx (b : Expr) : Prop := ∀ o i, subscripted b false o i = operate [o, i] (getItem o i)
def IxR (X : Cx) (r : R2) : Prop :=
  ∀ (value slice : Expr) (pins : List (Addr × Obj)) (s : Shared) (σ : St) (H : Hp) (x y : V) (v u : Value) (Q : VK), Inv X pins σ H s → RelV x v → RelV y u → r x y H Q →
    subscripted slice false v u = operate [v, u] (getItem v u) → wpAny (model X.prog X.w) X.A (subscriptTail value slice v u) (EP X pins σ Q) X.xe s
def MtR (X : Cx) (id : String) (r : V → List V → Hp → VK → Prop) : Prop :=
  ∀ (pins : List (Addr × Obj)) (s : Shared) (σ : St) (H : Hp) (x : V) (xs : List V) (v : Value) (us : List Value) (Q : VK), Inv X pins σ H s → RelV x v → Vals xs us → r x xs H Q →
    wpAny (model X.prog X.w) X.A (call (.builtin id) (v :: us)) (EP X pins σ Q) X.xe s
section
variable {X : Cx} {a b : Expr} {ta tb : TE} {pos : Pos}
theorem pe_ix {r : R2} (hr : IxR X r) (ha : PE X a ta) (hb : PE X b tb) (hs : PlainIx b) : PE X (.Subscript a b pos) (tOp r ta tb) := by
  intro pins s σ H Q I h
  exact Subscript_ (binT ha hb I h fun v u s2 x y H2 I2 rx ry q => hr a b pins s2 σ H2 x y v u Q I2 rx ry q (hs _ _))
def rIxL (K : PySem.W.Frag) : R2 := fun x y H Q => ∃ p xs i v, x = .ref p ∧ y = .int i ∧ SqL K H p xs ∧ atI xs i = some v ∧ Q v H
def rIxT (K : PySem.W.Frag) : R2 := fun x y H Q => ∃ p xs i v, x = .ref p ∧ y = .int i ∧ SqT K H p xs ∧ atI xs i = some v ∧ Q v H
def rIxS : R2 := fun x y H Q => ∃ z i c, x = .str z ∧ y = .int i ∧ z.length ≤ sizeLine ∧ atI z.cps.toList i = some c ∧ Q (.str ⟨#[c]⟩) H
theorem ix_list : IxR X (rIxL X.K) := by
  intro value slice pins s σ H x y v u Q I rx ry h hs
  obtain ⟨p, xs, i, z, rfl, rfl, hq, he, q⟩ := h
  cases rx
  obtain ⟨t, rfl⟩ := ry
  obtain ⟨its, r, pl, hz⟩ := I.list hq
  obtain ⟨j, h1, h2, h3, h4, h5⟩ := atI_get he
  obtain ⟨w, ew, rw'⟩ := r.get h2
  have hl := r.length
  have hn := line63
  have fin : EP X pins σ Q w s := ⟨z, H, I, rw', q⟩
  by_cases h0 : 0 ≤ i
  · have hj : i.toNat = j := by
      rw [seqIndex_of h0 h5] at h1
      exact Option.some.inj h1
    exact item_listR pl.isList h0 (by omega) (by rw [hj]; simpa using ew) fin hs
  · have hj : (i + (its.toArray.size : Int)).toNat = j := by
      rw [seqIndex_neg (by omega) h4] at h1
      rw [List.size_toArray, ← hl]
      exact Option.some.inj h1
    exact subscriptTail_builtinR (x := w) pl.isList.typeIs slot_list_getitem.lookup
      (wpAny_getItem_list_neg (Q := fun r s' => r = w ∧ EP X pins σ Q r s') pl.isList (by omega) (by rw [List.size_toArray] <;> omega) (by omega) (by rw [hj]; simpa using ew) ⟨rfl, fin⟩) hs
theorem ix_tup : IxR X (rIxT X.K) := by
  intro value slice pins s σ H x y v u Q I rx ry h hs
  obtain ⟨p, xs, i, z, rfl, rfl, hq, he, q⟩ := h
  cases rx
  obtain ⟨t, rfl⟩ := ry
  obtain ⟨its, r, pl, hz⟩ := I.tuple hq
  obtain ⟨j, h1, h2, h3, h4, h5⟩ := atI_get he
  obtain ⟨w, ew, rw'⟩ := r.get h2
  have hl := r.length
  have hn := line63
  have fin : EP X pins σ Q w s := ⟨z, H, I, rw', q⟩
  exact subscriptTail_builtinR (x := w) pl.typeIs slot_tuple_getitem.lookup
    (getItem_tuple (j := j) (Q := fun r s' => r = w ∧ EP X pins σ Q r s') pl (by omega) (by omega) (by rw [List.size_toArray, ← hl]; exact h1) (by simpa using ew) ⟨rfl, fin⟩) hs
theorem ix_str : IxR X rIxS := by
  intro value slice pins s σ H x y v u Q I rx ry h hs
  obtain ⟨z, i, c, rfl, rfl, hz, he, q⟩ := h
  obtain ⟨t, rfl⟩ := rx
  obtain ⟨t', rfl⟩ := ry
  obtain ⟨j, h1, h2, h3, h4, h5⟩ := atI_get he
  have hl : z.cps.toList.length = z.length := by simp [Str.length]
  rw [hl] at h1 h4 h5
  have hn := line63
  exact tail_any (typeIs_str s z t) slot_str_getitem.lookup (getItem_str (c := c) (by
    have e1 : decide (i < -(2 ^ 63 : Int)) = false := decide_eq_false (by omega)
    have e2 : decide (i ≥ 2 ^ 63) = false := decide_eq_false (by omega)
    rw [e1, e2, Bool.or_false]) (by rw [h1]; simpa using h2) ⟨.str ⟨#[c]⟩, H, I.tok _, ⟨_, rfl⟩, q⟩) hs
theorem mapSeq_set (its : List Value) (n j : Nat) (u : Value) : Obj.mapSeq (·.setIfInBounds j u) { cls := .type "list", data := .seq its.toArray n } = { cls := .type "list", data := .seq (its.set j u).toArray n } := by
  simp [Obj.mapSeq]
theorem Inv.lst {pins : List (Addr × Obj)} {σ : St} {H : Hp} {s : Shared} {p : Addr} {xs : List V} (I : Inv X pins σ H s) (h : H p = some (.lst xs)) :
    ∃ (its : List Value) (n : Nat), Vals xs its ∧ s.heap.get? p = some { cls := .type "list", data := .seq its.toArray n } ∧ xs.length ≤ sizeLine := by
  obtain ⟨z, its, n, r, e⟩ := I.hok p _ h
  exact ⟨its, n, r, e, z⟩
theorem Inv.lstUpd {pins : List (Addr × Obj)} {σ : St} {H : Hp} {s : Shared} {p : Addr} {xs ys : List V} {its its' : List Value} {n n' : Nat} {f : Obj → Obj} (I : Inv X pins σ H s) (h : H p = some (.lst xs))
    (ho : s.heap.get? p = some { cls := .type "list", data := .seq its.toArray n }) (hf : f { cls := .type "list", data := .seq its.toArray n } = { cls := .type "list", data := .seq its'.toArray n' }) (r : Vals ys its') (hz : ys.length ≤ sizeLine) (t : Nat) :
    Inv X pins σ (upd H p (.lst ys)) { s with heap := s.heap.update p f, toks := t } := by
  have e : (s.heap.update p f).get? p = some { cls := .type "list", data := .seq its'.toArray n' } := by
    rw [Heap.get?_update_self f ho (by rw [hf] <;> rfl), hf]
  refine I.write (x := p) (e := p) (by rw [h]; trivial) (.inl rfl) (fun b u hb q => (Heap.get?_update_other _ _ (Ne.symm hb)).trans q) ⟨_, e⟩ ?_
  exact ⟨hz, its', n', r, e⟩
def rSetL : V → V → V → Hp → (Hp → Prop) → Prop := fun o i v H Q => ∃ p xs k j, o = .ref p ∧ i = .int k ∧ H p = some (.lst xs) ∧ ixN xs.length k = some j ∧ Q (upd H p (.lst (xs.set j v)))
theorem set_list : PSet X rSetL := by
  intro pins s σ H o i v ov iv u Q I ro ri rv h
  obtain ⟨p, xs, k, j, rfl, rfl, hp, hj, q⟩ := h
  cases ro
  obtain ⟨t, rfl⟩ := ri
  obtain ⟨its, n, r, ho, hz⟩ := I.lst hp
  obtain ⟨h1, h2, h3, h4⟩ := ixN_seq hj
  have hl := r.length
  have hn := line63
  have I' : Inv X pins σ (upd H p (.lst (xs.set j v))) { s with heap := s.heap.update p (Obj.mapSeq (·.setIfInBounds j u)) } :=
    I.lstUpd hp ho (mapSeq_set its n j u) (r.set rv j) (by rw [List.length_set]; exact hz) s.toks
  by_cases h0 : 0 ≤ k
  · have hk : k.toNat = j := by
      rw [seqIndex_of h0 h4] at h1
      exact Option.some.inj h1
    exact PySem.W.ki_setAt ho h0 (by omega) (by rw [List.size_toArray, ← hl]; exact h4) (by rw [hk]; exact ⟨_, I', q⟩)
  · have hk : (k + (its.toArray.size : Int)).toNat = j := by
      rw [seqIndex_neg (by omega) h3] at h1
      rw [List.size_toArray, ← hl]
      exact Option.some.inj h1
    exact PySem.W.ki_setBack ho (by omega) (by rw [List.size_toArray, ← hl]; exact h3) (by omega) (by rw [hk]; exact ⟨_, I', q⟩)
theorem slice_bounds (lo hi : Option Int) (n : Nat) : (sliceBounds lo hi none n).1 = ((HT.sIx n 0 lo : Nat) : Int) ∧ (sliceBounds lo hi none n).2.1 = ((HT.sIx n n hi : Nat) : Int) ∧ (sliceBounds lo hi none n).2.2 = 1 := by
  refine ⟨?_, ?_, rfl⟩
  · cases lo with
    | none => simp [sliceBounds, HT.sIx]
    | some i =>
      simp only [sliceBounds, HT.sIx, Option.getD_none, show (1 : Int) > 0 by decide, if_true]
      by_cases h : i < 0
      · simp only [h, if_true] <;> omega
      · simp only [h, if_false] <;> omega
  · cases hi with
    | none => simp [sliceBounds, HT.sIx]
    | some i =>
      simp only [sliceBounds, HT.sIx, Option.getD_none, show (1 : Int) > 0 by decide, if_true]
      by_cases h : i < 0
      · simp only [h, if_true] <;> omega
      · simp only [h, if_false] <;> omega
theorem slicePick_cut (its : List Value) (lo hi : Option Int) : slicePick its.toArray lo hi none = ((its.drop (HT.sIx its.length 0 lo)).take (HT.sIx its.length its.length hi - HT.sIx its.length 0 lo)).toArray := by
  obtain ⟨h1, h2, h3⟩ := slice_bounds lo hi its.toArray.size
  unfold slicePick
  rw [h1, h2, h3]
  simp only [sliceRange_one, pick_run, List.size_toArray] <;> rfl
def rSlL (K : PySem.W.Frag) : V → Option Int → Option Int → Hp → VK → Prop := fun x lo hi H Q => ∃ a xs, x = .ref a ∧ SqL K H a xs ∧ ∀ p, H p = none → Q (.ref p) (upd H p (.lst (cutV xs lo hi)))
theorem sl_list : SlR X (rSlL X.K) := by
  intro pins s σ H x v vl vu lo hi sl Q I rx hs pl pu h
  obtain ⟨a, xs, rfl, hx, q⟩ := h
  cases rx
  obtain ⟨its, r, ht, hz⟩ := I.list hx
  have hlen := r.length
  refine ⟨"list", _, slot_list_getitem.lookup, ht.isList.typeIs, ?_⟩
  refine wpAny_getItem_list_slice ht.isList hs pl pu .none (by simp) ?_ (by rw [List.size_toArray] <;> omega)
  rw [slicePick_cut, ← hlen]
  refine ⟨.ref s.heap.objs.size, _, I.laid (t' := s.toks) (o := .lst (cutV xs lo hi)) (fun b ob q => Heap.get?_push_of_some _ q) (Nat.le_refl _) ?_, rfl, q _ (I.hok.fresh (Nat.le_refl _))⟩
  exact ⟨Nat.le_trans (cutV_length xs lo hi) hz, _, 0, (r.drop (HT.sIx xs.length 0 lo)).take (HT.sIx xs.length xs.length hi - HT.sIx xs.length 0 lo), Heap.get?_push_size _ rfl⟩
def flatV : V → Bool
  | .non => true
  | .bl _ => true
  | .int _ => true
  | .str _ => true
  | _ => false
def eqV : V → V → Bool
  | .non, .non => true
  | .bl a, .bl b => a == b
  | .bl a, .int b => (if a then 1 else 0) == b
  | .int a, .bl b => a == (if b then 1 else 0)
  | .int a, .int b => a == b
  | .str a, .str b => a == b
  | _, _ => false
theorem eqAt_V {A : Around} {s : Shared} {y x : V} {u v : Value} (ry : RelV y u) (rx : RelV x v) (fy : flatV y = true) (fx : flatV x = true) : SeqAt.EqAt A s u v (eqV y x) := by
  cases y with
  | non =>
    cases ry
    cases x with
    | non => cases rx; exact SeqAt.EqAt.same _
    | bl b => cases rx; exact SeqAt.EqAt.none_bool b
    | int b => obtain ⟨t, rfl⟩ := rx; exact SeqAt.EqAt.none_int b t
    | str b => obtain ⟨t, rfl⟩ := rx; exact SeqAt.EqAt.none_str b t
    | _ => exact absurd (show false = true from fx) Bool.false_ne_true
  | bl a =>
    cases ry
    cases x with
    | non => cases rx; exact SeqAt.EqAt.bool_none a
    | bl b => cases rx; exact SeqAt.EqAt.bool_bool a b
    | int b => obtain ⟨t, rfl⟩ := rx; exact SeqAt.EqAt.bool_int a b t
    | str b => obtain ⟨t, rfl⟩ := rx; exact SeqAt.EqAt.bool_str a b t
    | _ => exact absurd (show false = true from fx) Bool.false_ne_true
  | int a =>
    obtain ⟨t', rfl⟩ := ry
    cases x with
    | non => cases rx; exact SeqAt.EqAt.int_none a t'
    | bl b => cases rx; exact SeqAt.EqAt.int_bool a t' b
    | int b => obtain ⟨t, rfl⟩ := rx; exact SeqAt.EqAt.int_int a t' b t
    | str b => obtain ⟨t, rfl⟩ := rx; exact SeqAt.EqAt.int_str a t' b t
    | _ => exact absurd (show false = true from fx) Bool.false_ne_true
  | str a =>
    obtain ⟨t', rfl⟩ := ry
    cases x with
    | non => cases rx; exact SeqAt.EqAt.str_none a t'
    | bl b => cases rx; exact SeqAt.EqAt.str_bool a t' b
    | int b => obtain ⟨t, rfl⟩ := rx; exact SeqAt.EqAt.str_int a t' b t
    | str b => obtain ⟨t, rfl⟩ := rx; exact SeqAt.EqAt.str_str a t' b t
    | _ => exact absurd (show false = true from fx) Bool.false_ne_true
  | _ => exact absurd (show false = true from fy) Bool.false_ne_true
def eqU (x : V) (u : Value) : Bool := match u with
  | .none => eqV .non x
  | .bool b => eqV (.bl b) x
  | .int i _ => eqV (.int i) x
  | .str z _ => eqV (.str z) x
  | _ => false
theorem eqU_of {x y : V} {u : Value} (r : RelV y u) (f : flatV y = true) : eqU x u = eqV y x := by
  cases y with
  | non => cases r; rfl
  | bl b => cases r; rfl
  | int i => obtain ⟨t, rfl⟩ := r; rfl
  | str z => obtain ⟨t, rfl⟩ := r; rfl
  | _ => exact absurd (show false = true from f) Bool.false_ne_true
theorem any_eqU {x : V} : ∀ {xs : List V} {us : List Value}, Vals xs us → xs.all flatV = true → us.any (eqU x) = xs.any fun y => eqV y x
  | _, _, .nil, _ => rfl
  | y :: xs, u :: us, .cons r t, f => by
    rw [List.all_cons, Bool.and_eq_true] at f
    rw [List.any_cons, List.any_cons, eqU_of r f.1, any_eqU t f.2]
theorem mem_eqAt {A : Around} {s : Shared} {x : V} {v : Value} (rx : RelV x v) (fx : flatV x = true) : ∀ {xs : List V} {us : List Value}, Vals xs us → xs.all flatV = true → ∀ u ∈ us, SeqAt.EqAt A s u v (eqU x u)
  | _, _, .nil, _ => fun u hu => by cases hu
  | y :: xs, u :: us, .cons r t, f => fun u' hu => by
    rw [List.all_cons, Bool.and_eq_true] at f
    rcases List.mem_cons.mp hu with rfl | hu
    · rw [eqU_of r f.1]; exact eqAt_V r rx f.1 fx
    · exact mem_eqAt rx fx t f.2 u' hu
def inV (x : V) (xs : List V) : Bool := xs.any fun y => eqV y x
def rIn (K : PySem.W.Frag) (neg : Bool) : R2 := fun x y H Q => ∃ p xs, y = .ref p ∧ (SqL K H p xs ∨ SqT K H p xs) ∧ flatV x = true ∧ xs.all flatV = true ∧ Q (.bl (if neg then !inV x xs else inV x xs)) H
theorem op_in_seq : OpR X (compareOp .In) (rIn X.K false) := by
  intro pins s σ H x y v u Q I rx ry h
  obtain ⟨p, xs, rfl, hq, fx, fs, q⟩ := h
  cases ry
  rcases hq with hq | hq
  · obtain ⟨its, r, pl, hz⟩ := I.list hq
    refine SeqAt.in_listAt (eqU x) pl.isList (fun w hw => mem_eqAt rx fx r fs w (by simpa using hw)) ⟨.bl _, H, I, rfl, ?_⟩
    rw [show its.toArray.any (eqU x) = its.any (eqU x) by simp, any_eqU r fs]
    exact q
  · obtain ⟨its, r, pl, hz⟩ := I.tuple hq
    refine SeqAt.in_tupleAt (eqU x) pl (fun w hw => mem_eqAt rx fx r fs w (by simpa using hw)) ⟨.bl _, H, I, rfl, ?_⟩
    rw [show its.toArray.any (eqU x) = its.any (eqU x) by simp, any_eqU r fs]
    exact q
theorem call_len_seq : CallR X (.builtin "len") (fun xs H Q => ∃ p ys, xs = [.ref p] ∧ (SqL X.K H p ys ∨ SqT X.K H p ys) ∧ Q (.int ys.length) H) := by
  intro pins s σ H xs us Q I r h
  obtain ⟨p, ys, rfl, hq, q⟩ := h
  obtain ⟨u, rfl, rx⟩ := vals1 r
  cases rx
  have hn := line63
  rcases hq with hq | hq
  · obtain ⟨its, r', pl, hz⟩ := I.list hq
    have hlen := r'.length
    exact Calls.call_len_list pl.isList (by simp only [List.size_toArray] <;> omega) ⟨.int ys.length, H, I.tok _, ⟨s.toks + 1, by rw [List.size_toArray, hlen]⟩, q⟩
  · obtain ⟨its, r', pl, hz⟩ := I.tuple hq
    have hlen := r'.length
    exact len_tuple pl (by simp only [List.size_toArray] <;> omega) ⟨.int ys.length, H, I.tok _, ⟨s.toks + 1, by rw [List.size_toArray, hlen]⟩, q⟩
theorem call_len_str : CallR X (.builtin "len") (fun xs H Q => ∃ z, xs = [.str z] ∧ z.length ≤ sizeLine ∧ Q (.int z.length) H) := by
  intro pins s σ H xs us Q I r h
  obtain ⟨z, rfl, hz, q⟩ := h
  obtain ⟨u, rfl, t, rfl⟩ := vals1 r
  have hn := line63
  exact len_str (by omega) ⟨.int z.length, H, I.tok _, ⟨_, rfl⟩, q⟩
theorem call_tuple_of : CallR X (.type "tuple") (fun xs H Q => ∃ p ys, xs = [.ref p] ∧ ((SqL X.K H p ys ∧ ∀ l, H l = none → Q (.ref l) (upd H l (.tup ys))) ∨ (SqT X.K H p ys ∧ Q (.ref p) H))) := by
  intro pins s σ H xs us Q I r h
  obtain ⟨p, ys, rfl, h⟩ := h
  obtain ⟨u, rfl, rx⟩ := vals1 r
  cases rx
  rcases h with ⟨hq, q⟩ | ⟨hq, q⟩
  · obtain ⟨its, r', pl, hz⟩ := I.list hq
    have hlen := r'.length
    refine call_tuple_list pl.isList (fun h' kp => ?_) (by simp only [List.size_toArray] <;> omega)
    have I1 : Inv X pins σ H { s with heap := h' } := I.kept (t' := s.toks) kp
    have I2 : Inv X pins σ (upd H h'.objs.size (.tup ys)) { s with heap := h'.push { cls := .type "tuple", data := .seq its.toArray } } :=
      I1.laid (t' := s.toks) (fun b o e => Heap.get?_push_of_some _ e) (Nat.le_refl _) (show ObjOk X.prog X.w _ _ _ (.tup ys) from ⟨hz, its, r', IsTup.new _ _⟩)
    exact ⟨.ref h'.objs.size, _, I2, rfl, q _ (I1.hok.fresh (Nat.le_refl _))⟩
  · obtain ⟨its, r', pl, hz⟩ := I.tuple hq
    exact call_tuple_same pl ⟨.ref p, H, I, rfl, q⟩
def tyV (K : PySem.W.Frag) (T : String) (x : V) (H : Hp) : Prop := match x with
  | .str _ => T = "str"
  | .int _ => T = "int"
  | .ref p => (T = "list" ∧ ∃ xs, SqL K H p xs) ∨ (T = "tuple" ∧ ∃ o, K.lookup p = some o ∧ o.cls = .type "tuple" ∧ o.dict = none) ∨
      (T = "dict" ∧ ((∃ kvs, H p = some (.dK kvs)) ∨ ∃ kvs, H p = some (.dT kvs))) ∨ (T = "set" ∧ ∃ S n, H p = some (.set S n))
  | _ => False
theorem tyV_is {pins : List (Addr × Obj)} {σ : St} {H : Hp} {s : Shared} {T : String} {x : V} {v : Value} (I : Inv X pins σ H s) (r : RelV x v) (ty : tyV X.K T x H) :
    s.TypeIs v T ∧ ∀ a, v = .ref a → ∃ ob, s.heap.get? a = some ob ∧ ob.dict = none := by
  cases x with
  | str z =>
    obtain ⟨t, rfl⟩ := r
    cases (show T = "str" from ty)
    exact ⟨typeIs_str s z t, fun _ e => nomatch e⟩
  | int i =>
    obtain ⟨t, rfl⟩ := r
    cases (show T = "int" from ty)
    exact ⟨typeIs_int s i t, fun _ e => nomatch e⟩
  | ref p =>
    cases r
    rcases ty with ⟨rfl, xs, hq⟩ | ⟨rfl, o, hk, hc, hd⟩ | ⟨rfl, hk⟩ | ⟨rfl, S, n, hk⟩
    · obtain ⟨its, _, pl, _⟩ := I.list hq
      refine ⟨pl.isList.typeIs, fun a e => ?_⟩
      cases e
      obtain ⟨o, n, e, c, hd, _⟩ := pl
      exact ⟨o, e, hd⟩
    · refine ⟨⟨o, I.kIn p o hk, hc⟩, fun a e => ?_⟩
      cases e
      exact ⟨o, I.kIn _ o hk, hd⟩
    · have z : ∃ o, s.heap.get? p = some o ∧ o.ExactDict := by
        rcases hk with ⟨kvs, hk⟩ | ⟨kvs, hk⟩
        · obtain ⟨_, _, _, _, o, _, _, e, ex, _⟩ := I.hok p _ hk
          exact ⟨o, e, ex⟩
        · obtain ⟨_, _, _, _, o, _, _, e, ex, _⟩ := I.hok p _ hk
          exact ⟨o, e, ex⟩
      obtain ⟨o, e, ex⟩ := z
      refine ⟨⟨o, e, ex.1⟩, fun a e2 => ?_⟩
      cases e2
      exact ⟨o, e, ex.2.1⟩
    · obtain ⟨o, _, _, _, e, ex, _⟩ := I.hok p _ hk
      refine ⟨⟨o, e, ex.1⟩, fun a e2 => ?_⟩
      cases e2
      exact ⟨o, e, ex.2.1⟩
  | _ => exact False.elim ty
def tBM (K : PySem.W.Frag) (T : String) (r : V → List V → Hp → VK → Prop) (to : TE) (t : TA) : TE := fun σ H Q => to σ H fun x H1 => tyV K T x H1 ∧ t σ H1 fun xs H2 => r x xs H2 Q
variable {o e : Expr} {es : List Expr} {to : TE} {t : TA} {name : Str} {apos cpos : Pos} {T id : String} {r : V → List V → Hp → VK → Prop}
theorem pe_bm (pa : PlainAttrs T) (slot : Slot T name id) (hty : typeOf (.builtin id) = pure (.type "method_descriptor")) (hm : MtR X id r) (ho : PE X o to) (ha : PA X (e :: es) t)
    (hbase : attributeBase o name X.env (eval o X.env) = eval o X.env := by rfl)
    (hfew : ((backTo cpos (starEach (e :: es) X.env)).all (fun x => !x.1) && (backToKw cpos (keywordEach [] X.env)).all (fun x => x.1.isSome)
      && decide ((e :: es).length + ([] : List Keyword).length + (if ([] : List Keyword).isEmpty then 0 else 1) < 30)) = true := by rfl)
    (hline : (apos.endLine == cpos.line) = true := by rfl) (hs : starEach (e :: es) X.env = (false, eval e X.env) :: starEach es X.env := by rfl) (hplain : (backTo cpos (starEach es X.env)).any (·.1) = false := by rfl) :
    PE X (.Call (.Attribute o name apos) (e :: es) [] cpos) (tBM X.K T r to t) := by
  intro pins s σ H Q I h
  refine wpAny_Call_method_late hbase hfew hline rfl (thn (ho pins s σ H _ I h) fun v s1 ⟨x, H1, I1, r1, ty, q1⟩ => ?_)
  obtain ⟨h1, h2⟩ := tyV_is I1 r1 ty
  refine ⟨T, id, pa, slot, hty, h1, h2, ?_⟩
  have hA := ha cpos pins s1 σ H1 _ I1 q1
  rw [hs] at hA ⊢
  refine Calls.callWith_builtin (by show (false || (backTo cpos (starEach es X.env)).any (·.1)) = false; rw [hplain] <;> rfl) (Calls.evalArgs_plain ?_)
  exact thn hA fun us s2 ⟨vs, H2, I2, r2, q2⟩ => hm pins s2 σ H2 x vs v us Q I2 r1 r2 q2
end
end L2
namespace L2
open PySem PySem.Spec PyProof.Rows
def MtM (X : Cx) (id : String) (r : V → List V → Hp → VK → Prop) : Prop :=
  ∀ (pins : List (Addr × Obj)) (s : Shared) (σ : St) (H : Hp) (x : V) (xs : List V) (v : Value) (us : List Value) (Q : VK), Inv X pins σ H s → RelV x v → Vals xs us → r x xs H Q →
    wpAny (model X.prog X.w) X.A (call (.builtin id) (v :: us)) (EP X pins σ Q) X.xe s
theorem Vals.one : ∀ {x : V} {us : List Value}, Vals [x] us → ∃ u, us = [u] ∧ RelV x u
  | _, _, .cons r .nil => ⟨_, rfl, r⟩
theorem Vals.rep {xs : List V} {us : List Value} (h : Vals xs us) : ∀ k : Nat, Vals (List.replicate k xs).flatten (List.replicate k us).flatten
  | 0 => .nil
  | k + 1 => by
    rw [List.replicate_succ, List.replicate_succ, List.flatten_cons, List.flatten_cons]
    exact Vals.append h (Vals.rep h k)
theorem foldl_rep (its : List Value) : ∀ (k : Nat) (acc : List Value),
    List.foldl (fun x1 x2 => x1 ++ x2) acc.toArray (List.replicate k its.toArray) = (acc ++ (List.replicate k its).flatten).toArray
  | 0, acc => by simp
  | k + 1, acc => by
    have e : acc.toArray ++ its.toArray = (acc ++ its).toArray := by simp
    have e2 : (acc ++ its) ++ (List.replicate k its).flatten = acc ++ (List.replicate (k + 1) its).flatten := by
      rw [List.replicate_succ, List.flatten_cons, List.append_assoc]
    rw [← e2, ← foldl_rep its k (acc ++ its), ← e, List.replicate_succ, List.foldl_cons]
section
variable {X : Cx} {pins : List (Addr × Obj)} {σ : St} {H : Hp} {s : Shared} {l b : Addr} {xs ys zs : List V}
theorem Inv.lset {its its' : List Value} {n : Nat} {f : Array Value → Array Value} {t' : Nat} (I : Inv X pins σ H s) (hH : H l = some (.lst xs))
    (e : s.heap.get? l = some { cls := .type "list", data := .seq its.toArray n }) (hf : f its.toArray = its'.toArray) (hv : Vals ys its') (hz : ys.length ≤ sizeLine) :
    Inv X pins σ (upd H l (.lst ys)) { s with heap := s.heap.update l (Obj.mapSeq f), toks := t' } := by
  have q := PySem.IsL.update e f
  rw [hf] at q
  refine I.write (x := l) (e := l) (by rw [hH]; exact trivial) (.inl rfl) (fun b' u hb hu => (Heap.get?_update_other s.heap (Obj.mapSeq f) (Ne.symm hb)).trans hu) ⟨_, q⟩ ?_
  exact ⟨hz, its', _, hv, q⟩
theorem Inv.lnew {its : List Value} {t' : Nat} (I : Inv X pins σ H s) (hv : Vals ys its) (hz : ys.length ≤ sizeLine) :
    Inv X pins σ (upd H s.heap.objs.size (.lst ys)) { s with heap := s.heap.push { cls := .type "list", data := .seq its.toArray }, toks := t' } :=
  I.laid (fun _ _ q => Heap.get?_push_of_some _ q) (Nat.le_refl _) ⟨hz, its, 0, hv, Heap.get?_push_size _ rfl⟩
theorem Inv.fresh (I : Inv X pins σ H s) : H s.heap.objs.size = none := I.hok.fresh (Nat.le_refl _)
theorem Inv.lstM (I : Inv X pins σ H s) (hH : H l = some (.lst xs)) : xs.length ≤ sizeLine ∧ ∃ (its : List Value) (n : Nat), Vals xs its ∧ xs.length = its.length ∧ s.heap.get? l = some { cls := .type "list", data := .seq its.toArray n } := by
  obtain ⟨z, its, n, r, e⟩ := I.hok l _ hH
  exact ⟨z, its, n, r, r.length, e⟩
end
section
variable {X : Cx}
def rAppend : V → List V → Hp → VK → Prop := fun x vs H Q => ∃ l xs y, x = .ref l ∧ vs = [y] ∧ H l = some (.lst xs) ∧ xs.length < sizeLine ∧ Q .non (upd H l (.lst (xs ++ [y])))
theorem mt_append : MtM X "list.append" rAppend := by
  intro pins s σ H x vs v us Q I rx rv h
  obtain ⟨l, xs, y, rfl, rfl, hH, hz, q⟩ := h
  cases rx
  obtain ⟨u, rfl, ru⟩ := rv.one
  obtain ⟨z, its, n, r, hl, e⟩ := I.lstM hH
  refine call_meets F.slot_list_append ⟨_, e, rfl⟩ F.entry_list_append (F.args_list_append_2 _ _) (PySem.list_append l its.toArray n u (by rw [List.size_toArray]; omega)) ⟨e, ?_⟩
  refine ⟨.non, _, I.lset (its' := its ++ [u]) hH e (by simp) (r.append (.cons ru .nil)) ?_, rfl, q⟩
  rw [List.length_append, List.length_singleton]
  omega
def rCat : R2 := fun x y H Q => ∃ l b xs zs, x = .ref l ∧ y = .ref b ∧ H l = some (.lst xs) ∧ H b = some (.lst zs) ∧ xs.length + zs.length ≤ sizeLine ∧ ∀ p, H p = none → Q (.ref p) (upd H p (.lst (xs ++ zs)))
theorem op_cat : OpR X (binaryOp .Add) rCat := by
  intro pins s σ H x y v u Q I rx ry h
  obtain ⟨l, b, xs, zs, rfl, rfl, hH, hB, hz, q⟩ := h
  cases rx
  cases ry
  obtain ⟨z, its, n, r, hl, e⟩ := I.lstM hH
  obtain ⟨z2, its2, n2, r2, hl2, e2⟩ := I.lstM hB
  refine PySem.P.add_list e e2 ?_ (by rw [List.size_toArray, List.size_toArray]; omega)
  have ea : its.toArray ++ its2.toArray = (its ++ its2).toArray := by simp
  rw [ea]
  exact ⟨.ref _, _, I.lnew (t' := s.toks) (r.append r2) (by rw [List.length_append]; omega), rfl, q _ I.fresh⟩
theorem len_rep {α : Type} (xs : List α) (k : Nat) : (List.replicate k xs).flatten.length = k * xs.length := by
  induction k with
  | zero => simp
  | succ k ih => rw [List.replicate_succ, List.flatten_cons, List.length_append, ih, Nat.succ_mul, Nat.add_comm]
end
section
variable {prog : Program} {w : World} {A : Around} {E : Value → Shared → Prop} {s : Shared}
set_option maxRecDepth 100000 in
end
section
variable {X : Cx}
end
end L2
namespace L2
open PySem PySem.Spec PyProof.Rows
section
variable {κ : Type} [DecidableEq κ]
def valV (kvs : List (κ × V)) (k : κ) : Option V := (kvs.find? fun kv => decide (kv.1 = k)).map (·.2)
def putK (kvs : List (κ × V)) (k : κ) (v : V) : List (κ × V) :=
  if (kvs.any fun kv => decide (kv.1 = k)) = true then kvs.map (fun kv => if kv.1 = k then (kv.1, v) else kv) else kvs ++ [(k, v)]
theorem valV_pos {p : κ × V} {r : List (κ × V)} {k : κ} (e : p.1 = k) : valV (p :: r) k = some p.2 := by simp [valV, List.find?_cons, e]
theorem valV_neg {p : κ × V} {r : List (κ × V)} {k : κ} (e : ¬ p.1 = k) : valV (p :: r) k = valV r k := by simp [valV, List.find?_cons, e]
theorem valV_any (k : κ) : ∀ kvs : List (κ × V), (kvs.any fun kv => decide (kv.1 = k)) = (valV kvs k).isSome
  | [] => rfl
  | p :: r => by
    rw [List.any_cons]
    by_cases e : p.1 = k
    · simp only [valV_pos e, decide_eq_true e, Bool.true_or, Option.isSome_some]
    · rw [valV_neg e, decide_eq_false e, Bool.false_or]; exact valV_any k r
theorem length_putK (kvs : List (κ × V)) (k : κ) (v : V) : (putK kvs k v).length ≤ kvs.length + 1 := by
  unfold putK
  split
  · rw [List.length_map]; omega
  · rw [List.length_append, List.length_cons, List.length_nil]; omega
theorem RelO.isSome_eq {o : Option V} {u : Option Value} (r : RelO o u) : o.isSome = u.isSome := by
  cases o with
  | none => cases u with
    | none => rfl
    | some _ => exact (show False from r).elim
  | some _ => cases u with
    | none => exact (show False from r).elim
    | some _ => rfl
theorem KV.val {kvs : List (κ × V)} {vs : List (κ × Value)} (r : KV kvs vs) (k : κ) : RelO (valV kvs k) (valueAt vs k) := by
  unfold KV at r
  induction r with
  | nil => exact True.intro
  | @cons p q ps qs h t ih =>
    obtain ⟨h1, h2⟩ := h
    by_cases e : p.1 = k
    · have e' : q.1 = k := h1.symm.trans e
      have b : valueAt (q :: qs) k = some q.2 := by simp [valueAt, List.find?_cons, e']
      rw [valV_pos e, b]; exact h2
    · have e' : ¬ q.1 = k := fun z => e (h1.trans z)
      have b : valueAt (q :: qs) k = valueAt qs k := by simp [valueAt, List.find?_cons, e']
      rw [valV_neg e, b]; exact ih
theorem KV.any {kvs : List (κ × V)} {vs : List (κ × Value)} (r : KV kvs vs) (k : κ) : (kvs.any fun kv => decide (kv.1 = k)) = vs.any fun kv => decide (kv.1 = k) := by
  unfold KV at r
  induction r with
  | nil => rfl
  | cons h t ih => rw [List.any_cons, List.any_cons, ih, h.1]
theorem KV.repl {kvs : List (κ × V)} {vs : List (κ × Value)} (r : KV kvs vs) (k : κ) {y : V} {u : Value} (ry : RelV y u) :
    KV (kvs.map fun kv => if kv.1 = k then (kv.1, y) else kv) (vs.map fun kv => if kv.1 = k then (kv.1, u) else kv) := by
  unfold KV at r ⊢
  induction r with
  | nil => exact .nil
  | @cons p q ps qs h t ih =>
    rw [List.map_cons, List.map_cons]
    refine .cons ?_ ih
    obtain ⟨h1, h2⟩ := h
    by_cases e : p.1 = k
    · rw [if_pos e, if_pos (h1.symm.trans e)]; exact ⟨h1, ry⟩
    · rw [if_neg e, if_neg (fun z => e (h1.trans z))]; exact ⟨h1, h2⟩
theorem KV.put {kvs : List (κ × V)} {vs : List (κ × Value)} (r : KV kvs vs) (k : κ) {y : V} {u : Value} (ry : RelV y u) : KV (putK kvs k y) (stored vs k u) := by
  unfold putK stored
  rw [r.any k]
  by_cases e : (vs.any fun kv => decide (kv.1 = k)) = true
  · rw [if_pos e, if_pos e]; exact r.repl k ry
  · rw [if_neg e, if_neg e]; exact Paired.snoc r ⟨rfl, ry⟩
theorem KV.length {kvs : List (κ × V)} {vs : List (κ × Value)} (r : KV kvs vs) : kvs.length = vs.length := Paired.length r
end
theorem kV_is {P : Program} {w : World} {k : Key} {u : Value} (r : RelV (kV k) u) : (mixKind P w).is k u = true := by
  cases k with
  | inl i => obtain ⟨t, e⟩ := (show ∃ t, u = Value.int i t from r); subst e; exact mixKind_int P w i t
  | inr x => obtain ⟨t, e⟩ := (show ∃ t, u = Value.str x t from r); subst e; exact mixKind_str P w x t
theorem items_are {P : Program} {w : World} : ∀ {ks : List Key} {us : List Value}, Vals (ks.map kV) us → ItemsAre (mixKind P w) ks us
  | [], _, r => by rw [List.map_nil] at r; cases r; exact .nil
  | k :: ks, _, r => by
    rw [List.map_cons] at r
    cases r with
    | cons h t => exact .cons (kV_is h) (items_are t)
abbrev KT (H : Hp) : List (List Key × V) → List (List Key × Addr × Value) → Prop := Paired fun p q => p.1 = q.1 ∧ H q.2.1 = some (.tup (p.1.map kV)) ∧ RelV p.2 q.2.2
theorem KT.val {H : Hp} {kvs : List (List Key × V)} {xs : List (List Key × Addr × Value)} (r : KT H kvs xs) (k : List Key) : RelO (valV kvs k) ((atKey xs k).map (·.2)) := by
  induction r with
  | nil => exact True.intro
  | @cons p q ps qs h t ih =>
    obtain ⟨h1, _, h2⟩ := h
    by_cases e : p.1 = k
    · have e' : q.1 = k := h1.symm.trans e
      have b : atKey (q :: qs) k = some q.2 := by simp [atKey, List.find?_cons, e']
      rw [valV_pos e, b]; exact h2
    · have e' : ¬ q.1 = k := fun z => e (h1.trans z)
      have b : atKey (q :: qs) k = atKey qs k := by simp [atKey, List.find?_cons, e']
      rw [valV_neg e, b]; exact ih
theorem KT.repl {H : Hp} {kvs : List (List Key × V)} {xs : List (List Key × Addr × Value)} (r : KT H kvs xs) (k : List Key) {y : V} {u : Value} (ry : RelV y u) :
    KT H (kvs.map fun kv => if kv.1 = k then (kv.1, y) else kv) (xs.map (putAt k u)) := by
  induction r with
  | nil => exact .nil
  | @cons p q ps qs h t ih =>
    rw [List.map_cons, List.map_cons]
    refine .cons ?_ ih
    obtain ⟨h1, h2, h3⟩ := h
    unfold putAt
    by_cases e : p.1 = k
    · rw [if_pos e, if_pos (h1.symm.trans e)]; exact ⟨h1, h2, ry⟩
    · rw [if_neg e, if_neg (fun z => e (h1.trans z))]; exact ⟨h1, h2, h3⟩
theorem KT.put {H : Hp} {kvs : List (List Key × V)} {xs : List (List Key × Addr × Value)} (r : KT H kvs xs) (k : List Key) {b : Addr} {y : V} {u : Value} (hb : H b = some (.tup (k.map kV))) (ry : RelV y u) :
    KT H (putK kvs k y) (storedH xs k b u) := by
  have e : (kvs.any fun kv => decide (kv.1 = k)) = (atKey xs k).isSome := by
    rw [valV_any, (r.val k).isSome_eq, Option.isSome_map]
  unfold putK storedH
  rw [e]
  by_cases q : (atKey xs k).isSome = true
  · rw [if_pos q, if_pos q]; exact r.repl k ry
  · rw [if_neg q, if_neg q]; exact Paired.snoc r ⟨rfl, hb, ry⟩
theorem KT.keeps {H H' : Hp} {kvs : List (List Key × V)} {xs : List (List Key × Addr × Value)} (r : KT H kvs xs) (ht : ∀ b ys, H b = some (.tup ys) → H' b = some (.tup ys)) : KT H' kvs xs :=
  Paired.mapP r fun _ _ z => ⟨z.1, ht _ _ z.2.1, z.2.2⟩
section
variable {P : Program} {w : World} {H : Hp} {h : Heap} {a : Addr}
theorem rd_of {u : HO} (ok : HOk P w H h) (e : Rd H a u) : ObjOk P w H h a u := e.ok ok
theorem dk_rd {kvs : List (Key × V)} (ok : HOk P w H h) (e : Rd H a (.dK kvs)) : kvs.length ≤ sizeLine ∧ (a == sysModules) = false ∧ ∃ vs, KV kvs vs ∧ h.DictOf (mixKind P w) a vs :=
  show ObjOk P w H h a (.dK kvs) from rd_of ok e
theorem dk_of {kvs : List (Key × V)} (ok : HOk P w H h) (e : H a = some (.dK kvs)) : kvs.length ≤ sizeLine ∧ (a == sysModules) = false ∧ ∃ vs, KV kvs vs ∧ h.DictOf (mixKind P w) a vs := dk_rd ok (.inl e)
theorem key_of {ks : List Key} (ok : HOk P w H h) (e : H a = some (.tup (ks.map kV))) : (tupleKind (mixKind P w)).is h ks a := by
  obtain ⟨_, its, r, o, h1, h2, n, h3⟩ := (show ObjOk P w H h a (.tup (ks.map kV)) from ok a _ e)
  exact ⟨o, its.toArray, n, h1, h2, h3, by simpa using items_are r⟩
theorem dt_rd {kvs : List (List Key × V)} (ok : HOk P w H h) (e : Rd H a (.dT kvs)) : kvs.length ≤ sizeLine ∧ (a == sysModules) = false ∧
    ∃ xs, KT H kvs xs ∧ h.DictOfH (tupleKind (mixKind P w)) a xs := by
  obtain ⟨z, y, xs, r, o, es, ep, h1, h2, h3, h4, h5⟩ := (show ObjOk P w H h a (.dT kvs) from rd_of ok e)
  refine ⟨z, y, xs, r, o, es, ep, h1, h2, h3, h4, fun x hx => ?_, h5⟩
  have all : ∀ {l : List (List Key × V)} {m : List (List Key × Addr × Value)}, KT H l m → ∀ x ∈ m, (tupleKind (mixKind P w)).is h x.1 x.2.1 := by
    intro l m q
    induction q with
    | nil => intro x hx; exact nomatch hx
    | @cons p q ps qs hq t ih =>
      intro x hx
      rcases List.mem_cons.mp hx with e | hx
      · subst e
        exact key_of ok (by rw [← hq.1]; exact hq.2.1)
      · exact ih x hx
  exact all r x hx
theorem dt_of {kvs : List (List Key × V)} (ok : HOk P w H h) (e : H a = some (.dT kvs)) : kvs.length ≤ sizeLine ∧ (a == sysModules) = false ∧
    ∃ xs, KT H kvs xs ∧ h.DictOfH (tupleKind (mixKind P w)) a xs := dt_rd ok (.inl e)
end
def DGet (H : Hp) (a : Addr) (y : V) (r : Option V) : Prop :=
  (∃ kvs k, Rd H a (.dK kvs) ∧ y = kV k ∧ r = valV kvs k) ∨ ∃ kvs k b, Rd H a (.dT kvs) ∧ y = .ref b ∧ H b = some (.tup (k.map kV)) ∧ r = valV kvs k
def DPut (H : Hp) (a : Addr) (y v : V) (H' : Hp) : Prop :=
  (∃ kvs k, H a = some (.dK kvs) ∧ y = kV k ∧ kvs.length < sizeLine ∧ H' = upd H a (.dK (putK kvs k v))) ∨
  ∃ kvs k b, H a = some (.dT kvs) ∧ y = .ref b ∧ H b = some (.tup (k.map kV)) ∧ kvs.length < sizeLine ∧ H' = upd H a (.dT (putK kvs k v))
theorem DGet.k {H : Hp} {a : Addr} {kvs : List (Key × V)} {k : Key} (e : H a = some (.dK kvs)) : DGet H a (kV k) (valV kvs k) := .inl ⟨kvs, k, .inl e, rfl, rfl⟩
theorem DPut.k {H : Hp} {a : Addr} {kvs : List (Key × V)} {k : Key} {v : V} (e : H a = some (.dK kvs)) (hl : kvs.length < sizeLine) : DPut H a (kV k) v (upd H a (.dK (putK kvs k v))) := .inl ⟨kvs, k, e, rfl, hl, rfl⟩
section
variable {X : Cx} {pins : List (Addr × Obj)} {σ : St} {H : Hp} {s : Shared} {a : Addr} {y v : V} {u r : Value} {o : Option V} {A : Around} {E : Value → Shared → Prop}
theorem Inv.big (I : Inv X pins σ H s) : sysModules < s.heap.objs.size := by
  have h : mainGlobals < s.heap.objs.size := (I.mod.glob.keeps I.bk).lt
  exact Nat.lt_trans (by decide) h
theorem d_getItem {Q : Value → Shared → Prop} (hu : A.units + 1 < cLine) (I : Inv X pins σ H s) (g : DGet H a y (some v)) (ry : RelV y u) (h : ∀ w' s', Inv X pins σ H s' → RelV v w' → Q w' s') :
    wpAny (model X.prog X.w) A (getItem (.ref a) u) Q E s := by
  rcases g with ⟨kvs, k, e, ey, l⟩ | ⟨kvs, k, b, e, ey, eb, l⟩
  · subst ey
    obtain ⟨z, hd, vs, rel, dd⟩ := dk_rd I.hok e
    obtain ⟨w', hw, rw'⟩ := RelO.some_of (v := v) (o := valueAt vs k) (by rw [l]; exact rel.val k)
    exact wpAny_getItem_of (kV_is ry) dd.mapOf hw (h w' _ (I.tok _) rw')
  · subst ey
    cases (show u = Value.ref b from ry)
    obtain ⟨z, hd, xs, rel, dd⟩ := dt_rd I.hok e
    obtain ⟨w', hw, rw'⟩ := RelO.some_of (v := v) (o := (atKey xs k).map (·.2)) (by rw [l]; exact rel.val k)
    obtain ⟨p, hp, hp2⟩ := Option.map_eq_some_iff.mp hw
    refine wpAny_getItem_heap (tupleKind_room_in1 hu) (key_of I.hok eb) dd hp ?_
    rw [hp2]
    exact h w' _ (I.tok _) rw'
theorem d_in {Q : Value → Shared → Prop} (hu : A.units + 1 < cLine) (I : Inv X pins σ H s) (g : DGet H a y o) (ry : RelV y u) (h : ∀ s', Inv X pins σ H s' → Q (.bool o.isSome) s') :
    wpAny (model X.prog X.w) A (compareOp .In u (.ref a)) Q E s := by
  rcases g with ⟨kvs, k, e, ey, l⟩ | ⟨kvs, k, b, e, ey, eb, l⟩
  · subst ey
    obtain ⟨z, hd, vs, rel, dd⟩ := dk_rd I.hok e
    refine wpAny_in_of (kV_is ry) hd dd.mapOf ?_
    rw [← (rel.val k).isSome_eq, ← l]
    exact h _ (I.tok _)
  · subst ey
    cases (show u = Value.ref b from ry)
    obtain ⟨z, hd, xs, rel, dd⟩ := dt_rd I.hok e
    refine wpAny_in_heap (tupleKind_room_in1 hu) (key_of I.hok eb) hd dd ?_
    have q := (rel.val k).isSome_eq
    rw [Option.isSome_map] at q
    rw [← q, ← l]
    exact h _ (I.tok _)
theorem d_write {h' : Heap} {t' : Nat} {ob : HO} (I : Inv X pins σ H s) (mu : Mut (H a)) (hs : Heap.SameBut a s.heap h') (he : ∃ q, h'.get? a = some q) (new : ObjOk X.prog X.w (upd H a ob) h' a ob) :
    Inv X pins σ (upd H a ob) { s with heap := h', toks := t' } :=
  I.write (x := a) (e := a) mu (.inl rfl) (fun b q hb z => (hs.2 b hb).trans z) he new
theorem dk_new {P : Program} {w : World} {H' : Hp} {h' : Heap} {kvs : List (Key × V)} {vs : List (Key × Value)} (z : kvs.length ≤ sizeLine) (hd : (a == sysModules) = false) (rel : KV kvs vs) (dd : h'.DictOf (mixKind P w) a vs) :
    ObjOk P w H' h' a (.dK kvs) := ⟨z, hd, vs, rel, dd⟩
theorem d_setItem {H' : Hp} {Q : Unit → Shared → Prop} (hu : A.units + 1 < cLine) (I : Inv X pins σ H s) (g : DPut H a y v H') (ry : RelV y u) (rv : RelV v r) (h : ∀ s', Inv X pins σ H' s' → Q () s') :
    wpAny (model X.prog X.w) A (setItem (.ref a) u r) Q E s := by
  rcases g with ⟨kvs, k, e, ey, l, eH⟩ | ⟨kvs, k, b, e, ey, eb, l, eH⟩
  · subst ey eH
    obtain ⟨z, hd, vs, rel, dd⟩ := dk_of I.hok e
    have hz : vs.length ≤ sizeLine := by rw [← rel.length]; exact z
    have hl : (putK kvs k v).length ≤ sizeLine := by have := length_putK kvs k v; omega
    refine wpAny_setItem_pairs (hsz := hz) (kV_is ry) dd fun h' dd' hs => h _ ?_
    have he : ∃ q, h'.get? a = some q := let ⟨q, _, _, hq, _⟩ := dd'; ⟨q, hq⟩
    exact d_write I (by rw [e]; exact True.intro) hs he (dk_new hl hd (rel.put k rv) dd')
  · subst ey eH
    cases (show u = Value.ref b from ry)
    obtain ⟨z, hd, xs, rel, dd⟩ := dt_of I.hok e
    have hz : xs.length ≤ sizeLine := by rw [← Paired.length rel]; exact z
    have hl : (putK kvs k v).length ≤ sizeLine := by have := length_putK kvs k v; omega
    refine wpAny_setItem_heap (hsz := hz) (tupleKind_room_in1 hu) (key_of I.hok eb) dd fun h' dd' hs => h _ ?_
    obtain ⟨q, es, ep, hq, h2, h3, h4, _, h5⟩ := dd'
    refine d_write I (by rw [e]; exact True.intro) hs ⟨q, hq⟩ ⟨hl, hd, _, (rel.put k eb rv).keeps fun c ys ec => ?_, q, es, ep, hq, h2, h3, h4, h5⟩
    rw [upd_ne (ne_of ec e (fun z => nomatch z))]
    exact ec
end
section
variable {X : Cx} {pins : List (Addr × Obj)} {σ : St} {H : Hp} {s : Shared} {a : Addr} {kvs : List (Key × V)} {k : Key} {u : Value} {A : Around} {E : Value → Shared → Prop}
end
def NoSl (i : Expr) : Prop := ∀ ov iv, subscripted i false ov iv = operate [ov, iv] (getItem ov iv)
theorem subD_of {prog : Program} {w : World} {A : Around} {E : Value → Shared → Prop} {s : Shared} {env : Env} {value slice : Expr} {pos : Pos} {T id : String} {Q : Value → Shared → Prop}
    (hl : typeLookup (.type T) "__getitem__" = pure (some (.builtin id))) (hs : NoSl slice)
    (h : wpAny (model prog w) A (eval value env) (fun o s₁ => wpAny (model prog w) A (eval slice env) (fun i s₂ => s₂.TypeIs o T ∧ wpAny (model prog w) A (getItem o i) Q E s₂) E s₁) E s) :
    wpAny (model prog w) A (eval (.Subscript value slice pos) env) Q E s := by
  refine Subscript_ (wpAny_mono h (fun o s₁ h₁ => wpAny_mono h₁ (fun i s₂ h₂ => ?_) fun _ _ x => x) fun _ _ x => x)
  obtain ⟨hT, h₂⟩ := h₂
  unfold subscriptTail
  refine wpAny_bind ?_
  rw [getitemInPython_of_ne hT.not_modules]
  refine wpAny_bind (wpAny_specialOf hT hl ?_)
  have fin : wpAny (model prog w) A (subscripted slice false o i) (fun r s₃ => wpAny (model prog w) A (letTemporaryGo value o r >>= fun _ => pure r) Q E s₃) E s₂ := by
    rw [hs o i]
    exact wpAny_operating (wpAny_mono h₂ (fun r s₃ h₃ => wpAny_bind (wpAny_letTemporaryGo (wpAny_pure h₃))) fun _ _ x => x)
  first
    | exact wpAny_pure (wpAny_bind fin)
    | exact wpAny_bind (wpAny_pure (wpAny_bind fin))
    | exact wpAny_bind fin
theorem dict_typeIs {X : Cx} {pins : List (Addr × Obj)} {σ : St} {H : Hp} {s : Shared} {a : Addr} {y : V} {o : Option V} (I : Inv X pins σ H s) (g : DGet H a y o) : s.TypeIs (.ref a) "dict" := by
  rcases g with ⟨kvs, k, e, _, _⟩ | ⟨kvs, k, b, e, _, _, _⟩
  · obtain ⟨_, _, vs, _, dd⟩ := dk_rd I.hok e
    exact dd.typeIs
  · obtain ⟨_, _, xs, _, dd⟩ := dt_rd I.hok e
    exact dd.typeIs
def tDGet (td ty : TE) : TE := fun σ H Q => td σ H fun x H1 => ty σ H1 fun y H2 => ∃ a v, x = .ref a ∧ DGet H2 a y (some v) ∧ Q v H2
def tDIn (ty td : TE) : TE := fun σ H Q => ty σ H fun y H1 => td σ H1 fun x H2 => ∃ a o, x = .ref a ∧ DGet H2 a y o ∧ Q (.bl o.isSome) H2
def sDPut (td ty tv : TE) : TS := fun D σ H => tv σ H fun v H1 => td σ H1 fun x H2 => ty σ H2 fun y H3 => ∃ a H4, x = .ref a ∧ DPut H3 a y v H4 ∧ D.nx σ H4
section
variable {X : Cx} {o i e value : Expr} {pos pos' tpos : Pos} {td ty tv : TE}
theorem pe_dget (hu : X.A.units + 1 < cLine) (ho : PE X o td) (hi : PE X i ty) (hs : NoSl i) : PE X (.Subscript o i pos) (tDGet td ty) := by
  intro pins s σ H Q I h
  refine subD_of PySem.F.slot_dict_getitem.lookup hs (thn (ho pins s σ H _ I h) fun u s1 ⟨x, H1, I1, rx, q1⟩ => thn (hi pins s1 σ H1 _ I1 q1) fun iv s2 ⟨y, H2, I2, ry, a, v, ex, g, q2⟩ => ?_)
  subst ex
  obtain rfl : u = Value.ref a := rx
  exact ⟨dict_typeIs I2 g, d_getItem hu I2 g ry fun w' s3 I3 rw' => ⟨v, H2, I3, rw', q2⟩⟩
theorem pc_din (hu : X.A.units + 1 < cLine) (hi : PE X i ty) (ho : PE X o td) : PC X .In i o (tDIn ty td) := by
  intro pins s σ H Q I h
  refine thn (hi pins s σ H _ I h) fun iv s1 ⟨y, H1, I1, ry, q1⟩ => thn (ho pins s1 σ H1 _ I1 q1) fun u s2 ⟨x, H2, I2, rx, a, ov, ex, g, q2⟩ => ?_
  subst ex
  obtain rfl : u = Value.ref a := rx
  exact d_in hu I2 g ry fun s3 I3 => ⟨.bl ov.isSome, H2, I3, rfl, q2⟩
theorem ps_dput (hu : X.A.units + 1 < cLine) (ho : PE X o td) (hi : PE X i ty) (hv : PE X value tv) (hs : swapsWith value (some (.Subscript o i pos')) pos.line X.env = pure false) :
    PS X (.Assign [.Subscript o i pos'] value pos) (sDPut td ty tv) := by
  intro pins s σ H D I h
  refine wpAny_Assign_Subscript (thn (hv pins s σ H _ I h) fun r s1 ⟨v, H1, I1, rv, q1⟩ => thn (ho pins s1 σ H1 _ I1 q1) fun u s2 ⟨x, H2, I2, rx, q2⟩ => thn (hi pins s2 σ H2 _ I2 q2) fun iv s3 ⟨y, H3, I3, ry, a, H4, ex, g, q3⟩ => ?_) hs
  subst ex
  obtain rfl : u = Value.ref a := rx
  exact d_setItem hu I3 g ry rv fun s4 I4 => ⟨σ, H4, I4, q3⟩
end
theorem dk_empty {P : Program} {w : World} {H : Hp} (h : Heap) (hb : sysModules < h.objs.size) : ObjOk P w H (h.push { cls := .type "dict", data := .dict #[] }) h.objs.size (.dK []) :=
  ⟨Nat.zero_le _, beq_eq_false_iff_ne.mpr (Ne.symm (Nat.ne_of_lt hb)), [], .nil, Heap.DictOf.new h⟩
section
variable {X : Cx} {pos : Pos}
end
def tPairs : List (TE × TE) → St → Hp → (List (V × V) → Hp → Prop) → Prop
  | [], _, H, Q => Q [] H
  | (tk, tv) :: r, σ, H, Q => tk σ H fun x H1 => tv σ H1 fun y H2 => tPairs r σ H2 fun ps H3 => Q ((x, y) :: ps) H3
abbrev VV : List (V × V) → List (Value × Value) → Prop := Paired fun p q => RelV p.1 q.1 ∧ RelV p.2 q.2
def PPs (X : Cx) (pos : Pos) (keys : List (Option Expr)) (values : List Expr) (trs : List (TE × TE)) : Prop :=
  ∀ (pins : List (Addr × Obj)) (s : Shared) (σ : St) (H : Hp) (Q : List (V × V) → Hp → Prop), Inv X pins σ H s → tPairs trs σ H Q →
    wpAny (model X.prog X.w) X.A (evalPairs (pairTrees keys values X.env pos)) (fun vs s' => ∃ ps H', Inv X pins σ H' s' ∧ VV ps vs ∧ Q ps H') X.xe s
theorem pps_nil {X : Cx} {pos : Pos} : PPs X pos [] [] [] := fun pins s σ H Q I h => pairTrees_nil_walk ⟨[], H, I, .nil, h⟩
theorem pps_cons {X : Cx} {pos : Pos} {k v : Expr} {ks : List (Option Expr)} {vs : List Expr} {tk tv : TE} {trs : List (TE × TE)} (hk : PE X k tk) (hv : PE X v tv) (hr : PPs X pos ks vs trs) :
    PPs X pos (some k :: ks) (v :: vs) ((tk, tv) :: trs) := fun pins s σ H Q I h =>
  pairTrees_cons_walk (thn (hk pins s σ H _ I h) fun u s1 ⟨x, H1, I1, rx, q1⟩ => thn (hv pins s1 σ H1 _ I1 q1) fun w2 s2 ⟨y, H2, I2, ry, q2⟩ =>
    thn (hr pins s2 σ H2 _ I2 q2) fun ws s3 ⟨ps, H3, I3, rel, q3⟩ => ⟨(x, y) :: ps, H3, I3, .cons ⟨rx, ry⟩ rel, q3⟩)
def mergeK (kvs more : List (Key × V)) : List (Key × V) := more.foldl (fun acc kv => putK acc kv.1 kv.2) kvs
theorem KV.merge : ∀ {more : List (Key × V)} {rs : List (Key × Value)} {kvs : List (Key × V)} {vs : List (Key × Value)}, KV more rs → KV kvs vs → KV (mergeK kvs more) (merged vs rs) := by
  intro more rs kvs vs r
  unfold KV at r
  induction r generalizing kvs vs with
  | nil => intro q; exact q
  | @cons p q ps qs h t ih =>
    intro r0
    have e : KV (putK kvs p.1 p.2) (stored vs q.1 q.2) := by
      have := r0.put p.1 h.2
      rw [← h.1]; exact this
    exact ih e
theorem length_mergeK : ∀ (more kvs : List (Key × V)), (mergeK kvs more).length ≤ kvs.length + more.length
  | [], kvs => by show kvs.length ≤ kvs.length + 0; omega
  | p :: r, kvs => by
    have h1 := length_mergeK r (putK kvs p.1 p.2)
    have h2 := length_putK kvs p.1 p.2
    show (mergeK (putK kvs p.1 p.2) r).length ≤ _
    rw [List.length_cons]; omega
theorem carries_of {P : Program} {w : World} : ∀ {kvs : List (Key × V)} {ws : List (Value × Value)}, VV (kvs.map fun kv => (kV kv.1, kv.2)) ws → ∃ rs, Carries (mixKind P w) ws rs ∧ KV kvs rs
  | [], _, r => by rw [List.map_nil] at r; cases r; exact ⟨[], True.intro, .nil⟩
  | p :: kvs, _, r => by
    rw [List.map_cons] at r
    cases r with
    | @cons a b as bs h t =>
      obtain ⟨rs, c, q⟩ := carries_of (P := P) (w := w) t
      obtain ⟨b1, b2⟩ := b
      exact ⟨(p.1, b2) :: rs, ⟨kV_is h.1, rfl, c⟩, .cons ⟨rfl, h.2⟩ q⟩
def tDisp (trs : List (TE × TE)) : TE := fun σ H Q => ∀ p, H p = none → tPairs trs σ (upd H p (.dK [])) fun ps H2 => H2 p = some (.dK []) ∧ ∃ kvs : List (Key × V), ps = kvs.map (fun kv => (kV kv.1, kv.2)) ∧ kvs.length ≤ 15 ∧ Q (.ref p) (upd H2 p (.dK (mergeK [] kvs)))
theorem pe_disp {X : Cx} {pos : Pos} {keys : List (Option Expr)} {values : List Expr} {trs : List (TE × TE)} (h : PPs X pos keys values trs) (hall : keys.all (·.isSome) = true) (hl : keys.length = values.length) (h0 : keys ≠ [])
    (h15 : keys.length ≤ 15) : PE X (.Dict keys values pos) (tDisp trs) := by
  intro pins s σ H Q I q
  have hn := I.hok.fresh (Nat.le_refl s.heap.objs.size)
  have I1 := I.laid (a := s.heap.objs.size) (o := .dK []) (h' := s.heap.push { cls := .type "dict", data := .dict #[] }) (t' := s.toks) (fun _ _ q => Heap.get?_push_of_some _ q) (Nat.le_refl _) (dk_empty s.heap I.big)
  refine wpAny_Dict_walk (knd := mixKind X.prog X.w) hall hl h0 h15 (thn (h pins _ σ _ _ I1 (q _ hn)) fun ws s2 ⟨ps, H2, I2, rel, e, kvs, ep, lk, q2⟩ => ?_)
  subst ep
  obtain ⟨rs, c, rk⟩ := carries_of (P := X.prog) (w := X.w) rel
  obtain ⟨z, hd, vs0, r0, dd⟩ := dk_of I2.hok e
  cases r0
  refine ⟨rs, c, dd, fun h' dd' hs => ⟨.ref s.heap.objs.size, _, ?_, rfl, q2⟩⟩
  have hz : (mergeK [] kvs).length ≤ sizeLine := by
    have h1 := length_mergeK kvs []
    rw [List.length_nil] at h1
    rw [sizeLine_eq]; omega
  have he : ∃ q, h'.get? s.heap.objs.size = some q := let ⟨q, _, _, hq, _⟩ := dd'; ⟨q, hq⟩
  exact d_write I2 (by rw [e]; exact True.intro) hs he (dk_new hz hd (rk.merge .nil) dd')
section
variable {X : Cx} {pins : List (Addr × Obj)} {σ : St} {H : Hp} {s : Shared} {a : Addr} {y d : V} {u r : Value} {o : Option V} {A : Around} {E : Value → Shared → Prop}
end
section
variable {X : Cx} {o e f : Expr} {apos cpos : Pos} {td ty tx : TE}
end
section
variable {X : Cx} {pins : List (Addr × Obj)} {σ : St} {H : Hp} {s : Shared} {a : Addr} {kvs : List (Key × V)} {A : Around} {E : Value → Shared → Prop}
end
section
variable {X : Cx} {pins : List (Addr × Obj)} {σ : St} {H : Hp} {s : Shared} {a : Addr} {y : V} {u : Value} {A : Around} {E : Value → Shared → Prop}
end
end L2
namespace Att
open PySem PySem.W PySem.Calls PyProof.Rows
theorem ints_of_wellAll {P : Params} {h : Heap} : ∀ (ns : List Int) (vs : List Value), WellAll P h vs (ns.map WData.int) → IntsAre vs ns := by
  intro ns
  induction ns with
  | nil =>
    intro vs w
    rw [List.map_nil] at w
    cases w
    exact .nil
  | cons n ns ih =>
    intro vs w
    rw [List.map_cons] at w
    cases w with
    | cons a b =>
      cases a
      exact .cons _ _ (ih _ b)
theorem script_of {l : OpenLaw} {n : Nat} (hn : l.most = some n) {P : Params} {h : Heap} {args : List WData} {vals : List Value}
    (hpre : l.row.toRowW.claim.pre args = true) (hwl : WellAll P h vals args) :
    ∃ a vs ns, vals = [Value.ref a] ∧ args = [WData.list (ns.map WData.int)] ∧ h.get? a = some { cls := .type "list", data := .seq vs.toArray } ∧ IntsAre vs ns ∧ ns.length ≤ n := by
  have hsh : WShape.hasAll [] args [.list .int] = true := (pre_splitW hpre).1
  have hc : l.pre.holds [] { args := args } = true := (pre_splitW hpre).2
  obtain ⟨d, r, rfl, h1, h2⟩ := hasAllW_cons hsh
  obtain rfl := hasAllW_nil h2
  obtain ⟨xs, rfl, h3⟩ := hasW_list h1
  obtain ⟨ns, rfl⟩ := items_int h3
  have hlen : ns.length ≤ n := by
    unfold OpenLaw.pre at hc
    have h4 : (WTm.not (.lt (.lit (.int (n : Int))) (.len (.arg 0)))).holds [] { args := [.list (ns.map .int)] } = true := by
      have h4 := (holds_andW hc).1
      rw [hn] at h4
      exact h4
    have h5 := condW_of h4 (w_not (w_lt w_lit (w_len_list (w_arg rfl))))
    rw [List.length_map] at h5
    refine Nat.le_of_not_lt fun q => ?_
    have q' : (n : Int) < ((ns.length : Nat) : Int) := by omega
    first
      | (rw [decide_eq_true q'] at h5; exact absurd h5 (by decide))
      | (simp at h5; omega)
  cases hwl with
  | cons w1 w2 =>
    cases w2
    cases w1 with
    | list ho hall => exact ⟨_, _, ns, rfl, rfl, ho, ints_of_wellAll ns _ hall, hlen⟩
theorem post_true (l : OpenLaw) (args : List WData) : l.row.toRowW.claim.post args (.bool true) args = true :=
  postW_of (r := l.row.toRowW) (X := (true == true))
    (show WShape.has [] (.bool true) .bool = true by first | rfl | decide | simp [WShape.has, WShape.arms, WShape.armsAll])
    (show (WTm.eq .res (.lit (.bool true))).value [] { args := args, res := some (.bool true), after := args } = some (.bool (true == true)) from w_eq_bool (w_res rfl) w_lit) rfl
theorem attach_call {l : OpenLaw} {n : Nat} {q : Program} {loose : List Str} {XP : (Str → Option Value) → Heap → Prop} {YP : World → Heap → Prop} {d : DefRec}
    (hn : l.most = some n) (hdf : d.params.defaults = [])
    (call : ∀ (w : World) (s₀ s₁ : Shared) (mg mb : Str → Option Value) (fa : Addr) (o : Obj) (pm cd doc : Value) (a : Addr) (vs : List Value) (ns : List Int),
      Ground q loose [] XP w s₀ mg mb s₁.heap → YP w s₁.heap →
      s₁.heap.get? fa = some o → o.data = .func (docDef d.name d.params d.body d.scope pm cd doc) → s₁.heap.CodeRec cd d.name → mg d.name = some (.ref fa) →
      s₁.heap.get? a = some { cls := .type "list", data := .seq vs.toArray } → IntsAre vs ns → ns.length ≤ n → s₁.gens = #[] →
      codeAny (model l.prog w) callerA (.call (.ref fa) ⟨[.ref a], []⟩) (fun r s' => r = .ok (.ret (.bool true)) ∧ OldK s₁.heap s'.heap ∧ s'.os = s₁.os ∧ AllBare s'.gens) s₁) :
    WalkO q loose XP YP l.row.toRowW d [] (fun f vs => PySem.call f vs) := by
  intro w s₀ s₁ mg mb G Y fa o pm cd doc dV kV ho hd hcd hD hmg hg args vals as hpre hlay hrd hwl hlo
  obtain rfl : dV = .none := Dflts.none hD hdf
  obtain rfl : kV = .none := Dflts.noKw hD
  obtain ⟨a, vs, ns, rfl, rfl, hobj, hints, hlen⟩ := script_of hn hpre hwl
  refine enter_call (codeAny_mono (call w s₀ s₁ mg mb fa o pm cd doc a vs ns G Y ho (fd_plain hd) hcd hmg hobj hints hlen hg) fun r s' hq => ?_)
  obtain ⟨rfl, h2, h3, h4⟩ := hq
  exact ⟨.inl ⟨.bool true, .bool true, [], rfl, fun _ => rfl, .bool true, post_true l _, fun _ => ⟨List.Pairwise.nil, fun _ hm => (nomatch hm)⟩⟩, h2, h3, h4⟩
section
variable {prog : Program} {w : World} {A : Around} {E : Value → Shared → Prop} {s : Shared} {K : Frag}
end
end Att
namespace L2
open PySem PySem.Spec PyProof.Rows
theorem vals_ints : ∀ {vs : List Value} {ns : List Int}, IntsAre vs ns → Vals (ns.map V.int) vs
  | _, _, .nil => .nil
  | _, _, .cons n t h => .cons ⟨t, rfl⟩ (vals_ints h)
def Only (H : Hp) : Prop := ∀ b, H b = none ∨ ∃ o xs, H b = some (.frz o (.lst xs))
theorem law_call {P : Program} {w : World} {K : PySem.W.Frag} {mg mb : Str → Option Value} {CX : CXT} {k : Nat} {fa a : Addr} {fd : FuncData} {x : Str} {sp : Sp} {s₁ : Shared} {vs : List Value} {ns : List Int}
    (KX : K.In s₁.heap) (hns : s₁.heap.Ns mainGlobals mg) (hb : s₁.heap.Ns builtinsNs mb) (hbb : ∀ x : Str, x ≠ "__name__" → mb x = bootBuiltins x) (hlim : s₁.heap.NoLimit) (hg : s₁.gens = #[])
    (ha : s₁.heap.get? a = some { cls := .type "list", data := .seq vs.toArray }) (hi : IntsAre vs ns) (hl : ns.length ≤ sizeLine) (hr : Room k callerA)
    (F : ∀ base : Heap, K.In base → base.Ns mainGlobals mg → FnOk P w K mg base CX k fa fd [x] sp) (hbind : ∀ (s : Shared) (u : Value), BindsTo s fd ⟨[u], []⟩ [(x, u)])
    (hsp : ∀ H : Hp, Only H → SqL K H a (ns.map V.int) → sp [.ref a] H (fun v _ => v = .bl true) fun _ _ _ => False)
    (hCX : ∀ H e s', CX [] H s₁ (fun _ _ _ => False) e s' → False) :
    codeAny (model P w) callerA (.call (.ref fa) ⟨[.ref a], []⟩) (fun r s' => r = .ok (.ret (.bool true)) ∧ OldK s₁.heap s'.heap ∧ s'.os = s₁.os ∧ AllBare s'.gens) s₁ := by
  have rv := vals_ints hi
  have lenV := hi.length
  have core : ∀ H : Hp, Only H → SqL K H a (ns.map V.int) → HOk P w H s₁.heap → (∀ b, H b ≠ none → b = a) → (H a ≠ none → K.lookup a = none) →
      codeAny (model P w) callerA (.call (.ref fa) ⟨[.ref a], []⟩) (fun r s' => r = .ok (.ret (.bool true)) ∧ OldK s₁.heap s'.heap ∧ s'.os = s₁.os ∧ AllBare s'.gens) s₁ := by
    intro H hO hS hok hA hK
    have base_of : ∀ {b : Addr} {o : Obj}, s₁.heap.get? b = some o → H b = none → (hidT s₁.heap H).get? b = some o := fun e n => hidT_get e n
    have noA : ∀ {b : Addr} {o : Obj} {es : Array DictEntry} {ep : Nat}, s₁.heap.get? b = some o → o.data = .dict es ep → H b = none := fun {b o es ep} e d => by
      cases q : H b with
      | none => rfl
      | some u =>
        have e' : b = a := hA b (by rw [q]; simp)
        subst e'
        rw [ha] at e; cases e
        have d' : Data.seq vs.toArray _ = Data.dict es ep := d
        cases d'
    have nsK : ∀ {b : Addr} {m : Str → Option Value}, s₁.heap.Ns b m → (hidT s₁.heap H).Ns b m := fun {b m} ⟨o, es, ep, e, d, r⟩ => ⟨o, es, ep, base_of e (noA e d), d, r⟩
    have hKb : K.In (hidT s₁.heap H) := fun b o e => base_of (KX b o e) (by
      cases q : H b with
      | none => rfl
      | some u =>
        have e' : b = a := hA b (by rw [q]; simp)
        subst e'
        rw [hK (by rw [q]; simp)] at e; cases e)
    have hM : Mod K mg (hidT s₁.heap H) := ⟨hKb, nsK hns, ⟨mb, nsK hb, hbb⟩, let ⟨mc, h1, h2⟩ := hlim; ⟨mc, nsK h1, h2⟩⟩
    have e0 : Env0 P w K mg (hidT s₁.heap H) callerA [] s₁ H := ⟨rfl, hM, fun b o e => of_hidT e, Nat.le_of_eq (hidT_size _ _), trivial, fun b hb => absurd (show b ∈ ([] : List Addr) from hb) (by simp), hok, .of_eq hg⟩
    refine codeAny_mono ((F _ hKb (nsK hns)).run callerA [] s₁ H ⟨[.ref a], []⟩ [.ref a] [.ref a] _ _ hr e0 (hbind s₁ (.ref a)) (.cons rfl .nil) (hsp H hO hS)) fun r s' h => ?_
    cases r with
    | error e => exact (hCX H e s' h).elim
    | ok fl =>
      cases fl with
      | next => exact False.elim h
      | brk => exact False.elim h
      | cont => exact False.elim h
      | ret u =>
        obtain ⟨v, H', os, bare, un, hok', r', q⟩ := h
        have q' : v = .bl true := q
        subst q'
        obtain rfl : u = Value.bool true := r'
        refine ⟨rfl, OldK.of_keep fun b o e => ?_, os, bare⟩
        cases q : H b with
        | none => exact un.keep b o e q (by intro z; exact absurd (show b ∈ ([] : List Addr) from z) (by simp)) (by simp)
        | some u =>
          rcases hO b with z | ⟨ob, xs, z⟩
          · rw [q] at z; cases z
          · have z2 := un.frzs b ob _ z
            obtain ⟨e1, _⟩ := hok b _ z
            obtain ⟨e2, _⟩ := hok' b _ z2
            rw [e] at e1; cases e1
            exact e2
  cases hk : K.lookup a with
  | some o =>
    have e := KX a o hk
    rw [ha] at e
    cases e
    refine core (fun _ => none) (fun _ => .inl rfl) (.inr ⟨_, vs.toArray, _, hk, rfl, rfl, rfl, by rw [List.size_toArray, lenV]; exact hl, by simpa using rv⟩) (fun b u z => by have z' : (none : Option HO) = some u := z; cases z') (fun b z => absurd rfl z) fun z => absurd rfl z
  | none =>
    refine core (fun b => if b = a then some (.frz { cls := .type "list", data := .seq vs.toArray } (.lst (ns.map V.int))) else none) (fun b => ?_) (.inl (.inr ⟨{ cls := .type "list", data := .seq vs.toArray }, if_pos rfl⟩)) (fun b u z => ?_) (fun b z => ?_) fun _ => hk
    · by_cases hb : b = a
      · exact .inr ⟨_, _, if_pos hb⟩
      · exact .inl (if_neg hb)
    · by_cases hb : b = a
      · have z' := (if_pos hb).symm.trans z
        cases z'
        subst hb
        exact ⟨ha, by rw [List.length_map]; exact hl, vs, _, rv, ha⟩
      · have z' := (if_neg hb).symm.trans z
        cases z'
    · by_cases hb : b = a
      · exact hb
      · exact absurd (if_neg hb) z
end L2
namespace L2
open PySem PySem.Spec PyProof.Rows
theorem walk_of {l : PySem.W.OpenLaw} {n k : Nat} {q : Program} {loose : List Str} {XP : (Str → Option Value) → Heap → Prop} {YP : World → Heap → Prop} {d : DefRec} {K : Params → PySem.W.Frag} {CX : World → CXT} {sp : World → Sp} {x : Str}
    (hn : l.most = some n) (hn2 : n ≤ sizeLine) (hdf : d.params.defaults = []) (hr : Room k callerA)
    (hY : ∀ (w : World) (h : Heap), YP w h → (K w.params).In h)
    (F : ∀ (w : World) (mg : Str → Option Value) (fa : Addr) (h : Heap), (K w.params).In h → h.Ns mainGlobals mg → mg d.name = some (.ref fa) →
      ∃ fd : FuncData, (∀ (s : Shared) (u : Value), BindsTo s fd ⟨[u], []⟩ [(x, u)]) ∧
        ∀ base : Heap, (K w.params).In base → base.Ns mainGlobals mg → FnOk l.prog w (K w.params) mg base (CX w) k fa fd [x] (sp w))
    (hsp : ∀ (w : World) (H : Hp) (a : Addr) (ns : List Int), ns.length ≤ n → Only H → SqL (K w.params) H a (ns.map V.int) → sp w [.ref a] H (fun v _ => v = .bl true) fun _ _ _ => False)
    (hCX : ∀ (w : World) (H : Hp) (s : Shared) (e : Value) (s' : Shared), CX w [] H s (fun _ _ _ => False) e s' → False) :
    PySem.W.WalkO q loose XP YP l.row.toRowW d [] (fun f vs => PySem.call f vs) := by
  refine Att.attach_call hn hdf fun w s₀ s₁ mg mb fa o pm cd doc a vs ns G Y ho hd hcd hmg hobj hints hlen hg => ?_
  have KX := hY w _ Y
  obtain ⟨fd, hb, hF⟩ := F w mg fa _ KX G.T.g hmg
  exact law_call KX G.T.g G.T.b G.T.builtins G.T.nolimit hg hobj hints (Nat.le_trans hlen hn2) hr hF hb (fun H hO hS => hsp w H a ns hlen hO hS) fun H e s' => hCX w H s₁ e s'
end L2
namespace L2
open PySem PySem.Spec PyProof.Rows
def defArgs (s : Stmt) : Arguments := match s with
  | .FunctionDef _ a _ _ _ _ _ _ _ _ => a
  | _ => { posonlyargs := [], args := [], vararg := none, kwonlyargs := [], kw_defaults := [], kwarg := none, defaults := [] }
def defBody (s : Stmt) : List Stmt := match s with
  | .FunctionDef _ _ b _ _ _ _ _ _ _ => b
  | _ => []
def defScope (s : Stmt) : Scope := match s with
  | .FunctionDef _ _ _ _ _ _ sc _ _ _ => sc
  | _ => { kind := .function, names := [], isGenerator := false, isCoroutine := false }
abbrev CX0 : CXT := fun _ _ _ _ _ _ => False
abbrev E0 : XK := fun _ _ _ => False
structure Fun (K : PySem.W.Frag) (x qual : Str) (st : Stmt) (f : Addr) (fd : FuncData) : Prop where
  ex : ∃ (oc : Value) (od : Option Addr) (kV doc pm : Value) (an : Option Addr) (cdv ct : Value) (osl : Array (Option Value)),
    fd = PySem.W.fnOf x qual (defArgs st) (defBody st) (defScope st) .none kV doc pm an cdv ct ∧ K.lookup f = some ⟨oc, od, .func fd, osl⟩ ∧ PySem.W.codeIn K cdv qual = true
  kp : PySem.W.keepIn K (.ref f) = true
section
variable {P : Program} {w : World} {K : PySem.W.Frag} {mg : Str → Option Value} {base : Heap}
theorem Fun.ok {x qual : Str} {st : Stmt} {f : Addr} {fd : FuncData} {N ps : List Str} {k : Nat} {sp : Sp} (F : Fun K x qual st f fd) (S : FnScope N ps (defScope st)) (len : ∀ vs H Q E, sp vs H Q E → vs.length = ps.length)
    (hbody : ∀ (cdv : Value) (A : Around) (outer : List Env) (s : Shared) (H : Hp) (vs : List V) (Q : VK) (E : XK), Room k (A.deeper (envOfC qual (defScope st) s.heap.objs.size f cdv)) → sp vs H Q E →
      ∃ t, PSs (cxOf CX0 P w K mg base N qual (defScope st) f cdv A outer s H E).nox (defBody st) t ∧ t { nx := fun _ H' => Q .non H', rt := Q } (start N vs) H) : FnOk P w K mg base CX0 (k + 1) f fd ps sp := by
  obtain ⟨oc, od, kV, doc, pm, an, cdv, ct, osl, rfl, lk, hcd⟩ := F.ex
  refine fn_of lk hcd S len fun A outer s H vs Q E hr hsp => ?_
  obtain ⟨t, h, q⟩ := hbody cdv A outer s H vs Q E hr hsp
  exact ⟨t, h.nox, q⟩
theorem Fun.binds {x qual : Str} {st : Stmt} {f : Addr} {fd : FuncData} {ps : List Str} (F : Fun K x qual st f fd)
    (h : ∀ (kV doc pm : Value) (an : Option Addr) (cdv ct : Value) (us : List Value), us.length = ps.length → bindArgs (PySem.W.fnOf x qual (defArgs st) (defBody st) (defScope st) .none kV doc pm an cdv ct) ⟨us, []⟩ = pure (ps.zip us)) : Binds K fd ps [] := by
  obtain ⟨oc, od, kV, doc, pm, an, cdv, ct, osl, rfl, lk, hcd⟩ := F.ex
  exact .all (h kV doc pm an cdv ct)
theorem fun_mk {x qual : Str} {st : Stmt} {f : Addr} {oc : Value} {od an : Option Addr} {osl : Array (Option Value)} {kV doc pm cdv ct : Value} (l : K.lookup f = some ⟨oc, od, .func (PySem.W.fnOf x qual (defArgs st) (defBody st) (defScope st) .none kV doc pm an cdv ct), osl⟩)
    (c : PySem.W.codeIn K cdv qual = true) (k : PySem.W.keepIn K (.ref f) = true) : Fun K x qual st f (PySem.W.fnOf x qual (defArgs st) (defBody st) (defScope st) .none kV doc pm an cdv ct) := ⟨⟨oc, od, kV, doc, pm, an, cdv, ct, osl, rfl, l, c⟩, k⟩
end
theorem hu_of {A : Around} {k : Nat} (hr : Room k A) : A.units + 1 < cLine := Nat.lt_of_le_of_lt (Nat.add_le_add_left (by decide : 1 ≤ 64) _) hr.units
theorem small1000 {n : Nat} (h : n ≤ 1000) : n < sizeLine := Nat.lt_of_le_of_lt h (by decide)
section
variable {X : Cx}
theorem pv (i : Nat) {x : Str} {pos : Pos} (hN : X.N[i]? = some x := by rfl) (hv : Vis X.env.scope x := by first | exact Or.inl rfl | exact Or.inr (Or.inl rfl) | exact Or.inr (Or.inr rfl)) (hd : (x == ("__debug__" : Str)) = false := by decide)
    (hcd : (x == ("__classdict__" : Str)) = false := by decide) : PE X (.Name x pos) (tVar i) := pe_var hN hv hd hcd
end
theorem iteF {A B : Prop} (h : B) : if false = true then A else B := by
  rw [if_neg Bool.false_ne_true]
  exact h
theorem iteT {A B : Prop} (h : A) : if true = true then A else B := by
  rw [if_pos rfl]
  exact h
theorem ite2 {c A B : Prop} [Decidable c] (h1 : c → A) (h2 : ¬ c → B) : if c then A else B := by
  by_cases h : c
  · rw [if_pos h]
    exact h1 h
  · rw [if_neg h]
    exact h2 h
def Same (H H' : Hp) : Prop := ∀ b o, H b = some o → H' b = some o
theorem Same.refl (H : Hp) : Same H H := fun _ _ h => h
theorem Same.trans {H H1 H2 : Hp} (a : Same H H1) (b : Same H1 H2) : Same H H2 := fun c o h => b c o (a c o h)
theorem Same.free {H H' : Hp} (e : Same H H') {l : Addr} (h : H' l = Option.none) : H l = Option.none := by
  cases q : H l with
  | none => rfl
  | some o =>
    rw [e l o q] at h
    cases h
theorem Same.seq {K : PySem.W.Frag} {H H' : Hp} {a : Addr} {xs : List V} (e : Same H H') (h : SqL K H a xs) : SqL K H' a xs := by
  rcases h with (h | ⟨o, h⟩) | h
  · exact .inl (.inl (e _ _ h))
  · exact .inl (.inr ⟨o, e _ _ h⟩)
  · exact .inr h
end L2
namespace L2
open PySem PySem.Spec PyProof.Rows
section
variable {X : Cx}
end
section
variable {κ : Type} [DecidableEq κ]
theorem nd_snoc : ∀ {l : List κ} {k : κ}, l.Nodup → ¬ k ∈ l → (l ++ [k]).Nodup
  | [], k, _, _ => by simp
  | a :: r, k, h, hk => by
    obtain ⟨h1, h2⟩ := List.nodup_cons.mp h
    show (a :: (r ++ [k])).Nodup
    refine List.nodup_cons.mpr ⟨fun m => ?_, nd_snoc h2 fun m => hk (List.mem_cons.mpr (Or.inr m))⟩
    rcases List.mem_append.mp m with q | q
    · exact h1 q
    · exact hk (List.mem_cons.mpr (Or.inl (List.mem_singleton.mp q).symm))
end
end L2
set_option maxHeartbeats 4000000
namespace L2
open PySem PySem.Spec PyProof.Rows
section
variable {X : Cx}
def CDivW (_ j : Int) : Prop := 0 < j ∧ j.natAbs.log2 < 9000
theorem op_fdivW : OpR X (binaryOp .FloorDiv) (rI CDivW fun i j => .int (i / j)) := opI fun i j _ _ _ _ _ hc q => by
  have h1 : (0 : Int) < j := hc.1
  exact floordiv_int (by omega) (by rw [Int.fdiv_eq_ediv_of_nonneg i (by omega)]; exact q) (.inl (PyProof.noPylong_of_log2 hc.2))
theorem cdivW_lit {i j : Int} (h : (decide (0 < j) && decide (j.natAbs.log2 < 9000)) = true) : CDivW i j := by
  obtain ⟨a, b⟩ := Bool.and_eq_true_iff.mp h
  exact ⟨of_decide_eq_true a, of_decide_eq_true b⟩
theorem cdivW_of {i j : Int} {n : Nat} (h0 : 0 < j) (h : j < 2 ^ n) (hn : n ≤ 9000) : CDivW i j := by
  refine ⟨h0, ?_⟩
  have e : (j.natAbs : Int) = j := by omega
  have h2 : j.natAbs < 2 ^ n := by
    have : (j.natAbs : Int) < ((2 ^ n : Nat) : Int) := by rw [e]; simpa using h
    exact Int.ofNat_lt.mp this
  have := (Nat.log2_lt (n := j.natAbs) (k := n) (by omega)).mpr h2
  omega
def CMulW (i j : Int) : Prop := ∃ m n : Nat, i.natAbs < 2 ^ m ∧ j.natAbs < 2 ^ n ∧ m + n ≤ 134217728
theorem op_mulW : OpR X (binaryOp .Mult) (rI CMulW fun i j => .int (i * j)) := opI fun _ _ _ _ _ _ _ hc q => by
  obtain ⟨m, n, h1, h2, h3⟩ := hc
  exact mul_int q (IntMulOk.of_le (PySem.intBits_le_iff.mpr h1) (PySem.intBits_le_iff.mpr h2) h3)
theorem call_isinst : CallR X (.builtin "isinstance") (fun xs H Q => ∃ x n t b, xs = [x, .ty n] ∧ TyOf X.K H x t ∧ PySem.W.kitOne X.K t (.type n) = some b ∧ Q (.bl b) H) := by
  intro pins s σ H xs us Q I r h
  obtain ⟨x, n, t, b, rfl, ty, e, q⟩ := h
  obtain ⟨u, w', rfl, ru, rw'⟩ := vals2 r
  have rw2 : w' = Value.type n := rw'
  subst rw2
  exact isinst_ok I ru ty e fun tk => ⟨.bl b, H, I.tok _, rfl, q⟩
theorem pe_ty {x : Str} {n : String} {pos : Pos} (hv : bootBuiltins x = some (.type n)) (hg : Gl X x) (hm : X.mg x = none) (hn : x ≠ "__name__" := by decide) (hd : (x == ("__debug__" : Str)) = false := by decide) : PE X (.Name x pos) (tC (.ty n)) := pe_bltn hg hm hv rfl hn hd
theorem isi_same {K : PySem.W.Frag} {n : String} : PySem.W.kitOne K (.type n) (.type n) = some true := by
  unfold PySem.W.kitOne
  rw [if_pos (beq_self_eq_true _)]
theorem isi_int_bool {K : PySem.W.Frag} : PySem.W.kitOne K (.type "int") (.type "bool") = some false := by rfl
mutual
inductive Dt (K : PySem.W.Frag) (H : Hp) : V → PyData → Prop
  | non : Dt K H .non .none
  | bl (b : Bool) : Dt K H (.bl b) (.bool b)
  | int (i : Int) : Dt K H (.int i) (.int i)
  | str (x : Str) : Dt K H (.str x) (.str x)
  | lst {a : Addr} {xs : List V} {ds : List PyData} : SqL K H a xs → DtA K H xs ds → Dt K H (.ref a) (.list ds)
  | tup {a : Addr} {xs : List V} {ds : List PyData} : SqT K H a xs → DtA K H xs ds → Dt K H (.ref a) (.tuple ds)
inductive DtA (K : PySem.W.Frag) (H : Hp) : List V → List PyData → Prop
  | nil : DtA K H [] []
  | cons {x : V} {xs : List V} {d : PyData} {ds : List PyData} : Dt K H x d → DtA K H xs ds → DtA K H (x :: xs) (d :: ds)
end
section
variable {pins : List (Addr × Obj)} {σ : St} {H : Hp} {s : Shared}
mutual
theorem Dt.reads (I : Inv X pins σ H s) : ∀ {x : V} {d : PyData} {u : Value}, Dt X.K H x d → RelV x u → ∃ as, Reads s.heap u d as
  | _, _, u, .non, r => by cases (show u = Value.none from r); exact ⟨_, .none⟩
  | _, _, u, .bl b, r => by cases (show u = Value.bool b from r); exact ⟨_, .bool b⟩
  | _, _, u, .int i, r => by obtain ⟨t, rfl⟩ := (show ∃ t, u = Value.int i t from r); exact ⟨_, .int i t⟩
  | _, _, u, .str x, r => by obtain ⟨t, rfl⟩ := (show ∃ t, u = Value.str x t from r); exact ⟨_, .str x t⟩
  | _, _, u, @Dt.lst _ _ a xs ds h hd, r => by
    cases (show u = Value.ref a from r)
    obtain ⟨its, rv, ⟨o, n, e, c, _, d⟩, hz⟩ := I.list h
    obtain ⟨as, ra⟩ := DtA.reads I hd rv
    exact ⟨_, .list e c d (by simpa using ra)⟩
  | _, _, u, @Dt.tup _ _ a xs ds h hd, r => by
    cases (show u = Value.ref a from r)
    obtain ⟨its, rv, ⟨o, e, c, n, d⟩, hz⟩ := I.tuple h
    obtain ⟨as, ra⟩ := DtA.reads I hd rv
    exact ⟨_, .tuple e c d (by simpa using ra)⟩
theorem DtA.reads (I : Inv X pins σ H s) : ∀ {xs : List V} {ds : List PyData} {us : List Value}, DtA X.K H xs ds → Vals xs us → ∃ as, ReadsAll s.heap us ds as
  | _, _, _, .nil, .nil => ⟨_, .nil⟩
  | _, _, _, .cons h t, .cons r rs => by
    obtain ⟨as, ra⟩ := Dt.reads I h r
    obtain ⟨bs, rb⟩ := DtA.reads I t rs
    exact ⟨_, .cons ra rb⟩
end
end
def rEqD (K : PySem.W.Frag) : R2 := fun x y H Q => ∃ d e, Dt K H x d ∧ Dt K H y e ∧ SeqAt.shaped d = true ∧ SeqAt.shaped e = true ∧ Q (.bl (PyData.eqv d e)) H
def rNeD (K : PySem.W.Frag) : R2 := fun x y H Q => ∃ d e, Dt K H x d ∧ Dt K H y e ∧ SeqAt.shaped d = true ∧ SeqAt.shaped e = true ∧ Q (.bl (!PyData.eqv d e)) H
theorem op_eqD (hu : X.A.units + 64 < cLine) : OpR X (compareOp .Eq) (rEqD X.K) := by
  intro pins s σ H x y v u Q I rx ry h
  obtain ⟨d, e, hd, he, sd, se, q⟩ := h
  obtain ⟨as, ra⟩ := hd.reads I rx
  obtain ⟨bs, rb⟩ := he.reads I ry
  exact eq_dataH ra rb sd se hu ⟨.bl _, H, I, rfl, q⟩
theorem op_neD (hu : X.A.units + 64 < cLine) : OpR X (compareOp .NotEq) (rNeD X.K) := by
  intro pins s σ H x y v u Q I rx ry h
  obtain ⟨d, e, hd, he, sd, se, q⟩ := h
  obtain ⟨as, ra⟩ := hd.reads I rx
  obtain ⟨bs, rb⟩ := he.reads I ry
  exact ne_dataH ra rb sd se hu ⟨.bl _, H, I, rfl, q⟩
structure Dn (P : Program) (w : World) (K : PySem.W.Frag) (mg : Str → Option Value) (base : Heap) (k : Nat) (x : Str) (ps : List Str) (sp : Sp) : Prop where
  ex : ∃ f fd, FnOk P w K mg base CX0 k f fd ps sp ∧ Binds K fd ps [] ∧ PySem.W.keepIn K (.ref f) = true ∧ mg x = some (.ref f)
theorem pe_fn {j k : Nat} {x : Str} {ps : List Str} {sp : Sp} {e : Expr} {es : List Expr} {t : TA} {p pos : Pos} (D : Dn X.prog X.w X.K X.mg X.base j x ps sp) (hr : Room k X.A) (ha : PA X (e :: es) t) (hj : j ≤ k := by decide) (hg : Gl X x := by rfl)
    (hdb : (x == ("__debug__" : Str)) = false := by decide) (he : starEach (e :: es) X.env = (false, eval e X.env) :: starEach es X.env := by rfl) (hpl : (backTo pos (starEach es X.env)).any (·.1) = false := by rfl) :
    PE X (.Call (.Name x p) (e :: es) [] pos) (tCall sp [] E0 t) := by
  obtain ⟨f, fd, F, b, kp, m⟩ := D.ex
  exact pe_call F (hr.mono hj) hg m kp b .nil (fun _ _ _ _ _ _ _ h => h.elim) ha hdb he hpl
end
structure At (K : PySem.W.Frag) (mg : Str → Option Value) (x : Str) (st : Stmt) (f : Addr) (fd : FuncData) : Prop where
  fn : Fun K x x st f fd
  name : mg x = some (.ref f)
theorem At.ok {P : Program} {w : World} {K : PySem.W.Frag} {mg : Str → Option Value} {base : Heap} {x : Str} {st : Stmt} {f : Addr} {fd : FuncData} {N ps : List Str} {k : Nat} {sp : Sp} (F : At K mg x st f fd) (S : FnScope N ps (defScope st)) (len : ∀ vs H Q E, sp vs H Q E → vs.length = ps.length)
    (hbody : ∀ (cdv : Value) (A : Around) (outer : List Env) (s : Shared) (H : Hp) (vs : List V) (Q : VK) (E : XK), Room k (A.deeper (envOfC x (defScope st) s.heap.objs.size f cdv)) → sp vs H Q E →
      ∃ t, PSs (cxOf CX0 P w K mg base N x (defScope st) f cdv A outer s H E).nox (defBody st) t ∧ t { nx := fun _ H' => Q .non H', rt := Q } (start N vs) H)
    (h : ∀ (kV doc pm : Value) (an : Option Addr) (cdv ct : Value) (us : List Value), us.length = ps.length → bindArgs (PySem.W.fnOf x x (defArgs st) (defBody st) (defScope st) .none kV doc pm an cdv ct) ⟨us, []⟩ = pure (ps.zip us)) :
    Dn P w K mg base (k + 1) x ps sp := ⟨f, fd, F.fn.ok S len hbody, F.fn.binds h, F.fn.kp, F.name⟩
theorem at_mk {K : PySem.W.Frag} {mg : Str → Option Value} {h : Heap} {x : Str} {st : Stmt} {f : Addr} {oc : Value} {od an : Option Addr} {osl : Array (Option Value)} {kV doc pm cdv ct : Value} (X : K.In h) (G : h.Ns mainGlobals mg)
    (a : PySem.W.nsIn K mainGlobals x = some (some (.ref f))) (l : K.lookup f = some ⟨oc, od, .func (PySem.W.fnOf x x (defArgs st) (defBody st) (defScope st) .none kV doc pm an cdv ct), osl⟩)
    (c : PySem.W.codeIn K cdv x = true) (k : PySem.W.keepIn K (.ref f) = true) : At K mg x st f (PySem.W.fnOf x x (defArgs st) (defBody st) (defScope st) .none kV doc pm an cdv ct) := ⟨fun_mk l c k, PySem.W.mg_of X G a⟩
theorem Same.tup {H H' : Hp} {K : PySem.W.Frag} {a : Addr} {xs : List V} (e : Same H H') (h : SqT K H a xs) : SqT K H' a xs := by
  rcases h with (h | ⟨o, h⟩) | h
  · exact .inl (.inl (e _ _ h))
  · exact .inl (.inr ⟨o, e _ _ h⟩)
  · exact .inr h
theorem same_new {H : Hp} {p : Addr} (h : H p = none) (o : HO) : Same H (upd H p o) := fun b u q => by rw [upd_ne (ne_of_none q h)]; exact q
end L2
namespace Jm
end Jm
namespace Jm
end Jm
namespace Jm
def Sz (n : Nat) (x : Int) : Prop := x.natAbs < 2 ^ n
end Jm
namespace Jm
end Jm
namespace Jm
end Jm
namespace Jm
end Jm
namespace Jm
def restN (c : Int) : Nat → Int
  | 0 => c
  | i + 1 => restN c i / 10000000000
def cellOf (ns : List Int) (k : Int) : Int := if 0 < (ns.length : Int) then ns.getD (k % ns.length).toNat 0 else 0
def turnOf (ns : List Int) (k : Int) : Int := if 0 < (ns.length : Int) then k / ns.length else 1
def mixed (c k j many : Int) : Int :=
  let one := (c * 7919 + k * 104729 + j * 1299709 + 31) % 1000000007
  let two := (one * 48271 + c / 1009) % 998244353
  let three := (two * (one % 9973 + 1) + j) % 1000000009
  (one * 69621 + three * 40692 + three / 1013) % 2147483647 % many
def draw (ns : List Int) (k j many : Int) : Int :=
  if turnOf ns k = 0 ∧ 1000000000000000000 ≤ cellOf ns k ∧ 0 < restN (cellOf ns k) j.toNat then restN (cellOf ns k) j.toNat % 10000000000 % many
  else mixed (cellOf ns k) k j many
theorem draw_lo (ns : List Int) (k j many : Int) (h : 0 < many) : 0 ≤ draw ns k j many := by
  unfold draw; split
  · exact Int.emod_nonneg _ (by omega)
  · exact Int.emod_nonneg _ (by omega)
theorem draw_hi (ns : List Int) (k j many : Int) (h : 0 < many) : draw ns k j many < many := by
  unfold draw; split
  · exact Int.emod_lt_of_pos _ h
  · exact Int.emod_lt_of_pos _ h
end Jm
namespace L2
open PySem PySem.Spec PyProof.Rows
structure spDraw (K : PySem.W.Frag) (vs : List V) (H : Hp) (Q : VK) (E : XK) : Prop where
  ex : ∃ (a : Addr) (ns : List Int) (k j many : Int), vs = [.ref a, .int k, .int j, .int many] ∧ SqL K H a (ns.map V.int) ∧ ns.length ≤ 63 ∧ 0 ≤ k ∧ 0 ≤ j ∧ j < 2 ^ 62 ∧ 0 < many ∧ Q (.int (Jm.draw ns k j many)) H
theorem use_draw {K : PySem.W.Frag} {H : Hp} {Q : VK} {E : XK} {a : Addr} {ns : List Int} {k j many : Int} (hS : SqL K H a (ns.map V.int)) (h63 : ns.length ≤ 63) (h1 : 0 ≤ k) (h2 : 0 ≤ j) (h3 : j < 2 ^ 62) (h4 : 0 < many)
    (h : ∀ d : Int, d = Jm.draw ns k j many → 0 ≤ d → d < many → Q (.int d) H) : spDraw K [.ref a, .int k, .int j, .int many] H Q E :=
  ⟨a, ns, k, j, many, rfl, hS, h63, h1, h2, h3, h4, h _ rfl (Jm.draw_lo ns k j many h4) (Jm.draw_hi ns k j many h4)⟩
def spInt : Sp := fun vs H Q _ => ∃ i : Int, vs = [.int i] ∧ Q (.bl true) H
def spLaw (K : PySem.W.Frag) : Sp := fun vs H Q _ => ∃ (a : Addr) (ns : List Int), vs = [.ref a] ∧ SqL K H a (ns.map V.int) ∧ ns.length ≤ 63 ∧ ∀ H', Q (.bl true) H'
section
variable {X : Cx} {pos : Pos}
def tIfJ (c : TT) (t u : TS) : TS := fun D σ H => ∃ J : St → Hp → Prop, (c σ H fun b H1 => if b = true then t { D with nx := J } σ H1 else u { D with nx := J } σ H1) ∧ ∀ σ' H', J σ' H' → D.nx σ' H'
theorem ps_ifJ {c : Expr} {a b : List Stmt} {tc : TT} {t u : TS} (hc : PT X c tc) (ha : PSs X a t) (hb : PSs X b u) : PS X (.If c a b pos) (tIfJ tc t u) := by
  intro pins s σ H D I h
  obtain ⟨J, h, hJ⟩ := h
  refine thn (ps_if hc ha hb pins s σ H { D with nx := J } I h) fun f s' q => ?_
  cases f with
  | next => obtain ⟨σ', H', I', q⟩ := q; exact ⟨σ', H', I', hJ _ _ q⟩
  | cont => exact q
  | brk => exact q
  | ret v => exact q
end
theorem pt_pure {X : Cx} {e : Expr} {t : TT} (h : PT X e t) : PT X e (fun σ H Q => ∃ b : Bool, t σ H (fun b' H' => b' = b ∧ H' = H) ∧ Q b H) := by
  intro pins s σ H Q I hw
  obtain ⟨b, hb, q⟩ := hw
  refine thn (h pins s σ H _ I hb) fun b' s' ⟨H', I', e1, e2⟩ => ?_
  subst e1 e2
  exact ⟨_, I', q⟩
theorem cdivW_sz {i j : Int} (h0 : 0 < j) (h : Jm.Sz 9000 j) : CDivW i j := by
  refine ⟨h0, ?_⟩
  exact (Nat.log2_lt (by omega)).mpr h
theorem cmul_sz {m n : Nat} {i j : Int} (hi : Jm.Sz m i) (hj : Jm.Sz n j) (h : m + n ≤ 134217728 := by decide) : CMulW i j := ⟨m, n, hi, hj, h⟩
theorem sz_lit {n : Nat} {x : Int} (h : decide (x.natAbs < 2 ^ n) = true) : Jm.Sz n x := by
  unfold Jm.Sz
  exact of_decide_eq_true h
theorem atI_map {ns : List Int} {k : Int} (h0 : 0 ≤ k) (h : k < (ns.length : Int)) : atI (ns.map V.int) k = some (.int (ns.getD k.toNat 0)) := by
  have hk : k.toNat < ns.length := by omega
  have ek : k = ((k.toNat : Nat) : Int) := by omega
  have q : atI (ns.map V.int) ((k.toNat : Nat) : Int) = some (.int (ns.getD k.toNat 0)) := atI_nat (by rw [List.getElem?_map, List.getD_eq_getElem?_getD, List.getElem?_eq_getElem hk] <;> rfl)
  rw [← ek] at q
  exact q
end L2
namespace L2
open PySem PySem.Spec PyProof.Rows
section
variable {prog : Program} {w : World} {A : Around} {R : Result → Shared → Prop} {s : Shared}
theorem compLoop_any {elt target iter : Expr} {scope : Scope} {pos : Pos} {it acc : Value} {env : Env} (J : Nat → Shared → Prop)
    (turn : ∀ n s, J n s → wpAny (model prog w) A (pyNext it) (fun r s₁ => match r with
      | none => R (.ok .next) s₁
      | some v => wpAny (model prog w) A (letOwnedTupleGo target it v) (fun _ s₂ => wpAny (model prog w) A (assign target env v) (fun _ s₃ => wpAny (model prog w) A (eval elt env) (fun x s₄ =>
              wpAny (model prog w) A (call (.builtin "list.append") [acc, x]) (fun _ s₅ => ∃ m, m < n ∧ J m s₅) (fun _ _ => False) s₄) (fun _ _ => False) s₃) (fun _ _ => False) s₂) (fun _ _ => False) s₁) (fun _ _ => False) s)
    (n : Nat) (h : J n s) : codeAny (model prog w) A (.compLoop (.ListComp elt [⟨target, iter, [], 0⟩] scope pos) 0 it acc env) R s := by
  refine codeAny_loop rfl J (fun n s hI => ?_) n h
  show wpAny _ A ((compTurn (.ListComp elt [⟨target, iter, [], 0⟩] scope pos) 0 it acc env).onRaise (fun x => do noteFrame x env; theTreesLotGoes x)) _ _ s
  refine wpAny_noted ?_
  rw [compTurn_list1]
  refine wpAny_bind (wpAny_standAt (wpAny_bind (wpAny_mono (turn n s hI) (fun r s₁ h₁ => ?_) fun _ _ h' => h'.elim)))
  cases r with
  | none => exact wpAny_pure h₁
  | some v =>
    refine wpAny_bind (wpAny_mono h₁ (fun _ s₂ h₂ => wpAny_bind (wpAny_mono h₂ (fun _ s₃ h₃ => ?_) fun _ _ h' => h'.elim)) fun _ _ h' => h'.elim)
    exact wpAny_bind (wpAny_bind (wpAny_mono h₃ (fun x s₄ h₄ => wpAny_bind (wpAny_mono h₄ (fun _ s₅ h₅ => wpAny_pure (wpAny_pure ⟨rfl, h₅⟩)) fun _ _ h' => h'.elim)) fun _ _ h' => h'.elim))
end
theorem closure_ok {scope : Scope} {env : Env} (h : ∀ y ∈ scope.names, y.2 = .free → ∃ c, env.cells.lookup y.1 = some c) :
    ∃ cl, closureFor scope env = pure cl ∧ (∀ y c, (y, c) ∈ cl → env.cells.lookup y = some c ∧ (y, NameKind.free) ∈ scope.names) ∧ ∀ y, (y, NameKind.free) ∈ scope.names → ∃ c, (y, c) ∈ cl := by
  have gen : ∀ (names : List (Str × NameKind)) (acc : List (Str × Addr)), (∀ y ∈ names, y.2 = .free → ∃ c, env.cells.lookup y.1 = some c) →
      ∃ cl, (forIn names acc fun (x : Str × NameKind) (cs : List (Str × Addr)) => (if (x.2 == NameKind.free) = true then do let a ← cellOf env x.1; pure (ForInStep.yield ((x.1, a) :: cs)) else pure (ForInStep.yield cs) : Sem _)) = pure cl ∧
        (∀ y c, (y, c) ∈ cl → (env.cells.lookup y = some c ∧ (y, NameKind.free) ∈ names) ∨ (y, c) ∈ acc) ∧ (∀ p ∈ acc, p ∈ cl) ∧ ∀ y, (y, NameKind.free) ∈ names → ∃ c, (y, c) ∈ cl := by
    intro names
    induction names with
    | nil => intro acc _; exact ⟨acc, by rw [List.forIn_nil], fun y c m => .inr m, fun p hp => hp, fun y m => nomatch m⟩
    | cons x r ih =>
      intro acc hc
      obtain ⟨n, k⟩ := x
      by_cases hk : k = .free
      · subst hk
        obtain ⟨c, ec⟩ := hc (n, .free) List.mem_cons_self rfl
        obtain ⟨cl, e, h1, h2, h3⟩ := ih ((n, c) :: acc) fun y hy => hc y (List.mem_cons_of_mem _ hy)
        refine ⟨cl, ?_, fun y d m => ?_, fun p hp => h2 p (List.mem_cons_of_mem _ hp), fun y m => ?_⟩
        · rw [List.forIn_cons, ← e]
          have ecell : cellOf env n = pure c := by unfold cellOf; rw [ec]
          simp only [beq_self_eq_true, if_true, ecell, pure_bind]
        · rcases h1 y d m with ⟨a, b⟩ | b
          · exact .inl ⟨a, List.mem_cons_of_mem _ b⟩
          · rcases List.mem_cons.mp b with z | z
            · cases z; exact .inl ⟨ec, List.mem_cons_self⟩
            · exact .inr z
        · rcases List.mem_cons.mp m with z | z
          · cases z; exact ⟨c, h2 _ List.mem_cons_self⟩
          · exact h3 y z
      · obtain ⟨cl, e, h1, h2, h3⟩ := ih acc fun y hy => hc y (List.mem_cons_of_mem _ hy)
        have hb : (k == NameKind.free) = false := by simpa using hk
        refine ⟨cl, ?_, fun y d m => ?_, h2, fun y m => ?_⟩
        · rw [List.forIn_cons, ← e]
          simp only [hb, Bool.false_eq_true, if_false, pure_bind]
        · rcases h1 y d m with ⟨a, b⟩ | b
          · exact .inl ⟨a, List.mem_cons_of_mem _ b⟩
          · exact .inr b
        · rcases List.mem_cons.mp m with z | z
          · cases z; exact absurd rfl hk
          · exact h3 y z
  obtain ⟨cl, e, h1, _, h3⟩ := gen scope.names [] h
  refine ⟨cl, ?_, fun y c m => (h1 y c m).elim id (fun z => nomatch z), h3⟩
  have e2 : closureFor scope env = ((forIn scope.names ([] : List (Str × Addr)) fun (x : Str × NameKind) (cs : List (Str × Addr)) => (if (x.2 == NameKind.free) = true then do let a ← cellOf env x.1; pure (ForInStep.yield ((x.1, a) :: cs)) else pure (ForInStep.yield cs) : Sem _)) >>= fun r => pure r) := rfl
  rw [e2, e]
  rfl
theorem lookup_mem {α : Type} {l : List (Str × α)} {y : Str} {c : α} (h : (y, c) ∈ l) : ∃ d, l.lookup y = some d := by
  induction l with
  | nil => cases h
  | cons p r ih =>
    obtain ⟨k, v⟩ := p
    rw [List.lookup_cons]
    cases hb : y == k with
    | true => exact ⟨v, rfl⟩
    | false =>
      rcases List.mem_cons.mp h with z | z
      · cases z; simp at hb
      · exact ih z
theorem cellsFrom_look : ∀ (names : List (Str × NameKind)) (n : Nat) (acc : List (Str × Addr)) {x : Str} {c : Addr}, (cellsFrom n names acc).lookup x = some c → n ≤ c ∨ acc.lookup x = some c
  | [], _, _, _, _, h => .inr h
  | (name, kind) :: r, n, acc, x, c, h => by
    unfold cellsFrom at h
    split at h
    · rcases cellsFrom_look r (n + 1) _ h with z | z
      · exact .inl (by omega)
      · rw [List.lookup_cons] at z
        cases hb : x == name with
        | true => rw [hb] at z; cases z; exact .inl (Nat.le_refl _)
        | false => rw [hb] at z; exact .inr z
    · exact cellsFrom_look r n acc h
theorem cellsFrom_low : ∀ (names : List (Str × NameKind)) (n n0 : Nat) (acc : List (Str × Addr)) {x : Str} {c : Addr}, n0 ≤ n → (∀ d, acc.lookup x = some d → n0 ≤ d) → (cellsFrom n names acc).lookup x = some c → n0 ≤ c := by
  intro names n n0 acc x c hn ha h
  rcases cellsFrom_look names n acc h with z | z
  · omega
  · exact ha c z
theorem cellsFrom_own : ∀ (names : List (Str × NameKind)) (n : Nat) (acc : List (Str × Addr)) {x : Str} {c : Addr}, (x, NameKind.cell) ∈ names → (cellsFrom n names acc).lookup x = some c → n ≤ c
  | [], _, _, _, _, m, _ => nomatch m
  | (name, kind) :: r, n, acc, x, c, m, h => by
    unfold cellsFrom at h
    rcases List.mem_cons.mp m with z | z
    · cases z
      rw [if_pos (by rfl)] at h
      refine cellsFrom_low r (n + 1) n _ (by omega) (fun d hd => ?_) h
      rw [List.lookup_cons, beq_self_eq_true] at hd
      cases hd
      exact Nat.le_refl _
    · split at h
      · exact Nat.le_trans (Nat.le_succ _) (cellsFrom_own r (n + 1) _ z h)
      · exact cellsFrom_own r n acc z h
theorem cellsFrom_keep : ∀ (names : List (Str × NameKind)) (n : Nat) (acc : List (Str × Addr)) {x : Str}, (∃ c, acc.lookup x = some c) → ∃ c, (cellsFrom n names acc).lookup x = some c
  | [], _, _, _, h => h
  | (name, kind) :: r, n, acc, x, h => by
    unfold cellsFrom
    split
    · refine cellsFrom_keep r (n + 1) _ ?_
      rw [List.lookup_cons]
      cases x == name with
      | true => exact ⟨_, rfl⟩
      | false => exact h
    · exact cellsFrom_keep r n acc h
theorem cellsFrom_has : ∀ (names : List (Str × NameKind)) (n : Nat) (acc : List (Str × Addr)) {x : Str}, (x, NameKind.cell) ∈ names → ∃ c, (cellsFrom n names acc).lookup x = some c
  | [], _, _, _, m => nomatch m
  | (name, kind) :: r, n, acc, x, m => by
    unfold cellsFrom
    rcases List.mem_cons.mp m with z | z
    · cases z
      rw [if_pos (by rfl)]
      refine cellsFrom_keep r (n + 1) _ ⟨n, ?_⟩
      rw [List.lookup_cons, beq_self_eq_true]
    · split
      · exact cellsFrom_has r (n + 1) _ z
      · exact cellsFrom_has r n acc z
theorem cellsFrom_old : ∀ (names : List (Str × NameKind)) (n : Nat) (acc : List (Str × Addr)) {x : Str}, (x, NameKind.cell) ∉ names → (cellsFrom n names acc).lookup x = acc.lookup x
  | [], _, _, _, _ => rfl
  | (name, kind) :: r, n, acc, x, m => by
    have m2 : (x, NameKind.cell) ∉ r := fun z => m (List.mem_cons_of_mem _ z)
    unfold cellsFrom
    split
    · rename_i hk
      rw [cellsFrom_old r (n + 1) _ m2, List.lookup_cons]
      cases hb : x == name with
      | true =>
        have e1 := beq_iff_eq.mp hb
        have e2 : kind = NameKind.cell := by simpa using hk
        subst e1 e2
        exact absurd List.mem_cons_self m
      | false => rfl
    · exact cellsFrom_old r n acc m2
theorem cellsFrom_inj : ∀ (names : List (Str × NameKind)) (n : Nat) (acc : List (Str × Addr)), (∀ x y c, acc.lookup x = some c → acc.lookup y = some c → x = y) → (∀ x c, acc.lookup x = some c → c < n) →
    ∀ x y c, (cellsFrom n names acc).lookup x = some c → (cellsFrom n names acc).lookup y = some c → x = y
  | [], _, _, h, _ => h
  | (name, kind) :: r, n, acc, h, hlt => by
    intro x y c hx hy
    unfold cellsFrom at hx hy
    split at hx
    · rename_i hk
      rw [if_pos hk] at hy
      refine cellsFrom_inj r (n + 1) _ (fun x y c hx hy => ?_) (fun x c hx => ?_) x y c hx hy
      · rw [List.lookup_cons] at hx hy
        cases hb : x == name with
        | true =>
          cases hb2 : y == name with
          | true => rw [beq_iff_eq.mp hb, beq_iff_eq.mp hb2]
          | false =>
            rw [hb] at hx; rw [hb2] at hy
            cases hx
            exact absurd (hlt _ _ hy) (Nat.lt_irrefl _)
        | false =>
          cases hb2 : y == name with
          | true =>
            rw [hb] at hx; rw [hb2] at hy
            cases hy
            exact absurd (hlt _ _ hx) (Nat.lt_irrefl _)
          | false =>
            rw [hb] at hx; rw [hb2] at hy
            exact h x y c hx hy
      · rw [List.lookup_cons] at hx
        cases hb : x == name with
        | true => rw [hb] at hx; cases hx; exact Nat.lt_succ_self _
        | false => rw [hb] at hx; exact Nat.lt_succ_of_lt (hlt _ _ hx)
    · rename_i hk
      rw [if_neg hk] at hy
      exact cellsFrom_inj r n acc h hlt x y c hx hy
theorem cells_there : ∀ (names : List (Str × NameKind)) (h : Heap) (acc : List (Str × Addr)), (∀ x c, acc.lookup x = some c → ∃ v, h.IsCell c v) → ∀ x c, (cellsFrom h.objs.size names acc).lookup x = some c → ∃ v, (pushCells h names).IsCell c v
  | [], _, _, ha => ha
  | (name, kind) :: r, h, acc, ha => by
    intro x c hx
    unfold cellsFrom at hx
    unfold pushCells
    split at hx
    · rename_i hk
      rw [if_pos hk]
      have q := cells_there r (h.push { cls := .type "cell", data := .cell none }) ((name, h.objs.size) :: acc) (fun x c hx => by
        rw [List.lookup_cons] at hx
        cases hb : x == name with
        | true => rw [hb] at hx; cases hx; exact ⟨none, _, Heap.get?_push_size _ rfl, rfl⟩
        | false =>
          rw [hb] at hx
          obtain ⟨v, z⟩ := ha x c hx
          exact ⟨v, z.keeps fun b o e => Heap.get?_push_of_some _ e⟩) x c
      rw [Heap.size_push] at q
      exact q hx
    · rename_i hk
      rw [if_neg hk]
      exact cells_there r h acc ha x c hx
def cxComp (X : Cx) (N2 : List Str) (scope : Scope) (cl : List (Str × Addr)) (s₂ : Shared) (H₂ : Hp) (fp : List Addr) : Cx where
  prog := X.prog
  w := X.w
  K := X.K
  mg := X.mg
  base := X.base
  A := X.A
  N := N2
  s₀ := s₂
  H₀ := H₂
  env := { scope := relabel scope X.env, locals := s₂.heap.objs.size, globals := X.env.globals, cells := cellsFrom (s₂.heap.objs.size + 1) scope.names cl, qual := X.env.qual, func := none, code := X.env.code, frame := X.env.frame, builtins := X.env.builtins }
  outer := X.stack
  stack := X.stack
  ex := fp
  fn := fun x => decide (scope.names.lookup x = some .cell)
  calm := X.calm
  pn := []
  xe := fun _ _ => False
def compOk (XN : List Str) (xn sn : List (Str × NameKind)) (N2 : List Str) (ix : List (Option Nat)) : Bool :=
  (ix.length == N2.length) &&
  ((ix.zip N2).all fun p => match p.1 with
    | none => true
    | some j => XN[j]? == some p.2 && sn.lookup p.2 == some .free && (xn.lookup p.2 == some .cell || xn.lookup p.2 == some .free)) &&
  (sn.all fun y => y.2 != .free || (xn.lookup y.1 == some .cell || xn.lookup y.1 == some .free)) &&
  (sn.all fun y => y.2 != .local || sn.lookup y.1 == some .local) &&
  (sn.all fun y => y.2 != .free || sn.all fun z => z.2 != .cell || z.1 != y.1)
theorem relabel_mem {scope : Scope} {env : Env} {x : Str} {k : NameKind} (h : (relabel scope env).names.lookup x = some k) (hk : k = .cell ∨ k = .free) : (x, NameKind.cell) ∈ scope.names ∨ (x, NameKind.free) ∈ scope.names := by
  have m := PySem.mem_of_lookup h
  obtain ⟨y, hy, e⟩ := List.mem_map.mp m
  obtain ⟨n, k0⟩ := y
  dsimp only at e
  split at e
  · rename_i hc
    cases e
    have h1 : k0 = NameKind.free := by
      have := (Bool.and_eq_true_iff.mp (Bool.and_eq_true_iff.mp hc).1).1
      simpa using this
    subst h1
    exact .inr hy
  · cases e
    rcases hk with rfl | rfl
    · exact .inl hy
    · exact .inr hy
theorem relabel_free {scope : Scope} {env : Env} : ∀ {x : Str}, scope.names.lookup x = some .free → (relabel scope env).names.lookup x = some .cell ∨ (relabel scope env).names.lookup x = some .free := by
  intro x h
  have gen : ∀ (l : List (Str × NameKind)), l.lookup x = some .free → (l.map fun (n, k) => if (k == NameKind.free && env.scope.kind == .function && env.kindOf n == some .cell) then (n, NameKind.cell) else (n, k)).lookup x = some .cell ∨
      (l.map fun (n, k) => if (k == NameKind.free && env.scope.kind == .function && env.kindOf n == some .cell) then (n, NameKind.cell) else (n, k)).lookup x = some .free := by
    intro l
    induction l with
    | nil => intro h; cases h
    | cons p r ih =>
      intro h
      obtain ⟨n, k⟩ := p
      rw [List.lookup_cons] at h
      rw [List.map_cons]
      dsimp only
      cases hb : x == n with
      | true =>
        rw [hb] at h
        cases h
        split
        · rw [List.lookup_cons, hb]; exact .inl rfl
        · rw [List.lookup_cons, hb]; exact .inr rfl
      | false =>
        rw [hb] at h
        split
        · rw [List.lookup_cons, hb]; exact ih h
        · rw [List.lookup_cons, hb]; exact ih h
  exact gen scope.names h
theorem comp_enter {X : Cx} {pins : List (Addr × Obj)} {σ σ2 : St} {H : Hp} {s : Shared} {N2 : List Str} {scope : Scope} {cl : List (Str × Addr)} {fp : List Addr} (I : Inv X pins σ H s) (hk : scope.kind = .function)
    (hcl1 : ∀ y c, (y, c) ∈ cl → X.env.cells.lookup y = some c) (hcl2 : ∀ y, (y, NameKind.free) ∈ scope.names → ∃ c, (y, c) ∈ cl) (hfp : ∀ b ∈ fp, FpOk X pins H b) (hfo : ∀ b ∈ fp, b < s.heap.objs.size) (hl : σ2.length = N2.length)
    (hσ : ∀ (i : Nat) (x : Str) (v : V), N2[i]? = some x → σ2[i]? = some (some v) → scope.names.lookup x = some .free ∧ (X.env.kindOf x = some .cell ∨ X.env.kindOf x = some .free) ∧ ∃ j : Nat, X.N[j]? = some x ∧ σ[j]? = some (some v))
    (hd : ∀ x, (x, NameKind.free) ∈ scope.names → (x, NameKind.cell) ∉ scope.names) :
    Inv (cxComp X N2 scope cl s H fp) [] σ2 H { s with heap := pushCells (s.heap.push { cls := .type "dict", data := .dict #[] }) scope.names } := by
  have keeps : ∀ b o, s.heap.get? b = some o → (pushCells (s.heap.push { cls := .type "dict", data := .dict #[] }) scope.names).get? b = some o := fun b o e => pushCells_keeps _ _ b o (Heap.get?_push_of_some _ e)
  have hsz : (s.heap.push { cls := .type "dict", data := .dict #[] }).objs.size = s.heap.objs.size + 1 := Heap.size_push ..
  have clook : ∀ x c, cl.lookup x = some c → X.env.cells.lookup x = some c := fun x c e => hcl1 x c (PySem.mem_of_lookup e)
  have clt : ∀ x c, cl.lookup x = some c → c < s.heap.objs.size := fun x c e => by
    obtain ⟨v, z⟩ := I.cell x c (clook x c e)
    exact z.lt
  have there := cells_there scope.names (s.heap.push { cls := .type "dict", data := .dict #[] }) cl (fun x c e => by
    obtain ⟨v, z⟩ := I.cell x c (clook x c e)
    exact ⟨v, z.keeps fun b o e => Heap.get?_push_of_some _ e⟩)
  rw [hsz] at there
  have cells : ∀ x c, (cellsFrom (s.heap.objs.size + 1) scope.names cl).lookup x = some c → s.heap.objs.size + 1 ≤ c ∨ X.env.cells.lookup x = some c := fun x c e => by
    rcases cellsFrom_look _ _ _ e with z | z
    · exact .inl z
    · exact .inr (clook x c z)
  have okY : (cxComp X N2 scope cl s H fp).Ok := by
    refine ⟨I.ok.mod, hk, I.ok.glob, I.ok.blt, Nat.le_refl _, ?_, ?_, ?_, I.ok.hd, I.ok.frames, .inl rfl, ?_, I.bs, Nat.le_trans I.ok.bsz I.sz, ?_, ?_, I.stack, I.stkFree⟩
    · exact cellsFrom_inj _ _ _ (fun x y c hx hy => I.ok.inj x y c (clook x c hx) (clook y c hy)) fun x c e => Nat.lt_succ_of_lt (clt x c e)
    · intro x hx
      have m : (x, NameKind.cell) ∈ scope.names ∨ (x, NameKind.free) ∈ scope.names := by
        rcases hx with z | z
        · exact relabel_mem z (.inl rfl)
        · exact relabel_mem z (.inr rfl)
      rcases m with m | m
      · exact cellsFrom_has _ _ _ m
      · obtain ⟨c, mc⟩ := hcl2 x m
        exact cellsFrom_keep _ _ _ (lookup_mem mc)
    · intro x c hf e
      have hf' : scope.names.lookup x = some .cell := of_decide_eq_true hf
      exact Nat.le_trans (Nat.le_succ _) (cellsFrom_own _ _ _ (PySem.mem_of_lookup hf') e)
    · intro b hb
      refine ⟨Nat.ne_of_lt (hfo b hb), fun x c e z => ?_⟩
      have hlt := hfo b hb
      rcases cells x c e with k | k
      · exact absurd (Nat.lt_of_lt_of_le hlt (Nat.le_trans (Nat.le_succ _) (z ▸ k))) (Nat.lt_irrefl _)
      · exact (hfp b hb).2.2.2.2.1 x c k z
    · intro b o e hb
      rcases (hfp b hb).2.2.2.1 with z | z
      · exact I.ok.noex b o e z
      · exact absurd (Nat.lt_of_lt_of_le (Heap.lt_size (I.ok.bs b o e).1) z) (Nat.lt_irrefl _)
    · intro b hb hbs
      rcases List.mem_cons.mp (I.stkSub b hbs) with z | z
      · exact (hfp b hb).2.1 z
      · exact (hfp b hb).2.2.1 z
  refine ⟨okY, rfl, I.bare, Un.kept keeps, ?_, there, I.hok.fresh (Nat.le_refl _), ?_, (fun p hp => nomatch hp), I.hok.kept keeps, hl⟩
  · refine ⟨fun _ => none, (Heap.Ns.new s.heap (.type "dict")).keeps (pushCells_keeps _ _), fun i x v e1 e2 _ => ?_⟩
    obtain ⟨hf, hx, j, j1, j2⟩ := hσ i x v e1 e2
    obtain ⟨m, _, hloc⟩ := I.loc
    have hv : Vis X.env.scope x := hx.elim (fun z => .inr (.inl z)) fun z => .inr (.inr z)
    obtain ⟨u, r, lk⟩ := hloc j x v j1 j2 hv
    refine ⟨u, r, .inr ⟨relabel_free hf, ?_⟩⟩
    rcases lk with ⟨k, _⟩ | ⟨_, c, ec, ic⟩
    · rcases hx with z | z <;> rw [z] at k <;> cases k
    · refine ⟨c, ?_, ic.keeps keeps⟩
      have mf := PySem.mem_of_lookup hf
      show (cellsFrom (s.heap.objs.size + 1) scope.names cl).lookup x = some c
      rw [cellsFrom_old _ _ _ (hd x mf)]
      obtain ⟨c', mc⟩ := hcl2 x mf
      obtain ⟨d, ed⟩ := lookup_mem mc
      rw [ed]
      have := clook x d ed
      rw [ec] at this
      exact this.symm
  · intro x c e
    rcases cells x c e with k | k
    · exact I.hok.fresh (by omega)
    · exact I.freeC x c k
section
variable {X : Cx}
def CompG (J : It) (g : TG) (te : TE) (acc : Addr) (σ₀ : St) (H : Hp) (Q : VK) : Prop := ∃ W : Nat → Nat → St → Hp → Prop,
  (∃ m, W 0 m σ₀ (upd H acc (.lst []))) ∧ ∀ i m σ2 H2, W i m σ2 H2 →
    (J.stop i H2 ∧ Q (.ref acc) H2) ∨ (J.go i H2 ∧ ∃ (S : St → Prop) (N : V → Hp → Prop), (∀ σ3 v H4, S σ3 → N v H4 → ∃ xs, H4 acc = some (.lst xs) ∧ xs.length < sizeLine ∧ ∃ m', m' < m ∧ W (i + 1) m' σ3 (upd H4 acc (.lst (xs ++ [v])))) ∧ ∀ x H', J.yld i H2 x H' → g x σ2 H' fun σ3 H3 => S σ3 ∧ te σ3 H3 N)
def tComp (wi : TI) (ix : List (Option Nat)) (g : TG) (te : TE) : TE := fun σ H Q => wi σ H fun J H1 => ∀ acc, H1 acc = none → CompG J g te acc (ix.map fun o => o.bind fun j => (σ[j]?).join) H1 Q
theorem compOk_use {XN : List Str} {xn sn : List (Str × NameKind)} {N2 : List Str} {ix : List (Option Nat)} (h : compOk XN xn sn N2 ix = true) :
    ix.length = N2.length ∧ (∀ (i : Nat) (x : Str) (j : Nat), N2[i]? = some x → ix[i]? = some (some j) → XN[j]? = some x ∧ sn.lookup x = some .free ∧ (xn.lookup x = some .cell ∨ xn.lookup x = some .free)) ∧
    (∀ y ∈ sn, y.2 = .free → xn.lookup y.1 = some .cell ∨ xn.lookup y.1 = some .free) ∧ (∀ y ∈ sn, y.2 = .local → sn.lookup y.1 = some .local) ∧ ∀ x, (x, NameKind.free) ∈ sn → (x, NameKind.cell) ∉ sn := by
  unfold compOk at h
  obtain ⟨h, h5⟩ := Bool.and_eq_true_iff.mp h
  obtain ⟨h, h4⟩ := Bool.and_eq_true_iff.mp h
  obtain ⟨h, h3⟩ := Bool.and_eq_true_iff.mp h
  obtain ⟨h1, h2⟩ := Bool.and_eq_true_iff.mp h
  have e1 : ix.length = N2.length := by simpa using h1
  refine ⟨e1, fun i x j a b => ?_, fun y hy e => ?_, fun y hy e => ?_, fun x m1 m2 => ?_⟩
  · have m : (some j, x) ∈ ix.zip N2 := by
      refine List.mem_of_getElem? (i := i) ?_
      rw [List.getElem?_zip_eq_some]
      exact ⟨b, a⟩
    have q := List.all_eq_true.mp h2 _ m
    dsimp only at q
    obtain ⟨q, q3⟩ := Bool.and_eq_true_iff.mp q
    obtain ⟨q1, q2⟩ := Bool.and_eq_true_iff.mp q
    exact ⟨by simpa using q1, by simpa using q2, (Bool.or_eq_true_iff.mp q3).imp (fun z => by simpa using z) fun z => by simpa using z⟩
  · have q := List.all_eq_true.mp h3 y hy
    rcases Bool.or_eq_true_iff.mp q with z | z
    · rw [e] at z; simp at z
    · exact (Bool.or_eq_true_iff.mp z).imp (fun z => by simpa using z) fun z => by simpa using z
  · have q := List.all_eq_true.mp h4 y hy
    rcases Bool.or_eq_true_iff.mp q with z | z
    · rw [e] at z; simp at z
    · simpa using z
  · have q := List.all_eq_true.mp h5 _ m1
    rcases Bool.or_eq_true_iff.mp q with z | z
    · simp at z
    · have q2 := List.all_eq_true.mp z _ m2
      simp at q2
theorem comp_block {tg iter elt : Expr} {scope : Scope} {pos : Pos} {N2 : List Str} {ix : List (Option Nat)} {g : TG} {te : TE} {cl : List (Str × Addr)} {pins : List (Addr × Obj)} {σ : St} {H : Hp} {s : Shared} {E : Value → Shared → Prop} {Q : VK}
    {RR : Value → Addr → Result → Shared → Prop} (hc : X.calm = true) (hg : ∀ cl s₂ H₂ fp, PG (cxComp X N2 scope cl s₂ H₂ fp) tg g) (he : ∀ cl s₂ H₂ fp, PE (cxComp X N2 scope cl s₂ H₂ fp) elt te)
    (hk : scope.kind = .function) (hn : compOk X.N X.env.scope.names scope.names N2 ix = true)
    (hcl1 : ∀ y c, (y, c) ∈ cl → X.env.cells.lookup y = some c) (hcl2 : ∀ y, (y, NameKind.free) ∈ scope.names → ∃ c, (y, c) ∈ cl)
    {it : Addr} {fp : List Addr} {tn : Nat → Heap → Prop} {J : It} (I : Inv X pins σ H s) (T : Turn X.prog X.w X.K tg J fp it tn) (st : tn 0 s.heap) (f : ∀ b ∈ fp, FpOk X pins H b)
    (h : ∀ acc, H acc = none → CompG J g te acc (ix.map fun o => o.bind fun j => (σ[j]?).join) H Q)
    (hR : ∀ acc C H' s' m, Inv X pins σ H' s' → s'.heap.Ns C m → H' C = none → C ≠ X.env.locals → X.s₀.heap.objs.size ≤ C → (∀ x c, X.env.cells.lookup x = some c → c ≠ C) → (∀ p ∈ X.pn ++ pins, p.1 ≠ C) → Q (.ref acc) H' → RR (.ref acc) C (.ok .next) s') :
    wpAny (model X.prog X.w) X.A (newList []) (fun acc s₃ => wpAny (model X.prog X.w) X.A (newFunctionEnv scope X.env.globals cl [] X.env.qual none .none (some X.env)) (fun cenv s₄ =>
      codeAny (model X.prog X.w) X.A (.compStart (.ListComp elt [⟨tg, iter, [], 0⟩] scope pos) 0 (.ref it) acc { cenv with scope := relabel scope X.env }) (RR acc cenv.locals) s₄) E s₃) E s := by
  obtain ⟨k1, k2, k3, k4, k5⟩ := compOk_use hn
  refine wpAny_newObj_type ?_
  have I3 : Inv X pins σ (upd H s.heap.objs.size (.lst [])) { s with heap := s.heap.push { cls := .type "list", data := .seq ([] : List Value).toArray } } :=
    I.laid (a := s.heap.objs.size) (o := .lst []) (t' := s.toks) (fun _ _ q => Heap.get?_push_of_some _ q) (Nat.le_refl _) ⟨Nat.zero_le _, [], _, .nil, Heap.get?_push_size _ rfl⟩
  obtain ⟨W, ⟨m0, w0⟩, turn⟩ := h s.heap.objs.size I.fresh
  have fo : ∀ b ∈ fp, b < s.heap.objs.size := fun b hb => by
    obtain ⟨o, e, _⟩ := T.obj 0 _ st b hb
    exact Heap.lt_size e
  have st3 : tn 0 (s.heap.push { cls := .type "list", data := .seq ([] : List Value).toArray }) := T.keep _ _ _ st fun b _ o e => Heap.get?_push_of_some _ e
  have f3 : ∀ b ∈ fp, FpOk X pins (upd H s.heap.objs.size (.lst [])) b := fun b hb => ⟨by rw [upd_ne (Nat.ne_of_lt (fo b hb))]; exact (f b hb).1, (f b hb).2⟩
  have fo3 : ∀ b ∈ fp, b < (s.heap.push { cls := .type "list", data := .seq ([] : List Value).toArray }).objs.size := fun b hb => by rw [Heap.size_push]; exact Nat.lt_succ_of_lt (fo b hb)
  generalize es3 : ({ s with heap := s.heap.push { cls := .type "list", data := .seq ([] : List Value).toArray } } : Shared) = s3 at *
  have eh3 : s3.heap = s.heap.push { cls := .type "list", data := .seq ([] : List Value).toArray } := by rw [← es3]
  rw [← eh3] at st3 fo3
  generalize s.heap.objs.size = acc at *
  generalize eH3 : upd H acc (.lst []) = H3 at *
  have IY := comp_enter (N2 := N2) (scope := scope) (cl := cl) (fp := fp) (σ2 := ix.map fun o => o.bind fun j => (σ[j]?).join) I3 hk hcl1 hcl2 f3 fo3 (by rw [List.length_map]; exact k1) (fun i x v e1 e2 => by
    rw [List.getElem?_map] at e2
    cases ei : ix[i]? with
    | none => rw [ei] at e2; cases e2
    | some o =>
      rw [ei] at e2
      cases o with
      | none => cases e2
      | some j =>
        obtain ⟨a1, a2, a3⟩ := k2 i x j e1 ei
        refine ⟨a2, a3, j, a1, ?_⟩
        have e3 : (σ[j]?).join = some v := Option.some.inj e2
        cases ej : σ[j]? with
        | none => rw [ej] at e3; cases e3
        | some z => rw [ej] at e3; exact congrArg some e3) k5
  have ne : wpAny (model X.prog X.w) X.A (newFunctionEnv scope X.env.globals cl [] X.env.qual none .none (some X.env)) (fun cenv s₄ =>
      cenv = { scope := scope, locals := s3.heap.objs.size, globals := X.env.globals, cells := cellsFrom (s3.heap.objs.size + 1) scope.names cl, qual := X.env.qual, func := none, code := X.env.code, frame := X.env.frame, builtins := X.env.builtins } ∧
      s₄ = { s3 with heap := pushCells (s3.heap.push { cls := .type "dict", data := .dict #[] }) scope.names }) E s3 := by
    simp only [newFunctionEnv, Option.isSome_some, if_true]
    refine wpAny_bind (wpAny_alloc ?_)
    refine wpAny_bind (wpAny_layCells _ (fun name kind cells => by cases hkc : kind == NameKind.cell <;> simp [hkc]) _ _ _ _ ?_)
    rw [List.forIn_nil]
    refine wpAny_bind (wpAny_pure (wpAny_pure ⟨?_, rfl⟩))
    rw [show ({ s3 with heap := s3.heap.push { cls := .type "dict", data := .dict #[] } } : Shared).heap.objs.size = s3.heap.objs.size + 1 from Heap.size_push ..]
  refine thn ne fun cenv s4 ⟨e1, e2⟩ => ?_
  subst e1 e2
  have stY : tn 0 (pushCells (s3.heap.push { cls := .type "dict", data := .dict #[] }) scope.names) := T.keep _ _ _ st3 fun b _ o e => pushCells_keeps _ _ b o (Heap.get?_push_of_some _ e)
  have hHC : s3.heap.objs.size ≠ X.env.locals := Nat.ne_of_gt I3.lt
  have stat : ∀ {H' : Hp}, (∀ b ∈ fp, H' b = none) → ∀ b ∈ fp, FpOk (cxComp X N2 scope cl s3 H3 fp) [] H' b := fun {H'} hn b hb =>
    ⟨hn b hb, (IY.ok.exf b hb).1, IY.ok.exfs b hb, .inl hb, (IY.ok.exf b hb).2, fun p hp => nomatch hp⟩
  have loop : codeAny (model X.prog X.w) X.A (.compLoop (.ListComp elt [⟨tg, iter, [], 0⟩] scope pos) 0 (.ref it) (.ref acc) (cxComp X N2 scope cl s3 H3 fp).env) (RR (.ref acc) s3.heap.objs.size)
      { s3 with heap := pushCells (s3.heap.push { cls := .type "dict", data := .dict #[] }) scope.names } := by
    refine compLoop_any (fun n s' => ∃ i σ' H', Inv (cxComp X N2 scope cl s3 H3 fp) [] σ' H' s' ∧ tn i s'.heap ∧ (∀ b ∈ fp, H' b = none) ∧ W i n σ' H') ?_ m0 ⟨0, _, H3, IY, stY, fun b hb => (f3 b hb).1, w0⟩
    rintro n s5 ⟨i, σ5, H5, I5, st5, fr5, w5⟩
    rcases turn i n σ5 H5 w5 with ⟨stop, qn⟩ | ⟨go, S, N, hSN, step⟩
    · refine thn (T.done (cxComp X N2 scope cl s3 H3 fp) rfl rfl rfl hc i [] s5 σ5 H5 (fun _ _ => False) I5 (stat fr5) st5 stop) fun r s6 ⟨hr, I6⟩ => ?_
      subst hr
      obtain ⟨m6, ns6, _⟩ := id I6.loc
      have IX : Inv X pins σ H5 s6 := I3.call' (ch := fp) I6.os I6.base I6.hok I6.bare fun b hb => ⟨(f3 b hb).2.2.2.1, (f3 b hb).2.1, (f3 b hb).2.2.2.2.1, (f3 b hb).2.2.2.2.2⟩
      refine hR acc s3.heap.objs.size H5 s6 m6 IX ns6 I6.free hHC I3.sz (fun x c e z => ?_) (fun p hp z => ?_) qn
      · obtain ⟨v, q⟩ := I3.cell x c e
        exact absurd q.lt (by rw [z]; exact Nat.lt_irrefl _)
      · exact absurd (Heap.lt_size (I3.pin p hp).1) (by rw [z]; exact Nat.lt_irrefl _)
    · refine thn (T.item (cxComp X N2 scope cl s3 H3 fp) rfl rfl rfl hc i [] s5 σ5 H5 (fun _ _ => False) I5 (stat fr5) st5 go) fun r s6 ⟨u, hr, h6⟩ => ?_
      subst hr
      refine thn h6 fun _ s7 ⟨x, H7, I7, r7, y7, st7, fr7⟩ => ?_
      have I7' := I7.pinned (stat fr7) (T.obj _ _ st7)
      refine thn (hg cl s3 H3 fp _ s7 σ5 H7 x u _ I7' r7 (step x H7 y7)) fun _ s8 ⟨σ8, H8, I8, hS8, q8⟩ => ?_
      refine thn (he cl s3 H3 fp _ s8 σ8 H8 _ I8 q8) fun y s9 ⟨v, H9, I9, r9, q9⟩ => ?_
      obtain ⟨xs, hxs, hxl, m', hm, w9⟩ := hSN σ8 v H9 hS8 q9
      refine thn (mt_append _ s9 σ8 H9 (.ref acc) [v] (.ref acc) [y] (fun z H10 => z = .non ∧ H10 = upd H9 acc (.lst (xs ++ [v]))) I9 rfl (.cons r9 .nil) ⟨acc, xs, v, rfl, rfl, hxs, hxl, rfl, rfl⟩) fun z s10 ⟨zv, H10, I10, r10, ez, eH⟩ => ?_
      subst eH
      refine ⟨m', hm, i + 1, σ8, _, I10.unpinned, T.keep _ _ _ st7 fun b hb o e => (I10.pin (b, o) (List.mem_append_right _ (List.mem_append_right _ (mem_pinsAt hb e)))).1, fun b hb => ?_, w9⟩
      obtain ⟨o, e, d⟩ := T.obj _ _ st7 b hb
      exact (I10.pin (b, o) (List.mem_append_right _ (List.mem_append_right _ (mem_pinsAt hb e)))).2.1
  exact codeAny_compStart_list loop (T.self _ 0 _ _ _ stY loop)
theorem pe_comp {tg iter elt : Expr} {scope : Scope} {pos : Pos} (N2 : List Str) (ix : List (Option Nat)) {wi : TI} {g : TG} {te : TE} (hc : X.calm = true) (hi : PI X tg iter wi)
    (hg : ∀ cl s₂ H₂ fp, PG (cxComp X N2 scope cl s₂ H₂ fp) tg g) (he : ∀ cl s₂ H₂ fp, PE (cxComp X N2 scope cl s₂ H₂ fp) elt te)
    (hk : scope.kind = .function) (hn : compOk X.N X.env.scope.names scope.names N2 ix = true) (hs : ∀ x, foldedSetIterable iter X.env x = pure x := by intro _; rfl) :
    PE X (.ListComp elt [⟨tg, iter, [], 0⟩] scope pos) (tComp wi ix g te) := by
  intro pins s σ H Q I h
  obtain ⟨k1, k2, k3, k4, k5⟩ := compOk_use hn
  obtain ⟨cl, ecl, c1, c2⟩ := closure_ok (scope := scope) (env := X.env) fun y hy e => I.ok.has y.1 (k3 y hy e)
  rw [eval_ListComp]
  refine wpAny_comprehension_free (use := none) rfl hs ecl hk k4 (thn (hi pins s σ H _ I h) fun v s1 h1 => thn h1 fun itv s2 h2 => ?_)
  obtain ⟨it, fp, tn, J, H2, e, I2, T, st2, f2, h2⟩ := h2
  subst e
  refine comp_block (RR := fun acc C => compPost (model X.prog X.w) X.A X.xe none (EP X pins σ Q) acc C) (Q := Q) hc hg he hk hn (fun y c m => (c1 y c m).1) c2 I2 T st2 f2 h2 ?_
  intro acc C H' s' m I' ns hHC hL hsz hcells hpins q
  exact ⟨m, ns, fun h' hs' => ⟨.ref acc, H', I'.turned (it := C) (t' := s'.toks) (fun b o hb e => (hs'.2 b hb).trans e) hHC hL (.inr hsz) hcells hpins, rfl, q⟩⟩
end
theorem comp_range {lo : Int} {n k : Nat} {te : TE} {σ2 : St} {H : Hp} {acc : Addr} {Q : VK} (Pv : Nat → List V → Hp → Prop) (hn : n ≤ 100000) (h0 : Pv 0 [] (upd H acc (.lst [])))
    (hs : ∀ (i : Nat) (out : List V) (H1 : Hp), i < n → out.length = i → H1 acc = some (.lst out) → Pv i out H1 → te (σ2.set k (some (.int (lo + i)))) H1 fun v H4 => H4 acc = some (.lst out) ∧ Pv (i + 1) (out ++ [v]) (upd H4 acc (.lst (out ++ [v]))))
    (hd : ∀ (out : List V) (H1 : Hp), out.length = n → H1 acc = some (.lst out) → Pv n out H1 → Q (.ref acc) H1) :
    CompG (Itr lo n) (gName k) te acc σ2 H Q := by
  refine ⟨fun i m σ' H' => m = n - i ∧ i ≤ n ∧ (∀ v, σ'.set k (some v) = σ2.set k (some v)) ∧ ∃ out, out.length = i ∧ H' acc = some (.lst out) ∧ Pv i out H', ⟨n, by simp, Nat.zero_le _, fun _ => rfl, [], rfl, upd_same, h0⟩, ?_⟩
  rintro i m σ' H' ⟨rfl, hi, hσ, out, ho, ha, p⟩
  by_cases hlt : i < n
  · refine .inr ⟨hlt, fun σ3 => ∀ v, σ3.set k (some v) = σ2.set k (some v), fun v H4 => H4 acc = some (.lst out) ∧ Pv (i + 1) (out ++ [v]) (upd H4 acc (.lst (out ++ [v]))), fun σ3 v H4 hS ⟨a, b⟩ => ?_, fun x H1 y => ?_⟩
    · refine ⟨out, a, ?_, n - (i + 1), by omega, rfl, hlt, hS, out ++ [v], by rw [List.length_append, ho]; rfl, upd_same, b⟩
      have : sizeLine = 16777216 := sizeLine_eq
      omega
    · obtain ⟨e, y⟩ := y
      subst e y
      refine ⟨fun v => by rw [List.set_set]; exact hσ v, ?_⟩
      have q := hs i out _ hlt ho ha p
      rw [← hσ] at q
      exact q
  · have e : i = n := by omega
    subst e
    exact .inl ⟨Nat.le_refl _, hd out H' ho ha p⟩
theorem comp_list {K : PySem.W.Frag} {a : Addr} {xs : List V} {k : Nat} {te : TE} {σ2 : St} {H : Hp} {acc : Addr} {Q : VK} (Pv : Nat → List V → Hp → Prop) (hn : xs.length ≤ 100000) (h0 : Pv 0 [] (upd H acc (.lst [])))
    (hl : ∀ (i : Nat) (out : List V) (H1 : Hp), i ≤ xs.length → H1 acc = some (.lst out) → Pv i out H1 → SqL K H1 a xs)
    (hs : ∀ (i : Nat) (x : V) (out : List V) (H1 : Hp), xs[i]? = some x → out.length = i → H1 acc = some (.lst out) → Pv i out H1 → te (σ2.set k (some x)) H1 fun v H4 => H4 acc = some (.lst out) ∧ Pv (i + 1) (out ++ [v]) (upd H4 acc (.lst (out ++ [v]))))
    (hd : ∀ (out : List V) (H1 : Hp), out.length = xs.length → H1 acc = some (.lst out) → Pv xs.length out H1 → Q (.ref acc) H1) :
    CompG (Itl K a) (gName k) te acc σ2 H Q := by
  refine ⟨fun i m σ' H' => m = xs.length - i ∧ i ≤ xs.length ∧ (∀ v, σ'.set k (some v) = σ2.set k (some v)) ∧ ∃ out, out.length = i ∧ H' acc = some (.lst out) ∧ Pv i out H', ⟨xs.length, by simp, Nat.zero_le _, fun _ => rfl, [], rfl, upd_same, h0⟩, ?_⟩
  rintro i m σ' H' ⟨rfl, hi, hσ, out, ho, ha, p⟩
  have q := hl i out H' hi ha p
  by_cases hlt : i < xs.length
  · refine .inr ⟨⟨xs, xs[i], q, by simp [hlt]⟩, fun σ3 => ∀ v, σ3.set k (some v) = σ2.set k (some v), fun v H4 => H4 acc = some (.lst out) ∧ Pv (i + 1) (out ++ [v]) (upd H4 acc (.lst (out ++ [v]))), fun σ3 v H4 hS ⟨a, b⟩ => ?_, fun x H1 y => ?_⟩
    · refine ⟨out, a, ?_, xs.length - (i + 1), by omega, rfl, hlt, hS, out ++ [v], by rw [List.length_append, ho]; rfl, upd_same, b⟩
      have : sizeLine = 16777216 := sizeLine_eq
      omega
    · obtain ⟨e, y⟩ := y
      subst e
      refine ⟨fun v => by rw [List.set_set]; exact hσ v, ?_⟩
      have q2 := hs i x out _ (y xs q) ho ha p
      rw [← hσ] at q2
      exact q2
  · have e : i = xs.length := by omega
    subst e
    exact .inl ⟨⟨xs, q, Nat.le_refl _⟩, hd out H' ho ha p⟩
theorem Same.upd_new {H H' : Hp} {p : Addr} (e : Same H H') (h : H p = none) (o : HO) : Same H (upd H' p o) := fun b u q => by rw [upd_ne (ne_of_none q h)]; exact e b u q
end L2
namespace L2
open PySem PySem.Spec PyProof.Rows
end L2
namespace L2
open PySem PySem.Spec PyProof.Rows
end L2
namespace L2
open PySem PySem.Spec PyProof.Rows
section
variable {X : Cx}
theorem call_all (hc : X.calm = true) : CallR X (.builtin "all") (fun xs H Q => ∃ (a : Addr) (bs : List Bool), xs = [.ref a] ∧ SqL X.K H a (bs.map V.bl) ∧ Q (.bl (bs.all id)) H) := by
  intro pins s σ H xs us Q I r h
  obtain ⟨a, bs, rfl, hS, q⟩ := h
  obtain ⟨u, rfl, ru⟩ := vals1 r
  cases ru
  obtain ⟨its, rv, p, hz⟩ := I.list hS
  have hl := p.isList
  obtain ⟨o, ho, _⟩ := id hl
  have hne : a ≠ s.heap.objs.size := Nat.ne_of_lt (Heap.lt_size ho)
  have hln : its.length = bs.length := by rw [← rv.length, List.length_map]
  refine call_all_walk (wpAny_pyIter_list hl ?_)
  refine ⟨s.heap.objs.size, _, _, _, _, _, fun i => bs.getD i false, rfl, Walks.list (prog := X.prog) (w := X.w) (A := X.A.in1) (I.ok.hd hc) s.heap.objs.size a hne its.toArray, ⟨⟨_, Heap.get?_push_size _ rfl, rfl, rfl⟩, hl.at fun o e => Heap.get?_push_of_some _ e⟩, fun i v s' Q' E' hP hQ => ?_, fun h' tk hk => ?_⟩
  · have hP' : its[i]? = some v := by simpa using hP
    have hil : i < bs.length := by
      have := (List.getElem?_eq_some_iff.mp hP').1
      omega
    obtain ⟨u, hu, ru⟩ := rv.get (i := i) (x := V.bl bs[i]) (by rw [List.getElem?_map, List.getElem?_eq_getElem hil]; rfl)
    rw [hP'] at hu
    cases hu
    have e : v = Value.bool bs[i] := ru
    subst e
    refine wpAny_truthy_bool ?_
    have hQ2 : Q' (bs.getD i false) s' := hQ
    rw [List.getD_eq_getElem?_getD, List.getElem?_eq_getElem hil] at hQ2
    exact hQ2
  · have hsz : its.toArray.size = bs.length := by rw [List.size_toArray, hln]
    have e : (List.range its.toArray.size).all (fun i => bs.getD i false) = bs.all id := by
      rw [hsz, Bool.eq_iff_iff, List.all_eq_true, List.all_eq_true]
      refine ⟨fun z x hx => ?_, fun z i hi => ?_⟩
      · obtain ⟨i, hi, e⟩ := List.mem_iff_getElem.mp hx
        have := z i (List.mem_range.mpr hi)
        rw [List.getD_eq_getElem?_getD, List.getElem?_eq_getElem hi] at this
        rw [← e]
        exact this
      · have hi' := List.mem_range.mp hi
        rw [List.getD_eq_getElem?_getD, List.getElem?_eq_getElem hi']
        exact z _ (List.getElem_mem hi')
    rw [e]
    exact ⟨.bl (bs.all id), H, I.kept (h' := h') (t' := tk) fun b o e => hk b o (fun hb => absurd (Heap.lt_size e) ((List.mem_singleton.mp hb) ▸ Nat.lt_irrefl _)) (Heap.get?_push_of_some _ e), rfl, q⟩
end
section
variable {X : Cx} (K : PySem.W.Frag)
theorem ix_tupK (hK : X.K = K := by rfl) : IxR X (rIxT K) := hK ▸ ix_tup
theorem ix_listK (hK : X.K = K := by rfl) : IxR X (rIxL K) := hK ▸ ix_list
theorem pi_listK {tg l : Expr} {tl : TE} (hl : PE X l tl) (hK : X.K = K := by rfl) : PI X tg l (iList K tl) := hK ▸ pi_list hl
theorem pi_tupK {tg l : Expr} {tl : TE} (hl : PE X l tl) (hK : X.K = K := by rfl) : PI X tg l (iTup K tl) := hK ▸ pi_tup hl
theorem op_eqDK (hu : X.A.units + 64 < cLine) (hK : X.K = K := by rfl) : OpR X (compareOp .Eq) (rEqD K) := hK ▸ op_eqD hu
theorem op_neDK (hu : X.A.units + 64 < cLine) (hK : X.K = K := by rfl) : OpR X (compareOp .NotEq) (rNeD K) := hK ▸ op_neD hu
theorem call_allK (hc : X.calm = true) (hK : X.K = K := by rfl) : CallR X (.builtin "all") (fun xs H Q => ∃ (a : Addr) (bs : List Bool), xs = [.ref a] ∧ SqL K H a (bs.map V.bl) ∧ Q (.bl (bs.all id)) H) := hK ▸ call_all hc
theorem call_lenK (hK : X.K = K := by rfl) : CallR X (.builtin "len") (fun xs H Q => ∃ p ys, xs = [.ref p] ∧ (SqL K H p ys ∨ SqT K H p ys) ∧ Q (.int ys.length) H) := hK ▸ call_len_seq
theorem call_isinstK (hK : X.K = K := by rfl) : CallR X (.builtin "isinstance") (fun xs H Q => ∃ x n t b, xs = [x, .ty n] ∧ TyOf K H x t ∧ PySem.W.kitOne K t (.type n) = some b ∧ Q (.bl b) H) := hK ▸ call_isinst
end
end L2
namespace L2
end L2
namespace L2
open PySem PySem.Spec PyProof.Rows
theorem zipApart_mk {n l1 l2 : Nat} (h1 : l1 < n) (h2 : l2 < n) : ZipApart (n + 4) (n + 2) (n + 3) n (n + 1) l1 l2 := by
  have nn : ∀ i j : Nat, i ≠ j → n + i ≠ n + j := fun i j h e => h (Nat.add_left_cancel e)
  have ne : ∀ (c k : Nat), c < n → c ≠ n + k := fun c k h => by omega
  exact ⟨nn 2 4 (by decide), nn 3 4 (by decide), nn 0 4 (by decide), nn 1 4 (by decide), nn 2 3 (by decide), nn 2 0 (by decide), nn 2 1 (by decide), nn 3 0 (by decide), nn 3 1 (by decide), nn 0 1 (by decide), ne _ 4 h1, ne _ 3 h1, ne _ 0 h1, ne _ 1 h1, ne _ 4 h2, ne _ 3 h2, ne _ 0 h2, ne _ 1 h2⟩
section
variable {X : Cx} {elts : List Expr} {kk : Nat} {tpos : Pos}
end
end L2
namespace L2
open PySem PySem.Spec PyProof.Rows
theorem pg_tupK (K : PySem.W.Frag) {X : Cx} {es : List Expr} {k : Nat} {t : TGs} {n : Nat} {pos : Pos} (hc : X.calm = true) (h : PGs X es t) (hK : X.K = K := by rfl)
    (hn : (assignEach es X.env).length = n := by rfl) (hst : (assignEach es X.env).findIdx? (·.1) = none := by rfl) : PG X (.Tuple es k pos) (gTup K n t) := hK ▸ pg_tup hc h hn hst
end L2
namespace L2
open PySem PySem.Spec PyProof.Rows
end L2
namespace L2
open PySem PySem.Spec PyProof.Rows
end L2
namespace L2
open PySem PySem.Spec PyProof.Rows
section
variable {X : Cx}
end
end L2
namespace L2
open PySem PySem.Spec PyProof.Rows
end L2
namespace L2
open PySem PySem.Spec PyProof.Rows
end L2
namespace L2
open PySem PySem.Spec PyProof.Rows
end L2
namespace L2
open PySem PySem.Spec PyProof.Rows
end L2
namespace L2
open PySem PySem.Spec PyProof.Rows
end L2
namespace L2
open PySem PySem.Spec PyProof.Rows
end L2
namespace L2
open PySem PySem.Spec PyProof.Rows
theorem ixN_nat {n k : Nat} (h : k < n) : ixN n (k : Int) = some k := by
  unfold ixN
  rw [if_pos (by omega), if_pos (by omega)]
  rfl
end L2
namespace L2
open PySem PySem.Spec PyProof.Rows
abbrev tx (cs : List Nat) : Str := ⟨cs.toArray⟩
theorem tx_eta (x : Str) : tx x.cps.toList = x := by cases x; rfl
theorem tx_length (cs : List Nat) : (tx cs).length = cs.length := by show cs.toArray.size = _; rw [List.size_toArray]
theorem tx_cat (a b : List Nat) : (tx a ++ tx b : Str) = tx (a ++ b) := by
  show (⟨a.toArray ++ b.toArray⟩ : Str) = _
  simp [tx]
def Its (cs : List Nat) : It := ⟨fun i _ => i < cs.length, fun i H v H' => H' = H ∧ ∃ c, cs[i]? = some c ∧ v = .str (tx [c]), fun i _ => cs.length ≤ i⟩
theorem turn_ascii {P : Program} {w : World} {K : PySem.W.Frag} {tg : Expr} (x : Str) (t : Tok) (it : Addr) : Turn P w K tg (Its x.cps.toList) [it] it (fun i h => h.IsStrIter it "str_ascii_iterator" x t i) where
  mem := by simp
  obj := fun i h st b hb => by
    have e : b = it := by simpa using hb
    subst e
    obtain ⟨o, e, c, d⟩ := st
    exact ⟨o, e, fun v z => by rw [d] at z; cases z⟩
  keep := fun i h h' st k => let ⟨o, ho, r⟩ := st; ⟨o, k it (by simp) o ho, r⟩
  item := by
    intro X hP hw hK hc i pins s σ H E I hf st hg
    subst hP hw hK
    have hi : i < x.cps.size := by have hg' : i < x.cps.toList.length := hg; simpa using hg'
    obtain ⟨f0, f1, f2, f3, f4, f5⟩ := hf it (by simp)
    refine wpAny_pyNext_ascii_item st (c := x.cps[i]) (by simp [hi]) fun h' st' sb => ?_
    have I1 : Inv X pins σ H { s with heap := h', toks := s.toks + 1 } := I.turned (t' := s.toks + 1) (fun b o hb e => sb.extBut b o hb e) f0 f1 f3 f4 f5
    obtain ⟨o, e, c, d⟩ := id st'
    exact ⟨_, rfl, go_of (s := { s with heap := h', toks := s.toks + 1 }) e c d (by decide) ⟨.str (tx [x.cps[i]]), H, I1, ⟨_, rfl⟩, ⟨rfl, x.cps[i], by simp [hi], rfl⟩, st', fun b hb => (hf b hb).1⟩⟩
  done := by
    intro X hP hw hK hc i pins s σ H E I hf st hg
    subst hP hw hK
    have hi : x.cps.size ≤ i := by have hg' : x.cps.toList.length ≤ i := hg; simpa using hg'
    obtain ⟨f0, f1, f2, f3, f4, f5⟩ := hf it (by simp)
    exact wpAny_pyNext_ascii_end (I.ok.hd hc) st (by simp; omega) fun h' eb => ⟨rfl, I.turned (t' := s.toks) (fun b o hb e => eb b o hb e) f0 f1 f3 f4 f5⟩
  self := fun _ _ _ _ _ st h => wpAny_pyIter_striter_ascii st h
theorem turn_wide {P : Program} {w : World} {K : PySem.W.Frag} {tg : Expr} (x : Str) (t : Tok) (it : Addr) : Turn P w K tg (Its x.cps.toList) [it] it (fun i h => h.IsStrIter it "str_iterator" x t i) where
  mem := by simp
  obj := fun i h st b hb => by
    have e : b = it := by simpa using hb
    subst e
    obtain ⟨o, e, c, d⟩ := st
    exact ⟨o, e, fun v z => by rw [d] at z; cases z⟩
  keep := fun i h h' st k => let ⟨o, ho, r⟩ := st; ⟨o, k it (by simp) o ho, r⟩
  item := by
    intro X hP hw hK hc i pins s σ H E I hf st hg
    subst hP hw hK
    have hi : i < x.cps.size := by have hg' : i < x.cps.toList.length := hg; simpa using hg'
    obtain ⟨f0, f1, f2, f3, f4, f5⟩ := hf it (by simp)
    refine wpAny_pyNext_wide_item st (c := x.cps[i]) (by simp [hi]) fun h' st' sb => ?_
    have I1 : Inv X pins σ H { s with heap := h', toks := s.toks + 1 } := I.turned (t' := s.toks + 1) (fun b o hb e => sb.extBut b o hb e) f0 f1 f3 f4 f5
    obtain ⟨o, e, c, d⟩ := id st'
    exact ⟨_, rfl, go_of (s := { s with heap := h', toks := s.toks + 1 }) e c d (by decide) ⟨.str (tx [x.cps[i]]), H, I1, ⟨_, rfl⟩, ⟨rfl, x.cps[i], by simp [hi], rfl⟩, st', fun b hb => (hf b hb).1⟩⟩
  done := by
    intro X hP hw hK hc i pins s σ H E I hf st hg
    subst hP hw hK
    have hi : x.cps.size ≤ i := by have hg' : x.cps.toList.length ≤ i := hg; simpa using hg'
    obtain ⟨f0, f1, f2, f3, f4, f5⟩ := hf it (by simp)
    exact wpAny_pyNext_wide_end (I.ok.hd hc) st (by simp; omega) fun h' eb => ⟨rfl, I.turned (t' := s.toks) (fun b o hb e => eb b o hb e) f0 f1 f3 f4 f5⟩
  self := fun _ _ _ _ _ st h => wpAny_pyIter_striter_wide st h
section
variable {X : Cx} {tg : Expr}
def iStr (te : TE) : TI := fun σ H R => te σ H fun x H1 => ∃ cs : List Nat, x = .str (tx cs) ∧ R (Its cs) H1
theorem pi_str {l : Expr} {tl : TE} (hl : PE X l tl) : PI X tg l (iStr tl) := by
  intro pins s σ H R I h
  refine thn (hl pins s σ H _ I h) fun v s1 ⟨x, H1, I1, r1, q1⟩ => ?_
  obtain ⟨cs, e, q⟩ := q1
  subst e
  obtain ⟨t, rfl⟩ := r1
  have fp : ∀ b ∈ [s1.heap.objs.size], FpOk X pins H1 b := fun b hb => by
    have e : b = s1.heap.objs.size := by simpa using hb
    subst e
    exact I1.fpOk (Nat.le_refl _) (I1.hok.fresh (Nat.le_refl _))
  have tw := @turn_wide X.prog X.w X.K tg (tx cs) t s1.heap.objs.size
  have ta := @turn_ascii X.prog X.w X.K tg (tx cs) t s1.heap.objs.size
  cases ha : (tx cs).cps.all (· < 128)
  · exact wpAny_pyIter_wide ha ⟨s1.heap.objs.size, [s1.heap.objs.size], _, _, H1, rfl, I1.kept (t' := s1.toks) fun b o e => Heap.get?_push_of_some _ e, tw, ⟨_, Heap.get?_push_size _ rfl, rfl, rfl⟩, fp, q⟩
  · exact wpAny_pyIter_ascii ha ⟨s1.heap.objs.size, [s1.heap.objs.size], _, _, H1, rfl, I1.kept (t' := s1.toks) fun b o e => Heap.get?_push_of_some _ e, ta, ⟨_, Heap.get?_push_size _ rfl, rfl, rfl⟩, fp, q⟩
theorem for_str {cs : List Nat} {g : TG} {tb : TS} {D : Ends} {σ : St} {H : Hp} (Pv : Nat → St → Hp → Prop) (h0 : Pv 0 σ H)
    (hs : ∀ i c σ H, cs[i]? = some c → Pv i σ H → g (.str (tx [c])) σ H fun σ2 H2 => tb { D with nx := Pv (i + 1), ct := Pv (i + 1), bk := D.nx } σ2 H2) (hd : ∀ σ H, Pv cs.length σ H → D.nx σ H) :
    ∃ W : Nat → Nat → St → Hp → Prop, (∃ m, W 0 m σ H) ∧ ∀ i m σ H, W i m σ H →
      ((Its cs).stop i H ∧ D.nx σ H) ∨ ((Its cs).go i H ∧ ∃ N : St → Hp → Prop, (∀ σ' H', N σ' H' → ∃ m', m' < m ∧ W (i + 1) m' σ' H') ∧ ∀ x H', (Its cs).yld i H x H' → g x σ H' fun σ2 H2 => tb { D with nx := N, ct := N, bk := D.nx } σ2 H2) := by
  refine ⟨fun i m σ H => m = cs.length - i ∧ i ≤ cs.length ∧ Pv i σ H, ⟨cs.length, by simp, Nat.zero_le _, h0⟩, ?_⟩
  rintro i m σ H ⟨rfl, hi, p⟩
  by_cases hlt : i < cs.length
  · refine .inr ⟨hlt, fun σ' H' => Pv (i + 1) σ' H', fun σ' H' q => ⟨cs.length - (i + 1), by omega, rfl, hlt, q⟩, ?_⟩
    rintro x H' ⟨rfl, c, hc, rfl⟩
    exact hs i c σ _ hc p
  · have e : i = cs.length := by omega
    subst e
    exact .inl ⟨Nat.le_refl _, hd σ H p⟩
theorem comp_str {cs : List Nat} {k : Nat} {te : TE} {σ2 : St} {H : Hp} {acc : Addr} {Q : VK} (Pv : Nat → List V → Hp → Prop) (hn : cs.length ≤ 100000) (h0 : Pv 0 [] (upd H acc (.lst [])))
    (hs : ∀ (i : Nat) (c : Nat) (out : List V) (H1 : Hp), cs[i]? = some c → out.length = i → H1 acc = some (.lst out) → Pv i out H1 → te (σ2.set k (some (.str (tx [c])))) H1 fun v H4 => H4 acc = some (.lst out) ∧ Pv (i + 1) (out ++ [v]) (upd H4 acc (.lst (out ++ [v]))))
    (hd : ∀ (out : List V) (H1 : Hp), out.length = cs.length → H1 acc = some (.lst out) → Pv cs.length out H1 → Q (.ref acc) H1) :
    CompG (Its cs) (gName k) te acc σ2 H Q := by
  refine ⟨fun i m σ' H' => m = cs.length - i ∧ i ≤ cs.length ∧ (∀ v, σ'.set k (some v) = σ2.set k (some v)) ∧ ∃ out, out.length = i ∧ H' acc = some (.lst out) ∧ Pv i out H', ⟨cs.length, by simp, Nat.zero_le _, fun _ => rfl, [], rfl, upd_same, h0⟩, ?_⟩
  rintro i m σ' H' ⟨rfl, hi, hσ, out, ho, ha, p⟩
  by_cases hlt : i < cs.length
  · refine .inr ⟨hlt, fun σ3 => ∀ v, σ3.set k (some v) = σ2.set k (some v), fun v H4 => H4 acc = some (.lst out) ∧ Pv (i + 1) (out ++ [v]) (upd H4 acc (.lst (out ++ [v]))), fun σ3 v H4 hS ⟨a, b⟩ => ?_, fun x H1 y => ?_⟩
    · refine ⟨out, a, ?_, cs.length - (i + 1), by omega, rfl, hlt, hS, out ++ [v], by rw [List.length_append, ho]; rfl, upd_same, b⟩
      have : sizeLine = 16777216 := sizeLine_eq
      omega
    · obtain ⟨e, c, hc, ex⟩ := y
      subst e ex
      refine ⟨fun v => by rw [List.set_set]; exact hσ v, ?_⟩
      have q2 := hs i c out _ hc ho ha p
      rw [← hσ] at q2
      exact q2
  · have e : i = cs.length := by omega
    subst e
    exact .inl ⟨Nat.le_refl _, hd out H' ho ha p⟩
def cutN (cs : List Nat) (lo hi : Option Int) : List Nat := (cs.drop (HT.sIx cs.length 0 lo)).take (HT.sIx cs.length cs.length hi - HT.sIx cs.length 0 lo)
theorem cutN_length (cs : List Nat) (lo hi : Option Int) : (cutN cs lo hi).length ≤ cs.length := by
  unfold cutN
  rw [List.length_take, List.length_drop]
  omega
theorem picked_cut (cs : List Nat) (lo hi : Option Int) : Builtin.Str.strSliceIndices lo hi 1 cs.length = (List.range (HT.sIx cs.length cs.length hi - HT.sIx cs.length 0 lo)).map (HT.sIx cs.length 0 lo + ·) := by
  rw [← sliceRange_one]
  unfold Builtin.Str.strSliceIndices
  simp only [show ((1 : Int) > 0) = True from by simp, if_true]
  congr 1
  · cases lo with
    | none => rfl
    | some i =>
      simp only [HT.sIx]
      by_cases h : i < 0
      · simp only [h, if_true] <;> omega
      · simp only [h, if_false] <;> omega
  · cases hi with
    | none => rfl
    | some i =>
      simp only [HT.sIx]
      by_cases h : i < 0
      · simp only [h, if_true] <;> omega
      · simp only [h, if_false] <;> omega
def rSlS : V → Option Int → Option Int → Hp → VK → Prop := fun x lo hi H Q => ∃ cs, x = .str (tx cs) ∧ cs.length ≤ sizeLine ∧ Q (.str (tx (cutN cs lo hi))) H
theorem sl_str : SlR X rSlS := by
  intro pins s σ H x v vl vu lo hi sl Q I rx hs pl pu h
  obtain ⟨cs, rfl, hz, q⟩ := h
  obtain ⟨t, rfl⟩ := rx
  refine ⟨"str", _, F.slot_str_getitem.lookup, typeIs_str s _ t, ?_⟩
  obtain ⟨l, rfl, el⟩ : ∃ l : Option (Int × Tok), vl = partValue l ∧ l.map (·.1) = lo := by
    cases pl with
    | none => exact ⟨none, rfl, rfl⟩
    | int i t => exact ⟨some (i, t), rfl, rfl⟩
  obtain ⟨u, rfl, eu⟩ : ∃ u : Option (Int × Tok), vu = partValue u ∧ u.map (·.1) = hi := by
    cases pu with
    | none => exact ⟨none, rfl, rfl⟩
    | int i t => exact ⟨some (i, t), rfl, rfl⟩
  refine wpAny_getItem_str_slice (l := l) (u := u) (st := none) hs rfl ?_
  have e1 : slicePicked (tx cs) l u none = (List.range (HT.sIx cs.length cs.length hi - HT.sIx cs.length 0 lo)).map (HT.sIx cs.length 0 lo + ·) := by
    unfold slicePicked
    rw [el, eu, tx_length]
    exact picked_cut cs lo hi
  have e2 : (slicePicked (tx cs) l u none).filterMap ((tx cs).cps[·]?) = cutN cs lo hi := by
    rw [e1, pick_run]
    rfl
  unfold sliceMade
  split
  · rename_i hc
    have hl : (slicePicked (tx cs) l u none).length = cs.length := by
      have := (Bool.and_eq_true_iff.mp hc).2
      rw [tx_length] at this
      simpa using this
    have hcut : cutN cs lo hi = cs := by
      rw [e1, List.length_map, List.length_range] at hl
      unfold cutN
      have h1 := HT.sIx_le cs.length cs.length (Nat.le_refl _) hi
      have h0 : HT.sIx cs.length 0 lo = 0 ∨ cs.length = 0 := by omega
      rcases h0 with h0 | h0
      · rw [h0] at hl ⊢
        rw [List.drop_zero, hl, List.take_length]
      · have : cs = [] := List.length_eq_zero_iff.mp h0
        subst this
        simp
    rw [hcut] at q
    exact ⟨.str (tx cs), H, I, ⟨t, rfl⟩, q⟩
  · show (Made.str ⟨_⟩).post _ _
    rw [e2]
    refine ⟨?_, .str (tx (cutN cs lo hi)), H, I.tok _, ⟨_, rfl⟩, q⟩
    show (tx (cutN cs lo hi)).length ≤ sizeLine
    rw [tx_length]
    exact Nat.le_trans (cutN_length cs lo hi) hz
end
theorem cutN_to (cs : List Nat) (k : Nat) : cutN cs none (some (k : Int)) = cs.take k := by
  unfold cutN
  rw [HT.sIx_none, HT.sIx_nat, List.drop_zero, Nat.sub_zero]
  rcases Nat.le_total k cs.length with h | h
  · rw [Nat.min_eq_left h]
  · rw [Nat.min_eq_right h, List.take_length, List.take_of_length_le h]
theorem cutN_from (cs : List Nat) (k : Nat) : cutN cs (some (k : Int)) none = cs.drop k := by
  unfold cutN
  rw [HT.sIx_none, HT.sIx_nat]
  rcases Nat.le_total k cs.length with h | h
  · rw [Nat.min_eq_left h]
    exact List.take_of_length_le (by rw [List.length_drop]; omega)
  · rw [Nat.min_eq_right h, List.drop_length, List.drop_of_length_le h, List.take_nil]
def inS (signs : Str) (c : Nat) : Bool := !(Builtin.Str.occurrences signs (tx [c]) 0 signs.length 1).isEmpty
def nmL (c : Int) (n : Nat) : List Nat := (List.range n).map fun i => 97 + ((c / 26 ^ i) % 26).toNat
theorem nmL_length (c : Int) (n : Nat) : (nmL c n).length = n := by unfold nmL; rw [List.length_map, List.length_range]
theorem nmL_succ (c : Int) (n : Nat) : nmL c (n + 1) = nmL c n ++ [97 + ((c / 26 ^ n) % 26).toNat] := by
  unfold nmL
  rw [List.range_succ, List.map_append]
  rfl
theorem letter_at {k : Int} (h0 : 0 ≤ k) (h1 : k < 26) : atI (("abcdefghijklmnopqrstuvwxyz" : Str).cps.toList) k = some (97 + k.toNat) := by
  have h : ∀ n : Nat, n < 26 → ("abcdefghijklmnopqrstuvwxyz" : Str).cps.toList[n]? = some (97 + n) := by decide +kernel
  have e : k = ((k.toNat : Nat) : Int) := by omega
  have := atI_nat (h k.toNat (by omega))
  rw [← e] at this
  exact this
structure spName' (vs : List V) (H : Hp) (Q : VK) (E : XK) : Prop where
  ex : ∃ (c : Int) (n : Nat), vs = [.int c, .int (n : Int)] ∧ 0 ≤ c ∧ n ≤ 1000 ∧ Q (.str (tx (nmL c n))) H
theorem use_name {H : Hp} {Q : VK} {E : XK} {c ni : Int} {n : Nat} (e : ni = (n : Int)) (hc : 0 ≤ c) (hn : n ≤ 1000) (q : Q (.str (tx (nmL c n))) H) : spName' [.int c, .int ni] H Q E := by
  subst e
  exact ⟨c, n, rfl, hc, hn, q⟩
structure spMadeOf (vs : List V) (H : Hp) (Q : VK) (E : XK) : Prop where
  ex : ∃ (cs : List Nat) (signs : Str), vs = [.str (tx cs), .str signs] ∧ cs.length ≤ 100000 ∧ ∀ H', Same H H' → Q (.bl (cs.all (inS signs))) H'
theorem use_madeof {H : Hp} {Q : VK} {E : XK} {cs : List Nat} {signs : Str} (hl : cs.length ≤ 100000) (q : ∀ H', Same H H' → Q (.bl (cs.all (inS signs))) H') : spMadeOf [.str (tx cs), .str signs] H Q E := ⟨cs, signs, rfl, hl, q⟩
def isName (cs : List Nat) : Bool := decide (1 ≤ (cs.length : Int)) && decide ((cs.length : Int) ≤ 8) && cs.all (inS "abcdefghijklmnopqrstuvwxyz")
structure spIsName (vs : List V) (H : Hp) (Q : VK) (E : XK) : Prop where
  ex : ∃ (cs : List Nat), vs = [.str (tx cs)] ∧ cs.length ≤ 100000 ∧ ∀ H', Same H H' → Q (.bl (isName cs)) H'
theorem use_isname {H : Hp} {Q : VK} {E : XK} {cs : List Nat} (hl : cs.length ≤ 100000) (q : ∀ H', Same H H' → Q (.bl (isName cs)) H') : spIsName [.str (tx cs)] H Q E := ⟨cs, rfl, hl, q⟩
structure spSign (vs : List V) (H : Hp) (Q : VK) (E : XK) : Prop where
  ex : ∃ k : Int, vs = [.int k] ∧ ∀ c : Nat, Q (.str (tx [c])) H
theorem use_sign {H : Hp} {Q : VK} {E : XK} {k : Int} (q : ∀ c : Nat, Q (.str (tx [c])) H) : spSign [.int k] H Q E := ⟨k, rfl, q⟩
end L2
namespace L2
open PySem PySem.Spec PyProof.Rows
section
variable {prog : Program} {w : World} {A : Around} {R : Result → Shared → Prop} {s : Shared}
end
section
variable {X : Cx}
end
end L2
namespace L2
open PySem PySem.Spec PyProof.Rows
theorem nodup_le {α : Type} [DecidableEq α] : ∀ {l m : List α}, l.Nodup → (∀ x ∈ l, x ∈ m) → l.length ≤ m.length
  | [], _, _, _ => Nat.zero_le _
  | x :: r, m, h, hs => by
    have hn := List.nodup_cons.mp h
    have hx := hs x List.mem_cons_self
    have := nodup_le (l := r) (m := m.erase x) hn.2 fun y hy => by
      have hne : y ≠ x := fun e => hn.1 (e ▸ hy)
      exact (List.mem_erase_of_ne hne).mpr (hs y (List.mem_cons_of_mem _ hy))
    rw [List.length_erase_of_mem hx] at this
    have hp : 0 < m.length := List.length_pos_of_mem hx
    rw [List.length_cons]
    omega
theorem nmL_at (c : Int) {n i : Nat} (h : i < n) : (nmL c n)[i]? = some (97 + ((c / 26 ^ i) % 26).toNat) := by
  unfold nmL
  rw [List.getElem?_map, List.getElem?_range h]
  rfl
theorem nmL_fig {c c' : Int} {n d : Nat} (h : d < n) (e : nmL c n = nmL c' n) : (c / 26 ^ d) % 26 = (c' / 26 ^ d) % 26 := by
  have h1 := nmL_at c h
  rw [e, nmL_at c' h] at h1
  have h2 := Option.some.inj h1
  have a0 : 0 ≤ (c / 26 ^ d) % 26 := Int.emod_nonneg _ (by decide)
  have b0 : 0 ≤ (c' / 26 ^ d) % 26 := Int.emod_nonneg _ (by decide)
  omega
structure NameOk (x : List Nat) : Prop where
  lo : 1 ≤ x.length
  hi : x.length ≤ 8
  letters : ∀ c ∈ x, 97 ≤ c ∧ c < 123
theorem nmL_ok (c : Int) {n : Nat} (h1 : 1 ≤ n) (h2 : n ≤ 8) : NameOk (nmL c n) := by
  refine ⟨by rw [nmL_length]; exact h1, by rw [nmL_length]; exact h2, fun x hx => ?_⟩
  obtain ⟨i, _, rfl⟩ := List.mem_map.mp hx
  have a0 : 0 ≤ (c / 26 ^ i) % 26 := Int.emod_nonneg _ (by decide)
  have a1 : (c / 26 ^ i) % 26 < 26 := Int.emod_lt_of_pos _ (by decide)
  omega
def txs (nss : List (List Nat)) : List V := nss.map fun x => V.str (tx x)
theorem txs_flat (nss : List (List Nat)) : (txs nss).all flatV = true := by
  unfold txs
  rw [List.all_map, List.all_eq_true]
  exact fun _ _ => rfl
theorem tx_inj {a b : List Nat} (h : tx a = tx b) : a = b := by
  have : a.toArray = b.toArray := by injection h
  simpa using this
theorem inV_txs (x : List Nat) (nss : List (List Nat)) : inV (.str (tx x)) (txs nss) = decide (x ∈ nss) := by
  unfold inV txs
  rw [List.any_map, Bool.eq_iff_iff, List.any_eq_true, decide_eq_true_eq]
  constructor
  · rintro ⟨y, hy, e⟩
    have e2 : eqV (.str (tx y)) (.str (tx x)) = true := e
    have e3 : tx y = tx x := by
      unfold eqV at e2
      simpa using e2
    rw [← tx_inj e3]
    exact hy
  · intro h
    refine ⟨x, h, ?_⟩
    show eqV (.str (tx x)) (.str (tx x)) = true
    unfold eqV
    simp
end L2
namespace L2
open PySem PySem.Spec PyProof.Rows
abbrev Pr := List Nat × Int
abbrev prO (p : Pr) : HO := .tup [.str (tx p.1), .int p.2]
inductive Prs (H : Hp) : List V → List Pr → Prop
  | nil : Prs H [] []
  | cons {r : Addr} {p : Pr} {vs : List V} {ps : List Pr} : H r = some (prO p) → Prs H vs ps → Prs H (.ref r :: vs) (p :: ps)
theorem Prs.mono {H H' : Hp} {vs : List V} {ps : List Pr} (h : Prs H vs ps) (g : Same H H') : Prs H' vs ps := by
  induction h with
  | nil => exact .nil
  | cons e _ ih => exact .cons (g _ _ e) ih
theorem Prs.upd_lst {H : Hp} {vs : List V} {ps : List Pr} {a : Addr} {xs ys : List V} (h : Prs H vs ps) (ha : H a = some (.lst xs)) : Prs (upd H a (.lst ys)) vs ps := by
  induction h with
  | nil => exact .nil
  | cons e _ ih => exact .cons (by rw [upd_ne (ne_of e ha (by intro z; cases z))]; exact e) ih
theorem Prs.length {H : Hp} {vs : List V} {ps : List Pr} (h : Prs H vs ps) : vs.length = ps.length := by
  induction h with
  | nil => rfl
  | cons _ _ ih => simp [ih]
theorem Prs.snoc {H : Hp} {vs : List V} {ps : List Pr} {r : Addr} {p : Pr} (h : Prs H vs ps) (e : H r = some (prO p)) : Prs H (vs ++ [.ref r]) (ps ++ [p]) := by
  induction h with
  | nil => exact .cons e .nil
  | cons e2 _ ih => exact .cons e2 ih
theorem Prs.get {H : Hp} {vs : List V} {ps : List Pr} (h : Prs H vs ps) : ∀ {i : Nat} {v : V}, vs[i]? = some v → ∃ r p, v = .ref r ∧ ps[i]? = some p ∧ H r = some (prO p) := by
  induction h with
  | nil => intro i v e; simp at e
  | @cons r p vs ps e _ ih =>
    intro i v ev
    cases i with
    | zero => simp at ev; subst ev; exact ⟨r, p, rfl, rfl, e⟩
    | succ i => simp at ev; obtain ⟨r', p', a, b, c⟩ := ih ev; exact ⟨r', p', a, by simpa using b, c⟩
theorem Prs.getQ {H : Hp} {vs : List V} {ps : List Pr} (h : Prs H vs ps) : ∀ {i : Nat} {p : Pr}, ps[i]? = some p → ∃ r, vs[i]? = some (.ref r) ∧ H r = some (prO p) := by
  induction h with
  | nil => intro i v e; simp at e
  | @cons r p vs ps e _ ih =>
    intro i v ev
    cases i with
    | zero => simp at ev; subst ev; exact ⟨r, rfl, e⟩
    | succ i => simp at ev; obtain ⟨r', a, c⟩ := ih ev; exact ⟨r', by simpa using a, c⟩
theorem eqv_str (x : Str) : PyData.eqv (.str x) (.str x) = true := by unfold PyData.eqv; exact beq_self_eq_true x
theorem eqv_int (i : Int) : PyData.eqv (.int i) (.int i) = true := by unfold PyData.eqv; exact beq_self_eq_true i
end L2
namespace L2
open PySem PySem.Spec PyProof.Rows
end L2
namespace L2
open PySem PySem.Spec PyProof.Rows PySem.NumText
def keysOk (es : Array DictEntry) : Bool := es.toList.all (fun e => match e.key with | .str _ _ => true | _ => false) && (nsFind es "sys.int_max_str_digits").isNone
def digOk (K : PySem.W.Frag) : Bool := match K.lookup cStatics with
  | some ⟨_, _, .dict es _, _⟩ => keysOk es
  | _ => false
theorem digOk_of {K : PySem.W.Frag} {oc : Value} {od : Option Addr} {es : Array DictEntry} {n : Nat} {sl : Array (Option Value)} (e : K.lookup cStatics = some ⟨oc, od, .dict es n, sl⟩) (h : keysOk es = true) : digOk K = true := by
  unfold digOk
  rw [e]
  exact h
theorem noDigits_of {K : PySem.W.Frag} {h : Heap} (X : K.In h) (e : digOk K = true) : h.NoDigits := by
  unfold digOk at e
  split at e
  · rename_i c d es n sl q
    have ho := X _ _ q
    unfold keysOk at e
    obtain ⟨e1, e2⟩ := Bool.and_eq_true_iff.mp e
    refine ⟨nsFind es, ⟨_, es, n, ho, rfl, fun x hx => ?_, fun _ => rfl⟩, by simpa using e2⟩
    have := List.all_eq_true.mp e1 x (by simpa using hx)
    split at this
    · exact ⟨_, _, by assumption⟩
    · cases this
  · cases e
theorem wp_limit {M : Model} {A : Around} {E : Value → Shared → Prop} {s : Shared} {Q : Nat → Shared → Prop} (hn : s.heap.NoDigits) (h : Q 4300 s) : wpAny M A Builtin.intMaxStrDigits Q E s := by
  obtain ⟨mc, hns, hnone⟩ := hn
  unfold Builtin.intMaxStrDigits
  refine wpAny_bind (wpAny_nsGet hns ?_)
  rw [hnone]
  exact wpAny_pure h
theorem wp_textL {M : Model} {A : Around} {E : Value → Shared → Prop} {s : Shared} {Q : Value → Shared → Prop} {v : Value} {text : List Nat} {n : Int}
    (hs : ¬ (text.takeWhile (· != 0)).length ≤ 640) (hn : s.heap.NoDigits) (hr : (int_private% "readNumeral") 4300 10 (text.takeWhile (· != 0)) = (int_private% "Numeral.value") n)
    (ha : ((text.takeWhile (· != 0)).length == text.length) = true) (h : Q (.int n s.toks) { s with toks := s.toks + 1 }) :
    wpAny M A ((int_private% "intFromText") v text 10) Q E s := by
  obtain ⟨hp, g, d, tk, os⟩ := s
  repeat (any_goals (first
    | assumption
    | (with_reducible refine wpAny_ite_false (decide_eq_false hs) ?_)
    | (with_reducible refine wp_limit hn ?_)
    | (with_reducible refine wpAny_bind (wp_limit hn ?_))
    | (with_reducible refine wpAny_ite_true (decide_eq_true ha) ?_)
    | wp_step))
  all_goals (try rw [hr])
  all_goals (try dsimp only)
  repeat (any_goals (first
    | assumption
    | (with_reducible refine wpAny_ite_true (decide_eq_true ha) ?_)
    | wp_step))
theorem meets_textL {x : PySem.Str} {u : Tok} {n : Int} (hx : x.length ≤ sizeLine) (hl : ¬ (numSeenOf x).length ≤ 640) (hn : PySem.intText? x = some n) :
    Meets (Builtin.«int.__new__» ⟨[.type "int", .str x u], []⟩) (fun A R s => s.heap.NoDigits ∧ (Made.int n).post (fun v s' => R (.ok (.ret v)) s') s) := by
  intro prog w A R s hq
  obtain ⟨hnd, h⟩ := hq
  obtain ⟨hp, g, d, tk, os⟩ := s
  have f1 := F.conv_sub_int
  have f2 := F.madeHere_int
  have f3 := PySem.W.KIN.str_int
  have f4 := PySem.W.KIN.str_idx
  have f5 := PySem.W.KIN.str_trunc
  have f6 : typeOf (.str x u) = pure (.type "str") := rfl
  have hr : (int_private% "readNumeral") 4300 10 (numSeenOf x) = (int_private% "Numeral.value") n ∧ ((numSeenOf x).length == (numTextOf x).length) = true := by
    have e : numLimitOf x = 4300 := if_neg hl
    rcases readAny x hx with ⟨m, h1, h2, h3⟩ | ⟨h1, _⟩
    · rw [hn] at h1
      injection h1 with h1
      subst h1
      rw [e] at h3
      exact ⟨h3, h2⟩
    · rw [hn] at h1
      cases h1
  have hk := PySem.W.KIN.Hid.mk (And.intro hl hr)
  have hd := PySem.W.KIN.Hid.mk hnd
  clear hl hr hn hnd
  repeat (any_goals (first
    | assumption
    | ((with_reducible show wpAny _ _ ((int_private% "intFromText") _ _ _) _ _ _); refine wp_textL hk.out.1 hd.out hk.out.2.1 hk.out.2.2 ?_)
    | wp_step))
  all_goals first | exact h | skip
theorem takeWhile_all {α : Type} {p : α → Bool} : ∀ {l : List α}, (∀ x ∈ l, p x = true) → l.takeWhile p = l
  | [], _ => rfl
  | x :: r, h => by rw [List.takeWhile_cons, if_pos (h x List.mem_cons_self), takeWhile_all fun y hy => h y (List.mem_cons_of_mem _ hy)]
theorem seen_digits {cs : List Nat} (hd : AllDigits cs) : numSeenOf (tx cs) = cs := by
  have e1 : numTextOf (tx cs) = cs := by
    have : (tx cs).cps.all (· < 128) = true := by
      rw [Array.all_eq_true']
      intro c hc
      have := hd c (by simpa using hc)
      exact decide_eq_true (by omega)
    show (if (tx cs).cps.all (· < 128) then (tx cs).cps.toList else _) = cs
    rw [if_pos this]
  show (numTextOf (tx cs)).takeWhile (· != 0) = cs
  rw [e1]
  exact takeWhile_all fun c hc => by have := hd c hc; simp; omega
section
variable {X : Cx}
theorem call_int_text (hc : X.calm = true) (hz : digOk X.K = true) : CallR X (.type "int") (fun xs H Q => ∃ (cs : List Nat), xs = [.str (tx cs)] ∧ AllDigits cs ∧ cs ≠ [] ∧ cs.length ≤ 4300 ∧ Q (.int ((digitsVal cs : Nat) : Int)) H) := by
  intro pins s σ H xs us Q I r h
  obtain ⟨cs, rfl, hd, hne, hl, q⟩ := h
  obtain ⟨u, rfl, t, rfl⟩ := vals1 r
  have e := intText_digits (x := tx cs) (by simpa using hd) (by simpa using hne) (by rw [tx_length]; exact hl)
  have e' : PySem.intText? (tx cs) = some ((digitsVal cs : Nat) : Int) := by simpa using e
  by_cases h6 : (tx cs).length ≤ 640
  · exact PySem.W.KIN.call_text e' h6 ⟨.int _, H, I.tok _, ⟨_, rfl⟩, q⟩
  · have hx : (tx cs).length ≤ sizeLine := by rw [tx_length, sizeLine_eq]; omega
    by_cases hs : (numSeenOf (tx cs)).length ≤ 640
    · rw [seen_digits hd, ← tx_length] at hs
      exact absurd hs h6
    · exact call_int_1 (meets_textL hx hs e') ⟨noDigits_of I.kIn hz, rfl, ⟨.int _, H, I.tok _, ⟨_, rfl⟩, q⟩⟩
end
end L2
namespace L2
open PySem PySem.Spec PyProof.Rows PySem.NumText
def Itrs (lo st : Int) (n : Nat) : It := ⟨fun i _ => i < n, fun i H x H' => H' = H ∧ x = .int (lo + i * st), fun i _ => n ≤ i⟩
theorem turn_rangeS {P : Program} {w : World} {K : PySem.W.Frag} {tg : Expr} (it : Addr) (lo st : Int) (n : Nat) : Turn P w K tg (Itrs lo st n) [it] it (fun i h => IsRangeIter h it (lo + (i : Nat) * st) ((n : Int) - (i : Nat)) st) where
  mem := by simp
  obj := fun i h st b hb => by
    have e : b = it := by simpa using hb
    subst e
    exact ⟨_, st, fun v z => by
      have z' : Data.fields _ = Data.cell v := z
      cases z'⟩
  keep := fun i h h' st k => k it (by simp) _ st
  item := by
    intro X hP hw hK hc i pins s σ H E I hf st' hg
    subst hP hw hK
    obtain ⟨f0, f1, f2, f3, f4, f5⟩ := hf it (by simp)
    have W := Walks.range (prog := X.prog) (w := X.w) (I.ok.hd hc) it lo st n
    refine W.item i s _ _ hg st' fun v h' tk hv st2 kk => ?_
    obtain ⟨t, rfl⟩ := hv
    have I1 : Inv X pins σ H { s with heap := h', toks := tk } := I.turned (fun b o hb e => kk b o (by simpa using hb) e) f0 f1 f3 f4 f5
    exact ⟨_, rfl, go_of (s := { s with heap := h', toks := tk }) (n := "range_iterator") st2 rfl rfl (by decide) ⟨.int (lo + i * st), H, I1, ⟨t, rfl⟩, ⟨rfl, rfl⟩, st2, fun b hb => (hf b hb).1⟩⟩
  done := by
    intro X hP hw hK hc i pins s σ H E I hf st' hg
    subst hP hw hK
    obtain ⟨f0, f1, f2, f3, f4, f5⟩ := hf it (by simp)
    exact wpAny_pyNext_range_end (I.ok.hd hc) st' (by have : n ≤ i := hg; omega) fun h' eb => ⟨rfl, I.turned (t' := s.toks) (fun b o hb e => eb b o hb e) f0 f1 f3 f4 f5⟩
  self := fun _ _ _ _ _ st h => wpAny_pyIter_rangeiter st h
section
variable {X : Cx} {tg : Expr}
def stepsTo (lo hi st : Int) : Nat := (Builtin.Range.rangeSize lo hi st).toNat
def iRng3 (ta : TA) : TI := fun σ H R => ta σ H fun vs H1 => ∃ i j k : Int, vs = [.int i, .int j, .int k] ∧ (0 ≤ i ∧ i ≤ 1000000 ∧ 0 ≤ j ∧ j ≤ 1000000 ∧ 0 < k ∧ k ≤ 1000000) ∧ R (Itrs i k (stepsTo i j k)) H1
theorem range_small {a b c : Int} (h1 : 0 ≤ a) (h2 : a ≤ 1000000) (h3 : 0 ≤ b) (h4 : b ≤ 1000000) (h5 : 0 < c) (h6 : c ≤ 1000000) : Builtin.Range.small a b c = true ∧ 0 ≤ Builtin.Range.rangeSize a b c := by
  have hr : 0 ≤ Builtin.Range.rangeSize a b c ∧ Builtin.Range.rangeSize a b c ≤ 1000001 := by
    unfold Builtin.Range.rangeSize
    rw [if_pos (by omega)]
    split
    · have e0 : 0 ≤ (b - a - 1) / c := Int.ediv_nonneg (by omega) (by omega)
      have e1 : (b - a - 1) / c ≤ b - a - 1 := Int.ediv_le_self _ (by omega)
      omega
    · omega
  refine ⟨?_, hr.1⟩
  unfold Builtin.Range.small
  simp only [Builtin.Range.rangeFitsLong, Bool.and_eq_true, Bool.or_eq_true, decide_eq_true_eq, beq_iff_eq, show c > 0 from h5, if_true]
  omega
theorem pi_range3 {a b c : Expr} {ta : TA} {p pos : Pos} (hg : Gl X "range") (hm : X.mg "range" = none) (ha : PA X [a, b, c] ta) (hs : starEach [a, b, c] X.env = [(false, eval a X.env), (false, eval b X.env), (false, eval c X.env)] := by rfl) (hs2 : starEach [b, c] X.env = [(false, eval b X.env), (false, eval c X.env)] := by rfl) :
    PI X tg (.Call (.Name "range" p) [a, b, c] [] pos) (iRng3 ta) := by
  intro pins s σ H R I h
  refine Call_ (ld_blt I hg hm boot_range (PyProof.Rows.callWith_type1 (thn (ha pos pins s σ H _ I h) fun us s1 ⟨vs, H1, I1, r1, q1⟩ => ?_) (by rw [hs, hs2]) (by rw [hs2]; rfl)))
  obtain ⟨i, j, k, e, ⟨q1, q2, q3, q4, q5, q6⟩, q⟩ := q1
  subst e
  cases r1 with
  | cons r rr =>
    cases rr with
    | cons r' rr =>
      cases rr with
      | cons r'' rr =>
        cases rr
        obtain ⟨t, rfl⟩ := r
        obtain ⟨t', rfl⟩ := r'
        obtain ⟨t'', rfl⟩ := r''
        obtain ⟨sm, sz⟩ := range_small q1 q2 q3 q4 q5 q6
        refine call_range_3 (by omega) ?_ (Or.inl (PyProof.noPylong_small (by omega)))
        refine wpAny_pyIter_range (IsRange.new ..) sm ?_
        have I2 : Inv X pins σ H1 { s1 with heap := s1.heap.push { cls := .type "range", data := .fields #[.int i t, .int j t', .int k t''] }, toks := s1.toks } := I1.kept fun b o e => Heap.get?_push_of_some _ e
        refine ⟨(s1.heap.push { cls := .type "range", data := .fields #[.int i t, .int j t', .int k t''] }).objs.size, [(s1.heap.push { cls := .type "range", data := .fields #[.int i t, .int j t', .int k t''] }).objs.size], _, _, H1, rfl,
          I2.kept (t' := s1.toks) fun b o e => Heap.get?_push_of_some _ e, turn_rangeS _ i k (stepsTo i j k), ?_, fun b hb => ?_, q⟩
        · have e1 : i + ((0 : Nat) : Int) * k = i := by simp
          have e2 : ((stepsTo i j k : Nat) : Int) - ((0 : Nat) : Int) = Builtin.Range.rangeSize i j k := by unfold stepsTo; omega
          show IsRangeIter _ _ (i + ((0 : Nat) : Int) * k) (((stepsTo i j k : Nat) : Int) - ((0 : Nat) : Int)) k
          rw [e1, e2]
          exact Heap.get?_push_size _ rfl
        · have e : b = (s1.heap.push { cls := .type "range", data := .fields #[.int i t, .int j t', .int k t''] }).objs.size := by simpa using hb
          subst e
          exact I2.fpOk (Nat.le_refl _) (I2.hok.fresh (Nat.le_refl _))
theorem for_rangeS {lo st : Int} {n : Nat} {g : TG} {tb : TS} {D : Ends} {σ : St} {H : Hp} (Pv : Nat → St → Hp → Prop) (h0 : Pv 0 σ H)
    (hs : ∀ i σ H, i < n → Pv i σ H → g (.int (lo + i * st)) σ H fun σ2 H2 => tb { D with nx := Pv (i + 1), ct := Pv (i + 1), bk := D.nx } σ2 H2) (hd : ∀ σ H, Pv n σ H → D.nx σ H) :
    ∃ W : Nat → Nat → St → Hp → Prop, (∃ m, W 0 m σ H) ∧ ∀ i m σ H, W i m σ H →
      ((Itrs lo st n).stop i H ∧ D.nx σ H) ∨ ((Itrs lo st n).go i H ∧ ∃ N : St → Hp → Prop, (∀ σ' H', N σ' H' → ∃ m', m' < m ∧ W (i + 1) m' σ' H') ∧ ∀ x H', (Itrs lo st n).yld i H x H' → g x σ H' fun σ2 H2 => tb { D with nx := N, ct := N, bk := D.nx } σ2 H2) := by
  refine ⟨fun i m σ H => m = n - i ∧ i ≤ n ∧ Pv i σ H, ⟨n, by simp, Nat.zero_le _, h0⟩, ?_⟩
  rintro i m σ H ⟨rfl, hi, p⟩
  by_cases hlt : i < n
  · refine .inr ⟨hlt, fun σ' H' => Pv (i + 1) σ' H', fun σ' H' q => ⟨n - (i + 1), by omega, rfl, hlt, q⟩, ?_⟩
    rintro x H' ⟨rfl, rfl⟩
    exact hs i σ _ hlt p
  · have e : i = n := by omega
    subst e
    exact .inl ⟨Nat.le_refl _, hd σ H p⟩
end
theorem fold_acc : ∀ (b : List Nat) (acc : Nat), b.foldl (fun acc c => acc * 10 + (c - 48)) acc = acc * 10 ^ b.length + b.foldl (fun acc c => acc * 10 + (c - 48)) 0
  | [], acc => by show acc = acc * 1 + 0; omega
  | c :: r, acc => by
    show r.foldl (fun acc c => acc * 10 + (c - 48)) (acc * 10 + (c - 48)) = acc * 10 ^ (r.length + 1) + r.foldl (fun acc c => acc * 10 + (c - 48)) (0 * 10 + (c - 48))
    rw [fold_acc r (acc * 10 + (c - 48)), fold_acc r (0 * 10 + (c - 48)), Nat.pow_succ, Nat.add_mul, Nat.zero_mul, Nat.zero_add]
    have : acc * 10 * 10 ^ r.length = acc * (10 ^ r.length * 10) := by rw [Nat.mul_assoc, Nat.mul_comm 10]
    omega
theorem digitsVal_append (a b : List Nat) : digitsVal (a ++ b) = digitsVal a * 10 ^ b.length + digitsVal b := by
  unfold digitsVal
  rw [List.foldl_append, fold_acc]
theorem fold_lt : ∀ (cs : List Nat) (acc : Nat), AllDigits cs → cs.foldl (fun acc c => acc * 10 + (c - 48)) acc < (acc + 1) * 10 ^ cs.length
  | [], acc, _ => by show acc < (acc + 1) * 1; omega
  | c :: r, acc, h => by
    have h1 := fold_lt r (acc * 10 + (c - 48)) fun x hx => h x (List.mem_cons_of_mem _ hx)
    have h2 := h c List.mem_cons_self
    show r.foldl (fun acc c => acc * 10 + (c - 48)) (acc * 10 + (c - 48)) < (acc + 1) * 10 ^ (r.length + 1)
    refine Nat.lt_of_lt_of_le h1 ?_
    rw [Nat.pow_succ, Nat.mul_comm (10 ^ r.length), ← Nat.mul_assoc]
    exact Nat.mul_le_mul_right _ (by omega)
theorem digitsVal_lt {cs : List Nat} (h : AllDigits cs) : digitsVal cs < 10 ^ cs.length := by
  have := fold_lt cs 0 h
  rw [Nat.zero_add, Nat.one_mul] at this
  exact this
theorem inS_mem (signs : Str) (c : Nat) : inS signs c = decide (c ∈ signs.cps.toList) := PySem.StrLaws.found_one signs c
theorem figs_digits {cs : List Nat} (h : cs.all (inS "0123456789") = true) : AllDigits cs := fun c hc => by
  have h1 := List.all_eq_true.mp h c hc
  rw [inS_mem] at h1
  have h2 : c ∈ ("0123456789" : Str).cps.toList := of_decide_eq_true h1
  have h3 : ("0123456789" : Str).cps.toList = [48, 49, 50, 51, 52, 53, 54, 55, 56, 57] := by decide +kernel
  rw [h3] at h2
  simp at h2
  omega
def numOk (cs : List Nat) : Bool := !(decide (cs = [])) && cs.all (inS "0123456789") && !(decide (cs.head? = some 48) && decide (1 < cs.length))
def numV (cs : List Nat) : V := if numOk cs = true then .int ((digitsVal cs : Nat) : Int) else .non
structure spNumber (vs : List V) (H : Hp) (Q : VK) (E : XK) : Prop where
  ex : ∃ (cs : List Nat), vs = [.str (tx cs)] ∧ cs.length ≤ 4000 ∧ ∀ H', Same H H' → Q (numV cs) H'
theorem use_number {H : Hp} {Q : VK} {E : XK} {cs : List Nat} (hl : cs.length ≤ 4000) (q : ∀ H', Same H H' → Q (numV cs) H') : spNumber [.str (tx cs)] H Q E := ⟨cs, rfl, hl, q⟩
structure spValue (vs : List V) (H : Hp) (Q : VK) (E : XK) : Prop where
  ex : ∃ (cs : List Nat), vs = [.str (tx cs)] ∧ cs.length ≤ 4000 ∧ AllDigits cs ∧ Q (.int ((digitsVal cs : Nat) : Int)) H
theorem use_value {H : Hp} {Q : VK} {E : XK} {cs : List Nat} (hl : cs.length ≤ 4000) (hd : AllDigits cs) (q : Q (.int ((digitsVal cs : Nat) : Int)) H) : spValue [.str (tx cs)] H Q E := ⟨cs, rfl, hl, hd, q⟩
theorem str_eq_nil (cs : List Nat) : decide (V.str (tx cs) = V.str "") = decide (cs = []) := by
  by_cases h : cs = []
  · subst h; rw [decide_eq_true rfl]; exact decide_eq_true rfl
  · rw [decide_eq_false h]
    refine decide_eq_false fun e => h ?_
    have e1 : tx cs = tx [] := V.str.inj e
    exact tx_inj e1
theorem str_eq_zero (c : Nat) : decide (V.str (tx [c]) = V.str "0") = decide (c = 48) := by
  by_cases h : c = 48
  · subst h; rw [decide_eq_true rfl]; exact decide_eq_true rfl
  · rw [decide_eq_false h]
    refine decide_eq_false fun e => h ?_
    have e1 : tx [c] = tx [48] := V.str.inj e
    have := tx_inj e1
    simpa using this
theorem sz_digits {cs : List Nat} (h : AllDigits cs) : Jm.Sz (4 * cs.length) ((digitsVal cs : Nat) : Int) := by
  have h1 := digitsVal_lt h
  show ((digitsVal cs : Nat) : Int).natAbs < 2 ^ (4 * cs.length)
  rw [Int.natAbs_natCast, Nat.pow_mul]
  exact Nat.lt_of_lt_of_le h1 (Nat.pow_le_pow_left (by decide) _)
end L2
namespace L2
open PySem PySem.Spec PyProof.Rows PySem.NumText
theorem cutN_mid {cs : List Nat} {a b : Nat} (h : a ≤ b) (hb : b ≤ cs.length) : cutN cs (some (a : Int)) (some (b : Int)) = (cs.drop a).take (b - a) := by
  unfold cutN
  rw [HT.sIx_nat, HT.sIx_nat, Nat.min_eq_left hb, Nat.min_eq_left (show a ≤ cs.length by omega)]
end L2
namespace L2
open PySem PySem.Spec PyProof.Rows PySem.NumText
structure spSpoilt (K : PySem.W.Frag) (vs : List V) (H : Hp) (Q : VK) (E : XK) : Prop where
  ex : ∃ (a : Addr) (ms : List Int) (k : Int) (cs : List Nat), vs = [.ref a, .int k, .str (tx cs)] ∧ SqL K H a (ms.map V.int) ∧ ms.length ≤ 63 ∧ 0 ≤ k ∧ cs.length ≤ 3900 ∧ ∀ ds : List Nat, ds.length ≤ cs.length + 1 → Q (.str (tx ds)) H
theorem use_spoilt {K : PySem.W.Frag} {H : Hp} {Q : VK} {E : XK} {a : Addr} {ms : List Int} {k : Int} {cs : List Nat} (hS : SqL K H a (ms.map V.int)) (h63 : ms.length ≤ 63) (hk : 0 ≤ k) (hl : cs.length ≤ 3900) (h : ∀ ds : List Nat, ds.length ≤ cs.length + 1 → Q (.str (tx ds)) H) :
    spSpoilt K [.ref a, .int k, .str (tx cs)] H Q E := ⟨a, ms, k, cs, rfl, hS, h63, hk, hl, h⟩
theorem toDigits_len : ∀ (k n : Nat), n < 10 ^ (k + 1) → (Nat.toDigits 10 n).length ≤ k + 1
  | 0, n, h => by rw [Nat.toDigits_of_lt_base (by simpa using h)]; exact Nat.le_refl _
  | k + 1, n, h => by
    by_cases hb : n < 10
    · rw [Nat.toDigits_of_lt_base hb]; show 1 ≤ _; omega
    · have hm : n % 10 < 10 := Nat.mod_lt n (by decide)
      have t : Nat.toDigits 10 (n / 10) ++ Nat.toDigits 10 (n % 10) = Nat.toDigits 10 (10 * (n / 10) + n % 10) := Nat.toDigits_append_toDigits (by decide) (by omega) hm
      rw [Nat.div_add_mod] at t
      rw [← t, List.length_append, Nat.toDigits_of_lt_base hm]
      have := toDigits_len k (n / 10) (by rw [Nat.pow_succ] at h; exact Nat.div_lt_of_lt_mul (by rw [Nat.mul_comm]; exact h))
      show _ + 1 ≤ _
      omega
end L2
namespace L2
open PySem PySem.Spec PyProof.Rows PySem.NumText Builtin Builtin.Str
section
variable {X : Cx}
theorem vals_strs : ∀ {css : List (List Nat)} {its : List Value}, Vals (txs css) its → ∃ l : List (Str × Tok), its = strValues l ∧ l.map (·.1) = css.map tx
  | [], its, r => by cases r; exact ⟨[], rfl, rfl⟩
  | c :: cs, its, r => by
    cases r with
    | cons r1 r2 =>
      obtain ⟨t, rfl⟩ := r1
      obtain ⟨l, rfl, e⟩ := vals_strs r2
      exact ⟨(tx c, t) :: l, rfl, by rw [List.map_cons, List.map_cons, e]⟩
def splitN (cs : List Nat) (c : Nat) : List (List Nat) := (Txt.split (tx cs) (tx [c])).map (·.cps.toList)
theorem txs_back (l : List Str) : txs (l.map (·.cps.toList)) = l.map V.str := by
  unfold txs
  rw [List.map_map]
  exact List.map_congr_left fun x _ => by show V.str (tx x.cps.toList) = V.str x; rw [tx_eta]
theorem vals_numbered : ∀ {l : List (Str × Tok)}, Vals (l.map fun p => V.str p.1) (strValues l)
  | [] => .nil
  | p :: r => .cons ⟨p.2, rfl⟩ vals_numbered
theorem mt_split1 : MtR X "str.split" (fun x vs H Q => ∃ (cs : List Nat) (c : Nat), x = .str (tx cs) ∧ vs = [.str (tx [c])] ∧ cs.length ≤ 100000 ∧ ∀ p, H p = none → Q (.ref p) (upd H p (.lst (txs (splitN cs c))))) := by
  intro pins s σ H x vs v us Q I rx rv h
  obtain ⟨cs, c, rfl, rfl, hl, q⟩ := h
  obtain ⟨t, rfl⟩ := rx
  obtain ⟨u, rfl, t', rfl⟩ := vals1 rv
  have hx : (tx cs).length ≤ sizeLine := by rw [tx_length, sizeLine_eq]; omega
  have hsl := split_le (tx cs) (tx [c])
  have hy : ((tx [c]).length == 0) = false := rfl
  have fin : ∀ (l : List (Str × Tok)) (tk : Nat), l.map (·.1) = Txt.split (tx cs) (tx [c]) → EP X pins σ Q (.ref s.heap.objs.size) { s with heap := s.heap.push { cls := .type "list", data := .seq (strValues l).toArray }, toks := tk } := fun l tk e => by
    have e2 : txs (splitN cs c) = l.map fun p => V.str p.1 := by
      unfold splitN
      rw [txs_back, ← e, List.map_map]
      rfl
    have hlen : l.length ≤ sizeLine := by
      have := congrArg List.length e
      rw [List.length_map] at this
      rw [tx_length] at hsl
      rw [sizeLine_eq]
      omega
    refine ⟨.ref s.heap.objs.size, _, I.laid (a := s.heap.objs.size) (o := .lst (txs (splitN cs c))) (t' := tk) (fun b o e => Heap.get?_push_of_some _ e) (Nat.le_refl _) ⟨by rw [e2, List.length_map]; exact hlen, strValues l, 0, ?_, Heap.get?_push_size _ rfl⟩, rfl, q _ I.fresh⟩
    rw [e2]
    exact vals_numbered
  cases h1 : (decide ((tx cs).length < (tx [c]).length) || decide (strKind (tx cs) < strKind (tx [c])))
  · cases hf : (occurrences (tx cs) (tx [c]) 0 (tx cs).length ((tx cs).length + 1)).isEmpty
    · have hn : (partsBetween (tx cs) (occurrences (tx cs) (tx [c]) 0 (tx cs).length ((tx cs).length + 1)) (tx [c]).length).length ≤ sizeLine := by
        have e : Txt.split (tx cs) (tx [c]) = partsBetween (tx cs) (occurrences (tx cs) (tx [c]) 0 (tx cs).length ((tx cs).length + 1)) (tx [c]).length := (if_neg (ne_true_of_eq_false h1)).trans (if_neg (ne_true_of_eq_false hf))
        rw [e] at hsl
        have hcl := tx_length cs
        rw [sizeLine_eq]
        omega
      refine call_meets F.slot_str_split (typeIs_str _ _ _) F.entry_str_split (F.args_str_split_2 _ _) (meets_str_split_sep (tx cs) (tx [c]) t t' h1 hy hf hx hn) ?_
      show wants (EP X pins σ Q) X.xe _ { s with toks := _, heap := s.heap.push { cls := .type "list", data := .seq (strsFrom s.toks (partsBetween (tx cs) (occurrences (tx cs) (tx [c]) 0 (tx cs).length ((tx cs).length + 1)) (tx [c]).length)).toArray } }
      rw [strsFrom_eq]
      exact fin (numbered s.toks _) _ ((numbered_texts _ _).trans ((if_neg (ne_true_of_eq_false h1)).trans (if_neg (ne_true_of_eq_false hf))).symm)
    · exact call_meets F.slot_str_split (typeIs_str _ _ _) F.entry_str_split (F.args_str_split_2 _ _) (meets_str_split_not_found (tx cs) (tx [c]) t t' h1 hy hf) (fin [(tx cs, t)] _ ((if_neg (ne_true_of_eq_false h1)).trans (if_pos hf)).symm)
  · exact call_meets F.slot_str_split (typeIs_str _ _ _) F.entry_str_split (F.args_str_split_2 _ _) (meets_str_split_cannot_occur (tx cs) (tx [c]) t t' h1) (fin [(tx cs, t)] _ (if_pos h1).symm)
end
theorem split_part_len {cs p : List Nat} {c : Nat} (h : p ∈ splitN cs c) : p.length ≤ cs.length := by
  obtain ⟨x, hx, rfl⟩ := List.mem_map.mp h
  have := part_short hx
  have hcl := tx_length cs
  have e : x.cps.toList.length = x.length := by show _ = x.cps.size; simp
  omega
end L2
namespace L2
open PySem PySem.Spec PyProof.Rows PySem.NumText
def digs (n : Nat) : List Nat := (Nat.toDigits 10 n).map Char.toNat
theorem str_digs (n : Nat) : (toString ((n : Nat) : Int) : Str) = tx (digs n) := by
  have e := PySem.W.KIN.signs_num n
  unfold digs
  rw [← e, tx_eta]
theorem digs_len {n k : Nat} (h : n < 10 ^ (k + 1)) : (digs n).length ≤ k + 1 := by unfold digs; rw [List.length_map]; exact toDigits_len k n h
end L2
namespace L2
end L2
namespace L2
open PySem PySem.Spec PyProof.Rows
theorem fig_add (c : Int) (j d : Nat) : (c + (j : Int) * 26 ^ d) / 26 ^ d = c / 26 ^ d + (j : Int) := by
  have hp : (26 : Int) ^ d ≠ 0 := Int.ne_of_gt (Int.pow_pos (by decide))
  rw [Int.add_mul_ediv_right _ _ hp]
theorem tries_leD {nss : List (List Nat)} {c : Int} {n d t : Nat} (h2 : d < n) (ht : t ≤ 26) (h : ∀ j : Nat, j < t → nmL (c + (j : Int) * 26 ^ d) n ∈ nss) : t ≤ nss.length := by
  have hn : ((List.range t).map fun j => nmL (c + ((j : Nat) : Int) * 26 ^ d) n).Nodup := by
    have : (List.range t).Pairwise (fun a b => a < b) := List.pairwise_lt_range
    refine List.Pairwise.map _ ?_ (List.Pairwise.and_mem.mp this)
    rintro a b ⟨ha, hb, hab⟩ e
    have ha' := List.mem_range.mp ha
    have hb' := List.mem_range.mp hb
    have := nmL_fig h2 e
    rw [fig_add, fig_add] at this
    omega
  have := nodup_le hn fun x hx => by
    obtain ⟨j, hj, rfl⟩ := List.mem_map.mp hx
    exact h j (List.mem_range.mp hj)
  rw [List.length_map, List.length_range] at this
  exact this
structure spNames (K : PySem.W.Frag) (vs : List V) (H : Hp) (Q : VK) (E : XK) : Prop where
  ex : ∃ (a : Addr) (ms : List Int) (k : Int) (many : Nat), vs = [.ref a, .int k, .int (many : Int)] ∧ SqL K H a (ms.map V.int) ∧ ms.length ≤ 63 ∧ 0 ≤ k ∧ many ≤ 25 ∧
    ∀ (z : Addr) (nss : List (List Nat)) (H' : Hp), Same H H' → H' z = some (.lst (txs nss)) → H z = none → nss.length = many → nss.Nodup → (∀ x ∈ nss, NameOk x) → Q (.ref z) H'
theorem use_names {K : PySem.W.Frag} {H : Hp} {Q : VK} {E : XK} {a : Addr} {ms : List Int} {k mi : Int} {many : Nat} (hmi : mi = (many : Int)) (hS : SqL K H a (ms.map V.int)) (h63 : ms.length ≤ 63) (h1 : 0 ≤ k) (h2 : many ≤ 25)
    (h : ∀ (z : Addr) (nss : List (List Nat)) (H' : Hp), Same H H' → H' z = some (.lst (txs nss)) → H z = none → nss.length = many → nss.Nodup → (∀ x ∈ nss, NameOk x) → Q (.ref z) H') : spNames K [.ref a, .int k, .int mi] H Q E := by
  subst hmi
  exact ⟨a, ms, k, many, rfl, hS, h63, h1, h2, h⟩
end L2
namespace L2
open PySem PySem.Spec PyProof.Rows
theorem kv_get {a : List (Key × V)} {b : List (Key × Value)} (r : KV a b) : ∀ {j : Nat} {p : Key × V}, a[j]? = some p → ∃ q, b[j]? = some q ∧ p.1 = q.1 ∧ RelV p.2 q.2 := by
  induction r with
  | nil => intro j p z; simp at z
  | cons r1 _ ih =>
    intro j p z
    cases j with
    | zero => simp at z; subst z; exact ⟨_, rfl, r1⟩
    | succ j => simp at z; obtain ⟨q, a1, a2⟩ := ih z; exact ⟨q, by simpa using a1, a2⟩
abbrev Frz (H : Hp) (d : Addr) (o : Obj) (kvs : List (Key × V)) : Prop := H d = some (.frz o (.dK kvs))
section
variable {X : Cx} {pins : List (Addr × Obj)} {σ σ' : St} {H H' : Hp} {s s' : Shared} {d : Addr} {kvs : List (Key × V)} {o : Obj}
theorem Inv.frzAt (I : Inv X pins σ H s) (e : Frz H d o kvs) : s.heap.get? d = some o ∧ kvs.length ≤ sizeLine ∧ (d == sysModules) = false ∧ ∃ vs ep, KV kvs vs ∧ s.heap.DictAt (mixKind X.prog X.w) d vs ep := by
  obtain ⟨ho, hz, hs, vs, r, dd⟩ := (show ObjOk X.prog X.w H s.heap d (.frz o (.dK kvs)) from I.hok d _ e)
  obtain ⟨ep, da⟩ := dd.dictAt
  exact ⟨ho, hz, hs, vs, ep, r, da⟩
end
theorem ep_of {h : Heap} {P : Program} {w : World} {d : Addr} {vs : List (Key × Value)} {e1 e2 : Nat} {o : Obj} {es : Array DictEntry} (da : h.DictAt (mixKind P w) d vs e1) (ho : h.get? d = some o) (hd : o.data = .dict es e2) : e1 = e2 := by
  obtain ⟨o', es', h1, _, h2, _⟩ := da
  rw [ho] at h1; cases h1
  rw [hd] at h2; cases h2; rfl
theorem kV_rel {P : Program} {w : World} {k : Key} {v : Value} (h : (mixKind P w).is k v = true) : RelV (kV k) v := by
  rw [mixKind_is] at h
  rcases keyIs_shape h with ⟨i, t, rfl, rfl⟩ | ⟨x, t, rfl, rfl⟩
  · exact ⟨t, rfl⟩
  · exact ⟨t, rfl⟩
section
variable {X : Cx} {tg : Expr}
end
end L2
namespace L2
open PySem PySem.Spec PyProof.Rows
section
variable {prog : Program} {w : World} {K : Type} [DecidableEq K] {knd : KeyKind prog w K} {A : Around} {E : Value → Shared → Prop} {s : Shared}
theorem nx_key_item {it d : Addr} {i ep : Nat} {kvs : List (K × Value)} {k : K} {v : Value} {Q : Value → Shared → Prop} (hit : s.heap.IsKeyIter it d i kvs.length ep)
    (hm : s.heap.DictAt knd d kvs ep) (hx : kvs[i]? = some (k, v)) (hQ : ∀ key h', knd.is k key = true → h'.IsKeyIter it d (i + 1) kvs.length ep → Heap.SameBut it s.heap h' → Q key { s with heap := h' }) :
    wpAny (model prog w) A (Builtin.SmallTypes.nextOf (.ref it)) Q E s := by
  obtain ⟨o, ho, hc, hd⟩ := id hit; obtain ⟨od, es, hod, hcd, hdd, hk, hp, hn⟩ := id hm
  unfold Builtin.SmallTypes.nextOf
  refine wpAny_bind (wpAny_callSpecial?_slot (name := Str.ofString "__next__") hit.typeIs F.slot_dict_keyiterator_next (wpAny_call_entry F.slot_dict_keyiterator_next hit.typeIs F.entry_dict_keyiterator_next ?_ (F.args_dict_keyiterator_next_1 _)))
  refine wpAny_bind (wpAny_pure ?_); refine wpAny_bind (wpAny_bind ?_)
  first | (refine wpAny_bind (wpAny_typeNameOfWhole_keyiter hit.typeIs (wpAny_pure ?_)); refine wpAny_bind (wpAny_fieldsOf ho hd ?_)) | (refine wpAny_bind (wpAny_typeNameOf_keyiter hit.typeIs (wpAny_pure ?_)); refine wpAny_bind (wpAny_fieldsOf ho hd ?_))
  have own : Builtin.Dict_items.ownsTuple "dict_keyiterator" = false := by decide
  simp only [own, Bool.false_eq_true, if_false]
  show wpAny _ _ (if (Value.ref d == Value.none) = true then _ else _) _ _ _
  rw [if_neg (fun z => Bool.false_ne_true z : ¬ ((Value.ref d == Value.none) = true))]; refine wpAny_bind (wpAny_pure ?_)
  have sz : es.size = kvs.length := by have := hp.length; simpa using this
  refine wpAny_bind (wpAny_dictEntries hod hdd ?_); rw [if_neg (by rw [sz]; simp)]
  refine wpAny_bind (wpAny_pure ?_); refine wpAny_bind (wpAny_dictEpoch hod hdd ?_)
  rw [if_neg (by simp)]; refine wpAny_pure ?_
  have lt : i < kvs.length := (List.getElem?_eq_some_iff.mp hx).1
  have lt' : i < es.size := by omega
  have kv := hp.get? (e := es[i]) (by simp [lt']) hx
  simp only [show ¬ ((i : Int) < 0) from by omega, if_false, Int.toNat_natCast, Array.getElem?_eq_getElem lt']; refine wpAny_bind ?_
  first | (refine wpAny_bind (wpAny_typeNameOfWhole_keyiter hit.typeIs (wpAny_pure ?_)); refine wpAny_bind (wpAny_isOneOf_keyiter hit.typeIs ?_)) | (refine wpAny_bind (wpAny_typeNameOf_keyiter hit.typeIs (wpAny_pure ?_)); refine wpAny_bind (wpAny_isOneOf_keyiter hit.typeIs ?_))
  show wpAny _ _ (setField (.ref it) 1 (rawInt ((i : Int) + 1)) >>= _) _ _ _
  refine wpAny_bind (wpAny_setField ho hd (by simp) ?_)
  have hit' : (s.heap.update it (Obj.mapFields (·.setIfInBounds 1 (rawInt ((i : Int) + 1))))).IsKeyIter it d (i + 1) kvs.length ep := ⟨_, Heap.get?_update_self _ ho (Obj.isFreed_of_fields (Obj.data_mapFields hd _)), (Obj.cls_mapFields ..).trans hc, by rw [Obj.data_mapFields hd]; simp [rawInt]⟩
  refine wpAny_bind (wpAny_holding (wpAny_bind (wpAny_isOneOf_keyiter (s := { s with heap := s.heap.update it (Obj.mapFields (·.setIfInBounds 1 (rawInt ((i : Int) + 1)))) }) hit'.typeIs ?_)))
  exact wpAny_pure (wpAny_pure ⟨_, rfl, wpAny_pure (hQ _ _ kv.1 hit' (Heap.SameBut.update ..))⟩)
theorem nx_key_end {it d : Addr} {i ep : Nat} {kvs : List (K × Value)} {Q : Value → Shared → Prop} (hh : A.handled = none) (hit : s.heap.IsKeyIter it d i kvs.length ep)
    (hm : s.heap.DictAt knd d kvs ep) (hx : kvs[i]? = none) (hE : ∀ h' e, Heap.ExtBut it s.heap h' → (∃ o, h'.get? e = some o ∧ o.cls = .type "StopIteration") → E (.ref e) { s with heap := h' }) :
    wpAny (model prog w) A (Builtin.SmallTypes.nextOf (.ref it)) Q E s := by
  obtain ⟨o, ho, hc, hd⟩ := id hit; obtain ⟨od, es, hod, hcd, hdd, hk, hp, hn⟩ := id hm
  unfold Builtin.SmallTypes.nextOf
  refine wpAny_bind (wpAny_callSpecial?_slot (name := Str.ofString "__next__") hit.typeIs F.slot_dict_keyiterator_next (wpAny_call_entry F.slot_dict_keyiterator_next hit.typeIs F.entry_dict_keyiterator_next ?_ (F.args_dict_keyiterator_next_1 _)))
  refine wpAny_bind (wpAny_pure ?_); refine wpAny_bind (wpAny_bind ?_)
  first | (refine wpAny_bind (wpAny_typeNameOfWhole_keyiter hit.typeIs (wpAny_pure ?_)); refine wpAny_bind (wpAny_fieldsOf ho hd ?_)) | (refine wpAny_bind (wpAny_typeNameOf_keyiter hit.typeIs (wpAny_pure ?_)); refine wpAny_bind (wpAny_fieldsOf ho hd ?_))
  have own : Builtin.Dict_items.ownsTuple "dict_keyiterator" = false := by decide
  simp only [own, Bool.false_eq_true, if_false]
  show wpAny _ _ (if (Value.ref d == Value.none) = true then _ else _) _ _ _
  rw [if_neg (fun z => Bool.false_ne_true z : ¬ ((Value.ref d == Value.none) = true))]; refine wpAny_bind (wpAny_pure ?_)
  have sz : es.size = kvs.length := by have := hp.length; simpa using this
  refine wpAny_bind (wpAny_dictEntries hod hdd ?_); rw [if_neg (by rw [sz]; simp)]
  refine wpAny_bind (wpAny_pure ?_); refine wpAny_bind (wpAny_dictEpoch hod hdd ?_)
  rw [if_neg (by simp)]; refine wpAny_pure ?_
  have ge : es.size ≤ i := by rw [sz]; simpa using hx
  simp only [show ¬ ((i : Int) < 0) from by omega, if_false, Int.toNat_natCast, Array.getElem?_eq_none ge]; refine wpAny_bind ?_
  first | (refine wpAny_bind (wpAny_typeNameOfWhole_keyiter hit.typeIs (wpAny_pure ?_)); show wpAny _ _ (setField (.ref it) 0 .none >>= _) _ _ _) | (refine wpAny_bind (wpAny_typeNameOf_keyiter hit.typeIs (wpAny_pure ?_)); show wpAny _ _ (setField (.ref it) 0 .none >>= _) _ _ _)
  refine wpAny_bind (wpAny_setField ho hd (by simp) ?_); show wpAny _ _ (newExc (.type "StopIteration") [] >>= _) _ _ _
  refine wpAny_bind ?_; simp only [newExc, newTuple]
  refine wpAny_bind (wpAny_newObj_type ?_ (by size_fits)); refine wpAny_bind (m := firstArgMember _ _) (wpAny_of_eq (a := Value.none) (by first | rfl | (simp only [firstArgMember]; rfl)) ?_)
  refine wpAny_newObj_type ?_ (by size_fits); simp only [raiseNew]
  refine wpAny_bind (wpAny_handled ?_); rw [show A.in1.handled = none from hh]
  exact wpAny_bind (wpAny_pure (wpAny_throw (hE _ _ (((Heap.SameBut.update ..).extBut.push _).push _) ⟨_, Heap.get?_push_size _ rfl, rfl⟩)))
theorem nx_val_item {it d : Addr} {i ep : Nat} {kvs : List (K × Value)} {k : K} {v : Value} {Q : Value → Shared → Prop} (hit : s.heap.IsValIter it d i kvs.length ep)
    (hm : s.heap.DictAt knd d kvs ep) (hx : kvs[i]? = some (k, v)) (hQ : ∀ h', h'.IsValIter it d (i + 1) kvs.length ep → Heap.SameBut it s.heap h' → Q v { s with heap := h' }) :
    wpAny (model prog w) A (Builtin.SmallTypes.nextOf (.ref it)) Q E s := by
  obtain ⟨o, ho, hc, hd⟩ := id hit; obtain ⟨od, es, hod, hcd, hdd, hk, hp, hn⟩ := id hm
  unfold Builtin.SmallTypes.nextOf
  refine wpAny_bind (wpAny_callSpecial?_slot (name := Str.ofString "__next__") hit.typeIs F.slot_dict_valueiterator_next (wpAny_call_entry F.slot_dict_valueiterator_next hit.typeIs F.entry_dict_valueiterator_next ?_ (F.args_dict_valueiterator_next_1 _)))
  refine wpAny_bind (wpAny_pure ?_); refine wpAny_bind (wpAny_bind ?_)
  first | (refine wpAny_bind (wpAny_typeNameOfWhole_valiter hit.typeIs (wpAny_pure ?_)); refine wpAny_bind (wpAny_fieldsOf ho hd ?_)) | (refine wpAny_bind (wpAny_typeNameOf_valiter hit.typeIs (wpAny_pure ?_)); refine wpAny_bind (wpAny_fieldsOf ho hd ?_))
  have own : Builtin.Dict_items.ownsTuple "dict_valueiterator" = false := by decide
  simp only [own, Bool.false_eq_true, if_false]
  show wpAny _ _ (if (Value.ref d == Value.none) = true then _ else _) _ _ _
  rw [if_neg (fun z => Bool.false_ne_true z : ¬ ((Value.ref d == Value.none) = true))]; refine wpAny_bind (wpAny_pure ?_)
  have sz : es.size = kvs.length := by have := hp.length; simpa using this
  refine wpAny_bind (wpAny_dictEntries hod hdd ?_); rw [if_neg (by rw [sz]; simp)]
  refine wpAny_bind (wpAny_pure ?_); refine wpAny_bind (wpAny_dictEpoch hod hdd ?_)
  rw [if_neg (by simp)]; refine wpAny_pure ?_
  have lt : i < kvs.length := (List.getElem?_eq_some_iff.mp hx).1
  have lt' : i < es.size := by omega
  have kv := hp.get? (e := es[i]) (by simp [lt']) hx
  simp only [show ¬ ((i : Int) < 0) from by omega, if_false, Int.toNat_natCast, Array.getElem?_eq_getElem lt']; refine wpAny_bind ?_
  first | (refine wpAny_bind (wpAny_typeNameOfWhole_valiter hit.typeIs (wpAny_pure ?_)); refine wpAny_bind (wpAny_isOneOf_valiter hit.typeIs ?_)) | (refine wpAny_bind (wpAny_typeNameOf_valiter hit.typeIs (wpAny_pure ?_)); refine wpAny_bind (wpAny_isOneOf_valiter hit.typeIs ?_))
  show wpAny _ _ (setField (.ref it) 1 (rawInt ((i : Int) + 1)) >>= _) _ _ _
  refine wpAny_bind (wpAny_setField ho hd (by simp) ?_)
  have hit' : (s.heap.update it (Obj.mapFields (·.setIfInBounds 1 (rawInt ((i : Int) + 1))))).IsValIter it d (i + 1) kvs.length ep := ⟨_, Heap.get?_update_self _ ho (Obj.isFreed_of_fields (Obj.data_mapFields hd _)), (Obj.cls_mapFields ..).trans hc, by rw [Obj.data_mapFields hd]; simp [rawInt]⟩
  refine wpAny_bind (wpAny_holding (wpAny_bind (wpAny_isOneOf_valiter (s := { s with heap := s.heap.update it (Obj.mapFields (·.setIfInBounds 1 (rawInt ((i : Int) + 1)))) }) hit'.typeIs ?_)))
  refine wpAny_bind (wpAny_isOneOf_valiter (s := { s with heap := s.heap.update it (Obj.mapFields (·.setIfInBounds 1 (rawInt ((i : Int) + 1)))) }) hit'.typeIs ?_)
  exact wpAny_pure (wpAny_pure ⟨_, rfl, wpAny_pure (kv.2 ▸ hQ _ hit' (Heap.SameBut.update ..))⟩)
theorem nx_val_end {it d : Addr} {i ep : Nat} {kvs : List (K × Value)} {Q : Value → Shared → Prop} (hh : A.handled = none) (hit : s.heap.IsValIter it d i kvs.length ep)
    (hm : s.heap.DictAt knd d kvs ep) (hx : kvs[i]? = none) (hE : ∀ h' e, Heap.ExtBut it s.heap h' → (∃ o, h'.get? e = some o ∧ o.cls = .type "StopIteration") → E (.ref e) { s with heap := h' }) :
    wpAny (model prog w) A (Builtin.SmallTypes.nextOf (.ref it)) Q E s := by
  obtain ⟨o, ho, hc, hd⟩ := id hit; obtain ⟨od, es, hod, hcd, hdd, hk, hp, hn⟩ := id hm
  unfold Builtin.SmallTypes.nextOf
  refine wpAny_bind (wpAny_callSpecial?_slot (name := Str.ofString "__next__") hit.typeIs F.slot_dict_valueiterator_next (wpAny_call_entry F.slot_dict_valueiterator_next hit.typeIs F.entry_dict_valueiterator_next ?_ (F.args_dict_valueiterator_next_1 _)))
  refine wpAny_bind (wpAny_pure ?_); refine wpAny_bind (wpAny_bind ?_)
  first | (refine wpAny_bind (wpAny_typeNameOfWhole_valiter hit.typeIs (wpAny_pure ?_)); refine wpAny_bind (wpAny_fieldsOf ho hd ?_)) | (refine wpAny_bind (wpAny_typeNameOf_valiter hit.typeIs (wpAny_pure ?_)); refine wpAny_bind (wpAny_fieldsOf ho hd ?_))
  have own : Builtin.Dict_items.ownsTuple "dict_valueiterator" = false := by decide
  simp only [own, Bool.false_eq_true, if_false]
  show wpAny _ _ (if (Value.ref d == Value.none) = true then _ else _) _ _ _
  rw [if_neg (fun z => Bool.false_ne_true z : ¬ ((Value.ref d == Value.none) = true))]; refine wpAny_bind (wpAny_pure ?_)
  have sz : es.size = kvs.length := by have := hp.length; simpa using this
  refine wpAny_bind (wpAny_dictEntries hod hdd ?_); rw [if_neg (by rw [sz]; simp)]
  refine wpAny_bind (wpAny_pure ?_); refine wpAny_bind (wpAny_dictEpoch hod hdd ?_)
  rw [if_neg (by simp)]; refine wpAny_pure ?_
  have ge : es.size ≤ i := by rw [sz]; simpa using hx
  simp only [show ¬ ((i : Int) < 0) from by omega, if_false, Int.toNat_natCast, Array.getElem?_eq_none ge]; refine wpAny_bind ?_
  first | (refine wpAny_bind (wpAny_typeNameOfWhole_valiter hit.typeIs (wpAny_pure ?_)); show wpAny _ _ (setField (.ref it) 0 .none >>= _) _ _ _) | (refine wpAny_bind (wpAny_typeNameOf_valiter hit.typeIs (wpAny_pure ?_)); show wpAny _ _ (setField (.ref it) 0 .none >>= _) _ _ _)
  refine wpAny_bind (wpAny_setField ho hd (by simp) ?_); show wpAny _ _ (newExc (.type "StopIteration") [] >>= _) _ _ _
  refine wpAny_bind ?_; simp only [newExc, newTuple]
  refine wpAny_bind (wpAny_newObj_type ?_ (by size_fits)); refine wpAny_bind (m := firstArgMember _ _) (wpAny_of_eq (a := Value.none) (by first | rfl | (simp only [firstArgMember]; rfl)) ?_)
  refine wpAny_newObj_type ?_ (by size_fits); simp only [raiseNew]
  refine wpAny_bind (wpAny_handled ?_); rw [show A.in1.handled = none from hh]
  exact wpAny_bind (wpAny_pure (wpAny_throw (hE _ _ (((Heap.SameBut.update ..).extBut.push _).push _) ⟨_, Heap.get?_push_size _ rfl, rfl⟩)))
end
end L2
namespace L2
open PySem PySem.Spec PyProof.Rows
structure Cmp (P : Program) (w : World) (K : PySem.W.Frag) (S : Hp → Prop) (xs : List V) (it l : Addr) (tn : Nat → Heap → Prop) (src : Heap → Prop) : Prop where
  obj : ∀ i h, tn i h → ∃ o, h.get? it = some o ∧ ∀ v, o.data ≠ .cell v
  keep : ∀ i h h', tn i h → (∀ o, h.get? it = some o → h'.get? it = some o) → tn i h'
  skeep : ∀ h h', src h → (∀ o, h.get? l = some o → h'.get? l = some o) → src h'
  sof : ∀ (X : Cx), X.prog = P → X.w = w → X.K = K → ∀ (pins : List (Addr × Obj)) (σ : St) (H : Hp) (s : Shared), Inv X pins σ H s → S H → src s.heap
  item : ∀ (A : Around) (i : Nat) (x : V) (s : Shared) (Q : Value → Shared → Prop) (E : Value → Shared → Prop), tn i s.heap → src s.heap → xs[i]? = some x → (∀ u h', RelV x u → tn (i + 1) h' → Heap.SameBut it s.heap h' → Q u { s with heap := h' }) → wpAny (model P w) A (Builtin.SmallTypes.nextOf (.ref it)) Q E s
  done : ∀ (A : Around) (i : Nat) (s : Shared) (Q : Value → Shared → Prop) (E : Value → Shared → Prop), A.handled = none → tn i s.heap → src s.heap → xs.length ≤ i → (∀ h' e, Heap.ExtBut it s.heap h' → (∃ o, h'.get? e = some o ∧ o.cls = .type "StopIteration") → E (.ref e) { s with heap := h' }) → wpAny (model P w) A (Builtin.SmallTypes.nextOf (.ref it)) Q E s
theorem cmp_list {P : Program} {w : World} {K : PySem.W.Frag} {xs : List V} {it l : Addr} : Cmp P w K (fun H => SqL K H l xs) xs it l (fun i h => h.IsListIter it l i) (fun h => ∃ its : List Value, Vals xs its ∧ h.IsList l its.toArray) where
  obj := fun i h ⟨o, e, c, d⟩ => ⟨o, e, fun v z => by rw [d] at z; cases z⟩
  keep := fun i h h' st k => st.at k
  skeep := fun h h' ⟨its, r, hl⟩ k => ⟨its, r, hl.at k⟩
  sof := fun X hP hw hK pins σ H s I h => by
    subst hP hw hK
    obtain ⟨its, rv, p, _⟩ := I.list h
    exact ⟨its, rv, p.isList⟩
  item := fun A i x s Q E st ⟨its, r, hl⟩ hx hQ => by
    obtain ⟨u, hu, ru⟩ := r.get hx
    exact wpAny_nextOf_list_item st hl (by simpa using hu) fun h' st' sb => hQ u h' ru st' sb
  done := fun A i s Q E hh st ⟨its, r, hl⟩ hx hE => wpAny_nextOf_list_end hh st hl (by have := r.length; simp; omega) hE
theorem cmp_keys {P : Program} {w : World} {K : PySem.W.Frag} {kvs : List (Key × V)} {it d : Addr} {o : Obj} {es : Array DictEntry} {ep : Nat} (hd : o.data = .dict es ep) :
    Cmp P w K (fun H => Frz H d o kvs) (kvs.map fun p => kV p.1) it d (fun i h => h.IsKeyIter it d i kvs.length ep) (fun h => ∃ vs, KV kvs vs ∧ h.DictAt (mixKind P w) d vs ep) where
  obj := fun i h ⟨o, e, c, d⟩ => ⟨o, e, fun v z => by rw [d] at z; cases z⟩
  keep := fun i h h' st k => st.at k
  skeep := fun h h' ⟨vs, r, hl⟩ k => ⟨vs, r, hl.at' k⟩
  sof := fun X hP hw hK pins σ H s I h => by
    subst hP hw hK
    obtain ⟨ho, _, _, vs, ep', r, da⟩ := I.frzAt h
    cases ep_of da ho hd
    exact ⟨vs, r, da⟩
  item := fun A i x s Q E st ⟨vs, r, da⟩ hx hQ => by
    rw [List.getElem?_map] at hx
    obtain ⟨p, hp, rfl⟩ := Option.map_eq_some_iff.mp hx
    obtain ⟨q, hq, ek, rq⟩ := kv_get r hp
    obtain ⟨qk, qv⟩ := q
    have hl : kvs.length = vs.length := r.length
    rw [hl] at st
    exact nx_key_item st da hq fun key h' hk st' sb => hQ key h' (by rw [ek]; exact kV_rel hk) (by rw [hl]; exact st') sb
  done := fun A i s Q E hh st ⟨vs, r, da⟩ hx hE => by
    have hl : kvs.length = vs.length := r.length
    rw [List.length_map] at hx
    rw [hl] at st
    exact nx_key_end hh st da (by rw [List.getElem?_eq_none]; omega) hE
theorem cmp_vals {P : Program} {w : World} {K : PySem.W.Frag} {kvs : List (Key × V)} {it d : Addr} {o : Obj} {es : Array DictEntry} {ep : Nat} (hd : o.data = .dict es ep) :
    Cmp P w K (fun H => Frz H d o kvs) (kvs.map fun p => p.2) it d (fun i h => h.IsValIter it d i kvs.length ep) (fun h => ∃ vs, KV kvs vs ∧ h.DictAt (mixKind P w) d vs ep) where
  obj := fun i h ⟨o, e, c, d⟩ => ⟨o, e, fun v z => by rw [d] at z; cases z⟩
  keep := fun i h h' st k => st.at k
  skeep := fun h h' ⟨vs, r, hl⟩ k => ⟨vs, r, hl.at' k⟩
  sof := fun X hP hw hK pins σ H s I h => by
    subst hP hw hK
    obtain ⟨ho, _, _, vs, ep', r, da⟩ := I.frzAt h
    cases ep_of da ho hd
    exact ⟨vs, r, da⟩
  item := fun A i x s Q E st ⟨vs, r, da⟩ hx hQ => by
    rw [List.getElem?_map] at hx
    obtain ⟨p, hp, rfl⟩ := Option.map_eq_some_iff.mp hx
    obtain ⟨q, hq, ek, rq⟩ := kv_get r hp
    obtain ⟨qk, qv⟩ := q
    have hl : kvs.length = vs.length := r.length
    rw [hl] at st
    exact nx_val_item st da hq fun h' st' sb => hQ qv h' rq (by rw [hl]; exact st') sb
  done := fun A i s Q E hh st ⟨vs, r, da⟩ hx hE => by
    have hl : kvs.length = vs.length := r.length
    rw [List.length_map] at hx
    rw [hl] at st
    exact nx_val_end hh st da (by rw [List.getElem?_eq_none]; omega) hE
section
variable {P : Program} {w : World} {A : Around} {E : Value → Shared → Prop} {s : Shared} {K : PySem.W.Frag} {S1 S2 : Hp → Prop} {xs ys : List V} {z TI TO i1 i2 l1 l2 : Addr} {t1 t2 : Nat → Heap → Prop} {c1 c2 : Heap → Prop} {i : Nat}
theorem zipG_item {x y : V} {a b : Value} {Q : Value → Shared → Prop} (D : ZipApart z TI TO i1 i2 l1 l2) (C1 : Cmp P w K S1 xs i1 l1 t1 c1) (C2 : Cmp P w K S2 ys i2 l2 t2 c2)
    (hz : IsZip s.heap z TI TO .none) (hTI : IsPair s.heap TI (.ref i1) (.ref i2)) (hTO : IsPair s.heap TO a b) (h1 : t1 i s.heap) (h2 : t2 i s.heap) (hc1 : c1 s.heap) (hc2 : c2 s.heap) (hx : xs[i]? = some x) (hy : ys[i]? = some y)
    (hQ : ∀ u v h', RelV x u → RelV y v → IsZip h' z TI TO (rawInt s.heap.objs.size) → IsPair h' TO u v → t1 (i + 1) h' → t2 (i + 1) h' → IsPair h' s.heap.objs.size u v → h'.objs.size = s.heap.objs.size + 1 →
      (∀ c o, c ≠ z → c ≠ TO → c ≠ i1 → c ≠ i2 → s.heap.get? c = some o → h'.get? c = some o) → Q (.ref s.heap.objs.size) { s with heap := h' }) :
    wpAny (model P w) A (Builtin.«zip.__next__» ⟨[.ref z], []⟩) (fun fin s' => ∃ v, fin = .done (.ret v) ∧ Q v s') E s := by
  show wpAny _ _ (field (.ref z) 2 >>= _) _ _ _
  refine wpAny_bind (wpAny_field hz rfl (x := .bool false) rfl ?_); show wpAny _ _ (field (.ref z) 3 >>= _) _ _ _
  refine wpAny_bind (wpAny_field hz rfl (x := .ref TI) rfl ?_); refine wpAny_bind (wpAny_seqItems hTI rfl ?_)
  show wpAny _ _ (Builtin.SmallTypes.ownedTupleIsFree (.ref z) >>= _) _ _ _
  refine wpAny_bind ?_; unfold Builtin.SmallTypes.ownedTupleIsFree
  refine wpAny_bind (wpAny_field hz rfl (x := .none) rfl (wpAny_pure ?_)); simp only [if_true]
  refine wpAny_bind (wpAny_rule ?_); refine wpAny_bind (wpAny_field hz rfl (x := .ref TO) rfl ?_)
  refine wpAny_bind (wpAny_setField_rec hz (by simp) fun hA hzA sA => ?_)
  replace hzA : IsZip hA z TI TO .ellipsis := hzA
  refine wpAny_bind ?_; simp only [List.zipIdx_cons, List.zipIdx_nil, List.forIn_cons, List.forIn_nil]
  refine wpAny_bind (wpAny_bind (wpAny_onRaise ?_)); show wpAny _ _ (Builtin.SmallTypes.nextOf (.ref i1) >>= _) _ _ _
  refine wpAny_bind (C1.item _ i x { s with heap := hA } _ _ (C1.keep _ _ _ h1 fun o e => sA.extBut _ _ D.i1z e) (C1.skeep _ _ hc1 fun o e => sA.extBut _ _ D.l1z e) hx fun u hB ru h1B sB => wpAny_pure ?_)
  have TOB : IsPair hB TO a b := sB.extBut _ _ D.TOi1 (sA.extBut _ _ D.TOz hTO)
  refine wpAny_bind (wpAny_seqItems TOB rfl ?_); refine wpAny_bind (wpAny_updateSeq_pair TOB fun hC TOC sC => ?_)
  replace TOC : IsPair hC TO u b := TOC
  refine wpAny_bind (wpAny_letGo (wpAny_pure ?_)); refine wpAny_bind (wpAny_bind (wpAny_onRaise ?_))
  show wpAny _ _ (Builtin.SmallTypes.nextOf (.ref i2) >>= _) _ _ _
  refine wpAny_bind (C2.item _ i y { s with heap := hC } _ _ (C2.keep _ _ _ h2 fun o e => sC.extBut _ _ D.TOi2.symm (sB.extBut _ _ D.i12.symm (sA.extBut _ _ D.i2z e))) (C2.skeep _ _ hc2 fun o e => sC.extBut _ _ D.l2TO (sB.extBut _ _ D.l2i1 (sA.extBut _ _ D.l2z e))) hy fun v hD rv h2D sD => wpAny_pure ?_)
  have TOD : IsPair hD TO u b := sD.extBut _ _ D.TOi2 TOC
  refine wpAny_bind (wpAny_seqItems TOD rfl ?_); refine wpAny_bind (wpAny_updateSeq_pair TOD fun hE TOE sE => ?_)
  replace TOE : IsPair hE TO u v := TOE
  refine wpAny_bind (wpAny_letGo (wpAny_pure (wpAny_pure ?_))); refine wpAny_bind (wpAny_seqItems TOE rfl ?_)
  refine wpAny_bind (wpAny_newTuple ?_)
  have sz : hE.objs.size = s.heap.objs.size := by rw [sE.1, sD.1, sC.1, sB.1, sA.1]
  have zE : IsZip hE z TI TO .ellipsis := sE.extBut _ _ D.TOz.symm (sD.extBut _ _ D.i2z.symm (sC.extBut _ _ D.TOz.symm (sB.extBut _ _ D.i1z.symm hzA)))
  have kE : ∀ c o, c ≠ z → c ≠ TO → c ≠ i1 → c ≠ i2 → s.heap.get? c = some o → hE.get? c = some o := fun c o c1 c2 c3 c4 e => sE.extBut _ _ c2 (sD.extBut _ _ c4 (sC.extBut _ _ c2 (sB.extBut _ _ c3 (sA.extBut _ _ c1 e))))
  have t1E : t1 (i + 1) hE := C1.keep _ _ _ h1B fun o e => sE.extBut _ _ D.TOi1.symm (sD.extBut _ _ D.i12 (sC.extBut _ _ D.TOi1.symm e))
  have t2E : t2 (i + 1) hE := C2.keep _ _ _ h2D fun o e => sE.extBut _ _ D.TOi2.symm e
  have zlt : z < hE.objs.size := Heap.lt_size zE
  show wpAny _ _ (Builtin.SmallTypes.ownedTupleHandOut (.ref z) (.ref hE.objs.size) >>= _) _ _ _
  refine wpAny_bind ?_; unfold Builtin.SmallTypes.ownedTupleHandOut
  have zF : IsZip (hE.push { cls := .type "tuple", data := .seq #[u, v] }) z TI TO .ellipsis := Heap.get?_push_of_some _ zE
  refine wpAny_bind (wpAny_setField_rec zF (by simp) fun hG zG sG => ?_)
  replace zG : IsZip hG z TI TO (rawInt hE.objs.size) := zG
  refine wpAny_setField_rec zG (by simp) fun hI zI sI => ?_
  replace zI : IsZip hI z TI TO (rawInt hE.objs.size) := zI
  have up : ∀ c o, c ≠ z → hE.get? c = some o → hI.get? c = some o := fun c o c1 e => sI.extBut _ _ c1 (sG.extBut _ _ c1 (Heap.get?_push_of_some _ e))
  have TI' : IsPair hI hE.objs.size u v := sI.extBut _ _ (Nat.ne_of_gt zlt) (sG.extBut _ _ (Nat.ne_of_gt zlt) (Heap.get?_push_size _ rfl))
  have szI : hI.objs.size = hE.objs.size + 1 := by rw [sI.1, sG.1, Heap.size_push]
  rw [sz] at zI TI' szI
  refine wpAny_pure ⟨_, rfl, ?_⟩
  show Q (.ref hE.objs.size) _
  rw [sz]
  exact hQ u v hI ru rv zI (up _ _ D.TOz TOE) (C1.keep _ _ _ t1E fun o e => up _ o D.i1z e) (C2.keep _ _ _ t2E fun o e => up _ o D.i2z e) TI' szI fun c o c1 c2 c3 c4 e => up c o c1 (kE c o c1 c2 c3 c4 e)
theorem zipG_end {a b : Value} {Q : Fin → Shared → Prop} (hh : A.handled = none) (D : ZipApart z TI TO i1 i2 l1 l2) (C1 : Cmp P w K S1 xs i1 l1 t1 c1) (C2 : Cmp P w K S2 ys i2 l2 t2 c2)
    (hz : IsZip s.heap z TI TO .none) (hTI : IsPair s.heap TI (.ref i1) (.ref i2)) (hTO : IsPair s.heap TO a b) (h1 : t1 i s.heap) (h2 : t2 i s.heap) (hc1 : c1 s.heap) (hc2 : c2 s.heap) (hend : xs.length ≤ i ∨ ys.length ≤ i)
    (hE : ∀ h' e, (∀ c o, c ≠ z → c ≠ TO → c ≠ i1 → c ≠ i2 → s.heap.get? c = some o → h'.get? c = some o) → (∃ o, h'.get? e = some o ∧ o.cls = .type "StopIteration") → E (.ref e) { s with heap := h' }) :
    wpAny (model P w) A (Builtin.«zip.__next__» ⟨[.ref z], []⟩) Q E s := by
  show wpAny _ _ (field (.ref z) 2 >>= _) _ _ _
  refine wpAny_bind (wpAny_field hz rfl (x := .bool false) rfl ?_); show wpAny _ _ (field (.ref z) 3 >>= _) _ _ _
  refine wpAny_bind (wpAny_field hz rfl (x := .ref TI) rfl ?_); refine wpAny_bind (wpAny_seqItems hTI rfl ?_)
  show wpAny _ _ (Builtin.SmallTypes.ownedTupleIsFree (.ref z) >>= _) _ _ _
  refine wpAny_bind ?_; unfold Builtin.SmallTypes.ownedTupleIsFree
  refine wpAny_bind (wpAny_field hz rfl (x := .none) rfl (wpAny_pure ?_)); simp only [if_true]
  refine wpAny_bind (wpAny_rule ?_); refine wpAny_bind (wpAny_field hz rfl (x := .ref TO) rfl ?_)
  refine wpAny_bind (wpAny_setField_rec hz (by simp) fun hA hzA sA => ?_)
  replace hzA : IsZip hA z TI TO .ellipsis := hzA
  refine wpAny_bind ?_; simp only [List.zipIdx_cons, List.zipIdx_nil, List.forIn_cons, List.forIn_nil]
  refine wpAny_bind (wpAny_bind (wpAny_onRaise ?_)); show wpAny _ _ (Builtin.SmallTypes.nextOf (.ref i1) >>= _) _ _ _
  have k1 := C1.keep _ _ _ h1 fun o e => sA.extBut _ _ D.i1z e
  have k2 := C1.skeep _ _ hc1 fun o e => sA.extBut _ _ D.l1z e
  by_cases hx : xs.length ≤ i
  · refine wpAny_bind (C1.done _ i { s with heap := hA } _ _ hh k1 k2 hx fun hB e sB he => ?_)
    obtain ⟨oe, hoe, hce⟩ := he
    have zB : IsZip hB z TI TO .ellipsis := sB _ _ D.i1z.symm hzA
    have ez : e ≠ z := fun x => by subst x; rw [zB] at hoe; cases hoe; simp at hce
    exact wpAny_setField_rec zB (by simp) fun hC _ sC => hE hC e (fun c o c1 _ c3 _ x => sC.extBut _ _ c1 (sB _ _ c3 (sA.extBut _ _ c1 x))) ⟨oe, sC.extBut _ _ ez hoe, hce⟩
  · have hy : ys.length ≤ i := hend.resolve_left hx
    refine wpAny_bind (C1.item _ i xs[i] { s with heap := hA } _ _ k1 k2 (List.getElem?_eq_getElem (by omega)) fun u hB ru h1B sB => wpAny_pure ?_)
    have TOB : IsPair hB TO a b := sB.extBut _ _ D.TOi1 (sA.extBut _ _ D.TOz hTO)
    refine wpAny_bind (wpAny_seqItems TOB rfl ?_); refine wpAny_bind (wpAny_updateSeq_pair TOB fun hC TOC sC => ?_)
    refine wpAny_bind (wpAny_letGo (wpAny_pure ?_)); refine wpAny_bind (wpAny_bind (wpAny_onRaise ?_))
    show wpAny _ _ (Builtin.SmallTypes.nextOf (.ref i2) >>= _) _ _ _
    refine wpAny_bind (C2.done _ i { s with heap := hC } _ _ hh (C2.keep _ _ _ h2 fun o e => sC.extBut _ _ D.TOi2.symm (sB.extBut _ _ D.i12.symm (sA.extBut _ _ D.i2z e))) (C2.skeep _ _ hc2 fun o e => sC.extBut _ _ D.l2TO (sB.extBut _ _ D.l2i1 (sA.extBut _ _ D.l2z e))) hy fun hD e sD he => ?_)
    obtain ⟨oe, hoe, hce⟩ := he
    have zD : IsZip hD z TI TO .ellipsis := sD _ _ D.i2z.symm (sC.extBut _ _ D.TOz.symm (sB.extBut _ _ D.i1z.symm hzA))
    have ez : e ≠ z := fun x => by subst x; rw [zD] at hoe; cases hoe; simp at hce
    exact wpAny_setField_rec zD (by simp) fun hF _ sF => hE hF e (fun c o c1 c2 c3 c4 x => sF.extBut _ _ c1 (sD _ _ c4 (sC.extBut _ _ c2 (sB.extBut _ _ c3 (sA.extBut _ _ c1 x))))) ⟨oe, sF.extBut _ _ ez hoe, hce⟩
end
def Itzz (S1 S2 : Hp → Prop) (xs ys : List V) : It :=
  ⟨fun i H => S1 H ∧ S2 H ∧ i < xs.length ∧ i < ys.length, fun i H v H' => ∃ p x y, H p = none ∧ v = .ref p ∧ H' = upd H p (.tup [x, y]) ∧ xs[i]? = some x ∧ ys[i]? = some y, fun i H => S1 H ∧ S2 H ∧ (xs.length ≤ i ∨ ys.length ≤ i)⟩
theorem turn_zipG {P : Program} {w : World} {K : PySem.W.Frag} {elts : List Expr} {kk : Nat} {pos : Pos} {S1 S2 : Hp → Prop} {xs ys : List V} {z TI TO i1 i2 l1 l2 : Addr} {t1 t2 : Nat → Heap → Prop} {c1 c2 : Heap → Prop} (D : ZipApart z TI TO i1 i2 l1 l2)
    (C1 : Cmp P w K S1 xs i1 l1 t1 c1) (C2 : Cmp P w K S2 ys i2 l2 t2 c2) :
    Turn P w K (.Tuple elts kk pos) (Itzz S1 S2 xs ys) [z, TI, TO, i1, i2] z (fun i h => IsZip h z TI TO .none ∧ IsPair h TI (.ref i1) (.ref i2) ∧ (∃ a b, IsPair h TO a b) ∧ t1 i h ∧ t2 i h) where
  mem := by simp
  obj := fun i h st b hb => by
    obtain ⟨hz, hTI, ⟨a, b', hTO⟩, h1, h2⟩ := st
    have hb' : b = z ∨ b = TI ∨ b = TO ∨ b = i1 ∨ b = i2 := by simpa using hb
    rcases hb' with rfl | rfl | rfl | rfl | rfl
    · exact ⟨_, hz, fun v q => by cases q⟩
    · exact ⟨_, hTI, fun v q => by cases q⟩
    · exact ⟨_, hTO, fun v q => by cases q⟩
    · exact C1.obj i h h1
    · exact C2.obj i h h2
  keep := fun i h h' st k => by
    obtain ⟨hz, hTI, ⟨a, b', hTO⟩, h1, h2⟩ := st
    exact ⟨k z (by simp) _ hz, k TI (by simp) _ hTI, ⟨a, b', k TO (by simp) _ hTO⟩, C1.keep _ _ _ h1 fun o e => k i1 (by simp) o e, C2.keep _ _ _ h2 fun o e => k i2 (by simp) o e⟩
  item := by
    intro X hP hw hK hc i pins s σ H E I hf st hg
    subst hP hw hK
    obtain ⟨hz, hTI, ⟨a, b, hTO⟩, h1, h2⟩ := st
    obtain ⟨g1, g2, lx, ly⟩ := hg
    have hT : s.TypeIs (.ref z) "zip" := ⟨_, hz, rfl⟩
    unfold pyNext
    refine wpAny_bind (wpAny_attempt (wpAny_callSpecial?_slot (name := Str.ofString "__next__") hT F.slot_zip_next (wpAny_call_entry F.slot_zip_next hT F.entry_zip_next
      (zipG_item D C1 C2 hz hTI hTO h1 h2 (C1.sof X rfl rfl rfl pins σ H s I g1) (C2.sof X rfl rfl rfl pins σ H s I g2) (List.getElem?_eq_getElem lx) (List.getElem?_eq_getElem ly) fun u u2 h' ru ru2 a1 a2 a3 a4 a5 a6 hk => wpAny_pure ?_) (F.args_zip_next_1 _))))
    refine ⟨_, rfl, wpAny_letOwnedTupleGo_zip (s := { s with heap := h' }) a1 fun h'' b1 hs => ?_⟩
    have hTz : s.heap.objs.size ≠ z := Nat.ne_of_gt (Heap.lt_size hz)
    have kk2 : ∀ c o, c ≠ z → c ≠ TO → c ≠ i1 → c ≠ i2 → s.heap.get? c = some o → h''.get? c = some o := fun c o c1 c2 c3 c4 e => hs.extBut _ _ c1 (hk c o c1 c2 c3 c4 e)
    have hn := I.fresh
    have nf : ∀ b u, H b = some u → b ≠ z ∧ b ≠ TO ∧ b ≠ i1 ∧ b ≠ i2 := fun b u e => by
      have g : ∀ c ∈ [z, TI, TO, i1, i2], b ≠ c := fun c hc q => by
        have := (hf c hc).1
        rw [← q, e] at this
        cases this
      exact ⟨g z (by simp), g TO (by simp), g i1 (by simp), g i2 (by simp)⟩
    have nch : ∀ c, c ∉ [z, TI, TO, i1, i2] → c ≠ z ∧ c ≠ TO ∧ c ≠ i1 ∧ c ≠ i2 := fun c hc => ⟨fun q => hc (by simp [q]), fun q => hc (by simp [q]), fun q => hc (by simp [q]), fun q => hc (by simp [q])⟩
    have newT : IsPair h'' s.heap.objs.size u u2 := hs.extBut _ _ hTz a5
    have hok : HOk X.prog X.w (upd H s.heap.objs.size (.tup [xs[i], ys[i]])) h'' := fun b ob e => by
      by_cases hb : b = s.heap.objs.size
      · subst hb
        rw [upd_same] at e
        cases e
        exact ⟨by show 2 ≤ sizeLine; decide, [u, u2], .cons ru (.cons ru2 .nil), _, newT, rfl, 0, rfl⟩
      · rw [upd_ne hb] at e
        refine (I.hok b ob e).stay (fun c v hcv q => ?_) (fun c q => by rw [upd_ne (ne_of_none q hn)]; exact q) fun c zs q => by rw [upd_ne (ne_of_none q hn)]; exact q
        rcases hcv with r | r
        · obtain ⟨n1, n2, n3, n4⟩ := nf b ob e
          rw [r]
          rw [r] at q
          exact kk2 b v n1 n2 n3 n4 q
        · obtain ⟨n1, n2, n3, n4⟩ := nf c _ r
          exact kk2 c v n1 n2 n3 n4 q
    have I2 : Inv X pins σ (upd H s.heap.objs.size (.tup [xs[i], ys[i]])) { s with heap := h'', gens := s.gens, drawn := s.drawn, toks := s.toks } := by
      refine I.step (ch := [z, TI, TO, i1, i2]) (fun b hb => ⟨(hf b hb).2.2.2.1, (hf b hb).2.1, (hf b hb).2.2.2.2.1, (hf b hb).2.2.2.2.2⟩) (fun b o _ _ hc' e _ => ?_) (fun b o _ _ hc' e _ => ?_) (fun b o _ e n => ?_) (fun b o hc' e => ?_)
        (fun b zs q => by rw [upd_ne (ne_of_none q hn)]; exact q) (fun b o zs q => by rw [upd_ne (ne_of_none q hn)]; exact q) (fun b ps q => ⟨#[], by rw [upd_ne (ne_of_none q hn), q]; simp⟩) (fun m hm => ?_) hok I.bare
      · obtain ⟨n1, n2, n3, n4⟩ := nch b hc'
        exact kk2 b o n1 n2 n3 n4 e
      · obtain ⟨n1, n2, n3, n4⟩ := nch b hc'
        exact ⟨o.slots, kk2 b o n1 n2 n3 n4 e⟩
      · rw [upd_ne (Nat.ne_of_lt (Heap.lt_size e))]
        exact n
      · obtain ⟨n1, n2, n3, n4⟩ := nch b hc'
        exact ⟨o, kk2 b o n1 n2 n3 n4 e⟩
      · obtain ⟨o, es, ep, ho, r⟩ := hm
        have nl : ∀ c ∈ [z, TI, TO, i1, i2], X.env.locals ≠ c := fun c hc' q => (hf c hc').2.1 q.symm
        exact ⟨o, es, ep, kk2 _ o (nl z (by simp)) (nl TO (by simp)) (nl i1 (by simp)) (nl i2 (by simp)) ho, r⟩
    refine ⟨.ref s.heap.objs.size, _, I2, rfl, ⟨s.heap.objs.size, xs[i], ys[i], hn, rfl, rfl, List.getElem?_eq_getElem lx, List.getElem?_eq_getElem ly⟩, ⟨b1, ?_, ⟨u, u2, ?_⟩, ?_, ?_⟩, fun b hb => ?_⟩
    · exact kk2 _ _ D.TIz D.TITO D.TIi1 D.TIi2 hTI
    · exact hs.extBut _ _ D.TOz a2
    · exact C1.keep _ _ _ a3 fun o e => hs.extBut _ _ D.i1z e
    · exact C2.keep _ _ _ a4 fun o e => hs.extBut _ _ D.i2z e
    · have hlt : b ≠ s.heap.objs.size := by
        have hb' : b = z ∨ b = TI ∨ b = TO ∨ b = i1 ∨ b = i2 := by simpa using hb
        obtain ⟨_, e1, _⟩ := C1.obj _ _ h1
        obtain ⟨_, e2, _⟩ := C2.obj _ _ h2
        rcases hb' with rfl | rfl | rfl | rfl | rfl
        · exact Nat.ne_of_lt (Heap.lt_size hz)
        · exact Nat.ne_of_lt (Heap.lt_size hTI)
        · exact Nat.ne_of_lt (Heap.lt_size hTO)
        · exact Nat.ne_of_lt (Heap.lt_size e1)
        · exact Nat.ne_of_lt (Heap.lt_size e2)
      rw [upd_ne hlt]
      exact (hf b hb).1
  done := by
    intro X hP hw hK hc i pins s σ H E I hf st hg
    subst hP hw hK
    obtain ⟨hz, hTI, ⟨a, b, hTO⟩, h1, h2⟩ := st
    obtain ⟨g1, g2, hend⟩ := hg
    have hT : s.TypeIs (.ref z) "zip" := ⟨_, hz, rfl⟩
    unfold pyNext
    refine wpAny_bind (wpAny_attempt (wpAny_callSpecial?_slot (name := Str.ofString "__next__") hT F.slot_zip_next (wpAny_call_entry F.slot_zip_next hT F.entry_zip_next
      (zipG_end (I.ok.hd hc) D C1 C2 hz hTI hTO h1 h2 (C1.sof X rfl rfl rfl pins σ H s I g1) (C2.sof X rfl rfl rfl pins σ H s I g2) hend fun h' e hk he => ?_) (F.args_zip_next_1 _))))
    obtain ⟨oe, hoe, hce⟩ := he
    refine wpAny_bind (wpAny_isInstance (T := "StopIteration") (b := true) ⟨oe, hoe, hce⟩ isSubtype_stop (wpAny_pure ⟨rfl, ?_⟩))
    have nch : ∀ c, c ∉ [z, TI, TO, i1, i2] → c ≠ z ∧ c ≠ TO ∧ c ≠ i1 ∧ c ≠ i2 := fun c hc => ⟨fun q => hc (by simp [q]), fun q => hc (by simp [q]), fun q => hc (by simp [q]), fun q => hc (by simp [q])⟩
    have nf : ∀ b u, H b = some u → b ≠ z ∧ b ≠ TO ∧ b ≠ i1 ∧ b ≠ i2 := fun b u e => by
      have g : ∀ c ∈ [z, TI, TO, i1, i2], b ≠ c := fun c hc q => by
        have := (hf c hc).1
        rw [← q, e] at this
        cases this
      exact ⟨g z (by simp), g TO (by simp), g i1 (by simp), g i2 (by simp)⟩
    have I2 : Inv X pins σ H { s with heap := h', gens := s.gens, drawn := s.drawn, toks := s.toks } := by
      refine I.step (ch := [z, TI, TO, i1, i2]) (fun b hb => ⟨(hf b hb).2.2.2.1, (hf b hb).2.1, (hf b hb).2.2.2.2.1, (hf b hb).2.2.2.2.2⟩) (fun b o _ _ hc' e _ => ?_) (fun b o _ _ hc' e _ => ?_) (fun b o _ e n => n) (fun b o hc' e => ?_)
        (fun b zs q => q) (fun b o zs q => q) (fun b ps q => ⟨#[], by rw [q]; simp⟩) (fun m hm => ?_) (fun b ob e => ?_) I.bare
      · obtain ⟨n1, n2, n3, n4⟩ := nch b hc'
        exact hk b o n1 n2 n3 n4 e
      · obtain ⟨n1, n2, n3, n4⟩ := nch b hc'
        exact ⟨o.slots, hk b o n1 n2 n3 n4 e⟩
      · obtain ⟨n1, n2, n3, n4⟩ := nch b hc'
        exact ⟨o, hk b o n1 n2 n3 n4 e⟩
      · obtain ⟨o, es, ep, ho, r⟩ := hm
        have nl : ∀ c ∈ [z, TI, TO, i1, i2], X.env.locals ≠ c := fun c hc' q => (hf c hc').2.1 q.symm
        exact ⟨o, es, ep, hk _ o (nl z (by simp)) (nl TO (by simp)) (nl i1 (by simp)) (nl i2 (by simp)) ho, r⟩
      · refine (I.hok b ob e).stay (fun c v hcv q => ?_) (fun c q => q) fun c zs q => q
        rcases hcv with r | r
        · obtain ⟨n1, n2, n3, n4⟩ := nf b ob e
          rw [r]
          rw [r] at q
          exact hk b v n1 n2 n3 n4 q
        · obtain ⟨n1, n2, n3, n4⟩ := nf c _ r
          exact hk c v n1 n2 n3 n4 q
    exact I2
  self := fun _ _ _ _ _ st h => wpAny_pyIter_zip st.1 h
def Starts (P : Program) (w : World) (u : Value) (o : Obj) (pre : Heap → Prop) : Prop := ∀ (A : Around) (E : Value → Shared → Prop) (s : Shared) (Q : Value → Shared → Prop), pre s.heap → Q (.ref s.heap.objs.size) { s with heap := s.heap.push o } → wpAny (model P w) A (pyIter u) Q E s
theorem meets_zipG {P : Program} {w : World} {u1 u2 : Value} {o1 o2 : Obj} {p1 p2 : Heap → Prop} (s1 : Starts P w u1 o1 p1) (s2 : Starts P w u2 o2 p2) :
    MeetsIn P w (Builtin.«zip.__new__» ⟨[.type "zip", u1, u2], []⟩) (fun _ R s => p1 s.heap ∧ p2 (s.heap.push o1) ∧
      R (.ok (.ret (.ref ((((s.heap.push o1).push o2).push { cls := .type "tuple", data := .seq #[.ref s.heap.objs.size, .ref (s.heap.push o1).objs.size] }).push { cls := .type "tuple", data := .seq #[.none, .none] }).objs.size)))
        { s with heap := ((((s.heap.push o1).push o2).push { cls := .type "tuple", data := .seq #[.ref s.heap.objs.size, .ref (s.heap.push o1).objs.size] }).push { cls := .type "tuple", data := .seq #[.none, .none] }).push { cls := .type "zip", data := .fields #[.none, .bool false, .bool false, .ref ((s.heap.push o1).push o2).objs.size, .ref (((s.heap.push o1).push o2).push { cls := .type "tuple", data := .seq #[.ref s.heap.objs.size, .ref (s.heap.push o1).objs.size] }).objs.size] } }) :=
  .of_wp fun A R s h => by
    obtain ⟨hp, g, d, tk, os⟩ := s; obtain ⟨q1, q2, h⟩ := h
    have hsub := sub_zip
    have i1 := fun (A : Around) (E : Value → Shared → Prop) (Q : Value → Shared → Prop) => s1 A E ⟨hp, g, d, tk, os⟩ Q q1
    have i2 := fun (A : Around) (E : Value → Shared → Prop) (Q : Value → Shared → Prop) => s2 A E ⟨hp.push o1, g, d, tk, os⟩ Q q2
    wp_walk using i1 _ _ _, i2 _ _ _
    exact ⟨_, rfl, h⟩
end L2
namespace L2
open PySem PySem.Spec PyProof.Rows
section
variable {prog : Program} {w : World} {A : Around} {E : Value → Shared → Prop} {s : Shared} {it t : Addr} {i : Nat} {items : Array Value} {Q : Value → Shared → Prop}
theorem nx_tup_item {x : Value} (hit : s.heap.IsTupleIter it t i) (ht : s.heap.IsTuple t items) (hx : items[i]? = some x) (hQ : ∀ h', h'.IsTupleIter it t (i + 1) → Heap.SameBut it s.heap h' → Q x { s with heap := h' }) : wpAny (model prog w) A (Builtin.SmallTypes.nextOf (.ref it)) Q E s := by
  obtain ⟨o, ho, hc, hd⟩ := id hit; obtain ⟨ol, hol, _, nl, hdl⟩ := ht; unfold Builtin.SmallTypes.nextOf
  refine wpAny_bind (wpAny_callSpecial?_slot (name := Str.ofString "__next__") hit.typeIs F.slot_tuple_iterator_next (wpAny_call_entry F.slot_tuple_iterator_next hit.typeIs F.entry_tuple_iterator_next ?_ (F.args_tuple_iterator_next_1 _)))
  show wpAny _ _ (field (.ref it) 0 >>= _) _ _ s; refine wpAny_bind (wpAny_field ho hd (x := .ref t) rfl ?_); show wpAny _ _ (if (Value.ref t == Value.none) = true then _ else _) _ _ s
  rw [if_neg (fun z => Bool.false_ne_true z : ¬ ((Value.ref t == Value.none) = true))]; show wpAny _ _ (field (.ref it) 1 >>= _) _ _ s
  refine wpAny_bind (wpAny_field ho hd (x := .int i 0) rfl ?_); show wpAny _ _ (seqItems? (.ref t) >>= _) _ _ s; refine wpAny_bind (wpAny_seqItems hol hdl ?_); simp only [Int.toNat_natCast, hx]
  refine wpAny_bind (wpAny_setField ho hd (by simp) (wpAny_pure ⟨x, rfl, wpAny_pure (hQ _ ?_ (Heap.SameBut.update ..))⟩)); refine ⟨_, Heap.get?_update_self _ ho (Obj.isFreed_of_fields (Obj.data_mapFields hd _)), (Obj.cls_mapFields ..).trans hc, ?_⟩; rw [Obj.data_mapFields hd]; simp [rawInt]
theorem nx_tup_end (hh : A.handled = none) (hit : s.heap.IsTupleIter it t i) (ht : s.heap.IsTuple t items) (hx : items[i]? = none) (hE : ∀ h' e, Heap.ExtBut it s.heap h' → (∃ o, h'.get? e = some o ∧ o.cls = .type "StopIteration") → E (.ref e) { s with heap := h' }) : wpAny (model prog w) A (Builtin.SmallTypes.nextOf (.ref it)) Q E s := by
  obtain ⟨o, ho, hc, hd⟩ := id hit; obtain ⟨ol, hol, _, nl, hdl⟩ := ht; unfold Builtin.SmallTypes.nextOf
  refine wpAny_bind (wpAny_callSpecial?_slot (name := Str.ofString "__next__") hit.typeIs F.slot_tuple_iterator_next (wpAny_call_entry F.slot_tuple_iterator_next hit.typeIs F.entry_tuple_iterator_next ?_ (F.args_tuple_iterator_next_1 _)))
  show wpAny _ _ (field (.ref it) 0 >>= _) _ _ s; refine wpAny_bind (wpAny_field ho hd (x := .ref t) rfl ?_); show wpAny _ _ (if (Value.ref t == Value.none) = true then _ else _) _ _ s
  rw [if_neg (fun z => Bool.false_ne_true z : ¬ ((Value.ref t == Value.none) = true))]; show wpAny _ _ (field (.ref it) 1 >>= _) _ _ s
  refine wpAny_bind (wpAny_field ho hd (x := .int i 0) rfl ?_); show wpAny _ _ (seqItems? (.ref t) >>= _) _ _ s; refine wpAny_bind (wpAny_seqItems hol hdl ?_); simp only [Int.toNat_natCast, hx]
  refine wpAny_bind (wpAny_rule (wpAny_bind (wpAny_setField ho hd (by simp) ?_))); show wpAny _ _ (newExc (.type "StopIteration") [] >>= _) _ _ _; refine wpAny_bind ?_; simp only [newExc, newTuple]
  refine wpAny_bind (wpAny_newObj_type ?_ (by size_fits)); refine wpAny_bind (m := firstArgMember _ _) (wpAny_of_eq (a := Value.none) (by first | rfl | (simp only [firstArgMember]; rfl)) ?_); refine wpAny_newObj_type ?_ (by size_fits); simp only [raiseNew]
  refine wpAny_bind (wpAny_handled ?_); first | rw [show A.in1.handled = none from hh] | rw [hh]
  refine wpAny_bind (wpAny_pure (wpAny_throw ?_)); exact hE _ _ (((Heap.SameBut.update ..).extBut.push _).push _) ⟨_, Heap.get?_push_size _ rfl, rfl⟩
end
theorem cmp_tup {P : Program} {w : World} {K : PySem.W.Frag} {xs : List V} {it l : Addr} : Cmp P w K (fun H => SqT K H l xs) xs it l (fun i h => h.IsTupleIter it l i) (fun h => ∃ its : List Value, Vals xs its ∧ h.IsTuple l its.toArray) where
  obj := fun i h ⟨o, e, c, d⟩ => ⟨o, e, fun v z => by rw [d] at z; cases z⟩
  keep := fun i h h' st k => st.at k
  skeep := fun h h' ⟨its, r, o, e, q⟩ k => ⟨its, r, o, k o e, q⟩
  sof := fun X hP hw hK pins σ H s I h => by
    subst hP hw hK
    obtain ⟨its, rv, p, _⟩ := I.tuple h
    exact ⟨its, rv, p⟩
  item := fun A i x s Q E st ⟨its, r, hl⟩ hx hQ => by
    obtain ⟨u, hu, ru⟩ := r.get hx
    exact nx_tup_item st hl (by simpa using hu) fun h' st' sb => hQ u h' ru st' sb
  done := fun A i s Q E hh st ⟨its, r, hl⟩ hx hE => nx_tup_end hh st hl (by have := r.length; simp; omega) hE
end L2
namespace L2
open PySem PySem.Spec PyProof.Rows
section
variable {prog : Program} {w : World} {A : Around} {E : Value → Shared → Prop} {s : Shared} {K : Type} [DecidableEq K] {knd : KeyKind prog w K}
end
end L2
namespace L2
open PySem PySem.Spec PyProof.Rows
def vview (v d : Addr) : HO := .ext fun h => h.IsValuesView v d
section
variable {X : Cx}
inductive Wk (K : PySem.W.Frag) (H : Hp) : V → (Hp → Prop) → List V → Prop
  | lst {l : Addr} {xs : List V} : SqL K H l xs → Wk K H (.ref l) (fun H => SqL K H l xs) xs
  | tup {l : Addr} {xs : List V} : SqT K H l xs → Wk K H (.ref l) (fun H => SqT K H l xs) xs
  | keys {d : Addr} {o : Obj} {kvs : List (Key × V)} : Frz H d o kvs → Wk K H (.ref d) (fun H => Frz H d o kvs) (kvs.map fun p => kV p.1)
  | vals {v d : Addr} {o : Obj} {kvs : List (Key × V)} : H v = some (vview v d) → Frz H d o kvs → Wk K H (.ref v) (fun H => Frz H d o kvs) (kvs.map fun p => p.2)
theorem Wk.ok {pins : List (Addr × Obj)} {σ : St} {H : Hp} {s : Shared} {u : V} {uv : Value} {S : Hp → Prop} {xs : List V} (k : Wk X.K H u S xs) (I : Inv X pins σ H s) (r : RelV u uv) :
    S H ∧ ∃ (l : Addr) (o : Obj) (p : Heap → Prop), l < s.heap.objs.size ∧ p s.heap ∧ (∀ h (ob : Obj), p h → p (h.push ob)) ∧ (∀ h : Heap, (h.push o).get? h.objs.size = some o) ∧ Starts X.prog X.w uv o p ∧ ∀ it : Addr, ∃ tn src, Cmp X.prog X.w X.K S xs it l tn src ∧ ∀ h : Heap, h.get? it = some o → tn 0 h := by
  cases k with
  | @lst l xs hS =>
    cases r
    obtain ⟨its, rv, p, _⟩ := I.list hS
    obtain ⟨ol, hol, _⟩ := id p.isList
    refine ⟨hS, l, _, fun h => h.IsList l its.toArray, Heap.lt_size hol, p.isList, fun h ob q => q.push ob, fun h => Heap.get?_push_size _ rfl, fun A E s Q q h => wpAny_pyIter_list q h, fun it => ⟨_, _, cmp_list, fun h e => ⟨_, e, rfl, rfl⟩⟩⟩
  | @tup l xs hS =>
    cases r
    obtain ⟨its, rv, p, _⟩ := I.tuple hS
    obtain ⟨ol, hol, q0⟩ := id p
    refine ⟨hS, l, _, fun h => h.IsTuple l its.toArray, Heap.lt_size hol, p, fun h ob ⟨o1, a, b⟩ => ⟨o1, Heap.get?_push_of_some _ a, b⟩, fun h => Heap.get?_push_size _ rfl, fun A E s Q q h => wpAny_pyIter_tuple q h, fun it => ⟨_, _, cmp_tup, fun h e => ⟨_, e, rfl, rfl⟩⟩⟩
  | @keys d o kvs hz =>
    cases r
    obtain ⟨ho, hl, hsys, vs, ep, rel, da⟩ := I.frzAt hz
    obtain ⟨o', es, h1, _, h2, _⟩ := id da
    rw [ho] at h1; cases h1
    have el : kvs.length = vs.length := rel.length
    refine ⟨hz, d, _, fun h => h.DictAt (mixKind X.prog X.w) d vs ep, Heap.lt_size ho, da, fun h ob q => q.push ob, fun h => Heap.get?_push_size _ rfl, fun A E s Q q h => wpAny_pyIter_dict hsys q h, fun it => ⟨_, _, cmp_keys h2, fun h e => ?_⟩⟩
    rw [el]
    exact ⟨_, e, rfl, rfl⟩
  | @vals v d o kvs hv hz =>
    cases r
    obtain ⟨ho, hl, hsys, vs, ep, rel, da⟩ := I.frzAt hz
    obtain ⟨o', es, h1, _, h2, _⟩ := id da
    rw [ho] at h1; cases h1
    have el : kvs.length = vs.length := rel.length
    obtain ⟨hv', _⟩ := (show ObjOk X.prog X.w H s.heap v (vview v d) from I.hok v _ hv)
    refine ⟨hz, d, _, fun h => h.IsValuesView v d ∧ h.DictAt (mixKind X.prog X.w) d vs ep, Heap.lt_size ho, ⟨hv', da⟩, fun h ob ⟨⟨o1, a, b⟩, q⟩ => ⟨⟨o1, Heap.get?_push_of_some _ a, b⟩, q.push ob⟩, fun h => Heap.get?_push_size _ rfl, fun A E s Q q h => wpAny_pyIter_values q.1 q.2 h, fun it => ⟨_, _, cmp_vals h2, fun h e => ?_⟩⟩
    rw [el]
    exact ⟨_, e, rfl, rfl⟩
variable {elts : List Expr} {kk : Nat} {tpos : Pos}
def iZipG (K : PySem.W.Frag) (ta : TA) : TI := fun σ H R => ta σ H fun vs H1 => ∃ u1 u2 S1 S2 xs ys, vs = [u1, u2] ∧ Wk K H1 u1 S1 xs ∧ Wk K H1 u2 S2 ys ∧ R (Itzz S1 S2 xs ys) H1
theorem pi_zipG (K : PySem.W.Frag) {a b : Expr} {ta : TA} {p pos : Pos} (hg : Gl X "zip") (hm : X.mg "zip" = none) (ha : PA X [a, b] ta) (hK : X.K = K := by rfl)
    (hs : starEach [a, b] X.env = [(false, eval a X.env), (false, eval b X.env)] := by rfl) (hs2 : starEach [b] X.env = [(false, eval b X.env)] := by rfl) :
    PI X (.Tuple elts kk tpos) (.Call (.Name "zip" p) [a, b] [] pos) (iZipG K ta) := by
  subst hK
  intro pins s σ H R I h
  refine Call_ (ld_blt I hg hm boot_zip (PyProof.Rows.callWith_type1 (thn (ha pos pins s σ H _ I h) fun us s1 ⟨vs, H1, I1, r1, q1⟩ => ?_) (by rw [hs, hs2]) (by rw [hs2]; rfl)))
  obtain ⟨u1, u2, S1, S2, xs, ys, e, k1, k2, q⟩ := q1
  subst e
  obtain ⟨u, w', rfl, ru, rw'⟩ := vals2 r1
  obtain ⟨g1, l1, o1, p1, lt1, b1, push1, at1, st1, c1⟩ := k1.ok I1 ru
  obtain ⟨g2, l2, o2, p2, lt2, b2, push2, at2, st2, c2⟩ := k2.ok I1 rw'
  refine callType_newIn F.called_zip (by decide) (F.typeCall_zip_2 _ _) (F.newCall_zip_2 _ _) (fun obj => F.args_object_init_3 obj _ _) F.entry_zip_new (meets_zipG st1 st2) ⟨b1, push2 _ _ b2, ?_⟩
  have z1 : (s1.heap.push o1).objs.size = s1.heap.objs.size + 1 := Heap.size_push ..
  have z2 : ((s1.heap.push o1).push o2).objs.size = s1.heap.objs.size + 2 := by rw [Heap.size_push, z1]
  generalize e3 : ({ cls := .type "tuple", data := .seq #[.ref s1.heap.objs.size, .ref (s1.heap.push o1).objs.size] } : Obj) = o3
  have z3 : (((s1.heap.push o1).push o2).push o3).objs.size = s1.heap.objs.size + 3 := by rw [Heap.size_push, z2]
  generalize e4 : ({ cls := .type "tuple", data := .seq #[.none, .none] } : Obj) = o4
  have z4 : ((((s1.heap.push o1).push o2).push o3).push o4).objs.size = s1.heap.objs.size + 4 := by rw [Heap.size_push, z3]
  generalize e5 : ({ cls := .type "zip", data := .fields #[.none, .bool false, .bool false, .ref ((s1.heap.push o1).push o2).objs.size, .ref (((s1.heap.push o1).push o2).push o3).objs.size] } : Obj) = o5
  have g5 : (((((s1.heap.push o1).push o2).push o3).push o4).push o5).get? ((((s1.heap.push o1).push o2).push o3).push o4).objs.size = some o5 := Heap.get?_push_size _ (by rw [← e5]; rfl)
  have g4 : (((((s1.heap.push o1).push o2).push o3).push o4).push o5).get? (((s1.heap.push o1).push o2).push o3).objs.size = some o4 := Heap.get?_push_of_some _ (Heap.get?_push_size _ (by rw [← e4]; rfl))
  have g3 : (((((s1.heap.push o1).push o2).push o3).push o4).push o5).get? ((s1.heap.push o1).push o2).objs.size = some o3 := Heap.get?_push_of_some _ (Heap.get?_push_of_some _ (Heap.get?_push_size _ (by rw [← e3]; rfl)))
  have g2' : (((((s1.heap.push o1).push o2).push o3).push o4).push o5).get? (s1.heap.push o1).objs.size = some o2 := Heap.get?_push_of_some _ (Heap.get?_push_of_some _ (Heap.get?_push_of_some _ (at2 _)))
  have g1' : (((((s1.heap.push o1).push o2).push o3).push o4).push o5).get? s1.heap.objs.size = some o1 := Heap.get?_push_of_some _ (Heap.get?_push_of_some _ (Heap.get?_push_of_some _ (Heap.get?_push_of_some _ (at1 _))))
  have kp : ∀ c o, s1.heap.get? c = some o → (((((s1.heap.push o1).push o2).push o3).push o4).push o5).get? c = some o := fun c o x => Heap.get?_push_of_some _ (Heap.get?_push_of_some _ (Heap.get?_push_of_some _ (Heap.get?_push_of_some _ (Heap.get?_push_of_some _ x))))
  rw [z4] at g5 ⊢
  rw [z3] at g4 e5
  rw [z2] at g3 e5
  rw [z1] at g2' e3
  generalize (((((s1.heap.push o1).push o2).push o3).push o4).push o5) = hN at *
  show _ ∧ _
  subst e3 e4 e5
  refine ⟨⟨_, g5, rfl⟩, wpAny_pyIter_zip (s := { s1 with heap := hN }) g5 ?_⟩
  have I2 : Inv X pins σ H1 { s1 with heap := hN } := I1.kept (t' := s1.toks) kp
  obtain ⟨t1, src1, C1, n1⟩ := c1 s1.heap.objs.size
  obtain ⟨t2, src2, C2, n2⟩ := c2 (s1.heap.objs.size + 1)
  refine ⟨s1.heap.objs.size + 4, [s1.heap.objs.size + 4, s1.heap.objs.size + 2, s1.heap.objs.size + 3, s1.heap.objs.size, s1.heap.objs.size + 1], _, _, H1, rfl, I2, turn_zipG (zipApart_mk lt1 lt2) C1 C2, ⟨g5, g3, ⟨_, _, g4⟩, n1 _ g1', n2 _ g2'⟩, fun b hb => ?_, q⟩
  have hb' : b = s1.heap.objs.size + 4 ∨ b = s1.heap.objs.size + 2 ∨ b = s1.heap.objs.size + 3 ∨ b = s1.heap.objs.size ∨ b = s1.heap.objs.size + 1 := by simpa using hb
  have le : s1.heap.objs.size ≤ b := by
    rcases hb' with r | r | r | r | r
    · rw [r]; exact Nat.le_add_right _ _
    · rw [r]; exact Nat.le_add_right _ _
    · rw [r]; exact Nat.le_add_right _ _
    · rw [r]; exact Nat.le_refl _
    · rw [r]; exact Nat.le_add_right _ _
  exact I1.fpOk le (I1.hok.fresh le)
end
end L2
namespace L2
open PySem PySem.Spec PyProof.Rows
def setAll : St → List Nat → List V → St
  | σ, k :: ks, v :: vs => setAll (σ.set k (some v)) ks vs
  | σ, _, _ => σ
theorem setAll_set {k : Nat} {v : Option V} : ∀ {ks : List Nat} {vs : List V} {σ : St}, k ∉ ks → (setAll σ ks vs).set k v = setAll (σ.set k v) ks vs
  | [], _, _, _ => by unfold setAll; rfl
  | _ :: _, [], _, _ => by unfold setAll; rfl
  | j :: ks, w :: vs, σ, h => by
    have hj : k ≠ j := fun e => h (by rw [e]; exact List.mem_cons_self)
    show (setAll (σ.set j (some w)) ks vs).set k v = setAll ((σ.set k v).set j (some w)) ks vs
    rw [setAll_set (fun m => h (List.mem_cons_of_mem _ m)), List.set_comm _ _ hj]
theorem setAll_again : ∀ {ks : List Nat} {vs ws : List V} {σ : St}, ks.Nodup → vs.length = ks.length → ws.length = ks.length → setAll (setAll σ ks vs) ks ws = setAll σ ks ws
  | [], [], [], _, _, _, _ => rfl
  | k :: ks, v :: vs, w :: ws, σ, nd, h1, h2 => by
    have nk := (List.nodup_cons.mp nd).1
    show setAll ((setAll (σ.set k (some v)) ks vs).set k (some w)) ks ws = setAll (σ.set k (some w)) ks ws
    rw [setAll_set nk, List.set_set, setAll_again (List.nodup_cons.mp nd).2 (by simpa using h1) (by simpa using h2)]
def gNs : List Nat → TGs
  | [] => gNil
  | k :: ks => gCons (gName k) (gNs ks)
theorem gNs_of {Q : St → Hp → Prop} {H : Hp} : ∀ {ks : List Nat} {vs : List V} {σ : St}, vs.length = ks.length → Q (setAll σ ks vs) H → gNs ks vs σ H Q
  | [], [], _, _, q => ⟨rfl, q⟩
  | k :: ks, v :: vs, σ, h, q => ⟨v, vs, rfl, gNs_of (by simpa using h) q⟩
theorem comp_T {K : PySem.W.Frag} {J : It} {n : Nat} (ks : List Nat) {te : TE} {σ2 : St} {H : Hp} {acc : Addr} {Q : VK} (Pv : Nat → List V → Hp → Prop) (nd : ks.Nodup) (hn : n ≤ 100000) (h0 : Pv 0 [] (upd H acc (.lst [])))
    (hgo : ∀ i out H1, i < n → H1 acc = some (.lst out) → Pv i out H1 → J.go i H1) (hst : ∀ out H1, H1 acc = some (.lst out) → Pv n out H1 → J.stop n H1)
    (hs : ∀ (i : Nat) (x : V) (out : List V) (H1 H2 : Hp), i < n → out.length = i → H1 acc = some (.lst out) → Pv i out H1 → J.yld i H1 x H2 →
      ∃ t vs, x = .ref t ∧ SqT K H2 t vs ∧ vs.length = ks.length ∧ te (setAll σ2 ks vs) H2 fun v H4 => H4 acc = some (.lst out) ∧ Pv (i + 1) (out ++ [v]) (upd H4 acc (.lst (out ++ [v]))))
    (hd : ∀ (out : List V) (H1 : Hp), out.length = n → H1 acc = some (.lst out) → Pv n out H1 → Q (.ref acc) H1) :
    CompG J (gTup K ks.length (gNs ks)) te acc σ2 H Q := by
  refine ⟨fun i m σ' H' => m = n - i ∧ i ≤ n ∧ (∀ ws, ws.length = ks.length → setAll σ' ks ws = setAll σ2 ks ws) ∧ ∃ out, out.length = i ∧ H' acc = some (.lst out) ∧ Pv i out H', ⟨n, by simp, Nat.zero_le _, fun _ _ => rfl, [], rfl, upd_same, h0⟩, ?_⟩
  rintro i m σ' H' ⟨rfl, hi, hσ, out, ho, ha, p⟩
  by_cases hlt : i < n
  · refine .inr ⟨hgo i out H' hlt ha p, fun σ3 => ∀ ws, ws.length = ks.length → setAll σ3 ks ws = setAll σ2 ks ws, fun v H4 => H4 acc = some (.lst out) ∧ Pv (i + 1) (out ++ [v]) (upd H4 acc (.lst (out ++ [v]))), fun σ3 v H4 hS ⟨a, b⟩ => ?_, fun x H1 y => ?_⟩
    · refine ⟨out, a, ?_, n - (i + 1), by omega, rfl, hlt, hS, out ++ [v], by rw [List.length_append, ho]; rfl, upd_same, b⟩
      have : sizeLine = 16777216 := sizeLine_eq
      omega
    · obtain ⟨t, vs, rfl, sq, hl, q⟩ := hs i x out H' H1 hlt ho ha p y
      refine ⟨t, vs, rfl, sq, hl, gNs_of hl ⟨fun ws hw => ?_, ?_⟩⟩
      · rw [setAll_again nd hl hw]; exact hσ ws hw
      · rw [hσ vs hl]; exact q
  · have e : i = n := by omega
    subst e
    exact .inl ⟨hst out H' ha p, hd out H' ho ha p⟩
theorem comp_1 {J : It} {n : Nat} (k : Nat) {te : TE} {σ2 : St} {H : Hp} {acc : Addr} {Q : VK} (Pv : Nat → List V → Hp → Prop) (hn : n ≤ 100000) (h0 : Pv 0 [] (upd H acc (.lst [])))
    (hgo : ∀ i out H1, i < n → H1 acc = some (.lst out) → Pv i out H1 → J.go i H1) (hst : ∀ out H1, H1 acc = some (.lst out) → Pv n out H1 → J.stop n H1)
    (hs : ∀ (i : Nat) (x : V) (out : List V) (H1 H2 : Hp), i < n → out.length = i → H1 acc = some (.lst out) → Pv i out H1 → J.yld i H1 x H2 →
      te (σ2.set k (some x)) H2 fun v H4 => H4 acc = some (.lst out) ∧ Pv (i + 1) (out ++ [v]) (upd H4 acc (.lst (out ++ [v]))))
    (hd : ∀ (out : List V) (H1 : Hp), out.length = n → H1 acc = some (.lst out) → Pv n out H1 → Q (.ref acc) H1) :
    CompG J (gName k) te acc σ2 H Q := by
  refine ⟨fun i m σ' H' => m = n - i ∧ i ≤ n ∧ (∀ w : Option V, σ'.set k w = σ2.set k w) ∧ ∃ out, out.length = i ∧ H' acc = some (.lst out) ∧ Pv i out H', ⟨n, by simp, Nat.zero_le _, fun _ => rfl, [], rfl, upd_same, h0⟩, ?_⟩
  rintro i m σ' H' ⟨rfl, hi, hσ, out, ho, ha, p⟩
  by_cases hlt : i < n
  · refine .inr ⟨hgo i out H' hlt ha p, fun σ3 => ∀ w : Option V, σ3.set k w = σ2.set k w, fun v H4 => H4 acc = some (.lst out) ∧ Pv (i + 1) (out ++ [v]) (upd H4 acc (.lst (out ++ [v]))), fun σ3 v H4 hS ⟨a, b⟩ => ?_, fun x H1 y => ?_⟩
    · refine ⟨out, a, ?_, n - (i + 1), by omega, rfl, hlt, hS, out ++ [v], by rw [List.length_append, ho]; rfl, upd_same, b⟩
      have : sizeLine = 16777216 := sizeLine_eq
      omega
    · refine ⟨fun w => by rw [List.set_set]; exact hσ w, ?_⟩
      rw [hσ]
      exact hs i x out H' H1 hlt ho ha p y
  · have e : i = n := by omega
    subst e
    exact .inl ⟨hst out H' ha p, hd out H' ho ha p⟩
end L2
namespace L2
open PySem PySem.Spec PyProof.Rows
theorem noFill_tuple_mul : fillsNumberSlot (.type "tuple") "mul" = pure false :=
  PySem.fillsNumberSlot_seq (id := "tuple.__mul__") (r := some (.builtin "tuple.__rmul__")) F.slot_tuple_mul.lookup (by decide +kernel) F.slot_tuple_rmul.lookup (by decide +kernel)
theorem repeat_tuple : seqRepeat? (.type "tuple") = pure (some (.builtin "tuple.__mul__")) := by
  unfold seqRepeat?
  rw [PySem.seqSlot_of (T := "tuple") (name := "__mul__") (id := "tuple.__mul__") F.slot_tuple_mul.lookup (by decide +kernel), PySem.seqSlot_of (T := "tuple") (name := "__rmul__") (id := "tuple.__rmul__") F.slot_tuple_rmul.lookup (by decide +kernel)]
  rfl
theorem rmul_int_tuple (a : Int) (t : Tok) (l : Addr) (items : Array Value) (n : Nat) (dd : Option Addr) (sl : Array (Option Value)) :
    Meets (Builtin.«int.__rmul__» ⟨[.int a t, .ref l], []⟩) (fun _ R s => s.heap.get? l = some { cls := .type "tuple", dict := dd, data := .seq items n, slots := sl } ∧ R (.ok (.ret Value.notImplemented)) s) :=
  .of_wp fun prog w A R s h => by obtain ⟨hp, g, d, tk, os⟩ := s; obtain ⟨hl, h⟩ := h; wp_walk; exact ⟨_, rfl, h⟩
theorem tuple_mul1 (l : Addr) (items : Array Value) (n : Nat) (dd : Option Addr) (sl : Array (Option Value)) (u : Tok) :
    Meets (Builtin.«tuple.__mul__» ⟨[.ref l, .int 1 u], []⟩) (fun _ R s => s.heap.get? l = some { cls := .type "tuple", dict := dd, data := .seq items n, slots := sl } ∧ R (.ok (.ret (Value.ref l))) { s with heap := s.heap, toks := s.toks }) :=
  .of_wp fun prog w A R s h => by
    obtain ⟨hp, g, d, tk, os⟩ := s; obtain ⟨hl, h⟩ := h; have f1 := AutoSeq1.idx_int; have f2 := AutoSeq1.sub_tuple_tuple
    wp_walk using AutoSeq1.wpAny_loadPart' hl; exact ⟨_, rfl, h⟩
theorem tuple_mulN (l : Addr) (items : Array Value) (n : Nat) (dd : Option Addr) (sl : Array (Option Value)) (x : Int) (u : Tok) (h0 : ¬ (items.isEmpty || x == 1) = true) (h2 : ¬ (decide (x ≤ 0) || items.isEmpty) = true) (h3 : ¬ (decide (x < -2 ^ 63) || decide (x ≥ 2 ^ 63)) = true)
    (h4 : ¬ (items.size : Int) * x > (2 ^ 63 - 1) / 8) (h5 : ¬ Builtin.Tuple.tupleTooMany ((items.size : Int) * x) = true) (h6 : (List.foldl (fun x1 x2 => x1 ++ x2) #[] (List.replicate x.toNat items)).size ≤ sizeLine) :
    Meets (Builtin.«tuple.__mul__» ⟨[.ref l, .int x u], []⟩) (fun _ R s => s.heap.get? l = some { cls := .type "tuple", dict := dd, data := .seq items n, slots := sl } ∧
      R (.ok (.ret (Value.ref s.heap.objs.size))) { s with heap := s.heap.push { cls := Value.type "tuple", data := Data.seq ((List.replicate x.toNat items).foldl (· ++ ·) #[]) }, toks := s.toks }) :=
  .of_wp fun prog w A R s h => by
    obtain ⟨hp, g, d, tk, os⟩ := s; obtain ⟨hl, h⟩ := h; have f1 := AutoSeq1.idx_int; have f2 := AutoSeq1.sub_tuple_tuple
    wp_walk using AutoSeq1.wpAny_loadPart' hl
    rw [if_neg h3]
    wp_walk using AutoSeq1.wpAny_loadPart' hl
    rw [if_neg h4]
    wp_walk using AutoSeq1.wpAny_loadPart' hl
    exact ⟨_, rfl, h⟩
section
variable {X : Cx}
def rRepT (K : PySem.W.Frag) : R2 := fun x y H Q => ∃ a k xs, x = .ref a ∧ y = .int k ∧ SqT K H a xs ∧ xs ≠ [] ∧ 1 ≤ k ∧ xs.length * k.toNat ≤ sizeLine ∧
  (k = 1 → Q (.ref a) H) ∧ (k ≠ 1 → ∀ p, H p = none → Q (.ref p) (upd H p (.tup (List.replicate k.toNat xs).flatten)))
theorem op_repT (K : PySem.W.Frag) (hK : X.K = K := by rfl) : OpR X (binaryOp .Mult) (rRepT K) := by
  subst hK
  intro pins s σ H x y v u Q I rx ry h
  obtain ⟨a, k, xs, rfl, rfl, ha, hx, h1, hz, q1, q2⟩ := h
  cases rx
  obtain ⟨t, rfl⟩ := ry
  obtain ⟨its, r, p, hz0⟩ := I.tuple ha
  obtain ⟨⟨cls, dd, data, sl⟩, ho, hc, n, hd⟩ := id p
  simp only at hc hd
  subst hc hd
  have hl : xs.length = its.length := r.length
  have hne : its ≠ [] := fun z => hx (r.nil_iff.mp z)
  have hpos : 1 ≤ its.length := List.length_pos_iff.mpr hne
  refine wpAny_binaryOp_repeat_ref (T := "tuple") (U := "int") (by decide) ⟨_, ho, rfl⟩ (fun s' => typeIs_int s' k t) noFill_tuple_mul F.fills_int_mul F.slot_int_rmul repeat_tuple F.slot_int_index.lookup
    (call_meets F.slot_int_rmul (typeIs_int s k t) F.entry_int_rmul (F.args_int_rmul_2 _ _) (rmul_int_tuple k t a its.toArray n dd sl) ⟨ho, rfl, ⟨_, ho, rfl⟩, ?_⟩)
  by_cases hk : k = 1
  · subst hk
    exact call_meets F.slot_tuple_mul ⟨_, ho, rfl⟩ F.entry_tuple_mul (F.args_tuple_mul_2 _ _) (tuple_mul1 a its.toArray n dd sl t) ⟨ho, ⟨.ref a, H, I, rfl, q1 rfl⟩⟩
  · have hnew : List.foldl (fun x1 x2 => x1 ++ x2) #[] (List.replicate k.toNat its.toArray) = (List.replicate k.toNat its).flatten.toArray := by
      have := foldl_rep its k.toNat []
      rw [List.nil_append] at this
      exact this
    have hsz : its.length * k.toNat ≤ sizeLine := by rw [← hl]; exact hz
    have hkk : (k.toNat : Int) = k := Int.toNat_of_nonneg (by omega)
    have hk2 : k.toNat ≤ its.length * k.toNat := Nat.le_mul_of_pos_left _ hpos
    have hs := sizeLine_eq
    have he : its.toArray.isEmpty = false := by cases its with | nil => exact absurd rfl hne | cons _ _ => rfl
    have hmul : (its.toArray.size : Int) * k = ((its.length * k.toNat : Nat) : Int) := by
      rw [List.size_toArray, Int.natCast_mul, hkk]
    refine call_meets F.slot_tuple_mul ⟨_, ho, rfl⟩ F.entry_tuple_mul (F.args_tuple_mul_2 _ _) (tuple_mulN a its.toArray n dd sl k t ?_ ?_ ?_ ?_ ?_ ?_) ⟨ho, ?_⟩
    · rw [he, Bool.false_or]; simpa using hk
    · rw [he, Bool.or_false]; simp; omega
    · simp; omega
    · rw [hmul]; omega
    · rw [hmul]; intro z; have := of_decide_eq_true z; omega
    · rw [hnew, List.size_toArray, len_rep]; rw [Nat.mul_comm]; exact hsz
    · rw [hnew]
      refine ⟨.ref s.heap.objs.size, _, I.laid (t' := s.toks) (o := .tup (List.replicate k.toNat xs).flatten) (fun b ob q => Heap.get?_push_of_some _ q) (Nat.le_refl _) ?_, rfl, q2 hk _ (I.hok.fresh (Nat.le_refl _))⟩
      exact ⟨by rw [len_rep, Nat.mul_comm]; exact hz, _, r.rep k.toNat, IsTup.new _ _⟩
def rCatG (K : PySem.W.Frag) : R2 := fun x y H Q => ∃ a b xs ys, x = .ref a ∧ y = .ref b ∧ SqT K H a xs ∧ SqT K H b ys ∧ xs.length + ys.length ≤ sizeLine ∧
  (xs = [] → Q (.ref b) H) ∧ (xs ≠ [] → ys = [] → Q (.ref a) H) ∧ (xs ≠ [] → ys ≠ [] → ∀ p, H p = none → Q (.ref p) (upd H p (.tup (xs ++ ys))))
theorem op_catG (K : PySem.W.Frag) (hK : X.K = K := by rfl) : OpR X (binaryOp .Add) (rCatG K) := by
  subst hK
  intro pins s σ H x y v u Q I rx ry h
  obtain ⟨a, b, xs, ys, rfl, rfl, ha, hb, hz, q0, q1, q2⟩ := h
  by_cases hx : xs = []
  · cases rx
    cases ry
    obtain ⟨its, r1, ht, _⟩ := I.tuple ha
    obtain ⟨its2, r2, hb', _⟩ := I.tuple hb
    obtain ⟨⟨cls, dd, data, sl⟩, ho, hc, n, hd⟩ := id ht
    obtain ⟨⟨cls2, dd2, data2, sl2⟩, ho2, hc2, n2, hd2⟩ := id hb'
    simp only at hc hd hc2 hd2
    subst hc hd hc2 hd2
    exact concat_meets ⟨_, ho, rfl⟩ ⟨_, ho2, rfl⟩ noFill_tuple_add seq_tuple_add PySem.F.slot_tuple_add PySem.F.entry_tuple_add (PySem.F.args_tuple_add_2 _ _)
      (tuple_addW0 a b its.toArray its2.toArray n n2 dd dd2 sl sl2 (by rw [r1.nil_iff.mpr hx]; rfl)) ⟨ho, ho2, ⟨.ref b, H, I, rfl, q0 hx⟩⟩
  · exact op_catT pins s σ H _ _ v u Q I rx ry ⟨a, b, xs, ys, rfl, rfl, ha, hb, hx, hz, q1 hx, q2 hx⟩
def rRepS : R2 := fun x y H Q => ∃ (cs : List Nat) (k : Int), x = .str (tx cs) ∧ y = .int k ∧ 0 ≤ k ∧ cs.length * k.toNat ≤ sizeLine ∧ k < 2 ^ 62 ∧ Q (.str (tx (List.replicate k.toNat cs).flatten)) H
theorem foldl_repN (cs : List Nat) : ∀ (k : Nat) (acc : List Nat), List.foldl (fun x1 x2 => x1 ++ x2) acc.toArray (List.replicate k cs.toArray) = (acc ++ (List.replicate k cs).flatten).toArray
  | 0, acc => by simp
  | k + 1, acc => by
    rw [List.replicate_succ, List.replicate_succ, List.foldl_cons, List.flatten_cons, ← List.append_assoc]
    have := foldl_repN cs k (acc ++ cs)
    rw [← this]
    congr 1
    simp
theorem op_repS : OpR X (binaryOp .Mult) rRepS := by
  intro pins s σ H x y v u Q I rx ry h
  obtain ⟨cs, k, rfl, rfl, h0, hz, hk, q⟩ := h
  obtain ⟨t, rfl⟩ := rx
  obtain ⟨t', rfl⟩ := ry
  have hs := sizeLine_eq
  refine PySem.P.mul_str (by simp; omega) (fun h1 h2 => ?_) (fun h1 h2 => ?_) ?_
  · rw [tx_length]
    have hc : cs.length ≠ 0 := fun z => by rw [tx_length, z] at h2; simp at h2
    have hk1 : cs.length ≤ cs.length * k.toNat := Nat.le_mul_of_pos_right _ (by omega)
    have hk2 : k.toNat ≤ cs.length * k.toNat := Nat.le_mul_of_pos_left _ (by omega)
    intro z
    have hq : (2 ^ 63 - 1 : Int) / k ≥ 16777216 := by
      rw [ge_iff_le, Int.le_ediv_iff_mul_le (by omega)]
      omega
    omega
  · rw [tx_length]
    unfold Builtin.Str.tooLong
    exact decide_eq_false (by omega)
  · have hfold : List.foldl (fun x1 x2 => x1 ++ x2) #[] (List.replicate k.toNat cs.toArray) = (List.replicate k.toNat cs).flatten.toArray := by
      have := foldl_repN cs k.toNat []
      rw [List.nil_append] at this
      exact this
    split
    · rename_i hlt
      have e : k.toNat = 0 := by omega
      rw [e] at q
      exact ⟨by decide, .str (tx []), H, I.tok _, ⟨_, rfl⟩, q⟩
    · split
      · rename_i hlt hc
        refine ⟨.str (tx cs), H, I, ⟨t, rfl⟩, ?_⟩
        rcases Bool.or_eq_true_iff.mp hc with z | z
        · have : k = 1 := by simpa using z
          subst this
          rw [show ((1 : Int).toNat) = 1 from rfl] at q
          simpa using q
        · rw [tx_length] at z
          have : cs = [] := List.length_eq_zero_iff.mp (by simpa using z)
          subst this
          have e : (List.replicate k.toNat ([] : List Nat)).flatten = [] := by rw [List.flatten_eq_nil_iff]; intro l hl; exact (List.mem_replicate.mp hl).2
          rw [e] at q
          exact q
      · show (Made.str ⟨_⟩).post _ _
        rw [hfold]
        refine ⟨?_, .str (tx (List.replicate k.toNat cs).flatten), H, I.tok _, ⟨_, rfl⟩, q⟩
        show (tx _).length ≤ sizeLine
        rw [tx_length, len_rep, Nat.mul_comm]
        exact hz
def DGetS (P : Program) (w : World) (K : PySem.W.Frag) (a : Addr) (y : V) (r : Option V) : Prop :=
  (a == sysModules) = false ∧ ∃ (kvs : List (Key × V)) (vs : List (Key × Value)) (k : Key) (o : Obj), y = kV k ∧ KV kvs vs ∧ r = valV kvs k ∧ K.lookup a = some o ∧ o.IsDictOf (mixKind P w) vs
def tDGetS (P : Program) (w : World) (K : PySem.W.Frag) (td ty : TE) : TE := fun σ H Q => td σ H fun x H1 => ty σ H1 fun y H2 => ∃ a v, x = .ref a ∧ DGetS P w K a y (some v) ∧ Q v H2
def tDInS (P : Program) (w : World) (K : PySem.W.Frag) (ty td : TE) : TE := fun σ H Q => ty σ H fun y H1 => td σ H1 fun x H2 => ∃ a o, x = .ref a ∧ DGetS P w K a y o ∧ Q (.bl o.isSome) H2
variable {o i : Expr} {pos : Pos} {td ty : TE}
theorem pe_dgetS (ho : PE X o td) (hi : PE X i ty) (hs : NoSl i) : PE X (.Subscript o i pos) (tDGetS X.prog X.w X.K td ty) := by
  intro pins s σ H Q I h
  refine subD_of PySem.F.slot_dict_getitem.lookup hs (thn (ho pins s σ H _ I h) fun u s1 ⟨x, H1, I1, rx, q1⟩ => thn (hi pins s1 σ H1 _ I1 q1) fun iv s2 ⟨y, H2, I2, ry, a, v, ex, g, q2⟩ => ?_)
  subst ex
  obtain rfl : u = Value.ref a := rx
  obtain ⟨_, kvs, vs, k, ob, ey, rel, l, hk, hd⟩ := g
  subst ey
  have dd : s2.heap.DictOf (mixKind X.prog X.w) a vs := Heap.dictOf_iff.mpr ⟨ob, I2.kIn a ob hk, hd⟩
  obtain ⟨w', hw, rw'⟩ := RelO.some_of (v := v) (o := valueAt vs k) (by rw [l]; exact rel.val k)
  exact ⟨dd.typeIs, wpAny_getItem_of (kV_is ry) dd.mapOf hw ⟨v, H2, I2.tok _, rw', q2⟩⟩
theorem pc_dinS (hi : PE X i ty) (ho : PE X o td) : PC X .In i o (tDInS X.prog X.w X.K ty td) := by
  intro pins s σ H Q I h
  refine thn (hi pins s σ H _ I h) fun iv s1 ⟨y, H1, I1, ry, q1⟩ => thn (ho pins s1 σ H1 _ I1 q1) fun u s2 ⟨x, H2, I2, rx, a, ov, ex, g, q2⟩ => ?_
  subst ex
  obtain rfl : u = Value.ref a := rx
  obtain ⟨hsys, kvs, vs, k, ob, ey, rel, l, hk, hd⟩ := g
  subst ey
  have dd : s2.heap.DictOf (mixKind X.prog X.w) a vs := Heap.dictOf_iff.mpr ⟨ob, I2.kIn a ob hk, hd⟩
  refine wpAny_in_of (kV_is ry) hsys dd.mapOf ?_
  rw [← (rel.val k).isSome_eq, ← l]
  exact ⟨.bl ov.isSome, H2, I2.tok _, rfl, q2⟩
end
end L2
namespace L2
open PySem PySem.Spec PyProof.Rows
inductive Th where | s (cs : List Nat) | n (i : Int)
def Th.v : Th → V
  | .s cs => .str (tx cs)
  | .n i => .int i
def Th.ok : Th → Prop
  | .s cs => cs.length ≤ 1000
  | .n _ => True
inductive Kd where | nm | am | we
def Kd.s : Kd → Str
  | .nm => "name"
  | .am => "amount"
  | .we => "weight"
def fitsT : Th → Kd → Bool
  | .s cs, .nm => isName cs
  | .n i, .am => decide (1 ≤ i) && decide (i ≤ 1000000000)
  | .n i, .we => decide (0 ≤ i) && decide (i ≤ 1000000000)
  | _, _ => false
def formsL : List (Str × List Kd) := [("load", [.nm, .nm, .am, .we]), ("award", [.nm, .am]), ("mishap", [.nm, .am]), ("rise", [.nm, .am]), ("hand", [.nm, .nm]), ("land", [.nm]), ("sever", [.nm, .nm, .am, .we]), ("still", [])]
def formsOf (fs : List (Str × List Kd)) (x : Str) : Option (List Kd) := (fs.find? fun p => decide (p.1 = x)).map fun p => p.2
def pairsK (n : Nat) : List Kd := (List.replicate n [Kd.nm, Kd.am]).flatten
def formOf (x : Str) (n : Nat) : Option (List Kd) := if x = "cast" then some (pairsK (max 1 (n / 2))) else formsOf formsL x
def allFit (th : List Th) (ks : List Kd) : Bool := decide (th.length = ks.length) && (List.zipWith fitsT th ks).all id
def soundT (x : List Nat) (th : List Th) : Bool := match formOf (tx x) (th.length + 1) with
  | some ks => allFit th ks
  | none => false
def strsV : List Value → Option (List Str)
  | [] => some []
  | .str x _ :: r => (strsV r).map (x :: ·)
  | _ :: _ => none
theorem strsV_vals : ∀ {us : List Value} {xs : List Str}, strsV us = some xs → Vals (xs.map V.str) us
  | [], _, h => by cases h; exact .nil
  | u :: r, xs, h => by
    cases u with
    | str x t =>
      obtain ⟨ys, hy, rfl⟩ := Option.map_eq_some_iff.mp (show (strsV r).map (x :: ·) = some xs from h)
      exact .cons ⟨t, rfl⟩ (strsV_vals hy)
    | _ => exact nomatch h
structure TupAt (K : PySem.W.Frag) (a : Addr) (xs : List Str) : Prop where
  ex : ∃ (c : Value) (d : Option Addr) (its : Array Value) (n : Nat) (sl : Array (Option Value)), K.lookup a = some ⟨c, d, .seq its n, sl⟩ ∧ c = .type "tuple" ∧ strsV its.toList = some xs ∧ its.size ≤ 100
theorem TupAt.sq {K : PySem.W.Frag} {a : Addr} {xs : List Str} (h : TupAt K a xs) (H : Hp) : SqT K H a (xs.map V.str) := by
  obtain ⟨c, d, its, n, sl, h1, h2, h3, h4⟩ := h.ex
  exact .inr ⟨_, its, n, h1, h2, rfl, by rw [sizeLine_eq]; omega, strsV_vals h3⟩
inductive FL (K : PySem.W.Frag) : List (Str × Addr) → List (Str × List Kd) → Prop
  | nil : FL K [] []
  | cons {x : Str} {a : Addr} {ks : List Kd} {ps : List (Str × Addr)} {fs : List (Str × List Kd)} : TupAt K a (ks.map Kd.s) → FL K ps fs → FL K ((x, a) :: ps) ((x, ks) :: fs)
def kvsF (ps : List (Str × Addr)) : List (Key × V) := ps.map fun p => (Sum.inr p.1, V.ref p.2)
theorem FL.get {K : PySem.W.Frag} {ps : List (Str × Addr)} {fs : List (Str × List Kd)} (h : FL K ps fs) (x : Str) :
    (valV (kvsF ps) (Sum.inr x) = none ∧ formsOf fs x = none) ∨ ∃ a ks, valV (kvsF ps) (Sum.inr x) = some (.ref a) ∧ formsOf fs x = some ks ∧ ∀ H, SqT K H a ((ks.map Kd.s).map V.str) := by
  induction h with
  | nil => exact .inl ⟨rfl, rfl⟩
  | @cons y a ks ps fs t _ ih =>
    by_cases e : y = x
    · subst e
      refine .inr ⟨a, ks, ?_, ?_, t.sq⟩
      · unfold valV kvsF; simp
      · unfold formsOf; simp
    · have e2 : ¬ (Sum.inr y : Key) = Sum.inr x := fun z => e (Sum.inr.inj z)
      have h1 : valV (kvsF ((y, a) :: ps)) (Sum.inr x) = valV (kvsF ps) (Sum.inr x) := by unfold valV kvsF; simp [e2, e]
      have h2 : formsOf ((y, ks) :: fs) x = formsOf fs x := by unfold formsOf; simp [e]
      rw [h1, h2]
      exact ih
def strV : Value → Option Str
  | .str x _ => some x
  | _ => none
def rowsF (w : World) (ps : List (Str × Addr)) : List (Int × Option Str × Value) := ps.map fun p => (PyData.keyHash w.params p.1, some p.1, Value.ref p.2)
theorem rows_dict {P : Program} {w : World} : ∀ {es : List DictEntry} {ps : List (Str × Addr)}, es.map (fun e => (e.hash, strV e.key, e.val)) = rowsF w ps →
    (∀ e ∈ es, ∃ k, (mixKind P w).is k e.key = true ∧ e.hash = (mixKind P w).hash k) ∧ Pairs (mixKind P w) es (ps.map fun p => (Sum.inr p.1, Value.ref p.2))
  | [], [], _ => ⟨(fun _ m => nomatch m), .nil⟩
  | [], _ :: _, h => by cases h
  | _ :: _, [], h => by cases h
  | e :: es, p :: ps, h => by
    have h' : ((e.hash, strV e.key, e.val) :: es.map (fun e => (e.hash, strV e.key, e.val))) = (PyData.keyHash w.params p.1, some p.1, Value.ref p.2) :: rowsF w ps := h
    injection h' with h1 h2
    injection h1 with ha h1
    injection h1 with hb hc
    obtain ⟨i1, i2⟩ := rows_dict (P := P) h2
    obtain ⟨t, hk⟩ : ∃ t, e.key = .str p.1 t := by
      revert hb
      cases e.key with
      | str x t => intro hb; exact ⟨t, by rw [Option.some.inj hb]⟩
      | _ => intro hb; exact nomatch hb
    have is : (mixKind P w).is (Sum.inr p.1) e.key = true := by rw [hk]; exact mixKind_str P w p.1 t
    refine ⟨fun e' he => ?_, .cons is hc i2⟩
    rcases List.mem_cons.mp he with z | z
    · subst z
      exact ⟨Sum.inr p.1, is, ha⟩
    · exact i1 e' z
structure FormsAt (w : World) (K : PySem.W.Frag) : Prop where
  ex : ∃ (aF aP : Addr) (ps : List (Str × Addr)) (c : Value) (d : Option Addr) (es : Array DictEntry) (n : Nat) (sl : Array (Option Value)), PySem.W.nsIn K mainGlobals "FORMS" = some (some (.ref aF)) ∧ PySem.W.nsIn K mainGlobals "PAIR" = some (some (.ref aP)) ∧
    K.lookup aF = some ⟨c, d, .dict es n, sl⟩ ∧ c = .type "dict" ∧ d = none ∧ sl = #[] ∧ es.toList.map (fun e => (e.hash, strV e.key, e.val)) = rowsF w ps ∧ (aF == sysModules) = false ∧ FL K ps formsL ∧ TupAt K aP ["name", "amount"]
structure FormsG (P : Program) (w : World) (K : PySem.W.Frag) (aF aP : Addr) : Prop where
  get : ∀ x : Str, ∃ r, DGetS P w K aF (.str x) r ∧ ((r = none ∧ formsOf formsL x = none) ∨ ∃ a ks, r = some (.ref a) ∧ formsOf formsL x = some ks ∧ ∀ H, SqT K H a ((ks.map Kd.s).map V.str))
  pair : ∀ H, SqT K H aP [.str "name", .str "amount"]
theorem FL.keys {K : PySem.W.Frag} {ps : List (Str × Addr)} {fs : List (Str × List Kd)} (h : FL K ps fs) : ps.map (·.1) = fs.map (·.1) := by
  induction h with
  | nil => rfl
  | cons _ _ ih => rw [List.map_cons, List.map_cons, ih]
theorem FormsAt.at {P : Program} {w : World} {K : PySem.W.Frag} {mg : Str → Option Value} {h : Heap} (f : FormsAt w K) (X : K.In h) (G : h.Ns mainGlobals mg) :
    ∃ aF aP, mg "FORMS" = some (.ref aF) ∧ mg "PAIR" = some (.ref aP) ∧ FormsG P w K aF aP := by
  obtain ⟨aF, aP, ps, c, d, es, n, sl, h1, h2, h3, rfl, rfl, rfl, h4, h5, fl, tp⟩ := f.ex
  refine ⟨aF, aP, PySem.W.mg_of X G h1, PySem.W.mg_of X G h2, fun x => ?_, fun H => tp.sq H⟩
  obtain ⟨i1, i2⟩ := rows_dict (P := P) h4
  have nd : (((ps.map fun p => ((Sum.inr p.1 : Key), Value.ref p.2))).map (·.1)).Nodup := by
    rw [List.map_map]
    have e : List.map ((fun x => x.1) ∘ fun p : Str × Addr => ((Sum.inr p.1 : Key), Value.ref p.2)) ps = (ps.map (·.1)).map Sum.inr := by rw [List.map_map]; rfl
    rw [e, fl.keys]
    decide +kernel
  have kv : KV (kvsF ps) (ps.map fun p => ((Sum.inr p.1 : Key), Value.ref p.2)) := by
    unfold kvsF KV
    clear h4 i1 i2 nd fl
    induction ps with
    | nil => exact .nil
    | cons p ps ih => exact .cons ⟨rfl, rfl⟩ ih
  refine ⟨valV (kvsF ps) (Sum.inr x), ⟨h5, kvsF ps, _, Sum.inr x, _, rfl, kv, rfl, h3, es, n, ⟨rfl, rfl, rfl⟩, rfl, fun e he => i1 e (by simpa using he), i2, nd⟩, fl.get x⟩
theorem sl_tupK {X : Cx} (K : PySem.W.Frag) (hK : X.K = K := by rfl) : SlR X (rSlT K) := hK ▸ sl_tup
theorem isi_int_str {K : PySem.W.Frag} : PySem.W.kitOne K (.type "int") (.type "str") = some false := by rfl
theorem isi_str_int {K : PySem.W.Frag} : PySem.W.kitOne K (.type "str") (.type "int") = some false := by rfl
theorem cutV_to (xs : List V) (k : Nat) : cutV xs none (some (k : Int)) = xs.take k := by
  unfold cutV
  rw [HT.sIx_none, HT.sIx_nat, List.drop_zero, Nat.sub_zero]
  rcases Nat.le_total k xs.length with h | h
  · rw [Nat.min_eq_left h]
  · rw [Nat.min_eq_right h, List.take_length, List.take_of_length_le h]
theorem cutV_from (xs : List V) (k : Nat) : cutV xs (some (k : Int)) none = xs.drop k := by
  unfold cutV
  rw [HT.sIx_none, HT.sIx_nat]
  rcases Nat.le_total k xs.length with h | h
  · rw [Nat.min_eq_left h]
    exact List.take_of_length_le (by rw [List.length_drop]; omega)
  · rw [Nat.min_eq_right h, List.drop_length, List.drop_of_length_le h, List.take_nil]
theorem zipT_take {f : Th → Kd → Bool} {xs : List Th} {ys : List Kd} {i : Nat} {x : Th} {y : Kd} (h1 : xs[i]? = some x) (h2 : ys[i]? = some y) : List.zipWith f (xs.take (i + 1)) (ys.take (i + 1)) = List.zipWith f (xs.take i) (ys.take i) ++ [f x y] := by
  rw [← List.take_zipWith, ← List.take_zipWith, List.take_add_one]
  congr 1
  rw [List.getElem?_zipWith, h1, h2]
  rfl
theorem map_at {α β : Type} {g : α → β} {xs : List α} {i : Nat} {v : β} (h : (xs.map g)[i]? = some v) : ∃ x, v = g x ∧ xs[i]? = some x := by
  rw [List.getElem?_map] at h
  obtain ⟨x, h1, h2⟩ := Option.map_eq_some_iff.mp h
  exact ⟨x, h2.symm, h1⟩
structure spFits (vs : List V) (H : Hp) (Q : VK) (E : XK) : Prop where
  ex : ∃ (t : Th) (k : Kd), vs = [t.v, .str k.s] ∧ t.ok ∧ ∀ H', Same H H' → Q (.bl (fitsT t k)) H'
theorem use_fits {H : Hp} {Q : VK} {E : XK} {t : Th} {k : Kd} {v u : V} (e : v = t.v) (e2 : u = .str k.s) (ht : t.ok) (q : ∀ H', Same H H' → Q (.bl (fitsT t k)) H') : spFits [v, u] H Q E := ⟨t, k, by rw [e, e2], ht, q⟩
def thV (ds : List Th) : List V := ds.map Th.v
structure spSound (K : PySem.W.Frag) (vs : List V) (H : Hp) (Q : VK) (E : XK) : Prop where
  ex : ∃ (d : Addr) (x : List Nat) (th : List Th), vs = [.ref d] ∧ SqT K H d (thV (.s x :: th)) ∧ th.length ≤ 1000 ∧ (∀ t ∈ th, t.ok) ∧ ∀ H', Same H H' → Q (.bl (soundT x th)) H'
theorem use_sound {K : PySem.W.Frag} {H : Hp} {Q : VK} {E : XK} {d : Addr} {x : List Nat} {th : List Th} (h : SqT K H d (thV (.s x :: th))) (hl : th.length ≤ 1000) (ok : ∀ t ∈ th, t.ok) (q : ∀ H', Same H H' → Q (.bl (soundT x th)) H') : spSound K [.ref d] H Q E := ⟨d, x, th, rfl, h, hl, ok, q⟩
end L2
namespace L2
open PySem PySem.Spec PyProof.Rows
theorem inS_letter {c : Nat} (h1 : 97 ≤ c) (h2 : c < 123) : inS "abcdefghijklmnopqrstuvwxyz" c = true := by
  have h : ∀ n : Nat, n < 26 → inS "abcdefghijklmnopqrstuvwxyz" (97 + n) = true := by decide +kernel
  have := h (c - 97) (by omega)
  rw [show 97 + (c - 97) = c by omega] at this
  exact this
theorem NameOk.is {x : List Nat} (h : NameOk x) : isName x = true := by
  unfold isName
  rw [decide_eq_true (by have := h.lo; omega), decide_eq_true (by have := h.hi; omega), Bool.true_and, Bool.true_and, List.all_eq_true]
  exact fun c hc => inS_letter (h.letters c hc).1 (h.letters c hc).2
def wd (y : Str) : List Nat := y.cps.toList
theorem wd_tx (y : Str) : tx (wd y) = y := tx_eta y
theorem wd_v (y : Str) : (Th.s (wd y)).v = .str y := by show V.str (tx (wd y)) = _; rw [wd_tx]
def GoodT : Th → Prop
  | .s cs => NameOk cs
  | .n i => 0 ≤ i ∧ i ≤ 1000000000
def words9 : List Str := ["load", "award", "mishap", "rise", "hand", "land", "sever", "still", "cast"]
structure AnyD (x : List Nat) (th : List Th) : Prop where
  word : ∃ y ∈ words9, x = wd y
  snd : soundT x th = true
  len : th.length ≤ 200
  good : ∀ t ∈ th, GoodT t
theorem soundT_of {y : Str} {ks : List Kd} {th : List Th} (hy : formOf y (th.length + 1) = some ks) (hf : allFit th ks = true) : soundT (wd y) th = true := by
  unfold soundT
  rw [wd_tx, hy]
  exact hf
theorem formOf_at {y : Str} {ks : List Kd} {n : Nat} (h : decide (y = "cast") = false) (e : formsOf formsL y = some ks) : formOf y n = some ks := by
  unfold formOf
  rw [if_neg (of_decide_eq_false h), e]
theorem fit_nm {a : List Nat} (h : NameOk a) : fitsT (.s a) .nm = true := h.is
theorem fit_am {i : Int} (h : 1 ≤ i) (h2 : i ≤ 1000000000) : fitsT (.n i) .am = true := by
  show (decide (1 ≤ i) && decide (i ≤ 1000000000)) = true
  rw [decide_eq_true h, decide_eq_true h2]; rfl
theorem fit_we {i : Int} (h : 0 ≤ i) (h2 : i ≤ 1000000000) : fitsT (.n i) .we = true := by
  show (decide (0 ≤ i) && decide (i ≤ 1000000000)) = true
  rw [decide_eq_true h, decide_eq_true h2]; rfl
section
variable {a b : List Nat} {m v : Int} (ha : NameOk a) (hb : NameOk b) (hm : 1 ≤ m) (hm2 : m ≤ 1000000000) (hv : 0 ≤ v) (hv2 : v ≤ 1000000000)
include ha hb hm hm2 hv hv2 in
theorem any4 {y : Str} (hy : y ∈ words9) (h : decide (y = "cast") = false) (e : formsOf formsL y = some [.nm, .nm, .am, .we]) : AnyD (wd y) [.s a, .s b, .n m, .n v] := by
  refine ⟨⟨y, hy, rfl⟩, soundT_of (formOf_at h e) ?_, (by simp), fun t ht => ?_⟩
  · unfold allFit
    simp [fit_nm ha, fit_nm hb, fit_am hm hm2, fit_we hv hv2]
  · simp at ht
    rcases ht with rfl | rfl | rfl | rfl
    · exact ha
    · exact hb
    · exact ⟨by omega, hm2⟩
    · exact ⟨hv, hv2⟩
include ha hm hm2 in
theorem any2 {y : Str} (hy : y ∈ words9) (h : decide (y = "cast") = false) (e : formsOf formsL y = some [.nm, .am]) : AnyD (wd y) [.s a, .n m] := by
  refine ⟨⟨y, hy, rfl⟩, soundT_of (formOf_at h e) ?_, (by simp), fun t ht => ?_⟩
  · unfold allFit
    simp [fit_nm ha, fit_am hm hm2]
  · simp at ht
    rcases ht with rfl | rfl
    · exact ha
    · exact ⟨by omega, hm2⟩
include ha hb in
theorem anyH : AnyD (wd "hand") [.s a, .s b] := by
  refine ⟨⟨_, by decide +kernel, rfl⟩, soundT_of (formOf_at (by decide +kernel) (ks := [.nm, .nm]) rfl) ?_, (by simp), fun t ht => ?_⟩
  · unfold allFit
    simp [fit_nm ha, fit_nm hb]
  · simp at ht
    rcases ht with rfl | rfl
    · exact ha
    · exact hb
include ha in
theorem anyL : AnyD (wd "land") [.s a] := by
  refine ⟨⟨_, by decide +kernel, rfl⟩, soundT_of (formOf_at (by decide +kernel) (ks := [.nm]) rfl) ?_, (by simp), fun t ht => ?_⟩
  · unfold allFit
    simp [fit_nm ha]
  · simp at ht
    subst ht
    exact ha
end
theorem anyS : AnyD (wd "still") [] := ⟨⟨_, by decide +kernel, rfl⟩, soundT_of (formOf_at (by decide +kernel) (ks := []) rfl) rfl, (by decide), fun t ht => nomatch ht⟩
def flatP (ps : List Pr) : List Th := ps.flatMap fun p => [.s p.1, .n p.2]
theorem flatP_len (ps : List Pr) : (flatP ps).length = 2 * ps.length := by
  induction ps with
  | nil => rfl
  | cons p ps ih => show (flatP ps).length + 1 + 1 = 2 * (ps.length + 1); omega
theorem flatP_snoc (ps : List Pr) (p : Pr) : flatP (ps ++ [p]) = flatP ps ++ [.s p.1, .n p.2] := by
  unfold flatP
  rw [List.flatMap_append]
  rfl
theorem allFit_flat {ps : List Pr} (h : ∀ p ∈ ps, NameOk p.1 ∧ 1 ≤ p.2 ∧ p.2 ≤ 1000000000) : (List.zipWith fitsT (flatP ps) (pairsK ps.length)).all id = true := by
  induction ps with
  | nil => rfl
  | cons p ps ih =>
    have h1 := h p List.mem_cons_self
    show (fitsT (.s p.1) .nm && (fitsT (.n p.2) .am && (List.zipWith fitsT (flatP ps) (pairsK ps.length)).all id)) = true
    rw [fit_nm h1.1, fit_am h1.2.1 h1.2.2, ih fun q hq => h q (List.mem_cons_of_mem _ hq)]
    rfl
theorem pairsK_len (n : Nat) : (pairsK n).length = 2 * n := by
  unfold pairsK
  rw [len_rep]
  show n * 2 = _
  omega
theorem anyC {ps : List Pr} (h : ∀ p ∈ ps, NameOk p.1 ∧ 1 ≤ p.2 ∧ p.2 ≤ 1000000000) (h0 : 1 ≤ ps.length) (h1 : ps.length ≤ 100) : AnyD (wd "cast") (flatP ps) := by
  have e : max 1 (((flatP ps).length + 1) / 2) = ps.length := by rw [flatP_len]; omega
  refine ⟨⟨_, by decide +kernel, rfl⟩, soundT_of (ks := pairsK ps.length) (by unfold formOf; rw [if_pos rfl, e]) ?_, by rw [flatP_len]; omega, fun t ht => ?_⟩
  · unfold allFit
    rw [decide_eq_true (by rw [flatP_len, pairsK_len]), allFit_flat h]
    rfl
  · obtain ⟨p, hp, hm⟩ := List.mem_flatMap.mp ht
    simp at hm
    have h1 := h p hp
    rcases hm with rfl | rfl
    · exact h1.1
    · exact ⟨by omega, h1.2.2⟩
theorem thV_wd (y : Str) (th : List Th) : thV (.s (wd y) :: th) = .str y :: th.map Th.v := by show (Th.s (wd y)).v :: _ = _; rw [wd_v]
theorem Prs.take {H : Hp} {vs : List V} {ps : List Pr} (h : Prs H vs ps) (n : Nat) : Prs H (vs.take n) (ps.take n) := by
  induction h generalizing n with
  | nil => rw [List.take_nil, List.take_nil]; exact .nil
  | cons e _ ih =>
    cases n with
    | zero => exact .nil
    | succ n => exact .cons e (ih n)
theorem at_some {xs : List V} {j : Int} (h0 : 0 ≤ j) (h1 : j < (xs.length : Int)) : ∃ v ∈ xs, atI xs j = some v := by
  have h : j.toNat < xs.length := by omega
  refine ⟨xs[j.toNat], List.getElem_mem h, ?_⟩
  have := atI_nat (List.getElem?_eq_getElem h)
  rw [show ((j.toNat : Nat) : Int) = j by omega] at this
  exact this
def words18a : List Str := ["load", "cast", "award", "mishap", "rise", "hand", "land", "sever", "still"]
def words18b : List Str := ["", "abcdefghi", "Land", "sign", "a b", "b\n", "a", "z", "cast "]
theorem map_drop_th (ds : List Th) (n : Nat) : (thV ds).drop n = thV (ds.drop n) := by unfold thV; rw [List.map_drop]
theorem map_take_th (ds : List Th) (n : Nat) : (thV ds).take n = thV (ds.take n) := by unfold thV; rw [List.map_take]
theorem thV_len (ds : List Th) : (thV ds).length = ds.length := List.length_map _
theorem thV_app (a b : List Th) : thV (a ++ b) = thV a ++ thV b := List.map_append
theorem thV_ne {a : List Th} (h : 1 ≤ a.length) : thV a ≠ [] := fun z => by have := thV_len a; rw [z] at this; simp at this; omega
def isS : Th → Bool
  | .s _ => true
  | .n _ => false
end L2
namespace L2
open PySem PySem.Spec PyProof.Rows
structure spLawIsName (vs : List V) (H : Hp) (Q : VK) (E : XK) : Prop where
  ex : ∃ (cs : List Nat), vs = [.str (tx cs)] ∧ cs.length ≤ 100000 ∧ Q (.bl (isName cs)) H
theorem use_lawisname {H : Hp} {Q : VK} {E : XK} {cs : List Nat} (hl : cs.length ≤ 100000) (q : Q (.bl (isName cs)) H) : spLawIsName [.str (tx cs)] H Q E := ⟨cs, rfl, hl, q⟩
def kch : Kd → Nat
  | .nm => 110
  | .am => 109
  | .we => 119
def kindsOf (x : List Nat) (n : Nat) : List Nat := match formOf (tx x) n with
  | some ks => ks.map kch
  | none => List.replicate n 63
def D6 : List (Key × V) := [(.inr "load", .str "nnmw"), (.inr "award", .str "nm"), (.inr "mishap", .str "nm"), (.inr "rise", .str "nm"), (.inr "hand", .str "nn"), (.inr "land", .str "n")]
def D8 : List (Key × V) := formsL.map fun p => (Sum.inr p.1, V.str (tx (p.2.map kch)))
theorem D8_of : putK (putK (mergeK [] D6) (.inr "sever") (.str "nnmw")) (.inr "still") (.str "") = D8 := by decide +kernel
theorem D9_of (v : V) : putK D8 (.inr "cast") v = D8 ++ [(.inr "cast", v)] := by
  unfold putK
  rw [if_neg (by decide +kernel)]
theorem val_forms (fs : List (Str × List Kd)) (x : Str) (r : List (Key × V)) : valV ((fs.map fun p => ((Sum.inr p.1 : Key), V.str (tx (p.2.map kch)))) ++ r) (.inr x) = (match formsOf fs x with | some ks => some (.str (tx (ks.map kch))) | none => valV r (.inr x)) := by
  induction fs with
  | nil => rfl
  | cons p fs ih =>
    by_cases e : p.1 = x
    · have h1 : formsOf (p :: fs) x = some p.2 := by unfold formsOf; simp [e]
      rw [h1]
      unfold valV
      simp [e]
    · have e2 : ¬ (Sum.inr p.1 : Key) = Sum.inr x := fun z => e (Sum.inr.inj z)
      have h1 : formsOf (p :: fs) x = formsOf fs x := by unfold formsOf; simp [e]
      rw [h1, ← ih]
      unfold valV
      simp [e, e2]
theorem val9 (x : Str) (n : Nat) : valV (D8 ++ [((Sum.inr "cast" : Key), V.str (tx ((pairsK (max 1 (n / 2))).map kch)))]) (Sum.inr x) = (formOf x n).map fun ks => V.str (tx (ks.map kch)) := by
  unfold D8
  rw [val_forms]
  unfold formOf
  by_cases e : x = "cast"
  · subst e
    rw [if_pos rfl, show formsOf formsL "cast" = none by rfl]
    rfl
  · rw [if_neg e]
    cases h : formsOf formsL x with
    | some ks => rfl
    | none =>
      have e2 : ¬ (Sum.inr "cast" : Key) = Sum.inr x := fun z => e (Sum.inr.inj z).symm
      show valV [_] _ = none
      unfold valV
      simp [e2]
theorem nm_rep (n : Nat) : (List.replicate n (wd "nm")).flatten = (pairsK n).map kch := by
  unfold pairsK
  rw [List.map_flatten, List.map_replicate]
  rfl
theorem allFit_step {th : List Th} {ks : List Kd} {i : Nat} {t : Th} {k : Kd} (h1 : th[i]? = some t) (h2 : ks[i]? = some k) (h : (List.zipWith fitsT (th.take i) (ks.take i)).all id = true) (f : fitsT t k = true) : (List.zipWith fitsT (th.take (i + 1)) (ks.take (i + 1))).all id = true := by
  rw [zipT_take h1 h2, List.all_append, h]
  show (true && (fitsT t k && true)) = true
  rw [f]
  rfl
theorem allFit_bad {th : List Th} {ks : List Kd} {i : Nat} {t : Th} {k : Kd} (h1 : th[i]? = some t) (h2 : ks[i]? = some k) (f : fitsT t k = false) : allFit th ks = false := by
  unfold allFit
  have hm : fitsT t k ∈ List.zipWith fitsT th ks := List.mem_of_getElem? (i := i) (by rw [List.getElem?_zipWith, h1, h2])
  have : (List.zipWith fitsT th ks).all id = false := by
    rw [List.all_eq_false]
    exact ⟨_, hm, by rw [f]; exact Bool.false_ne_true⟩
  rw [this, Bool.and_false]
theorem TupAt.of {K : PySem.W.Frag} {a : Addr} {xs : List Str} {c : Value} {d : Option Addr} {its : Array Value} {n : Nat} {sl : Array (Option Value)} (l : K.lookup a = some ⟨c, d, .seq its n, sl⟩) (e : c = .type "tuple" ∧ strsV its.toList = some xs ∧ its.size ≤ 100) : TupAt K a xs := ⟨c, d, its, n, sl, l, e⟩
theorem FormsAt.of {w : World} {K : PySem.W.Frag} {aF aP a1 a2 a3 a4 a5 a6 a7 a8 : Addr} {c : Value} {d : Option Addr} {es : Array DictEntry} {n : Nat} {sl : Array (Option Value)} (h1 : PySem.W.nsIn K mainGlobals "FORMS" = some (some (.ref aF))) (h2 : PySem.W.nsIn K mainGlobals "PAIR" = some (some (.ref aP)))
    (h3 : K.lookup aF = some ⟨c, d, .dict es n, sl⟩) (h4 : c = .type "dict" ∧ d = none ∧ sl = #[]) (h5 : es.toList.map (fun e => (e.hash, strV e.key, e.val)) = rowsF w [("load", a1), ("award", a2), ("mishap", a3), ("rise", a4), ("hand", a5), ("land", a6), ("sever", a7), ("still", a8)]) (h6 : (aF == sysModules) = false)
    (t1 : TupAt K a1 ["name", "name", "amount", "weight"]) (t2 : TupAt K a2 ["name", "amount"]) (t3 : TupAt K a3 ["name", "amount"]) (t4 : TupAt K a4 ["name", "amount"]) (t5 : TupAt K a5 ["name", "name"]) (t6 : TupAt K a6 ["name"]) (t7 : TupAt K a7 ["name", "name", "amount", "weight"]) (t8 : TupAt K a8 []) (tP : TupAt K aP ["name", "amount"]) : FormsAt w K :=
  ⟨aF, aP, _, c, d, es, n, sl, h1, h2, h3, h4.1, h4.2.1, h4.2.2, h5, h6, .cons t1 (.cons t2 (.cons t3 (.cons t4 (.cons t5 (.cons t6 (.cons t7 (.cons t8 (.nil)))))))), tP⟩
end L2
namespace L2
open PySem PySem.Spec PyProof.Rows
open Builtin Builtin.Str
def joinL (s : List Nat) : List (List Nat) → List Nat
  | [] => []
  | [a] => a
  | a :: b :: r => a ++ s ++ joinL s (b :: r)
theorem joinL_cons (s a : List Nat) (r : List (List Nat)) : joinL s (a :: r) = a ++ (r.map (s ++ ·)).flatten := by
  induction r generalizing a with
  | nil => simp [joinL]
  | cons b r ih =>
    show a ++ s ++ joinL s (b :: r) = _
    rw [ih b]
    simp
theorem join_tx (s : List Nat) : ∀ css : List (List Nat), Str.join (tx s) (css.map tx) = tx (joinL s css)
  | [] => rfl
  | [a] => rfl
  | a :: b :: r => by
    have ih := join_tx s (b :: r)
    show tx a ++ tx s ++ Str.join (tx s) ((b :: r).map tx) = tx (a ++ s ++ joinL s (b :: r))
    rw [ih, tx_cat, tx_cat]
theorem cnt_pos0 (c : Nat) : ∀ l : List Nat, 0 ≤ cnt c l
  | [] => by rw [cnt_nil]; decide
  | n :: r => by
    rw [cnt_cons]
    have := cnt_pos0 c r
    split <;> omega
theorem glued_sep (s : List Nat) : ∀ (l : List Str) (acc : Array Nat), (l.foldl (fun acc p => acc ++ (tx s).cps ++ p.cps) acc).toList = acc.toList ++ (l.map fun p => s ++ p.cps.toList).flatten
  | [], acc => by simp
  | p :: r, acc => by
    rw [List.foldl_cons, glued_sep s r]
    simp
theorem glued_join (s : List Nat) (css : List (List Nat)) : glued (tx s) (css.map tx) = tx (joinL s css) := by
  cases css with
  | nil => rfl
  | cons a r =>
    unfold glued
    have h := glued_sep s (r.map tx) a.toArray
    rw [joinL_cons]
    have e : ((r.map tx).map fun p : Str => s ++ p.cps.toList) = r.map (s ++ ·) := by
      rw [List.map_map]
      exact List.map_congr_left fun c _ => by simp [tx]
    rw [e] at h
    have h2 : (List.foldl (fun acc p => acc ++ (tx s).cps ++ p.cps) a.toArray (r.map tx)).toList = a ++ (r.map (s ++ ·)).flatten := by
      rw [h]
    show (⟨List.foldl (fun acc p => acc ++ (tx s).cps ++ p.cps) a.toArray (r.map tx)⟩ : Str) = _
    rw [← h2]
def joinSz (s : List Nat) (css : List (List Nat)) : Nat := (css.map fun c => c.length + s.length).sum
theorem fold_lenS (s : List Nat) : ∀ (css : List (List Nat)) (n : Nat), (css.map tx).foldl (fun a p => a + p.length + (tx s).length) n = n + joinSz s css
  | [], n => by show n = n + 0; omega
  | c :: r, n => by
    rw [List.map_cons, List.foldl_cons, fold_lenS s r, tx_length, tx_length]
    show n + c.length + s.length + joinSz s r = n + (c.length + s.length + joinSz s r)
    omega
theorem joinL_len (s : List Nat) : ∀ css : List (List Nat), (joinL s css).length ≤ joinSz s css
  | [] => Nat.zero_le _
  | [a] => by show a.length ≤ (a.length + s.length) + 0; omega
  | a :: b :: r => by
    have ih := joinL_len s (b :: r)
    show (a ++ s ++ joinL s (b :: r)).length ≤ (a.length + s.length) + joinSz s (b :: r)
    rw [List.length_append, List.length_append]
    omega
section
variable {X : Cx}
theorem mt_join1 (K : PySem.W.Frag) (hK : X.K = K := by rfl) : MtR X "str.join" (fun x vs H Q => ∃ (a : Addr) (s : List Nat) (css : List (List Nat)), x = .str (tx s) ∧ vs = [.ref a] ∧ SqL K H a (txs css) ∧ joinSz s css ≤ 1000000 ∧ Q (.str (tx (joinL s css))) H) := by
  subst hK
  intro pins st σ H x vs v us Q I rx rv h
  obtain ⟨a, s, css, rfl, rfl, hS, hl, q⟩ := h
  obtain ⟨t, rfl⟩ := rx
  obtain ⟨u, rfl, ru⟩ := vals1 rv
  cases ru
  obtain ⟨its, r, pl, hz⟩ := I.list hS
  obtain ⟨l, rfl, el⟩ := vals_strs r
  have hlen : (l.map (·.1)).toArray.foldl (· + ·.length + (tx s).length) 0 = joinSz s css := by
    rw [List.foldl_toArray, el, fold_lenS]
    omega
  have hlong : tooLong ((l.map (·.1)).toArray.foldl (· + ·.length + (tx s).length) 0) = false := by
    rw [hlen]
    unfold tooLong
    exact decide_eq_false (by rw [sizeLine_eq]; omega)
  refine call_meets F.slot_str_join (typeIs_str _ _ _) F.entry_str_join (F.args_str_join_2 _ _) (meets_str_join_list (tx s) t a l hlong) ⟨pl.isList, ?_⟩
  have hg : glued (tx s) (l.map (·.1)) = tx (joinL s css) := by rw [el, glued_join]
  have hfin : (tx (joinL s css)).length ≤ sizeLine := by rw [tx_length, sizeLine_eq]; have := joinL_len s css; omega
  cases l with
  | nil => exact ⟨by rw [hg]; exact hfin, .str (tx (joinL s css)), H, I.tok _, ⟨_, by rw [hg]⟩, q⟩
  | cons p r' =>
    cases r' with
    | nil =>
      have e : p.1 = tx (joinL s css) := hg
      exact ⟨.str (tx (joinL s css)), H, I, ⟨p.2, by rw [← e]⟩, q⟩
    | cons p' r'' => exact ⟨by rw [hg]; exact hfin, .str (tx (joinL s css)), H, I.tok _, ⟨_, by rw [hg]⟩, q⟩
end
end L2
namespace L2
open PySem PySem.Spec PyProof.Rows PySem.NumText
theorem comp_tupl {K : PySem.W.Frag} {a : Addr} {xs : List V} {k : Nat} {te : TE} {σ2 : St} {H : Hp} {acc : Addr} {Q : VK} (Pv : Nat → List V → Hp → Prop) (hn : xs.length ≤ 100000) (h0 : Pv 0 [] (upd H acc (.lst [])))
    (hl : ∀ (i : Nat) (out : List V) (H1 : Hp), i ≤ xs.length → H1 acc = some (.lst out) → Pv i out H1 → SqT K H1 a xs)
    (hs : ∀ (i : Nat) (x : V) (out : List V) (H1 : Hp), xs[i]? = some x → out.length = i → H1 acc = some (.lst out) → Pv i out H1 → te (σ2.set k (some x)) H1 fun v H4 => H4 acc = some (.lst out) ∧ Pv (i + 1) (out ++ [v]) (upd H4 acc (.lst (out ++ [v]))))
    (hd : ∀ (out : List V) (H1 : Hp), out.length = xs.length → H1 acc = some (.lst out) → Pv xs.length out H1 → Q (.ref acc) H1) :
    CompG (Itt K a) (gName k) te acc σ2 H Q := by
  refine comp_1 (n := xs.length) k Pv hn h0 (fun i out H1 hi ha p => ⟨xs, xs[i], hl i out H1 (Nat.le_of_lt hi) ha p, List.getElem?_eq_getElem hi⟩) (fun out H1 ha p => ⟨xs, hl _ out H1 (Nat.le_refl _) ha p, Nat.le_refl _⟩) ?_ hd
  rintro i x out H1 H2 hi ho ha p ⟨rfl, y⟩
  exact hs i x out _ (y xs (hl i out _ (Nat.le_of_lt hi) ha p)) ho ha p
def wV (cs : List Nat) : V := if numOk cs = true then .int ((digitsVal cs : Nat) : Int) else .str (tx cs)
structure spThing (vs : List V) (H : Hp) (Q : VK) (E : XK) : Prop where
  ex : ∃ (cs : List Nat), vs = [.str (tx cs)] ∧ cs.length ≤ 4000 ∧ ∀ H', Same H H' → Q (wV cs) H'
theorem use_thing {H : Hp} {Q : VK} {E : XK} {cs : List Nat} (hl : cs.length ≤ 4000) (q : ∀ H', Same H H' → Q (wV cs) H') : spThing [.str (tx cs)] H Q E := ⟨cs, rfl, hl, q⟩
end L2
namespace L2
open PySem PySem.Spec PyProof.Rows PySem.NumText
inductive Pl : PyData → Nat → Prop
  | str {x : Str} {n : Nat} : PyData.strOk x = true → Pl (.str x) n
  | int {i : Int} {n : Nat} : Pl (.int i) n
  | list {ds : List PyData} {n : Nat} : (∀ d ∈ ds, Pl d n) → Pl (.list ds) (n + 1)
  | tuple {ds : List PyData} {n : Nat} : (∀ d ∈ ds, Pl d n) → Pl (.tuple ds) (n + 1)
theorem lay_all : ∀ {ds : List PyData}, (∀ d ∈ ds, PyData.canLay0 d = true) → PyData.canLayAll0 ds = true
  | [], _ => rfl
  | d :: r, h => by
    unfold PyData.canLayAll0
    rw [h d List.mem_cons_self, lay_all fun d hd => h d (List.mem_cons_of_mem _ hd)]
    rfl
theorem depth_all {n : Nat} : ∀ {ds : List PyData}, (∀ d ∈ ds, PyData.depth d ≤ n) → PyData.depthAll ds ≤ n
  | [], _ => Nat.zero_le _
  | d :: r, h => by
    unfold PyData.depthAll
    have h1 := h d List.mem_cons_self
    have h2 := depth_all fun d hd => h d (List.mem_cons_of_mem _ hd)
    omega
theorem eqv_all : ∀ {ds : List PyData}, (∀ d ∈ ds, PyData.eqv d d = true) → PyData.eqvAll ds ds = true
  | [], _ => rfl
  | d :: r, h => by
    unfold PyData.eqvAll
    rw [h d List.mem_cons_self, eqv_all fun d hd => h d (List.mem_cons_of_mem _ hd)]
    rfl
theorem Pl.facts {d : PyData} {n : Nat} (h : Pl d n) : PyData.canLay0 d = true ∧ PyData.depth d ≤ n ∧ PyData.eqv d d = true := by
  induction h with
  | str e => exact ⟨by unfold PyData.canLay0; exact e, Nat.zero_le _, eqv_str _⟩
  | int => exact ⟨rfl, Nat.zero_le _, eqv_int _⟩
  | list _ ih =>
    refine ⟨?_, ?_, ?_⟩
    · unfold PyData.canLay0; exact lay_all fun d hd => (ih d hd).1
    · unfold PyData.depth
      have := depth_all fun d hd => (ih d hd).2.1
      omega
    · unfold PyData.eqv; exact eqv_all fun d hd => (ih d hd).2.2
  | tuple _ ih =>
    refine ⟨?_, ?_, ?_⟩
    · unfold PyData.canLay0; exact lay_all fun d hd => (ih d hd).1
    · unfold PyData.depth
      have := depth_all fun d hd => (ih d hd).2.1
      omega
    · unfold PyData.eqv; exact eqv_all fun d hd => (ih d hd).2.2
theorem Pl.shaped {d : PyData} {n : Nat} (h : Pl d n) (hn : n ≤ 64) : SeqAt.shaped d = true := by
  unfold SeqAt.shaped
  rw [h.facts.1]
  exact decide_eq_true (Nat.le_trans h.facts.2.1 hn)
theorem Pl.eqv {d : PyData} {n : Nat} (h : Pl d n) : PyData.eqv d d = true := h.facts.2.2
def thD : Th → PyData
  | .s cs => .str (tx cs)
  | .n i => .int i
theorem thD_dt {K : PySem.W.Frag} {H : Hp} : ∀ (ds : List Th), DtA K H (thV ds) (ds.map thD)
  | [] => .nil
  | .s cs :: r => .cons (.str _) (thD_dt r)
  | .n i :: r => .cons (.int _) (thD_dt r)
theorem strOk_low {cs : List Nat} (h : ∀ c ∈ cs, c < 1000) : PyData.strOk (tx cs) = true := by
  unfold PyData.strOk
  rw [Array.all_eq_true']
  intro c hc
  have := h c (by simpa using hc)
  exact decide_eq_true (by omega)
end L2
namespace L2
open PySem PySem.Spec PyProof.Rows PySem.NumText
end L2
namespace L2
open PySem PySem.Spec PyProof.Rows PySem.NumText Builtin Builtin.Str
section
variable {X : Cx}
end
end L2
namespace L2
open PySem PySem.Spec PyProof.Rows PySem.NumText
end L2
namespace L2
open PySem PySem.Spec PyProof.Rows
def Trc (h : Heap) (x T C : Addr) : Prop := ∃ oe vs a0 oT ts, h.get? x = some oe ∧ oe.cls = .ref C ∧ vs[0]? = some a0 ∧ oe.data = .fields vs ∧ vs[1]? = some (.ref T) ∧ T ≠ x ∧ h.get? T = some oT ∧ oT.data = .fields ts ∧ ts[3]? = some .none
def CX1 (P : Program) (w : World) : CXT := fun outer H s E e s' => ∃ (x T C : Addr) (H' : Hp), e = .ref x ∧ s'.os = s.os ∧ AllBare s'.gens ∧ Un (frs outer) [] H H' s.heap s'.heap ∧ HOk P w H' s'.heap ∧ Trc s'.heap x T C ∧
  s.heap.get? x = none ∧ s.heap.get? T = none ∧ H' x = none ∧ H' T = none ∧ E e (some C) H'
theorem HOk.keptOn {P : Program} {w : World} {H : Hp} {h h' : Heap} (x : HOk P w H h) (k : ∀ b o u, H b = some o → h.get? b = some u → h'.get? b = some u) : HOk P w H h' := fun a o e =>
  (x a o e).stay (fun b u hb q => by
    rcases hb with rfl | hb
    · exact k _ _ _ e q
    · exact k _ _ _ hb q) (fun _ q => q) fun _ _ q => q
theorem ObjOk.isAt {P : Program} {w : World} {H : Hp} {h : Heap} {a : Addr} {o : HO} (x : ObjOk P w H h a o) : ∃ u, h.get? a = some u := by
  cases o with
  | lst xs => obtain ⟨_, _, _, _, e⟩ := x; exact ⟨_, e⟩
  | tup xs => obtain ⟨_, _, _, p⟩ := x; obtain ⟨o, e, _⟩ := p; exact ⟨_, e⟩
  | dK kvs => obtain ⟨_, _, _, _, o, _, _, e, _⟩ := x; exact ⟨_, e⟩
  | dT kvs => obtain ⟨_, _, _, _, o, _, _, e, _⟩ := x; exact ⟨_, e⟩
  | set S n => obtain ⟨o, _, _, _, e, _⟩ := x; exact ⟨_, e⟩
  | ins C dx fs => obtain ⟨_, _, _, e, _⟩ := x; exact ⟨_, e⟩
  | own y => obtain ⟨_, e⟩ := x; exact ⟨_, e⟩
  | xd fs => obtain ⟨_, ⟨_, _, _, e, _⟩, _⟩ := x; exact ⟨_, e⟩
  | rng lo hi => obtain ⟨_, _, _, e⟩ := x; exact ⟨_, e⟩
  | frz ob u => obtain ⟨e, _⟩ := x; exact ⟨_, e⟩
  | tbl ps => exact ⟨_, (show h.get? a = some _ from x)⟩
  | met f y => exact ⟨_, (show h.get? a = some _ from x)⟩
  | ext φ => obtain ⟨_, ⟨_, e⟩, _⟩ := x; exact ⟨_, e⟩
section
variable {P : Program} {w : World} {K : PySem.W.Frag} {mg : Str → Option Value} {base : Heap} {N : List Str} {qual : Str} {scope : Scope} {f : Addr} {cd : Value} {A : Around} {outer : List Env} {s0 : Shared} {H0 : Hp} {E : XK} {CX : CXT}
theorem left_cx {pins : List (Addr × Obj)} {σ : St} {H : Hp} {s : Shared} {x C : Addr} {a0 : Value} {h' : Heap} {B : Heap} (I : Inv (cxOf CX P w K mg base N qual scope f cd A outer s0 H0 E) pins σ H s)
    (hB : ∀ b o, s.heap.get? b = some o → b ∉ frs (envOfC qual scope s0.heap.objs.size f cd :: outer) → s0.heap.get? b ≠ none ∨ H b ≠ none → B.get? b = some o)
    (hfl : Heap.FlyingW B outer x (.ref C) a0 h') (hup : s.heap.UpToSlots h') (hx : s0.heap.get? x = none) (hxH : H x = none)
    (q : E (.ref x) (some C) H) : CX1 P w outer H0 s0 E (.ref x) { s with heap := h' } := by
  obtain ⟨st, bx, fr, oe, vs, T, oT, ts, h1, ⟨h2, h3⟩, h4, h5, h6, h7, h8, h9, h10⟩ := hfl
  have notfr : T ∉ frs outer := fun m => by
    obtain ⟨_, o, ho, hd⟩ := fr.mem m
    rw [h8] at ho; cases ho
    exact hd _ h9
  have L0 : s0.heap.get? s0.heap.objs.size = none := Heap.get?_none_of_le (Nat.le_refl _)
  have big : ∀ b o, s0.heap.get? b = some o → b ∉ frs outer → b ∉ frs (envOfC qual scope s0.heap.objs.size f cd :: outer) := fun b o e n m => by
    have m' : b ∈ s0.heap.objs.size :: frs outer := m
    rcases List.mem_cons.mp m' with z | z
    · rw [z, L0] at e; cases e
    · exact n z
  have hT0 : s0.heap.get? T = none := by
    cases e : s0.heap.get? T with
    | none => rfl
    | some o =>
      obtain ⟨o', ho'⟩ := I.base.there T o e (by simp [cxOf])
      have := hB T o' ho' (big T o e notfr) (.inl (by rw [e]; exact fun z => nomatch z))
      rw [h6] at this; cases this
  have hTH : H T = none := by
    cases e : H T with
    | none => rfl
    | some o =>
      have lt := I.hok.lt e
      have nst : T ∉ frs (envOfC qual scope s0.heap.objs.size f cd :: outer) := fun m => by
        have := I.stkFree T m
        rw [e] at this; cases this
      have hob : ∃ u, s.heap.get? T = some u := (I.hok T o e).isAt
      obtain ⟨u, hu⟩ := hob
      have := hB T u hu nst (.inr (by rw [e]; exact fun z => nomatch z))
      rw [h6] at this; cases this
  refine ⟨x, T, C, H, rfl, I.os, I.bare, ⟨fun b o e n nf _ => ?_, fun b o e n m _ => ?_, fun b o e n _ => ?_, fun b o e _ => ?_, I.base.tups, I.base.frzs, I.base.tbls⟩, ?_, ⟨oe, vs, a0, oT, ts, h1, h2, h3, h4, h5, h7, h8, h9, h10⟩, hx, hT0, hxH, hTH, q⟩
  · exact st b o (hB b o (I.base.keep b o e n nf (by simp [cxOf])) (big b o e nf) (.inl (by rw [e]; exact fun z => nomatch z)))
  · obtain ⟨sl, hs⟩ := I.base.slot b o e n m (by simp [cxOf])
    have fr0 := I.ok.funs
    obtain ⟨_, o', ho', hd'⟩ := fr0.mem m
    obtain ⟨sl', hs'⟩ := hup b _ hs (fun vs z => by
      have ho2 : s0.heap.get? b = some o' := ho'
      rw [e] at ho2; cases ho2
      exact hd' vs z)
    exact ⟨sl', hs'⟩
  · exact I.base.free b o e n (by simp [cxOf])
  · obtain ⟨o', ho'⟩ := I.base.there b o e (by simp [cxOf])
    by_cases m : b ∈ frs outer
    · have fr0 := I.ok.funs
      obtain ⟨_, o2, ho2, hd2⟩ := fr.mem m
      exact ⟨o2, ho2⟩
    · exact ⟨o', st b o' (hB b o' ho' (big b o e m) (.inl (by rw [e]; exact fun z => nomatch z)))⟩
  · exact I.hok.keptOn fun b o u e hu => st b u (hB b u hu (fun m => by have := I.stkFree b m; rw [e] at this; cases this) (.inr (by rw [e]; exact fun z => nomatch z)))
theorem leave_made {pins : List (Addr × Obj)} {σ : St} {H : Hp} {s : Shared} {x C : Addr} {args : List Value} {h1 : Heap} (I : Inv (cxOf (CX1 P w) P w K mg base N qual scope f cd A outer s0 H0 E) pins σ H s) (hm : Heap.MadeExcOf s.heap h1 x (.ref C) args)
    (q : E (.ref x) (some C) H) : (cxOf (CX1 P w) P w K mg base N qual scope f cd A outer s0 H0 E).xe (.ref x) { s with heap := h1 } := by
  have hst' : s.heap.FunFrames base (envOfC qual scope s0.heap.objs.size f cd :: outer) := I.stack
  have hin : ∀ env ∈ (envOfC qual scope s0.heap.objs.size f cd :: outer), ∀ b, env.frame = some b → b ∈ frs (envOfC qual scope s0.heap.objs.size f cd :: outer) := fun env he b hb => List.mem_filterMap.mpr ⟨env, he, hb⟩
  have I1 : Inv (cxOf (CX1 P w) P w K mg base N qual scope f cd A outer s0 H0 E) pins σ H { s with heap := h1 } := I.kept (t' := s.toks) hm.keeps
  have hxH : H x = none := by
    cases e : H x with
    | none => rfl
    | some o =>
      obtain ⟨u, hu⟩ := (I.hok x o e).isAt
      rw [hm.new] at hu; cases hu
  have hx0 : s0.heap.get? x = none := by
    cases e : s0.heap.get? x with
    | none => rfl
    | some o =>
      obtain ⟨o', ho'⟩ := I.base.there x o e (by simp [cxOf])
      rw [hm.new] at ho'; cases ho'
  refine wpAny_leaves_madeW (base := PySem.W.hideAll s.heap (frs (envOfC qual scope s0.heap.objs.size f cd :: outer))) (h := s.heap) (L := s0.heap.objs.size) (outer := outer) I.ok.frames rfl (fun b o e => PySem.W.of_hideAll _ e) (PySem.W.funFrames_hide hst' hin) hm fun h' t fl _ _ up => ?_
  refine left_cx I1 (fun b o e n hb => PySem.W.hideAll_get _ ?_ n) fl up hx0 hxH q
  rcases hb with hb | hb
  · cases e0 : s0.heap.get? b with
    | none => exact absurd e0 hb
    | some o0 =>
      obtain ⟨o', ho'⟩ := I.base.there b o0 e0 (by simp [cxOf])
      have e' : h1.get? b = some o := e
      have := hm.keeps b o' ho'
      rw [e'] at this; cases this
      exact ho'
  · cases e0 : H b with
    | none => exact absurd e0 hb
    | some o0 =>
      obtain ⟨o', ho'⟩ := (I.hok b o0 e0).isAt
      have e' : h1.get? b = some o := e
      have := hm.keeps b o' ho'
      rw [e'] at this; cases this
      exact ho'
end
end L2
namespace L2
open PySem PySem.Spec PyProof.Rows
def bmVE : List Value := [.type "ValueError", .type "Exception", .type "BaseException", .type "object"]
structure OwnExc (K : PySem.W.Frag) (C : Addr) : Prop where
  ex : ∃ (nm q : Str) (N : Addr) (bs bm : List Value) (hdct : Bool) (sn : List Str) (sub : List Value) (ab : Bool) (col : Option Bool) (dd : Option Addr) (k0 k1 k2 k3 k5 : Option Value) (mN : Str → Option Value), mN "__init__" = none ∧ bm.contains (.type "BaseException") = true ∧ ∀ h : Heap, K.In h →
    h.get? C = some (excClassObj nm q C N bs bm hdct sn sub ab col dd k0 k1 k2 k3 k5 "ValueError.__new__") ∧ h.Ns N mN ∧ OwnTail h bmVE bm
section
variable {P : Program} {w : World} {K : PySem.W.Frag} {mg : Str → Option Value} {base : Heap} {N : List Str} {qual : Str} {scope : Scope} {f : Addr} {cd : Value} {A : Around} {outer : List Env} {s0 : Shared} {H0 : Hp} {E : XK}
def tRaise (C : Addr) (E : XK) : TS := fun _ _ H => ∀ x, E (.ref x) (some C) H
theorem ps_raise {x : Str} {C : Addr} {t : Str} {kd : Nat} {p0 p1 cpos pos : Pos} (oc : OwnExc K C) (hg : Gl (cxOf (CX1 P w) P w K mg base N qual scope f cd A outer s0 H0 E) x) (hm : mg x = some (.ref C)) (hd : (x == ("__debug__" : Str)) = false := by decide) :
    PS (cxOf (CX1 P w) P w K mg base N qual scope f cd A outer s0 H0 E) (.Raise (some (.Call (.Name x p0) [.Constant (.str t) kd p1] [] cpos)) none pos) (tRaise C E) := by
  intro pins s σ H D I h
  obtain ⟨nm, q, Nn, bs, bm, hdct, sn, sub, ab, col, dd, k0, k1, k2, k3, k5, mN, hni, hb, fx⟩ := oc.ex
  refine wpAny_Raise_call_subT (bm := bm) (C := C) (nm := nm) (q := q) (N := Nn) (bs := bs) (hdct := hdct) (sn := sn) (sub := sub) (ab := ab) (col := col) (dd := dd) (k0 := k0) (k1 := k1) (k2 := k2) (k3 := k3) (k5 := k5) F.excBase_ValueError hb (I.ok.hd rfl) rfl hni ?_
  refine ld_glob I hg hm ⟨rfl, ?_⟩ hd
  have pa : PA (cxOf (CX1 P w) P w K mg base N qual scope f cd A outer s0 H0 E) [.Constant (.str t) kd p1] (tCons (tC (.str t)) tNil) := pa_cons pe_str pa_nil
  refine PySem.Calls.evalArgs_plain (thn (pa cpos pins s σ H (fun vs H1 => vs.length = 1 ∧ H1 = H) I ⟨rfl, rfl⟩) fun us s1 ⟨vs, H1, I1, r, hv, e⟩ => ?_)
  subst e
  obtain ⟨hC, hN, T⟩ := fx s1.heap I1.kIn
  exact ⟨rfl, by show us.length ≤ sizeLine; rw [← r.length, hv, sizeLine_eq]; decide, hC, hN, T, fun h' e hm => leave_made I1 hm (h e)⟩
structure Dx (P : Program) (w : World) (K : PySem.W.Frag) (mg : Str → Option Value) (base : Heap) (k : Nat) (x : Str) (ps : List Str) (sp : Sp) : Prop where
  ex : ∃ f fd, FnOk P w K mg base (CX1 P w) k f fd ps sp ∧ Binds K fd ps [] ∧ PySem.W.keepIn K (.ref f) = true ∧ mg x = some (.ref f)
theorem At.okX {x : Str} {st : Stmt} {f : Addr} {fd : FuncData} {N ps : List Str} {k : Nat} {sp : Sp} (F : At K mg x st f fd) (S : FnScope N ps (defScope st)) (len : ∀ vs H Q E, sp vs H Q E → vs.length = ps.length)
    (hbody : ∀ (cdv : Value) (A : Around) (outer : List Env) (s : Shared) (H : Hp) (vs : List V) (Q : VK) (E : XK), Room k (A.deeper (envOfC x (defScope st) s.heap.objs.size f cdv)) → sp vs H Q E →
      ∃ t, PSs (cxOf (CX1 P w) P w K mg base N x (defScope st) f cdv A outer s H E) (defBody st) t ∧ t { nx := fun _ H' => Q .non H', rt := Q } (start N vs) H)
    (h : ∀ (kV doc pm : Value) (an : Option Addr) (cdv ct : Value) (us : List Value), us.length = ps.length → bindArgs (PySem.W.fnOf x x (defArgs st) (defBody st) (defScope st) .none kV doc pm an cdv ct) ⟨us, []⟩ = pure (ps.zip us)) :
    Dx P w K mg base (k + 1) x ps sp := by
  refine ⟨f, fd, ?_, F.fn.binds h, F.fn.kp, F.name⟩
  obtain ⟨oc, od, kV, doc, pm, an, cdv, ct, osl, rfl, lk, hcd⟩ := F.fn.ex
  exact fn_of lk hcd S len fun A outer s H vs Q E hr hsp => hbody cdv A outer s H vs Q E hr hsp
end
end L2
namespace L2
open PySem PySem.Spec PyProof.Rows
def TrcF (h : Heap) (x T C : Addr) (fl : Value) : Prop := ∃ oe vs a0 oT ts, h.get? x = some oe ∧ oe.cls = .ref C ∧ vs[0]? = some a0 ∧ oe.data = .fields vs ∧ vs[1]? = some (.ref T) ∧ T ≠ x ∧ h.get? T = some oT ∧ oT.data = .fields ts ∧ ts[3]? = some fl
structure Fly (X : Cx) (pins : List (Addr × Obj)) (σ : St) (Hc : Hp) (sc : Shared) (H : Hp) (x C : Addr) (fl : Value) (s : Shared) : Prop where
  ic : Inv X pins σ Hc sc
  os : s.os = sc.os
  bare : AllBare s.gens
  un : Un (frs X.stack) [] Hc H sc.heap s.heap
  hok : HOk X.prog X.w H s.heap
  nx : sc.heap.get? x = none
  hx : H x = none
  tr : ∃ T, TrcF s.heap x T C fl ∧ sc.heap.get? T = none ∧ H T = none
section
variable {X : Cx} {pins : List (Addr × Obj)} {σ : St} {Hc H : Hp} {sc s : Shared} {x C : Addr} {fl : Value}
theorem Fly.inv (F : Fly X pins σ Hc sc H x C fl s) : Inv X pins σ H s := F.ic.call' (ch := []) F.os F.un F.hok F.bare (fun b z => absurd z (by simp))
theorem Fly.step {h' B : Heap} {fl' a0 : Value} (F : Fly X pins σ Hc sc H x C fl s) (hB : ∀ b o, s.heap.get? b = some o → b ∉ frs X.stack → sc.heap.get? b ≠ none ∨ H b ≠ none → B.get? b = some o)
    (st : B.StaysIn h') (fr : h'.FunFrames B X.stack) (tr : h'.TracedAtW B x (.ref C) a0 fl') (up : s.heap.UpToSlots h') : Fly X pins σ Hc sc H x C fl' { s with heap := h' } := by
  have I := F.inv
  obtain ⟨oe, vs, T, oT, ts, h1, ⟨h2, h3⟩, h4, h5, h6, h7, h8, h9, h10⟩ := tr
  have notfr : T ∉ frs X.stack := fun m => by
    obtain ⟨_, o, ho, hd⟩ := fr.mem m
    rw [h8] at ho; cases ho
    exact hd _ h9
  have hT0 : sc.heap.get? T = none := by
    cases e : sc.heap.get? T with
    | none => rfl
    | some o =>
      obtain ⟨o', ho'⟩ := F.un.there T o e (by simp)
      have := hB T o' ho' notfr (.inl (by rw [e]; exact fun z => nomatch z))
      rw [h6] at this; cases this
  have hTH : H T = none := by
    cases e : H T with
    | none => rfl
    | some o =>
      obtain ⟨u, hu⟩ := (F.hok T o e).isAt
      have := hB T u hu notfr (.inr (by rw [e]; exact fun z => nomatch z))
      rw [h6] at this; cases this
  refine ⟨F.ic, F.os, F.bare, ⟨fun b o e n nf _ => ?_, fun b o e n m _ => ?_, F.un.free, fun b o e _ => ?_, F.un.tups, F.un.frzs, F.un.tbls⟩, ?_, F.nx, F.hx, T, ⟨oe, vs, a0, oT, ts, h1, h2, h3, h4, h5, h7, h8, h9, h10⟩, hT0, hTH⟩
  · exact st b o (hB b o (F.un.keep b o e n nf (by simp)) nf (.inl (by rw [e]; exact fun z => nomatch z)))
  · obtain ⟨sl, hs⟩ := F.un.slot b o e n m (by simp)
    obtain ⟨_, o', ho', hd'⟩ := F.ic.stack.mem m
    obtain ⟨sl', hs'⟩ := up b _ hs (fun vs z => by
      rw [e] at ho'; cases ho'
      exact hd' vs z)
    exact ⟨sl', hs'⟩
  · obtain ⟨o', ho'⟩ := F.un.there b o e (by simp)
    by_cases m : b ∈ frs X.stack
    · obtain ⟨_, o2, ho2, hd2⟩ := fr.mem m
      exact ⟨o2, ho2⟩
    · exact ⟨o', st b o' (hB b o' ho' m (.inl (by rw [e]; exact fun z => nomatch z)))⟩
  · exact F.hok.keptOn fun b o u e hu => st b u (hB b u hu (fun m => by have := I.stkFree b m; rw [e] at this; cases this) (.inr (by rw [e]; exact fun z => nomatch z)))
theorem Fly.hid (F : Fly X pins σ Hc sc H x C fl s) : ∃ (a0 : Value) (B : Heap), (∀ b o, s.heap.get? b = some o → b ∉ frs X.stack → sc.heap.get? b ≠ none ∨ H b ≠ none → B.get? b = some o) ∧ B.StaysIn s.heap ∧ B.get? x = none ∧ s.heap.FunFrames B X.stack ∧ s.heap.TracedAtW B x (.ref C) a0 fl := by
  obtain ⟨T, ⟨oe, vs, a0, oT, ts, h1, h2, h3, h4, h5, h6, h7, h8, h9⟩, hT, hTH⟩ := F.tr
  have hin : ∀ env ∈ X.stack, ∀ b, env.frame = some b → b ∈ x :: T :: frs X.stack := fun env he b hb => List.mem_cons_of_mem _ (List.mem_cons_of_mem _ (List.mem_filterMap.mpr ⟨env, he, hb⟩))
  refine ⟨a0, PySem.W.hideAll s.heap (x :: T :: frs X.stack), fun b o e n hb => PySem.W.hideAll_get _ e fun m => ?_, fun b o e => PySem.W.of_hideAll _ e, PySem.W.hideAll_none _ List.mem_cons_self, PySem.W.funFrames_hide F.inv.stack hin, oe, vs, T, oT, ts, h1, ⟨h2, h3⟩, h4, h5, PySem.W.hideAll_none _ (List.mem_cons_of_mem _ List.mem_cons_self), h6, h7, h8, h9⟩
  rcases List.mem_cons.mp m with z | m
  · rw [z] at hb
    rcases hb with hb | hb
    · exact hb F.nx
    · exact hb F.hx
  · rcases List.mem_cons.mp m with z | m
    · rw [z] at hb
      rcases hb with hb | hb
      · exact hb hT
      · exact hb hTH
    · exact n m
theorem fly_note {M : Model} {A : Around} {E : Value → Shared → Prop} {Q : Unit → Shared → Prop} (F : Fly X pins σ Hc sc H x C .none s) (hA : A.frames = some X.stack) (hs : X.stack = X.env :: X.outer) (hf : X.env.frame = some X.env.locals)
    (h : ∀ s', Fly X pins σ Hc sc H x C (rawInt X.env.locals) s' → Q () s') : wpAny M A (noteFrame (.ref x) X.env) Q E s := by
  obtain ⟨a0, B, hB, st, bx, fr, tr⟩ := F.hid
  rw [hs] at fr hA
  refine wpAny_looks_onW (base := B) hA hf ⟨st, bx, fr, tr⟩ fun h' hh up => ?_
  obtain ⟨k1, k2, k3, k4⟩ := hh
  rw [← hs] at k3
  exact h _ (F.step hB k1 k3 k4 up)
theorem fly_land {M : Model} {A : Around} {E : Value → Shared → Prop} {Q : Unit → Shared → Prop} (F : Fly X pins σ Hc sc H x C fl s)
    (h : ∀ s', Fly X pins σ Hc sc H x C .none s' → Q () s') : wpAny M A (setFlight (.ref x) none) Q E s := by
  obtain ⟨a0, B, hB, st, bx, fr, tr⟩ := F.hid
  refine wpAny_setFlight_noneW (base := B) st fr tr fun h' k1 k2 k3 k4 => h _ (F.step hB k1 k2 k3 fun b o hb hn => ⟨o.slots, k4 b o hb hn⟩)
end
end L2
namespace L2
open PySem PySem.Spec PyProof.Rows
def excO (x C : Addr) : HO := .ext fun h => ∃ o, h.get? x = some o ∧ o.cls = .ref C
section
variable {X : Cx} {pins : List (Addr × Obj)} {σ : St} {Hc H : Hp} {sc s : Shared} {x C : Addr} {fl : Value}
theorem callX {j k : Nat} {g : Str} {ps : List Str} {sp : Sp} {e : Expr} {es : List Expr} {t : TA} {p pos : Pos} (D : Dx X.prog X.w X.K X.mg X.base j g ps sp) (hr : Room k X.A) (hno : ∀ e s, X.xe e s → False) (ha : PA X (e :: es) t) (hj : j ≤ k) (hg : Gl X g)
    (hdb : (g == ("__debug__" : Str)) = false) (he : starEach (e :: es) X.env = (false, eval e X.env) :: starEach es X.env) (hpl : (backTo pos (starEach es X.env)).any (·.1) = false)
    {Q : VK} {R : Addr → Hp → Prop} (I : Inv X pins σ H s) (h : t σ H fun vs H1 => sp (vs ++ []) H1 Q fun _ c H' => ∃ C, c = some C ∧ R C H') :
    wpAny (model X.prog X.w) X.A (eval (.Call (.Name g p) (e :: es) [] pos) X.env) (EP X pins σ Q) (fun ev s' => ∃ x C Hc sc H', ev = .ref x ∧ Fly X pins σ Hc sc H' x C .none s' ∧ R C H') s := by
  obtain ⟨f, fd, F, hb, kp, m⟩ := D.ex
  refine wpAny_Call_Name_kw (ld_glob I hg m ?_ hdb)
  refine PySem.W.callWith_K (h₀ := X.base) I.ok.mod.kin kp (wpAny_mono (ha pos pins s σ H _ I h) (fun us s1 ⟨vs, H1, I1, r, q⟩ => ⟨I1.kIn, ?_⟩) fun _ _ z => (hno _ _ z).elim) he hpl
  have r2 : Vals (vs ++ []) (us ++ []) := r.append .nil
  have hl : (us ++ []).length = ps.length := by rw [← r2.length]; exact F.len _ _ _ _ q
  refine wpAny_call (codeAny_mono (F.run X.A X.stack s1 H1 ⟨us, []⟩ (us ++ []) (vs ++ []) Q _ (hr.mono hj) I1.env0 (hb s1 us I1.kIn hl) r2 q) fun r s' hq => ?_)
  cases r with
  | error e =>
    have hq' : CX1 X.prog X.w X.stack H1 s1 (fun _ c H' => ∃ C, c = some C ∧ R C H') e s' := hq
    obtain ⟨x, T, C, H', rfl, os, bare, un, hok, tr, hx, hT, hxH, hTH, C', ec, hR⟩ := hq'
    cases ec
    exact ⟨x, C, H1, s1, H', rfl, ⟨I1, os, bare, un, hok, hx, hxH, T, tr, hT, hTH⟩, hR⟩
  | ok fl =>
    cases fl with
    | ret u => exact I1.after hq
    | next => exact False.elim hq
    | brk => exact False.elim hq
    | cont => exact False.elim hq
abbrev Cx.held (X : Cx) (x : Addr) : Cx := { X with A := X.A.mark (some (.ref x)), calm := false }
theorem Inv.held (I : Inv X pins σ H s) (x : Addr) : Inv (X.held x) pins σ H s :=
  ⟨⟨I.ok.mod, I.ok.kind, I.ok.glob, I.ok.blt, I.ok.above, I.ok.inj, I.ok.has, I.ok.cab, (fun z => nomatch z), I.ok.frames, I.ok.stk, I.ok.exf, I.ok.bs, I.ok.bsz, I.ok.noex, I.ok.exfs, I.ok.funs, I.ok.frf⟩, I.os, I.bare, I.base, I.loc, I.cell, I.free, I.freeC, I.pin, I.hok, I.len⟩
theorem Fly.known (F : Fly X pins σ Hc sc H x C fl s) : Inv X pins σ (upd H x (excO x C)) s := by
  have I := F.inv
  have ne : ∀ {b o}, sc.heap.get? b = some o → b ≠ x := fun e z => by rw [z, F.nx] at e; cases e
  have ne0 : ∀ {b o}, X.s₀.heap.get? b = some o → b ∉ X.ex → b ≠ x := fun {b o} e n => by
    obtain ⟨o', ho'⟩ := F.ic.base.there b o e n
    exact ne ho'
  have neH : ∀ {b o}, H b = some o → b ≠ x := fun e z => by rw [z, F.hx] at e; cases e
  obtain ⟨T, ⟨oe, vs, a0, oT, ts, h1, h2, _⟩, _⟩ := F.tr
  refine ⟨I.ok, I.os, I.bare, ⟨I.base.keep, I.base.slot, fun b o e n nx => ?_, I.base.there, fun b xs e => ?_, fun b o u e => ?_, fun b ps e => ?_⟩, I.loc, I.cell, ?_, fun y c e => ?_, fun p hp => ?_, fun b o e => ?_, I.len⟩
  · rw [upd_ne (ne0 e nx)]; exact I.base.free b o e n nx
  · have z := I.base.tups b xs e
    rw [upd_ne (neH z)]; exact z
  · have z := I.base.frzs b o u e
    rw [upd_ne (neH z)]; exact z
  · obtain ⟨more, z⟩ := I.base.tbls b ps e
    exact ⟨more, by rw [upd_ne (neH z)]; exact z⟩
  · obtain ⟨m, ⟨o, _, _, ho, _⟩, _⟩ := F.ic.loc
    rw [upd_ne (ne ho)]; exact I.free
  · obtain ⟨v, o, ho, _⟩ := F.ic.cell y c e
    rw [upd_ne (ne ho)]; exact I.freeC y c e
  · obtain ⟨a, b, c⟩ := I.pin p hp
    obtain ⟨a', _⟩ := F.ic.pin p hp
    exact ⟨a, by rw [upd_ne (ne a')]; exact b, c⟩
  · by_cases z : b = x
    · subst z
      rw [upd_same] at e
      cases e
      exact ⟨⟨oe, h1, h2⟩, ⟨oe, h1⟩, fun h1 h2 ⟨o, a, c⟩ k => ⟨o, k o a, c⟩⟩
    · rw [upd_ne z] at e
      exact (F.hok b o e).stay (fun _ _ _ q => q) (fun c q => by rw [upd_ne (neH q)]; exact q) fun c xs q => by rw [upd_ne (neH q)]; exact q
theorem Inv.gone {n : Str} {j : Nat} {h' : Heap} {t' : Nat} {v : Option Value} {m : Str → Option Value} (I : Inv X pins σ H s) (hN : X.N.Nodup) (hj : X.N[j]? = some n) (hm : s.heap.Ns X.env.locals m) (hl : ∀ (i : Nat) (x : Str) (v : V), X.N[i]? = some x → σ[i]? = some (some v) → Vis X.env.scope x → ∃ u, RelV v u ∧ Look X.env s.heap m x u)
    (hn : h'.Ns X.env.locals (fun x => if x = n then v else m x)) (hs : Heap.SameBut X.env.locals s.heap h') : Inv X pins (σ.set j none) H { s with heap := h', toks := t' } := by
  have neL : ∀ b o, X.s₀.heap.get? b = some o → b ≠ X.env.locals := fun b o e => Nat.ne_of_lt (Nat.lt_of_lt_of_le (Heap.lt_size e) I.ok.above)
  have kp : ∀ b o, b ≠ X.env.locals → s.heap.get? b = some o → h'.get? b = some o := fun b o ne e => (hs.2 b ne).trans e
  have cellK : ∀ x c, X.env.cells.lookup x = some c → ∀ v, s.heap.IsCell c v → h'.IsCell c v := fun x c e v ⟨o, ho, hd⟩ => ⟨o, kp c o (I.cne x c e) ho, hd⟩
  refine ⟨I.ok, I.os, I.bare, ⟨fun b o e n hb hx => kp b o (neL b o e) (I.base.keep b o e n hb hx), fun b o e n hb hx => ?_, I.base.free, fun b o e hx => ?_, I.base.tups, I.base.frzs, I.base.tbls⟩, ?_, fun x c e => ?_, I.free, I.freeC, fun p hp => ?_, ?_, by rw [List.length_set]; exact I.len⟩
  · obtain ⟨sl, e1⟩ := I.base.slot b o e n hb hx
    exact ⟨sl, kp b _ (neL b o e) e1⟩
  · obtain ⟨o', e1⟩ := I.base.there b o e hx
    exact ⟨o', kp b o' (neL b o e) e1⟩
  · refine ⟨_, hn, fun i y w e1 e2 e3 => ?_⟩
    by_cases z : i = j
    · subst z
      rw [List.getElem?_set_self'] at e2
      cases q : σ[i]? with
      | none => rw [q] at e2; cases e2
      | some a => rw [q] at e2; cases e2
    · rw [List.getElem?_set_ne (Ne.symm z)] at e2
      obtain ⟨u, r, l⟩ := hl i y w e1 e2 e3
      refine ⟨u, r, ?_⟩
      rcases l with ⟨k, l⟩ | ⟨k, c, e, zc⟩
      · have hne : y ≠ n := fun q => z (nodup_ix hN e1 (q ▸ hj))
        exact .inl ⟨k, by show (if y = n then v else m y) = some u; rw [if_neg hne]; exact l⟩
      · exact .inr ⟨k, c, e, cellK y c e _ zc⟩
  · obtain ⟨v, z⟩ := I.cell x c e
    exact ⟨v, cellK x c e v z⟩
  · obtain ⟨e, n, ne, nf, d⟩ := I.pin p hp
    exact ⟨kp p.1 p.2 ne e, n, ne, nf, d⟩
  · exact I.hok.keptOn fun b o u e hu => kp b u (fun z => by rw [z, I.free] at e; cases e) hu
end
end L2
namespace L2
open PySem PySem.Spec PyProof.Rows
def FX (X : Cx) (pins : List (Addr × Obj)) (R : Addr → St → Hp → Prop) (ev : Value) (s : Shared) : Prop :=
  ∃ x C σ Hc sc H', ev = .ref x ∧ Fly X pins σ Hc sc H' x C .none s ∧ R C σ H'
abbrev TX := Ends → (Addr → St → Hp → Prop) → St → Hp → Prop
def PX (X : Cx) (st : List Stmt) (t : TX) : Prop :=
  ∀ (pins : List (Addr × Obj)) (s : Shared) (σ : St) (H : Hp) (D : Ends) (R : Addr → St → Hp → Prop), Inv X pins σ H s → t D R σ H → wpAny (model X.prog X.w) X.A (execs st X.env) (SP X pins D) (FX X pins R) s
def tXset (i : Nat) (sp : Sp) (t : TA) : TX := fun D R σ H => t σ H fun vs H1 => sp (vs ++ []) H1 (fun v H' => D.nx (σ.set i (some v)) H') fun _ c H' => ∃ C, c = some C ∧ R C σ H'
def tTry (K : PySem.W.Frag) (J : Addr) (j : Nat) (t : TX) (u : TS) : TS := fun D σ H =>
  t D (fun C σ' H' => PySem.W.exmOne K (.ref C) (.ref J) = some true ∧ ∀ x, H' x = none → u { nx := fun σ2 H2 => D.nx (σ2.set j none) H2, rt := D.rt, bk := fun σ2 H2 => D.bk (σ2.set j none) H2, ct := fun σ2 H2 => D.ct (σ2.set j none) H2 } (σ'.set j (some (.ref x))) (upd H' x (excO x C))) σ H
section
variable {X : Cx} {pins : List (Addr × Obj)} {σ : St} {Hc H : Hp} {sc s : Shared} {x C : Addr} {fl : Value}
theorem px_set {i j k : Nat} {n g : Str} {ps : List Str} {sp : Sp} {e : Expr} {es : List Expr} {t : TA} {p pos pos' pos'' : Pos} (hN : X.N.Nodup) (hi : X.N[i]? = some n) (hx : Loc X.env.scope n) (D : Dx X.prog X.w X.K X.mg X.base j g ps sp) (hr : Room k X.A) (hno : ∀ e s, X.xe e s → False) (ha : PA X (e :: es) t) (hj : j ≤ k := by decide) (hg : Gl X g := by rfl)
    (hdb : (g == ("__debug__" : Str)) = false := by decide) (he : starEach (e :: es) X.env = (false, eval e X.env) :: starEach es X.env := by rfl) (hpl : (backTo pos (starEach es X.env)).any (·.1) = false := by rfl)
    (hs : swapsWith (.Call (.Name g p) (e :: es) [] pos) (some (.Name n pos')) pos''.line X.env = pure false := by rfl) (hf : X.fn n = true ∨ X.env.scope.names.lookup n = some .local := by first | exact .inl rfl | exact .inr rfl | assumption) :
    PX X [.Assign [.Name n pos'] (.Call (.Name g p) (e :: es) [] pos) pos''] (tXset i sp t) := by
  intro pins s σ H Dn R I h
  refine wpAny_execs_cons (wpAny_Assign_Name (wpAny_mono (callX D hr hno ha hj hg hdb he hpl I h) (fun v s1 ⟨y, H1, I1, r1, q1⟩ => ?_) fun ev s1 ⟨x, C, Hc, sc, H', ev', F, hR⟩ => ⟨x, C, σ, Hc, sc, H', ev', F, hR⟩) hs)
  exact store_ok I1 hN hi hx r1 (fun s2 I2 => wpAny_execs_nil ⟨_, H1, I2, q1⟩) hf
theorem Inv.unheld (I' : Inv (X.held x) pins σ H s) (ok : X.Ok) : Inv X pins σ H s :=
  ⟨ok, I'.os, I'.bare, I'.base, I'.loc, I'.cell, I'.free, I'.freeC, I'.pin, I'.hok, I'.len⟩
theorem ps_try {j : Nat} {n J : Str} {Ja : Addr} {t : TX} {u : TS} {body : List Stmt} {b0 : Stmt} {suite : List Stmt} {p hp pos : Pos} (hN : X.N.Nodup) (hj : X.N[j]? = some n) (hl : X.env.scope.names.lookup n = some .local) (hno : ∀ e s, X.xe e s → False)
    (hst : X.stack = X.env :: X.outer) (hfr : X.env.frame = some X.env.locals) (hb : PX X body t) (hg : Gl X J) (hm : X.mg J = some (.ref Ja)) (hs : ∀ x, PSs (X.held x) (b0 :: suite) u) (hd : (J == ("__debug__" : Str)) = false := by decide) :
    PS X (.Try body [.ExceptHandler (some (.Name J p)) (some n) (b0 :: suite) hp] [] [] pos) (tTry X.K Ja j t u) := by
  intro pins s σ H D I h
  refine wpAny_Try_except (wpAny_mono (hb pins s σ H _ _ I h) (fun f s1 q => ?_) fun ev s1 q => ?_)
  · cases f with
    | next => exact wpAny_execs_nil q
    | brk => exact q
    | cont => exact q
    | ret u => exact q
  · obtain ⟨x, C, σ', Hc, sc, H', rfl, F, hk, hR⟩ := q
    refine fly_note F I.ok.frames hst hfr fun s2 F2 => fly_land F2 fun s3 F3 => ?_
    have I3 : Inv (X.held x) pins σ' H' s3 := F3.inv.held x
    refine wpAny_handleBy_cons (codeAny_handlers_test (ld_glob (X := X.held x) I3 hg hm ?_ hd)) (by intro z; cases z)
    obtain ⟨T, ⟨oe, vs, a0, oT, ts, h1, h2, _⟩, _⟩ := F3.tr
    have LT : PySem.W.Looks (model X.prog X.w) s3.heap (typeOf (.ref x)) (.ref C) := by
      have := (PySem.W.Looks.ld (M := model X.prog X.w) (part := none) h1).andThen (f := fun o => (pure o.cls : Sem Value)) (PySem.W.Looks.now)
      rw [h2] at this
      exact this
    refine (PySem.W.exm_one I3.kIn LT hk).here ?_
    refine codeAny_handlers_suite_as (fly_land F3 fun s4 F4 => ?_)
    have I4 : Inv (X.held x) pins σ' (upd H' x (excO x C)) s4 := F4.known.held x
    refine store_ok (X := X.held x) I4 hN hj (.inl hl) (v := .ref x) rfl (fun s5 I5 => ?_) (.inr hl)
    refine wpAny_mono (hs x pins s5 _ _ _ I5 (hR x F4.hx)) (fun f s6 q => ?_) fun e s6 z => (hno e s6 z).elim
    have goes : ∀ {σ2 H2} {Q : Prop} {G : Shared → Prop} {p : Pos}, Inv (X.held x) pins σ2 H2 s6 → (∀ s', Inv X pins (σ2.set j none) H2 s' → G s') → wpAny (model X.prog X.w) X.A (do bindName X.env n .none; unbindBehindTheSuite X.env n p) (fun _ s' => G s') X.xe s6 := by
      intro σ2 H2 _ G p I6 k
      have I7 := I6.unheld I.ok
      obtain ⟨m, hm, hlo⟩ := I7.loc
      refine wpAny_nameGoes_keeps (m := m) (by unfold Env.kindOf; exact hl) hm (by rw [I.ok.kind]; rfl) fun h' v hn hs => k _ (I7.gone hN hj hm hlo hn hs)
    cases f with
    | next => obtain ⟨σ2, H2, I6, q⟩ := q; exact goes (Q := True) I6 fun s' I' => ⟨_, H2, I', q⟩
    | brk => obtain ⟨σ2, H2, I6, q⟩ := q; exact goes (Q := True) I6 fun s' I' => ⟨_, H2, I', q⟩
    | cont => obtain ⟨σ2, H2, I6, q⟩ := q; exact goes (Q := True) I6 fun s' I' => ⟨_, H2, I', q⟩
    | ret u => obtain ⟨v, σ2, H2, I6, r, q⟩ := q; exact goes (Q := True) I6 fun s' I' => ⟨v, _, H2, I', r, q⟩
end
end L2
namespace L2
open PySem PySem.Spec PyProof.Rows PySem.W PySem.Calls Builtin Builtin.ObjectAttr Builtin.Getset_descriptor
structure ExcCls (K : Frag) (C : Addr) : Prop where
  ga : findIn K (.ref C) "__getattribute__" = some (some (.builtin "BaseException.__getattribute__"))
  gn : findIn K (.ref C) "__getattr__" = some none
  ca : findIn K (.ref C) "__class__" = some (some (.builtin "object.__class__"))
  mo : mroIn K C (.type "object") = some true
  mb : mroIn K C (.type "BaseException") = some true
  is : (clsIn K C).isSome = true
section
variable {prog : Program} {w : World} {A : Around} {E : Value → Shared → Prop} {h : Heap} {g : Array GenState} {d : Drawn} {t : Nat} {os : OsState} {x C : Addr} {o : Obj} {K : Frag} {R : Result → Shared → Prop}
theorem xc_ty {M : Model} (hx : h.get? x = some o) (hc : o.cls = .ref C) : Looks M h (typeOf (.ref x)) (.ref C) := hc ▸ (Looks.ld hx).andThen .now
theorem xc_get {tp : Value} (X : K.In h) (ec : ExcCls K C) (hx : h.get? x = some o) (hc : o.cls = .ref C) (hq : R (.ok (.ret (.ref C))) ⟨h, g, d, t, os⟩) :
    codeAny (model prog w) A (.call (.builtin "getset_descriptor.__get__") ⟨[.builtin "object.__class__", .ref x, tp], []⟩) R ⟨h, g, d, t, os⟩ := by
  have L0 := xc_ty (M := model prog w) hx hc
  have L1 := looks_mroIn (M := model prog w) X ec.mo
  refine codeAny_call_builtin KF.slot_gs.plain KF.entry_gs (KF.slot_gs.check _ _ _ _ _ _ _ _ KF.type_class (KF.args_gs _ _ _) ?_)
  unfold Builtin.«getset_descriptor.__get__» descrGet
  rw [dga_obj]
  refine wpAny_bind (wpAny_pure ?_)
  unfold descrGetter descrCheckInstance descrNameAndClass isInstance
  simp only [KF.owner_class]
  repeat lk
  refine ⟨Code.quiet_builtin _ (by decide +kernel), codeAny_builtin KF.entry_class ?_⟩
  unfold Builtin.«object.__class__» shownTypeOf
  repeat lk
  exact hq
theorem xc_entry {tk : Tok} {Q : Fin → Shared → Prop} (X : K.In h) (ec : ExcCls K C) (hx : h.get? x = some o) (hc : o.cls = .ref C) (hq : Q (.done (.ret (.ref C))) ⟨h, g, d, t, os⟩) :
    wpAny (model prog w) A (Builtin.«object.__getattribute__» ⟨[.ref x, .str "__class__" tk], []⟩) Q E ⟨h, g, d, t, os⟩ := by
  have L0 := xc_ty (M := model prog w) hx hc
  have L1 := looks_findIn (M := model prog w) X ec.ca
  have hT5 : (⟨h, g, d, t, os⟩ : Shared).TypeIs (.builtin "object.__class__") "getset_descriptor" := F.typeOf_object_class
  have f5 := F.typeOf_object_class
  have f6 := F.slot_gs_get.lookup
  have f7 := F.slot_gs_set.lookup
  repeat (any_goals (first | assumption | with_reducible refine Looks.at L0 ?_ | with_reducible refine Looks.at L1 ?_ | wp_step))
  refine xc_get X ec hx hc ?_
  repeat (any_goals (first | assumption | wp_step))
theorem xc_check {M : Model} {nameV : Value} {Q : Unit → Shared → Prop} (X : K.In h) (ec : ExcCls K C) (hx : h.get? x = some o) (hc : o.cls = .ref C) (hq : Q () ⟨h, g, d, t, os⟩) :
    wpAny M A (checkBuiltinCall "BaseException.__getattribute__" ⟨[.ref x, nameV], []⟩) Q E ⟨h, g, d, t, os⟩ := by
  have hk : builtinKind "BaseException.__getattribute__" = some .slot := by decide +kernel
  have hsplit : splitId "BaseException.__getattribute__" = some ("BaseException", "__getattribute__") := by decide +kernel
  have L0 := xc_ty (M := M) hx hc
  have L1 := looks_mroIn (M := M) X ec.mb
  have ha := F.args_bexc_ga (.ref x) nameV
  simp only [checkBuiltinCall, hk, hsplit]
  refine wpAny_bind ?_
  · unfold isInstance
    repeat (first | with_reducible refine Looks.at L0 ?_ | with_reducible refine Looks.at L1 ?_ | wp_step)
    exact hq
theorem xc_call {tk : Tok} (X : K.In h) (ec : ExcCls K C) (hx : h.get? x = some o) (hc : o.cls = .ref C) (hq : R (.ok (.ret (.ref C))) ⟨h, g, d, t, os⟩) :
    codeAny (model prog w) A (.call (.builtin "BaseException.__getattribute__") ⟨[.ref x, .str "__class__" tk], []⟩) R ⟨h, g, d, t, os⟩ :=
  codeAny_call_builtin F.excAttr_ValueError.ga.plain F.entry_bexc_ga (xc_check X ec hx hc (xc_entry X ec hx hc hq))
theorem xc_by {tk : Tok} {fill expr : Bool} {Q : Value → Shared → Prop} (X : K.In h) (ec : ExcCls K C) (hx : h.get? x = some o) (hc : o.cls = .ref C) (hq : Q (.ref C) ⟨h, g, d, t, os⟩) :
    wpAny (model prog w) A (getAttrBy (.ref x) (.str "__class__" tk) fill expr) Q E ⟨h, g, d, t, os⟩ := by
  have L0 := xc_ty (M := model prog w) hx hc
  have L1 := looks_findIn (M := model prog w) X ec.ga
  have L2 := looks_findIn (M := model prog w) X ec.gn
  have f3 := F.excAttr_ValueError.ga.bind (.ref x)
  have hx0 : (expr && onTheHeap (Value.builtin "BaseException.__getattribute__")) = false := by cases expr <;> rfl
  have hx2 : (Value.builtin "BaseException.__getattribute__" == Value.builtin "object.__getattribute__") = false := by decide +kernel
  have hx1 : (onTheHeap (Value.ref C) && Value.builtin "BaseException.__getattribute__" == Value.builtin "object.__getattribute__") = false := by rw [hx2]; rfl
  repeat (any_goals (first | assumption | with_reducible refine Looks.at L0 ?_ | with_reducible refine Looks.at L1 ?_ | with_reducible refine Looks.at L2 ?_ | wp_step))
  refine xc_call X ec hx hc ?_
  repeat (any_goals (first | assumption | wp_step))
theorem xc_attr {Q : Option Value → Shared → Prop} (X : K.In h) (ec : ExcCls K C) (hx : h.get? x = some o) (hc : o.cls = .ref C) (hq : Q (some (.ref C)) ⟨h, g, d, t + 1, os⟩) :
    wpAny (model prog w) A (getAttr? (.ref x) "__class__") Q E ⟨h, g, d, t, os⟩ := by
  unfold getAttr? getAttrBy?
  repeat (any_goals (first | assumption | with_reducible apply xc_by X ec hx hc | wp_step))
theorem kitx_exc (ec : ExcCls K C) : KitX K (.ref x) (.ref C) (fun h => ∃ o, h.get? x = some o ∧ o.cls = .ref C) where
  ty := fun _ _ _ ⟨o, hx, hc⟩ => xc_ty hx hc
  it := fun _ _ X _ => by
    have := ec.is
    unfold clsIn at this
    split at this
    · rename_i c' d' cd' sl' ho
      intro A' Q' E' s' k q
      unfold isType loadHead
      exact wpAny_bind (wpAny_loadPart (k _ _ (X _ _ ho)) (wpAny_pure q))
    · cases this
  ne := fun h tp dd its n sl X htp => by
    have := ec.is
    refine Bool.eq_false_iff.mpr fun q => ?_
    have e : C = tp := Value.ref.inj (beq_iff_eq.mp q)
    subst e
    unfold clsIn at this
    split at this
    · rename_i c' d' cd' sl' ho
      have z := (X _ _ ho).symm.trans htp
      cases z
    · cases this
  ca := fun {_ _ _ _ _ s} X ⟨o, hx, hc⟩ k => by
    obtain ⟨h, g, d, t, os⟩ := s
    exact xc_attr X ec hx hc k
end
end L2
namespace L2
open PySem PySem.Spec PyProof.Rows PySem.W
theorem tail_has {K : Frag} {bmB : List Value} {x : Value} (hb : bmB.contains x = true) : ∀ {l : List Value}, tailIn K bmB l = true → l.contains x = true
  | [], e => by rw [beq_iff_eq.mp (show (bmB == []) = true from e)] at hb; exact hb
  | v :: r, e => by
    unfold tailIn at e
    rcases Bool.or_eq_true_iff.mp e with q | q
    · rw [beq_iff_eq.mp q]; exact hb
    · split at q
      · split at q
        · simp only [Bool.and_eq_true] at q
          rw [List.contains_cons, tail_has hb q.2, Bool.or_true]
        · cases q
      · cases q
def nsMapIn (K : Frag) (N : Addr) (x : Str) : Option Value := match K.lookup N with
  | some o => (match o.data with | .dict es _ => nsFind es x | _ => none)
  | none => none
theorem nsMapIn_eq {K : Frag} {h : Heap} {N : Addr} (X : K.In h) (e : nsOkIn K N = true) : h.nsMap N = nsMapIn K N := by
  unfold nsOkIn at e
  split at e
  · rename_i ho
    funext x
    unfold nsMapIn Heap.nsMap
    rw [X _ _ ho, ho]
  · cases e
theorem nsMapIn_none {K : Frag} {N : Addr} {x : Str} (q : nsIn K N x = some none) : nsMapIn K N x = none := by
  unfold nsIn at q
  unfold nsMapIn
  split at q
  · rename_i c d es n sl ho
    rw [ho]
    show nsFind es x = none
    split at q
    · cases q
    · rename_i he
      unfold nsFind findBy
      rw [← Array.find?_toList, he]
      rfl
  · cases q
theorem OwnExc.of {K : Frag} {C : Addr} (q : excIn K C bmVE "ValueError.__new__" = true) : OwnExc K C := by
  unfold excIn at q
  split at q
  · rename_i dd cd sl ho
    split at q
    · rename_i C' bm k0 k1 k2 k3 n k5 hm hs
      simp only [Bool.and_eq_true, beq_iff_eq, Bool.not_eq_true'] at q
      obtain ⟨⟨⟨⟨⟨rfl, rfl⟩, hdel⟩, ht⟩, hok⟩, hni⟩ := q
      obtain ⟨nm, bs, mro, ns, qn, hd, sn, sub, ab, col, del⟩ := cd
      dsimp only at hm hdel hok hni
      subst hm hdel
      have hsl : sl = #[k0, k1, k2, k3, some (.builtin "ValueError.__new__"), k5] := by
        obtain ⟨l⟩ := sl
        simp only at hs
        rw [hs]
      subst hsl
      refine ⟨nm, qn, ns, bs, bm, hd, sn, sub, ab, col, dd, k0, k1, k2, k3, k5, nsMapIn K ns, nsMapIn_none hni, tail_has (by decide +kernel) ht, fun h X => ⟨X _ _ ho, ?_, tail_of_in X ht⟩⟩
      have := Heap.Ns.of_isNs (isNs_of_in X hok)
      rw [nsMapIn_eq X hok] at this
      exact this
    · cases q
  · cases q
def clsV : V → Value
  | .ref a => .ref a
  | .ty n => .type n
  | _ => .none
section
variable {X : Cx}
theorem call_isinstX (K : Frag) (hK : X.K = K) : CallR X (.builtin "isinstance") (fun xs H Q => ∃ x C c b, xs = [.ref x, c] ∧ H x = some (excO x C) ∧ ExcCls K C ∧ RelV c (clsV c) ∧ kitOne K (.ref C) (clsV c) = some b ∧ Q (.bl b) H) := by
  subst hK
  intro pins s σ H xs us Q I r h
  obtain ⟨x, C, c, b, rfl, hx, ec, rc, e, q⟩ := h
  obtain ⟨u, w', rfl, ru, rw'⟩ := vals2 r
  have e1 : u = .ref x := ru
  subst e1
  have e2 : w' = clsV c := by
    cases c with
    | ref a => exact rw'
    | ty n => exact rw'
    | non => exact rw'
    | bl b => exact nomatch (show Value.none = Value.bool b from rc)
    | int i => obtain ⟨t, z⟩ := (show ∃ t, Value.none = Value.int i t from rc); cases z
    | str i => obtain ⟨t, z⟩ := (show ∃ t, Value.none = Value.str i t from rc); cases z
    | byt i => obtain ⟨t, z⟩ := (show ∃ t, Value.none = Value.bytes i t from rc); cases z
    | flt i => obtain ⟨t, z⟩ := (show ∃ t, Value.none = Value.float i t from rc); cases z
  subst e2
  exact kia_one (kitx_exc ec) I.kIn (I.hok x _ hx).1 e (fun z => nomatch z) fun tk => ⟨.bl b, H, I.tok _, rfl, q⟩
end
end L2
namespace L2
open PySem PySem.Spec PyProof.Rows PySem.W PySem.NumText
structure Ec where
  (bad twice noown nopart novoy badnum much rows deed paper jett : Addr)
structure Told (K : Frag) (e : Ec) (C : Addr) (i : Nat) : Prop where
  ec : ExcCls K C
  jt : exmOne K (.ref C) (.ref e.jett) = some true
  ve : kitOne K (.ref C) (.type "ValueError") = some true
  k0 : kitOne K (.ref C) (.ref e.bad) = some (decide (0 = i))
  k1 : kitOne K (.ref C) (.ref e.twice) = some (decide (1 = i))
  k2 : kitOne K (.ref C) (.ref e.noown) = some (decide (2 = i))
  k3 : kitOne K (.ref C) (.ref e.nopart) = some (decide (3 = i))
  k4 : kitOne K (.ref C) (.ref e.novoy) = some (decide (4 = i))
  k5 : kitOne K (.ref C) (.ref e.badnum) = some (decide (5 = i))
  k6 : kitOne K (.ref C) (.ref e.much) = some (decide (6 = i))
  k7 : kitOne K (.ref C) (.ref e.rows) = some (decide (7 = i))
  k8 : kitOne K (.ref C) (.ref e.deed) = some (decide (8 = i))
  k9 : kitOne K (.ref C) (.ref e.paper) = some (decide (9 = i))
def hotB (i : Nat) : List Bool := true :: (List.range 10).map fun k => decide (k = i)
def hotV (i : Nat) : List V := (hotB i).map V.bl
theorem Told.of {K : Frag} {e : Ec} {C : Addr} {i : Nat} {b0 b1 b2 b3 b4 b5 b6 b7 b8 b9 : Bool} (ga : findIn K (.ref C) "__getattribute__" = some (some (.builtin "BaseException.__getattribute__"))) (gn : findIn K (.ref C) "__getattr__" = some none) (ca : findIn K (.ref C) "__class__" = some (some (.builtin "object.__class__")))
    (mo : mroIn K C (.type "object") = some true) (mb : mroIn K C (.type "BaseException") = some true) (jt : exmOne K (.ref C) (.ref e.jett) = some true) (ve : kitOne K (.ref C) (.type "ValueError") = some true)
    (k0 : kitOne K (.ref C) (.ref e.bad) = some b0) (k1 : kitOne K (.ref C) (.ref e.twice) = some b1) (k2 : kitOne K (.ref C) (.ref e.noown) = some b2) (k3 : kitOne K (.ref C) (.ref e.nopart) = some b3) (k4 : kitOne K (.ref C) (.ref e.novoy) = some b4)
    (k5 : kitOne K (.ref C) (.ref e.badnum) = some b5) (k6 : kitOne K (.ref C) (.ref e.much) = some b6) (k7 : kitOne K (.ref C) (.ref e.rows) = some b7) (k8 : kitOne K (.ref C) (.ref e.deed) = some b8) (k9 : kitOne K (.ref C) (.ref e.paper) = some b9)
    (h : [b0, b1, b2, b3, b4, b5, b6, b7, b8, b9] = (List.range 10).map fun k => decide (k = i)) : Told K e C i := by
  have h' : [b0, b1, b2, b3, b4, b5, b6, b7, b8, b9] = [decide (0 = i), decide (1 = i), decide (2 = i), decide (3 = i), decide (4 = i), decide (5 = i), decide (6 = i), decide (7 = i), decide (8 = i), decide (9 = i)] := h
  simp only [List.cons.injEq, and_true] at h'
  obtain ⟨rfl, rfl, rfl, rfl, rfl, rfl, rfl, rfl, rfl, rfl⟩ := h'
  have is : (clsIn K C).isSome = true := by
    unfold mroIn at mo
    obtain ⟨cd, a, b⟩ := Option.bind_eq_some_iff.mp mo
    rw [a]; rfl
  exact ⟨⟨ga, gn, ca, mo, mb, is⟩, jt, ve, k0, k1, k2, k3, k4, k5, k6, k7, k8, k9⟩
def wT (cs : List Nat) : Th := if numOk cs = true then .n ((digitsVal cs : Nat) : Int) else .s cs
theorem wT_v (cs : List Nat) : (wT cs).v = wV cs := by
  unfold wT wV
  split <;> rfl
theorem wT_ok {cs : List Nat} (h : cs.length ≤ 1000) : (wT cs).ok := by
  unfold wT
  split
  · exact True.intro
  · exact h
theorem split_ne {cs : List Nat} {c : Nat} : ∃ x ws, splitN cs c = x :: ws := by
  have hl := split_len (tx cs) c
  unfold splitN
  have hsp : Txt.split (tx cs) (tx [c]) = Txt.split (tx cs) ⟨#[c]⟩ := rfl
  rw [← hsp] at hl
  cases h : Txt.split (tx cs) (tx [c]) with
  | nil =>
    rw [h] at hl
    have h0 : ((([] : List Str).length : Nat) : Int) = 0 := rfl
    rw [h0] at hl
    have := cnt_pos0 c (tx cs).cps.toList
    omega
  | cons x r => exact ⟨_, _, rfl⟩
theorem cnt_le (c : Nat) : ∀ l : List Nat, cnt c l ≤ l.length
  | [] => by rw [cnt_nil]; decide
  | n :: r => by
    rw [cnt_cons]
    have := cnt_le c r
    rw [List.length_cons]
    split <;> omega
theorem split_many {cs : List Nat} {c : Nat} : (splitN cs c).length ≤ cs.length + 1 := by
  have hl := split_len (tx cs) c
  unfold splitN
  have hsp : Txt.split (tx cs) (tx [c]) = Txt.split (tx cs) ⟨#[c]⟩ := rfl
  rw [← hsp] at hl
  have := cnt_le c (tx cs).cps.toList
  have e : (tx cs).cps.toList = cs := by show cs.toArray.toList = cs; simp
  rw [e] at this hl
  rw [List.length_map]
  omega
structure spReadX (C : Addr) (vs : List V) (H : Hp) (Q : VK) (E : XK) : Prop where
  ex : ∃ (cs x : List Nat) (ws : List (List Nat)), vs = [.str (tx cs)] ∧ cs.length ≤ 900 ∧ splitN cs 32 = x :: ws ∧ (soundT x (ws.map wT) = true → ∀ z H', Same H H' → H' z = some (.tup (thV (.s x :: ws.map wT))) → Q (.ref z) H') ∧
    (soundT x (ws.map wT) = false → ∀ e H', Same H H' → E (.ref e) (some C) H')
theorem use_readX {C : Addr} {H : Hp} {Q : VK} {E : XK} {cs x : List Nat} {ws : List (List Nat)} (hl : cs.length ≤ 900) (hs : splitN cs 32 = x :: ws) (q : soundT x (ws.map wT) = true → ∀ z H', Same H H' → H' z = some (.tup (thV (.s x :: ws.map wT))) → Q (.ref z) H')
    (q2 : soundT x (ws.map wT) = false → ∀ e H', Same H H' → E (.ref e) (some C) H') : spReadX C [.str (tx cs)] H Q E := ⟨cs, x, ws, rfl, hl, hs, q, q2⟩
structure spLawRead (vs : List V) (H : Hp) (Q : VK) (E : XK) : Prop where
  ex : ∃ (cs x : List Nat) (ws : List (List Nat)), vs = [.str (tx cs)] ∧ cs.length ≤ 900 ∧ splitN cs 32 = x :: ws ∧
    (soundT x (ws.map wT) = true → ∀ p l z H', Same H H' → H' p = some (.tup [.ref l, .ref z]) → H' l = some (.lst []) → H' z = some (.tup (thV (.s x :: ws.map wT))) → Q (.ref p) H') ∧
    (soundT x (ws.map wT) = false → ∀ p l H', Same H H' → H' p = some (.tup [.ref l, .non]) → H' l = some (.lst (hotV 8)) → Q (.ref p) H')
end L2
namespace L2
open PySem PySem.Spec PyProof.Rows PySem.W PySem.NumText
def tIsi (K : Frag) (j : Nat) (c : V) : TE := tCB (fun xs H Q => ∃ x C c b, xs = [.ref x, c] ∧ H x = some (excO x C) ∧ ExcCls K C ∧ RelV c (clsV c) ∧ kitOne K (.ref C) (clsV c) = some b ∧ Q (.bl b) H) (tCons (tVar j) (tCons (tC c) tNil))
def tTold (K : Frag) (e : Ec) (i j : Nat) : TS :=
  tSeq (tAsg (tLst (tCons (tIsi K j (.ty "ValueError")) (tCons (tIsi K j (.ref e.bad)) (tCons (tIsi K j (.ref e.twice)) (tCons (tIsi K j (.ref e.noown)) tNil))))) (gName i))
    (tSeq (tAsg (tOp rCat (tVar i) (tLst (tCons (tIsi K j (.ref e.nopart)) (tCons (tIsi K j (.ref e.novoy)) (tCons (tIsi K j (.ref e.badnum)) tNil))))) (gName i))
      (tAsg (tOp rCat (tVar i) (tLst (tCons (tIsi K j (.ref e.much)) (tCons (tIsi K j (.ref e.rows)) (tCons (tIsi K j (.ref e.deed)) (tCons (tIsi K j (.ref e.paper)) tNil)))))) (gName i)))
section
theorem told_suite {K : Frag} {e : Ec} {i j n : Nat} {D : Ends} {σ : St} {H : Hp} {x C : Addr} (to : Told K e C n) (hj : σ[j]? = some (some (.ref x))) (hi : i < σ.length) (hij : i ≠ j) (hx : H x = some (excO x C))
    (q : ∀ l H', Same H H' → H' l = some (.lst (hotV n)) → D.nx (σ.set i (some (.ref l))) H') : tTold K e i j D σ H := by
  have set_i : ∀ (σ : St) (v : V), i < σ.length → (σ.set i (some v))[i]? = some (some v) := fun σ v h => List.getElem?_set_self h
  have set_j : ∀ (σ : St) (v : V), σ[j]? = some (some (.ref x)) → (σ.set i (some v))[j]? = some (some (.ref x)) := fun σ v h => by rw [List.getElem?_set_ne hij]; exact h
  refine ⟨_, hj, x, C, _, _, rfl, hx, to.ec, rfl, to.ve, ?_⟩
  refine ⟨_, hj, x, C, _, _, rfl, hx, to.ec, rfl, to.k0, ?_⟩
  refine ⟨_, hj, x, C, _, _, rfl, hx, to.ec, rfl, to.k1, ?_⟩
  refine ⟨_, hj, x, C, _, _, rfl, hx, to.ec, rfl, to.k2, ?_⟩
  refine ⟨(show 4 ≤ sizeLine from by rw [sizeLine_eq]; decide), fun p1 hp1 => ?_⟩
  generalize hH1 : upd H p1 (HO.lst _) = H1
  have hH1' : upd H p1 (.lst [V.bl true, V.bl (decide (0 = n)), V.bl (decide (1 = n)), V.bl (decide (2 = n))]) = H1 := hH1
  have g1 : Same H H1 := hH1' ▸ same_new hp1 _
  have h1 : H1 p1 = some (.lst [V.bl true, V.bl (decide (0 = n)), V.bl (decide (1 = n)), V.bl (decide (2 = n))]) := by rw [← hH1', upd_same]
  clear hH1 hH1'
  have hj1 := set_j σ (.ref p1) hj
  have hx1 := g1 _ _ hx
  refine ⟨_, set_i _ _ hi, ?_⟩
  refine ⟨_, hj1, x, C, _, _, rfl, hx1, to.ec, rfl, to.k3, ?_⟩
  refine ⟨_, hj1, x, C, _, _, rfl, hx1, to.ec, rfl, to.k4, ?_⟩
  refine ⟨_, hj1, x, C, _, _, rfl, hx1, to.ec, rfl, to.k5, ?_⟩
  refine ⟨(show 3 ≤ sizeLine from by rw [sizeLine_eq]; decide), fun p2 hp2 => ?_⟩
  generalize hH2 : upd H1 p2 (HO.lst _) = H2
  have hH2' : upd H1 p2 (.lst [V.bl (decide (3 = n)), V.bl (decide (4 = n)), V.bl (decide (5 = n))]) = H2 := hH2
  have g2 : Same H1 H2 := hH2' ▸ same_new hp2 _
  have h2 : H2 p2 = some (.lst [V.bl (decide (3 = n)), V.bl (decide (4 = n)), V.bl (decide (5 = n))]) := by rw [← hH2', upd_same]
  clear hH2 hH2'
  refine ⟨p1, p2, _, _, rfl, rfl, g2 _ _ h1, h2, (show 4 + 3 ≤ sizeLine from by rw [sizeLine_eq]; decide), fun p3 hp3 => ?_⟩
  generalize hH3 : upd H2 p3 (HO.lst _) = H3
  have hH3' : upd H2 p3 (.lst [V.bl true, V.bl (decide (0 = n)), V.bl (decide (1 = n)), V.bl (decide (2 = n)), V.bl (decide (3 = n)), V.bl (decide (4 = n)), V.bl (decide (5 = n))]) = H3 := hH3
  have g3 : Same H2 H3 := hH3' ▸ same_new hp3 _
  have h3 : H3 p3 = some (.lst [V.bl true, V.bl (decide (0 = n)), V.bl (decide (1 = n)), V.bl (decide (2 = n)), V.bl (decide (3 = n)), V.bl (decide (4 = n)), V.bl (decide (5 = n))]) := by rw [← hH3', upd_same]
  clear hH3 hH3'
  have hj3 := set_j _ (.ref p3) hj1
  have hx3 := g3 _ _ (g2 _ _ hx1)
  refine ⟨_, set_i _ _ (by rw [List.length_set]; exact hi), ?_⟩
  refine ⟨_, hj3, x, C, _, _, rfl, hx3, to.ec, rfl, to.k6, ?_⟩
  refine ⟨_, hj3, x, C, _, _, rfl, hx3, to.ec, rfl, to.k7, ?_⟩
  refine ⟨_, hj3, x, C, _, _, rfl, hx3, to.ec, rfl, to.k8, ?_⟩
  refine ⟨_, hj3, x, C, _, _, rfl, hx3, to.ec, rfl, to.k9, ?_⟩
  refine ⟨(show 4 ≤ sizeLine from by rw [sizeLine_eq]; decide), fun p4 hp4 => ?_⟩
  generalize hH4 : upd H3 p4 (HO.lst _) = H4
  have hH4' : upd H3 p4 (.lst [V.bl (decide (6 = n)), V.bl (decide (7 = n)), V.bl (decide (8 = n)), V.bl (decide (9 = n))]) = H4 := hH4
  have g4 : Same H3 H4 := hH4' ▸ same_new hp4 _
  have h4 : H4 p4 = some (.lst [V.bl (decide (6 = n)), V.bl (decide (7 = n)), V.bl (decide (8 = n)), V.bl (decide (9 = n))]) := by rw [← hH4', upd_same]
  clear hH4 hH4'
  refine ⟨p3, p4, _, _, rfl, rfl, g4 _ _ h3, h4, (show 7 + 4 ≤ sizeLine from by rw [sizeLine_eq]; decide), fun p5 hp5 => ?_⟩
  have g5 := same_new hp5 (.lst (hotV n))
  have := q p5 (upd H4 p5 (.lst (hotV n))) (g1.trans (g2.trans (g3.trans (g4.trans g5)))) upd_same
  show D.nx (((σ.set i _).set i _).set i _) _
  rw [List.set_set, List.set_set]
  exact this
end
end L2
namespace L2
open PySem PySem.Spec PyProof.Rows PySem.NumText
structure spKindsL (K : PySem.W.Frag) (vs : List V) (H : Hp) (Q : VK) (E : XK) : Prop where
  ex : ∃ (d : Addr) (x : List Nat) (th : List Th), vs = [.ref d] ∧ SqL K H d (thV (.s x :: th)) ∧ th.length ≤ 1000 ∧ ∀ H', Same H H' → Q (.str (tx (kindsOf x (th.length + 1)))) H'
theorem use_kindsL {K : PySem.W.Frag} {H : Hp} {Q : VK} {E : XK} {d : Addr} {x : List Nat} {th : List Th} (h : SqL K H d (thV (.s x :: th))) (hl : th.length ≤ 1000) (q : ∀ H', Same H H' → Q (.str (tx (kindsOf x (th.length + 1)))) H') : spKindsL K [.ref d] H Q E := ⟨d, x, th, rfl, h, hl, q⟩
structure spSoundL (K : PySem.W.Frag) (vs : List V) (H : Hp) (Q : VK) (E : XK) : Prop where
  ex : ∃ (d : Addr) (x : List Nat) (th : List Th), vs = [.ref d] ∧ SqL K H d (thV (.s x :: th)) ∧ th.length ≤ 1000 ∧ (∀ t ∈ th, t.ok) ∧ ∀ H', Same H H' → Q (.bl (soundT x th)) H'
theorem use_soundL {K : PySem.W.Frag} {H : Hp} {Q : VK} {E : XK} {d : Addr} {x : List Nat} {th : List Th} (h : SqL K H d (thV (.s x :: th))) (hl : th.length ≤ 1000) (ok : ∀ t ∈ th, t.ok) (q : ∀ H', Same H H' → Q (.bl (soundT x th)) H') : spSoundL K [.ref d] H Q E := ⟨d, x, th, rfl, h, hl, ok, q⟩
structure spDeedOf (vs : List V) (H : Hp) (Q : VK) (E : XK) : Prop where
  ex : ∃ (cs x : List Nat) (ws : List (List Nat)), vs = [.str (tx cs)] ∧ cs.length ≤ 900 ∧ splitN cs 32 = x :: ws ∧ (soundT x (ws.map wT) = true → ∀ z H', Same H H' → H' z = some (.tup (thV (.s x :: ws.map wT))) → Q (.ref z) H') ∧
    (soundT x (ws.map wT) = false → ∀ H', Same H H' → Q .non H')
end L2
namespace L2
open PySem PySem.Spec PyProof.Rows PySem.NumText
def tinyT : Th → Prop
  | .s cs => cs.length ≤ 30
  | .n i => (toString i : Str).cps.toList.length ≤ 30 ∧ i.natAbs.log2 < 1920
theorem call_strY {X : Cx} : CallR X (.type "str") (fun xs H Q => ∃ t : Th, xs = [t.v] ∧ tinyT t ∧ ∀ cs : List Nat, cs.length ≤ 30 → Q (.str (tx cs)) H) := by
  intro pins s σ H xs us Q I r h
  obtain ⟨t, rfl, hs, q⟩ := h
  cases t with
  | s cs =>
    obtain ⟨u, rfl, tk, rfl⟩ := vals1 r
    exact PySem.P.str_of_str ⟨.str (tx cs), H, I, ⟨tk, rfl⟩, q cs hs⟩
  | n i =>
    have hs' : (toString i : Str).cps.toList.length ≤ 30 ∧ i.natAbs.log2 < 1920 := hs
    refine call_str_int pins s σ H _ us Q I r ⟨i, rfl, hs'.2, ?_⟩
    have := q _ hs'.1
    rw [tx_eta] at this
    exact this
theorem tiny_good {t : Th} (h : GoodT t) : tinyT t := by
  cases t with
  | s cs =>
    have h' : NameOk cs := h
    have : cs.length ≤ 8 := h'.hi
    show cs.length ≤ 30
    omega
  | n i =>
    have h' : 0 ≤ i ∧ i ≤ 1000000000 := h
    have e := str_digs i.toNat
    rw [show ((i.toNat : Nat) : Int) = i by omega] at e
    refine ⟨?_, ?_⟩
    · rw [show (toString i : Str) = tx (digs i.toNat) from e]
      show (digs i.toNat).toArray.toList.length ≤ 30
      rw [List.toList_toArray]
      exact Nat.le_trans (digs_len (k := 9) (by omega)) (by decide)
    · by_cases h0 : i.natAbs = 0
      · rw [h0]; decide
      · exact Nat.lt_trans ((Nat.log2_lt h0).mpr (show i.natAbs < 2 ^ 100 by have : (1000000000 : Int) < 2 ^ 100 := (by decide +kernel); omega)) (by decide)
structure DeedT (ds : List Th) (n : Nat) : Prop where
  hd : ∃ x th, ds = .s x :: th
  ok : ∀ t ∈ ds, tinyT t
  len : ds.length ≤ n
theorem AnyD.deedT {x : List Nat} {th : List Th} (h : AnyD x th) (hl : th.length ≤ 18) : DeedT (.s x :: th) 19 := by
  refine ⟨⟨x, th, rfl⟩, fun t ht => ?_, by show th.length + 1 ≤ _; omega⟩
  rcases List.mem_cons.mp ht with z | z
  · subst z
    obtain ⟨y, hy, rfl⟩ := h.word
    have : ∀ y ∈ words9, (wd y).length ≤ 30 := by decide +kernel
    exact this y hy
  · exact tiny_good (h.good t z)
theorem DeedT.pos {ds : List Th} {n : Nat} (h : DeedT ds n) : 1 ≤ ds.length := by obtain ⟨x, th, e⟩ := h.hd; rw [e]; exact Nat.le_add_left _ _
theorem DeedT.take {ds : List Th} {n k m : Nat} (h : DeedT ds n) (hk : 1 ≤ k) (hm : ds.length ≤ m) : DeedT (ds.take k) m := by
  obtain ⟨x, th, e⟩ := h.hd
  refine ⟨⟨x, th.take (k - 1), ?_⟩, fun t ht => h.ok t (List.mem_of_mem_take ht), by rw [List.length_take]; omega⟩
  rw [e]
  cases k with
  | zero => omega
  | succ k => rfl
theorem DeedT.cat {ds es : List Th} {n m : Nat} (h : DeedT ds n) (ho : ∀ t ∈ es, tinyT t) (hm : ds.length + es.length ≤ m) : DeedT (ds ++ es) m := by
  obtain ⟨x, th, e⟩ := h.hd
  refine ⟨⟨x, th ++ es, by rw [e]; rfl⟩, fun t ht => ?_, by rw [List.length_append]; exact hm⟩
  rcases List.mem_append.mp ht with z | z
  · exact h.ok t z
  · exact ho t z
theorem words18_ty : ∀ v ∈ words18a.map V.str ++ words18b.map V.str, ∃ t : Th, v = t.v ∧ tinyT t := by
  intro v hv
  rw [← List.map_append] at hv
  obtain ⟨y, hy, rfl⟩ := List.mem_map.mp hv
  have : ∀ y ∈ words18a ++ words18b, (wd y).length ≤ 30 := by decide +kernel
  exact ⟨.s (wd y), (wd_v y).symm, this y hy⟩
def otherN : List Int := [0, -1, 1, (10 : Int) ^ (9 : Int).toNat + 1, (10 : Int) ^ (25 : Int).toNat, 5, 0 - (10 : Int) ^ (9 : Int).toNat, (10 : Int) ^ (9 : Int).toNat]
theorem otherN_ty : ∀ i ∈ otherN, tinyT (.n i) := by
  intro i hi
  have : ∀ i ∈ otherN, (toString i : Str).cps.toList.length ≤ 30 ∧ i.natAbs.log2 < 1920 := by decide +kernel
  exact this i hi
structure spAnyDeedS (K : PySem.W.Frag) (vs : List V) (H : Hp) (Q : VK) (E : XK) : Prop where
  ex : ∃ (a : Addr) (ms : List Int) (k : Int), vs = [.ref a, .int k] ∧ SqL K H a (ms.map V.int) ∧ ms.length ≤ 63 ∧ 0 ≤ k ∧
    ∀ (z : Addr) (x : List Nat) (th : List Th) (H' : Hp), Same H H' → H' z = some (.tup (thV (.s x :: th))) → H z = none → AnyD x th → th.length ≤ 18 → Q (.ref z) H'
theorem use_anyS {K : PySem.W.Frag} {H : Hp} {Q : VK} {E : XK} {a : Addr} {ms : List Int} {k : Int} (hS : SqL K H a (ms.map V.int)) (h63 : ms.length ≤ 63) (h1 : 0 ≤ k)
    (h : ∀ (z : Addr) (x : List Nat) (th : List Th) (H' : Hp), Same H H' → H' z = some (.tup (thV (.s x :: th))) → H z = none → AnyD x th → th.length ≤ 18 → Q (.ref z) H') : spAnyDeedS K [.ref a, .int k] H Q E := ⟨a, ms, k, rfl, hS, h63, h1, h⟩
structure spOtherS (K : PySem.W.Frag) (vs : List V) (H : Hp) (Q : VK) (E : XK) : Prop where
  ex : ∃ (a d : Addr) (ms : List Int) (k : Int) (ds : List Th), vs = [.ref a, .int k, .ref d] ∧ SqL K H a (ms.map V.int) ∧ ms.length ≤ 63 ∧ 0 ≤ k ∧ SqT K H d (thV ds) ∧ DeedT ds 300 ∧
    ∀ (z : Addr) (es : List Th) (H' : Hp), Same H H' → SqT K H' z (thV es) → DeedT es (ds.length + 1) → Q (.ref z) H'
theorem use_otherS {K : PySem.W.Frag} {H : Hp} {Q : VK} {E : XK} {a d : Addr} {ms : List Int} {k : Int} {ds : List Th} (hS : SqL K H a (ms.map V.int)) (h63 : ms.length ≤ 63) (h1 : 0 ≤ k) (hd : SqT K H d (thV ds)) (ok : DeedT ds 300)
    (h : ∀ (z : Addr) (es : List Th) (H' : Hp), Same H H' → SqT K H' z (thV es) → DeedT es (ds.length + 1) → Q (.ref z) H') : spOtherS K [.ref a, .int k, .ref d] H Q E := ⟨a, d, ms, k, ds, rfl, hS, h63, h1, hd, ok, h⟩
theorem joinSz_lt (c : Nat) : ∀ (a : List Nat) (r : List (List Nat)), joinSz [c] (a :: r) ≤ (joinL [c] (a :: r)).length + 1
  | a, [] => by show (a.length + 1) + 0 ≤ _; rw [joinL_cons]; simp
  | a, b :: r => by
    have ih := joinSz_lt c b r
    have e : joinSz [c] (a :: b :: r) = (a.length + 1) + joinSz [c] (b :: r) := rfl
    have e2 : (joinL [c] (a :: b :: r)).length = a.length + 1 + (joinL [c] (b :: r)).length := by
      rw [joinL_cons, joinL_cons]
      simp
      omega
    omega
theorem joinSz_set (c : Nat) (w : List Nat) : ∀ (l : List (List Nat)) (i : Nat), joinSz [c] (l.set i w) ≤ joinSz [c] l + w.length
  | [], i => by rw [List.set_nil]; omega
  | a :: r, 0 => by
    show (w.length + 1) + joinSz [c] r ≤ ((a.length + 1) + joinSz [c] r) + w.length
    omega
  | a :: r, i + 1 => by
    have := joinSz_set c w r i
    show (a.length + 1) + joinSz [c] (r.set i w) ≤ ((a.length + 1) + joinSz [c] r) + w.length
    omega
theorem join_back (cs : List Nat) (c : Nat) : joinL [c] (splitN cs c) = cs := by
  have hj := PySem.StrLaws.join_split (tx cs) (tx [c])
  unfold splitN
  generalize Txt.split (tx cs) (tx [c]) = l at *
  have el : (l.map (·.cps.toList)).map tx = l := by
    rw [List.map_map]
    conv => rhs; rw [← List.map_id l]
    exact List.map_congr_left fun x _ => tx_eta x
  rw [← el, join_tx] at hj
  exact tx_inj hj
theorem split_sz (cs : List Nat) (c : Nat) : joinSz [c] (splitN cs c) ≤ cs.length + 1 := by
  obtain ⟨x, ws, e⟩ := split_ne (cs := cs) (c := c)
  have h := joinSz_lt c x ws
  rw [← e, join_back] at h
  exact h
theorem joinSz_all {n : Nat} (c : Nat) : ∀ (l : List (List Nat)), (∀ p ∈ l, p.length ≤ n) → joinSz [c] l ≤ l.length * (n + 1)
  | [], _ => Nat.zero_le _
  | a :: r, h => by
    have := joinSz_all c r fun p hp => h p (List.mem_cons_of_mem _ hp)
    have ha := h a List.mem_cons_self
    show (a.length + 1) + joinSz [c] r ≤ (r.length + 1) * (n + 1)
    rw [Nat.add_mul]
    omega
structure spLineX (K : PySem.W.Frag) (vs : List V) (H : Hp) (Q : VK) (E : XK) : Prop where
  ex : ∃ (a d : Addr) (ms : List Int) (k : Int) (ds : List Th), vs = [.ref a, .int k, .ref d] ∧ SqL K H a (ms.map V.int) ∧ ms.length ≤ 63 ∧ 0 ≤ k ∧ SqT K H d (thV ds) ∧ DeedT ds 20 ∧
    ∀ (cs : List Nat) (H' : Hp), Same H H' → cs.length ≤ 800 → Q (.str (tx cs)) H'
theorem use_lineX {K : PySem.W.Frag} {H : Hp} {Q : VK} {E : XK} {a d : Addr} {ms : List Int} {k : Int} {ds : List Th} (hS : SqL K H a (ms.map V.int)) (h63 : ms.length ≤ 63) (h1 : 0 ≤ k) (hd : SqT K H d (thV ds)) (ok : DeedT ds 20)
    (h : ∀ (cs : List Nat) (H' : Hp), Same H H' → cs.length ≤ 800 → Q (.str (tx cs)) H') : spLineX K [.ref a, .int k, .ref d] H Q E := ⟨a, d, ms, k, ds, rfl, hS, h63, h1, hd, ok, h⟩
end L2
namespace L2
open PySem PySem.Spec PyProof.Rows PySem.NumText
def someW : List Str := ["0", "1000000001", "01", "-1", "+5", "", "load", "tea", "7", "abcdefghi", "1000000000"]
theorem someW_len : ∀ y ∈ someW, (wd y).length ≤ 10 := by decide +kernel
end L2
namespace L2
open PySem PySem.Spec PyProof.Rows PySem.NumText
def Kd.isNm : Kd → Bool
  | .nm => true
  | _ => false
def kindT (w : List Nat) (k : Kd) : Th := if k.isNm = true then .s w else .n ((digitsVal w : Nat) : Int)
theorem fig_letter : ∀ c : Nat, inS "0123456789" c = true → inS "abcdefghijklmnopqrstuvwxyz" c = false := by
  intro c h
  rw [inS_mem] at h
  have hm : c ∈ ("0123456789" : Str).cps.toList := of_decide_eq_true h
  have : ∀ c ∈ ("0123456789" : Str).cps.toList, inS "abcdefghijklmnopqrstuvwxyz" c = false := by decide +kernel
  exact this c hm
theorem num_noname {w : List Nat} (h : numOk w = true) : isName w = false := by
  unfold numOk at h
  simp only [Bool.and_eq_true, Bool.not_eq_true'] at h
  obtain ⟨⟨h0, ha⟩, _⟩ := h
  cases w with
  | nil => cases h0
  | cons c r =>
    have hc := (List.all_eq_true.mp ha) c List.mem_cons_self
    unfold isName
    rw [show (c :: r).all (inS "abcdefghijklmnopqrstuvwxyz") = false by rw [List.all_cons, fig_letter c hc, Bool.false_and], Bool.and_false]
theorem fits_kind {w : List Nat} {k : Kd} (h : k.isNm = false → numOk w = true) : fitsT (kindT w k) k = fitsT (wT w) k ∧ (fitsT (wT w) k = true → kindT w k = wT w) := by
  cases k with
  | nm =>
    show fitsT (.s w) .nm = _ ∧ _
    unfold wT
    cases hn : numOk w with
    | true => rw [if_pos rfl]; exact ⟨num_noname hn, fun z => nomatch (show false = true from z)⟩
    | false => rw [if_neg Bool.false_ne_true]; exact ⟨rfl, fun _ => rfl⟩
  | am => unfold wT; rw [h rfl, if_pos rfl]; exact ⟨rfl, fun _ => rfl⟩
  | we => unfold wT; rw [h rfl, if_pos rfl]; exact ⟨rfl, fun _ => rfl⟩
theorem fit_kinds : ∀ (ws : List (List Nat)) (ks : List Kd), ws.length = ks.length → (∀ p ∈ ws.zip ks, p.2.isNm = false → numOk p.1 = true) →
    (List.zipWith fitsT (List.zipWith kindT ws ks) ks).all id = (List.zipWith fitsT (ws.map wT) ks).all id ∧ ((List.zipWith fitsT (ws.map wT) ks).all id = true → List.zipWith kindT ws ks = ws.map wT)
  | [], [], _, _ => ⟨rfl, fun _ => rfl⟩
  | w :: ws, k :: ks, hl, h => by
    have ih := fit_kinds ws ks (by simpa using hl) fun p hp => h p (List.mem_cons_of_mem _ hp)
    have hk := fits_kind (w := w) (k := k) (h (w, k) List.mem_cons_self)
    refine ⟨?_, fun z => ?_⟩
    · show (fitsT (kindT w k) k && (List.zipWith fitsT (List.zipWith kindT ws ks) ks).all id) = (fitsT (wT w) k && (List.zipWith fitsT (ws.map wT) ks).all id)
      rw [hk.1, ih.1]
    · obtain ⟨z1, z2⟩ := Bool.and_eq_true_iff.mp (show (fitsT (wT w) k && (List.zipWith fitsT (ws.map wT) ks).all id) = true from z)
      show kindT w k :: List.zipWith kindT ws ks = wT w :: ws.map wT
      rw [hk.2 z1, ih.2 z2]
  | [], _ :: _, hl, _ => by simp at hl
  | _ :: _, [], hl, _ => by simp at hl
theorem sound_kinds {x : List Nat} {ws : List (List Nat)} {ks : List Kd} (hf : formOf (tx x) (ws.length + 1) = some ks) (hl : ws.length = ks.length) (h : ∀ p ∈ ws.zip ks, p.2.isNm = false → numOk p.1 = true) :
    soundT x (List.zipWith kindT ws ks) = soundT x (ws.map wT) ∧ (soundT x (ws.map wT) = true → List.zipWith kindT ws ks = ws.map wT) := by
  have e1 : (List.zipWith kindT ws ks).length = ws.length := by rw [List.length_zipWith, hl, Nat.min_self]
  have e2 : (ws.map wT).length = ws.length := List.length_map _
  obtain ⟨a, b⟩ := fit_kinds ws ks hl h
  have s1 : soundT x (List.zipWith kindT ws ks) = allFit (List.zipWith kindT ws ks) ks := by unfold soundT; rw [e1, hf]
  have s2 : soundT x (ws.map wT) = allFit (ws.map wT) ks := by unfold soundT; rw [e2, hf]
  rw [s1, s2]
  unfold allFit
  rw [e1, e2, a]
  exact ⟨rfl, fun z => b (Bool.and_eq_true_iff.mp z).2⟩
theorem kinds_bad {x : List Nat} {ws : List (List Nat)} {ks : List Kd} {i : Nat} {w : List Nat} {k : Kd} (hf : formOf (tx x) (ws.length + 1) = some ks) (hw : ws[i]? = some w) (hk : ks[i]? = some k) (hn : k.isNm = false) (hb : numOk w = false) : soundT x (ws.map wT) = false := by
  have e2 : (ws.map wT).length = ws.length := List.length_map _
  have s2 : soundT x (ws.map wT) = allFit (ws.map wT) ks := by unfold soundT; rw [e2, hf]
  rw [s2]
  refine allFit_bad (i := i) (t := wT w) (k := k) (by rw [List.getElem?_map, hw]; rfl) hk ?_
  unfold wT
  rw [hb, if_neg Bool.false_ne_true]
  cases k with
  | nm => cases hn
  | am => rfl
  | we => rfl
theorem zip_take {α β γ : Type} {f : α → β → γ} {xs : List α} {ys : List β} {i : Nat} {x : α} {y : β} (h1 : xs[i]? = some x) (h2 : ys[i]? = some y) : List.zipWith f (xs.take (i + 1)) (ys.take (i + 1)) = List.zipWith f (xs.take i) (ys.take i) ++ [f x y] := by
  rw [List.take_add_one, List.take_add_one, h1, h2]
  have hx := (List.getElem?_eq_some_iff.mp h1).1
  have hy := (List.getElem?_eq_some_iff.mp h2).1
  show List.zipWith f (xs.take i ++ [x]) (ys.take i ++ [y]) = _
  rw [List.zipWith_append (by rw [List.length_take, List.length_take]; omega)]
  rfl
theorem txs_th (x : List Nat) (ws : List (List Nat)) : txs (x :: ws) = thV (.s x :: ws.map Th.s) := by
  show _ = (Th.s x).v :: (ws.map Th.s).map Th.v
  rw [List.map_map]
  rfl
theorem kinds_len {x : List Nat} {n : Nat} (h : n ≤ 1000) : (kindsOf x (n + 1)).length ≤ 2100 := by
  unfold kindsOf
  cases hf : formOf (tx x) (n + 1) with
  | none => show (List.replicate _ _).length ≤ _; rw [List.length_replicate]; omega
  | some ks =>
    show (ks.map kch).length ≤ _
    rw [List.length_map]
    unfold formOf at hf
    by_cases e : tx x = "cast"
    · rw [if_pos e] at hf
      cases hf
      rw [pairsK_len]
      omega
    · rw [if_neg e] at hf
      unfold formsOf at hf
      obtain ⟨p, hp, rfl⟩ := Option.map_eq_some_iff.mp hf
      have : ∀ p ∈ formsL, p.2.length ≤ 4 := by decide +kernel
      have := this p (List.mem_of_find?_eq_some hp)
      omega
theorem kinds_short {x : List Nat} {th : List Th} (hkl : ¬ (kindsOf x (th.length + 1)).length = th.length) : soundT x th = false := by
  unfold soundT
  unfold kindsOf at hkl
  cases hf : formOf (tx x) (th.length + 1) with
  | none => rfl
  | some ks =>
    rw [hf] at hkl
    have hkl' : ¬ (ks.map kch).length = th.length := hkl
    rw [List.length_map] at hkl'
    show allFit th ks = false
    unfold allFit
    rw [decide_eq_false (fun z => hkl' z.symm), Bool.false_and]
theorem kinds_form {x : List Nat} {n : Nat} (hkl : (kindsOf x (n + 1)).length = n) : ∃ ks, formOf (tx x) (n + 1) = some ks ∧ kindsOf x (n + 1) = ks.map kch := by
  unfold kindsOf at hkl ⊢
  cases hf : formOf (tx x) (n + 1) with
  | none =>
    rw [hf] at hkl
    have hkl' : (List.replicate (n + 1) 63).length = n := hkl
    rw [List.length_replicate] at hkl'
    omega
  | some ks => exact ⟨ks, rfl, rfl⟩
end L2
namespace L2
open PySem PySem.Spec PyProof.Rows PySem.NumText
structure spHot (vs : List V) (H : Hp) (Q : VK) (E : XK) : Prop where
  ex : ∃ n : Nat, vs = [.int (n : Int)] ∧ ∀ p H', Same H H' → H' p = some (.lst (hotV n)) → Q (.ref p) H'
theorem use_hot {H : Hp} {Q : VK} {E : XK} {n : Nat} {i : Int} (e : i = (n : Int)) (q : ∀ p H', Same H H' → H' p = some (.lst (hotV n)) → Q (.ref p) H') : spHot [.int i] H Q E := ⟨n, by rw [e], q⟩
theorem use_deedof {H : Hp} {Q : VK} {E : XK} {cs x : List Nat} {ws : List (List Nat)} (hl : cs.length ≤ 900) (hs : splitN cs 32 = x :: ws) (q : soundT x (ws.map wT) = true → ∀ z H', Same H H' → H' z = some (.tup (thV (.s x :: ws.map wT))) → Q (.ref z) H')
    (q2 : soundT x (ws.map wT) = false → ∀ H', Same H H' → Q .non H') : spDeedOf [.str (tx cs)] H Q E := ⟨cs, x, ws, rfl, hl, hs, q, q2⟩
theorem use_lawread {H : Hp} {Q : VK} {E : XK} {cs x : List Nat} {ws : List (List Nat)} (hl : cs.length ≤ 900) (hs : splitN cs 32 = x :: ws)
    (q : soundT x (ws.map wT) = true → ∀ p l z H', Same H H' → H' p = some (.tup [.ref l, .ref z]) → H' l = some (.lst []) → H' z = some (.tup (thV (.s x :: ws.map wT))) → Q (.ref p) H')
    (q2 : soundT x (ws.map wT) = false → ∀ p l H', Same H H' → H' p = some (.tup [.ref l, .non]) → H' l = some (.lst (hotV 8)) → Q (.ref p) H') : spLawRead [.str (tx cs)] H Q E := ⟨cs, x, ws, rfl, hl, hs, q, q2⟩
end L2
namespace L2
open PySem PySem.Spec PyProof.Rows PySem.NumText
theorem bools_dt {K : PySem.W.Frag} {H : Hp} : ∀ bs : List Bool, DtA K H (bs.map V.bl) (bs.map PyData.bool)
  | [] => .nil
  | b :: bs => .cons (.bl b) (bools_dt bs)
theorem hot_dt {K : PySem.W.Frag} {H : Hp} (n : Nat) : DtA K H (hotV n) ((hotB n).map PyData.bool) := bools_dt _
def hotD : PyData := .list ((hotB 8).map PyData.bool)
theorem hot_shaped : SeqAt.shaped hotD = true := by decide +kernel
theorem hot_eqv : PyData.eqv hotD hotD = true := by decide +kernel
theorem letters_low {cs : List Nat} (h : cs.all (inS "abcdefghijklmnopqrstuvwxyz") = true) : PyData.strOk (tx cs) = true := by
  refine strOk_low fun c hc => ?_
  have h1 := (List.all_eq_true.mp h) c hc
  rw [inS_mem] at h1
  have hm : c ∈ ("abcdefghijklmnopqrstuvwxyz" : Str).cps.toList := of_decide_eq_true h1
  have : ∀ c ∈ ("abcdefghijklmnopqrstuvwxyz" : Str).cps.toList, c < 1000 := by decide +kernel
  exact this c hm
theorem fits_pl {t : Th} {k : Kd} (h : fitsT t k = true) : Pl (thD t) 0 := by
  cases t with
  | n i => exact .int
  | s cs =>
    cases k with
    | nm =>
      have h' : isName cs = true := h
      unfold isName at h'
      exact .str (letters_low (Bool.and_eq_true_iff.mp h').2)
    | am => cases h
    | we => cases h
theorem fits_all : ∀ {th : List Th} {ks : List Kd}, th.length = ks.length → (List.zipWith fitsT th ks).all id = true → ∀ t ∈ th, Pl (thD t) 0
  | [], _, _, _, t, m => nomatch m
  | _ :: _, [], hl, _, _, _ => by simp at hl
  | a :: th, k :: ks, hl, h, t, m => by
    obtain ⟨h1, h2⟩ := Bool.and_eq_true_iff.mp (show (fitsT a k && (List.zipWith fitsT th ks).all id) = true from h)
    rcases List.mem_cons.mp m with z | z
    · rw [z]; exact fits_pl h1
    · exact fits_all (by simpa using hl) h2 t z
theorem form_low {x : List Nat} {n : Nat} {ks : List Kd} (h : formOf (tx x) n = some ks) : PyData.strOk (tx x) = true := by
  unfold formOf at h
  by_cases e : tx x = "cast"
  · rw [e]; decide +kernel
  · rw [if_neg e] at h
    unfold formsOf at h
    obtain ⟨p, hp, rfl⟩ := Option.map_eq_some_iff.mp h
    have h1 := List.find?_some hp
    have h2 : p.1 = tx x := of_decide_eq_true h1
    have : ∀ p ∈ formsL, PyData.strOk p.1 = true := by decide +kernel
    rw [← h2]
    exact this p (List.mem_of_find?_eq_some hp)
theorem sound_pl {x : List Nat} {th : List Th} (h : soundT x th = true) : Pl (.tuple ((Th.s x :: th).map thD)) 1 := by
  unfold soundT at h
  cases hf : formOf (tx x) (th.length + 1) with
  | none => rw [hf] at h; cases h
  | some ks =>
    rw [hf] at h
    obtain ⟨h1, h2⟩ := Bool.and_eq_true_iff.mp (show (decide (th.length = ks.length) && (List.zipWith fitsT th ks).all id) = true from h)
    refine .tuple fun d hd => ?_
    obtain ⟨t, ht, rfl⟩ := List.mem_map.mp hd
    rcases List.mem_cons.mp ht with z | z
    · subst z; exact .str (form_low hf)
    · exact fits_all (of_decide_eq_true h1) h2 t z
end L2
namespace Law
open PySem L2
def top (i : Nat) : Stmt := PySem.Challenge.pw_jettison_k43_lines_read_or_refused.main.body.getD i (.Pass ⟨0, 0, 0, 0⟩)
section
variable {P : Program} {w : World} {K : PySem.W.Frag} {mg : Str → Option Value} {base : Heap} {f : Addr} {fd : FuncData}
abbrev sd_made_of : Stmt := top 19
abbrev N_made_of : List Str := ["text", "signs"]
abbrev P_made_of : List Str := ["text", "signs"]
theorem sc_made_of : FnScope N_made_of P_made_of (defScope sd_made_of) := ⟨rfl, rfl, rfl, by decide +kernel, rfl, by decide +kernel, by decide +kernel⟩
theorem ok_made_of (F : At K mg "made_of" sd_made_of f fd) (m_all : mg "all" = none) : Dn P w K mg base 1 "made_of" P_made_of spMadeOf := by
  refine F.ok sc_made_of (fun vs H Q E h => ?_) (fun cdv A outer s H vs Q E hr h => ?_) (fun _ _ _ _ _ _ us hl => match us, hl with | [_, _], _ => rfl)
  · obtain ⟨cs, signs, rfl, _⟩ := h.ex
    rfl
  obtain ⟨cs, signs, rfl, hl, q⟩ := h.ex
  refine ⟨_, (@pss_one _ _ _ (@ps_ret _ _ _ _ (@pe_callB _ _ _ _ _ _ _ _ _ (call_allK K rfl) (by rfl) m_all PyProof.Rows.boot_all (@pa_cons _ _ _ _ _ (@pe_comp _ _ _ _ _ _ ["sign", "signs"] [none, some 1] _ _ _ rfl (@pi_str _ _ _ _ (@pv _ 0 _ _ (by rfl) (by first | exact Or.inl rfl | exact Or.inr (Or.inl rfl) | exact Or.inr (Or.inr rfl)) (by decide) (by decide))) (fun _ _ _ _ => (@pg_name _ _ (0) _ (show List.Nodup (["sign", "signs"] : List Str) from by decide +kernel) rfl (Or.inl rfl) (by first | exact .inl rfl | exact .inr rfl | assumption))) (fun _ _ _ _ => (@pe_cmpR _ _ _ _ _ _ _ _ op_in_str (@pv _ 0 _ _ (by rfl) (by first | exact Or.inl rfl | exact Or.inr (Or.inl rfl) | exact Or.inr (Or.inr rfl)) (by decide) (by decide)) (@pv _ 1 _ _ (by rfl) (by first | exact Or.inl rfl | exact Or.inr (Or.inl rfl) | exact Or.inr (Or.inr rfl)) (by decide) (by decide)) (by with_unfolding_all rfl))) rfl (by rfl) (by intro _; rfl)) (@pa_nil _) (by rfl)) (by decide) (by decide) (by rfl) (by rfl)))), ?_⟩
  refine ⟨_, rfl, cs, rfl, fun acc hacc => ?_⟩
  refine comp_str (fun i out H1 => Same H H1 ∧ out = ((cs.take i).map (inS signs)).map V.bl) hl ⟨same_new hacc _, rfl⟩ ?_ ?_
  · rintro i c out H1 hx hol ha ⟨g, e⟩
    refine ⟨_, rfl, _, rfl, _, _, rfl, rfl, ha, g.upd_new hacc _, ?_⟩
    rw [e, List.take_add_one, hx, List.map_append, List.map_append]
    rfl
  rintro out H1 hol ha ⟨g, e⟩
  rw [List.take_length] at e
  refine ⟨acc, cs.map (inS signs), rfl, SqL.of (by rw [ha, e]), ?_⟩
  have e2 : (cs.map (inS signs)).all id = cs.all (inS signs) := by rw [List.all_map]; rfl
  rw [e2]
  exact q H1 g
abbrev sd_is_name : Stmt := top 17
abbrev N_is_name : List Str := ["text"]
abbrev P_is_name : List Str := ["text"]
theorem sc_is_name : FnScope N_is_name P_is_name (defScope sd_is_name) := ⟨rfl, rfl, rfl, by decide +kernel, rfl, by decide +kernel, by decide +kernel⟩
theorem ok_is_name {tk : Tok} (F : At K mg "is_name" sd_is_name f fd) (D_made_of : Dn P w K mg base 1 "made_of" ["text", "signs"] spMadeOf) (m_len : mg "len" = none) (m_LETTERS : mg "LETTERS" = some (.str "abcdefghijklmnopqrstuvwxyz" tk)) : Dn P w K mg base 2 "is_name" P_is_name spIsName := by
  refine F.ok sc_is_name (fun vs H Q E h => ?_) (fun cdv A outer s H vs Q E hr h => ?_) (fun _ _ _ _ _ _ us hl => match us, hl with | [_], _ => rfl)
  · obtain ⟨cs, rfl, _⟩ := h.ex
    rfl
  obtain ⟨cs, rfl, hl, q⟩ := h.ex
  refine ⟨_, (@pss_one _ _ _ (@ps_ret _ _ _ _ (@pe_and _ _ _ _ _ _ _ (@pe_chain _ _ _ _ _ _ _ _ _ _ _ _ op_le op_le (@pe_int _ _ _ _) (@pe_callB _ _ _ _ _ _ _ _ _ call_len_str (by rfl) m_len PySem.boot_len (@pa_cons _ _ _ _ _ (@pv _ 0 _ _ (by rfl) (by first | exact Or.inl rfl | exact Or.inr (Or.inl rfl) | exact Or.inr (Or.inr rfl)) (by decide) (by decide)) (@pa_nil _) (by rfl)) (by decide) (by decide) (by rfl) (by rfl)) (@pe_int _ _ _ _) (by with_unfolding_all rfl)) (@pe_one _ _ _ _ _ (@pe_fn _ _ _ _ _ _ _ _ _ _ _ D_made_of hr (@pa_cons _ _ _ _ _ (@pv _ 0 _ _ (by rfl) (by first | exact Or.inl rfl | exact Or.inr (Or.inl rfl) | exact Or.inr (Or.inr rfl)) (by decide) (by decide)) (@pa_cons _ _ _ _ _ (@pe_glob _ _ (.str "abcdefghijklmnopqrstuvwxyz") _ _ (by rfl) m_LETTERS ⟨_, rfl⟩ (by decide)) (@pa_nil _) (by rfl)) (by rfl)) (by decide) (by rfl) (by decide) (by rfl) (by rfl)))))), ?_⟩
  have hz : (tx cs).length ≤ sizeLine := by rw [tx_length, sizeLine_eq]; omega
  refine ⟨_, rfl, _, rfl, hz, _, _, rfl, rfl, _, rfl, ?_⟩
  rw [tx_length]
  refine ite2 (fun c => ?_) (fun c => ?_)
  · refine ⟨_, _, rfl, rfl, _, rfl, ite2 (fun c2 => ?_) (fun c2 => ?_)⟩
    · refine ⟨_, rfl, use_madeof hl fun H' g => ?_⟩
      have := q H' g
      unfold isName at this
      rw [c, c2, Bool.true_and, Bool.true_and] at this
      exact this
    · have := q H (Same.refl _)
      unfold isName at this
      rw [c, Bool.eq_false_iff.mpr c2, Bool.true_and, Bool.false_and] at this
      exact this
  · have := q H (Same.refl _)
    unfold isName at this
    rw [Bool.eq_false_iff.mpr c, Bool.false_and, Bool.false_and] at this
    exact ⟨_, rfl, iteF this⟩
abbrev sd_value_of : Stmt := top 20
abbrev N_value_of : List Str := ["figures", "head", "value", "at"]
abbrev P_value_of : List Str := ["figures"]
theorem sc_value_of : FnScope N_value_of P_value_of (defScope sd_value_of) := ⟨rfl, rfl, rfl, by decide +kernel, rfl, by decide +kernel, by decide +kernel⟩
theorem ok_value_of {tkW tkG : Tok} (F : At K mg "value_of" sd_value_of f fd) (z_dig : digOk K = true) (m_len : mg "len" = none) (m_int : mg "int" = none) (m_range : mg "range" = none) (m_WIDTH : mg "WIDTH" = some (.int 64 tkW)) (m_GROUP : mg "GROUP" = some (.int (10 ^ 64) tkG)) : Dn P w K mg base 1 "value_of" P_value_of spValue := by
  refine F.ok sc_value_of (fun vs H Q E h => ?_) (fun cdv A outer s H vs Q E hr h => ?_) (fun _ _ _ _ _ _ us hl => match us, hl with | [_], _ => rfl)
  · obtain ⟨cs, rfl, _⟩ := h.ex
    rfl
  obtain ⟨cs, rfl, hl, hd, q⟩ := h.ex
  refine ⟨_, (@pss_cons _ _ _ _ _ (@ps_set _ _ (1) _ _ _ _ sc_value_of.nd rfl (Or.inl rfl) (@pe_op _ _ _ _ _ _ _ _ op_mod (@pe_callB _ _ _ _ _ _ _ _ _ call_len_str (by rfl) m_len PySem.boot_len (@pa_cons _ _ _ _ _ (@pv _ 0 _ _ (by rfl) (by first | exact Or.inl rfl | exact Or.inr (Or.inl rfl) | exact Or.inr (Or.inr rfl)) (by decide) (by decide)) (@pa_nil _) (by rfl)) (by decide) (by decide) (by rfl) (by rfl)) (@pe_glob _ _ (.int 64) _ _ (by rfl) m_WIDTH ⟨_, rfl⟩ (by decide))) (by rfl) (by first | exact .inl rfl | exact .inr rfl | assumption)) (@pss_cons _ _ _ _ _ (@ps_set _ _ (2) _ _ _ _ sc_value_of.nd rfl (Or.inl rfl) (@pe_callTy _ _ _ _ _ _ _ _ _ (call_int_text rfl z_dig) (by rfl) m_int PyProof.Rows.boot_int (@pa_cons _ _ _ _ _ (@pe_op _ _ _ _ _ _ _ _ op_add_str (@pe_str _ _ _ _) (@pe_slice _ _ _ _ _ _ _ _ _ _ sl_str (@pv _ 0 _ _ (by rfl) (by first | exact Or.inl rfl | exact Or.inr (Or.inl rfl) | exact Or.inr (Or.inr rfl)) (by decide) (by decide)) (@po_none _) (@po_some _ _ _ (@pv _ 1 _ _ (by rfl) (by first | exact Or.inl rfl | exact Or.inr (Or.inl rfl) | exact Or.inr (Or.inr rfl)) (by decide) (by decide))))) (@pa_nil _) (by rfl)) (by decide) (by decide) (by rfl) (by rfl)) (by rfl) (by first | exact .inl rfl | exact .inr rfl | assumption)) (@pss_cons _ _ _ _ _ (@ps_for _ _ _ _ _ _ _ _ PassesOwn.never rfl (@pi_range3 _ _ _ _ _ _ _ _ (by rfl) m_range (@pa_cons _ _ _ _ _ (@pv _ 1 _ _ (by rfl) (by first | exact Or.inl rfl | exact Or.inr (Or.inl rfl) | exact Or.inr (Or.inr rfl)) (by decide) (by decide)) (@pa_cons _ _ _ _ _ (@pe_callB _ _ _ _ _ _ _ _ _ call_len_str (by rfl) m_len PySem.boot_len (@pa_cons _ _ _ _ _ (@pv _ 0 _ _ (by rfl) (by first | exact Or.inl rfl | exact Or.inr (Or.inl rfl) | exact Or.inr (Or.inr rfl)) (by decide) (by decide)) (@pa_nil _) (by rfl)) (by decide) (by decide) (by rfl) (by rfl)) (@pa_cons _ _ _ _ _ (@pe_glob _ _ (.int 64) _ _ (by rfl) m_WIDTH ⟨_, rfl⟩ (by decide)) (@pa_nil _) (by rfl)) (by rfl)) (by rfl)) (by rfl) (by rfl)) (@pg_name _ _ (3) _ sc_value_of.nd rfl (Or.inl rfl) (by first | exact .inl rfl | exact .inr rfl | assumption)) (@pss_one _ _ _ (@ps_set _ _ (2) _ _ _ _ sc_value_of.nd rfl (Or.inl rfl) (@pe_op _ _ _ _ _ _ _ _ op_add (@pe_op _ _ _ _ _ _ _ _ op_mulW (@pv _ 2 _ _ (by rfl) (by first | exact Or.inl rfl | exact Or.inr (Or.inl rfl) | exact Or.inr (Or.inr rfl)) (by decide) (by decide)) (@pe_glob _ _ (.int (10 ^ 64)) _ _ (by rfl) m_GROUP ⟨_, rfl⟩ (by decide))) (@pe_callTy _ _ _ _ _ _ _ _ _ (call_int_text rfl z_dig) (by rfl) m_int PyProof.Rows.boot_int (@pa_cons _ _ _ _ _ (@pe_slice _ _ _ _ _ _ _ _ _ _ sl_str (@pv _ 0 _ _ (by rfl) (by first | exact Or.inl rfl | exact Or.inr (Or.inl rfl) | exact Or.inr (Or.inr rfl)) (by decide) (by decide)) (@po_some _ _ _ (@pv _ 3 _ _ (by rfl) (by first | exact Or.inl rfl | exact Or.inr (Or.inl rfl) | exact Or.inr (Or.inr rfl)) (by decide) (by decide))) (@po_some _ _ _ (@pe_op _ _ _ _ _ _ _ _ op_add (@pv _ 3 _ _ (by rfl) (by first | exact Or.inl rfl | exact Or.inr (Or.inl rfl) | exact Or.inr (Or.inr rfl)) (by decide) (by decide)) (@pe_glob _ _ (.int 64) _ _ (by rfl) m_WIDTH ⟨_, rfl⟩ (by decide))))) (@pa_nil _) (by rfl)) (by decide) (by decide) (by rfl) (by rfl))) (by rfl) (by first | exact .inl rfl | exact .inr rfl | assumption))) (by intro _; rfl)) (@pss_one _ _ _ (@ps_ret _ _ _ _ (@pv _ 2 _ _ (by rfl) (by first | exact Or.inl rfl | exact Or.inr (Or.inl rfl) | exact Or.inr (Or.inr rfl)) (by decide) (by decide))))))), ?_⟩
  have hz : (tx cs).length ≤ sizeLine := by rw [tx_length, sizeLine_eq]; omega
  have hzc : cs.length ≤ sizeLine := by rw [sizeLine_eq]; omega
  have hm0 : 0 ≤ ((cs.length : Nat) : Int) % 64 := Int.emod_nonneg _ (by decide)
  refine ⟨_, rfl, _, rfl, hz, _, _, rfl, rfl, (by show (0 : Int) < 64; decide), ?_⟩
  rw [tx_length]
  obtain ⟨hd', ehd⟩ : ∃ k : Nat, ((cs.length : Nat) : Int) % 64 = (k : Int) := ⟨cs.length % 64, by omega⟩
  have hdl : hd' ≤ cs.length := by omega
  show gName 1 (.int (((cs.length : Nat) : Int) % 64)) _ _ _
  rw [ehd]
  have hk64 : (cs.length - hd') = 64 * (cs.length / 64) := by omega
  refine ⟨_, rfl, _, rfl, (hd' : Int), rfl, cs, rfl, hzc, ?_⟩
  rw [cutN_to]
  refine ⟨_, _, rfl, rfl, (by show 1 + (tx (cs.take hd')).length ≤ sizeLine; rw [tx_length, List.length_take, sizeLine_eq]; omega), ?_⟩
  have e0 : (("0" : Str) ++ tx (cs.take hd') : Str) = tx (48 :: cs.take hd') := by rw [show ("0" : Str) = tx [48] from rfl, tx_cat]; rfl
  rw [e0]
  have hdt : ∀ n, NumText.AllDigits (cs.take n) := fun n x hx => hd x (List.mem_of_mem_take hx)
  refine ⟨48 :: cs.take hd', rfl, fun x hx => ?_, by simp, ?_, ?_⟩
  · rcases List.mem_cons.mp hx with z | z
    · subst z; exact ⟨by decide, by decide⟩
    · exact hdt _ x z
  · rw [List.length_cons, List.length_take]; omega
  rw [NumText.digitsVal_zero]
  refine ⟨_, rfl, _, rfl, _, rfl, hz, ?_⟩
  refine ⟨(hd' : Int), (((tx cs).length : Nat) : Int), 64, rfl, ⟨by omega, by omega, by omega, by rw [tx_length]; omega, by decide, by decide⟩, ?_⟩
  have est : stepsTo (hd' : Int) (((tx cs).length : Nat) : Int) 64 = cs.length / 64 := by
    rw [tx_length]
    unfold stepsTo Builtin.Range.rangeSize
    rw [if_pos (by decide)]
    split <;> omega
  rw [est]
  refine for_rangeS (lo := (hd' : Int)) (st := 64) (n := cs.length / 64) (fun i σ H' => H' = H ∧ ∃ (s1 : Option V), σ = [some (.str (tx cs)), some (.int (hd' : Int)), some (.int ((NumText.digitsVal (cs.take (hd' + 64 * i)) : Nat) : Int)), s1]) ⟨rfl, none, rfl⟩ ?_ ?_
  · rintro i σ H' hi ⟨rfl, s1, rfl⟩
    have ea : (hd' : Int) + (i : Int) * 64 = ((hd' + 64 * i : Nat) : Int) := by omega
    rw [ea]
    have hle : hd' + 64 * i + 64 ≤ cs.length := by omega
    have hsz := sz_digits (hdt (hd' + 64 * i))
    refine ⟨_, rfl, _, _, rfl, rfl, cmul_sz hsz (sz_lit (n := 213) (by decide +kernel)) (by rw [List.length_take]; omega), ?_⟩
    refine ⟨_, rfl, _, rfl, ((hd' + 64 * i : Nat) : Int), rfl, _, rfl, _, _, rfl, rfl, ((hd' + 64 * i : Nat) : Int) + 64, rfl, cs, rfl, hzc, ?_⟩
    rw [show (((hd' + 64 * i : Nat) : Int) + 64) = ((hd' + 64 * i + 64 : Nat) : Int) from by omega, cutN_mid (by omega) hle]
    rw [show hd' + 64 * i + 64 - (hd' + 64 * i) = 64 from by omega]
    have hne : (cs.drop (hd' + 64 * i)).take 64 ≠ [] := fun e => by
      have := congrArg List.length e
      rw [List.length_take, List.length_drop] at this
      simp at this
      omega
    refine ⟨(cs.drop (hd' + 64 * i)).take 64, rfl, fun x hx => hd x (List.mem_of_mem_drop (List.mem_of_mem_take hx)), hne, by rw [List.length_take]; omega, ?_⟩
    refine ⟨_, _, rfl, rfl, rfl, some (.int ((hd' + 64 * i : Nat) : Int)), ?_⟩
    have e64 : (10 ^ 64 : Int) = ((10 ^ 64 : Nat) : Int) := by decide +kernel
    have ev : ((NumText.digitsVal (cs.take (hd' + 64 * i)) : Nat) : Int) * (10 ^ 64 : Int) + ((NumText.digitsVal ((cs.drop (hd' + 64 * i)).take 64) : Nat) : Int) = ((NumText.digitsVal (cs.take (hd' + 64 * (i + 1))) : Nat) : Int) := by
      have et : cs.take (hd' + 64 * i + 64) = cs.take (hd' + 64 * i) ++ (cs.drop (hd' + 64 * i)).take 64 := List.take_add ..
      rw [show hd' + 64 * (i + 1) = hd' + 64 * i + 64 from by omega, et, digitsVal_append, List.length_take, List.length_drop, Nat.min_eq_left (by omega), e64, Int.natCast_add, Int.natCast_mul]
    rw [← ev]
    rfl
  rintro σ H' ⟨rfl, s1, rfl⟩
  refine ⟨_, rfl, ?_⟩
  rw [show hd' + 64 * (cs.length / 64) = cs.length from by omega, List.take_length]
  exact q
abbrev sd_number : Stmt := top 18
abbrev N_number : List Str := ["text"]
abbrev P_number : List Str := ["text"]
theorem sc_number : FnScope N_number P_number (defScope sd_number) := ⟨rfl, rfl, rfl, by decide +kernel, rfl, by decide +kernel, by decide +kernel⟩
theorem ok_number {tkF : Tok} (F : At K mg "number" sd_number f fd) (D_made_of : Dn P w K mg base 1 "made_of" ["text", "signs"] spMadeOf) (D_value_of : Dn P w K mg base 1 "value_of" ["figures"] spValue) (m_len : mg "len" = none) (m_FIGURES : mg "FIGURES" = some (.str "0123456789" tkF)) : Dn P w K mg base 2 "number" P_number spNumber := by
  refine F.ok sc_number (fun vs H Q E h => ?_) (fun cdv A outer s H vs Q E hr h => ?_) (fun _ _ _ _ _ _ us hl => match us, hl with | [_], _ => rfl)
  · obtain ⟨cs, rfl, _⟩ := h.ex
    rfl
  obtain ⟨cs, rfl, hl, q⟩ := h.ex
  refine ⟨_, (@pss_cons _ _ _ _ _ (@ps_if _ _ _ _ _ _ _ _ (PW.pt (@pw_or _ _ _ _ _ _ _ (@pt_cmpR _ _ _ _ _ _ _ _ op_eq (@pv _ 0 _ _ (by rfl) (by first | exact Or.inl rfl | exact Or.inr (Or.inl rfl) | exact Or.inr (Or.inr rfl)) (by decide) (by decide)) (@pe_str _ _ _ _) (nomark _)) (@pw_or1 _ _ _ _ (@pt_not _ _ _ _ (@pt_val _ _ _ (@pe_fn _ _ _ _ _ _ _ _ _ _ _ D_made_of hr (@pa_cons _ _ _ _ _ (@pv _ 0 _ _ (by rfl) (by first | exact Or.inl rfl | exact Or.inr (Or.inl rfl) | exact Or.inr (Or.inr rfl)) (by decide) (by decide)) (@pa_cons _ _ _ _ _ (@pe_glob _ _ (.str "0123456789") _ _ (by rfl) m_FIGURES ⟨_, rfl⟩ (by decide)) (@pa_nil _) (by rfl)) (by rfl)) (by decide) (by rfl) (by decide) (by rfl) (by rfl)) (by intro _; rfl)))))) (@pss_one _ _ _ (@ps_ret _ _ _ _ (@pe_non _ _ _))) (@pss_nil _)) (@pss_cons _ _ _ _ _ (@ps_if _ _ _ _ _ _ _ _ (@pt_pure _ _ _ (PW.pt (@pw_and _ _ _ _ _ _ _ (@pt_cmpR _ _ _ _ _ _ _ _ op_eq (@pe_ix _ _ _ _ _ _ _ ix_str (@pv _ 0 _ _ (by rfl) (by first | exact Or.inl rfl | exact Or.inr (Or.inl rfl) | exact Or.inr (Or.inr rfl)) (by decide) (by decide)) (@pe_int _ _ _ _) (fun _ _ => rfl)) (@pe_str _ _ _ _) (nomark _)) (@pw_and1 _ _ _ _ (@pt_cmpR _ _ _ _ _ _ _ _ op_gt (@pe_callB _ _ _ _ _ _ _ _ _ call_len_str (by rfl) m_len PySem.boot_len (@pa_cons _ _ _ _ _ (@pv _ 0 _ _ (by rfl) (by first | exact Or.inl rfl | exact Or.inr (Or.inl rfl) | exact Or.inr (Or.inr rfl)) (by decide) (by decide)) (@pa_nil _) (by rfl)) (by decide) (by decide) (by rfl) (by rfl)) (@pe_int _ _ _ _) (nomark _)))))) (@pss_one _ _ _ (@ps_ret _ _ _ _ (@pe_non _ _ _))) (@pss_nil _)) (@pss_one _ _ _ (@ps_ret _ _ _ _ (@pe_fn _ _ _ _ _ _ _ _ _ _ _ D_value_of hr (@pa_cons _ _ _ _ _ (@pv _ 0 _ _ (by rfl) (by first | exact Or.inl rfl | exact Or.inr (Or.inl rfl) | exact Or.inr (Or.inr rfl)) (by decide) (by decide)) (@pa_nil _) (by rfl)) (by decide) (by rfl) (by decide) (by rfl) (by rfl)))))), ?_⟩
  have hz : (tx cs).length ≤ sizeLine := by rw [tx_length, sizeLine_eq]; omega
  refine ⟨_, rfl, rfl, _, rfl, ?_⟩
  rw [str_eq_nil]
  by_cases h0 : cs = []
  · rw [decide_eq_true h0]
    refine iteT (iteT ?_)
    have := q H (Same.refl _)
    rw [show numV cs = .non from by rw [h0]; rfl] at this
    exact this
  rw [decide_eq_false h0]
  refine iteF ⟨_, rfl, use_madeof (by omega) fun H1 g1 => ⟨_, rfl, ?_⟩⟩
  by_cases h1 : cs.all (inS "0123456789") = true
  · rw [h1]
    refine iteF ?_
    have hd := figs_digits h1
    obtain ⟨c, r, rfl⟩ : ∃ c r, cs = c :: r := by
      cases cs with
      | nil => exact absurd rfl h0
      | cons c r => exact ⟨c, r, rfl⟩
    refine ⟨decide (c = 48) && decide ((1 : Int) < ((c :: r).length : Int)), ?_, ?_⟩
    · refine ⟨_, rfl, _, ((0 : Nat) : Int), c, rfl, rfl, hz, atI_nat (by simp), rfl, _, rfl, ?_⟩
      show if decide (V.str (tx [c]) = V.str "0") = true then _ else _
      rw [str_eq_zero]
      by_cases hc : c = 48
      · rw [decide_eq_true hc]
        refine iteT ⟨_, rfl, _, rfl, hz, _, _, rfl, rfl, _, rfl, ?_, rfl⟩
        rw [tx_length, Bool.true_and]
      · rw [decide_eq_false hc]
        exact iteF ⟨rfl, rfl⟩
    · by_cases hb : (decide (c = 48) && decide ((1 : Int) < ((c :: r).length : Int))) = true
      · rw [hb]
        refine iteT ?_
        have hn : numV (c :: r) = .non := by
          unfold numV numOk
          obtain ⟨b1, b2⟩ := Bool.and_eq_true_iff.mp hb
          have b1' : c = 48 := of_decide_eq_true b1
          have b2' : (1 : Int) < ((c :: r).length : Int) := of_decide_eq_true b2
          rw [decide_eq_true (show (c :: r).head? = some 48 from by rw [b1']; rfl), decide_eq_true (show 1 < (c :: r).length from by omega)]
          simp
        have := q H1 g1
        rw [hn] at this
        exact this
      · have hb' := Bool.eq_false_iff.mpr hb
        rw [hb']
        refine iteF ⟨_, rfl, use_value hl hd ?_⟩
        have hn : numV (c :: r) = .int ((NumText.digitsVal (c :: r) : Nat) : Int) := by
          unfold numV numOk
          have e2 : (decide ((c :: r).head? = some 48) && decide (1 < (c :: r).length)) = false := by
            rw [← hb']
            congr 1
            · exact decide_eq_decide.mpr ⟨fun e => Option.some.inj e, fun e => congrArg some e⟩
            · exact decide_eq_decide.mpr ⟨fun e => by omega, fun e => by omega⟩
          rw [e2, h1, decide_eq_false h0]
          rfl
        have := q H1 g1
        rw [hn] at this
        exact this
  · have h1' := Bool.eq_false_iff.mpr h1
    rw [h1']
    refine iteT ?_
    have hn : numV cs = .non := by unfold numV numOk; rw [h1', Bool.and_false, Bool.false_and]; rfl
    have := q H1 g1
    rw [hn] at this
    exact this
abbrev sd_fits : Stmt := top 26
abbrev N_fits : List Str := ["thing", "kind", "least"]
abbrev P_fits : List Str := ["thing", "kind"]
theorem sc_fits : FnScope N_fits P_fits (defScope sd_fits) := ⟨rfl, rfl, rfl, by decide +kernel, rfl, by decide +kernel, by decide +kernel⟩
theorem ok_fits {tk : Tok} (F : At K mg "fits" sd_fits f fd) (D_is_name : Dn P w K mg base 2 "is_name" ["text"] spIsName) (m_isinstance : mg "isinstance" = none) (m_str : mg "str" = none) (m_int : mg "int" = none) (m_MOST : mg "MOST" = some (.int 1000000000 tk)) : Dn P w K mg base 3 "fits" P_fits spFits := by
  refine F.ok sc_fits (fun vs H Q E h => ?_) (fun cdv A outer s H vs Q E hr h => ?_) (fun _ _ _ _ _ _ us hl => match us, hl with | [_, _], _ => rfl)
  · obtain ⟨t, k, rfl, _⟩ := h.ex
    rfl
  obtain ⟨t, k, rfl, ok, q⟩ := h.ex
  refine ⟨_, (@pss_cons _ _ _ _ _ (@ps_if _ _ _ _ _ _ _ _ (@pt_cmpR _ _ _ _ _ _ _ _ op_eq (@pv _ 1 _ _ (by rfl) (by first | exact Or.inl rfl | exact Or.inr (Or.inl rfl) | exact Or.inr (Or.inr rfl)) (by decide) (by decide)) (@pe_str _ _ _ _) (nomark _)) (@pss_one _ _ _ (@ps_ret _ _ _ _ (@pe_and _ _ _ _ _ _ _ (@pe_callB _ _ _ _ _ _ _ _ _ (call_isinstK K) (by rfl) m_isinstance PyProof.Rows.boot_isinstance (@pa_cons _ _ _ _ _ (@pv _ 0 _ _ (by rfl) (by first | exact Or.inl rfl | exact Or.inr (Or.inl rfl) | exact Or.inr (Or.inr rfl)) (by decide) (by decide)) (@pa_cons _ _ _ _ _ (@pe_ty _ _ _ _ PyProof.Rows.boot_str rfl m_str (by decide) (by decide)) (@pa_nil _) (by rfl)) (by rfl)) (by decide) (by decide) (by rfl) (by rfl)) (@pe_one _ _ _ _ _ (@pe_fn _ _ _ _ _ _ _ _ _ _ _ D_is_name hr (@pa_cons _ _ _ _ _ (@pv _ 0 _ _ (by rfl) (by first | exact Or.inl rfl | exact Or.inr (Or.inl rfl) | exact Or.inr (Or.inr rfl)) (by decide) (by decide)) (@pa_nil _) (by rfl)) (by decide) (by rfl) (by decide) (by rfl) (by rfl)))))) (@pss_nil _)) (@pss_cons _ _ _ _ _ (@ps_set _ _ (2) _ _ _ _ sc_fits.nd rfl (Or.inl rfl) (@pe_ifExp _ _ _ _ _ _ _ _ (@pt_cmpR _ _ _ _ _ _ _ _ op_eq (@pv _ 1 _ _ (by rfl) (by first | exact Or.inl rfl | exact Or.inr (Or.inl rfl) | exact Or.inr (Or.inr rfl)) (by decide) (by decide)) (@pe_str _ _ _ _) (nomark _)) (@pe_int _ _ _ _) (@pe_int _ _ _ _)) (by rfl) (by first | exact .inl rfl | exact .inr rfl | assumption)) (@pss_one _ _ _ (@ps_ret _ _ _ _ (@pe_and _ _ _ _ _ _ _ (@pe_callB _ _ _ _ _ _ _ _ _ (call_isinstK K) (by rfl) m_isinstance PyProof.Rows.boot_isinstance (@pa_cons _ _ _ _ _ (@pv _ 0 _ _ (by rfl) (by first | exact Or.inl rfl | exact Or.inr (Or.inl rfl) | exact Or.inr (Or.inr rfl)) (by decide) (by decide)) (@pa_cons _ _ _ _ _ (@pe_ty _ _ _ _ PyProof.Rows.boot_int rfl m_int (by decide) (by decide)) (@pa_nil _) (by rfl)) (by rfl)) (by decide) (by decide) (by rfl) (by rfl)) (@pe_one _ _ _ _ _ (@pe_chain _ _ _ _ _ _ _ _ _ _ _ _ op_le op_le (@pv _ 2 _ _ (by rfl) (by first | exact Or.inl rfl | exact Or.inr (Or.inl rfl) | exact Or.inr (Or.inr rfl)) (by decide) (by decide)) (@pv _ 0 _ _ (by rfl) (by first | exact Or.inl rfl | exact Or.inr (Or.inl rfl) | exact Or.inr (Or.inr rfl)) (by decide) (by decide)) (@pe_glob _ _ (.int 1000000000) _ _ (by rfl) m_MOST ⟨_, rfl⟩ (by decide)) (by with_unfolding_all rfl)))))))), ?_⟩
  cases k with
  | nm =>
    refine ⟨_, rfl, rfl, _, rfl, ?_⟩
    rw [decide_eq_true (show V.str Kd.nm.s = V.str "name" from rfl)]
    refine iteT ?_
    cases t with
    | s cs =>
      refine ⟨_, rfl, _, _, _, _, rfl, TyOf.str _, isi_same, _, rfl, iteT ⟨_, rfl, use_isname (Nat.le_trans (show cs.length ≤ 1000 from ok) (by decide)) fun H' g => q H' g⟩⟩
    | n i =>
      refine ⟨_, rfl, _, _, _, _, rfl, TyOf.int _, isi_int_str, _, rfl, iteF (q H (Same.refl _))⟩
  | am =>
    refine ⟨_, rfl, rfl, _, rfl, ?_⟩
    rw [decide_eq_false (show ¬ V.str Kd.am.s = V.str "name" by decide +kernel)]
    refine iteF ?_
    refine ⟨_, rfl, rfl, _, rfl, ?_⟩
    rw [decide_eq_true (show V.str Kd.am.s = V.str "amount" from rfl)]
    refine iteT ?_
    cases t with
    | s cs => exact ⟨_, rfl, _, _, _, _, rfl, TyOf.str _, isi_str_int, _, rfl, iteF (q H (Same.refl _))⟩
    | n i =>
      refine ⟨_, rfl, _, _, _, _, rfl, TyOf.int _, isi_same, _, rfl, iteT ?_⟩
      have q' : Q (.bl (decide (1 ≤ i) && decide (i ≤ 1000000000))) H := q H (Same.refl _)
      refine ⟨_, rfl, _, rfl, _, _, rfl, rfl, _, rfl, ite2 (fun c => ?_) (fun c => ?_)⟩
      · rw [c, Bool.true_and] at q'
        exact ⟨_, _, rfl, rfl, q'⟩
      · rw [Bool.eq_false_iff.mpr c, Bool.false_and] at q'
        exact q'
  | we =>
    refine ⟨_, rfl, rfl, _, rfl, ?_⟩
    rw [decide_eq_false (show ¬ V.str Kd.we.s = V.str "name" by decide +kernel)]
    refine iteF ?_
    refine ⟨_, rfl, rfl, _, rfl, ?_⟩
    rw [decide_eq_false (show ¬ V.str Kd.we.s = V.str "amount" by decide +kernel)]
    refine iteF ?_
    cases t with
    | s cs => exact ⟨_, rfl, _, _, _, _, rfl, TyOf.str _, isi_str_int, _, rfl, iteF (q H (Same.refl _))⟩
    | n i =>
      refine ⟨_, rfl, _, _, _, _, rfl, TyOf.int _, isi_same, _, rfl, iteT ?_⟩
      have q' : Q (.bl (decide (0 ≤ i) && decide (i ≤ 1000000000))) H := q H (Same.refl _)
      refine ⟨_, rfl, _, rfl, _, _, rfl, rfl, _, rfl, ite2 (fun c => ?_) (fun c => ?_)⟩
      · rw [c, Bool.true_and] at q'
        exact ⟨_, _, rfl, rfl, q'⟩
      · rw [Bool.eq_false_iff.mpr c, Bool.false_and] at q'
        exact q'
abbrev sd_sound : Stmt := top 25
abbrev N_sound : List Str := ["deed", "form", "things"]
abbrev P_sound : List Str := ["deed"]
theorem sc_sound : FnScope N_sound P_sound (defScope sd_sound) := ⟨rfl, rfl, rfl, by decide +kernel, rfl, by decide +kernel, by decide +kernel⟩
theorem ok_sound {aF aP : Addr} (F : At K mg "sound" sd_sound f fd) (D_fits : Dn P w K mg base 3 "fits" ["thing", "kind"] spFits) (m_len : mg "len" = none) (m_max : mg "max" = none) (m_all : mg "all" = none) (m_zip : mg "zip" = none) (m_FORMS : mg "FORMS" = some (.ref aF)) (m_PAIR : mg "PAIR" = some (.ref aP)) (FG : FormsG P w K aF aP) : Dn P w K mg base 4 "sound" P_sound (spSound K) := by
  refine F.ok sc_sound (fun vs H Q E h => ?_) (fun cdv A outer s H vs Q E hr h => ?_) (fun _ _ _ _ _ _ us hl => match us, hl with | [_], _ => rfl)
  · obtain ⟨d, x, th, rfl, _⟩ := h.ex
    rfl
  obtain ⟨d, x, th, rfl, hd, hl, ok, q⟩ := h.ex
  refine ⟨_, (@pss_cons _ _ _ _ _ (@ps_ifJ _ _ _ _ _ _ _ _ (@pt_cmpR _ _ _ _ _ _ _ _ op_eq (@pe_ix _ _ _ _ _ _ _ (ix_tupK K) (@pv _ 0 _ _ (by rfl) (by first | exact Or.inl rfl | exact Or.inr (Or.inl rfl) | exact Or.inr (Or.inr rfl)) (by decide) (by decide)) (@pe_int _ _ _ _) (fun _ _ => rfl)) (@pe_str _ _ _ _) (nomark _)) (@pss_one _ _ _ (@ps_set _ _ (1) _ _ _ _ sc_sound.nd rfl (Or.inl rfl) (@pe_op _ _ _ _ _ _ _ _ (op_repT K) (@pe_glob _ _ (.ref aP) _ _ (by rfl) m_PAIR rfl (by decide)) (@pe_callB _ _ _ _ _ _ _ _ _ (call_max2 rfl) (by rfl) m_max PyProof.Rows.boot_max (@pa_cons _ _ _ _ _ (@pe_int _ _ _ _) (@pa_cons _ _ _ _ _ (@pe_op _ _ _ _ _ _ _ _ op_fdivW (@pe_callB _ _ _ _ _ _ _ _ _ (call_lenK K) (by rfl) m_len PySem.boot_len (@pa_cons _ _ _ _ _ (@pv _ 0 _ _ (by rfl) (by first | exact Or.inl rfl | exact Or.inr (Or.inl rfl) | exact Or.inr (Or.inr rfl)) (by decide) (by decide)) (@pa_nil _) (by rfl)) (by decide) (by decide) (by rfl) (by rfl)) (@pe_int _ _ _ _)) (@pa_nil _) (by rfl)) (by rfl)) (by decide) (by decide) (by rfl) (by rfl))) (by rfl) (by first | exact .inl rfl | exact .inr rfl | assumption))) (@pss_one _ _ _ (@ps_if _ _ _ _ _ _ _ _ (@pt_cmp _ _ _ _ _ _ (@pc_dinS _ _ _ _ _ (@pe_ix _ _ _ _ _ _ _ (ix_tupK K) (@pv _ 0 _ _ (by rfl) (by first | exact Or.inl rfl | exact Or.inr (Or.inl rfl) | exact Or.inr (Or.inr rfl)) (by decide) (by decide)) (@pe_int _ _ _ _) (fun _ _ => rfl)) (@pe_glob _ _ (.ref aF) _ _ (by rfl) m_FORMS rfl (by decide))) (by first | exact nobehind _ (by decide) (by decide) | rfl)) (@pss_one _ _ _ (@ps_set _ _ (1) _ _ _ _ sc_sound.nd rfl (Or.inl rfl) (@pe_dgetS _ _ _ _ _ _ (@pe_glob _ _ (.ref aF) _ _ (by rfl) m_FORMS rfl (by decide)) (@pe_ix _ _ _ _ _ _ _ (ix_tupK K) (@pv _ 0 _ _ (by rfl) (by first | exact Or.inl rfl | exact Or.inr (Or.inl rfl) | exact Or.inr (Or.inr rfl)) (by decide) (by decide)) (@pe_int _ _ _ _) (fun _ _ => rfl)) (fun _ _ => rfl)) (by rfl) (by first | exact .inl rfl | exact .inr rfl | assumption))) (@pss_one _ _ _ (@ps_ret _ _ _ _ (@pe_bl _ _ _ _)))))) (@pss_cons _ _ _ _ _ (@ps_set _ _ (2) _ _ _ _ sc_sound.nd rfl (Or.inl rfl) (@pe_slice _ _ _ _ _ _ _ _ _ _ (sl_tupK K) (@pv _ 0 _ _ (by rfl) (by first | exact Or.inl rfl | exact Or.inr (Or.inl rfl) | exact Or.inr (Or.inr rfl)) (by decide) (by decide)) (@po_some _ _ _ (@pe_int _ _ _ _)) (@po_none _)) (by rfl) (by first | exact .inl rfl | exact .inr rfl | assumption)) (@pss_one _ _ _ (@ps_ret _ _ _ _ (@pe_and _ _ _ _ _ _ _ (@pe_cmpR _ _ _ _ _ _ _ _ op_eq (@pe_callB _ _ _ _ _ _ _ _ _ (call_lenK K) (by rfl) m_len PySem.boot_len (@pa_cons _ _ _ _ _ (@pv _ 2 _ _ (by rfl) (by first | exact Or.inl rfl | exact Or.inr (Or.inl rfl) | exact Or.inr (Or.inr rfl)) (by decide) (by decide)) (@pa_nil _) (by rfl)) (by decide) (by decide) (by rfl) (by rfl)) (@pe_callB _ _ _ _ _ _ _ _ _ (call_lenK K) (by rfl) m_len PySem.boot_len (@pa_cons _ _ _ _ _ (@pv _ 1 _ _ (by rfl) (by first | exact Or.inl rfl | exact Or.inr (Or.inl rfl) | exact Or.inr (Or.inr rfl)) (by decide) (by decide)) (@pa_nil _) (by rfl)) (by decide) (by decide) (by rfl) (by rfl)) (nomark _)) (@pe_one _ _ _ _ _ (@pe_callB _ _ _ _ _ _ _ _ _ (call_allK K rfl) (by rfl) m_all PyProof.Rows.boot_all (@pa_cons _ _ _ _ _ (@pe_comp _ _ _ _ _ _ ["thing", "kind"] [none, none] _ _ _ rfl (@pi_zipG _ _ _ _ K _ _ _ _ _ (by rfl) m_zip (@pa_cons _ _ _ _ _ (@pv _ 2 _ _ (by rfl) (by first | exact Or.inl rfl | exact Or.inr (Or.inl rfl) | exact Or.inr (Or.inr rfl)) (by decide) (by decide)) (@pa_cons _ _ _ _ _ (@pv _ 1 _ _ (by rfl) (by first | exact Or.inl rfl | exact Or.inr (Or.inl rfl) | exact Or.inr (Or.inr rfl)) (by decide) (by decide)) (@pa_nil _) (by rfl)) (by rfl)) (by rfl) (by rfl) (by rfl)) (fun _ _ _ _ => (@pg_tupK K _ _ _ _ (2) _ rfl (@pgs_cons _ _ _ _ _ (@pg_name _ _ (0) _ (show List.Nodup (["thing", "kind"] : List Str) from by decide +kernel) rfl (Or.inl rfl) (by first | exact .inl rfl | exact .inr rfl | assumption)) (@pgs_cons _ _ _ _ _ (@pg_name _ _ (1) _ (show List.Nodup (["thing", "kind"] : List Str) from by decide +kernel) rfl (Or.inl rfl) (by first | exact .inl rfl | exact .inr rfl | assumption)) (@pgs_nil _) (by rfl)) (by rfl)) (by rfl) (by rfl) (by rfl))) (fun _ _ _ _ => (@pe_fn _ _ _ _ _ _ _ _ _ _ _ D_fits hr (@pa_cons _ _ _ _ _ (@pv _ 0 _ _ (by rfl) (by first | exact Or.inl rfl | exact Or.inr (Or.inl rfl) | exact Or.inr (Or.inr rfl)) (by decide) (by decide)) (@pa_cons _ _ _ _ _ (@pv _ 1 _ _ (by rfl) (by first | exact Or.inl rfl | exact Or.inr (Or.inl rfl) | exact Or.inr (Or.inr rfl)) (by decide) (by decide)) (@pa_nil _) (by rfl)) (by rfl)) (by decide) (by rfl) (by decide) (by rfl) (by rfl))) rfl (by rfl) (by intro _; rfl)) (@pa_nil _) (by rfl)) (by decide) (by decide) (by rfl) (by rfl)))))))), ?_⟩
  have h0 : atI (thV (.s x :: th)) 0 = some (.str (tx x)) := atI_nat (j := 0) rfl
  have hlen : (thV (.s x :: th)).length = th.length + 1 := by unfold thV; rw [List.length_map]; rfl
  refine ⟨fun σ H1 => Same H H1 ∧ ∃ (fo : Addr) (ks : List Kd), σ = [some (.ref d), some (.ref fo), none] ∧ SqT K H1 fo ((ks.map Kd.s).map V.str) ∧ formOf (tx x) (th.length + 1) = some ks, ?_, ?_⟩
  · refine ⟨_, rfl, d, _, 0, _, rfl, rfl, hd, h0, rfl, _, rfl, ite2 (fun c => ?_) (fun c => ?_)⟩
    · have hx : tx x = "cast" := V.str.inj (of_decide_eq_true c)
      have hn : (1 : Int) ≤ (if ((((th.length + 1 : Nat) : Int)) / 2 > (1 : Int)) then (((th.length + 1 : Nat) : Int)) / 2 else 1) := by split <;> omega
      have hm : (if ((((th.length + 1 : Nat) : Int)) / 2 > (1 : Int)) then (((th.length + 1 : Nat) : Int)) / 2 else 1).toNat = max 1 ((th.length + 1) / 2) := by split <;> omega
      have hks : ∀ n, ((pairsK n).map Kd.s).map V.str = (List.replicate n [V.str "name", V.str "amount"]).flatten := fun n => by
        unfold pairsK
        rw [List.map_flatten, List.map_flatten, List.map_replicate, List.map_replicate]
        rfl
      have hfo : formOf (tx x) (th.length + 1) = some (pairsK (max 1 ((th.length + 1) / 2))) := by unfold formOf; rw [if_pos hx]
      refine ⟨_, rfl, d, _, rfl, .inr hd, ?_⟩
      rw [hlen]
      refine ⟨_, _, rfl, rfl, cdivW_lit (by decide +kernel), _, _, rfl, aP, _, _, rfl, rfl, FG.pair H, (by simp), hn, (by rw [hm, sizeLine_eq]; show 2 * _ ≤ _; omega), fun e1 => ?_, fun e1 p hp => ?_⟩
      · refine ⟨Same.refl _, aP, _, rfl, ?_, hfo⟩
        rw [hks, ← hm, e1]
        exact FG.pair H
      · refine ⟨same_new hp _, p, _, rfl, ?_, hfo⟩
        rw [hks, ← hm]
        exact SqT.of upd_same
    · have hx : ¬ tx x = "cast" := fun z => c (decide_eq_true (by rw [z]))
      have hfo : formOf (tx x) (th.length + 1) = formsOf formsL (tx x) := by unfold formOf; rw [if_neg hx]
      obtain ⟨r, hr1, hr2⟩ := FG.get (tx x)
      refine ⟨_, rfl, d, _, 0, _, rfl, rfl, hd, h0, aF, r, rfl, hr1, _, rfl, ?_⟩
      rcases hr2 with ⟨rfl, e2⟩ | ⟨a, ks, rfl, e2, e3⟩
      · refine iteF ?_
        have := q H (Same.refl _)
        unfold soundT at this
        rw [hfo, e2] at this
        exact this
      · refine iteT ?_
        exact ⟨_, rfl, d, _, 0, _, rfl, rfl, hd, h0, aF, _, rfl, hr1, Same.refl _, a, ks, rfl, e3 H, by rw [hfo, e2]⟩
  rintro σ H1 ⟨g, fo, ks, rfl, hf, hfo⟩
  have hd1 := g.tup hd
  refine ⟨_, rfl, _, rfl, d, _, rfl, hd1, ?_, fun p hp => ?_⟩
  · rintro ⟨z, _⟩
    rw [show (1 : Int) = ((1 : Nat) : Int) from rfl, HT.sIx_nat, hlen] at z
    omega
  rw [show (1 : Int) = ((1 : Nat) : Int) from rfl, cutV_from]
  have hp' : (thV (.s x :: th)).drop 1 = th.map Th.v := rfl
  rw [hp']
  have g1 := same_new hp (.tup (th.map Th.v))
  generalize hH2 : upd H1 p (.tup (th.map Th.v)) = H2 at g1
  have hth : SqT K H2 p (th.map Th.v) := SqT.of (by rw [← hH2, upd_same])
  have hf2 := g1.tup hf
  have e1 : (th.map Th.v).length = th.length := List.length_map _
  have e2 : ((ks.map Kd.s).map V.str).length = ks.length := by rw [List.length_map, List.length_map]
  have hfin : soundT x th = allFit th ks := by unfold soundT; rw [hfo]
  refine ⟨_, rfl, p, _, rfl, .inr hth, _, rfl, fo, _, rfl, .inr hf2, rfl, _, rfl, ?_⟩
  rw [e1, e2]
  refine ite2 (fun c => ?_) (fun c => ?_)
  · have hlk : th.length = ks.length := by have := V.int.inj (of_decide_eq_true c); omega
    refine ⟨_, rfl, _, rfl, _, _, _, _, _, _, rfl, .tup hth, .tup hf2, fun acc hacc => ?_⟩
    refine comp_T (K := K) (n := th.length) [0, 1] (fun i out H3 => Same H2 H3 ∧ out = (List.zipWith fitsT (th.take i) (ks.take i)).map V.bl) (by decide) (by omega) ⟨same_new hacc _, rfl⟩ (fun i out H3 hi _ hp => ⟨hp.1.tup hth, hp.1.tup hf2, by rw [e1]; exact hi, by rw [e2, ← hlk]; exact hi⟩)
      (fun out H3 _ hp => ⟨hp.1.tup hth, hp.1.tup hf2, .inl (by rw [e1]; exact Nat.le_refl _)⟩) ?_ ?_
    · rintro i x0 out H3 H4 hi hol ha ⟨g3, e⟩ ⟨r, x1, y1, hr0, rfl, rfl, f1, f2⟩
      obtain ⟨t, rfl, et⟩ := map_at f1
      obtain ⟨y2, rfl, f3⟩ := map_at f2
      obtain ⟨k2, rfl, ek⟩ := map_at (g := Kd.s) f3
      have g4 := same_new hr0 (.tup [t.v, .str k2.s])
      refine ⟨r, _, rfl, SqT.of upd_same, rfl, _, rfl, _, rfl, use_fits rfl rfl (ok t (List.mem_of_getElem? et)) fun H5 g5 => ⟨g5 _ _ (g4 _ _ ha), ((g3.trans g4).trans g5).upd_new hacc _, ?_⟩⟩
      rw [zipT_take et ek, e, List.map_append]
      rfl
    rintro out H3 hol ha ⟨g3, e⟩
    rw [List.take_length, hlk, List.take_length] at e
    refine ⟨acc, _, rfl, SqL.of (by rw [ha, e]), ?_⟩
    have := q H3 ((g.trans g1).trans g3)
    rw [hfin, show allFit th ks = (List.zipWith fitsT th ks).all id by unfold allFit; rw [decide_eq_true hlk, Bool.true_and]] at this
    exact this
  · have := q H2 (g.trans g1)
    have hne : ¬ th.length = ks.length := fun z => c (by rw [z]; exact decide_eq_true rfl)
    rw [hfin, show allFit th ks = false by unfold allFit; rw [decide_eq_false hne, Bool.false_and]] at this
    exact this
abbrev sd_thing_of : Stmt := top 28
abbrev N_thing_of : List Str := ["word", "value"]
abbrev P_thing_of : List Str := ["word"]
theorem sc_thing_of : FnScope N_thing_of P_thing_of (defScope sd_thing_of) := ⟨rfl, rfl, rfl, by decide +kernel, rfl, by decide +kernel, by decide +kernel⟩
theorem ok_thing_of (F : At K mg "thing_of" sd_thing_of f fd) (D_number : Dn P w K mg base 2 "number" ["text"] spNumber) : Dn P w K mg base 3 "thing_of" P_thing_of spThing := by
  refine F.ok sc_thing_of (fun vs H Q E h => ?_) (fun cdv A outer s H vs Q E hr h => ?_) (fun _ _ _ _ _ _ us hl => match us, hl with | [_], _ => rfl)
  · obtain ⟨cs, rfl, _⟩ := h.ex
    rfl
  obtain ⟨cs, rfl, hl, q⟩ := h.ex
  refine ⟨_, (@pss_cons _ _ _ _ _ (@ps_set _ _ (1) _ _ _ _ sc_thing_of.nd rfl (Or.inl rfl) (@pe_fn _ _ _ _ _ _ _ _ _ _ _ D_number hr (@pa_cons _ _ _ _ _ (@pv _ 0 _ _ (by rfl) (by first | exact Or.inl rfl | exact Or.inr (Or.inl rfl) | exact Or.inr (Or.inr rfl)) (by decide) (by decide)) (@pa_nil _) (by rfl)) (by decide) (by rfl) (by decide) (by rfl) (by rfl)) (by rfl) (by first | exact .inl rfl | exact .inr rfl | assumption)) (@pss_one _ _ _ (@ps_ret _ _ _ _ (@pe_ifExp _ _ _ _ _ _ _ _ (@pt_cmpR _ _ _ _ _ _ _ _ op_isN (@pv _ 1 _ _ (by rfl) (by first | exact Or.inl rfl | exact Or.inr (Or.inl rfl) | exact Or.inr (Or.inr rfl)) (by decide) (by decide)) (@pe_non _ _ _) (nomark _)) (@pv _ 0 _ _ (by rfl) (by first | exact Or.inl rfl | exact Or.inr (Or.inl rfl) | exact Or.inr (Or.inr rfl)) (by decide) (by decide)) (@pv _ 1 _ _ (by rfl) (by first | exact Or.inl rfl | exact Or.inr (Or.inl rfl) | exact Or.inr (Or.inr rfl)) (by decide) (by decide)))))), ?_⟩
  refine ⟨_, rfl, use_number hl fun H1 g1 => ?_⟩
  have q' := q H1 g1
  unfold wV at q'
  unfold numV
  cases hn : numOk cs with
  | true =>
    rw [hn, if_pos rfl] at q'
    rw [if_pos rfl]
    exact ⟨_, rfl, rfl, _, rfl, iteF ⟨_, rfl, q'⟩⟩
  | false =>
    rw [hn, if_neg Bool.false_ne_true] at q'
    rw [if_neg Bool.false_ne_true]
    exact ⟨_, rfl, rfl, _, rfl, iteT ⟨_, rfl, q'⟩⟩
abbrev sd_read : Stmt := top 27
abbrev N_read : List Str := ["text", "words", "deed"]
abbrev P_read : List Str := ["text"]
theorem sc_read : FnScope N_read P_read (defScope sd_read) := ⟨rfl, rfl, rfl, by decide +kernel, rfl, by decide +kernel, by decide +kernel⟩
theorem ok_read {C : Addr} (F : At K mg "read" sd_read f fd) (D_thing_of : Dn P w K mg base 3 "thing_of" ["word"] spThing) (D_sound : Dn P w K mg base 4 "sound" ["deed"] (spSound K)) (m_tuple : mg "tuple" = none) (oc_NoDeed : OwnExc K C) (m_NoDeed : mg "NoDeed" = some (.ref C)) : Dx P w K mg base 5 "read" P_read (spReadX C) := by
  refine F.okX sc_read (fun vs H Q E h => ?_) (fun cdv A outer s H vs Q E hr h => ?_) (fun _ _ _ _ _ _ us hl => match us, hl with | [_], _ => rfl)
  · obtain ⟨cs, x, ws, rfl, _⟩ := h.ex
    rfl
  obtain ⟨cs, x, ws, rfl, hl, hsp, q, q2⟩ := h.ex
  refine ⟨_, (@pss_cons _ _ _ _ _ (@ps_set _ _ (1) _ _ _ _ sc_read.nd rfl (Or.inl rfl) (@pe_bm _ _ _ _ _ _ _ _ _ _ _ _ PySem.F.plainAttrs_str PySem.F.slot_str_split PySem.F.type_str_split mt_split1 (@pv _ 0 _ _ (by rfl) (by first | exact Or.inl rfl | exact Or.inr (Or.inl rfl) | exact Or.inr (Or.inr rfl)) (by decide) (by decide)) (@pa_cons _ _ _ _ _ (@pe_str _ _ _ _) (@pa_nil _) (by rfl)) (by rfl) (by rfl) (by rfl) (by rfl) (by rfl)) (by rfl) (by first | exact .inl rfl | exact .inr rfl | assumption)) (@pss_cons _ _ _ _ _ (@ps_set _ _ (2) _ _ _ _ sc_read.nd rfl (Or.inl rfl) (@pe_callTy _ _ _ _ _ _ _ _ _ call_tuple_of (by rfl) m_tuple PyProof.Rows.boot_tuple (@pa_cons _ _ _ _ _ (@pe_op _ _ _ _ _ _ _ _ op_cat (@pe_slice _ _ _ _ _ _ _ _ _ _ sl_list (@pv _ 1 _ _ (by rfl) (by first | exact Or.inl rfl | exact Or.inr (Or.inl rfl) | exact Or.inr (Or.inr rfl)) (by decide) (by decide)) (@po_none _) (@po_some _ _ _ (@pe_int _ _ _ _))) (@pe_comp _ _ _ _ _ _ ["word"] [none] _ _ _ rfl (@pi_listK _ K _ _ _ (@pe_slice _ _ _ _ _ _ _ _ _ _ sl_list (@pv _ 1 _ _ (by rfl) (by first | exact Or.inl rfl | exact Or.inr (Or.inl rfl) | exact Or.inr (Or.inr rfl)) (by decide) (by decide)) (@po_some _ _ _ (@pe_int _ _ _ _)) (@po_none _)) (by rfl)) (fun _ _ _ _ => (@pg_name _ _ (0) _ (show List.Nodup (["word"] : List Str) from by decide +kernel) rfl (Or.inl rfl) (by first | exact .inl rfl | exact .inr rfl | assumption))) (fun _ _ _ _ => (@pe_fn _ _ _ _ _ _ _ _ _ _ _ D_thing_of hr (@pa_cons _ _ _ _ _ (@pv _ 0 _ _ (by rfl) (by first | exact Or.inl rfl | exact Or.inr (Or.inl rfl) | exact Or.inr (Or.inr rfl)) (by decide) (by decide)) (@pa_nil _) (by rfl)) (by decide) (by rfl) (by decide) (by rfl) (by rfl))) rfl (by rfl) (by intro _; rfl))) (@pa_nil _) (by rfl)) (by decide) (by decide) (by rfl) (by rfl)) (by rfl) (by first | exact .inl rfl | exact .inr rfl | assumption)) (@pss_cons _ _ _ _ _ (@ps_if _ _ _ _ _ _ _ _ (@pt_not _ _ _ _ (@pt_val _ _ _ (@pe_fn _ _ _ _ _ _ _ _ _ _ _ D_sound hr (@pa_cons _ _ _ _ _ (@pv _ 2 _ _ (by rfl) (by first | exact Or.inl rfl | exact Or.inr (Or.inl rfl) | exact Or.inr (Or.inr rfl)) (by decide) (by decide)) (@pa_nil _) (by rfl)) (by decide) (by rfl) (by decide) (by rfl) (by rfl)) (by intro _; rfl))) (@pss_one _ _ _ (@ps_raise _ _ _ _ _ _ _ _ _ _ _ _ _ _ _ _ _ _ _ _ _ _ _ oc_NoDeed (by rfl) m_NoDeed (by decide))) (@pss_nil _)) (@pss_one _ _ _ (@ps_ret _ _ _ _ (@pv _ 2 _ _ (by rfl) (by first | exact Or.inl rfl | exact Or.inr (Or.inl rfl) | exact Or.inr (Or.inr rfl)) (by decide) (by decide))))))), ?_⟩
  have hwl : ws.length ≤ 900 := by
    have := split_many (cs := cs) (c := 32)
    rw [hsp, List.length_cons] at this
    omega
  have hw : ∀ w ∈ ws, w.length ≤ 900 := fun w m => Nat.le_trans (split_part_len (c := 32) (by rw [hsp]; exact List.mem_cons_of_mem _ m)) hl
  refine ⟨_, rfl, rfl, cs, 32, rfl, rfl, ?_, fun pw hpw => ?_⟩
  · omega
  rw [hsp]
  generalize hH1 : upd H pw (.lst (txs (x :: ws))) = H1
  have g1 : Same H H1 := hH1 ▸ same_new hpw _
  have hpw1 : H1 pw = some (.lst (txs (x :: ws))) := by rw [← hH1, upd_same]
  clear hH1
  refine ⟨_, rfl, _, rfl, pw, _, rfl, SqL.of hpw1, fun p1 hp1 => ?_⟩
  rw [show (1 : Int) = ((1 : Nat) : Int) from rfl, cutV_to]
  generalize hH2 : upd H1 p1 (HO.lst _) = H2
  have hH2' : upd H1 p1 (.lst (txs [x])) = H2 := hH2
  have g2 : Same H1 H2 := hH2' ▸ same_new hp1 _
  have hp12 : H2 p1 = some (.lst (txs [x])) := by rw [← hH2', upd_same]
  clear hH2 hH2'
  refine ⟨_, rfl, _, rfl, pw, _, rfl, SqL.of (g2 _ _ hpw1), fun p2 hp2 => ?_⟩
  generalize hH3 : upd H2 p2 (HO.lst _) = H3
  have hH3' : upd H2 p2 (.lst (cutV (txs (x :: ws)) (some ((1 : Nat) : Int)) none)) = H3 := hH3
  have g3 : Same H2 H3 := hH3' ▸ same_new hp2 _
  have hp23 : H3 p2 = some (.lst (txs ws)) := by rw [← hH3', upd_same, cutV_from]; rfl
  clear hH3 hH3'
  have etx : (txs ws).length = ws.length := by unfold txs; rw [List.length_map]
  refine ⟨p2, rfl, ⟨_, SqL.of hp23⟩, fun acc hacc => ?_⟩
  refine comp_list (K := K) (xs := txs ws) (fun i out H' => Same H3 H' ∧ out = (ws.take i).map fun c => (wT c).v) (by rw [etx]; omega) ⟨same_new hacc _, rfl⟩ (fun i out H' _ _ hp => SqL.of (hp.1 _ _ hp23)) ?_ ?_
  · rintro i y out H' hx hol ha ⟨g, e⟩
    obtain ⟨c, rfl, ec⟩ := map_at (g := fun x => V.str (tx x)) hx
    refine ⟨_, rfl, use_thing (Nat.le_trans (hw c (List.mem_of_getElem? ec)) (by decide)) fun H5 g5 => ⟨g5 _ _ ha, (g.trans g5).upd_new hacc _, ?_⟩⟩
    rw [← wT_v, List.take_add_one, ec, e, List.map_append]
    rfl
  rintro out H' hol ha ⟨g, e⟩
  rw [etx, List.take_length] at e
  refine ⟨p1, acc, _, _, rfl, rfl, g _ _ (g3 _ _ hp12), ha, ?_, fun p3 hp3 => ?_⟩
  · rw [e, List.length_map, sizeLine_eq]; show 1 + _ ≤ _; omega
  rw [e]
  have g4 := same_new hp3 (.lst (txs [x] ++ ws.map fun c => (wT c).v))
  have eth : txs [x] ++ (ws.map fun c => (wT c).v) = thV (.s x :: ws.map wT) := by show _ = (Th.s x).v :: (ws.map wT).map Th.v; rw [List.map_map]; rfl
  refine ⟨p3, _, rfl, .inl ⟨SqL.of upd_same, fun z hz => ?_⟩⟩
  have g5 := same_new hz (.tup (txs [x] ++ ws.map fun c => (wT c).v))
  have hz5 : upd (upd H' p3 (.lst (txs [x] ++ ws.map fun c => (wT c).v))) z (.tup (txs [x] ++ ws.map fun c => (wT c).v)) z = some (.tup (thV (.s x :: ws.map wT))) := by rw [upd_same, eth]
  refine ⟨_, rfl, use_sound (SqT.of hz5) (by rw [List.length_map]; omega) (fun t ht => ?_) fun H6 g6 => ⟨_, rfl, ?_⟩⟩
  · obtain ⟨c, hc, rfl⟩ := List.mem_map.mp ht
    exact wT_ok (Nat.le_trans (hw c hc) (by decide))
  have G := g1.trans (g2.trans (g3.trans (g.trans (g4.trans (g5.trans g6)))))
  cases hs : soundT x (ws.map wT) with
  | true => exact iteF ⟨_, rfl, q hs z H6 G (g6 _ _ hz5)⟩
  | false => exact iteT fun x => q2 hs x H6 G
abbrev sd__law_draw : Stmt := top 30
abbrev N__law_draw : List Str := ["_law_script", "_law_k", "_law_j", "_law_many", "_law_cell", "_law_turn", "_law_rest", "_law_step", "_law_one", "_law_two"]
abbrev P__law_draw : List Str := ["_law_script", "_law_k", "_law_j", "_law_many"]
theorem sc__law_draw : FnScope N__law_draw P__law_draw (defScope sd__law_draw) := ⟨rfl, rfl, rfl, by decide +kernel, rfl, by decide +kernel, by decide +kernel⟩
theorem ok__law_draw (F : At K mg "_law_draw" sd__law_draw f fd) (m_len : mg "len" = none) (m_range : mg "range" = none) : Dn P w K mg base 1 "_law_draw" P__law_draw (spDraw K) := by
  refine F.ok sc__law_draw (fun vs H Q E h => ?_) (fun cdv A outer s H vs Q E hr h => ?_) (fun _ _ _ _ _ _ us hl => match us, hl with | [_, _, _, _], _ => rfl)
  · obtain ⟨a, ns, k, j, many, rfl, _⟩ := h.ex
    rfl
  obtain ⟨a, ns, k, j, many, rfl, hS, h63, hk, hj, hj2, hm, q⟩ := h.ex
  refine ⟨_, (@pss_cons _ _ _ _ _ (@ps_set _ _ (4) _ _ _ _ sc__law_draw.nd rfl (Or.inl rfl) (@pe_int _ _ _ _) (by rfl) (by first | exact .inl rfl | exact .inr rfl | assumption)) (@pss_cons _ _ _ _ _ (@ps_set _ _ (5) _ _ _ _ sc__law_draw.nd rfl (Or.inl rfl) (@pe_int _ _ _ _) (by rfl) (by first | exact .inl rfl | exact .inr rfl | assumption)) (@pss_cons _ _ _ _ _ (@ps_ifJ _ _ _ _ _ _ _ _ (@pt_cmpR _ _ _ _ _ _ _ _ op_gt (@pe_callB _ _ _ _ _ _ _ _ _ (call_lenK K) (by rfl) m_len PySem.boot_len (@pa_cons _ _ _ _ _ (@pv _ 0 _ _ (by rfl) (by first | exact Or.inl rfl | exact Or.inr (Or.inl rfl) | exact Or.inr (Or.inr rfl)) (by decide) (by decide)) (@pa_nil _) (by rfl)) (by decide) (by decide) (by rfl) (by rfl)) (@pe_int _ _ _ _) (nomark _)) (@pss_cons _ _ _ _ _ (@ps_set _ _ (4) _ _ _ _ sc__law_draw.nd rfl (Or.inl rfl) (@pe_ix _ _ _ _ _ _ _ (ix_listK K) (@pv _ 0 _ _ (by rfl) (by first | exact Or.inl rfl | exact Or.inr (Or.inl rfl) | exact Or.inr (Or.inr rfl)) (by decide) (by decide)) (@pe_op _ _ _ _ _ _ _ _ op_mod (@pv _ 1 _ _ (by rfl) (by first | exact Or.inl rfl | exact Or.inr (Or.inl rfl) | exact Or.inr (Or.inr rfl)) (by decide) (by decide)) (@pe_callB _ _ _ _ _ _ _ _ _ (call_lenK K) (by rfl) m_len PySem.boot_len (@pa_cons _ _ _ _ _ (@pv _ 0 _ _ (by rfl) (by first | exact Or.inl rfl | exact Or.inr (Or.inl rfl) | exact Or.inr (Or.inr rfl)) (by decide) (by decide)) (@pa_nil _) (by rfl)) (by decide) (by decide) (by rfl) (by rfl))) (fun _ _ => rfl)) (by rfl) (by first | exact .inl rfl | exact .inr rfl | assumption)) (@pss_one _ _ _ (@ps_set _ _ (5) _ _ _ _ sc__law_draw.nd rfl (Or.inl rfl) (@pe_op _ _ _ _ _ _ _ _ op_fdivW (@pv _ 1 _ _ (by rfl) (by first | exact Or.inl rfl | exact Or.inr (Or.inl rfl) | exact Or.inr (Or.inr rfl)) (by decide) (by decide)) (@pe_callB _ _ _ _ _ _ _ _ _ (call_lenK K) (by rfl) m_len PySem.boot_len (@pa_cons _ _ _ _ _ (@pv _ 0 _ _ (by rfl) (by first | exact Or.inl rfl | exact Or.inr (Or.inl rfl) | exact Or.inr (Or.inr rfl)) (by decide) (by decide)) (@pa_nil _) (by rfl)) (by decide) (by decide) (by rfl) (by rfl))) (by rfl) (by first | exact .inl rfl | exact .inr rfl | assumption)))) (@pss_nil _)) (@pss_cons _ _ _ _ _ (@ps_set _ _ (6) _ _ _ _ sc__law_draw.nd rfl (Or.inl rfl) (@pv _ 4 _ _ (by rfl) (by first | exact Or.inl rfl | exact Or.inr (Or.inl rfl) | exact Or.inr (Or.inr rfl)) (by decide) (by decide)) (by rfl) (by first | exact .inl rfl | exact .inr rfl | assumption)) (@pss_cons _ _ _ _ _ (@ps_for _ _ _ _ _ _ _ _ PassesOwn.never rfl (@pi_range1 _ _ _ _ _ _ (by rfl) m_range (@pa_cons _ _ _ _ _ (@pv _ 2 _ _ (by rfl) (by first | exact Or.inl rfl | exact Or.inr (Or.inl rfl) | exact Or.inr (Or.inr rfl)) (by decide) (by decide)) (@pa_nil _) (by rfl)) (by rfl)) (@pg_name _ _ (7) _ sc__law_draw.nd rfl (Or.inl rfl) (by first | exact .inl rfl | exact .inr rfl | assumption)) (@pss_one _ _ _ (@ps_set _ _ (6) _ _ _ _ sc__law_draw.nd rfl (Or.inl rfl) (@pe_op _ _ _ _ _ _ _ _ op_fdivW (@pv _ 6 _ _ (by rfl) (by first | exact Or.inl rfl | exact Or.inr (Or.inl rfl) | exact Or.inr (Or.inr rfl)) (by decide) (by decide)) (@pe_op _ _ _ _ _ _ _ _ op_pow (@pe_int _ _ _ _) (@pe_int _ _ _ _))) (by rfl) (by first | exact .inl rfl | exact .inr rfl | assumption))) (by intro _; rfl)) (@pss_cons _ _ _ _ _ (@ps_if _ _ _ _ _ _ _ _ (@pt_pure _ _ _ (PW.pt (@pw_and _ _ _ _ _ _ _ (@pt_cmpR _ _ _ _ _ _ _ _ op_eq (@pv _ 5 _ _ (by rfl) (by first | exact Or.inl rfl | exact Or.inr (Or.inl rfl) | exact Or.inr (Or.inr rfl)) (by decide) (by decide)) (@pe_int _ _ _ _) (nomark _)) (@pw_and _ _ _ _ _ _ _ (@pt_cmpR _ _ _ _ _ _ _ _ op_ge (@pv _ 4 _ _ (by rfl) (by first | exact Or.inl rfl | exact Or.inr (Or.inl rfl) | exact Or.inr (Or.inr rfl)) (by decide) (by decide)) (@pe_op _ _ _ _ _ _ _ _ op_pow (@pe_int _ _ _ _) (@pe_int _ _ _ _)) (nomark _)) (@pw_and1 _ _ _ _ (@pt_cmpR _ _ _ _ _ _ _ _ op_gt (@pv _ 6 _ _ (by rfl) (by first | exact Or.inl rfl | exact Or.inr (Or.inl rfl) | exact Or.inr (Or.inr rfl)) (by decide) (by decide)) (@pe_int _ _ _ _) (nomark _))))))) (@pss_one _ _ _ (@ps_ret _ _ _ _ (@pe_op _ _ _ _ _ _ _ _ op_mod (@pe_op _ _ _ _ _ _ _ _ op_mod (@pv _ 6 _ _ (by rfl) (by first | exact Or.inl rfl | exact Or.inr (Or.inl rfl) | exact Or.inr (Or.inr rfl)) (by decide) (by decide)) (@pe_op _ _ _ _ _ _ _ _ op_pow (@pe_int _ _ _ _) (@pe_int _ _ _ _))) (@pv _ 3 _ _ (by rfl) (by first | exact Or.inl rfl | exact Or.inr (Or.inl rfl) | exact Or.inr (Or.inr rfl)) (by decide) (by decide))))) (@pss_nil _)) (@pss_cons _ _ _ _ _ (@ps_set _ _ (8) _ _ _ _ sc__law_draw.nd rfl (Or.inl rfl) (@pe_op _ _ _ _ _ _ _ _ op_mod (@pe_op _ _ _ _ _ _ _ _ op_add (@pe_op _ _ _ _ _ _ _ _ op_add (@pe_op _ _ _ _ _ _ _ _ op_add (@pe_op _ _ _ _ _ _ _ _ op_mul (@pv _ 4 _ _ (by rfl) (by first | exact Or.inl rfl | exact Or.inr (Or.inl rfl) | exact Or.inr (Or.inr rfl)) (by decide) (by decide)) (@pe_int _ _ _ _)) (@pe_op _ _ _ _ _ _ _ _ op_mul (@pv _ 1 _ _ (by rfl) (by first | exact Or.inl rfl | exact Or.inr (Or.inl rfl) | exact Or.inr (Or.inr rfl)) (by decide) (by decide)) (@pe_int _ _ _ _))) (@pe_op _ _ _ _ _ _ _ _ op_mul (@pv _ 2 _ _ (by rfl) (by first | exact Or.inl rfl | exact Or.inr (Or.inl rfl) | exact Or.inr (Or.inr rfl)) (by decide) (by decide)) (@pe_int _ _ _ _))) (@pe_int _ _ _ _)) (@pe_int _ _ _ _)) (by rfl) (by first | exact .inl rfl | exact .inr rfl | assumption)) (@pss_cons _ _ _ _ _ (@ps_set _ _ (9) _ _ _ _ sc__law_draw.nd rfl (Or.inl rfl) (@pe_op _ _ _ _ _ _ _ _ op_mod (@pe_op _ _ _ _ _ _ _ _ op_add (@pe_op _ _ _ _ _ _ _ _ op_mul (@pv _ 8 _ _ (by rfl) (by first | exact Or.inl rfl | exact Or.inr (Or.inl rfl) | exact Or.inr (Or.inr rfl)) (by decide) (by decide)) (@pe_int _ _ _ _)) (@pe_op _ _ _ _ _ _ _ _ op_fdivW (@pv _ 4 _ _ (by rfl) (by first | exact Or.inl rfl | exact Or.inr (Or.inl rfl) | exact Or.inr (Or.inr rfl)) (by decide) (by decide)) (@pe_int _ _ _ _))) (@pe_int _ _ _ _)) (by rfl) (by first | exact .inl rfl | exact .inr rfl | assumption)) (@pss_cons _ _ _ _ _ (@ps_set _ _ (9) _ _ _ _ sc__law_draw.nd rfl (Or.inl rfl) (@pe_op _ _ _ _ _ _ _ _ op_mod (@pe_op _ _ _ _ _ _ _ _ op_add (@pe_op _ _ _ _ _ _ _ _ op_mul (@pv _ 9 _ _ (by rfl) (by first | exact Or.inl rfl | exact Or.inr (Or.inl rfl) | exact Or.inr (Or.inr rfl)) (by decide) (by decide)) (@pe_op _ _ _ _ _ _ _ _ op_add (@pe_op _ _ _ _ _ _ _ _ op_mod (@pv _ 8 _ _ (by rfl) (by first | exact Or.inl rfl | exact Or.inr (Or.inl rfl) | exact Or.inr (Or.inr rfl)) (by decide) (by decide)) (@pe_int _ _ _ _)) (@pe_int _ _ _ _))) (@pv _ 2 _ _ (by rfl) (by first | exact Or.inl rfl | exact Or.inr (Or.inl rfl) | exact Or.inr (Or.inr rfl)) (by decide) (by decide))) (@pe_int _ _ _ _)) (by rfl) (by first | exact .inl rfl | exact .inr rfl | assumption)) (@pss_one _ _ _ (@ps_ret _ _ _ _ (@pe_op _ _ _ _ _ _ _ _ op_mod (@pe_op _ _ _ _ _ _ _ _ op_mod (@pe_op _ _ _ _ _ _ _ _ op_add (@pe_op _ _ _ _ _ _ _ _ op_add (@pe_op _ _ _ _ _ _ _ _ op_mul (@pv _ 8 _ _ (by rfl) (by first | exact Or.inl rfl | exact Or.inr (Or.inl rfl) | exact Or.inr (Or.inr rfl)) (by decide) (by decide)) (@pe_int _ _ _ _)) (@pe_op _ _ _ _ _ _ _ _ op_mul (@pv _ 9 _ _ (by rfl) (by first | exact Or.inl rfl | exact Or.inr (Or.inl rfl) | exact Or.inr (Or.inr rfl)) (by decide) (by decide)) (@pe_int _ _ _ _))) (@pe_op _ _ _ _ _ _ _ _ op_fdivW (@pv _ 9 _ _ (by rfl) (by first | exact Or.inl rfl | exact Or.inr (Or.inl rfl) | exact Or.inr (Or.inr rfl)) (by decide) (by decide)) (@pe_int _ _ _ _))) (@pe_int _ _ _ _)) (@pv _ 3 _ _ (by rfl) (by first | exact Or.inl rfl | exact Or.inr (Or.inl rfl) | exact Or.inr (Or.inr rfl)) (by decide) (by decide)))))))))))))), ?_⟩
  have hl : (ns.map V.int).length = ns.length := List.length_map _
  refine ⟨fun σ H' => H' = H ∧ σ = [some (.ref a), some (.int k), some (.int j), some (.int many), some (.int (Jm.cellOf ns k)), some (.int (Jm.turnOf ns k)), none, none, none, none], ?_, ?_⟩
  · refine ⟨_, rfl, a, _, rfl, .inl hS, _, _, rfl, rfl, _, rfl, ?_⟩
    refine ite2 (fun c => ?_) (fun c => ?_)
    · have c' : 0 < (((ns.map V.int).length : Nat) : Int) := of_decide_eq_true c
      rw [hl] at c'
      have i0 : 0 ≤ k % (ns.length : Int) := Int.emod_nonneg _ (by omega)
      have i1 : k % (ns.length : Int) < (ns.length : Int) := Int.emod_lt_of_pos _ c'
      refine ⟨_, rfl, _, rfl, _, rfl, a, _, rfl, .inl hS, _, _, rfl, rfl, (by show (0 : Int) < _; rw [hl]; exact c'), a, _, _, .int (ns.getD (k % ns.length).toNat 0), rfl, rfl, hS, ?_, ?_⟩
      · rw [hl]
        exact atI_map i0 i1
      refine ⟨_, rfl, _, rfl, a, _, rfl, .inl hS, _, _, rfl, rfl, cdivW_of (n := 10) (by rw [hl]; exact c') (by rw [hl]; omega) (by decide), rfl, ?_⟩
      unfold Jm.cellOf Jm.turnOf
      rw [if_pos c', if_pos c', hl]
      rfl
    · have c' : ¬ 0 < (((ns.map V.int).length : Nat) : Int) := of_decide_eq_false (Bool.eq_false_iff.mpr c)
      rw [hl] at c'
      refine ⟨rfl, ?_⟩
      unfold Jm.cellOf Jm.turnOf
      rw [if_neg c', if_neg c']
      rfl
  rintro σ H' ⟨rfl, rfl⟩
  generalize ec : Jm.cellOf ns k = cell at *
  generalize et : Jm.turnOf ns k = turn at *
  refine ⟨_, rfl, _, rfl, j, rfl, by omega, hj2, ?_⟩
  refine for_range (lo := 0) (n := j.toNat) (fun i σ H'' => H'' = H' ∧ ∃ st : Option V, σ = [some (.ref a), some (.int k), some (.int j), some (.int many), some (.int cell), some (.int turn), some (.int (Jm.restN cell i)), st, none, none]) ⟨rfl, none, rfl⟩ ?_ ?_
  · rintro i σ H'' hi ⟨rfl, st, rfl⟩
    refine ⟨_, rfl, _, _, rfl, rfl, ⟨by decide, by decide, by decide⟩, _, _, rfl, rfl, cdivW_lit (by decide +kernel), rfl, ?_⟩
    exact ⟨_, rfl⟩
  rintro σ H'' ⟨rfl, st, rfl⟩
  have full : Q (.int (Jm.draw ns k j many)) H'' := q
  unfold Jm.draw at full
  rw [ec, et] at full
  generalize er : Jm.restN cell j.toNat = rest at *
  refine ⟨decide (turn = 0 ∧ 1000000000000000000 ≤ cell ∧ 0 < rest), ?_, ?_⟩
  · refine ⟨_, rfl, rfl, _, rfl, ?_⟩
    by_cases h1 : turn = 0
    · rw [decide_eq_true (by rw [h1] : V.int turn = V.int 0)]
      refine iteT ⟨_, rfl, _, _, rfl, rfl, ⟨by decide, by decide, by decide⟩, _, _, rfl, rfl, _, rfl, ?_⟩
      by_cases h2 : 1000000000000000000 ≤ cell
      · rw [decide_eq_true (show (10 : Int) ^ (18 : Int).toNat ≤ cell from h2)]
        refine iteT ⟨_, rfl, _, _, rfl, rfl, _, rfl, ?_, rfl⟩
        by_cases h3 : 0 < rest
        · rw [decide_eq_true h3, decide_eq_true ⟨h1, h2, h3⟩]
        · rw [decide_eq_false h3, decide_eq_false fun z => h3 z.2.2]
      · rw [decide_eq_false (show ¬ (10 : Int) ^ (18 : Int).toNat ≤ cell from h2)]
        exact iteF ⟨(decide_eq_false fun z => h2 z.2.1).symm, rfl⟩
    · rw [decide_eq_false (fun z => h1 (V.int.inj z))]
      exact iteF ⟨(decide_eq_false fun z => h1 z.1).symm, rfl⟩
  by_cases h : turn = 0 ∧ 1000000000000000000 ≤ cell ∧ 0 < rest
  · rw [decide_eq_true h]
    rw [if_pos h] at full
    refine iteT ⟨_, rfl, _, _, rfl, rfl, ⟨by decide, by decide, by decide⟩, _, _, rfl, rfl, (by show (0 : Int) < _; decide), _, rfl, _, _, rfl, rfl, hm, ?_⟩
    exact full
  · rw [decide_eq_false h]
    rw [if_neg h] at full
    refine iteF ?_
    refine ⟨_, rfl, _, _, rfl, rfl, .inr ⟨by decide, by decide⟩, _, rfl, _, _, rfl, rfl, .inr ⟨by decide, by decide⟩, _, _, rfl, rfl, _, rfl, _, _, rfl, rfl, .inr ⟨by decide, by decide⟩, _, _, rfl, rfl, _, _, rfl, rfl, _, _, rfl, rfl, (by show (0 : Int) < _; decide), ?_⟩
    refine ⟨_, rfl, _, _, rfl, rfl, .inr ⟨by decide, by decide⟩, _, rfl, _, _, rfl, rfl, cdivW_lit (by decide +kernel), _, _, rfl, rfl, _, _, rfl, rfl, (by show (0 : Int) < _; decide), ?_⟩
    unfold Jm.mixed at full
    dsimp only at full ⊢
    generalize e1 : (cell * 7919 + k * 104729 + j * 1299709 + 31) % 1000000007 = one at *
    generalize e2 : (one * 48271 + cell / 1009) % 998244353 = two at *
    have b1 : 0 ≤ one % 9973 := Int.emod_nonneg _ (by decide)
    have b2 : one % 9973 < 9973 := Int.emod_lt_of_pos _ (by decide)
    refine ⟨_, rfl, _, rfl, _, _, rfl, rfl, (by show (0 : Int) < _; decide), _, _, rfl, rfl, _, _, rfl, rfl, .inr ⟨by omega, by omega⟩, _, rfl, _, _, rfl, rfl, _, _, rfl, rfl, (by show (0 : Int) < _; decide), ?_⟩
    refine ⟨_, rfl, _, _, rfl, rfl, .inr ⟨by decide, by decide⟩, _, rfl, _, _, rfl, rfl, .inr ⟨by decide, by decide⟩, _, _, rfl, rfl, _, rfl, _, _, rfl, rfl, cdivW_lit (by decide +kernel), _, _, rfl, rfl, _, _, rfl, rfl, (by show (0 : Int) < _; decide), _, rfl, _, _, rfl, rfl, hm, ?_⟩
    exact full
abbrev sd__law_name : Stmt := top 31
abbrev N__law_name : List Str := ["_law_code", "_law_size", "_law_word", "_law_at"]
abbrev P__law_name : List Str := ["_law_code", "_law_size"]
theorem sc__law_name : FnScope N__law_name P__law_name (defScope sd__law_name) := ⟨rfl, rfl, rfl, by decide +kernel, rfl, by decide +kernel, by decide +kernel⟩
theorem ok__law_name (F : At K mg "_law_name" sd__law_name f fd) (m_range : mg "range" = none) : Dn P w K mg base 1 "_law_name" P__law_name spName' := by
  refine F.ok sc__law_name (fun vs H Q E h => ?_) (fun cdv A outer s H vs Q E hr h => ?_) (fun _ _ _ _ _ _ us hl => match us, hl with | [_, _], _ => rfl)
  · obtain ⟨c, n, rfl, _⟩ := h.ex
    rfl
  obtain ⟨c, n, rfl, hc, hn, q⟩ := h.ex
  refine ⟨_, (@pss_cons _ _ _ _ _ (@ps_set _ _ (2) _ _ _ _ sc__law_name.nd rfl (Or.inl rfl) (@pe_str _ _ _ _) (by rfl) (by first | exact .inl rfl | exact .inr rfl | assumption)) (@pss_cons _ _ _ _ _ (@ps_for _ _ _ _ _ _ _ _ PassesOwn.never rfl (@pi_range1 _ _ _ _ _ _ (by rfl) m_range (@pa_cons _ _ _ _ _ (@pv _ 1 _ _ (by rfl) (by first | exact Or.inl rfl | exact Or.inr (Or.inl rfl) | exact Or.inr (Or.inr rfl)) (by decide) (by decide)) (@pa_nil _) (by rfl)) (by rfl)) (@pg_name _ _ (3) _ sc__law_name.nd rfl (Or.inl rfl) (by first | exact .inl rfl | exact .inr rfl | assumption)) (@pss_cons _ _ _ _ _ (@ps_set _ _ (2) _ _ _ _ sc__law_name.nd rfl (Or.inl rfl) (@pe_op _ _ _ _ _ _ _ _ op_add_str (@pv _ 2 _ _ (by rfl) (by first | exact Or.inl rfl | exact Or.inr (Or.inl rfl) | exact Or.inr (Or.inr rfl)) (by decide) (by decide)) (@pe_ix _ _ _ _ _ _ _ ix_str (@pe_str _ _ _ _) (@pe_op _ _ _ _ _ _ _ _ op_mod (@pv _ 0 _ _ (by rfl) (by first | exact Or.inl rfl | exact Or.inr (Or.inl rfl) | exact Or.inr (Or.inr rfl)) (by decide) (by decide)) (@pe_int _ _ _ _)) (fun _ _ => rfl))) (by rfl) (by first | exact .inl rfl | exact .inr rfl | assumption)) (@pss_one _ _ _ (@ps_set _ _ (0) _ _ _ _ sc__law_name.nd rfl (Or.inl rfl) (@pe_op _ _ _ _ _ _ _ _ op_fdivW (@pv _ 0 _ _ (by rfl) (by first | exact Or.inl rfl | exact Or.inr (Or.inl rfl) | exact Or.inr (Or.inr rfl)) (by decide) (by decide)) (@pe_int _ _ _ _)) (by rfl) (by first | exact .inl rfl | exact .inr rfl | assumption)))) (by intro _; rfl)) (@pss_one _ _ _ (@ps_ret _ _ _ _ (@pv _ 2 _ _ (by rfl) (by first | exact Or.inl rfl | exact Or.inr (Or.inl rfl) | exact Or.inr (Or.inr rfl)) (by decide) (by decide)))))), ?_⟩
  refine ⟨_, rfl, _, rfl, by omega, by omega, ?_⟩
  refine for_range (lo := 0) (n := (n : Int).toNat) (fun i σ H' => H' = H ∧ ∃ (s1 : Option V), σ = [some (.int (c / 26 ^ i)), some (.int n), some (.str (tx (nmL c i))), s1]) ⟨rfl, none, by rw [Int.pow_zero, Int.ediv_one]; rfl⟩ ?_ ?_
  · rintro i σ H' hi ⟨rfl, s1, rfl⟩
    have hp : (0 : Int) < 26 ^ i := Int.pow_pos (by decide)
    have hd0 : 0 ≤ c / 26 ^ i := Int.ediv_nonneg hc (Int.le_of_lt hp)
    have hm0 : 0 ≤ c / 26 ^ i % 26 := Int.emod_nonneg _ (by decide)
    have hm1 : c / 26 ^ i % 26 < 26 := Int.emod_lt_of_pos _ (by decide)
    refine ⟨_, rfl, _, rfl, _, _, rfl, rfl, (by show (0 : Int) < 26; decide), _, _, _, rfl, rfl, (by decide +kernel), letter_at hm0 hm1, ?_⟩
    refine ⟨_, _, rfl, rfl, ?_, ?_⟩
    · rw [tx_length, nmL_length]
      show i + 1 ≤ sizeLine
      exact Nat.le_of_lt (small1000 (by omega))
    refine ⟨_, rfl, _, _, rfl, rfl, cdivW_sz (by decide) (sz_lit (by decide +kernel)), rfl, some (.int ((0 : Int) + (i : Int))), ?_⟩
    have e1 : c / 26 ^ i / 26 = c / 26 ^ (i + 1) := by rw [Int.ediv_ediv_of_nonneg (Int.le_of_lt hp), Int.pow_succ]
    have e2 : (tx (nmL c i) ++ tx [97 + (c / 26 ^ i % 26).toNat] : Str) = tx (nmL c (i + 1)) := by rw [tx_cat, nmL_succ]
    rw [← e1, ← e2]
    rfl
  rintro σ H' ⟨rfl, s1, rfl⟩
  refine ⟨_, rfl, ?_⟩
  rw [Int.toNat_natCast]
  exact q
abbrev sd__law_names : Stmt := top 32
abbrev N__law_names : List Str := ["_law_script", "_law_k", "_law_many", "_law_alike", "_law_size", "_law_first", "_law_shift", "_law_at", "_law_names_here", "_law_code"]
abbrev P__law_names : List Str := ["_law_script", "_law_k", "_law_many"]
theorem sc__law_names : FnScope N__law_names P__law_names (defScope sd__law_names) := ⟨rfl, rfl, rfl, by decide +kernel, rfl, by decide +kernel, by decide +kernel⟩
theorem ok__law_names (F : At K mg "_law_names" sd__law_names f fd) (D__law_draw : Dn P w K mg base 1 "_law_draw" ["_law_script", "_law_k", "_law_j", "_law_many"] (spDraw K)) (D__law_name : Dn P w K mg base 1 "_law_name" ["_law_code", "_law_size"] spName') (m_range : mg "range" = none) : Dn P w K mg base 2 "_law_names" P__law_names (spNames K) := by
  refine F.ok sc__law_names (fun vs H Q E h => ?_) (fun cdv A outer s H vs Q E hr h => ?_) (fun _ _ _ _ _ _ us hl => match us, hl with | [_, _, _], _ => rfl)
  · obtain ⟨a, ms, k, many, rfl, _⟩ := h.ex
    rfl
  obtain ⟨a, ms, k, many, rfl, hS, h63, hk, hm, q⟩ := h.ex
  refine ⟨_, (@pss_cons _ _ _ _ _ (@ps_set _ _ (3) _ _ _ _ sc__law_names.nd rfl (Or.inl rfl) (@pe_cmpR _ _ _ _ _ _ _ _ op_eq (@pe_fn _ _ _ _ _ _ _ _ _ _ _ D__law_draw hr (@pa_cons _ _ _ _ _ (@pv _ 0 _ _ (by rfl) (by first | exact Or.inl rfl | exact Or.inr (Or.inl rfl) | exact Or.inr (Or.inr rfl)) (by decide) (by decide)) (@pa_cons _ _ _ _ _ (@pv _ 1 _ _ (by rfl) (by first | exact Or.inl rfl | exact Or.inr (Or.inl rfl) | exact Or.inr (Or.inr rfl)) (by decide) (by decide)) (@pa_cons _ _ _ _ _ (@pe_int _ _ _ _) (@pa_cons _ _ _ _ _ (@pe_int _ _ _ _) (@pa_nil _) (by rfl)) (by rfl)) (by rfl)) (by rfl)) (by decide) (by rfl) (by decide) (by rfl) (by rfl)) (@pe_int _ _ _ _) (nomark _)) (by rfl) (by first | exact .inl rfl | exact .inr rfl | assumption)) (@pss_cons _ _ _ _ _ (@ps_set _ _ (4) _ _ _ _ sc__law_names.nd rfl (Or.inl rfl) (@pe_op _ _ _ _ _ _ _ _ op_add (@pe_int _ _ _ _) (@pe_fn _ _ _ _ _ _ _ _ _ _ _ D__law_draw hr (@pa_cons _ _ _ _ _ (@pv _ 0 _ _ (by rfl) (by first | exact Or.inl rfl | exact Or.inr (Or.inl rfl) | exact Or.inr (Or.inr rfl)) (by decide) (by decide)) (@pa_cons _ _ _ _ _ (@pv _ 1 _ _ (by rfl) (by first | exact Or.inl rfl | exact Or.inr (Or.inl rfl) | exact Or.inr (Or.inr rfl)) (by decide) (by decide)) (@pa_cons _ _ _ _ _ (@pe_int _ _ _ _) (@pa_cons _ _ _ _ _ (@pe_int _ _ _ _) (@pa_nil _) (by rfl)) (by rfl)) (by rfl)) (by rfl)) (by decide) (by rfl) (by decide) (by rfl) (by rfl))) (by rfl) (by first | exact .inl rfl | exact .inr rfl | assumption)) (@pss_cons _ _ _ _ _ (@ps_set _ _ (5) _ _ _ _ sc__law_names.nd rfl (Or.inl rfl) (@pe_fn _ _ _ _ _ _ _ _ _ _ _ D__law_draw hr (@pa_cons _ _ _ _ _ (@pv _ 0 _ _ (by rfl) (by first | exact Or.inl rfl | exact Or.inr (Or.inl rfl) | exact Or.inr (Or.inr rfl)) (by decide) (by decide)) (@pa_cons _ _ _ _ _ (@pv _ 1 _ _ (by rfl) (by first | exact Or.inl rfl | exact Or.inr (Or.inl rfl) | exact Or.inr (Or.inr rfl)) (by decide) (by decide)) (@pa_cons _ _ _ _ _ (@pe_int _ _ _ _) (@pa_cons _ _ _ _ _ (@pe_op _ _ _ _ _ _ _ _ op_pow (@pe_int _ _ _ _) (@pe_int _ _ _ _)) (@pa_nil _) (by rfl)) (by rfl)) (by rfl)) (by rfl)) (by decide) (by rfl) (by decide) (by rfl) (by rfl)) (by rfl) (by first | exact .inl rfl | exact .inr rfl | assumption)) (@pss_cons _ _ _ _ _ (@ps_set _ _ (6) _ _ _ _ sc__law_names.nd rfl (Or.inl rfl) (@pe_int _ _ _ _) (by rfl) (by first | exact .inl rfl | exact .inr rfl | assumption)) (@pss_cons _ _ _ _ _ (@ps_ifJ _ _ _ _ _ _ _ _ (@pt_val _ _ _ (@pv _ 3 _ _ (by rfl) (by first | exact Or.inl rfl | exact Or.inr (Or.inl rfl) | exact Or.inr (Or.inr rfl)) (by decide) (by decide)) (by intro _; rfl)) (@pss_one _ _ _ (@ps_for _ _ _ _ _ _ _ _ PassesOwn.never rfl (@pi_range1 _ _ _ _ _ _ (by rfl) m_range (@pa_cons _ _ _ _ _ (@pe_fn _ _ _ _ _ _ _ _ _ _ _ D__law_draw hr (@pa_cons _ _ _ _ _ (@pv _ 0 _ _ (by rfl) (by first | exact Or.inl rfl | exact Or.inr (Or.inl rfl) | exact Or.inr (Or.inr rfl)) (by decide) (by decide)) (@pa_cons _ _ _ _ _ (@pv _ 1 _ _ (by rfl) (by first | exact Or.inl rfl | exact Or.inr (Or.inl rfl) | exact Or.inr (Or.inr rfl)) (by decide) (by decide)) (@pa_cons _ _ _ _ _ (@pe_int _ _ _ _) (@pa_cons _ _ _ _ _ (@pv _ 4 _ _ (by rfl) (by first | exact Or.inl rfl | exact Or.inr (Or.inl rfl) | exact Or.inr (Or.inr rfl)) (by decide) (by decide)) (@pa_nil _) (by rfl)) (by rfl)) (by rfl)) (by rfl)) (by decide) (by rfl) (by decide) (by rfl) (by rfl)) (@pa_nil _) (by rfl)) (by rfl)) (@pg_name _ _ (7) _ sc__law_names.nd rfl (Or.inl rfl) (by first | exact .inl rfl | exact .inr rfl | assumption)) (@pss_one _ _ _ (@ps_set _ _ (6) _ _ _ _ sc__law_names.nd rfl (Or.inl rfl) (@pe_op _ _ _ _ _ _ _ _ op_mul (@pv _ 6 _ _ (by rfl) (by first | exact Or.inl rfl | exact Or.inr (Or.inl rfl) | exact Or.inr (Or.inr rfl)) (by decide) (by decide)) (@pe_int _ _ _ _)) (by rfl) (by first | exact .inl rfl | exact .inr rfl | assumption))) (by intro _; rfl))) (@pss_nil _)) (@pss_cons _ _ _ _ _ (@ps_set _ _ (8) _ _ _ _ sc__law_names.nd rfl (Or.inl rfl) (@pe_lst _ _ _ _ (@pa_nil _)) (by rfl) (by first | exact .inl rfl | exact .inr rfl | assumption)) (@pss_cons _ _ _ _ _ (@ps_for _ _ _ _ _ _ _ _ PassesOwn.never rfl (@pi_range1 _ _ _ _ _ _ (by rfl) m_range (@pa_cons _ _ _ _ _ (@pv _ 2 _ _ (by rfl) (by first | exact Or.inl rfl | exact Or.inr (Or.inl rfl) | exact Or.inr (Or.inr rfl)) (by decide) (by decide)) (@pa_nil _) (by rfl)) (by rfl)) (@pg_name _ _ (7) _ sc__law_names.nd rfl (Or.inl rfl) (by first | exact .inl rfl | exact .inr rfl | assumption)) (@pss_cons _ _ _ _ _ (@ps_set _ _ (9) _ _ _ _ sc__law_names.nd rfl (Or.inl rfl) (@pe_op _ _ _ _ _ _ _ _ op_add (@pv _ 5 _ _ (by rfl) (by first | exact Or.inl rfl | exact Or.inr (Or.inl rfl) | exact Or.inr (Or.inr rfl)) (by decide) (by decide)) (@pe_op _ _ _ _ _ _ _ _ op_mul (@pv _ 6 _ _ (by rfl) (by first | exact Or.inl rfl | exact Or.inr (Or.inl rfl) | exact Or.inr (Or.inr rfl)) (by decide) (by decide)) (@pe_fn _ _ _ _ _ _ _ _ _ _ _ D__law_draw hr (@pa_cons _ _ _ _ _ (@pv _ 0 _ _ (by rfl) (by first | exact Or.inl rfl | exact Or.inr (Or.inl rfl) | exact Or.inr (Or.inr rfl)) (by decide) (by decide)) (@pa_cons _ _ _ _ _ (@pv _ 1 _ _ (by rfl) (by first | exact Or.inl rfl | exact Or.inr (Or.inl rfl) | exact Or.inr (Or.inr rfl)) (by decide) (by decide)) (@pa_cons _ _ _ _ _ (@pe_op _ _ _ _ _ _ _ _ op_add (@pe_int _ _ _ _) (@pe_op _ _ _ _ _ _ _ _ op_mul (@pe_int _ _ _ _) (@pv _ 7 _ _ (by rfl) (by first | exact Or.inl rfl | exact Or.inr (Or.inl rfl) | exact Or.inr (Or.inr rfl)) (by decide) (by decide)))) (@pa_cons _ _ _ _ _ (@pe_int _ _ _ _) (@pa_nil _) (by rfl)) (by rfl)) (by rfl)) (by rfl)) (by decide) (by rfl) (by decide) (by rfl) (by rfl)))) (by rfl) (by first | exact .inl rfl | exact .inr rfl | assumption)) (@pss_cons _ _ _ _ _ (@ps_ifJ _ _ _ _ _ _ _ _ (@pt_not _ _ _ _ (@pt_val _ _ _ (@pv _ 3 _ _ (by rfl) (by first | exact Or.inl rfl | exact Or.inr (Or.inl rfl) | exact Or.inr (Or.inr rfl)) (by decide) (by decide)) (by intro _; rfl))) (@pss_cons _ _ _ _ _ (@ps_set _ _ (4) _ _ _ _ sc__law_names.nd rfl (Or.inl rfl) (@pe_op _ _ _ _ _ _ _ _ op_add (@pe_int _ _ _ _) (@pe_fn _ _ _ _ _ _ _ _ _ _ _ D__law_draw hr (@pa_cons _ _ _ _ _ (@pv _ 0 _ _ (by rfl) (by first | exact Or.inl rfl | exact Or.inr (Or.inl rfl) | exact Or.inr (Or.inr rfl)) (by decide) (by decide)) (@pa_cons _ _ _ _ _ (@pv _ 1 _ _ (by rfl) (by first | exact Or.inl rfl | exact Or.inr (Or.inl rfl) | exact Or.inr (Or.inr rfl)) (by decide) (by decide)) (@pa_cons _ _ _ _ _ (@pe_op _ _ _ _ _ _ _ _ op_add (@pe_int _ _ _ _) (@pe_op _ _ _ _ _ _ _ _ op_mul (@pe_int _ _ _ _) (@pv _ 7 _ _ (by rfl) (by first | exact Or.inl rfl | exact Or.inr (Or.inl rfl) | exact Or.inr (Or.inr rfl)) (by decide) (by decide)))) (@pa_cons _ _ _ _ _ (@pe_int _ _ _ _) (@pa_nil _) (by rfl)) (by rfl)) (by rfl)) (by rfl)) (by decide) (by rfl) (by decide) (by rfl) (by rfl))) (by rfl) (by first | exact .inl rfl | exact .inr rfl | assumption)) (@pss_one _ _ _ (@ps_set _ _ (9) _ _ _ _ sc__law_names.nd rfl (Or.inl rfl) (@pe_fn _ _ _ _ _ _ _ _ _ _ _ D__law_draw hr (@pa_cons _ _ _ _ _ (@pv _ 0 _ _ (by rfl) (by first | exact Or.inl rfl | exact Or.inr (Or.inl rfl) | exact Or.inr (Or.inr rfl)) (by decide) (by decide)) (@pa_cons _ _ _ _ _ (@pv _ 1 _ _ (by rfl) (by first | exact Or.inl rfl | exact Or.inr (Or.inl rfl) | exact Or.inr (Or.inr rfl)) (by decide) (by decide)) (@pa_cons _ _ _ _ _ (@pe_op _ _ _ _ _ _ _ _ op_add (@pe_int _ _ _ _) (@pe_op _ _ _ _ _ _ _ _ op_mul (@pe_int _ _ _ _) (@pv _ 7 _ _ (by rfl) (by first | exact Or.inl rfl | exact Or.inr (Or.inl rfl) | exact Or.inr (Or.inr rfl)) (by decide) (by decide)))) (@pa_cons _ _ _ _ _ (@pe_op _ _ _ _ _ _ _ _ op_pow (@pe_int _ _ _ _) (@pe_int _ _ _ _)) (@pa_nil _) (by rfl)) (by rfl)) (by rfl)) (by rfl)) (by decide) (by rfl) (by decide) (by rfl) (by rfl)) (by rfl) (by first | exact .inl rfl | exact .inr rfl | assumption)))) (@pss_nil _)) (@pss_cons _ _ _ _ _ (@ps_while _ _ _ _ _ _ PassesOwn.never (@pt_cmpR _ _ _ _ _ _ _ _ op_in_seq (@pe_fn _ _ _ _ _ _ _ _ _ _ _ D__law_name hr (@pa_cons _ _ _ _ _ (@pv _ 9 _ _ (by rfl) (by first | exact Or.inl rfl | exact Or.inr (Or.inl rfl) | exact Or.inr (Or.inr rfl)) (by decide) (by decide)) (@pa_cons _ _ _ _ _ (@pv _ 4 _ _ (by rfl) (by first | exact Or.inl rfl | exact Or.inr (Or.inl rfl) | exact Or.inr (Or.inr rfl)) (by decide) (by decide)) (@pa_nil _) (by rfl)) (by rfl)) (by decide) (by rfl) (by decide) (by rfl) (by rfl)) (@pv _ 8 _ _ (by rfl) (by first | exact Or.inl rfl | exact Or.inr (Or.inl rfl) | exact Or.inr (Or.inr rfl)) (by decide) (by decide)) (by with_unfolding_all rfl)) (@pss_one _ _ _ (@ps_set _ _ (9) _ _ _ _ sc__law_names.nd rfl (Or.inl rfl) (@pe_op _ _ _ _ _ _ _ _ op_add (@pv _ 9 _ _ (by rfl) (by first | exact Or.inl rfl | exact Or.inr (Or.inl rfl) | exact Or.inr (Or.inr rfl)) (by decide) (by decide)) (@pv _ 6 _ _ (by rfl) (by first | exact Or.inl rfl | exact Or.inr (Or.inl rfl) | exact Or.inr (Or.inr rfl)) (by decide) (by decide))) (by rfl) (by first | exact .inl rfl | exact .inr rfl | assumption)))) (@pss_one _ _ _ (@ps_expr _ _ _ _ (@pe_bm _ _ _ _ _ _ _ _ _ _ _ _ PySem.F.plainAttrs_list PySem.F.slot_list_append PySem.F.type_list_append mt_append (@pv _ 8 _ _ (by rfl) (by first | exact Or.inl rfl | exact Or.inr (Or.inl rfl) | exact Or.inr (Or.inr rfl)) (by decide) (by decide)) (@pa_cons _ _ _ _ _ (@pe_fn _ _ _ _ _ _ _ _ _ _ _ D__law_name hr (@pa_cons _ _ _ _ _ (@pv _ 9 _ _ (by rfl) (by first | exact Or.inl rfl | exact Or.inr (Or.inl rfl) | exact Or.inr (Or.inr rfl)) (by decide) (by decide)) (@pa_cons _ _ _ _ _ (@pv _ 4 _ _ (by rfl) (by first | exact Or.inl rfl | exact Or.inr (Or.inl rfl) | exact Or.inr (Or.inr rfl)) (by decide) (by decide)) (@pa_nil _) (by rfl)) (by rfl)) (by decide) (by rfl) (by decide) (by rfl) (by rfl)) (@pa_nil _) (by rfl)) (by rfl) (by rfl) (by rfl) (by rfl) (by rfl)) (by rfl)))))) (by intro _; rfl)) (@pss_one _ _ _ (@ps_ret _ _ _ _ (@pv _ 8 _ _ (by rfl) (by first | exact Or.inl rfl | exact Or.inr (Or.inl rfl) | exact Or.inr (Or.inr rfl)) (by decide) (by decide))))))))))), ?_⟩
  have P10 : CPow 10 10 := ⟨by decide, by decide, by decide +kernel⟩
  refine ⟨_, rfl, _, rfl, use_draw hS h63 hk (by decide) (by decide) (by decide) fun al _ _ _ => ⟨rfl, ?_⟩⟩
  refine ⟨_, rfl, _, rfl, use_draw hS h63 hk (by decide) (by decide) (by decide) fun sd _ s0 s1 => ⟨_, _, rfl, rfl, ?_⟩⟩
  refine ⟨_, rfl, _, rfl, _, _, rfl, rfl, P10, use_draw hS h63 hk (by decide) (by decide) (by decide +kernel) fun fc _ f0 f1 => ?_⟩
  generalize hal : decide (V.int al = V.int 0) = alike
  obtain ⟨n0, en0⟩ : ∃ n : Nat, 1 + sd = (n : Int) := ⟨(1 + sd).toNat, by omega⟩
  refine ⟨fun σ H' => H' = H ∧ ∃ (d : Nat) (s7 : Option V), (alike = true → d < n0) ∧ (alike = false → d = 0) ∧ d < 8 ∧ σ = [some (.ref a), some (.int k), some (.int many), some (.bl alike), some (.int (1 + sd)), some (.int fc), some (.int ((26 : Int) ^ d)), s7, none, none], ?_, ?_⟩
  · refine ⟨_, rfl, _, rfl, ite2 (fun c => ?_) (fun c => ?_)⟩
    · refine ⟨_, rfl, _, rfl, _, rfl, use_draw hS h63 hk (by decide) (by decide) (by omega) fun dd _ d0 d1 => ⟨dd, rfl, by omega, by omega, ?_⟩⟩
      refine for_range (lo := 0) (n := dd.toNat) (fun i σ H' => H' = H ∧ ∃ s7 : Option V, σ = [some (.ref a), some (.int k), some (.int many), some (.bl alike), some (.int (1 + sd)), some (.int fc), some (.int ((26 : Int) ^ i)), s7, none, none]) ⟨rfl, none, rfl⟩ ?_ ?_
      · rintro i σ H' hi ⟨rfl, s7, rfl⟩
        refine ⟨_, rfl, _, _, rfl, rfl, .inr ⟨by decide, by decide⟩, rfl, some (.int ((0 : Int) + (i : Int))), ?_⟩
        rw [Int.pow_succ]
        rfl
      · rintro σ H' ⟨rfl, s7, rfl⟩
        exact ⟨rfl, dd.toNat, s7, fun _ => by omega, fun z => absurd c (by rw [z]; exact Bool.false_ne_true), by omega, rfl⟩
    · exact ⟨rfl, 0, none, fun z => absurd z c, fun _ => rfl, by decide, rfl⟩
  rintro σ H' ⟨rfl, d, s7, hd1, hd2, hd8, rfl⟩
  refine ⟨(by show 0 ≤ sizeLine; decide), fun pn hpn => ?_⟩
  have g0 := same_new hpn (.lst [])
  refine ⟨_, rfl, (many : Int), rfl, by omega, by omega, ?_⟩
  refine for_range (lo := 0) (n := (many : Int).toNat) (fun i σ H2 => Same H' H2 ∧ ∃ (nss : List (List Nat)) (n : Nat) (s1 s2 : Option V), d < n ∧ n ≤ 8 ∧ σ = [some (.ref a), some (.int k), some (.int many), some (.bl alike), some (.int (n : Int)), some (.int fc), some (.int ((26 : Int) ^ d)), s1, some (.ref pn), s2] ∧ H2 pn = some (.lst (txs nss)) ∧ nss.length = i ∧ nss.Nodup ∧ ∀ x ∈ nss, NameOk x)
    ⟨g0, [], n0, s7, none, ?_, by omega, by rw [← en0]; rfl, upd_same, rfl, List.nodup_nil, fun _ m => nomatch m⟩ ?_ ?_
  · cases alike with
    | true => exact hd1 rfl
    | false => rw [hd2 rfl]; omega
  · rintro i σ H2 hi ⟨g, nss, n, s1, s2, hdn, hn8, rfl, hn, hnl, hnd, hok⟩
    have hsl : (txs nss).length = i := by unfold txs; rw [List.length_map]; exact hnl
    have hSg := g.seq hS
    have hp : (0 : Int) < 26 ^ d := Int.pow_pos (by decide)
    have hp8 : (26 : Int) ^ d < 2 ^ 64 := by
      rcases (by omega : d = 0 ∨ d = 1 ∨ d = 2 ∨ d = 3 ∨ d = 4 ∨ d = 5 ∨ d = 6 ∨ d = 7) with e | e | e | e | e | e | e | e <;> (rw [e]; decide +kernel)
    refine ⟨_, rfl, _, rfl, _, rfl, _, rfl, _, rfl, _, _, rfl, rfl, .inl ⟨by decide, by decide⟩, _, _, rfl, rfl, use_draw hSg h63 hk (by omega) (by omega) (by decide) fun cd _ c0 c1 => ⟨_, _, rfl, rfl, .inl ⟨by omega, hp8⟩, _, _, rfl, rfl, ?_⟩⟩
    have hcode : 0 ≤ fc + 26 ^ d * cd := Int.add_nonneg f0 (Int.mul_nonneg (Int.le_of_lt hp) c0)
    refine ⟨fun σ H3 => H3 = H2 ∧ ∃ (n : Nat) (c : Int), 0 ≤ c ∧ d < n ∧ n ≤ 8 ∧ σ = [some (.ref a), some (.int k), some (.int many), some (.bl alike), some (.int (n : Int)), some (.int fc), some (.int ((26 : Int) ^ d)), some (.int ((0 : Int) + (i : Int))), some (.ref pn), some (.int c)], ?_, ?_⟩
    · refine ⟨_, rfl, _, rfl, ?_⟩
      cases hb : alike with
      | true => exact iteF ⟨rfl, n, _, hcode, hdn, hn8, rfl⟩
      | false =>
        refine iteT ?_
        have hd0 := hd2 hb
        refine ⟨_, rfl, _, rfl, _, rfl, _, _, rfl, rfl, .inl ⟨by decide, by decide⟩, _, _, rfl, rfl, use_draw hSg h63 hk (by omega) (by omega) (by decide) fun zd _ z0 z1 => ⟨_, _, rfl, rfl, ?_⟩⟩
        refine ⟨_, rfl, _, rfl, _, rfl, _, _, rfl, rfl, .inl ⟨by decide, by decide⟩, _, _, rfl, rfl, _, _, rfl, rfl, P10, use_draw hSg h63 hk (by omega) (by omega) (by decide +kernel) fun cd2 _ e0 _ => ?_⟩
        refine ⟨rfl, (1 + zd).toNat, cd2, e0, by omega, by omega, ?_⟩
        rw [show (((1 + zd).toNat : Nat) : Int) = 1 + zd from by omega]
        rfl
    clear hdn hn8 hcode
    rintro σ H3 ⟨rfl, n, c0', cc0, hdn, hn8, rfl⟩
    refine ⟨fun m σ H4 => H4 = H3 ∧ ∃ t : Nat, m = nss.length + 1 - t ∧ t ≤ nss.length ∧ σ = [some (.ref a), some (.int k), some (.int many), some (.bl alike), some (.int (n : Int)), some (.int fc), some (.int ((26 : Int) ^ d)), some (.int ((0 : Int) + (i : Int))), some (.ref pn), some (.int (c0' + (t : Int) * 26 ^ d))] ∧ ∀ j : Nat, j < t → nmL (c0' + (j : Int) * 26 ^ d) n ∈ nss,
      ⟨_, rfl, 0, rfl, Nat.zero_le _, by rw [show c0' + ((0 : Nat) : Int) * 26 ^ d = c0' from by simp], fun j hj => absurd hj (Nat.not_lt_zero _)⟩, ?_⟩
    rintro m σ H4 ⟨rfl, t, rfl, ht, rfl, htr⟩
    have hct : 0 ≤ c0' + (t : Int) * 26 ^ d := Int.add_nonneg cc0 (Int.mul_nonneg (by omega) (Int.le_of_lt hp))
    refine ⟨_, rfl, _, rfl, use_name rfl hct (by omega) ?_⟩
    refine ⟨_, rfl, pn, _, rfl, .inl (SqL.of hn), rfl, txs_flat nss, ?_⟩
    show ∃ b, V.bl (if false = true then !inV (.str (tx (nmL (c0' + (t : Int) * 26 ^ d) n))) (txs nss) else inV (.str (tx (nmL (c0' + (t : Int) * 26 ^ d) n))) (txs nss)) = .bl b ∧ _
    rw [if_neg Bool.false_ne_true, inV_txs]
    refine ⟨_, rfl, ite2 (fun c => ?_) (fun c => ?_)⟩
    · have hmem : nmL (c0' + (t : Int) * 26 ^ d) n ∈ nss := of_decide_eq_true c
      have htr' : ∀ j : Nat, j < t + 1 → nmL (c0' + (j : Int) * 26 ^ d) n ∈ nss := fun j hj => by
        rcases Nat.lt_succ_iff_lt_or_eq.mp hj with z | z
        · exact htr j z
        · rw [z]; exact hmem
      have hle := tries_leD (c := c0') (n := n) (t := t + 1) hdn (by omega) htr'
      refine ⟨_, fun _ _ z => z, ?_⟩
      refine ⟨_, rfl, _, rfl, _, _, rfl, rfl, ?_⟩
      refine ⟨_, (by omega : nss.length + 1 - (t + 1) < nss.length + 1 - t), rfl, t + 1, rfl, hle, ?_, htr'⟩
      rw [show c0' + ((t + 1 : Nat) : Int) * 26 ^ d = c0' + (t : Int) * 26 ^ d + 26 ^ d from by rw [Int.natCast_add, Int.add_mul]; show _ + (_ + 1 * _) = _; rw [Int.one_mul, Int.add_assoc]]
      rfl
    · have hnm : nmL (c0' + (t : Int) * 26 ^ d) n ∉ nss := of_decide_eq_false (Bool.eq_false_iff.mpr c)
      refine ⟨_, rfl, .inl ⟨rfl, _, SqL.of hn⟩, ?_⟩
      refine ⟨_, rfl, _, rfl, use_name rfl hct (by omega) ?_⟩
      refine ⟨pn, txs nss, _, rfl, rfl, hn, small1000 (by omega), g.upd_new hpn _, nss ++ [nmL (c0' + (t : Int) * 26 ^ d) n], n, _, _, hdn, hn8, rfl, ?_, ?_, nd_snoc hnd hnm, fun x hx => ?_⟩
      · rw [upd_same]
        unfold txs
        rw [List.map_append]
        rfl
      · rw [List.length_append, hnl]
        rfl
      · rcases List.mem_append.mp hx with z | z
        · exact hok x z
        · rw [List.mem_singleton.mp z]
          exact nmL_ok _ (by omega) hn8
  rintro σ H2 ⟨g, nss, n, s1, s2, hdn, hn8, rfl, hn, hnl, hnd, hok⟩
  exact ⟨_, rfl, q pn nss H2 g hn hpn (by omega) hnd hok⟩
abbrev sd__law_any_deed : Stmt := top 33
abbrev N__law_any_deed : List Str := ["_law_script", "_law_k", "_law_names_here", "_law_some", "_law_at", "_law_much", "_law_way", "_law_weight", "_law_things", "_law_name_here"]
abbrev P__law_any_deed : List Str := ["_law_script", "_law_k"]
theorem sc__law_any_deed : FnScope N__law_any_deed P__law_any_deed (defScope sd__law_any_deed) := ⟨rfl, rfl, rfl, by decide +kernel, rfl, by decide +kernel, by decide +kernel⟩
theorem ok__law_any_deed (F : At K mg "_law_any_deed" sd__law_any_deed f fd) (D__law_draw : Dn P w K mg base 1 "_law_draw" ["_law_script", "_law_k", "_law_j", "_law_many"] (spDraw K)) (D__law_names : Dn P w K mg base 2 "_law_names" ["_law_script", "_law_k", "_law_many"] (spNames K)) (m_range : mg "range" = none) (m_tuple : mg "tuple" = none) : Dn P w K mg base 3 "_law_any_deed" P__law_any_deed (spAnyDeedS K) := by
  refine F.ok sc__law_any_deed (fun vs H Q E h => ?_) (fun cdv A outer s H vs Q E hr h => ?_) (fun _ _ _ _ _ _ us hl => match us, hl with | [_, _], _ => rfl)
  · obtain ⟨a, ms, k, rfl, _⟩ := h.ex
    rfl
  obtain ⟨a, ms, k, rfl, hS, h63, hk, q⟩ := h.ex
  refine ⟨_, (@pss_cons _ _ _ _ _ (@ps_set _ _ (2) _ _ _ _ sc__law_any_deed.nd rfl (Or.inl rfl) (@pe_fn _ _ _ _ _ _ _ _ _ _ _ D__law_names hr (@pa_cons _ _ _ _ _ (@pv _ 0 _ _ (by rfl) (by first | exact Or.inl rfl | exact Or.inr (Or.inl rfl) | exact Or.inr (Or.inr rfl)) (by decide) (by decide)) (@pa_cons _ _ _ _ _ (@pv _ 1 _ _ (by rfl) (by first | exact Or.inl rfl | exact Or.inr (Or.inl rfl) | exact Or.inr (Or.inr rfl)) (by decide) (by decide)) (@pa_cons _ _ _ _ _ (@pe_int _ _ _ _) (@pa_nil _) (by rfl)) (by rfl)) (by rfl)) (by decide) (by rfl) (by decide) (by rfl) (by rfl)) (by rfl) (by first | exact .inl rfl | exact .inr rfl | assumption)) (@pss_cons _ _ _ _ _ (@ps_set _ _ (3) _ _ _ _ sc__law_any_deed.nd rfl (Or.inl rfl) (@pe_lst _ _ _ _ (@pa_nil _)) (by rfl) (by first | exact .inl rfl | exact .inr rfl | assumption)) (@pss_cons _ _ _ _ _ (@ps_for _ _ _ _ _ _ _ _ PassesOwn.never rfl (@pi_range1 _ _ _ _ _ _ (by rfl) m_range (@pa_cons _ _ _ _ _ (@pe_int _ _ _ _) (@pa_nil _) (by rfl)) (by rfl)) (@pg_name _ _ (4) _ sc__law_any_deed.nd rfl (Or.inl rfl) (by first | exact .inl rfl | exact .inr rfl | assumption)) (@pss_cons _ _ _ _ _ (@ps_set _ _ (5) _ _ _ _ sc__law_any_deed.nd rfl (Or.inl rfl) (@pe_ix _ _ _ _ _ _ _ (ix_listK K) (@pe_lst _ _ _ _ (@pa_cons _ _ _ _ _ (@pe_int _ _ _ _) (@pa_cons _ _ _ _ _ (@pe_int _ _ _ _) (@pa_cons _ _ _ _ _ (@pe_op _ _ _ _ _ _ _ _ op_pow (@pe_int _ _ _ _) (@pe_int _ _ _ _)) (@pa_cons _ _ _ _ _ (@pe_op _ _ _ _ _ _ _ _ op_add (@pe_int _ _ _ _) (@pe_fn _ _ _ _ _ _ _ _ _ _ _ D__law_draw hr (@pa_cons _ _ _ _ _ (@pv _ 0 _ _ (by rfl) (by first | exact Or.inl rfl | exact Or.inr (Or.inl rfl) | exact Or.inr (Or.inr rfl)) (by decide) (by decide)) (@pa_cons _ _ _ _ _ (@pe_op _ _ _ _ _ _ _ _ op_add (@pv _ 1 _ _ (by rfl) (by first | exact Or.inl rfl | exact Or.inr (Or.inl rfl) | exact Or.inr (Or.inr rfl)) (by decide) (by decide)) (@pe_int _ _ _ _)) (@pa_cons _ _ _ _ _ (@pe_op _ _ _ _ _ _ _ _ op_mul (@pe_int _ _ _ _) (@pv _ 4 _ _ (by rfl) (by first | exact Or.inl rfl | exact Or.inr (Or.inl rfl) | exact Or.inr (Or.inr rfl)) (by decide) (by decide))) (@pa_cons _ _ _ _ _ (@pe_op _ _ _ _ _ _ _ _ op_pow (@pe_int _ _ _ _) (@pe_int _ _ _ _)) (@pa_nil _) (by rfl)) (by rfl)) (by rfl)) (by rfl)) (by decide) (by rfl) (by decide) (by rfl) (by rfl))) (@pa_nil _) (by rfl)) (by rfl)) (by rfl)) (by rfl))) (@pe_fn _ _ _ _ _ _ _ _ _ _ _ D__law_draw hr (@pa_cons _ _ _ _ _ (@pv _ 0 _ _ (by rfl) (by first | exact Or.inl rfl | exact Or.inr (Or.inl rfl) | exact Or.inr (Or.inr rfl)) (by decide) (by decide)) (@pa_cons _ _ _ _ _ (@pe_op _ _ _ _ _ _ _ _ op_add (@pv _ 1 _ _ (by rfl) (by first | exact Or.inl rfl | exact Or.inr (Or.inl rfl) | exact Or.inr (Or.inr rfl)) (by decide) (by decide)) (@pe_int _ _ _ _)) (@pa_cons _ _ _ _ _ (@pe_op _ _ _ _ _ _ _ _ op_add (@pe_op _ _ _ _ _ _ _ _ op_mul (@pe_int _ _ _ _) (@pv _ 4 _ _ (by rfl) (by first | exact Or.inl rfl | exact Or.inr (Or.inl rfl) | exact Or.inr (Or.inr rfl)) (by decide) (by decide))) (@pe_int _ _ _ _)) (@pa_cons _ _ _ _ _ (@pe_int _ _ _ _) (@pa_nil _) (by rfl)) (by rfl)) (by rfl)) (by rfl)) (by decide) (by rfl) (by decide) (by rfl) (by rfl)) (fun _ _ => rfl)) (by rfl) (by first | exact .inl rfl | exact .inr rfl | assumption)) (@pss_one _ _ _ (@ps_expr _ _ _ _ (@pe_bm _ _ _ _ _ _ _ _ _ _ _ _ PySem.F.plainAttrs_list PySem.F.slot_list_append PySem.F.type_list_append mt_append (@pv _ 3 _ _ (by rfl) (by first | exact Or.inl rfl | exact Or.inr (Or.inl rfl) | exact Or.inr (Or.inr rfl)) (by decide) (by decide)) (@pa_cons _ _ _ _ _ (@pe_tup _ _ _ _ _ (@pa_cons _ _ _ _ _ (@pe_ix _ _ _ _ _ _ _ (ix_listK K) (@pv _ 2 _ _ (by rfl) (by first | exact Or.inl rfl | exact Or.inr (Or.inl rfl) | exact Or.inr (Or.inr rfl)) (by decide) (by decide)) (@pv _ 4 _ _ (by rfl) (by first | exact Or.inl rfl | exact Or.inr (Or.inl rfl) | exact Or.inr (Or.inr rfl)) (by decide) (by decide)) (fun _ _ => rfl)) (@pa_cons _ _ _ _ _ (@pv _ 5 _ _ (by rfl) (by first | exact Or.inl rfl | exact Or.inr (Or.inl rfl) | exact Or.inr (Or.inr rfl)) (by decide) (by decide)) (@pa_nil _) (by rfl)) (by rfl))) (@pa_nil _) (by rfl)) (by rfl) (by rfl) (by rfl) (by rfl) (by rfl)) (by rfl)))) (by intro _; rfl)) (@pss_cons _ _ _ _ _ (@ps_set _ _ (6) _ _ _ _ sc__law_any_deed.nd rfl (Or.inl rfl) (@pe_fn _ _ _ _ _ _ _ _ _ _ _ D__law_draw hr (@pa_cons _ _ _ _ _ (@pv _ 0 _ _ (by rfl) (by first | exact Or.inl rfl | exact Or.inr (Or.inl rfl) | exact Or.inr (Or.inr rfl)) (by decide) (by decide)) (@pa_cons _ _ _ _ _ (@pe_op _ _ _ _ _ _ _ _ op_add (@pv _ 1 _ _ (by rfl) (by first | exact Or.inl rfl | exact Or.inr (Or.inl rfl) | exact Or.inr (Or.inr rfl)) (by decide) (by decide)) (@pe_int _ _ _ _)) (@pa_cons _ _ _ _ _ (@pe_int _ _ _ _) (@pa_cons _ _ _ _ _ (@pe_int _ _ _ _) (@pa_nil _) (by rfl)) (by rfl)) (by rfl)) (by rfl)) (by decide) (by rfl) (by decide) (by rfl) (by rfl)) (by rfl) (by first | exact .inl rfl | exact .inr rfl | assumption)) (@pss_cons _ _ _ _ _ (@ps_set _ _ (7) _ _ _ _ sc__law_any_deed.nd rfl (Or.inl rfl) (@pe_op _ _ _ _ _ _ _ _ op_sub (@pe_ix _ _ _ _ _ _ _ (ix_tupK K) (@pe_ix _ _ _ _ _ _ _ (ix_listK K) (@pv _ 3 _ _ (by rfl) (by first | exact Or.inl rfl | exact Or.inr (Or.inl rfl) | exact Or.inr (Or.inr rfl)) (by decide) (by decide)) (@pe_int _ _ _ _) (fun _ _ => rfl)) (@pe_int _ _ _ _) (fun _ _ => rfl)) (@pe_fn _ _ _ _ _ _ _ _ _ _ _ D__law_draw hr (@pa_cons _ _ _ _ _ (@pv _ 0 _ _ (by rfl) (by first | exact Or.inl rfl | exact Or.inr (Or.inl rfl) | exact Or.inr (Or.inr rfl)) (by decide) (by decide)) (@pa_cons _ _ _ _ _ (@pe_op _ _ _ _ _ _ _ _ op_add (@pv _ 1 _ _ (by rfl) (by first | exact Or.inl rfl | exact Or.inr (Or.inl rfl) | exact Or.inr (Or.inr rfl)) (by decide) (by decide)) (@pe_int _ _ _ _)) (@pa_cons _ _ _ _ _ (@pe_int _ _ _ _) (@pa_cons _ _ _ _ _ (@pe_int _ _ _ _) (@pa_nil _) (by rfl)) (by rfl)) (by rfl)) (by rfl)) (by decide) (by rfl) (by decide) (by rfl) (by rfl))) (by rfl) (by first | exact .inl rfl | exact .inr rfl | assumption)) (@pss_cons _ _ _ _ _ (@ps_if _ _ _ _ _ _ _ _ (@pt_cmpR _ _ _ _ _ _ _ _ op_eq (@pv _ 6 _ _ (by rfl) (by first | exact Or.inl rfl | exact Or.inr (Or.inl rfl) | exact Or.inr (Or.inr rfl)) (by decide) (by decide)) (@pe_int _ _ _ _) (nomark _)) (@pss_one _ _ _ (@ps_ret _ _ _ _ (@pe_tup _ _ _ _ _ (@pa_cons _ _ _ _ _ (@pe_str _ _ _ _) (@pa_cons _ _ _ _ _ (@pe_ix _ _ _ _ _ _ _ (ix_listK K) (@pv _ 2 _ _ (by rfl) (by first | exact Or.inl rfl | exact Or.inr (Or.inl rfl) | exact Or.inr (Or.inr rfl)) (by decide) (by decide)) (@pe_int _ _ _ _) (fun _ _ => rfl)) (@pa_cons _ _ _ _ _ (@pe_ix _ _ _ _ _ _ _ (ix_listK K) (@pv _ 2 _ _ (by rfl) (by first | exact Or.inl rfl | exact Or.inr (Or.inl rfl) | exact Or.inr (Or.inr rfl)) (by decide) (by decide)) (@pe_int _ _ _ _) (fun _ _ => rfl)) (@pa_cons _ _ _ _ _ (@pe_ix _ _ _ _ _ _ _ (ix_tupK K) (@pe_ix _ _ _ _ _ _ _ (ix_listK K) (@pv _ 3 _ _ (by rfl) (by first | exact Or.inl rfl | exact Or.inr (Or.inl rfl) | exact Or.inr (Or.inr rfl)) (by decide) (by decide)) (@pe_int _ _ _ _) (fun _ _ => rfl)) (@pe_int _ _ _ _) (fun _ _ => rfl)) (@pa_cons _ _ _ _ _ (@pv _ 7 _ _ (by rfl) (by first | exact Or.inl rfl | exact Or.inr (Or.inl rfl) | exact Or.inr (Or.inr rfl)) (by decide) (by decide)) (@pa_nil _) (by rfl)) (by rfl)) (by rfl)) (by rfl)) (by rfl))))) (@pss_nil _)) (@pss_cons _ _ _ _ _ (@ps_if _ _ _ _ _ _ _ _ (@pt_cmpR _ _ _ _ _ _ _ _ op_eq (@pv _ 6 _ _ (by rfl) (by first | exact Or.inl rfl | exact Or.inr (Or.inl rfl) | exact Or.inr (Or.inr rfl)) (by decide) (by decide)) (@pe_int _ _ _ _) (nomark _)) (@pss_one _ _ _ (@ps_ret _ _ _ _ (@pe_tup _ _ _ _ _ (@pa_cons _ _ _ _ _ (@pe_str _ _ _ _) (@pa_cons _ _ _ _ _ (@pe_ix _ _ _ _ _ _ _ (ix_listK K) (@pv _ 2 _ _ (by rfl) (by first | exact Or.inl rfl | exact Or.inr (Or.inl rfl) | exact Or.inr (Or.inr rfl)) (by decide) (by decide)) (@pe_int _ _ _ _) (fun _ _ => rfl)) (@pa_cons _ _ _ _ _ (@pe_ix _ _ _ _ _ _ _ (ix_tupK K) (@pe_ix _ _ _ _ _ _ _ (ix_listK K) (@pv _ 3 _ _ (by rfl) (by first | exact Or.inl rfl | exact Or.inr (Or.inl rfl) | exact Or.inr (Or.inr rfl)) (by decide) (by decide)) (@pe_int _ _ _ _) (fun _ _ => rfl)) (@pe_int _ _ _ _) (fun _ _ => rfl)) (@pa_nil _) (by rfl)) (by rfl)) (by rfl))))) (@pss_nil _)) (@pss_cons _ _ _ _ _ (@ps_if _ _ _ _ _ _ _ _ (@pt_cmpR _ _ _ _ _ _ _ _ op_eq (@pv _ 6 _ _ (by rfl) (by first | exact Or.inl rfl | exact Or.inr (Or.inl rfl) | exact Or.inr (Or.inr rfl)) (by decide) (by decide)) (@pe_int _ _ _ _) (nomark _)) (@pss_one _ _ _ (@ps_ret _ _ _ _ (@pe_tup _ _ _ _ _ (@pa_cons _ _ _ _ _ (@pe_str _ _ _ _) (@pa_cons _ _ _ _ _ (@pe_ix _ _ _ _ _ _ _ (ix_listK K) (@pv _ 2 _ _ (by rfl) (by first | exact Or.inl rfl | exact Or.inr (Or.inl rfl) | exact Or.inr (Or.inr rfl)) (by decide) (by decide)) (@pe_int _ _ _ _) (fun _ _ => rfl)) (@pa_cons _ _ _ _ _ (@pe_ix _ _ _ _ _ _ _ (ix_tupK K) (@pe_ix _ _ _ _ _ _ _ (ix_listK K) (@pv _ 3 _ _ (by rfl) (by first | exact Or.inl rfl | exact Or.inr (Or.inl rfl) | exact Or.inr (Or.inr rfl)) (by decide) (by decide)) (@pe_int _ _ _ _) (fun _ _ => rfl)) (@pe_int _ _ _ _) (fun _ _ => rfl)) (@pa_nil _) (by rfl)) (by rfl)) (by rfl))))) (@pss_nil _)) (@pss_cons _ _ _ _ _ (@ps_if _ _ _ _ _ _ _ _ (@pt_cmpR _ _ _ _ _ _ _ _ op_eq (@pv _ 6 _ _ (by rfl) (by first | exact Or.inl rfl | exact Or.inr (Or.inl rfl) | exact Or.inr (Or.inr rfl)) (by decide) (by decide)) (@pe_int _ _ _ _) (nomark _)) (@pss_one _ _ _ (@ps_ret _ _ _ _ (@pe_tup _ _ _ _ _ (@pa_cons _ _ _ _ _ (@pe_str _ _ _ _) (@pa_cons _ _ _ _ _ (@pe_ix _ _ _ _ _ _ _ (ix_listK K) (@pv _ 2 _ _ (by rfl) (by first | exact Or.inl rfl | exact Or.inr (Or.inl rfl) | exact Or.inr (Or.inr rfl)) (by decide) (by decide)) (@pe_int _ _ _ _) (fun _ _ => rfl)) (@pa_cons _ _ _ _ _ (@pe_ix _ _ _ _ _ _ _ (ix_tupK K) (@pe_ix _ _ _ _ _ _ _ (ix_listK K) (@pv _ 3 _ _ (by rfl) (by first | exact Or.inl rfl | exact Or.inr (Or.inl rfl) | exact Or.inr (Or.inr rfl)) (by decide) (by decide)) (@pe_int _ _ _ _) (fun _ _ => rfl)) (@pe_int _ _ _ _) (fun _ _ => rfl)) (@pa_nil _) (by rfl)) (by rfl)) (by rfl))))) (@pss_nil _)) (@pss_cons _ _ _ _ _ (@ps_if _ _ _ _ _ _ _ _ (@pt_cmpR _ _ _ _ _ _ _ _ op_eq (@pv _ 6 _ _ (by rfl) (by first | exact Or.inl rfl | exact Or.inr (Or.inl rfl) | exact Or.inr (Or.inr rfl)) (by decide) (by decide)) (@pe_int _ _ _ _) (nomark _)) (@pss_one _ _ _ (@ps_ret _ _ _ _ (@pe_tup _ _ _ _ _ (@pa_cons _ _ _ _ _ (@pe_str _ _ _ _) (@pa_cons _ _ _ _ _ (@pe_ix _ _ _ _ _ _ _ (ix_listK K) (@pv _ 2 _ _ (by rfl) (by first | exact Or.inl rfl | exact Or.inr (Or.inl rfl) | exact Or.inr (Or.inr rfl)) (by decide) (by decide)) (@pe_int _ _ _ _) (fun _ _ => rfl)) (@pa_cons _ _ _ _ _ (@pe_ix _ _ _ _ _ _ _ (ix_listK K) (@pv _ 2 _ _ (by rfl) (by first | exact Or.inl rfl | exact Or.inr (Or.inl rfl) | exact Or.inr (Or.inr rfl)) (by decide) (by decide)) (@pe_int _ _ _ _) (fun _ _ => rfl)) (@pa_nil _) (by rfl)) (by rfl)) (by rfl))))) (@pss_nil _)) (@pss_cons _ _ _ _ _ (@ps_if _ _ _ _ _ _ _ _ (@pt_cmpR _ _ _ _ _ _ _ _ op_eq (@pv _ 6 _ _ (by rfl) (by first | exact Or.inl rfl | exact Or.inr (Or.inl rfl) | exact Or.inr (Or.inr rfl)) (by decide) (by decide)) (@pe_int _ _ _ _) (nomark _)) (@pss_one _ _ _ (@ps_ret _ _ _ _ (@pe_tup _ _ _ _ _ (@pa_cons _ _ _ _ _ (@pe_str _ _ _ _) (@pa_cons _ _ _ _ _ (@pe_ix _ _ _ _ _ _ _ (ix_listK K) (@pv _ 2 _ _ (by rfl) (by first | exact Or.inl rfl | exact Or.inr (Or.inl rfl) | exact Or.inr (Or.inr rfl)) (by decide) (by decide)) (@pe_int _ _ _ _) (fun _ _ => rfl)) (@pa_nil _) (by rfl)) (by rfl))))) (@pss_nil _)) (@pss_cons _ _ _ _ _ (@ps_if _ _ _ _ _ _ _ _ (@pt_cmpR _ _ _ _ _ _ _ _ op_eq (@pv _ 6 _ _ (by rfl) (by first | exact Or.inl rfl | exact Or.inr (Or.inl rfl) | exact Or.inr (Or.inr rfl)) (by decide) (by decide)) (@pe_int _ _ _ _) (nomark _)) (@pss_one _ _ _ (@ps_ret _ _ _ _ (@pe_tup _ _ _ _ _ (@pa_cons _ _ _ _ _ (@pe_str _ _ _ _) (@pa_cons _ _ _ _ _ (@pe_ix _ _ _ _ _ _ _ (ix_listK K) (@pv _ 2 _ _ (by rfl) (by first | exact Or.inl rfl | exact Or.inr (Or.inl rfl) | exact Or.inr (Or.inr rfl)) (by decide) (by decide)) (@pe_int _ _ _ _) (fun _ _ => rfl)) (@pa_cons _ _ _ _ _ (@pe_ix _ _ _ _ _ _ _ (ix_listK K) (@pv _ 2 _ _ (by rfl) (by first | exact Or.inl rfl | exact Or.inr (Or.inl rfl) | exact Or.inr (Or.inr rfl)) (by decide) (by decide)) (@pe_int _ _ _ _) (fun _ _ => rfl)) (@pa_cons _ _ _ _ _ (@pe_ix _ _ _ _ _ _ _ (ix_tupK K) (@pe_ix _ _ _ _ _ _ _ (ix_listK K) (@pv _ 3 _ _ (by rfl) (by first | exact Or.inl rfl | exact Or.inr (Or.inl rfl) | exact Or.inr (Or.inr rfl)) (by decide) (by decide)) (@pe_int _ _ _ _) (fun _ _ => rfl)) (@pe_int _ _ _ _) (fun _ _ => rfl)) (@pa_cons _ _ _ _ _ (@pv _ 7 _ _ (by rfl) (by first | exact Or.inl rfl | exact Or.inr (Or.inl rfl) | exact Or.inr (Or.inr rfl)) (by decide) (by decide)) (@pa_nil _) (by rfl)) (by rfl)) (by rfl)) (by rfl)) (by rfl))))) (@pss_nil _)) (@pss_cons _ _ _ _ _ (@ps_if _ _ _ _ _ _ _ _ (@pt_cmpR _ _ _ _ _ _ _ _ op_eq (@pv _ 6 _ _ (by rfl) (by first | exact Or.inl rfl | exact Or.inr (Or.inl rfl) | exact Or.inr (Or.inr rfl)) (by decide) (by decide)) (@pe_int _ _ _ _) (nomark _)) (@pss_one _ _ _ (@ps_ret _ _ _ _ (@pe_tup _ _ _ _ _ (@pa_cons _ _ _ _ _ (@pe_str _ _ _ _) (@pa_nil _) (by rfl))))) (@pss_nil _)) (@pss_cons _ _ _ _ _ (@ps_set _ _ (8) _ _ _ _ sc__law_any_deed.nd rfl (Or.inl rfl) (@pe_lst _ _ _ _ (@pa_cons _ _ _ _ _ (@pe_str _ _ _ _) (@pa_nil _) (by rfl))) (by rfl) (by first | exact .inl rfl | exact .inr rfl | assumption)) (@pss_cons _ _ _ _ _ (@ps_for _ _ _ _ _ _ _ _ PassesOwn.never rfl (@pi_listK _ K _ _ _ (@pe_slice _ _ _ _ _ _ _ _ _ _ sl_list (@pv _ 3 _ _ (by rfl) (by first | exact Or.inl rfl | exact Or.inr (Or.inl rfl) | exact Or.inr (Or.inr rfl)) (by decide) (by decide)) (@po_none _) (@po_some _ _ _ (@pe_op _ _ _ _ _ _ _ _ op_add (@pe_int _ _ _ _) (@pe_fn _ _ _ _ _ _ _ _ _ _ _ D__law_draw hr (@pa_cons _ _ _ _ _ (@pv _ 0 _ _ (by rfl) (by first | exact Or.inl rfl | exact Or.inr (Or.inl rfl) | exact Or.inr (Or.inr rfl)) (by decide) (by decide)) (@pa_cons _ _ _ _ _ (@pe_op _ _ _ _ _ _ _ _ op_add (@pv _ 1 _ _ (by rfl) (by first | exact Or.inl rfl | exact Or.inr (Or.inl rfl) | exact Or.inr (Or.inr rfl)) (by decide) (by decide)) (@pe_int _ _ _ _)) (@pa_cons _ _ _ _ _ (@pe_int _ _ _ _) (@pa_cons _ _ _ _ _ (@pe_int _ _ _ _) (@pa_nil _) (by rfl)) (by rfl)) (by rfl)) (by rfl)) (by decide) (by rfl) (by decide) (by rfl) (by rfl))))) (by rfl)) (@pg_tupK K _ _ _ _ (2) _ rfl (@pgs_cons _ _ _ _ _ (@pg_name _ _ (9) _ sc__law_any_deed.nd rfl (Or.inl rfl) (by first | exact .inl rfl | exact .inr rfl | assumption)) (@pgs_cons _ _ _ _ _ (@pg_name _ _ (5) _ sc__law_any_deed.nd rfl (Or.inl rfl) (by first | exact .inl rfl | exact .inr rfl | assumption)) (@pgs_nil _) (by rfl)) (by rfl)) (by rfl) (by rfl) (by rfl)) (@pss_one _ _ _ (@ps_set _ _ (8) _ _ _ _ sc__law_any_deed.nd rfl (Or.inl rfl) (@pe_op _ _ _ _ _ _ _ _ op_cat (@pv _ 8 _ _ (by rfl) (by first | exact Or.inl rfl | exact Or.inr (Or.inl rfl) | exact Or.inr (Or.inr rfl)) (by decide) (by decide)) (@pe_lst _ _ _ _ (@pa_cons _ _ _ _ _ (@pv _ 9 _ _ (by rfl) (by first | exact Or.inl rfl | exact Or.inr (Or.inl rfl) | exact Or.inr (Or.inr rfl)) (by decide) (by decide)) (@pa_cons _ _ _ _ _ (@pv _ 5 _ _ (by rfl) (by first | exact Or.inl rfl | exact Or.inr (Or.inl rfl) | exact Or.inr (Or.inr rfl)) (by decide) (by decide)) (@pa_nil _) (by rfl)) (by rfl)))) (by rfl) (by first | exact .inl rfl | exact .inr rfl | assumption))) (by intro _; rfl)) (@pss_one _ _ _ (@ps_ret _ _ _ _ (@pe_callTy _ _ _ _ _ _ _ _ _ call_tuple_of (by rfl) m_tuple PyProof.Rows.boot_tuple (@pa_cons _ _ _ _ _ (@pv _ 8 _ _ (by rfl) (by first | exact Or.inl rfl | exact Or.inr (Or.inl rfl) | exact Or.inr (Or.inr rfl)) (by decide) (by decide)) (@pa_nil _) (by rfl)) (by decide) (by decide) (by rfl) (by rfl))))))))))))))))))), ?_⟩
  have P9 : CPow 10 9 := ⟨by decide, by decide, by decide +kernel⟩
  refine ⟨_, rfl, _, rfl, use_names (many := 9) rfl hS h63 hk (by decide) fun pn nss H1 g1 hpn hpn0 hnl hnd hnok => ?_⟩
  refine ⟨(by show 0 ≤ sizeLine; decide), fun pc hpc => ?_⟩
  have g2 := same_new hpc (.lst [])
  have e10 : (10 : Int) ^ (9 : Int).toNat = 1000000000 := by decide +kernel
  refine ⟨9, rfl, by decide, by decide, ?_⟩
  refine for_range (lo := 0) (n := (9 : Int).toNat) (fun i σ H' => Same H1 H' ∧ ∃ (s4 s5 : Option V) (cv : List V) (cs : List Pr), σ = [some (.ref a), some (.int k), some (.ref pn), some (.ref pc), s4, s5, none, none, none, none] ∧ H' pc = some (.lst cv) ∧ cs.length = i ∧ Prs H' cv cs ∧ ∀ p ∈ cs, NameOk p.1 ∧ 1 ≤ p.2 ∧ p.2 ≤ 1000000000)
    ⟨g2, none, none, [], [], rfl, upd_same, rfl, .nil, fun _ m => nomatch m⟩ ?_ ?_
  · rintro i σ H' hi ⟨g, s4, s5, cv, cs, rfl, hc, hcl, hP, hok⟩
    have hi9 : i < 9 := hi
    have e0 : (0 : Int) + (i : Int) = ((i : Nat) : Int) := by omega
    rw [e0]
    have hSg := (g1.trans g).seq hS
    have hcvl := hP.length
    refine ⟨_, _, rfl, rfl, P9, _, rfl, _, rfl, _, _, rfl, rfl, _, rfl, _, _, rfl, rfl, .inl ⟨by decide, by decide⟩, _, _, rfl, rfl, P9, use_draw hSg h63 (by omega) (by omega) (by omega) (by decide +kernel) fun dd _ d0 d1 => ⟨_, _, rfl, rfl, (by show 4 ≤ sizeLine; decide), fun p1 hp1 => ?_⟩⟩
    rw [e10] at d1
    have hH' : upd H' p1 (.lst [.int 1, .int 30, .int ((10 : Int) ^ (9 : Int).toNat), .int (1 + dd)]) = upd H' p1 (.lst [.int 1, .int 30, .int 1000000000, .int (1 + dd)]) := by rw [e10]
    generalize hH3 : upd H' p1 (HO.lst _) = H3
    have hH3' : upd H' p1 (.lst [.int 1, .int 30, .int 1000000000, .int (1 + dd)]) = H3 := by rw [← hH', ← hH3]
    have g3 : Same H' H3 := hH3' ▸ same_new hp1 (.lst [.int 1, .int 30, .int 1000000000, .int (1 + dd)])
    have hp13 : H3 p1 = some (.lst [.int 1, .int 30, .int 1000000000, .int (1 + dd)]) := by rw [← hH3', upd_same]
    refine ⟨_, rfl, _, rfl, _, _, rfl, rfl, _, rfl, _, _, rfl, rfl, .inl ⟨by decide, by decide⟩, _, _, rfl, rfl, use_draw (g3.seq hSg) h63 (by omega) (by omega) (by omega) (by decide) fun bd _ b0 b1 => ?_⟩
    obtain ⟨B, hB, hB0, hB1⟩ : ∃ B : Int, atI [V.int 1, V.int 30, V.int 1000000000, V.int (1 + dd)] bd = some (.int B) ∧ 1 ≤ B ∧ B ≤ 1000000000 := by
      rcases (by omega : bd = 0 ∨ bd = 1 ∨ bd = 2 ∨ bd = 3) with e | e | e | e
      · exact ⟨1, by rw [e]; rfl, by decide, by decide⟩
      · exact ⟨30, by rw [e]; rfl, by decide, by decide⟩
      · exact ⟨1000000000, by rw [e]; rfl, by decide, by decide⟩
      · exact ⟨1 + dd, by rw [e]; rfl, by omega, by omega⟩
    refine ⟨p1, _, _, _, rfl, rfl, SqL.of hp13, hB, ?_⟩
    have g03 := g.trans g3
    have hi' : i < nss.length := by omega
    have hx : (txs nss)[i]? = some (.str (tx nss[i])) := by unfold txs; rw [List.getElem?_map, List.getElem?_eq_getElem hi']; rfl
    have hc3 := g3 _ _ hc
    refine ⟨_, rfl, .inl ⟨rfl, _, SqL.of hc3⟩, _, rfl, _, rfl, pn, _, (i : Int), _, rfl, rfl, SqL.of (g03 _ _ hpn), atI_nat hx, _, rfl, (by show 2 ≤ sizeLine; decide), fun p2 hp2 => ?_⟩
    have g5 := same_new hp2 (.tup [.str (tx nss[i]), .int B])
    have hp25 : upd H3 p2 (.tup [.str (tx nss[i]), .int B]) p2 = some (prO (nss[i], B)) := upd_same
    generalize upd H3 p2 (.tup [.str (tx nss[i]), .int B]) = H5 at *
    have hc5 := g5 _ _ hc3
    refine ⟨pc, cv, _, rfl, rfl, hc5, small1000 (by omega), (g03.trans g5).upd_new hpc _, _, _, cv ++ [.ref p2], cs ++ [(nss[i], B)], rfl, upd_same, by rw [List.length_append, hcl]; rfl, ((hP.mono (g3.trans g5)).snoc hp25).upd_lst hc5, fun p hp => ?_⟩
    rcases List.mem_append.mp hp with z | z
    · exact hok p z
    · rw [List.mem_singleton.mp z]
      exact ⟨hnok _ (List.getElem_mem hi'), hB0, hB1⟩
  rintro σ H2 ⟨g, s4, s5, cv, cs, rfl, hc, hcl, hP, hok⟩
  have hSg := (g1.trans g).seq hS
  have hcvl := hP.length
  have hpn2 := g _ _ hpn
  have hcs : cs.length = 9 := hcl
  have nm : ∀ j : Nat, j < 9 → ∃ x, NameOk x ∧ atI (txs nss) (j : Int) = some (.str (tx x)) := fun j hj => by
    have hj' : j < nss.length := by omega
    exact ⟨nss[j], hnok _ (List.getElem_mem hj'), atI_nat (by unfold txs; rw [List.getElem?_map, List.getElem?_eq_getElem hj']; rfl)⟩
  have am : ∀ j : Nat, j < 9 → ∃ (r : Addr) (x : List Nat) (m : Int), 1 ≤ m ∧ m ≤ 1000000000 ∧ atI cv (j : Int) = some (.ref r) ∧ H2 r = some (.tup [.str (tx x), .int m]) := fun j hj => by
    have hj' : j < cs.length := by omega
    obtain ⟨r, h1, h2⟩ := hP.getQ (List.getElem?_eq_getElem hj')
    have := hok _ (List.getElem_mem hj')
    exact ⟨r, _, _, this.2.1, this.2.2, atI_nat h1, h2⟩
  obtain ⟨n0, hn0, en0⟩ := nm 0 (by decide)
  obtain ⟨n1, hn1, en1⟩ := nm 1 (by decide)
  obtain ⟨r0, x0, m0, m00, m01, em0, hr0⟩ := am 0 (by decide)
  obtain ⟨r1, x1, m1, m10, m11, em1, hr1⟩ := am 1 (by decide)
  have gH := g1.trans g
  refine ⟨_, rfl, _, rfl, _, _, rfl, rfl, use_draw hSg h63 (by omega) (by decide) (by decide) (by decide) fun way _ w0 w1 => ?_⟩
  refine ⟨_, rfl, pc, _, 1, _, rfl, rfl, SqL.of hc, em1, r1, _, 1, _, rfl, rfl, SqT.of hr1, rfl, _, rfl, _, rfl, _, _, rfl, rfl, use_draw hSg h63 (by omega) (by decide) (by decide) (by decide) fun wd' _ v0 v1 => ⟨_, _, rfl, rfl, ?_⟩⟩
  refine ⟨_, rfl, rfl, _, rfl, ite2 (fun _ => ?_) (fun _ => ?_)⟩
  · exact ⟨_, rfl, pn, _, 0, _, rfl, rfl, SqL.of hpn2, en0, _, rfl, pn, _, 1, _, rfl, rfl, SqL.of hpn2, en1, _, rfl, pc, _, 0, _, rfl, rfl, SqL.of hc, em0, r0, _, 1, _, rfl, rfl, SqT.of hr0, rfl, _, rfl, (by show 5 ≤ sizeLine; decide), fun z hz => q z (wd "load") [.s n0, .s n1, .n m0, .n (m1 - wd')] _ (gH.trans (same_new hz _)) (by rw [thV_wd]; exact upd_same) (gH.free hz) (any4 hn0 hn1 m00 m01 (by omega) (by omega) (by decide +kernel) (by decide +kernel) rfl) (Nat.le_of_ble_eq_true rfl)⟩
  refine ⟨_, rfl, rfl, _, rfl, ite2 (fun _ => ?_) (fun _ => ?_)⟩
  · exact ⟨_, rfl, pn, _, 0, _, rfl, rfl, SqL.of hpn2, en0, _, rfl, pc, _, 0, _, rfl, rfl, SqL.of hc, em0, r0, _, 1, _, rfl, rfl, SqT.of hr0, rfl, (by show 3 ≤ sizeLine; decide), fun z hz => q z (wd "award") [.s n0, .n m0] _ (gH.trans (same_new hz _)) (by rw [thV_wd]; exact upd_same) (gH.free hz) (any2 hn0 m00 m01 (by decide +kernel) (by decide +kernel) rfl) (Nat.le_of_ble_eq_true rfl)⟩
  refine ⟨_, rfl, rfl, _, rfl, ite2 (fun _ => ?_) (fun _ => ?_)⟩
  · exact ⟨_, rfl, pn, _, 0, _, rfl, rfl, SqL.of hpn2, en0, _, rfl, pc, _, 0, _, rfl, rfl, SqL.of hc, em0, r0, _, 1, _, rfl, rfl, SqT.of hr0, rfl, (by show 3 ≤ sizeLine; decide), fun z hz => q z (wd "mishap") [.s n0, .n m0] _ (gH.trans (same_new hz _)) (by rw [thV_wd]; exact upd_same) (gH.free hz) (any2 hn0 m00 m01 (by decide +kernel) (by decide +kernel) rfl) (Nat.le_of_ble_eq_true rfl)⟩
  refine ⟨_, rfl, rfl, _, rfl, ite2 (fun _ => ?_) (fun _ => ?_)⟩
  · exact ⟨_, rfl, pn, _, 0, _, rfl, rfl, SqL.of hpn2, en0, _, rfl, pc, _, 0, _, rfl, rfl, SqL.of hc, em0, r0, _, 1, _, rfl, rfl, SqT.of hr0, rfl, (by show 3 ≤ sizeLine; decide), fun z hz => q z (wd "rise") [.s n0, .n m0] _ (gH.trans (same_new hz _)) (by rw [thV_wd]; exact upd_same) (gH.free hz) (any2 hn0 m00 m01 (by decide +kernel) (by decide +kernel) rfl) (Nat.le_of_ble_eq_true rfl)⟩
  refine ⟨_, rfl, rfl, _, rfl, ite2 (fun _ => ?_) (fun _ => ?_)⟩
  · exact ⟨_, rfl, pn, _, 0, _, rfl, rfl, SqL.of hpn2, en0, _, rfl, pn, _, 1, _, rfl, rfl, SqL.of hpn2, en1, (by show 3 ≤ sizeLine; decide), fun z hz => q z (wd "hand") [.s n0, .s n1] _ (gH.trans (same_new hz _)) (by rw [thV_wd]; exact upd_same) (gH.free hz) (anyH hn0 hn1) (Nat.le_of_ble_eq_true rfl)⟩
  refine ⟨_, rfl, rfl, _, rfl, ite2 (fun _ => ?_) (fun _ => ?_)⟩
  · exact ⟨_, rfl, pn, _, 0, _, rfl, rfl, SqL.of hpn2, en0, (by show 2 ≤ sizeLine; decide), fun z hz => q z (wd "land") [.s n0] _ (gH.trans (same_new hz _)) (by rw [thV_wd]; exact upd_same) (gH.free hz) (anyL hn0) (Nat.le_of_ble_eq_true rfl)⟩
  refine ⟨_, rfl, rfl, _, rfl, ite2 (fun _ => ?_) (fun _ => ?_)⟩
  · exact ⟨_, rfl, pn, _, 0, _, rfl, rfl, SqL.of hpn2, en0, _, rfl, pn, _, 1, _, rfl, rfl, SqL.of hpn2, en1, _, rfl, pc, _, 0, _, rfl, rfl, SqL.of hc, em0, r0, _, 1, _, rfl, rfl, SqT.of hr0, rfl, _, rfl, (by show 5 ≤ sizeLine; decide), fun z hz => q z (wd "sever") [.s n0, .s n1, .n m0, .n (m1 - wd')] _ (gH.trans (same_new hz _)) (by rw [thV_wd]; exact upd_same) (gH.free hz) (any4 hn0 hn1 m00 m01 (by omega) (by omega) (by decide +kernel) (by decide +kernel) rfl) (Nat.le_of_ble_eq_true rfl)⟩
  refine ⟨_, rfl, rfl, _, rfl, ite2 (fun _ => ?_) (fun _ => ?_)⟩
  · exact ⟨(by show 1 ≤ sizeLine; decide), fun z hz => q z (wd "still") [] _ (gH.trans (same_new hz _)) (by rw [thV_wd]; exact upd_same) (gH.free hz) (anyS) (Nat.le_of_ble_eq_true rfl)⟩
  refine ⟨(by show 1 ≤ sizeLine; decide), fun pt hpt => ?_⟩
  generalize hH3 : upd H2 pt (HO.lst _) = H3
  have hH3' : upd H2 pt (.lst [.str "cast"]) = H3 := hH3
  have g3 : Same H2 H3 := hH3' ▸ same_new hpt (.lst [.str "cast"])
  have hpt3 : H3 pt = some (.lst [.str "cast"]) := by rw [← hH3', upd_same]
  refine ⟨_, rfl, _, rfl, _, rfl, _, _, rfl, rfl, use_draw (g3.seq hSg) h63 (by omega) (by decide) (by decide) (by decide) fun nd _ nd0 nd1 => ⟨_, _, rfl, rfl, _, rfl, pc, _, rfl, SqL.of (g3 _ _ hc), fun ps hps => ?_⟩⟩
  obtain ⟨n, en⟩ : ∃ n : Nat, 1 + nd = (n : Int) := ⟨(1 + nd).toNat, by omega⟩
  have hcut : cutV cv none (some (1 + nd)) = cv.take n := by rw [en, cutV_to]
  generalize hH4 : upd H3 ps (HO.lst _) = H4
  have hH4' : upd H3 ps (.lst (cutV cv none (some (1 + nd)))) = H4 := hH4
  have g4 : Same H3 H4 := hH4' ▸ same_new hps _
  have hps4 : H4 ps = some (.lst (cv.take n)) := by rw [← hH4', upd_same, hcut]
  have hPn := (hP.mono (g3.trans g4)).take n
  have hlen : (cv.take n).length = n := by rw [List.length_take]; omega
  have hfree : ∀ {z : Addr} {Hz : Hp}, Same H4 Hz → Hz z = none → H z = none := fun gz hz => (gH.trans (g3.trans (g4.trans gz))).free hz
  refine ⟨ps, rfl, ⟨_, SqL.of hps4⟩, ?_⟩
  refine for_list (K := K) (xs := cv.take n) (fun i σ H' => Same H4 H' ∧ ∃ (t : Addr) (s5 s9 : Option V), σ = [some (.ref a), some (.int k), some (.ref pn), some (.ref pc), s4, s5, some (.int way), some (.int (m1 - wd')), some (.ref t), s9] ∧ H' t = some (.lst (.str "cast" :: (flatP (cs.take i)).map Th.v)))
    ⟨Same.refl _, pt, s5, none, rfl, by rw [g4 _ _ hpt3]; rfl⟩ (fun i σ H' _ hp => SqL.of (hp.1 _ _ hps4)) ?_ ?_
  · rintro i x σ H' hx ⟨g', t, s5', s9, rfl, ht⟩
    obtain ⟨r, p, rfl, hq, hr⟩ := (hPn.mono g').get hx
    have hil : i < n := by have := (List.getElem?_eq_some_iff.mp hx).1; omega
    have hq2 : cs[i]? = some p := by rw [List.getElem?_take, if_pos hil] at hq; exact hq
    refine ⟨r, _, rfl, SqT.of hr, rfl, _, _, rfl, _, _, rfl, rfl, ?_⟩
    refine ⟨_, rfl, _, rfl, _, rfl, (by show 2 ≤ sizeLine; decide), fun u hu => ?_⟩
    generalize hH5 : upd H' u (HO.lst _) = H5
    have hH5' : upd H' u (.lst [.str (tx p.1), .int p.2]) = H5 := hH5
    have g5 : Same H' H5 := hH5' ▸ same_new hu _
    have hu5 : H5 u = some (.lst [.str (tx p.1), .int p.2]) := by rw [← hH5', upd_same]
    refine ⟨t, u, _, _, rfl, rfl, g5 _ _ ht, hu5, ?_, fun v hv => ⟨(g'.trans g5).trans (same_new hv _), v, _, _, rfl, ?_⟩⟩
    · rw [List.length_cons, List.length_map, flatP_len, List.length_take, sizeLine_eq]
      show _ + 2 ≤ _
      omega
    · rw [upd_same, List.take_add_one, hq2]
      show _ = some (HO.lst (_ :: List.map Th.v (flatP (cs.take i ++ [p]))))
      rw [flatP_snoc, List.map_append]
      rfl
  rintro σ H' ⟨g', t, s5', s9, rfl, ht⟩
  rw [hlen] at ht
  refine ⟨_, rfl, t, _, rfl, .inl ⟨SqL.of ht, fun l hl => q l (wd "cast") (flatP (cs.take n)) _ (gH.trans (g3.trans (g4.trans (g'.trans (same_new hl _))))) (by rw [thV_wd]; exact upd_same) (hfree g' hl) (anyC (fun p hp => hok p (List.mem_of_mem_take hp)) ?_ ?_) ?_⟩⟩
  · rw [List.length_take]; omega
  · rw [List.length_take]; omega
  · rw [flatP_len, List.length_take]; omega
abbrev sd__law_other_deed : Stmt := top 34
abbrev N__law_other_deed : List Str := ["_law_script", "_law_k", "_law_deed", "_law_way", "_law_at", "_law_word", "_law_thing", "_law_some"]
abbrev P__law_other_deed : List Str := ["_law_script", "_law_k", "_law_deed"]
theorem sc__law_other_deed : FnScope N__law_other_deed P__law_other_deed (defScope sd__law_other_deed) := ⟨rfl, rfl, rfl, by decide +kernel, rfl, by decide +kernel, by decide +kernel⟩
theorem ok__law_other_deed (F : At K mg "_law_other_deed" sd__law_other_deed f fd) (D__law_draw : Dn P w K mg base 1 "_law_draw" ["_law_script", "_law_k", "_law_j", "_law_many"] (spDraw K)) (m_len : mg "len" = none) (m_isinstance : mg "isinstance" = none) (m_str : mg "str" = none) : Dn P w K mg base 2 "_law_other_deed" P__law_other_deed (spOtherS K) := by
  refine F.ok sc__law_other_deed (fun vs H Q E h => ?_) (fun cdv A outer s H vs Q E hr h => ?_) (fun _ _ _ _ _ _ us hl => match us, hl with | [_, _, _], _ => rfl)
  · obtain ⟨a, d, ms, k, ds, rfl, _⟩ := h.ex
    rfl
  obtain ⟨a, d, ms, k, ds, rfl, hS, h63, hk, hd, ok, q⟩ := h.ex
  refine ⟨_, (@pss_cons _ _ _ _ _ (@ps_set _ _ (3) _ _ _ _ sc__law_other_deed.nd rfl (Or.inl rfl) (@pe_fn _ _ _ _ _ _ _ _ _ _ _ D__law_draw hr (@pa_cons _ _ _ _ _ (@pv _ 0 _ _ (by rfl) (by first | exact Or.inl rfl | exact Or.inr (Or.inl rfl) | exact Or.inr (Or.inr rfl)) (by decide) (by decide)) (@pa_cons _ _ _ _ _ (@pv _ 1 _ _ (by rfl) (by first | exact Or.inl rfl | exact Or.inr (Or.inl rfl) | exact Or.inr (Or.inr rfl)) (by decide) (by decide)) (@pa_cons _ _ _ _ _ (@pe_int _ _ _ _) (@pa_cons _ _ _ _ _ (@pe_int _ _ _ _) (@pa_nil _) (by rfl)) (by rfl)) (by rfl)) (by rfl)) (by decide) (by rfl) (by decide) (by rfl) (by rfl)) (by rfl) (by first | exact .inl rfl | exact .inr rfl | assumption)) (@pss_cons _ _ _ _ _ (@ps_set _ _ (4) _ _ _ _ sc__law_other_deed.nd rfl (Or.inl rfl) (@pe_fn _ _ _ _ _ _ _ _ _ _ _ D__law_draw hr (@pa_cons _ _ _ _ _ (@pv _ 0 _ _ (by rfl) (by first | exact Or.inl rfl | exact Or.inr (Or.inl rfl) | exact Or.inr (Or.inr rfl)) (by decide) (by decide)) (@pa_cons _ _ _ _ _ (@pv _ 1 _ _ (by rfl) (by first | exact Or.inl rfl | exact Or.inr (Or.inl rfl) | exact Or.inr (Or.inr rfl)) (by decide) (by decide)) (@pa_cons _ _ _ _ _ (@pe_int _ _ _ _) (@pa_cons _ _ _ _ _ (@pe_callB _ _ _ _ _ _ _ _ _ (call_lenK K) (by rfl) m_len PySem.boot_len (@pa_cons _ _ _ _ _ (@pv _ 2 _ _ (by rfl) (by first | exact Or.inl rfl | exact Or.inr (Or.inl rfl) | exact Or.inr (Or.inr rfl)) (by decide) (by decide)) (@pa_nil _) (by rfl)) (by decide) (by decide) (by rfl) (by rfl)) (@pa_nil _) (by rfl)) (by rfl)) (by rfl)) (by rfl)) (by decide) (by rfl) (by decide) (by rfl) (by rfl)) (by rfl) (by first | exact .inl rfl | exact .inr rfl | assumption)) (@pss_cons _ _ _ _ _ (@ps_set _ _ (5) _ _ _ _ sc__law_other_deed.nd rfl (Or.inl rfl) (@pe_lst _ _ _ _ (@pa_cons _ _ _ _ _ (@pe_str _ _ _ _) (@pa_cons _ _ _ _ _ (@pe_str _ _ _ _) (@pa_cons _ _ _ _ _ (@pe_str _ _ _ _) (@pa_cons _ _ _ _ _ (@pe_str _ _ _ _) (@pa_cons _ _ _ _ _ (@pe_str _ _ _ _) (@pa_cons _ _ _ _ _ (@pe_str _ _ _ _) (@pa_cons _ _ _ _ _ (@pe_str _ _ _ _) (@pa_cons _ _ _ _ _ (@pe_str _ _ _ _) (@pa_cons _ _ _ _ _ (@pe_str _ _ _ _) (@pa_nil _) (by rfl)) (by rfl)) (by rfl)) (by rfl)) (by rfl)) (by rfl)) (by rfl)) (by rfl)) (by rfl))) (by rfl) (by first | exact .inl rfl | exact .inr rfl | assumption)) (@pss_cons _ _ _ _ _ (@ps_set _ _ (5) _ _ _ _ sc__law_other_deed.nd rfl (Or.inl rfl) (@pe_op _ _ _ _ _ _ _ _ op_cat (@pv _ 5 _ _ (by rfl) (by first | exact Or.inl rfl | exact Or.inr (Or.inl rfl) | exact Or.inr (Or.inr rfl)) (by decide) (by decide)) (@pe_lst _ _ _ _ (@pa_cons _ _ _ _ _ (@pe_str _ _ _ _) (@pa_cons _ _ _ _ _ (@pe_str _ _ _ _) (@pa_cons _ _ _ _ _ (@pe_str _ _ _ _) (@pa_cons _ _ _ _ _ (@pe_str _ _ _ _) (@pa_cons _ _ _ _ _ (@pe_str _ _ _ _) (@pa_cons _ _ _ _ _ (@pe_str _ _ _ _) (@pa_cons _ _ _ _ _ (@pe_str _ _ _ _) (@pa_cons _ _ _ _ _ (@pe_str _ _ _ _) (@pa_cons _ _ _ _ _ (@pe_str _ _ _ _) (@pa_nil _) (by rfl)) (by rfl)) (by rfl)) (by rfl)) (by rfl)) (by rfl)) (by rfl)) (by rfl)) (by rfl)))) (by rfl) (by first | exact .inl rfl | exact .inr rfl | assumption)) (@pss_cons _ _ _ _ _ (@ps_set _ _ (6) _ _ _ _ sc__law_other_deed.nd rfl (Or.inl rfl) (@pe_ix _ _ _ _ _ _ _ (ix_listK K) (@pv _ 5 _ _ (by rfl) (by first | exact Or.inl rfl | exact Or.inr (Or.inl rfl) | exact Or.inr (Or.inr rfl)) (by decide) (by decide)) (@pe_fn _ _ _ _ _ _ _ _ _ _ _ D__law_draw hr (@pa_cons _ _ _ _ _ (@pv _ 0 _ _ (by rfl) (by first | exact Or.inl rfl | exact Or.inr (Or.inl rfl) | exact Or.inr (Or.inr rfl)) (by decide) (by decide)) (@pa_cons _ _ _ _ _ (@pv _ 1 _ _ (by rfl) (by first | exact Or.inl rfl | exact Or.inr (Or.inl rfl) | exact Or.inr (Or.inr rfl)) (by decide) (by decide)) (@pa_cons _ _ _ _ _ (@pe_int _ _ _ _) (@pa_cons _ _ _ _ _ (@pe_callB _ _ _ _ _ _ _ _ _ (call_lenK K) (by rfl) m_len PySem.boot_len (@pa_cons _ _ _ _ _ (@pv _ 5 _ _ (by rfl) (by first | exact Or.inl rfl | exact Or.inr (Or.inl rfl) | exact Or.inr (Or.inr rfl)) (by decide) (by decide)) (@pa_nil _) (by rfl)) (by decide) (by decide) (by rfl) (by rfl)) (@pa_nil _) (by rfl)) (by rfl)) (by rfl)) (by rfl)) (by decide) (by rfl) (by decide) (by rfl) (by rfl)) (fun _ _ => rfl)) (by rfl) (by first | exact .inl rfl | exact .inr rfl | assumption)) (@pss_cons _ _ _ _ _ (@ps_ifJ _ _ _ _ _ _ _ _ (@pt_cmpR _ _ _ _ _ _ _ _ op_eq (@pe_fn _ _ _ _ _ _ _ _ _ _ _ D__law_draw hr (@pa_cons _ _ _ _ _ (@pv _ 0 _ _ (by rfl) (by first | exact Or.inl rfl | exact Or.inr (Or.inl rfl) | exact Or.inr (Or.inr rfl)) (by decide) (by decide)) (@pa_cons _ _ _ _ _ (@pv _ 1 _ _ (by rfl) (by first | exact Or.inl rfl | exact Or.inr (Or.inl rfl) | exact Or.inr (Or.inr rfl)) (by decide) (by decide)) (@pa_cons _ _ _ _ _ (@pe_int _ _ _ _) (@pa_cons _ _ _ _ _ (@pe_int _ _ _ _) (@pa_nil _) (by rfl)) (by rfl)) (by rfl)) (by rfl)) (by decide) (by rfl) (by decide) (by rfl) (by rfl)) (@pe_int _ _ _ _) (nomark _)) (@pss_cons _ _ _ _ _ (@ps_set _ _ (7) _ _ _ _ sc__law_other_deed.nd rfl (Or.inl rfl) (@pe_lst _ _ _ _ (@pa_cons _ _ _ _ _ (@pe_int _ _ _ _) (@pa_cons _ _ _ _ _ (@pe_un _ _ _ _ _ _ un_neg (@pe_int _ _ _ _)) (@pa_cons _ _ _ _ _ (@pe_int _ _ _ _) (@pa_cons _ _ _ _ _ (@pe_op _ _ _ _ _ _ _ _ op_add (@pe_op _ _ _ _ _ _ _ _ op_pow (@pe_int _ _ _ _) (@pe_int _ _ _ _)) (@pe_int _ _ _ _)) (@pa_cons _ _ _ _ _ (@pe_op _ _ _ _ _ _ _ _ op_pow (@pe_int _ _ _ _) (@pe_int _ _ _ _)) (@pa_cons _ _ _ _ _ (@pe_int _ _ _ _) (@pa_cons _ _ _ _ _ (@pe_op _ _ _ _ _ _ _ _ op_sub (@pe_int _ _ _ _) (@pe_op _ _ _ _ _ _ _ _ op_pow (@pe_int _ _ _ _) (@pe_int _ _ _ _))) (@pa_cons _ _ _ _ _ (@pe_op _ _ _ _ _ _ _ _ op_pow (@pe_int _ _ _ _) (@pe_int _ _ _ _)) (@pa_nil _) (by rfl)) (by rfl)) (by rfl)) (by rfl)) (by rfl)) (by rfl)) (by rfl)) (by rfl))) (by rfl) (by first | exact .inl rfl | exact .inr rfl | assumption)) (@pss_one _ _ _ (@ps_set _ _ (6) _ _ _ _ sc__law_other_deed.nd rfl (Or.inl rfl) (@pe_ix _ _ _ _ _ _ _ (ix_listK K) (@pv _ 7 _ _ (by rfl) (by first | exact Or.inl rfl | exact Or.inr (Or.inl rfl) | exact Or.inr (Or.inr rfl)) (by decide) (by decide)) (@pe_fn _ _ _ _ _ _ _ _ _ _ _ D__law_draw hr (@pa_cons _ _ _ _ _ (@pv _ 0 _ _ (by rfl) (by first | exact Or.inl rfl | exact Or.inr (Or.inl rfl) | exact Or.inr (Or.inr rfl)) (by decide) (by decide)) (@pa_cons _ _ _ _ _ (@pv _ 1 _ _ (by rfl) (by first | exact Or.inl rfl | exact Or.inr (Or.inl rfl) | exact Or.inr (Or.inr rfl)) (by decide) (by decide)) (@pa_cons _ _ _ _ _ (@pe_int _ _ _ _) (@pa_cons _ _ _ _ _ (@pe_callB _ _ _ _ _ _ _ _ _ (call_lenK K) (by rfl) m_len PySem.boot_len (@pa_cons _ _ _ _ _ (@pv _ 7 _ _ (by rfl) (by first | exact Or.inl rfl | exact Or.inr (Or.inl rfl) | exact Or.inr (Or.inr rfl)) (by decide) (by decide)) (@pa_nil _) (by rfl)) (by decide) (by decide) (by rfl) (by rfl)) (@pa_nil _) (by rfl)) (by rfl)) (by rfl)) (by rfl)) (by decide) (by rfl) (by decide) (by rfl) (by rfl)) (fun _ _ => rfl)) (by rfl) (by first | exact .inl rfl | exact .inr rfl | assumption)))) (@pss_nil _)) (@pss_cons _ _ _ _ _ (@ps_if _ _ _ _ _ _ _ _ (@pt_pure _ _ _ (PW.pt (@pw_and _ _ _ _ _ _ _ (@pt_cmpR _ _ _ _ _ _ _ _ op_eq (@pv _ 3 _ _ (by rfl) (by first | exact Or.inl rfl | exact Or.inr (Or.inl rfl) | exact Or.inr (Or.inr rfl)) (by decide) (by decide)) (@pe_int _ _ _ _) (nomark _)) (@pw_and1 _ _ _ _ (@pt_cmpR _ _ _ _ _ _ _ _ op_gt (@pv _ 4 _ _ (by rfl) (by first | exact Or.inl rfl | exact Or.inr (Or.inl rfl) | exact Or.inr (Or.inr rfl)) (by decide) (by decide)) (@pe_int _ _ _ _) (nomark _)))))) (@pss_one _ _ _ (@ps_ret _ _ _ _ (@pe_slice _ _ _ _ _ _ _ _ _ _ (sl_tupK K) (@pv _ 2 _ _ (by rfl) (by first | exact Or.inl rfl | exact Or.inr (Or.inl rfl) | exact Or.inr (Or.inr rfl)) (by decide) (by decide)) (@po_none _) (@po_some _ _ _ (@pv _ 4 _ _ (by rfl) (by first | exact Or.inl rfl | exact Or.inr (Or.inl rfl) | exact Or.inr (Or.inr rfl)) (by decide) (by decide)))))) (@pss_nil _)) (@pss_cons _ _ _ _ _ (@ps_if _ _ _ _ _ _ _ _ (@pt_cmpR _ _ _ _ _ _ _ _ op_eq (@pv _ 3 _ _ (by rfl) (by first | exact Or.inl rfl | exact Or.inr (Or.inl rfl) | exact Or.inr (Or.inr rfl)) (by decide) (by decide)) (@pe_int _ _ _ _) (nomark _)) (@pss_one _ _ _ (@ps_ret _ _ _ _ (@pe_op _ _ _ _ _ _ _ _ (op_catG K) (@pv _ 2 _ _ (by rfl) (by first | exact Or.inl rfl | exact Or.inr (Or.inl rfl) | exact Or.inr (Or.inr rfl)) (by decide) (by decide)) (@pe_tup _ _ _ _ _ (@pa_cons _ _ _ _ _ (@pv _ 6 _ _ (by rfl) (by first | exact Or.inl rfl | exact Or.inr (Or.inl rfl) | exact Or.inr (Or.inr rfl)) (by decide) (by decide)) (@pa_nil _) (by rfl)))))) (@pss_nil _)) (@pss_cons _ _ _ _ _ (@ps_if _ _ _ _ _ _ _ _ (@pt_pure _ _ _ (PW.pt (@pw_and _ _ _ _ _ _ _ (@pt_cmpR _ _ _ _ _ _ _ _ op_eq (@pv _ 3 _ _ (by rfl) (by first | exact Or.inl rfl | exact Or.inr (Or.inl rfl) | exact Or.inr (Or.inr rfl)) (by decide) (by decide)) (@pe_int _ _ _ _) (nomark _)) (@pw_and1 _ _ _ _ (@pt_cmpR _ _ _ _ _ _ _ _ op_gt (@pv _ 4 _ _ (by rfl) (by first | exact Or.inl rfl | exact Or.inr (Or.inl rfl) | exact Or.inr (Or.inr rfl)) (by decide) (by decide)) (@pe_int _ _ _ _) (nomark _)))))) (@pss_one _ _ _ (@ps_ret _ _ _ _ (@pe_op _ _ _ _ _ _ _ _ (op_catG K) (@pe_slice _ _ _ _ _ _ _ _ _ _ (sl_tupK K) (@pv _ 2 _ _ (by rfl) (by first | exact Or.inl rfl | exact Or.inr (Or.inl rfl) | exact Or.inr (Or.inr rfl)) (by decide) (by decide)) (@po_none _) (@po_some _ _ _ (@pv _ 4 _ _ (by rfl) (by first | exact Or.inl rfl | exact Or.inr (Or.inl rfl) | exact Or.inr (Or.inr rfl)) (by decide) (by decide)))) (@pe_slice _ _ _ _ _ _ _ _ _ _ (sl_tupK K) (@pv _ 2 _ _ (by rfl) (by first | exact Or.inl rfl | exact Or.inr (Or.inl rfl) | exact Or.inr (Or.inr rfl)) (by decide) (by decide)) (@po_some _ _ _ (@pe_op _ _ _ _ _ _ _ _ op_add (@pv _ 4 _ _ (by rfl) (by first | exact Or.inl rfl | exact Or.inr (Or.inl rfl) | exact Or.inr (Or.inr rfl)) (by decide) (by decide)) (@pe_int _ _ _ _))) (@po_none _))))) (@pss_nil _)) (@pss_cons _ _ _ _ _ (@ps_if _ _ _ _ _ _ _ _ (@pt_pure _ _ _ (PW.pt (@pw_or _ _ _ _ _ _ _ (@pt_pure _ _ _ (PW.pt (@pw_and _ _ _ _ _ _ _ (@pt_cmpR _ _ _ _ _ _ _ _ op_eq (@pv _ 3 _ _ (by rfl) (by first | exact Or.inl rfl | exact Or.inr (Or.inl rfl) | exact Or.inr (Or.inr rfl)) (by decide) (by decide)) (@pe_int _ _ _ _) (nomark _)) (@pw_and1 _ _ _ _ (@pt_cmpR _ _ _ _ _ _ _ _ op_gt (@pv _ 4 _ _ (by rfl) (by first | exact Or.inl rfl | exact Or.inr (Or.inl rfl) | exact Or.inr (Or.inr rfl)) (by decide) (by decide)) (@pe_int _ _ _ _) (nomark _)))))) (@pw_or1 _ _ _ _ (@pt_pure _ _ _ (PW.pt (@pw_and _ _ _ _ _ _ _ (@pt_cmpR _ _ _ _ _ _ _ _ op_eq (@pv _ 3 _ _ (by rfl) (by first | exact Or.inl rfl | exact Or.inr (Or.inl rfl) | exact Or.inr (Or.inr rfl)) (by decide) (by decide)) (@pe_int _ _ _ _) (nomark _)) (@pw_and1 _ _ _ _ (@pt_val _ _ _ (@pe_callB _ _ _ _ _ _ _ _ _ (call_isinstK K) (by rfl) m_isinstance PyProof.Rows.boot_isinstance (@pa_cons _ _ _ _ _ (@pv _ 6 _ _ (by rfl) (by first | exact Or.inl rfl | exact Or.inr (Or.inl rfl) | exact Or.inr (Or.inr rfl)) (by decide) (by decide)) (@pa_cons _ _ _ _ _ (@pe_ty _ _ _ _ PyProof.Rows.boot_str rfl m_str (by decide) (by decide)) (@pa_nil _) (by rfl)) (by rfl)) (by decide) (by decide) (by rfl) (by rfl)) (by intro _; rfl)))))))))) (@pss_one _ _ _ (@ps_ret _ _ _ _ (@pe_op _ _ _ _ _ _ _ _ (op_catG K) (@pe_op _ _ _ _ _ _ _ _ (op_catG K) (@pe_slice _ _ _ _ _ _ _ _ _ _ (sl_tupK K) (@pv _ 2 _ _ (by rfl) (by first | exact Or.inl rfl | exact Or.inr (Or.inl rfl) | exact Or.inr (Or.inr rfl)) (by decide) (by decide)) (@po_none _) (@po_some _ _ _ (@pv _ 4 _ _ (by rfl) (by first | exact Or.inl rfl | exact Or.inr (Or.inl rfl) | exact Or.inr (Or.inr rfl)) (by decide) (by decide)))) (@pe_tup _ _ _ _ _ (@pa_cons _ _ _ _ _ (@pv _ 6 _ _ (by rfl) (by first | exact Or.inl rfl | exact Or.inr (Or.inl rfl) | exact Or.inr (Or.inr rfl)) (by decide) (by decide)) (@pa_nil _) (by rfl)))) (@pe_slice _ _ _ _ _ _ _ _ _ _ (sl_tupK K) (@pv _ 2 _ _ (by rfl) (by first | exact Or.inl rfl | exact Or.inr (Or.inl rfl) | exact Or.inr (Or.inr rfl)) (by decide) (by decide)) (@po_some _ _ _ (@pe_op _ _ _ _ _ _ _ _ op_add (@pv _ 4 _ _ (by rfl) (by first | exact Or.inl rfl | exact Or.inr (Or.inl rfl) | exact Or.inr (Or.inr rfl)) (by decide) (by decide)) (@pe_int _ _ _ _))) (@po_none _))))) (@pss_nil _)) (@pss_one _ _ _ (@ps_ret _ _ _ _ (@pv _ 2 _ _ (by rfl) (by first | exact Or.inl rfl | exact Or.inr (Or.inl rfl) | exact Or.inr (Or.inr rfl)) (by decide) (by decide)))))))))))))), ?_⟩
  have P9 : CPow 10 9 := ⟨by decide, by decide, by decide +kernel⟩
  have P25 : CPow 10 25 := ⟨by decide, by decide, by decide +kernel⟩
  have hpos := ok.pos
  have hl3 := ok.len
  have hdl := thV_len ds
  refine ⟨_, rfl, _, rfl, use_draw hS h63 hk (by decide) (by decide) (by decide) fun way _ w0 w1 => ?_⟩
  refine ⟨_, rfl, _, rfl, _, rfl, d, _, rfl, .inr hd, ?_⟩
  rw [hdl]
  refine use_draw hS h63 hk (by decide) (by decide) (by omega) fun at' _ a0 a1 => ?_
  refine ⟨(by show 9 ≤ sizeLine; decide), fun p1 hp1 => ?_⟩
  generalize hH1 : upd H p1 (HO.lst _) = H1
  have hH1' : upd H p1 (.lst (words18a.map V.str)) = H1 := hH1
  have g1 : Same H H1 := hH1' ▸ same_new hp1 _
  have hp11 : H1 p1 = some (.lst (words18a.map V.str)) := by rw [← hH1', upd_same]
  clear hH1 hH1'
  refine ⟨_, rfl, (by show 9 ≤ sizeLine; decide), fun p2 hp2 => ?_⟩
  generalize hH2 : upd H1 p2 (HO.lst _) = H2
  have hH2' : upd H1 p2 (.lst (words18b.map V.str)) = H2 := hH2
  have g2 : Same H1 H2 := hH2' ▸ same_new hp2 _
  have hp22 : H2 p2 = some (.lst (words18b.map V.str)) := by rw [← hH2', upd_same]
  clear hH2 hH2'
  refine ⟨p1, p2, _, _, rfl, rfl, g2 _ _ hp11, hp22, (by show 18 ≤ sizeLine; decide), fun p3 hp3 => ?_⟩
  generalize hH3 : upd H2 p3 (HO.lst _) = H3
  have hH3' : upd H2 p3 (.lst (words18a.map V.str ++ words18b.map V.str)) = H3 := hH3
  have g3 : Same H2 H3 := hH3' ▸ same_new hp3 _
  have hp33 : H3 p3 = some (.lst (words18a.map V.str ++ words18b.map V.str)) := by rw [← hH3', upd_same]
  clear hH3 hH3'
  have g03 := g1.trans (g2.trans g3)
  have hS3 := g03.seq hS
  have hd3 := g03.tup hd
  refine ⟨_, rfl, _, rfl, _, rfl, _, rfl, p3, _, rfl, .inl (SqL.of hp33), use_draw hS3 h63 hk (by decide) (by decide) (by show (0 : Int) < 18; decide) fun j _ j0 j1 => ?_⟩
  obtain ⟨v, hv, hat⟩ := at_some (xs := words18a.map V.str ++ words18b.map V.str) j0 j1
  obtain ⟨t0, rfl, ok0⟩ := words18_ty v hv
  refine ⟨p3, _, _, _, rfl, rfl, SqL.of hp33, hat, ?_⟩
  refine ⟨fun σ H' => Same H3 H' ∧ ∃ (t : Th) (s7 : Option V), σ = [some (.ref a), some (.int k), some (.ref d), some (.int way), some (.int at'), some (.ref p3), some t.v, s7] ∧ tinyT t, ?_, ?_⟩
  · refine ⟨_, rfl, _, rfl, use_draw hS3 h63 hk (by decide) (by decide) (by decide) fun b _ _ _ => ⟨rfl, _, rfl, ite2 (fun _ => ?_) (fun _ => ?_)⟩⟩
    · refine ⟨_, rfl, _, _, rfl, rfl, P9, _, _, rfl, rfl, _, _, rfl, rfl, P25, _, _, rfl, rfl, P9, _, _, rfl, rfl, _, _, rfl, rfl, P9, (by show 8 ≤ sizeLine; decide), fun p4 hp4 => ?_⟩
      generalize hH4 : upd H3 p4 (HO.lst _) = H4
      have hH4' : upd H3 p4 (.lst ([0, -1, 1, (10 : Int) ^ (9 : Int).toNat + 1, (10 : Int) ^ (25 : Int).toNat, 5, 0 - (10 : Int) ^ (9 : Int).toNat, (10 : Int) ^ (9 : Int).toNat].map V.int)) = H4 := hH4
      generalize hL : [0, -1, 1, (10 : Int) ^ (9 : Int).toNat + 1, (10 : Int) ^ (25 : Int).toNat, 5, 0 - (10 : Int) ^ (9 : Int).toNat, (10 : Int) ^ (9 : Int).toNat] = L at hH4'
      have hLl : L.length = 8 := by rw [← hL]; rfl
      have g4 : Same H3 H4 := hH4' ▸ same_new hp4 _
      have hp44 : H4 p4 = some (.lst (L.map V.int)) := by rw [← hH4', upd_same]
      clear hH4 hH4'
      have hll : ((L.map V.int).length : Int) = 8 := by rw [List.length_map, hLl]; rfl
      refine ⟨_, rfl, _, rfl, _, rfl, _, rfl, p4, _, rfl, .inl (SqL.of hp44), use_draw (g4.seq hS3) h63 hk (by decide) (by decide) (by rw [hll]; decide) fun j _ j0 j1 => ?_⟩
      obtain ⟨v, hv, hat⟩ := at_some j0 j1
      obtain ⟨i, hiL, rfl⟩ := List.mem_map.mp hv
      exact ⟨p4, _, _, _, rfl, rfl, SqL.of hp44, hat, g4, .n i, _, rfl, otherN_ty i (by rw [← hL] at hiL; exact hiL)⟩
    · exact ⟨Same.refl _, t0, none, rfl, ok0⟩
  clear hat hv ok0 t0
  rintro σ H4 ⟨g4, t, s7, rfl, okt⟩
  have g04 := g03.trans g4
  have hd4 := g04.tup hd
  obtain ⟨i, rfl⟩ : ∃ i : Nat, at' = (i : Int) := ⟨at'.toNat, by omega⟩
  have hi : i < ds.length := by omega
  have cutL : cutV (thV ds) none (some (i : Int)) = thV (ds.take i) := by rw [cutV_to, map_take_th]
  have cutR : cutV (thV ds) (some ((i : Int) + 1)) none = thV (ds.drop (i + 1)) := by rw [show (i : Int) + 1 = ((i + 1 : Nat) : Int) by omega, cutV_from, map_drop_th]
  have nwL : ¬ (HT.sIx (thV ds).length 0 none = 0 ∧ HT.sIx (thV ds).length (thV ds).length (some (i : Int)) = (thV ds).length) := by rw [HT.sIx_nat, hdl]; omega
  have nwR : ¬ (HT.sIx (thV ds).length 0 (some ((i : Int) + 1)) = 0 ∧ HT.sIx (thV ds).length (thV ds).length none = (thV ds).length) := by rw [show (i : Int) + 1 = ((i + 1 : Nat) : Int) by omega, HT.sIx_nat, hdl]; omega
  refine ⟨decide (way = 1) && decide (0 < (i : Int)), ?_, ?_⟩
  · refine ⟨_, rfl, rfl, _, rfl, ?_⟩
    by_cases h1 : way = 1
    · rw [decide_eq_true (by rw [h1] : V.int way = V.int 1), decide_eq_true h1, Bool.true_and]
      exact iteT ⟨_, rfl, _, _, rfl, rfl, _, rfl, rfl, rfl⟩
    · rw [decide_eq_false (fun z => h1 (V.int.inj z) : ¬ V.int way = V.int 1), decide_eq_false h1, Bool.false_and]
      exact iteF ⟨rfl, rfl⟩
  refine ite2 (fun c => ?_) (fun _ => ?_)
  · have hi0 : 0 < i := by have := of_decide_eq_true (Bool.and_eq_true_iff.mp c).2; omega
    refine ⟨_, rfl, _, rfl, _, rfl, d, _, rfl, hd4, nwL, fun p hp => ?_⟩
    have hc : SqT K (upd H4 p (.tup (cutV (thV ds) none (some (i : Int))))) p (thV (ds.take i)) := by rw [cutL]; exact SqT.of upd_same
    exact q p (ds.take i) _ (g04.trans (same_new hp _)) hc (ok.take hi0 (by omega))
  refine ⟨_, rfl, rfl, _, rfl, ite2 (fun _ => ?_) (fun _ => ?_)⟩
  · refine ⟨_, rfl, _, rfl, (by show 1 ≤ sizeLine; decide), fun p hp => ?_⟩
    have g5 := same_new hp (.tup [t.v])
    exact ⟨d, p, _, [t.v], rfl, rfl, g5.tup hd4, SqT.of upd_same, (by rw [hdl, sizeLine_eq]; show _ + 1 ≤ _; omega), (fun e => absurd e (thV_ne hpos)), (fun _ e => nomatch e), fun _ _ z hz => q z (ds ++ [t]) _ (g04.trans (g5.trans (same_new hz _))) (by rw [thV_app]; exact SqT.of upd_same) (ok.cat (fun t' ht => by rw [List.mem_singleton.mp ht]; exact okt) (by show _ + 1 ≤ _; omega))⟩
  refine ⟨decide (way = 3) && decide (0 < (i : Int)), ?_, ?_⟩
  · refine ⟨_, rfl, rfl, _, rfl, ?_⟩
    by_cases h1 : way = 3
    · rw [decide_eq_true (by rw [h1] : V.int way = V.int 3), decide_eq_true h1, Bool.true_and]
      exact iteT ⟨_, rfl, _, _, rfl, rfl, _, rfl, rfl, rfl⟩
    · rw [decide_eq_false (fun z => h1 (V.int.inj z) : ¬ V.int way = V.int 3), decide_eq_false h1, Bool.false_and]
      exact iteF ⟨rfl, rfl⟩
  refine ite2 (fun c => ?_) (fun _ => ?_)
  · have hi0 : 0 < i := by have := of_decide_eq_true (Bool.and_eq_true_iff.mp c).2; omega
    refine ⟨_, rfl, _, rfl, _, rfl, d, _, rfl, hd4, nwL, fun p hp => ?_⟩
    have hc : SqT K (upd H4 p (.tup (cutV (thV ds) none (some (i : Int))))) p (thV (ds.take i)) := by rw [cutL]; exact SqT.of upd_same
    have g5 := same_new hp (.tup (cutV (thV ds) none (some (i : Int))))
    have hlt : (ds.take i).length = i := by rw [List.length_take]; omega
    have hdk : DeedT (ds.take i) (ds.length + 1) := ok.take hi0 (by omega)
    refine ⟨_, rfl, _, rfl, _, _, rfl, rfl, _, rfl, d, _, rfl, g5.tup hd4, nwR, fun p3 hp3 => ?_⟩
    have hc3 : SqT K (upd (upd H4 p (.tup (cutV (thV ds) none (some (i : Int))))) p3 (.tup (cutV (thV ds) (some ((i : Int) + 1)) none))) p3 (thV (ds.drop (i + 1))) := by rw [cutR]; exact SqT.of upd_same
    have g3' := same_new hp3 (.tup (cutV (thV ds) (some ((i : Int) + 1)) none))
    refine ⟨p, p3, _, _, rfl, rfl, g3'.tup hc, hc3, (by rw [thV_len, thV_len, hlt, List.length_drop, sizeLine_eq]; omega), (fun e => absurd e (thV_ne (by rw [hlt]; exact hi0))), (fun _ _ => q _ _ _ (g04.trans (g5.trans g3')) (g3'.tup hc) hdk), fun _ _ z hz => q z (ds.take i ++ ds.drop (i + 1)) _ (g04.trans (g5.trans (g3'.trans (same_new hz _)))) (SqT.of (upd_same.trans (congrArg (fun l => some (HO.tup l)) (thV_app _ _).symm))) (DeedT.cat hdk (fun t ht => ok.ok t (List.mem_of_mem_drop ht)) (by rw [hlt, List.length_drop]; omega))⟩
  refine ⟨(decide (way = 4) && decide (0 < (i : Int))) || (decide (way = 5) && isS t), ?_, ?_⟩
  · refine ⟨decide (way = 4) && decide (0 < (i : Int)), ?_, ?_⟩
    · refine ⟨_, rfl, rfl, _, rfl, ?_⟩
      by_cases h1 : way = 4
      · rw [decide_eq_true (by rw [h1] : V.int way = V.int 4), decide_eq_true h1, Bool.true_and]
        exact iteT ⟨_, rfl, _, _, rfl, rfl, _, rfl, rfl, rfl⟩
      · rw [decide_eq_false (fun z => h1 (V.int.inj z) : ¬ V.int way = V.int 4), decide_eq_false h1, Bool.false_and]
        exact iteF ⟨rfl, rfl⟩
    cases hb : (decide (way = 4) && decide (0 < (i : Int))) with
    | true => exact iteT ⟨rfl, rfl⟩
    | false =>
      refine iteF ⟨decide (way = 5) && isS t, ?_, rfl, rfl⟩
      refine ⟨_, rfl, rfl, _, rfl, ?_⟩
      by_cases h1 : way = 5
      · rw [decide_eq_true (by rw [h1] : V.int way = V.int 5), decide_eq_true h1, Bool.true_and]
        refine iteT ?_
        cases t with
        | s cs => exact ⟨_, rfl, _, _, _, _, rfl, TyOf.str _, isi_same, _, rfl, rfl, rfl⟩
        | n j => exact ⟨_, rfl, _, _, _, _, rfl, TyOf.int _, isi_int_str, _, rfl, rfl, rfl⟩
      · rw [decide_eq_false (fun z => h1 (V.int.inj z) : ¬ V.int way = V.int 5), decide_eq_false h1, Bool.false_and]
        exact iteF ⟨rfl, rfl⟩
  refine ite2 (fun c => ?_) (fun _ => ?_)
  · have hlt : (ds.take i).length = i := by rw [List.length_take]; omega
    have hlt1 : (ds.take i ++ [t]).length = i + 1 := by rw [List.length_append, hlt]; rfl
    have hdk : DeedT (ds.take i ++ [t]) (ds.length + 1) := by
      rcases Bool.or_eq_true_iff.mp c with z | z
      · have hi0 : 0 < i := by have := of_decide_eq_true (Bool.and_eq_true_iff.mp z).2; omega
        exact (ok.take (m := ds.length) hi0 (by omega)).cat (fun t' ht => by rw [List.mem_singleton.mp ht]; exact okt) (by rw [hlt]; show _ + 1 ≤ _; omega)
      · by_cases hi0 : 0 < i
        · exact (ok.take (m := ds.length) hi0 (by omega)).cat (fun t' ht => by rw [List.mem_singleton.mp ht]; exact okt) (by rw [hlt]; show _ + 1 ≤ _; omega)
        · have e0 : i = 0 := by omega
          subst e0
          cases t with
          | s cs => exact ⟨⟨cs, [], rfl⟩, fun t' ht => by rw [List.mem_singleton.mp ht]; exact okt, by show 1 ≤ _; omega⟩
          | n j => exact absurd (Bool.and_eq_true_iff.mp z).2 Bool.false_ne_true
    refine ⟨_, rfl, _, rfl, _, rfl, d, _, rfl, hd4, nwL, fun p hp => ?_⟩
    have hc : SqT K (upd H4 p (.tup (cutV (thV ds) none (some (i : Int))))) p (thV (ds.take i)) := by rw [cutL]; exact SqT.of upd_same
    have g5 := same_new hp (.tup (cutV (thV ds) none (some (i : Int))))
    generalize hH5 : upd H4 p (.tup (cutV (thV ds) none (some (i : Int)))) = H5 at hc g5
    refine ⟨_, rfl, (by show 1 ≤ sizeLine; decide), fun p' hp' => ?_⟩
    have g6 := same_new hp' (.tup [t.v])
    have g56 := g5.trans g6
    have hp6 : SqT K (upd H5 p' (.tup [t.v])) p' [t.v] := SqT.of upd_same
    have hc6 := g6.tup hc
    refine ⟨p, p', _, [t.v], rfl, rfl, hc6, hp6, (by rw [thV_len, hlt, sizeLine_eq]; show _ + 1 ≤ _; omega), (fun e => ?_), (fun _ e => nomatch e), fun _ _ u hu => ?_⟩
    · have e0 : ds.take i = [] := List.map_eq_nil_iff.mp e
      have hu6 : SqT K (upd H5 p' (.tup [t.v])) p' (thV (ds.take i ++ [t])) := by rw [e0]; exact hp6
      refine ⟨_, rfl, _, rfl, _, _, rfl, rfl, _, rfl, d, _, rfl, g56.tup hd4, nwR, fun p3 hp3 => ?_⟩
      have hc3 : SqT K (upd (upd H5 p' (.tup [t.v])) p3 (.tup (cutV (thV ds) (some ((i : Int) + 1)) none))) p3 (thV (ds.drop (i + 1))) := by rw [cutR]; exact SqT.of upd_same
      have g3' := same_new hp3 (.tup (cutV (thV ds) (some ((i : Int) + 1)) none))
      refine ⟨p', p3, _, _, rfl, rfl, g3'.tup hu6, hc3, (by rw [thV_len, thV_len, hlt1, List.length_drop, sizeLine_eq]; omega), (fun e => absurd e (thV_ne (by rw [hlt1]; omega))), (fun _ _ => q _ _ _ (g04.trans (g56.trans g3')) (g3'.tup hu6) hdk), fun _ _ z hz => q z (ds.take i ++ [t] ++ ds.drop (i + 1)) _ (g04.trans (g56.trans (g3'.trans (same_new hz _)))) (SqT.of (upd_same.trans (congrArg (fun l => some (HO.tup l)) (thV_app _ _).symm))) (DeedT.cat hdk (fun t ht => ok.ok t (List.mem_of_mem_drop ht)) (by rw [hlt1, List.length_drop]; omega))⟩
    · have g7 := same_new hu (.tup (thV (ds.take i) ++ [t.v]))
      have g567 := g56.trans g7
      have hu7 : SqT K (upd (upd H5 p' (.tup [t.v])) u (.tup (thV (ds.take i) ++ [t.v]))) u (thV (ds.take i ++ [t])) := by rw [thV_app]; exact SqT.of upd_same
      refine ⟨_, rfl, _, rfl, _, _, rfl, rfl, _, rfl, d, _, rfl, g567.tup hd4, nwR, fun p3 hp3 => ?_⟩
      have hc3 : SqT K (upd (upd (upd H5 p' (.tup [t.v])) u (.tup (thV (ds.take i) ++ [t.v]))) p3 (.tup (cutV (thV ds) (some ((i : Int) + 1)) none))) p3 (thV (ds.drop (i + 1))) := by rw [cutR]; exact SqT.of upd_same
      have g3' := same_new hp3 (.tup (cutV (thV ds) (some ((i : Int) + 1)) none))
      refine ⟨u, p3, _, _, rfl, rfl, g3'.tup hu7, hc3, (by rw [thV_len, thV_len, hlt1, List.length_drop, sizeLine_eq]; omega), (fun e => absurd e (thV_ne (by rw [hlt1]; omega))), (fun _ _ => q _ _ _ (g04.trans (g567.trans g3')) (g3'.tup hu7) hdk), fun _ _ z hz => q z (ds.take i ++ [t] ++ ds.drop (i + 1)) _ (g04.trans (g567.trans (g3'.trans (same_new hz _)))) (SqT.of (upd_same.trans (congrArg (fun l => some (HO.tup l)) (thV_app _ _).symm))) (DeedT.cat hdk (fun t ht => ok.ok t (List.mem_of_mem_drop ht)) (by rw [hlt1, List.length_drop]; omega))⟩
  exact ⟨_, rfl, q d ds H4 g04 hd4 ⟨ok.hd, ok.ok, by omega⟩⟩
abbrev sd__law_int : Stmt := top 45
abbrev N__law_int : List Str := ["_law_found"]
abbrev P__law_int : List Str := ["_law_found"]
theorem sc__law_int : FnScope N__law_int P__law_int (defScope sd__law_int) := ⟨rfl, rfl, rfl, by decide +kernel, rfl, by decide +kernel, by decide +kernel⟩
theorem ok__law_int (F : At K mg "_law_int" sd__law_int f fd) (m_isinstance : mg "isinstance" = none) (m_int : mg "int" = none) (m_bool : mg "bool" = none) : Dn P w K mg base 1 "_law_int" P__law_int spInt := by
  refine F.ok sc__law_int (fun vs H Q E h => ?_) (fun cdv A outer s H vs Q E hr h => ?_) (fun _ _ _ _ _ _ us hl => match us, hl with | [_], _ => rfl)
  · obtain ⟨a, rfl, _⟩ := h
    rfl
  obtain ⟨i, rfl, q⟩ := h
  refine ⟨_, (@pss_one _ _ _ (@ps_ret _ _ _ _ (@pe_and _ _ _ _ _ _ _ (@pe_callB _ _ _ _ _ _ _ _ _ (call_isinstK K) (by rfl) m_isinstance PyProof.Rows.boot_isinstance (@pa_cons _ _ _ _ _ (@pv _ 0 _ _ (by rfl) (by first | exact Or.inl rfl | exact Or.inr (Or.inl rfl) | exact Or.inr (Or.inr rfl)) (by decide) (by decide)) (@pa_cons _ _ _ _ _ (@pe_ty _ _ _ _ PyProof.Rows.boot_int rfl m_int (by decide) (by decide)) (@pa_nil _) (by rfl)) (by rfl)) (by decide) (by decide) (by rfl) (by rfl)) (@pe_one _ _ _ _ _ (@pe_not _ _ _ _ (@pe_callB _ _ _ _ _ _ _ _ _ (call_isinstK K) (by rfl) m_isinstance PyProof.Rows.boot_isinstance (@pa_cons _ _ _ _ _ (@pv _ 0 _ _ (by rfl) (by first | exact Or.inl rfl | exact Or.inr (Or.inl rfl) | exact Or.inr (Or.inr rfl)) (by decide) (by decide)) (@pa_cons _ _ _ _ _ (@pe_ty _ _ _ _ PyProof.Rows.boot_bool rfl m_bool (by decide) (by decide)) (@pa_nil _) (by rfl)) (by rfl)) (by decide) (by decide) (by rfl) (by rfl))))))), ?_⟩
  refine ⟨_, rfl, _, _, _, _, rfl, TyOf.int i, isi_same, _, rfl, iteT ?_⟩
  refine ⟨_, rfl, _, _, _, _, rfl, TyOf.int i, isi_int_bool, _, rfl, ?_⟩
  exact q
abbrev sd__law_is_name : Stmt := top 35
abbrev N__law_is_name : List Str := ["_law_word", "_law_sign_here"]
abbrev P__law_is_name : List Str := ["_law_word"]
theorem sc__law_is_name : FnScope N__law_is_name P__law_is_name (defScope sd__law_is_name) := ⟨rfl, rfl, rfl, by decide +kernel, rfl, by decide +kernel, by decide +kernel⟩
theorem ok__law_is_name (F : At K mg "_law_is_name" sd__law_is_name f fd) (m_len : mg "len" = none) : Dn P w K mg base 1 "_law_is_name" P__law_is_name spLawIsName := by
  refine F.ok sc__law_is_name (fun vs H Q E h => ?_) (fun cdv A outer s H vs Q E hr h => ?_) (fun _ _ _ _ _ _ us hl => match us, hl with | [_], _ => rfl)
  · obtain ⟨cs, rfl, _⟩ := h.ex
    rfl
  obtain ⟨cs, rfl, hl, q⟩ := h.ex
  refine ⟨_, (@pss_cons _ _ _ _ _ (@ps_for _ _ _ _ _ _ _ _ PassesOwn.never rfl (@pi_str _ _ _ _ (@pv _ 0 _ _ (by rfl) (by first | exact Or.inl rfl | exact Or.inr (Or.inl rfl) | exact Or.inr (Or.inr rfl)) (by decide) (by decide))) (@pg_name _ _ (1) _ sc__law_is_name.nd rfl (Or.inl rfl) (by first | exact .inl rfl | exact .inr rfl | assumption)) (@pss_one _ _ _ (@ps_if _ _ _ _ _ _ _ _ (@pt_cmpR _ _ _ _ _ _ _ _ op_notin_str (@pv _ 1 _ _ (by rfl) (by first | exact Or.inl rfl | exact Or.inr (Or.inl rfl) | exact Or.inr (Or.inr rfl)) (by decide) (by decide)) (@pe_str _ _ _ _) (by with_unfolding_all rfl)) (@pss_one _ _ _ (@ps_ret _ _ _ _ (@pe_bl _ _ _ _))) (@pss_nil _))) (by intro _; rfl)) (@pss_one _ _ _ (@ps_ret _ _ _ _ (@pe_and _ _ _ _ _ _ _ (@pe_cmpR _ _ _ _ _ _ _ _ op_le (@pe_int _ _ _ _) (@pe_callB _ _ _ _ _ _ _ _ _ call_len_str (by rfl) m_len PySem.boot_len (@pa_cons _ _ _ _ _ (@pv _ 0 _ _ (by rfl) (by first | exact Or.inl rfl | exact Or.inr (Or.inl rfl) | exact Or.inr (Or.inr rfl)) (by decide) (by decide)) (@pa_nil _) (by rfl)) (by decide) (by decide) (by rfl) (by rfl)) (nomark _)) (@pe_one _ _ _ _ _ (@pe_cmpR _ _ _ _ _ _ _ _ op_le (@pe_callB _ _ _ _ _ _ _ _ _ call_len_str (by rfl) m_len PySem.boot_len (@pa_cons _ _ _ _ _ (@pv _ 0 _ _ (by rfl) (by first | exact Or.inl rfl | exact Or.inr (Or.inl rfl) | exact Or.inr (Or.inr rfl)) (by decide) (by decide)) (@pa_nil _) (by rfl)) (by decide) (by decide) (by rfl) (by rfl)) (@pe_int _ _ _ _) (nomark _))))))), ?_⟩
  have hz : (tx cs).length ≤ sizeLine := by rw [tx_length, sizeLine_eq]; omega
  refine ⟨_, rfl, cs, rfl, ?_⟩
  refine for_str (fun i σ H2 => H2 = H ∧ (cs.take i).all (inS "abcdefghijklmnopqrstuvwxyz") = true ∧ ∃ (s1 : Option V), σ = [some (.str (tx cs)), s1]) ⟨rfl, rfl, none, rfl⟩ ?_ ?_
  · rintro i ch σ H2 hc ⟨rfl, ha, s1, rfl⟩
    have e : (cs.take (i + 1)).all (inS "abcdefghijklmnopqrstuvwxyz") = ((cs.take i).all (inS "abcdefghijklmnopqrstuvwxyz") && inS "abcdefghijklmnopqrstuvwxyz" ch) := by
      rw [List.take_add_one, hc, List.all_append]
      show (_ && (inS _ ch && true)) = _
      rw [Bool.and_true]
    refine ⟨_, rfl, _, _, rfl, rfl, _, rfl, ?_⟩
    show if (!inS "abcdefghijklmnopqrstuvwxyz" ch) = true then _ else _
    cases hb : inS "abcdefghijklmnopqrstuvwxyz" ch with
    | true => exact iteF ⟨rfl, by rw [e, ha, hb]; rfl, _, rfl⟩
    | false =>
      refine iteT ?_
      have hf : isName cs = false := by
        unfold isName
        rw [show cs.all (inS "abcdefghijklmnopqrstuvwxyz") = false by rw [List.all_eq_false]; exact ⟨ch, List.mem_of_getElem? hc, by rw [hb]; exact Bool.false_ne_true⟩, Bool.and_false]
      rw [hf] at q
      exact q
  rintro σ H2 ⟨rfl, ha, s1, rfl⟩
  rw [List.take_length] at ha
  have hf : isName cs = (decide (1 ≤ (cs.length : Int)) && decide ((cs.length : Int) ≤ 8)) := by unfold isName; rw [ha, Bool.and_true]
  rw [hf] at q
  refine ⟨_, rfl, _, rfl, hz, _, _, rfl, rfl, _, rfl, ?_⟩
  rw [tx_length]
  refine ite2 (fun c => ?_) (fun c => ?_)
  · refine ⟨_, rfl, _, rfl, hz, _, _, rfl, rfl, ?_⟩
    rw [tx_length]
    rw [c, Bool.true_and] at q
    exact q
  · rw [Bool.eq_false_iff.mpr c, Bool.false_and] at q
    exact q
abbrev sd__law_kinds_of : Stmt := top 36
abbrev N__law_kinds_of : List Str := ["_law_deed", "_law_some"]
abbrev P__law_kinds_of : List Str := ["_law_deed"]
theorem sc__law_kinds_of : FnScope N__law_kinds_of P__law_kinds_of (defScope sd__law_kinds_of) := ⟨rfl, rfl, rfl, by decide +kernel, rfl, by decide +kernel, by decide +kernel⟩
theorem ok__law_kinds_of (F : At K mg "_law_kinds_of" sd__law_kinds_of f fd) (m_len : mg "len" = none) (m_max : mg "max" = none) : Dn P w K mg base 1 "_law_kinds_of" P__law_kinds_of (spKindsL K) := by
  refine F.ok sc__law_kinds_of (fun vs H Q E h => ?_) (fun cdv A outer s H vs Q E hr h => ?_) (fun _ _ _ _ _ _ us hl => match us, hl with | [_], _ => rfl)
  · obtain ⟨d, x, th, rfl, _⟩ := h.ex
    rfl
  obtain ⟨d, x, th, rfl, hd, hl, q⟩ := h.ex
  refine ⟨_, (@pss_cons _ _ _ _ _ (@ps_set _ _ (1) _ _ _ _ sc__law_kinds_of.nd rfl (Or.inl rfl) (@pe_disp _ _ _ _ _ (@pps_cons _ _ _ _ _ _ _ _ _ (@pe_str _ _ _ _) (@pe_str _ _ _ _) (@pps_cons _ _ _ _ _ _ _ _ _ (@pe_str _ _ _ _) (@pe_str _ _ _ _) (@pps_cons _ _ _ _ _ _ _ _ _ (@pe_str _ _ _ _) (@pe_str _ _ _ _) (@pps_cons _ _ _ _ _ _ _ _ _ (@pe_str _ _ _ _) (@pe_str _ _ _ _) (@pps_cons _ _ _ _ _ _ _ _ _ (@pe_str _ _ _ _) (@pe_str _ _ _ _) (@pps_cons _ _ _ _ _ _ _ _ _ (@pe_str _ _ _ _) (@pe_str _ _ _ _) (@pps_nil _ _))))))) (by rfl) (by rfl) (fun z => nomatch z) (by with_unfolding_all decide)) (by rfl) (by first | exact .inl rfl | exact .inr rfl | assumption)) (@pss_cons _ _ _ _ _ (@ps_dput _ _ _ _ _ _ _ _ _ (hu_of hr) (@pv _ 1 _ _ (by rfl) (by first | exact Or.inl rfl | exact Or.inr (Or.inl rfl) | exact Or.inr (Or.inr rfl)) (by decide) (by decide)) (@pe_str _ _ _ _) (@pe_str _ _ _ _) rfl) (@pss_cons _ _ _ _ _ (@ps_dput _ _ _ _ _ _ _ _ _ (hu_of hr) (@pv _ 1 _ _ (by rfl) (by first | exact Or.inl rfl | exact Or.inr (Or.inl rfl) | exact Or.inr (Or.inr rfl)) (by decide) (by decide)) (@pe_str _ _ _ _) (@pe_str _ _ _ _) rfl) (@pss_cons _ _ _ _ _ (@ps_dput _ _ _ _ _ _ _ _ _ (hu_of hr) (@pv _ 1 _ _ (by rfl) (by first | exact Or.inl rfl | exact Or.inr (Or.inl rfl) | exact Or.inr (Or.inr rfl)) (by decide) (by decide)) (@pe_str _ _ _ _) (@pe_op _ _ _ _ _ _ _ _ op_repS (@pe_str _ _ _ _) (@pe_callB _ _ _ _ _ _ _ _ _ (call_max2 rfl) (by rfl) m_max PyProof.Rows.boot_max (@pa_cons _ _ _ _ _ (@pe_int _ _ _ _) (@pa_cons _ _ _ _ _ (@pe_op _ _ _ _ _ _ _ _ op_fdivW (@pe_callB _ _ _ _ _ _ _ _ _ (call_lenK K) (by rfl) m_len PySem.boot_len (@pa_cons _ _ _ _ _ (@pv _ 0 _ _ (by rfl) (by first | exact Or.inl rfl | exact Or.inr (Or.inl rfl) | exact Or.inr (Or.inr rfl)) (by decide) (by decide)) (@pa_nil _) (by rfl)) (by decide) (by decide) (by rfl) (by rfl)) (@pe_int _ _ _ _)) (@pa_nil _) (by rfl)) (by rfl)) (by decide) (by decide) (by rfl) (by rfl))) rfl) (@pss_cons _ _ _ _ _ (@ps_if _ _ _ _ _ _ _ _ (@pt_cmp _ _ _ _ _ _ (@pc_din _ _ _ _ _ (hu_of hr) (@pe_ix _ _ _ _ _ _ _ (ix_listK K) (@pv _ 0 _ _ (by rfl) (by first | exact Or.inl rfl | exact Or.inr (Or.inl rfl) | exact Or.inr (Or.inr rfl)) (by decide) (by decide)) (@pe_int _ _ _ _) (fun _ _ => rfl)) (@pv _ 1 _ _ (by rfl) (by first | exact Or.inl rfl | exact Or.inr (Or.inl rfl) | exact Or.inr (Or.inr rfl)) (by decide) (by decide))) (by first | exact nobehind _ (by decide) (by decide) | rfl)) (@pss_one _ _ _ (@ps_ret _ _ _ _ (@pe_dget _ _ _ _ _ _ (hu_of hr) (@pv _ 1 _ _ (by rfl) (by first | exact Or.inl rfl | exact Or.inr (Or.inl rfl) | exact Or.inr (Or.inr rfl)) (by decide) (by decide)) (@pe_ix _ _ _ _ _ _ _ (ix_listK K) (@pv _ 0 _ _ (by rfl) (by first | exact Or.inl rfl | exact Or.inr (Or.inl rfl) | exact Or.inr (Or.inr rfl)) (by decide) (by decide)) (@pe_int _ _ _ _) (fun _ _ => rfl)) (fun _ _ => rfl)))) (@pss_nil _)) (@pss_one _ _ _ (@ps_ret _ _ _ _ (@pe_op _ _ _ _ _ _ _ _ op_repS (@pe_str _ _ _ _) (@pe_callB _ _ _ _ _ _ _ _ _ (call_lenK K) (by rfl) m_len PySem.boot_len (@pa_cons _ _ _ _ _ (@pv _ 0 _ _ (by rfl) (by first | exact Or.inl rfl | exact Or.inr (Or.inl rfl) | exact Or.inr (Or.inr rfl)) (by decide) (by decide)) (@pa_nil _) (by rfl)) (by decide) (by decide) (by rfl) (by rfl)))))))))), ?_⟩
  have h0 : atI (thV (.s x :: th)) 0 = some (.str (tx x)) := atI_nat (j := 0) rfl
  have hlen : (thV (.s x :: th)).length = th.length + 1 := thV_len _
  intro pd hpd
  have hn : (1 : Int) ≤ (if ((((th.length + 1 : Nat) : Int)) / 2 > (1 : Int)) then (((th.length + 1 : Nat) : Int)) / 2 else 1) := by split <;> omega
  have hm : (if ((((th.length + 1 : Nat) : Int)) / 2 > (1 : Int)) then (((th.length + 1 : Nat) : Int)) / 2 else 1).toNat = max 1 ((th.length + 1) / 2) := by split <;> omega
  have hmb : (if ((((th.length + 1 : Nat) : Int)) / 2 > (1 : Int)) then (((th.length + 1 : Nat) : Int)) / 2 else 1) ≤ 1001 := by split <;> omega
  have m8 : ∀ (kvs : List (Key × V)), kvs.length ≤ 15 → kvs.length < sizeLine := fun kvs h => by rw [sizeLine_eq]; omega
  refine ⟨upd_same, D6, rfl, (by decide), ?_⟩
  rw [upd_upd]
  generalize hH1 : upd H pd (.dK (mergeK [] D6)) = H1
  have g1 : Same H H1 := hH1 ▸ same_new hpd _
  refine ⟨_, rfl, pd, _, rfl, DPut.k (k := .inr "sever") (by rw [← hH1, upd_same]) (by rw [sizeLine_eq]; decide +kernel), ?_⟩
  rw [← hH1, upd_upd]
  refine ⟨_, rfl, pd, _, rfl, DPut.k (k := .inr "still") upd_same (by rw [sizeLine_eq]; decide +kernel), ?_⟩
  rw [upd_upd, D8_of]
  generalize hH2 : upd H pd (.dK D8) = H2
  have g2 : Same H H2 := hH2 ▸ same_new hpd _
  have hd2 := g2.seq hd
  refine ⟨_, rfl, d, _, rfl, .inl hd2, ?_⟩
  rw [hlen]
  refine ⟨_, _, rfl, rfl, cdivW_lit (by decide +kernel), _, _, rfl, wd "nm", _, (by rw [wd_tx]), rfl, (by omega), (by rw [hm, sizeLine_eq]; show 2 * _ ≤ _; omega), (by omega), ?_⟩
  rw [nm_rep, hm]
  refine ⟨_, rfl, pd, _, rfl, DPut.k (k := .inr "cast") (by rw [← hH2, upd_same]) (by rw [sizeLine_eq]; decide +kernel), ?_⟩
  rw [D9_of]
  generalize hH3 : upd H2 pd (.dK (D8 ++ [((Sum.inr "cast" : Key), V.str (tx ((pairsK (max 1 ((th.length + 1) / 2))).map kch)))])) = H3
  have hH3' : upd H pd (.dK (D8 ++ [((Sum.inr "cast" : Key), V.str (tx ((pairsK (max 1 ((th.length + 1) / 2))).map kch)))])) = H3 := by rw [← hH3, ← hH2, upd_upd]
  have g3 : Same H H3 := hH3' ▸ same_new hpd _
  have hp3 : H3 pd = some (.dK (D8 ++ [((Sum.inr "cast" : Key), V.str (tx ((pairsK (max 1 ((th.length + 1) / 2))).map kch)))])) := by rw [← hH3', upd_same]
  have hd3 := g3.seq hd
  have hv := val9 (tx x) (th.length + 1)
  have hg := DGet.k (k := .inr (tx x)) hp3
  rw [hv] at hg
  have qq := q H3 g3
  unfold kindsOf at qq
  refine ⟨_, rfl, d, _, 0, _, rfl, rfl, hd3, h0, _, rfl, pd, _, rfl, hg, _, rfl, ?_⟩
  cases hf : formOf (tx x) (th.length + 1) with
  | some ks =>
    rw [hf] at hg qq
    exact iteT ⟨_, rfl, _, rfl, d, _, 0, _, rfl, rfl, hd3, h0, pd, _, rfl, hg, qq⟩
  | none =>
    rw [hf] at qq
    refine iteF ⟨_, rfl, d, _, rfl, .inl hd3, wd "?", _, (by rw [wd_tx]), rfl, (by omega), ?_, ?_, ?_⟩
    · rw [hlen, sizeLine_eq]; show 1 * _ ≤ _; omega
    · rw [hlen]; omega
    · rw [hlen]
      have e : (List.replicate ((th.length + 1 : Nat) : Int).toNat (wd "?")).flatten = List.replicate (th.length + 1) 63 := by
        rw [Int.toNat_natCast]
        show (List.replicate (th.length + 1) [63]).flatten = _
        exact List.flatten_replicate_singleton
      rw [e]
      exact qq
abbrev sd__law_is_sound : Stmt := top 37
abbrev N__law_is_sound : List Str := ["_law_deed", "_law_kinds", "_law_at", "_law_thing"]
abbrev P__law_is_sound : List Str := ["_law_deed"]
theorem sc__law_is_sound : FnScope N__law_is_sound P__law_is_sound (defScope sd__law_is_sound) := ⟨rfl, rfl, rfl, by decide +kernel, rfl, by decide +kernel, by decide +kernel⟩
theorem ok__law_is_sound (F : At K mg "_law_is_sound" sd__law_is_sound f fd) (D__law_kinds_of : Dn P w K mg base 1 "_law_kinds_of" ["_law_deed"] (spKindsL K)) (D__law_is_name : Dn P w K mg base 1 "_law_is_name" ["_law_word"] spLawIsName) (m_len : mg "len" = none) (m_range : mg "range" = none) (m_isinstance : mg "isinstance" = none) (m_str : mg "str" = none) (m_int : mg "int" = none) : Dn P w K mg base 2 "_law_is_sound" P__law_is_sound (spSoundL K) := by
  refine F.ok sc__law_is_sound (fun vs H Q E h => ?_) (fun cdv A outer s H vs Q E hr h => ?_) (fun _ _ _ _ _ _ us hl => match us, hl with | [_], _ => rfl)
  · obtain ⟨d, x, th, rfl, _⟩ := h.ex
    rfl
  obtain ⟨d, x, th, rfl, hd, hl, ok, q⟩ := h.ex
  refine ⟨_, (@pss_cons _ _ _ _ _ (@ps_set _ _ (1) _ _ _ _ sc__law_is_sound.nd rfl (Or.inl rfl) (@pe_fn _ _ _ _ _ _ _ _ _ _ _ D__law_kinds_of hr (@pa_cons _ _ _ _ _ (@pv _ 0 _ _ (by rfl) (by first | exact Or.inl rfl | exact Or.inr (Or.inl rfl) | exact Or.inr (Or.inr rfl)) (by decide) (by decide)) (@pa_nil _) (by rfl)) (by decide) (by rfl) (by decide) (by rfl) (by rfl)) (by rfl) (by first | exact .inl rfl | exact .inr rfl | assumption)) (@pss_cons _ _ _ _ _ (@ps_if _ _ _ _ _ _ _ _ (@pt_cmpR _ _ _ _ _ _ _ _ op_ne (@pe_callB _ _ _ _ _ _ _ _ _ call_len_str (by rfl) m_len PySem.boot_len (@pa_cons _ _ _ _ _ (@pv _ 1 _ _ (by rfl) (by first | exact Or.inl rfl | exact Or.inr (Or.inl rfl) | exact Or.inr (Or.inr rfl)) (by decide) (by decide)) (@pa_nil _) (by rfl)) (by decide) (by decide) (by rfl) (by rfl)) (@pe_op _ _ _ _ _ _ _ _ op_sub (@pe_callB _ _ _ _ _ _ _ _ _ (call_lenK K) (by rfl) m_len PySem.boot_len (@pa_cons _ _ _ _ _ (@pv _ 0 _ _ (by rfl) (by first | exact Or.inl rfl | exact Or.inr (Or.inl rfl) | exact Or.inr (Or.inr rfl)) (by decide) (by decide)) (@pa_nil _) (by rfl)) (by decide) (by decide) (by rfl) (by rfl)) (@pe_int _ _ _ _)) (nomark _)) (@pss_one _ _ _ (@ps_ret _ _ _ _ (@pe_bl _ _ _ _))) (@pss_nil _)) (@pss_cons _ _ _ _ _ (@ps_for _ _ _ _ _ _ _ _ PassesOwn.never rfl (@pi_range1 _ _ _ _ _ _ (by rfl) m_range (@pa_cons _ _ _ _ _ (@pe_callB _ _ _ _ _ _ _ _ _ call_len_str (by rfl) m_len PySem.boot_len (@pa_cons _ _ _ _ _ (@pv _ 1 _ _ (by rfl) (by first | exact Or.inl rfl | exact Or.inr (Or.inl rfl) | exact Or.inr (Or.inr rfl)) (by decide) (by decide)) (@pa_nil _) (by rfl)) (by decide) (by decide) (by rfl) (by rfl)) (@pa_nil _) (by rfl)) (by rfl)) (@pg_name _ _ (2) _ sc__law_is_sound.nd rfl (Or.inl rfl) (by first | exact .inl rfl | exact .inr rfl | assumption)) (@pss_cons _ _ _ _ _ (@ps_set _ _ (3) _ _ _ _ sc__law_is_sound.nd rfl (Or.inl rfl) (@pe_ix _ _ _ _ _ _ _ (ix_listK K) (@pv _ 0 _ _ (by rfl) (by first | exact Or.inl rfl | exact Or.inr (Or.inl rfl) | exact Or.inr (Or.inr rfl)) (by decide) (by decide)) (@pe_op _ _ _ _ _ _ _ _ op_add (@pv _ 2 _ _ (by rfl) (by first | exact Or.inl rfl | exact Or.inr (Or.inl rfl) | exact Or.inr (Or.inr rfl)) (by decide) (by decide)) (@pe_int _ _ _ _)) (fun _ _ => rfl)) (by rfl) (by first | exact .inl rfl | exact .inr rfl | assumption)) (@pss_one _ _ _ (@ps_if _ _ _ _ _ _ _ _ (@pt_cmpR _ _ _ _ _ _ _ _ op_eq (@pe_ix _ _ _ _ _ _ _ ix_str (@pv _ 1 _ _ (by rfl) (by first | exact Or.inl rfl | exact Or.inr (Or.inl rfl) | exact Or.inr (Or.inr rfl)) (by decide) (by decide)) (@pv _ 2 _ _ (by rfl) (by first | exact Or.inl rfl | exact Or.inr (Or.inl rfl) | exact Or.inr (Or.inr rfl)) (by decide) (by decide)) (fun _ _ => rfl)) (@pe_str _ _ _ _) (nomark _)) (@pss_one _ _ _ (@ps_if _ _ _ _ _ _ _ _ (@pt_pure _ _ _ (PW.pt (@pw_or _ _ _ _ _ _ _ (@pt_not _ _ _ _ (@pt_val _ _ _ (@pe_callB _ _ _ _ _ _ _ _ _ (call_isinstK K) (by rfl) m_isinstance PyProof.Rows.boot_isinstance (@pa_cons _ _ _ _ _ (@pv _ 3 _ _ (by rfl) (by first | exact Or.inl rfl | exact Or.inr (Or.inl rfl) | exact Or.inr (Or.inr rfl)) (by decide) (by decide)) (@pa_cons _ _ _ _ _ (@pe_ty _ _ _ _ PyProof.Rows.boot_str rfl m_str (by decide) (by decide)) (@pa_nil _) (by rfl)) (by rfl)) (by decide) (by decide) (by rfl) (by rfl)) (by intro _; rfl))) (@pw_or1 _ _ _ _ (@pt_not _ _ _ _ (@pt_val _ _ _ (@pe_fn _ _ _ _ _ _ _ _ _ _ _ D__law_is_name hr (@pa_cons _ _ _ _ _ (@pv _ 3 _ _ (by rfl) (by first | exact Or.inl rfl | exact Or.inr (Or.inl rfl) | exact Or.inr (Or.inr rfl)) (by decide) (by decide)) (@pa_nil _) (by rfl)) (by decide) (by rfl) (by decide) (by rfl) (by rfl)) (by intro _; rfl))))))) (@pss_one _ _ _ (@ps_ret _ _ _ _ (@pe_bl _ _ _ _))) (@pss_nil _))) (@pss_one _ _ _ (@ps_if _ _ _ _ _ _ _ _ (@pt_pure _ _ _ (PW.pt (@pw_or _ _ _ _ _ _ _ (@pt_not _ _ _ _ (@pt_val _ _ _ (@pe_callB _ _ _ _ _ _ _ _ _ (call_isinstK K) (by rfl) m_isinstance PyProof.Rows.boot_isinstance (@pa_cons _ _ _ _ _ (@pv _ 3 _ _ (by rfl) (by first | exact Or.inl rfl | exact Or.inr (Or.inl rfl) | exact Or.inr (Or.inr rfl)) (by decide) (by decide)) (@pa_cons _ _ _ _ _ (@pe_ty _ _ _ _ PyProof.Rows.boot_int rfl m_int (by decide) (by decide)) (@pa_nil _) (by rfl)) (by rfl)) (by decide) (by decide) (by rfl) (by rfl)) (by intro _; rfl))) (@pw_or _ _ _ _ _ _ _ (@pt_cmpR _ _ _ _ _ _ _ _ op_lt (@pv _ 3 _ _ (by rfl) (by first | exact Or.inl rfl | exact Or.inr (Or.inl rfl) | exact Or.inr (Or.inr rfl)) (by decide) (by decide)) (@pe_callTy _ _ _ _ _ _ _ _ _ call_int1 (by rfl) m_int PyProof.Rows.boot_int (@pa_cons _ _ _ _ _ (@pe_cmpR _ _ _ _ _ _ _ _ op_eq (@pe_ix _ _ _ _ _ _ _ ix_str (@pv _ 1 _ _ (by rfl) (by first | exact Or.inl rfl | exact Or.inr (Or.inl rfl) | exact Or.inr (Or.inr rfl)) (by decide) (by decide)) (@pv _ 2 _ _ (by rfl) (by first | exact Or.inl rfl | exact Or.inr (Or.inl rfl) | exact Or.inr (Or.inr rfl)) (by decide) (by decide)) (fun _ _ => rfl)) (@pe_str _ _ _ _) (nomark _)) (@pa_nil _) (by rfl)) (by decide) (by decide) (by rfl) (by rfl)) (nomark _)) (@pw_or1 _ _ _ _ (@pt_cmpR _ _ _ _ _ _ _ _ op_gt (@pv _ 3 _ _ (by rfl) (by first | exact Or.inl rfl | exact Or.inr (Or.inl rfl) | exact Or.inr (Or.inr rfl)) (by decide) (by decide)) (@pe_op _ _ _ _ _ _ _ _ op_pow (@pe_int _ _ _ _) (@pe_int _ _ _ _)) (nomark _))))))) (@pss_one _ _ _ (@ps_ret _ _ _ _ (@pe_bl _ _ _ _))) (@pss_nil _)))))) (by intro _; rfl)) (@pss_one _ _ _ (@ps_ret _ _ _ _ (@pe_bl _ _ _ _)))))), ?_⟩
  have P9 : CPow 10 9 := ⟨by decide, by decide, by decide +kernel⟩
  have hlen : (thV (.s x :: th)).length = th.length + 1 := thV_len _
  refine ⟨_, rfl, use_kindsL hd hl fun H1 g1 => ?_⟩
  have e10 : (10 : Int) ^ (9 : Int).toNat = 1000000000 := by decide +kernel
  have hd1 := g1.seq hd
  have hkb : (kindsOf x (th.length + 1)).length ≤ 2100 := by
    unfold kindsOf
    cases hf : formOf (tx x) (th.length + 1) with
    | none => show (List.replicate _ _).length ≤ _; rw [List.length_replicate]; omega
    | some ks =>
      show (ks.map kch).length ≤ _
      rw [List.length_map]
      unfold formOf at hf
      by_cases e : tx x = "cast"
      · rw [if_pos e] at hf
        cases hf
        rw [pairsK_len]
        omega
      · rw [if_neg e] at hf
        unfold formsOf at hf
        obtain ⟨p, hp, rfl⟩ := Option.map_eq_some_iff.mp hf
        have : ∀ p ∈ formsL, p.2.length ≤ 4 := by decide +kernel
        have := this p (List.mem_of_find?_eq_some hp)
        omega
  have hz : (tx (kindsOf x (th.length + 1))).length ≤ sizeLine := by rw [tx_length, sizeLine_eq]; omega
  refine ⟨_, rfl, _, rfl, hz, _, rfl, d, _, rfl, .inl hd1, _, _, rfl, rfl, rfl, _, rfl, ?_⟩
  rw [tx_length, hlen]
  by_cases hkl : ¬ (kindsOf x (th.length + 1)).length = th.length
  · rw [decide_eq_false (fun z => hkl (by have := V.int.inj z; omega) : ¬ V.int ((kindsOf x (th.length + 1)).length : Int) = V.int (((th.length + 1 : Nat) : Int) - 1))]
    refine iteT ?_
    have e : soundT x th = false := by
      unfold soundT
      unfold kindsOf at hkl
      cases hf : formOf (tx x) (th.length + 1) with
      | none => rfl
      | some ks =>
        rw [hf] at hkl
        have hkl' : ¬ (ks.map kch).length = th.length := hkl
        rw [List.length_map] at hkl'
        show allFit th ks = false
        unfold allFit
        rw [decide_eq_false (fun z => hkl' z.symm), Bool.false_and]
    have := q H1 g1
    rw [e] at this
    exact this
  have hkl := Classical.not_not.mp hkl
  rw [decide_eq_true (by rw [hkl]; congr 1; omega : V.int ((kindsOf x (th.length + 1)).length : Int) = V.int (((th.length + 1 : Nat) : Int) - 1))]
  refine iteF ?_
  obtain ⟨ks, hf, hkk⟩ : ∃ ks, formOf (tx x) (th.length + 1) = some ks ∧ kindsOf x (th.length + 1) = ks.map kch := by
    unfold kindsOf at hkl ⊢
    cases hf : formOf (tx x) (th.length + 1) with
    | none =>
      rw [hf] at hkl
      have hkl' : (List.replicate (th.length + 1) 63).length = th.length := hkl
      rw [List.length_replicate] at hkl'
      omega
    | some ks => exact ⟨ks, rfl, rfl⟩
  have hs : soundT x th = allFit th ks := by unfold soundT; rw [hf]
  rw [hs] at q
  have hlk : ks.length = th.length := by rw [hkk, List.length_map] at hkl; exact hkl
  rw [hkk] at hz hkl ⊢
  refine ⟨_, rfl, _, rfl, hz, ?_⟩
  rw [tx_length, hkl]
  refine ⟨(th.length : Int), rfl, by omega, by omega, ?_⟩
  refine for_range (lo := 0) (n := ((th.length : Nat) : Int).toNat) (fun i σ H' => H' = H1 ∧ (List.zipWith fitsT (th.take i) (ks.take i)).all id = true ∧ ∃ (s2 s3 : Option V), σ = [some (.ref d), some (.str (tx (ks.map kch))), s2, s3]) ⟨rfl, rfl, none, none, rfl⟩ ?_ ?_
  · rintro i σ H' hi ⟨rfl, ha, s2, s3, rfl⟩
    have hi1 : i < th.length := by omega
    have hi2 : i < ks.length := by omega
    have e0 : (0 : Int) + (i : Int) = ((i : Nat) : Int) := by omega
    rw [e0]
    obtain ⟨t, ht⟩ : ∃ t, th[i]? = some t := ⟨_, List.getElem?_eq_getElem hi1⟩
    obtain ⟨k, hkk⟩ : ∃ k, ks[i]? = some k := ⟨_, List.getElem?_eq_getElem hi2⟩
    have hat : atI (thV (.s x :: th)) ((i : Int) + 1) = some t.v := by
      have := atI_nat (xs := thV (.s x :: th)) (j := i + 1) (v := t.v) (by show (th.map Th.v)[i]? = _; rw [List.getElem?_map, ht]; rfl)
      rw [show (((i + 1 : Nat)) : Int) = (i : Int) + 1 by omega] at this
      exact this
    have hch : atI (tx (ks.map kch)).cps.toList (i : Int) = some (kch k) := atI_nat (by show ((ks.map kch).toArray.toList)[i]? = _; rw [List.toList_toArray, List.getElem?_map, hkk]; rfl)
    have bad : fitsT t k = false → Q (.bl false) H' := fun hb => by
      have := q H' g1
      rw [allFit_bad ht hkk hb] at this
      exact this
    refine ⟨_, rfl, _, rfl, _, _, rfl, rfl, d, _, _, _, rfl, rfl, hd1, hat, ?_⟩
    refine ⟨_, rfl, _, rfl, _, _, _, rfl, rfl, hz, hch, rfl, _, rfl, ?_⟩
    cases k with
    | nm =>
      rw [decide_eq_true (show V.str ⟨#[kch Kd.nm]⟩ = V.str "n" by decide +kernel)]
      refine iteT ?_
      cases t with
      | s cs =>
        have hcl := ok _ (List.mem_of_getElem? ht)
        refine ⟨!isName cs, ⟨_, rfl, _, _, _, _, rfl, TyOf.str _, isi_same, _, rfl, iteF ⟨_, rfl, use_lawisname (Nat.le_trans (show cs.length ≤ 1000 from hcl) (by decide)) ⟨_, rfl, rfl, rfl⟩⟩⟩, ?_⟩
        cases hb : isName cs with
        | true => exact iteF ⟨rfl, allFit_step ht hkk ha hb, _, _, rfl⟩
        | false => exact iteT (bad hb)
      | n j => exact ⟨true, ⟨_, rfl, _, _, _, _, rfl, TyOf.int _, isi_int_str, _, rfl, iteT ⟨rfl, rfl⟩⟩, iteT (bad rfl)⟩
    | am =>
      rw [decide_eq_false (show ¬ V.str ⟨#[kch Kd.am]⟩ = V.str "n" by decide +kernel)]
      refine iteF ?_
      cases t with
      | s cs => exact ⟨true, ⟨_, rfl, _, _, _, _, rfl, TyOf.str _, isi_str_int, _, rfl, iteT ⟨rfl, rfl⟩⟩, iteT (bad rfl)⟩
      | n j =>
        have em : decide (V.str ⟨#[kch Kd.am]⟩ = V.str "m") = true := by decide +kernel
        refine ⟨!fitsT (.n j) .am, ⟨_, rfl, _, _, _, _, rfl, TyOf.int _, isi_same, _, rfl, iteF ⟨_, rfl, _, rfl, _, rfl, _, _, _, rfl, rfl, hz, hch, rfl, .inr ⟨_, rfl, _, _, rfl, rfl, _, rfl, ?_⟩⟩⟩, ?_⟩
        · rw [em]
          show if decide (j < 1) = true then _ else _
          by_cases h1 : j < 1
          · rw [decide_eq_true h1]
            refine iteT ⟨?_, rfl⟩
            show true = !(decide (1 ≤ j) && decide (j ≤ 1000000000))
            rw [decide_eq_false (by omega : ¬ 1 ≤ j)]; rfl
          · rw [decide_eq_false h1]
            refine iteF ⟨_, rfl, _, _, rfl, rfl, P9, _, _, rfl, rfl, _, rfl, ?_, rfl⟩
            show decide ((10 : Int) ^ (9 : Int).toNat < j) = !(decide (1 ≤ j) && decide (j ≤ 1000000000))
            rw [decide_eq_true (by omega : 1 ≤ j), Bool.true_and, e10]
            by_cases h2 : (1000000000 : Int) < j
            · rw [decide_eq_true h2, decide_eq_false (by omega : ¬ j ≤ 1000000000)]; rfl
            · rw [decide_eq_false h2, decide_eq_true (by omega : j ≤ 1000000000)]; rfl
        · cases hb : fitsT (.n j) .am with
          | true => exact iteF ⟨rfl, allFit_step ht hkk ha hb, _, _, rfl⟩
          | false => exact iteT (bad hb)
    | we =>
      rw [decide_eq_false (show ¬ V.str ⟨#[kch Kd.we]⟩ = V.str "n" by decide +kernel)]
      refine iteF ?_
      cases t with
      | s cs => exact ⟨true, ⟨_, rfl, _, _, _, _, rfl, TyOf.str _, isi_str_int, _, rfl, iteT ⟨rfl, rfl⟩⟩, iteT (bad rfl)⟩
      | n j =>
        have em : decide (V.str ⟨#[kch Kd.we]⟩ = V.str "m") = false := by decide +kernel
        refine ⟨!fitsT (.n j) .we, ⟨_, rfl, _, _, _, _, rfl, TyOf.int _, isi_same, _, rfl, iteF ⟨_, rfl, _, rfl, _, rfl, _, _, _, rfl, rfl, hz, hch, rfl, .inr ⟨_, rfl, _, _, rfl, rfl, _, rfl, ?_⟩⟩⟩, ?_⟩
        · rw [em]
          show if decide (j < 0) = true then _ else _
          by_cases h1 : j < 0
          · rw [decide_eq_true h1]
            refine iteT ⟨?_, rfl⟩
            show true = !(decide (0 ≤ j) && decide (j ≤ 1000000000))
            rw [decide_eq_false (by omega : ¬ 0 ≤ j)]; rfl
          · rw [decide_eq_false h1]
            refine iteF ⟨_, rfl, _, _, rfl, rfl, P9, _, _, rfl, rfl, _, rfl, ?_, rfl⟩
            show decide ((10 : Int) ^ (9 : Int).toNat < j) = !(decide (0 ≤ j) && decide (j ≤ 1000000000))
            rw [decide_eq_true (by omega : 0 ≤ j), Bool.true_and, e10]
            by_cases h2 : (1000000000 : Int) < j
            · rw [decide_eq_true h2, decide_eq_false (by omega : ¬ j ≤ 1000000000)]; rfl
            · rw [decide_eq_false h2, decide_eq_true (by omega : j ≤ 1000000000)]; rfl
        · cases hb : fitsT (.n j) .we with
          | true => exact iteF ⟨rfl, allFit_step ht hkk ha hb, _, _, rfl⟩
          | false => exact iteT (bad hb)
  rintro σ H' ⟨rfl, ha, s2, s3, rfl⟩
  rw [show (((th.length : Nat) : Int).toNat) = th.length by omega] at ha
  rw [List.take_length, ← hlk, List.take_length] at ha
  have := q H' g1
  rw [show allFit th ks = true by unfold allFit; rw [decide_eq_true hlk.symm, ha]; rfl] at this
  exact this
abbrev sd__law_word_number : Stmt := top 38
abbrev N__law_word_number : List Str := ["_law_word", "_law_sign_here"]
abbrev P__law_word_number : List Str := ["_law_word"]
theorem sc__law_word_number : FnScope N__law_word_number P__law_word_number (defScope sd__law_word_number) := ⟨rfl, rfl, rfl, by decide +kernel, rfl, by decide +kernel, by decide +kernel⟩
theorem ok__law_word_number (F : At K mg "_law_word_number" sd__law_word_number f fd) (z_dig : digOk K = true) (m_len : mg "len" = none) (m_int : mg "int" = none) : Dn P w K mg base 1 "_law_word_number" P__law_word_number spNumber := by
  refine F.ok sc__law_word_number (fun vs H Q E h => ?_) (fun cdv A outer s H vs Q E hr h => ?_) (fun _ _ _ _ _ _ us hl => match us, hl with | [_], _ => rfl)
  · obtain ⟨cs, rfl, _⟩ := h.ex
    rfl
  obtain ⟨cs, rfl, hl, q⟩ := h.ex
  refine ⟨_, (@pss_cons _ _ _ _ _ (@ps_if _ _ _ _ _ _ _ _ (@pt_pure _ _ _ (PW.pt (@pw_or _ _ _ _ _ _ _ (@pt_cmpR _ _ _ _ _ _ _ _ op_eq (@pv _ 0 _ _ (by rfl) (by first | exact Or.inl rfl | exact Or.inr (Or.inl rfl) | exact Or.inr (Or.inr rfl)) (by decide) (by decide)) (@pe_str _ _ _ _) (nomark _)) (@pw_or1 _ _ _ _ (@pt_pure _ _ _ (PW.pt (@pw_and _ _ _ _ _ _ _ (@pt_cmpR _ _ _ _ _ _ _ _ op_gt (@pe_callB _ _ _ _ _ _ _ _ _ call_len_str (by rfl) m_len PySem.boot_len (@pa_cons _ _ _ _ _ (@pv _ 0 _ _ (by rfl) (by first | exact Or.inl rfl | exact Or.inr (Or.inl rfl) | exact Or.inr (Or.inr rfl)) (by decide) (by decide)) (@pa_nil _) (by rfl)) (by decide) (by decide) (by rfl) (by rfl)) (@pe_int _ _ _ _) (nomark _)) (@pw_and1 _ _ _ _ (@pt_cmpR _ _ _ _ _ _ _ _ op_eq (@pe_ix _ _ _ _ _ _ _ ix_str (@pv _ 0 _ _ (by rfl) (by first | exact Or.inl rfl | exact Or.inr (Or.inl rfl) | exact Or.inr (Or.inr rfl)) (by decide) (by decide)) (@pe_int _ _ _ _) (fun _ _ => rfl)) (@pe_str _ _ _ _) (nomark _)))))))))) (@pss_one _ _ _ (@ps_ret _ _ _ _ (@pe_non _ _ _))) (@pss_nil _)) (@pss_cons _ _ _ _ _ (@ps_for _ _ _ _ _ _ _ _ PassesOwn.never rfl (@pi_str _ _ _ _ (@pv _ 0 _ _ (by rfl) (by first | exact Or.inl rfl | exact Or.inr (Or.inl rfl) | exact Or.inr (Or.inr rfl)) (by decide) (by decide))) (@pg_name _ _ (1) _ sc__law_word_number.nd rfl (Or.inl rfl) (by first | exact .inl rfl | exact .inr rfl | assumption)) (@pss_one _ _ _ (@ps_if _ _ _ _ _ _ _ _ (@pt_cmpR _ _ _ _ _ _ _ _ op_notin_str (@pv _ 1 _ _ (by rfl) (by first | exact Or.inl rfl | exact Or.inr (Or.inl rfl) | exact Or.inr (Or.inr rfl)) (by decide) (by decide)) (@pe_str _ _ _ _) (by with_unfolding_all rfl)) (@pss_one _ _ _ (@ps_ret _ _ _ _ (@pe_non _ _ _))) (@pss_nil _))) (by intro _; rfl)) (@pss_one _ _ _ (@ps_ret _ _ _ _ (@pe_callTy _ _ _ _ _ _ _ _ _ (call_int_text rfl z_dig) (by rfl) m_int PyProof.Rows.boot_int (@pa_cons _ _ _ _ _ (@pv _ 0 _ _ (by rfl) (by first | exact Or.inl rfl | exact Or.inr (Or.inl rfl) | exact Or.inr (Or.inr rfl)) (by decide) (by decide)) (@pa_nil _) (by rfl)) (by decide) (by decide) (by rfl) (by rfl)))))), ?_⟩
  have hz : (tx cs).length ≤ sizeLine := by rw [tx_length, sizeLine_eq]; omega
  have hq := q H (Same.refl _)
  refine ⟨decide (cs = []) || (decide ((1 : Int) < (cs.length : Int)) && decide (cs.head? = some 48)), ?_, ?_⟩
  · refine ⟨_, rfl, rfl, _, rfl, ?_⟩
    rw [str_eq_nil]
    by_cases h0 : cs = []
    · rw [decide_eq_true h0, Bool.true_or]
      exact iteT ⟨rfl, rfl⟩
    rw [decide_eq_false h0, Bool.false_or]
    refine iteF ⟨decide ((1 : Int) < (cs.length : Int)) && decide (cs.head? = some 48), ?_, rfl, rfl⟩
    refine ⟨_, rfl, _, rfl, hz, _, _, rfl, rfl, _, rfl, ?_⟩
    rw [tx_length]
    by_cases h1 : (1 : Int) < (cs.length : Int)
    · rw [decide_eq_true h1, Bool.true_and]
      obtain ⟨c, r, rfl⟩ : ∃ c r, cs = c :: r := by
        cases cs with
        | nil => exact absurd rfl h0
        | cons c r => exact ⟨c, r, rfl⟩
      refine iteT ⟨_, rfl, _, ((0 : Nat) : Int), c, rfl, rfl, hz, atI_nat (by simp), rfl, _, rfl, ?_, rfl⟩
      show decide (V.str (tx [c]) = V.str "0") = _
      rw [str_eq_zero]
      exact decide_eq_decide.mpr ⟨fun e => congrArg some e, fun e => Option.some.inj e⟩
    · rw [decide_eq_false h1, Bool.false_and]
      exact iteF ⟨rfl, rfl⟩
  cases hb : (decide (cs = []) || (decide ((1 : Int) < (cs.length : Int)) && decide (cs.head? = some 48))) with
  | true =>
    refine iteT ?_
    have hn : numV cs = .non := by
      unfold numV numOk
      rcases Bool.or_eq_true_iff.mp hb with z | z
      · rw [z]; rfl
      · obtain ⟨z1, z2⟩ := Bool.and_eq_true_iff.mp z
        have z1' : (1 : Int) < (cs.length : Int) := of_decide_eq_true z1
        rw [z2, decide_eq_true (show 1 < cs.length by omega)]
        simp
    rw [hn] at hq
    exact hq
  | false =>
    refine iteF ?_
    obtain ⟨b1, b2⟩ := Bool.or_eq_false_iff.mp hb
    refine ⟨_, rfl, cs, rfl, ?_⟩
    refine for_str (fun i σ H2 => H2 = H ∧ (cs.take i).all (inS "0123456789") = true ∧ ∃ (s1 : Option V), σ = [some (.str (tx cs)), s1]) ⟨rfl, rfl, none, rfl⟩ ?_ ?_
    · rintro i ch σ H2 hc ⟨rfl, hall, s1, rfl⟩
      refine ⟨_, rfl, _, _, rfl, rfl, _, rfl, ?_⟩
      show if (!inS "0123456789" ch) = true then _ else _
      cases hi : inS "0123456789" ch with
      | true =>
        refine iteF ⟨rfl, ?_, _, rfl⟩
        rw [List.take_add_one, hc, List.all_append, hall]
        show (true && (inS _ ch && true)) = true
        rw [hi]
        rfl
      | false =>
        refine iteT ?_
        have hn : numV cs = .non := by
          unfold numV numOk
          have : cs.all (inS "0123456789") = false := by
            rw [List.all_eq_false]
            exact ⟨ch, List.mem_of_getElem? hc, by rw [hi]; exact Bool.false_ne_true⟩
          rw [this, Bool.and_false, Bool.false_and]
          rfl
        rw [hn] at hq
        exact hq
    rintro σ H2 ⟨rfl, hall, s1, rfl⟩
    rw [List.take_length] at hall
    have h0 : ¬ cs = [] := of_decide_eq_false b1
    refine ⟨_, rfl, cs, rfl, figs_digits hall, h0, by omega, ?_⟩
    have hn : numV cs = .int ((NumText.digitsVal cs : Nat) : Int) := by
      unfold numV numOk
      have e2 : (decide (cs.head? = some 48) && decide (1 < cs.length)) = false := by
        rw [← b2, Bool.and_comm]
        congr 1
        exact decide_eq_decide.mpr ⟨fun e => by omega, fun e => by omega⟩
      rw [e2, hall, b1]
      rfl
    rw [hn] at hq
    exact hq
abbrev sd__law_deed_of : Stmt := top 39
abbrev N__law_deed_of : List Str := ["_law_line_here", "_law_words", "_law_kinds", "_law_things", "_law_at", "_law_thing"]
abbrev P__law_deed_of : List Str := ["_law_line_here"]
theorem sc__law_deed_of : FnScope N__law_deed_of P__law_deed_of (defScope sd__law_deed_of) := ⟨rfl, rfl, rfl, by decide +kernel, rfl, by decide +kernel, by decide +kernel⟩
theorem ok__law_deed_of (F : At K mg "_law_deed_of" sd__law_deed_of f fd) (D__law_kinds_of : Dn P w K mg base 1 "_law_kinds_of" ["_law_deed"] (spKindsL K)) (D__law_word_number : Dn P w K mg base 1 "_law_word_number" ["_law_word"] spNumber) (D__law_is_sound : Dn P w K mg base 2 "_law_is_sound" ["_law_deed"] (spSoundL K)) (m_len : mg "len" = none) (m_range : mg "range" = none) (m_tuple : mg "tuple" = none) : Dn P w K mg base 3 "_law_deed_of" P__law_deed_of spDeedOf := by
  refine F.ok sc__law_deed_of (fun vs H Q E h => ?_) (fun cdv A outer s H vs Q E hr h => ?_) (fun _ _ _ _ _ _ us hl => match us, hl with | [_], _ => rfl)
  · obtain ⟨cs, x, ws, rfl, _⟩ := h.ex
    rfl
  obtain ⟨cs, x, ws, rfl, hl, hsp, q, q2⟩ := h.ex
  refine ⟨_, (@pss_cons _ _ _ _ _ (@ps_set _ _ (1) _ _ _ _ sc__law_deed_of.nd rfl (Or.inl rfl) (@pe_bm _ _ _ _ _ _ _ _ _ _ _ _ PySem.F.plainAttrs_str PySem.F.slot_str_split PySem.F.type_str_split mt_split1 (@pv _ 0 _ _ (by rfl) (by first | exact Or.inl rfl | exact Or.inr (Or.inl rfl) | exact Or.inr (Or.inr rfl)) (by decide) (by decide)) (@pa_cons _ _ _ _ _ (@pe_str _ _ _ _) (@pa_nil _) (by rfl)) (by rfl) (by rfl) (by rfl) (by rfl) (by rfl)) (by rfl) (by first | exact .inl rfl | exact .inr rfl | assumption)) (@pss_cons _ _ _ _ _ (@ps_set _ _ (2) _ _ _ _ sc__law_deed_of.nd rfl (Or.inl rfl) (@pe_fn _ _ _ _ _ _ _ _ _ _ _ D__law_kinds_of hr (@pa_cons _ _ _ _ _ (@pv _ 1 _ _ (by rfl) (by first | exact Or.inl rfl | exact Or.inr (Or.inl rfl) | exact Or.inr (Or.inr rfl)) (by decide) (by decide)) (@pa_nil _) (by rfl)) (by decide) (by rfl) (by decide) (by rfl) (by rfl)) (by rfl) (by first | exact .inl rfl | exact .inr rfl | assumption)) (@pss_cons _ _ _ _ _ (@ps_if _ _ _ _ _ _ _ _ (@pt_cmpR _ _ _ _ _ _ _ _ op_ne (@pe_callB _ _ _ _ _ _ _ _ _ call_len_str (by rfl) m_len PySem.boot_len (@pa_cons _ _ _ _ _ (@pv _ 2 _ _ (by rfl) (by first | exact Or.inl rfl | exact Or.inr (Or.inl rfl) | exact Or.inr (Or.inr rfl)) (by decide) (by decide)) (@pa_nil _) (by rfl)) (by decide) (by decide) (by rfl) (by rfl)) (@pe_op _ _ _ _ _ _ _ _ op_sub (@pe_callB _ _ _ _ _ _ _ _ _ (call_lenK K) (by rfl) m_len PySem.boot_len (@pa_cons _ _ _ _ _ (@pv _ 1 _ _ (by rfl) (by first | exact Or.inl rfl | exact Or.inr (Or.inl rfl) | exact Or.inr (Or.inr rfl)) (by decide) (by decide)) (@pa_nil _) (by rfl)) (by decide) (by decide) (by rfl) (by rfl)) (@pe_int _ _ _ _)) (nomark _)) (@pss_one _ _ _ (@ps_ret _ _ _ _ (@pe_non _ _ _))) (@pss_nil _)) (@pss_cons _ _ _ _ _ (@ps_set _ _ (3) _ _ _ _ sc__law_deed_of.nd rfl (Or.inl rfl) (@pe_lst _ _ _ _ (@pa_cons _ _ _ _ _ (@pe_ix _ _ _ _ _ _ _ (ix_listK K) (@pv _ 1 _ _ (by rfl) (by first | exact Or.inl rfl | exact Or.inr (Or.inl rfl) | exact Or.inr (Or.inr rfl)) (by decide) (by decide)) (@pe_int _ _ _ _) (fun _ _ => rfl)) (@pa_nil _) (by rfl))) (by rfl) (by first | exact .inl rfl | exact .inr rfl | assumption)) (@pss_cons _ _ _ _ _ (@ps_for _ _ _ _ _ _ _ _ PassesOwn.never rfl (@pi_range1 _ _ _ _ _ _ (by rfl) m_range (@pa_cons _ _ _ _ _ (@pe_callB _ _ _ _ _ _ _ _ _ call_len_str (by rfl) m_len PySem.boot_len (@pa_cons _ _ _ _ _ (@pv _ 2 _ _ (by rfl) (by first | exact Or.inl rfl | exact Or.inr (Or.inl rfl) | exact Or.inr (Or.inr rfl)) (by decide) (by decide)) (@pa_nil _) (by rfl)) (by decide) (by decide) (by rfl) (by rfl)) (@pa_nil _) (by rfl)) (by rfl)) (@pg_name _ _ (4) _ sc__law_deed_of.nd rfl (Or.inl rfl) (by first | exact .inl rfl | exact .inr rfl | assumption)) (@pss_cons _ _ _ _ _ (@ps_set _ _ (5) _ _ _ _ sc__law_deed_of.nd rfl (Or.inl rfl) (@pe_ix _ _ _ _ _ _ _ (ix_listK K) (@pv _ 1 _ _ (by rfl) (by first | exact Or.inl rfl | exact Or.inr (Or.inl rfl) | exact Or.inr (Or.inr rfl)) (by decide) (by decide)) (@pe_op _ _ _ _ _ _ _ _ op_add (@pv _ 4 _ _ (by rfl) (by first | exact Or.inl rfl | exact Or.inr (Or.inl rfl) | exact Or.inr (Or.inr rfl)) (by decide) (by decide)) (@pe_int _ _ _ _)) (fun _ _ => rfl)) (by rfl) (by first | exact .inl rfl | exact .inr rfl | assumption)) (@pss_cons _ _ _ _ _ (@ps_ifJ _ _ _ _ _ _ _ _ (@pt_cmpR _ _ _ _ _ _ _ _ op_ne (@pe_ix _ _ _ _ _ _ _ ix_str (@pv _ 2 _ _ (by rfl) (by first | exact Or.inl rfl | exact Or.inr (Or.inl rfl) | exact Or.inr (Or.inr rfl)) (by decide) (by decide)) (@pv _ 4 _ _ (by rfl) (by first | exact Or.inl rfl | exact Or.inr (Or.inl rfl) | exact Or.inr (Or.inr rfl)) (by decide) (by decide)) (fun _ _ => rfl)) (@pe_str _ _ _ _) (nomark _)) (@pss_one _ _ _ (@ps_set _ _ (5) _ _ _ _ sc__law_deed_of.nd rfl (Or.inl rfl) (@pe_fn _ _ _ _ _ _ _ _ _ _ _ D__law_word_number hr (@pa_cons _ _ _ _ _ (@pv _ 5 _ _ (by rfl) (by first | exact Or.inl rfl | exact Or.inr (Or.inl rfl) | exact Or.inr (Or.inr rfl)) (by decide) (by decide)) (@pa_nil _) (by rfl)) (by decide) (by rfl) (by decide) (by rfl) (by rfl)) (by rfl) (by first | exact .inl rfl | exact .inr rfl | assumption))) (@pss_nil _)) (@pss_cons _ _ _ _ _ (@ps_if _ _ _ _ _ _ _ _ (@pt_cmpR _ _ _ _ _ _ _ _ op_isN (@pv _ 5 _ _ (by rfl) (by first | exact Or.inl rfl | exact Or.inr (Or.inl rfl) | exact Or.inr (Or.inr rfl)) (by decide) (by decide)) (@pe_non _ _ _) (nomark _)) (@pss_one _ _ _ (@ps_ret _ _ _ _ (@pe_non _ _ _))) (@pss_nil _)) (@pss_one _ _ _ (@ps_expr _ _ _ _ (@pe_bm _ _ _ _ _ _ _ _ _ _ _ _ PySem.F.plainAttrs_list PySem.F.slot_list_append PySem.F.type_list_append mt_append (@pv _ 3 _ _ (by rfl) (by first | exact Or.inl rfl | exact Or.inr (Or.inl rfl) | exact Or.inr (Or.inr rfl)) (by decide) (by decide)) (@pa_cons _ _ _ _ _ (@pv _ 5 _ _ (by rfl) (by first | exact Or.inl rfl | exact Or.inr (Or.inl rfl) | exact Or.inr (Or.inr rfl)) (by decide) (by decide)) (@pa_nil _) (by rfl)) (by rfl) (by rfl) (by rfl) (by rfl) (by rfl)) (by rfl)))))) (by intro _; rfl)) (@pss_cons _ _ _ _ _ (@ps_if _ _ _ _ _ _ _ _ (@pt_not _ _ _ _ (@pt_val _ _ _ (@pe_fn _ _ _ _ _ _ _ _ _ _ _ D__law_is_sound hr (@pa_cons _ _ _ _ _ (@pv _ 3 _ _ (by rfl) (by first | exact Or.inl rfl | exact Or.inr (Or.inl rfl) | exact Or.inr (Or.inr rfl)) (by decide) (by decide)) (@pa_nil _) (by rfl)) (by decide) (by rfl) (by decide) (by rfl) (by rfl)) (by intro _; rfl))) (@pss_one _ _ _ (@ps_ret _ _ _ _ (@pe_non _ _ _))) (@pss_nil _)) (@pss_one _ _ _ (@ps_ret _ _ _ _ (@pe_callTy _ _ _ _ _ _ _ _ _ call_tuple_of (by rfl) m_tuple PyProof.Rows.boot_tuple (@pa_cons _ _ _ _ _ (@pv _ 3 _ _ (by rfl) (by first | exact Or.inl rfl | exact Or.inr (Or.inl rfl) | exact Or.inr (Or.inr rfl)) (by decide) (by decide)) (@pa_nil _) (by rfl)) (by decide) (by decide) (by rfl) (by rfl)))))))))), ?_⟩
  have hwl : ws.length ≤ 900 := by
    have := split_many (cs := cs) (c := 32)
    rw [hsp, List.length_cons] at this
    omega
  have hw : ∀ w ∈ ws, w.length ≤ 900 := fun w m => Nat.le_trans (split_part_len (c := 32) (by rw [hsp]; exact List.mem_cons_of_mem _ m)) hl
  refine ⟨_, rfl, rfl, cs, 32, rfl, rfl, (by omega), fun pw hpw => ?_⟩
  rw [hsp]
  generalize hH1 : upd H pw (.lst (txs (x :: ws))) = H1
  have g1 : Same H H1 := hH1 ▸ same_new hpw _
  have hpw1 : H1 pw = some (.lst (txs (x :: ws))) := by rw [← hH1, upd_same]
  clear hH1
  have hsw : SqL K H1 pw (thV (.s x :: ws.map Th.s)) := by rw [← txs_th]; exact SqL.of hpw1
  have eml : (ws.map Th.s).length = ws.length := List.length_map _
  have emw : (ws.map wT).length = ws.length := List.length_map _
  refine ⟨_, rfl, use_kindsL hsw (by rw [eml]; omega) fun H2 g2 => ?_⟩
  rw [eml]
  have hpw2 := g2 _ _ hpw1
  have hkb := kinds_len (x := x) (n := ws.length) (by omega)
  have hz : (tx (kindsOf x (ws.length + 1))).length ≤ sizeLine := by rw [tx_length, sizeLine_eq]; omega
  have htl : (txs (x :: ws)).length = ws.length + 1 := by unfold txs; rw [List.length_map, List.length_cons]
  refine ⟨_, rfl, _, rfl, hz, _, rfl, pw, _, rfl, .inl (SqL.of hpw2), _, _, rfl, rfl, rfl, _, rfl, ?_⟩
  rw [tx_length, htl]
  by_cases hkl : ¬ (kindsOf x (ws.length + 1)).length = ws.length
  · rw [decide_eq_false (fun z => hkl (by have := V.int.inj z; omega) : ¬ V.int ((kindsOf x (ws.length + 1)).length : Int) = V.int (((ws.length + 1 : Nat) : Int) - 1))]
    exact iteT (q2 (kinds_short (th := ws.map wT) (by rw [emw]; exact hkl)) H2 (g1.trans g2))
  have hkl := Classical.not_not.mp hkl
  rw [decide_eq_true (by rw [hkl]; congr 1; omega : V.int ((kindsOf x (ws.length + 1)).length : Int) = V.int (((ws.length + 1 : Nat) : Int) - 1))]
  refine iteF ?_
  obtain ⟨ks, hf, hkk⟩ := kinds_form hkl
  have hlk : ks.length = ws.length := by rw [hkk, List.length_map] at hkl; exact hkl
  rw [hkk] at hz hkl ⊢
  have h0 : atI (txs (x :: ws)) 0 = some (.str (tx x)) := atI_nat (j := 0) rfl
  refine ⟨_, rfl, pw, _, 0, _, rfl, rfl, SqL.of hpw2, h0, (by show 1 ≤ sizeLine; decide), fun pt hpt => ?_⟩
  generalize hH3 : upd H2 pt (HO.lst _) = H3
  have hH3' : upd H2 pt (.lst [.str (tx x)]) = H3 := hH3
  have g3 : Same H2 H3 := hH3' ▸ same_new hpt _
  have hpt3 : H3 pt = some (.lst [.str (tx x)]) := by rw [← hH3', upd_same]
  clear hH3 hH3'
  refine ⟨_, rfl, _, rfl, hz, ?_⟩
  rw [tx_length, hkl]
  refine ⟨(ws.length : Int), rfl, by omega, by omega, ?_⟩
  refine for_range (lo := 0) (n := ((ws.length : Nat) : Int).toNat) (fun i σ H' => Same H2 H' ∧ H' pt = some (.lst (thV (.s x :: List.zipWith kindT (ws.take i) (ks.take i)))) ∧ (∀ p ∈ (ws.take i).zip (ks.take i), p.2.isNm = false → numOk p.1 = true) ∧ ∃ (s4 s5 : Option V), σ = [some (.str (tx cs)), some (.ref pw), some (.str (tx (ks.map kch))), some (.ref pt), s4, s5]) ⟨g3, hpt3, (fun _ m => nomatch m), none, none, rfl⟩ ?_ ?_
  · rintro i σ H' hi ⟨g', hpt', hnum, s4, s5, rfl⟩
    have hi1 : i < ws.length := by omega
    have hi2 : i < ks.length := by omega
    have e0 : (0 : Int) + (i : Int) = ((i : Nat) : Int) := by omega
    rw [e0]
    obtain ⟨w', hw'⟩ : ∃ t, ws[i]? = some t := ⟨_, List.getElem?_eq_getElem hi1⟩
    obtain ⟨k, hk⟩ : ∃ k, ks[i]? = some k := ⟨_, List.getElem?_eq_getElem hi2⟩
    have hwl' := hw w' (List.mem_of_getElem? hw')
    have hat : atI (txs (x :: ws)) ((i : Int) + 1) = some (.str (tx w')) := by
      have := atI_nat (xs := txs (x :: ws)) (j := i + 1) (v := .str (tx w')) (by show (txs ws)[i]? = _; unfold txs; rw [List.getElem?_map, hw']; rfl)
      rw [show (((i + 1 : Nat)) : Int) = (i : Int) + 1 by omega] at this
      exact this
    have hch : atI (tx (ks.map kch)).cps.toList (i : Int) = some (kch k) := atI_nat (by show ((ks.map kch).toArray.toList)[i]? = _; rw [List.toList_toArray, List.getElem?_map, hk]; rfl)
    have hpw' := g' _ _ hpw2
    have hnm : decide (V.str ⟨#[kch k]⟩ = V.str "n") = k.isNm := by cases k <;> decide +kernel
    refine ⟨_, rfl, _, rfl, _, _, rfl, rfl, pw, _, _, _, rfl, rfl, SqL.of hpw', hat, ?_⟩
    refine ⟨fun σ H'' => Same H' H'' ∧ σ = [some (.str (tx cs)), some (.ref pw), some (.str (tx (ks.map kch))), some (.ref pt), some (.int (i : Int)), some (if k.isNm = true then V.str (tx w') else numV w')], ?_, ?_⟩
    · refine ⟨_, rfl, _, rfl, _, _, _, rfl, rfl, hz, hch, rfl, _, rfl, ?_⟩
      show if (!decide (V.str ⟨#[kch k]⟩ = V.str "n")) = true then _ else _
      rw [hnm]
      cases hkn : k.isNm with
      | true => exact iteF ⟨Same.refl _, by rw [if_pos rfl]; rfl⟩
      | false => exact iteT ⟨_, rfl, use_number (by omega) fun H'' g'' => ⟨g'', by rw [if_neg Bool.false_ne_true]; rfl⟩⟩
    rintro σ H'' ⟨g'', rfl⟩
    have hpt2 := g'' _ _ hpt'
    have hzl : (thV (.s x :: List.zipWith kindT (ws.take i) (ks.take i))).length ≤ 1000 := by rw [thV_len, List.length_cons, List.length_zipWith, List.length_take]; omega
    have good : (k.isNm = false → numOk w' = true) → (if k.isNm = true then V.str (tx w') else numV w') = (kindT w' k).v := fun hok => by
      unfold kindT
      cases hkn : k.isNm with
      | true => rw [if_pos rfl, if_pos rfl]; rfl
      | false => unfold numV; rw [if_neg Bool.false_ne_true, if_neg Bool.false_ne_true, hok hkn, if_pos rfl]; rfl
    by_cases hok : k.isNm = false → numOk w' = true
    · rw [good hok]
      refine ⟨_, rfl, rfl, _, rfl, ?_⟩
      have hnn : ¬ (kindT w' k).v = V.non := by unfold kindT; split <;> exact fun z => nomatch z
      rw [decide_eq_false hnn]
      refine iteF ⟨_, rfl, .inl ⟨rfl, _, SqL.of hpt2⟩, _, rfl, pt, _, _, rfl, rfl, hpt2, (by rw [sizeLine_eq]; omega), (g'.trans g'').upd_new hpt _, ?_, ?_, _, _, rfl⟩
      · rw [upd_same, zip_take hw' hk]
        show some (HO.lst (_ ++ [(kindT w' k).v])) = some (HO.lst (thV (.s x :: (_ ++ [_]))))
        rw [← List.cons_append, thV_app]
        rfl
      · intro p hp hpn
        have e : (ws.take (i + 1)).zip (ks.take (i + 1)) = (ws.take i).zip (ks.take i) ++ [(w', k)] := zip_take (f := Prod.mk) hw' hk
        rw [e] at hp
        rcases List.mem_append.mp hp with z | z
        · exact hnum p z hpn
        · rw [List.mem_singleton.mp z] at hpn ⊢
          exact hok hpn
    · have hkn : k.isNm = false := by
        cases h : k.isNm with
        | false => rfl
        | true => exact absurd (fun z => by rw [h] at z; cases z) hok
      have hb : numOk w' = false := by
        cases h : numOk w' with
        | false => rfl
        | true => exact absurd (fun _ => h) hok
      have e : (if k.isNm = true then V.str (tx w') else numV w') = .non := by rw [hkn, if_neg Bool.false_ne_true]; unfold numV; rw [hb, if_neg Bool.false_ne_true]
      rw [e]
      exact ⟨_, rfl, rfl, _, rfl, iteT (q2 (kinds_bad hf hw' hk hkn hb) H'' (g1.trans (g2.trans (g'.trans g''))))⟩
  rintro σ H' ⟨g', hpt', hnum, s4, s5, rfl⟩
  rw [show (((ws.length : Nat) : Int).toNat) = ws.length by omega] at hpt' hnum
  rw [List.take_length, ← hlk, List.take_length] at hpt' hnum
  obtain ⟨sk1, sk2⟩ := sound_kinds hf hlk.symm hnum
  have G := g1.trans (g2.trans g')
  refine ⟨_, rfl, use_soundL (SqL.of hpt') (by rw [List.length_zipWith]; omega) (fun t ht => ?_) fun H4 g4 => ⟨_, rfl, ?_⟩⟩
  · obtain ⟨n, hn⟩ := List.getElem?_of_mem ht
    rw [List.getElem?_zipWith] at hn
    cases e1 : ws[n]? with
    | none => rw [e1] at hn; cases hn
    | some w1 =>
      cases e2 : ks[n]? with
      | none => rw [e1, e2] at hn; cases hn
      | some k1 =>
        rw [e1, e2] at hn
        have e : kindT w1 k1 = t := Option.some.inj hn
        have := hw w1 (List.mem_of_getElem? e1)
        rw [← e]
        unfold kindT
        split
        · show w1.length ≤ 1000
          omega
        · exact True.intro
  rw [sk1]
  cases hs : soundT x (ws.map wT) with
  | false => exact iteT (q2 hs H4 (G.trans g4))
  | true =>
    rw [sk2 hs] at hpt'
    exact iteF ⟨_, rfl, pt, _, rfl, .inl ⟨SqL.of (g4 _ _ hpt'), fun z hz => q hs z _ (G.trans (g4.trans (same_new hz _))) upd_same⟩⟩
abbrev sd__law_sign : Stmt := top 40
abbrev N__law_sign : List Str := ["_law_code", "_law_some"]
abbrev P__law_sign : List Str := ["_law_code"]
theorem sc__law_sign : FnScope N__law_sign P__law_sign (defScope sd__law_sign) := ⟨rfl, rfl, rfl, by decide +kernel, rfl, by decide +kernel, by decide +kernel⟩
theorem ok__law_sign (F : At K mg "_law_sign" sd__law_sign f fd) : Dn P w K mg base 1 "_law_sign" P__law_sign spSign := by
  refine F.ok sc__law_sign (fun vs H Q E h => ?_) (fun cdv A outer s H vs Q E hr h => ?_) (fun _ _ _ _ _ _ us hl => match us, hl with | [_], _ => rfl)
  · obtain ⟨k, rfl, _⟩ := h.ex
    rfl
  obtain ⟨k, rfl, q⟩ := h.ex
  refine ⟨_, (@pss_cons _ _ _ _ _ (@ps_set _ _ (1) _ _ _ _ sc__law_sign.nd rfl (Or.inl rfl) (@pe_str _ _ _ _) (by rfl) (by first | exact .inl rfl | exact .inr rfl | assumption)) (@pss_cons _ _ _ _ _ (@ps_set _ _ (1) _ _ _ _ sc__law_sign.nd rfl (Or.inl rfl) (@pe_op _ _ _ _ _ _ _ _ op_add_str (@pv _ 1 _ _ (by rfl) (by first | exact Or.inl rfl | exact Or.inr (Or.inl rfl) | exact Or.inr (Or.inr rfl)) (by decide) (by decide)) (@pe_str _ _ _ _)) (by rfl) (by first | exact .inl rfl | exact .inr rfl | assumption)) (@pss_one _ _ _ (@ps_ret _ _ _ _ (@pe_ix _ _ _ _ _ _ _ ix_str (@pv _ 1 _ _ (by rfl) (by first | exact Or.inl rfl | exact Or.inr (Or.inl rfl) | exact Or.inr (Or.inr rfl)) (by decide) (by decide)) (@pe_op _ _ _ _ _ _ _ _ op_mod (@pv _ 0 _ _ (by rfl) (by first | exact Or.inl rfl | exact Or.inr (Or.inl rfl) | exact Or.inr (Or.inr rfl)) (by decide) (by decide)) (@pe_int _ _ _ _)) (fun _ _ => rfl)))))), ?_⟩
  have hm0 : 0 ≤ k % 95 := Int.emod_nonneg _ (by decide)
  have hm1 : k % 95 < 95 := Int.emod_lt_of_pos _ (by decide)
  refine ⟨_, rfl, _, _, rfl, rfl, (by decide +kernel), ?_⟩
  refine ⟨_, rfl, _, rfl, _, _, rfl, rfl, (by show (0 : Int) < 95; decide), ?_⟩
  have hh : ∀ n : Nat, n < 95 → ∃ c, (" !\"#$&'()*+,-./0123456789:;<=>?@ABCDEFGHIJKLMNOPQRSTUVWXYZ[\\]^_`" ++ "abcdefghijklmnopqrstuvwxyz{|}~\n" : Str).cps.toList[n]? = some c := fun n hn => by
    have hl : (" !\"#$&'()*+,-./0123456789:;<=>?@ABCDEFGHIJKLMNOPQRSTUVWXYZ[\\]^_`" ++ "abcdefghijklmnopqrstuvwxyz{|}~\n" : Str).cps.toList.length = 95 := by decide +kernel
    exact ⟨_, List.getElem?_eq_getElem (by rw [hl]; exact hn)⟩
  obtain ⟨c, hc⟩ := hh (k % 95).toNat (by omega)
  have e : k % 95 = (((k % 95).toNat : Nat) : Int) := by omega
  have hat := atI_nat hc
  rw [← e] at hat
  exact ⟨_, _, c, rfl, rfl, (by decide +kernel), hat, q c⟩
abbrev sd__law_spoilt : Stmt := top 41
abbrev N__law_spoilt : List Str := ["_law_script", "_law_k", "_law_word", "_law_at", "_law_sign_here", "_law_way"]
abbrev P__law_spoilt : List Str := ["_law_script", "_law_k", "_law_word"]
theorem sc__law_spoilt : FnScope N__law_spoilt P__law_spoilt (defScope sd__law_spoilt) := ⟨rfl, rfl, rfl, by decide +kernel, rfl, by decide +kernel, by decide +kernel⟩
theorem ok__law_spoilt (F : At K mg "_law_spoilt" sd__law_spoilt f fd) (D__law_draw : Dn P w K mg base 1 "_law_draw" ["_law_script", "_law_k", "_law_j", "_law_many"] (spDraw K)) (D__law_sign : Dn P w K mg base 1 "_law_sign" ["_law_code"] spSign) (m_len : mg "len" = none) : Dn P w K mg base 2 "_law_spoilt" P__law_spoilt (spSpoilt K) := by
  refine F.ok sc__law_spoilt (fun vs H Q E h => ?_) (fun cdv A outer s H vs Q E hr h => ?_) (fun _ _ _ _ _ _ us hl => match us, hl with | [_, _, _], _ => rfl)
  · obtain ⟨a, ms, k, cs, rfl, _⟩ := h.ex
    rfl
  obtain ⟨a, ms, k, cs, rfl, hS, h63, hk, hl, q⟩ := h.ex
  refine ⟨_, (@pss_cons _ _ _ _ _ (@ps_set _ _ (3) _ _ _ _ sc__law_spoilt.nd rfl (Or.inl rfl) (@pe_fn _ _ _ _ _ _ _ _ _ _ _ D__law_draw hr (@pa_cons _ _ _ _ _ (@pv _ 0 _ _ (by rfl) (by first | exact Or.inl rfl | exact Or.inr (Or.inl rfl) | exact Or.inr (Or.inr rfl)) (by decide) (by decide)) (@pa_cons _ _ _ _ _ (@pv _ 1 _ _ (by rfl) (by first | exact Or.inl rfl | exact Or.inr (Or.inl rfl) | exact Or.inr (Or.inr rfl)) (by decide) (by decide)) (@pa_cons _ _ _ _ _ (@pe_int _ _ _ _) (@pa_cons _ _ _ _ _ (@pe_op _ _ _ _ _ _ _ _ op_add (@pe_callB _ _ _ _ _ _ _ _ _ call_len_str (by rfl) m_len PySem.boot_len (@pa_cons _ _ _ _ _ (@pv _ 2 _ _ (by rfl) (by first | exact Or.inl rfl | exact Or.inr (Or.inl rfl) | exact Or.inr (Or.inr rfl)) (by decide) (by decide)) (@pa_nil _) (by rfl)) (by decide) (by decide) (by rfl) (by rfl)) (@pe_int _ _ _ _)) (@pa_nil _) (by rfl)) (by rfl)) (by rfl)) (by rfl)) (by decide) (by rfl) (by decide) (by rfl) (by rfl)) (by rfl) (by first | exact .inl rfl | exact .inr rfl | assumption)) (@pss_cons _ _ _ _ _ (@ps_set _ _ (4) _ _ _ _ sc__law_spoilt.nd rfl (Or.inl rfl) (@pe_fn _ _ _ _ _ _ _ _ _ _ _ D__law_sign hr (@pa_cons _ _ _ _ _ (@pe_fn _ _ _ _ _ _ _ _ _ _ _ D__law_draw hr (@pa_cons _ _ _ _ _ (@pv _ 0 _ _ (by rfl) (by first | exact Or.inl rfl | exact Or.inr (Or.inl rfl) | exact Or.inr (Or.inr rfl)) (by decide) (by decide)) (@pa_cons _ _ _ _ _ (@pv _ 1 _ _ (by rfl) (by first | exact Or.inl rfl | exact Or.inr (Or.inl rfl) | exact Or.inr (Or.inr rfl)) (by decide) (by decide)) (@pa_cons _ _ _ _ _ (@pe_int _ _ _ _) (@pa_cons _ _ _ _ _ (@pe_int _ _ _ _) (@pa_nil _) (by rfl)) (by rfl)) (by rfl)) (by rfl)) (by decide) (by rfl) (by decide) (by rfl) (by rfl)) (@pa_nil _) (by rfl)) (by decide) (by rfl) (by decide) (by rfl) (by rfl)) (by rfl) (by first | exact .inl rfl | exact .inr rfl | assumption)) (@pss_cons _ _ _ _ _ (@ps_ifJ _ _ _ _ _ _ _ _ (@pt_cmpR _ _ _ _ _ _ _ _ op_eq (@pe_fn _ _ _ _ _ _ _ _ _ _ _ D__law_draw hr (@pa_cons _ _ _ _ _ (@pv _ 0 _ _ (by rfl) (by first | exact Or.inl rfl | exact Or.inr (Or.inl rfl) | exact Or.inr (Or.inr rfl)) (by decide) (by decide)) (@pa_cons _ _ _ _ _ (@pv _ 1 _ _ (by rfl) (by first | exact Or.inl rfl | exact Or.inr (Or.inl rfl) | exact Or.inr (Or.inr rfl)) (by decide) (by decide)) (@pa_cons _ _ _ _ _ (@pe_int _ _ _ _) (@pa_cons _ _ _ _ _ (@pe_int _ _ _ _) (@pa_nil _) (by rfl)) (by rfl)) (by rfl)) (by rfl)) (by decide) (by rfl) (by decide) (by rfl) (by rfl)) (@pe_int _ _ _ _) (nomark _)) (@pss_one _ _ _ (@ps_set _ _ (4) _ _ _ _ sc__law_spoilt.nd rfl (Or.inl rfl) (@pe_ix _ _ _ _ _ _ _ ix_str (@pe_str _ _ _ _) (@pe_fn _ _ _ _ _ _ _ _ _ _ _ D__law_draw hr (@pa_cons _ _ _ _ _ (@pv _ 0 _ _ (by rfl) (by first | exact Or.inl rfl | exact Or.inr (Or.inl rfl) | exact Or.inr (Or.inr rfl)) (by decide) (by decide)) (@pa_cons _ _ _ _ _ (@pv _ 1 _ _ (by rfl) (by first | exact Or.inl rfl | exact Or.inr (Or.inl rfl) | exact Or.inr (Or.inr rfl)) (by decide) (by decide)) (@pa_cons _ _ _ _ _ (@pe_int _ _ _ _) (@pa_cons _ _ _ _ _ (@pe_int _ _ _ _) (@pa_nil _) (by rfl)) (by rfl)) (by rfl)) (by rfl)) (by decide) (by rfl) (by decide) (by rfl) (by rfl)) (fun _ _ => rfl)) (by rfl) (by first | exact .inl rfl | exact .inr rfl | assumption))) (@pss_nil _)) (@pss_cons _ _ _ _ _ (@ps_set _ _ (5) _ _ _ _ sc__law_spoilt.nd rfl (Or.inl rfl) (@pe_fn _ _ _ _ _ _ _ _ _ _ _ D__law_draw hr (@pa_cons _ _ _ _ _ (@pv _ 0 _ _ (by rfl) (by first | exact Or.inl rfl | exact Or.inr (Or.inl rfl) | exact Or.inr (Or.inr rfl)) (by decide) (by decide)) (@pa_cons _ _ _ _ _ (@pv _ 1 _ _ (by rfl) (by first | exact Or.inl rfl | exact Or.inr (Or.inl rfl) | exact Or.inr (Or.inr rfl)) (by decide) (by decide)) (@pa_cons _ _ _ _ _ (@pe_int _ _ _ _) (@pa_cons _ _ _ _ _ (@pe_int _ _ _ _) (@pa_nil _) (by rfl)) (by rfl)) (by rfl)) (by rfl)) (by decide) (by rfl) (by decide) (by rfl) (by rfl)) (by rfl) (by first | exact .inl rfl | exact .inr rfl | assumption)) (@pss_cons _ _ _ _ _ (@ps_if _ _ _ _ _ _ _ _ (@pt_cmpR _ _ _ _ _ _ _ _ op_eq (@pv _ 5 _ _ (by rfl) (by first | exact Or.inl rfl | exact Or.inr (Or.inl rfl) | exact Or.inr (Or.inr rfl)) (by decide) (by decide)) (@pe_int _ _ _ _) (nomark _)) (@pss_one _ _ _ (@ps_ret _ _ _ _ (@pe_op _ _ _ _ _ _ _ _ op_add_str (@pe_op _ _ _ _ _ _ _ _ op_add_str (@pe_slice _ _ _ _ _ _ _ _ _ _ sl_str (@pv _ 2 _ _ (by rfl) (by first | exact Or.inl rfl | exact Or.inr (Or.inl rfl) | exact Or.inr (Or.inr rfl)) (by decide) (by decide)) (@po_none _) (@po_some _ _ _ (@pv _ 3 _ _ (by rfl) (by first | exact Or.inl rfl | exact Or.inr (Or.inl rfl) | exact Or.inr (Or.inr rfl)) (by decide) (by decide)))) (@pv _ 4 _ _ (by rfl) (by first | exact Or.inl rfl | exact Or.inr (Or.inl rfl) | exact Or.inr (Or.inr rfl)) (by decide) (by decide))) (@pe_slice _ _ _ _ _ _ _ _ _ _ sl_str (@pv _ 2 _ _ (by rfl) (by first | exact Or.inl rfl | exact Or.inr (Or.inl rfl) | exact Or.inr (Or.inr rfl)) (by decide) (by decide)) (@po_some _ _ _ (@pv _ 3 _ _ (by rfl) (by first | exact Or.inl rfl | exact Or.inr (Or.inl rfl) | exact Or.inr (Or.inr rfl)) (by decide) (by decide))) (@po_none _))))) (@pss_nil _)) (@pss_cons _ _ _ _ _ (@ps_if _ _ _ _ _ _ _ _ (@pt_cmpR _ _ _ _ _ _ _ _ op_eq (@pv _ 5 _ _ (by rfl) (by first | exact Or.inl rfl | exact Or.inr (Or.inl rfl) | exact Or.inr (Or.inr rfl)) (by decide) (by decide)) (@pe_int _ _ _ _) (nomark _)) (@pss_one _ _ _ (@ps_ret _ _ _ _ (@pe_op _ _ _ _ _ _ _ _ op_add_str (@pe_slice _ _ _ _ _ _ _ _ _ _ sl_str (@pv _ 2 _ _ (by rfl) (by first | exact Or.inl rfl | exact Or.inr (Or.inl rfl) | exact Or.inr (Or.inr rfl)) (by decide) (by decide)) (@po_none _) (@po_some _ _ _ (@pv _ 3 _ _ (by rfl) (by first | exact Or.inl rfl | exact Or.inr (Or.inl rfl) | exact Or.inr (Or.inr rfl)) (by decide) (by decide)))) (@pe_slice _ _ _ _ _ _ _ _ _ _ sl_str (@pv _ 2 _ _ (by rfl) (by first | exact Or.inl rfl | exact Or.inr (Or.inl rfl) | exact Or.inr (Or.inr rfl)) (by decide) (by decide)) (@po_some _ _ _ (@pe_op _ _ _ _ _ _ _ _ op_add (@pv _ 3 _ _ (by rfl) (by first | exact Or.inl rfl | exact Or.inr (Or.inl rfl) | exact Or.inr (Or.inr rfl)) (by decide) (by decide)) (@pe_int _ _ _ _))) (@po_none _))))) (@pss_nil _)) (@pss_cons _ _ _ _ _ (@ps_if _ _ _ _ _ _ _ _ (@pt_cmpR _ _ _ _ _ _ _ _ op_eq (@pv _ 5 _ _ (by rfl) (by first | exact Or.inl rfl | exact Or.inr (Or.inl rfl) | exact Or.inr (Or.inr rfl)) (by decide) (by decide)) (@pe_int _ _ _ _) (nomark _)) (@pss_one _ _ _ (@ps_ret _ _ _ _ (@pe_op _ _ _ _ _ _ _ _ op_add_str (@pe_op _ _ _ _ _ _ _ _ op_add_str (@pe_slice _ _ _ _ _ _ _ _ _ _ sl_str (@pv _ 2 _ _ (by rfl) (by first | exact Or.inl rfl | exact Or.inr (Or.inl rfl) | exact Or.inr (Or.inr rfl)) (by decide) (by decide)) (@po_none _) (@po_some _ _ _ (@pv _ 3 _ _ (by rfl) (by first | exact Or.inl rfl | exact Or.inr (Or.inl rfl) | exact Or.inr (Or.inr rfl)) (by decide) (by decide)))) (@pv _ 4 _ _ (by rfl) (by first | exact Or.inl rfl | exact Or.inr (Or.inl rfl) | exact Or.inr (Or.inr rfl)) (by decide) (by decide))) (@pe_slice _ _ _ _ _ _ _ _ _ _ sl_str (@pv _ 2 _ _ (by rfl) (by first | exact Or.inl rfl | exact Or.inr (Or.inl rfl) | exact Or.inr (Or.inr rfl)) (by decide) (by decide)) (@po_some _ _ _ (@pe_op _ _ _ _ _ _ _ _ op_add (@pv _ 3 _ _ (by rfl) (by first | exact Or.inl rfl | exact Or.inr (Or.inl rfl) | exact Or.inr (Or.inr rfl)) (by decide) (by decide)) (@pe_int _ _ _ _))) (@po_none _))))) (@pss_nil _)) (@pss_one _ _ _ (@ps_ret _ _ _ _ (@pv _ 2 _ _ (by rfl) (by first | exact Or.inl rfl | exact Or.inr (Or.inl rfl) | exact Or.inr (Or.inr rfl)) (by decide) (by decide))))))))))), ?_⟩
  have hz : (tx cs).length ≤ sizeLine := by rw [tx_length, sizeLine_eq]; omega
  have hzc : cs.length ≤ sizeLine := by rw [sizeLine_eq]; omega
  refine ⟨_, rfl, _, rfl, _, rfl, _, rfl, hz, _, _, rfl, rfl, ?_⟩
  rw [tx_length]
  refine use_draw hS h63 hk (by decide) (by decide) (by omega) fun at' _ a0 a1 => ?_
  obtain ⟨n, en⟩ : ∃ n : Nat, at' = (n : Int) := ⟨at'.toNat, by omega⟩
  subst en
  refine ⟨_, rfl, _, rfl, use_draw hS h63 hk (by decide) (by decide) (by decide) fun sg _ _ _ => use_sign fun ch => ?_⟩
  refine ⟨fun σ H' => H' = H ∧ ∃ c : Nat, σ = [some (.ref a), some (.int k), some (.str (tx cs)), some (.int (n : Int)), some (.str (tx [c])), none], ?_, ?_⟩
  · refine ⟨_, rfl, _, rfl, use_draw hS h63 hk (by decide) (by decide) (by decide) fun wd _ _ _ => ⟨rfl, _, rfl, ite2 (fun _ => ?_) (fun _ => ?_)⟩⟩
    · refine ⟨_, rfl, _, rfl, use_draw hS h63 hk (by decide) (by decide) (by decide) fun d _ d0 d1 => ?_⟩
      obtain ⟨c, hc⟩ : ∃ c, atI (" /0\n" : Str).cps.toList d = some c := by
        have hl4 : (" /0\n" : Str).cps.toList.length = 4 := by decide +kernel
        have e : d = ((d.toNat : Nat) : Int) := by omega
        rw [e]
        exact ⟨_, atI_nat (List.getElem?_eq_getElem (by rw [hl4]; omega))⟩
      exact ⟨_, _, c, rfl, rfl, (by decide +kernel), hc, rfl, c, rfl⟩
    · exact ⟨rfl, ch, rfl⟩
  rintro σ H' ⟨rfl, c, rfl⟩
  refine ⟨_, rfl, _, rfl, use_draw hS h63 hk (by decide) (by decide) (by decide) fun way _ _ _ => ?_⟩
  have hlen1 : (tx (cs.take n)).length + (tx [c]).length ≤ sizeLine := by rw [tx_length, tx_length, List.length_take, sizeLine_eq]; show _ + 1 ≤ _; omega
  refine ⟨_, rfl, rfl, _, rfl, ite2 (fun _ => ?_) (fun _ => ?_)⟩
  · refine ⟨_, rfl, _, rfl, (n : Int), rfl, cs, rfl, hzc, ?_⟩
    rw [cutN_to]
    refine ⟨_, rfl, _, _, rfl, rfl, hlen1, ?_⟩
    rw [tx_cat]
    refine ⟨_, rfl, _, rfl, (n : Int), rfl, cs, rfl, hzc, ?_⟩
    rw [cutN_from]
    refine ⟨_, _, rfl, rfl, (by rw [tx_length, tx_length, List.length_append, List.length_take, List.length_drop, sizeLine_eq]; show _ + 1 + _ ≤ _; omega), ?_⟩
    rw [tx_cat]
    exact q _ (by rw [List.length_append, List.length_append, List.length_take, List.length_drop]; show _ + 1 + _ ≤ _; omega)
  refine ⟨_, rfl, rfl, _, rfl, ite2 (fun _ => ?_) (fun _ => ?_)⟩
  · refine ⟨_, rfl, _, rfl, (n : Int), rfl, cs, rfl, hzc, ?_⟩
    rw [cutN_to]
    refine ⟨_, rfl, _, rfl, _, _, rfl, rfl, ((n : Int) + 1), rfl, cs, rfl, hzc, ?_⟩
    rw [show ((n : Int) + 1) = ((n + 1 : Nat) : Int) from by omega, cutN_from]
    refine ⟨_, _, rfl, rfl, (by rw [tx_length, tx_length, List.length_take, List.length_drop, sizeLine_eq]; omega), ?_⟩
    rw [tx_cat]
    exact q _ (by rw [List.length_append, List.length_take, List.length_drop]; omega)
  refine ⟨_, rfl, rfl, _, rfl, ite2 (fun _ => ?_) (fun _ => ?_)⟩
  · refine ⟨_, rfl, _, rfl, (n : Int), rfl, cs, rfl, hzc, ?_⟩
    rw [cutN_to]
    refine ⟨_, rfl, _, _, rfl, rfl, hlen1, ?_⟩
    rw [tx_cat]
    refine ⟨_, rfl, _, rfl, _, _, rfl, rfl, ((n : Int) + 1), rfl, cs, rfl, hzc, ?_⟩
    rw [show ((n : Int) + 1) = ((n + 1 : Nat) : Int) from by omega, cutN_from]
    refine ⟨_, _, rfl, rfl, (by rw [tx_length, tx_length, List.length_append, List.length_take, List.length_drop, sizeLine_eq]; show _ + 1 + _ ≤ _; omega), ?_⟩
    rw [tx_cat]
    exact q _ (by rw [List.length_append, List.length_append, List.length_take, List.length_drop]; show _ + 1 + _ ≤ _; omega)
  exact ⟨_, rfl, q cs (by omega)⟩
abbrev sd__law_line : Stmt := top 42
abbrev N__law_line : List Str := ["_law_script", "_law_k", "_law_deed", "_law_line_here", "_law_words", "_law_at", "_law_some"]
abbrev P__law_line : List Str := ["_law_script", "_law_k", "_law_deed"]
theorem sc__law_line : FnScope N__law_line P__law_line (defScope sd__law_line) := ⟨rfl, rfl, rfl, by decide +kernel, rfl, by decide +kernel, by decide +kernel⟩
theorem ok__law_line (F : At K mg "_law_line" sd__law_line f fd) (D__law_draw : Dn P w K mg base 1 "_law_draw" ["_law_script", "_law_k", "_law_j", "_law_many"] (spDraw K)) (D__law_spoilt : Dn P w K mg base 2 "_law_spoilt" ["_law_script", "_law_k", "_law_word"] (spSpoilt K)) (m_str : mg "str" = none) (m_len : mg "len" = none) : Dn P w K mg base 3 "_law_line" P__law_line (spLineX K) := by
  refine F.ok sc__law_line (fun vs H Q E h => ?_) (fun cdv A outer s H vs Q E hr h => ?_) (fun _ _ _ _ _ _ us hl => match us, hl with | [_, _, _], _ => rfl)
  · obtain ⟨a, d, ms, k, ds, rfl, _⟩ := h.ex
    rfl
  obtain ⟨a, d, ms, k, ds, rfl, hS, h63, hk, hd, ok, q⟩ := h.ex
  refine ⟨_, (@pss_cons _ _ _ _ _ (@ps_set _ _ (3) _ _ _ _ sc__law_line.nd rfl (Or.inl rfl) (@pe_bm _ _ _ _ _ _ _ _ _ _ _ _ PySem.F.plainAttrs_str PySem.F.slot_str_join PySem.F.type_str_join (mt_join1 K) (@pe_str _ _ _ _) (@pa_cons _ _ _ _ _ (@pe_comp _ _ _ _ _ _ ["_law_thing"] [none] _ _ _ rfl (@pi_tupK _ K _ _ _ (@pv _ 2 _ _ (by rfl) (by first | exact Or.inl rfl | exact Or.inr (Or.inl rfl) | exact Or.inr (Or.inr rfl)) (by decide) (by decide)) (by rfl)) (fun _ _ _ _ => (@pg_name _ _ (0) _ (show List.Nodup (["_law_thing"] : List Str) from by decide +kernel) rfl (Or.inl rfl) (by first | exact .inl rfl | exact .inr rfl | assumption))) (fun _ _ _ _ => (@pe_callTy _ _ _ _ _ _ _ _ _ call_strY (by rfl) m_str PyProof.Rows.boot_str (@pa_cons _ _ _ _ _ (@pv _ 0 _ _ (by rfl) (by first | exact Or.inl rfl | exact Or.inr (Or.inl rfl) | exact Or.inr (Or.inr rfl)) (by decide) (by decide)) (@pa_nil _) (by rfl)) (by decide) (by decide) (by rfl) (by rfl))) rfl (by rfl) (by intro _; rfl)) (@pa_nil _) (by rfl)) (by rfl) (by rfl) (by rfl) (by rfl) (by rfl)) (by rfl) (by first | exact .inl rfl | exact .inr rfl | assumption)) (@pss_cons _ _ _ _ _ (@ps_ifJ _ _ _ _ _ _ _ _ (@pt_cmpR _ _ _ _ _ _ _ _ op_gt (@pe_fn _ _ _ _ _ _ _ _ _ _ _ D__law_draw hr (@pa_cons _ _ _ _ _ (@pv _ 0 _ _ (by rfl) (by first | exact Or.inl rfl | exact Or.inr (Or.inl rfl) | exact Or.inr (Or.inr rfl)) (by decide) (by decide)) (@pa_cons _ _ _ _ _ (@pv _ 1 _ _ (by rfl) (by first | exact Or.inl rfl | exact Or.inr (Or.inl rfl) | exact Or.inr (Or.inr rfl)) (by decide) (by decide)) (@pa_cons _ _ _ _ _ (@pe_int _ _ _ _) (@pa_cons _ _ _ _ _ (@pe_int _ _ _ _) (@pa_nil _) (by rfl)) (by rfl)) (by rfl)) (by rfl)) (by decide) (by rfl) (by decide) (by rfl) (by rfl)) (@pe_int _ _ _ _) (nomark _)) (@pss_one _ _ _ (@ps_set _ _ (3) _ _ _ _ sc__law_line.nd rfl (Or.inl rfl) (@pe_fn _ _ _ _ _ _ _ _ _ _ _ D__law_spoilt hr (@pa_cons _ _ _ _ _ (@pv _ 0 _ _ (by rfl) (by first | exact Or.inl rfl | exact Or.inr (Or.inl rfl) | exact Or.inr (Or.inr rfl)) (by decide) (by decide)) (@pa_cons _ _ _ _ _ (@pv _ 1 _ _ (by rfl) (by first | exact Or.inl rfl | exact Or.inr (Or.inl rfl) | exact Or.inr (Or.inr rfl)) (by decide) (by decide)) (@pa_cons _ _ _ _ _ (@pv _ 3 _ _ (by rfl) (by first | exact Or.inl rfl | exact Or.inr (Or.inl rfl) | exact Or.inr (Or.inr rfl)) (by decide) (by decide)) (@pa_nil _) (by rfl)) (by rfl)) (by rfl)) (by decide) (by rfl) (by decide) (by rfl) (by rfl)) (by rfl) (by first | exact .inl rfl | exact .inr rfl | assumption))) (@pss_nil _)) (@pss_cons _ _ _ _ _ (@ps_ifJ _ _ _ _ _ _ _ _ (@pt_cmpR _ _ _ _ _ _ _ _ op_gt (@pe_fn _ _ _ _ _ _ _ _ _ _ _ D__law_draw hr (@pa_cons _ _ _ _ _ (@pv _ 0 _ _ (by rfl) (by first | exact Or.inl rfl | exact Or.inr (Or.inl rfl) | exact Or.inr (Or.inr rfl)) (by decide) (by decide)) (@pa_cons _ _ _ _ _ (@pv _ 1 _ _ (by rfl) (by first | exact Or.inl rfl | exact Or.inr (Or.inl rfl) | exact Or.inr (Or.inr rfl)) (by decide) (by decide)) (@pa_cons _ _ _ _ _ (@pe_int _ _ _ _) (@pa_cons _ _ _ _ _ (@pe_int _ _ _ _) (@pa_nil _) (by rfl)) (by rfl)) (by rfl)) (by rfl)) (by decide) (by rfl) (by decide) (by rfl) (by rfl)) (@pe_int _ _ _ _) (nomark _)) (@pss_cons _ _ _ _ _ (@ps_set _ _ (4) _ _ _ _ sc__law_line.nd rfl (Or.inl rfl) (@pe_bm _ _ _ _ _ _ _ _ _ _ _ _ PySem.F.plainAttrs_str PySem.F.slot_str_split PySem.F.type_str_split mt_split1 (@pv _ 3 _ _ (by rfl) (by first | exact Or.inl rfl | exact Or.inr (Or.inl rfl) | exact Or.inr (Or.inr rfl)) (by decide) (by decide)) (@pa_cons _ _ _ _ _ (@pe_str _ _ _ _) (@pa_nil _) (by rfl)) (by rfl) (by rfl) (by rfl) (by rfl) (by rfl)) (by rfl) (by first | exact .inl rfl | exact .inr rfl | assumption)) (@pss_cons _ _ _ _ _ (@ps_set _ _ (5) _ _ _ _ sc__law_line.nd rfl (Or.inl rfl) (@pe_fn _ _ _ _ _ _ _ _ _ _ _ D__law_draw hr (@pa_cons _ _ _ _ _ (@pv _ 0 _ _ (by rfl) (by first | exact Or.inl rfl | exact Or.inr (Or.inl rfl) | exact Or.inr (Or.inr rfl)) (by decide) (by decide)) (@pa_cons _ _ _ _ _ (@pv _ 1 _ _ (by rfl) (by first | exact Or.inl rfl | exact Or.inr (Or.inl rfl) | exact Or.inr (Or.inr rfl)) (by decide) (by decide)) (@pa_cons _ _ _ _ _ (@pe_int _ _ _ _) (@pa_cons _ _ _ _ _ (@pe_callB _ _ _ _ _ _ _ _ _ (call_lenK K) (by rfl) m_len PySem.boot_len (@pa_cons _ _ _ _ _ (@pv _ 4 _ _ (by rfl) (by first | exact Or.inl rfl | exact Or.inr (Or.inl rfl) | exact Or.inr (Or.inr rfl)) (by decide) (by decide)) (@pa_nil _) (by rfl)) (by decide) (by decide) (by rfl) (by rfl)) (@pa_nil _) (by rfl)) (by rfl)) (by rfl)) (by rfl)) (by decide) (by rfl) (by decide) (by rfl) (by rfl)) (by rfl) (by first | exact .inl rfl | exact .inr rfl | assumption)) (@pss_cons _ _ _ _ _ (@ps_set _ _ (6) _ _ _ _ sc__law_line.nd rfl (Or.inl rfl) (@pe_lst _ _ _ _ (@pa_cons _ _ _ _ _ (@pe_str _ _ _ _) (@pa_cons _ _ _ _ _ (@pe_str _ _ _ _) (@pa_cons _ _ _ _ _ (@pe_str _ _ _ _) (@pa_cons _ _ _ _ _ (@pe_str _ _ _ _) (@pa_cons _ _ _ _ _ (@pe_str _ _ _ _) (@pa_cons _ _ _ _ _ (@pe_str _ _ _ _) (@pa_cons _ _ _ _ _ (@pe_str _ _ _ _) (@pa_cons _ _ _ _ _ (@pe_str _ _ _ _) (@pa_cons _ _ _ _ _ (@pe_str _ _ _ _) (@pa_cons _ _ _ _ _ (@pe_str _ _ _ _) (@pa_cons _ _ _ _ _ (@pe_str _ _ _ _) (@pa_nil _) (by rfl)) (by rfl)) (by rfl)) (by rfl)) (by rfl)) (by rfl)) (by rfl)) (by rfl)) (by rfl)) (by rfl)) (by rfl))) (by rfl) (by first | exact .inl rfl | exact .inr rfl | assumption)) (@pss_cons _ _ _ _ _ (@ps_asg _ _ _ _ _ _ (@pe_ix _ _ _ _ _ _ _ (ix_listK K) (@pv _ 6 _ _ (by rfl) (by first | exact Or.inl rfl | exact Or.inr (Or.inl rfl) | exact Or.inr (Or.inr rfl)) (by decide) (by decide)) (@pe_fn _ _ _ _ _ _ _ _ _ _ _ D__law_draw hr (@pa_cons _ _ _ _ _ (@pv _ 0 _ _ (by rfl) (by first | exact Or.inl rfl | exact Or.inr (Or.inl rfl) | exact Or.inr (Or.inr rfl)) (by decide) (by decide)) (@pa_cons _ _ _ _ _ (@pv _ 1 _ _ (by rfl) (by first | exact Or.inl rfl | exact Or.inr (Or.inl rfl) | exact Or.inr (Or.inr rfl)) (by decide) (by decide)) (@pa_cons _ _ _ _ _ (@pe_int _ _ _ _) (@pa_cons _ _ _ _ _ (@pe_callB _ _ _ _ _ _ _ _ _ (call_lenK K) (by rfl) m_len PySem.boot_len (@pa_cons _ _ _ _ _ (@pv _ 6 _ _ (by rfl) (by first | exact Or.inl rfl | exact Or.inr (Or.inl rfl) | exact Or.inr (Or.inr rfl)) (by decide) (by decide)) (@pa_nil _) (by rfl)) (by decide) (by decide) (by rfl) (by rfl)) (@pa_nil _) (by rfl)) (by rfl)) (by rfl)) (by rfl)) (by decide) (by rfl) (by decide) (by rfl) (by rfl)) (fun _ _ => rfl)) (@pg_sub _ _ _ _ _ _ _ (@pv _ 4 _ _ (by rfl) (by first | exact Or.inl rfl | exact Or.inr (Or.inl rfl) | exact Or.inr (Or.inr rfl)) (by decide) (by decide)) (@pv _ 5 _ _ (by rfl) (by first | exact Or.inl rfl | exact Or.inr (Or.inl rfl) | exact Or.inr (Or.inr rfl)) (by decide) (by decide)) set_list (by intro _; rfl)) (by rfl) (by rfl) (by rfl)) (@pss_one _ _ _ (@ps_set _ _ (3) _ _ _ _ sc__law_line.nd rfl (Or.inl rfl) (@pe_bm _ _ _ _ _ _ _ _ _ _ _ _ PySem.F.plainAttrs_str PySem.F.slot_str_join PySem.F.type_str_join (mt_join1 K) (@pe_str _ _ _ _) (@pa_cons _ _ _ _ _ (@pv _ 4 _ _ (by rfl) (by first | exact Or.inl rfl | exact Or.inr (Or.inl rfl) | exact Or.inr (Or.inr rfl)) (by decide) (by decide)) (@pa_nil _) (by rfl)) (by rfl) (by rfl) (by rfl) (by rfl) (by rfl)) (by rfl) (by first | exact .inl rfl | exact .inr rfl | assumption))))))) (@pss_nil _)) (@pss_one _ _ _ (@ps_ret _ _ _ _ (@pv _ 3 _ _ (by rfl) (by first | exact Or.inl rfl | exact Or.inr (Or.inl rfl) | exact Or.inr (Or.inr rfl)) (by decide) (by decide))))))), ?_⟩
  have hdl := ok.len
  refine ⟨rfl, _, rfl, d, rfl, ⟨_, hd⟩, fun acc hacc => ?_⟩
  refine comp_tupl (K := K) (xs := thV ds) (fun i out H1 => Same H H1 ∧ ∃ css : List (List Nat), out = txs css ∧ (∀ p ∈ css, p.length ≤ 30) ∧ css.length = i) (by rw [thV_len]; omega) ⟨same_new hacc _, [], rfl, (fun _ m => nomatch m), rfl⟩ (fun i out H1 _ _ hp => hp.1.tup hd) ?_ ?_
  · rintro i x out H1 hx hol ha ⟨g, css, e, hs, hc⟩
    obtain ⟨t, rfl, et⟩ := map_at (g := Th.v) hx
    refine ⟨_, rfl, t, rfl, ok.ok t (List.mem_of_getElem? et), fun cs hcs => ⟨ha, g.upd_new hacc _, css ++ [cs], ?_, fun p hp => ?_, ?_⟩⟩
    · rw [e]; unfold txs; rw [List.map_append]; rfl
    · rcases List.mem_append.mp hp with z | z
      · exact hs p z
      · rw [List.mem_singleton.mp z]; exact hcs
    · rw [List.length_append, hc]; rfl
  rintro out H1 hol ha ⟨g1, css, e, hs, hc⟩
  rw [thV_len] at hc
  have hsz := joinSz_all 32 css hs
  have hjl := joinL_len [32] css
  refine ⟨acc, [32], css, rfl, rfl, SqL.of (by rw [ha, e]), by omega, ?_⟩
  have hl0 : (joinL [32] css).length ≤ 620 := by omega
  generalize joinL [32] css = cs0 at hl0
  have hS1 := g1.seq hS
  refine ⟨fun σ H' => H' = H1 ∧ ∃ cs : List Nat, σ = [some (.ref a), some (.int k), some (.ref d), some (.str (tx cs)), none, none, none] ∧ cs.length ≤ 630, ?_, ?_⟩
  · refine ⟨_, rfl, _, rfl, use_draw hS1 h63 hk (by decide) (by decide) (by decide) fun b _ _ _ => ⟨_, _, rfl, rfl, _, rfl, ite2 (fun _ => ?_) (fun _ => ?_)⟩⟩
    · exact ⟨_, rfl, _, rfl, _, rfl, use_spoilt hS1 h63 hk (by omega) fun ds hds => ⟨rfl, ds, rfl, by omega⟩⟩
    · exact ⟨rfl, cs0, rfl, by omega⟩
  rintro σ H2 ⟨rfl, cs, rfl, hcs⟩
  refine ⟨fun σ H' => Same H2 H' ∧ ∃ (cs : List Nat) (s4 s5 s6 : Option V), σ = [some (.ref a), some (.int k), some (.ref d), some (.str (tx cs)), s4, s5, s6] ∧ cs.length ≤ 800, ?_, ?_⟩
  · refine ⟨_, rfl, _, rfl, use_draw hS1 h63 hk (by decide) (by decide) (by decide) fun b _ _ _ => ⟨_, _, rfl, rfl, _, rfl, ite2 (fun _ => ?_) (fun _ => ?_)⟩⟩
    · refine ⟨_, rfl, rfl, cs, 32, rfl, rfl, (by omega), fun pw hpw => ?_⟩
      generalize hH3 : upd H2 pw (HO.lst _) = H3
      have hH3' : upd H2 pw (.lst (txs (splitN cs 32))) = H3 := hH3
      have g3 : Same H2 H3 := hH3' ▸ same_new hpw _
      have hpw3 : H3 pw = some (.lst (txs (splitN cs 32))) := by rw [← hH3', upd_same]
      clear hH3
      have hS3 := g3.seq hS1
      have htl : (txs (splitN cs 32)).length = (splitN cs 32).length := by unfold txs; rw [List.length_map]
      have hwl := split_many (cs := cs) (c := 32)
      have hw0 : 0 < (splitN cs 32).length := by obtain ⟨x, ws, e⟩ := split_ne (cs := cs) (c := 32); rw [e, List.length_cons]; omega
      refine ⟨_, rfl, _, rfl, _, rfl, pw, _, rfl, .inl (SqL.of hpw3), use_draw hS3 h63 hk (by decide) (by decide) (by rw [htl]; omega) fun at' _ a0 a1 => ?_⟩
      refine ⟨(by show 11 ≤ sizeLine; decide), fun p4 hp4 => ?_⟩
      generalize hH4 : upd H3 p4 (HO.lst _) = H4
      have hH4' : upd H3 p4 (.lst (someW.map V.str)) = H4 := hH4
      have g4 : Same H3 H4 := hH4' ▸ same_new hp4 _
      have hp44 : H4 p4 = some (.lst (someW.map V.str)) := by rw [← hH4', upd_same]
      clear hH4 hH4'
      have hS4 := g4.seq hS3
      refine ⟨_, rfl, _, rfl, _, rfl, _, rfl, p4, _, rfl, .inl (SqL.of hp44), use_draw hS4 h63 hk (by decide) (by decide) (by show (0 : Int) < 11; decide) fun j _ j0 j1 => ?_⟩
      obtain ⟨v, hv, hat⟩ := at_some j0 j1
      obtain ⟨y, hy, rfl⟩ := List.mem_map.mp hv
      have hyl := someW_len y hy
      refine ⟨p4, _, _, _, rfl, rfl, SqL.of hp44, hat, ?_⟩
      obtain ⟨i, rfl⟩ : ∃ i : Nat, at' = (i : Int) := ⟨at'.toNat, by omega⟩
      have hset : (txs (splitN cs 32)).set i (V.str y) = txs ((splitN cs 32).set i (wd y)) := by
        unfold txs
        rw [List.map_set, wd_tx]
      refine ⟨_, rfl, _, rfl, pw, _, _, i, rfl, rfl, g4 _ _ hpw3, ixN_nat (by rw [htl] at a1 ⊢; omega), ?_⟩
      rw [hset]
      have g5 : Same H2 (upd H4 pw (.lst (txs ((splitN cs 32).set i (wd y))))) := (g3.trans g4).upd_new hpw _
      have h1 := split_sz cs 32
      have h2 := joinSz_set 32 (wd y) (splitN cs 32) i
      have h3 := joinL_len [32] ((splitN cs 32).set i (wd y))
      exact ⟨rfl, _, rfl, pw, [32], _, rfl, rfl, SqL.of upd_same, by omega, g5, _, _, _, _, rfl, by omega⟩
    · exact ⟨Same.refl _, cs, _, _, _, rfl, by omega⟩
  rintro σ H3 ⟨g3, cs', s4, s5, s6, rfl, hcs'⟩
  exact ⟨_, rfl, q cs' H3 (g1.trans g3) hcs'⟩
abbrev sd__law_read : Stmt := top 43
abbrev N__law_read : List Str := ["_law_line_here", "_law_told", "_law_found", "e"]
abbrev P__law_read : List Str := ["_law_line_here"]
theorem sc__law_read : FnScope N__law_read P__law_read (defScope sd__law_read) := ⟨rfl, rfl, rfl, by decide +kernel, rfl, by decide +kernel, by decide +kernel⟩
theorem ok__law_read {e : Ec} (F : At K mg "_law_read" sd__law_read f fd) (D_read : Dx P w K mg base 5 "read" ["text"] (spReadX e.deed)) (to : Told K e e.deed 8) (m_isinstance : mg "isinstance" = none) (m_ValueError : mg "ValueError" = none)
    (m_BadName : mg "BadName" = some (.ref e.bad)) (m_Twice : mg "Twice" = some (.ref e.twice)) (m_NoOwner : mg "NoOwner" = some (.ref e.noown)) (m_NoPart : mg "NoPart" = some (.ref e.nopart)) (m_NoVoyage : mg "NoVoyage" = some (.ref e.novoy)) (m_BadNumber : mg "BadNumber" = some (.ref e.badnum))
    (m_TooMuch : mg "TooMuch" = some (.ref e.much)) (m_BadRows : mg "BadRows" = some (.ref e.rows)) (m_NoDeed : mg "NoDeed" = some (.ref e.deed)) (m_BadPaper : mg "BadPaper" = some (.ref e.paper)) (m_JettisonError : mg "JettisonError" = some (.ref e.jett)) : Dn P w K mg base 6 "_law_read" P__law_read spLawRead := by
  refine F.ok sc__law_read (fun vs H Q E h => ?_) (fun cdv A outer s H vs Q E hr h => ?_) (fun _ _ _ _ _ _ us hl => match us, hl with | [_], _ => rfl)
  · obtain ⟨cs, x, ws, rfl, _⟩ := h.ex
    rfl
  obtain ⟨cs, x, ws, rfl, hl, hsp, q, q2⟩ := h.ex
  refine ⟨_, (@pss_cons _ _ _ _ _ (@ps_set _ _ (1) _ _ _ _ sc__law_read.nd rfl (Or.inl rfl) (@pe_lst _ _ _ _ (@pa_nil _)) (by rfl) (by first | exact .inl rfl | exact .inr rfl | assumption)) (@pss_cons _ _ _ _ _ (@ps_set _ _ (2) _ _ _ _ sc__law_read.nd rfl (Or.inl rfl) (@pe_non _ _ _) (by rfl) (by first | exact .inl rfl | exact .inr rfl | assumption)) (@pss_cons _ _ _ _ _ (@ps_try _ (3) _ _ _ _ _ _ _ _ _ _ _ sc__law_read.nd rfl rfl (fun _ _ z => z) rfl rfl (@px_set _ (2) _ _ _ _ _ _ _ _ _ _ _ _ _ sc__law_read.nd rfl (Or.inl rfl) D_read hr (fun _ _ z => z) (@pa_cons _ _ _ _ _ (@pv _ 0 _ _ (by rfl) (by first | exact Or.inl rfl | exact Or.inr (Or.inl rfl) | exact Or.inr (Or.inr rfl)) (by decide) (by decide)) (@pa_nil _) (by rfl)) (by decide) (by rfl) (by decide) (by rfl) (by rfl) (by rfl) (by first | exact .inl rfl | exact .inr rfl | assumption)) (by rfl) m_JettisonError (fun _ => (@pss_cons _ _ _ _ _ (@ps_set _ _ (1) _ _ _ _ sc__law_read.nd rfl (Or.inl rfl) (@pe_lst _ _ _ _ (@pa_cons _ _ _ _ _ (@pe_callB _ _ _ _ _ _ _ _ _ (call_isinstX K rfl) (by rfl) m_isinstance PyProof.Rows.boot_isinstance (@pa_cons _ _ _ _ _ (@pv _ 3 _ _ (by rfl) (by first | exact Or.inl rfl | exact Or.inr (Or.inl rfl) | exact Or.inr (Or.inr rfl)) (by decide) (by decide)) (@pa_cons _ _ _ _ _ (@pe_ty _ _ ("ValueError") _ (by rfl) rfl m_ValueError (by decide) (by decide)) (@pa_nil _) (by rfl)) (by rfl)) (by decide) (by decide) (by rfl) (by rfl)) (@pa_cons _ _ _ _ _ (@pe_callB _ _ _ _ _ _ _ _ _ (call_isinstX K rfl) (by rfl) m_isinstance PyProof.Rows.boot_isinstance (@pa_cons _ _ _ _ _ (@pv _ 3 _ _ (by rfl) (by first | exact Or.inl rfl | exact Or.inr (Or.inl rfl) | exact Or.inr (Or.inr rfl)) (by decide) (by decide)) (@pa_cons _ _ _ _ _ (@pe_glob _ _ (.ref _) _ _ (by rfl) m_BadName rfl (by decide)) (@pa_nil _) (by rfl)) (by rfl)) (by decide) (by decide) (by rfl) (by rfl)) (@pa_cons _ _ _ _ _ (@pe_callB _ _ _ _ _ _ _ _ _ (call_isinstX K rfl) (by rfl) m_isinstance PyProof.Rows.boot_isinstance (@pa_cons _ _ _ _ _ (@pv _ 3 _ _ (by rfl) (by first | exact Or.inl rfl | exact Or.inr (Or.inl rfl) | exact Or.inr (Or.inr rfl)) (by decide) (by decide)) (@pa_cons _ _ _ _ _ (@pe_glob _ _ (.ref _) _ _ (by rfl) m_Twice rfl (by decide)) (@pa_nil _) (by rfl)) (by rfl)) (by decide) (by decide) (by rfl) (by rfl)) (@pa_cons _ _ _ _ _ (@pe_callB _ _ _ _ _ _ _ _ _ (call_isinstX K rfl) (by rfl) m_isinstance PyProof.Rows.boot_isinstance (@pa_cons _ _ _ _ _ (@pv _ 3 _ _ (by rfl) (by first | exact Or.inl rfl | exact Or.inr (Or.inl rfl) | exact Or.inr (Or.inr rfl)) (by decide) (by decide)) (@pa_cons _ _ _ _ _ (@pe_glob _ _ (.ref _) _ _ (by rfl) m_NoOwner rfl (by decide)) (@pa_nil _) (by rfl)) (by rfl)) (by decide) (by decide) (by rfl) (by rfl)) (@pa_nil _) (by rfl)) (by rfl)) (by rfl)) (by rfl))) (by rfl) (by first | exact .inl rfl | exact .inr rfl | assumption)) (@pss_cons _ _ _ _ _ (@ps_set _ _ (1) _ _ _ _ sc__law_read.nd rfl (Or.inl rfl) (@pe_op _ _ _ _ _ _ _ _ op_cat (@pv _ 1 _ _ (by rfl) (by first | exact Or.inl rfl | exact Or.inr (Or.inl rfl) | exact Or.inr (Or.inr rfl)) (by decide) (by decide)) (@pe_lst _ _ _ _ (@pa_cons _ _ _ _ _ (@pe_callB _ _ _ _ _ _ _ _ _ (call_isinstX K rfl) (by rfl) m_isinstance PyProof.Rows.boot_isinstance (@pa_cons _ _ _ _ _ (@pv _ 3 _ _ (by rfl) (by first | exact Or.inl rfl | exact Or.inr (Or.inl rfl) | exact Or.inr (Or.inr rfl)) (by decide) (by decide)) (@pa_cons _ _ _ _ _ (@pe_glob _ _ (.ref _) _ _ (by rfl) m_NoPart rfl (by decide)) (@pa_nil _) (by rfl)) (by rfl)) (by decide) (by decide) (by rfl) (by rfl)) (@pa_cons _ _ _ _ _ (@pe_callB _ _ _ _ _ _ _ _ _ (call_isinstX K rfl) (by rfl) m_isinstance PyProof.Rows.boot_isinstance (@pa_cons _ _ _ _ _ (@pv _ 3 _ _ (by rfl) (by first | exact Or.inl rfl | exact Or.inr (Or.inl rfl) | exact Or.inr (Or.inr rfl)) (by decide) (by decide)) (@pa_cons _ _ _ _ _ (@pe_glob _ _ (.ref _) _ _ (by rfl) m_NoVoyage rfl (by decide)) (@pa_nil _) (by rfl)) (by rfl)) (by decide) (by decide) (by rfl) (by rfl)) (@pa_cons _ _ _ _ _ (@pe_callB _ _ _ _ _ _ _ _ _ (call_isinstX K rfl) (by rfl) m_isinstance PyProof.Rows.boot_isinstance (@pa_cons _ _ _ _ _ (@pv _ 3 _ _ (by rfl) (by first | exact Or.inl rfl | exact Or.inr (Or.inl rfl) | exact Or.inr (Or.inr rfl)) (by decide) (by decide)) (@pa_cons _ _ _ _ _ (@pe_glob _ _ (.ref _) _ _ (by rfl) m_BadNumber rfl (by decide)) (@pa_nil _) (by rfl)) (by rfl)) (by decide) (by decide) (by rfl) (by rfl)) (@pa_nil _) (by rfl)) (by rfl)) (by rfl)))) (by rfl) (by first | exact .inl rfl | exact .inr rfl | assumption)) (@pss_one _ _ _ (@ps_set _ _ (1) _ _ _ _ sc__law_read.nd rfl (Or.inl rfl) (@pe_op _ _ _ _ _ _ _ _ op_cat (@pv _ 1 _ _ (by rfl) (by first | exact Or.inl rfl | exact Or.inr (Or.inl rfl) | exact Or.inr (Or.inr rfl)) (by decide) (by decide)) (@pe_lst _ _ _ _ (@pa_cons _ _ _ _ _ (@pe_callB _ _ _ _ _ _ _ _ _ (call_isinstX K rfl) (by rfl) m_isinstance PyProof.Rows.boot_isinstance (@pa_cons _ _ _ _ _ (@pv _ 3 _ _ (by rfl) (by first | exact Or.inl rfl | exact Or.inr (Or.inl rfl) | exact Or.inr (Or.inr rfl)) (by decide) (by decide)) (@pa_cons _ _ _ _ _ (@pe_glob _ _ (.ref _) _ _ (by rfl) m_TooMuch rfl (by decide)) (@pa_nil _) (by rfl)) (by rfl)) (by decide) (by decide) (by rfl) (by rfl)) (@pa_cons _ _ _ _ _ (@pe_callB _ _ _ _ _ _ _ _ _ (call_isinstX K rfl) (by rfl) m_isinstance PyProof.Rows.boot_isinstance (@pa_cons _ _ _ _ _ (@pv _ 3 _ _ (by rfl) (by first | exact Or.inl rfl | exact Or.inr (Or.inl rfl) | exact Or.inr (Or.inr rfl)) (by decide) (by decide)) (@pa_cons _ _ _ _ _ (@pe_glob _ _ (.ref _) _ _ (by rfl) m_BadRows rfl (by decide)) (@pa_nil _) (by rfl)) (by rfl)) (by decide) (by decide) (by rfl) (by rfl)) (@pa_cons _ _ _ _ _ (@pe_callB _ _ _ _ _ _ _ _ _ (call_isinstX K rfl) (by rfl) m_isinstance PyProof.Rows.boot_isinstance (@pa_cons _ _ _ _ _ (@pv _ 3 _ _ (by rfl) (by first | exact Or.inl rfl | exact Or.inr (Or.inl rfl) | exact Or.inr (Or.inr rfl)) (by decide) (by decide)) (@pa_cons _ _ _ _ _ (@pe_glob _ _ (.ref _) _ _ (by rfl) m_NoDeed rfl (by decide)) (@pa_nil _) (by rfl)) (by rfl)) (by decide) (by decide) (by rfl) (by rfl)) (@pa_cons _ _ _ _ _ (@pe_callB _ _ _ _ _ _ _ _ _ (call_isinstX K rfl) (by rfl) m_isinstance PyProof.Rows.boot_isinstance (@pa_cons _ _ _ _ _ (@pv _ 3 _ _ (by rfl) (by first | exact Or.inl rfl | exact Or.inr (Or.inl rfl) | exact Or.inr (Or.inr rfl)) (by decide) (by decide)) (@pa_cons _ _ _ _ _ (@pe_glob _ _ (.ref _) _ _ (by rfl) m_BadPaper rfl (by decide)) (@pa_nil _) (by rfl)) (by rfl)) (by decide) (by decide) (by rfl) (by rfl)) (@pa_nil _) (by rfl)) (by rfl)) (by rfl)) (by rfl)))) (by rfl) (by first | exact .inl rfl | exact .inr rfl | assumption)))))) (by decide)) (@pss_one _ _ _ (@ps_ret _ _ _ _ (@pe_tup _ _ _ _ _ (@pa_cons _ _ _ _ _ (@pv _ 1 _ _ (by rfl) (by first | exact Or.inl rfl | exact Or.inr (Or.inl rfl) | exact Or.inr (Or.inr rfl)) (by decide) (by decide)) (@pa_cons _ _ _ _ _ (@pv _ 2 _ _ (by rfl) (by first | exact Or.inl rfl | exact Or.inr (Or.inl rfl) | exact Or.inr (Or.inr rfl)) (by decide) (by decide)) (@pa_nil _) (by rfl)) (by rfl)))))))), ?_⟩
  refine ⟨Nat.zero_le _, fun l0 hl0 => ?_⟩
  have g0 : Same H (upd H l0 (.lst [])) := same_new hl0 _
  have h0 : upd H l0 (.lst []) l0 = some (.lst []) := upd_same
  generalize upd H l0 (.lst []) = H0 at g0 h0
  refine ⟨_, rfl, use_readX hl hsp (fun hs z H1 g1 hz => ?_) fun hs ex H1 g1 => ⟨e.deed, rfl, to.jt, fun y hy => ?_⟩⟩
  · refine ⟨_, rfl, _, rfl, (show 2 ≤ sizeLine from by rw [sizeLine_eq]; decide), fun p hp => ?_⟩
    have g2 := same_new hp (.tup [.ref l0, .ref z])
    exact q hs p l0 z _ (g0.trans (g1.trans g2)) upd_same (g2 _ _ (g1 _ _ h0)) (g2 _ _ hz)
  · have g2 := same_new hy (excO y e.deed)
    refine told_suite (i := 1) (j := 3) to rfl (show 1 < 4 from by decide) (by decide) upd_same fun l H2 g3 hl2 => ?_
    refine ⟨_, rfl, _, rfl, (show 2 ≤ sizeLine from by rw [sizeLine_eq]; decide), fun p hp => ?_⟩
    have g4 := same_new hp (.tup [.ref l, .non])
    exact q2 hs p l _ (g0.trans (g1.trans (g2.trans (g3.trans g4)))) upd_same (g4 _ _ hl2)
abbrev sd__law_hot : Stmt := top 44
abbrev N__law_hot : List Str := ["_law_at"]
abbrev P__law_hot : List Str := ["_law_at"]
theorem sc__law_hot : FnScope N__law_hot P__law_hot (defScope sd__law_hot) := ⟨rfl, rfl, rfl, by decide +kernel, rfl, by decide +kernel, by decide +kernel⟩
theorem ok__law_hot (F : At K mg "_law_hot" sd__law_hot f fd) (m_range : mg "range" = none) : Dn P w K mg base 1 "_law_hot" P__law_hot spHot := by
  refine F.ok sc__law_hot (fun vs H Q E h => ?_) (fun cdv A outer s H vs Q E hr h => ?_) (fun _ _ _ _ _ _ us hl => match us, hl with | [_], _ => rfl)
  · obtain ⟨n, rfl, _⟩ := h.ex
    rfl
  obtain ⟨n, rfl, q⟩ := h.ex
  refine ⟨_, (@pss_one _ _ _ (@ps_ret _ _ _ _ (@pe_op _ _ _ _ _ _ _ _ op_cat (@pe_lst _ _ _ _ (@pa_cons _ _ _ _ _ (@pe_bl _ _ _ _) (@pa_nil _) (by rfl))) (@pe_comp _ _ _ _ _ _ ["_law_k", "_law_at"] [none, some 0] _ _ _ rfl (@pi_range1 _ _ _ _ _ _ (by rfl) m_range (@pa_cons _ _ _ _ _ (@pe_int _ _ _ _) (@pa_nil _) (by rfl)) (by rfl)) (fun _ _ _ _ => (@pg_name _ _ (0) _ (show List.Nodup (["_law_k", "_law_at"] : List Str) from by decide +kernel) rfl (Or.inl rfl) (by first | exact .inl rfl | exact .inr rfl | assumption))) (fun _ _ _ _ => (@pe_cmpR _ _ _ _ _ _ _ _ op_eq (@pv _ 0 _ _ (by rfl) (by first | exact Or.inl rfl | exact Or.inr (Or.inl rfl) | exact Or.inr (Or.inr rfl)) (by decide) (by decide)) (@pv _ 1 _ _ (by rfl) (by first | exact Or.inl rfl | exact Or.inr (Or.inl rfl) | exact Or.inr (Or.inr rfl)) (by decide) (by decide)) (nomark _))) rfl (by rfl) (by intro _; rfl))))), ?_⟩
  refine ⟨(by show 1 ≤ sizeLine; decide), fun p1 hp1 => ?_⟩
  have g1 : Same H (upd H p1 (.lst [.bl true])) := same_new hp1 _
  have h1 : upd H p1 (.lst [.bl true]) p1 = some (.lst [.bl true]) := upd_same
  generalize upd H p1 (.lst [.bl true]) = H1 at g1 h1
  refine ⟨10, rfl, (by decide), (by decide), fun acc hacc => ?_⟩
  refine comp_range (n := (10 : Int).toNat) (fun i out H' => Same H1 H' ∧ out = ((List.range i).map fun k => V.bl (decide (k = n)))) (by decide) ⟨same_new hacc _, rfl⟩ ?_ ?_
  · rintro i out H' hi hol ha ⟨g, e⟩
    refine ⟨_, rfl, _, rfl, rfl, ha, g.upd_new hacc _, ?_⟩
    rw [List.range_succ, List.map_append, e]
    congr 1
    show [V.bl (decide (V.int (0 + (i : Int)) = V.int (n : Int)))] = [V.bl (decide (i = n))]
    congr 2
    exact decide_eq_decide.mpr ⟨fun z => by have := V.int.inj z; omega, fun z => by rw [z]; congr 1; omega⟩
  rintro out H' hol ha ⟨g, e⟩
  refine ⟨p1, acc, _, _, rfl, rfl, g _ _ h1, ha, (by rw [hol, sizeLine_eq]; decide), fun p hp => q p _ (g1.trans (g.trans (same_new hp _))) ?_⟩
  rw [upd_same, e]
  show some (HO.lst (V.bl true :: _)) = some (HO.lst ((true :: (List.range 10).map fun k => decide (k = n)).map V.bl))
  rw [List.map_cons, List.map_map]
  rfl
abbrev sd_law : Stmt := top 46
abbrev N_law : List Str := ["_law_script", "_law_deed", "_law_line_here", "_law_due", "_law_told", "_law_found", "_law_at"]
abbrev P_law : List Str := ["_law_script"]
theorem sc_law : FnScope N_law P_law (defScope sd_law) := ⟨rfl, rfl, rfl, by decide +kernel, rfl, by decide +kernel, by decide +kernel⟩
theorem ok_law (F : At K mg "law" sd_law f fd) (D__law_draw : Dn P w K mg base 1 "_law_draw" ["_law_script", "_law_k", "_law_j", "_law_many"] (spDraw K)) (D__law_any_deed : Dn P w K mg base 3 "_law_any_deed" ["_law_script", "_law_k"] (spAnyDeedS K)) (D__law_other_deed : Dn P w K mg base 2 "_law_other_deed" ["_law_script", "_law_k", "_law_deed"] (spOtherS K))
    (D__law_line : Dn P w K mg base 3 "_law_line" ["_law_script", "_law_k", "_law_deed"] (spLineX K)) (D__law_deed_of : Dn P w K mg base 3 "_law_deed_of" ["_law_line_here"] spDeedOf) (D__law_read : Dn P w K mg base 6 "_law_read" ["_law_line_here"] spLawRead) (D__law_hot : Dn P w K mg base 1 "_law_hot" ["_law_at"] spHot) (D__law_int : Dn P w K mg base 1 "_law_int" ["_law_found"] spInt)
    (m_isinstance : mg "isinstance" = none) (m_tuple : mg "tuple" = none) (m_int : mg "int" = none) (m_len : mg "len" = none) (m_range : mg "range" = none) : FnOk P w K mg base CX0 7 f fd P_law (spLaw K) := by
  refine F.fn.ok sc_law (fun vs H Q E h => ?_) (fun cdv A outer s H vs Q E hr h => ?_)
  · obtain ⟨a, ns, rfl, _⟩ := h
    rfl
  obtain ⟨a, ns, rfl, hS, h63, q⟩ := h
  refine ⟨_, (@pss_cons _ _ _ _ _ (@ps_set _ _ (1) _ _ _ _ sc_law.nd rfl (Or.inl rfl) (@pe_fn _ _ _ _ _ _ _ _ _ _ _ D__law_any_deed hr (@pa_cons _ _ _ _ _ (@pv _ 0 _ _ (by rfl) (by first | exact Or.inl rfl | exact Or.inr (Or.inl rfl) | exact Or.inr (Or.inr rfl)) (by decide) (by decide)) (@pa_cons _ _ _ _ _ (@pe_int _ _ _ _) (@pa_nil _) (by rfl)) (by rfl)) (by decide) (by rfl) (by decide) (by rfl) (by rfl)) (by rfl) (by first | exact .inl rfl | exact .inr rfl | assumption)) (@pss_cons _ _ _ _ _ (@ps_ifJ _ _ _ _ _ _ _ _ (@pt_cmpR _ _ _ _ _ _ _ _ op_eq (@pe_fn _ _ _ _ _ _ _ _ _ _ _ D__law_draw hr (@pa_cons _ _ _ _ _ (@pv _ 0 _ _ (by rfl) (by first | exact Or.inl rfl | exact Or.inr (Or.inl rfl) | exact Or.inr (Or.inr rfl)) (by decide) (by decide)) (@pa_cons _ _ _ _ _ (@pe_int _ _ _ _) (@pa_cons _ _ _ _ _ (@pe_int _ _ _ _) (@pa_cons _ _ _ _ _ (@pe_int _ _ _ _) (@pa_nil _) (by rfl)) (by rfl)) (by rfl)) (by rfl)) (by decide) (by rfl) (by decide) (by rfl) (by rfl)) (@pe_int _ _ _ _) (nomark _)) (@pss_one _ _ _ (@ps_set _ _ (1) _ _ _ _ sc_law.nd rfl (Or.inl rfl) (@pe_fn _ _ _ _ _ _ _ _ _ _ _ D__law_other_deed hr (@pa_cons _ _ _ _ _ (@pv _ 0 _ _ (by rfl) (by first | exact Or.inl rfl | exact Or.inr (Or.inl rfl) | exact Or.inr (Or.inr rfl)) (by decide) (by decide)) (@pa_cons _ _ _ _ _ (@pe_int _ _ _ _) (@pa_cons _ _ _ _ _ (@pv _ 1 _ _ (by rfl) (by first | exact Or.inl rfl | exact Or.inr (Or.inl rfl) | exact Or.inr (Or.inr rfl)) (by decide) (by decide)) (@pa_nil _) (by rfl)) (by rfl)) (by rfl)) (by decide) (by rfl) (by decide) (by rfl) (by rfl)) (by rfl) (by first | exact .inl rfl | exact .inr rfl | assumption))) (@pss_nil _)) (@pss_cons _ _ _ _ _ (@ps_set _ _ (2) _ _ _ _ sc_law.nd rfl (Or.inl rfl) (@pe_fn _ _ _ _ _ _ _ _ _ _ _ D__law_line hr (@pa_cons _ _ _ _ _ (@pv _ 0 _ _ (by rfl) (by first | exact Or.inl rfl | exact Or.inr (Or.inl rfl) | exact Or.inr (Or.inr rfl)) (by decide) (by decide)) (@pa_cons _ _ _ _ _ (@pe_int _ _ _ _) (@pa_cons _ _ _ _ _ (@pv _ 1 _ _ (by rfl) (by first | exact Or.inl rfl | exact Or.inr (Or.inl rfl) | exact Or.inr (Or.inr rfl)) (by decide) (by decide)) (@pa_nil _) (by rfl)) (by rfl)) (by rfl)) (by decide) (by rfl) (by decide) (by rfl) (by rfl)) (by rfl) (by first | exact .inl rfl | exact .inr rfl | assumption)) (@pss_cons _ _ _ _ _ (@ps_set _ _ (3) _ _ _ _ sc_law.nd rfl (Or.inl rfl) (@pe_fn _ _ _ _ _ _ _ _ _ _ _ D__law_deed_of hr (@pa_cons _ _ _ _ _ (@pv _ 2 _ _ (by rfl) (by first | exact Or.inl rfl | exact Or.inr (Or.inl rfl) | exact Or.inr (Or.inr rfl)) (by decide) (by decide)) (@pa_nil _) (by rfl)) (by decide) (by rfl) (by decide) (by rfl) (by rfl)) (by rfl) (by first | exact .inl rfl | exact .inr rfl | assumption)) (@pss_cons _ _ _ _ _ (@ps_asg _ _ _ _ _ _ (@pe_fn _ _ _ _ _ _ _ _ _ _ _ D__law_read hr (@pa_cons _ _ _ _ _ (@pv _ 2 _ _ (by rfl) (by first | exact Or.inl rfl | exact Or.inr (Or.inl rfl) | exact Or.inr (Or.inr rfl)) (by decide) (by decide)) (@pa_nil _) (by rfl)) (by decide) (by rfl) (by decide) (by rfl) (by rfl)) (@pg_tupK K _ _ _ _ (2) _ rfl (@pgs_cons _ _ _ _ _ (@pg_name _ _ (4) _ sc_law.nd rfl (Or.inl rfl) (by first | exact .inl rfl | exact .inr rfl | assumption)) (@pgs_cons _ _ _ _ _ (@pg_name _ _ (5) _ sc_law.nd rfl (Or.inl rfl) (by first | exact .inl rfl | exact .inr rfl | assumption)) (@pgs_nil _) (by rfl)) (by rfl)) (by rfl) (by rfl) (by rfl)) (by rfl) (by rfl) (by rfl)) (@pss_cons _ _ _ _ _ (@ps_if _ _ _ _ _ _ _ _ (@pt_cmpR _ _ _ _ _ _ _ _ op_isN (@pv _ 3 _ _ (by rfl) (by first | exact Or.inl rfl | exact Or.inr (Or.inl rfl) | exact Or.inr (Or.inr rfl)) (by decide) (by decide)) (@pe_non _ _ _) (nomark _)) (@pss_one _ _ _ (@ps_ret _ _ _ _ (@pe_cmpR _ _ _ _ _ _ _ _ (op_eqDK K hr.units) (@pv _ 4 _ _ (by rfl) (by first | exact Or.inl rfl | exact Or.inr (Or.inl rfl) | exact Or.inr (Or.inr rfl)) (by decide) (by decide)) (@pe_fn _ _ _ _ _ _ _ _ _ _ _ D__law_hot hr (@pa_cons _ _ _ _ _ (@pe_int _ _ _ _) (@pa_nil _) (by rfl)) (by decide) (by rfl) (by decide) (by rfl) (by rfl)) (nomark _)))) (@pss_nil _)) (@pss_cons _ _ _ _ _ (@ps_if _ _ _ _ _ _ _ _ (PW.pt (@pw_or _ _ _ _ _ _ _ (@pt_cmpR _ _ _ _ _ _ _ _ (op_neDK K hr.units) (@pv _ 4 _ _ (by rfl) (by first | exact Or.inl rfl | exact Or.inr (Or.inl rfl) | exact Or.inr (Or.inr rfl)) (by decide) (by decide)) (@pe_lst _ _ _ _ (@pa_nil _)) (nomark _)) (@pw_or _ _ _ _ _ _ _ (@pt_not _ _ _ _ (@pt_val _ _ _ (@pe_callB _ _ _ _ _ _ _ _ _ (call_isinstK K) (by rfl) m_isinstance PyProof.Rows.boot_isinstance (@pa_cons _ _ _ _ _ (@pv _ 5 _ _ (by rfl) (by first | exact Or.inl rfl | exact Or.inr (Or.inl rfl) | exact Or.inr (Or.inr rfl)) (by decide) (by decide)) (@pa_cons _ _ _ _ _ (@pe_ty _ _ _ _ PyProof.Rows.boot_tuple rfl m_tuple (by decide) (by decide)) (@pa_nil _) (by rfl)) (by rfl)) (by decide) (by decide) (by rfl) (by rfl)) (by intro _; rfl))) (@pw_or1 _ _ _ _ (@pt_cmpR _ _ _ _ _ _ _ _ op_ne (@pe_callB _ _ _ _ _ _ _ _ _ (call_lenK K) (by rfl) m_len PySem.boot_len (@pa_cons _ _ _ _ _ (@pv _ 5 _ _ (by rfl) (by first | exact Or.inl rfl | exact Or.inr (Or.inl rfl) | exact Or.inr (Or.inr rfl)) (by decide) (by decide)) (@pa_nil _) (by rfl)) (by decide) (by decide) (by rfl) (by rfl)) (@pe_callB _ _ _ _ _ _ _ _ _ (call_lenK K) (by rfl) m_len PySem.boot_len (@pa_cons _ _ _ _ _ (@pv _ 3 _ _ (by rfl) (by first | exact Or.inl rfl | exact Or.inr (Or.inl rfl) | exact Or.inr (Or.inr rfl)) (by decide) (by decide)) (@pa_nil _) (by rfl)) (by decide) (by decide) (by rfl) (by rfl)) (nomark _)))))) (@pss_one _ _ _ (@ps_ret _ _ _ _ (@pe_bl _ _ _ _))) (@pss_nil _)) (@pss_cons _ _ _ _ _ (@ps_for _ _ _ _ _ _ _ _ PassesOwn.never rfl (@pi_range1 _ _ _ _ _ _ (by rfl) m_range (@pa_cons _ _ _ _ _ (@pe_callB _ _ _ _ _ _ _ _ _ (call_lenK K) (by rfl) m_len PySem.boot_len (@pa_cons _ _ _ _ _ (@pv _ 3 _ _ (by rfl) (by first | exact Or.inl rfl | exact Or.inr (Or.inl rfl) | exact Or.inr (Or.inr rfl)) (by decide) (by decide)) (@pa_nil _) (by rfl)) (by decide) (by decide) (by rfl) (by rfl)) (@pa_nil _) (by rfl)) (by rfl)) (@pg_name _ _ (6) _ sc_law.nd rfl (Or.inl rfl) (by first | exact .inl rfl | exact .inr rfl | assumption)) (@pss_one _ _ _ (@ps_if _ _ _ _ _ _ _ _ (@pt_pure _ _ _ (PW.pt (@pw_and _ _ _ _ _ _ _ (@pt_val _ _ _ (@pe_callB _ _ _ _ _ _ _ _ _ (call_isinstK K) (by rfl) m_isinstance PyProof.Rows.boot_isinstance (@pa_cons _ _ _ _ _ (@pe_ix _ _ _ _ _ _ _ (ix_tupK K) (@pv _ 3 _ _ (by rfl) (by first | exact Or.inl rfl | exact Or.inr (Or.inl rfl) | exact Or.inr (Or.inr rfl)) (by decide) (by decide)) (@pv _ 6 _ _ (by rfl) (by first | exact Or.inl rfl | exact Or.inr (Or.inl rfl) | exact Or.inr (Or.inr rfl)) (by decide) (by decide)) (fun _ _ => rfl)) (@pa_cons _ _ _ _ _ (@pe_ty _ _ _ _ PyProof.Rows.boot_int rfl m_int (by decide) (by decide)) (@pa_nil _) (by rfl)) (by rfl)) (by decide) (by decide) (by rfl) (by rfl)) (by intro _; rfl)) (@pw_and1 _ _ _ _ (@pt_not _ _ _ _ (@pt_val _ _ _ (@pe_fn _ _ _ _ _ _ _ _ _ _ _ D__law_int hr (@pa_cons _ _ _ _ _ (@pe_ix _ _ _ _ _ _ _ (ix_tupK K) (@pv _ 5 _ _ (by rfl) (by first | exact Or.inl rfl | exact Or.inr (Or.inl rfl) | exact Or.inr (Or.inr rfl)) (by decide) (by decide)) (@pv _ 6 _ _ (by rfl) (by first | exact Or.inl rfl | exact Or.inr (Or.inl rfl) | exact Or.inr (Or.inr rfl)) (by decide) (by decide)) (fun _ _ => rfl)) (@pa_nil _) (by rfl)) (by decide) (by rfl) (by decide) (by rfl) (by rfl)) (by intro _; rfl))))))) (@pss_one _ _ _ (@ps_ret _ _ _ _ (@pe_bl _ _ _ _))) (@pss_nil _))) (by intro _; rfl)) (@pss_one _ _ _ (@ps_ret _ _ _ _ (@pe_cmpR _ _ _ _ _ _ _ _ (op_eqDK K hr.units) (@pv _ 5 _ _ (by rfl) (by first | exact Or.inl rfl | exact Or.inr (Or.inl rfl) | exact Or.inr (Or.inr rfl)) (by decide) (by decide)) (@pv _ 3 _ _ (by rfl) (by first | exact Or.inl rfl | exact Or.inr (Or.inl rfl) | exact Or.inr (Or.inr rfl)) (by decide) (by decide)) (nomark _)))))))))))), ?_⟩
  refine ⟨_, rfl, use_anyS hS h63 (by decide) fun z x th H1 g1 hz _ any hth => ?_⟩
  have hS1 := g1.seq hS
  refine ⟨fun σ H' => Same H1 H' ∧ ∃ (d : Addr) (ds : List Th), σ = [some (.ref a), some (.ref d), none, none, none, none, none] ∧ SqT K H' d (thV ds) ∧ DeedT ds 20, ?_, ?_⟩
  · refine ⟨_, rfl, use_draw hS1 h63 (by decide) (by decide) (by decide) (by decide) fun b _ _ _ => ⟨rfl, _, rfl, ite2 (fun _ => ?_) (fun _ => ?_)⟩⟩
    · have dt := any.deedT hth
      refine ⟨_, rfl, _, rfl, use_otherS hS1 h63 (by decide) (SqT.of hz) ⟨dt.hd, dt.ok, Nat.le_trans dt.len (by decide)⟩ fun z' es H2 g2 hz' ok' => ⟨g2, z', es, rfl, hz', ok'.hd, ok'.ok, Nat.le_trans ok'.len (by have := dt.len; omega)⟩⟩
    · have dt := any.deedT hth
      exact ⟨Same.refl _, z, _, rfl, SqT.of hz, dt.hd, dt.ok, Nat.le_trans dt.len (by decide)⟩
  clear any hz hth x th
  rintro σ H2 ⟨g2, d, ds, rfl, hd, dt⟩
  have hS2 := g2.seq hS1
  refine ⟨_, rfl, _, rfl, use_lineX hS2 h63 (by decide) hd dt fun cs H3 g3 hcs => ?_⟩
  obtain ⟨x, ws, hsp⟩ := split_ne (cs := cs) (c := 32)
  cases hs : soundT x (ws.map wT) with
  | false =>
    refine ⟨_, rfl, use_deedof (by omega) hsp (fun z => by rw [hs] at z; cases z) fun _ H4 g4 => ?_⟩
    refine ⟨_, rfl, use_lawread (by omega) hsp (fun z => by rw [hs] at z; cases z) fun _ p l H5 g5 hp hl => ?_⟩
    refine ⟨p, _, rfl, SqT.of hp, rfl, _, _, rfl, _, _, rfl, rfl, ?_⟩
    refine ⟨_, rfl, rfl, _, rfl, iteT ?_⟩
    refine ⟨_, rfl, use_hot (n := 8) rfl fun p6 H6 g6 hp6 => ⟨_, _, .lst (SqL.of (g6 _ _ hl)) (hot_dt 8), .lst (SqL.of hp6) (hot_dt 8), hot_shaped, hot_shaped, ?_⟩⟩
    rw [show PyData.eqv (.list ((hotB 8).map PyData.bool)) (.list ((hotB 8).map PyData.bool)) = true from hot_eqv]
    exact q _
  | true =>
    have pl := sound_pl hs
    have hwl : ws.length ≤ 900 := by
      have := split_many (cs := cs) (c := 32)
      rw [hsp, List.length_cons] at this
      omega
    have hlen : (thV (.s x :: ws.map wT)).length = ws.length + 1 := by rw [thV_len, List.length_cons, List.length_map]
    refine ⟨_, rfl, use_deedof (by omega) hsp (fun _ zd H4 g4 hzd => ?_) fun z => by rw [hs] at z; cases z⟩
    refine ⟨_, rfl, use_lawread (by omega) hsp (fun _ p l zb H5 g5 hp hl hzb => ?_) fun z => by rw [hs] at z; cases z⟩
    have hd5 := g5 _ _ hzd
    refine ⟨p, _, rfl, SqT.of hp, rfl, _, _, rfl, _, _, rfl, rfl, ?_⟩
    refine ⟨_, rfl, rfl, _, rfl, iteF ?_⟩
    refine ⟨_, rfl, Nat.zero_le _, fun pe hpe => ?_⟩
    have g6 : Same H5 (upd H5 pe (.lst [])) := same_new hpe _
    have hpe6 : upd H5 pe (.lst []) pe = some (.lst []) := upd_same
    generalize upd H5 pe (.lst []) = H6 at g6 hpe6
    have hd6 := g6 _ _ hd5
    have hzb6 := g6 _ _ hzb
    refine ⟨.list [], .list [], .lst (SqL.of (g6 _ _ hl)) .nil, .lst (SqL.of hpe6) .nil, rfl, rfl, _, rfl, iteF ?_⟩
    refine ⟨_, rfl, _, _, _, _, rfl, TyOf.tup hzb6, isi_same, _, rfl, iteF ?_⟩
    refine ⟨_, rfl, zb, _, rfl, .inr (SqT.of hzb6), _, rfl, zd, _, rfl, .inr (SqT.of hd6), rfl, _, rfl, ?_⟩
    rw [decide_eq_true rfl]
    refine iteF ?_
    refine ⟨_, rfl, zd, _, rfl, .inr (SqT.of hd6), ?_⟩
    rw [hlen]
    refine ⟨_, rfl, by omega, by omega, ?_⟩
    refine for_range (lo := 0) (n := ((ws.length + 1 : Nat) : Int).toNat) (fun i σ H' => H' = H6 ∧ ∃ (s6 : Option V), σ = [some (.ref a), some (.ref d), some (.str (tx cs)), some (.ref zd), some (.ref l), some (.ref zb), s6]) ⟨rfl, none, rfl⟩ ?_ ?_
    · rintro i σ H7 hi ⟨rfl, s6, rfl⟩
      have hi' : i < (Th.s x :: ws.map wT).length := by rw [List.length_cons, List.length_map]; omega
      have e0 : (0 : Int) + (i : Int) = ((i : Nat) : Int) := by omega
      rw [e0]
      obtain ⟨t, ht⟩ : ∃ t, (Th.s x :: ws.map wT)[i]? = some t := ⟨_, List.getElem?_eq_getElem hi'⟩
      have hat : atI (thV (.s x :: ws.map wT)) (i : Int) = some t.v := atI_nat (by unfold thV; rw [List.getElem?_map, ht]; rfl)
      cases t with
      | s cs => exact ⟨false, ⟨_, rfl, _, rfl, zd, _, _, _, rfl, rfl, SqT.of hd6, hat, _, _, _, _, rfl, TyOf.str _, isi_str_int, _, rfl, iteF ⟨rfl, rfl⟩⟩, iteF ⟨rfl, _, rfl⟩⟩
      | n j => exact ⟨false, ⟨_, rfl, _, rfl, zd, _, _, _, rfl, rfl, SqT.of hd6, hat, _, _, _, _, rfl, TyOf.int _, isi_same, _, rfl, iteT ⟨_, rfl, _, rfl, zb, _, _, _, rfl, rfl, SqT.of hzb6, hat, j, rfl, _, rfl, rfl, rfl⟩⟩, iteF ⟨rfl, _, rfl⟩⟩
    rintro σ H7 ⟨rfl, s6, rfl⟩
    refine ⟨_, rfl, _, rfl, _, _, .tup (SqT.of hzb6) (thD_dt _), .tup (SqT.of hd6) (thD_dt _), pl.shaped (by decide), pl.shaped (by decide), ?_⟩
    rw [pl.eqv]
    exact q _
end
theorem all_mk {l : PySem.W.OpenLaw} {w : World} {K : PySem.W.Frag} {h : Heap} {mg : Str → Option Value} {fa : Addr} (X : K.In h) (G : h.Ns mainGlobals mg) (hfa : mg "law" = some (.ref fa))
    {f0 : Addr} {od0 an0 : Option Addr} {sl0 : Array (Option Value)} {oc0 kV0 dc0 pm0 cd0 ct0 : Value}
    {f1 : Addr} {od1 an1 : Option Addr} {sl1 : Array (Option Value)} {oc1 kV1 dc1 pm1 cd1 ct1 : Value}
    {f2 : Addr} {od2 an2 : Option Addr} {sl2 : Array (Option Value)} {oc2 kV2 dc2 pm2 cd2 ct2 : Value}
    {f3 : Addr} {od3 an3 : Option Addr} {sl3 : Array (Option Value)} {oc3 kV3 dc3 pm3 cd3 ct3 : Value}
    {f4 : Addr} {od4 an4 : Option Addr} {sl4 : Array (Option Value)} {oc4 kV4 dc4 pm4 cd4 ct4 : Value}
    {f5 : Addr} {od5 an5 : Option Addr} {sl5 : Array (Option Value)} {oc5 kV5 dc5 pm5 cd5 ct5 : Value}
    {f6 : Addr} {od6 an6 : Option Addr} {sl6 : Array (Option Value)} {oc6 kV6 dc6 pm6 cd6 ct6 : Value}
    {f7 : Addr} {od7 an7 : Option Addr} {sl7 : Array (Option Value)} {oc7 kV7 dc7 pm7 cd7 ct7 : Value}
    {f8 : Addr} {od8 an8 : Option Addr} {sl8 : Array (Option Value)} {oc8 kV8 dc8 pm8 cd8 ct8 : Value}
    {f9 : Addr} {od9 an9 : Option Addr} {sl9 : Array (Option Value)} {oc9 kV9 dc9 pm9 cd9 ct9 : Value}
    {f10 : Addr} {od10 an10 : Option Addr} {sl10 : Array (Option Value)} {oc10 kV10 dc10 pm10 cd10 ct10 : Value}
    {f11 : Addr} {od11 an11 : Option Addr} {sl11 : Array (Option Value)} {oc11 kV11 dc11 pm11 cd11 ct11 : Value}
    {f12 : Addr} {od12 an12 : Option Addr} {sl12 : Array (Option Value)} {oc12 kV12 dc12 pm12 cd12 ct12 : Value}
    {f13 : Addr} {od13 an13 : Option Addr} {sl13 : Array (Option Value)} {oc13 kV13 dc13 pm13 cd13 ct13 : Value}
    {f14 : Addr} {od14 an14 : Option Addr} {sl14 : Array (Option Value)} {oc14 kV14 dc14 pm14 cd14 ct14 : Value}
    {f15 : Addr} {od15 an15 : Option Addr} {sl15 : Array (Option Value)} {oc15 kV15 dc15 pm15 cd15 ct15 : Value}
    {f16 : Addr} {od16 an16 : Option Addr} {sl16 : Array (Option Value)} {oc16 kV16 dc16 pm16 cd16 ct16 : Value}
    {f17 : Addr} {od17 an17 : Option Addr} {sl17 : Array (Option Value)} {oc17 kV17 dc17 pm17 cd17 ct17 : Value}
    {f18 : Addr} {od18 an18 : Option Addr} {sl18 : Array (Option Value)} {oc18 kV18 dc18 pm18 cd18 ct18 : Value}
    {f19 : Addr} {od19 an19 : Option Addr} {sl19 : Array (Option Value)} {oc19 kV19 dc19 pm19 cd19 ct19 : Value}
    {f20 : Addr} {od20 an20 : Option Addr} {sl20 : Array (Option Value)} {oc20 kV20 dc20 pm20 cd20 ct20 : Value}
    {f21 : Addr} {od21 an21 : Option Addr} {sl21 : Array (Option Value)} {oc21 kV21 dc21 pm21 cd21 ct21 : Value}
    {f22 : Addr} {od22 an22 : Option Addr} {sl22 : Array (Option Value)} {oc22 kV22 dc22 pm22 cd22 ct22 : Value}
    {f23 : Addr} {od23 an23 : Option Addr} {sl23 : Array (Option Value)} {oc23 kV23 dc23 pm23 cd23 ct23 : Value}
    {f24 : Addr} {od24 an24 : Option Addr} {sl24 : Array (Option Value)} {oc24 kV24 dc24 pm24 cd24 ct24 : Value}
    (a0 : PySem.W.nsIn K mainGlobals "is_name" = some (some (.ref f0))) (l0 : K.lookup f0 = some ⟨oc0, od0, .func (PySem.W.fnOf "is_name" "is_name" (defArgs sd_is_name) (defBody sd_is_name) (defScope sd_is_name) .none kV0 dc0 pm0 an0 cd0 ct0), sl0⟩) (c0 : PySem.W.codeIn K cd0 "is_name" = true) (k0 : PySem.W.keepIn K (.ref f0) = true)
    (a1 : PySem.W.nsIn K mainGlobals "number" = some (some (.ref f1))) (l1 : K.lookup f1 = some ⟨oc1, od1, .func (PySem.W.fnOf "number" "number" (defArgs sd_number) (defBody sd_number) (defScope sd_number) .none kV1 dc1 pm1 an1 cd1 ct1), sl1⟩) (c1 : PySem.W.codeIn K cd1 "number" = true) (k1 : PySem.W.keepIn K (.ref f1) = true)
    (a2 : PySem.W.nsIn K mainGlobals "made_of" = some (some (.ref f2))) (l2 : K.lookup f2 = some ⟨oc2, od2, .func (PySem.W.fnOf "made_of" "made_of" (defArgs sd_made_of) (defBody sd_made_of) (defScope sd_made_of) .none kV2 dc2 pm2 an2 cd2 ct2), sl2⟩) (c2 : PySem.W.codeIn K cd2 "made_of" = true) (k2 : PySem.W.keepIn K (.ref f2) = true)
    (a3 : PySem.W.nsIn K mainGlobals "value_of" = some (some (.ref f3))) (l3 : K.lookup f3 = some ⟨oc3, od3, .func (PySem.W.fnOf "value_of" "value_of" (defArgs sd_value_of) (defBody sd_value_of) (defScope sd_value_of) .none kV3 dc3 pm3 an3 cd3 ct3), sl3⟩) (c3 : PySem.W.codeIn K cd3 "value_of" = true) (k3 : PySem.W.keepIn K (.ref f3) = true)
    (a4 : PySem.W.nsIn K mainGlobals "sound" = some (some (.ref f4))) (l4 : K.lookup f4 = some ⟨oc4, od4, .func (PySem.W.fnOf "sound" "sound" (defArgs sd_sound) (defBody sd_sound) (defScope sd_sound) .none kV4 dc4 pm4 an4 cd4 ct4), sl4⟩) (c4 : PySem.W.codeIn K cd4 "sound" = true) (k4 : PySem.W.keepIn K (.ref f4) = true)
    (a5 : PySem.W.nsIn K mainGlobals "fits" = some (some (.ref f5))) (l5 : K.lookup f5 = some ⟨oc5, od5, .func (PySem.W.fnOf "fits" "fits" (defArgs sd_fits) (defBody sd_fits) (defScope sd_fits) .none kV5 dc5 pm5 an5 cd5 ct5), sl5⟩) (c5 : PySem.W.codeIn K cd5 "fits" = true) (k5 : PySem.W.keepIn K (.ref f5) = true)
    (a6 : PySem.W.nsIn K mainGlobals "read" = some (some (.ref f6))) (l6 : K.lookup f6 = some ⟨oc6, od6, .func (PySem.W.fnOf "read" "read" (defArgs sd_read) (defBody sd_read) (defScope sd_read) .none kV6 dc6 pm6 an6 cd6 ct6), sl6⟩) (c6 : PySem.W.codeIn K cd6 "read" = true) (k6 : PySem.W.keepIn K (.ref f6) = true)
    (a7 : PySem.W.nsIn K mainGlobals "thing_of" = some (some (.ref f7))) (l7 : K.lookup f7 = some ⟨oc7, od7, .func (PySem.W.fnOf "thing_of" "thing_of" (defArgs sd_thing_of) (defBody sd_thing_of) (defScope sd_thing_of) .none kV7 dc7 pm7 an7 cd7 ct7), sl7⟩) (c7 : PySem.W.codeIn K cd7 "thing_of" = true) (k7 : PySem.W.keepIn K (.ref f7) = true)
    (a8 : PySem.W.nsIn K mainGlobals "_law_draw" = some (some (.ref f8))) (l8 : K.lookup f8 = some ⟨oc8, od8, .func (PySem.W.fnOf "_law_draw" "_law_draw" (defArgs sd__law_draw) (defBody sd__law_draw) (defScope sd__law_draw) .none kV8 dc8 pm8 an8 cd8 ct8), sl8⟩) (c8 : PySem.W.codeIn K cd8 "_law_draw" = true) (k8 : PySem.W.keepIn K (.ref f8) = true)
    (a9 : PySem.W.nsIn K mainGlobals "_law_name" = some (some (.ref f9))) (l9 : K.lookup f9 = some ⟨oc9, od9, .func (PySem.W.fnOf "_law_name" "_law_name" (defArgs sd__law_name) (defBody sd__law_name) (defScope sd__law_name) .none kV9 dc9 pm9 an9 cd9 ct9), sl9⟩) (c9 : PySem.W.codeIn K cd9 "_law_name" = true) (k9 : PySem.W.keepIn K (.ref f9) = true)
    (a10 : PySem.W.nsIn K mainGlobals "_law_names" = some (some (.ref f10))) (l10 : K.lookup f10 = some ⟨oc10, od10, .func (PySem.W.fnOf "_law_names" "_law_names" (defArgs sd__law_names) (defBody sd__law_names) (defScope sd__law_names) .none kV10 dc10 pm10 an10 cd10 ct10), sl10⟩) (c10 : PySem.W.codeIn K cd10 "_law_names" = true) (k10 : PySem.W.keepIn K (.ref f10) = true)
    (a11 : PySem.W.nsIn K mainGlobals "_law_any_deed" = some (some (.ref f11))) (l11 : K.lookup f11 = some ⟨oc11, od11, .func (PySem.W.fnOf "_law_any_deed" "_law_any_deed" (defArgs sd__law_any_deed) (defBody sd__law_any_deed) (defScope sd__law_any_deed) .none kV11 dc11 pm11 an11 cd11 ct11), sl11⟩) (c11 : PySem.W.codeIn K cd11 "_law_any_deed" = true) (k11 : PySem.W.keepIn K (.ref f11) = true)
    (a12 : PySem.W.nsIn K mainGlobals "_law_other_deed" = some (some (.ref f12))) (l12 : K.lookup f12 = some ⟨oc12, od12, .func (PySem.W.fnOf "_law_other_deed" "_law_other_deed" (defArgs sd__law_other_deed) (defBody sd__law_other_deed) (defScope sd__law_other_deed) .none kV12 dc12 pm12 an12 cd12 ct12), sl12⟩) (c12 : PySem.W.codeIn K cd12 "_law_other_deed" = true) (k12 : PySem.W.keepIn K (.ref f12) = true)
    (a13 : PySem.W.nsIn K mainGlobals "_law_is_name" = some (some (.ref f13))) (l13 : K.lookup f13 = some ⟨oc13, od13, .func (PySem.W.fnOf "_law_is_name" "_law_is_name" (defArgs sd__law_is_name) (defBody sd__law_is_name) (defScope sd__law_is_name) .none kV13 dc13 pm13 an13 cd13 ct13), sl13⟩) (c13 : PySem.W.codeIn K cd13 "_law_is_name" = true) (k13 : PySem.W.keepIn K (.ref f13) = true)
    (a14 : PySem.W.nsIn K mainGlobals "_law_kinds_of" = some (some (.ref f14))) (l14 : K.lookup f14 = some ⟨oc14, od14, .func (PySem.W.fnOf "_law_kinds_of" "_law_kinds_of" (defArgs sd__law_kinds_of) (defBody sd__law_kinds_of) (defScope sd__law_kinds_of) .none kV14 dc14 pm14 an14 cd14 ct14), sl14⟩) (c14 : PySem.W.codeIn K cd14 "_law_kinds_of" = true) (k14 : PySem.W.keepIn K (.ref f14) = true)
    (a15 : PySem.W.nsIn K mainGlobals "_law_is_sound" = some (some (.ref f15))) (l15 : K.lookup f15 = some ⟨oc15, od15, .func (PySem.W.fnOf "_law_is_sound" "_law_is_sound" (defArgs sd__law_is_sound) (defBody sd__law_is_sound) (defScope sd__law_is_sound) .none kV15 dc15 pm15 an15 cd15 ct15), sl15⟩) (c15 : PySem.W.codeIn K cd15 "_law_is_sound" = true) (k15 : PySem.W.keepIn K (.ref f15) = true)
    (a16 : PySem.W.nsIn K mainGlobals "_law_word_number" = some (some (.ref f16))) (l16 : K.lookup f16 = some ⟨oc16, od16, .func (PySem.W.fnOf "_law_word_number" "_law_word_number" (defArgs sd__law_word_number) (defBody sd__law_word_number) (defScope sd__law_word_number) .none kV16 dc16 pm16 an16 cd16 ct16), sl16⟩) (c16 : PySem.W.codeIn K cd16 "_law_word_number" = true) (k16 : PySem.W.keepIn K (.ref f16) = true)
    (a17 : PySem.W.nsIn K mainGlobals "_law_deed_of" = some (some (.ref f17))) (l17 : K.lookup f17 = some ⟨oc17, od17, .func (PySem.W.fnOf "_law_deed_of" "_law_deed_of" (defArgs sd__law_deed_of) (defBody sd__law_deed_of) (defScope sd__law_deed_of) .none kV17 dc17 pm17 an17 cd17 ct17), sl17⟩) (c17 : PySem.W.codeIn K cd17 "_law_deed_of" = true) (k17 : PySem.W.keepIn K (.ref f17) = true)
    (a18 : PySem.W.nsIn K mainGlobals "_law_sign" = some (some (.ref f18))) (l18 : K.lookup f18 = some ⟨oc18, od18, .func (PySem.W.fnOf "_law_sign" "_law_sign" (defArgs sd__law_sign) (defBody sd__law_sign) (defScope sd__law_sign) .none kV18 dc18 pm18 an18 cd18 ct18), sl18⟩) (c18 : PySem.W.codeIn K cd18 "_law_sign" = true) (k18 : PySem.W.keepIn K (.ref f18) = true)
    (a19 : PySem.W.nsIn K mainGlobals "_law_spoilt" = some (some (.ref f19))) (l19 : K.lookup f19 = some ⟨oc19, od19, .func (PySem.W.fnOf "_law_spoilt" "_law_spoilt" (defArgs sd__law_spoilt) (defBody sd__law_spoilt) (defScope sd__law_spoilt) .none kV19 dc19 pm19 an19 cd19 ct19), sl19⟩) (c19 : PySem.W.codeIn K cd19 "_law_spoilt" = true) (k19 : PySem.W.keepIn K (.ref f19) = true)
    (a20 : PySem.W.nsIn K mainGlobals "_law_line" = some (some (.ref f20))) (l20 : K.lookup f20 = some ⟨oc20, od20, .func (PySem.W.fnOf "_law_line" "_law_line" (defArgs sd__law_line) (defBody sd__law_line) (defScope sd__law_line) .none kV20 dc20 pm20 an20 cd20 ct20), sl20⟩) (c20 : PySem.W.codeIn K cd20 "_law_line" = true) (k20 : PySem.W.keepIn K (.ref f20) = true)
    (a21 : PySem.W.nsIn K mainGlobals "_law_read" = some (some (.ref f21))) (l21 : K.lookup f21 = some ⟨oc21, od21, .func (PySem.W.fnOf "_law_read" "_law_read" (defArgs sd__law_read) (defBody sd__law_read) (defScope sd__law_read) .none kV21 dc21 pm21 an21 cd21 ct21), sl21⟩) (c21 : PySem.W.codeIn K cd21 "_law_read" = true) (k21 : PySem.W.keepIn K (.ref f21) = true)
    (a22 : PySem.W.nsIn K mainGlobals "_law_hot" = some (some (.ref f22))) (l22 : K.lookup f22 = some ⟨oc22, od22, .func (PySem.W.fnOf "_law_hot" "_law_hot" (defArgs sd__law_hot) (defBody sd__law_hot) (defScope sd__law_hot) .none kV22 dc22 pm22 an22 cd22 ct22), sl22⟩) (c22 : PySem.W.codeIn K cd22 "_law_hot" = true) (k22 : PySem.W.keepIn K (.ref f22) = true)
    (a23 : PySem.W.nsIn K mainGlobals "_law_int" = some (some (.ref f23))) (l23 : K.lookup f23 = some ⟨oc23, od23, .func (PySem.W.fnOf "_law_int" "_law_int" (defArgs sd__law_int) (defBody sd__law_int) (defScope sd__law_int) .none kV23 dc23 pm23 an23 cd23 ct23), sl23⟩) (c23 : PySem.W.codeIn K cd23 "_law_int" = true) (k23 : PySem.W.keepIn K (.ref f23) = true)
    (a24 : PySem.W.nsIn K mainGlobals "law" = some (some (.ref f24))) (l24 : K.lookup f24 = some ⟨oc24, od24, .func (PySem.W.fnOf "law" "law" (defArgs sd_law) (defBody sd_law) (defScope sd_law) .none kV24 dc24 pm24 an24 cd24 ct24), sl24⟩) (c24 : PySem.W.codeIn K cd24 "law" = true) (k24 : PySem.W.keepIn K (.ref f24) = true)
    (z_len : PySem.W.nsIn K mainGlobals "len" = some none)
    (z_range : PySem.W.nsIn K mainGlobals "range" = some none)
    (z_all : PySem.W.nsIn K mainGlobals "all" = some none)
    (z_max : PySem.W.nsIn K mainGlobals "max" = some none)
    (z_zip : PySem.W.nsIn K mainGlobals "zip" = some none)
    (z_isinstance : PySem.W.nsIn K mainGlobals "isinstance" = some none)
    (z_str : PySem.W.nsIn K mainGlobals "str" = some none)
    (z_int : PySem.W.nsIn K mainGlobals "int" = some none)
    (z_bool : PySem.W.nsIn K mainGlobals "bool" = some none)
    (z_tuple : PySem.W.nsIn K mainGlobals "tuple" = some none)
    (z_ValueError : PySem.W.nsIn K mainGlobals "ValueError" = some none)
    {tk_LETTERS : Tok} (b_LETTERS : PySem.W.nsIn K mainGlobals "LETTERS" = some (some (.str "abcdefghijklmnopqrstuvwxyz" tk_LETTERS)))
    {tk_FIGURES : Tok} (b_FIGURES : PySem.W.nsIn K mainGlobals "FIGURES" = some (some (.str "0123456789" tk_FIGURES)))
    {tk_WIDTH : Tok} (b_WIDTH : PySem.W.nsIn K mainGlobals "WIDTH" = some (some (.int 64 tk_WIDTH)))
    {tk_GROUP : Tok} (b_GROUP : PySem.W.nsIn K mainGlobals "GROUP" = some (some (.int (10 ^ 64) tk_GROUP)))
    {tk_MOST : Tok} (b_MOST : PySem.W.nsIn K mainGlobals "MOST" = some (some (.int 1000000000 tk_MOST)))
    {ocD : Value} {odD : Option Addr} {esD : Array DictEntry} {nD : Nat} {slD : Array (Option Value)} (l_dig : K.lookup cStatics = some ⟨ocD, odD, .dict esD nD, slD⟩) (h_dig : keysOk esD = true)
    (fa_ : FormsAt w K)
    {c_BadName c_Twice c_NoOwner c_NoPart c_NoVoyage c_BadNumber c_TooMuch c_BadRows c_NoDeed c_BadPaper c_JettisonError : Addr}
    (bE_BadName : PySem.W.nsIn K mainGlobals "BadName" = some (some (.ref c_BadName))) (bE_Twice : PySem.W.nsIn K mainGlobals "Twice" = some (some (.ref c_Twice))) (bE_NoOwner : PySem.W.nsIn K mainGlobals "NoOwner" = some (some (.ref c_NoOwner))) (bE_NoPart : PySem.W.nsIn K mainGlobals "NoPart" = some (some (.ref c_NoPart))) (bE_NoVoyage : PySem.W.nsIn K mainGlobals "NoVoyage" = some (some (.ref c_NoVoyage))) (bE_BadNumber : PySem.W.nsIn K mainGlobals "BadNumber" = some (some (.ref c_BadNumber))) (bE_TooMuch : PySem.W.nsIn K mainGlobals "TooMuch" = some (some (.ref c_TooMuch))) (bE_BadRows : PySem.W.nsIn K mainGlobals "BadRows" = some (some (.ref c_BadRows))) (bE_NoDeed : PySem.W.nsIn K mainGlobals "NoDeed" = some (some (.ref c_NoDeed))) (bE_BadPaper : PySem.W.nsIn K mainGlobals "BadPaper" = some (some (.ref c_BadPaper))) (bE_JettisonError : PySem.W.nsIn K mainGlobals "JettisonError" = some (some (.ref c_JettisonError)))
    (to_NoDeed : Told K (Ec.mk c_BadName c_Twice c_NoOwner c_NoPart c_NoVoyage c_BadNumber c_TooMuch c_BadRows c_NoDeed c_BadPaper c_JettisonError) c_NoDeed 8) (ox_NoDeed : PySem.W.excIn K c_NoDeed [.type "ValueError", .type "Exception", .type "BaseException", .type "object"] "ValueError.__new__" = true)
    : ∃ fd : FuncData, (∀ (s : Shared) (v : Value), BindsTo s fd ⟨[v], []⟩ [("_law_script", v)]) ∧ ∀ base : Heap, K.In base → base.Ns mainGlobals mg → FnOk l.prog w K mg base CX0 7 fa fd ["_law_script"] (spLaw K) := by
  have e := hfa.symm.trans (PySem.W.mg_of X G a24)
  cases e
  have F_is_name := at_mk (st := sd_is_name) X G a0 l0 c0 k0
  have F_number := at_mk (st := sd_number) X G a1 l1 c1 k1
  have F_made_of := at_mk (st := sd_made_of) X G a2 l2 c2 k2
  have F_value_of := at_mk (st := sd_value_of) X G a3 l3 c3 k3
  have F_sound := at_mk (st := sd_sound) X G a4 l4 c4 k4
  have F_fits := at_mk (st := sd_fits) X G a5 l5 c5 k5
  have F_read := at_mk (st := sd_read) X G a6 l6 c6 k6
  have F_thing_of := at_mk (st := sd_thing_of) X G a7 l7 c7 k7
  have F__law_draw := at_mk (st := sd__law_draw) X G a8 l8 c8 k8
  have F__law_name := at_mk (st := sd__law_name) X G a9 l9 c9 k9
  have F__law_names := at_mk (st := sd__law_names) X G a10 l10 c10 k10
  have F__law_any_deed := at_mk (st := sd__law_any_deed) X G a11 l11 c11 k11
  have F__law_other_deed := at_mk (st := sd__law_other_deed) X G a12 l12 c12 k12
  have F__law_is_name := at_mk (st := sd__law_is_name) X G a13 l13 c13 k13
  have F__law_kinds_of := at_mk (st := sd__law_kinds_of) X G a14 l14 c14 k14
  have F__law_is_sound := at_mk (st := sd__law_is_sound) X G a15 l15 c15 k15
  have F__law_word_number := at_mk (st := sd__law_word_number) X G a16 l16 c16 k16
  have F__law_deed_of := at_mk (st := sd__law_deed_of) X G a17 l17 c17 k17
  have F__law_sign := at_mk (st := sd__law_sign) X G a18 l18 c18 k18
  have F__law_spoilt := at_mk (st := sd__law_spoilt) X G a19 l19 c19 k19
  have F__law_line := at_mk (st := sd__law_line) X G a20 l20 c20 k20
  have F__law_read := at_mk (st := sd__law_read) X G a21 l21 c21 k21
  have F__law_hot := at_mk (st := sd__law_hot) X G a22 l22 c22 k22
  have F__law_int := at_mk (st := sd__law_int) X G a23 l23 c23 k23
  have F_law := at_mk (st := sd_law) X G a24 l24 c24 k24
  have m_len := PySem.W.mg_none_of X G z_len
  have m_range := PySem.W.mg_none_of X G z_range
  have m_all := PySem.W.mg_none_of X G z_all
  have m_max := PySem.W.mg_none_of X G z_max
  have m_zip := PySem.W.mg_none_of X G z_zip
  have m_isinstance := PySem.W.mg_none_of X G z_isinstance
  have m_str := PySem.W.mg_none_of X G z_str
  have m_int := PySem.W.mg_none_of X G z_int
  have m_bool := PySem.W.mg_none_of X G z_bool
  have m_tuple := PySem.W.mg_none_of X G z_tuple
  have m_ValueError := PySem.W.mg_none_of X G z_ValueError
  have m_LETTERS := PySem.W.mg_of X G b_LETTERS
  have m_FIGURES := PySem.W.mg_of X G b_FIGURES
  have m_WIDTH := PySem.W.mg_of X G b_WIDTH
  have m_GROUP := PySem.W.mg_of X G b_GROUP
  have m_MOST := PySem.W.mg_of X G b_MOST
  have z_dig : digOk K = true := digOk_of l_dig h_dig
  obtain ⟨aF, aP, m_FORMS, m_PAIR, FG⟩ := fa_.at (P := l.prog) X G
  have m_BadName := PySem.W.mg_of X G bE_BadName
  have m_Twice := PySem.W.mg_of X G bE_Twice
  have m_NoOwner := PySem.W.mg_of X G bE_NoOwner
  have m_NoPart := PySem.W.mg_of X G bE_NoPart
  have m_NoVoyage := PySem.W.mg_of X G bE_NoVoyage
  have m_BadNumber := PySem.W.mg_of X G bE_BadNumber
  have m_TooMuch := PySem.W.mg_of X G bE_TooMuch
  have m_BadRows := PySem.W.mg_of X G bE_BadRows
  have m_NoDeed := PySem.W.mg_of X G bE_NoDeed
  have m_BadPaper := PySem.W.mg_of X G bE_BadPaper
  have m_JettisonError := PySem.W.mg_of X G bE_JettisonError
  have oc_NoDeed := OwnExc.of ox_NoDeed
  refine ⟨PySem.W.fnOf "law" "law" (defArgs sd_law) (defBody sd_law) (defScope sd_law) .none kV24 dc24 pm24 an24 cd24 ct24, fun s v => .of_eq rfl, fun base _ _ => ?_⟩
  have D1 := ok_made_of (P := l.prog) (w := w) (base := base) (mg := mg) F_made_of m_all
  have D2 := ok_is_name F_is_name D1 m_len m_LETTERS
  have D3 := ok_fits F_fits D2 m_isinstance m_str m_int m_MOST
  have D4 := ok_sound F_sound D3 m_len m_max m_all m_zip m_FORMS m_PAIR FG
  have D5 := ok_value_of (P := l.prog) (w := w) (base := base) (mg := mg) F_value_of z_dig m_len m_int m_range m_WIDTH m_GROUP
  have D6 := ok_number F_number D1 D5 m_len m_FIGURES
  have D8 := ok_thing_of F_thing_of D6
  have D9 := ok_read F_read D8 D4 m_tuple oc_NoDeed m_NoDeed
  have E1 := ok__law_draw (P := l.prog) (w := w) (base := base) (mg := mg) F__law_draw m_len m_range
  have E2 := ok__law_name (P := l.prog) (w := w) (base := base) (mg := mg) F__law_name m_range
  have E3 := ok__law_names F__law_names E1 E2 m_range
  have E4 := ok__law_any_deed F__law_any_deed E1 E3 m_range m_tuple
  have E5 := ok__law_int (P := l.prog) (w := w) (base := base) (mg := mg) F__law_int m_isinstance m_int m_bool
  have EO := ok__law_other_deed F__law_other_deed E1 m_len m_isinstance m_str
  have EN := ok__law_is_name (P := l.prog) (w := w) (base := base) (mg := mg) F__law_is_name m_len
  have EK := ok__law_kinds_of (P := l.prog) (w := w) (base := base) (mg := mg) F__law_kinds_of m_len m_max
  have ES := ok__law_is_sound F__law_is_sound EK EN m_len m_range m_isinstance m_str m_int
  have EW := ok__law_word_number (P := l.prog) (w := w) (base := base) (mg := mg) F__law_word_number z_dig m_len m_int
  have ED := ok__law_deed_of F__law_deed_of EK EW ES m_len m_range m_tuple
  have EG := ok__law_sign (P := l.prog) (w := w) (base := base) (mg := mg) F__law_sign
  have EP := ok__law_spoilt F__law_spoilt E1 EG m_len
  have EL := ok__law_line F__law_line E1 EP m_str m_len
  have ER := ok__law_read (e := ⟨c_BadName, c_Twice, c_NoOwner, c_NoPart, c_NoVoyage, c_BadNumber, c_TooMuch, c_BadRows, c_NoDeed, c_BadPaper, c_JettisonError⟩) F__law_read D9 to_NoDeed m_isinstance m_ValueError m_BadName m_Twice m_NoOwner m_NoPart m_NoVoyage m_BadNumber m_TooMuch m_BadRows m_NoDeed m_BadPaper m_JettisonError
  have EH := ok__law_hot (P := l.prog) (w := w) (base := base) (mg := mg) F__law_hot m_range
  exact ok_law F_law E1 E4 EO EL ED ER EH E5 m_isinstance m_tuple m_int m_len m_range
theorem walk {l : PySem.W.OpenLaw} {q : Program} {loose : List Str} {XP : (Str → Option Value) → Heap → Prop} {YP : World → Heap → Prop} {d : DefRec} {K : Params → PySem.W.Frag} (hn : l.most = some 63) (hdf : d.params.defaults = [])
    (hY : ∀ (w : World) (h : Heap), YP w h → (K w.params).In h)
    (F : ∀ (w : World) (mg : Str → Option Value) (fa : Addr) (h : Heap), (K w.params).In h → h.Ns mainGlobals mg → mg d.name = some (.ref fa) →
      ∃ fd : FuncData, (∀ (s : Shared) (u : Value), BindsTo s fd ⟨[u], []⟩ [("_law_script", u)]) ∧ ∀ base : Heap, (K w.params).In base → base.Ns mainGlobals mg → FnOk l.prog w (K w.params) mg base CX0 7 fa fd ["_law_script"] (spLaw (K w.params))) :
    PySem.W.WalkO q loose XP YP l.row.toRowW d [] (fun f vs => PySem.call f vs) :=
  L2.walk_of (n := 63) (k := 7) (x := "_law_script") (CX := fun _ => CX0) (sp := fun w => spLaw (K w.params)) hn (by decide) hdf ⟨rfl, by decide, by decide⟩ hY F (fun _ _ a ns hl _ hS => ⟨a, ns, rfl, hS, hl, fun _ => rfl⟩) fun _ _ _ _ _ z => z
end Law
namespace PySem.W.Fast
theorem tw2808254249268471490 : True := ⟨⟩
theorem tw11905752382063973145 : True := ⟨⟩
theorem tw14303238995949711832 : True := ⟨⟩
theorem tw14103018295361551508 : True := ⟨⟩
theorem tw348253789432975322 : True := ⟨⟩
theorem tw5344558709480414592 : True := ⟨⟩
theorem tw14842388910862567280 : True := ⟨⟩
theorem tw9307141022831660019 : True := ⟨⟩
theorem tw14644999896231165922 : True := ⟨⟩
theorem tw6669229975902127043 : True := ⟨⟩
theorem tw10989196135372928912 : True := ⟨⟩
theorem tw2570654998051867151 : True := ⟨⟩
theorem tw2255943526052447282 : True := ⟨⟩
theorem tw14617823663684406719 : True := ⟨⟩
theorem tw7538808949302613501 : True := ⟨⟩
theorem tw11804352764961013668 : True := ⟨⟩
theorem tw10238645526595811551 : True := ⟨⟩
theorem tw4578143338265660018 : True := ⟨⟩
theorem tw15807130228940776443 : True := ⟨⟩
theorem tw9190024799173869455 : True := ⟨⟩
theorem tw1611746376178334298 : True := ⟨⟩
theorem tw2335319917684239101 : True := ⟨⟩
theorem tw8499159795689264610 : True := ⟨⟩
theorem tw3401507718207137939 : True := ⟨⟩
theorem tw7416224362871906149 : True := ⟨⟩
theorem tw3040318295833561331 : True := ⟨⟩
theorem tw9168506113317647107 : True := ⟨⟩
theorem tw1720099956524859105 : True := ⟨⟩
theorem tw139635272874729292 : True := ⟨⟩
theorem tw12038462337493169905 : True := ⟨⟩
theorem tw14104277757936189296 : True := ⟨⟩
theorem tw3156863992078893237 : True := ⟨⟩
theorem tw16792966472441971437 : True := ⟨⟩
theorem tw15716005269319279344 : True := ⟨⟩
theorem tw8213713374150160810 : True := ⟨⟩
theorem tw734111114351883365 : True := ⟨⟩
theorem tw2400309484704097340 : True := ⟨⟩
theorem tw10303124234807640944 : True := ⟨⟩
theorem tw11287840980686418721 : True := ⟨⟩
theorem tw18382837898959543909 : True := ⟨⟩
theorem tw10847859292529135712 : True := ⟨⟩
theorem tw17261044865189765781 : True := ⟨⟩
theorem tw1645397785076965610 : True := ⟨⟩
theorem tw8138167669038287792 : True := ⟨⟩
theorem tw10478230022011874675 : True := ⟨⟩
theorem tw7215311735173416070 : True := ⟨⟩
theorem tw511242286447794596 : True := ⟨⟩
theorem tw1221125129264927831 : True := ⟨⟩
theorem tw6332262794934041771 : True := ⟨⟩
theorem tw4841046994925284131 : True := ⟨⟩
theorem tw16997313242486375392 : True := ⟨⟩
theorem tw4560506272788290315 : True := ⟨⟩
theorem tw7268405793689519068 : True := ⟨⟩
theorem tw2254542530827614564 : True := ⟨⟩
theorem tw14666999595268296454 : True := ⟨⟩
theorem tw15393726775845358502 : True := ⟨⟩
theorem tw1208070987890765808 : True := ⟨⟩
theorem tw14908324125770547628 : True := ⟨⟩
theorem tw14327936183391273401 : True := ⟨⟩
theorem tw11852666988754582430 : True := ⟨⟩
theorem tw6755389744088499658 : True := ⟨⟩
theorem tw14805439895497891636 : True := ⟨⟩
theorem tw7437944528035262100 : True := ⟨⟩
theorem tw17956545062915418659 : True := ⟨⟩
theorem tw10749641826539315018 : True := ⟨⟩
theorem tw15183194529172704304 : True := ⟨⟩
theorem tw9442567983984910149 : True := ⟨⟩
theorem tw6613359696329807605 : True := ⟨⟩
theorem tw5568798376935129333 : True := ⟨⟩
theorem tw11123583661470050902 : True := ⟨⟩
theorem tw60751644900522098 : True := ⟨⟩
theorem tw1413757705783122345 : True := ⟨⟩
theorem tw16493340108906703727 : True := ⟨⟩
theorem tw14437652014568092614 : True := ⟨⟩
theorem tw8368301789534240381 : True := ⟨⟩
theorem tw11161927617243161448 : True := ⟨⟩
theorem tw8028784686351105520 : True := ⟨⟩
theorem tw12771466950113875602 : True := ⟨⟩
theorem tw6454312034748307918 : True := ⟨⟩
theorem tw11861562777374857805 : True := ⟨⟩
theorem tw13184461464639349230 : True := ⟨⟩
theorem tw18282098796735165396 : True := ⟨⟩
theorem tw3378256340726163816 : True := ⟨⟩
theorem tw5712280245038758214 : True := ⟨⟩
theorem tw5446045410783611780 : True := ⟨⟩
theorem tw9308495963296943117 : True := ⟨⟩
theorem tw6921644579062583916 : True := ⟨⟩
theorem tw15272291850855644741 : True := ⟨⟩
theorem tw2481187490692828463 : True := ⟨⟩
theorem tw12561820961481347414 : True := ⟨⟩
theorem tw1217531745224568553 : True := ⟨⟩
theorem tw4369145230016184444 : True := ⟨⟩
theorem tw14725273129321928230 : True := ⟨⟩
theorem tw17021868527090436510 : True := ⟨⟩
theorem tw17784953526324258567 : True := ⟨⟩
theorem tw3412924539781231317 : True := ⟨⟩
theorem tw16142740526505085498 : True := ⟨⟩
theorem tw17072641646295978497 : True := ⟨⟩
theorem tw13939605183201216952 : True := ⟨⟩
theorem tw5454116315271551196 : True := ⟨⟩
theorem tw18433101732613423235 : True := ⟨⟩
theorem tw5825934326168882394 : True := ⟨⟩
theorem tw4753165028141490748 : True := ⟨⟩
theorem tw12949416234361827934 : True := ⟨⟩
theorem tw6210685284717415465 : True := ⟨⟩
theorem tw8740249660948386477 : True := ⟨⟩
theorem tw4612159174798978698 : True := ⟨⟩
theorem tw2448983681477266925 : True := ⟨⟩
theorem tw866808209319760074 : True := ⟨⟩
theorem tw10083497458760736315 : True := ⟨⟩
theorem tw1411405204248735806 : True := ⟨⟩
theorem tw16598370846539868748 : True := ⟨⟩
theorem tw11471260554095045715 : True := ⟨⟩
theorem tw6870365384463133604 : True := ⟨⟩
theorem tw14842098716121371594 : True := ⟨⟩
theorem tw11706086468481452295 : True := ⟨⟩
theorem tw7459395920744776813 : True := ⟨⟩
theorem tw4692417983951861199 : True := ⟨⟩
theorem tw1077916049870890584 : True := ⟨⟩
theorem tw12554666276129012808 : True := ⟨⟩
theorem tw13295659486723989556 : True := ⟨⟩
theorem tw6855474507651954836 : True := ⟨⟩
theorem tw1607898794914754586 : True := ⟨⟩
theorem tw3778531987671467129 : True := ⟨⟩
theorem tw13378697826107761828 : True := ⟨⟩
theorem tw13450162024751096919 : True := ⟨⟩
theorem tw7637669617057287497 : True := ⟨⟩
theorem tw15644535239410387668 : True := ⟨⟩
theorem tw12446512072275007712 : True := ⟨⟩
theorem tw7188135143509691620 : True := ⟨⟩
theorem tw1037616018723493306 : True := ⟨⟩
theorem tw639088083194203309 : True := ⟨⟩
theorem tw9564054407172189309 : True := ⟨⟩
theorem tw8818719746439690747 : True := ⟨⟩
theorem tw14804120746313428208 : True := ⟨⟩
theorem tw9817227259948393010 : True := ⟨⟩
theorem tw14792640731287966703 : True := ⟨⟩
theorem tw5523056372827440573 : True := ⟨⟩
theorem tw17069734104825973546 : True := ⟨⟩
theorem tw558318925669882054 : True := ⟨⟩
theorem tw16894749912010408177 : True := ⟨⟩
theorem tw8205522646175048613 : True := ⟨⟩
theorem tw7081000313697623110 : True := ⟨⟩
theorem tw17438607271922088773 : True := ⟨⟩
theorem tw13082237008913122092 : True := ⟨⟩
theorem tw13990026968648880132 : True := ⟨⟩
theorem tw2844591033921786053 : True := ⟨⟩
theorem tw5890019550436309065 : True := ⟨⟩
theorem tw270082094640505173 : True := ⟨⟩
theorem tw4627863279852465266 : True := ⟨⟩
theorem tw13811976655806710746 : True := ⟨⟩
theorem tw7160620206394250074 : True := ⟨⟩
theorem tw12488605327843316976 : True := ⟨⟩
theorem tw16059509028270213094 : True := ⟨⟩
theorem tw16206905596463537423 : True := ⟨⟩
theorem tw2508703150247084910 : True := ⟨⟩
theorem tw7326997750095012094 : True := ⟨⟩
theorem tw11154686332869411431 : True := ⟨⟩
theorem tw11290314200664906612 : True := ⟨⟩
theorem tw2489443034851339492 : True := ⟨⟩
theorem tw6970783685561127792 : True := ⟨⟩
theorem tw2048380638624518477 : True := ⟨⟩
theorem tw9483924583667360849 : True := ⟨⟩
theorem tw12306006507843483686 : True := ⟨⟩
theorem tw6898484935798731750 : True := ⟨⟩
theorem tw8564146620012281769 : True := ⟨⟩
theorem tw5145204253280144585 : True := ⟨⟩
theorem tw3256844549857225935 : True := ⟨⟩
theorem tw11579314110670190383 : True := ⟨⟩
theorem tw3839590729860257270 : True := ⟨⟩
theorem tw9965835795796966074 : True := ⟨⟩
theorem tw652712713136892983 : True := ⟨⟩
theorem tw16808816680632162236 : True := ⟨⟩
theorem tw4065261325283248342 : True := ⟨⟩
theorem tw16721105188462792595 : True := ⟨⟩
theorem tw17131411347235094155 : True := ⟨⟩
theorem tw5819125190678160177 : True := ⟨⟩
theorem tw8013938844705075417 : True := ⟨⟩
theorem tw9897888163153770585 : True := ⟨⟩
theorem tw4991863549147116663 : True := ⟨⟩
theorem tw15970856272112532874 : True := ⟨⟩
theorem tw11790523347159393017 : True := ⟨⟩
theorem tw995252045680283101 : True := ⟨⟩
theorem tw5341944250094714125 : True := ⟨⟩
theorem tw14647270700263210149 : True := ⟨⟩
theorem tw4117318279356429309 : True := ⟨⟩
theorem tw14559306595743330226 : True := ⟨⟩
theorem tw12600033099576333853 : True := ⟨⟩
theorem tw18253297045269954372 : True := ⟨⟩
theorem tw14605636999731775426 : True := ⟨⟩
theorem tw12048506664855765154 : True := ⟨⟩
theorem tw11868804155514792476 : True := ⟨⟩
theorem tw11593722137686988161 : True := ⟨⟩
theorem tw9920685821727447723 : True := ⟨⟩
theorem tw16506189477089129367 : True := ⟨⟩
theorem tw3743066065248014047 : True := ⟨⟩
theorem tw5710114339650569106 : True := ⟨⟩
theorem tw5541806855316664665 : True := ⟨⟩
theorem tw9430145215200802073 : True := ⟨⟩
theorem tw14549430375417008020 : True := ⟨⟩
theorem tw17997324963483852003 : True := ⟨⟩
theorem tw5556153573758497851 : True := ⟨⟩
theorem tw12118898755071138436 : True := ⟨⟩
theorem tw7783117957168565635 : True := ⟨⟩
theorem tw77907199567472371 : True := ⟨⟩
theorem tw5797261270826935307 : True := ⟨⟩
theorem tw15211868195443357106 : True := ⟨⟩
theorem tw2375347943523243071 : True := ⟨⟩
theorem tw12270970081441672901 : True := ⟨⟩
theorem tw1342214238158469812 : True := ⟨⟩
theorem tw2705578662699750167 : True := ⟨⟩
theorem tw11905528965121665229 : True := ⟨⟩
theorem tw7646753143342046239 : True := ⟨⟩
theorem tw1437387162272665086 : True := ⟨⟩
theorem tw2912719597597205477 : True := ⟨⟩
theorem tw15998956197678527950 : True := ⟨⟩
theorem tw325535106022581626 : True := ⟨⟩
theorem tw17545193587724839987 : True := ⟨⟩
theorem tw312592522008576741 : True := ⟨⟩
theorem tw9369752314854381888 : True := ⟨⟩
theorem tw138696253801599624 : True := ⟨⟩
theorem tw7633632427530388377 : True := ⟨⟩
theorem tw3112503021271971684 : True := ⟨⟩
theorem tw15172551950472412598 : True := ⟨⟩
theorem tw15495394382071096443 : True := ⟨⟩
theorem tw16090481424426673586 : True := ⟨⟩
theorem tw417117975214064236 : True := ⟨⟩
theorem tw6797398616466871073 : True := ⟨⟩
theorem tw11421175509471886748 : True := ⟨⟩
theorem tw14830827101794165861 : True := ⟨⟩
theorem tw14075286780723850050 : True := ⟨⟩
theorem tw10413920247873377978 : True := ⟨⟩
theorem tw16254095784095240144 : True := ⟨⟩
theorem tw9002911737674252780 : True := ⟨⟩
theorem tw17572359964967739632 : True := ⟨⟩
theorem tw17634314208201223575 : True := ⟨⟩
theorem tw3915328529490431192 : True := ⟨⟩
theorem tw15181396923690306241 : True := ⟨⟩
theorem tw8525781008918233212 : True := ⟨⟩
theorem tw10520212992171731138 : True := ⟨⟩
theorem tw92476874560683407 : True := ⟨⟩
theorem tw11022806194867812015 : True := ⟨⟩
theorem tw14517903962253301233 : True := ⟨⟩
theorem tw18214699134383381259 : True := ⟨⟩
theorem tw10337092732414729819 : True := ⟨⟩
theorem tw12432862485180394760 : True := ⟨⟩
theorem tw6012739144340351665 : True := ⟨⟩
theorem tw5287706204902457151 : True := ⟨⟩
theorem tw14721520163469762045 : True := ⟨⟩
theorem tw9014369349462197228 : True := ⟨⟩
theorem tw12040422850635841794 : True := ⟨⟩
theorem tw1586912463491196190 : True := ⟨⟩
theorem tw7205152016387195893 : True := ⟨⟩
theorem tw873606752803823791 : True := ⟨⟩
theorem tw7173197794208231543 : True := ⟨⟩
theorem tw3198871801078983562 : True := ⟨⟩
theorem tw11082479726438897674 : True := ⟨⟩
theorem tw13166286489043556222 : True := ⟨⟩
theorem tw4258855356908564889 : True := ⟨⟩
theorem tw3938037588243546240 : True := ⟨⟩
theorem tw8122614597572660737 : True := ⟨⟩
theorem tw6171755881476939109 : True := ⟨⟩
theorem tw5640164664270177454 : True := ⟨⟩
theorem tw10755178552777498365 : True := ⟨⟩
theorem tw17518729335182861177 : True := ⟨⟩
theorem tw1207799075813549971 : True := ⟨⟩
theorem tw14011348465091835516 : True := ⟨⟩
theorem tw13809492505121476007 : True := ⟨⟩
theorem tw13048591615710730654 : True := ⟨⟩
theorem tw18331344643871220341 : True := ⟨⟩
theorem tw8899452903413997469 : True := ⟨⟩
theorem tw12980445403506759448 : True := ⟨⟩
theorem tw4592977010007778259 : True := ⟨⟩
theorem tw1069006992767703670 : True := ⟨⟩
theorem tw5323741910167238645 : True := ⟨⟩
theorem tw3767608830649641872 : True := ⟨⟩
theorem tw1683135871587109774 : True := ⟨⟩
theorem tw95561686796277161 : True := ⟨⟩
theorem tw9899060698904498858 : True := ⟨⟩
theorem tw275149867755005988 : True := ⟨⟩
theorem tw14289960069870075745 : True := ⟨⟩
theorem tw14910194549075427976 : True := ⟨⟩
theorem tw1456897915469530207 : True := ⟨⟩
theorem tw2706134853653030316 : True := ⟨⟩
theorem tw15771185118690673872 : True := ⟨⟩
theorem tw11455482311201116337 : True := ⟨⟩
theorem tw8999471737247718915 : True := ⟨⟩
theorem tw13079671241759738567 : True := ⟨⟩
theorem tw8227416724217537478 : True := ⟨⟩
theorem tw13074787602207267387 : True := ⟨⟩
theorem tw12800946307618910643 : True := ⟨⟩
theorem tw3121040661120969696 : True := ⟨⟩
theorem tw16447927736963603037 : True := ⟨⟩
theorem tw30599021912740348 : True := ⟨⟩
theorem tw12229198615185553049 : True := ⟨⟩
theorem tw11639872214322652300 : True := ⟨⟩
theorem tw15828594758937523006 : True := ⟨⟩
theorem tw16923761241056065658 : True := ⟨⟩
theorem tw6382637086488679332 : True := ⟨⟩
theorem tw2360121878456777770 : True := ⟨⟩
theorem tw11422348357289867862 : True := ⟨⟩
theorem tw11525462751636953590 : True := ⟨⟩
theorem tw5478778710203492431 : True := ⟨⟩
theorem tw5079529683830059425 : True := ⟨⟩
theorem tw2146957035231928650 : True := ⟨⟩
theorem tw13478928556424353551 : True := ⟨⟩
theorem tw17432140748746835369 : True := ⟨⟩
theorem tw4217283486827861578 : True := ⟨⟩
theorem tw750437844549094895 : True := ⟨⟩
theorem tw1338124589978223917 : True := ⟨⟩
theorem tw14409120892167279571 : True := ⟨⟩
theorem tw13442878127852383250 : True := ⟨⟩
theorem tw8642493942707108679 : True := ⟨⟩
theorem tw13173052125920346512 : True := ⟨⟩
theorem tw8108339640251513397 : True := ⟨⟩
theorem tw18058118244862719434 : True := ⟨⟩
theorem tw3060598537174971990 : True := ⟨⟩
theorem tw6460365969580320251 : True := ⟨⟩
end PySem.W.Fast
open PySem PySem.W PyProof.Rows
set_option maxRecDepth 100000 in
set_option maxHeartbeats 0 in
theorem PySem.Challenge.cw_jettison_k43_lines_read_or_refused_holds : PySem.Challenge.rw_jettison_k43_lines_read_or_refused.Holds := by
  w_on; o_law; k_head; (case hw => w_witness2)
  k_fill
  refine Law.walk (l := PySem.Challenge.rw_jettison_k43_lines_read_or_refused) rfl rfl (fun w h Y => PySem.W.kIn_of Y) ?F
  case F =>
    intro w mg fa h KX G hmg
    refine' Law.all_mk KX G hmg ?a0 ?l0 ?c0 ?k0 ?a1 ?l1 ?c1 ?k1 ?a2 ?l2 ?c2 ?k2 ?a3 ?l3 ?c3 ?k3 ?a4 ?l4 ?c4 ?k4 ?a5 ?l5 ?c5 ?k5 ?a6 ?l6 ?c6 ?k6 ?a7 ?l7 ?c7 ?k7 ?a8 ?l8 ?c8 ?k8 ?a9 ?l9 ?c9 ?k9 ?a10 ?l10 ?c10 ?k10 ?a11 ?l11 ?c11 ?k11 ?a12 ?l12 ?c12 ?k12 ?a13 ?l13 ?c13 ?k13 ?a14 ?l14 ?c14 ?k14 ?a15 ?l15 ?c15 ?k15 ?a16 ?l16 ?c16 ?k16 ?a17 ?l17 ?c17 ?k17 ?a18 ?l18 ?c18 ?k18 ?a19 ?l19 ?c19 ?k19 ?a20 ?l20 ?c20 ?k20 ?a21 ?l21 ?c21 ?k21 ?a22 ?l22 ?c22 ?k22 ?a23 ?l23 ?c23 ?k23 ?a24 ?l24 ?c24 ?k24 ?z_len ?z_range ?z_all ?z_max ?z_zip ?z_isinstance ?z_str ?z_int ?z_bool ?z_tuple ?z_ValueError ?b_LETTERS ?b_FIGURES ?b_WIDTH ?b_GROUP ?b_MOST ?l_dig ?h_dig ?fa_ ?bE_BadName ?bE_Twice ?bE_NoOwner ?bE_NoPart ?bE_NoVoyage ?bE_BadNumber ?bE_TooMuch ?bE_BadRows ?bE_NoDeed ?bE_BadPaper ?bE_JettisonError ?to_NoDeed ?ox_NoDeed
    (case a0 => k_is); (case l0 => k_is); (case c0 => k_is); (case k0 => k_is)
    (case a1 => k_is); (case l1 => k_is); (case c1 => k_is); (case k1 => k_is)
    (case a2 => k_is); (case l2 => k_is); (case c2 => k_is); (case k2 => k_is)
    (case a3 => k_is); (case l3 => k_is); (case c3 => k_is); (case k3 => k_is)
    (case a4 => k_is); (case l4 => k_is); (case c4 => k_is); (case k4 => k_is)
    (case a5 => k_is); (case l5 => k_is); (case c5 => k_is); (case k5 => k_is)
    (case a6 => k_is); (case l6 => k_is); (case c6 => k_is); (case k6 => k_is)
    (case a7 => k_is); (case l7 => k_is); (case c7 => k_is); (case k7 => k_is)
    (case a8 => k_is); (case l8 => k_is); (case c8 => k_is); (case k8 => k_is)
    (case a9 => k_is); (case l9 => k_is); (case c9 => k_is); (case k9 => k_is)
    (case a10 => k_is); (case l10 => k_is); (case c10 => k_is); (case k10 => k_is)
    (case a11 => k_is); (case l11 => k_is); (case c11 => k_is); (case k11 => k_is)
    (case a12 => k_is); (case l12 => k_is); (case c12 => k_is); (case k12 => k_is)
    (case a13 => k_is); (case l13 => k_is); (case c13 => k_is); (case k13 => k_is)
    (case a14 => k_is); (case l14 => k_is); (case c14 => k_is); (case k14 => k_is)
    (case a15 => k_is); (case l15 => k_is); (case c15 => k_is); (case k15 => k_is)
    (case a16 => k_is); (case l16 => k_is); (case c16 => k_is); (case k16 => k_is)
    (case a17 => k_is); (case l17 => k_is); (case c17 => k_is); (case k17 => k_is)
    (case a18 => k_is); (case l18 => k_is); (case c18 => k_is); (case k18 => k_is)
    (case a19 => k_is); (case l19 => k_is); (case c19 => k_is); (case k19 => k_is)
    (case a20 => k_is); (case l20 => k_is); (case c20 => k_is); (case k20 => k_is)
    (case a21 => k_is); (case l21 => k_is); (case c21 => k_is); (case k21 => k_is)
    (case a22 => k_is); (case l22 => k_is); (case c22 => k_is); (case k22 => k_is)
    (case a23 => k_is); (case l23 => k_is); (case c23 => k_is); (case k23 => k_is)
    (case a24 => k_is); (case l24 => k_is); (case c24 => k_is); (case k24 => k_is)
    (case z_len => k_is)
    (case z_range => k_is)
    (case z_all => k_is)
    (case z_max => k_is)
    (case z_zip => k_is)
    (case z_isinstance => k_is)
    (case z_str => k_is)
    (case z_int => k_is)
    (case z_bool => k_is)
    (case z_tuple => k_is)
    (case z_ValueError => k_is)
    (case b_LETTERS => k_is)
    (case b_FIGURES => k_is)
    (case b_WIDTH => k_is)
    (case b_GROUP => k_is)
    (case b_MOST => k_is)
    (case l_dig => k_is); (case h_dig => rfl)
    (case fa_ => refine' L2.FormsAt.of ?h1 ?h2 ?h3 ?h4 ?h5 ?h6 ?t1 ?t2 ?t3 ?t4 ?t5 ?t6 ?t7 ?t8 ?tP; (case h1 => k_is); (case h2 => k_is); (case h3 => k_is); (case h4 => exact ⟨rfl, rfl, rfl⟩); (case h5 => rfl); (case h6 => rfl); (case t1 => refine' L2.TupAt.of ?l ?e; (case l => k_is); (case e => exact ⟨rfl, rfl, by decide⟩)); (case t2 => refine' L2.TupAt.of ?l ?e; (case l => k_is); (case e => exact ⟨rfl, rfl, by decide⟩)); (case t3 => refine' L2.TupAt.of ?l ?e; (case l => k_is); (case e => exact ⟨rfl, rfl, by decide⟩)); (case t4 => refine' L2.TupAt.of ?l ?e; (case l => k_is); (case e => exact ⟨rfl, rfl, by decide⟩)); (case t5 => refine' L2.TupAt.of ?l ?e; (case l => k_is); (case e => exact ⟨rfl, rfl, by decide⟩)); (case t6 => refine' L2.TupAt.of ?l ?e; (case l => k_is); (case e => exact ⟨rfl, rfl, by decide⟩)); (case t7 => refine' L2.TupAt.of ?l ?e; (case l => k_is); (case e => exact ⟨rfl, rfl, by decide⟩)); (case t8 => refine' L2.TupAt.of ?l ?e; (case l => k_is); (case e => exact ⟨rfl, rfl, by decide⟩)); (case tP => refine' L2.TupAt.of ?l ?e; (case l => k_is); (case e => exact ⟨rfl, rfl, by decide⟩)))
    (case bE_BadName => k_is)
    (case bE_Twice => k_is)
    (case bE_NoOwner => k_is)
    (case bE_NoPart => k_is)
    (case bE_NoVoyage => k_is)
    (case bE_BadNumber => k_is)
    (case bE_TooMuch => k_is)
    (case bE_BadRows => k_is)
    (case bE_NoDeed => k_is)
    (case bE_BadPaper => k_is)
    (case bE_JettisonError => k_is)
    (case to_NoDeed => refine' L2.Told.of ?ga ?gn ?ca ?mo ?mb ?jt ?ve ?k0 ?k1 ?k2 ?k3 ?k4 ?k5 ?k6 ?k7 ?k8 ?k9 ?h; (case ga => k_is); (case gn => k_is); (case ca => k_is); (case mo => k_is); (case mb => k_is); (case jt => kts_exm); (case ve => kit_is); (case k0 => kit_is); (case k1 => kit_is); (case k2 => kit_is); (case k3 => kit_is); (case k4 => kit_is); (case k5 => kit_is); (case k6 => kit_is); (case k7 => kit_is); (case k8 => kit_is); (case k9 => kit_is); (case h => rfl))
    (case ox_NoDeed => k_exc)
