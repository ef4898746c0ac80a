import PyProof.Rows.All
import Wide.All
import OpenK.AllK
import Wide.FinOn
import Lean
import PyProof.EqAt
import PyProof.EqKinds
import PyProof.TupleCall
import PySem.Challenge.RW_jettison_k18_casts_take_worth
set_option Elab.async false
set_option linter.all false
set_option maxRecDepth 100000
set_option Elab.async false
set_option linter.all false
set_option maxRecDepth 100000
namespace L2
open PySem PySem.Spec PyProof.Rows
abbrev Key := Sum Int Str
def keyIs : Key → Value → Bool
  | .inl k, v => Value.isInt k v
  | .inr x, v => Value.isStrOf x v
def keyH (w : World) : Key → Int
  | .inl k => hashInt k
  | .inr x => hashStr w x
theorem keyIs_shape : ∀ {k : Key} {v : Value}, keyIs k v = true → (∃ i t, k = Sum.inl i ∧ v = Value.int i t) ∨ (∃ x t, k = Sum.inr x ∧ v = Value.str x t)
  | .inl i, v, h => by
    obtain ⟨t, e⟩ := Value.isInt_shape (k := i) (v := v) h
    exact .inl ⟨i, t, rfl, e⟩
  | .inr x, v, h => by
    obtain ⟨t, e⟩ := Value.isStrOf_shape (x := x) (v := v) h
    exact .inr ⟨x, t, rfl, e⟩
theorem keyIs_int (i : Int) (t : Tok) : keyIs (.inl i) (.int i t) = true := by simp [keyIs, Value.isInt]
theorem keyIs_str (x : Str) (t : Tok) : keyIs (.inr x) (.str x t) = true := by simp [keyIs, Value.isStrOf]
theorem key_ll (a b : Int) : decide ((Sum.inl a : Key) = Sum.inl b) = (a == b) := by
  by_cases e : a = b
  · subst e; simp
  · have h : ¬ (Sum.inl a : Key) = Sum.inl b := fun q => e (Sum.inl.inj q)
    rw [decide_eq_false h]
    exact (beq_eq_false_iff_ne.mpr e).symm
theorem key_rr (a b : Str) : decide ((Sum.inr a : Key) = Sum.inr b) = decide (a = b) := by
  by_cases e : a = b
  · subst e; simp
  · have h : ¬ (Sum.inr a : Key) = Sum.inr b := fun q => e (Sum.inr.inj q)
    rw [decide_eq_false h, decide_eq_false e]
theorem key_lr (a : Int) (b : Str) : decide ((Sum.inl a : Key) = Sum.inr b) = false := decide_eq_false (fun q => nomatch q)
theorem key_rl (a : Str) (b : Int) : decide ((Sum.inr a : Key) = Sum.inl b) = false := decide_eq_false (fun q => nomatch q)
def mixKind (prog : Program) (w : World) : PySem.KeyKind prog w Key where
  is := keyIs
  hash := keyH w
  inj := fun v a b ha hb => by
    rcases keyIs_shape ha with ⟨i, t, rfl, rfl⟩ | ⟨x, t, rfl, rfl⟩
    · rcases keyIs_shape hb with ⟨j, u, rfl, e⟩ | ⟨y, u, rfl, e⟩
      · injection e with e1 _; rw [e1]
      · exact nomatch e
    · rcases keyIs_shape hb with ⟨j, u, rfl, e⟩ | ⟨y, u, rfl, e⟩
      · exact nomatch e
      · injection e with e1 _; rw [e1]
  byValue := fun k v h => by
    rcases keyIs_shape h with ⟨i, t, rfl, rfl⟩ | ⟨x, t, rfl, rfl⟩ <;> rfl
  pyHash := fun hv h => by
    rcases keyIs_shape hv with ⟨i, t, rfl, rfl⟩ | ⟨x, t, rfl, rfl⟩
    · exact wpAny_pyHash_int h
    · exact wpAny_pyHash_str h
  eqBool := fun hu hv h => by
    rcases keyIs_shape hu with ⟨i, t, rfl, rfl⟩ | ⟨x, t, rfl, rfl⟩
    · rcases keyIs_shape hv with ⟨j, u, rfl, rfl⟩ | ⟨y, u, rfl, rfl⟩
      · rw [key_ll] at h; exact wpAny_eqBool_int h
      · rw [key_lr] at h; exact SeqAt.EqAt.int_str i t y u _ _ _ _ h
    · rcases keyIs_shape hv with ⟨j, u, rfl, rfl⟩ | ⟨y, u, rfl, rfl⟩
      · rw [key_rl] at h; exact SeqAt.EqAt.str_int x t j u _ _ _ _ h
      · rw [key_rr] at h; exact wpAny_eqBool_str h
  «strs» := fun k x t v h => by
    rcases keyIs_shape h with ⟨i, u, rfl, e⟩ | ⟨y, u, rfl, e⟩
    · exact nomatch e
    · injection e with e1 _
      subst e1
      cases v <;> rfl
theorem mixKind_is (prog : Program) (w : World) (k : Key) (v : Value) : (mixKind prog w).is k v = keyIs k v := rfl
theorem mixKind_int (prog : Program) (w : World) (i : Int) (t : Tok) : (mixKind prog w).is (.inl i) (.int i t) = true := keyIs_int i t
theorem mixKind_str (prog : Program) (w : World) (x : Str) (t : Tok) : (mixKind prog w).is (.inr x) (.str x t) = true := keyIs_str x t
end L2
namespace L2
open PySem PySem.Spec PyProof.Rows
inductive V where
  | non | bl (b : Bool) | int (i : Int) | str (x : Str) | byt (b : Array UInt8) | flt (b : UInt64) | ref (a : Addr) | ty (n : String)
  deriving DecidableEq
def RelV : V → Value → Prop
  | .non, u => u = Value.none
  | .bl b, u => u = Value.bool b
  | .int i, u => ∃ t, u = Value.int i t
  | .str x, u => ∃ t, u = Value.str x t
  | .byt b, u => ∃ t, u = Value.bytes b t
  | .flt b, u => ∃ t, u = Value.float b t
  | .ref a, u => u = Value.ref a
  | .ty n, u => u = Value.type n
abbrev Vals : List V → List Value → Prop := Paired RelV
theorem Vals.length {xs : List V} {us : List Value} (r : Vals xs us) : xs.length = us.length := Paired.length r
theorem Vals.get : ∀ {xs : List V} {us : List Value} {i : Nat} {x : V}, Vals xs us → xs[i]? = some x → ∃ u, us[i]? = some u ∧ RelV x u
  | _, _, _, _, .nil, e => by simp at e
  | _, _, 0, _, .cons r _, e => by simp at e; subst e; exact ⟨_, rfl, r⟩
  | _, _, i + 1, x, .cons _ t, e => by
    obtain ⟨u, h1, h2⟩ := Vals.get (i := i) (x := x) t (by simpa using e)
    exact ⟨u, by simpa using h1, h2⟩
theorem Vals.set {x : V} {u : Value} (r : RelV x u) : ∀ {xs : List V} {us : List Value} (i : Nat), Vals xs us → Vals (xs.set i x) (us.set i u)
  | _, _, _, .nil => .nil
  | _, _, 0, .cons _ t => .cons r t
  | _, _, i + 1, .cons q t => .cons q (Vals.set r i t)
theorem Vals.append : ∀ {xs ys : List V} {us ws : List Value}, Vals xs us → Vals ys ws → Vals (xs ++ ys) (us ++ ws)
  | _, _, _, _, .nil, s => s
  | _, _, _, _, .cons r t, s => .cons r (Vals.append t s)
def RelO : Option V → Option Value → Prop
  | some v, some u => RelV v u
  | none, none => True
  | _, _ => False
def KV {κ : Type} : List (κ × V) → List (κ × Value) → Prop := Paired fun (p : κ × V) (q : κ × Value) => p.1 = q.1 ∧ RelV p.2 q.2
def kV : Key → V
  | .inl i => .int i
  | .inr x => .str x
inductive HO where
  | lst (xs : List V)
  | tup (xs : List V)
  | dK (kvs : List (Key × V)) | dT (kvs : List (List Key × V))
  | set (S : Int → Bool) (n : Nat)
  | ins (C dx : Addr) (fs : List (Str × V))
  | own (x : Addr)
  | xd (fs : List (Str × V))
  | met (f x : Addr)
  | rng (lo hi : Int)
  | frz (o : Obj) (u : HO)
  | tbl (ps : Array Value)
  | ext (φ : Heap → Prop)
abbrev Hp := Addr → Option HO
def upd (H : Hp) (a : Addr) (o : HO) : Hp := fun b => if b = a then some o else H b
theorem upd_same {H : Hp} {a : Addr} {o : HO} : upd H a o a = some o := by unfold upd; rw [if_pos rfl]
theorem upd_ne {H : Hp} {a b : Addr} {o : HO} (h : b ≠ a) : upd H a o b = H b := by unfold upd; rw [if_neg h]
theorem upd_upd {H : Hp} {a : Addr} {o u : HO} : upd (upd H a o) a u = upd H a u := by
  funext b; unfold upd; split <;> rfl
theorem ne_of {H : Hp} {a b : Addr} {o u : HO} (h : H a = some o) (h' : H b = some u) (d : o ≠ u) : a ≠ b := by
  intro e; subst e; rw [h] at h'; exact d (Option.some.inj h')
theorem ne_of_none {H : Hp} {a b : Addr} {o : HO} (h : H a = some o) (h' : H b = none) : a ≠ b := by
  intro e; subst e; rw [h] at h'; cases h'
section
variable (P : Program) (w : World)
def ObjOk (H : Hp) (h : Heap) (a : Addr) : HO → Prop
  | .lst xs => xs.length ≤ sizeLine ∧ ∃ (its : List Value) (n : Nat), Vals xs its ∧ h.get? a = some { cls := .type "list", data := .seq its.toArray n }
  | .tup xs => xs.length ≤ sizeLine ∧ ∃ its : List Value, Vals xs its ∧ IsTup h a its.toArray
  | .dK kvs => kvs.length ≤ sizeLine ∧ (a == sysModules) = false ∧ ∃ vs, KV kvs vs ∧ h.DictOf (mixKind P w) a vs
  | .dT kvs => kvs.length ≤ sizeLine ∧ (a == sysModules) = false ∧ ∃ xs : List (List Key × Addr × Value),
      Paired (fun (p : List Key × V) (q : List Key × Addr × Value) => p.1 = q.1 ∧ H q.2.1 = some (.tup (p.1.map kV)) ∧ RelV p.2 q.2.2) kvs xs ∧
      ∃ o es ep, h.get? a = some o ∧ o.ExactDict ∧ o.data = .dict es ep ∧ es.toList = xs.map (entryOfKey (tupleKind (mixKind P w))) ∧ (xs.map (·.1)).Nodup
  | .set S n => h.SetOf (intKind P w) a S n
  | .ins C dx fs => H dx = some (.own a) ∧ fs.length ≤ 1000 ∧ dx ≠ a ∧ h.get? a = some (PySem.W.instObj C dx) ∧
      ∃ mA, h.Ns1 dx mA ∧ (∀ f, RelO (fs.lookup f) (mA f)) ∧ PySem.Within mA (fs.map (·.1))
  | .own _ => ∃ o, h.get? a = some o
  | .xd fs => ∃ mA, h.Ns1 a mA ∧ ∀ f, RelO (fs.lookup f) (mA f)
  | .rng lo hi => ∃ t u v, h.get? a = some { cls := .type "range", data := .fields #[.int lo t, .int hi u, .int 1 v] }
  | .frz o u => h.get? a = some o ∧ ObjOk H h a u
  | .tbl ps => h.get? a = some { cls := .none, data := .fields ps }
  | .met f x => h.get? a = some (PySem.W.methodObj (.ref f) (.ref x))
  | .ext φ => φ h ∧ (∃ o, h.get? a = some o) ∧ ∀ h1 h2 : Heap, φ h1 → (∀ o, h1.get? a = some o → h2.get? a = some o) → φ h2
def HOk (H : Hp) (h : Heap) : Prop := ∀ a o, H a = some o → ObjOk P w H h a o
end
section
variable {P : Program} {w : World} {H H' : Hp} {h h' : Heap} {a : Addr} {o : HO}
theorem ObjOk.lt (x : ObjOk P w H h a o) : a < h.objs.size := by
  cases o with
  | lst xs => obtain ⟨_, _, _, _, e⟩ := x; exact Heap.lt_size e
  | tup xs => obtain ⟨_, _, _, p⟩ := x; exact p.lt
  | dK kvs => obtain ⟨_, _, _, _, o, _, _, e, _⟩ := x; exact Heap.lt_size e
  | dT kvs => obtain ⟨_, _, _, _, o, _, _, e, _⟩ := x; exact Heap.lt_size e
  | set S n => obtain ⟨o, _, _, _, e, _⟩ := x; exact Heap.lt_size e
  | ins C dx fs => obtain ⟨_, _, _, e, _⟩ := x; exact Heap.lt_size e
  | own y => obtain ⟨_, e⟩ := x; exact Heap.lt_size e
  | xd fs => obtain ⟨_, ⟨_, _, _, e, _⟩, _⟩ := x; exact Heap.lt_size e
  | rng lo hi => obtain ⟨_, _, _, e⟩ := x; exact Heap.lt_size e
  | frz ob u => obtain ⟨e, _⟩ := x; exact Heap.lt_size e
  | tbl ps => exact Heap.lt_size (show h.get? a = some _ from x)
  | met f y => exact Heap.lt_size (show h.get? a = some _ from x)
  | ext φ => obtain ⟨_, ⟨_, e⟩, _⟩ := x; exact Heap.lt_size e
theorem Paired.mapP {α β : Type} {F G : α → β → Prop} : ∀ {l₁ : List α} {l₂ : List β}, Paired F l₁ l₂ → (∀ a b, F a b → G a b) → Paired G l₁ l₂
  | _, _, .nil, _ => .nil
  | _, _, .cons r t, f => .cons (f _ _ r) (Paired.mapP t f)
theorem ObjOk.stay (x : ObjOk P w H h a o) (k : ∀ b u, (b = a ∨ H b = some (.own a)) → h.get? b = some u → h'.get? b = some u)
    (ho : ∀ b, H b = some (.own a) → H' b = some (.own a)) (ht : ∀ b xs, H b = some (.tup xs) → H' b = some (.tup xs)) : ObjOk P w H' h' a o := by
  induction o with
  | lst xs => obtain ⟨z, its, n, r, e⟩ := x; exact ⟨z, its, n, r, k _ _ (.inl rfl) e⟩
  | tup xs => obtain ⟨z, its, r, ob, e, c⟩ := x; exact ⟨z, its, r, ob, k _ _ (.inl rfl) e, c⟩
  | dK kvs => obtain ⟨z, y, vs, r, ob, es, ep, e, c⟩ := x; exact ⟨z, y, vs, r, ob, es, ep, k _ _ (.inl rfl) e, c⟩
  | dT kvs =>
    obtain ⟨z, y, xs, r, ob, es, ep, e, c⟩ := x
    exact ⟨z, y, xs, Paired.mapP r fun p q z => ⟨z.1, ht _ _ z.2.1, z.2.2⟩, ob, es, ep, k _ _ (.inl rfl) e, c⟩
  | set S n => obtain ⟨ob, es, ep, t, e, c⟩ := x; exact ⟨ob, es, ep, t, k _ _ (.inl rfl) e, c⟩
  | ins C dx fs =>
    obtain ⟨d, z, ne, e, mA, ⟨od, es, ep, e2, c⟩, r⟩ := x
    exact ⟨ho _ d, z, ne, k _ _ (.inl rfl) e, mA, ⟨od, es, ep, k _ _ (.inr d) e2, c⟩, r⟩
  | own y => obtain ⟨ob, e⟩ := x; exact ⟨ob, k _ _ (.inl rfl) e⟩
  | xd fs => obtain ⟨mA, ⟨od, es, ep, e, c⟩, r⟩ := x; exact ⟨mA, ⟨od, es, ep, k _ _ (.inl rfl) e, c⟩, r⟩
  | rng lo hi => obtain ⟨t, u, v, e⟩ := x; exact ⟨t, u, v, k _ _ (.inl rfl) e⟩
  | frz ob u ih => obtain ⟨e, q⟩ := x; exact ⟨k _ _ (.inl rfl) e, ih q⟩
  | tbl ps =>
    have e : h.get? a = some { cls := .none, data := .fields ps } := x
    show h'.get? a = some { cls := .none, data := .fields ps }
    exact k a _ (.inl rfl) e
  | met f y =>
    have e : h.get? a = some (PySem.W.methodObj (.ref f) (.ref y)) := x
    show h'.get? a = some (PySem.W.methodObj (.ref f) (.ref y))
    exact k a _ (.inl rfl) e
  | ext φ => obtain ⟨p, ⟨o, e⟩, st⟩ := x; exact ⟨st _ _ p fun o q => k _ _ (.inl rfl) q, ⟨o, k _ _ (.inl rfl) e⟩, st⟩
theorem HOk.lt (x : HOk P w H h) (e : H a = some o) : a < h.objs.size := (x a o e).lt
theorem HOk.fresh (x : HOk P w H h) (e : h.objs.size ≤ a) : H a = none := by
  cases q : H a with
  | none => rfl
  | some u => exact absurd (Nat.lt_of_lt_of_le (x.lt q) e) (Nat.lt_irrefl _)
theorem HOk.kept (x : HOk P w H h) (k : ∀ b u, h.get? b = some u → h'.get? b = some u) : HOk P w H h' := fun a o e =>
  (x a o e).stay (fun b u _ q => k b u q) (fun _ q => q) fun _ _ q => q
theorem HOk.laid (x : HOk P w H h) (k : ∀ b u, h.get? b = some u → h'.get? b = some u) (hp : h.objs.size ≤ a) (new : ObjOk P w (upd H a o) h' a o) : HOk P w (upd H a o) h' := fun b u e => by
  have hn := x.fresh hp
  by_cases hb : b = a
  · subst hb; rw [upd_same] at e; cases e; exact new
  · rw [upd_ne hb] at e
    exact (x b u e).stay (fun c v _ q => k c v q) (fun c q => by rw [upd_ne (ne_of_none q hn)]; exact q) fun c xs q => by rw [upd_ne (ne_of_none q hn)]; exact q
end
def Rd (H : Hp) (a : Addr) (u : HO) : Prop := H a = some u ∨ ∃ o, H a = some (.frz o u)
theorem Rd.ok {P : Program} {w : World} {H : Hp} {h : Heap} {a : Addr} {u : HO} (r : Rd H a u) (x : HOk P w H h) : ObjOk P w H h a u := by
  rcases r with r | ⟨o, r⟩
  · exact x a u r
  · obtain ⟨_, q⟩ := x a _ r
    exact q
def Mut : Option HO → Prop
  | some (.lst _) => True
  | some (.dK _) => True
  | some (.dT _) => True
  | some (.set _ _) => True
  | some (.ins _ _ _) => True
  | some (.ext _) => True
  | _ => False
section
variable {P : Program} {w : World} {H : Hp} {h h' : Heap} {x e : Addr} {o' : HO}
theorem HOk.write (ok : HOk P w H h) (mu : Mut (H x)) (he : e = x ∨ H e = some (.own x)) (k : ∀ b u, b ≠ e → h.get? b = some u → h'.get? b = some u) (heo : ∃ u, h'.get? e = some u)
    (new : ObjOk P w (upd H x o') h' x o') : HOk P w (upd H x o') h' := fun b u q => by
  have nown : ∀ c y, H c = some (.own y) → c ≠ x := fun c y r z => by subst z; rw [r] at mu; exact mu
  have ntup : ∀ c xs, H c = some (.tup xs) → c ≠ x := fun c xs r z => by subst z; rw [r] at mu; exact mu
  by_cases hb : b = x
  · subst hb; rw [upd_same] at q; cases q; exact new
  · rw [upd_ne hb] at q
    by_cases hbe : b = e
    · have q' : H b = some (.own x) := by
        rcases he with z | z
        · exact absurd (hbe.trans z) hb
        · rw [hbe]; exact z
      rw [q] at q'; cases q'
      obtain ⟨v, hv⟩ := heo
      exact ⟨v, by rw [hbe]; exact hv⟩
    · refine (ok b u q).stay (fun c v hc r => k c v ?_ r) (fun c r => by rw [upd_ne (nown c b r)]; exact r) fun c xs r => by rw [upd_ne (ntup c xs r)]; exact r
      rcases hc with rfl | hc
      · exact hbe
      · rintro rfl
        rcases he with z | z
        · exact nown c b hc z
        · rw [hc] at z; cases z; exact hb rfl
end
structure Un (fs ex : List Addr) (H H' : Hp) (h h' : Heap) : Prop where
  keep : ∀ b o, h.get? b = some o → H b = none → b ∉ fs → b ∉ ex → h'.get? b = some o
  slot : ∀ b o, h.get? b = some o → H b = none → b ∈ fs → b ∉ ex → ∃ sl, h'.get? b = some { o with slots := sl }
  free : ∀ b o, h.get? b = some o → H b = none → b ∉ ex → H' b = none
  there : ∀ b o, h.get? b = some o → b ∉ ex → ∃ o', h'.get? b = some o'
  tups : ∀ b xs, H b = some (.tup xs) → H' b = some (.tup xs)
  frzs : ∀ b o u, H b = some (.frz o u) → H' b = some (.frz o u)
  tbls : ∀ b ps, H b = some (.tbl ps) → ∃ more, H' b = some (.tbl (ps ++ more))
section
variable {fs fs' ex ex' : List Addr} {H H1 H2 : Hp} {h h1 h2 h' : Heap} {a x e : Addr} {o : HO}
theorem Un.any (u : Un fs ex H H1 h h1) {b : Addr} {ob : Obj} (q : h.get? b = some ob) (n : H b = none) (hx : b ∉ ex) : ∃ sl, h1.get? b = some { ob with slots := sl } := by
  by_cases hb : b ∈ fs
  · exact u.slot b ob q n hb hx
  · exact ⟨ob.slots, u.keep b ob q n hb hx⟩
theorem Un.kept (k : ∀ b u, h.get? b = some u → h'.get? b = some u) : Un fs ex H H h h' :=
  ⟨fun b ob q _ _ _ => k b ob q, fun b ob q _ _ _ => ⟨ob.slots, k b ob q⟩, fun _ _ _ n _ => n, fun b ob q _ => ⟨ob, k b ob q⟩, fun _ _ q => q, fun _ _ _ q => q, fun _ ps q => ⟨#[], by rw [q]; simp⟩⟩
theorem Un.refl : Un fs ex H H h h := Un.kept fun _ _ q => q
theorem Un.laid (k : ∀ b u, h.get? b = some u → h'.get? b = some u) (hp : h.objs.size ≤ a) (hn : H a = none) : Un fs ex H (upd H a o) h h' where
  keep := fun b u q _ _ _ => k b u q
  slot := fun b u q _ _ _ => ⟨u.slots, k b u q⟩
  free := fun b u q n _ => by rw [upd_ne (Nat.ne_of_lt (Nat.lt_of_lt_of_le (Heap.lt_size q) hp))]; exact n
  there := fun b u q _ => ⟨u, k b u q⟩
  tups := fun b xs q => by rw [upd_ne (ne_of_none q hn)]; exact q
  frzs := fun b u xs q => by rw [upd_ne (ne_of_none q hn)]; exact q
  tbls := fun b ps q => ⟨#[], by rw [upd_ne (ne_of_none q hn), q]; simp⟩
theorem Un.write (mu : Mut (H x)) (he : e = x ∨ H e = some (.own x)) (k : ∀ b u, b ≠ e → h.get? b = some u → h'.get? b = some u) (heo : ∃ u, h'.get? e = some u) : Un fs ex H (upd H x o) h h' := by
  have hx : ∀ b, H b = none → b ≠ x := fun b n z => by subst z; rw [n] at mu; exact mu
  have hb : ∀ b, H b = none → b ≠ e := fun b n z => by
    subst z
    rcases he with r | r
    · exact hx b n r
    · rw [n] at r; cases r
  have hm : ∀ b u, H b = some u → ¬ Mut (some u) → b ≠ x := fun b u q nm z => by subst z; rw [q] at mu; exact nm mu
  refine ⟨fun b u q n _ _ => k b u (hb b n) q, fun b u q n _ _ => ⟨u.slots, k b u (hb b n) q⟩, fun b u q n _ => by rw [upd_ne (hx b n)]; exact n, fun b u q _ => ?_,
    fun b xs q => by rw [upd_ne (hm b _ q fun z => z)]; exact q, fun b u xs q => by rw [upd_ne (hm b _ q fun z => z)]; exact q, fun b ps q => ⟨#[], by rw [upd_ne (hm b _ q fun z => z), q]; simp⟩⟩
  by_cases hbe : b = e
  · subst hbe; exact heo
  · exact ⟨u, k b u hbe q⟩
end
def trk (h : Heap) (H : Hp) : List Addr := (List.range h.objs.size).filter fun a => (H a).isSome
def hidT (h : Heap) (H : Hp) : Heap := PySem.W.hideAll h (trk h H)
theorem hidT_size (h : Heap) (H : Hp) : (hidT h H).objs.size = h.objs.size := PySem.W.hideAll_size _ _
theorem hidT_get {h : Heap} {H : Hp} {b : Addr} {o : Obj} (e : h.get? b = some o) (n : H b = none) : (hidT h H).get? b = some o :=
  PySem.W.hideAll_get _ e fun hm => by
    have q : (H b).isSome = true := (List.mem_filter.mp hm).2
    rw [n] at q; simp at q
theorem of_hidT {h : Heap} {H : Hp} {b : Addr} {o : Obj} (e : (hidT h H).get? b = some o) : h.get? b = some o ∧ H b = none := by
  have e' : h.get? b = some o := PySem.W.of_hideAll (trk h H) e
  refine ⟨e', ?_⟩
  cases q : H b with
  | none => rfl
  | some x =>
    have hm : b ∈ trk h H := List.mem_filter.mpr ⟨List.mem_range.mpr (Heap.lt_size e'), by simp [q]⟩
    have z : (hidT h H).get? b = none := PySem.W.hideAll_none (trk h H) hm
    rw [z] at e; cases e
end L2
namespace L2
open PySem PySem.Spec PyProof.Rows
structure Mod (K : PySem.W.Frag) (mg : Str → Option Value) (base : Heap) : Prop where
  kin : K.In base
  glob : base.Ns mainGlobals mg
  blt : ∃ mb, base.Ns builtinsNs mb ∧ ∀ x : Str, x ≠ "__name__" → mb x = bootBuiltins x
  nolimit : base.NoLimit
structure Cx where
  prog : Program
  w : World
  K : PySem.W.Frag
  mg : Str → Option Value
  base : Heap
  A : Around
  N : List Str
  s₀ : Shared
  H₀ : Hp
  env : Env
  outer : List Env
  stack : List Env
  ex : List Addr
  fn : Str → Bool
  calm : Bool
  pn : List (Addr × Obj)
  xe : Value → Shared → Prop
def frs (l : List Env) : List Addr := l.filterMap (·.frame)
abbrev Cx.fs (X : Cx) : List Addr := frs X.outer
def Vis (sc : Scope) (x : Str) : Prop := sc.names.lookup x = some .local ∨ sc.names.lookup x = some .cell ∨ sc.names.lookup x = some .free
def Loc (sc : Scope) (x : Str) : Prop := sc.names.lookup x = some .local ∨ sc.names.lookup x = some .cell
def Look (env : Env) (h : Heap) (m : Str → Option Value) (x : Str) (u : Value) : Prop :=
  (env.kindOf x = some .local ∧ m x = some u) ∨ ((env.kindOf x = some .cell ∨ env.kindOf x = some .free) ∧ ∃ c, env.cells.lookup x = some c ∧ h.IsCell c (some u))
structure Cx.Ok (X : Cx) : Prop where
  mod : Mod X.K X.mg X.base
  kind : X.env.scope.kind = .function
  glob : X.env.globals = mainGlobals
  blt : X.env.builtins = builtinsNs
  above : X.s₀.heap.objs.size ≤ X.env.locals
  inj : ∀ x y c, X.env.cells.lookup x = some c → X.env.cells.lookup y = some c → x = y
  has : ∀ x, (X.env.kindOf x = some .cell ∨ X.env.kindOf x = some .free) → ∃ c, X.env.cells.lookup x = some c
  cab : ∀ x c, X.fn x = true → X.env.cells.lookup x = some c → X.s₀.heap.objs.size ≤ c
  hd : X.calm = true → X.A.handled = none
  frames : X.A.frames = some X.stack
  stk : X.stack = X.outer ∨ (X.stack = X.env :: X.outer ∧ X.env.frame = some X.env.locals)
  exf : ∀ b ∈ X.ex, b ≠ X.env.locals ∧ ∀ x c, X.env.cells.lookup x = some c → c ≠ b
  bs : ∀ b o, X.base.get? b = some o → X.s₀.heap.get? b = some o ∧ X.H₀ b = none
  bsz : X.base.objs.size ≤ X.s₀.heap.objs.size
  noex : ∀ b o, X.base.get? b = some o → b ∉ X.ex
  exfs : ∀ b ∈ X.ex, b ∉ X.fs
  funs : X.s₀.heap.FunFrames X.base X.outer
  frf : ∀ b ∈ X.fs, X.H₀ b = none
structure Inv (X : Cx) (pins : List (Addr × Obj)) (σ : List (Option V)) (H : Hp) (s : Shared) : Prop where
  ok : X.Ok
  os : s.os = X.s₀.os
  bare : AllBare s.gens
  base : Un X.fs X.ex X.H₀ H X.s₀.heap s.heap
  loc : ∃ m, s.heap.Ns X.env.locals m ∧ ∀ (i : Nat) (x : Str) (v : V), X.N[i]? = some x → σ[i]? = some (some v) → Vis X.env.scope x → ∃ u, RelV v u ∧ Look X.env s.heap m x u
  cell : ∀ x c, X.env.cells.lookup x = some c → ∃ v, s.heap.IsCell c v
  free : H X.env.locals = none
  freeC : ∀ x c, X.env.cells.lookup x = some c → H c = none
  pin : ∀ p ∈ X.pn ++ pins, s.heap.get? p.1 = some p.2 ∧ H p.1 = none ∧ p.1 ≠ X.env.locals ∧ p.1 ∉ X.fs ∧ ∀ v, p.2.data ≠ .cell v
  hok : HOk X.prog X.w H s.heap
  len : σ.length = X.N.length
section
variable {X : Cx} {pins : List (Addr × Obj)} {σ : List (Option V)} {H H' : Hp} {s : Shared} {h' : Heap}
theorem Cx.Ok.nofr (ok : X.Ok) {b : Addr} {o : Obj} (e : X.base.get? b = some o) : b ∉ X.fs := fun hb => by
  have := (ok.funs.mem hb).1
  rw [e] at this; cases this
theorem Inv.bs (I : Inv X pins σ H s) : ∀ b o, X.base.get? b = some o → s.heap.get? b = some o ∧ H b = none := fun b o e =>
  ⟨I.base.keep b o (I.ok.bs b o e).1 (I.ok.bs b o e).2 (I.ok.nofr e) (I.ok.noex b o e), I.base.free b o (I.ok.bs b o e).1 (I.ok.bs b o e).2 (I.ok.noex b o e)⟩
theorem Inv.bk (I : Inv X pins σ H s) : ∀ b o, X.base.get? b = some o → s.heap.get? b = some o := fun b o e => (I.bs b o e).1
theorem Inv.mod (I : Inv X pins σ H s) : Mod X.K X.mg X.base := I.ok.mod
theorem Inv.kIn (I : Inv X pins σ H s) : X.K.In s.heap := I.ok.mod.kin.keeps I.bk
theorem Inv.lt (I : Inv X pins σ H s) : X.env.locals < s.heap.objs.size := let ⟨_, hn, _⟩ := I.loc; hn.lt
theorem Inv.sz (I : Inv X pins σ H s) : X.s₀.heap.objs.size ≤ s.heap.objs.size := Nat.le_trans I.ok.above (Nat.le_of_lt I.lt)
theorem Inv.nofs (I : Inv X pins σ H s) {a : Addr} (h : s.heap.objs.size ≤ a) : a ∉ X.fs := fun hb => by
  obtain ⟨_, o, ho, _⟩ := I.ok.funs.mem hb
  exact absurd (Nat.lt_of_lt_of_le (Heap.lt_size ho) (Nat.le_trans I.sz h)) (Nat.lt_irrefl _)
theorem Inv.cne (I : Inv X pins σ H s) : ∀ x c, X.env.cells.lookup x = some c → c ≠ X.env.locals := fun x c e z => by
  obtain ⟨v, o, ho, hd⟩ := I.cell x c e
  obtain ⟨m, ⟨o', es, ep, ho', hd', _⟩, _⟩ := I.loc
  rw [z, ho'] at ho; cases ho; rw [hd'] at hd; cases hd
theorem Inv.funs (I : Inv X pins σ H s) : s.heap.FunFrames X.base X.outer := by
  have all : ∀ (l : List Env), (∀ b ∈ frs l, b ∈ X.fs) → X.s₀.heap.FunFrames X.base l → s.heap.FunFrames X.base l := by
    intro l
    induction l with
    | nil => intro _ _; trivial
    | cons env r ih =>
      intro hs hl
      obtain ⟨hk, ⟨L, o, hf, hn, ho, hd⟩, hr⟩ := hl
      have hL : L ∈ X.fs := hs L (by unfold frs; rw [List.filterMap_cons, hf]; exact List.mem_cons_self)
      obtain ⟨sl, e⟩ := I.base.slot L o ho (I.ok.frf L hL) hL fun z => I.ok.exfs L z hL
      exact ⟨hk, ⟨L, _, hf, hn, e, hd⟩, ih (fun b hb => hs b (by unfold frs; rw [List.filterMap_cons, hf]; exact List.mem_cons_of_mem _ hb)) hr⟩
  exact all X.outer (fun _ hb => hb) I.ok.funs
theorem Inv.stack (I : Inv X pins σ H s) : s.heap.FunFrames X.base X.stack := by
  rcases I.ok.stk with e | ⟨e, hf⟩
  · rw [e]; exact I.funs
  · rw [e]
    obtain ⟨m, hn, _⟩ := I.loc
    refine .cons (by rw [I.ok.kind]; decide) hf hn ?_ I.funs
    exact Heap.get?_none_of_le (Nat.le_trans I.ok.bsz I.ok.above)
theorem Inv.stkSub (I : Inv X pins σ H s) : ∀ b ∈ frs X.stack, b ∈ X.env.locals :: X.fs := fun b hb => by
  rcases I.ok.stk with e | ⟨e, hf⟩
  · rw [e] at hb; exact List.mem_cons_of_mem _ hb
  · rw [e] at hb
    unfold frs at hb
    rw [List.filterMap_cons, hf] at hb
    exact hb
theorem Inv.stkFree (I : Inv X pins σ H s) : ∀ b ∈ frs X.stack, H b = none := fun b hb => by
  rcases List.mem_cons.mp (I.stkSub b hb) with e | hb
  · rw [e]; exact I.free
  · obtain ⟨_, o, ho, _⟩ := I.ok.funs.mem hb
    exact I.base.free b o ho (I.ok.frf b hb) fun z => I.ok.exfs b z hb
theorem Inv.step {g' : Array GenState} {t' : Nat} {d' : Drawn} {ch : List Addr} (I : Inv X pins σ H s)
    (hch : ∀ b ∈ ch, (b ∈ X.ex ∨ X.s₀.heap.objs.size ≤ b) ∧ b ≠ X.env.locals ∧ (∀ x c, X.env.cells.lookup x = some c → c ≠ b) ∧ ∀ p ∈ X.pn ++ pins, p.1 ≠ b)
    (keep : ∀ b o, b ≠ X.env.locals → b ∉ X.fs → b ∉ ch → s.heap.get? b = some o → H b = none → h'.get? b = some o)
    (slot : ∀ b o, b ≠ X.env.locals → b ∈ X.fs → b ∉ ch → s.heap.get? b = some o → H b = none → ∃ sl, h'.get? b = some { o with slots := sl }) (free : ∀ b o, b ∉ ch → s.heap.get? b = some o → H b = none → H' b = none)
    (there : ∀ b o, b ∉ ch → s.heap.get? b = some o → ∃ o', h'.get? b = some o')
    (tups : ∀ b xs, H b = some (.tup xs) → H' b = some (.tup xs)) (frzs : ∀ b o u, H b = some (.frz o u) → H' b = some (.frz o u)) (tbls : ∀ b ps, H b = some (.tbl ps) → ∃ more, H' b = some (.tbl (ps ++ more)))
    (ns : ∀ m, s.heap.Ns X.env.locals m → h'.Ns X.env.locals m) (hok : HOk X.prog X.w H' h') (hg : AllBare g') :
    Inv X pins σ H' { s with heap := h', gens := g', drawn := d', toks := t' } := by
  have neL : ∀ b o, X.s₀.heap.get? b = some o → b ≠ X.env.locals := fun b o e => Nat.ne_of_lt (Nat.lt_of_lt_of_le (Heap.lt_size e) I.ok.above)
  have neC : ∀ b o, X.s₀.heap.get? b = some o → b ∉ X.ex → b ∉ ch := fun b o e hx hb => by
    rcases (hch b hb).1 with z | z
    · exact hx z
    · exact absurd (Nat.lt_of_lt_of_le (Heap.lt_size e) z) (Nat.lt_irrefl _)
  have cellK : ∀ x c, X.env.cells.lookup x = some c → ∀ v, s.heap.IsCell c v → h'.IsCell c v := fun x c e v ⟨o, ho, hd⟩ => by
    have nch : c ∉ ch := fun z => (hch c z).2.2.1 x c e rfl
    by_cases hc : c ∈ X.fs
    · obtain ⟨sl, q⟩ := slot c o (I.cne x c e) hc nch ho (I.freeC x c e)
      exact ⟨_, q, hd⟩
    · exact ⟨o, keep c o (I.cne x c e) hc nch ho (I.freeC x c e), hd⟩
  refine ⟨I.ok, I.os, hg, ⟨fun b o e n hb hx => ?_, fun b o e n hb hx => ?_, fun b o e n hx => ?_, fun b o e hx => ?_, fun b xs e => tups b xs (I.base.tups b xs e), fun b o xs e => frzs b o xs (I.base.frzs b o xs e), fun b ps e => ?_⟩, ?_, fun x c e => ?_, ?_, fun x c e => ?_, fun p hp => ?_, hok, I.len⟩
  · exact keep b o (neL b o e) hb (neC b o e hx) (I.base.keep b o e n hb hx) (I.base.free b o e n hx)
  · obtain ⟨sl, e1⟩ := I.base.slot b o e n hb hx
    obtain ⟨sl', e2⟩ := slot b _ (neL b o e) hb (neC b o e hx) e1 (I.base.free b o e n hx)
    exact ⟨sl', e2⟩
  · obtain ⟨o', e1⟩ := I.base.there b o e hx
    exact free b o' (neC b o e hx) e1 (I.base.free b o e n hx)
  · obtain ⟨o', e1⟩ := I.base.there b o e hx
    exact there b o' (neC b o e hx) e1
  · obtain ⟨m1, e1⟩ := I.base.tbls b ps e
    obtain ⟨m2, e2⟩ := tbls b _ e1
    exact ⟨m1 ++ m2, by rw [e2, Array.append_assoc]⟩
  · obtain ⟨m, hn, hl⟩ := I.loc
    refine ⟨m, ns m hn, fun i x v e1 e2 e3 => ?_⟩
    obtain ⟨u, r, l⟩ := hl i x v e1 e2 e3
    refine ⟨u, r, ?_⟩
    rcases l with l | ⟨k, c, e, z⟩
    · exact .inl l
    · exact .inr ⟨k, c, e, cellK x c e _ z⟩
  · obtain ⟨v, z⟩ := I.cell x c e
    exact ⟨v, cellK x c e v z⟩
  · obtain ⟨m, ⟨o, _, _, ho, _⟩, _⟩ := I.loc
    exact free _ o (fun z => (hch _ z).2.1 rfl) ho I.free
  · obtain ⟨v, o, ho, hd⟩ := I.cell x c e
    exact free c o (fun z => (hch c z).2.2.1 x c e rfl) ho (I.freeC x c e)
  · obtain ⟨e, n, ne, nf, d⟩ := I.pin p hp
    have nch : p.1 ∉ ch := fun z => (hch p.1 z).2.2.2 p hp rfl
    exact ⟨keep p.1 p.2 ne nf nch e n, free p.1 p.2 nch e n, ne, nf, d⟩
theorem Inv.un {t' : Nat} (I : Inv X pins σ H s) (u : Un X.fs [] H H' s.heap h') (hok : HOk X.prog X.w H' h') : Inv X pins σ H' { s with heap := h', toks := t' } := by
  obtain ⟨m, ⟨o, es, ep, ho, r⟩, _⟩ := id I.loc
  obtain ⟨sl, hL⟩ := u.any ho I.free (by simp)
  exact I.step (g' := s.gens) (d' := s.drawn) (ch := []) (fun _ z => nomatch z) (fun b o _ hb _ e n => u.keep b o e n hb (by simp)) (fun b o _ hb _ e n => u.slot b o e n hb (by simp)) (fun b o _ e n => u.free b o e n (by simp)) (fun b o _ e => u.there b o e (by simp)) u.tups u.frzs u.tbls (fun m' hm => by
    obtain ⟨o', es', ep', ho', r'⟩ := hm
    rw [ho] at ho'; cases ho'
    exact ⟨_, es', ep', hL, r'⟩) hok I.bare
theorem Inv.call {g' : Array GenState} {t' : Nat} {d' : Drawn} {ch : List Addr} (I : Inv X pins σ H s) (u : Un (frs X.stack) ch H H' s.heap h') (hok : HOk X.prog X.w H' h') (hg : AllBare g')
    (hch : ∀ b ∈ ch, (b ∈ X.ex ∨ X.s₀.heap.objs.size ≤ b) ∧ b ≠ X.env.locals ∧ (∀ x c, X.env.cells.lookup x = some c → c ≠ b) ∧ ∀ p ∈ X.pn ++ pins, p.1 ≠ b) :
    Inv X pins σ H' { s with heap := h', gens := g', drawn := d', toks := t' } := by
  obtain ⟨m, ⟨o, es, ep, ho, r⟩, _⟩ := id I.loc
  obtain ⟨sl, hL⟩ := u.any ho I.free fun z => (hch _ z).2.1 rfl
  exact I.step (ch := ch) hch (fun b o hL hb hc e n => u.keep b o e n (fun z => (List.mem_cons.mp (I.stkSub b z)).elim hL hb) hc) (fun b o _ _ hc e n => u.any e n hc) (fun b o hc e n => u.free b o e n hc) (fun b o hc e => u.there b o e hc) u.tups u.frzs u.tbls (fun m' hm => by
    obtain ⟨o', es', ep', ho', r'⟩ := hm
    rw [ho] at ho'; cases ho'
    exact ⟨_, es', ep', hL, r'⟩) hok hg
theorem Inv.turned {t' : Nat} {it : Addr} (I : Inv X pins σ H s) (k : ∀ b o, b ≠ it → s.heap.get? b = some o → h'.get? b = some o) (hn : H it = none) (hL : it ≠ X.env.locals)
    (h1 : it ∈ X.ex ∨ X.s₀.heap.objs.size ≤ it) (h2 : ∀ x c, X.env.cells.lookup x = some c → c ≠ it) (h3 : ∀ p ∈ X.pn ++ pins, p.1 ≠ it) : Inv X pins σ H { s with heap := h', toks := t' } := by
  have nit : ∀ b u, H b = some u → b ≠ it := fun b u e z => by rw [z, hn] at e; cases e
  refine I.step (g' := s.gens) (d' := s.drawn) (ch := [it]) (fun b hb => ?_) (fun b o _ _ hc e _ => k b o (fun z => hc (by simp [z])) e) (fun b o _ _ hc e _ => ⟨o.slots, k b o (fun z => hc (by simp [z])) e⟩) (fun _ _ _ _ n => n)
    (fun b o hc e => ⟨o, k b o (fun z => hc (by simp [z])) e⟩) (fun _ _ e => e) (fun _ _ _ e => e) (fun b ps e => ⟨#[], by rw [e]; simp⟩) (fun m hm => ?_) (fun b u e => ?_) I.bare
  · have e : b = it := by simpa using hb
    subst e
    exact ⟨h1, hL, h2, h3⟩
  · obtain ⟨o, es, ep, ho, r⟩ := hm
    exact ⟨o, es, ep, k _ o (Ne.symm hL) ho, r⟩
  · refine (I.hok b u e).stay (fun c v hc q => k c v ?_ q) (fun _ q => q) fun _ _ q => q
    rcases hc with z | z
    · rw [z]; exact nit b u e
    · exact nit c _ z
theorem Inv.tok (I : Inv X pins σ H s) (t : Nat) : Inv X pins σ H { s with toks := t } := I.un (h' := s.heap) (t' := t) Un.refl I.hok
theorem Inv.kept {t' : Nat} (I : Inv X pins σ H s) (k : ∀ b u, s.heap.get? b = some u → h'.get? b = some u) : Inv X pins σ H { s with heap := h', toks := t' } := I.un (Un.kept k) (I.hok.kept k)
theorem Inv.laid {a : Addr} {o : HO} {t' : Nat} (I : Inv X pins σ H s) (k : ∀ b u, s.heap.get? b = some u → h'.get? b = some u) (hp : s.heap.objs.size ≤ a) (new : ObjOk X.prog X.w (upd H a o) h' a o) :
    Inv X pins σ (upd H a o) { s with heap := h', toks := t' } := I.un (Un.laid k hp (I.hok.fresh hp)) (I.hok.laid k hp new)
theorem Inv.write {x e : Addr} {o : HO} {t' : Nat} (I : Inv X pins σ H s) (mu : Mut (H x)) (he : e = x ∨ H e = some (.own x)) (k : ∀ b u, b ≠ e → s.heap.get? b = some u → h'.get? b = some u) (heo : ∃ u, h'.get? e = some u)
    (new : ObjOk X.prog X.w (upd H x o) h' x o) : Inv X pins σ (upd H x o) { s with heap := h', toks := t' } := I.un (Un.write mu he k heo) (I.hok.write mu he k heo new)
theorem Inv.pins_of {pins' : List (Addr × Obj)} (I : Inv X pins σ H s) (h : ∀ p ∈ pins', s.heap.get? p.1 = some p.2 ∧ H p.1 = none ∧ p.1 ≠ X.env.locals ∧ p.1 ∉ X.fs ∧ ∀ v, p.2.data ≠ .cell v) : Inv X pins' σ H s :=
  ⟨I.ok, I.os, I.bare, I.base, I.loc, I.cell, I.free, I.freeC, fun p hp => (List.mem_append.mp hp).elim (fun z => I.pin p (List.mem_append_left _ z)) (h p), I.hok, I.len⟩
theorem nodup_ix {N : List Str} (hN : N.Nodup) {i j : Nat} {x : Str} (a : N[i]? = some x) (b : N[j]? = some x) : i = j := by
  obtain ⟨h1, e1⟩ := List.getElem?_eq_some_iff.mp a
  obtain ⟨h2, e2⟩ := List.getElem?_eq_some_iff.mp b
  exact (List.getElem_inj hN).mp (e1.trans e2.symm)
theorem store_ok2 {M : Model} {A : Around} {E : Value → Shared → Prop} {i : Nat} {x : Str} {v : V} {u : Value} {Q : Unit → Shared → Prop} (I : Inv X pins σ H s) (hN : X.N.Nodup) (hi : X.N[i]? = some x) (hx : Loc X.env.scope x) (r : RelV v u)
    (h : ∀ s', Inv X pins (σ.set i (some v)) H s' → (∃ a, Heap.SameBut a s.heap s'.heap ∧ (a = X.env.locals ∨ X.env.cells.lookup x = some a)) → Q () s') (hf : X.fn x = true ∨ X.env.scope.names.lookup x = some .local := by first | exact .inl rfl | exact .inr rfl | assumption) : wpAny M A (storeName X.env x u) Q E s := by
  obtain ⟨m, hn, hl⟩ := id I.loc
  have hcls : (X.env.scope.kind == .class || (X.env.scope.kind == .module && X.env.locals != X.env.globals)) = false := by rw [I.ok.kind]; rfl
  have hiσ : i < σ.length := by rw [I.len]; exact (List.getElem?_eq_some_iff.mp hi).1
  have cne := I.cne
  have tracked : ∀ {a : Addr} {h' : Heap}, (∃ o, s.heap.get? a = some o ∧ H a = none) → Heap.SameBut a s.heap h' → HOk X.prog X.w H h' := fun {a h'} ha hs b ob e => by
    obtain ⟨_, _, hfree⟩ := ha
    refine (I.hok b ob e).stay (fun c w' hc q => (hs.2 c ?_).trans q) (fun _ q => q) fun _ _ q => q
    rintro rfl
    rcases hc with rfl | hc
    · rw [hfree] at e; cases e
    · rw [hfree] at hc; cases hc
  rcases hx with hk | hk
  · refine wpAny_storeName_local hk hn (fun h' hn' hs => ?_) hcls
    obtain ⟨oL, _, _, hoL, _⟩ := id hn
    refine h _ ⟨I.ok, I.os, I.bare, ⟨fun b o e n hb hx => ?_, fun b o e n hb hx => ?_, I.base.free, fun b o e hx => ?_, I.base.tups, I.base.frzs, I.base.tbls⟩, ⟨_, hn', fun j y v' e1 e2 e3 => ?_⟩, fun y c e => ?_, I.free, I.freeC, fun p hp => ?_, tracked ⟨oL, hoL, I.free⟩ hs, by simpa using I.len⟩ ⟨_, hs, .inl rfl⟩
    · exact (hs.2 b (Nat.ne_of_lt (Nat.lt_of_lt_of_le (Heap.lt_size e) I.ok.above))).trans (I.base.keep b o e n hb hx)
    · obtain ⟨sl, e1⟩ := I.base.slot b o e n hb hx
      exact ⟨sl, (hs.2 b (Nat.ne_of_lt (Nat.lt_of_lt_of_le (Heap.lt_size e) I.ok.above))).trans e1⟩
    · obtain ⟨o', e1⟩ := I.base.there b o e hx
      exact ⟨o', (hs.2 b (Nat.ne_of_lt (Nat.lt_of_lt_of_le (Heap.lt_size e) I.ok.above))).trans e1⟩
    · by_cases hj : j = i
      · subst hj
        rw [hi] at e1; cases e1
        rw [List.getElem?_set_self hiσ] at e2
        cases e2
        exact ⟨u, r, .inl ⟨hk, by simp⟩⟩
      · rw [List.getElem?_set_ne (Ne.symm hj)] at e2
        obtain ⟨u', r', q⟩ := hl j y v' e1 e2 e3
        refine ⟨u', r', ?_⟩
        rcases q with ⟨k, e⟩ | ⟨k, c, e, z⟩
        · refine .inl ⟨k, ?_⟩
          have : y ≠ x := fun e => hj (nodup_ix hN e1 (e ▸ hi))
          simp [this, e]
        · exact .inr ⟨k, c, e, z.sameBut hs (cne y c e)⟩
    · obtain ⟨w', z⟩ := I.cell y c e
      exact ⟨w', z.sameBut hs (cne y c e)⟩
    · obtain ⟨e, n, ne, nf, d⟩ := I.pin p hp
      exact ⟨(hs.2 p.1 ne).trans e, n, ne, nf, d⟩
  · have hfn : X.fn x = true := by
      rcases hf with z | z
      · exact z
      · rw [z] at hk; cases hk
    obtain ⟨c, hc⟩ := I.ok.has x (.inl hk)
    obtain ⟨w', z⟩ := I.cell x c hc
    refine wpAny_storeName_cell I.ok.kind hk hc z (fun h' hc' hs => ?_)
    obtain ⟨oc, hoc, hocd⟩ := id z
    refine h { s with heap := h' } ⟨I.ok, I.os, I.bare, ⟨fun b o e n hb hx => ?_, fun b o e n hb hx => ?_, I.base.free, fun b o e hx => ?_, I.base.tups, I.base.frzs, I.base.tbls⟩, ⟨m, hn.sameBut hs (Ne.symm (cne x c hc)), fun j y v' e1 e2 e3 => ?_⟩, fun y c' e => ?_, I.free, I.freeC, fun p hp => ?_, tracked ⟨oc, hoc, I.freeC x c hc⟩ hs, by simpa using I.len⟩ ⟨c, hs, .inr hc⟩
    · exact (hs.2 b (Nat.ne_of_lt (Nat.lt_of_lt_of_le (Heap.lt_size e) (I.ok.cab x c hfn hc)))).trans (I.base.keep b o e n hb hx)
    · obtain ⟨sl, e1⟩ := I.base.slot b o e n hb hx
      exact ⟨sl, (hs.2 b (Nat.ne_of_lt (Nat.lt_of_lt_of_le (Heap.lt_size e) (I.ok.cab x c hfn hc)))).trans e1⟩
    · obtain ⟨o', e1⟩ := I.base.there b o e hx
      exact ⟨o', (hs.2 b (Nat.ne_of_lt (Nat.lt_of_lt_of_le (Heap.lt_size e) (I.ok.cab x c hfn hc)))).trans e1⟩
    · by_cases hj : j = i
      · subst hj
        rw [hi] at e1; cases e1
        rw [List.getElem?_set_self hiσ] at e2
        cases e2
        exact ⟨u, r, .inr ⟨.inl hk, c, hc, hc'⟩⟩
      · rw [List.getElem?_set_ne (Ne.symm hj)] at e2
        obtain ⟨u', r', q⟩ := hl j y v' e1 e2 e3
        refine ⟨u', r', ?_⟩
        rcases q with q | ⟨k, c', e, z'⟩
        · exact .inl q
        · refine .inr ⟨k, c', e, z'.sameBut hs ?_⟩
          rintro rfl
          exact hj (nodup_ix hN e1 (I.ok.inj _ _ _ e hc ▸ hi))
    · by_cases hcc : c' = c
      · subst hcc; exact ⟨_, hc'⟩
      · obtain ⟨w2, z2⟩ := I.cell y c' e
        exact ⟨w2, z2.sameBut hs hcc⟩
    · obtain ⟨e, n, ne, nf, d⟩ := I.pin p hp
      refine ⟨(hs.2 p.1 ?_).trans e, n, ne, nf, d⟩
      intro q
      rw [q, hoc] at e
      have q' : oc = p.2 := Option.some.inj e
      exact d w' (by rw [← q']; exact hocd)
theorem store_ok {M : Model} {A : Around} {E : Value → Shared → Prop} {i : Nat} {x : Str} {v : V} {u : Value} {Q : Unit → Shared → Prop} (I : Inv X pins σ H s) (hN : X.N.Nodup) (hi : X.N[i]? = some x) (hx : Loc X.env.scope x) (r : RelV v u)
    (h : ∀ s', Inv X pins (σ.set i (some v)) H s' → Q () s') (hf : X.fn x = true ∨ X.env.scope.names.lookup x = some .local := by first | exact .inl rfl | exact .inr rfl | assumption) : wpAny M A (storeName X.env x u) Q E s :=
  store_ok2 I hN hi hx r (fun s' I' _ => h s' I') hf
theorem Inv.call' {s' : Shared} {ch : List Addr} (I : Inv X pins σ H s) (ho : s'.os = s.os) (u : Un (frs X.stack) ch H H' s.heap s'.heap) (hok : HOk X.prog X.w H' s'.heap) (hg : AllBare s'.gens)
    (hch : ∀ b ∈ ch, (b ∈ X.ex ∨ X.s₀.heap.objs.size ≤ b) ∧ b ≠ X.env.locals ∧ (∀ x c, X.env.cells.lookup x = some c → c ≠ b) ∧ ∀ p ∈ X.pn ++ pins, p.1 ≠ b) : Inv X pins σ H' s' := by
  obtain ⟨h', g', d', t', o'⟩ := s'
  have e : o' = s.os := ho
  subst e
  exact I.call (g' := g') (t' := t') (d' := d') u hok hg hch
end
abbrev XK := Value → Option Addr → Hp → Prop
abbrev St := List (Option V)
abbrev VK := V → Hp → Prop
abbrev TE := St → Hp → VK → Prop
abbrev TT := St → Hp → (Bool → Hp → Prop) → Prop
abbrev TA := St → Hp → (List V → Hp → Prop) → Prop
structure Ends where
  nx : St → Hp → Prop
  rt : VK
  bk : St → Hp → Prop := fun _ _ => False
  ct : St → Hp → Prop := fun _ _ => False
abbrev TS := Ends → St → Hp → Prop
def EP (X : Cx) (pins : List (Addr × Obj)) (σ : St) (Q : VK) (u : Value) (s' : Shared) : Prop := ∃ v H', Inv X pins σ H' s' ∧ RelV v u ∧ Q v H'
def TP (X : Cx) (pins : List (Addr × Obj)) (σ : St) (Q : Bool → Hp → Prop) (b : Bool) (s' : Shared) : Prop := ∃ H', Inv X pins σ H' s' ∧ Q b H'
def AP (X : Cx) (pins : List (Addr × Obj)) (σ : St) (Q : List V → Hp → Prop) (us : List Value) (s' : Shared) : Prop := ∃ vs H', Inv X pins σ H' s' ∧ Vals vs us ∧ Q vs H'
def SP (X : Cx) (pins : List (Addr × Obj)) (D : Ends) (f : Flow) (s' : Shared) : Prop :=
  match f with
  | .next => ∃ σ' H', Inv X pins σ' H' s' ∧ D.nx σ' H'
  | .brk => ∃ σ' H', Inv X pins σ' H' s' ∧ D.bk σ' H'
  | .cont => ∃ σ' H', Inv X pins σ' H' s' ∧ D.ct σ' H'
  | .ret u => ∃ v σ' H', Inv X pins σ' H' s' ∧ RelV v u ∧ D.rt v H'
def PE (X : Cx) (e : Expr) (t : TE) : Prop :=
  ∀ (pins : List (Addr × Obj)) (s : Shared) (σ : St) (H : Hp) (Q : VK), Inv X pins σ H s → t σ H Q → wpAny (model X.prog X.w) X.A (eval e X.env) (EP X pins σ Q) X.xe s
def PT (X : Cx) (e : Expr) (t : TT) : Prop :=
  ∀ (pins : List (Addr × Obj)) (s : Shared) (σ : St) (H : Hp) (Q : Bool → Hp → Prop), Inv X pins σ H s → t σ H Q → wpAny (model X.prog X.w) X.A (isTrue e X.env (eval e X.env)) (TP X pins σ Q) X.xe s
def PW (X : Cx) (e : Expr) (t : TT) : Prop :=
  ∀ (whole : Sem Value) (pins : List (Addr × Obj)) (s : Shared) (σ : St) (H : Hp) (Q : Bool → Hp → Prop), Inv X pins σ H s → t σ H Q → wpAny (model X.prog X.w) X.A (isTrue e X.env whole) (TP X pins σ Q) X.xe s
theorem PW.pt {X : Cx} {e : Expr} {t : TT} (h : PW X e t) : PT X e t := h _
def PA (X : Cx) (es : List Expr) (t : TA) : Prop :=
  ∀ (pos : Pos) (pins : List (Addr × Obj)) (s : Shared) (σ : St) (H : Hp) (Q : List V → Hp → Prop), Inv X pins σ H s → t σ H Q → wpAny (model X.prog X.w) X.A (spliced (backTo pos (starEach es X.env))) (AP X pins σ Q) X.xe s
def PS (X : Cx) (st : Stmt) (t : TS) : Prop :=
  ∀ (pins : List (Addr × Obj)) (s : Shared) (σ : St) (H : Hp) (D : Ends), Inv X pins σ H s → t D σ H → wpAny (model X.prog X.w) X.A (exec st X.env) (SP X pins D) X.xe s
def PSs (X : Cx) (st : List Stmt) (t : TS) : Prop :=
  ∀ (pins : List (Addr × Obj)) (s : Shared) (σ : St) (H : Hp) (D : Ends), Inv X pins σ H s → t D σ H → wpAny (model X.prog X.w) X.A (execs st X.env) (SP X pins D) X.xe s
theorem thn {α : Type} {t : Sem α} {Q Q' : α → Shared → Prop} {M : Model} {A : Around} {E : Value → Shared → Prop} {s : Shared} (h : wpAny M A t Q E s) (hQ : ∀ a s, Q a s → Q' a s) : wpAny M A t Q' E s := wpAny_mono h hQ fun _ _ x => x
end L2
namespace L2
open PySem PySem.Spec PyProof.Rows
section
variable {X : Cx}
def tVar (i : Nat) : TE := fun σ H Q => ∃ v, σ[i]? = some (some v) ∧ Q v H
def tC (v : V) : TE := fun _ H Q => Q v H
theorem pe_var {i : Nat} {x : Str} {pos : Pos} (hN : X.N[i]? = some x) (hv : Vis X.env.scope x) (hd : (x == ("__debug__" : Str)) = false := by decide) (hcd : (x == ("__classdict__" : Str)) = false := by decide) : PE X (.Name x pos) (tVar i) := by
  intro pins s σ H Q I h
  obtain ⟨v, e, h⟩ := h
  obtain ⟨m, hn, hl⟩ := I.loc
  obtain ⟨u, r, l⟩ := hl i x v hN e hv
  have fin : EP X pins σ Q u s := ⟨v, H, I, r, h⟩
  rcases l with ⟨hk, hm⟩ | ⟨hk, c, hc, hcell⟩
  · exact wpAny_Name (wpAny_loadName_local I.ok.kind hk hn hm fin) hd
  · rcases hk with hk | hk
    · exact wpAny_Name (wpAny_loadName_cell I.ok.kind hk hc hcell fin) hd
    · exact wpAny_Name (wpAny_loadName_free I.ok.kind hk hc hcell fin hcd) hd
theorem pe_int {i j pos} : PE X (.Constant (.int i) j pos) (tC (.int i)) := fun _ _ _ H _ I h => wpAny_Constant_int ⟨.int i, H, I.tok _, ⟨_, rfl⟩, h⟩
theorem pe_bl {b j pos} : PE X (.Constant (.bool b) j pos) (tC (.bl b)) := fun _ _ _ H _ I h => Constant_bool ⟨.bl b, H, I, rfl, h⟩
theorem pe_str {x j pos} : PE X (.Constant (.str x) j pos) (tC (.str x)) := fun _ _ _ H _ I h => Calls.Constant_str ⟨.str x, H, I.tok _, ⟨_, rfl⟩, h⟩
def Gl (X : Cx) (x : Str) : Prop := X.env.kindOf x = some .globalImplicit
theorem ld_glob {E : Value → Shared → Prop} {pins : List (Addr × Obj)} {s : Shared} {σ : St} {H : Hp} {x : Str} {u : Value} {pos : Pos} {Q : Value → Shared → Prop} (I : Inv X pins σ H s) (hg : Gl X x) (hm : X.mg x = some u) (h : Q u s)
    (hd : (x == ("__debug__" : Str)) = false := by decide) : wpAny (model X.prog X.w) X.A (eval (.Name x pos) X.env) Q E s :=
  Calls.Name_function_global I.ok.kind hg (Calls.loadGlobal_global (by rw [I.ok.glob]; exact I.mod.glob.keeps I.bk) hm h) hd
theorem ld_blt {E : Value → Shared → Prop} {pins : List (Addr × Obj)} {s : Shared} {σ : St} {H : Hp} {x : Str} {u : Value} {pos : Pos} {Q : Value → Shared → Prop} (I : Inv X pins σ H s) (hg : Gl X x) (hm : X.mg x = none) (hv : bootBuiltins x = some u) (h : Q u s)
    (hn : x ≠ "__name__" := by decide) (hd : (x == ("__debug__" : Str)) = false := by decide) : wpAny (model X.prog X.w) X.A (eval (.Name x pos) X.env) Q E s := by
  obtain ⟨mb, h1, h2⟩ := I.mod.blt
  exact Calls.Name_function_global I.ok.kind hg (Calls.loadGlobal_builtin (by rw [I.ok.glob]; exact I.mod.glob.keeps I.bk) hm (by rw [I.ok.blt]; exact h1.keeps I.bk) ((h2 x hn).trans hv) h) hd
theorem pe_glob {x : Str} {v : V} {u : Value} {pos : Pos} (hg : Gl X x) (hm : X.mg x = some u) (r : RelV v u) (hd : (x == ("__debug__" : Str)) = false := by decide) : PE X (.Name x pos) (tC v) :=
  fun _ _ _ H _ I h => ld_glob I hg hm ⟨v, H, I, r, h⟩ hd
theorem pe_bltn {x : Str} {v : V} {u : Value} {pos : Pos} (hg : Gl X x) (hm : X.mg x = none) (hv : bootBuiltins x = some u) (r : RelV v u) (hn : x ≠ "__name__" := by decide) (hd : (x == ("__debug__" : Str)) = false := by decide) : PE X (.Name x pos) (tC v) :=
  fun _ _ _ H _ I h => ld_blt I hg hm hv ⟨v, H, I, r, h⟩ hn hd
variable {a b : Expr} {ta tb : TE} {pos : Pos}
def PC (X : Cx) (op : CmpOp) (a b : Expr) (t : TE) : Prop :=
  ∀ (pins : List (Addr × Obj)) (s : Shared) (σ : St) (H : Hp) (Q : VK), Inv X pins σ H s → t σ H Q →
    wpAny (model X.prog X.w) X.A (eval a X.env) (fun v s₁ => wpAny (model X.prog X.w) X.A (eval b X.env) (fun u s₂ => wpAny (model X.prog X.w) X.A (compareOp op v u) (EP X pins σ Q) X.xe s₂) X.xe s₁) X.xe s
def tB (t : TE) : TT := fun σ H Q => t σ H fun x H1 => ∃ c, x = .bl c ∧ Q c H1
theorem pt_cmp {op : CmpOp} {t : TE} (h : PC X op a b t) (h1 : behindInMarks op b = false := by first | exact nobehind _ (by decide) (by decide) | rfl) : PT X (.Compare a [op] [b] pos) (tB t) := by
  intro pins s σ H Q I hw
  refine wpAny_isTrue_Compare1 (thn (h pins s σ H _ I hw) fun v s1 h1 => thn h1 fun u s2 h2 => thn h2 fun c s3 ⟨x, H1, I1, r1, q1⟩ => ?_) h1
  obtain ⟨d, rfl, q⟩ := q1
  cases r1
  exact wpAny_truthy_bool ⟨H1, I1, q⟩
theorem pt_val {e : Expr} {t : TE} (h : PE X e t) (he : ∀ whole, isTrue e X.env whole = (do let v ← whole; standAt e.pos; holding [v] (truthy v)) := by intro _; rfl) : PT X e (tB t) := by
  intro pins s σ H Q I hw
  refine isTrue_plain (thn (h pins s σ H _ I hw) fun v s1 ⟨x, H1, I1, r1, q1⟩ => ?_) (he _)
  obtain ⟨d, rfl, q⟩ := q1
  cases r1
  exact wpAny_truthy_bool ⟨H1, I1, q⟩
variable {tA tB' : TT} {rest : List Expr}
def tAnd (t u : TT) : TT := fun σ H Q => t σ H fun c H1 => if c = true then u σ H1 Q else Q false H1
def tOr (t u : TT) : TT := fun σ H Q => t σ H fun c H1 => if c = true then Q true H1 else u σ H1 Q
def tNot (t : TT) : TT := fun σ H Q => t σ H fun c H1 => Q (!c) H1
theorem pw_and1 (ha : PT X a tA) : PW X (.BoolOp .And [a] pos) tA := by
  intro wh pins s σ H Q I h
  refine isTrue_and (thn (ha pins s σ H Q I h) fun c s1 e => ?_)
  cases c with
  | true => exact isTrue_and_nil e
  | false => exact e
theorem pw_or1 (ha : PT X a tA) : PW X (.BoolOp .Or [a] pos) tA := by
  intro wh pins s σ H Q I h
  refine isTrue_or (thn (ha pins s σ H Q I h) fun c s1 e => ?_)
  cases c with
  | false => exact isTrue_or_nil e
  | true => exact e
theorem pw_and (ha : PT X a tA) (hb : PW X (.BoolOp .And (b :: rest) pos) tB') : PW X (.BoolOp .And (a :: b :: rest) pos) (tAnd tA tB') := by
  intro wh pins s σ H Q I h
  refine isTrue_and (thn (ha pins s σ H _ I h) fun c s1 ⟨H1, I1, q1⟩ => ?_)
  cases c with
  | true => exact hb wh pins s1 σ H1 Q I1 q1
  | false => exact ⟨H1, I1, q1⟩
theorem pw_or (ha : PT X a tA) (hb : PW X (.BoolOp .Or (b :: rest) pos) tB') : PW X (.BoolOp .Or (a :: b :: rest) pos) (tOr tA tB') := by
  intro wh pins s σ H Q I h
  refine isTrue_or (thn (ha pins s σ H _ I h) fun c s1 ⟨H1, I1, q1⟩ => ?_)
  cases c with
  | true => exact ⟨H1, I1, q1⟩
  | false => exact hb wh pins s1 σ H1 Q I1 q1
theorem pt_not (ha : PT X a tA) : PT X (.UnaryOp .Not a pos) (tNot tA) := by
  intro pins s σ H Q I h
  exact isTrue_not (ha pins s σ H (fun c H1 => Q (!c) H1) I h)
def tAndV (ta tb : TE) : TE := fun σ H Q => ta σ H fun x H1 => ∃ c, x = .bl c ∧ if c = true then tb σ H1 Q else Q (.bl false) H1
def tNotV (ta : TE) : TE := fun σ H Q => ta σ H fun x H1 => ∃ c, x = .bl c ∧ Q (.bl (!c)) H1
theorem pe_one {op} {t : TE} (h : PE X a t) : PE X (.BoolOp op [a] pos) t := fun pins s σ H Q I hw => BoolOp_one (h pins s σ H Q I hw)
theorem pe_and (ha : PE X a ta) (hb : PE X (.BoolOp .And (b :: rest) pos) tb) : PE X (.BoolOp .And (a :: b :: rest) pos) (tAndV ta tb) := by
  intro pins s σ H Q I h
  refine BoolOp_and (thn (ha pins s σ H _ I h) fun v s1 ⟨x, H1, I1, r1, q1⟩ => ?_)
  obtain ⟨c, rfl, q1⟩ := q1
  cases r1
  refine wpAny_truthy_bool ?_
  cases c with
  | true => exact hb pins s1 σ H1 Q I1 q1
  | false => exact ⟨.bl false, H1, I1, rfl, q1⟩
theorem pe_not (ha : PE X a ta) : PE X (.UnaryOp .Not a pos) (tNotV ta) := by
  intro pins s σ H Q I h
  refine UnaryOp_ (thn (ha pins s σ H _ I h) fun v s1 ⟨x, H1, I1, r1, q1⟩ => ?_)
  obtain ⟨c, rfl, q1⟩ := q1
  cases r1
  exact not_of (wpAny_truthy_bool ⟨.bl (!c), H1, I1, rfl, q1⟩)
end
end L2
namespace L2
open PySem PySem.Spec PyProof.Rows
def SqL (K : PySem.W.Frag) (H : Hp) (a : Addr) (xs : List V) : Prop :=
  Rd H a (.lst xs) ∨
    ∃ (o : Obj) (its : Array Value) (n : Nat), K.lookup a = some o ∧ o.cls = .type "list" ∧ o.dict = none ∧ o.data = .seq its n ∧ its.size ≤ sizeLine ∧ Vals xs its.toList
def SqT (K : PySem.W.Frag) (H : Hp) (a : Addr) (xs : List V) : Prop :=
  Rd H a (.tup xs) ∨
    ∃ (o : Obj) (its : Array Value) (n : Nat), K.lookup a = some o ∧ o.cls = .type "tuple" ∧ o.data = .seq its n ∧ its.size ≤ sizeLine ∧ Vals xs its.toList
def absV : Value → Option V
  | .none => some .non
  | .bool b => some (.bl b)
  | .int i _ => some (.int i)
  | .str x _ => some (.str x)
  | .bytes b _ => some (.byt b)
  | .float b _ => some (.flt b)
  | .ref a => some (.ref a)
  | .type n => some (.ty n)
  | _ => none
theorem RelV.abs {x : V} {u : Value} (r : RelV x u) : absV u = some x := by
  cases x with
  | non => cases r; rfl
  | bl _ => cases r; rfl
  | int _ => obtain ⟨t, rfl⟩ := r; rfl
  | str _ => obtain ⟨t, rfl⟩ := r; rfl
  | byt _ => obtain ⟨t, rfl⟩ := r; rfl
  | flt _ => obtain ⟨t, rfl⟩ := r; rfl
  | ref _ => cases r; rfl
  | ty _ => cases r; rfl
theorem RelV.inj {x y : V} {u : Value} (r : RelV x u) (q : RelV y u) : x = y := Option.some.inj (r.abs.symm.trans q.abs)
theorem Vals.inj : ∀ {xs ys : List V} {us : List Value}, Vals xs us → Vals ys us → xs = ys
  | _, _, _, .nil, .nil => rfl
  | _, _, _, .cons r t, .cons r' t' => by rw [r.inj r', Vals.inj t t']
section
variable {X : Cx} {pins : List (Addr × Obj)} {σ : St} {H : Hp} {s : Shared} {a : Addr} {xs ys : List V}
theorem SqL.of {K : PySem.W.Frag} (h : H a = some (.lst xs)) : SqL K H a xs := .inl (.inl h)
theorem SqT.of {K : PySem.W.Frag} (h : H a = some (.tup xs)) : SqT K H a xs := .inl (.inl h)
theorem Inv.list (I : Inv X pins σ H s) (h : SqL X.K H a xs) : ∃ its : List Value, Vals xs its ∧ PlainL s.heap a its.toArray ∧ xs.length ≤ sizeLine := by
  rcases h with h | ⟨o, its, n, hk, hc, hd, hs, hz, r⟩
  · obtain ⟨z, its, n, r, e⟩ := h.ok I.hok
    exact ⟨its, r, ⟨_, n, e, rfl, rfl, rfl⟩, z⟩
  · refine ⟨its.toList, r, ⟨o, n, I.kIn a o hk, hc, hd, by simpa using hs⟩, ?_⟩
    have e := r.length
    simp only [Array.length_toList] at e
    omega
theorem Inv.tuple (I : Inv X pins σ H s) (h : SqT X.K H a xs) : ∃ its : List Value, Vals xs its ∧ IsTup s.heap a its.toArray ∧ xs.length ≤ sizeLine := by
  rcases h with h | ⟨o, its, n, hk, hc, hs, hz, r⟩
  · obtain ⟨z, its, r, p⟩ := h.ok I.hok
    exact ⟨its, r, p, z⟩
  · refine ⟨its.toList, r, ⟨o, I.kIn a o hk, hc, n, by simpa using hs⟩, ?_⟩
    have e := r.length
    simp only [Array.length_toList] at e
    omega
theorem Inv.list_inj (I : Inv X pins σ H s) (h : SqL X.K H a xs) (h' : SqL X.K H a ys) : xs = ys := by
  obtain ⟨its, r, ⟨o, n, e, _, _, d⟩, _⟩ := I.list h
  obtain ⟨its', r', ⟨o', n', e', _, _, d'⟩, _⟩ := I.list h'
  rw [e] at e'; cases e'
  rw [d] at d'
  injection d' with d1 _
  have : its = its' := by simpa using congrArg Array.toList d1
  subst this
  exact r.inj r'
end
abbrev Cx.wish (X : Cx) (E : Value → Shared → Prop) : Cx := { X with xe := E }
abbrev Cx.nox (X : Cx) : Cx := X.wish fun _ _ => False
theorem Cx.Ok.wish {X : Cx} (ok : X.Ok) (E : Value → Shared → Prop) : (X.wish E).Ok :=
  ⟨ok.mod, ok.kind, ok.glob, ok.blt, ok.above, ok.inj, ok.has, ok.cab, ok.hd, ok.frames, ok.stk, ok.exf, ok.bs, ok.bsz, ok.noex, ok.exfs, ok.funs, ok.frf⟩
theorem Cx.Ok.unwish {X : Cx} {E : Value → Shared → Prop} (ok : (X.wish E).Ok) : X.Ok :=
  ⟨ok.mod, ok.kind, ok.glob, ok.blt, ok.above, ok.inj, ok.has, ok.cab, ok.hd, ok.frames, ok.stk, ok.exf, ok.bs, ok.bsz, ok.noex, ok.exfs, ok.funs, ok.frf⟩
section
variable {X : Cx} {pins : List (Addr × Obj)} {σ : St} {H : Hp} {s : Shared} {E : Value → Shared → Prop}
theorem Inv.wish (I : Inv X pins σ H s) (E : Value → Shared → Prop) : Inv (X.wish E) pins σ H s := ⟨I.ok.wish E, I.os, I.bare, I.base, I.loc, I.cell, I.free, I.freeC, I.pin, I.hok, I.len⟩
theorem Inv.unwish (I : Inv (X.wish E) pins σ H s) : Inv X pins σ H s := ⟨I.ok.unwish, I.os, I.bare, I.base, I.loc, I.cell, I.free, I.freeC, I.pin, I.hok, I.len⟩
theorem SP.unwish {D : Ends} {f : Flow} {s' : Shared} (h : SP (X.wish E) pins D f s') : SP X pins D f s' := by
  cases f with
  | next => obtain ⟨σ', H', I, q⟩ := h; exact ⟨σ', H', I.unwish, q⟩
  | brk => obtain ⟨σ', H', I, q⟩ := h; exact ⟨σ', H', I.unwish, q⟩
  | cont => obtain ⟨σ', H', I, q⟩ := h; exact ⟨σ', H', I.unwish, q⟩
  | ret u => obtain ⟨v, σ', H', I, r, q⟩ := h; exact ⟨v, σ', H', I.unwish, r, q⟩
theorem PSs.nox {st : List Stmt} {t : TS} (h : PSs X.nox st t) : PSs X st t := fun pins s σ H D I hw =>
  wpAny_mono (h pins s σ H D (I.wish _) hw) (fun _ _ q => q.unwish) fun _ _ z => False.elim z
end
section
variable {X : Cx} {st : Stmt} {rest : List Stmt} {t u : TS} {e : Expr} {te : TE} {pos : Pos}
def tNext : TS := fun D σ H => D.nx σ H
def tSeq (t u : TS) : TS := fun D σ H => t { D with nx := u D } σ H
theorem pss_nil : PSs X [] tNext := fun _ _ σ H _ I h => wpAny_execs_nil ⟨σ, H, I, h⟩
theorem pss_cons (h1 : PS X st t) (h2 : PSs X rest u) : PSs X (st :: rest) (tSeq t u) := by
  intro pins s σ H D I h
  refine wpAny_execs_cons (thn (h1 pins s σ H { D with nx := u D } I h) fun f s1 q => ?_)
  cases f with
  | next =>
    obtain ⟨σ', H', I', q⟩ := q
    exact h2 pins s1 σ' H' D I' q
  | ret v => exact q
  | brk => exact q
  | cont => exact q
theorem pss_one (h1 : PS X st t) : PSs X [st] t := by
  intro pins s σ H D I h
  refine wpAny_execs_cons (thn (h1 pins s σ H D I h) fun f s1 q => ?_)
  cases f with
  | next => exact wpAny_execs_nil q
  | ret v => exact q
  | brk => exact q
  | cont => exact q
theorem Inv.quiet {pins : List (Addr × Obj)} {σ : St} {H : Hp} {s : Shared} (I : Inv X pins σ H s) : interactive X.env = false := by simp [interactive, I.ok.kind]
def tDrop (te : TE) : TS := fun D σ H => te σ H fun _ H1 => D.nx σ H1
theorem ps_expr (he : PE X e te) (hs : swapsWith e none pos.line X.env = pure false := by rfl) : PS X (.Expr e pos) (tDrop te) := by
  intro pins s σ H D I h
  exact wpAny_Expr_any (thn (he pins s σ H _ I h) fun v s1 ⟨x, H1, I1, r1, q1⟩ => ⟨σ, H1, I1, q1⟩) I.quiet hs
def tRet (te : TE) : TS := fun D σ H => te σ H D.rt
theorem ps_ret (he : PE X e te) : PS X (.Return (some e) pos) (tRet te) := by
  intro pins s σ H D I h
  exact wpAny_Return_some (thn (he pins s σ H _ I h) fun v s1 ⟨x, H1, I1, r1, q1⟩ => ⟨x, σ, H1, I1, r1, q1⟩)
def tIfS (c : TT) (t u : TS) : TS := fun D σ H => c σ H fun b H1 => if b = true then t D σ H1 else u D σ H1
theorem ps_if {c : Expr} {a b : List Stmt} {tc : TT} (hc : PT X c tc) (ha : PSs X a t) (hb : PSs X b u) : PS X (.If c a b pos) (tIfS tc t u) := by
  intro pins s σ H D I h
  refine wpAny_If (thn (hc pins s σ H _ I h) fun d s1 ⟨H1, I1, q1⟩ => ?_)
  cases d with
  | true => exact ha pins s1 σ H1 D I1 q1
  | false => exact hb pins s1 σ H1 D I1 q1
def tNever : TS := fun _ _ _ => False
theorem ps_never : PS X st tNever := fun _ _ _ _ _ _ h => h.elim
end
abbrev TG := V → St → Hp → (St → Hp → Prop) → Prop
abbrev TGs := List V → St → Hp → (St → Hp → Prop) → Prop
def PG (X : Cx) (target : Expr) (t : TG) : Prop :=
  ∀ (pins : List (Addr × Obj)) (s : Shared) (σ : St) (H : Hp) (v : V) (u : Value) (Q : St → Hp → Prop), Inv X pins σ H s → RelV v u → t v σ H Q →
    wpAny (model X.prog X.w) X.A (assign target X.env u) (fun _ s' => ∃ σ' H', Inv X pins σ' H' s' ∧ Q σ' H') X.xe s
def PGs (X : Cx) (ts : List Expr) (t : TGs) : Prop :=
  ∀ (pins : List (Addr × Obj)) (s : Shared) (σ : St) (H : Hp) (vs : List V) (us : List Value) (Q : St → Hp → Prop), Inv X pins σ H s → Vals vs us → t vs σ H Q →
    wpAny (model X.prog X.w) X.A (assignInOrder ((assignEach ts X.env).map (·.2)) us) (fun _ s' => ∃ σ' H', Inv X pins σ' H' s' ∧ Q σ' H') X.xe s
abbrev TSet := V → V → V → Hp → (Hp → Prop) → Prop
def PSet (X : Cx) (t : TSet) : Prop :=
  ∀ (pins : List (Addr × Obj)) (s : Shared) (σ : St) (H : Hp) (o i v : V) (ov iv u : Value) (Q : Hp → Prop), Inv X pins σ H s → RelV o ov → RelV i iv → RelV v u → t o i v H Q →
    wpAny (model X.prog X.w) X.A (setItem ov iv u) (fun _ s' => ∃ H', Inv X pins σ H' s' ∧ Q H') X.xe s
section
variable {X : Cx} {pos : Pos}
def gName (i : Nat) : TG := fun v σ H Q => Q (σ.set i (some v)) H
theorem pg_name {i : Nat} {x : Str} (hN : X.N.Nodup) (hi : X.N[i]? = some x) (hx : Loc X.env.scope x) (hf : X.fn x = true ∨ X.env.scope.names.lookup x = some .local := by first | exact .inl rfl | exact .inr rfl | assumption) : PG X (.Name x pos) (gName i) := by
  intro pins s σ H v u Q I r h
  exact wpAny_assign_Name (store_ok I hN hi hx r (fun s' I' => ⟨_, H, I', h⟩) hf)
def gNil : TGs := fun vs σ H Q => vs = [] ∧ Q σ H
def gCons (t : TG) (u : TGs) : TGs := fun vs σ H Q => ∃ v r, vs = v :: r ∧ t v σ H fun σ' H' => u r σ' H' Q
theorem pgs_nil : PGs X [] gNil := by
  intro pins s σ H vs us Q I r h
  obtain ⟨e, h⟩ := h
  subst e
  cases r
  exact assignInOrder_nil ⟨σ, H, I, h⟩
theorem pgs_cons {e : Expr} {es : List Expr} {t : TG} {u : TGs} (h1 : PG X e t) (h2 : PGs X es u)
    (hs : (assignEach (e :: es) X.env).map (·.2) = assign e X.env :: (assignEach es X.env).map (·.2) := by rfl) : PGs X (e :: es) (gCons t u) := by
  intro pins s σ H vs us Q I r h
  obtain ⟨v, vr, e1, h⟩ := h
  subst e1
  cases r with
  | cons r rr =>
    rw [hs]
    refine assignInOrder_cons (thn (h1 pins s σ H _ _ _ I r h) fun _ s1 ⟨σ1, H1, I1, q1⟩ => ?_)
    exact h2 pins s1 σ1 H1 _ _ Q I1 rr q1
def gTup (K : PySem.W.Frag) (n : Nat) (t : TGs) : TG := fun v σ H Q => ∃ a xs, v = .ref a ∧ SqT K H a xs ∧ xs.length = n ∧ t xs σ H Q
theorem pg_tup {es : List Expr} {k : Nat} {t : TGs} {n : Nat} (hc : X.calm = true) (h : PGs X es t)
    (hn : (assignEach es X.env).length = n := by rfl) (hst : (assignEach es X.env).findIdx? (·.1) = none := by rfl) : PG X (.Tuple es k pos) (gTup X.K n t) := by
  intro pins s σ H v u Q I r hw
  obtain ⟨a, xs, e1, hq, hl, hw⟩ := hw
  subst e1
  cases r
  obtain ⟨its, rv, ht, hz⟩ := I.tuple hq
  refine assign_Tuple_tuple (I.ok.hd hc) ht (by simp [hn, ← hl, rv.length]) hst fun h' hx => ?_
  have I1 : Inv X pins σ H { s with heap := h' } := I.kept (t' := s.toks) fun b o e => hx b o (Nat.ne_of_lt (Heap.lt_size e)) e
  exact h pins _ σ H xs _ Q I1 (by simpa using rv) hw
def gSub (to ti : TE) (t : TSet) : TG := fun v σ H Q => to σ H fun o H1 => ti σ H1 fun i H2 => t o i v H2 fun H3 => Q σ H3
theorem pg_sub {o i : Expr} {to ti : TE} {t : TSet} (ho : PE X o to) (hi : PE X i ti) (hs : PSet X t)
    (ha : ∀ v, assign (.Subscript o i pos) X.env v = (do
      let ov ← holding [v] (eval o X.env)
      let iv ← holding [v, ov] (eval i X.env)
      standAt pos
      holding [v, ov, iv] (setItem ov iv v)
      release [v, ov, iv] []) := by intro _; rfl) : PG X (.Subscript o i pos) (gSub to ti t) := by
  intro pins s σ H v u Q I r h
  rw [ha]
  refine wpAny_bind (wpAny_holding (thn (ho pins s σ H _ I h) fun ov s1 ⟨x, H1, I1, r1, q1⟩ => ?_))
  refine wpAny_bind (wpAny_holding (thn (hi pins s1 σ H1 _ I1 q1) fun iv s2 ⟨y, H2, I2, r2, q2⟩ => ?_))
  refine wpAny_bind (wpAny_standAt (wpAny_bind (wpAny_holding (thn (hs pins s2 σ H2 x y v ov iv u _ I2 r1 r2 r q2) fun _ s3 ⟨H3, I3, q3⟩ => ?_))))
  exact wpAny_release ⟨σ, H3, I3, q3⟩
def tAsg (te : TE) (g : TG) : TS := fun D σ H => te σ H fun x H1 => g x σ H1 D.nx
theorem ps_asg {tg e : Expr} {te : TE} {g : TG} (he : PE X e te) (hg : PG X tg g) (hs : swapsWithSole [tg] e pos.line X.env = pure false := by rfl) (hw : swappedStores [tg] e X.env = pure none := by rfl)
    (h1 : (assignEach [tg] X.env).map (·.2) = [assign tg X.env] := by rfl) : PS X (.Assign [tg] e pos) (tAsg te g) := by
  intro pins s σ H D I h
  refine wpAny_Assign_stores (thn (he pins s σ H _ I h) fun v s1 ⟨x, H1, I1, r1, q1⟩ => ?_) hs hw
  rw [h1]
  exact thn (hg pins s1 σ H1 x v _ I1 r1 q1) fun _ s2 q => q
theorem ps_set {i : Nat} {x : Str} {e : Expr} {te : TE} {pos' : Pos} (hN : X.N.Nodup) (hi : X.N[i]? = some x) (hx : Loc X.env.scope x) (he : PE X e te) (hs : swapsWith e (some (.Name x pos')) pos.line X.env = pure false := by rfl) (hf : X.fn x = true ∨ X.env.scope.names.lookup x = some .local := by first | exact .inl rfl | exact .inr rfl | assumption) :
    PS X (.Assign [.Name x pos'] e pos) (tAsg te (gName i)) := by
  intro pins s σ H D I h
  refine wpAny_Assign_Name (thn (he pins s σ H _ I h) fun v s1 ⟨y, H1, I1, r1, q1⟩ => ?_) hs
  exact store_ok I1 hN hi hx r1 (fun s2 I2 => ⟨_, H1, I2, q1⟩) hf
def tPar (i j : Nat) (ta : TA) : TS := fun D σ H => ta σ H fun vs H1 => ∃ v w, vs = [v, w] ∧ D.nx ((σ.set i (some v)).set j (some w)) H1
theorem ps_par {i j : Nat} {x y : Str} {a b : Expr} {ta : TA} {px py pt : Pos} {kt k2 pt2} (hc : X.calm = true) (hN : X.N.Nodup) (hi : X.N[i]? = some x) (hj : X.N[j]? = some y) (hij : i ≠ j)
    (hx : X.env.scope.names.lookup x = some .local) (hy : X.env.scope.names.lookup y = some .local) (ha : PA X [a, b] ta)
    (hw : swappedStores [.Tuple [.Name x px, .Name y py] kt pt] (.Tuple [a, b] k2 pt2) X.env = pure (some [x, y]))
    (hs : swapsWithSole [.Tuple [.Name x px, .Name y py] kt pt] (.Tuple [a, b] k2 pt2) pos.line X.env = pure false := by rfl) :
    PS X (.Assign [.Tuple [.Name x px, .Name y py] kt pt] (.Tuple [a, b] k2 pt2) pos) (tPar i j ta) := by
  intro pins s σ H D I h
  rw [exec_Assign_arm]
  refine wpAny_bind (wpAny_standAt ?_)
  rw [hs]
  refine wpAny_bind (wpAny_pure ?_)
  rw [if_neg (by decide)]
  refine wpAny_bind (Tuple_ (thn (ha _ pins s σ H _ I h) fun us s1 ⟨vs, H1, I1, r1, q1⟩ => ?_))
  obtain ⟨v, w, e1, q1⟩ := q1
  subst e1
  obtain ⟨u1, u2, rfl, rv, rw'⟩ : ∃ u1 u2, us = [u1, u2] ∧ RelV v u1 ∧ RelV w u2 := by
    cases r1 with
    | cons p q =>
      cases q with
      | cons p' q' =>
        cases q'
        exact ⟨_, _, rfl, p, p'⟩
  refine wpAny_newObj_type ?_ (by show 2 ≤ sizeLine; decide)
  have I2 : Inv X pins σ H1 { s1 with heap := s1.heap.push { cls := .type "tuple", data := .seq [u1, u2].toArray } } := I1.kept (t' := s1.toks) fun b o e => Heap.get?_push_of_some _ e
  rw [hw]
  refine wpAny_bind (wpAny_pure ?_)
  show wpAny (model X.prog X.w) X.A (do rule "assign.swapped-stores"; let items ← unpackItems (.ref s1.heap.objs.size) 2 none; assignInOrder [fun v => bindName X.env y v, fun v => bindName X.env x v] items.reverse; pure Flow.next) _ _ _
  refine wpAny_bind (wpAny_rule (wpAny_bind (unpackItems_tuple (items := #[u1, u2]) (I.ok.hd hc) (IsTup.new s1.heap _) fun h' hx' => ?_)))
  have I3 := I2.kept (h' := h') (t' := s1.toks) fun b o e => hx' b o (Nat.ne_of_lt (Heap.lt_size e)) e
  show wpAny _ _ (assignInOrder [fun v => bindName X.env y v, fun v => bindName X.env x v] [u2, u1] >>= fun _ => pure Flow.next) _ _ _
  refine wpAny_bind (assignInOrder_cons (wpAny_bindName (store_ok I3 hN hj (.inl hy) rw' (fun s2 I4 => ?_) (.inr hy))))
  refine assignInOrder_cons (wpAny_bindName (store_ok I4 hN hi (.inl hx) rv (fun s3 I5 => assignInOrder_nil (wpAny_pure ?_)) (.inr hx)))
  rw [List.set_comm _ _ (Ne.symm hij)] at I5
  exact ⟨_, H1, I5, q1⟩
end
section
variable {X : Cx} {pos : Pos}
def tWhile (c : TT) (tb : TS) : TS := fun D σ H => ∃ W : Nat → St → Hp → Prop, (∃ m, W m σ H) ∧ ∀ m σ H, W m σ H →
  c σ H fun b H1 => if b = true then ∃ N : St → Hp → Prop, (∀ σ' H', N σ' H' → ∃ m', m' < m ∧ W m' σ' H') ∧ tb { D with nx := N, ct := N, bk := D.nx } σ H1 else D.nx σ H1
theorem ps_while {c : Expr} {body : List Stmt} {tc : TT} {tb : TS} (hp : PassesOwn (model X.prog X.w) X.A X.env X.xe) (hc : PT X c tc) (hb : PSs X body tb) : PS X (.While c body [] pos) (tWhile tc tb) := by
  intro pins s σ H D I h
  obtain ⟨W, ⟨m0, w0⟩, turn⟩ := h
  refine wpAny_While (codeAny_whileLoop (fun n s' => ∃ σ' H', Inv X pins σ' H' s' ∧ W n σ' H') ?_ m0 ⟨σ, H, I, w0⟩)
  rintro n s1 ⟨σ1, H1, I1, w1⟩
  refine wpAny_passesOwn hp (thn (hc pins s1 σ1 H1 _ I1 (turn n σ1 H1 w1)) fun b s2 ⟨H2, I2, q2⟩ => ?_)
  cases b with
  | true =>
    obtain ⟨N, hN, q2⟩ := q2
    rw [if_pos rfl]
    refine wpAny_passesOwn hp (thn (hb pins s2 σ1 H2 _ I2 q2) fun f s3 q3 => ?_)
    cases f with
    | next =>
      obtain ⟨σ3, H3, I3, n3⟩ := q3
      obtain ⟨m', hm, w3⟩ := hN σ3 H3 n3
      exact ⟨m', hm, σ3, H3, I3, w3⟩
    | cont =>
      obtain ⟨σ3, H3, I3, n3⟩ := q3
      obtain ⟨m', hm, w3⟩ := hN σ3 H3 n3
      exact ⟨m', hm, σ3, H3, I3, w3⟩
    | brk => exact q3
    | ret v => exact q3
  | false =>
    rw [if_neg Bool.false_ne_true]
    exact wpAny_execs_nil ⟨σ1, H2, I2, q2⟩
end
structure It where
  go : Nat → Hp → Prop
  yld : Nat → Hp → V → Hp → Prop
  stop : Nat → Hp → Prop
def FpOk (X : Cx) (pins : List (Addr × Obj)) (H : Hp) (b : Addr) : Prop :=
  H b = none ∧ b ≠ X.env.locals ∧ b ∉ X.fs ∧ (b ∈ X.ex ∨ X.s₀.heap.objs.size ≤ b) ∧ (∀ x c, X.env.cells.lookup x = some c → c ≠ b) ∧ ∀ p ∈ X.pn ++ pins, p.1 ≠ b
theorem Inv.fpOk {X : Cx} {pins : List (Addr × Obj)} {σ : St} {H H' : Hp} {s : Shared} {b : Addr} (I : Inv X pins σ H s) (hb : s.heap.objs.size ≤ b) (hn : H' b = none) : FpOk X pins H' b := by
  refine ⟨hn, Nat.ne_of_gt (Nat.lt_of_lt_of_le I.lt hb), I.nofs hb, .inr (Nat.le_trans I.sz hb), fun x c e z => ?_, fun p hp z => ?_⟩
  · obtain ⟨v, q⟩ := I.cell x c e
    exact absurd (Nat.lt_of_lt_of_le q.lt (by rw [z]; exact hb)) (Nat.lt_irrefl _)
  · exact absurd (Nat.lt_of_lt_of_le (Heap.lt_size (I.pin p hp).1) (by rw [z]; exact hb)) (Nat.lt_irrefl _)
structure Turn (P : Program) (w : World) (K : PySem.W.Frag) (tg : Expr) (J : It) (fp : List Addr) (it : Addr) (tn : Nat → Heap → Prop) : Prop where
  mem : it ∈ fp
  obj : ∀ i h, tn i h → ∀ b ∈ fp, ∃ o, h.get? b = some o ∧ ∀ v, o.data ≠ .cell v
  keep : ∀ i h h', tn i h → (∀ b ∈ fp, ∀ o, h.get? b = some o → h'.get? b = some o) → tn i h'
  item : ∀ (X : Cx), X.prog = P → X.w = w → X.K = K → X.calm = true → ∀ (i : Nat) (pins : List (Addr × Obj)) (s : Shared) (σ : St) (H : Hp) (E : Value → Shared → Prop), Inv X pins σ H s → (∀ b ∈ fp, FpOk X pins H b) → tn i s.heap → J.go i H →
    wpAny (model P w) X.A (pyNext (.ref it)) (fun r s1 => ∃ u, r = some u ∧
      wpAny (model P w) X.A (letOwnedTupleGo tg (.ref it) u) (fun _ s2 => ∃ x H', Inv X pins σ H' s2 ∧ RelV x u ∧ J.yld i H x H' ∧ tn (i + 1) s2.heap ∧ ∀ b ∈ fp, H' b = none) E s1) E s
  done : ∀ (X : Cx), X.prog = P → X.w = w → X.K = K → X.calm = true → ∀ (i : Nat) (pins : List (Addr × Obj)) (s : Shared) (σ : St) (H : Hp) (E : Value → Shared → Prop), Inv X pins σ H s → (∀ b ∈ fp, FpOk X pins H b) → tn i s.heap → J.stop i H →
    wpAny (model P w) X.A (pyNext (.ref it)) (fun r s1 => r = none ∧ Inv X pins σ H s1) E s
  self : ∀ (A : Around) (i : Nat) (s : Shared) (Q : Value → Shared → Prop) (E : Value → Shared → Prop), tn i s.heap → Q (.ref it) s → wpAny (model P w) A (pyIter (.ref it)) Q E s
abbrev TI := St → Hp → (It → Hp → Prop) → Prop
def PIE (X : Cx) (pins : List (Addr × Obj)) (σ : St) (tg : Expr) (R : It → Hp → Prop) (itv : Value) (s2 : Shared) : Prop :=
  ∃ (it : Addr) (fp : List Addr) (tn : Nat → Heap → Prop) (J : It) (H' : Hp), itv = .ref it ∧ Inv X pins σ H' s2 ∧ Turn X.prog X.w X.K tg J fp it tn ∧ tn 0 s2.heap ∧ (∀ b ∈ fp, FpOk X pins H' b) ∧ R J H'
def PI (X : Cx) (tg iter : Expr) (wi : TI) : Prop :=
  ∀ (pins : List (Addr × Obj)) (s : Shared) (σ : St) (H : Hp) (R : It → Hp → Prop), Inv X pins σ H s → wi σ H R →
    wpAny (model X.prog X.w) X.A (eval iter X.env) (fun v s1 => wpAny (model X.prog X.w) X.A (pyIter v) (PIE X pins σ tg R) X.xe s1) X.xe s
theorem go_of {M : Model} {A : Around} {E : Value → Shared → Prop} {s : Shared} {tg : Expr} {it : Addr} {u : Value} {o : Obj} {n : String} {vs : Array Value} {Q : Unit → Shared → Prop} (ho : s.heap.get? it = some o) (hc : o.cls = .type n) (hd : o.data = .fields vs)
    (hn : ["enumerate", "zip", "dict_itemiterator", "dict_reverseitemiterator", "odict_iterator", "itertools.zip_longest", "itertools.pairwise"].contains n = false) (hQ : Q () s) : wpAny M A (letOwnedTupleGo tg (.ref it) u) Q E s := by
  unfold letOwnedTupleGo
  cases tg <;> first
    | exact wpAny_pure hQ
    | (cases u <;> first
        | exact wpAny_pure hQ
        | (refine wpAny_bind (wpAny_load ho ?_)
           rw [hc, hd]
           show wpAny M A (if (["enumerate", "zip", "dict_itemiterator", "dict_reverseitemiterator", "odict_iterator", "itertools.zip_longest", "itertools.pairwise"].contains n && vs[0]? == some (rawInt _)) = true then _ else _) Q E s
           rw [if_neg (by intro h; rw [hn, Bool.false_and] at h; cases h)]
           exact wpAny_pure hQ))
def Itl (K : PySem.W.Frag) (a : Addr) : It :=
  ⟨fun i H => ∃ xs x, SqL K H a xs ∧ xs[i]? = some x, fun i H x H' => H' = H ∧ ∀ xs, SqL K H a xs → xs[i]? = some x, fun i H => ∃ xs, SqL K H a xs ∧ xs.length ≤ i⟩
def Itr (lo : Int) (n : Nat) : It := ⟨fun i _ => i < n, fun i H x H' => H' = H ∧ x = .int (lo + i), fun i _ => n ≤ i⟩
theorem turn_list {P : Program} {w : World} {K : PySem.W.Frag} {tg : Expr} (a it : Addr) : Turn P w K tg (Itl K a) [it] it (fun i h => h.IsListIter it a i) where
  mem := by simp
  obj := fun i h st b hb => by
    have e : b = it := by simpa using hb
    subst e
    obtain ⟨o, e, c, d⟩ := st
    exact ⟨o, e, fun v z => by rw [d] at z; cases z⟩
  keep := fun i h h' st k => st.at fun o e => k it (by simp) o e
  item := by
    intro X hP hw hK hc i pins s σ H E I hf st hg
    subst hP hw hK
    obtain ⟨xs, x, hq, hx⟩ := hg
    obtain ⟨its, rv, p, hz⟩ := I.list hq
    obtain ⟨u, hu, ru⟩ := rv.get hx
    obtain ⟨f0, f1, f2, f3, f4, f5⟩ := hf it (by simp)
    refine wpAny_pyNext_list_item st p.isList (x := u) (by simpa using hu) fun h' st' sb => ?_
    have I1 : Inv X pins σ H { s with heap := h' } := I.turned (t' := s.toks) (fun b o hb e => (sb.2 b hb).trans e) f0 f1 f3 f4 f5
    obtain ⟨o, e, c, d⟩ := id st'
    exact ⟨u, rfl, go_of (s := { s with heap := h' }) e c d (by decide) ⟨x, H, I1, ru, ⟨rfl, fun ys hy => by rw [I.list_inj hy hq]; exact hx⟩, st', fun b hb => (hf b hb).1⟩⟩
  done := by
    intro X hP hw hK hc i pins s σ H E I hf st hg
    subst hP hw hK
    obtain ⟨xs, hq, hx⟩ := hg
    obtain ⟨its, rv, p, hz⟩ := I.list hq
    obtain ⟨f0, f1, f2, f3, f4, f5⟩ := hf it (by simp)
    have hl := rv.length
    exact wpAny_pyNext_list_end (I.ok.hd hc) st p.isList (by simp; omega) fun h' eb => ⟨rfl, I.turned (t' := s.toks) (fun b o hb e => eb b o hb e) f0 f1 f3 f4 f5⟩
  self := fun _ _ _ _ _ st h => wpAny_pyIter_listiter st h
theorem turn_range {P : Program} {w : World} {K : PySem.W.Frag} {tg : Expr} (it : Addr) (lo : Int) (n : Nat) : Turn P w K tg (Itr lo n) [it] it (fun i h => IsRangeIter h it (lo + (i : Nat) * 1) ((n : Int) - (i : Nat)) 1) where
  mem := by simp
  obj := fun i h st b hb => by
    have e : b = it := by simpa using hb
    subst e
    exact ⟨_, st, fun v z => by
      have z' : Data.fields _ = Data.cell v := z
      cases z'⟩
  keep := fun i h h' st k => k it (by simp) _ st
  item := by
    intro X hP hw hK hc i pins s σ H E I hf st hg
    subst hP hw hK
    obtain ⟨f0, f1, f2, f3, f4, f5⟩ := hf it (by simp)
    have W := Walks.range (prog := X.prog) (w := X.w) (I.ok.hd hc) it lo 1 n
    refine W.item i s _ _ hg st fun v h' tk hv st' kk => ?_
    obtain ⟨t, rfl⟩ := hv
    have I1 : Inv X pins σ H { s with heap := h', toks := tk } := I.turned (fun b o hb e => kk b o (by simpa using hb) e) f0 f1 f3 f4 f5
    refine ⟨_, rfl, go_of (s := { s with heap := h', toks := tk }) (n := "range_iterator") st' rfl rfl (by decide) ⟨.int (lo + i), H, I1, ⟨t, ?_⟩, ⟨rfl, rfl⟩, st', fun b hb => (hf b hb).1⟩⟩
    rw [Int.mul_one]
  done := by
    intro X hP hw hK hc i pins s σ H E I hf st hg
    subst hP hw hK
    obtain ⟨f0, f1, f2, f3, f4, f5⟩ := hf it (by simp)
    exact wpAny_pyNext_range_end (I.ok.hd hc) st (by have : n ≤ i := hg; omega) fun h' eb => ⟨rfl, I.turned (t' := s.toks) (fun b o hb e => eb b o hb e) f0 f1 f3 f4 f5⟩
  self := fun _ _ _ _ _ st h => wpAny_pyIter_rangeiter st h
end L2
namespace L2
open PySem PySem.Spec PyProof.Rows
section
variable {X : Cx} {tg : Expr}
def iList (K : PySem.W.Frag) (tl : TE) : TI := fun σ H R => tl σ H fun x H1 => ∃ a, x = .ref a ∧ (∃ xs, SqL K H1 a xs) ∧ R (Itl K a) H1
theorem pi_list {l : Expr} {tl : TE} (hl : PE X l tl) : PI X tg l (iList X.K tl) := by
  intro pins s σ H R I h
  refine thn (hl pins s σ H _ I h) fun v s1 ⟨x, H1, I1, r1, q1⟩ => ?_
  obtain ⟨a, e, ⟨xs, hq⟩, q⟩ := q1
  subst e
  cases r1
  obtain ⟨its, rv, p, hz⟩ := I1.list hq
  refine wpAny_pyIter_list p.isList ?_
  refine ⟨s1.heap.objs.size, [s1.heap.objs.size], _, _, H1, rfl, I1.kept (t' := s1.toks) fun b o e => Heap.get?_push_of_some _ e, turn_list a _, ⟨_, Heap.get?_push_size _ rfl, rfl, rfl⟩, fun b hb => ?_, q⟩
  have e : b = s1.heap.objs.size := by simpa using hb
  subst e
  exact I1.fpOk (Nat.le_refl _) (I1.hok.fresh (Nat.le_refl _))
theorem range_it {pins : List (Addr × Obj)} {σ : St} {H : Hp} {s : Shared} {R : It → Hp → Prop} {E : Value → Shared → Prop} {lo hi : Int} {t u v : Tok} {tk : Nat} (I : Inv X pins σ H s) (h1 : -(2 ^ 62) ≤ lo) (h2 : lo < 2 ^ 62) (h3 : -(2 ^ 62) ≤ hi) (h4 : hi < 2 ^ 62)
    (q : R (Itr lo (hi - lo).toNat) H) : wpAny (model X.prog X.w) X.A (pyIter (.ref s.heap.objs.size)) (PIE X pins σ tg R) E { s with heap := s.heap.push { cls := .type "range", data := .fields #[.int lo t, .int hi u, .int 1 v] }, toks := tk } := by
  refine wpAny_pyIter_range (IsRange.new ..) (small_one h1 h2 h3 h4) ?_
  have I1 : Inv X pins σ H { s with heap := s.heap.push { cls := .type "range", data := .fields #[.int lo t, .int hi u, .int 1 v] }, toks := tk } := I.kept fun b o e => Heap.get?_push_of_some _ e
  refine ⟨(s.heap.push { cls := .type "range", data := .fields #[.int lo t, .int hi u, .int 1 v] }).objs.size, [(s.heap.push { cls := .type "range", data := .fields #[.int lo t, .int hi u, .int 1 v] }).objs.size], _, _, H, rfl,
    I1.kept (t' := tk) fun b o e => Heap.get?_push_of_some _ e, turn_range _ lo (hi - lo).toNat, ?_, fun b hb => ?_, q⟩
  · have e1 : lo + ((0 : Nat) : Int) * 1 = lo := by simp
    have e2 : (((hi - lo).toNat : Nat) : Int) - ((0 : Nat) : Int) = Builtin.Range.rangeSize lo hi 1 := by rw [rangeSize_one]; split <;> omega
    show IsRangeIter _ _ (lo + ((0 : Nat) : Int) * 1) ((((hi - lo).toNat : Nat) : Int) - ((0 : Nat) : Int)) 1
    rw [e1, e2]
    exact Heap.get?_push_size _ rfl
  · have e : b = (s.heap.push { cls := .type "range", data := .fields #[.int lo t, .int hi u, .int 1 v] }).objs.size := by simpa using hb
    subst e
    exact I1.fpOk (Nat.le_refl _) (I1.hok.fresh (Nat.le_refl _))
def iRng1 (ta : TA) : TI := fun σ H R => ta σ H fun vs H1 => ∃ j : Int, vs = [.int j] ∧ -(2 ^ 62) ≤ j ∧ j < 2 ^ 62 ∧ R (Itr 0 j.toNat) H1
theorem pi_range1 {a : Expr} {ta : TA} {p pos : Pos} (hg : Gl X "range") (hm : X.mg "range" = none) (ha : PA X [a] ta) (hs : starEach [a] X.env = [(false, eval a X.env)] := by rfl) : PI X tg (.Call (.Name "range" p) [a] [] pos) (iRng1 ta) := by
  intro pins s σ H R I h
  refine Call_ (ld_blt I hg hm boot_range (PyProof.Rows.callWith_type1 (thn (ha pos pins s σ H _ I h) fun us s1 ⟨vs, H1, I1, r1, q1⟩ => ?_) hs rfl))
  obtain ⟨j, e, q1, q2, q⟩ := q1
  subst e
  cases r1 with
  | cons r rr =>
    cases rr
    obtain ⟨t, rfl⟩ := r
    exact call_range_1 (range_it I1 (by omega) (by omega) q1 q2 (by simpa using q))
def tFor (wi : TI) (g : TG) (tb : TS) : TS := fun D σ H => wi σ H fun J H1 => ∃ W : Nat → Nat → St → Hp → Prop, (∃ m, W 0 m σ H1) ∧ ∀ i m σ H, W i m σ H →
  (J.stop i H ∧ D.nx σ H) ∨ (J.go i H ∧ ∃ N : St → Hp → Prop, (∀ σ' H', N σ' H' → ∃ m', m' < m ∧ W (i + 1) m' σ' H') ∧ ∀ x H', J.yld i H x H' → g x σ H' fun σ2 H2 => tb { D with nx := N, ct := N, bk := D.nx } σ2 H2)
def pinsAt (fp : List Addr) (h : Heap) : List (Addr × Obj) := fp.filterMap fun b => (h.get? b).map fun o => (b, o)
theorem mem_pinsAt {fp : List Addr} {h : Heap} {b : Addr} {o : Obj} (hb : b ∈ fp) (e : h.get? b = some o) : (b, o) ∈ pinsAt fp h := List.mem_filterMap.mpr ⟨b, hb, by rw [e]; rfl⟩
theorem of_pinsAt {fp : List Addr} {h : Heap} {p : Addr × Obj} (hp : p ∈ pinsAt fp h) : p.1 ∈ fp ∧ h.get? p.1 = some p.2 := by
  obtain ⟨b, hb, e⟩ := List.mem_filterMap.mp hp
  cases q : h.get? b with
  | none => rw [q] at e; cases e
  | some o =>
    rw [q] at e
    have e' : (b, o) = p := Option.some.inj e
    subst e'
    exact ⟨hb, q⟩
theorem Inv.pinned {pins : List (Addr × Obj)} {σ : St} {H : Hp} {s : Shared} {fp : List Addr} (I : Inv X pins σ H s) (hf : ∀ b ∈ fp, FpOk X pins H b) (ho : ∀ b ∈ fp, ∃ o, s.heap.get? b = some o ∧ ∀ v, o.data ≠ .cell v) : Inv X (pins ++ pinsAt fp s.heap) σ H s :=
  I.pins_of fun p hp => (List.mem_append.mp hp).elim (fun z => I.pin p (List.mem_append_right _ z)) fun z => by
    obtain ⟨hb, e⟩ := of_pinsAt z
    obtain ⟨f0, f1, f2, _⟩ := hf p.1 hb
    obtain ⟨o, e', d⟩ := ho p.1 hb
    rw [e] at e'; cases e'
    exact ⟨e, f0, f1, f2, d⟩
theorem Inv.unpinned {pins pl : List (Addr × Obj)} {σ : St} {H : Hp} {s : Shared} (I : Inv X (pins ++ pl) σ H s) : Inv X pins σ H s := I.pins_of fun p hp => I.pin p (List.mem_append_right _ (List.mem_append_left _ hp))
theorem ps_for {iter : Expr} {body : List Stmt} {wi : TI} {g : TG} {tb : TS} {pos : Pos} (hp : PassesOwn (model X.prog X.w) X.A X.env X.xe) (hc : X.calm = true) (hi : PI X tg iter wi) (hg : PG X tg g) (hb : PSs X body tb)
    (hs : ∀ x, foldedSetIterable iter X.env x = pure x := by intro _; rfl) : PS X (.For tg iter body [] pos) (tFor wi g tb) := by
  intro pins s σ H D I h
  refine wpAny_For (thn (hi pins s σ H _ I h) fun v s1 h1 => thn h1 fun itv s2 h2 => ?_) hs
  obtain ⟨it, fp, tn, J, H2, e, I2, T, st2, f2, W, ⟨m0, w0⟩, turn⟩ := h2
  subst e
  have stat : ∀ {H' : Hp}, (∀ b ∈ fp, H' b = none) → ∀ b ∈ fp, FpOk X pins H' b := fun hn b hb => ⟨hn b hb, (f2 b hb).2⟩
  refine codeAny_forLoop_any (fun n s' => ∃ i σ' H', Inv X pins σ' H' s' ∧ tn i s'.heap ∧ (∀ b ∈ fp, H' b = none) ∧ W i n σ' H') ?_ m0 ⟨0, σ, H2, I2, st2, fun b hb => (f2 b hb).1, w0⟩
  rintro n s3 ⟨i, σ3, H3, I3, st3, fr3, w3⟩
  rcases turn i n σ3 H3 w3 with ⟨stop, qn⟩ | ⟨go, N, hN, step⟩
  · refine wpAny_passesOwn hp (thn (T.done X rfl rfl rfl hc i pins s3 σ3 H3 X.xe I3 (stat fr3) st3 stop) fun r s4 ⟨hr, I4⟩ => ?_)
    subst hr
    exact wpAny_execs_nil ⟨σ3, H3, I4, qn⟩
  · refine wpAny_passesOwn hp (thn (T.item X rfl rfl rfl hc i pins s3 σ3 H3 X.xe I3 (stat fr3) st3 go) fun r s4 ⟨u, hr, h4⟩ => ?_)
    subst hr
    refine wpAny_passesOwn hp (thn h4 fun _ s5 ⟨x, H5, I5, r5, y5, st5, fr5⟩ => ?_)
    have I5' := I5.pinned (stat fr5) (T.obj _ _ st5)
    refine wpAny_passesOwn hp (thn (hg _ s5 σ3 H5 x u _ I5' r5 (step x H5 y5)) fun _ s6 ⟨σ6, H6, I6, q6⟩ => ?_)
    refine wpAny_passesOwn hp (thn (hb _ s6 σ6 H6 _ I6 q6) fun f s7 q7 => ?_)
    have again : ∀ {σ7 : St} {H7 : Hp}, Inv X (pins ++ pinsAt fp s5.heap) σ7 H7 s7 → N σ7 H7 → ∃ m, m < n ∧ ∃ i σ' H', Inv X pins σ' H' s7 ∧ tn i s7.heap ∧ (∀ b ∈ fp, H' b = none) ∧ W i m σ' H' := fun {σ7 H7} I7 n7 => by
      obtain ⟨m', hm, w7⟩ := hN σ7 H7 n7
      refine ⟨m', hm, i + 1, σ7, H7, I7.unpinned, T.keep _ _ _ st5 fun b hb o e => (I7.pin (b, o) (List.mem_append_right _ (List.mem_append_right _ (mem_pinsAt hb e)))).1, fun b hb => ?_, w7⟩
      obtain ⟨o, e, d⟩ := T.obj _ _ st5 b hb
      exact (I7.pin (b, o) (List.mem_append_right _ (List.mem_append_right _ (mem_pinsAt hb e)))).2.1
    cases f with
    | next => obtain ⟨σ7, H7, I7, n7⟩ := q7; exact again I7 n7
    | cont => obtain ⟨σ7, H7, I7, n7⟩ := q7; exact again I7 n7
    | brk => obtain ⟨σ7, H7, I7, q7⟩ := q7; exact ⟨σ7, H7, I7.unpinned, q7⟩
    | ret v => obtain ⟨x7, σ7, H7, I7, r7, q7⟩ := q7; exact ⟨x7, σ7, H7, I7.unpinned, r7, q7⟩
end
theorem for_list {K : PySem.W.Frag} {a : Addr} {xs : List V} {g : TG} {tb : TS} {D : Ends} {σ : St} {H : Hp} (Pv : Nat → St → Hp → Prop) (h0 : Pv 0 σ H) (hl : ∀ i σ H, i ≤ xs.length → Pv i σ H → SqL K H a xs)
    (hs : ∀ i x σ H, xs[i]? = some x → Pv i σ H → g x σ H fun σ2 H2 => tb { D with nx := Pv (i + 1), ct := Pv (i + 1), bk := D.nx } σ2 H2) (hd : ∀ σ H, Pv xs.length σ H → D.nx σ H) :
    ∃ W : Nat → Nat → St → Hp → Prop, (∃ m, W 0 m σ H) ∧ ∀ i m σ H, W i m σ H →
      ((Itl K a).stop i H ∧ D.nx σ H) ∨ ((Itl K a).go i H ∧ ∃ N : St → Hp → Prop, (∀ σ' H', N σ' H' → ∃ m', m' < m ∧ W (i + 1) m' σ' H') ∧ ∀ x H', (Itl K a).yld i H x H' → g x σ H' fun σ2 H2 => tb { D with nx := N, ct := N, bk := D.nx } σ2 H2) := by
  refine ⟨fun i m σ H => m = xs.length - i ∧ i ≤ xs.length ∧ Pv i σ H, ⟨xs.length, by simp, Nat.zero_le _, h0⟩, ?_⟩
  rintro i m σ H ⟨rfl, hi, p⟩
  have q := hl i σ H hi p
  by_cases hlt : i < xs.length
  · refine .inr ⟨⟨xs, xs[i], q, by simp [hlt]⟩, Pv (i + 1), fun σ' H' p' => ⟨xs.length - (i + 1), by omega, rfl, hlt, p'⟩, fun x H' y => ?_⟩
    obtain ⟨e, y⟩ := y
    subst e
    exact hs i x σ _ (y xs q) p
  · have e : i = xs.length := by omega
    subst e
    exact .inl ⟨⟨xs, q, Nat.le_refl _⟩, hd σ H p⟩
theorem for_range {lo : Int} {n : Nat} {g : TG} {tb : TS} {D : Ends} {σ : St} {H : Hp} (Pv : Nat → St → Hp → Prop) (h0 : Pv 0 σ H)
    (hs : ∀ i σ H, i < n → Pv i σ H → g (.int (lo + i)) σ H fun σ2 H2 => tb { D with nx := Pv (i + 1), ct := Pv (i + 1), bk := D.nx } σ2 H2) (hd : ∀ σ H, Pv n σ H → D.nx σ H) :
    ∃ W : Nat → Nat → St → Hp → Prop, (∃ m, W 0 m σ H) ∧ ∀ i m σ H, W i m σ H →
      ((Itr lo n).stop i H ∧ D.nx σ H) ∨ ((Itr lo n).go i H ∧ ∃ N : St → Hp → Prop, (∀ σ' H', N σ' H' → ∃ m', m' < m ∧ W (i + 1) m' σ' H') ∧ ∀ x H', (Itr lo n).yld i H x H' → g x σ H' fun σ2 H2 => tb { D with nx := N, ct := N, bk := D.nx } σ2 H2) := by
  refine ⟨fun i m σ H => m = n - i ∧ i ≤ n ∧ Pv i σ H, ⟨n, by simp, Nat.zero_le _, h0⟩, ?_⟩
  rintro i m σ H ⟨rfl, hi, p⟩
  by_cases hlt : i < n
  · refine .inr ⟨hlt, Pv (i + 1), fun σ' H' p' => ⟨n - (i + 1), by omega, rfl, hlt, p'⟩, fun x H' y => ?_⟩
    obtain ⟨e, y⟩ := y
    subst e y
    exact hs i σ _ hlt p
  · have e : i = n := by omega
    subst e
    exact .inl ⟨Nat.le_refl _, hd σ H p⟩
end L2
namespace L2
open PySem PySem.Spec PyProof.Rows
abbrev R2 := V → V → Hp → VK → Prop
def OpR (X : Cx) (f : Value → Value → Sem Value) (r : R2) : Prop :=
  ∀ (pins : List (Addr × Obj)) (s : Shared) (σ : St) (H : Hp) (x y : V) (v u : Value) (Q : VK), Inv X pins σ H s → RelV x v → RelV y u → r x y H Q →
    wpAny (model X.prog X.w) X.A (f v u) (EP X pins σ Q) X.xe s
def UnR (X : Cx) (f : Value → Sem Value) (r : V → Hp → VK → Prop) : Prop :=
  ∀ (pins : List (Addr × Obj)) (s : Shared) (σ : St) (H : Hp) (x : V) (v : Value) (Q : VK), Inv X pins σ H s → RelV x v → r x H Q →
    wpAny (model X.prog X.w) X.A (f v) (EP X pins σ Q) X.xe s
def CallR (X : Cx) (f : Value) (r : List V → Hp → VK → Prop) : Prop :=
  ∀ (pins : List (Addr × Obj)) (s : Shared) (σ : St) (H : Hp) (xs : List V) (us : List Value) (Q : VK), Inv X pins σ H s → Vals xs us → r xs H Q →
    wpAny (model X.prog X.w) X.A (call f us) (EP X pins σ Q) X.xe s
def tOp (r : R2) (ta tb : TE) : TE := fun σ H Q => ta σ H fun x H1 => tb σ H1 fun y H2 => r x y H2 Q
def tUn (r : V → Hp → VK → Prop) (ta : TE) : TE := fun σ H Q => ta σ H fun x H1 => r x H1 Q
def rI (C : Int → Int → Prop) (g : Int → Int → V) : R2 := fun x y H Q => ∃ i j, x = .int i ∧ y = .int j ∧ C i j ∧ Q (g i j) H
def rI0 (g : Int → Int → V) : R2 := fun x y H Q => ∃ i j, x = .int i ∧ y = .int j ∧ Q (g i j) H
def rU (g : Int → V) : V → Hp → VK → Prop := fun x H Q => ∃ i, x = .int i ∧ Q (g i) H
section
variable {X : Cx} {a b c : Expr} {ta tb tc : TE} {pos : Pos}
theorem binT (ha : PE X a ta) (hb : PE X b tb) {pins : List (Addr × Obj)} {s : Shared} {σ : St} {H : Hp} {R : V → V → Hp → Prop} (I : Inv X pins σ H s)
    (h : ta σ H fun x H1 => tb σ H1 fun y H2 => R x y H2) {Q : Value → Shared → Prop} {f : Value → Value → Sem Value}
    (hf : ∀ v u s2 x y H2, Inv X pins σ H2 s2 → RelV x v → RelV y u → R x y H2 → wpAny (model X.prog X.w) X.A (f v u) Q X.xe s2) :
    wpAny (model X.prog X.w) X.A (eval a X.env) (fun v s₁ => wpAny (model X.prog X.w) X.A (eval b X.env) (fun u s₂ => wpAny (model X.prog X.w) X.A (f v u) Q X.xe s₂) X.xe s₁) X.xe s := by
  refine thn (ha pins s σ H _ I h) fun v s1 ⟨x, H1, I1, r1, q1⟩ => ?_
  refine thn (hb pins s1 σ H1 _ I1 q1) fun u s2 ⟨y, H2, I2, r2, q2⟩ => ?_
  exact hf v u s2 x y H2 I2 r1 r2 q2
theorem pe_op {op : Operator} {r : R2} (ho : OpR X (binaryOp op) r) (ha : PE X a ta) (hb : PE X b tb) : PE X (.BinOp a op b pos) (tOp r ta tb) := by
  intro pins s σ H Q I h
  exact wpAny_BinOp (binT ha hb I h fun v u s2 x y H2 I2 rx ry q => ho pins s2 σ H2 x y v u Q I2 rx ry q)
theorem pe_un {op : UnaryOp} {r : V → Hp → VK → Prop} (ho : UnR X (unaryOp op) r) (ha : PE X a ta) : PE X (.UnaryOp op a pos) (tUn r ta) := by
  intro pins s σ H Q I h
  exact UnaryOp_ (thn (ha pins s σ H _ I h) fun v s1 ⟨x, H1, I1, r1, q1⟩ => ho pins s1 σ H1 x v Q I1 r1 q1)
theorem opI {f : Value → Value → Sem Value} {C : Int → Int → Prop} {g : Int → Int → Int}
    (rule : ∀ (i j : Int) (t u : Tok) (s : Shared) (Q : Value → Shared → Prop) (E : Value → Shared → Prop), C i j → Q (.int (g i j) s.toks) { s with toks := s.toks + 1 } → wpAny (model X.prog X.w) X.A (f (.int i t) (.int j u)) Q E s) :
    OpR X f (rI C fun i j => .int (g i j)) := by
  intro pins s σ H x y v u Q I rx ry h
  obtain ⟨i, j, rfl, rfl, hc, q⟩ := h
  obtain ⟨t, rfl⟩ := rx
  obtain ⟨t', rfl⟩ := ry
  exact rule i j t t' s _ _ hc ⟨.int (g i j), H, I.tok _, ⟨_, rfl⟩, q⟩
theorem opI0 {f : Value → Value → Sem Value} {g : Int → Int → Int}
    (rule : ∀ (i j : Int) (t u : Tok) (s : Shared) (Q : Value → Shared → Prop) (E : Value → Shared → Prop), Q (.int (g i j) s.toks) { s with toks := s.toks + 1 } → wpAny (model X.prog X.w) X.A (f (.int i t) (.int j u)) Q E s) :
    OpR X f (rI0 fun i j => .int (g i j)) := by
  intro pins s σ H x y v u Q I rx ry h
  obtain ⟨i, j, rfl, rfl, q⟩ := h
  obtain ⟨t, rfl⟩ := rx
  obtain ⟨t', rfl⟩ := ry
  exact rule i j t t' s _ _ ⟨.int (g i j), H, I.tok _, ⟨_, rfl⟩, q⟩
theorem opB0 {f : Value → Value → Sem Value} {g : Int → Int → Bool}
    (rule : ∀ (i j : Int) (t u : Tok) (s : Shared) (Q : Value → Shared → Prop) (E : Value → Shared → Prop), Q (.bool (g i j)) s → wpAny (model X.prog X.w) X.A (f (.int i t) (.int j u)) Q E s) :
    OpR X f (rI0 fun i j => .bl (g i j)) := by
  intro pins s σ H x y v u Q I rx ry h
  obtain ⟨i, j, rfl, rfl, q⟩ := h
  obtain ⟨t, rfl⟩ := rx
  obtain ⟨t', rfl⟩ := ry
  exact rule i j t t' s _ _ ⟨.bl (g i j), H, I, rfl, q⟩
def CPow (i j : Int) : Prop := 0 ≤ j ∧ j ≤ 1000000 ∧ i.natAbs < 2 ^ 64
def CMul (i j : Int) : Prop := (-(2 ^ 64) < i ∧ i < 2 ^ 64) ∨ (-(2 ^ 64) < j ∧ j < 2 ^ 64)
theorem CMul.ok {i j : Int} (h : CMul i j) : IntMulOk i j := by
  rcases h with ⟨h1, h2⟩ | ⟨h1, h2⟩
  · exact .of_left (intBits_le_64 h1 h2)
  · exact .of_right (intBits_le_64 h1 h2)
theorem op_add : OpR X (binaryOp .Add) (rI0 fun i j => .int (i + j)) := opI0 fun _ _ _ _ _ _ _ q => add_int q
theorem op_sub : OpR X (binaryOp .Sub) (rI0 fun i j => .int (i - j)) := opI0 fun _ _ _ _ _ _ _ q => sub_int q
theorem op_mul : OpR X (binaryOp .Mult) (rI CMul fun i j => .int (i * j)) := opI fun _ _ _ _ _ _ _ hc q => mul_int q hc.ok
theorem op_mod : OpR X (binaryOp .Mod) (rI (fun _ j => 0 < j) fun i j => .int (i % j)) := opI fun i j _ _ _ _ _ hc q => by
  have h1 : (0 : Int) < j := hc
  exact mod_int' (by omega) (by rw [Int.fmod_eq_emod_of_nonneg i (by omega)]; exact q)
theorem op_pow : OpR X (binaryOp .Pow) (rI CPow fun i j => .int (i ^ j.toNat)) := opI fun _ _ _ _ _ _ _ hc q => pow_int_small hc.1 hc.2.1 hc.2.2 q
theorem unI {f : Value → Sem Value} {g : Int → Int}
    (rule : ∀ (i : Int) (t : Tok) (s : Shared) (Q : Value → Shared → Prop) (E : Value → Shared → Prop), Q (.int (g i) s.toks) { s with toks := s.toks + 1 } → wpAny (model X.prog X.w) X.A (f (.int i t)) Q E s) :
    UnR X f (rU fun i => .int (g i)) := by
  intro pins s σ H x v Q I rx h
  obtain ⟨i, rfl, q⟩ := h
  obtain ⟨t, rfl⟩ := rx
  exact rule i t s _ _ ⟨.int (g i), H, I.tok _, ⟨_, rfl⟩, q⟩
theorem un_neg : UnR X (unaryOp .USub) (rU fun i => .int (-i)) := unI fun _ _ _ _ _ q => neg_int q
end
def scal : V → V → Bool
  | .non, .non => true | .non, .int _ => true | .int _, .non => true | .non, .bl _ => true | .bl _, .non => true | .non, .str _ => true | .str _, .non => true
  | .int _, .int _ => true | .bl _, .bl _ => true | .str _, .str _ => true | .byt _, .byt _ => true
  | .int _, .str _ => true | .str _, .int _ => true | .bl _, .str _ => true | .str _, .bl _ => true
  | _, _ => false
def rEq : R2 := fun x y H Q => scal x y = true ∧ Q (.bl (decide (x = y))) H
def rNe : R2 := fun x y H Q => scal x y = true ∧ Q (.bl (!decide (x = y))) H
theorem dec_int {i j : Int} : decide (V.int i = V.int j) = (i == j) := by
  rw [Bool.eq_iff_iff]
  simp
theorem dec_bl {i j : Bool} : decide (V.bl i = V.bl j) = (i == j) := by
  rw [Bool.eq_iff_iff]
  simp
theorem dec_str {i j : Str} : decide (V.str i = V.str j) = (i == j) := by
  rw [Bool.eq_iff_iff]
  simp
theorem dec_byt {i j : Array UInt8} : decide (V.byt i = V.byt j) = (i.toList == j.toList) := by
  rw [Bool.eq_iff_iff]
  cases i
  cases j
  simp
section
variable {X : Cx} {a b c : Expr} {ta tb tc : TE} {pos : Pos}
theorem fin_bl {pins : List (Addr × Obj)} {σ : St} {H : Hp} {s : Shared} {Q : VK} {k k' : Bool} (I : Inv X pins σ H s) (q : Q (.bl k) H) (e : k = k') : EP X pins σ Q (.bool k') s := by
  subst e
  exact ⟨.bl k, H, I, rfl, q⟩
theorem op_eq : OpR X (compareOp .Eq) rEq := by
  intro pins s σ H x y v u Q I rx ry h
  obtain ⟨hs, q⟩ := h
  cases x with
  | non =>
    cases rx
    cases y with
    | non => cases ry; exact PySem.EqNone.eq_none_none (fin_bl I q (by simp))
    | bl j => cases ry; exact PySem.EqNone.eq_none_bool (fin_bl I q (by simp))
    | int j => obtain ⟨t', rfl⟩ := ry; exact PySem.EqNone.eq_none_int (fin_bl I q (by simp))
    | str j => obtain ⟨t', rfl⟩ := ry; exact PySem.EqNone.eq_none_str (fin_bl I q (by simp))
    | _ => exact absurd (show false = true from hs) Bool.false_ne_true
  | bl i =>
    cases rx
    cases y with
    | non => cases ry; exact PySem.EqNone.eq_bool_none (fin_bl I q (by simp))
    | bl j => cases ry; exact eq_bool (fin_bl I q dec_bl)
    | str j => obtain ⟨t', rfl⟩ := ry; exact PySem.EqMixed.eq_bool_str (fin_bl I q (by simp))
    | _ => exact absurd (show false = true from hs) Bool.false_ne_true
  | int i =>
    obtain ⟨t, rfl⟩ := rx
    cases y with
    | non => cases ry; exact PySem.EqNone.eq_int_none (fin_bl I q (by simp))
    | int j => obtain ⟨t', rfl⟩ := ry; exact eq_int (fin_bl I q dec_int)
    | str j => obtain ⟨t', rfl⟩ := ry; exact PySem.EqMixed.eq_int_str (fin_bl I q (by simp))
    | _ => exact absurd (show false = true from hs) Bool.false_ne_true
  | str i =>
    obtain ⟨t, rfl⟩ := rx
    cases y with
    | non => cases ry; exact PySem.EqNone.eq_str_none (fin_bl I q (by simp))
    | bl j => cases ry; exact PySem.EqMixed.eq_str_bool (fin_bl I q (by simp))
    | int j => obtain ⟨t', rfl⟩ := ry; exact PySem.EqMixed.eq_str_int (fin_bl I q (by simp))
    | str j => obtain ⟨t', rfl⟩ := ry; exact eq_str (fin_bl I q dec_str)
    | _ => exact absurd (show false = true from hs) Bool.false_ne_true
  | byt i =>
    obtain ⟨t, rfl⟩ := rx
    cases y with
    | byt j => obtain ⟨t', rfl⟩ := ry; exact PySem.W.eq_bytes (fin_bl I q dec_byt)
    | _ => exact absurd (show false = true from hs) Bool.false_ne_true
  | _ => cases y <;> exact absurd (show false = true from hs) Bool.false_ne_true
theorem op_ne : OpR X (compareOp .NotEq) rNe := by
  intro pins s σ H x y v u Q I rx ry h
  obtain ⟨hs, q⟩ := h
  cases x with
  | non =>
    cases rx
    cases y with
    | non => cases ry; exact PySem.EqNone.ne_none_none (fin_bl I q (by simp))
    | bl j => cases ry; exact PySem.EqNone.ne_none_bool (fin_bl I q (by simp))
    | int j => obtain ⟨t', rfl⟩ := ry; exact PySem.EqNone.ne_none_int (fin_bl I q (by simp))
    | str j => obtain ⟨t', rfl⟩ := ry; exact PySem.EqNone.ne_none_str (fin_bl I q (by simp))
    | _ => exact absurd (show false = true from hs) Bool.false_ne_true
  | bl i =>
    cases rx
    cases y with
    | non => cases ry; exact PySem.EqNone.ne_bool_none (fin_bl I q (by simp))
    | bl j => cases ry; exact ne_bool (fin_bl I q (congrArg not dec_bl))
    | str j => obtain ⟨t', rfl⟩ := ry; exact PySem.EqMixed.ne_bool_str (fin_bl I q (by simp))
    | _ => exact absurd (show false = true from hs) Bool.false_ne_true
  | int i =>
    obtain ⟨t, rfl⟩ := rx
    cases y with
    | non => cases ry; exact PySem.EqNone.ne_int_none (fin_bl I q (by simp))
    | int j => obtain ⟨t', rfl⟩ := ry; exact ne_int (fin_bl I q (congrArg not dec_int))
    | str j => obtain ⟨t', rfl⟩ := ry; exact PySem.EqMixed.ne_int_str (fin_bl I q (by simp))
    | _ => exact absurd (show false = true from hs) Bool.false_ne_true
  | str i =>
    obtain ⟨t, rfl⟩ := rx
    cases y with
    | non => cases ry; exact PySem.EqNone.ne_str_none (fin_bl I q (by simp))
    | bl j => cases ry; exact PySem.EqMixed.ne_str_bool (fin_bl I q (by simp))
    | int j => obtain ⟨t', rfl⟩ := ry; exact PySem.EqMixed.ne_str_int (fin_bl I q (by simp))
    | str j => obtain ⟨t', rfl⟩ := ry; exact ne_str (fin_bl I q (congrArg not dec_str))
    | _ => exact absurd (show false = true from hs) Bool.false_ne_true
  | byt i =>
    obtain ⟨t, rfl⟩ := rx
    cases y with
    | byt j => obtain ⟨t', rfl⟩ := ry; exact PySem.W.ne_bytes (fin_bl I q (congrArg not dec_byt))
    | _ => exact absurd (show false = true from hs) Bool.false_ne_true
  | _ => cases y <;> exact absurd (show false = true from hs) Bool.false_ne_true
theorem op_lt : OpR X (compareOp .Lt) (rI0 fun i j => .bl (decide (i < j))) := opB0 fun _ _ _ _ _ _ _ q => lt_int q
theorem op_le : OpR X (compareOp .LtE) (rI0 fun i j => .bl (decide (i ≤ j))) := opB0 fun _ _ _ _ _ _ _ q => le_int q
theorem op_gt : OpR X (compareOp .Gt) (rI0 fun i j => .bl (decide (j < i))) := opB0 fun _ _ _ _ _ _ _ q => gt_int q
theorem op_ge : OpR X (compareOp .GtE) (rI0 fun i j => .bl (decide (j ≤ i))) := opB0 fun _ _ _ _ _ _ _ q => ge_int q
theorem op_in_str : OpR X (compareOp .In) (fun x y H Q => ∃ i j, x = .str i ∧ y = .str j ∧ Q (.bl (!(Builtin.Str.occurrences j i 0 j.length 1).isEmpty)) H) := by
  intro pins s σ H x y v u Q I rx ry h
  obtain ⟨i, j, rfl, rfl, q⟩ := h
  obtain ⟨t, rfl⟩ := rx
  obtain ⟨t', rfl⟩ := ry
  exact in_str (fin_bl I q rfl)
theorem nomark (b : Expr) {op : CmpOp} (h : op ≠ .In := by decide) (h2 : op ≠ .NotIn := by decide) : behindInMarks op b = false := by
  have e1 : (op == CmpOp.In) = false := by cases op <;> first | rfl | exact absurd rfl h
  have e2 : (op == CmpOp.NotIn) = false := by cases op <;> first | rfl | exact absurd rfl h2
  cases b <;> simp [behindInMarks, e1, e2]
theorem pe_cmpR {op : CmpOp} {r : R2} (ho : OpR X (compareOp op) r) (ha : PE X a ta) (hb : PE X b tb) (hm : behindInMarks op b = false) : PE X (.Compare a [op] [b] pos) (tOp r ta tb) := by
  intro pins s σ H Q I h
  exact wpAny_Compare1 (binT ha hb I h fun v u s2 x y H2 I2 rx ry q => ho pins s2 σ H2 x y v u Q I2 rx ry q) hm
def tTest (t : TE) : TT := fun σ H Q => t σ H fun x H' => ∃ k, x = .bl k ∧ Q k H'
theorem pt_cmpR {op : CmpOp} {r : R2} (ho : OpR X (compareOp op) r) (ha : PE X a ta) (hb : PE X b tb) (hm : behindInMarks op b = false) : PT X (.Compare a [op] [b] pos) (tTest (tOp r ta tb)) := by
  intro pins s σ H Q I h
  refine wpAny_isTrue_Compare1 (thn (ha pins s σ H _ I h) fun v s1 ⟨x, H1, I1, r1, q1⟩ => thn (hb pins s1 σ H1 _ I1 q1) fun u s2 ⟨y, H2, I2, r2, q2⟩ =>
    thn (ho pins s2 σ H2 x y v u _ I2 r1 r2 q2) fun c s3 ⟨z, H3, I3, r3, k, e, q3⟩ => ?_) hm
  subst e
  cases r3
  exact wpAny_truthy_bool ⟨H3, I3, q3⟩
def tChain (r r' : R2) (ta tb tc : TE) : TE := fun σ H Q => ta σ H fun x H1 => tb σ H1 fun y H2 => r x y H2 fun z H3 => ∃ k, z = .bl k ∧
  (if k = true then tc σ H3 fun w' H4 => r' y w' H4 Q else Q (.bl false) H3)
theorem pe_chain {op op' : CmpOp} {r r' : R2} (ho : OpR X (compareOp op) r) (ho' : OpR X (compareOp op') r') (ha : PE X a ta) (hb : PE X b tb) (hc : PE X c tc)
    (hm : lastMarks [op, op'] [b, c] = false := by with_unfolding_all rfl) : PE X (.Compare a [op, op'] [b, c] pos) (tChain r r' ta tb tc) := by
  intro pins s σ H Q I h
  refine Compare_chain (thn (ha pins s σ H _ I h) fun v s1 ⟨x, H1, I1, r1, q1⟩ => chain_link (thn (hb pins s1 σ H1 _ I1 q1) fun u s2 ⟨y, H2, I2, r2, q2⟩ =>
    thn (ho pins s2 σ H2 x y v u _ I2 r1 r2 q2) fun d s3 ⟨z, H3, I3, r3, k, e, q3⟩ => ?_)) hm
  subst e
  cases r3
  refine wpAny_truthy_bool ?_
  cases k with
  | false => exact ite_ff ⟨.bl false, H3, I3, rfl, q3⟩
  | true => exact ite_tt (chain_last (thn (hc pins s3 σ H3 _ I3 q3) fun w' s4 ⟨z', H4, I4, r4, q4⟩ => ho' pins s4 σ H4 y z' u w' Q I4 r2 r4 q4))
theorem line63 : (sizeLine : Nat) < 2 ^ 63 := by rw [sizeLine_eq]; decide
theorem op_add_str : OpR X (binaryOp .Add) (fun x y H Q => ∃ i j, x = .str i ∧ y = .str j ∧ i.length + j.length ≤ sizeLine ∧ Q (.str (i ++ j)) H) := by
  intro pins s σ H x y v u Q I rx ry h
  obtain ⟨i, j, rfl, rfl, hz, q⟩ := h
  obtain ⟨t, rfl⟩ := rx
  obtain ⟨t', rfl⟩ := ry
  exact add_str (fun t' tk => ⟨.str (i ++ j), H, I.tok _, ⟨_, rfl⟩, q⟩) hz
theorem vals1 {x : V} {us : List Value} (r : Vals [x] us) : ∃ u, us = [u] ∧ RelV x u := by
  cases r with
  | cons r1 r2 => cases r2; exact ⟨_, rfl, r1⟩
theorem vals2 {x y : V} {us : List Value} (r : Vals [x, y] us) : ∃ u w', us = [u, w'] ∧ RelV x u ∧ RelV y w' := by
  cases r with
  | cons r1 r2 =>
    cases r2 with
    | cons r3 r4 => cases r4; exact ⟨_, _, rfl, r1, r3⟩
end
end L2
namespace L2
open PySem PySem.Spec PyProof.Rows
structure ObjM (h : Heap) (x dx C : Addr) (mA : Str → Option Value) : Prop where
  obj : h.get? x = some (PySem.W.instObj C dx)
  ns : h.Ns1 dx mA
  ne : dx ≠ x
theorem lookIn_ns {h : Heap} {dx : Addr} {mA : Str → Option Value} (n : h.Ns1 dx mA) : ∃ od, h.get? dx = some od ∧ ∀ name, PySem.W.lookIn name od = some (mA name) := by
  obtain ⟨o, es, ep, ho, hd, hk, _, hm⟩ := n
  refine ⟨o, ho, fun name => ?_⟩
  have e := hm name
  unfold nsFind findBy at e
  rw [← Array.find?_toList] at e
  unfold PySem.W.lookIn
  rw [hd]
  dsimp only
  split
  · rename_i y q
    rw [q] at e
    exact congrArg some e
  · rename_i q
    rw [q] at e
    have a : es.toList.any (·.refKey) = false := by
      rw [List.any_eq_false]
      intro y hy
      obtain ⟨z, t, hkey⟩ := hk y (Array.mem_toList_iff.mp hy)
      simp [DictEntry.refKey, hkey]
    have a' : ¬ es.toList.any (·.refKey) = true := by rw [a]; exact Bool.false_ne_true
    rw [if_neg a']
    exact congrArg some e
theorem ObjM.look {h : Heap} {x dx C : Addr} {mA : Str → Option Value} (I : ObjM h x dx C mA) : ∃ od, PySem.W.InstAt h x (PySem.W.instObj C dx) C (some od) ∧ ∀ name, PySem.W.lookIn name od = some (mA name) :=
  let ⟨od, ho, hl⟩ := lookIn_ns I.ns
  ⟨od, ⟨I.obj, rfl, rfl, ho⟩, hl⟩
section
variable {prog : Program} {w : World} {A : Around} {E : Value → Shared → Prop} {s : Shared} {K : PySem.W.Frag} {x dx C f : Addr} {mA : Str → Option Value} {name : Str} {v : Value}
theorem get_map {expr : Bool} {Q : Value → Shared → Prop} (X : K.In s.heap) (I : ObjM s.heap x dx C mA) (hg : PySem.W.plainGet K C name = true) (hh : PySem.W.hasDictIn K C = true)
    (ha : PySem.W.findIn K (.ref C) name = some none) (hv : mA name = some v) (hv' : PySem.W.handedIn v = true) (h : Q v { s with toks := s.toks + 1 }) :
    wpAny (model prog w) A (getAttr (.ref x) name expr) Q E s := by
  obtain ⟨od, J, hl⟩ := I.look
  exact PySem.W.get_value X J (PySem.W.plainGet_of hg).1 (PySem.W.findObj_own hh ha rfl (by rw [hl, hv])) hv' h
theorem get_meth {pl : Sem Bool} {Q : Value × List Value → Shared → Prop} (X : K.In s.heap) (I : ObjM s.heap x dx C mA) (hg : PySem.W.plainGet K C name = true)
    (hf : PySem.W.findIn K (.ref C) name = some (some (.ref f))) (ht : PySem.W.isFn K (.ref f) = true) (hv : mA name = none) (h : Q (.ref f, [.ref x]) s) :
    wpAny (model prog w) A (getMethod (.ref x) name pl) Q E s := by
  obtain ⟨od, J, hl⟩ := I.look
  exact PySem.W.method_fn X J (PySem.W.plainGet_of hg).1 (PySem.W.plainGet_of hg).2 hf (beq_iff_eq.mp ht) (by show (PySem.W.lookIn name od).map (·.isSome) = some false; rw [hl, hv]; rfl) h
theorem set_map {ns : List Str} {Q : Unit → Shared → Prop} (X : K.In s.heap) (I : ObjM s.heap x dx C mA)
    (hs : PySem.W.findIn K (.ref C) "__setattr__" = some (some (.builtin "object.__setattr__"))) (hp : PySem.W.plainOver K C = true) (ht : PySem.W.takerIn K C name = some none) (hh : PySem.W.hasDictIn K C = true)
    (hw : PySem.Within mA ns) (hsz : ns.length ≤ sizeLine)
    (h : ∀ h', ObjM h' x dx C (fun y => if y = name then some v else mA y) → Heap.SameBut dx s.heap h' → Q () { s with heap := h', toks := s.toks + 2 }) :
    wpAny (model prog w) A (setAttr (.ref x) name v) Q E s := by
  obtain ⟨od, J, hl⟩ := I.look
  refine PySem.W.set_plain X J hs (PySem.W.osa_open (s := { s with toks := s.toks + 1 }) (r := none) X J hp ht fun b => ?_)
  obtain ⟨cd, hc, hd'⟩ := PySem.W.any_some hh
  have hx : s.heap.get? x = some ⟨.ref C, some dx, .plain, #[]⟩ := I.obj
  refine wpAny_bind (wpAny_pure (wpAny_bind (wpAny_bind (wpAny_loadPart hx (wpAny_bind (PySem.W.Looks.here (s := { s with toks := s.toks + 1 }) (PySem.W.looks_clsIn X hc) ?_))))))
  rw [hd']
  refine wpAny_pure (a := some dx) (wpAny_bind (wpAny_pure (wpAny_bind ?_)))
  refine wpAny_nsSet1 (s := { s with toks := s.toks + 1 }) I.ns fun h' hn2 hs2 => ?_
  obtain ⟨oD, esD, epD, hoD, hdD, hcD⟩ := hn2.count (PySem.Within.cons name v hw)
  refine wpAny_bind (wpAny_lookBehind hoD (by rw [hdD]; exact pastItsLine_dict (Nat.le_trans hcD (by rw [List.length_cons]; omega))) ?_)
  exact wpAny_pure (h _ ⟨(hs2.2 _ (Ne.symm I.ne)).trans I.obj, hn2, I.ne⟩ hs2)
theorem make_map {R : Result → Shared → Prop} {vs : List Value} {kw : List (Str × Value)} (X : K.In s.heap) (hm : PySem.W.makesIn K C = true)
    (hi : PySem.W.findIn K (.ref C) "__init__" = some (some (.ref f))) (hf : PySem.W.typeIn K (.ref f) = some (.type "function"))
    (h : codeAny (model prog w) (A.under (.builtin "type.__call__" ⟨.ref C :: vs, kw⟩)) (.call (.ref f) ⟨.ref (s.heap.objs.size + 1) :: vs, kw⟩) (PySem.W.InitBack (s.heap.objs.size + 1) R)
      { s with heap := (s.heap.push PySem.W.emptyDict).push (PySem.W.instObj C s.heap.objs.size) }) :
    codeAny (model prog w) A (.call (.ref C) ⟨vs, kw⟩) R s := by
  obtain ⟨hh, g, d, t, os⟩ := s
  exact PySem.W.make_core (PySem.W.makes_of X hm) (PySem.W.looks_findIn X hi) (fun self => PySem.W.bind_fn X self hf) (.inl rfl) h
end
def putF (f : Str) (v : V) : List (Str × V) → List (Str × V)
  | [] => [(f, v)]
  | (g, x) :: r => if g = f then (g, v) :: r else (g, x) :: putF f v r
theorem lookup_putF (f g : Str) (v : V) : ∀ fs : List (Str × V), (putF f v fs).lookup g = if g = f then some v else fs.lookup g
  | [] => by
    show List.lookup g [(f, v)] = _
    by_cases h : g = f
    · have hb : (g == f) = true := beq_iff_eq.mpr h
      simp only [List.lookup, hb, if_pos h]
    · have hb : (g == f) = false := beq_eq_false_iff_ne.mpr h
      simp only [List.lookup, hb, if_neg h]
  | (k, x) :: r => by
    have ih := lookup_putF f g v r
    rw [show putF f v ((k, x) :: r) = (if k = f then (k, v) :: r else (k, x) :: putF f v r) from rfl]
    by_cases hk : k = f
    · rw [if_pos hk]
      by_cases h : g = k
      · have hb : (g == k) = true := beq_iff_eq.mpr h
        simp only [List.lookup, hb, if_pos (h.trans hk)]
      · have hb : (g == k) = false := beq_eq_false_iff_ne.mpr h
        simp only [List.lookup, hb, if_neg (fun e : g = f => h (e.trans hk.symm))]
    · rw [if_neg hk]
      by_cases h : g = k
      · have hb : (g == k) = true := beq_iff_eq.mpr h
        simp only [List.lookup, hb, if_neg (fun e : g = f => hk (h.symm.trans e))]
      · have hb : (g == k) = false := beq_eq_false_iff_ne.mpr h
        simp only [List.lookup, hb]
        exact ih
theorem keys_putF (f : Str) (v : V) : ∀ fs : List (Str × V), f ∈ (putF f v fs).map (·.1) ∧ ∀ g, g ∈ fs.map (·.1) → g ∈ (putF f v fs).map (·.1)
  | [] => ⟨by simp [putF], fun g h => by simp at h⟩
  | (k, x) :: r => by
    obtain ⟨i1, i2⟩ := keys_putF f v r
    rw [show putF f v ((k, x) :: r) = (if k = f then (k, v) :: r else (k, x) :: putF f v r) from rfl]
    by_cases hk : k = f
    · rw [if_pos hk]
      subst hk
      exact ⟨by simp, fun g h => by simpa using h⟩
    · rw [if_neg hk]
      refine ⟨?_, fun g h => ?_⟩
      · rw [List.map_cons]
        exact List.mem_cons_of_mem _ i1
      · rw [List.map_cons] at h ⊢
        rcases List.mem_cons.mp h with e | e
        · exact List.mem_cons.mpr (.inl e)
        · exact List.mem_cons_of_mem _ (i2 g e)
theorem length_putF (f : Str) (v : V) : ∀ fs : List (Str × V), (putF f v fs).length ≤ fs.length + 1
  | [] => by simp [putF]
  | (k, x) :: r => by
    have ih := length_putF f v r
    rw [show putF f v ((k, x) :: r) = (if k = f then (k, v) :: r else (k, x) :: putF f v r) from rfl]
    by_cases hk : k = f
    · rw [if_pos hk, List.length_cons, List.length_cons]; omega
    · rw [if_neg hk, List.length_cons, List.length_cons]; omega
theorem RelO.some_of {v : V} {o : Option Value} (r : RelO (some v) o) : ∃ u, o = some u ∧ RelV v u := by
  cases o with
  | none => exact (show False from r).elim
  | some u => exact ⟨u, rfl, r⟩
theorem RelO.none_of {o : Option Value} (r : RelO none o) : o = none := by
  cases o with
  | none => rfl
  | some u => exact (show False from r).elim
theorem handed_of {v : V} {u : Value} (r : RelV v u) : PySem.W.handedIn u = true := by
  cases v with
  | non => cases (show u = Value.none from r); rfl
  | bl b => cases (show u = Value.bool b from r); rfl
  | int i => obtain ⟨t, e⟩ := (show ∃ t, u = Value.int i t from r); cases e; rfl
  | str x => obtain ⟨t, e⟩ := (show ∃ t, u = Value.str x t from r); cases e; rfl
  | byt b => obtain ⟨t, e⟩ := (show ∃ t, u = Value.bytes b t from r); cases e; rfl
  | flt b => obtain ⟨t, e⟩ := (show ∃ t, u = Value.float b t from r); cases e; rfl
  | ref a => cases (show u = Value.ref a from r); rfl
  | ty n => cases (show u = Value.type n from r); rfl
section
variable {P : Program} {w : World} {H H' : Hp} {h h' : Heap} {a C dx : Addr} {fs fs' : List (Str × V)}
theorem ins_get (hok : HOk P w H h) (e : H a = some (.ins C dx fs)) : ∃ mA, ObjM h a dx C mA ∧ (∀ f, RelO (fs.lookup f) (mA f)) ∧ PySem.Within mA (fs.map (·.1)) ∧ fs.length ≤ 1000 ∧ H dx = some (.own a) := by
  obtain ⟨d, z, ne, ob, mA, n, r, q⟩ := (show ObjOk P w H h a (.ins C dx fs) from hok a _ e)
  exact ⟨mA, ⟨ob, n, ne⟩, r, q, z, d⟩
end
structure Cls (K : PySem.W.Frag) (C : Addr) : Prop where
  pg : PySem.W.plainGet K C Str.empty = true
  hd : PySem.W.hasDictIn K C = true
  po : PySem.W.plainOver K C = true
  sa : PySem.W.findIn K (.ref C) "__setattr__" = some (some (.builtin "object.__setattr__"))
theorem Cls.get {K : PySem.W.Frag} {C : Addr} (c : Cls K C) (f : Str) : PySem.W.plainGet K C f = true := c.pg
def NoAttr (K : PySem.W.Frag) (C : Addr) (f : Str) : Prop := PySem.W.findIn K (.ref C) f = some none
theorem NoAttr.taker {K : PySem.W.Frag} {C : Addr} {f : Str} (n : NoAttr K C f) : PySem.W.takerIn K C f = some none := by
  unfold PySem.W.takerIn
  rw [show PySem.W.findIn K (.ref C) f = some none from n]
  rfl
structure Meth (K : PySem.W.Frag) (C : Addr) (m : Str) (f : Addr) : Prop where
  at_ : PySem.W.findIn K (.ref C) m = some (some (.ref f))
  fn : PySem.W.isFn K (.ref f) = true
  kp : PySem.W.keepIn K (.ref f) = true
section
variable {X : Cx} {pins : List (Addr × Obj)} {σ : St} {H : Hp} {s : Shared} {a C dx : Addr} {fs : List (Str × V)} {f : Str} {v : V} {A : Around} {E : Value → Shared → Prop}
theorem getattr_ok {b : Bool} {Q : Value → Shared → Prop} (I : Inv X pins σ H s) (e : H a = some (.ins C dx fs)) (c : Cls X.K C) (n : NoAttr X.K C f) (l : fs.lookup f = some v)
    (h : ∀ u s', Inv X pins σ H s' → RelV v u → Q u s') : wpAny (model X.prog X.w) A (getAttr (.ref a) f b) Q E s := by
  obtain ⟨mA, O, r, _, _, _⟩ := ins_get I.hok e
  obtain ⟨u, hu, ru⟩ := RelO.some_of (v := v) (o := mA f) (by rw [← l]; exact r f)
  exact get_map I.kIn O (c.get f) c.hd n hu (handed_of ru) (h u _ (I.tok _) ru)
theorem getmeth_ok {m : Str} {g : Addr} {pl : Sem Bool} {Q : Value × List Value → Shared → Prop} (I : Inv X pins σ H s) (e : H a = some (.ins C dx fs)) (c : Cls X.K C) (k : Meth X.K C m g) (l : fs.lookup m = none)
    (h : Q (.ref g, [.ref a]) s) : wpAny (model X.prog X.w) A (getMethod (.ref a) m pl) Q E s := by
  obtain ⟨mA, O, r, _, _, _⟩ := ins_get I.hok e
  have hn : mA m = none := RelO.none_of (by rw [← l]; exact r m)
  exact get_meth I.kIn O (c.get m) k.at_ k.fn hn h
theorem setattr_ok {y : V} {u : Value} {Q : Unit → Shared → Prop} (I : Inv X pins σ H s) (e : H a = some (.ins C dx fs)) (c : Cls X.K C) (n : NoAttr X.K C f) (hl : fs.length < 1000) (ry : RelV y u)
    (h : ∀ s', Inv X pins σ (upd H a (.ins C dx (putF f y fs))) s' → Q () s') : wpAny (model X.prog X.w) A (setAttr (.ref a) f u) Q E s := by
  obtain ⟨mA, O, r, wi, _, ho⟩ := ins_get I.hok e
  have hz : (fs.map (·.1)).length ≤ sizeLine := by rw [List.length_map, sizeLine_eq]; omega
  refine set_map I.kIn O c.sa c.po n.taker c.hd wi hz fun h' O' sb => h _ ?_
  have hd : ∃ o, h'.get? dx = some o := let ⟨o, _, _, e', _⟩ := O'.ns; ⟨o, e'⟩
  refine I.write (x := a) (e := dx) (by rw [e]; exact True.intro) (.inr ho) (fun b q hb z => (sb.2 b hb).trans z) hd ?_
  refine ⟨by rw [upd_ne O.ne]; exact ho, ?_, O.ne, O'.obj, _, O'.ns, fun g => ?_, fun g hg => ?_⟩
  · have := length_putF f y fs; omega
  · show RelO ((putF f y fs).lookup g) (if g = f then some u else mA g)
    rw [lookup_putF]
    by_cases q : g = f
    · rw [if_pos q, if_pos q]; exact ry
    · rw [if_neg q, if_neg q]; exact r g
  · by_cases q : g = f
    · rw [q]; exact (keys_putF f y fs).1
    · refine (keys_putF f y fs).2 g (wi g fun z => hg ?_)
      show (if g = f then some u else mA g) = none
      rw [if_neg q]; exact z
theorem Inv.made (I : Inv X pins σ H s) : Inv X pins σ (upd (upd H s.heap.objs.size (.own (s.heap.objs.size + 1))) (s.heap.objs.size + 1) (.ins C s.heap.objs.size []))
    { s with heap := (s.heap.push PySem.W.emptyDict).push (PySem.W.instObj C s.heap.objs.size) } := by
  have e1 : (s.heap.push PySem.W.emptyDict).get? s.heap.objs.size = some PySem.W.emptyDict := Heap.get?_push_size s.heap rfl
  have e2 : ((s.heap.push PySem.W.emptyDict).push (PySem.W.instObj C s.heap.objs.size)).get? (s.heap.objs.size + 1) = some (PySem.W.instObj C s.heap.objs.size) := by
    have := Heap.get?_push_size (s.heap.push PySem.W.emptyDict) (o := PySem.W.instObj C s.heap.objs.size) rfl
    rwa [Heap.size_push] at this
  have e3 : (s.heap.push PySem.W.emptyDict).Ns s.heap.objs.size (fun _ => none) := ⟨PySem.W.emptyDict, #[], _, e1, rfl, (fun e he => absurd he (by simp)), fun _ => rfl⟩
  have I1 := I.laid (a := s.heap.objs.size) (o := .own (s.heap.objs.size + 1)) (h' := s.heap.push PySem.W.emptyDict) (t' := s.toks) (fun b u q => Heap.get?_push_of_some _ q) (Nat.le_refl _) ⟨_, e1⟩
  refine I1.laid (a := s.heap.objs.size + 1) (o := .ins C s.heap.objs.size []) (t' := s.toks) (fun b u q => Heap.get?_push_of_some _ q) (Nat.le_of_eq (Heap.size_push _ _)) ?_
  have ne : s.heap.objs.size ≠ s.heap.objs.size + 1 := Nat.ne_of_lt (Nat.lt_succ_self _)
  refine ⟨by rw [upd_ne ne, upd_same], Nat.zero_le _, ne, e2, fun _ => none, (Heap.Ns1.of_empty e3).at fun o q => Heap.get?_push_of_some _ q, fun _ => True.intro, fun y hy => absurd rfl hy⟩
theorem attr_of {prog : Program} {w : World} {env : Env} {e : Expr} {f : Str} {pos : Pos} {s : Shared} {Q : Value → Shared → Prop} (hb : attributeBase e f env (eval e env) = eval e env)
    (h : wpAny (model prog w) A (eval e env) (fun o s₁ => wpAny (model prog w) A (getAttr o f true) Q E s₁) E s) : wpAny (model prog w) A (eval (.Attribute e f pos) env) Q E s :=
  Attribute_any_ h (by rw [arm_eval_Attribute, hb])
end
def tFld (K : PySem.W.Frag) (ta : TE) (f : Str) : TE := fun σ H Q => ta σ H fun x H1 => ∃ a C dx fs v, x = .ref a ∧ H1 a = some (.ins C dx fs) ∧ Cls K C ∧ NoAttr K C f ∧ fs.lookup f = some v ∧ Q v H1
def sFld (K : PySem.W.Frag) (ta tv : TE) (f : Str) : TS := fun D σ H => tv σ H fun y H1 => ta σ H1 fun x H2 => ∃ a C dx fs, x = .ref a ∧ H2 a = some (.ins C dx fs) ∧ Cls K C ∧ NoAttr K C f ∧ fs.length < 1000 ∧
  D.nx σ (upd H2 a (.ins C dx (putF f y fs)))
def InOp (X : Cx) (op : Operator) (rd : V → V → Hp → VK → Prop) : Prop :=
  ∀ (pins : List (Addr × Obj)) (s : Shared) (σ : St) (H : Hp) (x y : V) (u v : Value) (Q : VK), Inv X pins σ H s → RelV x u → RelV y v → rd x y H Q → wpAny (model X.prog X.w) X.A (inplaceOp op u v) (EP X pins σ Q) X.xe s
def sFldAug (K : PySem.W.Frag) (ta tv : TE) (rd : V → V → Hp → VK → Prop) (f : Str) : TS := fun D σ H => ta σ H fun x H1 => ∃ a C dx fs v, x = .ref a ∧ H1 a = some (.ins C dx fs) ∧ Cls K C ∧ NoAttr K C f ∧ fs.lookup f = some v ∧
  tv σ H1 fun y H2 => rd v y H2 fun z H3 => ∃ dx' fs', H3 a = some (.ins C dx' fs') ∧ fs'.length < 1000 ∧ D.nx σ (upd H3 a (.ins C dx' (putF f z fs')))
section
variable {X : Cx} {o e value : Expr} {f : Str} {pos pos' tpos : Pos} {ta tv : TE}
theorem pe_fld (he : PE X e ta) (hb : attributeBase e f X.env (eval e X.env) = eval e X.env) : PE X (.Attribute e f pos) (tFld X.K ta f) := by
  intro pins s σ H Q I h
  refine attr_of hb (thn (he pins s σ H _ I h) fun u s1 ⟨x, H1, I1, rx, a, C, dx, fs, v, ex, ea, c, n, l, q⟩ => ?_)
  subst ex
  obtain rfl : u = Value.ref a := rx
  exact getattr_ok I1 ea c n l fun u' s2 I2 ru => ⟨v, H1, I2, ru, q⟩
theorem ps_fld (ha : PE X o ta) (hv : PE X value tv) (hs : swapsWith value (some (.Attribute o f pos')) pos.line X.env = pure false) : PS X (.Assign [.Attribute o f pos'] value pos) (sFld X.K ta tv f) := by
  intro pins s σ H D I h
  refine plainObj_wpAny_Assign_Attribute (thn (hv pins s σ H _ I h) fun u s1 ⟨y, H1, I1, ry, q⟩ => thn (ha pins s1 σ H1 _ I1 q) fun ov s2 ⟨x, H2, I2, rx, a, C, dx, fs, ex, ea, c, n, l, q2⟩ => ?_) hs
  subst ex
  obtain rfl : ov = Value.ref a := rx
  exact setattr_ok I2 ea c n l ry fun s3 I3 => ⟨σ, _, I3, q2⟩
theorem ps_fldaug {op : Operator} {rd : V → V → Hp → VK → Prop} (ha : PE X o ta) (hv : PE X value tv) (hop : InOp X op rd) : PS X (.AugAssign (.Attribute o f tpos) op value pos) (sFldAug X.K ta tv rd f) := by
  intro pins s σ H D I h
  refine wpAny_AugAssign_AttributeAny (thn (ha pins s σ H _ I h) fun ov s1 ⟨x, H1, I1, rx, a, C, dx, fs, v, ex, ea, c, n, l, q⟩ => ?_)
  subst ex
  obtain rfl : ov = Value.ref a := rx
  refine getattr_ok I1 ea c n l fun u s2 I2 ru => thn (hv pins s2 σ H1 _ I2 q) fun w3 s3 ⟨y, H2, I3, ry, q3⟩ => thn (hop pins s3 σ H2 v y u w3 _ I3 ru ry q3) fun w4 s4 ⟨z, H3, I4, rz, dx', fs', ea', l', q4⟩ => ?_
  exact setattr_ok I4 ea' c n l' rz fun s5 I5 => ⟨σ, _, I5, q4⟩
def rSub : V → V → Hp → VK → Prop := fun x y H Q => ∃ i j, x = .int i ∧ y = .int j ∧ Q (.int (i - j)) H
theorem in_sub : InOp X .Sub rSub := by
  rintro pins s σ H x y u v Q I rx ry ⟨i, j, rfl, rfl, q⟩
  obtain ⟨t, rfl⟩ := (show ∃ t, u = Value.int i t from rx)
  obtain ⟨t', rfl⟩ := (show ∃ t', v = Value.int j t' from ry)
  exact PyProof.Rows.isub_int ⟨.int (i - j), H, I.tok _, ⟨_, rfl⟩, q⟩
end
section
variable {X : Cx} {pins : List (Addr × Obj)} {σ : St} {H : Hp} {s : Shared} {A : Around} {E : Value → Shared → Prop} {Q : Value → Shared → Prop} {c : Value} {b : Bool}
inductive TyOf (K : PySem.W.Frag) (H : Hp) : V → Value → Prop where
  | non : TyOf K H .non (.type "NoneType")
  | bl (x : Bool) : TyOf K H (.bl x) (.type "bool")
  | int (i : Int) : TyOf K H (.int i) (.type "int")
  | str (x : Str) : TyOf K H (.str x) (.type "str")
  | flt (x : UInt64) : TyOf K H (.flt x) (.type "float")
  | lst {a : Addr} {xs : List V} (e : H a = some (.lst xs)) : TyOf K H (.ref a) (.type "list")
  | frz {a : Addr} {o : Obj} {xs : List V} (e : H a = some (.frz o (.lst xs))) : TyOf K H (.ref a) (.type "list")
  | tup {a : Addr} {xs : List V} (e : H a = some (.tup xs)) : TyOf K H (.ref a) (.type "tuple")
  | dK {a : Addr} {kvs : List (Key × V)} (e : H a = some (.dK kvs)) : TyOf K H (.ref a) (.type "dict")
  | dT {a : Addr} {kvs : List (List Key × V)} (e : H a = some (.dT kvs)) : TyOf K H (.ref a) (.type "dict")
  | ins {a C dx : Addr} {fs : List (Str × V)} (e : H a = some (.ins C dx fs)) (cl : Cls K C) (ha : PySem.W.findIn K (.ref C) "__class__" = some (some (.builtin "object.__class__")))
      (hn : PySem.W.specialIn K (.builtin "object.__class__") "__get__" = some (some (.builtin "getset_descriptor.__get__"))) (htk : PySem.W.takesIn K (.builtin "object.__class__") = some true)
      (hm : PySem.W.mroIn K C (.type "object") = some true) : TyOf K H (.ref a) (.ref C)
theorem isinst_ok {x : V} {u t : Value} (I : Inv X pins σ H s) (rx : RelV x u) (ty : TyOf X.K H x t) (e : PySem.W.kitOne X.K t c = some b) (h : ∀ tk, Q (.bool b) { s with toks := tk }) :
    wpAny (model X.prog X.w) A (call (.builtin "isinstance") [u, c]) Q E s := by
  cases ty with
  | non => cases (show u = Value.none from rx); exact PySem.W.kia_one PySem.W.kitx_none I.kIn True.intro e (fun z => nomatch z) h
  | bl y => cases (show u = Value.bool y from rx); exact PySem.W.kia_one PySem.W.kitx_bool I.kIn True.intro e (fun z => nomatch z) h
  | int i => obtain ⟨t, q⟩ := (show ∃ t, u = Value.int i t from rx); cases q; exact PySem.W.kia_one PySem.W.kitx_int I.kIn True.intro e (fun z => nomatch z) h
  | str y => obtain ⟨t, q⟩ := (show ∃ t, u = Value.str y t from rx); cases q; exact PySem.W.kia_one PySem.W.kitx_str I.kIn True.intro e (fun z => nomatch z) h
  | flt y => obtain ⟨t, q⟩ := (show ∃ t, u = Value.float y t from rx); cases q; exact PySem.W.kia_one PySem.W.kitx_float I.kIn True.intro e (fun z => nomatch z) h
  | @lst a xs ea =>
    cases (show u = Value.ref a from rx)
    obtain ⟨_, _, n, _, h1⟩ := (show ObjOk X.prog X.w H s.heap a (.lst xs) from I.hok a _ ea)
    exact PySem.W.kia_one PySem.W.kitx_list I.kIn ⟨_, h1, rfl⟩ e (fun z => nomatch z) h
  | @frz a ob xs ea =>
    cases (show u = Value.ref a from rx)
    obtain ⟨_, _, _, n, _, h1⟩ := (show ObjOk X.prog X.w H s.heap a (.frz ob (.lst xs)) from I.hok a _ ea)
    exact PySem.W.kia_one PySem.W.kitx_list I.kIn ⟨_, h1, rfl⟩ e (fun z => nomatch z) h
  | @tup a xs ea =>
    cases (show u = Value.ref a from rx)
    obtain ⟨_, _, _, p⟩ := (show ObjOk X.prog X.w H s.heap a (.tup xs) from I.hok a _ ea)
    obtain ⟨o, h1, h2, _⟩ := p
    exact PySem.W.kia_one PySem.W.kitx_tuple I.kIn ⟨o, h1, h2⟩ e (fun z => nomatch z) h
  | @dK a kvs ea =>
    cases (show u = Value.ref a from rx)
    obtain ⟨_, _, vs, _, p⟩ := (show ObjOk X.prog X.w H s.heap a (.dK kvs) from I.hok a _ ea)
    obtain ⟨o, es, ep, h1, h2, _⟩ := p
    exact PySem.W.kia_one PySem.W.kitx_dict I.kIn ⟨o, h1, h2.1⟩ e (fun z => nomatch z) h
  | @dT a kvs ea =>
    cases (show u = Value.ref a from rx)
    obtain ⟨_, _, xs, _, o, es, ep, h1, h2, _⟩ := (show ObjOk X.prog X.w H s.heap a (.dT kvs) from I.hok a _ ea)
    exact PySem.W.kia_one PySem.W.kitx_dict I.kIn ⟨o, h1, h2.1⟩ e (fun z => nomatch z) h
  | @ins a C dx fs ea cl ha hn htk hm =>
    cases (show u = Value.ref a from rx)
    obtain ⟨mA, O, _⟩ := ins_get I.hok ea
    obtain ⟨od, J, _⟩ := O.look
    exact PySem.W.kia_one (PySem.W.kitx_own (cl.get _) cl.hd ha hn htk hm) I.kIn J e (fun z => nomatch z) h
end
end L2
namespace L2
open PySem PySem.Spec PyProof.Rows
structure Room (k : Nat) (A : Around) : Prop where
  hd : A.handled = none
  dp : A.depth + 3 * k + 5 < recursionLimit
  un : A.units + 16 * k + 200 < cLine
theorem Room.mono {j k : Nat} {A : Around} (r : Room k A) (h : j ≤ k) : Room j A := ⟨r.hd, by have := r.dp; omega, by have := r.un; omega⟩
theorem Room.deeper {k : Nat} {A : Around} (r : Room (k + 1) A) (env : Env) : Room k (A.deeper env) :=
  ⟨r.hd, by have := r.dp; show A.depth + 1 + 3 * k + 5 < _; omega, by have := r.un; show A.units + 3 + 16 * k + 200 < _; omega⟩
theorem make_depth {A : Around} {C : Addr} {us : List Value} {kw : List (Str × Value)} : (A.under (.builtin "type.__call__" ⟨.ref C :: us, kw⟩)).depth = A.depth + 1 := by
  first | rfl | simp [Around.under, Code.weight, Code.isCreation, Code.isGuard, Code.isCaller, Code.frames, Code.isFrame, guardIds]
theorem make_units {A : Around} {C : Addr} {us : List Value} {kw : List (Str × Value)} : (A.under (.builtin "type.__call__" ⟨.ref C :: us, kw⟩)).units = A.units + 1 := by
  first | rfl | simp [Around.under, Code.cUnits, Code.frames, Code.isFrame]
theorem Room.make {k : Nat} {A : Around} (r : Room (k + 1) A) (C : Addr) (us : List Value) (kw : List (Str × Value)) : Room k (A.under (.builtin "type.__call__" ⟨.ref C :: us, kw⟩)) :=
  ⟨r.hd, by have := r.dp; rw [make_depth]; omega, by have := r.un; rw [make_units]; omega⟩
theorem Room.depth {k : Nat} {A : Around} (r : Room k A) : A.depth < recursionLimit := by have := r.dp; omega
theorem Room.units {k : Nat} {A : Around} (r : Room k A) : A.units + 64 < cLine := by have := r.un; omega
def tNil : TA := fun _ H Q => Q [] H
def tCons (ta : TE) (tr : TA) : TA := fun σ H Q => ta σ H fun x H1 => tr σ H1 fun xs H2 => Q (x :: xs) H2
section
variable {X : Cx} {e : Expr} {es : List Expr} {te : TE} {t : TA} {pos : Pos}
theorem pa_nil : PA X [] tNil := fun _ _ _ _ H Q I h => Calls.spliced_nil ⟨[], H, I, .nil, h⟩
theorem pa_cons (ha : PE X e te) (hr : PA X es t) (hs : starEach (e :: es) X.env = (false, eval e X.env) :: starEach es X.env := by rfl) : PA X (e :: es) (tCons te t) := by
  intro pos pins s σ H Q I h
  rw [hs]
  show wpAny _ _ (spliced ((false, eval e X.env) :: backTo pos (starEach es X.env))) _ _ s
  refine Calls.spliced_cons (thn (ha pins s σ H _ I h) fun u s1 ⟨x, H1, I1, r1, q1⟩ => ?_)
  exact thn (hr pos pins s1 σ H1 _ I1 q1) fun us s2 ⟨xs, H2, I2, r2, q2⟩ => ⟨x :: xs, H2, I2, .cons r1 r2, q2⟩
def tTup (t : TA) : TE := fun σ H Q => t σ H fun xs H1 => xs.length ≤ sizeLine ∧ ∀ p, H1 p = none → Q (.ref p) (upd H1 p (.tup xs))
def tLst (t : TA) : TE := fun σ H Q => t σ H fun xs H1 => xs.length ≤ sizeLine ∧ ∀ p, H1 p = none → Q (.ref p) (upd H1 p (.lst xs))
theorem pe_tup {x1} (h : PA X es t) : PE X (.Tuple es x1 pos) (tTup t) := by
  intro pins s σ H Q I hq
  refine wpAny_Tuple_spliced (thn (h pos pins s σ H _ I hq) fun us s1 ⟨xs, H1, I1, r, z, q⟩ => ⟨by rw [← r.length]; exact z, ?_⟩)
  have hf : H1 s1.heap.objs.size = none := I1.hok.fresh (Nat.le_refl _)
  refine ⟨.ref s1.heap.objs.size, upd H1 s1.heap.objs.size (.tup xs), I1.laid (t' := s1.toks) (fun b u e => Heap.get?_push_of_some _ e) (Nat.le_refl _) ?_, rfl, q _ hf⟩
  exact ⟨z, us, r, ⟨_, Heap.get?_push_size _ rfl, rfl, _, rfl⟩⟩
theorem pe_lst (h : PA X es t) : PE X (.List es pos) (tLst t) := by
  intro pins s σ H Q I hq
  refine wpAny_List_spliced (thn (h pos pins s σ H _ I hq) fun us s1 ⟨xs, H1, I1, r, z, q⟩ => ⟨by rw [← r.length]; exact z, ?_⟩)
  have hf : H1 s1.heap.objs.size = none := I1.hok.fresh (Nat.le_refl _)
  refine ⟨.ref s1.heap.objs.size, upd H1 s1.heap.objs.size (.lst xs), I1.laid (t' := s1.toks) (fun b u e => Heap.get?_push_of_some _ e) (Nat.le_refl _) ?_, rfl, q _ hf⟩
  exact ⟨z, us, 0, r, Heap.get?_push_size _ rfl⟩
end
abbrev Sp := List V → Hp → VK → XK → Prop
abbrev CXT := List Env → Hp → Shared → XK → Value → Shared → Prop
structure Env0 (P : Program) (w : World) (K : PySem.W.Frag) (mg : Str → Option Value) (base : Heap) (A : Around) (outer : List Env) (s : Shared) (H : Hp) : Prop where
  frames : A.frames = some outer
  mod : Mod K mg base
  bs : ∀ b o, base.get? b = some o → s.heap.get? b = some o ∧ H b = none
  bsz : base.objs.size ≤ s.heap.objs.size
  funs : s.heap.FunFrames base outer
  frf : ∀ b ∈ frs outer, H b = none
  hok : HOk P w H s.heap
  bare : AllBare s.gens
def CE (outer : List Env) (P : Program) (w : World) (H : Hp) (s : Shared) (Q : VK) (u : Value) (s' : Shared) : Prop :=
  ∃ v H', s'.os = s.os ∧ AllBare s'.gens ∧ Un (frs outer) [] H H' s.heap s'.heap ∧ HOk P w H' s'.heap ∧ RelV v u ∧ Q v H'
def CR (CX : CXT) (outer : List Env) (P : Program) (w : World) (H : Hp) (s : Shared) (Q : VK) (E : XK) (r : Result) (s' : Shared) : Prop :=
  match r with
  | .ok (.ret u) => CE outer P w H s Q u s'
  | .ok _ => False
  | .error e => CX outer H s E e s'
structure FnOk (P : Program) (w : World) (K : PySem.W.Frag) (mg : Str → Option Value) (base : Heap) (CX : CXT) (k : Nat) (f : Addr) (fd : FuncData) (ps : List Str) (sp : Sp) : Prop where
  len : ∀ vs H Q E, sp vs H Q E → vs.length = ps.length
  run : ∀ (A : Around) (outer : List Env) (s : Shared) (H : Hp) (args : Args) (us : List Value) (vs : List V) (Q : VK) (E : XK), Room k A → Env0 P w K mg base A outer s H → BindsTo s fd args (ps.zip us) → Vals vs us → sp vs H Q E →
    codeAny (model P w) A (.call (.ref f) args) (CR CX outer P w H s Q E) s
theorem Env0.make {P : Program} {w : World} {K : PySem.W.Frag} {mg : Str → Option Value} {base : Heap} {A : Around} {outer : List Env} {s : Shared} {H : Hp} (e : Env0 P w K mg base A outer s H) (C : Addr) (us : List Value) (kw : List (Str × Value)) :
    Env0 P w K mg base (A.under (.builtin "type.__call__" ⟨.ref C :: us, kw⟩)) outer s H := ⟨by first | exact e.frames | (simpa [Around.under, Code.envs, Code.isFrame, pushEnvs] using e.frames), e.mod, e.bs, e.bsz, e.funs, e.frf, e.hok, e.bare⟩
section
variable {X : Cx} {pins : List (Addr × Obj)} {σ : St} {H : Hp} {s s' : Shared}
theorem Inv.env0 (I : Inv X pins σ H s) : Env0 X.prog X.w X.K X.mg X.base X.A X.stack s H :=
  ⟨I.ok.frames, I.ok.mod, I.bs, Nat.le_trans I.ok.bsz I.sz, I.stack, I.stkFree, I.hok, I.bare⟩
theorem Inv.after {Q : VK} {u : Value} (I : Inv X pins σ H s) (h : CE X.stack X.prog X.w H s Q u s') : EP X pins σ Q u s' := by
  obtain ⟨v, H', os, bare, un, hok, r, q⟩ := h
  obtain ⟨hh, g, d, t, os'⟩ := s'
  obtain rfl : os' = s.os := os
  exact ⟨v, H', I.call (h' := hh) (g' := g) (d' := d) (t' := t) (ch := []) un hok bare (fun b z => absurd z (by simp)), r, q⟩
end
def tCall (sp : Sp) (dvs : List V) (E : XK) (t : TA) : TE := fun σ H Q => t σ H fun vs H1 => sp (vs ++ dvs) H1 Q E
def tMeth (C : Addr) (m : Str) (sp : Sp) (dvs : List V) (E : XK) (ta : TE) (t : TA) : TE := fun σ H Q => ta σ H fun x H1 => ∃ a dx fs, x = .ref a ∧ H1 a = some (.ins C dx fs) ∧ fs.lookup m = none ∧
  t σ H1 fun vs H2 => sp (x :: (vs ++ dvs)) H2 Q E
def tMake (C : Addr) (sp : Sp) (dvs : List V) (E : XK) (t : TA) : TE := fun σ H Q => t σ H fun vs H1 => ∀ x dx, H1 x = none → H1 dx = none → dx ≠ x →
  sp (.ref x :: (vs ++ dvs)) (upd (upd H1 dx (.own x)) x (.ins C dx [])) (fun v H2 => v = .non ∧ Q (.ref x) H2) E
def Binds (K : PySem.W.Frag) (fd : FuncData) (ps : List Str) (ds : List Value) : Prop :=
  ∀ (s : Shared) (us : List Value), K.In s.heap → (us ++ ds).length = ps.length → BindsTo s fd ⟨us, []⟩ (ps.zip (us ++ ds))
theorem Binds.all {K : PySem.W.Frag} {fd : FuncData} {ps : List Str} (h : ∀ us : List Value, us.length = ps.length → bindArgs fd ⟨us, []⟩ = pure (ps.zip us)) : Binds K fd ps [] := fun s us _ hl => by
  rw [List.append_nil] at hl ⊢
  exact .of_eq (h us hl)
def Passes (CX : CXT) (X : Cx) (E : XK) : Prop := ∀ (pins : List (Addr × Obj)) (σ : St) (H : Hp) (s : Shared) (e : Value) (s' : Shared), Inv X pins σ H s → CX X.stack H s E e s' → X.xe e s'
section
variable {X : Cx} {CX : CXT} {k : Nat} {f C : Addr} {fd : FuncData} {ps : List Str} {sp : Sp} {dvs : List V} {ds : List Value} {E : XK} {x m : Str} {p pos apos : Pos} {e o : Expr} {es : List Expr} {ta : TE} {t : TA}
theorem run_fn {pins : List (Addr × Obj)} {σ : St} {H : Hp} {s : Shared} {Q : VK} {us : List Value} {vs : List V} (F : FnOk X.prog X.w X.K X.mg X.base CX k f fd ps sp) (hr : Room k X.A) (hb : Binds X.K fd ps ds) (hd : Vals dvs ds) (hx : Passes CX X E)
    (I : Inv X pins σ H s) (r : Vals vs us) (h : sp (vs ++ dvs) H Q E) : wpAny (model X.prog X.w) X.A (call (.ref f) us) (EP X pins σ Q) X.xe s := by
  have r2 : Vals (vs ++ dvs) (us ++ ds) := r.append hd
  have hl : (us ++ ds).length = ps.length := by rw [← r2.length]; exact F.len _ _ _ _ h
  refine wpAny_call (codeAny_mono (F.run X.A X.stack s H ⟨us, []⟩ (us ++ ds) (vs ++ dvs) Q E hr I.env0 (hb s us I.kIn hl) r2 h) fun r s' hq => ?_)
  cases r with
  | error e => exact hx pins σ H s e s' I hq
  | ok fl =>
    cases fl with
    | ret u => exact I.after hq
    | next => exact False.elim hq
    | brk => exact False.elim hq
    | cont => exact False.elim hq
theorem pe_call (F : FnOk X.prog X.w X.K X.mg X.base CX k f fd ps sp) (hr : Room k X.A) (hg : Gl X x) (hm : X.mg x = some (.ref f)) (hk : PySem.W.keepIn X.K (.ref f) = true) (hb : Binds X.K fd ps ds) (hd : Vals dvs ds) (hx : Passes CX X E)
    (ha : PA X (e :: es) t) (hdb : (x == ("__debug__" : Str)) = false := by decide) (he : starEach (e :: es) X.env = (false, eval e X.env) :: starEach es X.env := by rfl) (hpl : (backTo pos (starEach es X.env)).any (·.1) = false := by rfl) :
    PE X (.Call (.Name x p) (e :: es) [] pos) (tCall sp dvs E t) := by
  intro pins s σ H Q I h
  refine wpAny_Call_Name_kw (ld_glob I hg hm ?_ hdb)
  refine PySem.W.callWith_K (h₀ := X.base) I.ok.mod.kin hk (thn (ha pos pins s σ H _ I h) fun us s1 ⟨vs, H1, I1, r, q⟩ => ⟨I1.kIn, ?_⟩) he hpl
  exact run_fn F hr hb hd hx I1 r q
theorem pe_meth {pl : Sem Bool} (he : PE X o ta) (c : Cls X.K C) (hm : Meth X.K C m f) (F : FnOk X.prog X.w X.K X.mg X.base CX k f fd ps sp) (hr : Room k X.A) (hb : Binds X.K fd ps ds) (hd : Vals dvs ds) (hx : Passes CX X E) (ha : PA X (e :: es) t)
    (hst : starEach (e :: es) X.env = (false, eval e X.env) :: starEach es X.env := by rfl) (hpl : (backTo pos (starEach es X.env)).any (·.1) = false := by rfl)
    (ht : eval (.Call (.Attribute o m apos) (e :: es) [] pos) X.env = (do
      let ov ← eval o X.env
      standAt apos.atName
      let (f, first) ← holding [ov] (getMethod ov m pl)
      callWith pos f first (backTo pos (starEach (e :: es) X.env)) (backToKw pos (keywordEach [] X.env))) := by rfl) :
    PE X (.Call (.Attribute o m apos) (e :: es) [] pos) (tMeth C m sp dvs E ta t) := by
  intro pins s σ H Q I h
  refine PySem.W.methodCall_KW (pl := pl) (thn (he pins s σ H _ I h) fun u s1 ⟨x, H1, I1, rx, a, dx, fs, ex, ea, l, q⟩ => ?_) ht
  subst ex
  obtain rfl : u = Value.ref a := rx
  refine getmeth_ok I1 ea c hm l ?_
  refine PySem.W.callWith_K (first := [.ref a]) (h₀ := X.base) I.ok.mod.kin hm.kp (thn (ha pos pins s1 σ H1 _ I1 q) fun us s2 ⟨vs, H2, I2, r, q2⟩ => ⟨I2.kIn, ?_⟩) hst hpl
  exact run_fn (us := .ref a :: us) (vs := .ref a :: vs) F hr hb hd hx I2 (.cons rfl r) q2
theorem pe_meth0 {pl : Sem Bool} (he : PE X o ta) (c : Cls X.K C) (hm : Meth X.K C m f) (F : FnOk X.prog X.w X.K X.mg X.base CX k f fd ps sp) (hr : Room k X.A) (hb : Binds X.K fd ps ds) (hd : Vals dvs ds) (hx : Passes CX X E)
    (ht : eval (.Call (.Attribute o m apos) [] [] pos) X.env = (do
      let ov ← eval o X.env
      standAt apos.atName
      let (f, first) ← holding [ov] (getMethod ov m pl)
      callWith pos f first (backTo pos (starEach [] X.env)) (backToKw pos (keywordEach [] X.env))) := by rfl) :
    PE X (.Call (.Attribute o m apos) [] [] pos) (tMeth C m sp dvs E ta tNil) := by
  intro pins s σ H Q I h
  refine PySem.W.methodCall_KW (pl := pl) (thn (he pins s σ H _ I h) fun u s1 ⟨x, H1, I1, rx, a, dx, fs, ex, ea, l, q⟩ => ?_) ht
  subst ex
  obtain rfl : u = Value.ref a := rx
  refine getmeth_ok I1 ea c hm l ?_
  exact PySem.W.callWith_K0 (first := [.ref a]) I1.kIn hm.kp (run_fn (us := [.ref a]) (vs := [.ref a]) F hr hb hd hx I1 (.cons rfl .nil) q)
structure Mk (K : PySem.W.Frag) (C f : Addr) : Prop where
  makes : PySem.W.makesIn K C = true
  init : PySem.W.findIn K (.ref C) "__init__" = some (some (.ref f))
  fn : PySem.W.isFn K (.ref f) = true
  kp : PySem.W.keepIn K (.ref C) = true
theorem run_make {pins : List (Addr × Obj)} {σ : St} {H : Hp} {s : Shared} {Q : VK} {us : List Value} {vs : List V} (M : Mk X.K C f) (F : FnOk X.prog X.w X.K X.mg X.base CX k f fd ps sp) (hr : Room (k + 1) X.A) (hb : Binds X.K fd ps ds) (hd : Vals dvs ds)
    (hx : Passes CX X E) (I : Inv X pins σ H s) (r : Vals vs us)
    (h : ∀ x dx, H x = none → H dx = none → dx ≠ x → sp (.ref x :: (vs ++ dvs)) (upd (upd H dx (.own x)) x (.ins C dx [])) (fun v H2 => v = .non ∧ Q (.ref x) H2) E) :
    wpAny (model X.prog X.w) X.A (call (.ref C) us) (EP X pins σ Q) X.xe s := by
  have hq := h (s.heap.objs.size + 1) s.heap.objs.size (I.hok.fresh (Nat.le_succ _)) (I.hok.fresh (Nat.le_refl _)) (Nat.ne_of_lt (Nat.lt_succ_self _))
  have I2 := Inv.made (C := C) I
  have r2 : Vals (V.ref (s.heap.objs.size + 1) :: (vs ++ dvs)) (Value.ref (s.heap.objs.size + 1) :: (us ++ ds)) := .cons rfl (r.append hd)
  have hl : (Value.ref (s.heap.objs.size + 1) :: us ++ ds).length = ps.length := by
    have e := r2.length
    rw [F.len _ _ _ _ hq] at e
    exact e.symm
  refine wpAny_call (make_map (f := f) I.kIn M.makes M.init (beq_iff_eq.mp M.fn) (codeAny_mono (F.run _ X.stack _ _ ⟨Value.ref (s.heap.objs.size + 1) :: us, []⟩ (Value.ref (s.heap.objs.size + 1) :: (us ++ ds)) _ _ E (hr.make C us [])
    (I2.env0.make C us []) (hb _ (Value.ref (s.heap.objs.size + 1) :: us) I2.kIn hl) r2 hq) fun r s' hq' => ?_))
  cases r with
  | error e => exact hx pins σ _ _ e s' I2 hq'
  | ok fl =>
    cases fl with
    | ret u =>
      obtain ⟨v, H', I3, rv, ev, q3⟩ := I2.after hq'
      subst ev
      exact ⟨rv, ⟨V.ref (s.heap.objs.size + 1), H', I3, rfl, q3⟩⟩
    | next => exact False.elim hq'
    | brk => exact False.elim hq'
    | cont => exact False.elim hq'
theorem pe_make (M : Mk X.K C f) (F : FnOk X.prog X.w X.K X.mg X.base CX k f fd ps sp) (hr : Room (k + 1) X.A) (hg : Gl X x) (hm : X.mg x = some (.ref C)) (hb : Binds X.K fd ps ds) (hd : Vals dvs ds) (hx : Passes CX X E)
    (ha : PA X (e :: es) t) (hdb : (x == ("__debug__" : Str)) = false := by decide) (he : starEach (e :: es) X.env = (false, eval e X.env) :: starEach es X.env := by rfl) (hpl : (backTo pos (starEach es X.env)).any (·.1) = false := by rfl) :
    PE X (.Call (.Name x p) (e :: es) [] pos) (tMake C sp dvs E t) := by
  intro pins s σ H Q I h
  refine wpAny_Call_Name_kw (ld_glob I hg hm ?_ hdb)
  refine PySem.W.callWith_K (h₀ := X.base) I.ok.mod.kin M.kp (thn (ha pos pins s σ H _ I h) fun us s1 ⟨vs, H1, I1, r, q⟩ => ⟨I1.kIn, ?_⟩) he hpl
  exact run_make M F hr hb hd hx I1 r q
theorem pe_make0 (M : Mk X.K C f) (F : FnOk X.prog X.w X.K X.mg X.base CX k f fd ps sp) (hr : Room (k + 1) X.A) (hg : Gl X x) (hm : X.mg x = some (.ref C)) (hb : Binds X.K fd ps ds) (hd : Vals dvs ds) (hx : Passes CX X E)
    (hdb : (x == ("__debug__" : Str)) = false := by decide) : PE X (.Call (.Name x p) [] [] pos) (tMake C sp dvs E tNil) := by
  intro pins s σ H Q I h
  refine wpAny_Call_Name_kw (ld_glob I hg hm ?_ hdb)
  exact PySem.W.callWith_K0 I.kIn M.kp (run_make (us := []) M F hr hb hd hx I .nil h)
end
section
variable {X : Cx} {CX : CXT} {k : Nat} {f C : Addr} {fd : FuncData} {ps ks : List Str} {sp : Sp} {E : XK} {x m : Str} {p pos apos kpos : Pos} {e o : Expr} {es : List Expr} {kws : List Keyword} {te ta : TE} {t tk : TA} {nm : Option Str}
variable {g : List Value → List Value → List Value} {gV : List V → List V → List V}
end
structure FnScope (N P : List Str) (sc : Scope) : Prop where
  kind : sc.kind = .function
  co : sc.isCoroutine = false
  gen : sc.isGenerator = false
  nd : N.Nodup
  pre : N.take P.length = P
  par : ∀ x ∈ P, sc.names.lookup x = some .local ∨ sc.names.lookup x = some .cell
  nofree : ∀ y ∈ sc.names, y.2 ≠ .free
theorem bindL_out {kindOf : Str → Option NameKind} {x : Str} : ∀ {binds : List (Str × Value)} {m : Str → Option Value}, (∀ v, (x, v) ∉ binds) → bindL kindOf binds m x = m x
  | [], _, _ => rfl
  | (n, v) :: r, m, h => by
    unfold bindL
    rw [bindL_out fun w hw => h w (List.mem_cons_of_mem _ hw)]
    split
    · have : x ≠ n := by rintro rfl; exact h v List.mem_cons_self
      simp [this]
    · rfl
theorem bindC_out {kindOf : Str → Option NameKind} {x : Str} : ∀ {binds : List (Str × Value)} {m : Str → Option Value}, (∀ v, (x, v) ∉ binds) → bindC kindOf binds m x = m x
  | [], _, _ => rfl
  | (n, v) :: r, m, h => by
    unfold bindC
    rw [bindC_out fun w hw => h w (List.mem_cons_of_mem _ hw)]
    split
    · rfl
    · have : x ≠ n := by rintro rfl; exact h v List.mem_cons_self
      simp [this]
theorem bindL_get {kindOf : Str → Option NameKind} {x : Str} {v : Value} : ∀ {P : List Str} {vs : List Value} {i : Nat} {m : Str → Option Value}, P.Nodup → P[i]? = some x → vs[i]? = some v → kindOf x = some .local →
    bindL kindOf (P.zip vs) m x = some v
  | [], _, _, _, _, h, _, _ => by simp at h
  | _ :: _, [], _, _, _, _, h, _ => by simp at h
  | p :: P, w :: vs, 0, m, nd, h1, h2, hk => by
    simp at h1 h2; subst h1; subst h2
    show bindL kindOf ((p, w) :: P.zip vs) m p = _
    unfold bindL
    rw [bindL_out fun v hv => (List.nodup_cons.mp nd).1 (List.of_mem_zip hv).1, if_pos hk]
    simp
  | p :: P, w :: vs, i + 1, m, nd, h1, h2, hk => by
    show bindL kindOf ((p, w) :: P.zip vs) m x = _
    unfold bindL
    exact bindL_get (i := i) (List.nodup_cons.mp nd).2 (by simpa using h1) (by simpa using h2) hk
theorem bindC_get {kindOf : Str → Option NameKind} {x : Str} {v : Value} : ∀ {P : List Str} {vs : List Value} {i : Nat} {m : Str → Option Value}, P.Nodup → P[i]? = some x → vs[i]? = some v → kindOf x ≠ some .local →
    bindC kindOf (P.zip vs) m x = some v
  | [], _, _, _, _, h, _, _ => by simp at h
  | _ :: _, [], _, _, _, _, h, _ => by simp at h
  | p :: P, w :: vs, 0, m, nd, h1, h2, hk => by
    simp at h1 h2; subst h1; subst h2
    show bindC kindOf ((p, w) :: P.zip vs) m p = _
    unfold bindC
    rw [bindC_out fun v hv => (List.nodup_cons.mp nd).1 (List.of_mem_zip hv).1, if_neg hk]
    simp
  | p :: P, w :: vs, i + 1, m, nd, h1, h2, hk => by
    show bindC kindOf ((p, w) :: P.zip vs) m x = _
    unfold bindC
    exact bindC_get (i := i) (List.nodup_cons.mp nd).2 (by simpa using h1) (by simpa using h2) hk
def start (N : List Str) (vs : List V) : St := vs.map some ++ List.replicate (N.length - vs.length) none
def cxOf (CX : CXT) (P : Program) (w : World) (K : PySem.W.Frag) (mg : Str → Option Value) (base : Heap) (N : List Str) (qual : Str) (scope : Scope) (f : Addr) (cd : Value) (A : Around) (outer : List Env) (s : Shared) (H : Hp) (E : XK) : Cx where
  prog := P
  w := w
  K := K
  mg := mg
  base := base
  A := A.deeper (envOfC qual scope s.heap.objs.size f cd)
  N := N
  s₀ := s
  H₀ := H
  env := envOfC qual scope s.heap.objs.size f cd
  outer := outer
  stack := envOfC qual scope s.heap.objs.size f cd :: outer
  ex := []
  calm := true
  fn := fun _ => true
  pn := []
  xe := fun e s' => wpAny (model P w) (A.deeper (envOfC qual scope s.heap.objs.size f cd)) (leaving (envOfC qual scope s.heap.objs.size f cd) e) (fun _ s'' => CX outer H s E e s'') (fun e' s'' => CX outer H s E e' s'') s'
theorem cell_has {sc : Scope} {n : Nat} {x : Str} (h : sc.names.lookup x = some .cell) : ∃ c, (cellsFrom n sc.names []).lookup x = some c := by
  have q := PySem.W.cellsFrom_some sc.names n [] (.inl h)
  exact Option.isSome_iff_exists.mp q
theorem inv_start {CX : CXT} {P : Program} {w : World} {K : PySem.W.Frag} {mg : Str → Option Value} {base : Heap} {N ps : List Str} {qual : Str} {scope : Scope} {f : Addr} {cd : Value} {A : Around} {outer : List Env} {s s1 : Shared} {H : Hp} {E : XK} {us : List Value} {vs : List V}
    (S : FnScope N ps scope) (hd : A.handled = none) (e0 : Env0 P w K mg base A outer s H) (hl : vs.length = ps.length) (r : Vals vs us)
    (x : InCallC s s.heap.objs.size (bindL (envOfC qual scope s.heap.objs.size f cd).kindOf (ps.zip us) fun _ => none) (cellsFrom (s.heap.objs.size + 1) scope.names []) (bindC (envOfC qual scope s.heap.objs.size f cd).kindOf (ps.zip us) fun _ => none) s1) :
    Inv (cxOf CX P w K mg base N qual scope f cd A outer s H E) [] (start N vs) H s1 := by
  have hpl : ps.length ≤ N.length := by have := congrArg List.length S.pre; rw [List.length_take] at this; omega
  obtain ⟨h1, tk, rfl, hk⟩ := x.done
  have noA : ∀ b : Addr, b ∉ (cxOf CX P w K mg base N qual scope f cd A outer s H E).ex := fun b z => absurd (show b ∈ ([] : List Addr) from z) (by simp)
  refine ⟨⟨e0.mod, S.kind, rfl, rfl, Nat.le_refl _, fun y z c h1 h2 => ?_, fun y hy => ?_, fun y c _ h => ?_, fun _ => hd, Around.frames_deeper e0.frames, .inr ⟨rfl, rfl⟩, fun b z => absurd z (noA b), e0.bs, e0.bsz, fun b _ _ => noA b, fun b z => absurd z (noA b), e0.funs, e0.frf⟩,
    rfl, e0.bare, Un.kept hk, ⟨_, x.toInCall.ns, fun i y v h1 h2 h3 => ?_⟩, fun y c h => ⟨_, x.cell y c h⟩, e0.hok.fresh (Nat.le_refl _), fun y c h => ?_, fun p hp => absurd (show p ∈ ([] : List (Addr × Obj)) from hp) (by simp), e0.hok.kept hk, ?_⟩
  · exact name_of_addr x.apart (PySem.mem_of_lookup h1) (PySem.mem_of_lookup h2)
  · have hy : scope.names.lookup y = some .cell ∨ scope.names.lookup y = some .free := hy
    rcases hy with hy | hy
    · exact cell_has hy
    · exact absurd rfl (S.nofree _ (PySem.mem_of_lookup hy))
  · exact Nat.le_of_lt (x.above y c (PySem.mem_of_lookup h))
  · have hi : i < vs.length := by
      unfold start at h2
      by_cases hi : i < vs.length
      · exact hi
      · rw [List.getElem?_append_right (by simpa using hi)] at h2
        rw [List.getElem?_replicate] at h2
        split at h2 <;> cases h2
    have ha : vs[i]? = some v := by
      unfold start at h2
      rw [List.getElem?_append_left (by simpa using hi), List.getElem?_map] at h2
      cases e : vs[i]? with
      | none => rw [e] at h2; cases h2
      | some a => rw [e] at h2; cases h2; rfl
    obtain ⟨u, hu, rv⟩ := r.get ha
    have hp : ps[i]? = some y := by
      rw [← S.pre, List.getElem?_take_of_lt (by omega)]; exact h1
    have ndP : ps.Nodup := by rw [← S.pre]; exact S.nd.sublist (List.take_sublist _ _)
    refine ⟨u, rv, ?_⟩
    rcases S.par y (List.mem_of_getElem? hp) with k | k
    · exact .inl ⟨k, bindL_get ndP hp hu k⟩
    · obtain ⟨c, e⟩ := cell_has (n := s.heap.objs.size + 1) k
      refine .inr ⟨.inl k, c, e, ?_⟩
      have q := x.cell y c e
      rw [bindC_get ndP hp hu (by show scope.names.lookup y ≠ _; rw [k]; decide)] at q
      exact q
  · exact e0.hok.fresh (Nat.le_of_lt (x.above y c (PySem.mem_of_lookup h)))
  · unfold start
    show _ = N.length
    rw [List.length_append, List.length_map, List.length_replicate]
    omega
theorem fn_of {CX : CXT} {P : Program} {w : World} {K : PySem.W.Frag} {mg : Str → Option Value} {base : Heap} {k : Nat} {f : Addr} {name qual : Str} {params : Arguments} {body : List Stmt} {scope : Scope} {dV kV doc pm cdv ct oc : Value} {an od : Option Addr}
    {osl : Array (Option Value)} {N ps : List Str} {sp : Sp} (lk : K.lookup f = some ⟨oc, od, .func (PySem.W.fnOf name qual params body scope dV kV doc pm an cdv ct), osl⟩) (hcd : PySem.W.codeIn K cdv qual = true) (S : FnScope N ps scope)
    (len : ∀ vs H Q E, sp vs H Q E → vs.length = ps.length)
    (hbody : ∀ (A : Around) (outer : List Env) (s : Shared) (H : Hp) (vs : List V) (Q : VK) (E : XK), Room k (A.deeper (envOfC qual scope s.heap.objs.size f cdv)) → sp vs H Q E →
      ∃ t, PSs (cxOf CX P w K mg base N qual scope f cdv A outer s H E) body t ∧ t { nx := fun _ H' => Q .non H', rt := Q } (start N vs) H) :
    FnOk P w K mg base CX (k + 1) f (PySem.W.fnOf name qual params body scope dV kV doc pm an cdv ct) ps sp := by
  refine ⟨len, fun A outer s H args us vs Q E hr e0 hb r hsp => ?_⟩
  have hl := len _ _ _ _ hsp
  have KX : K.In s.heap := e0.mod.kin.keeps fun b o e => (e0.bs b o e).1
  have lim : s.heap.NoLimit := e0.mod.nolimit.keeps fun b o e => (e0.bs b o e).1
  have hkind : ∀ y ∈ ps.zip us, scope.names.lookup y.1 = some .local ∨ (scope.names.lookup y.1 = some .cell ∧ ((cellsFrom (s.heap.objs.size + 1) scope.names []).lookup y.1).isSome = true) := fun ⟨n, v⟩ hy => by
    rcases S.par n (List.of_mem_zip hy).1 with q | q
    · exact .inl q
    · exact .inr ⟨q, PySem.W.cellsFrom_some _ _ _ (.inl q)⟩
  refine codeAny_call_function hr.depth (KX _ _ lk) rfl S.co S.gen rfl (PySem.W.codeRec_of KX hcd) (hb _ _ _ _ ?_)
  refine wpAny_newFunctionEnv_cells S.kind hkind fun env he s1 x => ?_
  subst he
  refine ⟨lim.keeps x.toInCall.keep, codeAny_func ?_⟩
  obtain ⟨t, ht, hq⟩ := hbody A outer s H vs Q E (hr.deeper _) hsp
  have I : Inv (cxOf CX P w K mg base N qual scope f cdv A outer s H E) [] (start N vs) H s1 := inv_start S hr.hd e0 hl r x
  refine wpAny_mono (ht [] s1 (start N vs) H _ I hq) (fun fl s' hs => ?_) fun e s' hs => hs
  have fin : ∀ {σ' : St} {H' : Hp} {v : V} {u : Value}, Inv (cxOf CX P w K mg base N qual scope f cdv A outer s H E) [] σ' H' s' → RelV v u → Q v H' → CE outer P w H s Q u s' :=
    fun {σ' H' v u} J rv q => ⟨v, H', J.os, J.bare, J.base, J.hok, rv, q⟩
  cases fl with
  | ret u =>
    obtain ⟨v, σ', H', J, rv, q⟩ := hs
    exact fin J rv q
  | next =>
    obtain ⟨σ', H', J, q⟩ := hs
    exact fin (v := V.non) (u := Value.none) J rfl q
  | brk =>
    obtain ⟨_, _, _, q⟩ := hs
    exact False.elim q
  | cont =>
    obtain ⟨_, _, _, q⟩ := hs
    exact False.elim q
end L2
namespace L2
open PySem PySem.Spec PyProof.Rows
section
variable {X : Cx} {x : Str} {p pos : Pos} {e : Expr} {es : List Expr} {t : TA} {id T : String} {r : List V → Hp → VK → Prop}
def tCB (r : List V → Hp → VK → Prop) (t : TA) : TE := fun σ H Q => t σ H fun vs H1 => r vs H1 Q
theorem pe_callB (hc : CallR X (.builtin id) r) (hg : Gl X x) (hm : X.mg x = none) (hv : bootBuiltins x = some (.builtin id)) (ha : PA X (e :: es) t) (hn : x ≠ "__name__" := by decide) (hdb : (x == ("__debug__" : Str)) = false := by decide)
    (he : starEach (e :: es) X.env = (false, eval e X.env) :: starEach es X.env := by rfl) (hpl : (backTo pos (starEach es X.env)).any (·.1) = false := by rfl) : PE X (.Call (.Name x p) (e :: es) [] pos) (tCB r t) := by
  intro pins s σ H Q I h
  refine wpAny_Call_Name_kw (ld_blt I hg hm hv ?_ hn hdb)
  exact PyProof.Rows.callWith_builtin1 (thn (ha pos pins s σ H _ I h) fun us s1 ⟨vs, H1, I1, r1, q1⟩ => hc pins s1 σ H1 vs us Q I1 r1 q1) he hpl
theorem pe_callTy (hc : CallR X (.type T) r) (hg : Gl X x) (hm : X.mg x = none) (hv : bootBuiltins x = some (.type T)) (ha : PA X (e :: es) t) (hn : x ≠ "__name__" := by decide) (hdb : (x == ("__debug__" : Str)) = false := by decide)
    (he : starEach (e :: es) X.env = (false, eval e X.env) :: starEach es X.env := by rfl) (hpl : (backTo pos (starEach es X.env)).any (·.1) = false := by rfl) : PE X (.Call (.Name x p) (e :: es) [] pos) (tCB r t) := by
  intro pins s σ H Q I h
  refine wpAny_Call_Name_kw (ld_blt I hg hm hv ?_ hn hdb)
  exact PyProof.Rows.callWith_type1 (thn (ha pos pins s σ H _ I h) fun us s1 ⟨vs, H1, I1, r1, q1⟩ => hc pins s1 σ H1 vs us Q I1 r1 q1) he hpl
end
end L2
namespace HT
open PySem PyProof.Rows
section
open PySem.SeqAt
open PySem.AutoSeq1 (wpAny_loadPart')
open PySem.MeetsSeq PySem.MeetsSeq2 PySem.MeetsSeq3
end
section
variable {prog : Program} {w : World} {A : Around} {E : Value → Shared → Prop} {s : Shared}
end
end HT
namespace L2
open PySem PySem.Spec PyProof.Rows
theorem intsAre_of {ns : List Int} : ∀ {us : List Value}, Vals (ns.map V.int) us → IntsAre us ns := by
  induction ns with
  | nil => intro us r; rw [List.map_nil] at r; cases r; exact .nil
  | cons n ns ih =>
    intro us r
    rw [List.map_cons] at r
    cases r with
    | cons r1 r2 =>
      obtain ⟨t, e⟩ := r1
      subst e
      exact .cons n t (ih r2)
section
variable {X : Cx} {e : Expr} {te : TE} {lo hi : Option Expr} {tl th : TO} {pos p2 : Pos}
end
end L2
namespace L2
open PySem PySem.Spec PyProof.Rows
def ixN (n : Nat) (i : Int) : Option Nat := if 0 ≤ i then (if i < n then some i.toNat else none) else if -(n : Int) ≤ i then some (i + n).toNat else none
def atI {α : Type} (xs : List α) (i : Int) : Option α := (ixN xs.length i).bind fun j => xs[j]?
theorem ixN_seq {n : Nat} {i : Int} {j : Nat} (h : ixN n i = some j) : seqIndex? i n = some j ∧ j < n ∧ -(n : Int) ≤ i ∧ i < n := by
  unfold ixN at h
  by_cases h0 : 0 ≤ i
  · rw [if_pos h0] at h
    by_cases h1 : i < n
    · rw [if_pos h1] at h
      have e : i.toNat = j := Option.some.inj h
      exact ⟨by rw [seqIndex_of h0 h1, e], by omega, by omega, h1⟩
    · rw [if_neg h1] at h; cases h
  · rw [if_neg h0] at h
    by_cases h1 : -(n : Int) ≤ i
    · rw [if_pos h1] at h
      have e : (i + n).toNat = j := Option.some.inj h
      exact ⟨by rw [seqIndex_neg (by omega) h1, e], by omega, h1, by omega⟩
    · rw [if_neg h1] at h; cases h
theorem atI_get {α : Type} {xs : List α} {i : Int} {v : α} (h : atI xs i = some v) : ∃ j, seqIndex? i xs.length = some j ∧ xs[j]? = some v ∧ j < xs.length ∧ -(xs.length : Int) ≤ i ∧ i < xs.length := by
  unfold atI at h
  cases e : ixN xs.length i with
  | none => rw [e] at h; cases h
  | some j =>
    rw [e] at h
    obtain ⟨h1, h2, h3, h4⟩ := ixN_seq e
    exact ⟨j, h1, h, h2, h3, h4⟩
theorem atI_nat {α : Type} {xs : List α} {j : Nat} {v : α} (h : xs[j]? = some v) : atI xs (j : Int) = some v := by
  have hj : j < xs.length := (List.getElem?_eq_some_iff.mp h).1
  have e : ixN xs.length (j : Int) = some j := by
    unfold ixN
    rw [if_pos (by omega), if_pos (by omega)]; simp
  unfold atI; rw [e]; exact h
def PlainIx (b : Expr) : Prop := ∀ o i, subscripted b false o i = operate [o, i] (getItem o i)
def IxR (X : Cx) (r : R2) : Prop :=
  ∀ (value slice : Expr) (pins : List (Addr × Obj)) (s : Shared) (σ : St) (H : Hp) (x y : V) (v u : Value) (Q : VK), Inv X pins σ H s → RelV x v → RelV y u → r x y H Q →
    subscripted slice false v u = operate [v, u] (getItem v u) → wpAny (model X.prog X.w) X.A (subscriptTail value slice v u) (EP X pins σ Q) X.xe s
def MtR (X : Cx) (id : String) (r : V → List V → Hp → VK → Prop) : Prop :=
  ∀ (pins : List (Addr × Obj)) (s : Shared) (σ : St) (H : Hp) (x : V) (xs : List V) (v : Value) (us : List Value) (Q : VK), Inv X pins σ H s → RelV x v → Vals xs us → r x xs H Q →
    wpAny (model X.prog X.w) X.A (call (.builtin id) (v :: us)) (EP X pins σ Q) X.xe s
section
variable {X : Cx} {a b : Expr} {ta tb : TE} {pos : Pos}
theorem IxR.or {r r' : R2} (h : IxR X r) (h' : IxR X r') : IxR X (fun x y H Q => r x y H Q ∨ r' x y H Q) := by
  intro value slice pins s σ H x y v u Q I rx ry q hs
  rcases q with q | q
  · exact h value slice pins s σ H x y v u Q I rx ry q hs
  · exact h' value slice pins s σ H x y v u Q I rx ry q hs
theorem pe_ix {r : R2} (hr : IxR X r) (ha : PE X a ta) (hb : PE X b tb) (hs : PlainIx b) : PE X (.Subscript a b pos) (tOp r ta tb) := by
  intro pins s σ H Q I h
  exact Subscript_ (binT ha hb I h fun v u s2 x y H2 I2 rx ry q => hr a b pins s2 σ H2 x y v u Q I2 rx ry q (hs _ _))
def rIxL (K : PySem.W.Frag) : R2 := fun x y H Q => ∃ p xs i v, x = .ref p ∧ y = .int i ∧ SqL K H p xs ∧ atI xs i = some v ∧ Q v H
def rIxT (K : PySem.W.Frag) : R2 := fun x y H Q => ∃ p xs i v, x = .ref p ∧ y = .int i ∧ SqT K H p xs ∧ atI xs i = some v ∧ Q v H
def rIxS : R2 := fun x y H Q => ∃ z i c, x = .str z ∧ y = .int i ∧ z.length ≤ sizeLine ∧ atI z.cps.toList i = some c ∧ Q (.str ⟨#[c]⟩) H
theorem ix_list : IxR X (rIxL X.K) := by
  intro value slice pins s σ H x y v u Q I rx ry h hs
  obtain ⟨p, xs, i, z, rfl, rfl, hq, he, q⟩ := h
  cases rx
  obtain ⟨t, rfl⟩ := ry
  obtain ⟨its, r, pl, hz⟩ := I.list hq
  obtain ⟨j, h1, h2, h3, h4, h5⟩ := atI_get he
  obtain ⟨w, ew, rw'⟩ := r.get h2
  have hl := r.length
  have hn := line63
  have fin : EP X pins σ Q w s := ⟨z, H, I, rw', q⟩
  by_cases h0 : 0 ≤ i
  · have hj : i.toNat = j := by
      rw [seqIndex_of h0 h5] at h1
      exact Option.some.inj h1
    exact item_listR pl.isList h0 (by omega) (by rw [hj]; simpa using ew) fin hs
  · have hj : (i + (its.toArray.size : Int)).toNat = j := by
      rw [seqIndex_neg (by omega) h4] at h1
      rw [List.size_toArray, ← hl]
      exact Option.some.inj h1
    exact subscriptTail_builtinR (x := w) pl.isList.typeIs slot_list_getitem.lookup
      (wpAny_getItem_list_neg (Q := fun r s' => r = w ∧ EP X pins σ Q r s') pl.isList (by omega) (by rw [List.size_toArray] <;> omega) (by omega) (by rw [hj]; simpa using ew) ⟨rfl, fin⟩) hs
theorem ix_tup : IxR X (rIxT X.K) := by
  intro value slice pins s σ H x y v u Q I rx ry h hs
  obtain ⟨p, xs, i, z, rfl, rfl, hq, he, q⟩ := h
  cases rx
  obtain ⟨t, rfl⟩ := ry
  obtain ⟨its, r, pl, hz⟩ := I.tuple hq
  obtain ⟨j, h1, h2, h3, h4, h5⟩ := atI_get he
  obtain ⟨w, ew, rw'⟩ := r.get h2
  have hl := r.length
  have hn := line63
  have fin : EP X pins σ Q w s := ⟨z, H, I, rw', q⟩
  exact subscriptTail_builtinR (x := w) pl.typeIs slot_tuple_getitem.lookup
    (getItem_tuple (j := j) (Q := fun r s' => r = w ∧ EP X pins σ Q r s') pl (by omega) (by omega) (by rw [List.size_toArray, ← hl]; exact h1) (by simpa using ew) ⟨rfl, fin⟩) hs
theorem ix_str : IxR X rIxS := by
  intro value slice pins s σ H x y v u Q I rx ry h hs
  obtain ⟨z, i, c, rfl, rfl, hz, he, q⟩ := h
  obtain ⟨t, rfl⟩ := rx
  obtain ⟨t', rfl⟩ := ry
  obtain ⟨j, h1, h2, h3, h4, h5⟩ := atI_get he
  have hl : z.cps.toList.length = z.length := by simp [Str.length]
  rw [hl] at h1 h4 h5
  have hn := line63
  exact tail_any (typeIs_str s z t) slot_str_getitem.lookup (getItem_str (c := c) (by
    have e1 : decide (i < -(2 ^ 63 : Int)) = false := decide_eq_false (by omega)
    have e2 : decide (i ≥ 2 ^ 63) = false := decide_eq_false (by omega)
    rw [e1, e2, Bool.or_false]) (by rw [h1]; simpa using h2) ⟨.str ⟨#[c]⟩, H, I.tok _, ⟨_, rfl⟩, q⟩) hs
def rIx (K : PySem.W.Frag) : R2 := fun x y H Q => rIxL K x y H Q ∨ rIxT K x y H Q ∨ rIxS x y H Q
theorem ix_seq : IxR X (rIx X.K) := ix_list.or (ix_tup.or ix_str)
theorem mapSeq_set (its : List Value) (n j : Nat) (u : Value) : Obj.mapSeq (·.setIfInBounds j u) { cls := .type "list", data := .seq its.toArray n } = { cls := .type "list", data := .seq (its.set j u).toArray n } := by
  simp [Obj.mapSeq]
theorem Inv.lst {pins : List (Addr × Obj)} {σ : St} {H : Hp} {s : Shared} {p : Addr} {xs : List V} (I : Inv X pins σ H s) (h : H p = some (.lst xs)) :
    ∃ (its : List Value) (n : Nat), Vals xs its ∧ s.heap.get? p = some { cls := .type "list", data := .seq its.toArray n } ∧ xs.length ≤ sizeLine := by
  obtain ⟨z, its, n, r, e⟩ := I.hok p _ h
  exact ⟨its, n, r, e, z⟩
theorem Inv.lstUpd {pins : List (Addr × Obj)} {σ : St} {H : Hp} {s : Shared} {p : Addr} {xs ys : List V} {its its' : List Value} {n n' : Nat} {f : Obj → Obj} (I : Inv X pins σ H s) (h : H p = some (.lst xs))
    (ho : s.heap.get? p = some { cls := .type "list", data := .seq its.toArray n }) (hf : f { cls := .type "list", data := .seq its.toArray n } = { cls := .type "list", data := .seq its'.toArray n' }) (r : Vals ys its') (hz : ys.length ≤ sizeLine) (t : Nat) :
    Inv X pins σ (upd H p (.lst ys)) { s with heap := s.heap.update p f, toks := t } := by
  have e : (s.heap.update p f).get? p = some { cls := .type "list", data := .seq its'.toArray n' } := by
    rw [Heap.get?_update_self f ho (by rw [hf] <;> rfl), hf]
  refine I.write (x := p) (e := p) (by rw [h]; trivial) (.inl rfl) (fun b u hb q => (Heap.get?_update_other _ _ (Ne.symm hb)).trans q) ⟨_, e⟩ ?_
  exact ⟨hz, its', n', r, e⟩
def rSetL : V → V → V → Hp → (Hp → Prop) → Prop := fun o i v H Q => ∃ p xs k j, o = .ref p ∧ i = .int k ∧ H p = some (.lst xs) ∧ ixN xs.length k = some j ∧ Q (upd H p (.lst (xs.set j v)))
theorem set_list : PSet X rSetL := by
  intro pins s σ H o i v ov iv u Q I ro ri rv h
  obtain ⟨p, xs, k, j, rfl, rfl, hp, hj, q⟩ := h
  cases ro
  obtain ⟨t, rfl⟩ := ri
  obtain ⟨its, n, r, ho, hz⟩ := I.lst hp
  obtain ⟨h1, h2, h3, h4⟩ := ixN_seq hj
  have hl := r.length
  have hn := line63
  have I' : Inv X pins σ (upd H p (.lst (xs.set j v))) { s with heap := s.heap.update p (Obj.mapSeq (·.setIfInBounds j u)) } :=
    I.lstUpd hp ho (mapSeq_set its n j u) (r.set rv j) (by rw [List.length_set]; exact hz) s.toks
  by_cases h0 : 0 ≤ k
  · have hk : k.toNat = j := by
      rw [seqIndex_of h0 h4] at h1
      exact Option.some.inj h1
    exact PySem.W.ki_setAt ho h0 (by omega) (by rw [List.size_toArray, ← hl]; exact h4) (by rw [hk]; exact ⟨_, I', q⟩)
  · have hk : (k + (its.toArray.size : Int)).toNat = j := by
      rw [seqIndex_neg (by omega) h3] at h1
      rw [List.size_toArray, ← hl]
      exact Option.some.inj h1
    exact PySem.W.ki_setBack ho (by omega) (by rw [List.size_toArray, ← hl]; exact h3) (by omega) (by rw [hk]; exact ⟨_, I', q⟩)
def flatV : V → Bool
  | .non => true
  | .bl _ => true
  | .int _ => true
  | .str _ => true
  | _ => false
def eqV : V → V → Bool
  | .non, .non => true
  | .bl a, .bl b => a == b
  | .bl a, .int b => (if a then 1 else 0) == b
  | .int a, .bl b => a == (if b then 1 else 0)
  | .int a, .int b => a == b
  | .str a, .str b => a == b
  | _, _ => false
theorem eqAt_V {A : Around} {s : Shared} {y x : V} {u v : Value} (ry : RelV y u) (rx : RelV x v) (fy : flatV y = true) (fx : flatV x = true) : SeqAt.EqAt A s u v (eqV y x) := by
  cases y with
  | non =>
    cases ry
    cases x with
    | non => cases rx; exact SeqAt.EqAt.same _
    | bl b => cases rx; exact SeqAt.EqAt.none_bool b
    | int b => obtain ⟨t, rfl⟩ := rx; exact SeqAt.EqAt.none_int b t
    | str b => obtain ⟨t, rfl⟩ := rx; exact SeqAt.EqAt.none_str b t
    | _ => exact absurd (show false = true from fx) Bool.false_ne_true
  | bl a =>
    cases ry
    cases x with
    | non => cases rx; exact SeqAt.EqAt.bool_none a
    | bl b => cases rx; exact SeqAt.EqAt.bool_bool a b
    | int b => obtain ⟨t, rfl⟩ := rx; exact SeqAt.EqAt.bool_int a b t
    | str b => obtain ⟨t, rfl⟩ := rx; exact SeqAt.EqAt.bool_str a b t
    | _ => exact absurd (show false = true from fx) Bool.false_ne_true
  | int a =>
    obtain ⟨t', rfl⟩ := ry
    cases x with
    | non => cases rx; exact SeqAt.EqAt.int_none a t'
    | bl b => cases rx; exact SeqAt.EqAt.int_bool a t' b
    | int b => obtain ⟨t, rfl⟩ := rx; exact SeqAt.EqAt.int_int a t' b t
    | str b => obtain ⟨t, rfl⟩ := rx; exact SeqAt.EqAt.int_str a t' b t
    | _ => exact absurd (show false = true from fx) Bool.false_ne_true
  | str a =>
    obtain ⟨t', rfl⟩ := ry
    cases x with
    | non => cases rx; exact SeqAt.EqAt.str_none a t'
    | bl b => cases rx; exact SeqAt.EqAt.str_bool a t' b
    | int b => obtain ⟨t, rfl⟩ := rx; exact SeqAt.EqAt.str_int a t' b t
    | str b => obtain ⟨t, rfl⟩ := rx; exact SeqAt.EqAt.str_str a t' b t
    | _ => exact absurd (show false = true from fx) Bool.false_ne_true
  | _ => exact absurd (show false = true from fy) Bool.false_ne_true
def eqU (x : V) (u : Value) : Bool := match u with
  | .none => eqV .non x
  | .bool b => eqV (.bl b) x
  | .int i _ => eqV (.int i) x
  | .str z _ => eqV (.str z) x
  | _ => false
theorem eqU_of {x y : V} {u : Value} (r : RelV y u) (f : flatV y = true) : eqU x u = eqV y x := by
  cases y with
  | non => cases r; rfl
  | bl b => cases r; rfl
  | int i => obtain ⟨t, rfl⟩ := r; rfl
  | str z => obtain ⟨t, rfl⟩ := r; rfl
  | _ => exact absurd (show false = true from f) Bool.false_ne_true
theorem any_eqU {x : V} : ∀ {xs : List V} {us : List Value}, Vals xs us → xs.all flatV = true → us.any (eqU x) = xs.any fun y => eqV y x
  | _, _, .nil, _ => rfl
  | y :: xs, u :: us, .cons r t, f => by
    rw [List.all_cons, Bool.and_eq_true] at f
    rw [List.any_cons, List.any_cons, eqU_of r f.1, any_eqU t f.2]
theorem mem_eqAt {A : Around} {s : Shared} {x : V} {v : Value} (rx : RelV x v) (fx : flatV x = true) : ∀ {xs : List V} {us : List Value}, Vals xs us → xs.all flatV = true → ∀ u ∈ us, SeqAt.EqAt A s u v (eqU x u)
  | _, _, .nil, _ => fun u hu => by cases hu
  | y :: xs, u :: us, .cons r t, f => fun u' hu => by
    rw [List.all_cons, Bool.and_eq_true] at f
    rcases List.mem_cons.mp hu with rfl | hu
    · rw [eqU_of r f.1]; exact eqAt_V r rx f.1 fx
    · exact mem_eqAt rx fx t f.2 u' hu
def inV (x : V) (xs : List V) : Bool := xs.any fun y => eqV y x
def rIn (K : PySem.W.Frag) (neg : Bool) : R2 := fun x y H Q => ∃ p xs, y = .ref p ∧ (SqL K H p xs ∨ SqT K H p xs) ∧ flatV x = true ∧ xs.all flatV = true ∧ Q (.bl (if neg then !inV x xs else inV x xs)) H
theorem op_in_seq : OpR X (compareOp .In) (rIn X.K false) := by
  intro pins s σ H x y v u Q I rx ry h
  obtain ⟨p, xs, rfl, hq, fx, fs, q⟩ := h
  cases ry
  rcases hq with hq | hq
  · obtain ⟨its, r, pl, hz⟩ := I.list hq
    refine SeqAt.in_listAt (eqU x) pl.isList (fun w hw => mem_eqAt rx fx r fs w (by simpa using hw)) ⟨.bl _, H, I, rfl, ?_⟩
    rw [show its.toArray.any (eqU x) = its.any (eqU x) by simp, any_eqU r fs]
    exact q
  · obtain ⟨its, r, pl, hz⟩ := I.tuple hq
    refine SeqAt.in_tupleAt (eqU x) pl (fun w hw => mem_eqAt rx fx r fs w (by simpa using hw)) ⟨.bl _, H, I, rfl, ?_⟩
    rw [show its.toArray.any (eqU x) = its.any (eqU x) by simp, any_eqU r fs]
    exact q
theorem call_len_seq : CallR X (.builtin "len") (fun xs H Q => ∃ p ys, xs = [.ref p] ∧ (SqL X.K H p ys ∨ SqT X.K H p ys) ∧ Q (.int ys.length) H) := by
  intro pins s σ H xs us Q I r h
  obtain ⟨p, ys, rfl, hq, q⟩ := h
  obtain ⟨u, rfl, rx⟩ := vals1 r
  cases rx
  have hn := line63
  rcases hq with hq | hq
  · obtain ⟨its, r', pl, hz⟩ := I.list hq
    have hlen := r'.length
    exact Calls.call_len_list pl.isList (by simp only [List.size_toArray] <;> omega) ⟨.int ys.length, H, I.tok _, ⟨s.toks + 1, by rw [List.size_toArray, hlen]⟩, q⟩
  · obtain ⟨its, r', pl, hz⟩ := I.tuple hq
    have hlen := r'.length
    exact len_tuple pl (by simp only [List.size_toArray] <;> omega) ⟨.int ys.length, H, I.tok _, ⟨s.toks + 1, by rw [List.size_toArray, hlen]⟩, q⟩
theorem call_len_str : CallR X (.builtin "len") (fun xs H Q => ∃ z, xs = [.str z] ∧ z.length ≤ sizeLine ∧ Q (.int z.length) H) := by
  intro pins s σ H xs us Q I r h
  obtain ⟨z, rfl, hz, q⟩ := h
  obtain ⟨u, rfl, t, rfl⟩ := vals1 r
  have hn := line63
  exact len_str (by omega) ⟨.int z.length, H, I.tok _, ⟨_, rfl⟩, q⟩
theorem call_list_of : CallR X (.type "list") (fun xs H Q => ∃ p ys, xs = [.ref p] ∧ (SqL X.K H p ys ∨ SqT X.K H p ys) ∧ ∀ l, H l = none → Q (.ref l) (upd H l (.lst ys))) := by
  intro pins s σ H xs us Q I r h
  obtain ⟨p, ys, rfl, hq, q⟩ := h
  obtain ⟨u, rfl, rx⟩ := vals1 r
  cases rx
  have fin : ∀ (its : List Value), Vals ys its → ys.length ≤ sizeLine → ∀ (h' : Heap) (c' : Nat), (∀ b o', s.heap.get? b = some o' → h'.get? b = some o') →
      h'.get? s.heap.objs.size = some { cls := .type "list", dict := none, data := .seq its.toArray c', slots := #[] } → EP X pins σ Q (.ref s.heap.objs.size) { s with heap := h' } := fun its r' hz h' c' kp e =>
    ⟨.ref s.heap.objs.size, _, I.laid (t' := s.toks) kp (Nat.le_refl _) (show ObjOk X.prog X.w _ h' _ (.lst ys) from ⟨hz, its, c', r', e⟩), rfl, q _ (I.hok.fresh (Nat.le_refl _))⟩
  rcases hq with hq | hq
  · obtain ⟨its, r', pl, hz⟩ := I.list hq
    have hlen := r'.length
    obtain ⟨o, ho, hc, n, hd⟩ := pl.isList
    exact call_list_seq p (.inl rfl) ho hc hd (fun h' c' kp e => fin its r' hz h' c' kp e) (by simp only [List.size_toArray] <;> omega)
  · obtain ⟨its, r', pl, hz⟩ := I.tuple hq
    have hlen := r'.length
    obtain ⟨o, ho, hc, n, hd⟩ := pl
    exact call_list_seq p (.inr rfl) ho hc hd (fun h' c' kp e => fin its r' hz h' c' kp e) (by simp only [List.size_toArray] <;> omega)
def tyV (K : PySem.W.Frag) (T : String) (x : V) (H : Hp) : Prop := match x with
  | .str _ => T = "str"
  | .int _ => T = "int"
  | .ref p => (T = "list" ∧ ∃ xs, SqL K H p xs) ∨ (T = "tuple" ∧ ∃ o, K.lookup p = some o ∧ o.cls = .type "tuple" ∧ o.dict = none) ∨
      (T = "dict" ∧ ((∃ kvs, H p = some (.dK kvs)) ∨ ∃ kvs, H p = some (.dT kvs))) ∨ (T = "set" ∧ ∃ S n, H p = some (.set S n))
  | _ => False
theorem tyV_is {pins : List (Addr × Obj)} {σ : St} {H : Hp} {s : Shared} {T : String} {x : V} {v : Value} (I : Inv X pins σ H s) (r : RelV x v) (ty : tyV X.K T x H) :
    s.TypeIs v T ∧ ∀ a, v = .ref a → ∃ ob, s.heap.get? a = some ob ∧ ob.dict = none := by
  cases x with
  | str z =>
    obtain ⟨t, rfl⟩ := r
    cases (show T = "str" from ty)
    exact ⟨typeIs_str s z t, fun _ e => nomatch e⟩
  | int i =>
    obtain ⟨t, rfl⟩ := r
    cases (show T = "int" from ty)
    exact ⟨typeIs_int s i t, fun _ e => nomatch e⟩
  | ref p =>
    cases r
    rcases ty with ⟨rfl, xs, hq⟩ | ⟨rfl, o, hk, hc, hd⟩ | ⟨rfl, hk⟩ | ⟨rfl, S, n, hk⟩
    · obtain ⟨its, _, pl, _⟩ := I.list hq
      refine ⟨pl.isList.typeIs, fun a e => ?_⟩
      cases e
      obtain ⟨o, n, e, c, hd, _⟩ := pl
      exact ⟨o, e, hd⟩
    · refine ⟨⟨o, I.kIn p o hk, hc⟩, fun a e => ?_⟩
      cases e
      exact ⟨o, I.kIn _ o hk, hd⟩
    · have z : ∃ o, s.heap.get? p = some o ∧ o.ExactDict := by
        rcases hk with ⟨kvs, hk⟩ | ⟨kvs, hk⟩
        · obtain ⟨_, _, _, _, o, _, _, e, ex, _⟩ := I.hok p _ hk
          exact ⟨o, e, ex⟩
        · obtain ⟨_, _, _, _, o, _, _, e, ex, _⟩ := I.hok p _ hk
          exact ⟨o, e, ex⟩
      obtain ⟨o, e, ex⟩ := z
      refine ⟨⟨o, e, ex.1⟩, fun a e2 => ?_⟩
      cases e2
      exact ⟨o, e, ex.2.1⟩
    · obtain ⟨o, _, _, _, e, ex, _⟩ := I.hok p _ hk
      refine ⟨⟨o, e, ex.1⟩, fun a e2 => ?_⟩
      cases e2
      exact ⟨o, e, ex.2.1⟩
  | _ => exact False.elim ty
def tBM0 (K : PySem.W.Frag) (T : String) (r : V → List V → Hp → VK → Prop) (to : TE) : TE := fun σ H Q => to σ H fun x H1 => tyV K T x H1 ∧ r x [] H1 Q
def tBM (K : PySem.W.Frag) (T : String) (r : V → List V → Hp → VK → Prop) (to : TE) (t : TA) : TE := fun σ H Q => to σ H fun x H1 => tyV K T x H1 ∧ t σ H1 fun xs H2 => r x xs H2 Q
variable {o e : Expr} {es : List Expr} {to : TE} {t : TA} {name : Str} {apos cpos : Pos} {T id : String} {r : V → List V → Hp → VK → Prop}
theorem pe_bm0 (pa : PlainAttrs T) (slot : Slot T name id) (hty : typeOf (.builtin id) = pure (.type "method_descriptor")) (hm : MtR X id r) (ho : PE X o to)
    (hbase : attributeBase o name X.env (eval o X.env) = eval o X.env := by rfl) (hline : (apos.endLine == cpos.line) = true := by rfl) : PE X (.Call (.Attribute o name apos) [] [] cpos) (tBM0 X.K T r to) := by
  intro pins s σ H Q I h
  refine wpAny_Call_method0_late hbase hline (thn (ho pins s σ H _ I h) fun v s1 ⟨x, H1, I1, r1, ty, q1⟩ => ?_)
  obtain ⟨h1, h2⟩ := tyV_is I1 r1 ty
  exact ⟨T, id, pa, slot, hty, h1, h2, Calls.callWith_builtin rfl (PySem.evalArgs_none (hm pins s1 σ H1 x [] v [] Q I1 r1 .nil q1))⟩
theorem pe_bm (pa : PlainAttrs T) (slot : Slot T name id) (hty : typeOf (.builtin id) = pure (.type "method_descriptor")) (hm : MtR X id r) (ho : PE X o to) (ha : PA X (e :: es) t)
    (hbase : attributeBase o name X.env (eval o X.env) = eval o X.env := by rfl)
    (hfew : ((backTo cpos (starEach (e :: es) X.env)).all (fun x => !x.1) && (backToKw cpos (keywordEach [] X.env)).all (fun x => x.1.isSome)
      && decide ((e :: es).length + ([] : List Keyword).length + (if ([] : List Keyword).isEmpty then 0 else 1) < 30)) = true := by rfl)
    (hline : (apos.endLine == cpos.line) = true := by rfl) (hs : starEach (e :: es) X.env = (false, eval e X.env) :: starEach es X.env := by rfl) (hplain : (backTo cpos (starEach es X.env)).any (·.1) = false := by rfl) :
    PE X (.Call (.Attribute o name apos) (e :: es) [] cpos) (tBM X.K T r to t) := by
  intro pins s σ H Q I h
  refine wpAny_Call_method_late hbase hfew hline rfl (thn (ho pins s σ H _ I h) fun v s1 ⟨x, H1, I1, r1, ty, q1⟩ => ?_)
  obtain ⟨h1, h2⟩ := tyV_is I1 r1 ty
  refine ⟨T, id, pa, slot, hty, h1, h2, ?_⟩
  have hA := ha cpos pins s1 σ H1 _ I1 q1
  rw [hs] at hA ⊢
  refine Calls.callWith_builtin (by show (false || (backTo cpos (starEach es X.env)).any (·.1)) = false; rw [hplain] <;> rfl) (Calls.evalArgs_plain ?_)
  exact thn hA fun us s2 ⟨vs, H2, I2, r2, q2⟩ => hm pins s2 σ H2 x vs v us Q I2 r1 r2 q2
end
end L2
namespace L2
open PySem PySem.Spec PyProof.Rows
def MtM (X : Cx) (id : String) (r : V → List V → Hp → VK → Prop) : Prop :=
  ∀ (pins : List (Addr × Obj)) (s : Shared) (σ : St) (H : Hp) (x : V) (xs : List V) (v : Value) (us : List Value) (Q : VK), Inv X pins σ H s → RelV x v → Vals xs us → r x xs H Q →
    wpAny (model X.prog X.w) X.A (call (.builtin id) (v :: us)) (EP X pins σ Q) X.xe s
theorem Vals.one : ∀ {x : V} {us : List Value}, Vals [x] us → ∃ u, us = [u] ∧ RelV x u
  | _, _, .cons r .nil => ⟨_, rfl, r⟩
theorem Vals.zero : ∀ {us : List Value}, Vals [] us → us = []
  | _, .nil => rfl
theorem Vals.reverse {xs : List V} {us : List Value} (h : Vals xs us) : Vals xs.reverse us.reverse := by
  induction h with
  | nil => exact .nil
  | cons r t ih => rw [List.reverse_cons, List.reverse_cons]; exact Vals.append ih (.cons r .nil)
theorem Vals.rep {xs : List V} {us : List Value} (h : Vals xs us) : ∀ k : Nat, Vals (List.replicate k xs).flatten (List.replicate k us).flatten
  | 0 => .nil
  | k + 1 => by
    rw [List.replicate_succ, List.replicate_succ, List.flatten_cons, List.flatten_cons]
    exact Vals.append h (Vals.rep h k)
theorem foldl_rep (its : List Value) : ∀ (k : Nat) (acc : List Value),
    List.foldl (fun x1 x2 => x1 ++ x2) acc.toArray (List.replicate k its.toArray) = (acc ++ (List.replicate k its).flatten).toArray
  | 0, acc => by simp
  | k + 1, acc => by
    have e : acc.toArray ++ its.toArray = (acc ++ its).toArray := by simp
    have e2 : (acc ++ its) ++ (List.replicate k its).flatten = acc ++ (List.replicate (k + 1) its).flatten := by
      rw [List.replicate_succ, List.flatten_cons, List.append_assoc]
    rw [← e2, ← foldl_rep its k (acc ++ its), ← e, List.replicate_succ, List.foldl_cons]
section
variable {X : Cx} {pins : List (Addr × Obj)} {σ : St} {H : Hp} {s : Shared} {l b : Addr} {xs ys zs : List V}
theorem Inv.lset {its its' : List Value} {n : Nat} {f : Array Value → Array Value} {t' : Nat} (I : Inv X pins σ H s) (hH : H l = some (.lst xs))
    (e : s.heap.get? l = some { cls := .type "list", data := .seq its.toArray n }) (hf : f its.toArray = its'.toArray) (hv : Vals ys its') (hz : ys.length ≤ sizeLine) :
    Inv X pins σ (upd H l (.lst ys)) { s with heap := s.heap.update l (Obj.mapSeq f), toks := t' } := by
  have q := PySem.IsL.update e f
  rw [hf] at q
  refine I.write (x := l) (e := l) (by rw [hH]; exact trivial) (.inl rfl) (fun b' u hb hu => (Heap.get?_update_other s.heap (Obj.mapSeq f) (Ne.symm hb)).trans hu) ⟨_, q⟩ ?_
  exact ⟨hz, its', _, hv, q⟩
theorem Inv.lnew {its : List Value} {t' : Nat} (I : Inv X pins σ H s) (hv : Vals ys its) (hz : ys.length ≤ sizeLine) :
    Inv X pins σ (upd H s.heap.objs.size (.lst ys)) { s with heap := s.heap.push { cls := .type "list", data := .seq its.toArray }, toks := t' } :=
  I.laid (fun _ _ q => Heap.get?_push_of_some _ q) (Nat.le_refl _) ⟨hz, its, 0, hv, Heap.get?_push_size _ rfl⟩
theorem Inv.fresh (I : Inv X pins σ H s) : H s.heap.objs.size = none := I.hok.fresh (Nat.le_refl _)
theorem Inv.lstM (I : Inv X pins σ H s) (hH : H l = some (.lst xs)) : xs.length ≤ sizeLine ∧ ∃ (its : List Value) (n : Nat), Vals xs its ∧ xs.length = its.length ∧ s.heap.get? l = some { cls := .type "list", data := .seq its.toArray n } := by
  obtain ⟨z, its, n, r, e⟩ := I.hok l _ hH
  exact ⟨z, its, n, r, r.length, e⟩
theorem notLongL {n : Nat} (h : n ≤ sizeLine) : Builtin.List.listTooLong n = false := by
  unfold Builtin.List.listTooLong
  exact decide_eq_false (by omega)
end
section
variable {X : Cx}
def rAppend : V → List V → Hp → VK → Prop := fun x vs H Q => ∃ l xs y, x = .ref l ∧ vs = [y] ∧ H l = some (.lst xs) ∧ xs.length < sizeLine ∧ Q .non (upd H l (.lst (xs ++ [y])))
theorem mt_append : MtM X "list.append" rAppend := by
  intro pins s σ H x vs v us Q I rx rv h
  obtain ⟨l, xs, y, rfl, rfl, hH, hz, q⟩ := h
  cases rx
  obtain ⟨u, rfl, ru⟩ := rv.one
  obtain ⟨z, its, n, r, hl, e⟩ := I.lstM hH
  refine call_meets F.slot_list_append ⟨_, e, rfl⟩ F.entry_list_append (F.args_list_append_2 _ _) (PySem.list_append l its.toArray n u (by rw [List.size_toArray]; omega)) ⟨e, ?_⟩
  refine ⟨.non, _, I.lset (its' := its ++ [u]) hH e (by simp) (r.append (.cons ru .nil)) ?_, rfl, q⟩
  rw [List.length_append, List.length_singleton]
  omega
def rClear : V → List V → Hp → VK → Prop := fun x vs H Q => ∃ l xs, x = .ref l ∧ vs = [] ∧ H l = some (.lst xs) ∧ Q .non (upd H l (.lst []))
theorem mt_clear : MtM X "list.clear" rClear := by
  intro pins s σ H x vs v us Q I rx rv h
  obtain ⟨l, xs, rfl, rfl, hH, q⟩ := h
  cases rx
  have hus := rv.zero
  subst hus
  obtain ⟨z, its, n, r, hl, e⟩ := I.lstM hH
  refine call_meets F.slot_list_clear ⟨_, e, rfl⟩ F.entry_list_clear (F.args_list_clear_1 _) (AutoSeq1.list_clear_list_0 l its.toArray n (by rw [List.size_toArray]; omega)) ⟨e, ?_⟩
  exact ⟨.non, _, I.lset (its' := []) (ys := []) hH e rfl .nil (Nat.zero_le _), rfl, q⟩
def rCat : R2 := fun x y H Q => ∃ l b xs zs, x = .ref l ∧ y = .ref b ∧ H l = some (.lst xs) ∧ H b = some (.lst zs) ∧ xs.length + zs.length ≤ sizeLine ∧ ∀ p, H p = none → Q (.ref p) (upd H p (.lst (xs ++ zs)))
theorem op_cat : OpR X (binaryOp .Add) rCat := by
  intro pins s σ H x y v u Q I rx ry h
  obtain ⟨l, b, xs, zs, rfl, rfl, hH, hB, hz, q⟩ := h
  cases rx
  cases ry
  obtain ⟨z, its, n, r, hl, e⟩ := I.lstM hH
  obtain ⟨z2, its2, n2, r2, hl2, e2⟩ := I.lstM hB
  refine PySem.P.add_list e e2 ?_ (by rw [List.size_toArray, List.size_toArray]; omega)
  have ea : its.toArray ++ its2.toArray = (its ++ its2).toArray := by simp
  rw [ea]
  exact ⟨.ref _, _, I.lnew (t' := s.toks) (r.append r2) (by rw [List.length_append]; omega), rfl, q _ I.fresh⟩
def rRep : R2 := fun x y H Q => ∃ l k xs, x = .ref l ∧ y = .int k ∧ H l = some (.lst xs) ∧ -(2 ^ 63) ≤ k ∧ k < 2 ^ 63 ∧ xs.length * k.toNat ≤ sizeLine ∧
  ∀ p, H p = none → Q (.ref p) (upd H p (.lst (List.replicate k.toNat xs).flatten))
theorem len_rep {α : Type} (xs : List α) (k : Nat) : (List.replicate k xs).flatten.length = k * xs.length := by
  induction k with
  | zero => simp
  | succ k ih => rw [List.replicate_succ, List.flatten_cons, List.length_append, ih, Nat.succ_mul, Nat.add_comm]
theorem op_rep : OpR X (binaryOp .Mult) rRep := by
  intro pins s σ H x y v u Q I rx ry h
  obtain ⟨l, k, xs, rfl, rfl, hH, h1, h2, hz, q⟩ := h
  cases rx
  obtain ⟨t, rfl⟩ := ry
  obtain ⟨z, its, n, r, hl, e⟩ := I.lstM hH
  have hlen : its.toArray.size * k.toNat ≤ sizeLine := by rw [List.size_toArray, ← hl]; exact hz
  have hcap : ¬ its.toArray.size * k.toNat > (2 ^ 63 - 1) / 8 := by
    have : (sizeLine : Nat) ≤ (2 ^ 63 - 1) / 8 := by decide
    omega
  have hfit : ¬ (!Builtin.List.listFitsIndex k) = true := by
    rw [fitsIndex_both h1 h2]
    exact Bool.false_ne_true
  have hlong : ¬ Builtin.List.listTooLong (its.toArray.size * k.toNat) = true := by
    rw [notLongL hlen]
    exact Bool.false_ne_true
  have hnew : List.foldl (fun x1 x2 => x1 ++ x2) #[] (List.replicate (if its.toArray.isEmpty = true then 0 else k.toNat) its.toArray) = (List.replicate k.toNat its).flatten.toArray := by
    have f0 : ∀ m : Nat, List.foldl (fun x1 x2 => x1 ++ x2) #[] (List.replicate m its.toArray) = (List.replicate m its).flatten.toArray := fun m => by
      have := foldl_rep its m []
      rw [List.nil_append] at this
      exact this
    rw [f0]
    cases its with
    | nil => simp
    | cons a r' => rw [if_neg (by simp)]
  refine wpAny_binaryOp_repeat_ref (T := "list") (U := "int") (by decide) ⟨_, e, rfl⟩ (fun s' => typeIs_int s' k t) noFill_list_mul F.fills_int_mul F.slot_int_rmul repeat_list F.slot_int_index.lookup
    (call_meets F.slot_int_rmul (typeIs_int s k t) F.entry_int_rmul (F.args_int_rmul_2 _ _) (int___rmul___int_list k t l its.toArray n)
      ⟨e, rfl, ⟨_, e, rfl⟩, call_meets F.slot_list_mul ⟨_, e, rfl⟩ F.entry_list_mul (F.args_list_mul_2 _ _) (AutoListH.list___mul___list_int_3 l its.toArray n k t hfit hcap hlong) ⟨e, ?_⟩⟩)
  rw [hnew]
  exact ⟨.ref _, _, I.lnew (t' := s.toks) (r.rep k.toNat) (by rw [len_rep, Nat.mul_comm]; exact hz), rfl, q _ I.fresh⟩
end
section
variable {prog : Program} {w : World} {A : Around} {E : Value → Shared → Prop} {s : Shared}
set_option maxRecDepth 100000 in
end
section
variable {X : Cx}
end
end L2
namespace L2
open PySem PySem.Spec PyProof.Rows
section
variable {κ : Type} [DecidableEq κ]
def valV (kvs : List (κ × V)) (k : κ) : Option V := (kvs.find? fun kv => decide (kv.1 = k)).map (·.2)
def putK (kvs : List (κ × V)) (k : κ) (v : V) : List (κ × V) :=
  if (kvs.any fun kv => decide (kv.1 = k)) = true then kvs.map (fun kv => if kv.1 = k then (kv.1, v) else kv) else kvs ++ [(k, v)]
def dropK (kvs : List (κ × V)) (k : κ) : List (κ × V) := kvs.filter fun kv => decide (kv.1 ≠ k)
theorem valV_pos {p : κ × V} {r : List (κ × V)} {k : κ} (e : p.1 = k) : valV (p :: r) k = some p.2 := by simp [valV, List.find?_cons, e]
theorem valV_neg {p : κ × V} {r : List (κ × V)} {k : κ} (e : ¬ p.1 = k) : valV (p :: r) k = valV r k := by simp [valV, List.find?_cons, e]
theorem valV_any (k : κ) : ∀ kvs : List (κ × V), (kvs.any fun kv => decide (kv.1 = k)) = (valV kvs k).isSome
  | [] => rfl
  | p :: r => by
    rw [List.any_cons]
    by_cases e : p.1 = k
    · simp only [valV_pos e, decide_eq_true e, Bool.true_or, Option.isSome_some]
    · rw [valV_neg e, decide_eq_false e, Bool.false_or]; exact valV_any k r
theorem length_putK (kvs : List (κ × V)) (k : κ) (v : V) : (putK kvs k v).length ≤ kvs.length + 1 := by
  unfold putK
  split
  · rw [List.length_map]; omega
  · rw [List.length_append, List.length_cons, List.length_nil]; omega
theorem putK_new {kvs : List (κ × V)} {k : κ} (v : V) (h : valV kvs k = none) : putK kvs k v = kvs ++ [(k, v)] := by
  unfold putK
  rw [valV_any, h]
  exact if_neg (by decide)
theorem RelO.isSome_eq {o : Option V} {u : Option Value} (r : RelO o u) : o.isSome = u.isSome := by
  cases o with
  | none => cases u with
    | none => rfl
    | some _ => exact (show False from r).elim
  | some _ => cases u with
    | none => exact (show False from r).elim
    | some _ => rfl
theorem KV.val {kvs : List (κ × V)} {vs : List (κ × Value)} (r : KV kvs vs) (k : κ) : RelO (valV kvs k) (valueAt vs k) := by
  unfold KV at r
  induction r with
  | nil => exact True.intro
  | @cons p q ps qs h t ih =>
    obtain ⟨h1, h2⟩ := h
    by_cases e : p.1 = k
    · have e' : q.1 = k := h1.symm.trans e
      have b : valueAt (q :: qs) k = some q.2 := by simp [valueAt, List.find?_cons, e']
      rw [valV_pos e, b]; exact h2
    · have e' : ¬ q.1 = k := fun z => e (h1.trans z)
      have b : valueAt (q :: qs) k = valueAt qs k := by simp [valueAt, List.find?_cons, e']
      rw [valV_neg e, b]; exact ih
theorem KV.any {kvs : List (κ × V)} {vs : List (κ × Value)} (r : KV kvs vs) (k : κ) : (kvs.any fun kv => decide (kv.1 = k)) = vs.any fun kv => decide (kv.1 = k) := by
  unfold KV at r
  induction r with
  | nil => rfl
  | cons h t ih => rw [List.any_cons, List.any_cons, ih, h.1]
theorem KV.repl {kvs : List (κ × V)} {vs : List (κ × Value)} (r : KV kvs vs) (k : κ) {y : V} {u : Value} (ry : RelV y u) :
    KV (kvs.map fun kv => if kv.1 = k then (kv.1, y) else kv) (vs.map fun kv => if kv.1 = k then (kv.1, u) else kv) := by
  unfold KV at r ⊢
  induction r with
  | nil => exact .nil
  | @cons p q ps qs h t ih =>
    rw [List.map_cons, List.map_cons]
    refine .cons ?_ ih
    obtain ⟨h1, h2⟩ := h
    by_cases e : p.1 = k
    · rw [if_pos e, if_pos (h1.symm.trans e)]; exact ⟨h1, ry⟩
    · rw [if_neg e, if_neg (fun z => e (h1.trans z))]; exact ⟨h1, h2⟩
theorem KV.put {kvs : List (κ × V)} {vs : List (κ × Value)} (r : KV kvs vs) (k : κ) {y : V} {u : Value} (ry : RelV y u) : KV (putK kvs k y) (stored vs k u) := by
  unfold putK stored
  rw [r.any k]
  by_cases e : (vs.any fun kv => decide (kv.1 = k)) = true
  · rw [if_pos e, if_pos e]; exact r.repl k ry
  · rw [if_neg e, if_neg e]; exact Paired.snoc r ⟨rfl, ry⟩
theorem KV.drop {kvs : List (κ × V)} {vs : List (κ × Value)} (r : KV kvs vs) (k : κ) : KV (dropK kvs k) (without vs k) := by
  unfold KV at r ⊢
  unfold dropK without
  induction r with
  | nil => exact .nil
  | @cons p q ps qs h t ih =>
    obtain ⟨h1, h2⟩ := h
    rw [List.filter_cons, List.filter_cons]
    by_cases e : p.1 = k
    · have a : ¬ decide (p.1 ≠ k) = true := by simp [e]
      have b : ¬ decide (q.1 ≠ k) = true := by simp [h1.symm.trans e]
      rw [if_neg a, if_neg b]; exact ih
    · have e' : ¬ q.1 = k := fun z => e (h1.trans z)
      have a : decide (p.1 ≠ k) = true := by simp [e]
      have b : decide (q.1 ≠ k) = true := by simp [e']
      rw [if_pos a, if_pos b]; exact .cons ⟨h1, h2⟩ ih
theorem KV.length {kvs : List (κ × V)} {vs : List (κ × Value)} (r : KV kvs vs) : kvs.length = vs.length := Paired.length r
theorem dropK_le (kvs : List (κ × V)) (k : κ) : (dropK kvs k).length ≤ kvs.length := List.length_filter_le _ _
end
theorem kV_is {P : Program} {w : World} {k : Key} {u : Value} (r : RelV (kV k) u) : (mixKind P w).is k u = true := by
  cases k with
  | inl i => obtain ⟨t, e⟩ := (show ∃ t, u = Value.int i t from r); subst e; exact mixKind_int P w i t
  | inr x => obtain ⟨t, e⟩ := (show ∃ t, u = Value.str x t from r); subst e; exact mixKind_str P w x t
theorem items_are {P : Program} {w : World} : ∀ {ks : List Key} {us : List Value}, Vals (ks.map kV) us → ItemsAre (mixKind P w) ks us
  | [], _, r => by rw [List.map_nil] at r; cases r; exact .nil
  | k :: ks, _, r => by
    rw [List.map_cons] at r
    cases r with
    | cons h t => exact .cons (kV_is h) (items_are t)
abbrev KT (H : Hp) : List (List Key × V) → List (List Key × Addr × Value) → Prop := Paired fun p q => p.1 = q.1 ∧ H q.2.1 = some (.tup (p.1.map kV)) ∧ RelV p.2 q.2.2
theorem KT.val {H : Hp} {kvs : List (List Key × V)} {xs : List (List Key × Addr × Value)} (r : KT H kvs xs) (k : List Key) : RelO (valV kvs k) ((atKey xs k).map (·.2)) := by
  induction r with
  | nil => exact True.intro
  | @cons p q ps qs h t ih =>
    obtain ⟨h1, _, h2⟩ := h
    by_cases e : p.1 = k
    · have e' : q.1 = k := h1.symm.trans e
      have b : atKey (q :: qs) k = some q.2 := by simp [atKey, List.find?_cons, e']
      rw [valV_pos e, b]; exact h2
    · have e' : ¬ q.1 = k := fun z => e (h1.trans z)
      have b : atKey (q :: qs) k = atKey qs k := by simp [atKey, List.find?_cons, e']
      rw [valV_neg e, b]; exact ih
theorem KT.repl {H : Hp} {kvs : List (List Key × V)} {xs : List (List Key × Addr × Value)} (r : KT H kvs xs) (k : List Key) {y : V} {u : Value} (ry : RelV y u) :
    KT H (kvs.map fun kv => if kv.1 = k then (kv.1, y) else kv) (xs.map (putAt k u)) := by
  induction r with
  | nil => exact .nil
  | @cons p q ps qs h t ih =>
    rw [List.map_cons, List.map_cons]
    refine .cons ?_ ih
    obtain ⟨h1, h2, h3⟩ := h
    unfold putAt
    by_cases e : p.1 = k
    · rw [if_pos e, if_pos (h1.symm.trans e)]; exact ⟨h1, h2, ry⟩
    · rw [if_neg e, if_neg (fun z => e (h1.trans z))]; exact ⟨h1, h2, h3⟩
theorem KT.put {H : Hp} {kvs : List (List Key × V)} {xs : List (List Key × Addr × Value)} (r : KT H kvs xs) (k : List Key) {b : Addr} {y : V} {u : Value} (hb : H b = some (.tup (k.map kV))) (ry : RelV y u) :
    KT H (putK kvs k y) (storedH xs k b u) := by
  have e : (kvs.any fun kv => decide (kv.1 = k)) = (atKey xs k).isSome := by
    rw [valV_any, (r.val k).isSome_eq, Option.isSome_map]
  unfold putK storedH
  rw [e]
  by_cases q : (atKey xs k).isSome = true
  · rw [if_pos q, if_pos q]; exact r.repl k ry
  · rw [if_neg q, if_neg q]; exact Paired.snoc r ⟨rfl, hb, ry⟩
theorem KT.keeps {H H' : Hp} {kvs : List (List Key × V)} {xs : List (List Key × Addr × Value)} (r : KT H kvs xs) (ht : ∀ b ys, H b = some (.tup ys) → H' b = some (.tup ys)) : KT H' kvs xs :=
  Paired.mapP r fun _ _ z => ⟨z.1, ht _ _ z.2.1, z.2.2⟩
section
variable {P : Program} {w : World} {H : Hp} {h : Heap} {a : Addr}
theorem rd_of {u : HO} (ok : HOk P w H h) (e : Rd H a u) : ObjOk P w H h a u := e.ok ok
theorem dk_rd {kvs : List (Key × V)} (ok : HOk P w H h) (e : Rd H a (.dK kvs)) : kvs.length ≤ sizeLine ∧ (a == sysModules) = false ∧ ∃ vs, KV kvs vs ∧ h.DictOf (mixKind P w) a vs :=
  show ObjOk P w H h a (.dK kvs) from rd_of ok e
theorem dk_of {kvs : List (Key × V)} (ok : HOk P w H h) (e : H a = some (.dK kvs)) : kvs.length ≤ sizeLine ∧ (a == sysModules) = false ∧ ∃ vs, KV kvs vs ∧ h.DictOf (mixKind P w) a vs := dk_rd ok (.inl e)
theorem key_of {ks : List Key} (ok : HOk P w H h) (e : H a = some (.tup (ks.map kV))) : (tupleKind (mixKind P w)).is h ks a := by
  obtain ⟨_, its, r, o, h1, h2, n, h3⟩ := (show ObjOk P w H h a (.tup (ks.map kV)) from ok a _ e)
  exact ⟨o, its.toArray, n, h1, h2, h3, by simpa using items_are r⟩
theorem dt_rd {kvs : List (List Key × V)} (ok : HOk P w H h) (e : Rd H a (.dT kvs)) : kvs.length ≤ sizeLine ∧ (a == sysModules) = false ∧
    ∃ xs, KT H kvs xs ∧ h.DictOfH (tupleKind (mixKind P w)) a xs := by
  obtain ⟨z, y, xs, r, o, es, ep, h1, h2, h3, h4, h5⟩ := (show ObjOk P w H h a (.dT kvs) from rd_of ok e)
  refine ⟨z, y, xs, r, o, es, ep, h1, h2, h3, h4, fun x hx => ?_, h5⟩
  have all : ∀ {l : List (List Key × V)} {m : List (List Key × Addr × Value)}, KT H l m → ∀ x ∈ m, (tupleKind (mixKind P w)).is h x.1 x.2.1 := by
    intro l m q
    induction q with
    | nil => intro x hx; exact nomatch hx
    | @cons p q ps qs hq t ih =>
      intro x hx
      rcases List.mem_cons.mp hx with e | hx
      · subst e
        exact key_of ok (by rw [← hq.1]; exact hq.2.1)
      · exact ih x hx
  exact all r x hx
theorem dt_of {kvs : List (List Key × V)} (ok : HOk P w H h) (e : H a = some (.dT kvs)) : kvs.length ≤ sizeLine ∧ (a == sysModules) = false ∧
    ∃ xs, KT H kvs xs ∧ h.DictOfH (tupleKind (mixKind P w)) a xs := dt_rd ok (.inl e)
end
def DGet (H : Hp) (a : Addr) (y : V) (r : Option V) : Prop :=
  (∃ kvs k, Rd H a (.dK kvs) ∧ y = kV k ∧ r = valV kvs k) ∨ ∃ kvs k b, Rd H a (.dT kvs) ∧ y = .ref b ∧ H b = some (.tup (k.map kV)) ∧ r = valV kvs k
def DPut (H : Hp) (a : Addr) (y v : V) (H' : Hp) : Prop :=
  (∃ kvs k, H a = some (.dK kvs) ∧ y = kV k ∧ kvs.length < sizeLine ∧ H' = upd H a (.dK (putK kvs k v))) ∨
  ∃ kvs k b, H a = some (.dT kvs) ∧ y = .ref b ∧ H b = some (.tup (k.map kV)) ∧ kvs.length < sizeLine ∧ H' = upd H a (.dT (putK kvs k v))
theorem DGet.k {H : Hp} {a : Addr} {kvs : List (Key × V)} {k : Key} (e : H a = some (.dK kvs)) : DGet H a (kV k) (valV kvs k) := .inl ⟨kvs, k, .inl e, rfl, rfl⟩
theorem DPut.k {H : Hp} {a : Addr} {kvs : List (Key × V)} {k : Key} {v : V} (e : H a = some (.dK kvs)) (hl : kvs.length < sizeLine) : DPut H a (kV k) v (upd H a (.dK (putK kvs k v))) := .inl ⟨kvs, k, e, rfl, hl, rfl⟩
section
variable {X : Cx} {pins : List (Addr × Obj)} {σ : St} {H : Hp} {s : Shared} {a : Addr} {y v : V} {u r : Value} {o : Option V} {A : Around} {E : Value → Shared → Prop}
theorem Inv.big (I : Inv X pins σ H s) : sysModules < s.heap.objs.size := by
  have h : mainGlobals < s.heap.objs.size := (I.mod.glob.keeps I.bk).lt
  exact Nat.lt_trans (by decide) h
theorem d_getItem {Q : Value → Shared → Prop} (hu : A.units + 1 < cLine) (I : Inv X pins σ H s) (g : DGet H a y (some v)) (ry : RelV y u) (h : ∀ w' s', Inv X pins σ H s' → RelV v w' → Q w' s') :
    wpAny (model X.prog X.w) A (getItem (.ref a) u) Q E s := by
  rcases g with ⟨kvs, k, e, ey, l⟩ | ⟨kvs, k, b, e, ey, eb, l⟩
  · subst ey
    obtain ⟨z, hd, vs, rel, dd⟩ := dk_rd I.hok e
    obtain ⟨w', hw, rw'⟩ := RelO.some_of (v := v) (o := valueAt vs k) (by rw [l]; exact rel.val k)
    exact wpAny_getItem_of (kV_is ry) dd.mapOf hw (h w' _ (I.tok _) rw')
  · subst ey
    cases (show u = Value.ref b from ry)
    obtain ⟨z, hd, xs, rel, dd⟩ := dt_rd I.hok e
    obtain ⟨w', hw, rw'⟩ := RelO.some_of (v := v) (o := (atKey xs k).map (·.2)) (by rw [l]; exact rel.val k)
    obtain ⟨p, hp, hp2⟩ := Option.map_eq_some_iff.mp hw
    refine wpAny_getItem_heap (tupleKind_room_in1 hu) (key_of I.hok eb) dd hp ?_
    rw [hp2]
    exact h w' _ (I.tok _) rw'
theorem d_in {Q : Value → Shared → Prop} (hu : A.units + 1 < cLine) (I : Inv X pins σ H s) (g : DGet H a y o) (ry : RelV y u) (h : ∀ s', Inv X pins σ H s' → Q (.bool o.isSome) s') :
    wpAny (model X.prog X.w) A (compareOp .In u (.ref a)) Q E s := by
  rcases g with ⟨kvs, k, e, ey, l⟩ | ⟨kvs, k, b, e, ey, eb, l⟩
  · subst ey
    obtain ⟨z, hd, vs, rel, dd⟩ := dk_rd I.hok e
    refine wpAny_in_of (kV_is ry) hd dd.mapOf ?_
    rw [← (rel.val k).isSome_eq, ← l]
    exact h _ (I.tok _)
  · subst ey
    cases (show u = Value.ref b from ry)
    obtain ⟨z, hd, xs, rel, dd⟩ := dt_rd I.hok e
    refine wpAny_in_heap (tupleKind_room_in1 hu) (key_of I.hok eb) hd dd ?_
    have q := (rel.val k).isSome_eq
    rw [Option.isSome_map] at q
    rw [← q, ← l]
    exact h _ (I.tok _)
theorem d_notIn {Q : Value → Shared → Prop} (hu : A.units + 1 < cLine) (I : Inv X pins σ H s) (g : DGet H a y o) (ry : RelV y u) (h : ∀ s', Inv X pins σ H s' → Q (.bool (!o.isSome)) s') :
    wpAny (model X.prog X.w) A (compareOp .NotIn u (.ref a)) Q E s := by
  rcases g with ⟨kvs, k, e, ey, l⟩ | ⟨kvs, k, b, e, ey, eb, l⟩
  · subst ey
    obtain ⟨z, hd, vs, rel, dd⟩ := dk_rd I.hok e
    refine wpAny_notIn_of (kV_is ry) hd dd.mapOf ?_
    rw [← (rel.val k).isSome_eq, ← l]
    exact h _ (I.tok _)
  · subst ey
    cases (show u = Value.ref b from ry)
    obtain ⟨z, hd, xs, rel, dd⟩ := dt_rd I.hok e
    refine wpAny_notIn_heap (tupleKind_room_in1 hu) (key_of I.hok eb) hd dd ?_
    have q := (rel.val k).isSome_eq
    rw [Option.isSome_map] at q
    rw [← q, ← l]
    exact h _ (I.tok _)
theorem d_write {h' : Heap} {t' : Nat} {ob : HO} (I : Inv X pins σ H s) (mu : Mut (H a)) (hs : Heap.SameBut a s.heap h') (he : ∃ q, h'.get? a = some q) (new : ObjOk X.prog X.w (upd H a ob) h' a ob) :
    Inv X pins σ (upd H a ob) { s with heap := h', toks := t' } :=
  I.write (x := a) (e := a) mu (.inl rfl) (fun b q hb z => (hs.2 b hb).trans z) he new
theorem dk_new {P : Program} {w : World} {H' : Hp} {h' : Heap} {kvs : List (Key × V)} {vs : List (Key × Value)} (z : kvs.length ≤ sizeLine) (hd : (a == sysModules) = false) (rel : KV kvs vs) (dd : h'.DictOf (mixKind P w) a vs) :
    ObjOk P w H' h' a (.dK kvs) := ⟨z, hd, vs, rel, dd⟩
theorem d_setItem {H' : Hp} {Q : Unit → Shared → Prop} (hu : A.units + 1 < cLine) (I : Inv X pins σ H s) (g : DPut H a y v H') (ry : RelV y u) (rv : RelV v r) (h : ∀ s', Inv X pins σ H' s' → Q () s') :
    wpAny (model X.prog X.w) A (setItem (.ref a) u r) Q E s := by
  rcases g with ⟨kvs, k, e, ey, l, eH⟩ | ⟨kvs, k, b, e, ey, eb, l, eH⟩
  · subst ey eH
    obtain ⟨z, hd, vs, rel, dd⟩ := dk_of I.hok e
    have hz : vs.length ≤ sizeLine := by rw [← rel.length]; exact z
    have hl : (putK kvs k v).length ≤ sizeLine := by have := length_putK kvs k v; omega
    refine wpAny_setItem_pairs (hsz := hz) (kV_is ry) dd fun h' dd' hs => h _ ?_
    have he : ∃ q, h'.get? a = some q := let ⟨q, _, _, hq, _⟩ := dd'; ⟨q, hq⟩
    exact d_write I (by rw [e]; exact True.intro) hs he (dk_new hl hd (rel.put k rv) dd')
  · subst ey eH
    cases (show u = Value.ref b from ry)
    obtain ⟨z, hd, xs, rel, dd⟩ := dt_of I.hok e
    have hz : xs.length ≤ sizeLine := by rw [← Paired.length rel]; exact z
    have hl : (putK kvs k v).length ≤ sizeLine := by have := length_putK kvs k v; omega
    refine wpAny_setItem_heap (hsz := hz) (tupleKind_room_in1 hu) (key_of I.hok eb) dd fun h' dd' hs => h _ ?_
    obtain ⟨q, es, ep, hq, h2, h3, h4, _, h5⟩ := dd'
    refine d_write I (by rw [e]; exact True.intro) hs ⟨q, hq⟩ ⟨hl, hd, _, (rel.put k eb rv).keeps fun c ys ec => ?_, q, es, ep, hq, h2, h3, h4, h5⟩
    rw [upd_ne (ne_of ec e (fun z => nomatch z))]
    exact ec
end
section
variable {X : Cx} {pins : List (Addr × Obj)} {σ : St} {H : Hp} {s : Shared} {a : Addr} {kvs : List (Key × V)} {k : Key} {u : Value} {A : Around} {E : Value → Shared → Prop}
theorem d_delItem {Q : Unit → Shared → Prop} (I : Inv X pins σ H s) (e : H a = some (.dK kvs)) (ry : RelV (kV k) u) (l : (valV kvs k).isSome = true) (h : ∀ s', Inv X pins σ (upd H a (.dK (dropK kvs k))) s' → Q () s') :
    wpAny (model X.prog X.w) A (delItem (.ref a) u) Q E s := by
  obtain ⟨z, hd, vs, rel, dd⟩ := dk_of I.hok e
  refine wpAny_delItem_slot dd.typeIs (by decide) PySem.F.slot_dict_delitem
    (call_meetsIn PySem.F.slot_dict_delitem dd.typeIs PySem.F.entry_dict_delitem (PySem.F.args_dict_delitem_2 _ _) (meets_dict_delitem_pairs (mixKind X.prog X.w) a (kV_is ry)) ⟨vs, dd, by rw [← rel.length]; exact z, by rw [← (rel.val k).isSome_eq]; exact l, fun h' dd' hs => h _ ?_⟩)
  have he : ∃ q, h'.get? a = some q := let ⟨q, _, _, hq, _⟩ := dd'; ⟨q, hq⟩
  exact d_write I (by rw [e]; exact True.intro) hs he (dk_new (Nat.le_trans (dropK_le kvs k) z) hd (rel.drop k) dd')
theorem d_len {Q : Value → Shared → Prop} (I : Inv X pins σ H s) (e : Rd H a (.dK kvs)) (h : ∀ t s', Inv X pins σ H s' → Q (.int kvs.length t) s') : wpAny (model X.prog X.w) A (call (.builtin "len") [.ref a]) Q E s := by
  obtain ⟨z, hd, vs, rel, dd⟩ := dk_rd I.hok e
  refine call_len_dict hd dd (by rw [← rel.length]; rw [sizeLine_eq] at z; omega) ?_
  rw [← rel.length]
  exact h _ _ (I.tok _)
end
def NoSl (i : Expr) : Prop := ∀ ov iv, subscripted i false ov iv = operate [ov, iv] (getItem ov iv)
theorem subD_of {prog : Program} {w : World} {A : Around} {E : Value → Shared → Prop} {s : Shared} {env : Env} {value slice : Expr} {pos : Pos} {T id : String} {Q : Value → Shared → Prop}
    (hl : typeLookup (.type T) "__getitem__" = pure (some (.builtin id))) (hs : NoSl slice)
    (h : wpAny (model prog w) A (eval value env) (fun o s₁ => wpAny (model prog w) A (eval slice env) (fun i s₂ => s₂.TypeIs o T ∧ wpAny (model prog w) A (getItem o i) Q E s₂) E s₁) E s) :
    wpAny (model prog w) A (eval (.Subscript value slice pos) env) Q E s := by
  refine Subscript_ (wpAny_mono h (fun o s₁ h₁ => wpAny_mono h₁ (fun i s₂ h₂ => ?_) fun _ _ x => x) fun _ _ x => x)
  obtain ⟨hT, h₂⟩ := h₂
  unfold subscriptTail
  refine wpAny_bind ?_
  rw [getitemInPython_of_ne hT.not_modules]
  refine wpAny_bind (wpAny_specialOf hT hl ?_)
  have fin : wpAny (model prog w) A (subscripted slice false o i) (fun r s₃ => wpAny (model prog w) A (letTemporaryGo value o r >>= fun _ => pure r) Q E s₃) E s₂ := by
    rw [hs o i]
    exact wpAny_operating (wpAny_mono h₂ (fun r s₃ h₃ => wpAny_bind (wpAny_letTemporaryGo (wpAny_pure h₃))) fun _ _ x => x)
  first
    | exact wpAny_pure (wpAny_bind fin)
    | exact wpAny_bind (wpAny_pure (wpAny_bind fin))
    | exact wpAny_bind fin
theorem dict_typeIs {X : Cx} {pins : List (Addr × Obj)} {σ : St} {H : Hp} {s : Shared} {a : Addr} {y : V} {o : Option V} (I : Inv X pins σ H s) (g : DGet H a y o) : s.TypeIs (.ref a) "dict" := by
  rcases g with ⟨kvs, k, e, _, _⟩ | ⟨kvs, k, b, e, _, _, _⟩
  · obtain ⟨_, _, vs, _, dd⟩ := dk_rd I.hok e
    exact dd.typeIs
  · obtain ⟨_, _, xs, _, dd⟩ := dt_rd I.hok e
    exact dd.typeIs
def tDGet (td ty : TE) : TE := fun σ H Q => td σ H fun x H1 => ty σ H1 fun y H2 => ∃ a v, x = .ref a ∧ DGet H2 a y (some v) ∧ Q v H2
def tDIn (ty td : TE) : TE := fun σ H Q => ty σ H fun y H1 => td σ H1 fun x H2 => ∃ a o, x = .ref a ∧ DGet H2 a y o ∧ Q (.bl o.isSome) H2
def tDNotIn (ty td : TE) : TE := fun σ H Q => ty σ H fun y H1 => td σ H1 fun x H2 => ∃ a o, x = .ref a ∧ DGet H2 a y o ∧ Q (.bl (!o.isSome)) H2
def sDPut (td ty tv : TE) : TS := fun D σ H => tv σ H fun v H1 => td σ H1 fun x H2 => ty σ H2 fun y H3 => ∃ a H4, x = .ref a ∧ DPut H3 a y v H4 ∧ D.nx σ H4
def sDDel (td ty : TE) : TS := fun D σ H => td σ H fun x H1 => ty σ H1 fun y H2 => ∃ a kvs k, x = .ref a ∧ H2 a = some (.dK kvs) ∧ y = kV k ∧ (valV kvs k).isSome = true ∧ D.nx σ (upd H2 a (.dK (dropK kvs k)))
section
variable {X : Cx} {o i e value : Expr} {pos pos' tpos : Pos} {td ty tv : TE}
theorem pe_dget (hu : X.A.units + 1 < cLine) (ho : PE X o td) (hi : PE X i ty) (hs : NoSl i) : PE X (.Subscript o i pos) (tDGet td ty) := by
  intro pins s σ H Q I h
  refine subD_of PySem.F.slot_dict_getitem.lookup hs (thn (ho pins s σ H _ I h) fun u s1 ⟨x, H1, I1, rx, q1⟩ => thn (hi pins s1 σ H1 _ I1 q1) fun iv s2 ⟨y, H2, I2, ry, a, v, ex, g, q2⟩ => ?_)
  subst ex
  obtain rfl : u = Value.ref a := rx
  exact ⟨dict_typeIs I2 g, d_getItem hu I2 g ry fun w' s3 I3 rw' => ⟨v, H2, I3, rw', q2⟩⟩
theorem pc_din (hu : X.A.units + 1 < cLine) (hi : PE X i ty) (ho : PE X o td) : PC X .In i o (tDIn ty td) := by
  intro pins s σ H Q I h
  refine thn (hi pins s σ H _ I h) fun iv s1 ⟨y, H1, I1, ry, q1⟩ => thn (ho pins s1 σ H1 _ I1 q1) fun u s2 ⟨x, H2, I2, rx, a, ov, ex, g, q2⟩ => ?_
  subst ex
  obtain rfl : u = Value.ref a := rx
  exact d_in hu I2 g ry fun s3 I3 => ⟨.bl ov.isSome, H2, I3, rfl, q2⟩
theorem pc_dnotin (hu : X.A.units + 1 < cLine) (hi : PE X i ty) (ho : PE X o td) : PC X .NotIn i o (tDNotIn ty td) := by
  intro pins s σ H Q I h
  refine thn (hi pins s σ H _ I h) fun iv s1 ⟨y, H1, I1, ry, q1⟩ => thn (ho pins s1 σ H1 _ I1 q1) fun u s2 ⟨x, H2, I2, rx, a, ov, ex, g, q2⟩ => ?_
  subst ex
  obtain rfl : u = Value.ref a := rx
  exact d_notIn hu I2 g ry fun s3 I3 => ⟨.bl (!ov.isSome), H2, I3, rfl, q2⟩
theorem ps_dput (hu : X.A.units + 1 < cLine) (ho : PE X o td) (hi : PE X i ty) (hv : PE X value tv) (hs : swapsWith value (some (.Subscript o i pos')) pos.line X.env = pure false) :
    PS X (.Assign [.Subscript o i pos'] value pos) (sDPut td ty tv) := by
  intro pins s σ H D I h
  refine wpAny_Assign_Subscript (thn (hv pins s σ H _ I h) fun r s1 ⟨v, H1, I1, rv, q1⟩ => thn (ho pins s1 σ H1 _ I1 q1) fun u s2 ⟨x, H2, I2, rx, q2⟩ => thn (hi pins s2 σ H2 _ I2 q2) fun iv s3 ⟨y, H3, I3, ry, a, H4, ex, g, q3⟩ => ?_) hs
  subst ex
  obtain rfl : u = Value.ref a := rx
  exact d_setItem hu I3 g ry rv fun s4 I4 => ⟨σ, H4, I4, q3⟩
theorem ps_ddel (ho : PE X o td) (hi : PE X i ty) : PS X (.Delete [.Subscript o i tpos] pos) (sDDel td ty) := by
  intro pins s σ H D I h
  refine wpAny_Delete (wpAny_deleteEach_cons (wpAny_delete_Subscript (thn (ho pins s σ H _ I h) fun u s1 ⟨x, H1, I1, rx, q1⟩ => thn (hi pins s1 σ H1 _ I1 q1) fun iv s2 ⟨y, H2, I2, ry, a, kvs, k, ex, e, ey, l, q2⟩ => ?_)))
  subst ex ey
  obtain rfl : u = Value.ref a := rx
  exact d_delItem I2 e ry l fun s3 I3 => wpAny_deleteEach_nil ⟨σ, _, I3, q2⟩
end
theorem dk_empty {P : Program} {w : World} {H : Hp} (h : Heap) (hb : sysModules < h.objs.size) : ObjOk P w H (h.push { cls := .type "dict", data := .dict #[] }) h.objs.size (.dK []) :=
  ⟨Nat.zero_le _, beq_eq_false_iff_ne.mpr (Ne.symm (Nat.ne_of_lt hb)), [], .nil, Heap.DictOf.new h⟩
def tDNewK : TE := fun _ H Q => ∀ p, H p = none → Q (.ref p) (upd H p (.dK []))
section
variable {X : Cx} {pos : Pos}
theorem pe_dnewK : PE X (.Dict [] [] pos) tDNewK := fun pins s σ H Q I h =>
  wpAny_Dict_empty ⟨.ref s.heap.objs.size, _, I.laid (a := s.heap.objs.size) (o := .dK []) (t' := s.toks) (fun _ _ q => Heap.get?_push_of_some _ q) (Nat.le_refl _) (dk_empty s.heap I.big), rfl, h _ (I.hok.fresh (Nat.le_refl _))⟩
end
def tPairs : List (TE × TE) → St → Hp → (List (V × V) → Hp → Prop) → Prop
  | [], _, H, Q => Q [] H
  | (tk, tv) :: r, σ, H, Q => tk σ H fun x H1 => tv σ H1 fun y H2 => tPairs r σ H2 fun ps H3 => Q ((x, y) :: ps) H3
abbrev VV : List (V × V) → List (Value × Value) → Prop := Paired fun p q => RelV p.1 q.1 ∧ RelV p.2 q.2
def PPs (X : Cx) (pos : Pos) (keys : List (Option Expr)) (values : List Expr) (trs : List (TE × TE)) : Prop :=
  ∀ (pins : List (Addr × Obj)) (s : Shared) (σ : St) (H : Hp) (Q : List (V × V) → Hp → Prop), Inv X pins σ H s → tPairs trs σ H Q →
    wpAny (model X.prog X.w) X.A (evalPairs (pairTrees keys values X.env pos)) (fun vs s' => ∃ ps H', Inv X pins σ H' s' ∧ VV ps vs ∧ Q ps H') X.xe s
theorem pps_nil {X : Cx} {pos : Pos} : PPs X pos [] [] [] := fun pins s σ H Q I h => pairTrees_nil_walk ⟨[], H, I, .nil, h⟩
theorem pps_cons {X : Cx} {pos : Pos} {k v : Expr} {ks : List (Option Expr)} {vs : List Expr} {tk tv : TE} {trs : List (TE × TE)} (hk : PE X k tk) (hv : PE X v tv) (hr : PPs X pos ks vs trs) :
    PPs X pos (some k :: ks) (v :: vs) ((tk, tv) :: trs) := fun pins s σ H Q I h =>
  pairTrees_cons_walk (thn (hk pins s σ H _ I h) fun u s1 ⟨x, H1, I1, rx, q1⟩ => thn (hv pins s1 σ H1 _ I1 q1) fun w2 s2 ⟨y, H2, I2, ry, q2⟩ =>
    thn (hr pins s2 σ H2 _ I2 q2) fun ws s3 ⟨ps, H3, I3, rel, q3⟩ => ⟨(x, y) :: ps, H3, I3, .cons ⟨rx, ry⟩ rel, q3⟩)
def mergeK (kvs more : List (Key × V)) : List (Key × V) := more.foldl (fun acc kv => putK acc kv.1 kv.2) kvs
theorem KV.merge : ∀ {more : List (Key × V)} {rs : List (Key × Value)} {kvs : List (Key × V)} {vs : List (Key × Value)}, KV more rs → KV kvs vs → KV (mergeK kvs more) (merged vs rs) := by
  intro more rs kvs vs r
  unfold KV at r
  induction r generalizing kvs vs with
  | nil => intro q; exact q
  | @cons p q ps qs h t ih =>
    intro r0
    have e : KV (putK kvs p.1 p.2) (stored vs q.1 q.2) := by
      have := r0.put p.1 h.2
      rw [← h.1]; exact this
    exact ih e
theorem length_mergeK : ∀ (more kvs : List (Key × V)), (mergeK kvs more).length ≤ kvs.length + more.length
  | [], kvs => by show kvs.length ≤ kvs.length + 0; omega
  | p :: r, kvs => by
    have h1 := length_mergeK r (putK kvs p.1 p.2)
    have h2 := length_putK kvs p.1 p.2
    show (mergeK (putK kvs p.1 p.2) r).length ≤ _
    rw [List.length_cons]; omega
theorem carries_of {P : Program} {w : World} : ∀ {kvs : List (Key × V)} {ws : List (Value × Value)}, VV (kvs.map fun kv => (kV kv.1, kv.2)) ws → ∃ rs, Carries (mixKind P w) ws rs ∧ KV kvs rs
  | [], _, r => by rw [List.map_nil] at r; cases r; exact ⟨[], True.intro, .nil⟩
  | p :: kvs, _, r => by
    rw [List.map_cons] at r
    cases r with
    | @cons a b as bs h t =>
      obtain ⟨rs, c, q⟩ := carries_of (P := P) (w := w) t
      obtain ⟨b1, b2⟩ := b
      exact ⟨(p.1, b2) :: rs, ⟨kV_is h.1, rfl, c⟩, .cons ⟨rfl, h.2⟩ q⟩
def tDisp (trs : List (TE × TE)) : TE := fun σ H Q => ∀ p, H p = none → tPairs trs σ (upd H p (.dK [])) fun ps H2 => H2 p = some (.dK []) ∧ ∃ kvs : List (Key × V), ps = kvs.map (fun kv => (kV kv.1, kv.2)) ∧ kvs.length ≤ 15 ∧ Q (.ref p) (upd H2 p (.dK (mergeK [] kvs)))
theorem pe_disp {X : Cx} {pos : Pos} {keys : List (Option Expr)} {values : List Expr} {trs : List (TE × TE)} (h : PPs X pos keys values trs) (hall : keys.all (·.isSome) = true) (hl : keys.length = values.length) (h0 : keys ≠ [])
    (h15 : keys.length ≤ 15) : PE X (.Dict keys values pos) (tDisp trs) := by
  intro pins s σ H Q I q
  have hn := I.hok.fresh (Nat.le_refl s.heap.objs.size)
  have I1 := I.laid (a := s.heap.objs.size) (o := .dK []) (h' := s.heap.push { cls := .type "dict", data := .dict #[] }) (t' := s.toks) (fun _ _ q => Heap.get?_push_of_some _ q) (Nat.le_refl _) (dk_empty s.heap I.big)
  refine wpAny_Dict_walk (knd := mixKind X.prog X.w) hall hl h0 h15 (thn (h pins _ σ _ _ I1 (q _ hn)) fun ws s2 ⟨ps, H2, I2, rel, e, kvs, ep, lk, q2⟩ => ?_)
  subst ep
  obtain ⟨rs, c, rk⟩ := carries_of (P := X.prog) (w := X.w) rel
  obtain ⟨z, hd, vs0, r0, dd⟩ := dk_of I2.hok e
  cases r0
  refine ⟨rs, c, dd, fun h' dd' hs => ⟨.ref s.heap.objs.size, _, ?_, rfl, q2⟩⟩
  have hz : (mergeK [] kvs).length ≤ sizeLine := by
    have h1 := length_mergeK kvs []
    rw [List.length_nil] at h1
    rw [sizeLine_eq]; omega
  have he : ∃ q, h'.get? s.heap.objs.size = some q := let ⟨q, _, _, hq, _⟩ := dd'; ⟨q, hq⟩
  exact d_write I2 (by rw [e]; exact True.intro) hs he (dk_new hz hd (rk.merge .nil) dd')
def IsD (H : Hp) (a : Addr) : Prop := (∃ kvs, Rd H a (.dK kvs)) ∨ ∃ kvs, Rd H a (.dT kvs)
theorem isD_at {X : Cx} {pins : List (Addr × Obj)} {σ : St} {H : Hp} {s : Shared} {a : Addr} (I : Inv X pins σ H s) (d : IsD H a) :
    s.TypeIs (.ref a) "dict" ∧ (∀ b, Value.ref a = .ref b → ∃ ob, s.heap.get? b = some ob ∧ ob.dict = none) ∧ (a == sysModules) = false := by
  rcases d with ⟨kvs, e⟩ | ⟨kvs, e⟩
  · obtain ⟨_, hd, vs, _, dd⟩ := dk_rd I.hok e
    refine ⟨dd.typeIs, fun b q => ?_, hd⟩
    cases q
    obtain ⟨ob, _, _, h1, h2, _⟩ := dd
    exact ⟨ob, h1, h2.2.1⟩
  · obtain ⟨_, hd, xs, _, dd⟩ := dt_rd I.hok e
    refine ⟨dd.typeIs, fun b q => ?_, hd⟩
    cases q
    obtain ⟨ob, _, _, h1, h2, _⟩ := dd
    exact ⟨ob, h1, h2.2.1⟩
section
variable {X : Cx} {pins : List (Addr × Obj)} {σ : St} {H : Hp} {s : Shared} {a : Addr} {y d : V} {u r : Value} {o : Option V} {A : Around} {E : Value → Shared → Prop}
end
section
variable {X : Cx} {o e f : Expr} {apos cpos : Pos} {td ty tx : TE}
end
section
variable {X : Cx} {pins : List (Addr × Obj)} {σ : St} {H : Hp} {s : Shared} {a : Addr} {kvs : List (Key × V)} {A : Around} {E : Value → Shared → Prop}
end
section
variable {X : Cx} {pins : List (Addr × Obj)} {σ : St} {H : Hp} {s : Shared} {a : Addr} {y : V} {u : Value} {A : Around} {E : Value → Shared → Prop}
end
end L2
namespace Att
open PySem PySem.W PySem.Calls PyProof.Rows
theorem ints_of_wellAll {P : Params} {h : Heap} : ∀ (ns : List Int) (vs : List Value), WellAll P h vs (ns.map WData.int) → IntsAre vs ns := by
  intro ns
  induction ns with
  | nil =>
    intro vs w
    rw [List.map_nil] at w
    cases w
    exact .nil
  | cons n ns ih =>
    intro vs w
    rw [List.map_cons] at w
    cases w with
    | cons a b =>
      cases a
      exact .cons _ _ (ih _ b)
theorem script_of {l : OpenLaw} {n : Nat} (hn : l.most = some n) {P : Params} {h : Heap} {args : List WData} {vals : List Value}
    (hpre : l.row.toRowW.claim.pre args = true) (hwl : WellAll P h vals args) :
    ∃ a vs ns, vals = [Value.ref a] ∧ args = [WData.list (ns.map WData.int)] ∧ h.get? a = some { cls := .type "list", data := .seq vs.toArray } ∧ IntsAre vs ns ∧ ns.length ≤ n := by
  have hsh : WShape.hasAll [] args [.list .int] = true := (pre_splitW hpre).1
  have hc : l.pre.holds [] { args := args } = true := (pre_splitW hpre).2
  obtain ⟨d, r, rfl, h1, h2⟩ := hasAllW_cons hsh
  obtain rfl := hasAllW_nil h2
  obtain ⟨xs, rfl, h3⟩ := hasW_list h1
  obtain ⟨ns, rfl⟩ := items_int h3
  have hlen : ns.length ≤ n := by
    unfold OpenLaw.pre at hc
    have h4 : (WTm.not (.lt (.lit (.int (n : Int))) (.len (.arg 0)))).holds [] { args := [.list (ns.map .int)] } = true := by
      have h4 := (holds_andW hc).1
      rw [hn] at h4
      exact h4
    have h5 := condW_of h4 (w_not (w_lt w_lit (w_len_list (w_arg rfl))))
    rw [List.length_map] at h5
    refine Nat.le_of_not_lt fun q => ?_
    have q' : (n : Int) < ((ns.length : Nat) : Int) := by omega
    first
      | (rw [decide_eq_true q'] at h5; exact absurd h5 (by decide))
      | (simp at h5; omega)
  cases hwl with
  | cons w1 w2 =>
    cases w2
    cases w1 with
    | list ho hall => exact ⟨_, _, ns, rfl, rfl, ho, ints_of_wellAll ns _ hall, hlen⟩
theorem post_true (l : OpenLaw) (args : List WData) : l.row.toRowW.claim.post args (.bool true) args = true :=
  postW_of (r := l.row.toRowW) (X := (true == true))
    (show WShape.has [] (.bool true) .bool = true by first | rfl | decide | simp [WShape.has, WShape.arms, WShape.armsAll])
    (show (WTm.eq .res (.lit (.bool true))).value [] { args := args, res := some (.bool true), after := args } = some (.bool (true == true)) from w_eq_bool (w_res rfl) w_lit) rfl
theorem attach_call {l : OpenLaw} {n : Nat} {q : Program} {loose : List Str} {XP : (Str → Option Value) → Heap → Prop} {YP : World → Heap → Prop} {d : DefRec}
    (hn : l.most = some n) (hdf : d.params.defaults = [])
    (call : ∀ (w : World) (s₀ s₁ : Shared) (mg mb : Str → Option Value) (fa : Addr) (o : Obj) (pm cd doc : Value) (a : Addr) (vs : List Value) (ns : List Int),
      Ground q loose [] XP w s₀ mg mb s₁.heap → YP w s₁.heap →
      s₁.heap.get? fa = some o → o.data = .func (docDef d.name d.params d.body d.scope pm cd doc) → s₁.heap.CodeRec cd d.name → mg d.name = some (.ref fa) →
      s₁.heap.get? a = some { cls := .type "list", data := .seq vs.toArray } → IntsAre vs ns → ns.length ≤ n → s₁.gens = #[] →
      codeAny (model l.prog w) callerA (.call (.ref fa) ⟨[.ref a], []⟩) (fun r s' => r = .ok (.ret (.bool true)) ∧ OldK s₁.heap s'.heap ∧ s'.os = s₁.os ∧ AllBare s'.gens) s₁) :
    WalkO q loose XP YP l.row.toRowW d [] (fun f vs => PySem.call f vs) := by
  intro w s₀ s₁ mg mb G Y fa o pm cd doc dV kV ho hd hcd hD hmg hg args vals as hpre hlay hrd hwl hlo
  obtain rfl : dV = .none := Dflts.none hD hdf
  obtain rfl : kV = .none := Dflts.noKw hD
  obtain ⟨a, vs, ns, rfl, rfl, hobj, hints, hlen⟩ := script_of hn hpre hwl
  refine enter_call (codeAny_mono (call w s₀ s₁ mg mb fa o pm cd doc a vs ns G Y ho (fd_plain hd) hcd hmg hobj hints hlen hg) fun r s' hq => ?_)
  obtain ⟨rfl, h2, h3, h4⟩ := hq
  exact ⟨.inl ⟨.bool true, .bool true, [], rfl, fun _ => rfl, .bool true, post_true l _, fun _ => ⟨List.Pairwise.nil, fun _ hm => (nomatch hm)⟩⟩, h2, h3, h4⟩
section
variable {prog : Program} {w : World} {A : Around} {E : Value → Shared → Prop} {s : Shared} {K : Frag}
end
end Att
namespace L2
open PySem PySem.Spec PyProof.Rows
theorem vals_ints : ∀ {vs : List Value} {ns : List Int}, IntsAre vs ns → Vals (ns.map V.int) vs
  | _, _, .nil => .nil
  | _, _, .cons n t h => .cons ⟨t, rfl⟩ (vals_ints h)
def Only (H : Hp) : Prop := ∀ b, H b = none ∨ ∃ o xs, H b = some (.frz o (.lst xs))
theorem law_call {P : Program} {w : World} {K : PySem.W.Frag} {mg mb : Str → Option Value} {CX : CXT} {k : Nat} {fa a : Addr} {fd : FuncData} {x : Str} {sp : Sp} {s₁ : Shared} {vs : List Value} {ns : List Int}
    (KX : K.In s₁.heap) (hns : s₁.heap.Ns mainGlobals mg) (hb : s₁.heap.Ns builtinsNs mb) (hbb : ∀ x : Str, x ≠ "__name__" → mb x = bootBuiltins x) (hlim : s₁.heap.NoLimit) (hg : s₁.gens = #[])
    (ha : s₁.heap.get? a = some { cls := .type "list", data := .seq vs.toArray }) (hi : IntsAre vs ns) (hl : ns.length ≤ sizeLine) (hr : Room k callerA)
    (F : ∀ base : Heap, K.In base → base.Ns mainGlobals mg → FnOk P w K mg base CX k fa fd [x] sp) (hbind : ∀ (s : Shared) (u : Value), BindsTo s fd ⟨[u], []⟩ [(x, u)])
    (hsp : ∀ H : Hp, Only H → SqL K H a (ns.map V.int) → sp [.ref a] H (fun v _ => v = .bl true) fun _ _ _ => False)
    (hCX : ∀ H e s', CX [] H s₁ (fun _ _ _ => False) e s' → False) :
    codeAny (model P w) callerA (.call (.ref fa) ⟨[.ref a], []⟩) (fun r s' => r = .ok (.ret (.bool true)) ∧ OldK s₁.heap s'.heap ∧ s'.os = s₁.os ∧ AllBare s'.gens) s₁ := by
  have rv := vals_ints hi
  have lenV := hi.length
  have core : ∀ H : Hp, Only H → SqL K H a (ns.map V.int) → HOk P w H s₁.heap → (∀ b, H b ≠ none → b = a) → (H a ≠ none → K.lookup a = none) →
      codeAny (model P w) callerA (.call (.ref fa) ⟨[.ref a], []⟩) (fun r s' => r = .ok (.ret (.bool true)) ∧ OldK s₁.heap s'.heap ∧ s'.os = s₁.os ∧ AllBare s'.gens) s₁ := by
    intro H hO hS hok hA hK
    have base_of : ∀ {b : Addr} {o : Obj}, s₁.heap.get? b = some o → H b = none → (hidT s₁.heap H).get? b = some o := fun e n => hidT_get e n
    have noA : ∀ {b : Addr} {o : Obj} {es : Array DictEntry} {ep : Nat}, s₁.heap.get? b = some o → o.data = .dict es ep → H b = none := fun {b o es ep} e d => by
      cases q : H b with
      | none => rfl
      | some u =>
        have e' : b = a := hA b (by rw [q]; simp)
        subst e'
        rw [ha] at e; cases e
        have d' : Data.seq vs.toArray _ = Data.dict es ep := d
        cases d'
    have nsK : ∀ {b : Addr} {m : Str → Option Value}, s₁.heap.Ns b m → (hidT s₁.heap H).Ns b m := fun {b m} ⟨o, es, ep, e, d, r⟩ => ⟨o, es, ep, base_of e (noA e d), d, r⟩
    have hKb : K.In (hidT s₁.heap H) := fun b o e => base_of (KX b o e) (by
      cases q : H b with
      | none => rfl
      | some u =>
        have e' : b = a := hA b (by rw [q]; simp)
        subst e'
        rw [hK (by rw [q]; simp)] at e; cases e)
    have hM : Mod K mg (hidT s₁.heap H) := ⟨hKb, nsK hns, ⟨mb, nsK hb, hbb⟩, let ⟨mc, h1, h2⟩ := hlim; ⟨mc, nsK h1, h2⟩⟩
    have e0 : Env0 P w K mg (hidT s₁.heap H) callerA [] s₁ H := ⟨rfl, hM, fun b o e => of_hidT e, Nat.le_of_eq (hidT_size _ _), trivial, fun b hb => absurd (show b ∈ ([] : List Addr) from hb) (by simp), hok, .of_eq hg⟩
    refine codeAny_mono ((F _ hKb (nsK hns)).run callerA [] s₁ H ⟨[.ref a], []⟩ [.ref a] [.ref a] _ _ hr e0 (hbind s₁ (.ref a)) (.cons rfl .nil) (hsp H hO hS)) fun r s' h => ?_
    cases r with
    | error e => exact (hCX H e s' h).elim
    | ok fl =>
      cases fl with
      | next => exact False.elim h
      | brk => exact False.elim h
      | cont => exact False.elim h
      | ret u =>
        obtain ⟨v, H', os, bare, un, hok', r', q⟩ := h
        have q' : v = .bl true := q
        subst q'
        obtain rfl : u = Value.bool true := r'
        refine ⟨rfl, OldK.of_keep fun b o e => ?_, os, bare⟩
        cases q : H b with
        | none => exact un.keep b o e q (by intro z; exact absurd (show b ∈ ([] : List Addr) from z) (by simp)) (by simp)
        | some u =>
          rcases hO b with z | ⟨ob, xs, z⟩
          · rw [q] at z; cases z
          · have z2 := un.frzs b ob _ z
            obtain ⟨e1, _⟩ := hok b _ z
            obtain ⟨e2, _⟩ := hok' b _ z2
            rw [e] at e1; cases e1
            exact e2
  cases hk : K.lookup a with
  | some o =>
    have e := KX a o hk
    rw [ha] at e
    cases e
    refine core (fun _ => none) (fun _ => .inl rfl) (.inr ⟨_, vs.toArray, _, hk, rfl, rfl, rfl, by rw [List.size_toArray, lenV]; exact hl, by simpa using rv⟩) (fun b u z => by have z' : (none : Option HO) = some u := z; cases z') (fun b z => absurd rfl z) fun z => absurd rfl z
  | none =>
    refine core (fun b => if b = a then some (.frz { cls := .type "list", data := .seq vs.toArray } (.lst (ns.map V.int))) else none) (fun b => ?_) (.inl (.inr ⟨{ cls := .type "list", data := .seq vs.toArray }, if_pos rfl⟩)) (fun b u z => ?_) (fun b z => ?_) fun _ => hk
    · by_cases hb : b = a
      · exact .inr ⟨_, _, if_pos hb⟩
      · exact .inl (if_neg hb)
    · by_cases hb : b = a
      · have z' := (if_pos hb).symm.trans z
        cases z'
        subst hb
        exact ⟨ha, by rw [List.length_map]; exact hl, vs, _, rv, ha⟩
      · have z' := (if_neg hb).symm.trans z
        cases z'
    · by_cases hb : b = a
      · exact hb
      · exact absurd (if_neg hb) z
end L2
namespace L2
open PySem PySem.Spec PyProof.Rows
theorem walk_of {l : PySem.W.OpenLaw} {n k : Nat} {q : Program} {loose : List Str} {XP : (Str → Option Value) → Heap → Prop} {YP : World → Heap → Prop} {d : DefRec} {K : Params → PySem.W.Frag} {CX : World → CXT} {sp : World → Sp} {x : Str}
    (hn : l.most = some n) (hn2 : n ≤ sizeLine) (hdf : d.params.defaults = []) (hr : Room k callerA)
    (hY : ∀ (w : World) (h : Heap), YP w h → (K w.params).In h)
    (F : ∀ (w : World) (mg : Str → Option Value) (fa : Addr) (h : Heap), (K w.params).In h → h.Ns mainGlobals mg → mg d.name = some (.ref fa) →
      ∃ fd : FuncData, (∀ (s : Shared) (u : Value), BindsTo s fd ⟨[u], []⟩ [(x, u)]) ∧
        ∀ base : Heap, (K w.params).In base → base.Ns mainGlobals mg → FnOk l.prog w (K w.params) mg base (CX w) k fa fd [x] (sp w))
    (hsp : ∀ (w : World) (H : Hp) (a : Addr) (ns : List Int), ns.length ≤ n → Only H → SqL (K w.params) H a (ns.map V.int) → sp w [.ref a] H (fun v _ => v = .bl true) fun _ _ _ => False)
    (hCX : ∀ (w : World) (H : Hp) (s : Shared) (e : Value) (s' : Shared), CX w [] H s (fun _ _ _ => False) e s' → False) :
    PySem.W.WalkO q loose XP YP l.row.toRowW d [] (fun f vs => PySem.call f vs) := by
  refine Att.attach_call hn hdf fun w s₀ s₁ mg mb fa o pm cd doc a vs ns G Y ho hd hcd hmg hobj hints hlen hg => ?_
  have KX := hY w _ Y
  obtain ⟨fd, hb, hF⟩ := F w mg fa _ KX G.T.g hmg
  exact law_call KX G.T.g G.T.b G.T.builtins G.T.nolimit hg hobj hints (Nat.le_trans hlen hn2) hr hF hb (fun H hO hS => hsp w H a ns hlen hO hS) fun H e s' => hCX w H s₁ e s'
end L2
namespace L2
open PySem PySem.Spec PyProof.Rows
def inClass (s : Stmt) (j : Nat) : Stmt := match s with
  | .ClassDef _ _ _ body _ _ _ _ _ _ _ => body.getD j (.Pass ⟨0, 0, 0, 0⟩)
  | _ => .Pass ⟨0, 0, 0, 0⟩
def defArgs (s : Stmt) : Arguments := match s with
  | .FunctionDef _ a _ _ _ _ _ _ _ _ => a
  | _ => { posonlyargs := [], args := [], vararg := none, kwonlyargs := [], kw_defaults := [], kwarg := none, defaults := [] }
def defBody (s : Stmt) : List Stmt := match s with
  | .FunctionDef _ _ b _ _ _ _ _ _ _ => b
  | _ => []
def defScope (s : Stmt) : Scope := match s with
  | .FunctionDef _ _ _ _ _ _ sc _ _ _ => sc
  | _ => { kind := .function, names := [], isGenerator := false, isCoroutine := false }
abbrev CX0 : CXT := fun _ _ _ _ _ _ => False
abbrev E0 : XK := fun _ _ _ => False
structure Fun (K : PySem.W.Frag) (x qual : Str) (st : Stmt) (f : Addr) (fd : FuncData) : Prop where
  ex : ∃ (oc : Value) (od : Option Addr) (kV doc pm : Value) (an : Option Addr) (cdv ct : Value) (osl : Array (Option Value)),
    fd = PySem.W.fnOf x qual (defArgs st) (defBody st) (defScope st) .none kV doc pm an cdv ct ∧ K.lookup f = some ⟨oc, od, .func fd, osl⟩ ∧ PySem.W.codeIn K cdv qual = true
  kp : PySem.W.keepIn K (.ref f) = true
section
variable {P : Program} {w : World} {K : PySem.W.Frag} {mg : Str → Option Value} {base : Heap}
theorem Fun.ok {x qual : Str} {st : Stmt} {f : Addr} {fd : FuncData} {N ps : List Str} {k : Nat} {sp : Sp} (F : Fun K x qual st f fd) (S : FnScope N ps (defScope st)) (len : ∀ vs H Q E, sp vs H Q E → vs.length = ps.length)
    (hbody : ∀ (cdv : Value) (A : Around) (outer : List Env) (s : Shared) (H : Hp) (vs : List V) (Q : VK) (E : XK), Room k (A.deeper (envOfC qual (defScope st) s.heap.objs.size f cdv)) → sp vs H Q E →
      ∃ t, PSs (cxOf CX0 P w K mg base N qual (defScope st) f cdv A outer s H E).nox (defBody st) t ∧ t { nx := fun _ H' => Q .non H', rt := Q } (start N vs) H) : FnOk P w K mg base CX0 (k + 1) f fd ps sp := by
  obtain ⟨oc, od, kV, doc, pm, an, cdv, ct, osl, rfl, lk, hcd⟩ := F.ex
  refine fn_of lk hcd S len fun A outer s H vs Q E hr hsp => ?_
  obtain ⟨t, h, q⟩ := hbody cdv A outer s H vs Q E hr hsp
  exact ⟨t, h.nox, q⟩
theorem Fun.binds {x qual : Str} {st : Stmt} {f : Addr} {fd : FuncData} {ps : List Str} (F : Fun K x qual st f fd)
    (h : ∀ (kV doc pm : Value) (an : Option Addr) (cdv ct : Value) (us : List Value), us.length = ps.length → bindArgs (PySem.W.fnOf x qual (defArgs st) (defBody st) (defScope st) .none kV doc pm an cdv ct) ⟨us, []⟩ = pure (ps.zip us)) : Binds K fd ps [] := by
  obtain ⟨oc, od, kV, doc, pm, an, cdv, ct, osl, rfl, lk, hcd⟩ := F.ex
  exact .all (h kV doc pm an cdv ct)
theorem fun_mk {x qual : Str} {st : Stmt} {f : Addr} {oc : Value} {od an : Option Addr} {osl : Array (Option Value)} {kV doc pm cdv ct : Value} (l : K.lookup f = some ⟨oc, od, .func (PySem.W.fnOf x qual (defArgs st) (defBody st) (defScope st) .none kV doc pm an cdv ct), osl⟩)
    (c : PySem.W.codeIn K cdv qual = true) (k : PySem.W.keepIn K (.ref f) = true) : Fun K x qual st f (PySem.W.fnOf x qual (defArgs st) (defBody st) (defScope st) .none kV doc pm an cdv ct) := ⟨⟨oc, od, kV, doc, pm, an, cdv, ct, osl, rfl, l, c⟩, k⟩
end
theorem hu_of {A : Around} {k : Nat} (hr : Room k A) : A.units + 1 < cLine := Nat.lt_of_le_of_lt (Nat.add_le_add_left (by decide : 1 ≤ 64) _) hr.units
theorem small1000 {n : Nat} (h : n ≤ 1000) : n < sizeLine := Nat.lt_of_le_of_lt h (by decide)
section
variable {X : Cx}
theorem pv (i : Nat) {x : Str} {pos : Pos} (hN : X.N[i]? = some x := by rfl) (hv : Vis X.env.scope x := by first | exact Or.inl rfl | exact Or.inr (Or.inl rfl) | exact Or.inr (Or.inr rfl)) (hd : (x == ("__debug__" : Str)) = false := by decide)
    (hcd : (x == ("__classdict__" : Str)) = false := by decide) : PE X (.Name x pos) (tVar i) := pe_var hN hv hd hcd
end
theorem iteF {A B : Prop} (h : B) : if false = true then A else B := by
  rw [if_neg Bool.false_ne_true]
  exact h
theorem iteT {A B : Prop} (h : A) : if true = true then A else B := by
  rw [if_pos rfl]
  exact h
theorem ite2 {c A B : Prop} [Decidable c] (h1 : c → A) (h2 : ¬ c → B) : if c then A else B := by
  by_cases h : c
  · rw [if_pos h]
    exact h1 h
  · rw [if_neg h]
    exact h2 h
def Same (H H' : Hp) : Prop := ∀ b o, H b = some o → H' b = some o
theorem Same.refl (H : Hp) : Same H H := fun _ _ h => h
theorem Same.trans {H H1 H2 : Hp} (a : Same H H1) (b : Same H1 H2) : Same H H2 := fun c o h => b c o (a c o h)
theorem Same.free {H H' : Hp} (e : Same H H') {l : Addr} (h : H' l = Option.none) : H l = Option.none := by
  cases q : H l with
  | none => rfl
  | some o =>
    rw [e l o q] at h
    cases h
theorem Same.seq {K : PySem.W.Frag} {H H' : Hp} {a : Addr} {xs : List V} (e : Same H H') (h : SqL K H a xs) : SqL K H' a xs := by
  rcases h with (h | ⟨o, h⟩) | h
  · exact .inl (.inl (e _ _ h))
  · exact .inl (.inr ⟨o, e _ _ h⟩)
  · exact .inr h
end L2
namespace L2
open PySem PySem.Spec PyProof.Rows
section
variable {X : Cx}
theorem call_lenD : CallR X (.builtin "len") (fun xs H Q => ∃ a kvs, xs = [V.ref a] ∧ H a = some (.dK kvs) ∧ Q (.int kvs.length) H) := by
  intro pins s σ H xs us Q I r h
  obtain ⟨a, kvs, rfl, ha, q⟩ := h
  obtain ⟨u, rfl, ru⟩ := vals1 r
  cases ru
  exact d_len I (.inl ha) fun t s' I' => ⟨.int kvs.length, H, I', ⟨t, rfl⟩, q⟩
end
section
variable {κ : Type} [DecidableEq κ]
theorem nd_snoc : ∀ {l : List κ} {k : κ}, l.Nodup → ¬ k ∈ l → (l ++ [k]).Nodup
  | [], k, _, _ => by simp
  | a :: r, k, h, hk => by
    obtain ⟨h1, h2⟩ := List.nodup_cons.mp h
    show (a :: (r ++ [k])).Nodup
    refine List.nodup_cons.mpr ⟨fun m => ?_, nd_snoc h2 fun m => hk (List.mem_cons.mpr (Or.inr m))⟩
    rcases List.mem_append.mp m with q | q
    · exact h1 q
    · exact hk (List.mem_cons.mpr (Or.inl (List.mem_singleton.mp q).symm))
end
end L2
set_option maxHeartbeats 4000000
namespace L2
open PySem PySem.Spec PyProof.Rows
section
variable {X : Cx}
def CDivW (_ j : Int) : Prop := 0 < j ∧ j.natAbs.log2 < 9000
theorem op_fdivW : OpR X (binaryOp .FloorDiv) (rI CDivW fun i j => .int (i / j)) := opI fun i j _ _ _ _ _ hc q => by
  have h1 : (0 : Int) < j := hc.1
  exact floordiv_int (by omega) (by rw [Int.fdiv_eq_ediv_of_nonneg i (by omega)]; exact q) (.inl (PyProof.noPylong_of_log2 hc.2))
theorem cdivW_lit {i j : Int} (h : (decide (0 < j) && decide (j.natAbs.log2 < 9000)) = true) : CDivW i j := by
  obtain ⟨a, b⟩ := Bool.and_eq_true_iff.mp h
  exact ⟨of_decide_eq_true a, of_decide_eq_true b⟩
theorem cdivW_of {i j : Int} {n : Nat} (h0 : 0 < j) (h : j < 2 ^ n) (hn : n ≤ 9000) : CDivW i j := by
  refine ⟨h0, ?_⟩
  have e : (j.natAbs : Int) = j := by omega
  have h2 : j.natAbs < 2 ^ n := by
    have : (j.natAbs : Int) < ((2 ^ n : Nat) : Int) := by rw [e]; simpa using h
    exact Int.ofNat_lt.mp this
  have := (Nat.log2_lt (n := j.natAbs) (k := n) (by omega)).mpr h2
  omega
def CMulW (i j : Int) : Prop := ∃ m n : Nat, i.natAbs < 2 ^ m ∧ j.natAbs < 2 ^ n ∧ m + n ≤ 134217728
theorem op_mulW : OpR X (binaryOp .Mult) (rI CMulW fun i j => .int (i * j)) := opI fun _ _ _ _ _ _ _ hc q => by
  obtain ⟨m, n, h1, h2, h3⟩ := hc
  exact mul_int q (IntMulOk.of_le (PySem.intBits_le_iff.mpr h1) (PySem.intBits_le_iff.mpr h2) h3)
theorem call_isinst : CallR X (.builtin "isinstance") (fun xs H Q => ∃ x n t b, xs = [x, .ty n] ∧ TyOf X.K H x t ∧ PySem.W.kitOne X.K t (.type n) = some b ∧ Q (.bl b) H) := by
  intro pins s σ H xs us Q I r h
  obtain ⟨x, n, t, b, rfl, ty, e, q⟩ := h
  obtain ⟨u, w', rfl, ru, rw'⟩ := vals2 r
  have rw2 : w' = Value.type n := rw'
  subst rw2
  exact isinst_ok I ru ty e fun tk => ⟨.bl b, H, I.tok _, rfl, q⟩
theorem pe_ty {x : Str} {n : String} {pos : Pos} (hv : bootBuiltins x = some (.type n)) (hg : Gl X x) (hm : X.mg x = none) (hn : x ≠ "__name__" := by decide) (hd : (x == ("__debug__" : Str)) = false := by decide) : PE X (.Name x pos) (tC (.ty n)) := pe_bltn hg hm hv rfl hn hd
theorem isi_same {K : PySem.W.Frag} {n : String} : PySem.W.kitOne K (.type n) (.type n) = some true := by
  unfold PySem.W.kitOne
  rw [if_pos (beq_self_eq_true _)]
theorem isi_int_bool {K : PySem.W.Frag} : PySem.W.kitOne K (.type "int") (.type "bool") = some false := by rfl
mutual
inductive Dt (K : PySem.W.Frag) (H : Hp) : V → PyData → Prop
  | non : Dt K H .non .none
  | bl (b : Bool) : Dt K H (.bl b) (.bool b)
  | int (i : Int) : Dt K H (.int i) (.int i)
  | str (x : Str) : Dt K H (.str x) (.str x)
  | lst {a : Addr} {xs : List V} {ds : List PyData} : SqL K H a xs → DtA K H xs ds → Dt K H (.ref a) (.list ds)
  | tup {a : Addr} {xs : List V} {ds : List PyData} : SqT K H a xs → DtA K H xs ds → Dt K H (.ref a) (.tuple ds)
inductive DtA (K : PySem.W.Frag) (H : Hp) : List V → List PyData → Prop
  | nil : DtA K H [] []
  | cons {x : V} {xs : List V} {d : PyData} {ds : List PyData} : Dt K H x d → DtA K H xs ds → DtA K H (x :: xs) (d :: ds)
end
section
variable {pins : List (Addr × Obj)} {σ : St} {H : Hp} {s : Shared}
mutual
theorem Dt.reads (I : Inv X pins σ H s) : ∀ {x : V} {d : PyData} {u : Value}, Dt X.K H x d → RelV x u → ∃ as, Reads s.heap u d as
  | _, _, u, .non, r => by cases (show u = Value.none from r); exact ⟨_, .none⟩
  | _, _, u, .bl b, r => by cases (show u = Value.bool b from r); exact ⟨_, .bool b⟩
  | _, _, u, .int i, r => by obtain ⟨t, rfl⟩ := (show ∃ t, u = Value.int i t from r); exact ⟨_, .int i t⟩
  | _, _, u, .str x, r => by obtain ⟨t, rfl⟩ := (show ∃ t, u = Value.str x t from r); exact ⟨_, .str x t⟩
  | _, _, u, @Dt.lst _ _ a xs ds h hd, r => by
    cases (show u = Value.ref a from r)
    obtain ⟨its, rv, ⟨o, n, e, c, _, d⟩, hz⟩ := I.list h
    obtain ⟨as, ra⟩ := DtA.reads I hd rv
    exact ⟨_, .list e c d (by simpa using ra)⟩
  | _, _, u, @Dt.tup _ _ a xs ds h hd, r => by
    cases (show u = Value.ref a from r)
    obtain ⟨its, rv, ⟨o, e, c, n, d⟩, hz⟩ := I.tuple h
    obtain ⟨as, ra⟩ := DtA.reads I hd rv
    exact ⟨_, .tuple e c d (by simpa using ra)⟩
theorem DtA.reads (I : Inv X pins σ H s) : ∀ {xs : List V} {ds : List PyData} {us : List Value}, DtA X.K H xs ds → Vals xs us → ∃ as, ReadsAll s.heap us ds as
  | _, _, _, .nil, .nil => ⟨_, .nil⟩
  | _, _, _, .cons h t, .cons r rs => by
    obtain ⟨as, ra⟩ := Dt.reads I h r
    obtain ⟨bs, rb⟩ := DtA.reads I t rs
    exact ⟨_, .cons ra rb⟩
end
end
def rNeD (K : PySem.W.Frag) : R2 := fun x y H Q => ∃ d e, Dt K H x d ∧ Dt K H y e ∧ SeqAt.shaped d = true ∧ SeqAt.shaped e = true ∧ Q (.bl (!PyData.eqv d e)) H
theorem op_neD (hu : X.A.units + 64 < cLine) : OpR X (compareOp .NotEq) (rNeD X.K) := by
  intro pins s σ H x y v u Q I rx ry h
  obtain ⟨d, e, hd, he, sd, se, q⟩ := h
  obtain ⟨as, ra⟩ := hd.reads I rx
  obtain ⟨bs, rb⟩ := he.reads I ry
  exact ne_dataH ra rb sd se hu ⟨.bl _, H, I, rfl, q⟩
structure Dn (P : Program) (w : World) (K : PySem.W.Frag) (mg : Str → Option Value) (base : Heap) (k : Nat) (x : Str) (ps : List Str) (sp : Sp) : Prop where
  ex : ∃ f fd, FnOk P w K mg base CX0 k f fd ps sp ∧ Binds K fd ps [] ∧ PySem.W.keepIn K (.ref f) = true ∧ mg x = some (.ref f)
theorem pe_fn {j k : Nat} {x : Str} {ps : List Str} {sp : Sp} {e : Expr} {es : List Expr} {t : TA} {p pos : Pos} (D : Dn X.prog X.w X.K X.mg X.base j x ps sp) (hr : Room k X.A) (ha : PA X (e :: es) t) (hj : j ≤ k := by decide) (hg : Gl X x := by rfl)
    (hdb : (x == ("__debug__" : Str)) = false := by decide) (he : starEach (e :: es) X.env = (false, eval e X.env) :: starEach es X.env := by rfl) (hpl : (backTo pos (starEach es X.env)).any (·.1) = false := by rfl) :
    PE X (.Call (.Name x p) (e :: es) [] pos) (tCall sp [] E0 t) := by
  obtain ⟨f, fd, F, b, kp, m⟩ := D.ex
  exact pe_call F (hr.mono hj) hg m kp b .nil (fun _ _ _ _ _ _ _ h => h.elim) ha hdb he hpl
end
structure At (K : PySem.W.Frag) (mg : Str → Option Value) (x : Str) (st : Stmt) (f : Addr) (fd : FuncData) : Prop where
  fn : Fun K x x st f fd
  name : mg x = some (.ref f)
theorem At.ok {P : Program} {w : World} {K : PySem.W.Frag} {mg : Str → Option Value} {base : Heap} {x : Str} {st : Stmt} {f : Addr} {fd : FuncData} {N ps : List Str} {k : Nat} {sp : Sp} (F : At K mg x st f fd) (S : FnScope N ps (defScope st)) (len : ∀ vs H Q E, sp vs H Q E → vs.length = ps.length)
    (hbody : ∀ (cdv : Value) (A : Around) (outer : List Env) (s : Shared) (H : Hp) (vs : List V) (Q : VK) (E : XK), Room k (A.deeper (envOfC x (defScope st) s.heap.objs.size f cdv)) → sp vs H Q E →
      ∃ t, PSs (cxOf CX0 P w K mg base N x (defScope st) f cdv A outer s H E).nox (defBody st) t ∧ t { nx := fun _ H' => Q .non H', rt := Q } (start N vs) H)
    (h : ∀ (kV doc pm : Value) (an : Option Addr) (cdv ct : Value) (us : List Value), us.length = ps.length → bindArgs (PySem.W.fnOf x x (defArgs st) (defBody st) (defScope st) .none kV doc pm an cdv ct) ⟨us, []⟩ = pure (ps.zip us)) :
    Dn P w K mg base (k + 1) x ps sp := ⟨f, fd, F.fn.ok S len hbody, F.fn.binds h, F.fn.kp, F.name⟩
theorem at_mk {K : PySem.W.Frag} {mg : Str → Option Value} {h : Heap} {x : Str} {st : Stmt} {f : Addr} {oc : Value} {od an : Option Addr} {osl : Array (Option Value)} {kV doc pm cdv ct : Value} (X : K.In h) (G : h.Ns mainGlobals mg)
    (a : PySem.W.nsIn K mainGlobals x = some (some (.ref f))) (l : K.lookup f = some ⟨oc, od, .func (PySem.W.fnOf x x (defArgs st) (defBody st) (defScope st) .none kV doc pm an cdv ct), osl⟩)
    (c : PySem.W.codeIn K cdv x = true) (k : PySem.W.keepIn K (.ref f) = true) : At K mg x st f (PySem.W.fnOf x x (defArgs st) (defBody st) (defScope st) .none kV doc pm an cdv ct) := ⟨fun_mk l c k, PySem.W.mg_of X G a⟩
theorem Same.tup {H H' : Hp} {K : PySem.W.Frag} {a : Addr} {xs : List V} (e : Same H H') (h : SqT K H a xs) : SqT K H' a xs := by
  rcases h with (h | ⟨o, h⟩) | h
  · exact .inl (.inl (e _ _ h))
  · exact .inl (.inr ⟨o, e _ _ h⟩)
  · exact .inr h
theorem same_new {H : Hp} {p : Addr} (h : H p = none) (o : HO) : Same H (upd H p o) := fun b u q => by rw [upd_ne (ne_of_none q h)]; exact q
theorem small {n : Nat} (h : n ≤ 1000) : n ≤ sizeLine := Nat.le_of_lt (small1000 h)
end L2
namespace Jm
def cf (a b : Int) : Int := (Int.gcd a b : Int)
theorem cf_zero (a : Int) (h : 0 ≤ a) : cf a 0 = a := by
  unfold cf; rw [Int.gcd_zero_right]; omega
theorem cf_step (a b : Int) (h : 0 < b) : cf b (a % b) = cf a b := by
  unfold cf
  rw [Int.emod_def, Int.gcd_sub_mul_left_right, Int.gcd_comm]
theorem cf_pos (a b : Int) (h : 0 < a ∨ 0 < b) : 0 < cf a b := by
  unfold cf
  have : 0 < Int.gcd a b := by
    rcases h with h | h
    · exact Int.gcd_pos_of_ne_zero_left _ (by omega)
    · exact Int.gcd_pos_of_ne_zero_right _ (by omega)
  omega
abbrev fr (t b : Int) : Rat := Rat.divInt t b
theorem dvd_cf_left (a b : Int) : cf a b ∣ a := Int.gcd_dvd_left ..
theorem dvd_cf_right (a b : Int) : cf a b ∣ b := Int.gcd_dvd_right ..
end Jm
namespace Jm
end Jm
namespace Jm
def Sz (n : Nat) (x : Int) : Prop := x.natAbs < 2 ^ n
theorem Sz.mono {m n : Nat} {x : Int} (h : Sz m x) (hn : m ≤ n) : Sz n x := Nat.lt_of_lt_of_le h (Nat.pow_le_pow_right (by decide) hn)
theorem Sz.of_le {n : Nat} {x y : Int} (h : Sz n y) (hx : x.natAbs ≤ y.natAbs) : Sz n x := Nat.lt_of_le_of_lt hx h
theorem Sz.mul {m n : Nat} {x y : Int} (hx : Sz m x) (hy : Sz n y) : Sz (m + n) (x * y) := by
  unfold Sz at *
  rw [Int.natAbs_mul, Nat.pow_add]
  exact Nat.mul_lt_mul'' hx hy
theorem Sz.add {m n : Nat} {x y : Int} (hx : Sz m x) (hy : Sz n y) : Sz (max m n + 1) (x + y) := by
  have h1 := hx.mono (Nat.le_max_left m n)
  have h2 := hy.mono (Nat.le_max_right m n)
  unfold Sz at *
  rw [Nat.pow_succ]
  omega
theorem Sz.addS {n : Nat} {x y : Int} (hx : Sz n x) (hy : Sz n y) : Sz (n + 1) (x + y) := by
  have := hx.add hy
  rwa [Nat.max_self] at this
theorem Sz.of_abs {n : Nat} {x B : Int} (h0 : -B ≤ x) (h1 : x ≤ B) (hB : Sz n B) : Sz n x := hB.of_le (by omega)
theorem Sz.ediv {n : Nat} {x y : Int} (h : Sz n x) (hy : 0 < y) : Sz n (x / y) := by
  refine h.of_le ?_
  have e := Int.emod_add_mul_ediv x y
  have m0 := Int.emod_nonneg x (b := y) (by omega)
  have m1 := Int.emod_lt_of_pos x hy
  rcases Int.lt_or_le x 0 with hx | hx
  · have q0 : x / y < 0 := Int.ediv_neg_of_neg_of_pos hx hy
    have z : y * (x / y) ≤ 1 * (x / y) := Int.mul_le_mul_of_nonpos_right (by omega) (by omega)
    rcases Int.lt_or_le (x / y) x with k | k
    · exfalso
      have z2 : y * (x / y) ≤ y * (x - 1) := Int.mul_le_mul_of_nonneg_left (by omega) (by omega)
      have z3 : y * (x - 1) ≤ 1 * (x - 1) - (y - 1) := by
        have z4 : (y - 1) * (x - 1) ≤ (y - 1) * (-2) := Int.mul_le_mul_of_nonneg_left (by omega) (by omega)
        have z5 : y * (x - 1) = (y - 1) * (x - 1) + (x - 1) := by grind
        omega
      omega
    · omega
  · have q0 : 0 ≤ x / y := Int.ediv_nonneg hx (by omega)
    have := Int.ediv_le_self y hx
    omega
theorem Sz.dvd {n : Nat} {x y : Int} (h : Sz n y) (hy : 0 < y) (hx : 0 ≤ x) (d : x ∣ y) : Sz n x := h.of_le (by have := Int.le_of_dvd hy d; omega)
end Jm
namespace Jm
end Jm
namespace Jm
end Jm
namespace Jm
theorem sum_sz {n : Nat} : ∀ {ws : List Int}, (∀ m ∈ ws, Sz n m) → Sz (n + ws.length) ws.sum
  | [], _ => by unfold Sz; show 0 < _; exact Nat.two_pow_pos _
  | x :: r, h => by
    have h1 := sum_sz (ws := r) fun m hm => h m (List.mem_cons_of_mem _ hm)
    have h2 := ((h x List.mem_cons_self).mono (Nat.le_add_right n r.length)).addS h1
    rw [List.sum_cons]
    exact h2.mono (by rw [List.length_cons]; omega)
end Jm
namespace Jm
def restN (c : Int) : Nat → Int
  | 0 => c
  | i + 1 => restN c i / 10000000000
def cellOf (ns : List Int) (k : Int) : Int := if 0 < (ns.length : Int) then ns.getD (k % ns.length).toNat 0 else 0
def turnOf (ns : List Int) (k : Int) : Int := if 0 < (ns.length : Int) then k / ns.length else 1
def mixed (c k j many : Int) : Int :=
  let one := (c * 7919 + k * 104729 + j * 1299709 + 31) % 1000000007
  let two := (one * 48271 + c / 1009) % 998244353
  let three := (two * (one % 9973 + 1) + j) % 1000000009
  (one * 69621 + three * 40692 + three / 1013) % 2147483647 % many
def draw (ns : List Int) (k j many : Int) : Int :=
  if turnOf ns k = 0 ∧ 1000000000000000000 ≤ cellOf ns k ∧ 0 < restN (cellOf ns k) j.toNat then restN (cellOf ns k) j.toNat % 10000000000 % many
  else mixed (cellOf ns k) k j many
theorem draw_lo (ns : List Int) (k j many : Int) (h : 0 < many) : 0 ≤ draw ns k j many := by
  unfold draw; split
  · exact Int.emod_nonneg _ (by omega)
  · exact Int.emod_nonneg _ (by omega)
theorem draw_hi (ns : List Int) (k j many : Int) (h : 0 < many) : draw ns k j many < many := by
  unfold draw; split
  · exact Int.emod_lt_of_pos _ h
  · exact Int.emod_lt_of_pos _ h
end Jm
namespace L2
open PySem PySem.Spec PyProof.Rows
structure spDraw (K : PySem.W.Frag) (vs : List V) (H : Hp) (Q : VK) (E : XK) : Prop where
  ex : ∃ (a : Addr) (ns : List Int) (k j many : Int), vs = [.ref a, .int k, .int j, .int many] ∧ SqL K H a (ns.map V.int) ∧ ns.length ≤ 63 ∧ 0 ≤ k ∧ 0 ≤ j ∧ j < 2 ^ 62 ∧ 0 < many ∧ Q (.int (Jm.draw ns k j many)) H
theorem use_draw {K : PySem.W.Frag} {H : Hp} {Q : VK} {E : XK} {a : Addr} {ns : List Int} {k j many : Int} (hS : SqL K H a (ns.map V.int)) (h63 : ns.length ≤ 63) (h1 : 0 ≤ k) (h2 : 0 ≤ j) (h3 : j < 2 ^ 62) (h4 : 0 < many)
    (h : ∀ d : Int, d = Jm.draw ns k j many → 0 ≤ d → d < many → Q (.int d) H) : spDraw K [.ref a, .int k, .int j, .int many] H Q E :=
  ⟨a, ns, k, j, many, rfl, hS, h63, h1, h2, h3, h4, h _ rfl (Jm.draw_lo ns k j many h4) (Jm.draw_hi ns k j many h4)⟩
def spCf : Sp := fun vs H Q _ => ∃ a b : Int, vs = [.int a, .int b] ∧ 0 ≤ a ∧ 0 ≤ b ∧ Q (.int (Jm.cf a b)) H
abbrev ratO (q : Rat) : HO := .tup [.int q.num, .int (q.den : Int)]
def spInt : Sp := fun vs H Q _ => ∃ i : Int, vs = [.int i] ∧ Q (.bl true) H
def spLaw (K : PySem.W.Frag) : Sp := fun vs H Q _ => ∃ (a : Addr) (ns : List Int), vs = [.ref a] ∧ SqL K H a (ns.map V.int) ∧ ns.length ≤ 63 ∧ ∀ H', Q (.bl true) H'
section
variable {X : Cx} {pos : Pos}
def tIfJ (c : TT) (t u : TS) : TS := fun D σ H => ∃ J : St → Hp → Prop, (c σ H fun b H1 => if b = true then t { D with nx := J } σ H1 else u { D with nx := J } σ H1) ∧ ∀ σ' H', J σ' H' → D.nx σ' H'
theorem ps_ifJ {c : Expr} {a b : List Stmt} {tc : TT} {t u : TS} (hc : PT X c tc) (ha : PSs X a t) (hb : PSs X b u) : PS X (.If c a b pos) (tIfJ tc t u) := by
  intro pins s σ H D I h
  obtain ⟨J, h, hJ⟩ := h
  refine thn (ps_if hc ha hb pins s σ H { D with nx := J } I h) fun f s' q => ?_
  cases f with
  | next => obtain ⟨σ', H', I', q⟩ := q; exact ⟨σ', H', I', hJ _ _ q⟩
  | cont => exact q
  | brk => exact q
  | ret v => exact q
end
theorem pt_pure {X : Cx} {e : Expr} {t : TT} (h : PT X e t) : PT X e (fun σ H Q => ∃ b : Bool, t σ H (fun b' H' => b' = b ∧ H' = H) ∧ Q b H) := by
  intro pins s σ H Q I hw
  obtain ⟨b, hb, q⟩ := hw
  refine thn (h pins s σ H _ I hb) fun b' s' ⟨H', I', e1, e2⟩ => ?_
  subst e1 e2
  exact ⟨_, I', q⟩
theorem cdivW_sz {i j : Int} (h0 : 0 < j) (h : Jm.Sz 9000 j) : CDivW i j := by
  refine ⟨h0, ?_⟩
  exact (Nat.log2_lt (by omega)).mpr h
theorem cmul_sz {m n : Nat} {i j : Int} (hi : Jm.Sz m i) (hj : Jm.Sz n j) (h : m + n ≤ 134217728 := by decide) : CMulW i j := ⟨m, n, hi, hj, h⟩
theorem sz_lit {n : Nat} {x : Int} (h : decide (x.natAbs < 2 ^ n) = true) : Jm.Sz n x := by
  unfold Jm.Sz
  exact of_decide_eq_true h
theorem atI_map {ns : List Int} {k : Int} (h0 : 0 ≤ k) (h : k < (ns.length : Int)) : atI (ns.map V.int) k = some (.int (ns.getD k.toNat 0)) := by
  have hk : k.toNat < ns.length := by omega
  have ek : k = ((k.toNat : Nat) : Int) := by omega
  have q : atI (ns.map V.int) ((k.toNat : Nat) : Int) = some (.int (ns.getD k.toNat 0)) := atI_nat (by rw [List.getElem?_map, List.getD_eq_getElem?_getD, List.getElem?_eq_getElem hk] <;> rfl)
  rw [← ek] at q
  exact q
end L2
namespace L2
open PySem PySem.Spec PyProof.Rows
section
variable {prog : Program} {w : World} {A : Around} {R : Result → Shared → Prop} {s : Shared}
theorem compLoop_any {elt target iter : Expr} {scope : Scope} {pos : Pos} {it acc : Value} {env : Env} (J : Nat → Shared → Prop)
    (turn : ∀ n s, J n s → wpAny (model prog w) A (pyNext it) (fun r s₁ => match r with
      | none => R (.ok .next) s₁
      | some v => wpAny (model prog w) A (letOwnedTupleGo target it v) (fun _ s₂ => wpAny (model prog w) A (assign target env v) (fun _ s₃ => wpAny (model prog w) A (eval elt env) (fun x s₄ =>
              wpAny (model prog w) A (call (.builtin "list.append") [acc, x]) (fun _ s₅ => ∃ m, m < n ∧ J m s₅) (fun _ _ => False) s₄) (fun _ _ => False) s₃) (fun _ _ => False) s₂) (fun _ _ => False) s₁) (fun _ _ => False) s)
    (n : Nat) (h : J n s) : codeAny (model prog w) A (.compLoop (.ListComp elt [⟨target, iter, [], 0⟩] scope pos) 0 it acc env) R s := by
  refine codeAny_loop rfl J (fun n s hI => ?_) n h
  show wpAny _ A ((compTurn (.ListComp elt [⟨target, iter, [], 0⟩] scope pos) 0 it acc env).onRaise (fun x => do noteFrame x env; theTreesLotGoes x)) _ _ s
  refine wpAny_noted ?_
  rw [compTurn_list1]
  refine wpAny_bind (wpAny_standAt (wpAny_bind (wpAny_mono (turn n s hI) (fun r s₁ h₁ => ?_) fun _ _ h' => h'.elim)))
  cases r with
  | none => exact wpAny_pure h₁
  | some v =>
    refine wpAny_bind (wpAny_mono h₁ (fun _ s₂ h₂ => wpAny_bind (wpAny_mono h₂ (fun _ s₃ h₃ => ?_) fun _ _ h' => h'.elim)) fun _ _ h' => h'.elim)
    exact wpAny_bind (wpAny_bind (wpAny_mono h₃ (fun x s₄ h₄ => wpAny_bind (wpAny_mono h₄ (fun _ s₅ h₅ => wpAny_pure (wpAny_pure ⟨rfl, h₅⟩)) fun _ _ h' => h'.elim)) fun _ _ h' => h'.elim))
end
theorem closure_ok {scope : Scope} {env : Env} (h : ∀ y ∈ scope.names, y.2 = .free → ∃ c, env.cells.lookup y.1 = some c) :
    ∃ cl, closureFor scope env = pure cl ∧ (∀ y c, (y, c) ∈ cl → env.cells.lookup y = some c ∧ (y, NameKind.free) ∈ scope.names) ∧ ∀ y, (y, NameKind.free) ∈ scope.names → ∃ c, (y, c) ∈ cl := by
  have gen : ∀ (names : List (Str × NameKind)) (acc : List (Str × Addr)), (∀ y ∈ names, y.2 = .free → ∃ c, env.cells.lookup y.1 = some c) →
      ∃ cl, (forIn names acc fun (x : Str × NameKind) (cs : List (Str × Addr)) => (if (x.2 == NameKind.free) = true then do let a ← cellOf env x.1; pure (ForInStep.yield ((x.1, a) :: cs)) else pure (ForInStep.yield cs) : Sem _)) = pure cl ∧
        (∀ y c, (y, c) ∈ cl → (env.cells.lookup y = some c ∧ (y, NameKind.free) ∈ names) ∨ (y, c) ∈ acc) ∧ (∀ p ∈ acc, p ∈ cl) ∧ ∀ y, (y, NameKind.free) ∈ names → ∃ c, (y, c) ∈ cl := by
    intro names
    induction names with
    | nil => intro acc _; exact ⟨acc, by rw [List.forIn_nil], fun y c m => .inr m, fun p hp => hp, fun y m => nomatch m⟩
    | cons x r ih =>
      intro acc hc
      obtain ⟨n, k⟩ := x
      by_cases hk : k = .free
      · subst hk
        obtain ⟨c, ec⟩ := hc (n, .free) List.mem_cons_self rfl
        obtain ⟨cl, e, h1, h2, h3⟩ := ih ((n, c) :: acc) fun y hy => hc y (List.mem_cons_of_mem _ hy)
        refine ⟨cl, ?_, fun y d m => ?_, fun p hp => h2 p (List.mem_cons_of_mem _ hp), fun y m => ?_⟩
        · rw [List.forIn_cons, ← e]
          have ecell : cellOf env n = pure c := by unfold cellOf; rw [ec]
          simp only [beq_self_eq_true, if_true, ecell, pure_bind]
        · rcases h1 y d m with ⟨a, b⟩ | b
          · exact .inl ⟨a, List.mem_cons_of_mem _ b⟩
          · rcases List.mem_cons.mp b with z | z
            · cases z; exact .inl ⟨ec, List.mem_cons_self⟩
            · exact .inr z
        · rcases List.mem_cons.mp m with z | z
          · cases z; exact ⟨c, h2 _ List.mem_cons_self⟩
          · exact h3 y z
      · obtain ⟨cl, e, h1, h2, h3⟩ := ih acc fun y hy => hc y (List.mem_cons_of_mem _ hy)
        have hb : (k == NameKind.free) = false := by simpa using hk
        refine ⟨cl, ?_, fun y d m => ?_, h2, fun y m => ?_⟩
        · rw [List.forIn_cons, ← e]
          simp only [hb, Bool.false_eq_true, if_false, pure_bind]
        · rcases h1 y d m with ⟨a, b⟩ | b
          · exact .inl ⟨a, List.mem_cons_of_mem _ b⟩
          · exact .inr b
        · rcases List.mem_cons.mp m with z | z
          · cases z; exact absurd rfl hk
          · exact h3 y z
  obtain ⟨cl, e, h1, _, h3⟩ := gen scope.names [] h
  refine ⟨cl, ?_, fun y c m => (h1 y c m).elim id (fun z => nomatch z), h3⟩
  have e2 : closureFor scope env = ((forIn scope.names ([] : List (Str × Addr)) fun (x : Str × NameKind) (cs : List (Str × Addr)) => (if (x.2 == NameKind.free) = true then do let a ← cellOf env x.1; pure (ForInStep.yield ((x.1, a) :: cs)) else pure (ForInStep.yield cs) : Sem _)) >>= fun r => pure r) := rfl
  rw [e2, e]
  rfl
theorem lookup_mem {α : Type} {l : List (Str × α)} {y : Str} {c : α} (h : (y, c) ∈ l) : ∃ d, l.lookup y = some d := by
  induction l with
  | nil => cases h
  | cons p r ih =>
    obtain ⟨k, v⟩ := p
    rw [List.lookup_cons]
    cases hb : y == k with
    | true => exact ⟨v, rfl⟩
    | false =>
      rcases List.mem_cons.mp h with z | z
      · cases z; simp at hb
      · exact ih z
theorem cellsFrom_look : ∀ (names : List (Str × NameKind)) (n : Nat) (acc : List (Str × Addr)) {x : Str} {c : Addr}, (cellsFrom n names acc).lookup x = some c → n ≤ c ∨ acc.lookup x = some c
  | [], _, _, _, _, h => .inr h
  | (name, kind) :: r, n, acc, x, c, h => by
    unfold cellsFrom at h
    split at h
    · rcases cellsFrom_look r (n + 1) _ h with z | z
      · exact .inl (by omega)
      · rw [List.lookup_cons] at z
        cases hb : x == name with
        | true => rw [hb] at z; cases z; exact .inl (Nat.le_refl _)
        | false => rw [hb] at z; exact .inr z
    · exact cellsFrom_look r n acc h
theorem cellsFrom_low : ∀ (names : List (Str × NameKind)) (n n0 : Nat) (acc : List (Str × Addr)) {x : Str} {c : Addr}, n0 ≤ n → (∀ d, acc.lookup x = some d → n0 ≤ d) → (cellsFrom n names acc).lookup x = some c → n0 ≤ c := by
  intro names n n0 acc x c hn ha h
  rcases cellsFrom_look names n acc h with z | z
  · omega
  · exact ha c z
theorem cellsFrom_own : ∀ (names : List (Str × NameKind)) (n : Nat) (acc : List (Str × Addr)) {x : Str} {c : Addr}, (x, NameKind.cell) ∈ names → (cellsFrom n names acc).lookup x = some c → n ≤ c
  | [], _, _, _, _, m, _ => nomatch m
  | (name, kind) :: r, n, acc, x, c, m, h => by
    unfold cellsFrom at h
    rcases List.mem_cons.mp m with z | z
    · cases z
      rw [if_pos (by rfl)] at h
      refine cellsFrom_low r (n + 1) n _ (by omega) (fun d hd => ?_) h
      rw [List.lookup_cons, beq_self_eq_true] at hd
      cases hd
      exact Nat.le_refl _
    · split at h
      · exact Nat.le_trans (Nat.le_succ _) (cellsFrom_own r (n + 1) _ z h)
      · exact cellsFrom_own r n acc z h
theorem cellsFrom_keep : ∀ (names : List (Str × NameKind)) (n : Nat) (acc : List (Str × Addr)) {x : Str}, (∃ c, acc.lookup x = some c) → ∃ c, (cellsFrom n names acc).lookup x = some c
  | [], _, _, _, h => h
  | (name, kind) :: r, n, acc, x, h => by
    unfold cellsFrom
    split
    · refine cellsFrom_keep r (n + 1) _ ?_
      rw [List.lookup_cons]
      cases x == name with
      | true => exact ⟨_, rfl⟩
      | false => exact h
    · exact cellsFrom_keep r n acc h
theorem cellsFrom_has : ∀ (names : List (Str × NameKind)) (n : Nat) (acc : List (Str × Addr)) {x : Str}, (x, NameKind.cell) ∈ names → ∃ c, (cellsFrom n names acc).lookup x = some c
  | [], _, _, _, m => nomatch m
  | (name, kind) :: r, n, acc, x, m => by
    unfold cellsFrom
    rcases List.mem_cons.mp m with z | z
    · cases z
      rw [if_pos (by rfl)]
      refine cellsFrom_keep r (n + 1) _ ⟨n, ?_⟩
      rw [List.lookup_cons, beq_self_eq_true]
    · split
      · exact cellsFrom_has r (n + 1) _ z
      · exact cellsFrom_has r n acc z
theorem cellsFrom_old : ∀ (names : List (Str × NameKind)) (n : Nat) (acc : List (Str × Addr)) {x : Str}, (x, NameKind.cell) ∉ names → (cellsFrom n names acc).lookup x = acc.lookup x
  | [], _, _, _, _ => rfl
  | (name, kind) :: r, n, acc, x, m => by
    have m2 : (x, NameKind.cell) ∉ r := fun z => m (List.mem_cons_of_mem _ z)
    unfold cellsFrom
    split
    · rename_i hk
      rw [cellsFrom_old r (n + 1) _ m2, List.lookup_cons]
      cases hb : x == name with
      | true =>
        have e1 := beq_iff_eq.mp hb
        have e2 : kind = NameKind.cell := by simpa using hk
        subst e1 e2
        exact absurd List.mem_cons_self m
      | false => rfl
    · exact cellsFrom_old r n acc m2
theorem cellsFrom_inj : ∀ (names : List (Str × NameKind)) (n : Nat) (acc : List (Str × Addr)), (∀ x y c, acc.lookup x = some c → acc.lookup y = some c → x = y) → (∀ x c, acc.lookup x = some c → c < n) →
    ∀ x y c, (cellsFrom n names acc).lookup x = some c → (cellsFrom n names acc).lookup y = some c → x = y
  | [], _, _, h, _ => h
  | (name, kind) :: r, n, acc, h, hlt => by
    intro x y c hx hy
    unfold cellsFrom at hx hy
    split at hx
    · rename_i hk
      rw [if_pos hk] at hy
      refine cellsFrom_inj r (n + 1) _ (fun x y c hx hy => ?_) (fun x c hx => ?_) x y c hx hy
      · rw [List.lookup_cons] at hx hy
        cases hb : x == name with
        | true =>
          cases hb2 : y == name with
          | true => rw [beq_iff_eq.mp hb, beq_iff_eq.mp hb2]
          | false =>
            rw [hb] at hx; rw [hb2] at hy
            cases hx
            exact absurd (hlt _ _ hy) (Nat.lt_irrefl _)
        | false =>
          cases hb2 : y == name with
          | true =>
            rw [hb] at hx; rw [hb2] at hy
            cases hy
            exact absurd (hlt _ _ hx) (Nat.lt_irrefl _)
          | false =>
            rw [hb] at hx; rw [hb2] at hy
            exact h x y c hx hy
      · rw [List.lookup_cons] at hx
        cases hb : x == name with
        | true => rw [hb] at hx; cases hx; exact Nat.lt_succ_self _
        | false => rw [hb] at hx; exact Nat.lt_succ_of_lt (hlt _ _ hx)
    · rename_i hk
      rw [if_neg hk] at hy
      exact cellsFrom_inj r n acc h hlt x y c hx hy
theorem cells_there : ∀ (names : List (Str × NameKind)) (h : Heap) (acc : List (Str × Addr)), (∀ x c, acc.lookup x = some c → ∃ v, h.IsCell c v) → ∀ x c, (cellsFrom h.objs.size names acc).lookup x = some c → ∃ v, (pushCells h names).IsCell c v
  | [], _, _, ha => ha
  | (name, kind) :: r, h, acc, ha => by
    intro x c hx
    unfold cellsFrom at hx
    unfold pushCells
    split at hx
    · rename_i hk
      rw [if_pos hk]
      have q := cells_there r (h.push { cls := .type "cell", data := .cell none }) ((name, h.objs.size) :: acc) (fun x c hx => by
        rw [List.lookup_cons] at hx
        cases hb : x == name with
        | true => rw [hb] at hx; cases hx; exact ⟨none, _, Heap.get?_push_size _ rfl, rfl⟩
        | false =>
          rw [hb] at hx
          obtain ⟨v, z⟩ := ha x c hx
          exact ⟨v, z.keeps fun b o e => Heap.get?_push_of_some _ e⟩) x c
      rw [Heap.size_push] at q
      exact q hx
    · rename_i hk
      rw [if_neg hk]
      exact cells_there r h acc ha x c hx
def cxComp (X : Cx) (N2 : List Str) (scope : Scope) (cl : List (Str × Addr)) (s₂ : Shared) (H₂ : Hp) (fp : List Addr) : Cx where
  prog := X.prog
  w := X.w
  K := X.K
  mg := X.mg
  base := X.base
  A := X.A
  N := N2
  s₀ := s₂
  H₀ := H₂
  env := { scope := relabel scope X.env, locals := s₂.heap.objs.size, globals := X.env.globals, cells := cellsFrom (s₂.heap.objs.size + 1) scope.names cl, qual := X.env.qual, func := none, code := X.env.code, frame := X.env.frame, builtins := X.env.builtins }
  outer := X.stack
  stack := X.stack
  ex := fp
  fn := fun x => decide (scope.names.lookup x = some .cell)
  calm := X.calm
  pn := []
  xe := fun _ _ => False
def compOk (XN : List Str) (xn sn : List (Str × NameKind)) (N2 : List Str) (ix : List (Option Nat)) : Bool :=
  (ix.length == N2.length) &&
  ((ix.zip N2).all fun p => match p.1 with
    | none => true
    | some j => XN[j]? == some p.2 && sn.lookup p.2 == some .free && (xn.lookup p.2 == some .cell || xn.lookup p.2 == some .free)) &&
  (sn.all fun y => y.2 != .free || (xn.lookup y.1 == some .cell || xn.lookup y.1 == some .free)) &&
  (sn.all fun y => y.2 != .local || sn.lookup y.1 == some .local) &&
  (sn.all fun y => y.2 != .free || sn.all fun z => z.2 != .cell || z.1 != y.1)
theorem relabel_mem {scope : Scope} {env : Env} {x : Str} {k : NameKind} (h : (relabel scope env).names.lookup x = some k) (hk : k = .cell ∨ k = .free) : (x, NameKind.cell) ∈ scope.names ∨ (x, NameKind.free) ∈ scope.names := by
  have m := PySem.mem_of_lookup h
  obtain ⟨y, hy, e⟩ := List.mem_map.mp m
  obtain ⟨n, k0⟩ := y
  dsimp only at e
  split at e
  · rename_i hc
    cases e
    have h1 : k0 = NameKind.free := by
      have := (Bool.and_eq_true_iff.mp (Bool.and_eq_true_iff.mp hc).1).1
      simpa using this
    subst h1
    exact .inr hy
  · cases e
    rcases hk with rfl | rfl
    · exact .inl hy
    · exact .inr hy
theorem relabel_free {scope : Scope} {env : Env} : ∀ {x : Str}, scope.names.lookup x = some .free → (relabel scope env).names.lookup x = some .cell ∨ (relabel scope env).names.lookup x = some .free := by
  intro x h
  have gen : ∀ (l : List (Str × NameKind)), l.lookup x = some .free → (l.map fun (n, k) => if (k == NameKind.free && env.scope.kind == .function && env.kindOf n == some .cell) then (n, NameKind.cell) else (n, k)).lookup x = some .cell ∨
      (l.map fun (n, k) => if (k == NameKind.free && env.scope.kind == .function && env.kindOf n == some .cell) then (n, NameKind.cell) else (n, k)).lookup x = some .free := by
    intro l
    induction l with
    | nil => intro h; cases h
    | cons p r ih =>
      intro h
      obtain ⟨n, k⟩ := p
      rw [List.lookup_cons] at h
      rw [List.map_cons]
      dsimp only
      cases hb : x == n with
      | true =>
        rw [hb] at h
        cases h
        split
        · rw [List.lookup_cons, hb]; exact .inl rfl
        · rw [List.lookup_cons, hb]; exact .inr rfl
      | false =>
        rw [hb] at h
        split
        · rw [List.lookup_cons, hb]; exact ih h
        · rw [List.lookup_cons, hb]; exact ih h
  exact gen scope.names h
theorem comp_enter {X : Cx} {pins : List (Addr × Obj)} {σ σ2 : St} {H : Hp} {s : Shared} {N2 : List Str} {scope : Scope} {cl : List (Str × Addr)} {fp : List Addr} (I : Inv X pins σ H s) (hk : scope.kind = .function)
    (hcl1 : ∀ y c, (y, c) ∈ cl → X.env.cells.lookup y = some c) (hcl2 : ∀ y, (y, NameKind.free) ∈ scope.names → ∃ c, (y, c) ∈ cl) (hfp : ∀ b ∈ fp, FpOk X pins H b) (hfo : ∀ b ∈ fp, b < s.heap.objs.size) (hl : σ2.length = N2.length)
    (hσ : ∀ (i : Nat) (x : Str) (v : V), N2[i]? = some x → σ2[i]? = some (some v) → scope.names.lookup x = some .free ∧ (X.env.kindOf x = some .cell ∨ X.env.kindOf x = some .free) ∧ ∃ j : Nat, X.N[j]? = some x ∧ σ[j]? = some (some v))
    (hd : ∀ x, (x, NameKind.free) ∈ scope.names → (x, NameKind.cell) ∉ scope.names) :
    Inv (cxComp X N2 scope cl s H fp) [] σ2 H { s with heap := pushCells (s.heap.push { cls := .type "dict", data := .dict #[] }) scope.names } := by
  have keeps : ∀ b o, s.heap.get? b = some o → (pushCells (s.heap.push { cls := .type "dict", data := .dict #[] }) scope.names).get? b = some o := fun b o e => pushCells_keeps _ _ b o (Heap.get?_push_of_some _ e)
  have hsz : (s.heap.push { cls := .type "dict", data := .dict #[] }).objs.size = s.heap.objs.size + 1 := Heap.size_push ..
  have clook : ∀ x c, cl.lookup x = some c → X.env.cells.lookup x = some c := fun x c e => hcl1 x c (PySem.mem_of_lookup e)
  have clt : ∀ x c, cl.lookup x = some c → c < s.heap.objs.size := fun x c e => by
    obtain ⟨v, z⟩ := I.cell x c (clook x c e)
    exact z.lt
  have there := cells_there scope.names (s.heap.push { cls := .type "dict", data := .dict #[] }) cl (fun x c e => by
    obtain ⟨v, z⟩ := I.cell x c (clook x c e)
    exact ⟨v, z.keeps fun b o e => Heap.get?_push_of_some _ e⟩)
  rw [hsz] at there
  have cells : ∀ x c, (cellsFrom (s.heap.objs.size + 1) scope.names cl).lookup x = some c → s.heap.objs.size + 1 ≤ c ∨ X.env.cells.lookup x = some c := fun x c e => by
    rcases cellsFrom_look _ _ _ e with z | z
    · exact .inl z
    · exact .inr (clook x c z)
  have okY : (cxComp X N2 scope cl s H fp).Ok := by
    refine ⟨I.ok.mod, hk, I.ok.glob, I.ok.blt, Nat.le_refl _, ?_, ?_, ?_, I.ok.hd, I.ok.frames, .inl rfl, ?_, I.bs, Nat.le_trans I.ok.bsz I.sz, ?_, ?_, I.stack, I.stkFree⟩
    · exact cellsFrom_inj _ _ _ (fun x y c hx hy => I.ok.inj x y c (clook x c hx) (clook y c hy)) fun x c e => Nat.lt_succ_of_lt (clt x c e)
    · intro x hx
      have m : (x, NameKind.cell) ∈ scope.names ∨ (x, NameKind.free) ∈ scope.names := by
        rcases hx with z | z
        · exact relabel_mem z (.inl rfl)
        · exact relabel_mem z (.inr rfl)
      rcases m with m | m
      · exact cellsFrom_has _ _ _ m
      · obtain ⟨c, mc⟩ := hcl2 x m
        exact cellsFrom_keep _ _ _ (lookup_mem mc)
    · intro x c hf e
      have hf' : scope.names.lookup x = some .cell := of_decide_eq_true hf
      exact Nat.le_trans (Nat.le_succ _) (cellsFrom_own _ _ _ (PySem.mem_of_lookup hf') e)
    · intro b hb
      refine ⟨Nat.ne_of_lt (hfo b hb), fun x c e z => ?_⟩
      have hlt := hfo b hb
      rcases cells x c e with k | k
      · exact absurd (Nat.lt_of_lt_of_le hlt (Nat.le_trans (Nat.le_succ _) (z ▸ k))) (Nat.lt_irrefl _)
      · exact (hfp b hb).2.2.2.2.1 x c k z
    · intro b o e hb
      rcases (hfp b hb).2.2.2.1 with z | z
      · exact I.ok.noex b o e z
      · exact absurd (Nat.lt_of_lt_of_le (Heap.lt_size (I.ok.bs b o e).1) z) (Nat.lt_irrefl _)
    · intro b hb hbs
      rcases List.mem_cons.mp (I.stkSub b hbs) with z | z
      · exact (hfp b hb).2.1 z
      · exact (hfp b hb).2.2.1 z
  refine ⟨okY, rfl, I.bare, Un.kept keeps, ?_, there, I.hok.fresh (Nat.le_refl _), ?_, (fun p hp => nomatch hp), I.hok.kept keeps, hl⟩
  · refine ⟨fun _ => none, (Heap.Ns.new s.heap (.type "dict")).keeps (pushCells_keeps _ _), fun i x v e1 e2 _ => ?_⟩
    obtain ⟨hf, hx, j, j1, j2⟩ := hσ i x v e1 e2
    obtain ⟨m, _, hloc⟩ := I.loc
    have hv : Vis X.env.scope x := hx.elim (fun z => .inr (.inl z)) fun z => .inr (.inr z)
    obtain ⟨u, r, lk⟩ := hloc j x v j1 j2 hv
    refine ⟨u, r, .inr ⟨relabel_free hf, ?_⟩⟩
    rcases lk with ⟨k, _⟩ | ⟨_, c, ec, ic⟩
    · rcases hx with z | z <;> rw [z] at k <;> cases k
    · refine ⟨c, ?_, ic.keeps keeps⟩
      have mf := PySem.mem_of_lookup hf
      show (cellsFrom (s.heap.objs.size + 1) scope.names cl).lookup x = some c
      rw [cellsFrom_old _ _ _ (hd x mf)]
      obtain ⟨c', mc⟩ := hcl2 x mf
      obtain ⟨d, ed⟩ := lookup_mem mc
      rw [ed]
      have := clook x d ed
      rw [ec] at this
      exact this.symm
  · intro x c e
    rcases cells x c e with k | k
    · exact I.hok.fresh (by omega)
    · exact I.freeC x c k
section
variable {X : Cx}
def CompG (J : It) (g : TG) (te : TE) (acc : Addr) (σ₀ : St) (H : Hp) (Q : VK) : Prop := ∃ W : Nat → Nat → St → Hp → Prop,
  (∃ m, W 0 m σ₀ (upd H acc (.lst []))) ∧ ∀ i m σ2 H2, W i m σ2 H2 →
    (J.stop i H2 ∧ Q (.ref acc) H2) ∨ (J.go i H2 ∧ ∃ (S : St → Prop) (N : V → Hp → Prop), (∀ σ3 v H4, S σ3 → N v H4 → ∃ xs, H4 acc = some (.lst xs) ∧ xs.length < sizeLine ∧ ∃ m', m' < m ∧ W (i + 1) m' σ3 (upd H4 acc (.lst (xs ++ [v])))) ∧ ∀ x H', J.yld i H2 x H' → g x σ2 H' fun σ3 H3 => S σ3 ∧ te σ3 H3 N)
def tComp (wi : TI) (ix : List (Option Nat)) (g : TG) (te : TE) : TE := fun σ H Q => wi σ H fun J H1 => ∀ acc, H1 acc = none → CompG J g te acc (ix.map fun o => o.bind fun j => (σ[j]?).join) H1 Q
theorem compOk_use {XN : List Str} {xn sn : List (Str × NameKind)} {N2 : List Str} {ix : List (Option Nat)} (h : compOk XN xn sn N2 ix = true) :
    ix.length = N2.length ∧ (∀ (i : Nat) (x : Str) (j : Nat), N2[i]? = some x → ix[i]? = some (some j) → XN[j]? = some x ∧ sn.lookup x = some .free ∧ (xn.lookup x = some .cell ∨ xn.lookup x = some .free)) ∧
    (∀ y ∈ sn, y.2 = .free → xn.lookup y.1 = some .cell ∨ xn.lookup y.1 = some .free) ∧ (∀ y ∈ sn, y.2 = .local → sn.lookup y.1 = some .local) ∧ ∀ x, (x, NameKind.free) ∈ sn → (x, NameKind.cell) ∉ sn := by
  unfold compOk at h
  obtain ⟨h, h5⟩ := Bool.and_eq_true_iff.mp h
  obtain ⟨h, h4⟩ := Bool.and_eq_true_iff.mp h
  obtain ⟨h, h3⟩ := Bool.and_eq_true_iff.mp h
  obtain ⟨h1, h2⟩ := Bool.and_eq_true_iff.mp h
  have e1 : ix.length = N2.length := by simpa using h1
  refine ⟨e1, fun i x j a b => ?_, fun y hy e => ?_, fun y hy e => ?_, fun x m1 m2 => ?_⟩
  · have m : (some j, x) ∈ ix.zip N2 := by
      refine List.mem_of_getElem? (i := i) ?_
      rw [List.getElem?_zip_eq_some]
      exact ⟨b, a⟩
    have q := List.all_eq_true.mp h2 _ m
    dsimp only at q
    obtain ⟨q, q3⟩ := Bool.and_eq_true_iff.mp q
    obtain ⟨q1, q2⟩ := Bool.and_eq_true_iff.mp q
    exact ⟨by simpa using q1, by simpa using q2, (Bool.or_eq_true_iff.mp q3).imp (fun z => by simpa using z) fun z => by simpa using z⟩
  · have q := List.all_eq_true.mp h3 y hy
    rcases Bool.or_eq_true_iff.mp q with z | z
    · rw [e] at z; simp at z
    · exact (Bool.or_eq_true_iff.mp z).imp (fun z => by simpa using z) fun z => by simpa using z
  · have q := List.all_eq_true.mp h4 y hy
    rcases Bool.or_eq_true_iff.mp q with z | z
    · rw [e] at z; simp at z
    · simpa using z
  · have q := List.all_eq_true.mp h5 _ m1
    rcases Bool.or_eq_true_iff.mp q with z | z
    · simp at z
    · have q2 := List.all_eq_true.mp z _ m2
      simp at q2
theorem comp_block {tg iter elt : Expr} {scope : Scope} {pos : Pos} {N2 : List Str} {ix : List (Option Nat)} {g : TG} {te : TE} {cl : List (Str × Addr)} {pins : List (Addr × Obj)} {σ : St} {H : Hp} {s : Shared} {E : Value → Shared → Prop} {Q : VK}
    {RR : Value → Addr → Result → Shared → Prop} (hc : X.calm = true) (hg : ∀ cl s₂ H₂ fp, PG (cxComp X N2 scope cl s₂ H₂ fp) tg g) (he : ∀ cl s₂ H₂ fp, PE (cxComp X N2 scope cl s₂ H₂ fp) elt te)
    (hk : scope.kind = .function) (hn : compOk X.N X.env.scope.names scope.names N2 ix = true)
    (hcl1 : ∀ y c, (y, c) ∈ cl → X.env.cells.lookup y = some c) (hcl2 : ∀ y, (y, NameKind.free) ∈ scope.names → ∃ c, (y, c) ∈ cl)
    {it : Addr} {fp : List Addr} {tn : Nat → Heap → Prop} {J : It} (I : Inv X pins σ H s) (T : Turn X.prog X.w X.K tg J fp it tn) (st : tn 0 s.heap) (f : ∀ b ∈ fp, FpOk X pins H b)
    (h : ∀ acc, H acc = none → CompG J g te acc (ix.map fun o => o.bind fun j => (σ[j]?).join) H Q)
    (hR : ∀ acc C H' s' m, Inv X pins σ H' s' → s'.heap.Ns C m → H' C = none → C ≠ X.env.locals → X.s₀.heap.objs.size ≤ C → (∀ x c, X.env.cells.lookup x = some c → c ≠ C) → (∀ p ∈ X.pn ++ pins, p.1 ≠ C) → Q (.ref acc) H' → RR (.ref acc) C (.ok .next) s') :
    wpAny (model X.prog X.w) X.A (newList []) (fun acc s₃ => wpAny (model X.prog X.w) X.A (newFunctionEnv scope X.env.globals cl [] X.env.qual none .none (some X.env)) (fun cenv s₄ =>
      codeAny (model X.prog X.w) X.A (.compStart (.ListComp elt [⟨tg, iter, [], 0⟩] scope pos) 0 (.ref it) acc { cenv with scope := relabel scope X.env }) (RR acc cenv.locals) s₄) E s₃) E s := by
  obtain ⟨k1, k2, k3, k4, k5⟩ := compOk_use hn
  refine wpAny_newObj_type ?_
  have I3 : Inv X pins σ (upd H s.heap.objs.size (.lst [])) { s with heap := s.heap.push { cls := .type "list", data := .seq ([] : List Value).toArray } } :=
    I.laid (a := s.heap.objs.size) (o := .lst []) (t' := s.toks) (fun _ _ q => Heap.get?_push_of_some _ q) (Nat.le_refl _) ⟨Nat.zero_le _, [], _, .nil, Heap.get?_push_size _ rfl⟩
  obtain ⟨W, ⟨m0, w0⟩, turn⟩ := h s.heap.objs.size I.fresh
  have fo : ∀ b ∈ fp, b < s.heap.objs.size := fun b hb => by
    obtain ⟨o, e, _⟩ := T.obj 0 _ st b hb
    exact Heap.lt_size e
  have st3 : tn 0 (s.heap.push { cls := .type "list", data := .seq ([] : List Value).toArray }) := T.keep _ _ _ st fun b _ o e => Heap.get?_push_of_some _ e
  have f3 : ∀ b ∈ fp, FpOk X pins (upd H s.heap.objs.size (.lst [])) b := fun b hb => ⟨by rw [upd_ne (Nat.ne_of_lt (fo b hb))]; exact (f b hb).1, (f b hb).2⟩
  have fo3 : ∀ b ∈ fp, b < (s.heap.push { cls := .type "list", data := .seq ([] : List Value).toArray }).objs.size := fun b hb => by rw [Heap.size_push]; exact Nat.lt_succ_of_lt (fo b hb)
  generalize es3 : ({ s with heap := s.heap.push { cls := .type "list", data := .seq ([] : List Value).toArray } } : Shared) = s3 at *
  have eh3 : s3.heap = s.heap.push { cls := .type "list", data := .seq ([] : List Value).toArray } := by rw [← es3]
  rw [← eh3] at st3 fo3
  generalize s.heap.objs.size = acc at *
  generalize eH3 : upd H acc (.lst []) = H3 at *
  have IY := comp_enter (N2 := N2) (scope := scope) (cl := cl) (fp := fp) (σ2 := ix.map fun o => o.bind fun j => (σ[j]?).join) I3 hk hcl1 hcl2 f3 fo3 (by rw [List.length_map]; exact k1) (fun i x v e1 e2 => by
    rw [List.getElem?_map] at e2
    cases ei : ix[i]? with
    | none => rw [ei] at e2; cases e2
    | some o =>
      rw [ei] at e2
      cases o with
      | none => cases e2
      | some j =>
        obtain ⟨a1, a2, a3⟩ := k2 i x j e1 ei
        refine ⟨a2, a3, j, a1, ?_⟩
        have e3 : (σ[j]?).join = some v := Option.some.inj e2
        cases ej : σ[j]? with
        | none => rw [ej] at e3; cases e3
        | some z => rw [ej] at e3; exact congrArg some e3) k5
  have ne : wpAny (model X.prog X.w) X.A (newFunctionEnv scope X.env.globals cl [] X.env.qual none .none (some X.env)) (fun cenv s₄ =>
      cenv = { scope := scope, locals := s3.heap.objs.size, globals := X.env.globals, cells := cellsFrom (s3.heap.objs.size + 1) scope.names cl, qual := X.env.qual, func := none, code := X.env.code, frame := X.env.frame, builtins := X.env.builtins } ∧
      s₄ = { s3 with heap := pushCells (s3.heap.push { cls := .type "dict", data := .dict #[] }) scope.names }) E s3 := by
    simp only [newFunctionEnv, Option.isSome_some, if_true]
    refine wpAny_bind (wpAny_alloc ?_)
    refine wpAny_bind (wpAny_layCells _ (fun name kind cells => by cases hkc : kind == NameKind.cell <;> simp [hkc]) _ _ _ _ ?_)
    rw [List.forIn_nil]
    refine wpAny_bind (wpAny_pure (wpAny_pure ⟨?_, rfl⟩))
    rw [show ({ s3 with heap := s3.heap.push { cls := .type "dict", data := .dict #[] } } : Shared).heap.objs.size = s3.heap.objs.size + 1 from Heap.size_push ..]
  refine thn ne fun cenv s4 ⟨e1, e2⟩ => ?_
  subst e1 e2
  have stY : tn 0 (pushCells (s3.heap.push { cls := .type "dict", data := .dict #[] }) scope.names) := T.keep _ _ _ st3 fun b _ o e => pushCells_keeps _ _ b o (Heap.get?_push_of_some _ e)
  have hHC : s3.heap.objs.size ≠ X.env.locals := Nat.ne_of_gt I3.lt
  have stat : ∀ {H' : Hp}, (∀ b ∈ fp, H' b = none) → ∀ b ∈ fp, FpOk (cxComp X N2 scope cl s3 H3 fp) [] H' b := fun {H'} hn b hb =>
    ⟨hn b hb, (IY.ok.exf b hb).1, IY.ok.exfs b hb, .inl hb, (IY.ok.exf b hb).2, fun p hp => nomatch hp⟩
  have loop : codeAny (model X.prog X.w) X.A (.compLoop (.ListComp elt [⟨tg, iter, [], 0⟩] scope pos) 0 (.ref it) (.ref acc) (cxComp X N2 scope cl s3 H3 fp).env) (RR (.ref acc) s3.heap.objs.size)
      { s3 with heap := pushCells (s3.heap.push { cls := .type "dict", data := .dict #[] }) scope.names } := by
    refine compLoop_any (fun n s' => ∃ i σ' H', Inv (cxComp X N2 scope cl s3 H3 fp) [] σ' H' s' ∧ tn i s'.heap ∧ (∀ b ∈ fp, H' b = none) ∧ W i n σ' H') ?_ m0 ⟨0, _, H3, IY, stY, fun b hb => (f3 b hb).1, w0⟩
    rintro n s5 ⟨i, σ5, H5, I5, st5, fr5, w5⟩
    rcases turn i n σ5 H5 w5 with ⟨stop, qn⟩ | ⟨go, S, N, hSN, step⟩
    · refine thn (T.done (cxComp X N2 scope cl s3 H3 fp) rfl rfl rfl hc i [] s5 σ5 H5 (fun _ _ => False) I5 (stat fr5) st5 stop) fun r s6 ⟨hr, I6⟩ => ?_
      subst hr
      obtain ⟨m6, ns6, _⟩ := id I6.loc
      have IX : Inv X pins σ H5 s6 := I3.call' (ch := fp) I6.os I6.base I6.hok I6.bare fun b hb => ⟨(f3 b hb).2.2.2.1, (f3 b hb).2.1, (f3 b hb).2.2.2.2.1, (f3 b hb).2.2.2.2.2⟩
      refine hR acc s3.heap.objs.size H5 s6 m6 IX ns6 I6.free hHC I3.sz (fun x c e z => ?_) (fun p hp z => ?_) qn
      · obtain ⟨v, q⟩ := I3.cell x c e
        exact absurd q.lt (by rw [z]; exact Nat.lt_irrefl _)
      · exact absurd (Heap.lt_size (I3.pin p hp).1) (by rw [z]; exact Nat.lt_irrefl _)
    · refine thn (T.item (cxComp X N2 scope cl s3 H3 fp) rfl rfl rfl hc i [] s5 σ5 H5 (fun _ _ => False) I5 (stat fr5) st5 go) fun r s6 ⟨u, hr, h6⟩ => ?_
      subst hr
      refine thn h6 fun _ s7 ⟨x, H7, I7, r7, y7, st7, fr7⟩ => ?_
      have I7' := I7.pinned (stat fr7) (T.obj _ _ st7)
      refine thn (hg cl s3 H3 fp _ s7 σ5 H7 x u _ I7' r7 (step x H7 y7)) fun _ s8 ⟨σ8, H8, I8, hS8, q8⟩ => ?_
      refine thn (he cl s3 H3 fp _ s8 σ8 H8 _ I8 q8) fun y s9 ⟨v, H9, I9, r9, q9⟩ => ?_
      obtain ⟨xs, hxs, hxl, m', hm, w9⟩ := hSN σ8 v H9 hS8 q9
      refine thn (mt_append _ s9 σ8 H9 (.ref acc) [v] (.ref acc) [y] (fun z H10 => z = .non ∧ H10 = upd H9 acc (.lst (xs ++ [v]))) I9 rfl (.cons r9 .nil) ⟨acc, xs, v, rfl, rfl, hxs, hxl, rfl, rfl⟩) fun z s10 ⟨zv, H10, I10, r10, ez, eH⟩ => ?_
      subst eH
      refine ⟨m', hm, i + 1, σ8, _, I10.unpinned, T.keep _ _ _ st7 fun b hb o e => (I10.pin (b, o) (List.mem_append_right _ (List.mem_append_right _ (mem_pinsAt hb e)))).1, fun b hb => ?_, w9⟩
      obtain ⟨o, e, d⟩ := T.obj _ _ st7 b hb
      exact (I10.pin (b, o) (List.mem_append_right _ (List.mem_append_right _ (mem_pinsAt hb e)))).2.1
  exact codeAny_compStart_list loop (T.self _ 0 _ _ _ stY loop)
theorem pe_comp {tg iter elt : Expr} {scope : Scope} {pos : Pos} (N2 : List Str) (ix : List (Option Nat)) {wi : TI} {g : TG} {te : TE} (hc : X.calm = true) (hi : PI X tg iter wi)
    (hg : ∀ cl s₂ H₂ fp, PG (cxComp X N2 scope cl s₂ H₂ fp) tg g) (he : ∀ cl s₂ H₂ fp, PE (cxComp X N2 scope cl s₂ H₂ fp) elt te)
    (hk : scope.kind = .function) (hn : compOk X.N X.env.scope.names scope.names N2 ix = true) (hs : ∀ x, foldedSetIterable iter X.env x = pure x := by intro _; rfl) :
    PE X (.ListComp elt [⟨tg, iter, [], 0⟩] scope pos) (tComp wi ix g te) := by
  intro pins s σ H Q I h
  obtain ⟨k1, k2, k3, k4, k5⟩ := compOk_use hn
  obtain ⟨cl, ecl, c1, c2⟩ := closure_ok (scope := scope) (env := X.env) fun y hy e => I.ok.has y.1 (k3 y hy e)
  rw [eval_ListComp]
  refine wpAny_comprehension_free (use := none) rfl hs ecl hk k4 (thn (hi pins s σ H _ I h) fun v s1 h1 => thn h1 fun itv s2 h2 => ?_)
  obtain ⟨it, fp, tn, J, H2, e, I2, T, st2, f2, h2⟩ := h2
  subst e
  refine comp_block (RR := fun acc C => compPost (model X.prog X.w) X.A X.xe none (EP X pins σ Q) acc C) (Q := Q) hc hg he hk hn (fun y c m => (c1 y c m).1) c2 I2 T st2 f2 h2 ?_
  intro acc C H' s' m I' ns hHC hL hsz hcells hpins q
  exact ⟨m, ns, fun h' hs' => ⟨.ref acc, H', I'.turned (it := C) (t' := s'.toks) (fun b o hb e => (hs'.2 b hb).trans e) hHC hL (.inr hsz) hcells hpins, rfl, q⟩⟩
theorem ps_setC {i : Nat} {x : Str} {px pos' : Pos} {tg iter elt : Expr} {scope : Scope} {pos : Pos} (N2 : List Str) (ix : List (Option Nat)) {wi : TI} {g : TG} {te : TE} (hN : X.N.Nodup) (hi : X.N[i]? = some x) (hx : X.env.scope.names.lookup x = some .local) (hc : X.calm = true) (hit : PI X tg iter wi)
    (hg : ∀ cl s₂ H₂ fp, PG (cxComp X N2 scope cl s₂ H₂ fp) tg g) (he : ∀ cl s₂ H₂ fp, PE (cxComp X N2 scope cl s₂ H₂ fp) elt te)
    (hk : scope.kind = .function) (hn : compOk X.N X.env.scope.names scope.names N2 ix = true) (hw : swapsWith (.ListComp elt [⟨tg, iter, [], 0⟩] scope pos) (some (.Name x px)) pos'.line X.env = pure true) (hs : ∀ x, foldedSetIterable iter X.env x = pure x := by intro _; rfl) :
    PS X (.Assign [.Name x px] (.ListComp elt [⟨tg, iter, [], 0⟩] scope pos) pos') (tAsg (tComp wi ix g te) (gName i)) := by
  intro pins s σ H D I h
  obtain ⟨k1, k2, k3, k4, k5⟩ := compOk_use hn
  obtain ⟨cl, ecl, c1, c2⟩ := closure_ok (scope := scope) (env := X.env) fun y hy e => I.ok.has y.1 (k3 y hy e)
  rw [exec_Assign_Name_used _ _ _ _ hw]
  refine wpAny_bind (wpAny_standAt (wpAny_bind ?_))
  show wpAny _ X.A (do let _ ← comprehension (.ListComp elt [⟨tg, iter, [], 0⟩] scope pos) scope X.env _ (newList []) false (eval iter X.env) (some (assign (.Name x px) X.env))) _ _ s
  refine wpAny_bind (thn (wpAny_comprehension_free (use := some (assign (.Name x px) X.env)) (Q := fun _ s' => SP X pins D .next s') rfl hs ecl hk k4 (thn (hit pins s σ H _ I h) fun v s1 h1 => thn h1 fun itv s2 h2 => ?_)) fun _ s' hq => wpAny_pure (wpAny_pure hq))
  obtain ⟨it, fp, tn, J, H2, e, I2, T, st2, f2, h2⟩ := h2
  subst e
  refine comp_block (RR := fun acc C => compPost (model X.prog X.w) X.A X.xe (some (assign (.Name x px) X.env)) (fun _ s' => SP X pins D .next s') acc C) (Q := fun v H' => D.nx (σ.set i (some v)) H') hc hg he hk hn (fun y c m => (c1 y c m).1) c2 I2 T st2 f2 h2 ?_
  intro acc C H' s' m I' ns hHC hL hsz hcells hpins q
  show wpAny _ X.A (assign (.Name x px) X.env (.ref acc)) _ _ _
  refine wpAny_assign_Name (store_ok2 I' hN hi (.inl hx) (v := .ref acc) rfl (fun s3 I3 ⟨a, sb, ha⟩ => ?_) (.inr hx))
  have ca : C ≠ a := by
    rcases ha with z | z
    · rw [z]; exact hL
    · exact fun e => hcells x a z e.symm
  exact ⟨m, ns.sameBut sb ca, fun h' hs' => ⟨_, H', I3.turned (it := C) (t' := s3.toks) (fun b o hb e => (hs'.2 b hb).trans e) hHC hL (.inr hsz) hcells hpins, q⟩⟩
end
theorem Same.upd_new {H H' : Hp} {p : Addr} (e : Same H H') (h : H p = none) (o : HO) : Same H (upd H' p o) := fun b u q => by rw [upd_ne (ne_of_none q h)]; exact e b u q
end L2
namespace L2
open PySem PySem.Spec PyProof.Rows
end L2
namespace L2
open PySem PySem.Spec PyProof.Rows
end L2
namespace L2
open PySem PySem.Spec PyProof.Rows
section
variable {X : Cx}
theorem call_sum (hc : X.calm = true) : CallR X (.builtin "sum") (fun xs H Q => ∃ (a : Addr) (ns : List Int), xs = [.ref a] ∧ SqL X.K H a (ns.map V.int) ∧ Q (.int ns.sum) H) := by
  intro pins s σ H xs us Q I r h
  obtain ⟨a, ns, rfl, hS, q⟩ := h
  obtain ⟨u, rfl, ru⟩ := vals1 r
  cases ru
  obtain ⟨its, rv, p, hz⟩ := I.list hS
  have hi := intsAre_of rv
  have hl := p.isList
  obtain ⟨o, ho, _⟩ := id hl
  have hne : a ≠ s.heap.objs.size := Nat.ne_of_lt (Heap.lt_size ho)
  have W := (Walks.list (prog := X.prog) (w := X.w) (A := X.A.in1) (I.ok.hd hc) s.heap.objs.size a hne its.toArray).toS
  have hln : its.length = ns.length := by rw [← rv.length, List.length_map]
  refine call_sum_walkAnyS (wpAny_pyIter_list hl ?_)
  refine ⟨s.heap.objs.size, _, _, _, _, _, _, fun i => ns.getD i 0, rfl, W, ⟨⟨_, Heap.get?_push_size _ rfl, rfl, rfl⟩, hl.at fun o e => Heap.get?_push_of_some _ e⟩, fun b hb => ?_, fun i v hP => ?_, fun s' t' hm => ?_⟩
  · rcases List.mem_cons.mp hb with rfl | hb
    · exact Heap.lt_size (Heap.get?_push_size _ rfl)
    · obtain rfl := List.mem_singleton.mp hb
      exact Heap.lt_size (Heap.get?_push_of_some _ ho)
  · have hP' : its[i]? = some v := by simpa using hP
    have hil : i < ns.length := by
      have := (List.getElem?_eq_some_iff.mp hP').1
      omega
    obtain ⟨u, hu, ru⟩ := rv.get (i := i) (x := V.int ns[i]) (by rw [List.getElem?_map, List.getElem?_eq_getElem hil]; rfl)
    rw [hP'] at hu
    cases hu
    obtain ⟨t, e⟩ := ru
    refine ⟨t, ?_⟩
    rw [e]
    show Value.int ns[i] t = Value.int (ns.getD i 0) t
    rw [List.getD_eq_getElem?_getD, List.getElem?_eq_getElem hil]
    rfl
  · obtain ⟨h', g', d', tk', os'⟩ := s'
    have e1 : g' = s.gens := hm.gens
    have e2 : d' = s.drawn := hm.drawn
    have e3 : os' = s.os := hm.os
    subst e1 e2 e3
    have hsz : its.toArray.size = ns.length := by rw [List.size_toArray, hln]
    rw [hsz, preSum_getD, List.take_of_length_le (Nat.le_refl _)]
    exact ⟨.int ns.sum, H, I.kept (h' := h') (t' := tk') fun b o e => hm.heap b o (fun hb => absurd (Heap.lt_size e) ((List.mem_singleton.mp hb) ▸ Nat.lt_irrefl _)) (Heap.get?_push_of_some _ e), ⟨t', rfl⟩, q⟩
theorem call_all (hc : X.calm = true) : CallR X (.builtin "all") (fun xs H Q => ∃ (a : Addr) (bs : List Bool), xs = [.ref a] ∧ SqL X.K H a (bs.map V.bl) ∧ Q (.bl (bs.all id)) H) := by
  intro pins s σ H xs us Q I r h
  obtain ⟨a, bs, rfl, hS, q⟩ := h
  obtain ⟨u, rfl, ru⟩ := vals1 r
  cases ru
  obtain ⟨its, rv, p, hz⟩ := I.list hS
  have hl := p.isList
  obtain ⟨o, ho, _⟩ := id hl
  have hne : a ≠ s.heap.objs.size := Nat.ne_of_lt (Heap.lt_size ho)
  have hln : its.length = bs.length := by rw [← rv.length, List.length_map]
  refine call_all_walk (wpAny_pyIter_list hl ?_)
  refine ⟨s.heap.objs.size, _, _, _, _, _, fun i => bs.getD i false, rfl, Walks.list (prog := X.prog) (w := X.w) (A := X.A.in1) (I.ok.hd hc) s.heap.objs.size a hne its.toArray, ⟨⟨_, Heap.get?_push_size _ rfl, rfl, rfl⟩, hl.at fun o e => Heap.get?_push_of_some _ e⟩, fun i v s' Q' E' hP hQ => ?_, fun h' tk hk => ?_⟩
  · have hP' : its[i]? = some v := by simpa using hP
    have hil : i < bs.length := by
      have := (List.getElem?_eq_some_iff.mp hP').1
      omega
    obtain ⟨u, hu, ru⟩ := rv.get (i := i) (x := V.bl bs[i]) (by rw [List.getElem?_map, List.getElem?_eq_getElem hil]; rfl)
    rw [hP'] at hu
    cases hu
    have e : v = Value.bool bs[i] := ru
    subst e
    refine wpAny_truthy_bool ?_
    have hQ2 : Q' (bs.getD i false) s' := hQ
    rw [List.getD_eq_getElem?_getD, List.getElem?_eq_getElem hil] at hQ2
    exact hQ2
  · have hsz : its.toArray.size = bs.length := by rw [List.size_toArray, hln]
    have e : (List.range its.toArray.size).all (fun i => bs.getD i false) = bs.all id := by
      rw [hsz, Bool.eq_iff_iff, List.all_eq_true, List.all_eq_true]
      refine ⟨fun z x hx => ?_, fun z i hi => ?_⟩
      · obtain ⟨i, hi, e⟩ := List.mem_iff_getElem.mp hx
        have := z i (List.mem_range.mpr hi)
        rw [List.getD_eq_getElem?_getD, List.getElem?_eq_getElem hi] at this
        rw [← e]
        exact this
      · have hi' := List.mem_range.mp hi
        rw [List.getD_eq_getElem?_getD, List.getElem?_eq_getElem hi']
        exact z _ (List.getElem_mem hi')
    rw [e]
    exact ⟨.bl (bs.all id), H, I.kept (h' := h') (t' := tk) fun b o e => hk b o (fun hb => absurd (Heap.lt_size e) ((List.mem_singleton.mp hb) ▸ Nat.lt_irrefl _)) (Heap.get?_push_of_some _ e), rfl, q⟩
end
section
variable {X : Cx} (K : PySem.W.Frag)
theorem ix_tupK (hK : X.K = K := by rfl) : IxR X (rIxT K) := hK ▸ ix_tup
theorem ix_listK (hK : X.K = K := by rfl) : IxR X (rIxL K) := hK ▸ ix_list
theorem pi_listK {tg l : Expr} {tl : TE} (hl : PE X l tl) (hK : X.K = K := by rfl) : PI X tg l (iList K tl) := hK ▸ pi_list hl
theorem op_neDK (hu : X.A.units + 64 < cLine) (hK : X.K = K := by rfl) : OpR X (compareOp .NotEq) (rNeD K) := hK ▸ op_neD hu
theorem call_sumK (hc : X.calm = true) (hK : X.K = K := by rfl) : CallR X (.builtin "sum") (fun xs H Q => ∃ (a : Addr) (ns : List Int), xs = [.ref a] ∧ SqL K H a (ns.map V.int) ∧ Q (.int ns.sum) H) := hK ▸ call_sum hc
theorem call_allK (hc : X.calm = true) (hK : X.K = K := by rfl) : CallR X (.builtin "all") (fun xs H Q => ∃ (a : Addr) (bs : List Bool), xs = [.ref a] ∧ SqL K H a (bs.map V.bl) ∧ Q (.bl (bs.all id)) H) := hK ▸ call_all hc
theorem call_lenK (hK : X.K = K := by rfl) : CallR X (.builtin "len") (fun xs H Q => ∃ p ys, xs = [.ref p] ∧ (SqL K H p ys ∨ SqT K H p ys) ∧ Q (.int ys.length) H) := hK ▸ call_len_seq
theorem call_list_ofK (hK : X.K = K := by rfl) : CallR X (.type "list") (fun xs H Q => ∃ p ys, xs = [.ref p] ∧ (SqL K H p ys ∨ SqT K H p ys) ∧ ∀ l, H l = none → Q (.ref l) (upd H l (.lst ys))) := hK ▸ call_list_of
theorem call_isinstK (hK : X.K = K := by rfl) : CallR X (.builtin "isinstance") (fun xs H Q => ∃ x n t b, xs = [x, .ty n] ∧ TyOf K H x t ∧ PySem.W.kitOne K t (.type n) = some b ∧ Q (.bl b) H) := hK ▸ call_isinst
end
end L2
namespace L2
end L2
namespace L2
open PySem PySem.Spec PyProof.Rows
theorem zipApart_mk {n l1 l2 : Nat} (h1 : l1 < n) (h2 : l2 < n) : ZipApart (n + 4) (n + 2) (n + 3) n (n + 1) l1 l2 := by
  have nn : ∀ i j : Nat, i ≠ j → n + i ≠ n + j := fun i j h e => h (Nat.add_left_cancel e)
  have ne : ∀ (c k : Nat), c < n → c ≠ n + k := fun c k h => by omega
  exact ⟨nn 2 4 (by decide), nn 3 4 (by decide), nn 0 4 (by decide), nn 1 4 (by decide), nn 2 3 (by decide), nn 2 0 (by decide), nn 2 1 (by decide), nn 3 0 (by decide), nn 3 1 (by decide), nn 0 1 (by decide), ne _ 4 h1, ne _ 3 h1, ne _ 0 h1, ne _ 1 h1, ne _ 4 h2, ne _ 3 h2, ne _ 0 h2, ne _ 1 h2⟩
section
variable {X : Cx} {elts : List Expr} {kk : Nat} {tpos : Pos}
end
end L2
namespace L2
open PySem PySem.Spec PyProof.Rows
theorem pg_tupK (K : PySem.W.Frag) {X : Cx} {es : List Expr} {k : Nat} {t : TGs} {n : Nat} {pos : Pos} (hc : X.calm = true) (h : PGs X es t) (hK : X.K = K := by rfl)
    (hn : (assignEach es X.env).length = n := by rfl) (hst : (assignEach es X.env).findIdx? (·.1) = none := by rfl) : PG X (.Tuple es k pos) (gTup K n t) := hK ▸ pg_tup hc h hn hst
end L2
namespace L2
open PySem PySem.Spec PyProof.Rows
structure spMuch (K : PySem.W.Frag) (vs : List V) (H : Hp) (Q : VK) (E : XK) : Prop where
  ex : ∃ (a : Addr) (ns : List Int) (k j : Int), vs = [.ref a, .int k, .int j] ∧ SqL K H a (ns.map V.int) ∧ ns.length ≤ 63 ∧ 0 ≤ k ∧ 0 ≤ j ∧ j < 2 ^ 61 ∧ ∀ (m : Int) (H' : Hp), 1 ≤ m → m ≤ 1000000000 → Same H H' → Q (.int m) H'
theorem use_much {K : PySem.W.Frag} {H : Hp} {Q : VK} {E : XK} {a : Addr} {ns : List Int} {k j : Int} (hS : SqL K H a (ns.map V.int)) (h63 : ns.length ≤ 63) (h1 : 0 ≤ k) (h2 : 0 ≤ j) (h3 : j < 2 ^ 61)
    (h : ∀ (m : Int) (H' : Hp), 1 ≤ m → m ≤ 1000000000 → Same H H' → Q (.int m) H') : spMuch K [.ref a, .int k, .int j] H Q E := ⟨a, ns, k, j, rfl, hS, h63, h1, h2, h3, h⟩
theorem atI_ref {xs : List V} {i : Nat} {v : V} (h : xs[i]? = some v) : atI xs (i : Int) = some v := atI_nat h
end L2
namespace L2
open PySem PySem.Spec PyProof.Rows
end L2
namespace L2
open PySem PySem.Spec PyProof.Rows
section
variable {X : Cx}
def tRng (ta : TA) : TE := fun σ H Q => ta σ H fun vs H1 => ∃ j : Int, vs = [.int j] ∧ ∀ p, H1 p = none → Q (.ref p) (upd H1 p (.rng 0 j))
theorem pe_range1 {a : Expr} {ta : TA} {p pos : Pos} (hg : Gl X "range") (hm : X.mg "range" = none) (ha : PA X [a] ta) (hs : starEach [a] X.env = [(false, eval a X.env)] := by rfl) : PE X (.Call (.Name "range" p) [a] [] pos) (tRng ta) := by
  intro pins s σ H Q I h
  refine Call_ (ld_blt I hg hm boot_range (PyProof.Rows.callWith_type1 (thn (ha pos pins s σ H _ I h) fun us s1 ⟨vs, H1, I1, r1, q1⟩ => ?_) hs rfl))
  obtain ⟨j, e, q⟩ := q1
  subst e
  obtain ⟨u, rfl, ru⟩ := vals1 r1
  obtain ⟨t, rfl⟩ := ru
  exact call_range_1 ⟨.ref s1.heap.objs.size, _, I1.laid (a := s1.heap.objs.size) (o := .rng 0 j) (fun b o e => Heap.get?_push_of_some _ e) (Nat.le_refl _) ⟨_, _, _, Heap.get?_push_size _ rfl⟩, rfl, q _ I1.fresh⟩
def upTo (n : Nat) : List Int := (List.range n).map fun i => ((i : Nat) : Int)
theorem call_list_rng (hc : X.calm = true) : CallR X (.type "list") (fun xs H Q => ∃ (r : Addr) (n : Nat), xs = [.ref r] ∧ H r = some (.rng 0 (n : Int)) ∧ n ≤ 1000 ∧ ∀ l, H l = none → Q (.ref l) (upd H l (.lst ((upTo n).map V.int)))) := by
  intro pins s σ H xs us Q I r h
  obtain ⟨a, n, rfl, hr, hn, q⟩ := h
  obtain ⟨u, rfl, ru⟩ := vals1 r
  cases ru
  obtain ⟨t, t2, t3, e⟩ := (show ObjOk X.prog X.w H s.heap a (.rng 0 (n : Int)) from I.hok a _ hr)
  refine call_list_range (n := n) (I.ok.hd hc) e (small_one (by decide) (by decide) (by omega) (by omega)) (by rw [rangeSize_one]; split <;> omega) (by omega) fun h' tk acc' c' hk hS hI => ?_
  obtain ⟨hsz, hit⟩ := hI
  have hv : Vals ((upTo n).map V.int) acc'.toList := by
    have gen : ∀ (m : Nat) (us : List Value) (k : Nat), us.length = m → (∀ (j : Nat) (v : Value), us[j]? = some v → ∃ t, v = .int ((0 : Int) + ((k + j : Nat) : Int) * 1) t) → Vals (((List.range' k m).map fun i => ((i : Nat) : Int)).map V.int) us := by
      intro m
      induction m with
      | zero => intro us k hl _; rw [List.length_eq_zero_iff.mp hl]; exact .nil
      | succ m ih =>
        intro us k hl hu
        cases us with
        | nil => cases hl
        | cons v r =>
          obtain ⟨t, e⟩ := hu 0 v rfl
          refine .cons ⟨t, ?_⟩ (ih r (k + 1) (by simpa using hl) fun j v' hj => ?_)
          · rw [e]
            show Value.int _ t = Value.int ((k : Nat) : Int) t
            congr 1
            omega
          · obtain ⟨t, e⟩ := hu (j + 1) v' (by simpa using hj)
            exact ⟨t, by rw [e]; congr 1; omega⟩
    have := gen n acc'.toList 0 (by simpa using hsz) fun j v hj => by
      obtain ⟨t, e⟩ := hit j v (by simpa using hj)
      exact ⟨t, by rw [e]; congr 1; omega⟩
    unfold upTo
    rw [List.range_eq_range']
    exact this
  have hlen : ((upTo n).map V.int).length ≤ sizeLine := by unfold upTo; simp; exact small (by omega)
  exact ⟨.ref s.heap.objs.size, _, I.laid (a := s.heap.objs.size) (o := .lst ((upTo n).map V.int)) (h' := h') (t' := tk) hk (Nat.le_refl _) ⟨hlen, acc'.toList, c', hv, by simpa using hS⟩, rfl, q _ I.fresh⟩
def tRev (K : PySem.W.Frag) (te ts : TE) : TE := fun σ H Q => te σ H fun x H1 => ts σ H1 fun y H2 => y = .int (-1) ∧ ∃ a xs, x = .ref a ∧ SqL K H2 a xs ∧ ∀ p, H2 p = none → Q (.ref p) (upd H2 p (.lst xs.reverse))
theorem pe_rev (K : PySem.W.Frag) {e st : Expr} {te ts : TE} {pos p2 : Pos} (he : PE X e te) (hst : PE X st ts) (hK : X.K = K := by rfl) : PE X (.Subscript e (.Slice none none (some st) p2) pos) (tRev K te ts) := by
  subst hK
  intro pins s σ H Q I h
  refine Subscript_ (thn (he pins s σ H _ I h) fun v s1 ⟨x, H1, I1, r1, q1⟩ => ?_)
  refine wpAny_Slice ?_
  rw [evalPart_none]
  refine wpAny_pure (wpAny_pure ?_)
  rw [evalPart_some]
  refine thn (hst pins s1 σ H1 _ I1 q1) fun w3 s3 ⟨y, H3, I3, r3, q3⟩ => ?_
  obtain ⟨ey, a, xs, rfl, hx, q⟩ := q3
  subst ey
  obtain ⟨t, rfl⟩ := r3
  cases r1
  have I4 : Inv X pins σ H3 { s3 with heap := s3.heap.push { cls := .type "slice", data := .fields #[.none, .none, .int (-1) t] } } := I3.kept (t' := s3.toks) fun b ob q => Heap.get?_push_of_some _ q
  obtain ⟨its, r, ht, hz⟩ := I4.list hx
  have hlen := r.length
  refine tail_any (ops := [.ref a, .ref s3.heap.objs.size]) ht.isList.typeIs slot_list_getitem.lookup ?_ (by with_unfolding_all rfl)
  refine wpAny_getItem_list_slice ht.isList (Heap.IsSliceOf.new ..) .none .none (.int (-1) t) (by decide) ?_ (by rw [List.size_toArray] <;> omega)
  rw [PySem.W.krv_pick]
  refine ⟨.ref _, _, I4.laid (t' := s3.toks) (o := .lst xs.reverse) (fun b ob q => Heap.get?_push_of_some _ q) (Nat.le_refl _) ?_, rfl, q _ I4.fresh⟩
  exact ⟨by rw [List.length_reverse]; exact hz, its.reverse, 0, r.reverse, Heap.get?_push_size _ rfl⟩
end
end L2
namespace L2
open PySem PySem.Spec PyProof.Rows
end L2
namespace L2
open PySem PySem.Spec PyProof.Rows
end L2
namespace L2
open PySem PySem.Spec PyProof.Rows
end L2
namespace L2
open PySem PySem.Spec PyProof.Rows
end L2
namespace L2
open PySem PySem.Spec PyProof.Rows
end L2
namespace L2
open PySem PySem.Spec PyProof.Rows
end L2
namespace L2
open PySem PySem.Spec PyProof.Rows
theorem ixN_nat {n k : Nat} (h : k < n) : ixN n (k : Int) = some k := by
  unfold ixN
  rw [if_pos (by omega), if_pos (by omega)]
  rfl
end L2
namespace L2
open PySem PySem.Spec PyProof.Rows
abbrev tx (cs : List Nat) : Str := ⟨cs.toArray⟩
theorem tx_length (cs : List Nat) : (tx cs).length = cs.length := by show cs.toArray.size = _; rw [List.size_toArray]
theorem tx_cat (a b : List Nat) : (tx a ++ tx b : Str) = tx (a ++ b) := by
  show (⟨a.toArray ++ b.toArray⟩ : Str) = _
  simp [tx]
def Its (cs : List Nat) : It := ⟨fun i _ => i < cs.length, fun i H v H' => H' = H ∧ ∃ c, cs[i]? = some c ∧ v = .str (tx [c]), fun i _ => cs.length ≤ i⟩
theorem turn_ascii {P : Program} {w : World} {K : PySem.W.Frag} {tg : Expr} (x : Str) (t : Tok) (it : Addr) : Turn P w K tg (Its x.cps.toList) [it] it (fun i h => h.IsStrIter it "str_ascii_iterator" x t i) where
  mem := by simp
  obj := fun i h st b hb => by
    have e : b = it := by simpa using hb
    subst e
    obtain ⟨o, e, c, d⟩ := st
    exact ⟨o, e, fun v z => by rw [d] at z; cases z⟩
  keep := fun i h h' st k => let ⟨o, ho, r⟩ := st; ⟨o, k it (by simp) o ho, r⟩
  item := by
    intro X hP hw hK hc i pins s σ H E I hf st hg
    subst hP hw hK
    have hi : i < x.cps.size := by have hg' : i < x.cps.toList.length := hg; simpa using hg'
    obtain ⟨f0, f1, f2, f3, f4, f5⟩ := hf it (by simp)
    refine wpAny_pyNext_ascii_item st (c := x.cps[i]) (by simp [hi]) fun h' st' sb => ?_
    have I1 : Inv X pins σ H { s with heap := h', toks := s.toks + 1 } := I.turned (t' := s.toks + 1) (fun b o hb e => sb.extBut b o hb e) f0 f1 f3 f4 f5
    obtain ⟨o, e, c, d⟩ := id st'
    exact ⟨_, rfl, go_of (s := { s with heap := h', toks := s.toks + 1 }) e c d (by decide) ⟨.str (tx [x.cps[i]]), H, I1, ⟨_, rfl⟩, ⟨rfl, x.cps[i], by simp [hi], rfl⟩, st', fun b hb => (hf b hb).1⟩⟩
  done := by
    intro X hP hw hK hc i pins s σ H E I hf st hg
    subst hP hw hK
    have hi : x.cps.size ≤ i := by have hg' : x.cps.toList.length ≤ i := hg; simpa using hg'
    obtain ⟨f0, f1, f2, f3, f4, f5⟩ := hf it (by simp)
    exact wpAny_pyNext_ascii_end (I.ok.hd hc) st (by simp; omega) fun h' eb => ⟨rfl, I.turned (t' := s.toks) (fun b o hb e => eb b o hb e) f0 f1 f3 f4 f5⟩
  self := fun _ _ _ _ _ st h => wpAny_pyIter_striter_ascii st h
theorem turn_wide {P : Program} {w : World} {K : PySem.W.Frag} {tg : Expr} (x : Str) (t : Tok) (it : Addr) : Turn P w K tg (Its x.cps.toList) [it] it (fun i h => h.IsStrIter it "str_iterator" x t i) where
  mem := by simp
  obj := fun i h st b hb => by
    have e : b = it := by simpa using hb
    subst e
    obtain ⟨o, e, c, d⟩ := st
    exact ⟨o, e, fun v z => by rw [d] at z; cases z⟩
  keep := fun i h h' st k => let ⟨o, ho, r⟩ := st; ⟨o, k it (by simp) o ho, r⟩
  item := by
    intro X hP hw hK hc i pins s σ H E I hf st hg
    subst hP hw hK
    have hi : i < x.cps.size := by have hg' : i < x.cps.toList.length := hg; simpa using hg'
    obtain ⟨f0, f1, f2, f3, f4, f5⟩ := hf it (by simp)
    refine wpAny_pyNext_wide_item st (c := x.cps[i]) (by simp [hi]) fun h' st' sb => ?_
    have I1 : Inv X pins σ H { s with heap := h', toks := s.toks + 1 } := I.turned (t' := s.toks + 1) (fun b o hb e => sb.extBut b o hb e) f0 f1 f3 f4 f5
    obtain ⟨o, e, c, d⟩ := id st'
    exact ⟨_, rfl, go_of (s := { s with heap := h', toks := s.toks + 1 }) e c d (by decide) ⟨.str (tx [x.cps[i]]), H, I1, ⟨_, rfl⟩, ⟨rfl, x.cps[i], by simp [hi], rfl⟩, st', fun b hb => (hf b hb).1⟩⟩
  done := by
    intro X hP hw hK hc i pins s σ H E I hf st hg
    subst hP hw hK
    have hi : x.cps.size ≤ i := by have hg' : x.cps.toList.length ≤ i := hg; simpa using hg'
    obtain ⟨f0, f1, f2, f3, f4, f5⟩ := hf it (by simp)
    exact wpAny_pyNext_wide_end (I.ok.hd hc) st (by simp; omega) fun h' eb => ⟨rfl, I.turned (t' := s.toks) (fun b o hb e => eb b o hb e) f0 f1 f3 f4 f5⟩
  self := fun _ _ _ _ _ st h => wpAny_pyIter_striter_wide st h
section
variable {X : Cx} {tg : Expr}
def iStr (te : TE) : TI := fun σ H R => te σ H fun x H1 => ∃ cs : List Nat, x = .str (tx cs) ∧ R (Its cs) H1
theorem pi_str {l : Expr} {tl : TE} (hl : PE X l tl) : PI X tg l (iStr tl) := by
  intro pins s σ H R I h
  refine thn (hl pins s σ H _ I h) fun v s1 ⟨x, H1, I1, r1, q1⟩ => ?_
  obtain ⟨cs, e, q⟩ := q1
  subst e
  obtain ⟨t, rfl⟩ := r1
  have fp : ∀ b ∈ [s1.heap.objs.size], FpOk X pins H1 b := fun b hb => by
    have e : b = s1.heap.objs.size := by simpa using hb
    subst e
    exact I1.fpOk (Nat.le_refl _) (I1.hok.fresh (Nat.le_refl _))
  have tw := @turn_wide X.prog X.w X.K tg (tx cs) t s1.heap.objs.size
  have ta := @turn_ascii X.prog X.w X.K tg (tx cs) t s1.heap.objs.size
  cases ha : (tx cs).cps.all (· < 128)
  · exact wpAny_pyIter_wide ha ⟨s1.heap.objs.size, [s1.heap.objs.size], _, _, H1, rfl, I1.kept (t' := s1.toks) fun b o e => Heap.get?_push_of_some _ e, tw, ⟨_, Heap.get?_push_size _ rfl, rfl, rfl⟩, fp, q⟩
  · exact wpAny_pyIter_ascii ha ⟨s1.heap.objs.size, [s1.heap.objs.size], _, _, H1, rfl, I1.kept (t' := s1.toks) fun b o e => Heap.get?_push_of_some _ e, ta, ⟨_, Heap.get?_push_size _ rfl, rfl, rfl⟩, fp, q⟩
theorem comp_str {cs : List Nat} {k : Nat} {te : TE} {σ2 : St} {H : Hp} {acc : Addr} {Q : VK} (Pv : Nat → List V → Hp → Prop) (hn : cs.length ≤ 100000) (h0 : Pv 0 [] (upd H acc (.lst [])))
    (hs : ∀ (i : Nat) (c : Nat) (out : List V) (H1 : Hp), cs[i]? = some c → out.length = i → H1 acc = some (.lst out) → Pv i out H1 → te (σ2.set k (some (.str (tx [c])))) H1 fun v H4 => H4 acc = some (.lst out) ∧ Pv (i + 1) (out ++ [v]) (upd H4 acc (.lst (out ++ [v]))))
    (hd : ∀ (out : List V) (H1 : Hp), out.length = cs.length → H1 acc = some (.lst out) → Pv cs.length out H1 → Q (.ref acc) H1) :
    CompG (Its cs) (gName k) te acc σ2 H Q := by
  refine ⟨fun i m σ' H' => m = cs.length - i ∧ i ≤ cs.length ∧ (∀ v, σ'.set k (some v) = σ2.set k (some v)) ∧ ∃ out, out.length = i ∧ H' acc = some (.lst out) ∧ Pv i out H', ⟨cs.length, by simp, Nat.zero_le _, fun _ => rfl, [], rfl, upd_same, h0⟩, ?_⟩
  rintro i m σ' H' ⟨rfl, hi, hσ, out, ho, ha, p⟩
  by_cases hlt : i < cs.length
  · refine .inr ⟨hlt, fun σ3 => ∀ v, σ3.set k (some v) = σ2.set k (some v), fun v H4 => H4 acc = some (.lst out) ∧ Pv (i + 1) (out ++ [v]) (upd H4 acc (.lst (out ++ [v]))), fun σ3 v H4 hS ⟨a, b⟩ => ?_, fun x H1 y => ?_⟩
    · refine ⟨out, a, ?_, cs.length - (i + 1), by omega, rfl, hlt, hS, out ++ [v], by rw [List.length_append, ho]; rfl, upd_same, b⟩
      have : sizeLine = 16777216 := sizeLine_eq
      omega
    · obtain ⟨e, c, hc, ex⟩ := y
      subst e ex
      refine ⟨fun v => by rw [List.set_set]; exact hσ v, ?_⟩
      have q2 := hs i c out _ hc ho ha p
      rw [← hσ] at q2
      exact q2
  · have e : i = cs.length := by omega
    subst e
    exact .inl ⟨Nat.le_refl _, hd out H' ho ha p⟩
end
def inS (signs : Str) (c : Nat) : Bool := !(Builtin.Str.occurrences signs (tx [c]) 0 signs.length 1).isEmpty
def nmL (c : Int) (n : Nat) : List Nat := (List.range n).map fun i => 97 + ((c / 26 ^ i) % 26).toNat
theorem nmL_length (c : Int) (n : Nat) : (nmL c n).length = n := by unfold nmL; rw [List.length_map, List.length_range]
theorem nmL_succ (c : Int) (n : Nat) : nmL c (n + 1) = nmL c n ++ [97 + ((c / 26 ^ n) % 26).toNat] := by
  unfold nmL
  rw [List.range_succ, List.map_append]
  rfl
theorem letter_at {k : Int} (h0 : 0 ≤ k) (h1 : k < 26) : atI (("abcdefghijklmnopqrstuvwxyz" : Str).cps.toList) k = some (97 + k.toNat) := by
  have h : ∀ n : Nat, n < 26 → ("abcdefghijklmnopqrstuvwxyz" : Str).cps.toList[n]? = some (97 + n) := by decide +kernel
  have e : k = ((k.toNat : Nat) : Int) := by omega
  have := atI_nat (h k.toNat (by omega))
  rw [← e] at this
  exact this
structure spName' (vs : List V) (H : Hp) (Q : VK) (E : XK) : Prop where
  ex : ∃ (c : Int) (n : Nat), vs = [.int c, .int (n : Int)] ∧ 0 ≤ c ∧ n ≤ 1000 ∧ Q (.str (tx (nmL c n))) H
theorem use_name {H : Hp} {Q : VK} {E : XK} {c ni : Int} {n : Nat} (e : ni = (n : Int)) (hc : 0 ≤ c) (hn : n ≤ 1000) (q : Q (.str (tx (nmL c n))) H) : spName' [.int c, .int ni] H Q E := by
  subst e
  exact ⟨c, n, rfl, hc, hn, q⟩
structure spMadeOf (vs : List V) (H : Hp) (Q : VK) (E : XK) : Prop where
  ex : ∃ (cs : List Nat) (signs : Str), vs = [.str (tx cs), .str signs] ∧ cs.length ≤ 100000 ∧ ∀ H', Same H H' → Q (.bl (cs.all (inS signs))) H'
theorem use_madeof {H : Hp} {Q : VK} {E : XK} {cs : List Nat} {signs : Str} (hl : cs.length ≤ 100000) (q : ∀ H', Same H H' → Q (.bl (cs.all (inS signs))) H') : spMadeOf [.str (tx cs), .str signs] H Q E := ⟨cs, signs, rfl, hl, q⟩
def isName (cs : List Nat) : Bool := decide (1 ≤ (cs.length : Int)) && decide ((cs.length : Int) ≤ 8) && cs.all (inS "abcdefghijklmnopqrstuvwxyz")
structure spIsName (vs : List V) (H : Hp) (Q : VK) (E : XK) : Prop where
  ex : ∃ (cs : List Nat), vs = [.str (tx cs)] ∧ cs.length ≤ 100000 ∧ ∀ H', Same H H' → Q (.bl (isName cs)) H'
theorem use_isname {H : Hp} {Q : VK} {E : XK} {cs : List Nat} (hl : cs.length ≤ 100000) (q : ∀ H', Same H H' → Q (.bl (isName cs)) H') : spIsName [.str (tx cs)] H Q E := ⟨cs, rfl, hl, q⟩
end L2
namespace L2
open PySem PySem.Spec PyProof.Rows
theorem ite_use_tt {p q : Prop} (h : if true = true then p else q) : p := by rwa [if_pos rfl] at h
theorem ite_use_ff {p q : Prop} (h : if false = true then p else q) : q := by rwa [if_neg Bool.false_ne_true] at h
section
variable {prog : Program} {w : World} {A : Around} {R : Result → Shared → Prop} {s : Shared}
theorem compLoopI_any {elt target iter cond : Expr} {scope : Scope} {pos : Pos} {it acc : Value} {env : Env} (J : Nat → Shared → Prop)
    (turn : ∀ n s, J n s → wpAny (model prog w) A (pyNext it) (fun r s₁ => match r with
      | none => R (.ok .next) s₁
      | some v => wpAny (model prog w) A (letOwnedTupleGo target it v) (fun _ s₂ => wpAny (model prog w) A (assign target env v) (fun _ s₃ => wpAny (model prog w) A (isTrue cond env (eval cond env)) (fun ok s₃' => if ok = true then
            wpAny (model prog w) A (eval elt env) (fun x s₄ => wpAny (model prog w) A (call (.builtin "list.append") [acc, x]) (fun _ s₅ => ∃ m, m < n ∧ J m s₅) (fun _ _ => False) s₄) (fun _ _ => False) s₃'
            else ∃ m, m < n ∧ J m s₃') (fun _ _ => False) s₃) (fun _ _ => False) s₂) (fun _ _ => False) s₁) (fun _ _ => False) s)
    (n : Nat) (h : J n s) : codeAny (model prog w) A (.compLoop (.ListComp elt [⟨target, iter, [cond], 0⟩] scope pos) 0 it acc env) R s := by
  refine codeAny_loop rfl J (fun n s hI => ?_) n h
  show wpAny _ A ((compTurn (.ListComp elt [⟨target, iter, [cond], 0⟩] scope pos) 0 it acc env).onRaise (fun x => do noteFrame x env; theTreesLotGoes x)) _ _ s
  refine wpAny_noted ?_
  rw [compTurn_list]
  refine wpAny_bind (wpAny_standAt (wpAny_bind (wpAny_mono (turn n s hI) (fun r s₁ h₁ => ?_) fun _ _ h' => h'.elim)))
  cases r with
  | none => exact wpAny_pure h₁
  | some v =>
    refine wpAny_bind (wpAny_mono h₁ (fun _ s₂ h₂ => wpAny_bind (wpAny_mono h₂ (fun _ s₃ h₃ => ?_) fun _ _ h' => h'.elim)) fun _ _ h' => h'.elim)
    refine wpAny_bind (wpAny_tests_one (wpAny_mono h₃ (fun ok s₃' h₃' => ?_) fun _ _ h' => h'.elim))
    cases ok with
    | false => exact wpAny_pure ⟨rfl, ite_use_ff h₃'⟩
    | true => exact wpAny_bind (wpAny_bind (wpAny_mono (ite_use_tt h₃') (fun x s₄ h₄ => wpAny_bind (wpAny_mono h₄ (fun _ s₅ h₅ => wpAny_pure (wpAny_pure ⟨rfl, h₅⟩)) fun _ _ h' => h'.elim)) fun _ _ h' => h'.elim))
end
section
variable {X : Cx}
def CompGI (J : It) (g : TG) (tc : TT) (te : TE) (acc : Addr) (σ₀ : St) (H : Hp) (Q : VK) : Prop := ∃ W : Nat → Nat → St → Hp → Prop,
  (∃ m, W 0 m σ₀ (upd H acc (.lst []))) ∧ ∀ i m σ2 H2, W i m σ2 H2 →
    (J.stop i H2 ∧ Q (.ref acc) H2) ∨ (J.go i H2 ∧ ∃ (S : St → Prop) (N : V → Hp → Prop) (N0 : Hp → Prop), (∀ σ3 v H4, S σ3 → N v H4 → ∃ xs, H4 acc = some (.lst xs) ∧ xs.length < sizeLine ∧ ∃ m', m' < m ∧ W (i + 1) m' σ3 (upd H4 acc (.lst (xs ++ [v])))) ∧
      (∀ σ3 H4, S σ3 → N0 H4 → ∃ m', m' < m ∧ W (i + 1) m' σ3 H4) ∧ ∀ x H', J.yld i H2 x H' → g x σ2 H' fun σ3 H3 => S σ3 ∧ tc σ3 H3 fun b H4 => if b = true then te σ3 H4 N else N0 H4)
def tCompI (wi : TI) (ix : List (Option Nat)) (g : TG) (tc : TT) (te : TE) : TE := fun σ H Q => wi σ H fun J H1 => ∀ acc, H1 acc = none → CompGI J g tc te acc (ix.map fun o => o.bind fun j => (σ[j]?).join) H1 Q
theorem compI_block {tg iter elt cond : Expr} {scope : Scope} {pos : Pos} {N2 : List Str} {ix : List (Option Nat)} {g : TG} {tc : TT} {te : TE} {cl : List (Str × Addr)} {pins : List (Addr × Obj)} {σ : St} {H : Hp} {s : Shared} {E : Value → Shared → Prop} {Q : VK}
    {RR : Value → Addr → Result → Shared → Prop} (hc : X.calm = true) (hg : ∀ cl s₂ H₂ fp, PG (cxComp X N2 scope cl s₂ H₂ fp) tg g) (he : ∀ cl s₂ H₂ fp, PE (cxComp X N2 scope cl s₂ H₂ fp) elt te)
    (ht : ∀ cl s₂ H₂ fp, PT (cxComp X N2 scope cl s₂ H₂ fp) cond tc) (hk : scope.kind = .function) (hn : compOk X.N X.env.scope.names scope.names N2 ix = true)
    (hcl1 : ∀ y c, (y, c) ∈ cl → X.env.cells.lookup y = some c) (hcl2 : ∀ y, (y, NameKind.free) ∈ scope.names → ∃ c, (y, c) ∈ cl)
    {it : Addr} {fp : List Addr} {tn : Nat → Heap → Prop} {J : It} (I : Inv X pins σ H s) (T : Turn X.prog X.w X.K tg J fp it tn) (st : tn 0 s.heap) (f : ∀ b ∈ fp, FpOk X pins H b)
    (h : ∀ acc, H acc = none → CompGI J g tc te acc (ix.map fun o => o.bind fun j => (σ[j]?).join) H Q)
    (hR : ∀ acc C H' s' m, Inv X pins σ H' s' → s'.heap.Ns C m → H' C = none → C ≠ X.env.locals → X.s₀.heap.objs.size ≤ C → (∀ x c, X.env.cells.lookup x = some c → c ≠ C) → (∀ p ∈ X.pn ++ pins, p.1 ≠ C) → Q (.ref acc) H' → RR (.ref acc) C (.ok .next) s') :
    wpAny (model X.prog X.w) X.A (newList []) (fun acc s₃ => wpAny (model X.prog X.w) X.A (newFunctionEnv scope X.env.globals cl [] X.env.qual none .none (some X.env)) (fun cenv s₄ =>
      codeAny (model X.prog X.w) X.A (.compStart (.ListComp elt [⟨tg, iter, [cond], 0⟩] scope pos) 0 (.ref it) acc { cenv with scope := relabel scope X.env }) (RR acc cenv.locals) s₄) E s₃) E s := by
  obtain ⟨k1, k2, k3, k4, k5⟩ := compOk_use hn
  refine wpAny_newObj_type ?_
  have I3 : Inv X pins σ (upd H s.heap.objs.size (.lst [])) { s with heap := s.heap.push { cls := .type "list", data := .seq ([] : List Value).toArray } } :=
    I.laid (a := s.heap.objs.size) (o := .lst []) (t' := s.toks) (fun _ _ q => Heap.get?_push_of_some _ q) (Nat.le_refl _) ⟨Nat.zero_le _, [], _, .nil, Heap.get?_push_size _ rfl⟩
  obtain ⟨W, ⟨m0, w0⟩, turn⟩ := h s.heap.objs.size I.fresh
  have fo : ∀ b ∈ fp, b < s.heap.objs.size := fun b hb => by
    obtain ⟨o, e, _⟩ := T.obj 0 _ st b hb
    exact Heap.lt_size e
  have st3 : tn 0 (s.heap.push { cls := .type "list", data := .seq ([] : List Value).toArray }) := T.keep _ _ _ st fun b _ o e => Heap.get?_push_of_some _ e
  have f3 : ∀ b ∈ fp, FpOk X pins (upd H s.heap.objs.size (.lst [])) b := fun b hb => ⟨by rw [upd_ne (Nat.ne_of_lt (fo b hb))]; exact (f b hb).1, (f b hb).2⟩
  have fo3 : ∀ b ∈ fp, b < (s.heap.push { cls := .type "list", data := .seq ([] : List Value).toArray }).objs.size := fun b hb => by rw [Heap.size_push]; exact Nat.lt_succ_of_lt (fo b hb)
  generalize es3 : ({ s with heap := s.heap.push { cls := .type "list", data := .seq ([] : List Value).toArray } } : Shared) = s3 at *
  have eh3 : s3.heap = s.heap.push { cls := .type "list", data := .seq ([] : List Value).toArray } := by rw [← es3]
  rw [← eh3] at st3 fo3
  generalize s.heap.objs.size = acc at *
  generalize eH3 : upd H acc (.lst []) = H3 at *
  have IY := comp_enter (N2 := N2) (scope := scope) (cl := cl) (fp := fp) (σ2 := ix.map fun o => o.bind fun j => (σ[j]?).join) I3 hk hcl1 hcl2 f3 fo3 (by rw [List.length_map]; exact k1) (fun i x v e1 e2 => by
    rw [List.getElem?_map] at e2
    cases ei : ix[i]? with
    | none => rw [ei] at e2; cases e2
    | some o =>
      rw [ei] at e2
      cases o with
      | none => cases e2
      | some j =>
        obtain ⟨a1, a2, a3⟩ := k2 i x j e1 ei
        refine ⟨a2, a3, j, a1, ?_⟩
        have e3 : (σ[j]?).join = some v := Option.some.inj e2
        cases ej : σ[j]? with
        | none => rw [ej] at e3; cases e3
        | some z => rw [ej] at e3; exact congrArg some e3) k5
  have ne : wpAny (model X.prog X.w) X.A (newFunctionEnv scope X.env.globals cl [] X.env.qual none .none (some X.env)) (fun cenv s₄ =>
      cenv = { scope := scope, locals := s3.heap.objs.size, globals := X.env.globals, cells := cellsFrom (s3.heap.objs.size + 1) scope.names cl, qual := X.env.qual, func := none, code := X.env.code, frame := X.env.frame, builtins := X.env.builtins } ∧
      s₄ = { s3 with heap := pushCells (s3.heap.push { cls := .type "dict", data := .dict #[] }) scope.names }) E s3 := by
    simp only [newFunctionEnv, Option.isSome_some, if_true]
    refine wpAny_bind (wpAny_alloc ?_)
    refine wpAny_bind (wpAny_layCells _ (fun name kind cells => by cases hkc : kind == NameKind.cell <;> simp [hkc]) _ _ _ _ ?_)
    rw [List.forIn_nil]
    refine wpAny_bind (wpAny_pure (wpAny_pure ⟨?_, rfl⟩))
    rw [show ({ s3 with heap := s3.heap.push { cls := .type "dict", data := .dict #[] } } : Shared).heap.objs.size = s3.heap.objs.size + 1 from Heap.size_push ..]
  refine thn ne fun cenv s4 ⟨e1, e2⟩ => ?_
  subst e1 e2
  have stY : tn 0 (pushCells (s3.heap.push { cls := .type "dict", data := .dict #[] }) scope.names) := T.keep _ _ _ st3 fun b _ o e => pushCells_keeps _ _ b o (Heap.get?_push_of_some _ e)
  have hHC : s3.heap.objs.size ≠ X.env.locals := Nat.ne_of_gt I3.lt
  have stat : ∀ {H' : Hp}, (∀ b ∈ fp, H' b = none) → ∀ b ∈ fp, FpOk (cxComp X N2 scope cl s3 H3 fp) [] H' b := fun {H'} hn b hb =>
    ⟨hn b hb, (IY.ok.exf b hb).1, IY.ok.exfs b hb, .inl hb, (IY.ok.exf b hb).2, fun p hp => nomatch hp⟩
  have loop : codeAny (model X.prog X.w) X.A (.compLoop (.ListComp elt [⟨tg, iter, [cond], 0⟩] scope pos) 0 (.ref it) (.ref acc) (cxComp X N2 scope cl s3 H3 fp).env) (RR (.ref acc) s3.heap.objs.size)
      { s3 with heap := pushCells (s3.heap.push { cls := .type "dict", data := .dict #[] }) scope.names } := by
    refine compLoopI_any (fun n s' => ∃ i σ' H', Inv (cxComp X N2 scope cl s3 H3 fp) [] σ' H' s' ∧ tn i s'.heap ∧ (∀ b ∈ fp, H' b = none) ∧ W i n σ' H') ?_ m0 ⟨0, _, H3, IY, stY, fun b hb => (f3 b hb).1, w0⟩
    rintro n s5 ⟨i, σ5, H5, I5, st5, fr5, w5⟩
    rcases turn i n σ5 H5 w5 with ⟨stop, qn⟩ | ⟨go, S, N, N0, hSN, hS0, step⟩
    · refine thn (T.done (cxComp X N2 scope cl s3 H3 fp) rfl rfl rfl hc i [] s5 σ5 H5 (fun _ _ => False) I5 (stat fr5) st5 stop) fun r s6 ⟨hr, I6⟩ => ?_
      subst hr
      obtain ⟨m6, ns6, _⟩ := id I6.loc
      have IX : Inv X pins σ H5 s6 := I3.call' (ch := fp) I6.os I6.base I6.hok I6.bare fun b hb => ⟨(f3 b hb).2.2.2.1, (f3 b hb).2.1, (f3 b hb).2.2.2.2.1, (f3 b hb).2.2.2.2.2⟩
      refine hR acc s3.heap.objs.size H5 s6 m6 IX ns6 I6.free hHC I3.sz (fun x c e z => ?_) (fun p hp z => ?_) qn
      · obtain ⟨v, q⟩ := I3.cell x c e
        exact absurd q.lt (by rw [z]; exact Nat.lt_irrefl _)
      · exact absurd (Heap.lt_size (I3.pin p hp).1) (by rw [z]; exact Nat.lt_irrefl _)
    · refine thn (T.item (cxComp X N2 scope cl s3 H3 fp) rfl rfl rfl hc i [] s5 σ5 H5 (fun _ _ => False) I5 (stat fr5) st5 go) fun r s6 ⟨u, hr, h6⟩ => ?_
      subst hr
      refine thn h6 fun _ s7 ⟨x, H7, I7, r7, y7, st7, fr7⟩ => ?_
      have I7' := I7.pinned (stat fr7) (T.obj _ _ st7)
      refine thn (hg cl s3 H3 fp _ s7 σ5 H7 x u _ I7' r7 (step x H7 y7)) fun _ s8 ⟨σ8, H8, I8, hS8, q8⟩ => ?_
      refine thn (ht cl s3 H3 fp _ s8 σ8 H8 _ I8 q8) fun ok s9' ⟨H9', I9', q9'⟩ => ?_
      cases ok with
      | false =>
        obtain ⟨m', hm, w9⟩ := hS0 σ8 H9' hS8 (ite_use_ff q9')
        refine ite_ff ⟨m', hm, i + 1, σ8, _, I9'.unpinned, T.keep _ _ _ st7 fun b hb o e => (I9'.pin (b, o) (List.mem_append_right _ (List.mem_append_right _ (mem_pinsAt hb e)))).1, fun b hb => ?_, w9⟩
        obtain ⟨o, e, d⟩ := T.obj _ _ st7 b hb
        exact (I9'.pin (b, o) (List.mem_append_right _ (List.mem_append_right _ (mem_pinsAt hb e)))).2.1
      | true =>
        refine ite_tt ?_
        refine thn (he cl s3 H3 fp _ s9' σ8 H9' _ I9' (ite_use_tt q9')) fun y s9 ⟨v, H9, I9, r9, q9⟩ => ?_
        obtain ⟨xs, hxs, hxl, m', hm, w9⟩ := hSN σ8 v H9 hS8 q9
        refine thn (mt_append _ s9 σ8 H9 (.ref acc) [v] (.ref acc) [y] (fun z H10 => z = .non ∧ H10 = upd H9 acc (.lst (xs ++ [v]))) I9 rfl (.cons r9 .nil) ⟨acc, xs, v, rfl, rfl, hxs, hxl, rfl, rfl⟩) fun z s10 ⟨zv, H10, I10, r10, ez, eH⟩ => ?_
        subst eH
        refine ⟨m', hm, i + 1, σ8, _, I10.unpinned, T.keep _ _ _ st7 fun b hb o e => (I10.pin (b, o) (List.mem_append_right _ (List.mem_append_right _ (mem_pinsAt hb e)))).1, fun b hb => ?_, w9⟩
        obtain ⟨o, e, d⟩ := T.obj _ _ st7 b hb
        exact (I10.pin (b, o) (List.mem_append_right _ (List.mem_append_right _ (mem_pinsAt hb e)))).2.1
  exact codeAny_compStart_list loop (T.self _ 0 _ _ _ stY loop)
theorem pe_compI {tg iter elt cond : Expr} {scope : Scope} {pos : Pos} (N2 : List Str) (ix : List (Option Nat)) {wi : TI} {g : TG} {tc : TT} {te : TE} (hc : X.calm = true) (hi : PI X tg iter wi)
    (hg : ∀ cl s₂ H₂ fp, PG (cxComp X N2 scope cl s₂ H₂ fp) tg g) (he : ∀ cl s₂ H₂ fp, PE (cxComp X N2 scope cl s₂ H₂ fp) elt te)
    (ht : ∀ cl s₂ H₂ fp, PT (cxComp X N2 scope cl s₂ H₂ fp) cond tc) (hk : scope.kind = .function) (hn : compOk X.N X.env.scope.names scope.names N2 ix = true) (hs : ∀ x, foldedSetIterable iter X.env x = pure x := by intro _; rfl) :
    PE X (.ListComp elt [⟨tg, iter, [cond], 0⟩] scope pos) (tCompI wi ix g tc te) := by
  intro pins s σ H Q I h
  obtain ⟨k1, k2, k3, k4, k5⟩ := compOk_use hn
  obtain ⟨cl, ecl, c1, c2⟩ := closure_ok (scope := scope) (env := X.env) fun y hy e => I.ok.has y.1 (k3 y hy e)
  rw [eval_ListComp]
  refine wpAny_comprehension_free (use := none) rfl hs ecl hk k4 (thn (hi pins s σ H _ I h) fun v s1 h1 => thn h1 fun itv s2 h2 => ?_)
  obtain ⟨it, fp, tn, J, H2, e, I2, T, st2, f2, h2⟩ := h2
  subst e
  refine compI_block (RR := fun acc C => compPost (model X.prog X.w) X.A X.xe none (EP X pins σ Q) acc C) (Q := Q) hc hg he ht hk hn (fun y c m => (c1 y c m).1) c2 I2 T st2 f2 h2 ?_
  intro acc C H' s' m I' ns hHC hL hsz hcells hpins q
  exact ⟨m, ns, fun h' hs' => ⟨.ref acc, H', I'.turned (it := C) (t' := s'.toks) (fun b o hb e => (hs'.2 b hb).trans e) hHC hL (.inr hsz) hcells hpins, rfl, q⟩⟩
end
end L2
namespace L2
open PySem PySem.Spec PyProof.Rows
theorem nodup_le {α : Type} [DecidableEq α] : ∀ {l m : List α}, l.Nodup → (∀ x ∈ l, x ∈ m) → l.length ≤ m.length
  | [], _, _, _ => Nat.zero_le _
  | x :: r, m, h, hs => by
    have hn := List.nodup_cons.mp h
    have hx := hs x List.mem_cons_self
    have := nodup_le (l := r) (m := m.erase x) hn.2 fun y hy => by
      have hne : y ≠ x := fun e => hn.1 (e ▸ hy)
      exact (List.mem_erase_of_ne hne).mpr (hs y (List.mem_cons_of_mem _ hy))
    rw [List.length_erase_of_mem hx] at this
    have hp : 0 < m.length := List.length_pos_of_mem hx
    rw [List.length_cons]
    omega
theorem nmL_at (c : Int) {n i : Nat} (h : i < n) : (nmL c n)[i]? = some (97 + ((c / 26 ^ i) % 26).toNat) := by
  unfold nmL
  rw [List.getElem?_map, List.getElem?_range h]
  rfl
theorem nmL_fig {c c' : Int} {n d : Nat} (h : d < n) (e : nmL c n = nmL c' n) : (c / 26 ^ d) % 26 = (c' / 26 ^ d) % 26 := by
  have h1 := nmL_at c h
  rw [e, nmL_at c' h] at h1
  have h2 := Option.some.inj h1
  have a0 : 0 ≤ (c / 26 ^ d) % 26 := Int.emod_nonneg _ (by decide)
  have b0 : 0 ≤ (c' / 26 ^ d) % 26 := Int.emod_nonneg _ (by decide)
  omega
structure NameOk (x : List Nat) : Prop where
  lo : 1 ≤ x.length
  hi : x.length ≤ 8
  letters : ∀ c ∈ x, 97 ≤ c ∧ c < 123
theorem nmL_ok (c : Int) {n : Nat} (h1 : 1 ≤ n) (h2 : n ≤ 8) : NameOk (nmL c n) := by
  refine ⟨by rw [nmL_length]; exact h1, by rw [nmL_length]; exact h2, fun x hx => ?_⟩
  obtain ⟨i, _, rfl⟩ := List.mem_map.mp hx
  have a0 : 0 ≤ (c / 26 ^ i) % 26 := Int.emod_nonneg _ (by decide)
  have a1 : (c / 26 ^ i) % 26 < 26 := Int.emod_lt_of_pos _ (by decide)
  omega
def txs (nss : List (List Nat)) : List V := nss.map fun x => V.str (tx x)
theorem txs_flat (nss : List (List Nat)) : (txs nss).all flatV = true := by
  unfold txs
  rw [List.all_map, List.all_eq_true]
  exact fun _ _ => rfl
theorem tx_inj {a b : List Nat} (h : tx a = tx b) : a = b := by
  have : a.toArray = b.toArray := by injection h
  simpa using this
theorem inV_txs (x : List Nat) (nss : List (List Nat)) : inV (.str (tx x)) (txs nss) = decide (x ∈ nss) := by
  unfold inV txs
  rw [List.any_map, Bool.eq_iff_iff, List.any_eq_true, decide_eq_true_eq]
  constructor
  · rintro ⟨y, hy, e⟩
    have e2 : eqV (.str (tx y)) (.str (tx x)) = true := e
    have e3 : tx y = tx x := by
      unfold eqV at e2
      simpa using e2
    rw [← tx_inj e3]
    exact hy
  · intro h
    refine ⟨x, h, ?_⟩
    show eqV (.str (tx x)) (.str (tx x)) = true
    unfold eqV
    simp
end L2
namespace L2
open PySem PySem.Spec PyProof.Rows
theorem eqv_str (x : Str) : PyData.eqv (.str x) (.str x) = true := by unfold PyData.eqv; exact beq_self_eq_true x
theorem eqv_int (i : Int) : PyData.eqv (.int i) (.int i) = true := by unfold PyData.eqv; exact beq_self_eq_true i
end L2
namespace L2
open PySem PySem.Spec PyProof.Rows
end L2
namespace L2
open PySem PySem.Spec PyProof.Rows PySem.NumText
section
variable {X : Cx}
end
end L2
namespace L2
open PySem PySem.Spec PyProof.Rows PySem.NumText
section
variable {X : Cx} {tg : Expr}
end
end L2
namespace L2
open PySem PySem.Spec PyProof.Rows PySem.NumText
end L2
namespace L2
open PySem PySem.Spec PyProof.Rows PySem.NumText
end L2
namespace L2
open PySem PySem.Spec PyProof.Rows PySem.NumText Builtin Builtin.Str
section
variable {X : Cx}
end
end L2
namespace L2
open PySem PySem.Spec PyProof.Rows PySem.NumText
end L2
namespace L2
end L2
namespace L2
open PySem PySem.Spec PyProof.Rows
theorem fig_add (c : Int) (j d : Nat) : (c + (j : Int) * 26 ^ d) / 26 ^ d = c / 26 ^ d + (j : Int) := by
  have hp : (26 : Int) ^ d ≠ 0 := Int.ne_of_gt (Int.pow_pos (by decide))
  rw [Int.add_mul_ediv_right _ _ hp]
theorem tries_leD {nss : List (List Nat)} {c : Int} {n d t : Nat} (h2 : d < n) (ht : t ≤ 26) (h : ∀ j : Nat, j < t → nmL (c + (j : Int) * 26 ^ d) n ∈ nss) : t ≤ nss.length := by
  have hn : ((List.range t).map fun j => nmL (c + ((j : Nat) : Int) * 26 ^ d) n).Nodup := by
    have : (List.range t).Pairwise (fun a b => a < b) := List.pairwise_lt_range
    refine List.Pairwise.map _ ?_ (List.Pairwise.and_mem.mp this)
    rintro a b ⟨ha, hb, hab⟩ e
    have ha' := List.mem_range.mp ha
    have hb' := List.mem_range.mp hb
    have := nmL_fig h2 e
    rw [fig_add, fig_add] at this
    omega
  have := nodup_le hn fun x hx => by
    obtain ⟨j, hj, rfl⟩ := List.mem_map.mp hx
    exact h j (List.mem_range.mp hj)
  rw [List.length_map, List.length_range] at this
  exact this
structure spNames (K : PySem.W.Frag) (vs : List V) (H : Hp) (Q : VK) (E : XK) : Prop where
  ex : ∃ (a : Addr) (ms : List Int) (k : Int) (many : Nat), vs = [.ref a, .int k, .int (many : Int)] ∧ SqL K H a (ms.map V.int) ∧ ms.length ≤ 63 ∧ 0 ≤ k ∧ many ≤ 25 ∧
    ∀ (z : Addr) (nss : List (List Nat)) (H' : Hp), Same H H' → H' z = some (.lst (txs nss)) → H z = none → nss.length = many → nss.Nodup → (∀ x ∈ nss, NameOk x) → Q (.ref z) H'
theorem use_names {K : PySem.W.Frag} {H : Hp} {Q : VK} {E : XK} {a : Addr} {ms : List Int} {k mi : Int} {many : Nat} (hmi : mi = (many : Int)) (hS : SqL K H a (ms.map V.int)) (h63 : ms.length ≤ 63) (h1 : 0 ≤ k) (h2 : many ≤ 25)
    (h : ∀ (z : Addr) (nss : List (List Nat)) (H' : Hp), Same H H' → H' z = some (.lst (txs nss)) → H z = none → nss.length = many → nss.Nodup → (∀ x ∈ nss, NameOk x) → Q (.ref z) H') : spNames K [.ref a, .int k, .int mi] H Q E := by
  subst hmi
  exact ⟨a, ms, k, many, rfl, hS, h63, h1, h2, h⟩
end L2
namespace L2
open PySem PySem.Spec PyProof.Rows
theorem kv_get {a : List (Key × V)} {b : List (Key × Value)} (r : KV a b) : ∀ {j : Nat} {p : Key × V}, a[j]? = some p → ∃ q, b[j]? = some q ∧ p.1 = q.1 ∧ RelV p.2 q.2 := by
  induction r with
  | nil => intro j p z; simp at z
  | cons r1 _ ih =>
    intro j p z
    cases j with
    | zero => simp at z; subst z; exact ⟨_, rfl, r1⟩
    | succ j => simp at z; obtain ⟨q, a1, a2⟩ := ih z; exact ⟨q, by simpa using a1, a2⟩
abbrev Frz (H : Hp) (d : Addr) (o : Obj) (kvs : List (Key × V)) : Prop := H d = some (.frz o (.dK kvs))
section
variable {X : Cx} {pins : List (Addr × Obj)} {σ σ' : St} {H H' : Hp} {s s' : Shared} {d : Addr} {kvs : List (Key × V)} {o : Obj}
theorem Inv.freeze (I : Inv X pins σ H s) (e : H d = some (.dK kvs)) (ho : s.heap.get? d = some o) : Inv X pins σ (upd H d (.frz o (.dK kvs))) s := by
  have nd : ∀ {b : Addr}, H b = none → b ≠ d := fun h z => by rw [z, e] at h; cases h
  have dn : ∀ {b : Addr}, H b = none → upd H d (.frz o (.dK kvs)) b = none := fun h => by rw [upd_ne (nd h)]; exact h
  have un : ∀ {b : Addr} {u : HO}, H b = some u → (∀ k, u ≠ .dK k) → b ≠ d := fun h k z => by rw [z, e] at h; cases h; exact k _ rfl
  refine ⟨I.ok, I.os, I.bare, ⟨I.base.keep, I.base.slot, fun b ob q n x => dn (I.base.free b ob q n x), I.base.there, fun b xs q => ?_, fun b ob u q => ?_, fun b ps q => ?_⟩, I.loc, I.cell, dn I.free, fun x c q => dn (I.freeC x c q), fun p hp => ?_, fun b ob q => ?_, I.len⟩
  · have := I.base.tups b xs q
    rw [upd_ne (un this fun k z => by cases z)]; exact this
  · have := I.base.frzs b ob u q
    rw [upd_ne (un this fun k z => by cases z)]; exact this
  · obtain ⟨more, this⟩ := I.base.tbls b ps q
    exact ⟨more, by rw [upd_ne (un this fun k z => by cases z)]; exact this⟩
  · obtain ⟨h1, h2, h3⟩ := I.pin p hp
    exact ⟨h1, dn h2, h3⟩
  · by_cases hb : b = d
    · subst hb
      rw [upd_same] at q; cases q
      have := I.hok b _ e
      exact ⟨ho, this⟩
    · rw [upd_ne hb] at q
      refine (I.hok b ob q).stay (fun c u _ z => z) (fun c z => ?_) fun c xs z => ?_
      · rw [upd_ne (un z fun k z => by cases z)]; exact z
      · rw [upd_ne (un z fun k z => by cases z)]; exact z
theorem Inv.thaw (I : Inv X pins σ H s) (e : Frz H d o kvs) (h0 : ∀ o u, X.H₀ d ≠ some (.frz o u)) : Inv X pins σ (upd H d (.dK kvs)) s := by
  have nd : ∀ {b : Addr}, H b = none → b ≠ d := fun h z => by rw [z] at h; exact absurd (h.symm.trans e) (by simp)
  have dn : ∀ {b : Addr}, H b = none → upd H d (.dK kvs) b = none := fun h => by rw [upd_ne (nd h)]; exact h
  have un : ∀ {b : Addr} {u : HO}, H b = some u → (∀ o k, u ≠ .frz o k) → b ≠ d := fun h k z => by rw [z] at h; have := h.symm.trans e; cases this; exact k _ _ rfl
  refine ⟨I.ok, I.os, I.bare, ⟨I.base.keep, I.base.slot, fun b ob q n x => dn (I.base.free b ob q n x), I.base.there, fun b xs q => ?_, fun b ob u q => ?_, fun b ps q => ?_⟩, I.loc, I.cell, dn I.free, fun x c q => dn (I.freeC x c q), fun p hp => ?_, fun b ob q => ?_, I.len⟩
  · have := I.base.tups b xs q
    rw [upd_ne (un this fun _ k z => by cases z)]; exact this
  · have := I.base.frzs b ob u q
    rw [upd_ne (fun (z : b = d) => h0 ob u (by rw [← z]; exact q))]; exact this
  · obtain ⟨more, this⟩ := I.base.tbls b ps q
    exact ⟨more, by rw [upd_ne (un this fun _ k z => by cases z)]; exact this⟩
  · obtain ⟨h1, h2, h3⟩ := I.pin p hp
    exact ⟨h1, dn h2, h3⟩
  · by_cases hb : b = d
    · subst hb
      rw [upd_same] at q; cases q
      exact (I.hok b _ e).2
    · rw [upd_ne hb] at q
      refine (I.hok b ob q).stay (fun c u _ z => z) (fun c z => ?_) fun c xs z => ?_
      · rw [upd_ne (un z fun _ k z => by cases z)]; exact z
      · rw [upd_ne (un z fun _ k z => by cases z)]; exact z
theorem Inv.notFrz (I : Inv X pins σ H s) (e : H d = some (.dK kvs)) : ∀ o u, X.H₀ d ≠ some (.frz o u) := fun o u z => by
  have := I.base.frzs d o u z
  rw [e] at this; cases this
theorem Inv.frzAt (I : Inv X pins σ H s) (e : Frz H d o kvs) : s.heap.get? d = some o ∧ kvs.length ≤ sizeLine ∧ (d == sysModules) = false ∧ ∃ vs ep, KV kvs vs ∧ s.heap.DictAt (mixKind X.prog X.w) d vs ep := by
  obtain ⟨ho, hz, hs, vs, r, dd⟩ := (show ObjOk X.prog X.w H s.heap d (.frz o (.dK kvs)) from I.hok d _ e)
  obtain ⟨ep, da⟩ := dd.dictAt
  exact ⟨ho, hz, hs, vs, ep, r, da⟩
end
def Ends.thaw (D : Ends) (d : Addr) (o : Obj) (kvs : List (Key × V)) : Ends where
  nx := fun σ H => Frz H d o kvs ∧ D.nx σ (upd H d (.dK kvs))
  rt := fun v H => Frz H d o kvs ∧ D.rt v (upd H d (.dK kvs))
  bk := fun σ H => Frz H d o kvs ∧ D.bk σ (upd H d (.dK kvs))
  ct := fun σ H => Frz H d o kvs ∧ D.ct σ (upd H d (.dK kvs))
def tFrz (t : TS) : TS := fun D σ H => ∃ d kvs, H d = some (.dK kvs) ∧ ∀ o, t (D.thaw d o kvs) σ (upd H d (.frz o (.dK kvs)))
theorem ps_frz {X : Cx} {st : Stmt} {t : TS} (h : PS X st t) : PS X st (tFrz t) := by
  intro pins s σ H D I hw
  obtain ⟨d, kvs, e, hw⟩ := hw
  obtain ⟨ho, es, ep, h1, _⟩ := (dk_of I.hok e).2.2.choose_spec.2
  have h0 := I.notFrz e
  refine thn (h pins s σ _ _ (I.freeze e h1) (hw ho)) fun f s' q => ?_
  cases f with
  | next => obtain ⟨σ', H', I', q1, q2⟩ := q; exact ⟨σ', _, I'.thaw q1 h0, q2⟩
  | brk => obtain ⟨σ', H', I', q1, q2⟩ := q; exact ⟨σ', _, I'.thaw q1 h0, q2⟩
  | cont => obtain ⟨σ', H', I', q1, q2⟩ := q; exact ⟨σ', _, I'.thaw q1 h0, q2⟩
  | ret u => obtain ⟨v, σ', H', I', r, q1, q2⟩ := q; exact ⟨v, σ', _, I'.thaw q1 h0, r, q2⟩
def eFrz (t : TE) : TE := fun σ H Q => ∃ d kvs, H d = some (.dK kvs) ∧ ∀ o, t σ (upd H d (.frz o (.dK kvs))) fun v H' => Frz H' d o kvs ∧ Q v (upd H' d (.dK kvs))
theorem pe_frz {X : Cx} {e : Expr} {t : TE} (h : PE X e t) : PE X e (eFrz t) := by
  intro pins s σ H Q I hw
  obtain ⟨d, kvs, e, hw⟩ := hw
  obtain ⟨ho, es, ep, h1, _⟩ := (dk_of I.hok e).2.2.choose_spec.2
  have h0 := I.notFrz e
  exact thn (h pins s σ _ _ (I.freeze e h1) (hw ho)) fun u s' ⟨v, H', I', r, q1, q2⟩ => ⟨v, _, I'.thaw q1 h0, r, q2⟩
def Itv (d : Addr) (o : Obj) (kvs : List (Key × V)) : It := ⟨fun i H => Frz H d o kvs ∧ i < kvs.length, fun i H x H' => H' = H ∧ ∃ p, kvs[i]? = some p ∧ x = p.2, fun i H => Frz H d o kvs ∧ kvs.length ≤ i⟩
def Iti (d : Addr) (o : Obj) (kvs : List (Key × V)) : It := ⟨fun i H => Frz H d o kvs ∧ i < kvs.length, fun i H x H' => ∃ a p, H a = none ∧ kvs[i]? = some p ∧ x = .ref a ∧ H' = upd H a (.tup [kV p.1, p.2]), fun i H => Frz H d o kvs ∧ kvs.length ≤ i⟩
theorem ep_of {h : Heap} {P : Program} {w : World} {d : Addr} {vs : List (Key × Value)} {e1 e2 : Nat} {o : Obj} {es : Array DictEntry} (da : h.DictAt (mixKind P w) d vs e1) (ho : h.get? d = some o) (hd : o.data = .dict es e2) : e1 = e2 := by
  obtain ⟨o', es', h1, _, h2, _⟩ := da
  rw [ho] at h1; cases h1
  rw [hd] at h2; cases h2; rfl
theorem kV_rel {P : Program} {w : World} {k : Key} {v : Value} (h : (mixKind P w).is k v = true) : RelV (kV k) v := by
  rw [mixKind_is] at h
  rcases keyIs_shape h with ⟨i, t, rfl, rfl⟩ | ⟨x, t, rfl, rfl⟩
  · exact ⟨t, rfl⟩
  · exact ⟨t, rfl⟩
theorem turn_vals {P : Program} {w : World} {K : PySem.W.Frag} {tg : Expr} {d it : Addr} {o : Obj} {kvs : List (Key × V)} {es : Array DictEntry} {ep : Nat} (hd : o.data = .dict es ep) :
    Turn P w K tg (Itv d o kvs) [it] it (fun i h => h.IsValIter it d i kvs.length ep) where
  mem := by simp
  obj := fun i h st b hb => by
    have e : b = it := by simpa using hb
    subst e
    obtain ⟨o, e, c, d⟩ := st
    exact ⟨o, e, fun v z => by rw [d] at z; cases z⟩
  keep := fun i h h' st k => st.at fun o e => k it (by simp) o e
  item := by
    intro X hP hw hK hc i pins s σ H E I hf st hg
    subst hP hw hK
    obtain ⟨hz, hlt⟩ := hg
    obtain ⟨ho, _, _, vs, ep', r, da⟩ := I.frzAt hz
    cases ep_of da ho hd
    have hl : kvs.length = vs.length := r.length
    obtain ⟨q, hq, _, rq⟩ := kv_get r (List.getElem?_eq_getElem hlt)
    obtain ⟨qk, qv⟩ := q
    rw [hl] at st
    obtain ⟨f0, f1, f2, f3, f4, f5⟩ := hf it (by simp)
    refine wpAny_pyNext_values_item st da hq fun h' st' sb => ?_
    have I1 : Inv X pins σ H { s with heap := h' } := I.turned (t' := s.toks) (fun b o hb e => (sb.2 b hb).trans e) f0 f1 f3 f4 f5
    obtain ⟨oi, e, c, dd⟩ := id st'
    exact ⟨_, rfl, go_of (s := { s with heap := h' }) e c dd (by decide) ⟨kvs[i].2, H, I1, rq, ⟨rfl, kvs[i], List.getElem?_eq_getElem hlt, rfl⟩, by rw [hl]; exact st', fun b hb => (hf b hb).1⟩⟩
  done := by
    intro X hP hw hK hc i pins s σ H E I hf st hg
    subst hP hw hK
    obtain ⟨hz, hle⟩ := hg
    obtain ⟨ho, _, _, vs, ep', r, da⟩ := I.frzAt hz
    cases ep_of da ho hd
    have hl : kvs.length = vs.length := r.length
    rw [hl] at st
    obtain ⟨f0, f1, f2, f3, f4, f5⟩ := hf it (by simp)
    exact wpAny_pyNext_values_end (I.ok.hd hc) st da (by rw [List.getElem?_eq_none]; omega) fun h' eb => ⟨rfl, I.turned (t' := s.toks) (fun b o hb e => eb b o hb e) f0 f1 f3 f4 f5⟩
  self := fun _ _ _ _ _ st h => wpAny_pyIter_valiter st h
theorem turn_items {P : Program} {w : World} {K : PySem.W.Frag} {elts : List Expr} {kk : Nat} {pos : Pos} {d it : Addr} {o : Obj} {kvs : List (Key × V)} {es : Array DictEntry} {ep : Nat} (hd : o.data = .dict es ep) :
    Turn P w K (.Tuple elts kk pos) (Iti d o kvs) [it] it (fun i h => ∃ ok ov, IsItemIter h it d i kvs.length ep ok ov) where
  mem := by simp
  obj := fun i h st b hb => by
    have e : b = it := by simpa using hb
    subst e
    obtain ⟨ok, ov, e⟩ := st
    exact ⟨_, e, fun v z => by cases z⟩
  keep := fun i h h' ⟨ok, ov, st⟩ k => ⟨ok, ov, k it (by simp) _ st⟩
  item := by
    intro X hP hw hK hc i pins s σ H E I hf st hg
    subst hP hw hK
    obtain ⟨hz, hlt⟩ := hg
    obtain ⟨ok, ov, st⟩ := st
    obtain ⟨ho, _, _, vs, ep', r, da⟩ := I.frzAt hz
    cases ep_of da ho hd
    have hl : kvs.length = vs.length := r.length
    obtain ⟨q, hq, ek, rq⟩ := kv_get r (List.getElem?_eq_getElem hlt)
    obtain ⟨qk, qv⟩ := q
    rw [hl] at st
    obtain ⟨f0, f1, f2, f3, f4, f5⟩ := hf it (by simp)
    refine wpAny_pyNext_items_item st da hq fun key h1 hk st1 ht hsz hkeep => ?_
    refine ⟨_, rfl, wpAny_letOwnedTupleGo_items (s := { s with heap := h1 }) st1 fun h2 st2 sb => ?_⟩
    have rk : RelV (kV kvs[i].1) key := by rw [ek]; exact kV_rel hk
    have hil : it ≠ s.heap.objs.size := Nat.ne_of_lt (Heap.lt_size st)
    have kk2 : ∀ b o, b ≠ it → s.heap.get? b = some o → h2.get? b = some o := fun b o hb e => sb.extBut b o hb (hkeep b o hb e)
    have I1 : Inv X pins σ (upd H s.heap.objs.size (.tup [kV kvs[i].1, kvs[i].2])) { s with heap := h2 } := by
      have J : Inv X pins σ H { s with heap := h2 } := I.turned (t' := s.toks) kk2 f0 f1 f3 f4 f5
      have hn := I.fresh
      have J2 : Inv X pins σ (upd H s.heap.objs.size (.tup [kV kvs[i].1, kvs[i].2])) { s with heap := h2, gens := s.gens, drawn := s.drawn, toks := s.toks } := by
        refine I.step (ch := [it]) (fun b hb => ⟨(hf b hb).2.2.2.1, (hf b hb).2.1, (hf b hb).2.2.2.2.1, (hf b hb).2.2.2.2.2⟩) (fun b o _ _ hc' e _ => kk2 b o (by simpa using hc') e) (fun b o _ _ hc' e _ => ⟨o.slots, kk2 b o (by simpa using hc') e⟩) (fun b o _ e n => by rw [upd_ne (Nat.ne_of_lt (Heap.lt_size e))]; exact n) (fun b o hc' e => ⟨o, kk2 b o (by simpa using hc') e⟩)
          (fun b zs q => by rw [upd_ne (ne_of_none q hn)]; exact q) (fun b o zs q => by rw [upd_ne (ne_of_none q hn)]; exact q) (fun b ps q => ⟨#[], by rw [upd_ne (ne_of_none q hn), q]; simp⟩) (fun m hm => ?_) (fun b ob e => ?_) I.bare
        · obtain ⟨o, es, ep, ho, r⟩ := hm
          exact ⟨o, es, ep, kk2 _ o (fun q => f1 q.symm) ho, r⟩
        · by_cases hb : b = s.heap.objs.size
          · subst hb
            rw [upd_same] at e; cases e
            exact ⟨by show 2 ≤ sizeLine; decide, [key, qv], .cons rk (.cons rq .nil), _, sb.extBut _ _ hil.symm ht, rfl, 0, rfl⟩
          · rw [upd_ne hb] at e
            refine (I.hok b ob e).stay (fun c v hcv q => ?_) (fun c q => by rw [upd_ne (ne_of_none q hn)]; exact q) fun c zs q => by rw [upd_ne (ne_of_none q hn)]; exact q
            refine kk2 c v (fun z => ?_) q
            rcases hcv with r | r
            · rw [r] at z; rw [z, f0] at e; cases e
            · rw [z, f0] at r; cases r
      exact J2
    refine ⟨.ref s.heap.objs.size, _, I1, rfl, ⟨_, kvs[i], I.fresh, List.getElem?_eq_getElem hlt, rfl, rfl⟩, ⟨key, qv, by rw [hl]; exact st2⟩, fun b hb => ?_⟩
    have eb : b = it := by simpa using hb
    subst eb
    rw [upd_ne hil]
    exact f0
  done := by
    intro X hP hw hK hc i pins s σ H E I hf st hg
    subst hP hw hK
    obtain ⟨hz, hle⟩ := hg
    obtain ⟨ok, ov, st⟩ := st
    obtain ⟨ho, _, _, vs, ep', r, da⟩ := I.frzAt hz
    cases ep_of da ho hd
    have hl : kvs.length = vs.length := r.length
    rw [hl] at st
    obtain ⟨f0, f1, f2, f3, f4, f5⟩ := hf it (by simp)
    exact wpAny_pyNext_items_end (I.ok.hd hc) st da (by rw [List.getElem?_eq_none]; omega) fun h' eb => ⟨rfl, I.turned (t' := s.toks) (fun b o hb e => eb b o hb e) f0 f1 f3 f4 f5⟩
  self := fun A i s Q E ⟨ok, ov, st⟩ h => PySem.W.kcp_self st h
section
variable {X : Cx} {tg : Expr}
def iVals (td : TE) : TI := fun σ H R => td σ H fun x H1 => ∃ d o kvs, x = .ref d ∧ Frz H1 d o kvs ∧ R (Itv d o kvs) H1
def iItems (td : TE) : TI := fun σ H R => td σ H fun x H1 => ∃ d o kvs, x = .ref d ∧ Frz H1 d o kvs ∧ R (Iti d o kvs) H1
theorem pi_vals {ob : Expr} {td : TE} {apos cpos : Pos} (hob : PE X ob td) (hbase : attributeBase ob "values" X.env (eval ob X.env) = eval ob X.env := by rfl) (hline : (apos.endLine == cpos.line) = true := by rfl) :
    PI X tg (.Call (.Attribute ob "values" apos) [] [] cpos) (iVals td) := by
  intro pins s σ H R I h
  refine wpAny_Call_method0_late hbase hline (thn (hob pins s σ H _ I h) fun v s1 ⟨x, H1, I1, r1, q1⟩ => ?_)
  obtain ⟨d, o, kvs, rfl, e, fin⟩ := q1
  cases r1
  obtain ⟨ho, hz, hsys, vs, ep, rel, da⟩ := I1.frzAt e
  obtain ⟨t1, t2, _⟩ := isD_at I1 (.inl ⟨kvs, .inr ⟨o, e⟩⟩)
  have dd := da.dictOf
  refine ⟨"dict", _, F.plainAttrs_dict, F.slot_dict_values, F.type_dict_values, t1, t2, Calls.callWith_builtin rfl (PySem.evalArgs_none ?_)⟩
  refine call_meetsIn F.slot_dict_values dd.typeIs F.entry_dict_values (F.args_dict_values_1 _) (meets_dict_values (mixKind X.prog X.w) d hsys) ⟨⟨vs, dd⟩, ?_⟩
  refine wpAny_pyIter_values (s := { s1 with heap := s1.heap.push { cls := .type "dict_values", data := .fields #[.ref d] } }) ⟨_, Heap.get?_push_size _ rfl, rfl, rfl⟩ (da.push _) ?_
  have Iv : Inv X pins σ H1 { s1 with heap := s1.heap.push { cls := .type "dict_values", data := .fields #[.ref d] } } := I1.kept (t' := s1.toks) fun b o e => Heap.get?_push_of_some _ e
  generalize ({ s1 with heap := s1.heap.push { cls := .type "dict_values", data := .fields #[.ref d] } } : Shared) = sv at *
  have I2 : Inv X pins σ H1 { sv with heap := sv.heap.push { cls := .type "dict_valueiterator", data := .fields #[.ref d, .int 0 0, .int vs.length 0, .int ep 0] } } := Iv.kept (t' := sv.toks) fun b o e => Heap.get?_push_of_some _ e
  have hl : kvs.length = vs.length := rel.length
  obtain ⟨o', es, h1, _, h2, _⟩ := id da
  rw [ho] at h1; cases h1
  refine ⟨sv.heap.objs.size, [sv.heap.objs.size], _, _, H1, rfl, I2, turn_vals h2, ?_, fun b hb => ?_, fin⟩
  · rw [hl]; exact ⟨_, Heap.get?_push_size _ rfl, rfl, rfl⟩
  · have eb : b = sv.heap.objs.size := by simpa using hb
    subst eb
    exact Iv.fpOk (Nat.le_refl _) (Iv.hok.fresh (Nat.le_refl _))
theorem pi_items {elts : List Expr} {kk : Nat} {tpos : Pos} {ob : Expr} {td : TE} {apos cpos : Pos} (hob : PE X ob td) (hbase : attributeBase ob "items" X.env (eval ob X.env) = eval ob X.env := by rfl) (hline : (apos.endLine == cpos.line) = true := by rfl) :
    PI X (.Tuple elts kk tpos) (.Call (.Attribute ob "items" apos) [] [] cpos) (iItems td) := by
  intro pins s σ H R I h
  refine wpAny_Call_method0_late hbase hline (thn (hob pins s σ H _ I h) fun v s1 ⟨x, H1, I1, r1, q1⟩ => ?_)
  obtain ⟨d, o, kvs, rfl, e, fin⟩ := q1
  cases r1
  obtain ⟨ho, hz, hsys, vs, ep, rel, da⟩ := I1.frzAt e
  obtain ⟨t1, t2, _⟩ := isD_at I1 (.inl ⟨kvs, .inr ⟨o, e⟩⟩)
  have dd := da.dictOf
  refine ⟨"dict", _, F.plainAttrs_dict, F.slot_dict_items, F.type_dict_items, t1, t2, Calls.callWith_builtin rfl (PySem.evalArgs_none ?_)⟩
  refine call_meetsIn F.slot_dict_items dd.typeIs F.entry_dict_items (F.args_dict_items_1 _) (meets_dict_items (mixKind X.prog X.w) d hsys) ⟨⟨vs, dd⟩, ?_⟩
  refine wpAny_pyIter_items (s := { s1 with heap := s1.heap.push { cls := .type "dict_items", data := .fields #[.ref d] } }) ⟨_, Heap.get?_push_size _ rfl, rfl, rfl⟩ (da.push _) ?_
  have Iv : Inv X pins σ H1 { s1 with heap := s1.heap.push { cls := .type "dict_items", data := .fields #[.ref d] } } := I1.kept (t' := s1.toks) fun b o e => Heap.get?_push_of_some _ e
  generalize ({ s1 with heap := s1.heap.push { cls := .type "dict_items", data := .fields #[.ref d] } } : Shared) = sv at *
  have I2 : Inv X pins σ H1 { sv with heap := sv.heap.push { cls := .type "dict_itemiterator", data := .fields #[.none, .bool false, .ref d, .int 0 0, .int vs.length 0, .int ep 0, .none, .none] } } := Iv.kept (t' := sv.toks) fun b o e => Heap.get?_push_of_some _ e
  have hl : kvs.length = vs.length := rel.length
  obtain ⟨o', es, h1, _, h2, _⟩ := id da
  rw [ho] at h1; cases h1
  refine ⟨sv.heap.objs.size, [sv.heap.objs.size], _, _, H1, rfl, I2, turn_items h2, ?_, fun b hb => ?_, fin⟩
  · rw [hl]; exact ⟨_, _, Heap.get?_push_size _ rfl⟩
  · have eb : b = sv.heap.objs.size := by simpa using hb
    subst eb
    exact Iv.fpOk (Nat.le_refl _) (Iv.hok.fresh (Nat.le_refl _))
end
theorem for_walk {J : It} {n : Nat} {g : TG} {tb : TS} {D : Ends} {σ : St} {H : Hp} (Pv : Nat → St → Hp → Prop) (h0 : Pv 0 σ H) (hgo : ∀ i σ H, i < n → Pv i σ H → J.go i H) (hst : ∀ σ H, Pv n σ H → J.stop n H)
    (hs : ∀ i x σ H H', i < n → Pv i σ H → J.yld i H x H' → g x σ H' fun σ2 H2 => tb { D with nx := Pv (i + 1), ct := Pv (i + 1), bk := D.nx } σ2 H2) (hd : ∀ σ H, Pv n σ H → D.nx σ H) :
    ∃ W : Nat → Nat → St → Hp → Prop, (∃ m, W 0 m σ H) ∧ ∀ i m σ H, W i m σ H →
      (J.stop i H ∧ D.nx σ H) ∨ (J.go i H ∧ ∃ N : St → Hp → Prop, (∀ σ' H', N σ' H' → ∃ m', m' < m ∧ W (i + 1) m' σ' H') ∧ ∀ x H', J.yld i H x H' → g x σ H' fun σ2 H2 => tb { D with nx := N, ct := N, bk := D.nx } σ2 H2) := by
  refine ⟨fun i m σ H => m = n - i ∧ i ≤ n ∧ Pv i σ H, ⟨n, by simp, Nat.zero_le _, h0⟩, ?_⟩
  rintro i m σ H ⟨rfl, hi, p⟩
  by_cases hlt : i < n
  · exact .inr ⟨hgo i σ H hlt p, Pv (i + 1), fun σ' H' p' => ⟨n - (i + 1), by omega, rfl, hlt, p'⟩, fun x H' y => hs i x σ H H' hlt p y⟩
  · have e : i = n := by omega
    subst e
    exact .inl ⟨hst σ H p, hd σ H p⟩
end L2
namespace L2
open PySem PySem.Spec PyProof.Rows
section
variable {prog : Program} {w : World} {K : Type} [DecidableEq K] {knd : KeyKind prog w K} {A : Around} {E : Value → Shared → Prop} {s : Shared}
theorem nx_key_item {it d : Addr} {i ep : Nat} {kvs : List (K × Value)} {k : K} {v : Value} {Q : Value → Shared → Prop} (hit : s.heap.IsKeyIter it d i kvs.length ep)
    (hm : s.heap.DictAt knd d kvs ep) (hx : kvs[i]? = some (k, v)) (hQ : ∀ key h', knd.is k key = true → h'.IsKeyIter it d (i + 1) kvs.length ep → Heap.SameBut it s.heap h' → Q key { s with heap := h' }) :
    wpAny (model prog w) A (Builtin.SmallTypes.nextOf (.ref it)) Q E s := by
  obtain ⟨o, ho, hc, hd⟩ := id hit; obtain ⟨od, es, hod, hcd, hdd, hk, hp, hn⟩ := id hm
  unfold Builtin.SmallTypes.nextOf
  refine wpAny_bind (wpAny_callSpecial?_slot (name := Str.ofString "__next__") hit.typeIs F.slot_dict_keyiterator_next (wpAny_call_entry F.slot_dict_keyiterator_next hit.typeIs F.entry_dict_keyiterator_next ?_ (F.args_dict_keyiterator_next_1 _)))
  refine wpAny_bind (wpAny_pure ?_); refine wpAny_bind (wpAny_bind ?_)
  first | (refine wpAny_bind (wpAny_typeNameOfWhole_keyiter hit.typeIs (wpAny_pure ?_)); refine wpAny_bind (wpAny_fieldsOf ho hd ?_)) | (refine wpAny_bind (wpAny_typeNameOf_keyiter hit.typeIs (wpAny_pure ?_)); refine wpAny_bind (wpAny_fieldsOf ho hd ?_))
  have own : Builtin.Dict_items.ownsTuple "dict_keyiterator" = false := by decide
  simp only [own, Bool.false_eq_true, if_false]
  show wpAny _ _ (if (Value.ref d == Value.none) = true then _ else _) _ _ _
  rw [if_neg (fun z => Bool.false_ne_true z : ¬ ((Value.ref d == Value.none) = true))]; refine wpAny_bind (wpAny_pure ?_)
  have sz : es.size = kvs.length := by have := hp.length; simpa using this
  refine wpAny_bind (wpAny_dictEntries hod hdd ?_); rw [if_neg (by rw [sz]; simp)]
  refine wpAny_bind (wpAny_pure ?_); refine wpAny_bind (wpAny_dictEpoch hod hdd ?_)
  rw [if_neg (by simp)]; refine wpAny_pure ?_
  have lt : i < kvs.length := (List.getElem?_eq_some_iff.mp hx).1
  have lt' : i < es.size := by omega
  have kv := hp.get? (e := es[i]) (by simp [lt']) hx
  simp only [show ¬ ((i : Int) < 0) from by omega, if_false, Int.toNat_natCast, Array.getElem?_eq_getElem lt']; refine wpAny_bind ?_
  first | (refine wpAny_bind (wpAny_typeNameOfWhole_keyiter hit.typeIs (wpAny_pure ?_)); refine wpAny_bind (wpAny_isOneOf_keyiter hit.typeIs ?_)) | (refine wpAny_bind (wpAny_typeNameOf_keyiter hit.typeIs (wpAny_pure ?_)); refine wpAny_bind (wpAny_isOneOf_keyiter hit.typeIs ?_))
  show wpAny _ _ (setField (.ref it) 1 (rawInt ((i : Int) + 1)) >>= _) _ _ _
  refine wpAny_bind (wpAny_setField ho hd (by simp) ?_)
  have hit' : (s.heap.update it (Obj.mapFields (·.setIfInBounds 1 (rawInt ((i : Int) + 1))))).IsKeyIter it d (i + 1) kvs.length ep := ⟨_, Heap.get?_update_self _ ho (Obj.isFreed_of_fields (Obj.data_mapFields hd _)), (Obj.cls_mapFields ..).trans hc, by rw [Obj.data_mapFields hd]; simp [rawInt]⟩
  refine wpAny_bind (wpAny_holding (wpAny_bind (wpAny_isOneOf_keyiter (s := { s with heap := s.heap.update it (Obj.mapFields (·.setIfInBounds 1 (rawInt ((i : Int) + 1)))) }) hit'.typeIs ?_)))
  exact wpAny_pure (wpAny_pure ⟨_, rfl, wpAny_pure (hQ _ _ kv.1 hit' (Heap.SameBut.update ..))⟩)
theorem nx_key_end {it d : Addr} {i ep : Nat} {kvs : List (K × Value)} {Q : Value → Shared → Prop} (hh : A.handled = none) (hit : s.heap.IsKeyIter it d i kvs.length ep)
    (hm : s.heap.DictAt knd d kvs ep) (hx : kvs[i]? = none) (hE : ∀ h' e, Heap.ExtBut it s.heap h' → (∃ o, h'.get? e = some o ∧ o.cls = .type "StopIteration") → E (.ref e) { s with heap := h' }) :
    wpAny (model prog w) A (Builtin.SmallTypes.nextOf (.ref it)) Q E s := by
  obtain ⟨o, ho, hc, hd⟩ := id hit; obtain ⟨od, es, hod, hcd, hdd, hk, hp, hn⟩ := id hm
  unfold Builtin.SmallTypes.nextOf
  refine wpAny_bind (wpAny_callSpecial?_slot (name := Str.ofString "__next__") hit.typeIs F.slot_dict_keyiterator_next (wpAny_call_entry F.slot_dict_keyiterator_next hit.typeIs F.entry_dict_keyiterator_next ?_ (F.args_dict_keyiterator_next_1 _)))
  refine wpAny_bind (wpAny_pure ?_); refine wpAny_bind (wpAny_bind ?_)
  first | (refine wpAny_bind (wpAny_typeNameOfWhole_keyiter hit.typeIs (wpAny_pure ?_)); refine wpAny_bind (wpAny_fieldsOf ho hd ?_)) | (refine wpAny_bind (wpAny_typeNameOf_keyiter hit.typeIs (wpAny_pure ?_)); refine wpAny_bind (wpAny_fieldsOf ho hd ?_))
  have own : Builtin.Dict_items.ownsTuple "dict_keyiterator" = false := by decide
  simp only [own, Bool.false_eq_true, if_false]
  show wpAny _ _ (if (Value.ref d == Value.none) = true then _ else _) _ _ _
  rw [if_neg (fun z => Bool.false_ne_true z : ¬ ((Value.ref d == Value.none) = true))]; refine wpAny_bind (wpAny_pure ?_)
  have sz : es.size = kvs.length := by have := hp.length; simpa using this
  refine wpAny_bind (wpAny_dictEntries hod hdd ?_); rw [if_neg (by rw [sz]; simp)]
  refine wpAny_bind (wpAny_pure ?_); refine wpAny_bind (wpAny_dictEpoch hod hdd ?_)
  rw [if_neg (by simp)]; refine wpAny_pure ?_
  have ge : es.size ≤ i := by rw [sz]; simpa using hx
  simp only [show ¬ ((i : Int) < 0) from by omega, if_false, Int.toNat_natCast, Array.getElem?_eq_none ge]; refine wpAny_bind ?_
  first | (refine wpAny_bind (wpAny_typeNameOfWhole_keyiter hit.typeIs (wpAny_pure ?_)); show wpAny _ _ (setField (.ref it) 0 .none >>= _) _ _ _) | (refine wpAny_bind (wpAny_typeNameOf_keyiter hit.typeIs (wpAny_pure ?_)); show wpAny _ _ (setField (.ref it) 0 .none >>= _) _ _ _)
  refine wpAny_bind (wpAny_setField ho hd (by simp) ?_); show wpAny _ _ (newExc (.type "StopIteration") [] >>= _) _ _ _
  refine wpAny_bind ?_; simp only [newExc, newTuple]
  refine wpAny_bind (wpAny_newObj_type ?_ (by size_fits)); refine wpAny_bind (m := firstArgMember _ _) (wpAny_of_eq (a := Value.none) (by first | rfl | (simp only [firstArgMember]; rfl)) ?_)
  refine wpAny_newObj_type ?_ (by size_fits); simp only [raiseNew]
  refine wpAny_bind (wpAny_handled ?_); rw [show A.in1.handled = none from hh]
  exact wpAny_bind (wpAny_pure (wpAny_throw (hE _ _ (((Heap.SameBut.update ..).extBut.push _).push _) ⟨_, Heap.get?_push_size _ rfl, rfl⟩)))
theorem nx_val_item {it d : Addr} {i ep : Nat} {kvs : List (K × Value)} {k : K} {v : Value} {Q : Value → Shared → Prop} (hit : s.heap.IsValIter it d i kvs.length ep)
    (hm : s.heap.DictAt knd d kvs ep) (hx : kvs[i]? = some (k, v)) (hQ : ∀ h', h'.IsValIter it d (i + 1) kvs.length ep → Heap.SameBut it s.heap h' → Q v { s with heap := h' }) :
    wpAny (model prog w) A (Builtin.SmallTypes.nextOf (.ref it)) Q E s := by
  obtain ⟨o, ho, hc, hd⟩ := id hit; obtain ⟨od, es, hod, hcd, hdd, hk, hp, hn⟩ := id hm
  unfold Builtin.SmallTypes.nextOf
  refine wpAny_bind (wpAny_callSpecial?_slot (name := Str.ofString "__next__") hit.typeIs F.slot_dict_valueiterator_next (wpAny_call_entry F.slot_dict_valueiterator_next hit.typeIs F.entry_dict_valueiterator_next ?_ (F.args_dict_valueiterator_next_1 _)))
  refine wpAny_bind (wpAny_pure ?_); refine wpAny_bind (wpAny_bind ?_)
  first | (refine wpAny_bind (wpAny_typeNameOfWhole_valiter hit.typeIs (wpAny_pure ?_)); refine wpAny_bind (wpAny_fieldsOf ho hd ?_)) | (refine wpAny_bind (wpAny_typeNameOf_valiter hit.typeIs (wpAny_pure ?_)); refine wpAny_bind (wpAny_fieldsOf ho hd ?_))
  have own : Builtin.Dict_items.ownsTuple "dict_valueiterator" = false := by decide
  simp only [own, Bool.false_eq_true, if_false]
  show wpAny _ _ (if (Value.ref d == Value.none) = true then _ else _) _ _ _
  rw [if_neg (fun z => Bool.false_ne_true z : ¬ ((Value.ref d == Value.none) = true))]; refine wpAny_bind (wpAny_pure ?_)
  have sz : es.size = kvs.length := by have := hp.length; simpa using this
  refine wpAny_bind (wpAny_dictEntries hod hdd ?_); rw [if_neg (by rw [sz]; simp)]
  refine wpAny_bind (wpAny_pure ?_); refine wpAny_bind (wpAny_dictEpoch hod hdd ?_)
  rw [if_neg (by simp)]; refine wpAny_pure ?_
  have lt : i < kvs.length := (List.getElem?_eq_some_iff.mp hx).1
  have lt' : i < es.size := by omega
  have kv := hp.get? (e := es[i]) (by simp [lt']) hx
  simp only [show ¬ ((i : Int) < 0) from by omega, if_false, Int.toNat_natCast, Array.getElem?_eq_getElem lt']; refine wpAny_bind ?_
  first | (refine wpAny_bind (wpAny_typeNameOfWhole_valiter hit.typeIs (wpAny_pure ?_)); refine wpAny_bind (wpAny_isOneOf_valiter hit.typeIs ?_)) | (refine wpAny_bind (wpAny_typeNameOf_valiter hit.typeIs (wpAny_pure ?_)); refine wpAny_bind (wpAny_isOneOf_valiter hit.typeIs ?_))
  show wpAny _ _ (setField (.ref it) 1 (rawInt ((i : Int) + 1)) >>= _) _ _ _
  refine wpAny_bind (wpAny_setField ho hd (by simp) ?_)
  have hit' : (s.heap.update it (Obj.mapFields (·.setIfInBounds 1 (rawInt ((i : Int) + 1))))).IsValIter it d (i + 1) kvs.length ep := ⟨_, Heap.get?_update_self _ ho (Obj.isFreed_of_fields (Obj.data_mapFields hd _)), (Obj.cls_mapFields ..).trans hc, by rw [Obj.data_mapFields hd]; simp [rawInt]⟩
  refine wpAny_bind (wpAny_holding (wpAny_bind (wpAny_isOneOf_valiter (s := { s with heap := s.heap.update it (Obj.mapFields (·.setIfInBounds 1 (rawInt ((i : Int) + 1)))) }) hit'.typeIs ?_)))
  refine wpAny_bind (wpAny_isOneOf_valiter (s := { s with heap := s.heap.update it (Obj.mapFields (·.setIfInBounds 1 (rawInt ((i : Int) + 1)))) }) hit'.typeIs ?_)
  exact wpAny_pure (wpAny_pure ⟨_, rfl, wpAny_pure (kv.2 ▸ hQ _ hit' (Heap.SameBut.update ..))⟩)
theorem nx_val_end {it d : Addr} {i ep : Nat} {kvs : List (K × Value)} {Q : Value → Shared → Prop} (hh : A.handled = none) (hit : s.heap.IsValIter it d i kvs.length ep)
    (hm : s.heap.DictAt knd d kvs ep) (hx : kvs[i]? = none) (hE : ∀ h' e, Heap.ExtBut it s.heap h' → (∃ o, h'.get? e = some o ∧ o.cls = .type "StopIteration") → E (.ref e) { s with heap := h' }) :
    wpAny (model prog w) A (Builtin.SmallTypes.nextOf (.ref it)) Q E s := by
  obtain ⟨o, ho, hc, hd⟩ := id hit; obtain ⟨od, es, hod, hcd, hdd, hk, hp, hn⟩ := id hm
  unfold Builtin.SmallTypes.nextOf
  refine wpAny_bind (wpAny_callSpecial?_slot (name := Str.ofString "__next__") hit.typeIs F.slot_dict_valueiterator_next (wpAny_call_entry F.slot_dict_valueiterator_next hit.typeIs F.entry_dict_valueiterator_next ?_ (F.args_dict_valueiterator_next_1 _)))
  refine wpAny_bind (wpAny_pure ?_); refine wpAny_bind (wpAny_bind ?_)
  first | (refine wpAny_bind (wpAny_typeNameOfWhole_valiter hit.typeIs (wpAny_pure ?_)); refine wpAny_bind (wpAny_fieldsOf ho hd ?_)) | (refine wpAny_bind (wpAny_typeNameOf_valiter hit.typeIs (wpAny_pure ?_)); refine wpAny_bind (wpAny_fieldsOf ho hd ?_))
  have own : Builtin.Dict_items.ownsTuple "dict_valueiterator" = false := by decide
  simp only [own, Bool.false_eq_true, if_false]
  show wpAny _ _ (if (Value.ref d == Value.none) = true then _ else _) _ _ _
  rw [if_neg (fun z => Bool.false_ne_true z : ¬ ((Value.ref d == Value.none) = true))]; refine wpAny_bind (wpAny_pure ?_)
  have sz : es.size = kvs.length := by have := hp.length; simpa using this
  refine wpAny_bind (wpAny_dictEntries hod hdd ?_); rw [if_neg (by rw [sz]; simp)]
  refine wpAny_bind (wpAny_pure ?_); refine wpAny_bind (wpAny_dictEpoch hod hdd ?_)
  rw [if_neg (by simp)]; refine wpAny_pure ?_
  have ge : es.size ≤ i := by rw [sz]; simpa using hx
  simp only [show ¬ ((i : Int) < 0) from by omega, if_false, Int.toNat_natCast, Array.getElem?_eq_none ge]; refine wpAny_bind ?_
  first | (refine wpAny_bind (wpAny_typeNameOfWhole_valiter hit.typeIs (wpAny_pure ?_)); show wpAny _ _ (setField (.ref it) 0 .none >>= _) _ _ _) | (refine wpAny_bind (wpAny_typeNameOf_valiter hit.typeIs (wpAny_pure ?_)); show wpAny _ _ (setField (.ref it) 0 .none >>= _) _ _ _)
  refine wpAny_bind (wpAny_setField ho hd (by simp) ?_); show wpAny _ _ (newExc (.type "StopIteration") [] >>= _) _ _ _
  refine wpAny_bind ?_; simp only [newExc, newTuple]
  refine wpAny_bind (wpAny_newObj_type ?_ (by size_fits)); refine wpAny_bind (m := firstArgMember _ _) (wpAny_of_eq (a := Value.none) (by first | rfl | (simp only [firstArgMember]; rfl)) ?_)
  refine wpAny_newObj_type ?_ (by size_fits); simp only [raiseNew]
  refine wpAny_bind (wpAny_handled ?_); rw [show A.in1.handled = none from hh]
  exact wpAny_bind (wpAny_pure (wpAny_throw (hE _ _ (((Heap.SameBut.update ..).extBut.push _).push _) ⟨_, Heap.get?_push_size _ rfl, rfl⟩)))
end
end L2
namespace L2
open PySem PySem.Spec PyProof.Rows
structure Cmp (P : Program) (w : World) (K : PySem.W.Frag) (S : Hp → Prop) (xs : List V) (it l : Addr) (tn : Nat → Heap → Prop) (src : Heap → Prop) : Prop where
  obj : ∀ i h, tn i h → ∃ o, h.get? it = some o ∧ ∀ v, o.data ≠ .cell v
  keep : ∀ i h h', tn i h → (∀ o, h.get? it = some o → h'.get? it = some o) → tn i h'
  skeep : ∀ h h', src h → (∀ o, h.get? l = some o → h'.get? l = some o) → src h'
  sof : ∀ (X : Cx), X.prog = P → X.w = w → X.K = K → ∀ (pins : List (Addr × Obj)) (σ : St) (H : Hp) (s : Shared), Inv X pins σ H s → S H → src s.heap
  item : ∀ (A : Around) (i : Nat) (x : V) (s : Shared) (Q : Value → Shared → Prop) (E : Value → Shared → Prop), tn i s.heap → src s.heap → xs[i]? = some x → (∀ u h', RelV x u → tn (i + 1) h' → Heap.SameBut it s.heap h' → Q u { s with heap := h' }) → wpAny (model P w) A (Builtin.SmallTypes.nextOf (.ref it)) Q E s
  done : ∀ (A : Around) (i : Nat) (s : Shared) (Q : Value → Shared → Prop) (E : Value → Shared → Prop), A.handled = none → tn i s.heap → src s.heap → xs.length ≤ i → (∀ h' e, Heap.ExtBut it s.heap h' → (∃ o, h'.get? e = some o ∧ o.cls = .type "StopIteration") → E (.ref e) { s with heap := h' }) → wpAny (model P w) A (Builtin.SmallTypes.nextOf (.ref it)) Q E s
theorem cmp_list {P : Program} {w : World} {K : PySem.W.Frag} {xs : List V} {it l : Addr} : Cmp P w K (fun H => SqL K H l xs) xs it l (fun i h => h.IsListIter it l i) (fun h => ∃ its : List Value, Vals xs its ∧ h.IsList l its.toArray) where
  obj := fun i h ⟨o, e, c, d⟩ => ⟨o, e, fun v z => by rw [d] at z; cases z⟩
  keep := fun i h h' st k => st.at k
  skeep := fun h h' ⟨its, r, hl⟩ k => ⟨its, r, hl.at k⟩
  sof := fun X hP hw hK pins σ H s I h => by
    subst hP hw hK
    obtain ⟨its, rv, p, _⟩ := I.list h
    exact ⟨its, rv, p.isList⟩
  item := fun A i x s Q E st ⟨its, r, hl⟩ hx hQ => by
    obtain ⟨u, hu, ru⟩ := r.get hx
    exact wpAny_nextOf_list_item st hl (by simpa using hu) fun h' st' sb => hQ u h' ru st' sb
  done := fun A i s Q E hh st ⟨its, r, hl⟩ hx hE => wpAny_nextOf_list_end hh st hl (by have := r.length; simp; omega) hE
theorem cmp_keys {P : Program} {w : World} {K : PySem.W.Frag} {kvs : List (Key × V)} {it d : Addr} {o : Obj} {es : Array DictEntry} {ep : Nat} (hd : o.data = .dict es ep) :
    Cmp P w K (fun H => Frz H d o kvs) (kvs.map fun p => kV p.1) it d (fun i h => h.IsKeyIter it d i kvs.length ep) (fun h => ∃ vs, KV kvs vs ∧ h.DictAt (mixKind P w) d vs ep) where
  obj := fun i h ⟨o, e, c, d⟩ => ⟨o, e, fun v z => by rw [d] at z; cases z⟩
  keep := fun i h h' st k => st.at k
  skeep := fun h h' ⟨vs, r, hl⟩ k => ⟨vs, r, hl.at' k⟩
  sof := fun X hP hw hK pins σ H s I h => by
    subst hP hw hK
    obtain ⟨ho, _, _, vs, ep', r, da⟩ := I.frzAt h
    cases ep_of da ho hd
    exact ⟨vs, r, da⟩
  item := fun A i x s Q E st ⟨vs, r, da⟩ hx hQ => by
    rw [List.getElem?_map] at hx
    obtain ⟨p, hp, rfl⟩ := Option.map_eq_some_iff.mp hx
    obtain ⟨q, hq, ek, rq⟩ := kv_get r hp
    obtain ⟨qk, qv⟩ := q
    have hl : kvs.length = vs.length := r.length
    rw [hl] at st
    exact nx_key_item st da hq fun key h' hk st' sb => hQ key h' (by rw [ek]; exact kV_rel hk) (by rw [hl]; exact st') sb
  done := fun A i s Q E hh st ⟨vs, r, da⟩ hx hE => by
    have hl : kvs.length = vs.length := r.length
    rw [List.length_map] at hx
    rw [hl] at st
    exact nx_key_end hh st da (by rw [List.getElem?_eq_none]; omega) hE
theorem cmp_vals {P : Program} {w : World} {K : PySem.W.Frag} {kvs : List (Key × V)} {it d : Addr} {o : Obj} {es : Array DictEntry} {ep : Nat} (hd : o.data = .dict es ep) :
    Cmp P w K (fun H => Frz H d o kvs) (kvs.map fun p => p.2) it d (fun i h => h.IsValIter it d i kvs.length ep) (fun h => ∃ vs, KV kvs vs ∧ h.DictAt (mixKind P w) d vs ep) where
  obj := fun i h ⟨o, e, c, d⟩ => ⟨o, e, fun v z => by rw [d] at z; cases z⟩
  keep := fun i h h' st k => st.at k
  skeep := fun h h' ⟨vs, r, hl⟩ k => ⟨vs, r, hl.at' k⟩
  sof := fun X hP hw hK pins σ H s I h => by
    subst hP hw hK
    obtain ⟨ho, _, _, vs, ep', r, da⟩ := I.frzAt h
    cases ep_of da ho hd
    exact ⟨vs, r, da⟩
  item := fun A i x s Q E st ⟨vs, r, da⟩ hx hQ => by
    rw [List.getElem?_map] at hx
    obtain ⟨p, hp, rfl⟩ := Option.map_eq_some_iff.mp hx
    obtain ⟨q, hq, ek, rq⟩ := kv_get r hp
    obtain ⟨qk, qv⟩ := q
    have hl : kvs.length = vs.length := r.length
    rw [hl] at st
    exact nx_val_item st da hq fun h' st' sb => hQ qv h' rq (by rw [hl]; exact st') sb
  done := fun A i s Q E hh st ⟨vs, r, da⟩ hx hE => by
    have hl : kvs.length = vs.length := r.length
    rw [List.length_map] at hx
    rw [hl] at st
    exact nx_val_end hh st da (by rw [List.getElem?_eq_none]; omega) hE
section
variable {P : Program} {w : World} {A : Around} {E : Value → Shared → Prop} {s : Shared} {K : PySem.W.Frag} {S1 S2 : Hp → Prop} {xs ys : List V} {z TI TO i1 i2 l1 l2 : Addr} {t1 t2 : Nat → Heap → Prop} {c1 c2 : Heap → Prop} {i : Nat}
theorem zipG_item {x y : V} {a b : Value} {Q : Value → Shared → Prop} (D : ZipApart z TI TO i1 i2 l1 l2) (C1 : Cmp P w K S1 xs i1 l1 t1 c1) (C2 : Cmp P w K S2 ys i2 l2 t2 c2)
    (hz : IsZip s.heap z TI TO .none) (hTI : IsPair s.heap TI (.ref i1) (.ref i2)) (hTO : IsPair s.heap TO a b) (h1 : t1 i s.heap) (h2 : t2 i s.heap) (hc1 : c1 s.heap) (hc2 : c2 s.heap) (hx : xs[i]? = some x) (hy : ys[i]? = some y)
    (hQ : ∀ u v h', RelV x u → RelV y v → IsZip h' z TI TO (rawInt s.heap.objs.size) → IsPair h' TO u v → t1 (i + 1) h' → t2 (i + 1) h' → IsPair h' s.heap.objs.size u v → h'.objs.size = s.heap.objs.size + 1 →
      (∀ c o, c ≠ z → c ≠ TO → c ≠ i1 → c ≠ i2 → s.heap.get? c = some o → h'.get? c = some o) → Q (.ref s.heap.objs.size) { s with heap := h' }) :
    wpAny (model P w) A (Builtin.«zip.__next__» ⟨[.ref z], []⟩) (fun fin s' => ∃ v, fin = .done (.ret v) ∧ Q v s') E s := by
  show wpAny _ _ (field (.ref z) 2 >>= _) _ _ _
  refine wpAny_bind (wpAny_field hz rfl (x := .bool false) rfl ?_); show wpAny _ _ (field (.ref z) 3 >>= _) _ _ _
  refine wpAny_bind (wpAny_field hz rfl (x := .ref TI) rfl ?_); refine wpAny_bind (wpAny_seqItems hTI rfl ?_)
  show wpAny _ _ (Builtin.SmallTypes.ownedTupleIsFree (.ref z) >>= _) _ _ _
  refine wpAny_bind ?_; unfold Builtin.SmallTypes.ownedTupleIsFree
  refine wpAny_bind (wpAny_field hz rfl (x := .none) rfl (wpAny_pure ?_)); simp only [if_true]
  refine wpAny_bind (wpAny_rule ?_); refine wpAny_bind (wpAny_field hz rfl (x := .ref TO) rfl ?_)
  refine wpAny_bind (wpAny_setField_rec hz (by simp) fun hA hzA sA => ?_)
  replace hzA : IsZip hA z TI TO .ellipsis := hzA
  refine wpAny_bind ?_; simp only [List.zipIdx_cons, List.zipIdx_nil, List.forIn_cons, List.forIn_nil]
  refine wpAny_bind (wpAny_bind (wpAny_onRaise ?_)); show wpAny _ _ (Builtin.SmallTypes.nextOf (.ref i1) >>= _) _ _ _
  refine wpAny_bind (C1.item _ i x { s with heap := hA } _ _ (C1.keep _ _ _ h1 fun o e => sA.extBut _ _ D.i1z e) (C1.skeep _ _ hc1 fun o e => sA.extBut _ _ D.l1z e) hx fun u hB ru h1B sB => wpAny_pure ?_)
  have TOB : IsPair hB TO a b := sB.extBut _ _ D.TOi1 (sA.extBut _ _ D.TOz hTO)
  refine wpAny_bind (wpAny_seqItems TOB rfl ?_); refine wpAny_bind (wpAny_updateSeq_pair TOB fun hC TOC sC => ?_)
  replace TOC : IsPair hC TO u b := TOC
  refine wpAny_bind (wpAny_letGo (wpAny_pure ?_)); refine wpAny_bind (wpAny_bind (wpAny_onRaise ?_))
  show wpAny _ _ (Builtin.SmallTypes.nextOf (.ref i2) >>= _) _ _ _
  refine wpAny_bind (C2.item _ i y { s with heap := hC } _ _ (C2.keep _ _ _ h2 fun o e => sC.extBut _ _ D.TOi2.symm (sB.extBut _ _ D.i12.symm (sA.extBut _ _ D.i2z e))) (C2.skeep _ _ hc2 fun o e => sC.extBut _ _ D.l2TO (sB.extBut _ _ D.l2i1 (sA.extBut _ _ D.l2z e))) hy fun v hD rv h2D sD => wpAny_pure ?_)
  have TOD : IsPair hD TO u b := sD.extBut _ _ D.TOi2 TOC
  refine wpAny_bind (wpAny_seqItems TOD rfl ?_); refine wpAny_bind (wpAny_updateSeq_pair TOD fun hE TOE sE => ?_)
  replace TOE : IsPair hE TO u v := TOE
  refine wpAny_bind (wpAny_letGo (wpAny_pure (wpAny_pure ?_))); refine wpAny_bind (wpAny_seqItems TOE rfl ?_)
  refine wpAny_bind (wpAny_newTuple ?_)
  have sz : hE.objs.size = s.heap.objs.size := by rw [sE.1, sD.1, sC.1, sB.1, sA.1]
  have zE : IsZip hE z TI TO .ellipsis := sE.extBut _ _ D.TOz.symm (sD.extBut _ _ D.i2z.symm (sC.extBut _ _ D.TOz.symm (sB.extBut _ _ D.i1z.symm hzA)))
  have kE : ∀ c o, c ≠ z → c ≠ TO → c ≠ i1 → c ≠ i2 → s.heap.get? c = some o → hE.get? c = some o := fun c o c1 c2 c3 c4 e => sE.extBut _ _ c2 (sD.extBut _ _ c4 (sC.extBut _ _ c2 (sB.extBut _ _ c3 (sA.extBut _ _ c1 e))))
  have t1E : t1 (i + 1) hE := C1.keep _ _ _ h1B fun o e => sE.extBut _ _ D.TOi1.symm (sD.extBut _ _ D.i12 (sC.extBut _ _ D.TOi1.symm e))
  have t2E : t2 (i + 1) hE := C2.keep _ _ _ h2D fun o e => sE.extBut _ _ D.TOi2.symm e
  have zlt : z < hE.objs.size := Heap.lt_size zE
  show wpAny _ _ (Builtin.SmallTypes.ownedTupleHandOut (.ref z) (.ref hE.objs.size) >>= _) _ _ _
  refine wpAny_bind ?_; unfold Builtin.SmallTypes.ownedTupleHandOut
  have zF : IsZip (hE.push { cls := .type "tuple", data := .seq #[u, v] }) z TI TO .ellipsis := Heap.get?_push_of_some _ zE
  refine wpAny_bind (wpAny_setField_rec zF (by simp) fun hG zG sG => ?_)
  replace zG : IsZip hG z TI TO (rawInt hE.objs.size) := zG
  refine wpAny_setField_rec zG (by simp) fun hI zI sI => ?_
  replace zI : IsZip hI z TI TO (rawInt hE.objs.size) := zI
  have up : ∀ c o, c ≠ z → hE.get? c = some o → hI.get? c = some o := fun c o c1 e => sI.extBut _ _ c1 (sG.extBut _ _ c1 (Heap.get?_push_of_some _ e))
  have TI' : IsPair hI hE.objs.size u v := sI.extBut _ _ (Nat.ne_of_gt zlt) (sG.extBut _ _ (Nat.ne_of_gt zlt) (Heap.get?_push_size _ rfl))
  have szI : hI.objs.size = hE.objs.size + 1 := by rw [sI.1, sG.1, Heap.size_push]
  rw [sz] at zI TI' szI
  refine wpAny_pure ⟨_, rfl, ?_⟩
  show Q (.ref hE.objs.size) _
  rw [sz]
  exact hQ u v hI ru rv zI (up _ _ D.TOz TOE) (C1.keep _ _ _ t1E fun o e => up _ o D.i1z e) (C2.keep _ _ _ t2E fun o e => up _ o D.i2z e) TI' szI fun c o c1 c2 c3 c4 e => up c o c1 (kE c o c1 c2 c3 c4 e)
theorem zipG_end {a b : Value} {Q : Fin → Shared → Prop} (hh : A.handled = none) (D : ZipApart z TI TO i1 i2 l1 l2) (C1 : Cmp P w K S1 xs i1 l1 t1 c1) (C2 : Cmp P w K S2 ys i2 l2 t2 c2)
    (hz : IsZip s.heap z TI TO .none) (hTI : IsPair s.heap TI (.ref i1) (.ref i2)) (hTO : IsPair s.heap TO a b) (h1 : t1 i s.heap) (h2 : t2 i s.heap) (hc1 : c1 s.heap) (hc2 : c2 s.heap) (hend : xs.length ≤ i ∨ ys.length ≤ i)
    (hE : ∀ h' e, (∀ c o, c ≠ z → c ≠ TO → c ≠ i1 → c ≠ i2 → s.heap.get? c = some o → h'.get? c = some o) → (∃ o, h'.get? e = some o ∧ o.cls = .type "StopIteration") → E (.ref e) { s with heap := h' }) :
    wpAny (model P w) A (Builtin.«zip.__next__» ⟨[.ref z], []⟩) Q E s := by
  show wpAny _ _ (field (.ref z) 2 >>= _) _ _ _
  refine wpAny_bind (wpAny_field hz rfl (x := .bool false) rfl ?_); show wpAny _ _ (field (.ref z) 3 >>= _) _ _ _
  refine wpAny_bind (wpAny_field hz rfl (x := .ref TI) rfl ?_); refine wpAny_bind (wpAny_seqItems hTI rfl ?_)
  show wpAny _ _ (Builtin.SmallTypes.ownedTupleIsFree (.ref z) >>= _) _ _ _
  refine wpAny_bind ?_; unfold Builtin.SmallTypes.ownedTupleIsFree
  refine wpAny_bind (wpAny_field hz rfl (x := .none) rfl (wpAny_pure ?_)); simp only [if_true]
  refine wpAny_bind (wpAny_rule ?_); refine wpAny_bind (wpAny_field hz rfl (x := .ref TO) rfl ?_)
  refine wpAny_bind (wpAny_setField_rec hz (by simp) fun hA hzA sA => ?_)
  replace hzA : IsZip hA z TI TO .ellipsis := hzA
  refine wpAny_bind ?_; simp only [List.zipIdx_cons, List.zipIdx_nil, List.forIn_cons, List.forIn_nil]
  refine wpAny_bind (wpAny_bind (wpAny_onRaise ?_)); show wpAny _ _ (Builtin.SmallTypes.nextOf (.ref i1) >>= _) _ _ _
  have k1 := C1.keep _ _ _ h1 fun o e => sA.extBut _ _ D.i1z e
  have k2 := C1.skeep _ _ hc1 fun o e => sA.extBut _ _ D.l1z e
  by_cases hx : xs.length ≤ i
  · refine wpAny_bind (C1.done _ i { s with heap := hA } _ _ hh k1 k2 hx fun hB e sB he => ?_)
    obtain ⟨oe, hoe, hce⟩ := he
    have zB : IsZip hB z TI TO .ellipsis := sB _ _ D.i1z.symm hzA
    have ez : e ≠ z := fun x => by subst x; rw [zB] at hoe; cases hoe; simp at hce
    exact wpAny_setField_rec zB (by simp) fun hC _ sC => hE hC e (fun c o c1 _ c3 _ x => sC.extBut _ _ c1 (sB _ _ c3 (sA.extBut _ _ c1 x))) ⟨oe, sC.extBut _ _ ez hoe, hce⟩
  · have hy : ys.length ≤ i := hend.resolve_left hx
    refine wpAny_bind (C1.item _ i xs[i] { s with heap := hA } _ _ k1 k2 (List.getElem?_eq_getElem (by omega)) fun u hB ru h1B sB => wpAny_pure ?_)
    have TOB : IsPair hB TO a b := sB.extBut _ _ D.TOi1 (sA.extBut _ _ D.TOz hTO)
    refine wpAny_bind (wpAny_seqItems TOB rfl ?_); refine wpAny_bind (wpAny_updateSeq_pair TOB fun hC TOC sC => ?_)
    refine wpAny_bind (wpAny_letGo (wpAny_pure ?_)); refine wpAny_bind (wpAny_bind (wpAny_onRaise ?_))
    show wpAny _ _ (Builtin.SmallTypes.nextOf (.ref i2) >>= _) _ _ _
    refine wpAny_bind (C2.done _ i { s with heap := hC } _ _ hh (C2.keep _ _ _ h2 fun o e => sC.extBut _ _ D.TOi2.symm (sB.extBut _ _ D.i12.symm (sA.extBut _ _ D.i2z e))) (C2.skeep _ _ hc2 fun o e => sC.extBut _ _ D.l2TO (sB.extBut _ _ D.l2i1 (sA.extBut _ _ D.l2z e))) hy fun hD e sD he => ?_)
    obtain ⟨oe, hoe, hce⟩ := he
    have zD : IsZip hD z TI TO .ellipsis := sD _ _ D.i2z.symm (sC.extBut _ _ D.TOz.symm (sB.extBut _ _ D.i1z.symm hzA))
    have ez : e ≠ z := fun x => by subst x; rw [zD] at hoe; cases hoe; simp at hce
    exact wpAny_setField_rec zD (by simp) fun hF _ sF => hE hF e (fun c o c1 c2 c3 c4 x => sF.extBut _ _ c1 (sD _ _ c4 (sC.extBut _ _ c2 (sB.extBut _ _ c3 (sA.extBut _ _ c1 x))))) ⟨oe, sF.extBut _ _ ez hoe, hce⟩
end
def Itzz (S1 S2 : Hp → Prop) (xs ys : List V) : It :=
  ⟨fun i H => S1 H ∧ S2 H ∧ i < xs.length ∧ i < ys.length, fun i H v H' => ∃ p x y, H p = none ∧ v = .ref p ∧ H' = upd H p (.tup [x, y]) ∧ xs[i]? = some x ∧ ys[i]? = some y, fun i H => S1 H ∧ S2 H ∧ (xs.length ≤ i ∨ ys.length ≤ i)⟩
theorem turn_zipG {P : Program} {w : World} {K : PySem.W.Frag} {elts : List Expr} {kk : Nat} {pos : Pos} {S1 S2 : Hp → Prop} {xs ys : List V} {z TI TO i1 i2 l1 l2 : Addr} {t1 t2 : Nat → Heap → Prop} {c1 c2 : Heap → Prop} (D : ZipApart z TI TO i1 i2 l1 l2)
    (C1 : Cmp P w K S1 xs i1 l1 t1 c1) (C2 : Cmp P w K S2 ys i2 l2 t2 c2) :
    Turn P w K (.Tuple elts kk pos) (Itzz S1 S2 xs ys) [z, TI, TO, i1, i2] z (fun i h => IsZip h z TI TO .none ∧ IsPair h TI (.ref i1) (.ref i2) ∧ (∃ a b, IsPair h TO a b) ∧ t1 i h ∧ t2 i h) where
  mem := by simp
  obj := fun i h st b hb => by
    obtain ⟨hz, hTI, ⟨a, b', hTO⟩, h1, h2⟩ := st
    have hb' : b = z ∨ b = TI ∨ b = TO ∨ b = i1 ∨ b = i2 := by simpa using hb
    rcases hb' with rfl | rfl | rfl | rfl | rfl
    · exact ⟨_, hz, fun v q => by cases q⟩
    · exact ⟨_, hTI, fun v q => by cases q⟩
    · exact ⟨_, hTO, fun v q => by cases q⟩
    · exact C1.obj i h h1
    · exact C2.obj i h h2
  keep := fun i h h' st k => by
    obtain ⟨hz, hTI, ⟨a, b', hTO⟩, h1, h2⟩ := st
    exact ⟨k z (by simp) _ hz, k TI (by simp) _ hTI, ⟨a, b', k TO (by simp) _ hTO⟩, C1.keep _ _ _ h1 fun o e => k i1 (by simp) o e, C2.keep _ _ _ h2 fun o e => k i2 (by simp) o e⟩
  item := by
    intro X hP hw hK hc i pins s σ H E I hf st hg
    subst hP hw hK
    obtain ⟨hz, hTI, ⟨a, b, hTO⟩, h1, h2⟩ := st
    obtain ⟨g1, g2, lx, ly⟩ := hg
    have hT : s.TypeIs (.ref z) "zip" := ⟨_, hz, rfl⟩
    unfold pyNext
    refine wpAny_bind (wpAny_attempt (wpAny_callSpecial?_slot (name := Str.ofString "__next__") hT F.slot_zip_next (wpAny_call_entry F.slot_zip_next hT F.entry_zip_next
      (zipG_item D C1 C2 hz hTI hTO h1 h2 (C1.sof X rfl rfl rfl pins σ H s I g1) (C2.sof X rfl rfl rfl pins σ H s I g2) (List.getElem?_eq_getElem lx) (List.getElem?_eq_getElem ly) fun u u2 h' ru ru2 a1 a2 a3 a4 a5 a6 hk => wpAny_pure ?_) (F.args_zip_next_1 _))))
    refine ⟨_, rfl, wpAny_letOwnedTupleGo_zip (s := { s with heap := h' }) a1 fun h'' b1 hs => ?_⟩
    have hTz : s.heap.objs.size ≠ z := Nat.ne_of_gt (Heap.lt_size hz)
    have kk2 : ∀ c o, c ≠ z → c ≠ TO → c ≠ i1 → c ≠ i2 → s.heap.get? c = some o → h''.get? c = some o := fun c o c1 c2 c3 c4 e => hs.extBut _ _ c1 (hk c o c1 c2 c3 c4 e)
    have hn := I.fresh
    have nf : ∀ b u, H b = some u → b ≠ z ∧ b ≠ TO ∧ b ≠ i1 ∧ b ≠ i2 := fun b u e => by
      have g : ∀ c ∈ [z, TI, TO, i1, i2], b ≠ c := fun c hc q => by
        have := (hf c hc).1
        rw [← q, e] at this
        cases this
      exact ⟨g z (by simp), g TO (by simp), g i1 (by simp), g i2 (by simp)⟩
    have nch : ∀ c, c ∉ [z, TI, TO, i1, i2] → c ≠ z ∧ c ≠ TO ∧ c ≠ i1 ∧ c ≠ i2 := fun c hc => ⟨fun q => hc (by simp [q]), fun q => hc (by simp [q]), fun q => hc (by simp [q]), fun q => hc (by simp [q])⟩
    have newT : IsPair h'' s.heap.objs.size u u2 := hs.extBut _ _ hTz a5
    have hok : HOk X.prog X.w (upd H s.heap.objs.size (.tup [xs[i], ys[i]])) h'' := fun b ob e => by
      by_cases hb : b = s.heap.objs.size
      · subst hb
        rw [upd_same] at e
        cases e
        exact ⟨by show 2 ≤ sizeLine; decide, [u, u2], .cons ru (.cons ru2 .nil), _, newT, rfl, 0, rfl⟩
      · rw [upd_ne hb] at e
        refine (I.hok b ob e).stay (fun c v hcv q => ?_) (fun c q => by rw [upd_ne (ne_of_none q hn)]; exact q) fun c zs q => by rw [upd_ne (ne_of_none q hn)]; exact q
        rcases hcv with r | r
        · obtain ⟨n1, n2, n3, n4⟩ := nf b ob e
          rw [r]
          rw [r] at q
          exact kk2 b v n1 n2 n3 n4 q
        · obtain ⟨n1, n2, n3, n4⟩ := nf c _ r
          exact kk2 c v n1 n2 n3 n4 q
    have I2 : Inv X pins σ (upd H s.heap.objs.size (.tup [xs[i], ys[i]])) { s with heap := h'', gens := s.gens, drawn := s.drawn, toks := s.toks } := by
      refine I.step (ch := [z, TI, TO, i1, i2]) (fun b hb => ⟨(hf b hb).2.2.2.1, (hf b hb).2.1, (hf b hb).2.2.2.2.1, (hf b hb).2.2.2.2.2⟩) (fun b o _ _ hc' e _ => ?_) (fun b o _ _ hc' e _ => ?_) (fun b o _ e n => ?_) (fun b o hc' e => ?_)
        (fun b zs q => by rw [upd_ne (ne_of_none q hn)]; exact q) (fun b o zs q => by rw [upd_ne (ne_of_none q hn)]; exact q) (fun b ps q => ⟨#[], by rw [upd_ne (ne_of_none q hn), q]; simp⟩) (fun m hm => ?_) hok I.bare
      · obtain ⟨n1, n2, n3, n4⟩ := nch b hc'
        exact kk2 b o n1 n2 n3 n4 e
      · obtain ⟨n1, n2, n3, n4⟩ := nch b hc'
        exact ⟨o.slots, kk2 b o n1 n2 n3 n4 e⟩
      · rw [upd_ne (Nat.ne_of_lt (Heap.lt_size e))]
        exact n
      · obtain ⟨n1, n2, n3, n4⟩ := nch b hc'
        exact ⟨o, kk2 b o n1 n2 n3 n4 e⟩
      · obtain ⟨o, es, ep, ho, r⟩ := hm
        have nl : ∀ c ∈ [z, TI, TO, i1, i2], X.env.locals ≠ c := fun c hc' q => (hf c hc').2.1 q.symm
        exact ⟨o, es, ep, kk2 _ o (nl z (by simp)) (nl TO (by simp)) (nl i1 (by simp)) (nl i2 (by simp)) ho, r⟩
    refine ⟨.ref s.heap.objs.size, _, I2, rfl, ⟨s.heap.objs.size, xs[i], ys[i], hn, rfl, rfl, List.getElem?_eq_getElem lx, List.getElem?_eq_getElem ly⟩, ⟨b1, ?_, ⟨u, u2, ?_⟩, ?_, ?_⟩, fun b hb => ?_⟩
    · exact kk2 _ _ D.TIz D.TITO D.TIi1 D.TIi2 hTI
    · exact hs.extBut _ _ D.TOz a2
    · exact C1.keep _ _ _ a3 fun o e => hs.extBut _ _ D.i1z e
    · exact C2.keep _ _ _ a4 fun o e => hs.extBut _ _ D.i2z e
    · have hlt : b ≠ s.heap.objs.size := by
        have hb' : b = z ∨ b = TI ∨ b = TO ∨ b = i1 ∨ b = i2 := by simpa using hb
        obtain ⟨_, e1, _⟩ := C1.obj _ _ h1
        obtain ⟨_, e2, _⟩ := C2.obj _ _ h2
        rcases hb' with rfl | rfl | rfl | rfl | rfl
        · exact Nat.ne_of_lt (Heap.lt_size hz)
        · exact Nat.ne_of_lt (Heap.lt_size hTI)
        · exact Nat.ne_of_lt (Heap.lt_size hTO)
        · exact Nat.ne_of_lt (Heap.lt_size e1)
        · exact Nat.ne_of_lt (Heap.lt_size e2)
      rw [upd_ne hlt]
      exact (hf b hb).1
  done := by
    intro X hP hw hK hc i pins s σ H E I hf st hg
    subst hP hw hK
    obtain ⟨hz, hTI, ⟨a, b, hTO⟩, h1, h2⟩ := st
    obtain ⟨g1, g2, hend⟩ := hg
    have hT : s.TypeIs (.ref z) "zip" := ⟨_, hz, rfl⟩
    unfold pyNext
    refine wpAny_bind (wpAny_attempt (wpAny_callSpecial?_slot (name := Str.ofString "__next__") hT F.slot_zip_next (wpAny_call_entry F.slot_zip_next hT F.entry_zip_next
      (zipG_end (I.ok.hd hc) D C1 C2 hz hTI hTO h1 h2 (C1.sof X rfl rfl rfl pins σ H s I g1) (C2.sof X rfl rfl rfl pins σ H s I g2) hend fun h' e hk he => ?_) (F.args_zip_next_1 _))))
    obtain ⟨oe, hoe, hce⟩ := he
    refine wpAny_bind (wpAny_isInstance (T := "StopIteration") (b := true) ⟨oe, hoe, hce⟩ isSubtype_stop (wpAny_pure ⟨rfl, ?_⟩))
    have nch : ∀ c, c ∉ [z, TI, TO, i1, i2] → c ≠ z ∧ c ≠ TO ∧ c ≠ i1 ∧ c ≠ i2 := fun c hc => ⟨fun q => hc (by simp [q]), fun q => hc (by simp [q]), fun q => hc (by simp [q]), fun q => hc (by simp [q])⟩
    have nf : ∀ b u, H b = some u → b ≠ z ∧ b ≠ TO ∧ b ≠ i1 ∧ b ≠ i2 := fun b u e => by
      have g : ∀ c ∈ [z, TI, TO, i1, i2], b ≠ c := fun c hc q => by
        have := (hf c hc).1
        rw [← q, e] at this
        cases this
      exact ⟨g z (by simp), g TO (by simp), g i1 (by simp), g i2 (by simp)⟩
    have I2 : Inv X pins σ H { s with heap := h', gens := s.gens, drawn := s.drawn, toks := s.toks } := by
      refine I.step (ch := [z, TI, TO, i1, i2]) (fun b hb => ⟨(hf b hb).2.2.2.1, (hf b hb).2.1, (hf b hb).2.2.2.2.1, (hf b hb).2.2.2.2.2⟩) (fun b o _ _ hc' e _ => ?_) (fun b o _ _ hc' e _ => ?_) (fun b o _ e n => n) (fun b o hc' e => ?_)
        (fun b zs q => q) (fun b o zs q => q) (fun b ps q => ⟨#[], by rw [q]; simp⟩) (fun m hm => ?_) (fun b ob e => ?_) I.bare
      · obtain ⟨n1, n2, n3, n4⟩ := nch b hc'
        exact hk b o n1 n2 n3 n4 e
      · obtain ⟨n1, n2, n3, n4⟩ := nch b hc'
        exact ⟨o.slots, hk b o n1 n2 n3 n4 e⟩
      · obtain ⟨n1, n2, n3, n4⟩ := nch b hc'
        exact ⟨o, hk b o n1 n2 n3 n4 e⟩
      · obtain ⟨o, es, ep, ho, r⟩ := hm
        have nl : ∀ c ∈ [z, TI, TO, i1, i2], X.env.locals ≠ c := fun c hc' q => (hf c hc').2.1 q.symm
        exact ⟨o, es, ep, hk _ o (nl z (by simp)) (nl TO (by simp)) (nl i1 (by simp)) (nl i2 (by simp)) ho, r⟩
      · refine (I.hok b ob e).stay (fun c v hcv q => ?_) (fun c q => q) fun c zs q => q
        rcases hcv with r | r
        · obtain ⟨n1, n2, n3, n4⟩ := nf b ob e
          rw [r]
          rw [r] at q
          exact hk b v n1 n2 n3 n4 q
        · obtain ⟨n1, n2, n3, n4⟩ := nf c _ r
          exact hk c v n1 n2 n3 n4 q
    exact I2
  self := fun _ _ _ _ _ st h => wpAny_pyIter_zip st.1 h
def Starts (P : Program) (w : World) (u : Value) (o : Obj) (pre : Heap → Prop) : Prop := ∀ (A : Around) (E : Value → Shared → Prop) (s : Shared) (Q : Value → Shared → Prop), pre s.heap → Q (.ref s.heap.objs.size) { s with heap := s.heap.push o } → wpAny (model P w) A (pyIter u) Q E s
theorem meets_zipG {P : Program} {w : World} {u1 u2 : Value} {o1 o2 : Obj} {p1 p2 : Heap → Prop} (s1 : Starts P w u1 o1 p1) (s2 : Starts P w u2 o2 p2) :
    MeetsIn P w (Builtin.«zip.__new__» ⟨[.type "zip", u1, u2], []⟩) (fun _ R s => p1 s.heap ∧ p2 (s.heap.push o1) ∧
      R (.ok (.ret (.ref ((((s.heap.push o1).push o2).push { cls := .type "tuple", data := .seq #[.ref s.heap.objs.size, .ref (s.heap.push o1).objs.size] }).push { cls := .type "tuple", data := .seq #[.none, .none] }).objs.size)))
        { s with heap := ((((s.heap.push o1).push o2).push { cls := .type "tuple", data := .seq #[.ref s.heap.objs.size, .ref (s.heap.push o1).objs.size] }).push { cls := .type "tuple", data := .seq #[.none, .none] }).push { cls := .type "zip", data := .fields #[.none, .bool false, .bool false, .ref ((s.heap.push o1).push o2).objs.size, .ref (((s.heap.push o1).push o2).push { cls := .type "tuple", data := .seq #[.ref s.heap.objs.size, .ref (s.heap.push o1).objs.size] }).objs.size] } }) :=
  .of_wp fun A R s h => by
    obtain ⟨hp, g, d, tk, os⟩ := s; obtain ⟨q1, q2, h⟩ := h
    have hsub := sub_zip
    have i1 := fun (A : Around) (E : Value → Shared → Prop) (Q : Value → Shared → Prop) => s1 A E ⟨hp, g, d, tk, os⟩ Q q1
    have i2 := fun (A : Around) (E : Value → Shared → Prop) (Q : Value → Shared → Prop) => s2 A E ⟨hp.push o1, g, d, tk, os⟩ Q q2
    wp_walk using i1 _ _ _, i2 _ _ _
    exact ⟨_, rfl, h⟩
end L2
namespace L2
open PySem PySem.Spec PyProof.Rows
section
variable {prog : Program} {w : World} {A : Around} {E : Value → Shared → Prop} {s : Shared} {K : Type} [DecidableEq K] {knd : KeyKind prog w K}
end
end L2
namespace L2
open PySem PySem.Spec PyProof.Rows
def vview (v d : Addr) : HO := .ext fun h => h.IsValuesView v d
section
variable {X : Cx}
def tVals (td : TE) : TE := fun σ H Q => td σ H fun x H1 => ∃ d kvs, x = .ref d ∧ Rd H1 d (.dK kvs) ∧ ∀ v, H1 v = none → Q (.ref v) (upd H1 v (vview v d))
theorem pe_vals {ob : Expr} {td : TE} {apos cpos : Pos} (hob : PE X ob td) (hbase : attributeBase ob "values" X.env (eval ob X.env) = eval ob X.env := by rfl) (hline : (apos.endLine == cpos.line) = true := by rfl) :
    PE X (.Call (.Attribute ob "values" apos) [] [] cpos) (tVals td) := by
  intro pins s σ H Q I h
  refine wpAny_Call_method0_late hbase hline (thn (hob pins s σ H _ I h) fun v s1 ⟨x, H1, I1, r1, q1⟩ => ?_)
  obtain ⟨d, kvs, rfl, e, fin⟩ := q1
  cases r1
  obtain ⟨t1, t2, hsys⟩ := isD_at I1 (.inl ⟨kvs, e⟩)
  obtain ⟨hz, _, vs, rel, dd⟩ := dk_rd I1.hok e
  refine ⟨"dict", _, F.plainAttrs_dict, F.slot_dict_values, F.type_dict_values, t1, t2, Calls.callWith_builtin rfl (PySem.evalArgs_none ?_)⟩
  refine call_meetsIn F.slot_dict_values dd.typeIs F.entry_dict_values (F.args_dict_values_1 _) (meets_dict_values (mixKind X.prog X.w) d hsys) ⟨⟨vs, dd⟩, ?_⟩
  refine ⟨.ref s1.heap.objs.size, _, I1.laid (t' := s1.toks) (o := vview s1.heap.objs.size d) (fun b u e => Heap.get?_push_of_some _ e) (Nat.le_refl _) ?_, rfl, fin _ I1.fresh⟩
  refine ⟨⟨_, Heap.get?_push_size _ rfl, rfl, rfl⟩, ⟨_, Heap.get?_push_size _ rfl⟩, fun h1 h2 ⟨o, a, b⟩ k => ⟨o, k o a, b⟩⟩
inductive Wk (K : PySem.W.Frag) (H : Hp) : V → (Hp → Prop) → List V → Prop
  | lst {l : Addr} {xs : List V} : SqL K H l xs → Wk K H (.ref l) (fun H => SqL K H l xs) xs
  | keys {d : Addr} {o : Obj} {kvs : List (Key × V)} : Frz H d o kvs → Wk K H (.ref d) (fun H => Frz H d o kvs) (kvs.map fun p => kV p.1)
  | vals {v d : Addr} {o : Obj} {kvs : List (Key × V)} : H v = some (vview v d) → Frz H d o kvs → Wk K H (.ref v) (fun H => Frz H d o kvs) (kvs.map fun p => p.2)
theorem Wk.ok {pins : List (Addr × Obj)} {σ : St} {H : Hp} {s : Shared} {u : V} {uv : Value} {S : Hp → Prop} {xs : List V} (k : Wk X.K H u S xs) (I : Inv X pins σ H s) (r : RelV u uv) :
    S H ∧ ∃ (l : Addr) (o : Obj) (p : Heap → Prop), l < s.heap.objs.size ∧ p s.heap ∧ (∀ h (ob : Obj), p h → p (h.push ob)) ∧ (∀ h : Heap, (h.push o).get? h.objs.size = some o) ∧ Starts X.prog X.w uv o p ∧ ∀ it : Addr, ∃ tn src, Cmp X.prog X.w X.K S xs it l tn src ∧ ∀ h : Heap, h.get? it = some o → tn 0 h := by
  cases k with
  | @lst l xs hS =>
    cases r
    obtain ⟨its, rv, p, _⟩ := I.list hS
    obtain ⟨ol, hol, _⟩ := id p.isList
    refine ⟨hS, l, _, fun h => h.IsList l its.toArray, Heap.lt_size hol, p.isList, fun h ob q => q.push ob, fun h => Heap.get?_push_size _ rfl, fun A E s Q q h => wpAny_pyIter_list q h, fun it => ⟨_, _, cmp_list, fun h e => ⟨_, e, rfl, rfl⟩⟩⟩
  | @keys d o kvs hz =>
    cases r
    obtain ⟨ho, hl, hsys, vs, ep, rel, da⟩ := I.frzAt hz
    obtain ⟨o', es, h1, _, h2, _⟩ := id da
    rw [ho] at h1; cases h1
    have el : kvs.length = vs.length := rel.length
    refine ⟨hz, d, _, fun h => h.DictAt (mixKind X.prog X.w) d vs ep, Heap.lt_size ho, da, fun h ob q => q.push ob, fun h => Heap.get?_push_size _ rfl, fun A E s Q q h => wpAny_pyIter_dict hsys q h, fun it => ⟨_, _, cmp_keys h2, fun h e => ?_⟩⟩
    rw [el]
    exact ⟨_, e, rfl, rfl⟩
  | @vals v d o kvs hv hz =>
    cases r
    obtain ⟨ho, hl, hsys, vs, ep, rel, da⟩ := I.frzAt hz
    obtain ⟨o', es, h1, _, h2, _⟩ := id da
    rw [ho] at h1; cases h1
    have el : kvs.length = vs.length := rel.length
    obtain ⟨hv', _⟩ := (show ObjOk X.prog X.w H s.heap v (vview v d) from I.hok v _ hv)
    refine ⟨hz, d, _, fun h => h.IsValuesView v d ∧ h.DictAt (mixKind X.prog X.w) d vs ep, Heap.lt_size ho, ⟨hv', da⟩, fun h ob ⟨⟨o1, a, b⟩, q⟩ => ⟨⟨o1, Heap.get?_push_of_some _ a, b⟩, q.push ob⟩, fun h => Heap.get?_push_size _ rfl, fun A E s Q q h => wpAny_pyIter_values q.1 q.2 h, fun it => ⟨_, _, cmp_vals h2, fun h e => ?_⟩⟩
    rw [el]
    exact ⟨_, e, rfl, rfl⟩
variable {elts : List Expr} {kk : Nat} {tpos : Pos}
def iZipG (K : PySem.W.Frag) (ta : TA) : TI := fun σ H R => ta σ H fun vs H1 => ∃ u1 u2 S1 S2 xs ys, vs = [u1, u2] ∧ Wk K H1 u1 S1 xs ∧ Wk K H1 u2 S2 ys ∧ R (Itzz S1 S2 xs ys) H1
theorem pi_zipG (K : PySem.W.Frag) {a b : Expr} {ta : TA} {p pos : Pos} (hg : Gl X "zip") (hm : X.mg "zip" = none) (ha : PA X [a, b] ta) (hK : X.K = K := by rfl)
    (hs : starEach [a, b] X.env = [(false, eval a X.env), (false, eval b X.env)] := by rfl) (hs2 : starEach [b] X.env = [(false, eval b X.env)] := by rfl) :
    PI X (.Tuple elts kk tpos) (.Call (.Name "zip" p) [a, b] [] pos) (iZipG K ta) := by
  subst hK
  intro pins s σ H R I h
  refine Call_ (ld_blt I hg hm boot_zip (PyProof.Rows.callWith_type1 (thn (ha pos pins s σ H _ I h) fun us s1 ⟨vs, H1, I1, r1, q1⟩ => ?_) (by rw [hs, hs2]) (by rw [hs2]; rfl)))
  obtain ⟨u1, u2, S1, S2, xs, ys, e, k1, k2, q⟩ := q1
  subst e
  obtain ⟨u, w', rfl, ru, rw'⟩ := vals2 r1
  obtain ⟨g1, l1, o1, p1, lt1, b1, push1, at1, st1, c1⟩ := k1.ok I1 ru
  obtain ⟨g2, l2, o2, p2, lt2, b2, push2, at2, st2, c2⟩ := k2.ok I1 rw'
  refine callType_newIn F.called_zip (by decide) (F.typeCall_zip_2 _ _) (F.newCall_zip_2 _ _) (fun obj => F.args_object_init_3 obj _ _) F.entry_zip_new (meets_zipG st1 st2) ⟨b1, push2 _ _ b2, ?_⟩
  have z1 : (s1.heap.push o1).objs.size = s1.heap.objs.size + 1 := Heap.size_push ..
  have z2 : ((s1.heap.push o1).push o2).objs.size = s1.heap.objs.size + 2 := by rw [Heap.size_push, z1]
  generalize e3 : ({ cls := .type "tuple", data := .seq #[.ref s1.heap.objs.size, .ref (s1.heap.push o1).objs.size] } : Obj) = o3
  have z3 : (((s1.heap.push o1).push o2).push o3).objs.size = s1.heap.objs.size + 3 := by rw [Heap.size_push, z2]
  generalize e4 : ({ cls := .type "tuple", data := .seq #[.none, .none] } : Obj) = o4
  have z4 : ((((s1.heap.push o1).push o2).push o3).push o4).objs.size = s1.heap.objs.size + 4 := by rw [Heap.size_push, z3]
  generalize e5 : ({ cls := .type "zip", data := .fields #[.none, .bool false, .bool false, .ref ((s1.heap.push o1).push o2).objs.size, .ref (((s1.heap.push o1).push o2).push o3).objs.size] } : Obj) = o5
  have g5 : (((((s1.heap.push o1).push o2).push o3).push o4).push o5).get? ((((s1.heap.push o1).push o2).push o3).push o4).objs.size = some o5 := Heap.get?_push_size _ (by rw [← e5]; rfl)
  have g4 : (((((s1.heap.push o1).push o2).push o3).push o4).push o5).get? (((s1.heap.push o1).push o2).push o3).objs.size = some o4 := Heap.get?_push_of_some _ (Heap.get?_push_size _ (by rw [← e4]; rfl))
  have g3 : (((((s1.heap.push o1).push o2).push o3).push o4).push o5).get? ((s1.heap.push o1).push o2).objs.size = some o3 := Heap.get?_push_of_some _ (Heap.get?_push_of_some _ (Heap.get?_push_size _ (by rw [← e3]; rfl)))
  have g2' : (((((s1.heap.push o1).push o2).push o3).push o4).push o5).get? (s1.heap.push o1).objs.size = some o2 := Heap.get?_push_of_some _ (Heap.get?_push_of_some _ (Heap.get?_push_of_some _ (at2 _)))
  have g1' : (((((s1.heap.push o1).push o2).push o3).push o4).push o5).get? s1.heap.objs.size = some o1 := Heap.get?_push_of_some _ (Heap.get?_push_of_some _ (Heap.get?_push_of_some _ (Heap.get?_push_of_some _ (at1 _))))
  have kp : ∀ c o, s1.heap.get? c = some o → (((((s1.heap.push o1).push o2).push o3).push o4).push o5).get? c = some o := fun c o x => Heap.get?_push_of_some _ (Heap.get?_push_of_some _ (Heap.get?_push_of_some _ (Heap.get?_push_of_some _ (Heap.get?_push_of_some _ x))))
  rw [z4] at g5 ⊢
  rw [z3] at g4 e5
  rw [z2] at g3 e5
  rw [z1] at g2' e3
  generalize (((((s1.heap.push o1).push o2).push o3).push o4).push o5) = hN at *
  show _ ∧ _
  subst e3 e4 e5
  refine ⟨⟨_, g5, rfl⟩, wpAny_pyIter_zip (s := { s1 with heap := hN }) g5 ?_⟩
  have I2 : Inv X pins σ H1 { s1 with heap := hN } := I1.kept (t' := s1.toks) kp
  obtain ⟨t1, src1, C1, n1⟩ := c1 s1.heap.objs.size
  obtain ⟨t2, src2, C2, n2⟩ := c2 (s1.heap.objs.size + 1)
  refine ⟨s1.heap.objs.size + 4, [s1.heap.objs.size + 4, s1.heap.objs.size + 2, s1.heap.objs.size + 3, s1.heap.objs.size, s1.heap.objs.size + 1], _, _, H1, rfl, I2, turn_zipG (zipApart_mk lt1 lt2) C1 C2, ⟨g5, g3, ⟨_, _, g4⟩, n1 _ g1', n2 _ g2'⟩, fun b hb => ?_, q⟩
  have hb' : b = s1.heap.objs.size + 4 ∨ b = s1.heap.objs.size + 2 ∨ b = s1.heap.objs.size + 3 ∨ b = s1.heap.objs.size ∨ b = s1.heap.objs.size + 1 := by simpa using hb
  have le : s1.heap.objs.size ≤ b := by
    rcases hb' with r | r | r | r | r
    · rw [r]; exact Nat.le_add_right _ _
    · rw [r]; exact Nat.le_add_right _ _
    · rw [r]; exact Nat.le_add_right _ _
    · rw [r]; exact Nat.le_refl _
    · rw [r]; exact Nat.le_add_right _ _
  exact I1.fpOk le (I1.hok.fresh le)
theorem call_sumV (hc : X.calm = true) : CallR X (.builtin "sum") (fun xs H Q => ∃ (v d : Addr) (kvs : List (Key × V)) (ns : List Int), xs = [.ref v] ∧ H v = some (vview v d) ∧ Rd H d (.dK kvs) ∧ kvs.map (·.2) = ns.map V.int ∧ Q (.int ns.sum) H) := by
  intro pins s σ H xs us Q I r h
  obtain ⟨v, d, kvs, ns, rfl, hv, hz, en, q⟩ := h
  obtain ⟨u, rfl, ru⟩ := vals1 r
  cases ru
  obtain ⟨_, hsys, vs, rel, dd⟩ := dk_rd I.hok hz
  obtain ⟨ep, da⟩ := dd.dictAt
  obtain ⟨hv', _⟩ := (show ObjOk X.prog X.w H s.heap v (vview v d) from I.hok v _ hv)
  have hl : kvs.length = vs.length := rel.length
  have hlt := da.lt_size
  have hne : d ≠ s.heap.objs.size := Nat.ne_of_lt hlt
  have W := (Walks.dictValues (prog := X.prog) (w := X.w) (A := X.A.in1) (knd := mixKind X.prog X.w) (I.ok.hd hc) s.heap.objs.size d hne vs ep).toS
  have hln : kvs.length = ns.length := by have := congrArg List.length en; simpa using this
  refine call_sum_walkAnyS (wpAny_pyIter_values hv' da ?_)
  refine ⟨s.heap.objs.size, _, _, _, _, _, _, fun i => ns.getD i 0, rfl, W, ⟨⟨_, Heap.get?_push_size _ rfl, rfl, rfl⟩, da.push _⟩, fun b hb => ?_, fun i x hP => ?_, fun s' t' hm => ?_⟩
  · rcases List.mem_cons.mp hb with rfl | hb
    · exact Heap.lt_size (Heap.get?_push_size _ rfl)
    · obtain rfl := List.mem_singleton.mp hb
      exact (da.push _).lt_size
  · obtain ⟨k, hk⟩ := hP
    have hil : i < ns.length := by
      have := (List.getElem?_eq_some_iff.mp hk).1
      omega
    have hik : i < kvs.length := by omega
    obtain ⟨q', hq', _, rq⟩ := kv_get rel (List.getElem?_eq_getElem hik)
    rw [hk] at hq'
    cases hq'
    have e1 : kvs[i].2 = V.int (ns.getD i 0) := by
      have := congrArg (fun l => l[i]?) en
      simp only [List.getElem?_map, List.getElem?_eq_getElem hik, List.getElem?_eq_getElem hil] at this
      rw [List.getD_eq_getElem?_getD, List.getElem?_eq_getElem hil]
      exact Option.some.inj this
    rw [e1] at rq
    exact rq
  · obtain ⟨h', g', d', tk', os'⟩ := s'
    have e1 : g' = s.gens := hm.gens
    have e2 : d' = s.drawn := hm.drawn
    have e3 : os' = s.os := hm.os
    subst e1 e2 e3
    have hsz : vs.length = ns.length := by omega
    rw [hsz, preSum_getD, List.take_of_length_le (Nat.le_refl _)]
    exact ⟨.int ns.sum, H, I.kept (h' := h') (t' := tk') fun b o e => hm.heap b o (fun hb => absurd (Heap.lt_size e) ((List.mem_singleton.mp hb) ▸ Nat.lt_irrefl _)) (Heap.get?_push_of_some _ e), ⟨t', rfl⟩, q⟩
end
end L2
namespace L2
open PySem PySem.Spec PyProof.Rows
def setAll : St → List Nat → List V → St
  | σ, k :: ks, v :: vs => setAll (σ.set k (some v)) ks vs
  | σ, _, _ => σ
theorem setAll_set {k : Nat} {v : Option V} : ∀ {ks : List Nat} {vs : List V} {σ : St}, k ∉ ks → (setAll σ ks vs).set k v = setAll (σ.set k v) ks vs
  | [], _, _, _ => by unfold setAll; rfl
  | _ :: _, [], _, _ => by unfold setAll; rfl
  | j :: ks, w :: vs, σ, h => by
    have hj : k ≠ j := fun e => h (by rw [e]; exact List.mem_cons_self)
    show (setAll (σ.set j (some w)) ks vs).set k v = setAll ((σ.set k v).set j (some w)) ks vs
    rw [setAll_set (fun m => h (List.mem_cons_of_mem _ m)), List.set_comm _ _ hj]
theorem setAll_again : ∀ {ks : List Nat} {vs ws : List V} {σ : St}, ks.Nodup → vs.length = ks.length → ws.length = ks.length → setAll (setAll σ ks vs) ks ws = setAll σ ks ws
  | [], [], [], _, _, _, _ => rfl
  | k :: ks, v :: vs, w :: ws, σ, nd, h1, h2 => by
    have nk := (List.nodup_cons.mp nd).1
    show setAll ((setAll (σ.set k (some v)) ks vs).set k (some w)) ks ws = setAll (σ.set k (some w)) ks ws
    rw [setAll_set nk, List.set_set, setAll_again (List.nodup_cons.mp nd).2 (by simpa using h1) (by simpa using h2)]
def gNs : List Nat → TGs
  | [] => gNil
  | k :: ks => gCons (gName k) (gNs ks)
theorem gNs_of {Q : St → Hp → Prop} {H : Hp} : ∀ {ks : List Nat} {vs : List V} {σ : St}, vs.length = ks.length → Q (setAll σ ks vs) H → gNs ks vs σ H Q
  | [], [], _, _, q => ⟨rfl, q⟩
  | k :: ks, v :: vs, σ, h, q => ⟨v, vs, rfl, gNs_of (by simpa using h) q⟩
theorem comp_T {K : PySem.W.Frag} {J : It} {n : Nat} (ks : List Nat) {te : TE} {σ2 : St} {H : Hp} {acc : Addr} {Q : VK} (Pv : Nat → List V → Hp → Prop) (nd : ks.Nodup) (hn : n ≤ 100000) (h0 : Pv 0 [] (upd H acc (.lst [])))
    (hgo : ∀ i out H1, i < n → H1 acc = some (.lst out) → Pv i out H1 → J.go i H1) (hst : ∀ out H1, H1 acc = some (.lst out) → Pv n out H1 → J.stop n H1)
    (hs : ∀ (i : Nat) (x : V) (out : List V) (H1 H2 : Hp), i < n → out.length = i → H1 acc = some (.lst out) → Pv i out H1 → J.yld i H1 x H2 →
      ∃ t vs, x = .ref t ∧ SqT K H2 t vs ∧ vs.length = ks.length ∧ te (setAll σ2 ks vs) H2 fun v H4 => H4 acc = some (.lst out) ∧ Pv (i + 1) (out ++ [v]) (upd H4 acc (.lst (out ++ [v]))))
    (hd : ∀ (out : List V) (H1 : Hp), out.length = n → H1 acc = some (.lst out) → Pv n out H1 → Q (.ref acc) H1) :
    CompG J (gTup K ks.length (gNs ks)) te acc σ2 H Q := by
  refine ⟨fun i m σ' H' => m = n - i ∧ i ≤ n ∧ (∀ ws, ws.length = ks.length → setAll σ' ks ws = setAll σ2 ks ws) ∧ ∃ out, out.length = i ∧ H' acc = some (.lst out) ∧ Pv i out H', ⟨n, by simp, Nat.zero_le _, fun _ _ => rfl, [], rfl, upd_same, h0⟩, ?_⟩
  rintro i m σ' H' ⟨rfl, hi, hσ, out, ho, ha, p⟩
  by_cases hlt : i < n
  · refine .inr ⟨hgo i out H' hlt ha p, fun σ3 => ∀ ws, ws.length = ks.length → setAll σ3 ks ws = setAll σ2 ks ws, fun v H4 => H4 acc = some (.lst out) ∧ Pv (i + 1) (out ++ [v]) (upd H4 acc (.lst (out ++ [v]))), fun σ3 v H4 hS ⟨a, b⟩ => ?_, fun x H1 y => ?_⟩
    · refine ⟨out, a, ?_, n - (i + 1), by omega, rfl, hlt, hS, out ++ [v], by rw [List.length_append, ho]; rfl, upd_same, b⟩
      have : sizeLine = 16777216 := sizeLine_eq
      omega
    · obtain ⟨t, vs, rfl, sq, hl, q⟩ := hs i x out H' H1 hlt ho ha p y
      refine ⟨t, vs, rfl, sq, hl, gNs_of hl ⟨fun ws hw => ?_, ?_⟩⟩
      · rw [setAll_again nd hl hw]; exact hσ ws hw
      · rw [hσ vs hl]; exact q
  · have e : i = n := by omega
    subst e
    exact .inl ⟨hst out H' ha p, hd out H' ho ha p⟩
theorem comp_1 {J : It} {n : Nat} (k : Nat) {te : TE} {σ2 : St} {H : Hp} {acc : Addr} {Q : VK} (Pv : Nat → List V → Hp → Prop) (hn : n ≤ 100000) (h0 : Pv 0 [] (upd H acc (.lst [])))
    (hgo : ∀ i out H1, i < n → H1 acc = some (.lst out) → Pv i out H1 → J.go i H1) (hst : ∀ out H1, H1 acc = some (.lst out) → Pv n out H1 → J.stop n H1)
    (hs : ∀ (i : Nat) (x : V) (out : List V) (H1 H2 : Hp), i < n → out.length = i → H1 acc = some (.lst out) → Pv i out H1 → J.yld i H1 x H2 →
      te (σ2.set k (some x)) H2 fun v H4 => H4 acc = some (.lst out) ∧ Pv (i + 1) (out ++ [v]) (upd H4 acc (.lst (out ++ [v]))))
    (hd : ∀ (out : List V) (H1 : Hp), out.length = n → H1 acc = some (.lst out) → Pv n out H1 → Q (.ref acc) H1) :
    CompG J (gName k) te acc σ2 H Q := by
  refine ⟨fun i m σ' H' => m = n - i ∧ i ≤ n ∧ (∀ w : Option V, σ'.set k w = σ2.set k w) ∧ ∃ out, out.length = i ∧ H' acc = some (.lst out) ∧ Pv i out H', ⟨n, by simp, Nat.zero_le _, fun _ => rfl, [], rfl, upd_same, h0⟩, ?_⟩
  rintro i m σ' H' ⟨rfl, hi, hσ, out, ho, ha, p⟩
  by_cases hlt : i < n
  · refine .inr ⟨hgo i out H' hlt ha p, fun σ3 => ∀ w : Option V, σ3.set k w = σ2.set k w, fun v H4 => H4 acc = some (.lst out) ∧ Pv (i + 1) (out ++ [v]) (upd H4 acc (.lst (out ++ [v]))), fun σ3 v H4 hS ⟨a, b⟩ => ?_, fun x H1 y => ?_⟩
    · refine ⟨out, a, ?_, n - (i + 1), by omega, rfl, hlt, hS, out ++ [v], by rw [List.length_append, ho]; rfl, upd_same, b⟩
      have : sizeLine = 16777216 := sizeLine_eq
      omega
    · refine ⟨fun w => by rw [List.set_set]; exact hσ w, ?_⟩
      rw [hσ]
      exact hs i x out H' H1 hlt ho ha p y
  · have e : i = n := by omega
    subst e
    exact .inl ⟨hst out H' ha p, hd out H' ho ha p⟩
theorem compI_1 {J : It} {n : Nat} (k : Nat) {tc : TT} {te : TE} {σ2 : St} {H : Hp} {acc : Addr} {Q : VK} (Pv : Nat → List V → Hp → Prop) (hn : n ≤ 100000) (h0 : Pv 0 [] (upd H acc (.lst [])))
    (hgo : ∀ i out H1, i < n → H1 acc = some (.lst out) → Pv i out H1 → J.go i H1) (hst : ∀ out H1, H1 acc = some (.lst out) → Pv n out H1 → J.stop n H1)
    (hs : ∀ (i : Nat) (x : V) (out : List V) (H1 H2 : Hp), i < n → out.length ≤ i → H1 acc = some (.lst out) → Pv i out H1 → J.yld i H1 x H2 →
      tc (σ2.set k (some x)) H2 fun b H3 => if b = true then te (σ2.set k (some x)) H3 (fun v H4 => H4 acc = some (.lst out) ∧ Pv (i + 1) (out ++ [v]) (upd H4 acc (.lst (out ++ [v])))) else H3 acc = some (.lst out) ∧ Pv (i + 1) out H3)
    (hd : ∀ (out : List V) (H1 : Hp), out.length ≤ n → H1 acc = some (.lst out) → Pv n out H1 → Q (.ref acc) H1) :
    CompGI J (gName k) tc te acc σ2 H Q := by
  refine ⟨fun i m σ' H' => m = n - i ∧ i ≤ n ∧ (∀ w : Option V, σ'.set k w = σ2.set k w) ∧ ∃ out, out.length ≤ i ∧ H' acc = some (.lst out) ∧ Pv i out H', ⟨n, by simp, Nat.zero_le _, fun _ => rfl, [], Nat.le_refl _, upd_same, h0⟩, ?_⟩
  rintro i m σ' H' ⟨rfl, hi, hσ, out, ho, ha, p⟩
  by_cases hlt : i < n
  · refine .inr ⟨hgo i out H' hlt ha p, fun σ3 => ∀ w : Option V, σ3.set k w = σ2.set k w, fun v H4 => H4 acc = some (.lst out) ∧ Pv (i + 1) (out ++ [v]) (upd H4 acc (.lst (out ++ [v]))), fun H3 => H3 acc = some (.lst out) ∧ Pv (i + 1) out H3, fun σ3 v H4 hS ⟨a, b⟩ => ?_, fun σ3 H4 hS ⟨a, b⟩ => ?_, fun x H1 y => ?_⟩
    · refine ⟨out, a, ?_, n - (i + 1), by omega, rfl, hlt, hS, out ++ [v], by rw [List.length_append]; exact Nat.succ_le_succ ho, upd_same, b⟩
      have : sizeLine = 16777216 := sizeLine_eq
      omega
    · exact ⟨n - (i + 1), by omega, rfl, hlt, hS, out, by omega, a, b⟩
    · refine ⟨fun w => by rw [List.set_set]; exact hσ w, ?_⟩
      rw [hσ]
      exact hs i x out H' H1 hlt ho ha p y
  · have e : i = n := by omega
    subst e
    exact .inl ⟨hst out H' ha p, hd out H' ho ha p⟩
end L2
namespace L2
open PySem PySem.Spec PyProof.Rows
structure Mn (P : Program) (w : World) (K : PySem.W.Frag) (mg : Str → Option Value) (base : Heap) (k : Nat) (C : Addr) (m : Str) (ps : List Str) (sp : Sp) : Prop where
  ex : ∃ f fd, FnOk P w K mg base CX0 k f fd ps sp ∧ Binds K fd ps [] ∧ Meth K C m f ∧ Cls K C
structure Cn (P : Program) (w : World) (K : PySem.W.Frag) (mg : Str → Option Value) (base : Heap) (k : Nat) (x : Str) (C : Addr) (ps : List Str) (sp : Sp) : Prop where
  ex : ∃ f fd, FnOk P w K mg base CX0 k f fd ps sp ∧ Binds K fd ps [] ∧ Mk K C f ∧ mg x = some (.ref C)
section
variable {X : Cx}
theorem pe_mth {pl : Sem Bool} {j k : Nat} {C : Addr} {m : Str} {ps : List Str} {sp : Sp} {o e : Expr} {es : List Expr} {ta : TE} {t : TA} {apos pos : Pos} (D : Mn X.prog X.w X.K X.mg X.base j C m ps sp) (hr : Room k X.A) (ho : PE X o ta) (ha : PA X (e :: es) t) (hj : j ≤ k := by decide)
    (hst : starEach (e :: es) X.env = (false, eval e X.env) :: starEach es X.env := by rfl) (hpl : (backTo pos (starEach es X.env)).any (·.1) = false := by rfl)
    (ht : eval (.Call (.Attribute o m apos) (e :: es) [] pos) X.env = (do
      let ov ← eval o X.env
      standAt apos.atName
      let (f, first) ← holding [ov] (getMethod ov m pl)
      callWith pos f first (backTo pos (starEach (e :: es) X.env)) (backToKw pos (keywordEach [] X.env))) := by rfl) :
    PE X (.Call (.Attribute o m apos) (e :: es) [] pos) (tMeth C m sp [] E0 ta t) := by
  obtain ⟨f, fd, F, b, hm, c⟩ := D.ex
  exact pe_meth (pl := pl) ho c hm F (hr.mono hj) b .nil (fun _ _ _ _ _ _ _ h => h.elim) ha hst hpl ht
theorem pe_mth0 {pl : Sem Bool} {j k : Nat} {C : Addr} {m : Str} {ps : List Str} {sp : Sp} {o : Expr} {ta : TE} {apos pos : Pos} (D : Mn X.prog X.w X.K X.mg X.base j C m ps sp) (hr : Room k X.A) (ho : PE X o ta) (hj : j ≤ k := by decide)
    (ht : eval (.Call (.Attribute o m apos) [] [] pos) X.env = (do
      let ov ← eval o X.env
      standAt apos.atName
      let (f, first) ← holding [ov] (getMethod ov m pl)
      callWith pos f first (backTo pos (starEach [] X.env)) (backToKw pos (keywordEach [] X.env))) := by rfl) :
    PE X (.Call (.Attribute o m apos) [] [] pos) (tMeth C m sp [] E0 ta tNil) := by
  obtain ⟨f, fd, F, b, hm, c⟩ := D.ex
  exact pe_meth0 (pl := pl) ho c hm F (hr.mono hj) b .nil (fun _ _ _ _ _ _ _ h => h.elim) ht
theorem pe_mk {j k : Nat} {x : Str} {C : Addr} {ps : List Str} {sp : Sp} {e : Expr} {es : List Expr} {t : TA} {p pos : Pos} (D : Cn X.prog X.w X.K X.mg X.base j x C ps sp) (hr : Room k X.A) (ha : PA X (e :: es) t) (hj : j + 1 ≤ k := by decide) (hg : Gl X x := by rfl)
    (hdb : (x == ("__debug__" : Str)) = false := by decide) (he : starEach (e :: es) X.env = (false, eval e X.env) :: starEach es X.env := by rfl) (hpl : (backTo pos (starEach es X.env)).any (·.1) = false := by rfl) :
    PE X (.Call (.Name x p) (e :: es) [] pos) (tMake C sp [] E0 t) := by
  obtain ⟨f, fd, F, b, M, m⟩ := D.ex
  exact pe_make M F (hr.mono hj) hg m b .nil (fun _ _ _ _ _ _ _ h => h.elim) ha hdb he hpl
theorem pe_mk0 {j k : Nat} {x : Str} {C : Addr} {ps : List Str} {sp : Sp} {p pos : Pos} (D : Cn X.prog X.w X.K X.mg X.base j x C ps sp) (hr : Room k X.A) (hj : j + 1 ≤ k := by decide) (hg : Gl X x := by rfl)
    (hdb : (x == ("__debug__" : Str)) = false := by decide) : PE X (.Call (.Name x p) [] [] pos) (tMake C sp [] E0 tNil) := by
  obtain ⟨f, fd, F, b, M, m⟩ := D.ex
  exact pe_make0 M F (hr.mono hj) hg m b .nil (fun _ _ _ _ _ _ _ h => h.elim) hdb
def rMulW : V → V → Hp → VK → Prop := fun x y H Q => ∃ i j, x = .int i ∧ y = .int j ∧ CMulW i j ∧ Q (.int (i * j)) H
theorem in_mulW : InOp X .Mult rMulW := by
  rintro pins s σ H x y u v Q I rx ry ⟨i, j, rfl, rfl, ⟨m, n, h1, h2, h3⟩, q⟩
  obtain ⟨t, rfl⟩ := (show ∃ t, u = Value.int i t from rx)
  obtain ⟨t', rfl⟩ := (show ∃ t', v = Value.int j t' from ry)
  exact PyProof.Rows.imul_int ⟨.int (i * j), H, I.tok _, ⟨_, rfl⟩, q⟩ (IntMulOk.of_le (PySem.intBits_le_iff.mpr h1) (PySem.intBits_le_iff.mpr h2) h3)
theorem pe_fldK (K : PySem.W.Frag) {e : Expr} {f : Str} {ta : TE} {pos : Pos} (he : PE X e ta) (hb : attributeBase e f X.env (eval e X.env) = eval e X.env := by rfl) (hK : X.K = K := by rfl) : PE X (.Attribute e f pos) (tFld K ta f) := hK ▸ pe_fld he hb
theorem ps_fldK (K : PySem.W.Frag) {o value : Expr} {f : Str} {ta tv : TE} {pos pos' : Pos} (ha : PE X o ta) (hv : PE X value tv) (hs : swapsWith value (some (.Attribute o f pos')) pos.line X.env = pure false := by rfl) (hK : X.K = K := by rfl) : PS X (.Assign [.Attribute o f pos'] value pos) (sFld K ta tv f) := hK ▸ ps_fld ha hv hs
theorem ps_fldaugK (K : PySem.W.Frag) {o value : Expr} {f : Str} {ta tv : TE} {pos tpos : Pos} {op : Operator} {rd : V → V → Hp → VK → Prop} (ha : PE X o ta) (hv : PE X value tv) (hop : InOp X op rd) (hK : X.K = K := by rfl) : PS X (.AugAssign (.Attribute o f tpos) op value pos) (sFldAug K ta tv rd f) := hK ▸ ps_fldaug ha hv hop
end
structure AtM (K : PySem.W.Frag) (C : Addr) (m qual : Str) (st : Stmt) (f : Addr) (fd : FuncData) : Prop where
  fn : Fun K m qual st f fd
  me : Meth K C m f
  cl : Cls K C
theorem AtM.ok {P : Program} {w : World} {K : PySem.W.Frag} {mg : Str → Option Value} {base : Heap} {C : Addr} {m qual : Str} {st : Stmt} {f : Addr} {fd : FuncData} {N ps : List Str} {k : Nat} {sp : Sp} (F : AtM K C m qual st f fd) (S : FnScope N ps (defScope st)) (len : ∀ vs H Q E, sp vs H Q E → vs.length = ps.length)
    (hbody : ∀ (cdv : Value) (A : Around) (outer : List Env) (s : Shared) (H : Hp) (vs : List V) (Q : VK) (E : XK), Room k (A.deeper (envOfC qual (defScope st) s.heap.objs.size f cdv)) → sp vs H Q E →
      ∃ t, PSs (cxOf CX0 P w K mg base N qual (defScope st) f cdv A outer s H E).nox (defBody st) t ∧ t { nx := fun _ H' => Q .non H', rt := Q } (start N vs) H)
    (h : ∀ (kV doc pm : Value) (an : Option Addr) (cdv ct : Value) (us : List Value), us.length = ps.length → bindArgs (PySem.W.fnOf m qual (defArgs st) (defBody st) (defScope st) .none kV doc pm an cdv ct) ⟨us, []⟩ = pure (ps.zip us)) :
    Mn P w K mg base (k + 1) C m ps sp := ⟨f, fd, F.fn.ok S len hbody, F.fn.binds h, F.me, F.cl⟩
structure AtC (K : PySem.W.Frag) (mg : Str → Option Value) (x : Str) (C : Addr) (qual : Str) (st : Stmt) (f : Addr) (fd : FuncData) : Prop where
  fn : Fun K "__init__" qual st f fd
  mks : Mk K C f
  name : mg x = some (.ref C)
theorem AtC.ok {P : Program} {w : World} {K : PySem.W.Frag} {mg : Str → Option Value} {base : Heap} {C : Addr} {x qual : Str} {st : Stmt} {f : Addr} {fd : FuncData} {N ps : List Str} {k : Nat} {sp : Sp} (F : AtC K mg x C qual st f fd) (S : FnScope N ps (defScope st)) (len : ∀ vs H Q E, sp vs H Q E → vs.length = ps.length)
    (hbody : ∀ (cdv : Value) (A : Around) (outer : List Env) (s : Shared) (H : Hp) (vs : List V) (Q : VK) (E : XK), Room k (A.deeper (envOfC qual (defScope st) s.heap.objs.size f cdv)) → sp vs H Q E →
      ∃ t, PSs (cxOf CX0 P w K mg base N qual (defScope st) f cdv A outer s H E).nox (defBody st) t ∧ t { nx := fun _ H' => Q .non H', rt := Q } (start N vs) H)
    (h : ∀ (kV doc pm : Value) (an : Option Addr) (cdv ct : Value) (us : List Value), us.length = ps.length → bindArgs (PySem.W.fnOf "__init__" qual (defArgs st) (defBody st) (defScope st) .none kV doc pm an cdv ct) ⟨us, []⟩ = pure (ps.zip us)) :
    Cn P w K mg base (k + 1) x C ps sp := ⟨f, fd, F.fn.ok S len hbody, F.fn.binds h, F.mks, F.name⟩
end L2
namespace L2
open PySem PySem.Spec PyProof.Rows
abbrev Col := Nat × Nat × Str
abbrev Rho := Addr → Option Col
abbrev col (n t : Nat) : Option Col := some (n, t, (⟨#[]⟩ : Str))
def isTup : HO → Bool
  | .tup _ => true
  | _ => false
def Gh (ρ : Rho) (H : Hp) : Prop := ∀ b c, ρ b = some c → ∃ o, H b = some o ∧ isTup o = false
def Fr (n : Nat) (ρ : Rho) (H : Hp) (ρ' : Rho) (H' : Hp) : Prop := ∀ b o, H b = some o → (∀ t x, ρ b ≠ some (n, t, x)) → H' b = some o ∧ ρ' b = ρ b
def updC (ρ : Rho) (a : Addr) (c : Col) : Rho := fun b => if b = a then some c else ρ b
theorem updC_same {ρ : Rho} {a : Addr} {c : Col} : updC ρ a c a = some c := if_pos rfl
theorem updC_ne {ρ : Rho} {a b : Addr} {c : Col} (h : b ≠ a) : updC ρ a c b = ρ b := if_neg h
def out (ρ : Rho) (H : Hp) : Hp := fun b => if ρ b = none then H b else none
theorem out_of {ρ : Rho} {H : Hp} {b : Addr} {o : HO} (h : H b = some o) (c : ρ b = none) : out ρ H b = some o := by
  unfold out; rw [if_pos c]; exact h
theorem out_some {ρ : Rho} {H : Hp} {b : Addr} {o : HO} (h : out ρ H b = some o) : H b = some o ∧ ρ b = none := by
  unfold out at h
  split at h
  · next c => exact ⟨h, c⟩
  · cases h
theorem Gh.none {ρ : Rho} {H : Hp} (g : Gh ρ H) {b : Addr} (h : H b = Option.none) : ρ b = Option.none := by
  cases e : ρ b with
  | none => rfl
  | some c => obtain ⟨o, q, _⟩ := g b c e; rw [h] at q; cases q
theorem Gh.tup {ρ : Rho} {H : Hp} (g : Gh ρ H) {b : Addr} {xs : List V} (h : H b = some (.tup xs)) : ρ b = Option.none := by
  cases e : ρ b with
  | none => rfl
  | some c => obtain ⟨o, q, t⟩ := g b c e; rw [h] at q; cases q; cases t
theorem Gh.same {ρ : Rho} {H H' : Hp} (g : Gh ρ H) (s : Same H H') : Gh ρ H' := fun b c e => let ⟨o, h, t⟩ := g b c e; ⟨o, s b o h, t⟩
theorem Gh.wr {ρ : Rho} {H : Hp} (g : Gh ρ H) {a : Addr} {o : HO} (t : isTup o = false) : Gh ρ (upd H a o) := fun b c e => by
  by_cases h : b = a
  · rw [h, upd_same]; exact ⟨o, rfl, t⟩
  · rw [upd_ne h]; exact g b c e
theorem Gh.alloc {ρ : Rho} {H : Hp} (g : Gh ρ H) {a : Addr} {o : HO} (h : H a = Option.none) : Gh ρ (upd H a o) := g.same (same_new h o)
theorem Gh.color {ρ : Rho} {H : Hp} (g : Gh ρ H) {a : Addr} {c : Col} {o : HO} (h : H a = some o) (t : isTup o = false) : Gh (updC ρ a c) H := fun b d e => by
  by_cases z : b = a
  · rw [z]; exact ⟨o, h, t⟩
  · rw [updC_ne z] at e; exact g b d e
theorem Fr.refl {n : Nat} {ρ : Rho} {H : Hp} : Fr n ρ H ρ H := fun _ _ h _ => ⟨h, rfl⟩
theorem Fr.trans {n : Nat} {ρ ρ1 ρ2 : Rho} {H H1 H2 : Hp} (a : Fr n ρ H ρ1 H1) (b : Fr n ρ1 H1 ρ2 H2) : Fr n ρ H ρ2 H2 := fun c o h k => by
  obtain ⟨h1, e1⟩ := a c o h k
  obtain ⟨h2, e2⟩ := b c o h1 (by rw [e1]; exact k)
  exact ⟨h2, e2.trans e1⟩
theorem Fr.of_same {n : Nat} {ρ : Rho} {H H' : Hp} (s : Same H H') : Fr n ρ H ρ H' := fun b o h _ => ⟨s b o h, rfl⟩
theorem Fr.write {n : Nat} {ρ : Rho} {H : Hp} {a : Addr} {o : HO} {t : Nat} {x : Str} (c : ρ a = some (n, t, x)) : Fr n ρ H ρ (upd H a o) := fun b u h k => by
  have : b ≠ a := fun e => k t x (by rw [e]; exact c)
  rw [upd_ne this]; exact ⟨h, rfl⟩
theorem Fr.color {n : Nat} {ρ : Rho} {H : Hp} {a : Addr} {c : Col} (h : H a = none) {H' : Hp} (s : Same H H') : Fr n ρ H (updC ρ a c) H' := fun b u e k => by
  rw [updC_ne (ne_of_none e h)]; exact ⟨s b u e, rfl⟩
theorem Fr.out {n : Nat} {ρ ρ' : Rho} {H H' : Hp} (f : Fr n ρ H ρ' H') : Same (out ρ H) (out ρ' H') := fun b o h => by
  obtain ⟨h1, c⟩ := out_some h
  obtain ⟨h2, e⟩ := f b o h1 (fun t x => by rw [c]; intro z; cases z)
  exact out_of h2 (e.trans c)
theorem out_same {ρ : Rho} {H H' : Hp} (s : Same H H') : Same (out ρ H) (out ρ H') := fun b o h => by
  obtain ⟨h1, c⟩ := out_some h
  exact out_of (s b o h1) c
structure Pt where
  nm : Str
  ow : Str
  wo : Int
  we : Int
  sc : Int
  row : List Int
structure Ash where
  nm : Str
  ow : Str
  wo : Int
  sh : List (Str × Rat)
structure HS where
  own : List Str
  pts : List Pt
  ash : List Ash
  nms : List Str
  stp : List Int
  prod : Int
  kn : Nat
  com : List Int
  pur : List Int
structure HA where
  a : Addr
  dx : Addr
  pl : Addr
  ab : Addr
  as : Addr
  nm : Addr
  bt : Addr
  db : Addr
  cm : Addr
  pu : Addr
  sp : Addr
  kn : Addr
  qs : List (Addr × Addr × Addr)
structure TC where
  hold : Addr
  part : Addr
  bot : Addr
def plK : Nat → List Str → List (Key × V)
  | _, [] => []
  | i, o :: r => (Sum.inr o, .int i) :: plK (i + 1) r
def abK (ps : List Pt) (qs : List (Addr × Addr × Addr)) : List (Key × V) := List.zipWith (fun p q => ((Sum.inr p.nm : Key), V.ref q.1)) ps qs
def nmK (l : List Str) : List (Key × V) := l.map fun x => (Sum.inr x, .bl true)
def fldH (A : HA) : List (Str × V) := [("places", .ref A.pl), ("aboard", .ref A.ab), ("ashore", .ref A.as), ("names", .ref A.nm), ("bottom", .ref A.bt), ("common", .ref A.cm), ("purses", .ref A.pu)]
def fldP (p : Pt) (r : Addr) : List (Str × V) := [("name", .str p.nm), ("owner", .str p.ow), ("worth", .int p.wo), ("weight", .int p.we), ("scale", .int p.sc), ("row", .ref r)]
def fldB (sp : Addr) (prod : Int) (kn : Addr) : List (Str × V) := [("steps", .ref sp), ("product", .int prod), ("known", .ref kn)]
def KnAt (H : Hp) (kvs : List (Key × V)) (prod : Int) : Prop := ∀ p ∈ kvs, ∃ (t : Int) (r : Addr), p = (Sum.inl t, V.ref r) ∧ H r = some (ratO (Jm.fr t prod))
inductive ShAt (H : Hp) : List V → List (Str × Rat) → Prop
  | nil : ShAt H [] []
  | cons {r f : Addr} {x : Str} {q : Rat} {vs : List V} {l : List (Str × Rat)} : H r = some (.tup [.str x, .ref f]) → H f = some (ratO q) → ShAt H vs l → ShAt H (.ref r :: vs) ((x, q) :: l)
inductive AshAt (n : Nat) (ρ : Rho) (H : Hp) : List V → List Ash → Prop
  | nil : AshAt n ρ H [] []
  | cons {r l : Addr} {x : Ash} {ss : List V} {vs : List V} {as : List Ash} : H r = some (.tup [.str x.nm, .str x.ow, .int x.wo, .ref l]) → H l = some (.lst ss) → ρ l = some (n, 30, x.nm) → ShAt H ss x.sh → AshAt n ρ H vs as → AshAt n ρ H (.ref r :: vs) (x :: as)
structure HoldAt (T : TC) (n : Nat) (ρ : Rho) (A : HA) (H : Hp) (st : HS) : Prop where
  oa : H A.a = some (.ins T.hold A.dx (fldH A))
  ca : ρ A.a = col n 0
  opl : H A.pl = some (.dK (plK 0 st.own))
  cpl : ρ A.pl = col n 1
  oab : H A.ab = some (.dK (abK st.pts A.qs))
  cab : ρ A.ab = col n 2
  oas : ∃ vs, H A.as = some (.lst vs) ∧ AshAt n ρ H vs st.ash
  cas : ρ A.as = col n 3
  onm : H A.nm = some (.dK (nmK st.nms))
  cnm : ρ A.nm = col n 4
  obt : H A.bt = some (.ins T.bot A.db (fldB A.sp st.prod A.kn))
  cbt : ρ A.bt = col n 5
  ocm : H A.cm = some (.lst (st.com.map V.int))
  ccm : ρ A.cm = col n 6
  opu : H A.pu = some (.lst (st.pur.map V.int))
  cpu : ρ A.pu = col n 7
  osp : H A.sp = some (.lst (st.stp.map V.int))
  csp : ρ A.sp = col n 8
  okn : ∃ kvs, H A.kn = some (.dK kvs) ∧ KnAt H kvs st.prod ∧ kvs.length ≤ st.kn ∧ (kvs.map (·.1)).Nodup
  ckn : ρ A.kn = col n 9
  ql : A.qs.length = st.pts.length
  opt : ∀ (i : Nat) (p : Pt) (q : Addr × Addr × Addr), st.pts[i]? = some p → A.qs[i]? = some q → H q.1 = some (.ins T.part q.2.1 (fldP p q.2.2)) ∧ H q.2.2 = some (.lst (p.row.map V.int)) ∧ ρ q.1 = some (n, 20, p.nm) ∧ ρ q.2.2 = some (n, 21, p.nm)
theorem col_ne {ρ : Rho} {a b : Addr} {c d : Col} (ha : ρ a = some c) (hb : ρ b = some d) (h : c ≠ d) : a ≠ b := fun e => by
  rw [e, hb] at ha; cases ha; exact h rfl
theorem col_ne_none {ρ : Rho} {a b : Addr} {c : Col} (ha : ρ a = none) (hb : ρ b = some c) : a ≠ b := fun e => by rw [e, hb] at ha; cases ha
theorem ShAt.mono {H H' : Hp} {vs : List V} {l : List (Str × Rat)} (h : ShAt H vs l) (g : ∀ b xs, H b = some (.tup xs) → H' b = some (.tup xs)) : ShAt H' vs l := by
  induction h with
  | nil => exact .nil
  | cons a b _ ih => exact .cons (g _ _ a) (g _ _ b) ih
def Kp (n : Nat) (ρ ρ' : Rho) (H H' : Hp) (ts : Nat → Bool) : Prop := (∀ b xs, H b = some (.tup xs) → H' b = some (.tup xs)) ∧ ∀ b t x o, ts t = true → ρ b = some (n, t, x) → H b = some o → H' b = some o ∧ ρ' b = some (n, t, x)
theorem AshAt.keep {n : Nat} {ρ ρ' : Rho} {H H' : Hp} {vs : List V} {l : List Ash} (h : AshAt n ρ H vs l) {ts : Nat → Bool} (k : Kp n ρ ρ' H H' ts) (e : ts 30 = true) : AshAt n ρ' H' vs l := by
  induction h with
  | nil => exact .nil
  | cons a b c d _ ih => exact .cons (k.1 _ _ a) (k.2 _ _ _ _ e c b).1 (k.2 _ _ _ _ e c b).2 (d.mono k.1) ih
theorem kp_write {n t : Nat} {x : Str} {ρ : Rho} {H : Hp} {a : Addr} {o : HO} (g : Gh ρ H) (c : ρ a = some (n, t, x)) : Kp n ρ ρ H (upd H a o) (fun u => decide (u ≠ t)) := by
  refine ⟨fun b xs h => ?_, fun b u y w hu hc h => ⟨?_, hc⟩⟩
  · rw [upd_ne (col_ne_none (g.tup h) c)]; exact h
  · rw [upd_ne (col_ne hc c (fun e => by cases e; exact absurd hu (by simp)))]; exact h
theorem kp_same {n : Nat} {ρ : Rho} {H H' : Hp} {ts : Nat → Bool} (s : Same H H') : Kp n ρ ρ H H' ts := ⟨fun b xs h => s _ _ h, fun b u y w _ hc h => ⟨s _ _ h, hc⟩⟩
theorem HoldAt.same {T : TC} {n : Nat} {ρ ρ' : Rho} {A : HA} {H H' : Hp} {st : HS} (h : HoldAt T n ρ A H st) (k : Kp n ρ ρ' H H' fun _ => true) : HoldAt T n ρ' A H' st := by
  have z := fun {b : Addr} {t : Nat} {x : Str} {o : HO} (c : ρ b = some (n, t, x)) (e : H b = some o) => k.2 b t x o rfl c e
  obtain ⟨vs, h1, h2⟩ := h.oas
  obtain ⟨kvs, k1, k2, k3⟩ := h.okn
  exact ⟨(z h.ca h.oa).1, (z h.ca h.oa).2, (z h.cpl h.opl).1, (z h.cpl h.opl).2, (z h.cab h.oab).1, (z h.cab h.oab).2, ⟨vs, (z h.cas h1).1, h2.keep k rfl⟩, (z h.cas h1).2, (z h.cnm h.onm).1, (z h.cnm h.onm).2, (z h.cbt h.obt).1, (z h.cbt h.obt).2,
    (z h.ccm h.ocm).1, (z h.ccm h.ocm).2, (z h.cpu h.opu).1, (z h.cpu h.opu).2, (z h.csp h.osp).1, (z h.csp h.osp).2, ⟨kvs, (z h.ckn k1).1, fun p hp => let ⟨t, r, e, q⟩ := k2 p hp; ⟨t, r, e, k.1 _ _ q⟩, k3⟩, (z h.ckn k1).2, h.ql,
    fun i p q e1 e2 => let ⟨a, b, c, d⟩ := h.opt i p q e1 e2; ⟨(z c a).1, (z d b).1, (z c a).2, (z d b).2⟩⟩
theorem HoldAt.mono {T : TC} {n : Nat} {ρ : Rho} {A : HA} {H H' : Hp} {st : HS} (h : HoldAt T n ρ A H st) (s : Same H H') : HoldAt T n ρ A H' st := h.same (kp_same s)
theorem HoldAt.other {T : TC} {n m : Nat} {ρ ρ' : Rho} {A : HA} {H H' : Hp} {st : HS} (h : HoldAt T m ρ A H st) (f : Fr n ρ H ρ' H') (g : Gh ρ H) (e : m ≠ n) : HoldAt T m ρ' A H' st :=
  h.same ⟨fun b xs q => (f b _ q fun t x => by rw [g.tup q]; intro z; cases z).1, fun b t x o _ c q => by
    obtain ⟨a, b'⟩ := f b o q fun t' x' => by rw [c]; intro z; cases z; exact e rfl
    exact ⟨a, b'.trans c⟩⟩
theorem abK_set {p0 p1 : Pt} : ∀ {ps : List Pt} {qs : List (Addr × Addr × Addr)} {i : Nat}, ps[i]? = some p0 → p1.nm = p0.nm → abK (ps.set i p1) qs = abK ps qs
  | [], _, _, h, _ => by simp at h
  | _ :: _, [], _, _, _ => by simp [abK]
  | p :: ps, q :: qs, 0, h, e => by
    have : p = p0 := by simpa using h
    simp [abK, e, this]
  | p :: ps, q :: qs, i + 1, h, e => by
    have := abK_set (qs := qs) (by simpa using h : ps[i]? = some p0) e
    simp only [abK, List.set_cons_succ, List.zipWith_cons_cons] at this ⊢
    rw [this]
theorem nm_inj {ps : List Pt} (nd : (ps.map (·.nm)).Nodup) {i j : Nat} {p q : Pt} (h1 : ps[i]? = some p) (h2 : ps[j]? = some q) (e : p.nm = q.nm) : i = j := by
  have a : (ps.map (·.nm))[i]? = some p.nm := by rw [List.getElem?_map, h1]; rfl
  have b : (ps.map (·.nm))[j]? = some p.nm := by rw [List.getElem?_map, h2, e]; rfl
  exact nodup_ix nd a b
theorem opt_set {T : TC} {n : Nat} {ρ : Rho} {A : HA} {H H' : Hp} {st : HS} (h : HoldAt T n ρ A H st) {ts : Nat → Bool} (k : Kp n ρ ρ H H' ts) (nd : (st.pts.map (·.nm)).Nodup) {i : Nat} {p0 p1 : Pt} {q0 : Addr × Addr × Addr} (ep : st.pts[i]? = some p0) (eq : A.qs[i]? = some q0) (e1 : p1.nm = p0.nm)
    (hw : H' q0.1 = some (.ins T.part q0.2.1 (fldP p1 q0.2.2))) (hs : ∀ {b : Addr} {t : Nat} {x : Str} {o : HO}, ρ b = some (n, t, x) → t ≠ 20 ∨ x ≠ p0.nm → H b = some o → H' b = some o) (er : (.lst (p0.row.map V.int) : HO) = .lst (p1.row.map V.int)) :
    ∀ (j : Nat) (p : Pt) (q : Addr × Addr × Addr), (st.pts.set i p1)[j]? = some p → A.qs[j]? = some q → H' q.1 = some (.ins T.part q.2.1 (fldP p q.2.2)) ∧ H' q.2.2 = some (.lst (p.row.map V.int)) ∧ ρ q.1 = some (n, 20, p.nm) ∧ ρ q.2.2 = some (n, 21, p.nm) := by
  intro j p q ej eq'
  by_cases hj : i = j
  · subst hj
    rw [eq] at eq'; cases eq'
    rw [List.getElem?_set_self (List.getElem?_eq_some_iff.mp ep).1] at ej
    cases ej
    obtain ⟨a, b, c, d⟩ := h.opt i p0 q0 ep eq
    exact ⟨hw, by rw [← er]; exact hs d (.inl (by decide)) b, by rw [e1]; exact c, by rw [e1]; exact d⟩
  · rw [List.getElem?_set_ne hj] at ej
    obtain ⟨a, b, c, d⟩ := h.opt j p q ej eq'
    exact ⟨hs c (.inr fun e => hj (nm_inj nd ep ej e.symm)) a, hs d (.inl (by decide)) b, c, d⟩
theorem opt_set2 {T : TC} {n : Nat} {ρ : Rho} {A : HA} {H H' : Hp} {st : HS} (h : HoldAt T n ρ A H st) (nd : (st.pts.map (·.nm)).Nodup) {i : Nat} {p0 : Pt} {l : List Int} {q0 : Addr × Addr × Addr} (ep : st.pts[i]? = some p0) (eq : A.qs[i]? = some q0)
    (hw : H' q0.2.2 = some (.lst (l.map V.int))) (hs : ∀ {b : Addr} {t : Nat} {x : Str} {o : HO}, ρ b = some (n, t, x) → t ≠ 21 ∨ x ≠ p0.nm → H b = some o → H' b = some o) :
    ∀ (j : Nat) (p : Pt) (q : Addr × Addr × Addr), (st.pts.set i { p0 with row := l })[j]? = some p → A.qs[j]? = some q → H' q.1 = some (.ins T.part q.2.1 (fldP p q.2.2)) ∧ H' q.2.2 = some (.lst (p.row.map V.int)) ∧ ρ q.1 = some (n, 20, p.nm) ∧ ρ q.2.2 = some (n, 21, p.nm) := by
  intro j p q ej eq'
  by_cases hj : i = j
  · subst hj
    rw [eq] at eq'; cases eq'
    rw [List.getElem?_set_self (List.getElem?_eq_some_iff.mp ep).1] at ej
    cases ej
    obtain ⟨a, b, c, d⟩ := h.opt i p0 q0 ep eq
    exact ⟨hs c (.inl (by decide)) a, hw, c, d⟩
  · rw [List.getElem?_set_ne hj] at ej
    obtain ⟨a, b, c, d⟩ := h.opt j p q ej eq'
    exact ⟨hs c (.inl (by decide)) a, hs d (.inr fun e => hj (nm_inj nd ep ej e.symm)) b, c, d⟩
theorem kp_write2 {n t : Nat} {x : Str} {ρ : Rho} {H : Hp} {a : Addr} {o : HO} (c : ρ a = some (n, t, x)) : ∀ {b : Addr} {u : Nat} {y : Str} {w : HO}, ρ b = some (n, u, y) → u ≠ t ∨ y ≠ x → H b = some w → upd H a o b = some w := fun {b u y w} hc hu h => by
  rw [upd_ne (col_ne hc c (fun e => by cases e; rcases hu with z | z <;> exact z rfl))]; exact h
theorem HoldAt.set_pl {T : TC} {n : Nat} {ρ : Rho} {A : HA} {H : Hp} {st : HS} (h : HoldAt T n ρ A H st) (g : Gh ρ H) (l : List Str) : HoldAt T n ρ A (upd H A.pl (.dK (plK 0 l))) { st with own := l } := by
  have k := kp_write (o := .dK (plK 0 l)) g h.cpl
  have z := fun {b : Addr} {t : Nat} {x : Str} {o : HO} (u : decide (t ≠ 1) = true) (c : ρ b = some (n, t, x)) (e : H b = some o) => (k.2 b t x o u c e).1
  obtain ⟨vs, h1, h2⟩ := h.oas
  obtain ⟨kvs, k1, k2, k3⟩ := h.okn
  exact ⟨z (by decide) h.ca h.oa, h.ca, upd_same, h.cpl, z (by decide) h.cab h.oab, h.cab, ⟨vs, z (by decide) h.cas h1, h2.keep k (by decide)⟩, h.cas, z (by decide) h.cnm h.onm, h.cnm, z (by decide) h.cbt h.obt, h.cbt, z (by decide) h.ccm h.ocm, h.ccm, z (by decide) h.cpu h.opu, h.cpu, z (by decide) h.csp h.osp, h.csp, ⟨kvs, z (by decide) h.ckn k1, fun p hp => let ⟨t, r, e, q⟩ := k2 p hp; ⟨t, r, e, k.1 _ _ q⟩, k3⟩, h.ckn, h.ql, fun i p q e1 e2 => let ⟨a, b, c, d⟩ := h.opt i p q e1 e2; ⟨z (by decide) c a, z (by decide) d b, c, d⟩⟩
theorem HoldAt.set_ab {T : TC} {n : Nat} {ρ : Rho} {A : HA} {H : Hp} {st : HS} (h : HoldAt T n ρ A H st) (g : Gh ρ H) (ps : List Pt) (qs : List (Addr × Addr × Addr)) (el : qs.length = ps.length) (hp : ∀ (i : Nat) (p : Pt) (q : Addr × Addr × Addr), ps[i]? = some p → qs[i]? = some q → H q.1 = some (.ins T.part q.2.1 (fldP p q.2.2)) ∧ H q.2.2 = some (.lst (p.row.map V.int)) ∧ ρ q.1 = some (n, 20, p.nm) ∧ ρ q.2.2 = some (n, 21, p.nm)) : HoldAt T n ρ { A with qs := qs } (upd H A.ab (.dK (abK ps qs))) { st with pts := ps } := by
  have k := kp_write (o := .dK (abK ps qs)) g h.cab
  have z := fun {b : Addr} {t : Nat} {x : Str} {o : HO} (u : decide (t ≠ 2) = true) (c : ρ b = some (n, t, x)) (e : H b = some o) => (k.2 b t x o u c e).1
  obtain ⟨vs, h1, h2⟩ := h.oas
  obtain ⟨kvs, k1, k2, k3⟩ := h.okn
  exact ⟨z (by decide) h.ca h.oa, h.ca, z (by decide) h.cpl h.opl, h.cpl, upd_same, h.cab, ⟨vs, z (by decide) h.cas h1, h2.keep k (by decide)⟩, h.cas, z (by decide) h.cnm h.onm, h.cnm, z (by decide) h.cbt h.obt, h.cbt, z (by decide) h.ccm h.ocm, h.ccm, z (by decide) h.cpu h.opu, h.cpu, z (by decide) h.csp h.osp, h.csp, ⟨kvs, z (by decide) h.ckn k1, fun p hp => let ⟨t, r, e, q⟩ := k2 p hp; ⟨t, r, e, k.1 _ _ q⟩, k3⟩, h.ckn, el, fun i p q e1 e2 => let ⟨a, b, c, d⟩ := hp i p q e1 e2; ⟨z (by decide) c a, z (by decide) d b, c, d⟩⟩
theorem HoldAt.set_nm {T : TC} {n : Nat} {ρ : Rho} {A : HA} {H : Hp} {st : HS} (h : HoldAt T n ρ A H st) (g : Gh ρ H) (l : List Str) : HoldAt T n ρ A (upd H A.nm (.dK (nmK l))) { st with nms := l } := by
  have k := kp_write (o := .dK (nmK l)) g h.cnm
  have z := fun {b : Addr} {t : Nat} {x : Str} {o : HO} (u : decide (t ≠ 4) = true) (c : ρ b = some (n, t, x)) (e : H b = some o) => (k.2 b t x o u c e).1
  obtain ⟨vs, h1, h2⟩ := h.oas
  obtain ⟨kvs, k1, k2, k3⟩ := h.okn
  exact ⟨z (by decide) h.ca h.oa, h.ca, z (by decide) h.cpl h.opl, h.cpl, z (by decide) h.cab h.oab, h.cab, ⟨vs, z (by decide) h.cas h1, h2.keep k (by decide)⟩, h.cas, upd_same, h.cnm, z (by decide) h.cbt h.obt, h.cbt, z (by decide) h.ccm h.ocm, h.ccm, z (by decide) h.cpu h.opu, h.cpu, z (by decide) h.csp h.osp, h.csp, ⟨kvs, z (by decide) h.ckn k1, fun p hp => let ⟨t, r, e, q⟩ := k2 p hp; ⟨t, r, e, k.1 _ _ q⟩, k3⟩, h.ckn, h.ql, fun i p q e1 e2 => let ⟨a, b, c, d⟩ := h.opt i p q e1 e2; ⟨z (by decide) c a, z (by decide) d b, c, d⟩⟩
theorem HoldAt.set_cm {T : TC} {n : Nat} {ρ : Rho} {A : HA} {H : Hp} {st : HS} (h : HoldAt T n ρ A H st) (g : Gh ρ H) (l : List Int) : HoldAt T n ρ A (upd H A.cm (.lst (l.map V.int))) { st with com := l } := by
  have k := kp_write (o := .lst (l.map V.int)) g h.ccm
  have z := fun {b : Addr} {t : Nat} {x : Str} {o : HO} (u : decide (t ≠ 6) = true) (c : ρ b = some (n, t, x)) (e : H b = some o) => (k.2 b t x o u c e).1
  obtain ⟨vs, h1, h2⟩ := h.oas
  obtain ⟨kvs, k1, k2, k3⟩ := h.okn
  exact ⟨z (by decide) h.ca h.oa, h.ca, z (by decide) h.cpl h.opl, h.cpl, z (by decide) h.cab h.oab, h.cab, ⟨vs, z (by decide) h.cas h1, h2.keep k (by decide)⟩, h.cas, z (by decide) h.cnm h.onm, h.cnm, z (by decide) h.cbt h.obt, h.cbt, upd_same, h.ccm, z (by decide) h.cpu h.opu, h.cpu, z (by decide) h.csp h.osp, h.csp, ⟨kvs, z (by decide) h.ckn k1, fun p hp => let ⟨t, r, e, q⟩ := k2 p hp; ⟨t, r, e, k.1 _ _ q⟩, k3⟩, h.ckn, h.ql, fun i p q e1 e2 => let ⟨a, b, c, d⟩ := h.opt i p q e1 e2; ⟨z (by decide) c a, z (by decide) d b, c, d⟩⟩
theorem HoldAt.set_pu {T : TC} {n : Nat} {ρ : Rho} {A : HA} {H : Hp} {st : HS} (h : HoldAt T n ρ A H st) (g : Gh ρ H) (l : List Int) : HoldAt T n ρ A (upd H A.pu (.lst (l.map V.int))) { st with pur := l } := by
  have k := kp_write (o := .lst (l.map V.int)) g h.cpu
  have z := fun {b : Addr} {t : Nat} {x : Str} {o : HO} (u : decide (t ≠ 7) = true) (c : ρ b = some (n, t, x)) (e : H b = some o) => (k.2 b t x o u c e).1
  obtain ⟨vs, h1, h2⟩ := h.oas
  obtain ⟨kvs, k1, k2, k3⟩ := h.okn
  exact ⟨z (by decide) h.ca h.oa, h.ca, z (by decide) h.cpl h.opl, h.cpl, z (by decide) h.cab h.oab, h.cab, ⟨vs, z (by decide) h.cas h1, h2.keep k (by decide)⟩, h.cas, z (by decide) h.cnm h.onm, h.cnm, z (by decide) h.cbt h.obt, h.cbt, z (by decide) h.ccm h.ocm, h.ccm, upd_same, h.cpu, z (by decide) h.csp h.osp, h.csp, ⟨kvs, z (by decide) h.ckn k1, fun p hp => let ⟨t, r, e, q⟩ := k2 p hp; ⟨t, r, e, k.1 _ _ q⟩, k3⟩, h.ckn, h.ql, fun i p q e1 e2 => let ⟨a, b, c, d⟩ := h.opt i p q e1 e2; ⟨z (by decide) c a, z (by decide) d b, c, d⟩⟩
theorem HoldAt.set_sp {T : TC} {n : Nat} {ρ : Rho} {A : HA} {H : Hp} {st : HS} (h : HoldAt T n ρ A H st) (g : Gh ρ H) (l : List Int) : HoldAt T n ρ A (upd H A.sp (.lst (l.map V.int))) { st with stp := l } := by
  have k := kp_write (o := .lst (l.map V.int)) g h.csp
  have z := fun {b : Addr} {t : Nat} {x : Str} {o : HO} (u : decide (t ≠ 8) = true) (c : ρ b = some (n, t, x)) (e : H b = some o) => (k.2 b t x o u c e).1
  obtain ⟨vs, h1, h2⟩ := h.oas
  obtain ⟨kvs, k1, k2, k3⟩ := h.okn
  exact ⟨z (by decide) h.ca h.oa, h.ca, z (by decide) h.cpl h.opl, h.cpl, z (by decide) h.cab h.oab, h.cab, ⟨vs, z (by decide) h.cas h1, h2.keep k (by decide)⟩, h.cas, z (by decide) h.cnm h.onm, h.cnm, z (by decide) h.cbt h.obt, h.cbt, z (by decide) h.ccm h.ocm, h.ccm, z (by decide) h.cpu h.opu, h.cpu, upd_same, h.csp, ⟨kvs, z (by decide) h.ckn k1, fun p hp => let ⟨t, r, e, q⟩ := k2 p hp; ⟨t, r, e, k.1 _ _ q⟩, k3⟩, h.ckn, h.ql, fun i p q e1 e2 => let ⟨a, b, c, d⟩ := h.opt i p q e1 e2; ⟨z (by decide) c a, z (by decide) d b, c, d⟩⟩
theorem HoldAt.new_cm {T : TC} {n : Nat} {ρ : Rho} {A : HA} {H : Hp} {st : HS} (h : HoldAt T n ρ A H st) (g : Gh ρ H) (q : Addr) (l : List Int) (e : H q = some (.lst (l.map V.int))) (c : ρ q = col n 6) : HoldAt T n ρ { A with cm := q } (upd H A.a (.ins T.hold A.dx (fldH { A with cm := q }))) { st with com := l } := by
  have k := kp_write (o := .ins T.hold A.dx (fldH { A with cm := q })) g h.ca
  have z := fun {b : Addr} {t : Nat} {x : Str} {o : HO} (u : decide (t ≠ 0) = true) (c : ρ b = some (n, t, x)) (e : H b = some o) => (k.2 b t x o u c e).1
  obtain ⟨vs, h1, h2⟩ := h.oas
  obtain ⟨kvs, k1, k2, k3⟩ := h.okn
  exact ⟨upd_same, h.ca, z (by decide) h.cpl h.opl, h.cpl, z (by decide) h.cab h.oab, h.cab, ⟨vs, z (by decide) h.cas h1, h2.keep k (by decide)⟩, h.cas, z (by decide) h.cnm h.onm, h.cnm, z (by decide) h.cbt h.obt, h.cbt, z (by decide) c e, c, z (by decide) h.cpu h.opu, h.cpu, z (by decide) h.csp h.osp, h.csp, ⟨kvs, z (by decide) h.ckn k1, fun p hp => let ⟨t, r, e, q⟩ := k2 p hp; ⟨t, r, e, k.1 _ _ q⟩, k3⟩, h.ckn, h.ql, fun i p q e1 e2 => let ⟨a, b, c, d⟩ := h.opt i p q e1 e2; ⟨z (by decide) c a, z (by decide) d b, c, d⟩⟩
theorem HoldAt.new_pu {T : TC} {n : Nat} {ρ : Rho} {A : HA} {H : Hp} {st : HS} (h : HoldAt T n ρ A H st) (g : Gh ρ H) (q : Addr) (l : List Int) (e : H q = some (.lst (l.map V.int))) (c : ρ q = col n 7) : HoldAt T n ρ { A with pu := q } (upd H A.a (.ins T.hold A.dx (fldH { A with pu := q }))) { st with pur := l } := by
  have k := kp_write (o := .ins T.hold A.dx (fldH { A with pu := q })) g h.ca
  have z := fun {b : Addr} {t : Nat} {x : Str} {o : HO} (u : decide (t ≠ 0) = true) (c : ρ b = some (n, t, x)) (e : H b = some o) => (k.2 b t x o u c e).1
  obtain ⟨vs, h1, h2⟩ := h.oas
  obtain ⟨kvs, k1, k2, k3⟩ := h.okn
  exact ⟨upd_same, h.ca, z (by decide) h.cpl h.opl, h.cpl, z (by decide) h.cab h.oab, h.cab, ⟨vs, z (by decide) h.cas h1, h2.keep k (by decide)⟩, h.cas, z (by decide) h.cnm h.onm, h.cnm, z (by decide) h.cbt h.obt, h.cbt, z (by decide) h.ccm h.ocm, h.ccm, z (by decide) c e, c, z (by decide) h.csp h.osp, h.csp, ⟨kvs, z (by decide) h.ckn k1, fun p hp => let ⟨t, r, e, q⟩ := k2 p hp; ⟨t, r, e, k.1 _ _ q⟩, k3⟩, h.ckn, h.ql, fun i p q e1 e2 => let ⟨a, b, c, d⟩ := h.opt i p q e1 e2; ⟨z (by decide) c a, z (by decide) d b, c, d⟩⟩
theorem HoldAt.set_bt {T : TC} {n : Nat} {ρ : Rho} {A : HA} {H : Hp} {st : HS} (h : HoldAt T n ρ A H st) (g : Gh ρ H) (m : Int) (q : Addr) (e : H q = some (.dK [])) (c : ρ q = col n 9) : HoldAt T n ρ { A with kn := q } (upd H A.bt (.ins T.bot A.db (fldB A.sp m q))) { st with prod := m, kn := 0 } := by
  have k := kp_write (o := .ins T.bot A.db (fldB A.sp m q)) g h.cbt
  have z := fun {b : Addr} {t : Nat} {x : Str} {o : HO} (u : decide (t ≠ 5) = true) (c : ρ b = some (n, t, x)) (e : H b = some o) => (k.2 b t x o u c e).1
  obtain ⟨vs, h1, h2⟩ := h.oas
  obtain ⟨kvs, k1, k2, k3⟩ := h.okn
  exact ⟨z (by decide) h.ca h.oa, h.ca, z (by decide) h.cpl h.opl, h.cpl, z (by decide) h.cab h.oab, h.cab, ⟨vs, z (by decide) h.cas h1, h2.keep k (by decide)⟩, h.cas, z (by decide) h.cnm h.onm, h.cnm, upd_same, h.cbt, z (by decide) h.ccm h.ocm, h.ccm, z (by decide) h.cpu h.opu, h.cpu, z (by decide) h.csp h.osp, h.csp, ⟨[], z (by decide) c e, (fun p hp => absurd hp (by simp)), Nat.le_refl _, List.nodup_nil⟩, c, h.ql, fun i p q e1 e2 => let ⟨a, b, c, d⟩ := h.opt i p q e1 e2; ⟨z (by decide) c a, z (by decide) d b, c, d⟩⟩
theorem HoldAt.set_pt {T : TC} {n : Nat} {ρ : Rho} {A : HA} {H : Hp} {st : HS} (h : HoldAt T n ρ A H st) (g : Gh ρ H) {i : Nat} {p0 p1 : Pt} {q0 : Addr × Addr × Addr} (ep : st.pts[i]? = some p0) (eq : A.qs[i]? = some q0) (e1 : p1.nm = p0.nm) (e2 : p1.row = p0.row) (nd : (st.pts.map (·.nm)).Nodup) : HoldAt T n ρ A (upd H q0.1 (.ins T.part q0.2.1 (fldP p1 q0.2.2))) { st with pts := st.pts.set i p1 } := by
  have k := kp_write (o := .ins T.part q0.2.1 (fldP p1 q0.2.2)) g (h.opt i p0 q0 ep eq).2.2.1
  have z := fun {b : Addr} {t : Nat} {x : Str} {o : HO} (u : decide (t ≠ 20) = true) (c : ρ b = some (n, t, x)) (e : H b = some o) => (k.2 b t x o u c e).1
  obtain ⟨vs, h1, h2⟩ := h.oas
  obtain ⟨kvs, k1, k2, k3⟩ := h.okn
  exact ⟨z (by decide) h.ca h.oa, h.ca, z (by decide) h.cpl h.opl, h.cpl, by rw [abK_set ep e1]; exact z (by decide) h.cab h.oab, h.cab, ⟨vs, z (by decide) h.cas h1, h2.keep k (by decide)⟩, h.cas, z (by decide) h.cnm h.onm, h.cnm, z (by decide) h.cbt h.obt, h.cbt, z (by decide) h.ccm h.ocm, h.ccm, z (by decide) h.cpu h.opu, h.cpu, z (by decide) h.csp h.osp, h.csp, ⟨kvs, z (by decide) h.ckn k1, fun p hp => let ⟨t, r, e, q⟩ := k2 p hp; ⟨t, r, e, k.1 _ _ q⟩, k3⟩, h.ckn, by rw [List.length_set]; exact h.ql, opt_set h k nd ep eq e1 upd_same (kp_write2 (h.opt i p0 q0 ep eq).2.2.1) (by rw [e2])⟩
theorem HoldAt.set_row {T : TC} {n : Nat} {ρ : Rho} {A : HA} {H : Hp} {st : HS} (h : HoldAt T n ρ A H st) (g : Gh ρ H) {i : Nat} {p0 : Pt} {q0 : Addr × Addr × Addr} (l : List Int) (ep : st.pts[i]? = some p0) (eq : A.qs[i]? = some q0) (nd : (st.pts.map (·.nm)).Nodup) : HoldAt T n ρ A (upd H q0.2.2 (.lst (l.map V.int))) { st with pts := st.pts.set i { p0 with row := l } } := by
  have k := kp_write (o := .lst (l.map V.int)) g (h.opt i p0 q0 ep eq).2.2.2
  have z := fun {b : Addr} {t : Nat} {x : Str} {o : HO} (u : decide (t ≠ 21) = true) (c : ρ b = some (n, t, x)) (e : H b = some o) => (k.2 b t x o u c e).1
  obtain ⟨vs, h1, h2⟩ := h.oas
  obtain ⟨kvs, k1, k2, k3⟩ := h.okn
  exact ⟨z (by decide) h.ca h.oa, h.ca, z (by decide) h.cpl h.opl, h.cpl, by show _ = some (HO.dK (abK (st.pts.set i { p0 with row := l }) A.qs)); rw [abK_set (p1 := { p0 with row := l }) ep rfl]; exact z (by decide) h.cab h.oab, h.cab, ⟨vs, z (by decide) h.cas h1, h2.keep k (by decide)⟩, h.cas, z (by decide) h.cnm h.onm, h.cnm, z (by decide) h.cbt h.obt, h.cbt, z (by decide) h.ccm h.ocm, h.ccm, z (by decide) h.cpu h.opu, h.cpu, z (by decide) h.csp h.osp, h.csp, ⟨kvs, z (by decide) h.ckn k1, fun p hp => let ⟨t, r, e, q⟩ := k2 p hp; ⟨t, r, e, k.1 _ _ q⟩, k3⟩, h.ckn, by rw [List.length_set]; exact h.ql, opt_set2 h nd ep eq upd_same (kp_write2 (h.opt i p0 q0 ep eq).2.2.2)⟩
end L2
namespace L2
open PySem PySem.Spec PyProof.Rows
structure Txt (K : PySem.W.Frag) (T : TC) : Prop where
  cH : Cls K T.hold
  cP : Cls K T.part
  cB : Cls K T.bot
  hpl : NoAttr K T.hold "places"
  hab : NoAttr K T.hold "aboard"
  has : NoAttr K T.hold "ashore"
  hnm : NoAttr K T.hold "names"
  hbt : NoAttr K T.hold "bottom"
  hcm : NoAttr K T.hold "common"
  hpu : NoAttr K T.hold "purses"
  pnm : NoAttr K T.part "name"
  pow : NoAttr K T.part "owner"
  pwo : NoAttr K T.part "worth"
  pwe : NoAttr K T.part "weight"
  psc : NoAttr K T.part "scale"
  pro : NoAttr K T.part "row"
  bst : NoAttr K T.bot "steps"
  bpr : NoAttr K T.bot "product"
  bkn : NoAttr K T.bot "known"
structure Wf (st : HS) : Prop where
  ownN : st.own.Nodup
  nmsN : st.nms.Nodup
  ptsN : (st.pts.map (·.nm)).Nodup
  sub : ∀ p ∈ st.pts, p.nm ∈ st.nms
  rows : ∀ p ∈ st.pts, p.row.length = st.own.length
  ow : ∀ p ∈ st.pts, p.ow ∈ st.own
  coml : st.com.length = st.own.length
  purl : st.pur.length = st.own.length
  prod1 : 1 ≤ st.prod
  prodE : st.prod = st.stp.foldl (· * ·) 1
  stp2 : ∀ s ∈ st.stp, 2 ≤ s
  ownL : st.own.length ≤ 100
  nmsL : st.nms.length ≤ 1000
  ptsL : st.pts.length ≤ 1000
  stpL : st.stp.length ≤ 100
  ashL : st.ash.length ≤ 1000
  knL : st.kn ≤ 1000000
  big : Jm.Sz 8000 st.prod
  com0 : ∀ c ∈ st.com, 0 ≤ c ∧ c ≤ st.prod
  sc0 : ∀ p ∈ st.pts, 1 ≤ p.sc ∧ p.sc ≤ st.prod
  row0 : ∀ p ∈ st.pts, ∀ r ∈ p.row, -st.prod ≤ r ∧ r ≤ st.prod
  top0 : ∀ p ∈ st.pts, ∀ t ∈ List.zipWith (fun r c => p.sc * r + c) p.row st.com, 0 ≤ t ∧ t ≤ st.prod
  wo0 : ∀ p ∈ st.pts, 1 ≤ p.wo ∧ 0 ≤ p.we
  pur0 : ∀ u ∈ st.pur, Jm.Sz 9000 u
structure HH (T : TC) (n : Nat) (ρ : Rho) (A : HA) (H : Hp) (st : HS) : Prop where
  g : Gh ρ H
  h : HoldAt T n ρ A H st
  wf : Wf st
def HPost (T : TC) (n : Nat) (ρ : Rho) (A : HA) (H : Hp) (st : HS) (Q : Hp → Prop) : Prop := ∀ ρ' A' H', HH T n ρ' A' H' st → A'.a = A.a → Fr n ρ H ρ' H' → Q H'
def hs0 : HS := ⟨[], [], [], [], [], 1, 0, [], []⟩
theorem wf0 : Wf hs0 := by
  refine ⟨List.nodup_nil, List.nodup_nil, List.nodup_nil, ?_, ?_, ?_, rfl, rfl, ?_, rfl, ?_, ?_, ?_, ?_, ?_, ?_, ?_, ?_, ?_, ?_, ?_, ?_, ?_, ?_⟩ <;> first | (intro _ h; exact absurd h (by simp [hs0])) | decide | (show Jm.Sz 8000 1; exact sz_lit (by decide +kernel))
theorem valV_pl : ∀ {l : List Str} {i : Nat} {o : Str}, o ∈ l → valV (plK i l) (Sum.inr o) = some (.int ((i + l.idxOf o : Nat) : Int))
  | [], _, _, h => by simp at h
  | x :: l, i, o, h => by
    by_cases e : x = o
    · subst e
      rw [show plK i (x :: l) = (Sum.inr x, .int i) :: plK (i + 1) l from rfl, valV_pos rfl]
      simp
    · rw [show plK i (x :: l) = (Sum.inr x, .int i) :: plK (i + 1) l from rfl, valV_neg (by intro z; exact e (Sum.inr.inj z))]
      have hm : o ∈ l := by
        rcases List.mem_cons.mp h with z | z
        · exact absurd z.symm e
        · exact z
      rw [valV_pl hm]
      have eb : (x == o) = false := by simpa using e
      have : (x :: l).idxOf o = l.idxOf o + 1 := by rw [List.idxOf_cons, eb]; rfl
      rw [this]
      show some (V.int ((i + 1 + l.idxOf o : Nat) : Int)) = some (V.int ((i + (l.idxOf o + 1) : Nat) : Int))
      rw [show i + 1 + l.idxOf o = i + (l.idxOf o + 1) from by omega]
theorem valV_pl_none : ∀ {l : List Str} {i : Nat} {o : Str}, o ∉ l → valV (plK i l) (Sum.inr o) = none
  | [], _, _, _ => rfl
  | x :: l, i, o, h => by
    rw [show plK i (x :: l) = (Sum.inr x, .int i) :: plK (i + 1) l from rfl, valV_neg (fun z => h (by rw [← Sum.inr.inj z]; exact List.mem_cons_self))]
    exact valV_pl_none fun m => h (List.mem_cons_of_mem _ m)
theorem plK_length : ∀ (l : List Str) (i : Nat), (plK i l).length = l.length
  | [], _ => rfl
  | _ :: l, i => by rw [show ∀ x, plK i (x :: l) = (Sum.inr x, .int i) :: plK (i + 1) l from fun _ => rfl, List.length_cons, List.length_cons, plK_length l]
theorem plK_snoc : ∀ (l : List Str) (i : Nat) (o : Str), plK i (l ++ [o]) = plK i l ++ [(Sum.inr o, .int ((i + l.length : Nat) : Int))]
  | [], i, o => rfl
  | x :: l, i, o => by
    show (Sum.inr x, V.int i) :: plK (i + 1) (l ++ [o]) = _
    rw [plK_snoc l (i + 1) o]
    show _ = (Sum.inr x, V.int i) :: (plK (i + 1) l ++ _)
    rw [List.length_cons, show i + 1 + l.length = i + (l.length + 1) from by omega]
theorem abK_get {ps : List Pt} {qs : List (Addr × Addr × Addr)} {i : Nat} {p : Pt} {q : Addr × Addr × Addr} (h1 : ps[i]? = some p) (h2 : qs[i]? = some q) : (abK ps qs)[i]? = some (Sum.inr p.nm, .ref q.1) := by
  unfold abK
  rw [List.getElem?_zipWith, h1, h2]
theorem abK_len {ps : List Pt} {qs : List (Addr × Addr × Addr)} (h : qs.length = ps.length) : (abK ps qs).length = ps.length := by
  unfold abK
  rw [List.length_zipWith, h, Nat.min_self]
theorem valV_ab : ∀ {ps : List Pt} {qs : List (Addr × Addr × Addr)} {i : Nat} {p : Pt} {q : Addr × Addr × Addr}, (ps.map (·.nm)).Nodup → ps[i]? = some p → qs[i]? = some q → valV (abK ps qs) (Sum.inr p.nm) = some (.ref q.1)
  | [], _, _, _, _, _, h, _ => by simp at h
  | _ :: _, [], _, _, _, _, _, h => by simp at h
  | a :: ps, b :: qs, 0, p, q, _, h1, h2 => by
    have e1 : a = p := by simpa using h1
    have e2 : b = q := by simpa using h2
    subst e1 e2
    exact valV_pos rfl
  | a :: ps, b :: qs, i + 1, p, q, nd, h1, h2 => by
    have nd' := List.nodup_cons.mp (show (a.nm :: ps.map (·.nm)).Nodup from nd)
    have h1' : ps[i]? = some p := by simpa using h1
    rw [show abK (a :: ps) (b :: qs) = (Sum.inr a.nm, .ref b.1) :: abK ps qs from rfl, valV_neg (fun z => nd'.1 (List.mem_map.mpr ⟨p, List.mem_of_getElem? h1', (Sum.inr.inj z).symm⟩))]
    exact valV_ab nd'.2 h1' (by simpa using h2)
theorem valV_ab_none : ∀ {ps : List Pt} {qs : List (Addr × Addr × Addr)} {x : Str}, (∀ p ∈ ps, p.nm ≠ x) → valV (abK ps qs) (Sum.inr x) = none
  | [], _, _, _ => rfl
  | _ :: _, [], _, _ => rfl
  | a :: ps, b :: qs, x, h => by
    rw [show abK (a :: ps) (b :: qs) = (Sum.inr a.nm, .ref b.1) :: abK ps qs from rfl, valV_neg (fun z => h a List.mem_cons_self (Sum.inr.inj z))]
    exact valV_ab_none fun p hp => h p (List.mem_cons_of_mem _ hp)
theorem abK_snoc {ps : List Pt} {qs : List (Addr × Addr × Addr)} (h : qs.length = ps.length) (p : Pt) (q : Addr × Addr × Addr) : abK (ps ++ [p]) (qs ++ [q]) = abK ps qs ++ [(Sum.inr p.nm, .ref q.1)] := by
  unfold abK
  rw [List.zipWith_append h.symm]
  rfl
theorem valV_nm_none {l : List Str} {x : Str} (h : x ∉ l) : valV (nmK l) (Sum.inr x) = none := by
  unfold nmK
  induction l with
  | nil => rfl
  | cons a l ih =>
    rw [List.map_cons, valV_neg (fun z => h (by rw [← Sum.inr.inj z]; exact List.mem_cons_self))]
    exact ih fun m => h (List.mem_cons_of_mem _ m)
theorem HoldAt.find {T : TC} {n : Nat} {ρ : Rho} {A : HA} {H : Hp} {st : HS} (h : HoldAt T n ρ A H st) {i : Nat} {p : Pt} (e : st.pts[i]? = some p) : ∃ q, A.qs[i]? = some q ∧ H q.1 = some (.ins T.part q.2.1 (fldP p q.2.2)) ∧ H q.2.2 = some (.lst (p.row.map V.int)) ∧ ρ q.1 = some (n, 20, p.nm) ∧ ρ q.2.2 = some (n, 21, p.nm) := by
  have hi : i < A.qs.length := by rw [h.ql]; exact (List.getElem?_eq_some_iff.mp e).1
  exact ⟨A.qs[i], List.getElem?_eq_getElem hi, h.opt i p _ e (List.getElem?_eq_getElem hi)⟩
def signS (st : HS) (o : Str) : HS := { st with own := st.own ++ [o], com := st.com ++ [0], pur := st.pur ++ [0], pts := st.pts.map fun p => { p with row := p.row ++ [0] } }
def topsS (st : HS) (p : Pt) : List Int := List.zipWith (fun r c => p.sc * r + c) p.row st.com
def beyS (st : HS) (tops : List Int) : List Int := List.zipWith (fun t c => t - c) tops st.com
def stowS (st : HS) (p : Pt) : HS := { st with pts := st.pts ++ [p], nms := st.nms ++ [p.nm] }
def loadS (st : HS) (x o : Str) (wo we : Int) : HS := stowS st ⟨x, o, wo, we, 1, beyS st ((List.replicate st.own.length 0).set (st.own.idxOf o) st.prod)⟩
def wholeS (st : HS) : Int := (st.pts.map (·.wo)).sum
def partO (p : Pt) : HO := .tup [.str p.nm, .str p.ow, .int p.wo, .int p.we]
inductive PtsAt (H : Hp) : List V → List Pt → Prop
  | nil : PtsAt H [] []
  | cons {r : Addr} {p : Pt} {vs : List V} {ps : List Pt} : H r = some (partO p) → PtsAt H vs ps → PtsAt H (.ref r :: vs) (p :: ps)
end L2
namespace L2
open PySem PySem.Spec PyProof.Rows
def FrX (n : Nat) (q1 q2 : Addr) (ρ : Rho) (H : Hp) (ρ' : Rho) (H' : Hp) : Prop := ∀ b o, H b = some o → (∀ t x, ρ b ≠ some (n, t, x)) → b ≠ q1 → b ≠ q2 → H' b = some o ∧ ρ' b = ρ b
theorem FrX.trans {n : Nat} {q1 q2 : Addr} {ρ ρ1 ρ2 : Rho} {H H1 H2 : Hp} (a : FrX n q1 q2 ρ H ρ1 H1) (b : Fr n ρ1 H1 ρ2 H2) : FrX n q1 q2 ρ H ρ2 H2 := fun c o h k x y => by
  obtain ⟨h1, e1⟩ := a c o h k x y
  obtain ⟨h2, e2⟩ := b c o h1 (by rw [e1]; exact k)
  exact ⟨h2, e2.trans e1⟩
theorem FrX.fr {n : Nat} {q1 q2 : Addr} {ρ ρ1 ρ2 : Rho} {H H1 H2 : Hp} (b : FrX n q1 q2 ρ1 H1 ρ2 H2) (a : Fr n ρ H ρ1 H1) (h1 : H q1 = none) (h2 : H q2 = none) : Fr n ρ H ρ2 H2 := fun c o h k => by
  obtain ⟨e1, e2⟩ := a c o h k
  obtain ⟨e3, e4⟩ := b c o e1 (by rw [e2]; exact k) (ne_of_none h h1) (ne_of_none h h2)
  exact ⟨e3, e4.trans e2⟩
def isNm (o : Str) : Bool := isName o.cps.toList
structure spBInit (T : TC) (vs : List V) (H : Hp) (Q : VK) (E : XK) : Prop where
  ex : ∃ p dx, vs = [.ref p] ∧ H p = some (.ins T.bot dx []) ∧ ∀ sp kn H', H sp = none → H kn = none → sp ≠ kn → (∀ b o, H b = some o → b ≠ p → H' b = some o) → H' p = some (.ins T.bot dx (fldB sp 1 kn)) → H' sp = some (.lst []) → H' kn = some (.dK []) → Q .non H'
structure spPInit (T : TC) (K : PySem.W.Frag) (vs : List V) (H : Hp) (Q : VK) (E : XK) : Prop where
  ex : ∃ (p dx l : Addr) (pt : Pt), vs = [.ref p, .str pt.nm, .str pt.ow, .int pt.wo, .int pt.we, .int pt.sc, .ref l] ∧ H p = some (.ins T.part dx []) ∧ SqL K H l (pt.row.map V.int) ∧ ∀ r H', H r = none → (∀ b o, H b = some o → b ≠ p → H' b = some o) → H' p = some (.ins T.part dx (fldP pt r)) → H' r = some (.lst (pt.row.map V.int)) → Q .non H'
structure spHInit (T : TC) (vs : List V) (H : Hp) (Q : VK) (E : XK) : Prop where
  ex : ∃ p dx ρ n, vs = [.ref p] ∧ H p = some (.ins T.hold dx []) ∧ Gh ρ H ∧ ρ p = none ∧ ∀ ρ' A H', A.a = p → HH T n ρ' A H' hs0 → (∀ b o, H b = some o → b ≠ p → H' b = some o ∧ ρ' b = ρ b) → Q .non H'
structure spPlace (T : TC) (vs : List V) (H : Hp) (Q : VK) (E : XK) : Prop where
  ex : ∃ n ρ A st o, vs = [.ref A.a, .str o] ∧ HoldAt T n ρ A H st ∧ o ∈ st.own ∧ Q (.int (st.own.idxOf o : Int)) H
structure spPartOf (T : TC) (vs : List V) (H : Hp) (Q : VK) (E : XK) : Prop where
  ex : ∃ n ρ A st, ∃ (i : Nat) (p : Pt) (q : Addr × Addr × Addr), vs = [.ref A.a, .str p.nm] ∧ HoldAt T n ρ A H st ∧ (st.pts.map (·.nm)).Nodup ∧ st.pts[i]? = some p ∧ A.qs[i]? = some q ∧ Q (.ref q.1) H
structure spCheckNew (T : TC) (vs : List V) (H : Hp) (Q : VK) (E : XK) : Prop where
  ex : ∃ n ρ A st x, vs = [.ref A.a, .str x] ∧ HoldAt T n ρ A H st ∧ isNm x = true ∧ x ∉ st.nms ∧ ∀ H', Same H H' → Q .non H'
structure spBey (T : TC) (K : PySem.W.Frag) (vs : List V) (H : Hp) (Q : VK) (E : XK) : Prop where
  ex : ∃ n ρ A st l, ∃ tops : List Int, vs = [.ref A.a, .ref l] ∧ HoldAt T n ρ A H st ∧ SqL K H l (tops.map V.int) ∧ tops.length = st.com.length ∧ tops.length ≤ 1000 ∧ ∀ r H', Same H H' → H r = none → H' r = some (.lst ((beyS st tops).map V.int)) → Q (.ref r) H'
structure spStow (T : TC) (vs : List V) (H : Hp) (Q : VK) (E : XK) : Prop where
  ex : ∃ n ρ A st, ∃ (q : Addr × Addr × Addr) (p : Pt), vs = [.ref A.a, .ref q.1] ∧ HH T n ρ A H st ∧ H q.1 = some (.ins T.part q.2.1 (fldP p q.2.2)) ∧ H q.2.2 = some (.lst (p.row.map V.int)) ∧ ρ q.1 = none ∧ ρ q.2.2 = none ∧ p.nm ∉ st.nms ∧ Wf (stowS st p) ∧ ∀ ρ' A' H', HH T n ρ' A' H' (stowS st p) → A'.a = A.a → FrX n q.1 q.2.2 ρ H ρ' H' → Q .non H'
structure spHSign (T : TC) (vs : List V) (H : Hp) (Q : VK) (E : XK) : Prop where
  ex : ∃ n ρ A st o, vs = [.ref A.a, .str o] ∧ HH T n ρ A H st ∧ isNm o = true ∧ o ∉ st.own ∧ st.own.length < 100 ∧ HPost T n ρ A H (signS st o) fun H' => Q .non H'
structure spLoad (T : TC) (vs : List V) (H : Hp) (Q : VK) (E : XK) : Prop where
  ex : ∃ n ρ A st x o wo we, vs = [.ref A.a, .str x, .str o, .int wo, .int we] ∧ HH T n ρ A H st ∧ isNm x = true ∧ x ∉ st.nms ∧ o ∈ st.own ∧ 1 ≤ wo ∧ 0 ≤ we ∧ st.nms.length < 1000 ∧ st.pts.length < 1000 ∧ HPost T n ρ A H (loadS st x o wo we) fun H' => Q .non H'
structure spParts (T : TC) (vs : List V) (H : Hp) (Q : VK) (E : XK) : Prop where
  ex : ∃ n ρ A st, vs = [.ref A.a] ∧ HoldAt T n ρ A H st ∧ st.pts.length ≤ 1000 ∧ ∀ r ws H', Same H H' → H r = none → H' r = some (.lst ws) → PtsAt H' ws st.pts → Q (.ref r) H'
structure spWhole (T : TC) (vs : List V) (H : Hp) (Q : VK) (E : XK) : Prop where
  ex : ∃ n ρ A st, vs = [.ref A.a] ∧ HoldAt T n ρ A H st ∧ st.pts.length ≤ 1000 ∧ ∀ H', Same H H' → Q (.int (wholeS st)) H'
theorem PtsAt.mono {H H' : Hp} {vs : List V} {l : List Pt} (h : PtsAt H vs l) (g : ∀ b xs, H b = some (.tup xs) → H' b = some (.tup xs)) : PtsAt H' vs l := by
  induction h with
  | nil => exact .nil
  | cons a _ ih => exact .cons (g _ _ a) ih
theorem PtsAt.snoc {H : Hp} {vs : List V} {l : List Pt} {r : Addr} {p : Pt} (h : PtsAt H vs l) (e : H r = some (partO p)) : PtsAt H (vs ++ [.ref r]) (l ++ [p]) := by
  induction h with
  | nil => exact .cons e .nil
  | cons a _ ih => exact .cons a ih
theorem tup_upd {H : Hp} {p : Addr} {o : HO} (h : H p = none ∨ ∃ u, H p = some u ∧ isTup u = false) : ∀ b xs, H b = some (.tup xs) → upd H p o b = some (.tup xs) := fun b xs e => by
  rw [upd_ne (fun z => ?_)]
  · exact e
  · rw [z] at e
    rcases h with h | ⟨u, h, t⟩
    · rw [h] at e; cases e
    · rw [h] at e; cases e; cases t
theorem isNm_len {x : Str} (h : isNm x = true) : x.cps.toList.length ≤ 100000 := by
  unfold isNm isName at h
  have := of_decide_eq_true (Bool.and_eq_true_iff.mp (Bool.and_eq_true_iff.mp h).1).2
  omega
theorem frz_back {H H1 : Hp} {d : Addr} {o : Obj} {kvs : List (Key × V)} (e : H d = some (.dK kvs)) (s : Same (upd H d (.frz o (.dK kvs))) H1) : Same H (upd H1 d (.dK kvs)) := fun b u q => by
  by_cases h : b = d
  · rw [h, e] at q; cases q; rw [h]; exact upd_same
  · rw [upd_ne h]; exact s b u (by rw [upd_ne h]; exact q)
theorem frz_ne {H : Hp} {d b : Addr} {o : Obj} {u : HO} {kvs : List (Key × V)} (e : H d = some (.dK kvs)) (q : H b = some u) (h : ∀ k, u ≠ .dK k) : upd H d (.frz o (.dK kvs)) b = some u := by
  rw [upd_ne (fun z => by rw [z, e] at q; cases q; exact h _ rfl)]; exact q
theorem frz_free {H : Hp} {d b : Addr} {o : Obj} {kvs : List (Key × V)} (e : H d = some (.dK kvs)) (q : upd H d (.frz o (.dK kvs)) b = none) : H b = none := by
  by_cases h : b = d
  · rw [h, upd_same] at q; cases q
  · rw [upd_ne h] at q; exact q
theorem Same.tups {H H' : Hp} (s : Same H H') : ∀ b xs, H b = some (.tup xs) → H' b = some (.tup xs) := fun b xs h => s b _ h
theorem take_snoc {α : Type} {l : List α} {i : Nat} {x : α} (h : l[i]? = some x) : l.take (i + 1) = l.take i ++ [x] := by rw [List.take_add_one, h]; rfl
theorem zipW_take {α β γ : Type} (f : α → β → γ) {xs : List α} {ys : List β} {i : Nat} {x : α} {y : β} (h1 : xs[i]? = some x) (h2 : ys[i]? = some y) : List.zipWith f (xs.take (i + 1)) (ys.take (i + 1)) = List.zipWith f (xs.take i) (ys.take i) ++ [f x y] := by
  have l1 := (List.getElem?_eq_some_iff.mp h1).1
  have l2 := (List.getElem?_eq_some_iff.mp h2).1
  rw [take_snoc h1, take_snoc h2, List.zipWith_append (by rw [List.length_take, List.length_take]; omega)]
  rfl
theorem ints_at {l : List Int} {i : Nat} {v : V} (h : (l.map V.int)[i]? = some v) : ∃ z, v = .int z ∧ l[i]? = some z := by
  rw [List.getElem?_map] at h
  obtain ⟨z, hz, rfl⟩ := Option.map_eq_some_iff.mp h
  exact ⟨z, rfl, hz⟩
end L2
namespace L2
open PySem PySem.Spec PyProof.Rows
theorem HH.mono {T : TC} {n : Nat} {ρ : Rho} {A : HA} {H H' : Hp} {st : HS} (h : HH T n ρ A H st) (s : Same H H') : HH T n ρ A H' st := ⟨h.g.same s, h.h.mono s, h.wf⟩
theorem kp_out {n : Nat} {ρ : Rho} {H : Hp} {a : Addr} {o u : HO} {ts : Nat → Bool} (c : ρ a = none) (h : H a = some u) (t : isTup u = false) : Kp n ρ ρ H (upd H a o) ts :=
  ⟨tup_upd (.inr ⟨u, h, t⟩), fun b x y w _ hc e => ⟨by rw [upd_ne (fun z => by rw [z, c] at hc; cases hc)]; exact e, hc⟩⟩
theorem HH.wrOut {T : TC} {n : Nat} {ρ : Rho} {A : HA} {H : Hp} {st : HS} {a : Addr} {o u : HO} (h : HH T n ρ A H st) (c : ρ a = none) (e : H a = some u) (t : isTup u = false) (t2 : isTup o = false) : HH T n ρ A (upd H a o) st := ⟨h.g.wr t2, h.h.same (kp_out c e t), h.wf⟩
theorem Fr.new {n : Nat} {ρ ρ' : Rho} {H H' : Hp} {a : Addr} {o : HO} (f : Fr n ρ H ρ' H') (h : H a = none) : Fr n ρ H ρ' (upd H' a o) := fun b u e k => by
  rw [upd_ne (ne_of_none e h)]; exact f b u e k
theorem zipW_snoc {α β γ : Type} (f : α → β → γ) {xs : List α} {ys : List β} (h : xs.length = ys.length) (x : α) (y : β) : List.zipWith f (xs ++ [x]) (ys ++ [y]) = List.zipWith f xs ys ++ [f x y] := by
  rw [List.zipWith_append h]; rfl
theorem wf_sign {st : HS} (w : Wf st) {o : Str} (h : o ∉ st.own) (hl : st.own.length < 100) : Wf (signS st o) := by
  have P : ∀ p ∈ (signS st o).pts, ∃ p0 ∈ st.pts, p = { p0 with row := p0.row ++ [0] } := fun p hp => by
    obtain ⟨p0, h0, rfl⟩ := List.mem_map.mp (show p ∈ st.pts.map _ from hp)
    exact ⟨p0, h0, rfl⟩
  have p1 := w.prod1
  refine ⟨?_, w.nmsN, ?_, fun p hp => ?_, fun p hp => ?_, fun p hp => ?_, ?_, ?_, w.prod1, w.prodE, w.stp2, ?_, w.nmsL, ?_, w.stpL, w.ashL, w.knL, w.big, fun c hc => ?_, fun p hp => ?_, fun p hp r hr => ?_, fun p hp t ht => ?_, fun p hp => ?_, fun u hu => ?_⟩
  · exact nd_snoc w.ownN h
  · show ((st.pts.map fun p => { p with row := p.row ++ [0] }).map (·.nm)).Nodup
    rw [List.map_map]
    exact w.ptsN
  · obtain ⟨p0, h0, rfl⟩ := P p hp
    exact w.sub p0 h0
  · obtain ⟨p0, h0, rfl⟩ := P p hp
    show (p0.row ++ [0]).length = (st.own ++ [o]).length
    rw [List.length_append, List.length_append, w.rows p0 h0]
    rfl
  · obtain ⟨p0, h0, rfl⟩ := P p hp
    exact List.mem_append_left _ (w.ow p0 h0)
  · show (st.com ++ [0]).length = (st.own ++ [o]).length
    rw [List.length_append, List.length_append, w.coml]
    rfl
  · show (st.pur ++ [0]).length = (st.own ++ [o]).length
    rw [List.length_append, List.length_append, w.purl]
    rfl
  · show (st.own ++ [o]).length ≤ 100
    rw [List.length_append]
    exact hl
  · show (st.pts.map _).length ≤ 1000
    rw [List.length_map]
    exact w.ptsL
  · rcases List.mem_append.mp (show c ∈ st.com ++ [0] from hc) with z | z
    · exact w.com0 c z
    · rw [List.mem_singleton.mp z]; exact ⟨Int.le_refl _, by show (0 : Int) ≤ st.prod; omega⟩
  · obtain ⟨p0, h0, rfl⟩ := P p hp
    exact w.sc0 p0 h0
  · obtain ⟨p0, h0, rfl⟩ := P p hp
    rcases List.mem_append.mp (show r ∈ p0.row ++ [0] from hr) with z | z
    · exact w.row0 p0 h0 r z
    · rw [List.mem_singleton.mp z]; show -st.prod ≤ 0 ∧ 0 ≤ st.prod; omega
  · obtain ⟨p0, h0, rfl⟩ := P p hp
    have el : p0.row.length = st.com.length := by rw [w.rows p0 h0, w.coml]
    have ht : t ∈ List.zipWith (fun r c => p0.sc * r + c) (p0.row ++ [0]) (st.com ++ [0]) := ht
    rw [zipW_snoc _ el _ _] at ht
    rcases List.mem_append.mp ht with z | z
    · exact w.top0 p0 h0 t z
    · rw [List.mem_singleton.mp z]; show 0 ≤ p0.sc * 0 + 0 ∧ p0.sc * 0 + 0 ≤ st.prod; omega
  · obtain ⟨p0, h0, rfl⟩ := P p hp
    exact w.wo0 p0 h0
  · rcases List.mem_append.mp (show u ∈ st.pur ++ [0] from hu) with z | z
    · exact w.pur0 u z
    · rw [List.mem_singleton.mp z]; exact sz_lit (by decide +kernel)
theorem wf_stow {st : HS} (w : Wf st) {p : Pt} (h1 : p.nm ∉ st.nms) (h2 : st.nms.length < 1000) (h3 : st.pts.length < 1000) (h4 : p.row.length = st.own.length) (h5 : p.ow ∈ st.own) (h6 : 1 ≤ p.sc ∧ p.sc ≤ st.prod) (h7 : ∀ r ∈ p.row, -st.prod ≤ r ∧ r ≤ st.prod)
    (h8 : ∀ t ∈ List.zipWith (fun r c => p.sc * r + c) p.row st.com, 0 ≤ t ∧ t ≤ st.prod) (h9 : 1 ≤ p.wo ∧ 0 ≤ p.we) : Wf (stowS st p) := by
  have P : ∀ {M : Pt → Prop}, (∀ x ∈ st.pts, M x) → M p → ∀ x ∈ st.pts ++ [p], M x := fun a b x hx => by
    rcases List.mem_append.mp hx with z | z
    · exact a x z
    · rw [List.mem_singleton.mp z]; exact b
  refine ⟨w.ownN, nd_snoc w.nmsN h1, ?_, P (fun x hx => List.mem_append_left _ (w.sub x hx)) (List.mem_append_right _ (List.mem_singleton.mpr rfl)), P w.rows h4, P w.ow h5, w.coml, w.purl, w.prod1, w.prodE, w.stp2, w.ownL, ?_, ?_, w.stpL, w.ashL, w.knL, w.big, w.com0, P w.sc0 h6, P w.row0 h7, P w.top0 h8, P w.wo0 h9, w.pur0⟩
  · show ((st.pts ++ [p]).map (·.nm)).Nodup
    rw [List.map_append]
    refine nd_snoc w.ptsN fun m => ?_
    obtain ⟨x, hx, e⟩ := List.mem_map.mp m
    have e : x.nm = p.nm := e
    exact h1 (by rw [← e]; exact w.sub x hx)
  · show (st.nms ++ [p.nm]).length ≤ 1000
    rw [List.length_append]; exact h2
  · show (st.pts ++ [p]).length ≤ 1000
    rw [List.length_append]; exact h3
theorem mem_zipW {α β γ : Type} {f : α → β → γ} {t : γ} : ∀ {xs : List α} {ys : List β}, t ∈ List.zipWith f xs ys → ∃ x ∈ xs, ∃ y ∈ ys, t = f x y
  | [], _, h => by simp at h
  | _ :: _, [], h => by simp at h
  | x :: xs, y :: ys, h => by
    rcases List.mem_cons.mp (show t ∈ f x y :: List.zipWith f xs ys from h) with e | m
    · exact ⟨x, List.mem_cons_self, y, List.mem_cons_self, e⟩
    · obtain ⟨a, ha, b, hb, e⟩ := mem_zipW m
      exact ⟨a, List.mem_cons_of_mem _ ha, b, List.mem_cons_of_mem _ hb, e⟩
theorem bey_back : ∀ {ts cs : List Int}, List.zipWith (fun r c => 1 * r + c) (List.zipWith (fun t c => t - c) ts cs) cs = ts.take cs.length
  | [], _ => by simp
  | _ :: _, [] => by simp
  | t :: ts, c :: cs => by
    show (1 * (t - c) + c) :: List.zipWith _ (List.zipWith _ ts cs) cs = t :: ts.take cs.length
    rw [bey_back]
    congr 1
    omega
theorem mem_oneTop {n i : Nat} {b t : Int} (h : t ∈ (List.replicate n 0).set i b) : t = 0 ∨ t = b := by
  rcases List.mem_or_eq_of_mem_set h with z | z
  · exact .inl (List.eq_of_mem_replicate z)
  · exact .inr z
theorem wf_load {st : HS} (w : Wf st) {x o : Str} {wo we : Int} (h1 : x ∉ st.nms) (h2 : st.nms.length < 1000) (h3 : st.pts.length < 1000) (ho : o ∈ st.own) (h4 : 1 ≤ wo) (h5 : 0 ≤ we) : Wf (loadS st x o wo we) := by
  have p1 := w.prod1
  refine wf_stow w h1 h2 h3 ?_ ho ⟨Int.le_refl 1, w.prod1⟩ (fun r hr => ?_) (fun t ht => ?_) ⟨h4, h5⟩
  · show (List.zipWith _ ((List.replicate st.own.length 0).set _ _) st.com).length = _
    rw [List.length_zipWith, List.length_set, List.length_replicate, w.coml, Nat.min_self]
  · obtain ⟨t, ht, c, hc, rfl⟩ := mem_zipW (show r ∈ List.zipWith _ _ st.com from hr)
    have := w.com0 c hc
    rcases mem_oneTop ht with rfl | rfl <;> omega
  · have e : List.zipWith (fun r c => 1 * r + c) (beyS st ((List.replicate st.own.length 0).set (st.own.idxOf o) st.prod)) st.com = _ := bey_back
    have ht : t ∈ List.zipWith (fun r c => 1 * r + c) (beyS st ((List.replicate st.own.length 0).set (st.own.idxOf o) st.prod)) st.com := ht
    rw [e] at ht
    rcases mem_oneTop (List.mem_of_mem_take ht) with rfl | rfl <;> omega
theorem upd_comm {H : Hp} {a b : Addr} {o u : HO} (h : a ≠ b) : upd (upd H a o) b u = upd (upd H b u) a o := by
  funext c
  unfold upd
  by_cases e1 : c = b
  · rw [if_pos e1, if_neg (fun z => h (z.symm.trans e1)), if_pos e1]
  · rw [if_neg e1]
    by_cases e2 : c = a
    · rw [if_pos e2, if_pos e2]
    · rw [if_neg e2, if_neg e2, if_neg e1]
theorem upd_self {H : Hp} {a : Addr} {o : HO} (h : H a = some o) : upd H a o = H := by
  funext c
  unfold upd
  by_cases e : c = a
  · rw [if_pos e, e, h]
  · rw [if_neg e]
theorem walk_get {α : Type} (g : α → α) {l : List α} {i : Nat} {p : α} (h : l[i]? = some p) : ((l.take i).map g ++ l.drop i)[i]? = some p := by
  have hi := (List.getElem?_eq_some_iff.mp h).1
  have e : ((l.take i).map g).length = i := by rw [List.length_map, List.length_take]; omega
  rw [List.getElem?_append_right (by omega), e, Nat.sub_self, List.getElem?_drop]
  exact h
theorem walk_set {α : Type} (g : α → α) {l : List α} {i : Nat} {p : α} (h : l[i]? = some p) : ((l.take i).map g ++ l.drop i).set i (g p) = (l.take (i + 1)).map g ++ l.drop (i + 1) := by
  have hi := (List.getElem?_eq_some_iff.mp h).1
  have e : ((l.take i).map g).length = i := by rw [List.length_map, List.length_take]; omega
  have ep : l[i] = p := by rw [List.getElem?_eq_getElem hi] at h; exact Option.some.inj h
  rw [List.set_append_right _ _ (by omega), e, Nat.sub_self, List.drop_eq_getElem_cons hi, List.set_cons_zero, take_snoc h, List.map_append, List.append_assoc]
  rfl
theorem walk_map {α β : Type} (g : α → α) (f : α → β) (hf : ∀ x, f (g x) = f x) (l : List α) (i : Nat) : ((l.take i).map g ++ l.drop i).map f = l.map f := by
  rw [List.map_append, List.map_map, show f ∘ g = f from funext hf, ← List.map_append, List.take_append_drop]
theorem abK_names {ps ps' : List Pt} {qs : List (Addr × Addr × Addr)} (h : ps.map (·.nm) = ps'.map (·.nm)) : abK ps qs = abK ps' qs := by
  have : ∀ {ps : List Pt}, abK ps qs = List.zipWith (fun (x : Str) q => ((Sum.inr x : Key), V.ref q.1)) (ps.map (·.nm)) qs := fun {ps} => by unfold abK; rw [List.zipWith_map_left]
  rw [this, this, h]
structure Mading (p : Addr) (H : Hp) (ρ : Rho) (H' : Hp) (ρ' : Rho) (l : List (Addr × HO × Col)) : Prop where
  m : ∀ e ∈ l, H' e.1 = some e.2.1 ∧ ρ' e.1 = some e.2.2 ∧ e.1 ≠ p
  k : ∀ b o, H b = some o → b ≠ p → H' b = some o ∧ ρ' b = ρ b
  g : Gh ρ' H'
  pp : ∃ u, H' p = some u
theorem Mading.new {p a : Addr} {H H' : Hp} {ρ ρ' : Rho} {l : List (Addr × HO × Col)} {o : HO} {c : Col} (h : Mading p H ρ H' ρ' l) (ha : H' a = none) (t : isTup o = false) : Mading p H ρ (upd H' a o) (updC ρ' a c) ((a, o, c) :: l) := by
  obtain ⟨u, hu⟩ := h.pp
  refine ⟨fun e he => ?_, fun b w hb hp => ?_, (h.g.alloc ha).color upd_same t, u, by rw [upd_ne (ne_of_none hu ha)]; exact hu⟩
  · rcases List.mem_cons.mp he with rfl | he
    · exact ⟨upd_same, updC_same, fun z => by rw [show a = p from z, hu] at ha; cases ha⟩
    · obtain ⟨x, y, z⟩ := h.m e he
      have : e.1 ≠ a := ne_of_none x ha
      rw [upd_ne this, updC_ne this]
      exact ⟨x, y, z⟩
  · obtain ⟨x, y⟩ := h.k b w hb hp
    have : b ≠ a := ne_of_none x ha
    rw [upd_ne this, updC_ne this]
    exact ⟨x, y⟩
theorem Mading.wr {p : Addr} {H H' : Hp} {ρ ρ' : Rho} {l : List (Addr × HO × Col)} {u : HO} (h : Mading p H ρ H' ρ' l) (t : isTup u = false) : Mading p H ρ (upd H' p u) ρ' l := by
  refine ⟨fun e he => ?_, fun b w hb hp => ?_, h.g.wr t, u, upd_same⟩
  · obtain ⟨x, y, z⟩ := h.m e he
    rw [upd_ne z]; exact ⟨x, y, z⟩
  · obtain ⟨x, y⟩ := h.k b w hb hp
    rw [upd_ne hp]; exact ⟨x, y⟩
theorem Mading.same {p : Addr} {H H' H'' : Hp} {ρ ρ' : Rho} {l : List (Addr × HO × Col)} (h : Mading p H ρ H' ρ' l) (s : Same H' H'') : Mading p H ρ H'' ρ' l := by
  obtain ⟨u, hu⟩ := h.pp
  exact ⟨fun e he => let ⟨x, y, z⟩ := h.m e he; ⟨s _ _ x, y, z⟩, fun b w hb hp => let ⟨x, y⟩ := h.k b w hb hp; ⟨s _ _ x, y⟩, h.g.same s, u, s _ _ hu⟩
theorem Mading.add {p a : Addr} {H H' H0 : Hp} {ρ ρ' ρ0 : Rho} {l l0 : List (Addr × HO × Col)} {o : HO} {c : Col} (h : Mading p H ρ H' ρ' l) (ha : H' a = some o) (t : isTup o = false) (h0 : Mading p H ρ H0 ρ0 l0) (hn : H0 a = none) (hl : ∀ e ∈ l, e.1 ≠ a) : Mading p H ρ H' (updC ρ' a c) ((a, o, c) :: l) := by
  refine ⟨fun e he => ?_, fun b w hb hp => ?_, h.g.color ha t, h.pp⟩
  · rcases List.mem_cons.mp he with rfl | he
    · obtain ⟨u, hu⟩ := h0.pp
      exact ⟨ha, updC_same, fun z => by rw [show a = p from z, hu] at hn; cases hn⟩
    · obtain ⟨x, y, z⟩ := h.m e he
      rw [updC_ne (hl e he)]
      exact ⟨x, y, z⟩
  · obtain ⟨x, y⟩ := h.k b w hb hp
    obtain ⟨x0, _⟩ := h0.k b w hb hp
    rw [updC_ne (ne_of_none x0 hn)]
    exact ⟨x, y⟩
theorem pr_snoc (s : Int) (l : List Int) : (l ++ [s]).foldl (· * ·) 1 = l.foldl (· * ·) 1 * s := by rw [List.foldl_append]; rfl
end L2
namespace L2
open PySem PySem.Spec PyProof.Rows
def Sq (K : PySem.W.Frag) (H : Hp) (r : Addr) (xs : List V) : Prop := SqL K H r xs ∨ SqT K H r xs
theorem Same.sq {K : PySem.W.Frag} {H H' : Hp} {r : Addr} {xs : List V} (g : Same H H') (h : Sq K H r xs) : Sq K H' r xs := h.elim (fun z => .inl (g.seq z)) fun z => .inr (g.tup z)
structure RowsAt (K : PySem.W.Frag) (H : Hp) (us : List V) (ps : List Pt) : Prop where
  len : us.length = ps.length
  at_ : ∀ (i : Nat) (p : Pt), ps[i]? = some p → ∃ r xs, us[i]? = some (.ref r) ∧ Sq K H r xs ∧ xs[0]? = some (.str p.nm) ∧ xs[1]? = some (.str p.ow) ∧ xs[2]? = some (.int p.wo) ∧ xs[3]? = some (.int p.we)
theorem RowsAt.mono {K : PySem.W.Frag} {H H' : Hp} {us : List V} {ps : List Pt} (h : RowsAt K H us ps) (g : Same H H') : RowsAt K H' us ps := ⟨h.len, fun i p e => let ⟨r, xs, a, b, c⟩ := h.at_ i p e; ⟨r, xs, a, g.sq b, c⟩⟩
def NmsP (ps : List Pt) : Prop := ∀ p ∈ ps, PyData.strOk p.nm = true ∧ PyData.strOk p.ow = true
structure spPartList (K : PySem.W.Frag) (vs : List V) (H : Hp) (Q : VK) (E : XK) : Prop where
  ex : ∃ (r l : Addr) (ws us : List V) (ps : List Pt), vs = [.ref r, .ref l] ∧ H r = some (.lst ws) ∧ PtsAt H ws ps ∧ SqL K H l us ∧ RowsAt K H us ps ∧ NmsP ps ∧ ps.length ≤ 1000 ∧ ∀ H', Same H H' → Q (.bl true) H'
theorem PtsAt.length {H : Hp} {vs : List V} {l : List Pt} (h : PtsAt H vs l) : vs.length = l.length := by
  induction h with
  | nil => rfl
  | cons _ _ ih => simp [ih]
theorem PtsAt.get {H : Hp} {vs : List V} {l : List Pt} (h : PtsAt H vs l) : ∀ {i : Nat} {p : Pt}, l[i]? = some p → ∃ r, vs[i]? = some (.ref r) ∧ H r = some (partO p) := by
  induction h with
  | nil => intro i p e; simp at e
  | @cons r q vs ps a _ ih =>
    intro i p e
    cases i with
    | zero => simp at e; subst e; exact ⟨r, rfl, a⟩
    | succ i => simp at e; obtain ⟨r', e1, e2⟩ := ih e; exact ⟨r', by simpa using e1, e2⟩
def partD (p : Pt) : PyData := .tuple [.str p.nm, .str p.ow, .int p.wo, .int p.we]
theorem dt_part {K : PySem.W.Frag} {H : Hp} {r : Addr} {p : Pt} (h : H r = some (partO p)) : Dt K H (.ref r) (partD p) := .tup (SqT.of h) (.cons (.str _) (.cons (.str _) (.cons (.int _) (.cons (.int _) .nil))))
theorem shaped_part {p : Pt} (h1 : PyData.strOk p.nm = true) (h2 : PyData.strOk p.ow = true) : SeqAt.shaped (partD p) = true := by
  unfold partD SeqAt.shaped
  refine Bool.and_eq_true_iff.mpr ⟨?_, rfl⟩
  simp [PyData.canLay0, PyData.canLayAll0, h1, h2]
theorem eqv_part (p : Pt) : PyData.eqv (partD p) (partD p) = true := by
  unfold partD
  simp [PyData.eqv, PyData.eqvAll]
def NmOk (x : Str) : Prop := NameOk x.cps.toList
theorem letters_in : ∀ i : Fin 26, inS "abcdefghijklmnopqrstuvwxyz" (97 + i.val) = true := by decide +kernel
theorem NmOk.isNm {x : Str} (h : NmOk x) : L2.isNm x = true := by
  unfold L2.isNm isName
  have h1 := h.lo
  have h2 := h.hi
  refine Bool.and_eq_true_iff.mpr ⟨Bool.and_eq_true_iff.mpr ⟨decide_eq_true (by omega), decide_eq_true (by omega)⟩, List.all_eq_true.mpr fun c hc => ?_⟩
  have h3 := h.letters c hc
  have := letters_in ⟨c - 97, by omega⟩
  rw [show 97 + (c - 97) = c from by omega] at this
  exact this
theorem NmOk.strOk {x : Str} (h : NmOk x) : PyData.strOk x = true := by
  unfold PyData.strOk
  rw [Array.all_eq_true']
  intro c hc
  have := h.letters c (by simpa using hc)
  exact decide_eq_true (by omega)
structure spBegin (T : TC) (K : PySem.W.Frag) (vs : List V) (H : Hp) (Q : VK) (E : XK) : Prop where
  ex : ∃ (l : Addr) (own : List Str) (n : Nat) (ρ : Rho), vs = [.ref l] ∧ SqL K H l (own.map V.str) ∧ ρ l = none ∧ own.Nodup ∧ (∀ o ∈ own, isNm o = true) ∧ own.length ≤ 100 ∧ Gh ρ H ∧ ∀ ρ' A H', HH T n ρ' A H' (own.foldl signS hs0) → Fr n ρ H ρ' H' → Q (.ref A.a) H'
theorem signs_own : ∀ (l : List Str) (st : HS), (l.foldl signS st).own = st.own ++ l
  | [], st => by simp
  | o :: l, st => by
    rw [List.foldl_cons, signs_own l]
    show (st.own ++ [o]) ++ l = _
    rw [List.append_assoc]
    rfl
theorem ix_seqK (K : PySem.W.Frag) {X : Cx} (hK : X.K = K := by rfl) : IxR X (rIx K) := hK ▸ ix_seq
theorem Sq.ix {K : PySem.W.Frag} {H : Hp} {r : Addr} {xs : List V} {i : Nat} {v : V} {Q : VK} (h : Sq K H r xs) (e : xs[i]? = some v) (q : Q v H) : rIx K (.ref r) (.int (i : Int)) H Q := by
  rcases h with h | h
  · exact .inl ⟨r, xs, i, v, rfl, rfl, h, atI_nat e, q⟩
  · exact .inr (.inl ⟨r, xs, i, v, rfl, rfl, h, atI_nat e, q⟩)
theorem Fr.at {n : Nat} {ρ ρ' : Rho} {H H' : Hp} (f : Fr n ρ H ρ' H') {b : Addr} {o : HO} (e : H b = some o) (c : ρ b = none) : H' b = some o ∧ ρ' b = none := by
  obtain ⟨a, d⟩ := f b o e (fun t x => by rw [c]; intro z; cases z)
  exact ⟨a, d.trans c⟩
theorem Fr.seq {K : PySem.W.Frag} {n : Nat} {ρ ρ' : Rho} {H H' : Hp} (f : Fr n ρ H ρ' H') {l : Addr} {xs : List V} (h : SqL K H l xs) (c : ρ l = none) : SqL K H' l xs := by
  rcases h with (h | ⟨o, h⟩) | h
  · exact .inl (.inl (f.at h c).1)
  · exact .inl (.inr ⟨o, (f.at h c).1⟩)
  · exact .inr h
theorem Fr.tup {n : Nat} {ρ ρ' : Rho} {H H' : Hp} (f : Fr n ρ H ρ' H') (g : Gh ρ H) : ∀ b xs, H b = some (.tup xs) → H' b = some (.tup xs) := fun b xs e => (f.at e (g.tup e)).1
end L2
namespace L2
open PySem PySem.Spec PyProof.Rows
def nmS (nss : List (List Nat)) : List Str := nss.map tx
theorem txs_nmS (nss : List (List Nat)) : txs nss = (nmS nss).map V.str := by unfold txs nmS; rw [List.map_map]; rfl
theorem nmS_nodup {nss : List (List Nat)} (h : nss.Nodup) : (nmS nss).Nodup := by
  unfold nmS
  exact List.Pairwise.map tx (fun a b hab e => hab (tx_inj e)) h
theorem nmS_ok {nss : List (List Nat)} (h : ∀ x ∈ nss, NameOk x) : ∀ o ∈ nmS nss, NmOk o := fun o ho => by
  obtain ⟨x, hx, rfl⟩ := List.mem_map.mp ho
  show NameOk (tx x).cps.toList
  rw [show (tx x).cps.toList = x from by simp]
  exact h x hx
theorem nmS_len (nss : List (List Nat)) : (nmS nss).length = nss.length := by unfold nmS; rw [List.length_map]
theorem atI_strs {l : List Str} {d : Int} (h0 : 0 ≤ d) (h1 : d < (l.length : Int)) : ∃ (j : Nat) (o : Str), d = (j : Int) ∧ l[j]? = some o ∧ atI (l.map V.str) d = some (.str o) := by
  obtain ⟨j, rfl⟩ : ∃ j : Nat, d = (j : Int) := ⟨d.toNat, by omega⟩
  have hj : j < l.length := by omega
  exact ⟨j, l[j], rfl, List.getElem?_eq_getElem hj, atI_nat (by rw [List.getElem?_map, List.getElem?_eq_getElem hj]; rfl)⟩
section
variable {T : TC} {n : Nat} {L H : Hp} {x lp : Addr} {st : HS} {ps : List Pt}
end
theorem nodup_take_not {α : Type} {l : List α} (nd : l.Nodup) {i : Nat} {x : α} (h : l[i]? = some x) : x ∉ l.take i := fun m => by
  have h2 : (l.take (i + 1)).Nodup := nd.sublist (List.take_sublist _ _)
  rw [take_snoc h] at h2
  exact (List.nodup_append.mp h2).2.2 x m x (List.mem_singleton.mpr rfl) rfl
end L2
namespace L2
open PySem PySem.Spec PyProof.Rows
abbrev Row := Str × Int
def rowO (r : Row) : HO := .tup [.str r.1, .int r.2]
inductive RowsIn (H : Hp) : List V → List Row → Prop
  | nil : RowsIn H [] []
  | cons {a : Addr} {r : Row} {vs : List V} {rs : List Row} : H a = some (rowO r) → RowsIn H vs rs → RowsIn H (.ref a :: vs) (r :: rs)
theorem RowsIn.mono {H H' : Hp} {vs : List V} {l : List Row} (h : RowsIn H vs l) (g : ∀ b xs, H b = some (.tup xs) → H' b = some (.tup xs)) : RowsIn H' vs l := by
  induction h with
  | nil => exact .nil
  | cons a _ ih => exact .cons (g _ _ a) ih
theorem RowsIn.length {H : Hp} {vs : List V} {l : List Row} (h : RowsIn H vs l) : vs.length = l.length := by
  induction h with
  | nil => rfl
  | cons _ _ ih => simp [ih]
theorem RowsIn.get {H : Hp} {vs : List V} {l : List Row} (h : RowsIn H vs l) : ∀ {i : Nat} {x : V}, vs[i]? = some x → ∃ a r, x = .ref a ∧ l[i]? = some r ∧ H a = some (rowO r) := by
  induction h with
  | nil => intro i x e; simp at e
  | @cons a r vs rs e0 _ ih =>
    intro i x e
    cases i with
    | zero => simp at e; subst e; exact ⟨a, r, rfl, rfl, e0⟩
    | succ i => simp at e; obtain ⟨a', r', e1, e2, e3⟩ := ih e; exact ⟨a', r', e1, by simpa using e2, e3⟩
theorem RowsIn.snoc {H : Hp} {vs : List V} {l : List Row} {a : Addr} {r : Row} (h : RowsIn H vs l) (e : H a = some (rowO r)) : RowsIn H (vs ++ [.ref a]) (l ++ [r]) := by
  induction h with
  | nil => exact .cons e .nil
  | cons a _ ih => exact .cons a ih
def amtK (rs : List Row) : List (Key × V) := rs.map fun r => ((Sum.inr r.1 : Key), V.int r.2)
theorem amtK_len (rs : List Row) : (amtK rs).length = rs.length := by unfold amtK; rw [List.length_map]
theorem amtK_none {rs : List Row} {x : Str} (h : x ∉ rs.map (·.1)) : valV (amtK rs) (Sum.inr x) = none := by
  unfold amtK
  induction rs with
  | nil => rfl
  | cons a l ih =>
    rw [List.map_cons, valV_neg (fun z => h (by rw [List.map_cons, ← Sum.inr.inj z]; exact List.mem_cons_self))]
    exact ih fun m => h (by rw [List.map_cons]; exact List.mem_cons_of_mem _ m)
def lostS (rs : List Row) : Int := (rs.map (·.2)).sum
def pget (st : HS) (x : Str) : Pt := (st.pts.find? fun p => decide (p.nm = x)).getD ⟨x, x, 0, 0, 1, []⟩
theorem pget_of {st : HS} (nd : (st.pts.map (·.nm)).Nodup) {i : Nat} {p : Pt} (h : st.pts[i]? = some p) : pget st p.nm = p := by
  unfold pget
  have : st.pts.find? (fun q => decide (q.nm = p.nm)) = some p := by
    generalize st.pts = ps at *
    induction ps generalizing i with
    | nil => simp at h
    | cons a ps ih =>
      obtain ⟨h1, h2⟩ := List.nodup_cons.mp (show (a.nm :: ps.map (·.nm)).Nodup from nd)
      cases i with
      | zero =>
        have : a = p := by simpa using h
        subst this
        rw [List.find?_cons, decide_eq_true rfl]
      | succ i =>
        have h' : ps[i]? = some p := by simpa using h
        rw [List.find?_cons, decide_eq_false (fun e => h1 (List.mem_map.mpr ⟨p, List.mem_of_getElem? h', e.symm⟩))]
        exact ih h2 h'
  rw [this]
  rfl
def giveStep (st : HS) (sums : List Int) (r : Row) : List Int := List.zipWith (fun old own => old + (r.2 * (pget st r.1).sc) * own) sums (pget st r.1).row
def givenS (st : HS) (rs : List Row) : List Int := rs.foldl (giveStep st) (st.com.map fun c => lostS rs * c)
def factS (s : Int) (ts : List Int) : Int := ts.foldl (fun s t => Jm.cf t s) s
def scalesS (st : HS) (kept : Int) : List Int := st.pts.map fun p => p.sc * kept
def comS (st : HS) (kept : Int) (added : List Int) : List Int := List.zipWith (fun t m => t * kept + m) st.com added
def sharedS (st : HS) (kept whole : Int) (added : List Int) : Int := factS whole (scalesS st kept ++ comS st kept added)
def growS (st : HS) (s : Int) : HS := if 1 < s then { st with stp := st.stp ++ [s], prod := st.prod * s, kn := 0 } else st
def blendS (st : HS) (kept whole : Int) (added : List Int) : HS :=
  growS { st with pts := st.pts.map (fun p => { p with sc := p.sc * kept / sharedS st kept whole added }), com := (comS st kept added).map (· / sharedS st kept whole added), pur := st.pur.map (· * (whole / sharedS st kept whole added)) } (whole / sharedS st kept whole added)
def lessP (ps : List Pt) (x : Str) (a : Int) : List Pt := (ps.map fun p => if p.nm = x then { p with wo := p.wo - a } else p).filter fun p => decide (p.wo ≠ 0)
def lessS (st : HS) (r : Row) : HS := { st with pts := lessP st.pts r.1 r.2 }
def castS (st : HS) (rs : List Row) : HS := rs.foldl lessS (blendS st (wholeS st - lostS rs) (wholeS st) (givenS st rs))
structure spCkA (vs : List V) (H : Hp) (Q : VK) (E : XK) : Prop where
  ex : ∃ a : Int, vs = [.int a] ∧ 1 ≤ a ∧ Q .non H
structure spCkL (vs : List V) (H : Hp) (Q : VK) (E : XK) : Prop where
  ex : ∃ m a : Int, vs = [.int m, .int a] ∧ 1 ≤ a ∧ a ≤ m ∧ Q .non H
structure spAmts (K : PySem.W.Frag) (vs : List V) (H : Hp) (Q : VK) (E : XK) : Prop where
  ex : ∃ (l : Addr) (us : List V) (rs : List Row), vs = [.ref l] ∧ SqL K H l us ∧ RowsIn H us rs ∧ (rs.map (·.1)).Nodup ∧ rs ≠ [] ∧ rs.length ≤ 1000 ∧ ∀ d H', Same H H' → H d = none → H' d = some (.dK (amtK rs)) → Q (.ref d) H'
structure spFact (K : PySem.W.Frag) (vs : List V) (H : Hp) (Q : VK) (E : XK) : Prop where
  ex : ∃ (s : Int) (l : Addr) (ts : List Int), vs = [.int s, .ref l] ∧ SqL K H l (ts.map V.int) ∧ 0 ≤ s ∧ (∀ t ∈ ts, 0 ≤ t) ∧ Q (.int (factS s ts)) H
structure spGrow (T : TC) (vs : List V) (H : Hp) (Q : VK) (E : XK) : Prop where
  ex : ∃ n ρ A st s, vs = [.ref A.bt, .int s] ∧ Gh ρ H ∧ HoldAt T n ρ A H st ∧ st.stp.length ≤ 1000 ∧ Jm.Sz 9000 st.prod ∧ Jm.Sz 9000 s ∧ ∀ ρ' A' H', Gh ρ' H' → HoldAt T n ρ' A' H' (growS st s) → A'.a = A.a → Fr n ρ H ρ' H' → Q .non H'
structure spGiven (T : TC) (vs : List V) (H : Hp) (Q : VK) (E : XK) : Prop where
  ex : ∃ n ρ A st, ∃ (d : Addr) (rs : List Row), vs = [.ref A.a, .ref d] ∧ HoldAt T n ρ A H st ∧ Wf st ∧ H d = some (.dK (amtK rs)) ∧ ρ d = none ∧ rs.length ≤ 1000 ∧ (∀ r ∈ rs, Jm.Sz 60 r.2 ∧ ∃ p ∈ st.pts, p.nm = r.1) ∧ ∀ l H', Same H H' → H l = none → H' l = some (.lst ((givenS st rs).map V.int)) → Q (.ref l) H'
structure spBlend (T : TC) (K : PySem.W.Frag) (vs : List V) (H : Hp) (Q : VK) (E : XK) : Prop where
  ex : ∃ n ρ A st, ∃ (kept whole : Int) (l : Addr) (added : List Int), vs = [.ref A.a, .int kept, .int whole, .ref l] ∧ HH T n ρ A H st ∧ SqL K H l (added.map V.int) ∧ added.length = st.com.length ∧ 0 < kept ∧ 0 < whole ∧ Jm.Sz 60 kept ∧ Jm.Sz 60 whole ∧ (∀ m ∈ added, 0 ≤ m ∧ Jm.Sz 8900 m) ∧ (∀ u ∈ st.pur, Jm.Sz 8900 u) ∧ st.stp.length < 100 ∧ Wf (blendS st kept whole added) ∧ HPost T n ρ A H (blendS st kept whole added) fun H' => Q .non H'
structure spLess (T : TC) (vs : List V) (H : Hp) (Q : VK) (E : XK) : Prop where
  ex : ∃ n ρ A st, ∃ r : Row, vs = [.ref A.a, .str r.1, .int r.2] ∧ HH T n ρ A H st ∧ (∃ p ∈ st.pts, p.nm = r.1 ∧ r.2 ≤ p.wo) ∧ Wf (lessS st r) ∧ HPost T n ρ A H (lessS st r) fun H' => Q .non H'
structure CastOk (st : HS) (rs : List Row) : Prop where
  nd : (rs.map (·.1)).Nodup
  ne : rs ≠ []
  len : rs.length ≤ 1000
  row : ∀ r ∈ rs, 1 ≤ r.2 ∧ Jm.Sz 60 r.2 ∧ ∃ p ∈ st.pts, p.nm = r.1 ∧ r.2 ≤ p.wo
  lost : lostS rs < wholeS st
  big : Jm.Sz 60 (wholeS st)
  prod : Jm.Sz 7900 st.prod
  pur : ∀ u ∈ st.pur, Jm.Sz 8900 u
  stp : st.stp.length < 100
structure spCast (T : TC) (K : PySem.W.Frag) (vs : List V) (H : Hp) (Q : VK) (E : XK) : Prop where
  ex : ∃ n ρ A st, ∃ (l : Addr) (us : List V) (rs : List Row), vs = [.ref A.a, .ref l] ∧ HH T n ρ A H st ∧ SqL K H l us ∧ RowsIn H us rs ∧ CastOk st rs ∧ HPost T n ρ A H (castS st rs) fun H' => Q .non H'
end L2
namespace L2
open PySem PySem.Spec PyProof.Rows
theorem dropK_ab : ∀ {ps : List Pt} {qs : List (Addr × Addr × Addr)} {i : Nat} {p : Pt}, (ps.map (·.nm)).Nodup → qs.length = ps.length → ps[i]? = some p → dropK (abK ps qs) (Sum.inr p.nm) = abK (ps.eraseIdx i) (qs.eraseIdx i)
  | [], _, _, _, _, _, h => by simp at h
  | _ :: _, [], _, _, _, hl, _ => by simp at hl
  | a :: ps, b :: qs, 0, p, nd, hl, h => by
    have e : a = p := by simpa using h
    subst e
    obtain ⟨h1, h2⟩ := List.nodup_cons.mp (show (a.nm :: ps.map (·.nm)).Nodup from nd)
    show dropK ((Sum.inr a.nm, V.ref b.1) :: abK ps qs) (Sum.inr a.nm) = abK ps qs
    unfold dropK
    rw [List.filter_cons, if_neg (by simp)]
    refine List.filter_eq_self.mpr fun kv hkv => ?_
    unfold abK at hkv
    obtain ⟨x, hx, y, hy, rfl⟩ := mem_zipW hkv
    exact decide_eq_true fun z => h1 (List.mem_map.mpr ⟨x, hx, Sum.inr.inj z⟩)
  | a :: ps, b :: qs, i + 1, p, nd, hl, h => by
    obtain ⟨h1, h2⟩ := List.nodup_cons.mp (show (a.nm :: ps.map (·.nm)).Nodup from nd)
    have h' : ps[i]? = some p := by simpa using h
    have ih := dropK_ab h2 (by simpa using hl) h'
    show dropK ((Sum.inr a.nm, V.ref b.1) :: abK ps qs) (Sum.inr p.nm) = (Sum.inr a.nm, V.ref b.1) :: abK (ps.eraseIdx i) (qs.eraseIdx i)
    rw [← ih]
    unfold dropK
    have hne : ¬ (Sum.inr a.nm : Key) = Sum.inr p.nm := fun z => h1 (List.mem_map.mpr ⟨p, List.mem_of_getElem? h', (Sum.inr.inj z).symm⟩)
    rw [List.filter_cons, if_pos (by simpa using fun e : a.nm = p.nm => hne (by rw [e]))]
theorem lessP_eq : ∀ {ps : List Pt} {i : Nat} {p : Pt} {a : Int}, (ps.map (·.nm)).Nodup → (∀ q ∈ ps, q.wo ≠ 0) → ps[i]? = some p → lessP ps p.nm a = if p.wo - a = 0 then ps.eraseIdx i else ps.set i { p with wo := p.wo - a }
  | [], _, _, _, _, _, h => by simp at h
  | x :: ps, 0, p, a, nd, hw, h => by
    have e : x = p := by simpa using h
    subst e
    obtain ⟨h1, h2⟩ := List.nodup_cons.mp (show (x.nm :: ps.map (·.nm)).Nodup from nd)
    have rest : lessP ps x.nm a = ps := by
      unfold lessP
      rw [show (ps.map fun p => if p.nm = x.nm then { p with wo := p.wo - a } else p) = ps from by
        conv => rhs; rw [← List.map_id ps]
        exact List.map_congr_left fun y hy => if_neg fun z => h1 (List.mem_map.mpr ⟨y, hy, z⟩)]
      exact List.filter_eq_self.mpr fun y hy => decide_eq_true (hw y (List.mem_cons_of_mem _ hy))
    show ((x :: ps).map fun p => if p.nm = x.nm then { p with wo := p.wo - a } else p).filter _ = _
    rw [List.map_cons, if_pos rfl, List.filter_cons]
    by_cases c : x.wo - a = 0
    · rw [if_pos c, if_neg (by simp [c])]
      exact rest
    · rw [if_neg c, if_pos (by simpa using c)]
      show _ :: lessP ps x.nm a = _
      rw [rest]
      rfl
  | x :: ps, i + 1, p, a, nd, hw, h => by
    obtain ⟨h1, h2⟩ := List.nodup_cons.mp (show (x.nm :: ps.map (·.nm)).Nodup from nd)
    have h' : ps[i]? = some p := by simpa using h
    have ih := lessP_eq (a := a) h2 (fun q hq => hw q (List.mem_cons_of_mem _ hq)) h'
    have xn : ¬ x.nm = p.nm := fun z => h1 (List.mem_map.mpr ⟨p, List.mem_of_getElem? h', z.symm⟩)
    show ((x :: ps).map fun q => if q.nm = p.nm then { q with wo := q.wo - a } else q).filter _ = _
    rw [List.map_cons, if_neg xn, List.filter_cons, if_pos (decide_eq_true (hw x List.mem_cons_self))]
    show x :: lessP ps p.nm a = _
    rw [ih]
    by_cases c : p.wo - a = 0
    · rw [if_pos c, if_pos c]; rfl
    · rw [if_neg c, if_neg c]; rfl
theorem set_same' {α : Type} : ∀ {l : List α} {i : Nat} {x : α}, l[i]? = some x → l.set i x = l
  | [], _, _, h => by simp at h
  | a :: l, 0, x, h => by have : a = x := by simpa using h
                          rw [this]; rfl
  | a :: l, i + 1, x, h => by rw [List.set_cons_succ, set_same' (by simpa using h)]
theorem eraseIdx_get {α β : Type} {l : List α} {m : List β} {i j : Nat} {x : α} {y : β} (h1 : (l.eraseIdx i)[j]? = some x) (h2 : (m.eraseIdx i)[j]? = some y) : ∃ k : Nat, l[k]? = some x ∧ m[k]? = some y := by
  rw [List.getElem?_eraseIdx] at h1 h2
  by_cases c : j < i
  · rw [if_pos c] at h1 h2; exact ⟨j, h1, h2⟩
  · rw [if_neg c] at h1 h2; exact ⟨j + 1, h1, h2⟩
theorem factS_dvd : ∀ (ts : List Int) (s : Int), factS s ts ∣ s ∧ ∀ t ∈ ts, factS s ts ∣ t
  | [], s => ⟨Int.dvd_refl _, fun _ h => absurd h (by simp)⟩
  | t :: ts, s => by
    obtain ⟨h1, h2⟩ := factS_dvd ts (Jm.cf t s)
    refine ⟨Int.dvd_trans h1 (Jm.dvd_cf_right t s), fun u hu => ?_⟩
    rcases List.mem_cons.mp hu with rfl | hu
    · exact Int.dvd_trans h1 (Jm.dvd_cf_left u s)
    · exact h2 u hu
theorem factS_pos : ∀ (ts : List Int) (s : Int), 0 < s → 0 < factS s ts
  | [], _, h => h
  | t :: ts, s, h => factS_pos ts _ (Jm.cf_pos t s (.inr h))
theorem color_new {T : TC} {n t : Nat} {ρ : Rho} {A : HA} {H : Hp} {st : HS} {a : Addr} {o : HO} (h : HoldAt T n ρ A H st) (g : Gh ρ H) (c : ρ a = none) (e : H a = some o) (ht : isTup o = false) :
    HoldAt T n (updC ρ a (n, t, ⟨#[]⟩)) A H st ∧ Gh (updC ρ a (n, t, ⟨#[]⟩)) H :=
  ⟨h.same ⟨fun _ _ e => e, fun b u x w _ hc he => ⟨he, by rw [updC_ne (fun z => by rw [z, c] at hc; cases hc)]; exact hc⟩⟩, g.color e ht⟩
theorem Fr.colorNew {n t : Nat} {ρ ρ' : Rho} {H H' : Hp} {a : Addr} {x : Str} (f : Fr n ρ H ρ' H') (h : H a = none) : Fr n ρ H (updC ρ' a (n, t, x)) H' := fun b o e k => by
  obtain ⟨e1, e2⟩ := f b o e k
  exact ⟨e1, by rw [updC_ne (ne_of_none e h)]; exact e2⟩
end L2
namespace L2
open PySem PySem.Spec PyProof.Rows
theorem div_le_of {d a b : Int} (hd : 0 < d) (h : a ≤ d * b) : a / d ≤ b := by
  have := Int.ediv_le_ediv hd h
  rwa [Int.mul_ediv_cancel_left _ (by omega)] at this
theorem growS_prod {st : HS} {s : Int} (h : 1 ≤ s) : (growS st s).prod = st.prod * s := by
  unfold growS
  by_cases c : 1 < s
  · rw [if_pos c]
  · rw [if_neg c, show s = 1 by omega, Int.mul_one]
theorem growS_pts (st : HS) (s : Int) : (growS st s).pts = st.pts := by unfold growS; split <;> rfl
theorem growS_pur (st : HS) (s : Int) : (growS st s).pur = st.pur := by unfold growS; split <;> rfl
theorem growS_own (st : HS) (s : Int) : (growS st s).own = st.own := by unfold growS; split <;> rfl
theorem growS_ash (st : HS) (s : Int) : (growS st s).ash = st.ash := by unfold growS; split <;> rfl
theorem zipW_mem2 {α β γ : Type} {f : α → β → γ} {t : γ} : ∀ {xs : List α} {ys : List β}, t ∈ List.zipWith f xs ys → ∃ (i : Nat) (x : α) (y : β), xs[i]? = some x ∧ ys[i]? = some y ∧ t = f x y := fun {xs ys} h => by
  obtain ⟨i, hi, e⟩ := List.getElem_of_mem h
  rw [List.length_zipWith] at hi
  have h1 : i < xs.length := by omega
  have h2 : i < ys.length := by omega
  exact ⟨i, xs[i], ys[i], List.getElem?_eq_getElem h1, List.getElem?_eq_getElem h2, by rw [← e, List.getElem_zipWith]⟩
theorem zipW_at {α β γ : Type} {f : α → β → γ} {xs : List α} {ys : List β} {i : Nat} {x : α} {y : β} (h1 : xs[i]? = some x) (h2 : ys[i]? = some y) : (List.zipWith f xs ys)[i]? = some (f x y) := by
  rw [List.getElem?_zipWith, h1, h2]
theorem mul_le_r {a b c : Int} (h : a ≤ b) (hc : 0 ≤ c) : a * c ≤ b * c := Int.mul_le_mul_of_nonneg_right h hc
structure BlendOk (st : HS) (kept whole lost : Int) (added : List Int) : Prop where
  k : 0 < kept
  l : 0 ≤ lost
  w : whole = kept + lost
  len : added.length = st.com.length
  add : ∀ m ∈ added, 0 ≤ m ∧ m ≤ lost * st.prod
  prod : Jm.Sz 7900 st.prod
  big : Jm.Sz 60 whole
  pur : ∀ u ∈ st.pur, Jm.Sz 8900 u
  stp : st.stp.length < 100
theorem BlendOk.dvds {st : HS} {kept whole lost : Int} {added : List Int} (b : BlendOk st kept whole lost added) :
    0 < sharedS st kept whole added ∧ sharedS st kept whole added ∣ whole ∧ (∀ p ∈ st.pts, sharedS st kept whole added ∣ p.sc * kept) ∧ ∀ c ∈ comS st kept added, sharedS st kept whole added ∣ c := by
  have hw : 0 < whole := by have := b.k; have := b.l; have := b.w; omega
  have d := factS_dvd (scalesS st kept ++ comS st kept added) whole
  exact ⟨factS_pos _ _ hw, d.1, fun p hp => d.2 _ (List.mem_append_left _ (List.mem_map.mpr ⟨p, hp, rfl⟩)), fun c hc => d.2 _ (List.mem_append_right _ hc)⟩
theorem wf_blend {st : HS} {kept whole lost : Int} {added : List Int} (wf : Wf st) (b : BlendOk st kept whole lost added) : Wf (blendS st kept whole added) := by
  obtain ⟨hs, hsw, hsp, hsc⟩ := b.dvds
  have hk := b.k
  have hl := b.l
  have hw := b.w
  have p1 := wf.prod1
  have eB : blendS st kept whole added = growS { st with pts := st.pts.map (fun p => { p with sc := p.sc * kept / sharedS st kept whole added }), com := (comS st kept added).map (· / sharedS st kept whole added), pur := st.pur.map (· * (whole / sharedS st kept whole added)) } (whole / sharedS st kept whole added) := rfl
  rw [eB]
  generalize sharedS st kept whole added = d at *
  obtain ⟨s, es⟩ := hsw
  have hs1 : 1 ≤ s := by
    rcases Int.lt_trichotomy s 0 with z | z | z
    · have := Int.mul_neg_of_pos_of_neg hs z; omega
    · rw [z, Int.mul_zero] at es; omega
    · omega
  have ed : whole / d = s := by rw [es, Int.mul_ediv_cancel_left _ (by omega)]
  rw [ed]
  have hsle : s ≤ whole := by rw [es]; have := Int.mul_le_mul_of_nonneg_right (show 1 ≤ d by omega) (show 0 ≤ s by omega); omega
  have zs : Jm.Sz 60 s := b.big.of_le (by omega)
  have zp : Jm.Sz 8000 (st.prod * s) := (b.prod.mul zs).mono (by decide)
  have pp : st.prod ≤ st.prod * s := by have := Int.mul_le_mul_of_nonneg_left hs1 (show 0 ≤ st.prod by omega); omega
  have com' : ∀ c ∈ (comS st kept added).map (· / d), 0 ≤ c ∧ c ≤ st.prod * s := fun c hc => by
    obtain ⟨x, hx, rfl⟩ := List.mem_map.mp hc
    obtain ⟨i, t, m, et, em, rfl⟩ := zipW_mem2 (show x ∈ List.zipWith (fun t m => t * kept + m) st.com added from hx)
    have ht := wf.com0 t (List.mem_of_getElem? et)
    have hm := b.add m (List.mem_of_getElem? em)
    have a1 : 0 ≤ t * kept := Int.mul_nonneg ht.1 (by omega)
    have a2 : t * kept ≤ st.prod * kept := mul_le_r ht.2 (by omega)
    have a3 : st.prod * kept + lost * st.prod = d * (st.prod * s) := by
      rw [Int.mul_comm lost, ← Int.mul_add, ← hw, es, ← Int.mul_assoc, ← Int.mul_assoc, Int.mul_comm st.prod d]
    exact ⟨Int.ediv_nonneg (by omega) (by omega), div_le_of hs (by omega)⟩
  have sc' : ∀ p ∈ st.pts, 1 ≤ p.sc * kept / d ∧ p.sc * kept / d ≤ st.prod * s ∧ d * (p.sc * kept / d) = p.sc * kept := fun p hp => by
    have h0 := wf.sc0 p hp
    obtain ⟨z, ez⟩ := hsp p hp
    have a1 : 0 < p.sc * kept := Int.mul_pos (by omega) hk
    have ez' : p.sc * kept / d = z := by rw [ez, Int.mul_ediv_cancel_left _ (by omega)]
    have hz : 1 ≤ z := by
      rcases Int.lt_trichotomy z 0 with y | y | y
      · have := Int.mul_neg_of_pos_of_neg hs y; omega
      · rw [y, Int.mul_zero] at ez; omega
      · omega
    have a2 : p.sc * kept ≤ st.prod * kept := mul_le_r h0.2 (by omega)
    have a3 : st.prod * kept ≤ st.prod * whole := Int.mul_le_mul_of_nonneg_left (by omega) (by omega)
    have a4 : st.prod * whole = d * (st.prod * s) := by rw [es, ← Int.mul_assoc, ← Int.mul_assoc, Int.mul_comm st.prod d]
    refine ⟨by rw [ez']; exact hz, div_le_of hs (by omega), by rw [ez', ez]⟩
  have P : ∀ {M : Pt → Prop}, (∀ p ∈ st.pts, M { p with sc := p.sc * kept / d }) → ∀ p ∈ st.pts.map (fun p => { p with sc := p.sc * kept / d }), M p := fun h p hp => by
    obtain ⟨x, hx, rfl⟩ := List.mem_map.mp hp
    exact h x hx
  have top' : ∀ p ∈ st.pts, ∀ t ∈ List.zipWith (fun r c => (p.sc * kept / d) * r + c) p.row ((comS st kept added).map (· / d)), 0 ≤ t ∧ t ≤ st.prod * s := fun p hp t ht => by
    obtain ⟨i, r, c, er, ec, rfl⟩ := zipW_mem2 ht
    rw [List.getElem?_map] at ec
    obtain ⟨x, ex, rfl⟩ := Option.map_eq_some_iff.mp ec
    obtain ⟨y, ey⟩ := hsc x (List.mem_of_getElem? ex)
    have eyd : x / d = y := by rw [ey, Int.mul_ediv_cancel_left _ (by omega)]
    have ex' : (List.zipWith (fun t m => t * kept + m) st.com added)[i]? = some x := ex
    rw [List.getElem?_zipWith] at ex'
    cases e1 : st.com[i]? with
    | none => rw [e1] at ex'; simp at ex'
    | some t0 =>
      cases e2 : added[i]? with
      | none => rw [e1, e2] at ex'; simp at ex'
      | some m =>
        rw [e1, e2] at ex'
        have ex2 : t0 * kept + m = x := by simpa using ex'
        have hm := b.add m (List.mem_of_getElem? e2)
        have hT := wf.top0 p hp (p.sc * r + t0) (List.mem_of_getElem? (zipW_at (f := fun r c => p.sc * r + c) er e1))
        have hz := (sc' p hp).2.2
        have key : d * ((p.sc * kept / d) * r + x / d) = (p.sc * r + t0) * kept + m := by
          rw [Int.mul_add, ← Int.mul_assoc, hz, eyd, ← ey, ← ex2]
          rw [Int.add_mul, Int.mul_assoc, Int.mul_assoc, Int.mul_comm kept r]
          omega
        have k1 : 0 ≤ (p.sc * r + t0) * kept := Int.mul_nonneg hT.1 (by omega)
        have k2 : (p.sc * r + t0) * kept ≤ st.prod * kept := mul_le_r hT.2 (by omega)
        have a3 : st.prod * kept + lost * st.prod = d * (st.prod * s) := by
          rw [Int.mul_comm lost, ← Int.mul_add, ← hw, es, ← Int.mul_assoc, ← Int.mul_assoc, Int.mul_comm st.prod d]
        generalize (p.sc * kept / d) * r + x / d = W at *
        constructor
        · rcases Int.lt_or_le W 0 with z | z
          · have := Int.mul_neg_of_pos_of_neg hs z; omega
          · exact z
        · have : d * W ≤ d * (st.prod * s) := by omega
          exact Int.le_of_mul_le_mul_left this hs
  have nm' : (st.pts.map (fun p : Pt => { p with sc := p.sc * kept / d })).map (fun p : Pt => p.nm) = st.pts.map (fun p : Pt => p.nm) := by rw [List.map_map]; rfl
  have e0 : (comS st kept added).length = st.com.length := by unfold comS; rw [List.length_zipWith, b.len]; omega
  have pu' : ∀ u ∈ st.pur.map (· * s), Jm.Sz 9000 u := fun u hu => by
    obtain ⟨x, hx, rfl⟩ := List.mem_map.mp hu
    exact ((b.pur x hx).mul zs).mono (by decide)
  have row' : ∀ p ∈ st.pts, ∀ r ∈ p.row, -(st.prod * s) ≤ r ∧ r ≤ st.prod * s := fun p hp r hr => by have := wf.row0 p hp r hr; omega
  unfold growS
  by_cases c : 1 < s
  · rw [if_pos c]
    refine ⟨wf.ownN, wf.nmsN, by rw [nm']; exact wf.ptsN, P wf.sub, P wf.rows, P wf.ow, ?_, ?_, by show 1 ≤ st.prod * s; omega, ?_, fun x hx => ?_, wf.ownL, wf.nmsL, ?_, ?_, wf.ashL, Nat.zero_le _, zp, com', P fun p hp => ⟨(sc' p hp).1, (sc' p hp).2.1⟩, P row', P top', P wf.wo0, pu'⟩
    · show (List.map _ (comS st kept added)).length = _
      rw [List.length_map, e0, wf.coml]
    · show (List.map _ st.pur).length = _
      rw [List.length_map, wf.purl]
    · show st.prod * s = (st.stp ++ [s]).foldl (· * ·) 1
      rw [pr_snoc, ← wf.prodE]
    · rcases List.mem_append.mp (show x ∈ st.stp ++ [s] from hx) with z | z
      · exact wf.stp2 x z
      · rw [List.mem_singleton.mp z]; omega
    · show (List.map _ st.pts).length ≤ 1000
      rw [List.length_map]; exact wf.ptsL
    · show (st.stp ++ [s]).length ≤ 100
      rw [List.length_append]; exact b.stp
  · rw [if_neg c]
    have e1 : s = 1 := by omega
    subst e1
    rw [Int.mul_one] at com' sc' row' top'
    refine ⟨wf.ownN, wf.nmsN, by rw [nm']; exact wf.ptsN, P wf.sub, P wf.rows, P wf.ow, ?_, ?_, wf.prod1, wf.prodE, wf.stp2, wf.ownL, wf.nmsL, ?_, wf.stpL, wf.ashL, wf.knL, wf.big, com', P fun p hp => ⟨(sc' p hp).1, (sc' p hp).2.1⟩, P wf.row0, P fun p hp t ht => ?_, P wf.wo0, pu'⟩
    · show (List.map _ (comS st kept added)).length = _
      rw [List.length_map, e0, wf.coml]
    · show (List.map _ st.pur).length = _
      rw [List.length_map, wf.purl]
    · show (List.map _ st.pts).length ≤ 1000
      rw [List.length_map]; exact wf.ptsL
    · exact top' p hp t ht
def giveT (st : HS) (acc : List Int) (rs : List Row) : List Int := rs.foldl (fun s r => List.zipWith (fun x t => x + r.2 * t) s (topsS st (pget st r.1))) acc
theorem give_step : ∀ (acc com row : List Int) (a sc L : Int), List.zipWith (fun old own => old + (a * sc) * own) (List.zipWith (fun s c => s + (a + L) * c) acc com) row = List.zipWith (fun s c => s + L * c) (List.zipWith (fun x t => x + a * t) acc (List.zipWith (fun r c => sc * r + c) row com)) com
  | [], _, _, _, _, _ => by simp
  | _ :: _, [], _, _, _, _ => by simp
  | _ :: _, _ :: _, [], _, _, _ => by simp
  | x :: acc, c :: com, r :: row, a, sc, L => by
    simp only [List.zipWith_cons_cons]
    rw [give_step acc com row a sc L]
    congr 1
    grind
theorem give_gen {st : HS} : ∀ (rs : List Row) (acc : List Int), rs.foldl (giveStep st) (List.zipWith (fun s c => s + lostS rs * c) acc st.com) = List.zipWith (fun s c => s + 0 * c) (giveT st acc rs) st.com
  | [], acc => by show List.zipWith _ acc st.com = _; rfl
  | r :: rs, acc => by
    rw [List.foldl_cons]
    have e : giveStep st (List.zipWith (fun s c => s + lostS (r :: rs) * c) acc st.com) r = List.zipWith (fun s c => s + lostS rs * c) (List.zipWith (fun x t => x + r.2 * t) acc (topsS st (pget st r.1))) st.com := by
      unfold giveStep
      rw [show lostS (r :: rs) = r.2 + lostS rs from by unfold lostS; rw [List.map_cons, List.sum_cons]]
      exact give_step acc st.com (pget st r.1).row r.2 (pget st r.1).sc (lostS rs)
    rw [e, give_gen rs]
    rfl
theorem zip_zero0 : ∀ (l : List Int) (L : Int), List.zipWith (fun s c => s + L * c) (List.replicate l.length 0) l = l.map fun c => L * c
  | [], _ => rfl
  | x :: l, L => by
    rw [List.length_cons, List.replicate_succ, List.zipWith_cons_cons, zip_zero0 l L, Int.zero_add]
    rfl
theorem zip_none : ∀ (s l : List Int), s.length ≤ l.length → List.zipWith (fun s c => s + 0 * c) s l = s
  | [], _, _ => by simp
  | _ :: _, [], h => by simp at h
  | x :: s, c :: l, h => by
    rw [List.zipWith_cons_cons, zip_none s l (by simpa using h), Int.zero_mul, Int.add_zero]
theorem giveT_len {st : HS} : ∀ (rs : List Row) (acc : List Int), (∀ r ∈ rs, (topsS st (pget st r.1)).length = acc.length) → (giveT st acc rs).length = acc.length
  | [], _, _ => rfl
  | r :: rs, acc, h => by
    have e : (List.zipWith (fun x t => x + r.2 * t) acc (topsS st (pget st r.1))).length = acc.length := by rw [List.length_zipWith, h r List.mem_cons_self]; omega
    show (giveT st (List.zipWith (fun x t => x + r.2 * t) acc (topsS st (pget st r.1))) rs).length = _
    rw [giveT_len rs _ (fun x hx => by rw [e]; exact h x (List.mem_cons_of_mem _ hx)), e]
theorem giveT_bound {st : HS} (hP : 0 ≤ st.prod) : ∀ (rs : List Row) (acc : List Int) (B : Int), (∀ r ∈ rs, 0 ≤ r.2 ∧ ∀ t ∈ topsS st (pget st r.1), 0 ≤ t ∧ t ≤ st.prod) → (∀ x ∈ acc, 0 ≤ x ∧ x ≤ B) → ∀ x ∈ giveT st acc rs, 0 ≤ x ∧ x ≤ B + lostS rs * st.prod
  | [], acc, B, _, ha, x, hx => by
    have := ha x hx
    show 0 ≤ x ∧ x ≤ B + 0 * st.prod
    omega
  | r :: rs, acc, B, h, ha, x, hx => by
    have hr := h r List.mem_cons_self
    have := giveT_bound hP rs (List.zipWith (fun x t => x + r.2 * t) acc (topsS st (pget st r.1))) (B + r.2 * st.prod) (fun y hy => h y (List.mem_cons_of_mem _ hy)) (fun y hy => by
      obtain ⟨i, a, t, ea, et, rfl⟩ := zipW_mem2 hy
      have h1 := ha a (List.mem_of_getElem? ea)
      have h2 := hr.2 t (List.mem_of_getElem? et)
      have h3 : 0 ≤ r.2 * t := Int.mul_nonneg hr.1 h2.1
      have h4 : r.2 * t ≤ r.2 * st.prod := Int.mul_le_mul_of_nonneg_left h2.2 hr.1
      omega) x hx
    rw [show lostS (r :: rs) = r.2 + lostS rs from by unfold lostS; rw [List.map_cons, List.sum_cons], Int.add_mul]
    omega
theorem tops_len {st : HS} (wf : Wf st) {p : Pt} (h : p ∈ st.pts) : (topsS st p).length = st.com.length := by
  unfold topsS
  rw [List.length_zipWith, wf.rows p h, wf.coml]
  omega
theorem pget_mem {st : HS} (wf : Wf st) {x : Str} {p : Pt} (h : p ∈ st.pts) (e : p.nm = x) : pget st x = p := by
  obtain ⟨i, hi, ei⟩ := List.getElem_of_mem h
  rw [← e]
  exact pget_of wf.ptsN (i := i) (by rw [List.getElem?_eq_getElem hi, ei])
theorem givenS_eq {st : HS} (wf : Wf st) {rs : List Row} (h : ∀ r ∈ rs, ∃ p ∈ st.pts, p.nm = r.1) : givenS st rs = giveT st (List.replicate st.com.length 0) rs := by
  unfold givenS
  rw [← zip_zero0 st.com (lostS rs), give_gen]
  refine zip_none _ _ ?_
  rw [giveT_len rs _ (fun r hr => by
    obtain ⟨p, hp, e⟩ := h r hr
    rw [pget_mem wf hp e, List.length_replicate, tops_len wf hp]), List.length_replicate]
  exact Nat.le_refl _
theorem givenS_ok {st : HS} (wf : Wf st) {rs : List Row} (h : ∀ r ∈ rs, 1 ≤ r.2 ∧ ∃ p ∈ st.pts, p.nm = r.1) : (givenS st rs).length = st.com.length ∧ ∀ m ∈ givenS st rs, 0 ≤ m ∧ m ≤ lostS rs * st.prod := by
  rw [givenS_eq wf (fun r hr => (h r hr).2)]
  have p1 := wf.prod1
  constructor
  · rw [giveT_len rs _ (fun r hr => by
      obtain ⟨p, hp, e⟩ := (h r hr).2
      rw [pget_mem wf hp e, List.length_replicate, tops_len wf hp]), List.length_replicate]
  · intro m hm
    have := giveT_bound (st := st) (by omega) rs (List.replicate st.com.length 0) 0 (fun r hr => by
      obtain ⟨h1, p, hp, e⟩ := h r hr
      refine ⟨by omega, ?_⟩
      rw [pget_mem wf hp e]
      exact wf.top0 p hp) (fun x hx => by rw [(List.mem_replicate.mp hx).2]; omega) m hm
    omega
theorem less_other {ps : List Pt} {x : Str} {a : Int} {p : Pt} (h : p ∈ ps) (hn : p.nm ≠ x) (hw : p.wo ≠ 0) : p ∈ lessP ps x a :=
  List.mem_filter.mpr ⟨List.mem_map.mpr ⟨p, h, by rw [if_neg hn]⟩, decide_eq_true hw⟩
theorem less_mem {ps : List Pt} {x : Str} {a : Int} {p : Pt} (h : p ∈ lessP ps x a) : p.wo ≠ 0 ∧ ∃ q ∈ ps, p = if q.nm = x then { q with wo := q.wo - a } else q := by
  obtain ⟨h1, h2⟩ := List.mem_filter.mp h
  obtain ⟨q, hq, e⟩ := List.mem_map.mp h1
  exact ⟨of_decide_eq_true h2, q, hq, e.symm⟩
theorem less_names {ps : List Pt} {x : Str} {a : Int} : ((lessP ps x a).map (fun p : Pt => p.nm)).Sublist (ps.map (fun p : Pt => p.nm)) := by
  unfold lessP
  have e : (ps.map fun p => if p.nm = x then { p with wo := p.wo - a } else p).map (fun p : Pt => p.nm) = ps.map (fun p : Pt => p.nm) := by
    rw [List.map_map]
    exact List.map_congr_left fun p _ => by show (if p.nm = x then _ else p : Pt).nm = p.nm; split <;> rfl
  rw [← e]
  exact List.filter_sublist.map _
theorem wf_less {st : HS} (wf : Wf st) {r : Row} (h : ∀ p ∈ st.pts, p.nm = r.1 → r.2 ≤ p.wo) : Wf (lessS st r) := by
  have P : ∀ {M : Pt → Prop}, (∀ p ∈ st.pts, M p) → (∀ (p : Pt) (w : Int), M p → M { p with wo := w }) → ∀ p ∈ lessP st.pts r.1 r.2, M p := fun h1 h2 p hp => by
    obtain ⟨_, q, hq, e⟩ := less_mem hp
    rw [e]
    split
    · exact h2 _ _ (h1 q hq)
    · exact h1 q hq
  refine ⟨wf.ownN, wf.nmsN, wf.ptsN.sublist less_names, P wf.sub (fun _ _ z => z), P wf.rows (fun _ _ z => z), P wf.ow (fun _ _ z => z), wf.coml, wf.purl, wf.prod1, wf.prodE, wf.stp2, wf.ownL, wf.nmsL, ?_, wf.stpL, wf.ashL, wf.knL, wf.big, wf.com0, P wf.sc0 (fun _ _ z => z), P wf.row0 (fun _ _ z => z), P wf.top0 (fun _ _ z => z), fun p hp => ?_, wf.pur0⟩
  · have := less_names (ps := st.pts) (x := r.1) (a := r.2) |>.length_le
    rw [List.length_map, List.length_map] at this
    exact Nat.le_trans this wf.ptsL
  · obtain ⟨h0, q, hq, e⟩ := less_mem hp
    have := wf.wo0 q hq
    by_cases c : q.nm = r.1
    · rw [if_pos c] at e
      subst e
      have := h q hq c
      have h0 : q.wo - r.2 ≠ 0 := h0
      exact ⟨by show 1 ≤ q.wo - r.2; omega, by show 0 ≤ q.we; omega⟩
    · rw [if_neg c] at e
      rw [e]; exact this
def Due (st : HS) (rs : List Row) : Prop := ∀ r ∈ rs, ∃ p ∈ st.pts, p.nm = r.1 ∧ r.2 ≤ p.wo
theorem nm_uniq {st : HS} (wf : Wf st) {p q : Pt} (hp : p ∈ st.pts) (hq : q ∈ st.pts) (e : p.nm = q.nm) : p = q := (pget_mem wf hp rfl).symm.trans (by rw [e]; exact pget_mem wf hq rfl)
theorem due_wf {st : HS} (wf : Wf st) {r : Row} {rs : List Row} (d : Due st (r :: rs)) : Wf (lessS st r) := by
  obtain ⟨p, hp, e, hle⟩ := d r List.mem_cons_self
  exact wf_less wf fun q hq eq => by rw [nm_uniq wf hq hp (eq.trans e.symm)]; exact hle
theorem due_next {st : HS} (wf : Wf st) {r : Row} {rs : List Row} (d : Due st (r :: rs)) (nd : ((r :: rs).map (fun r : Row => r.1)).Nodup) : Due (lessS st r) rs := fun x hx => by
  obtain ⟨p, hp, e, hle⟩ := d x (List.mem_cons_of_mem _ hx)
  have hn : p.nm ≠ r.1 := fun z => (List.nodup_cons.mp nd).1 (List.mem_map.mpr ⟨x, hx, e.symm.trans z⟩)
  have := wf.wo0 p hp
  exact ⟨p, less_other hp hn (by omega), e, hle⟩
theorem due_blend {st : HS} {kept whole : Int} {added : List Int} {rs : List Row} (d : Due st rs) : Due (blendS st kept whole added) rs := fun r hr => by
  obtain ⟨p, hp, e, hle⟩ := d r hr
  refine ⟨{ p with sc := p.sc * kept / sharedS st kept whole added }, ?_, e, hle⟩
  unfold blendS
  rw [growS_pts]
  exact List.mem_map.mpr ⟨p, hp, rfl⟩
theorem CastOk.due {st : HS} {rs : List Row} (c : CastOk st rs) : Due st rs := fun r hr => (c.row r hr).2.2
theorem lost_ge0 : ∀ {rs : List Row}, (∀ r ∈ rs, 1 ≤ r.2) → 0 ≤ lostS rs
  | [], _ => Int.le_refl _
  | r :: rs, h => by
    have := h r List.mem_cons_self
    have := lost_ge0 (rs := rs) fun x hx => h x (List.mem_cons_of_mem _ hx)
    rw [show lostS (r :: rs) = r.2 + lostS rs from by unfold lostS; rw [List.map_cons, List.sum_cons]]
    omega
theorem CastOk.blend {st : HS} {rs : List Row} (wf : Wf st) (c : CastOk st rs) : BlendOk st (wholeS st - lostS rs) (wholeS st) (lostS rs) (givenS st rs) := by
  have g := givenS_ok wf (rs := rs) (fun r hr => ⟨(c.row r hr).1, by obtain ⟨p, hp, e, _⟩ := (c.row r hr).2.2; exact ⟨p, hp, e⟩⟩)
  have l0 := lost_ge0 (rs := rs) fun r hr => (c.row r hr).1
  have := c.lost
  exact ⟨by omega, l0, by omega, g.1, g.2, c.prod, c.big, c.pur, c.stp⟩
end L2
namespace L2
open PySem PySem.Spec PyProof.Rows
structure BP where
  nm : Str
  ow : Str
  wo : Int
  we : Int
  tops : List Int
structure BE where
  nm : Str
  ow : Str
  wo : Int
  tops : List Int
  bot : Int
structure BS where
  own : List Str
  pts : List BP
  bot : Int
  ash : List BE
  kno : List Str
structure BA where
  m : Addr
  lo : Addr
  lp : Addr
  la : Addr
  lk : Addr
  qs : List (Addr × Addr)
def bookK (B : BA) (bot : Int) : List (Key × V) := [(Sum.inr "owners", .ref B.lo), (Sum.inr "parts", .ref B.lp), (Sum.inr "bottom", .int bot), (Sum.inr "ashore", .ref B.la), (Sum.inr "known", .ref B.lk)]
def bpO (p : BP) (t : Addr) : HO := .lst [.str p.nm, .str p.ow, .int p.wo, .int p.we, .ref t]
inductive AshB (n : Nat) (ρ : Rho) (H : Hp) : List V → List BE → Prop
  | nil : AshB n ρ H [] []
  | cons {r t : Addr} {e : BE} {vs : List V} {es : List BE} : H r = some (.lst [.str e.nm, .str e.ow, .int e.wo, .ref t, .int e.bot]) → ρ r = some (n, 27, e.nm) → H t = some (.lst (e.tops.map V.int)) → ρ t = some (n, 28, e.nm) → AshB n ρ H vs es → AshB n ρ H (.ref r :: vs) (e :: es)
structure BookAt (n : Nat) (ρ : Rho) (B : BA) (H : Hp) (b : BS) : Prop where
  om : H B.m = some (.dK (bookK B b.bot))
  cm : ρ B.m = some (n, 20, ⟨#[]⟩)
  oo : H B.lo = some (.lst (b.own.map V.str))
  co : ρ B.lo = some (n, 21, ⟨#[]⟩)
  op : H B.lp = some (.lst (B.qs.map fun q => V.ref q.1))
  cp : ρ B.lp = some (n, 22, ⟨#[]⟩)
  oa : ∃ vs, H B.la = some (.lst vs) ∧ AshB n ρ H vs b.ash
  ca : ρ B.la = some (n, 25, ⟨#[]⟩)
  ok : H B.lk = some (.lst (b.kno.map V.str))
  ck : ρ B.lk = some (n, 26, ⟨#[]⟩)
  ql : B.qs.length = b.pts.length
  pt : ∀ (i : Nat) (p : BP) (q : Addr × Addr), b.pts[i]? = some p → B.qs[i]? = some q → H q.1 = some (bpO p q.2) ∧ H q.2 = some (.lst (p.tops.map V.int)) ∧ ρ q.1 = some (n, 23, p.nm) ∧ ρ q.2 = some (n, 24, p.nm)
theorem AshB.keep {n : Nat} {ρ ρ' : Rho} {H H' : Hp} {vs : List V} {l : List BE} (h : AshB n ρ H vs l) {ts : Nat → Bool} (k : Kp n ρ ρ' H H' ts) (e1 : ts 27 = true) (e2 : ts 28 = true) : AshB n ρ' H' vs l := by
  induction h with
  | nil => exact .nil
  | cons a b c d _ ih => exact .cons (k.2 _ _ _ _ e1 b a).1 (k.2 _ _ _ _ e1 b a).2 (k.2 _ _ _ _ e2 d c).1 (k.2 _ _ _ _ e2 d c).2 ih
theorem BookAt.same {n : Nat} {ρ ρ' : Rho} {B : BA} {H H' : Hp} {b : BS} (h : BookAt n ρ B H b) (k : Kp n ρ ρ' H H' fun _ => true) : BookAt n ρ' B H' b := by
  have z := fun {b : Addr} {t : Nat} {x : Str} {o : HO} (c : ρ b = some (n, t, x)) (e : H b = some o) => k.2 b t x o rfl c e
  obtain ⟨vs, h1, h2⟩ := h.oa
  exact ⟨(z h.cm h.om).1, (z h.cm h.om).2, (z h.co h.oo).1, (z h.co h.oo).2, (z h.cp h.op).1, (z h.cp h.op).2, ⟨vs, (z h.ca h1).1, h2.keep k rfl rfl⟩, (z h.ca h1).2, (z h.ck h.ok).1, (z h.ck h.ok).2, h.ql,
    fun i p q e1 e2 => let ⟨a, b, c, d⟩ := h.pt i p q e1 e2; ⟨(z c a).1, (z d b).1, (z c a).2, (z d b).2⟩⟩
theorem BookAt.mono {n : Nat} {ρ : Rho} {B : BA} {H H' : Hp} {b : BS} (h : BookAt n ρ B H b) (s : Same H H') : BookAt n ρ B H' b := h.same (kp_same s)
theorem BookAt.other {n m : Nat} {ρ ρ' : Rho} {B : BA} {H H' : Hp} {b : BS} (h : BookAt m ρ B H b) (f : Fr n ρ H ρ' H') (g : Gh ρ H) (e : m ≠ n) : BookAt m ρ' B H' b :=
  h.same ⟨fun b xs q => (f b _ q fun t x => by rw [g.tup q]; intro z; cases z).1, fun b t x o _ c q => by
    obtain ⟨a, b'⟩ := f b o q fun t' x' => by rw [c]; intro z; cases z; exact e rfl
    exact ⟨a, b'.trans c⟩⟩
theorem BookAt.col {n t : Nat} {x : Str} {ρ : Rho} {B : BA} {H : Hp} {b : BS} {a : Addr} (h : BookAt n ρ B H b) (c : ρ a = none) : BookAt n (updC ρ a (n, t, x)) B H b :=
  h.same ⟨fun _ _ e => e, fun b u y w _ hc he => ⟨he, by rw [updC_ne (fun z => by rw [z, c] at hc; cases hc)]; exact hc⟩⟩
theorem BookAt.find {n : Nat} {ρ : Rho} {B : BA} {H : Hp} {b : BS} (h : BookAt n ρ B H b) {i : Nat} {p : BP} (e : b.pts[i]? = some p) : ∃ q, B.qs[i]? = some q ∧ H q.1 = some (bpO p q.2) ∧ H q.2 = some (.lst (p.tops.map V.int)) ∧ ρ q.1 = some (n, 23, p.nm) ∧ ρ q.2 = some (n, 24, p.nm) := by
  have hi : i < B.qs.length := by rw [h.ql]; exact (List.getElem?_eq_some_iff.mp e).1
  exact ⟨B.qs[i], List.getElem?_eq_getElem hi, h.pt i p _ e (List.getElem?_eq_getElem hi)⟩
theorem BookAt.set_bot {n : Nat} {ρ : Rho} {B : BA} {H : Hp} {b : BS} (h : BookAt n ρ B H b) (g : Gh ρ H) (x : Int) : BookAt n ρ B (upd H B.m (.dK (bookK B x))) { b with bot := x } := by
  have k := kp_write (o := .dK (bookK B x)) g h.cm
  have z := fun {b : Addr} {t : Nat} {x : Str} {o : HO} (u : decide (t ≠ 20) = true) (c : ρ b = some (n, t, x)) (e : H b = some o) => (k.2 b t x o u c e).1
  obtain ⟨vs, h1, h2⟩ := h.oa
  exact ⟨upd_same, h.cm, z (by decide) h.co h.oo, h.co, z (by decide) h.cp h.op, h.cp, ⟨vs, z (by decide) h.ca h1, h2.keep k (by decide) (by decide)⟩, h.ca, z (by decide) h.ck h.ok, h.ck, h.ql,
    fun i p q e1 e2 => let ⟨a, b, c, d⟩ := h.pt i p q e1 e2; ⟨z (by decide) c a, z (by decide) d b, c, d⟩⟩
theorem BookAt.set_pt {n : Nat} {ρ : Rho} {B : BA} {H : Hp} {b : BS} (h : BookAt n ρ B H b) (g : Gh ρ H) {i : Nat} {p0 p1 : BP} {q0 : Addr × Addr} {t1 : Addr} (ep : b.pts[i]? = some p0) (eq : B.qs[i]? = some q0) (e1 : p1.nm = p0.nm) (nd : (b.pts.map (fun p : BP => p.nm)).Nodup)
    (ht : H t1 = some (.lst (p1.tops.map V.int))) (ct : ρ t1 = some (n, 24, p1.nm)) : BookAt n ρ { B with qs := B.qs.set i (q0.1, t1) } (upd H q0.1 (bpO p1 t1)) { b with pts := b.pts.set i p1 } := by
  obtain ⟨x1, x2, x3, x4⟩ := h.pt i p0 q0 ep eq
  have k := kp_write (o := bpO p1 t1) g x3
  have z := fun {b : Addr} {t : Nat} {x : Str} {o : HO} (u : decide (t ≠ 23) = true) (c : ρ b = some (n, t, x)) (e : H b = some o) => (k.2 b t x o u c e).1
  obtain ⟨vs, h1, h2⟩ := h.oa
  have hi : i < B.qs.length := (List.getElem?_eq_some_iff.mp eq).1
  have hi2 : i < b.pts.length := (List.getElem?_eq_some_iff.mp ep).1
  have em : (B.qs.set i (q0.1, t1)).map (fun q => V.ref q.1) = B.qs.map fun q => V.ref q.1 := by
    rw [List.map_set]
    exact set_same' (by rw [List.getElem?_map, eq]; rfl)
  refine ⟨z (by decide) h.cm h.om, h.cm, z (by decide) h.co h.oo, h.co, ?_, h.cp, ⟨vs, z (by decide) h.ca h1, h2.keep k (by decide) (by decide)⟩, h.ca, z (by decide) h.ck h.ok, h.ck, ?_, fun j p q e1' e2' => ?_⟩
  · show upd H q0.1 _ B.lp = some (.lst ((B.qs.set i (q0.1, t1)).map _))
    rw [em]; exact z (by decide) h.cp h.op
  · show (B.qs.set i (q0.1, t1)).length = (b.pts.set i p1).length
    rw [List.length_set, List.length_set]; exact h.ql
  · have e1' : (b.pts.set i p1)[j]? = some p := e1'
    have e2' : (B.qs.set i (q0.1, t1))[j]? = some q := e2'
    by_cases hj : i = j
    · subst hj
      rw [List.getElem?_set_self hi2] at e1'
      rw [List.getElem?_set_self hi] at e2'
      cases e1'; cases e2'
      exact ⟨upd_same, z (by decide) ct ht, by rw [e1]; exact x3, ct⟩
    · rw [List.getElem?_set_ne hj] at e1' e2'
      obtain ⟨a1, a2, a3, a4⟩ := h.pt j p q e1' e2'
      have hnm : p.nm ≠ p0.nm := fun e => by
        have hj2 : j < b.pts.length := (List.getElem?_eq_some_iff.mp e1').1
        have r1 : (b.pts.map (fun p : BP => p.nm))[j]? = some p.nm := by rw [List.getElem?_map, e1']; rfl
        have r2 : (b.pts.map (fun p : BP => p.nm))[i]? = some p0.nm := by rw [List.getElem?_map, ep]; rfl
        have hj3 : j < (b.pts.map (fun p : BP => p.nm)).length := by rw [List.length_map]; exact hj2
        exact hj ((List.getElem?_inj hj3 nd).mp (r1.trans (by rw [e]; exact r2.symm))).symm
      have hq : q.1 ≠ q0.1 := fun e => by rw [e, x3] at a3; exact hnm (congrArg (fun c : Col => c.2.2) (Option.some.inj a3)).symm
      exact ⟨by rw [upd_ne hq]; exact a1, z (by decide) a4 a2, a3, a4⟩
theorem BookAt.set_lp {n : Nat} {ρ : Rho} {B : BA} {H : Hp} {b : BS} (h : BookAt n ρ B H b) (g : Gh ρ H) {lp : Addr} {qs : List (Addr × Addr)} {ps : List BP} (e : H lp = some (.lst (qs.map fun q => V.ref q.1))) (c : ρ lp = some (n, 22, ⟨#[]⟩)) (hl : qs.length = ps.length)
    (hp : ∀ (i : Nat) (p : BP) (q : Addr × Addr), ps[i]? = some p → qs[i]? = some q → H q.1 = some (bpO p q.2) ∧ H q.2 = some (.lst (p.tops.map V.int)) ∧ ρ q.1 = some (n, 23, p.nm) ∧ ρ q.2 = some (n, 24, p.nm)) :
    BookAt n ρ { { B with lp := lp } with qs := qs } (upd H B.m (.dK (bookK { B with lp := lp } b.bot))) { b with pts := ps } := by
  have k := kp_write (o := .dK (bookK { B with lp := lp } b.bot)) g h.cm
  have z := fun {b : Addr} {t : Nat} {x : Str} {o : HO} (u : decide (t ≠ 20) = true) (c : ρ b = some (n, t, x)) (e : H b = some o) => (k.2 b t x o u c e).1
  obtain ⟨vs, h1, h2⟩ := h.oa
  exact ⟨upd_same, h.cm, z (by decide) h.co h.oo, h.co, z (by decide) c e, c, ⟨vs, z (by decide) h.ca h1, h2.keep k (by decide) (by decide)⟩, h.ca, z (by decide) h.ck h.ok, h.ck, hl,
    fun i p q e1 e2 => let ⟨a, b, c, d⟩ := hp i p q e1 e2; ⟨z (by decide) c a, z (by decide) d b, c, d⟩⟩
theorem BookAt.add_pt {n : Nat} {ρ : Rho} {B : BA} {H : Hp} {b : BS} (h : BookAt n ρ B H b) (g : Gh ρ H) {p : BP} {q : Addr × Addr} (e1 : H q.1 = some (bpO p q.2)) (e2 : H q.2 = some (.lst (p.tops.map V.int))) (c1 : ρ q.1 = some (n, 23, p.nm)) (c2 : ρ q.2 = some (n, 24, p.nm)) :
    BookAt n ρ { B with qs := B.qs ++ [q] } (upd H B.lp (.lst ((B.qs ++ [q]).map fun q => V.ref q.1))) { b with pts := b.pts ++ [p] } := by
  have k := kp_write (o := .lst ((B.qs ++ [q]).map fun q => V.ref q.1)) g h.cp
  have z := fun {b : Addr} {t : Nat} {x : Str} {o : HO} (u : decide (t ≠ 22) = true) (c : ρ b = some (n, t, x)) (e : H b = some o) => (k.2 b t x o u c e).1
  obtain ⟨vs, h1, h2⟩ := h.oa
  refine ⟨z (by decide) h.cm h.om, h.cm, z (by decide) h.co h.oo, h.co, upd_same, h.cp, ⟨vs, z (by decide) h.ca h1, h2.keep k (by decide) (by decide)⟩, h.ca, z (by decide) h.ck h.ok, h.ck, ?_, fun i x y ex ey => ?_⟩
  · show (B.qs ++ [q]).length = (b.pts ++ [p]).length
    rw [List.length_append, List.length_append, h.ql]; rfl
  · have ex : (b.pts ++ [p])[i]? = some x := ex
    have ey : (B.qs ++ [q])[i]? = some y := ey
    by_cases c : i < b.pts.length
    · rw [List.getElem?_append_left c] at ex
      rw [List.getElem?_append_left (by rw [h.ql]; exact c)] at ey
      obtain ⟨a1, a2, a3, a4⟩ := h.pt i x y ex ey
      exact ⟨z (by decide) a3 a1, z (by decide) a4 a2, a3, a4⟩
    · have hi : i = b.pts.length := by
        have := (List.getElem?_eq_some_iff.mp ex).1
        rw [List.length_append] at this
        have : i < b.pts.length + 1 := this
        omega
      subst hi
      rw [List.getElem?_append_right (Nat.le_refl _), Nat.sub_self] at ex
      rw [List.getElem?_append_right (by rw [h.ql]; exact Nat.le_refl _), h.ql, Nat.sub_self] at ey
      cases ex; cases ey
      exact ⟨z (by decide) c1 e1, z (by decide) c2 e2, c1, c2⟩
theorem BookAt.set_kno {n : Nat} {ρ : Rho} {B : BA} {H : Hp} {b : BS} (h : BookAt n ρ B H b) (g : Gh ρ H) (l : List Str) : BookAt n ρ B (upd H B.lk (.lst (l.map V.str))) { b with kno := l } := by
  have k := kp_write (o := .lst (l.map V.str)) g h.ck
  have z := fun {b : Addr} {t : Nat} {x : Str} {o : HO} (u : decide (t ≠ 26) = true) (c : ρ b = some (n, t, x)) (e : H b = some o) => (k.2 b t x o u c e).1
  obtain ⟨vs, h1, h2⟩ := h.oa
  exact ⟨z (by decide) h.cm h.om, h.cm, z (by decide) h.co h.oo, h.co, z (by decide) h.cp h.op, h.cp, ⟨vs, z (by decide) h.ca h1, h2.keep k (by decide) (by decide)⟩, h.ca, upd_same, h.ck, h.ql,
    fun i p q e1 e2 => let ⟨a, b, c, d⟩ := h.pt i p q e1 e2; ⟨z (by decide) c a, z (by decide) d b, c, d⟩⟩
structure NwAt (K : PySem.W.Frag) (H : Hp) (us : List V) (ws : List Row) : Prop where
  len : us.length = ws.length
  at_ : ∀ (i : Nat) (r : Row), ws[i]? = some r → ∃ a xs, us[i]? = some (.ref a) ∧ Sq K H a xs ∧ xs[0]? = some (.str r.1) ∧ xs[2]? = some (.int r.2)
def nwB (b : BS) : List Row := b.pts.map fun p => (p.nm, p.wo)
theorem BookAt.nw {K : PySem.W.Frag} {n : Nat} {ρ : Rho} {B : BA} {H : Hp} {b : BS} (h : BookAt n ρ B H b) : NwAt K H (B.qs.map fun q => V.ref q.1) (nwB b) := by
  refine ⟨by unfold nwB; rw [List.length_map, List.length_map]; exact h.ql, fun i r e => ?_⟩
  unfold nwB at e
  rw [List.getElem?_map] at e
  obtain ⟨p, ep, rfl⟩ := Option.map_eq_some_iff.mp e
  obtain ⟨q, eq, a1, _⟩ := h.find ep
  exact ⟨q.1, _, by rw [List.getElem?_map, eq]; rfl, .inl (SqL.of a1), rfl, rfl⟩
def wholeB (b : BS) : Int := (b.pts.map fun p => p.wo).sum
theorem idxOf_get : ∀ {l : List Str} {o : Str}, o ∈ l → l[l.idxOf o]? = some o
  | [], _, h => by simp at h
  | x :: l, o, h => by
    by_cases e : x = o
    · subst e; simp
    · have ho : o ∈ l := by
        rcases List.mem_cons.mp h with z | z
        · exact absurd z.symm e
        · exact z
      rw [List.idxOf_cons, show (x == o) = false from beq_eq_false_iff_ne.mpr e]
      simpa using idxOf_get ho
structure spModel (K : PySem.W.Frag) (vs : List V) (H : Hp) (Q : VK) (E : XK) : Prop where
  ex : ∃ (l : Addr) (own : List Str) (n : Nat) (ρ : Rho), vs = [.ref l] ∧ SqL K H l (own.map V.str) ∧ Gh ρ H ∧ own.length ≤ 1000 ∧ ∀ ρ' B H', Gh ρ' H' → BookAt n ρ' B H' ⟨own, [], 1, [], []⟩ → (∀ b o, H b = some o → H' b = some o ∧ ρ' b = ρ b) → Q (.ref B.m) H'
structure spSeat (K : PySem.W.Frag) (vs : List V) (H : Hp) (Q : VK) (E : XK) : Prop where
  ex : ∃ (l : Addr) (own : List Str) (o : Str), vs = [.ref l, .str o] ∧ SqL K H l (own.map V.str) ∧ o ∈ own ∧ own.length ≤ 1000 ∧ Q (.int (own.idxOf o : Int)) H
def newB (b : BS) (x o : Str) (wo we : Int) : BS := { b with pts := b.pts ++ [⟨x, o, wo, we, (List.replicate b.own.length 0).set (b.own.idxOf o) b.bot⟩], kno := b.kno ++ [x] }
structure spNewPart (vs : List V) (H : Hp) (Q : VK) (E : XK) : Prop where
  ex : ∃ n ρ B b, ∃ (x o : Str) (wo we : Int), vs = [.ref B.m, .str x, .str o, .int wo, .int we] ∧ Gh ρ H ∧ BookAt n ρ B H b ∧ o ∈ b.own ∧ b.own.length ≤ 1000 ∧ b.pts.length ≤ 1000 ∧ b.kno.length ≤ 1000 ∧ ∀ ρ' B' H', Gh ρ' H' → BookAt n ρ' B' H' (newB b x o wo we) → B'.m = B.m → Fr n ρ H ρ' H' → Q .non H'
structure spLAt (K : PySem.W.Frag) (vs : List V) (H : Hp) (Q : VK) (E : XK) : Prop where
  ex : ∃ (l : Addr) (us : List V) (ws : List Row) (i : Nat) (r : Row), vs = [.ref l, .str r.1] ∧ SqL K H l us ∧ NwAt K H us ws ∧ (ws.map (fun r : Row => r.1)).Nodup ∧ ws.length ≤ 1000 ∧ ws[i]? = some r ∧ Q (.int (i : Int)) H
structure RowsOk (ws rs : List Row) : Prop where
  nd : (rs.map (fun r : Row => r.1)).Nodup
  row : ∀ r ∈ rs, 1 ≤ r.2 ∧ r.2 ≤ 1000000000 ∧ ∃ w ∈ ws, w.1 = r.1 ∧ r.2 ≤ w.2
  lost : lostS rs < lostS ws ∨ rs = []
  len : rs.length ≤ ws.length
structure spLRows (K : PySem.W.Frag) (vs : List V) (H : Hp) (Q : VK) (E : XK) : Prop where
  ex : ∃ (a l : Addr) (ns : List Int) (k : Int) (us : List V) (ws : List Row), vs = [.ref a, .int k, .ref l] ∧ SqL K H a (ns.map V.int) ∧ ns.length ≤ 63 ∧ 0 ≤ k ∧ k ≤ 1000000 ∧ SqL K H l us ∧ NwAt K H us ws ∧ (ws.map (fun r : Row => r.1)).Nodup ∧ ws.length ≤ 1000 ∧ (∀ w ∈ ws, 1 ≤ w.2) ∧
    ∀ z zs rs H', Same H H' → H z = none → H' z = some (.lst zs) → RowsIn H' zs rs → RowsOk ws rs → Q (.ref z) H'
end L2
namespace L2
open PySem PySem.Spec PyProof.Rows
section
variable {X : Cx}
def min3 (i j k : Int) : Int := if j < i then (if k < j then k else j) else (if k < i then k else i)
theorem min3_le (i j k : Int) : min3 i j k ≤ i ∧ min3 i j k ≤ j ∧ min3 i j k ≤ k := by unfold min3; split <;> split <;> omega
theorem min3_ge {i j k m : Int} (h1 : m ≤ i) (h2 : m ≤ j) (h3 : m ≤ k) : m ≤ min3 i j k := by unfold min3; split <;> split <;> omega
theorem call_min3 (hc : X.calm = true) : CallR X (.builtin "min") (fun xs H Q => ∃ i j k, xs = [.int i, .int j, .int k] ∧ Q (.int (min3 i j k)) H) := by
  intro pins s σ H xs us Q I r h
  obtain ⟨i, j, k, rfl, q⟩ := h
  obtain ⟨u, us, rfl, ⟨t, rfl⟩, r2⟩ : ∃ u us', us = u :: us' ∧ RelV (.int i) u ∧ Vals [.int j, .int k] us' := by cases r with | cons a b => exact ⟨_, _, rfl, a, b⟩
  obtain ⟨u2, u3, rfl, ⟨t', rfl⟩, ⟨t'', rfl⟩⟩ := vals2 r2
  refine min_three_ints (I.ok.hd hc) fun h' tk kk => ⟨_, H, I.kept kk, ?_, q⟩
  unfold min3
  by_cases hj : j < i
  · rw [if_pos hj, if_pos hj]
    by_cases hk : k < j
    · rw [if_pos hk, if_pos hk]; exact ⟨_, rfl⟩
    · rw [if_neg hk, if_neg hk]; exact ⟨_, rfl⟩
  · rw [if_neg hj, if_neg hj]
    by_cases hk : k < i
    · rw [if_pos hk, if_pos hk]; exact ⟨_, rfl⟩
    · rw [if_neg hk, if_neg hk]; exact ⟨_, rfl⟩
end
end L2
namespace L2
open PySem PySem.Spec PyProof.Rows
def chgB (given : List Int) (kept : Int) (p : BP) (a : Int) : BP := { p with tops := List.zipWith (fun t g => t * kept + g) p.tops given, wo := p.wo - a }
def giveCol (ps : List BP) (as : List Int) (i : Nat) : Int := (List.zipWith (fun (p : BP) (a : Int) => p.tops.getD i 0 * a) ps as).sum
def givenB (b : BS) (as : List Int) : List Int := (List.range b.own.length).map (giveCol b.pts as)
def givB (b : BS) (as : List Int) (seat : Nat) (aw : Int) : List Int := if 0 < aw then (givenB b as).set seat ((givenB b as).getD seat 0 + aw * b.bot) else givenB b as
def bearP (b : BS) (as : List Int) (seat : Nat) (aw : Int) : List BP := List.zipWith (chgB (givB b as seat aw) (wholeB b - aw - as.sum)) b.pts as
def bearB (b : BS) (as : List Int) (seat : Nat) (aw : Int) : BS := { b with bot := b.bot * wholeB b, pts := (bearP b as seat aw).filter fun p => decide (0 < p.wo) }
structure WfB (b : BS) : Prop where
  nd : (b.pts.map (fun p : BP => p.nm)).Nodup
  tl : ∀ p ∈ b.pts, p.tops.length = b.own.length
  t0 : ∀ p ∈ b.pts, ∀ t ∈ p.tops, 0 ≤ t ∧ t ≤ b.bot
  b1 : 1 ≤ b.bot
  bz : Jm.Sz 7000 b.bot
  w1 : ∀ p ∈ b.pts, 1 ≤ p.wo
  ol : b.own.length ≤ 100
  pl : b.pts.length ≤ 1000
  kl : b.kno.length ≤ 1000
structure BearOk (b : BS) (as : List Int) (seat : Nat) (aw : Int) : Prop where
  len : as.length = b.pts.length
  a0 : ∀ a ∈ as, 0 ≤ a
  seat : seat < b.own.length
  aw0 : 0 ≤ aw
  kept : 0 < wholeB b - aw - as.sum
  big : Jm.Sz 60 (wholeB b)
structure spBear (K : PySem.W.Frag) (vs : List V) (H : Hp) (Q : VK) (E : XK) : Prop where
  ex : ∃ n ρ B b, ∃ (l : Addr) (as : List Int) (seat : Nat) (aw : Int), vs = [.ref B.m, .ref l, .int (seat : Int), .int aw] ∧ Gh ρ H ∧ BookAt n ρ B H b ∧ WfB b ∧ SqL K H l (as.map V.int) ∧ ρ l = none ∧ BearOk b as seat aw ∧
    ∀ ρ' B' H', Gh ρ' H' → BookAt n ρ' B' H' (bearB b as seat aw) → B'.m = B.m → Fr n ρ H ρ' H' → Q .non H'
theorem bearP_len {b : BS} {as : List Int} {seat : Nat} {aw : Int} (h : as.length = b.pts.length) : (bearP b as seat aw).length = b.pts.length := by
  unfold bearP; rw [List.length_zipWith, h]; omega
theorem bearP_at {b : BS} {as : List Int} {seat : Nat} {aw : Int} {i : Nat} {p : BP} {a : Int} (h1 : b.pts[i]? = some p) (h2 : as[i]? = some a) : (bearP b as seat aw)[i]? = some (chgB (givB b as seat aw) (wholeB b - aw - as.sum) p a) := zipW_at h1 h2
theorem sum_le_of {as : List Int} (h : ∀ a ∈ as, 0 ≤ a) : ∀ {x : Int}, x ∈ as → x ≤ as.sum := by
  induction as with
  | nil => intro x hx; simp at hx
  | cons a l ih =>
    intro x hx
    have h0 := h a List.mem_cons_self
    have hl : 0 ≤ l.sum := by
      clear ih hx
      have : ∀ (l : List Int), (∀ a ∈ l, 0 ≤ a) → 0 ≤ l.sum := fun l => by
        induction l with
        | nil => intro _; exact Int.le_refl _
        | cons a l ih => intro h; rw [List.sum_cons]; have := h a List.mem_cons_self; have := ih fun x hx => h x (List.mem_cons_of_mem _ hx); omega
      exact this l fun x hx => h x (List.mem_cons_of_mem _ hx)
    rw [List.sum_cons]
    rcases List.mem_cons.mp hx with e | e
    · omega
    · have := ih (fun y hy => h y (List.mem_cons_of_mem _ hy)) e
      omega
theorem givenB_len (b : BS) (as : List Int) : (givenB b as).length = b.own.length := by unfold givenB; rw [List.length_map, List.length_range]
theorem givB_len (b : BS) (as : List Int) (seat : Nat) (aw : Int) : (givB b as seat aw).length = b.own.length := by
  unfold givB; split
  · rw [List.length_set, givenB_len]
  · exact givenB_len b as
theorem giveCol_snoc {ps : List BP} {as : List Int} {i j : Nat} {p : BP} {a : Int} (h1 : ps[j]? = some p) (h2 : as[j]? = some a) : (List.zipWith (fun (p : BP) (a : Int) => p.tops.getD i 0 * a) (ps.take (j + 1)) (as.take (j + 1))) = List.zipWith (fun (p : BP) (a : Int) => p.tops.getD i 0 * a) (ps.take j) (as.take j) ++ [p.tops.getD i 0 * a] := zipW_take _ h1 h2
theorem mix_get {α : Type} {xs ys : List α} {i : Nat} {p : α} (hx : i ≤ xs.length) (h : ys[i]? = some p) : (xs.take i ++ ys.drop i)[i]? = some p := by
  have hl : (xs.take i).length = i := by rw [List.length_take]; omega
  rw [List.getElem?_append_right (by omega), hl, Nat.sub_self, List.getElem?_drop]
  exact h
theorem mix_set {α : Type} {xs ys : List α} {i : Nat} {x : α} (hx : xs[i]? = some x) (hy : i < ys.length) : (xs.take i ++ ys.drop i).set i x = xs.take (i + 1) ++ ys.drop (i + 1) := by
  have hi := (List.getElem?_eq_some_iff.mp hx).1
  have hl : (xs.take i).length = i := by rw [List.length_take]; omega
  rw [List.set_append_right _ _ (by omega), hl, Nat.sub_self, List.drop_eq_getElem_cons hy, List.set_cons_zero, take_snoc hx, List.append_assoc]
  rfl
theorem mix_nm {b : BS} {as : List Int} {seat : Nat} {aw : Int} (h : as.length = b.pts.length) (i : Nat) : ((bearP b as seat aw).take i ++ b.pts.drop i).map (fun p : BP => p.nm) = b.pts.map (fun p : BP => p.nm) := by
  have e : (bearP b as seat aw).map (fun p : BP => p.nm) = b.pts.map (fun p : BP => p.nm) := by
    unfold bearP
    generalize givB b as seat aw = g
    generalize wholeB b - aw - as.sum = k
    generalize b.pts = ps at *
    clear b
    induction ps generalizing as with
    | nil => rfl
    | cons p ps ih =>
      cases as with
      | nil => simp at h
      | cons a as =>
        rw [List.zipWith_cons_cons, List.map_cons, List.map_cons, ih (by simpa using h)]
        rfl
  rw [List.map_append, List.map_take, e, ← List.map_take, ← List.map_append, List.take_append_drop]
theorem bookK_bot (B : BA) (x y : Int) : putK (bookK B x) (Sum.inr "bottom") (.int y) = bookK B y := rfl
theorem bookK_lp (B : BA) (x : Int) (l : Addr) : putK (bookK B x) (Sum.inr "parts") (.ref l) = bookK { B with lp := l } x := rfl
def sieve : List BP → List (Addr × Addr) → List (Addr × Addr)
  | p :: ps, q :: qs => if 0 < p.wo then q :: sieve ps qs else sieve ps qs
  | _, _ => []
theorem sieve_len : ∀ {ps : List BP} {qs : List (Addr × Addr)}, qs.length = ps.length → (sieve ps qs).length = (ps.filter fun p => decide (0 < p.wo)).length
  | [], [], _ => rfl
  | [], _ :: _, h => by simp at h
  | _ :: _, [], h => by simp at h
  | p :: ps, q :: qs, h => by
    have ih := sieve_len (ps := ps) (qs := qs) (by simpa using h)
    unfold sieve
    by_cases c : 0 < p.wo
    · rw [if_pos c, List.filter_cons, if_pos (decide_eq_true c), List.length_cons, List.length_cons, ih]
    · rw [if_neg c, List.filter_cons, if_neg (by simpa using c), ih]
theorem sieve_at : ∀ {ps : List BP} {qs : List (Addr × Addr)} {i : Nat} {p : BP} {q : Addr × Addr}, (ps.filter fun p => decide (0 < p.wo))[i]? = some p → (sieve ps qs)[i]? = some q → qs.length = ps.length → ∃ j : Nat, ps[j]? = some p ∧ qs[j]? = some q
  | [], _, _, _, _, h, _, _ => by simp at h
  | _ :: _, [], _, _, _, _, _, h => by simp at h
  | x :: ps, y :: qs, i, p, q, h1, h2, hl => by
    unfold sieve at h2
    by_cases c : 0 < x.wo
    · rw [if_pos c] at h2
      rw [List.filter_cons, if_pos (decide_eq_true c)] at h1
      cases i with
      | zero => simp at h1 h2; exact ⟨0, by simpa using h1, by simpa using h2⟩
      | succ i =>
        obtain ⟨j, a, b⟩ := sieve_at (ps := ps) (qs := qs) (i := i) (by simpa using h1) (by simpa using h2) (by simpa using hl)
        exact ⟨j + 1, by simpa using a, by simpa using b⟩
    · rw [if_neg c] at h2
      rw [List.filter_cons, if_neg (by simpa using c)] at h1
      obtain ⟨j, a, b⟩ := sieve_at (ps := ps) (qs := qs) (i := i) h1 h2 (by simpa using hl)
      exact ⟨j + 1, by simpa using a, by simpa using b⟩
theorem sieve_snoc : ∀ {ps : List BP} {qs : List (Addr × Addr)} {j : Nat} {p : BP} {q : Addr × Addr}, ps[j]? = some p → qs[j]? = some q → sieve (ps.take (j + 1)) (qs.take (j + 1)) = sieve (ps.take j) (qs.take j) ++ (if 0 < p.wo then [q] else [])
  | [], _, _, _, _, h, _ => by simp at h
  | _ :: _, [], _, _, _, _, h => by simp at h
  | x :: ps, y :: qs, 0, p, q, h1, h2 => by
    have e1 : x = p := by simpa using h1
    have e2 : y = q := by simpa using h2
    subst e1 e2
    show sieve (x :: ps.take 0) (y :: qs.take 0) = [] ++ _
    unfold sieve
    split <;> rfl
  | x :: ps, y :: qs, j + 1, p, q, h1, h2 => by
    have ih := sieve_snoc (ps := ps) (qs := qs) (j := j) (by simpa using h1) (by simpa using h2)
    show sieve (x :: ps.take (j + 1)) (y :: qs.take (j + 1)) = sieve (x :: ps.take j) (y :: qs.take j) ++ _
    unfold sieve
    rw [ih]
    split <;> rfl
end L2
namespace L2
open PySem PySem.Spec PyProof.Rows
def amtOf (rs : List Row) (x : Str) : Int := ((rs.find? fun r => decide (r.1 = x)).map (fun r : Row => r.2)).getD 0
theorem amtOf_nil (x : Str) : amtOf [] x = 0 := rfl
theorem amtOf_cons (r : Row) (rs : List Row) (x : Str) : amtOf (r :: rs) x = if r.1 = x then r.2 else amtOf rs x := by
  unfold amtOf
  rw [List.find?_cons]
  by_cases c : r.1 = x
  · rw [decide_eq_true c, if_pos c]; rfl
  · rw [decide_eq_false c, if_neg c]
theorem amtOf_none : ∀ {rs : List Row} {x : Str}, x ∉ rs.map (fun r : Row => r.1) → amtOf rs x = 0
  | [], _, _ => rfl
  | r :: rs, x, h => by
    rw [amtOf_cons, if_neg (fun e => h (by rw [List.map_cons, e]; exact List.mem_cons_self))]
    exact amtOf_none fun m => h (by rw [List.map_cons]; exact List.mem_cons_of_mem _ m)
theorem amtOf_snoc : ∀ {rs : List Row} {r : Row} {x : Str}, r.1 ∉ rs.map (fun r : Row => r.1) → amtOf (rs ++ [r]) x = if r.1 = x then r.2 else amtOf rs x
  | [], r, x, _ => by rw [List.nil_append, amtOf_cons]
  | y :: rs, r, x, h => by
    rw [List.map_cons] at h
    have h1 : r.1 ≠ y.1 := fun e => h (by rw [e]; exact List.mem_cons_self)
    rw [List.cons_append, amtOf_cons, amtOf_snoc (fun m => h (List.mem_cons_of_mem _ m)), amtOf_cons]
    by_cases c : y.1 = x
    · rw [if_pos c, if_pos c, if_neg (fun e => h1 (e.trans c.symm))]
    · rw [if_neg c, if_neg c]
theorem amtOf_ge {rs : List Row} (h : ∀ r ∈ rs, 1 ≤ r.2) (x : Str) : 0 ≤ amtOf rs x := by
  induction rs with
  | nil => exact Int.le_refl _
  | cons r rs ih =>
    rw [amtOf_cons]
    split
    · have := h r List.mem_cons_self; omega
    · exact ih fun y hy => h y (List.mem_cons_of_mem _ hy)
def amtsB (b : BS) (rs : List Row) : List Int := b.pts.map fun p => amtOf rs p.nm
theorem amtsB_len (b : BS) (rs : List Row) : (amtsB b rs).length = b.pts.length := by unfold amtsB; rw [List.length_map]
theorem amtsB_step {b : BS} (nd : (b.pts.map (fun p : BP => p.nm)).Nodup) {rs : List Row} {r : Row} {j : Nat} {p : BP} (hp : b.pts[j]? = some p) (e : p.nm = r.1) (h : r.1 ∉ rs.map (fun r : Row => r.1)) : amtsB b (rs ++ [r]) = (amtsB b rs).set j r.2 ∧ (amtsB b rs)[j]? = some 0 := by
  have hj := (List.getElem?_eq_some_iff.mp hp).1
  constructor
  · refine List.ext_getElem? fun k => ?_
    by_cases c : j = k
    · subst c
      rw [List.getElem?_set_self (by rw [amtsB_len]; exact hj)]
      unfold amtsB
      rw [List.getElem?_map, hp]
      show some (amtOf (rs ++ [r]) p.nm) = _
      rw [amtOf_snoc h, if_pos e.symm]
    · rw [List.getElem?_set_ne c]
      unfold amtsB
      rw [List.getElem?_map, List.getElem?_map]
      cases ek : b.pts[k]? with
      | none => rfl
      | some x =>
        show some (amtOf (rs ++ [r]) x.nm) = some (amtOf rs x.nm)
        rw [amtOf_snoc h, if_neg]
        intro z
        have r1 : (b.pts.map (fun p : BP => p.nm))[k]? = some x.nm := by rw [List.getElem?_map, ek]; rfl
        have r2 : (b.pts.map (fun p : BP => p.nm))[j]? = some p.nm := by rw [List.getElem?_map, hp]; rfl
        exact c ((List.getElem?_inj (by rw [List.length_map]; exact hj) nd).mp (r2.trans (by rw [e, z]; exact r1.symm)))
  · unfold amtsB
    rw [List.getElem?_map, hp]
    show some (amtOf rs p.nm) = _
    rw [e, amtOf_none h]
theorem sum_set0 : ∀ {l : List Int} {j : Nat} {x : Int}, l[j]? = some 0 → (l.set j x).sum = l.sum + x
  | [], _, _, h => by simp at h
  | a :: l, 0, x, h => by
    have : a = 0 := by simpa using h
    rw [List.set_cons_zero, List.sum_cons, List.sum_cons]; omega
  | a :: l, j + 1, x, h => by
    rw [List.set_cons_succ, List.sum_cons, List.sum_cons, sum_set0 (by simpa using h)]; omega
structure RowsB (b : BS) (rs : List Row) : Prop where
  nd : (rs.map (fun r : Row => r.1)).Nodup
  row : ∀ r ∈ rs, 1 ≤ r.2 ∧ ∃ (j : Nat) (p : BP), b.pts[j]? = some p ∧ p.nm = r.1 ∧ r.2 ≤ p.wo
theorem amtsB_sum {b : BS} (nd : (b.pts.map (fun p : BP => p.nm)).Nodup) {rs : List Row} (h : RowsB b rs) : ∀ i ≤ rs.length, (amtsB b (rs.take i)).sum = lostS (rs.take i) := by
  intro i
  induction i with
  | zero =>
    intro _
    rw [List.take_zero]
    unfold amtsB
    show (b.pts.map fun p => (0 : Int)).sum = 0
    clear nd h
    generalize b.pts = ps
    induction ps with
    | nil => rfl
    | cons p ps ih => rw [List.map_cons, List.sum_cons, ih]; rfl
  | succ i ih =>
    intro hi
    have ei := List.getElem?_eq_getElem (show i < rs.length by omega)
    rw [take_snoc ei]
    obtain ⟨_, j, p, hp, e, _⟩ := h.row _ (List.mem_of_getElem? ei)
    have hn : (rs[i]).1 ∉ (rs.take i).map (fun r : Row => r.1) := by
      rw [List.map_take]
      exact nodup_take_not h.nd (by rw [List.getElem?_map, ei]; rfl)
    obtain ⟨s1, s2⟩ := amtsB_step nd hp e hn
    rw [s1, sum_set0 s2, ih (by omega)]
    unfold lostS
    rw [List.map_append, List.sum_append]
    simp
abbrev Q4 := Str × Str × Int × Int
def quadH (st : HS) : List Q4 := st.pts.map fun p => (p.nm, p.ow, p.wo, p.we)
def quadB (b : BS) : List Q4 := b.pts.map fun p => (p.nm, p.ow, p.wo, p.we)
def lessQ (qs : List Q4) (r : Row) : List Q4 := (qs.map fun q => if q.1 = r.1 then (q.1, q.2.1, q.2.2.1 - r.2, q.2.2.2) else q).filter fun q => decide (q.2.2.1 ≠ 0)
def sieveQ (rs : List Row) (qs : List Q4) : List Q4 := (qs.map fun q => (q.1, q.2.1, q.2.2.1 - amtOf rs q.1, q.2.2.2)).filter fun q => decide (0 < q.2.2.1)
theorem quad_less (st : HS) (r : Row) : quadH (lessS st r) = lessQ (quadH st) r := by
  unfold quadH lessS lessP lessQ
  generalize st.pts = ps
  show List.map _ (List.filter _ (List.map _ ps)) = _
  induction ps with
  | nil => rfl
  | cons p ps ih =>
    rw [List.map_cons, List.map_cons, List.map_cons]
    by_cases c : p.nm = r.1
    · rw [if_pos c, if_pos (show (p.nm, p.ow, p.wo, p.we).1 = r.1 from c), List.filter_cons, List.filter_cons]
      by_cases d : p.wo - r.2 = 0
      · rw [if_neg (by simpa using d), if_neg (by simpa using d), ih]
      · rw [if_pos (by simpa using d), if_pos (by simpa using d), List.map_cons, ih]
    · rw [if_neg c, if_neg (show ¬ (p.nm, p.ow, p.wo, p.we).1 = r.1 from c), List.filter_cons, List.filter_cons]
      by_cases d : p.wo = 0
      · rw [if_neg (by simpa using d), if_neg (by simpa using d), ih]
      · rw [if_pos (by simpa using d), if_pos (by simpa using d), List.map_cons, ih]
theorem quad_blend (st : HS) (kept whole : Int) (added : List Int) : quadH (blendS st kept whole added) = quadH st := by
  unfold quadH blendS
  rw [growS_pts, List.map_map]
  rfl
theorem quad_folds : ∀ (rs : List Row) (st : HS), quadH (rs.foldl lessS st) = rs.foldl lessQ (quadH st)
  | [], _ => rfl
  | r :: rs, st => by rw [List.foldl_cons, List.foldl_cons, quad_folds rs, quad_less]
theorem sieve_step : ∀ (qs : List Q4) (r : Row) (rs : List Row), r.1 ∉ rs.map (fun r : Row => r.1) → (∀ q ∈ qs, 1 ≤ q.2.2.1) → (∀ q ∈ qs, q.1 = r.1 → r.2 ≤ q.2.2.1) → sieveQ rs (lessQ qs r) = sieveQ (r :: rs) qs
  | [], _, _, _, _, _ => rfl
  | q :: qs, r, rs, hn, h1, h2 => by
    have ih := sieve_step qs r rs hn (fun x hx => h1 x (List.mem_cons_of_mem _ hx)) (fun x hx => h2 x (List.mem_cons_of_mem _ hx))
    have w1 := h1 q List.mem_cons_self
    have e1 : lessQ (q :: qs) r = (if q.1 = r.1 then (if q.2.2.1 - r.2 = 0 then [] else [(q.1, q.2.1, q.2.2.1 - r.2, q.2.2.2)]) else [q]) ++ lessQ qs r := by
      unfold lessQ
      rw [List.map_cons, List.filter_cons]
      by_cases c : q.1 = r.1
      · rw [if_pos c, if_pos c]
        by_cases d : q.2.2.1 - r.2 = 0
        · rw [if_pos d, if_neg (by simpa using d)]; rfl
        · rw [if_neg d, if_pos (by simpa using d)]; rfl
      · rw [if_neg c, if_neg c, if_pos (decide_eq_true (show q.2.2.1 ≠ 0 by omega))]; rfl
    have e2 : ∀ (us : List Row) (x : Q4) (l : List Q4), sieveQ us (x :: l) = (if 0 < x.2.2.1 - amtOf us x.1 then [(x.1, x.2.1, x.2.2.1 - amtOf us x.1, x.2.2.2)] else []) ++ sieveQ us l := fun us x l => by
      unfold sieveQ
      rw [List.map_cons, List.filter_cons]
      by_cases c : 0 < x.2.2.1 - amtOf us x.1
      · rw [if_pos c, if_pos (decide_eq_true c)]; rfl
      · rw [if_neg c, if_neg (by simpa using c)]; rfl
    rw [e1, e2 (r :: rs), amtOf_cons]
    by_cases c : q.1 = r.1
    · have am : amtOf rs q.1 = 0 := by rw [c]; exact amtOf_none hn
      have le := h2 q List.mem_cons_self c
      rw [if_pos c, if_pos c.symm]
      by_cases d : q.2.2.1 - r.2 = 0
      · rw [if_pos d, if_neg (by omega), ← ih]; rfl
      · rw [if_neg d, if_pos (by omega), ← ih, List.cons_append, List.nil_append, e2 rs]
        show (if 0 < q.2.2.1 - r.2 - amtOf rs q.1 then [(q.1, q.2.1, q.2.2.1 - r.2 - amtOf rs q.1, q.2.2.2)] else []) ++ _ = _
        rw [am, Int.sub_zero, if_pos (by omega)]
    · rw [if_neg c, show (if r.1 = q.1 then r.2 else amtOf rs q.1) = amtOf rs q.1 from if_neg (fun z => c z.symm), ← ih, List.cons_append, List.nil_append, e2 rs]
theorem lessQ_mem {qs : List Q4} {r : Row} {x : Q4} (h : x ∈ lessQ qs r) : x.2.2.1 ≠ 0 ∧ ∃ q ∈ qs, x = if q.1 = r.1 then (q.1, q.2.1, q.2.2.1 - r.2, q.2.2.2) else q := by
  obtain ⟨h1, h2⟩ := List.mem_filter.mp h
  obtain ⟨q, hq, e⟩ := List.mem_map.mp h1
  exact ⟨of_decide_eq_true h2, q, hq, e.symm⟩
theorem quad_fold : ∀ (rs : List Row) (qs : List Q4), (rs.map (fun r : Row => r.1)).Nodup → (∀ q ∈ qs, 1 ≤ q.2.2.1) → (∀ r ∈ rs, ∀ q ∈ qs, q.1 = r.1 → r.2 ≤ q.2.2.1) → rs.foldl lessQ qs = sieveQ rs qs
  | [], qs, _, h1, _ => by
    show qs = sieveQ [] qs
    unfold sieveQ
    induction qs with
    | nil => rfl
    | cons q qs ih =>
      have := h1 q List.mem_cons_self
      rw [List.map_cons, List.filter_cons, if_pos (decide_eq_true (show 0 < q.2.2.1 - amtOf [] q.1 by rw [amtOf_nil]; omega)), ← ih (fun x hx => h1 x (List.mem_cons_of_mem _ hx)) (fun r hr => absurd hr (by simp)), amtOf_nil, Int.sub_zero]
  | r :: rs, qs, nd, h1, h2 => by
    obtain ⟨n1, n2⟩ := List.nodup_cons.mp (show (r.1 :: rs.map (fun r : Row => r.1)).Nodup from nd)
    rw [List.foldl_cons, quad_fold rs (lessQ qs r) n2 ?_ ?_]
    · exact sieve_step qs r rs n1 h1 (h2 r List.mem_cons_self)
    · intro x hx
      obtain ⟨a, q, hq, e⟩ := lessQ_mem hx
      have := h1 q hq
      by_cases c : q.1 = r.1
      · rw [if_pos c] at e
        have := h2 r List.mem_cons_self q hq c
        rw [e] at a ⊢
        have a : q.2.2.1 - r.2 ≠ 0 := a
        show 1 ≤ q.2.2.1 - r.2
        omega
      · rw [if_neg c] at e; rw [e]; exact this
    · intro y hy x hx ex
      obtain ⟨_, q, hq, e⟩ := lessQ_mem hx
      by_cases c : q.1 = r.1
      · rw [if_pos c] at e
        rw [e] at ex
        exact absurd (List.mem_map.mpr ⟨y, hy, ex.symm.trans c⟩) n1
      · rw [if_neg c] at e
        rw [e] at ex ⊢
        exact h2 y (List.mem_cons_of_mem _ hy) q hq ex
theorem quad_bear (b : BS) (rs : List Row) (seat : Nat) (aw : Int) : quadB (bearB b (amtsB b rs) seat aw) = sieveQ rs (quadB b) := by
  unfold quadB bearB bearP sieveQ
  show List.map _ (List.filter _ (List.zipWith (chgB (givB b (amtsB b rs) seat aw) (wholeB b - aw - (amtsB b rs).sum)) b.pts (amtsB b rs))) = _
  generalize givB b (amtsB b rs) seat aw = g
  generalize wholeB b - aw - (amtsB b rs).sum = k
  unfold amtsB
  generalize b.pts = ps
  induction ps with
  | nil => rfl
  | cons p ps ih =>
    rw [List.map_cons, List.zipWith_cons_cons, List.map_cons, List.map_cons, List.filter_cons, List.filter_cons]
    by_cases c : 0 < p.wo - amtOf rs p.nm
    · rw [if_pos (decide_eq_true (show 0 < (chgB g k p (amtOf rs p.nm)).wo from c)), if_pos (decide_eq_true (show 0 < p.wo - amtOf rs p.nm from c)), List.map_cons, ih]
      rfl
    · rw [if_neg (by simpa using (show ¬ 0 < (chgB g k p (amtOf rs p.nm)).wo from c)), if_neg (by simpa using c), ih]
structure RelW (st : HS) (b : BS) : Prop where
  own : st.own = b.own
  qd : quadH st = quadB b
theorem cast_own (st : HS) (rs : List Row) : (castS st rs).own = st.own := by
  unfold castS
  have : ∀ (rs : List Row) (s : HS), (rs.foldl lessS s).own = s.own := fun rs => by
    induction rs with
    | nil => intro s; rfl
    | cons r rs ih => intro s; rw [List.foldl_cons, ih]; rfl
  rw [this]
  unfold blendS
  rw [growS_own]
theorem relW_cast {st : HS} {b : BS} {rs : List Row} (r : RelW st b) (wf : Wf st) (c : CastOk st rs) : RelW (castS st rs) (bearB b (amtsB b rs) 0 0) := by
  refine ⟨by rw [cast_own, r.own]; rfl, ?_⟩
  rw [quad_bear, ← r.qd]
  unfold castS
  rw [quad_folds, quad_blend]
  refine quad_fold rs (quadH st) c.nd (fun q hq => ?_) (fun x hx q hq e => ?_)
  · obtain ⟨p, hp, rfl⟩ := List.mem_map.mp hq
    exact (wf.wo0 p hp).1
  · obtain ⟨p, hp, rfl⟩ := List.mem_map.mp hq
    obtain ⟨_, _, p', hp', e', le⟩ := c.row x hx
    have : p = p' := nm_uniq wf hp hp' (e.trans e'.symm)
    rw [this]
    exact le
theorem relW_load {st : HS} {b : BS} (r : RelW st b) (x o : Str) (wo we : Int) : RelW (loadS st x o wo we) (newB b x o wo we) := by
  refine ⟨r.own, ?_⟩
  unfold quadH quadB loadS stowS newB
  show List.map _ (st.pts ++ [_]) = List.map _ (b.pts ++ [_])
  rw [List.map_append, List.map_append, show st.pts.map (fun p => (p.nm, p.ow, p.wo, p.we)) = b.pts.map (fun p => (p.nm, p.ow, p.wo, p.we)) from r.qd]
  rfl
theorem RelW.whole {st : HS} {b : BS} (r : RelW st b) : wholeS st = wholeB b := by
  unfold wholeS wholeB
  have := congrArg (List.map fun q : Q4 => q.2.2.1) r.qd
  unfold quadH quadB at this
  rw [List.map_map, List.map_map] at this
  exact congrArg List.sum this
theorem RelW.len {st : HS} {b : BS} (r : RelW st b) : st.pts.length = b.pts.length := by
  have := congrArg List.length r.qd
  unfold quadH quadB at this
  rw [List.length_map, List.length_map] at this
  exact this
theorem RelW.at {st : HS} {b : BS} (r : RelW st b) {i : Nat} {q : BP} (h : b.pts[i]? = some q) : ∃ p, st.pts[i]? = some p ∧ p.nm = q.nm ∧ p.ow = q.ow ∧ p.wo = q.wo ∧ p.we = q.we := by
  have e := congrArg (fun l : List Q4 => l[i]?) r.qd
  unfold quadH quadB at e
  have e : (st.pts.map fun p => (p.nm, p.ow, p.wo, p.we))[i]? = (b.pts.map fun p => (p.nm, p.ow, p.wo, p.we))[i]? := e
  rw [List.getElem?_map, List.getElem?_map, h] at e
  obtain ⟨p, ep, e2⟩ := Option.map_eq_some_iff.mp e
  have e2 : (p.nm, p.ow, p.wo, p.we) = (q.nm, q.ow, q.wo, q.we) := e2
  simp only [Prod.mk.injEq] at e2
  exact ⟨p, ep, e2⟩
theorem RelW.at' {st : HS} {b : BS} (r : RelW st b) {i : Nat} {p : Pt} (h : st.pts[i]? = some p) : ∃ q, b.pts[i]? = some q ∧ p.nm = q.nm ∧ p.ow = q.ow ∧ p.wo = q.wo ∧ p.we = q.we := by
  have hi : i < b.pts.length := by rw [← r.len]; exact (List.getElem?_eq_some_iff.mp h).1
  have eq := List.getElem?_eq_getElem hi
  obtain ⟨p', e', z⟩ := r.at eq
  rw [h] at e'
  cases e'
  exact ⟨_, eq, z⟩
theorem RelW.rows {K : PySem.W.Frag} {n : Nat} {ρ : Rho} {B : BA} {H : Hp} {st : HS} {b : BS} (r : RelW st b) (h : BookAt n ρ B H b) : RowsAt K H (B.qs.map fun q => V.ref q.1) st.pts := by
  refine ⟨by rw [List.length_map, h.ql, r.len], fun i p e => ?_⟩
  obtain ⟨q, eq, e1, e2, e3, e4⟩ := r.at' e
  obtain ⟨a, ea, k1, _⟩ := h.find eq
  refine ⟨a.1, _, by rw [List.getElem?_map, ea]; rfl, .inl (SqL.of k1), ?_, ?_, ?_, ?_⟩
  · rw [e1]; rfl
  · rw [e2]; rfl
  · rw [e3]; rfl
  · rw [e4]; rfl
end L2
namespace L2
open PySem PySem.Spec PyProof.Rows
theorem col_bound {B : Int} (hB : 0 ≤ B) : ∀ {ps : List BP} {as : List Int}, (∀ p ∈ ps, ∀ t ∈ p.tops, 0 ≤ t ∧ t ≤ B) → (∀ a ∈ as, 0 ≤ a) → ∀ i, 0 ≤ giveCol ps as i ∧ giveCol ps as i ≤ B * as.sum
  | [], as, _, ha, i => by
    have : 0 ≤ as.sum := by
      cases as with
      | nil => exact Int.le_refl _
      | cons a l => exact Int.le_trans (ha a List.mem_cons_self) (sum_le_of ha List.mem_cons_self)
    exact ⟨by show (0 : Int) ≤ 0; omega, Int.mul_nonneg hB this⟩
  | _ :: _, [], _, _, i => by
    show 0 ≤ (0 : Int) ∧ (0 : Int) ≤ B * 0
    omega
  | p :: ps, a :: as, h, ha, i => by
    have ih := col_bound hB (ps := ps) (as := as) (fun x hx => h x (List.mem_cons_of_mem _ hx)) (fun x hx => ha x (List.mem_cons_of_mem _ hx)) i
    have a0 := ha a List.mem_cons_self
    have ht : 0 ≤ p.tops.getD i 0 ∧ p.tops.getD i 0 ≤ B := by
      rw [List.getD_eq_getElem?_getD]
      cases e : p.tops[i]? with
      | none => exact ⟨Int.le_refl _, hB⟩
      | some t => exact h p List.mem_cons_self t (List.mem_of_getElem? e)
    have e : giveCol (p :: ps) (a :: as) i = p.tops.getD i 0 * a + giveCol ps as i := by unfold giveCol; rw [List.zipWith_cons_cons, List.sum_cons]
    have k1 : 0 ≤ p.tops.getD i 0 * a := Int.mul_nonneg ht.1 a0
    have k2 : p.tops.getD i 0 * a ≤ B * a := Int.mul_le_mul_of_nonneg_right ht.2 a0
    rw [e, List.sum_cons, Int.mul_add]
    omega
theorem giv_bound {b : BS} (wf : WfB b) {as : List Int} {seat : Nat} {aw : Int} (ok : BearOk b as seat aw) : ∀ g ∈ givB b as seat aw, 0 ≤ g ∧ g ≤ b.bot * (as.sum + aw) := by
  have b1 := wf.b1
  have cb := col_bound (B := b.bot) (by omega) wf.t0 ok.a0
  have aw0 := ok.aw0
  have m0 : 0 ≤ b.bot * aw := Int.mul_nonneg (by omega) aw0
  have hg : ∀ g ∈ givenB b as, 0 ≤ g ∧ g ≤ b.bot * as.sum := fun g h => by
    obtain ⟨i, _, rfl⟩ := List.mem_map.mp h
    exact cb i
  intro g h
  rw [Int.mul_add]
  unfold givB at h
  split at h
  · rcases List.mem_or_eq_of_mem_set h with z | z
    · have := hg g z; omega
    · have hs : seat < (givenB b as).length := by rw [givenB_len]; exact ok.seat
      have e : (givenB b as).getD seat 0 = (givenB b as)[seat] := by rw [List.getD_eq_getElem?_getD, List.getElem?_eq_getElem hs]; rfl
      have := hg _ (List.getElem_mem hs)
      rw [z, e, Int.mul_comm aw]
      omega
  · have := hg g h; omega
theorem wfB_bear {b : BS} (wf : WfB b) {as : List Int} {seat : Nat} {aw : Int} (ok : BearOk b as seat aw) (hz : Jm.Sz 7000 (b.bot * wholeB b)) : WfB (bearB b as seat aw) := by
  have b1 := wf.b1
  have gb := giv_bound wf ok
  have kp := ok.kept
  have as0 : 0 ≤ as.sum := by
    cases has : as with
    | nil => exact Int.le_refl _
    | cons a l => exact Int.le_trans (ok.a0 a (by rw [has]; exact List.mem_cons_self)) (by rw [← has]; exact sum_le_of ok.a0 (by rw [has]; exact List.mem_cons_self))
  have aw0 := ok.aw0
  have memP : ∀ p ∈ (bearP b as seat aw).filter (fun p => decide (0 < p.wo)), 0 < p.wo ∧ ∃ p0 ∈ b.pts, ∃ a, p = chgB (givB b as seat aw) (wholeB b - aw - as.sum) p0 a := fun p hp => by
    obtain ⟨h1, h2⟩ := List.mem_filter.mp hp
    obtain ⟨i, x, a, ex, _, e⟩ := zipW_mem2 (show p ∈ List.zipWith (chgB (givB b as seat aw) (wholeB b - aw - as.sum)) b.pts as from h1)
    exact ⟨of_decide_eq_true h2, x, List.mem_of_getElem? ex, a, e⟩
  have nmE : (bearP b as seat aw).map (fun p : BP => p.nm) = b.pts.map (fun p : BP => p.nm) := by
    have := mix_nm (seat := seat) (aw := aw) ok.len b.pts.length
    rw [List.drop_length, List.append_nil, show (bearP b as seat aw).take b.pts.length = bearP b as seat aw from by rw [← bearP_len ok.len]; exact List.take_length] at this
    exact this
  refine ⟨?_, fun p hp => ?_, fun p hp t ht => ?_, ?_, hz, fun p hp => ?_, wf.ol, ?_, wf.kl⟩
  · have : (((bearP b as seat aw).filter fun p => decide (0 < p.wo)).map (fun p : BP => p.nm)).Sublist ((bearP b as seat aw).map (fun p : BP => p.nm)) := List.filter_sublist.map _
    rw [nmE] at this
    exact wf.nd.sublist this
  · obtain ⟨_, p0, h0, a, rfl⟩ := memP p hp
    show (List.zipWith _ p0.tops (givB b as seat aw)).length = b.own.length
    rw [List.length_zipWith, wf.tl p0 h0, givB_len]
    omega
  · obtain ⟨_, p0, h0, a, rfl⟩ := memP p hp
    obtain ⟨i, x, g, ex, eg, rfl⟩ := zipW_mem2 (show t ∈ List.zipWith (fun t g => t * (wholeB b - aw - as.sum) + g) p0.tops (givB b as seat aw) from ht)
    have hx := wf.t0 p0 h0 x (List.mem_of_getElem? ex)
    have hg := gb g (List.mem_of_getElem? eg)
    have k1 : 0 ≤ x * (wholeB b - aw - as.sum) := Int.mul_nonneg hx.1 (by omega)
    have k2 : x * (wholeB b - aw - as.sum) ≤ b.bot * (wholeB b - aw - as.sum) := Int.mul_le_mul_of_nonneg_right hx.2 (by omega)
    have k3 : b.bot * (wholeB b - aw - as.sum) + b.bot * (as.sum + aw) = b.bot * wholeB b := by rw [← Int.mul_add]; congr 1; omega
    exact ⟨by omega, by show _ ≤ b.bot * wholeB b; omega⟩
  · show 1 ≤ b.bot * wholeB b
    have : b.bot * 1 ≤ b.bot * wholeB b := Int.mul_le_mul_of_nonneg_left (by omega) (by omega)
    omega
  · exact (memP p hp).1
  · have := List.length_filter_le (fun p : BP => decide (0 < p.wo)) (bearP b as seat aw)
    rw [bearP_len ok.len] at this
    exact Nat.le_trans this wf.pl
theorem bear_ok {b : BS} (wf : WfB b) {rs : List Row} (h : RowsB b rs) (hl : lostS rs < wholeB b) (ho : 0 < b.own.length) (hz : Jm.Sz 60 (wholeB b)) : BearOk b (amtsB b rs) 0 0 := by
  have hs := amtsB_sum wf.nd h rs.length (Nat.le_refl _)
  rw [List.take_length] at hs
  refine ⟨amtsB_len b rs, fun a ha => ?_, ho, Int.le_refl _, by rw [hs]; omega, hz⟩
  obtain ⟨p, _, rfl⟩ := List.mem_map.mp ha
  exact amtOf_ge (fun r hr => (h.row r hr).1) p.nm
structure spMCast (K : PySem.W.Frag) (vs : List V) (H : Hp) (Q : VK) (E : XK) : Prop where
  ex : ∃ n ρ B b, ∃ (l : Addr) (us : List V) (rs : List Row), vs = [.ref B.m, .ref l] ∧ Gh ρ H ∧ BookAt n ρ B H b ∧ WfB b ∧ SqL K H l us ∧ RowsIn H us rs ∧ ρ l = none ∧ RowsB b rs ∧ rs.length ≤ 1000 ∧ BearOk b (amtsB b rs) 0 0 ∧
    ∀ ρ' B' H', Gh ρ' H' → BookAt n ρ' B' H' (bearB b (amtsB b rs) 0 0) → B'.m = B.m → Fr n ρ H ρ' H' → Q .non H'
theorem wfB_new {b : BS} (wf : WfB b) {x o : Str} {wo we : Int} (h1 : x ∉ b.pts.map (fun p : BP => p.nm)) (h2 : 1 ≤ wo) (h3 : b.pts.length < 1000) (h4 : b.kno.length < 1000) : WfB (newB b x o wo we) := by
  have P : ∀ {M : BP → Prop}, (∀ p ∈ b.pts, M p) → M ⟨x, o, wo, we, (List.replicate b.own.length 0).set (b.own.idxOf o) b.bot⟩ → ∀ p ∈ (newB b x o wo we).pts, M p := fun a c p hp => by
    rcases List.mem_append.mp (show p ∈ b.pts ++ [_] from hp) with z | z
    · exact a p z
    · rw [List.mem_singleton.mp z]; exact c
  have b1 := wf.b1
  refine ⟨?_, P wf.tl (by show ((List.replicate b.own.length (0 : Int)).set _ _).length = _; rw [List.length_set, List.length_replicate]; rfl), P wf.t0 (fun t ht => ?_), wf.b1, wf.bz, P wf.w1 h2, wf.ol, ?_, ?_⟩
  · show ((b.pts ++ [_]).map (fun p : BP => p.nm)).Nodup
    rw [List.map_append]
    exact nd_snoc wf.nd h1
  · rcases mem_oneTop ht with z | z
    · rw [z]; show 0 ≤ 0 ∧ 0 ≤ b.bot; omega
    · rw [z]; show 0 ≤ b.bot ∧ b.bot ≤ b.bot; omega
  · show (b.pts ++ [_]).length ≤ 1000
    rw [List.length_append]; show b.pts.length + 1 ≤ 1000; omega
  · show (b.kno ++ [_]).length ≤ 1000
    rw [List.length_append]; show b.kno.length + 1 ≤ 1000; omega
end L2
namespace L2
open PySem PySem.Spec PyProof.Rows
structure GdP (c : Nat) (st : HS) (b : BS) : Prop where
  wfB : WfB b
  rel : RelW st b
  pur : ∀ u ∈ st.pur, u = 0
  stp : st.stp.length ≤ c
  prod : Jm.Sz (60 * c + 1) st.prod
  bot : Jm.Sz (60 * c + 1) b.bot
  wo : ∀ p ∈ b.pts, p.wo ≤ 1000000000
  pl : b.pts.length ≤ 50
  own : 0 < b.own.length
  nm : ∀ p ∈ b.pts, PyData.strOk p.nm = true ∧ PyData.strOk p.ow = true
  ash : st.ash = [] ∧ b.ash = []
theorem GdP.mono {c : Nat} {st : HS} {b : BS} (g : GdP c st b) : GdP (c + 1) st b := ⟨g.wfB, g.rel, g.pur, by have := g.stp; omega, g.prod.mono (by omega), g.bot.mono (by omega), g.wo, g.pl, g.own, g.nm, g.ash⟩
theorem GdP.nms {c : Nat} {st : HS} {b : BS} (g : GdP c st b) : NmsP st.pts := fun p hp => by
  obtain ⟨i, hi, e⟩ := List.getElem_of_mem hp
  obtain ⟨q, eq, e1, e2, _⟩ := g.rel.at' (i := i) (p := p) (by rw [List.getElem?_eq_getElem hi, e])
  rw [e1, e2]
  exact g.nm q (List.mem_of_getElem? eq)
theorem whole_bound : ∀ {ps : List BP} {m : Int}, (∀ p ∈ ps, 1 ≤ p.wo ∧ p.wo ≤ m) → 0 ≤ (ps.map fun p => p.wo).sum ∧ (ps.map fun p => p.wo).sum ≤ m * (ps.length : Int)
  | [], m, _ => by show 0 ≤ (0 : Int) ∧ (0 : Int) ≤ m * 0; omega
  | p :: ps, m, h => by
    have h0 := h p List.mem_cons_self
    have ih := whole_bound (ps := ps) (m := m) fun x hx => h x (List.mem_cons_of_mem _ hx)
    rw [List.map_cons, List.sum_cons, List.length_cons, show (((ps.length + 1 : Nat)) : Int) = (ps.length : Int) + 1 from by omega, Int.mul_add, Int.mul_one]
    omega
theorem GdP.whole {c : Nat} {st : HS} {b : BS} (g : GdP c st b) : 0 ≤ wholeB b ∧ Jm.Sz 60 (wholeB b) := by
  have h := whole_bound (ps := b.pts) (m := 1000000000) fun p hp => ⟨g.wfB.w1 p hp, g.wo p hp⟩
  refine ⟨h.1, ?_⟩
  have hl := g.pl
  have h2 : (1000000000 : Int) * (b.pts.length : Int) ≤ 50000000000 := by omega
  have h3 : wholeB b ≤ 50000000000 := Int.le_trans h.2 h2
  have h1 : 0 ≤ wholeB b := h.1
  have : Jm.Sz 60 (50000000000 : Int) := sz_lit (by decide +kernel)
  exact this.of_le (by omega)
theorem fold_keep : ∀ (rs : List Row) (s : HS), rs.foldl lessS s = { s with pts := (rs.foldl lessS s).pts }
  | [], _ => rfl
  | r :: rs, s => by
    rw [List.foldl_cons, fold_keep rs (lessS s r)]
    rfl
theorem gd_cast {c : Nat} {st : HS} {b : BS} {rs : List Row} (g : GdP c st b) (wf : Wf st) (ok : CastOk st rs) (bo : BearOk b (amtsB b rs) 0 0) (hc : c ≤ 90) : GdP (c + 1) (castS st rs) (bearB b (amtsB b rs) 0 0) := by
  have zw := g.whole
  have ew := g.rel.whole
  have bl := ok.blend wf
  obtain ⟨hs, hsw, _, _⟩ := bl.dvds
  have w1 : 0 < wholeS st := by have := ok.lost; have := lost_ge0 (rs := rs) fun r hr => (ok.row r hr).1; omega
  have eK := fold_keep rs (blendS st (wholeS st - lostS rs) (wholeS st) (givenS st rs))
  have eC : castS st rs = { blendS st (wholeS st - lostS rs) (wholeS st) (givenS st rs) with pts := (castS st rs).pts } := eK
  have s1 : 1 ≤ wholeS st / sharedS st (wholeS st - lostS rs) (wholeS st) (givenS st rs) := by
    have := Int.le_of_dvd w1 hsw
    exact Int.le_ediv_of_mul_le hs (by omega)
  have s2 : wholeS st / sharedS st (wholeS st - lostS rs) (wholeS st) (givenS st rs) ≤ wholeS st := Int.ediv_le_self _ (by omega)
  have zs : Jm.Sz 60 (wholeS st / sharedS st (wholeS st - lostS rs) (wholeS st) (givenS st rs)) := by
    have := zw.2
    rw [← ew] at this
    exact this.of_le (by omega)
  have memP : ∀ p ∈ (bearB b (amtsB b rs) 0 0).pts, ∃ p0 ∈ b.pts, ∃ a, a ∈ amtsB b rs ∧ p = chgB (givB b (amtsB b rs) 0 0) (wholeB b - 0 - (amtsB b rs).sum) p0 a := fun p hp => by
    obtain ⟨h1, _⟩ := List.mem_filter.mp (show p ∈ (bearP b (amtsB b rs) 0 0).filter _ from hp)
    obtain ⟨i, x, a, ex, ea, e⟩ := zipW_mem2 (show p ∈ List.zipWith (chgB (givB b (amtsB b rs) 0 0) (wholeB b - 0 - (amtsB b rs).sum)) b.pts (amtsB b rs) from h1)
    exact ⟨x, List.mem_of_getElem? ex, a, List.mem_of_getElem? ea, e⟩
  have zb : Jm.Sz (60 * (c + 1) + 1) (b.bot * wholeB b) := (g.bot.mul zw.2).mono (by omega)
  refine ⟨wfB_bear g.wfB bo (zb.mono (by omega)), relW_cast g.rel wf ok, fun u hu => ?_, ?_, ?_, zb, fun p hp => ?_, ?_, g.own, fun p hp => ?_, ?_, g.ash.2⟩
  · rw [eC] at hu
    have hu : u ∈ (blendS st (wholeS st - lostS rs) (wholeS st) (givenS st rs)).pur := hu
    unfold blendS at hu
    rw [growS_pur] at hu
    obtain ⟨x, hx, rfl⟩ := List.mem_map.mp hu
    rw [g.pur x hx, Int.zero_mul]
  · rw [eC]
    show (blendS st (wholeS st - lostS rs) (wholeS st) (givenS st rs)).stp.length ≤ c + 1
    unfold blendS growS
    split
    · show (st.stp ++ [_]).length ≤ c + 1
      rw [List.length_append]; have := g.stp; show st.stp.length + 1 ≤ c + 1; omega
    · show st.stp.length ≤ c + 1
      have := g.stp; omega
  · rw [eC]
    show Jm.Sz _ (blendS st (wholeS st - lostS rs) (wholeS st) (givenS st rs)).prod
    unfold blendS
    rw [growS_prod s1]
    exact (g.prod.mul zs).mono (by omega)
  · obtain ⟨p0, h0, a, ha, rfl⟩ := memP p hp
    have := g.wo p0 h0
    have := bo.a0 a ha
    show p0.wo - a ≤ 1000000000
    omega
  · have := List.length_filter_le (fun p : BP => decide (0 < p.wo)) (bearP b (amtsB b rs) 0 0)
    rw [bearP_len bo.len] at this
    exact Nat.le_trans this g.pl
  · obtain ⟨p0, h0, a, _, rfl⟩ := memP p hp
    exact g.nm p0 h0
  · rw [eC]
    show (blendS st (wholeS st - lostS rs) (wholeS st) (givenS st rs)).ash = []
    unfold blendS
    rw [growS_ash]
    exact g.ash.1
theorem gd_load {st : HS} {b : BS} (g : GdP 0 st b) {x o : Str} {wo we : Int} (h1 : x ∉ b.pts.map (fun p : BP => p.nm)) (h2 : 1 ≤ wo) (h2' : wo ≤ 1000000000) (h3 : b.pts.length < 50) (h4 : b.kno.length < 1000) (hx : PyData.strOk x = true) (ho : PyData.strOk o = true) : GdP 0 (loadS st x o wo we) (newB b x o wo we) := by
  have P : ∀ {M : BP → Prop}, (∀ p ∈ b.pts, M p) → M ⟨x, o, wo, we, (List.replicate b.own.length 0).set (b.own.idxOf o) b.bot⟩ → ∀ p ∈ (newB b x o wo we).pts, M p := fun a c p hp => by
    rcases List.mem_append.mp (show p ∈ b.pts ++ [_] from hp) with z | z
    · exact a p z
    · rw [List.mem_singleton.mp z]; exact c
  exact ⟨wfB_new g.wfB h1 h2 (by omega) h4, relW_load g.rel x o wo we, g.pur, g.stp, g.prod, g.bot, P g.wo h2', by show (b.pts ++ [_]).length ≤ 50; rw [List.length_append]; show b.pts.length + 1 ≤ 50; omega, g.own, P g.nm ⟨hx, ho⟩, g.ash⟩
theorem signs_keep : ∀ (l : List Str) (st : HS), st.pts = [] → (∀ u ∈ st.pur, u = 0) → (l.foldl signS st).pts = [] ∧ (l.foldl signS st).nms = st.nms ∧ (l.foldl signS st).stp = st.stp ∧ (l.foldl signS st).prod = st.prod ∧ (l.foldl signS st).ash = st.ash ∧ ∀ u ∈ (l.foldl signS st).pur, u = 0
  | [], _, h, hp => ⟨h, rfl, rfl, rfl, rfl, hp⟩
  | o :: l, st, h, hp => by
    rw [List.foldl_cons]
    exact signs_keep l (signS st o) (by show st.pts.map _ = []; rw [h]; rfl) (fun u hu => by
      rcases List.mem_append.mp (show u ∈ st.pur ++ [0] from hu) with z | z
      · exact hp u z
      · exact List.mem_singleton.mp z)
theorem gd0 {own : List Str} (h0 : 0 < own.length) (h1 : own.length ≤ 100) : GdP 0 (own.foldl signS hs0) ⟨own, [], 1, [], []⟩ ∧ (own.foldl signS hs0).nms = [] := by
  obtain ⟨k1, k2, k3, k4, k5, k6⟩ := signs_keep own hs0 rfl (fun u hu => absurd hu (by simp [hs0]))
  refine ⟨⟨⟨List.nodup_nil, fun p hp => absurd hp (by simp), fun p hp => absurd hp (by simp), Int.le_refl _, (by show Jm.Sz 7000 1; exact sz_lit (by decide +kernel)), fun p hp => absurd hp (by simp), h1, Nat.zero_le _, Nat.zero_le _⟩, ⟨by rw [signs_own]; rfl, by unfold quadH quadB; rw [k1]; rfl⟩, k6, by rw [k3]; exact Nat.le_refl _, (by rw [k4]; show Jm.Sz (60 * 0 + 1) 1; exact sz_lit (by decide +kernel)), (by show Jm.Sz (60 * 0 + 1) 1; exact sz_lit (by decide +kernel)), fun p hp => absurd hp (by simp), Nat.zero_le _, h0, fun p hp => absurd hp (by simp), k5, rfl⟩, k2⟩
theorem rows_castok {c : Nat} {st : HS} {b : BS} {rs : List Row} (g : GdP c st b) (wf : Wf st) (h : RowsOk (nwB b) rs) (hne : rs ≠ []) (hc : c ≤ 90) : CastOk st rs ∧ RowsB b rs ∧ BearOk b (amtsB b rs) 0 0 := by
  have eW : lostS (nwB b) = wholeB b := by unfold lostS nwB wholeB; rw [List.map_map]; rfl
  have hl : lostS rs < wholeB b := by
    rcases h.lost with z | z
    · rw [← eW]; exact z
    · exact absurd z hne
  have rb : RowsB b rs := ⟨h.nd, fun r hr => by
    obtain ⟨r1, _, w, hw, e, le⟩ := h.row r hr
    obtain ⟨p, hp, rfl⟩ := List.mem_map.mp hw
    obtain ⟨j, hj, ej⟩ := List.getElem_of_mem hp
    exact ⟨r1, j, p, by rw [List.getElem?_eq_getElem hj, ej], e, le⟩⟩
  have zw := g.whole
  refine ⟨⟨h.nd, hne, ?_, fun r hr => ?_, by rw [g.rel.whole]; exact hl, by rw [g.rel.whole]; exact zw.2, g.prod.mono (by omega), fun u hu => by rw [g.pur u hu]; exact sz_lit (by decide +kernel), by have := g.stp; omega⟩, rb, bear_ok g.wfB rb hl g.own zw.2⟩
  · have := h.len
    unfold nwB at this
    rw [List.length_map] at this
    have := g.pl
    omega
  · obtain ⟨r1, j, q, hq, e, le⟩ := rb.row r hr
    obtain ⟨p, hp, e1, _, e3, _⟩ := g.rel.at hq
    have r2 := (h.row r hr).2.1
    have : Jm.Sz 60 (1000000000 : Int) := sz_lit (by decide +kernel)
    exact ⟨r1, this.of_le (by omega), p, List.mem_of_getElem? hp, e1.trans e, by rw [e3]; exact le⟩
def SqF (K : PySem.W.Frag) (ρ : Rho) (H : Hp) (z : Addr) (xs : List V) : Prop := ∀ (ρ' : Rho) (H' : Hp), Same (out ρ H) (out ρ' H') → SqL K H' z xs
theorem SqF.of {K : PySem.W.Frag} {H : Hp} {z : Addr} {xs : List V} (h : SqL K H z xs) : SqF K (fun _ => none) H z xs := fun ρ' H' s => by
  rcases h with (h | ⟨o, h⟩) | h
  · exact .inl (.inl (out_some (s _ _ (out_of h rfl))).1)
  · exact .inl (.inr ⟨o, (out_some (s _ _ (out_of h rfl))).1⟩)
  · exact .inr h
theorem SqF.go {K : PySem.W.Frag} {ρ ρ' : Rho} {H H' : Hp} {z : Addr} {xs : List V} (h : SqF K ρ H z xs) (s : Same (out ρ H) (out ρ' H')) : SqF K ρ' H' z xs := fun _ _ s' => h _ _ (s.trans s')
structure spLoads (T : TC) (K : PySem.W.Frag) (vs : List V) (H : Hp) (Q : VK) (E : XK) : Prop where
  ex : ∃ n m ρ A B st b, ∃ (a ln : Addr) (ns : List Int) (k : Int) (nms : List Str) (many : Nat), vs = [.ref a, .int k, .ref A.a, .ref B.m, .ref ln, .int (many : Int)] ∧ n ≠ m ∧ HH T n ρ A H st ∧ BookAt m ρ B H b ∧ GdP 0 st b ∧ SqF K ρ H a (ns.map V.int) ∧ ns.length ≤ 63 ∧ 0 ≤ k ∧ k ≤ 1000000 ∧ SqF K ρ H ln (nms.map V.str) ∧
    nms.Nodup ∧ (∀ x ∈ nms, NmOk x) ∧ (∀ o ∈ b.own, NmOk o) ∧ many ≤ nms.length ∧ many ≤ 50 ∧ st.nms = [] ∧ b.pts = [] ∧ b.kno = [] ∧
    ∀ ρ' A' B' H' st' b', HH T n ρ' A' H' st' → BookAt m ρ' B' H' b' → GdP 0 st' b' → A'.a = A.a → B'.m = B.m → b'.own = b.own → b'.pts.length = many → Same (out ρ H) (out ρ' H') → Q .non H'
structure spCastNow (T : TC) (K : PySem.W.Frag) (vs : List V) (H : Hp) (Q : VK) (E : XK) : Prop where
  ex : ∃ n m ρ A B st b, ∃ (a : Addr) (ns : List Int) (k : Int) (c : Nat), vs = [.ref a, .int k, .ref A.a, .ref B.m] ∧ n ≠ m ∧ HH T n ρ A H st ∧ BookAt m ρ B H b ∧ GdP c st b ∧ c ≤ 90 ∧ SqF K ρ H a (ns.map V.int) ∧ ns.length ≤ 63 ∧ 0 ≤ k ∧ k ≤ 1000000 ∧
    ∀ ρ' A' B' H' st' b', HH T n ρ' A' H' st' → BookAt m ρ' B' H' b' → GdP (c + 1) st' b' → A'.a = A.a → B'.m = B.m → b'.own = b.own → Same (out ρ H) (out ρ' H') → Q (.bl true) H'
def rowD (r : Row) : PyData := .tuple [.str r.1, .int r.2]
theorem RowsIn.dt {K : PySem.W.Frag} {H : Hp} {vs : List V} {rs : List Row} (h : RowsIn H vs rs) : DtA K H vs (rs.map rowD) := by
  induction h with
  | nil => exact .nil
  | cons e _ ih => exact .cons (.tup (SqT.of e) (.cons (.str _) (.cons (.int _) .nil))) ih
theorem rowD_lay (ps : List Row) (hk : ∀ r ∈ ps, PyData.strOk r.1 = true) : PyData.canLayAll0 (ps.map rowD) = true := by
  induction ps with
  | nil => rfl
  | cons q r ih =>
    rw [List.map_cons]
    unfold PyData.canLayAll0
    rw [ih fun p hp => hk p (List.mem_cons_of_mem _ hp), Bool.and_true]
    unfold rowD PyData.canLay0 PyData.canLayAll0 PyData.canLayAll0 PyData.canLayAll0 PyData.canLay0
    rw [hk q List.mem_cons_self]
    rfl
theorem rowD_depth (ps : List Row) : PyData.depthAll (ps.map rowD) ≤ 1 := by
  induction ps with
  | nil => exact Nat.zero_le _
  | cons q r ih =>
    rw [List.map_cons]
    unfold PyData.depthAll
    have : PyData.depth (rowD q) ≤ 1 := Nat.le_of_ble_eq_true rfl
    omega
theorem shaped_rows (ps : List Row) (hk : ∀ r ∈ ps, PyData.strOk r.1 = true) : SeqAt.shaped (.list (ps.map rowD)) = true := by
  unfold SeqAt.shaped PyData.canLay0 PyData.depth
  rw [rowD_lay ps hk]
  have := rowD_depth ps
  simp only [Bool.true_and, decide_eq_true_eq]
  omega
theorem eqv_rowD (p : Row) : PyData.eqv (rowD p) (rowD p) = true := by
  unfold rowD PyData.eqv PyData.eqvAll PyData.eqvAll PyData.eqvAll
  rw [eqv_str, eqv_int]
  rfl
theorem eqv_rows (ps : List Row) : PyData.eqv (.list (ps.map rowD)) (.list (ps.map rowD)) = true := by
  unfold PyData.eqv
  induction ps with
  | nil => rfl
  | cons q r ih =>
    rw [List.map_cons]
    unfold PyData.eqvAll
    rw [ih, Bool.and_true]
    exact eqv_rowD q
theorem HH.other {T : TC} {n m : Nat} {ρ ρ' : Rho} {A : HA} {H H' : Hp} {st : HS} (h : HH T n ρ A H st) (f : Fr m ρ H ρ' H') (g : Gh ρ' H') (e : n ≠ m) : HH T n ρ' A H' st := ⟨g, h.h.other f h.g e, h.wf⟩
end L2
namespace Law
open PySem L2
def top (i : Nat) : Stmt := PySem.Challenge.pw_jettison_k18_casts_take_worth.main.body.getD i (.Pass ⟨0, 0, 0, 0⟩)
section
variable {P : Program} {w : World} {K : PySem.W.Frag} {mg : Str → Option Value} {base : Heap} {f : Addr} {fd : FuncData}
abbrev sd_common_factor : Stmt := top 2
abbrev N_common_factor : List Str := ["one", "other"]
abbrev P_common_factor : List Str := ["one", "other"]
theorem sc_common_factor : FnScope N_common_factor P_common_factor (defScope sd_common_factor) := ⟨rfl, rfl, rfl, by decide +kernel, rfl, by decide +kernel, by decide +kernel⟩
theorem ok_common_factor (F : At K mg "common_factor" sd_common_factor f fd) : Dn P w K mg base 1 "common_factor" P_common_factor spCf := by
  refine F.ok sc_common_factor (fun vs H Q E h => ?_) (fun cdv A outer s H vs Q E hr h => ?_) (fun _ _ _ _ _ _ us hl => match us, hl with | [_, _], _ => rfl)
  · obtain ⟨a, b, rfl, _⟩ := h
    rfl
  obtain ⟨a, b, rfl, ha, hb, q⟩ := h
  refine ⟨_, (pss_cons (ps_while PassesOwn.never (pt_cmpR op_gt (pv 1) pe_int (nomark _)) (pss_one (ps_par (i := 0) (j := 1) rfl sc_common_factor.nd rfl rfl (by decide) rfl rfl (pa_cons (pv 1) (pa_cons (pe_op op_mod (pv 0) (pv 1)) pa_nil)) (by rfl))))
    (pss_one (ps_ret (pv 0)))), ?_⟩
  refine ⟨fun m σ H' => ∃ x y : Int, m = y.toNat ∧ σ = [some (.int x), some (.int y)] ∧ H' = H ∧ 0 ≤ x ∧ 0 ≤ y ∧ Jm.cf x y = Jm.cf a b, ⟨_, a, b, rfl, rfl, rfl, ha, hb, rfl⟩, ?_⟩
  rintro m σ H' ⟨x, y, rfl, rfl, rfl, hx, hy, e⟩
  refine ⟨_, rfl, _, _, rfl, rfl, _, rfl, ?_⟩
  refine ite2 (fun c => ?_) (fun c => ?_)
  · have c' : 0 < y := of_decide_eq_true c
    refine ⟨_, fun _ _ z => z, ?_⟩
    refine ⟨_, rfl, _, rfl, _, rfl, _, _, rfl, rfl, c', _, _, rfl, ?_⟩
    have h1 : 0 ≤ x % y := Int.emod_nonneg _ (by omega)
    have h2 : x % y < y := Int.emod_lt_of_pos _ c'
    exact ⟨_, (by omega : (x % y).toNat < y.toNat), y, x % y, rfl, rfl, rfl, hy, h1, (Jm.cf_step x y c').trans e⟩
  · have c' : ¬ 0 < y := of_decide_eq_false (Bool.eq_false_iff.mpr c)
    have ey : y = 0 := by omega
    subst ey
    rw [Jm.cf_zero x hx] at e
    refine ⟨_, rfl, ?_⟩
    rw [e]
    exact q
abbrev sd_made_of : Stmt := top 18
abbrev N_made_of : List Str := ["text", "signs"]
abbrev P_made_of : List Str := ["text", "signs"]
theorem sc_made_of : FnScope N_made_of P_made_of (defScope sd_made_of) := ⟨rfl, rfl, rfl, by decide +kernel, rfl, by decide +kernel, by decide +kernel⟩
theorem ok_made_of (F : At K mg "made_of" sd_made_of f fd) (m_all : mg "all" = none) : Dn P w K mg base 1 "made_of" P_made_of spMadeOf := by
  refine F.ok sc_made_of (fun vs H Q E h => ?_) (fun cdv A outer s H vs Q E hr h => ?_) (fun _ _ _ _ _ _ us hl => match us, hl with | [_, _], _ => rfl)
  · obtain ⟨cs, signs, rfl, _⟩ := h.ex
    rfl
  obtain ⟨cs, signs, rfl, hl, q⟩ := h.ex
  refine ⟨_, (pss_one (ps_ret (pe_callB (call_allK K rfl) (by rfl) m_all PyProof.Rows.boot_all (pa_cons (pe_comp ["sign", "signs"] [none, some 1] rfl (pi_str (pv 0)) (fun _ _ _ _ => (pg_name (i := 0) (show List.Nodup (["sign", "signs"] : List Str) from by decide +kernel) rfl (Or.inl rfl))) (fun _ _ _ _ => (pe_cmpR op_in_str (pv 0) (pv 1) (by with_unfolding_all rfl))) rfl (by rfl)) pa_nil)))), ?_⟩
  refine ⟨_, rfl, cs, rfl, fun acc hacc => ?_⟩
  refine comp_str (fun i out H1 => Same H H1 ∧ out = ((cs.take i).map (inS signs)).map V.bl) hl ⟨same_new hacc _, rfl⟩ ?_ ?_
  · rintro i c out H1 hx hol ha ⟨g, e⟩
    refine ⟨_, rfl, _, rfl, _, _, rfl, rfl, ha, g.upd_new hacc _, ?_⟩
    rw [e, List.take_add_one, hx, List.map_append, List.map_append]
    rfl
  rintro out H1 hol ha ⟨g, e⟩
  rw [List.take_length] at e
  refine ⟨acc, cs.map (inS signs), rfl, SqL.of (by rw [ha, e]), ?_⟩
  have e2 : (cs.map (inS signs)).all id = cs.all (inS signs) := by rw [List.all_map]; rfl
  rw [e2]
  exact q H1 g
abbrev sd_is_name : Stmt := top 17
abbrev N_is_name : List Str := ["text"]
abbrev P_is_name : List Str := ["text"]
theorem sc_is_name : FnScope N_is_name P_is_name (defScope sd_is_name) := ⟨rfl, rfl, rfl, by decide +kernel, rfl, by decide +kernel, by decide +kernel⟩
theorem ok_is_name {tk : Tok} (F : At K mg "is_name" sd_is_name f fd) (D_made_of : Dn P w K mg base 1 "made_of" ["text", "signs"] spMadeOf) (m_len : mg "len" = none) (m_LETTERS : mg "LETTERS" = some (.str "abcdefghijklmnopqrstuvwxyz" tk)) : Dn P w K mg base 2 "is_name" P_is_name spIsName := by
  refine F.ok sc_is_name (fun vs H Q E h => ?_) (fun cdv A outer s H vs Q E hr h => ?_) (fun _ _ _ _ _ _ us hl => match us, hl with | [_], _ => rfl)
  · obtain ⟨cs, rfl, _⟩ := h.ex
    rfl
  obtain ⟨cs, rfl, hl, q⟩ := h.ex
  refine ⟨_, (pss_one (ps_ret (pe_and (pe_chain op_le op_le pe_int (pe_callB call_len_str (by rfl) m_len PySem.boot_len (pa_cons (pv 0) pa_nil)) pe_int) (pe_one (pe_fn D_made_of hr (pa_cons (pv 0) (pa_cons (pe_glob (v := .str "abcdefghijklmnopqrstuvwxyz") (by rfl) m_LETTERS ⟨_, rfl⟩) pa_nil))))))), ?_⟩
  have hz : (tx cs).length ≤ sizeLine := by rw [tx_length, sizeLine_eq]; omega
  refine ⟨_, rfl, _, rfl, hz, _, _, rfl, rfl, _, rfl, ?_⟩
  rw [tx_length]
  refine ite2 (fun c => ?_) (fun c => ?_)
  · refine ⟨_, _, rfl, rfl, _, rfl, ite2 (fun c2 => ?_) (fun c2 => ?_)⟩
    · refine ⟨_, rfl, use_madeof hl fun H' g => ?_⟩
      have := q H' g
      unfold isName at this
      rw [c, c2, Bool.true_and, Bool.true_and] at this
      exact this
    · have := q H (Same.refl _)
      unfold isName at this
      rw [c, Bool.eq_false_iff.mpr c2, Bool.true_and, Bool.false_and] at this
      exact this
  · have := q H (Same.refl _)
    unfold isName at this
    rw [Bool.eq_false_iff.mpr c, Bool.false_and, Bool.false_and] at this
    exact ⟨_, rfl, iteF this⟩
abbrev sd_Bottom_init : Stmt := inClass (top 4) 0
abbrev N_Bottom_init : List Str := ["self"]
abbrev P_Bottom_init : List Str := ["self"]
theorem sc_Bottom_init : FnScope N_Bottom_init P_Bottom_init (defScope sd_Bottom_init) := ⟨rfl, rfl, rfl, by decide +kernel, rfl, by decide +kernel, by decide +kernel⟩
theorem ok_Bottom_init {T : TC} (F : AtC K mg "Bottom" T.bot "Bottom.__init__" sd_Bottom_init f fd) (X : Txt K T) : Cn P w K mg base 1 "Bottom" T.bot P_Bottom_init (spBInit T) := by
  refine F.ok sc_Bottom_init (fun vs H Q E h => ?_) (fun cdv A outer s H vs Q E hr h => ?_) (fun _ _ _ _ _ _ us hl => match us, hl with | [_], _ => rfl)
  · obtain ⟨p, dx, rfl, _⟩ := h.ex
    rfl
  obtain ⟨p, dx, rfl, hp, q⟩ := h.ex
  refine ⟨_, (pss_cons (ps_fldK K (pv 0) (pe_lst pa_nil))
    (pss_cons (ps_fldK K (pv 0) pe_int)
    (pss_one (ps_fldK K (pv 0) pe_dnewK)))), ?_⟩
  refine ⟨(by show 0 ≤ sizeLine; decide), fun l hl => ?_⟩
  have n1 : p ≠ l := ne_of_none hp hl
  refine ⟨_, rfl, p, T.bot, dx, _, rfl, by rw [upd_ne n1]; exact hp, X.cB, X.bst, by show 0 < 1000; decide, ?_⟩
  refine ⟨_, rfl, p, T.bot, dx, _, rfl, upd_same, X.cB, X.bpr, by show 1 < 1000; decide, ?_⟩
  intro d hd
  have n2 : d ≠ p := fun e => by rw [e, upd_same] at hd; cases hd
  have n3 : d ≠ l := fun e => by rw [e, upd_ne (Ne.symm n1), upd_ne (Ne.symm n1), upd_same] at hd; cases hd
  have hd0 : H d = none := by rw [upd_ne n2, upd_ne n2, upd_ne n3] at hd; exact hd
  refine ⟨_, rfl, p, T.bot, dx, _, rfl, by rw [upd_ne (Ne.symm n2)]; exact upd_same, X.cB, X.bkn, by show 2 < 1000; decide, ?_⟩
  refine q l d _ hl hd0 (Ne.symm n3) (fun b o e hb => ?_) upd_same ?_ ?_
  · rw [upd_ne hb, upd_ne (ne_of_none e hd0), upd_ne hb, upd_ne hb, upd_ne (ne_of_none e hl)]; exact e
  · rw [upd_ne (Ne.symm n1), upd_ne (Ne.symm n3), upd_ne (Ne.symm n1), upd_ne (Ne.symm n1)]; exact upd_same
  · rw [upd_ne n2]; exact upd_same
abbrev sd_Part_init : Stmt := inClass (top 20) 0
abbrev N_Part_init : List Str := ["self", "name", "owner", "worth", "weight", "scale", "row"]
abbrev P_Part_init : List Str := ["self", "name", "owner", "worth", "weight", "scale", "row"]
theorem sc_Part_init : FnScope N_Part_init P_Part_init (defScope sd_Part_init) := ⟨rfl, rfl, rfl, by decide +kernel, rfl, by decide +kernel, by decide +kernel⟩
theorem ok_Part_init {T : TC} (F : AtC K mg "Part" T.part "Part.__init__" sd_Part_init f fd) (X : Txt K T) (m_list : mg "list" = none) : Cn P w K mg base 1 "Part" T.part P_Part_init (spPInit T K) := by
  refine F.ok sc_Part_init (fun vs H Q E h => ?_) (fun cdv A outer s H vs Q E hr h => ?_) (fun _ _ _ _ _ _ us hl => match us, hl with | [_, _, _, _, _, _, _], _ => rfl)
  · obtain ⟨p, dx, l, pt, rfl, _⟩ := h.ex
    rfl
  obtain ⟨p, dx, l, pt, rfl, hp, hl, q⟩ := h.ex
  refine ⟨_, (pss_cons (ps_fldK K (pv 0) (pv 1))
    (pss_cons (ps_fldK K (pv 0) (pv 2))
    (pss_cons (ps_fldK K (pv 0) (pv 3))
    (pss_cons (ps_fldK K (pv 0) (pv 4))
    (pss_cons (ps_fldK K (pv 0) (pv 5))
    (pss_one (ps_fldK K (pv 0) (pe_callTy (call_list_ofK K) (by rfl) m_list PyProof.Rows.boot_list (pa_cons (pv 6) pa_nil))))))))), ?_⟩
  refine ⟨_, rfl, _, rfl, p, T.part, dx, _, rfl, hp, X.cP, X.pnm, by show 0 < 1000; decide, ?_⟩
  refine ⟨_, rfl, _, rfl, p, T.part, dx, _, rfl, upd_same, X.cP, X.pow, by show 1 < 1000; decide, ?_⟩
  refine ⟨_, rfl, _, rfl, p, T.part, dx, _, rfl, upd_same, X.cP, X.pwo, by show 2 < 1000; decide, ?_⟩
  refine ⟨_, rfl, _, rfl, p, T.part, dx, _, rfl, upd_same, X.cP, X.pwe, by show 3 < 1000; decide, ?_⟩
  refine ⟨_, rfl, _, rfl, p, T.part, dx, _, rfl, upd_same, X.cP, X.psc, by show 4 < 1000; decide, ?_⟩
  simp only [upd_upd]
  have hl1 : ∀ o, SqL K (upd H p o) l (pt.row.map V.int) := fun o => by
    rcases hl with (h | ⟨ob, h⟩) | h
    · exact .inl (.inl (by rw [upd_ne (ne_of h hp (by intro z; cases z))]; exact h))
    · exact .inl (.inr ⟨ob, by rw [upd_ne (ne_of h hp (by intro z; cases z))]; exact h⟩)
    · exact .inr h
  refine ⟨_, rfl, l, _, rfl, .inl (hl1 _), fun r hr2 => ?_⟩
  have n1 : r ≠ p := fun e => by rw [e, upd_same] at hr2; cases hr2
  refine ⟨_, rfl, p, T.part, dx, _, rfl, by rw [upd_ne (Ne.symm n1)]; exact upd_same, X.cP, X.pro, by show 5 < 1000; decide, ?_⟩
  have hr0 : H r = none := by rw [upd_ne n1] at hr2; exact hr2
  refine q r _ hr0 (fun b o e hb => ?_) upd_same ?_
  · rw [upd_ne hb, upd_ne (ne_of_none e hr0), upd_ne hb]; exact e
  · rw [upd_ne n1]; exact upd_same
abbrev sd_Hold_place_of : Stmt := inClass (top 21) 19
abbrev N_Hold_place_of : List Str := ["self", "owner"]
abbrev P_Hold_place_of : List Str := ["self", "owner"]
theorem sc_Hold_place_of : FnScope N_Hold_place_of P_Hold_place_of (defScope sd_Hold_place_of) := ⟨rfl, rfl, rfl, by decide +kernel, rfl, by decide +kernel, by decide +kernel⟩
theorem ok_Hold_place_of {T : TC} (F : AtM K T.hold "place_of" "Hold.place_of" sd_Hold_place_of f fd) (X : Txt K T) : Mn P w K mg base 1 T.hold "place_of" P_Hold_place_of (spPlace T) := by
  refine F.ok sc_Hold_place_of (fun vs H Q E h => ?_) (fun cdv A outer s H vs Q E hr h => ?_) (fun _ _ _ _ _ _ us hl => match us, hl with | [_, _], _ => rfl)
  · obtain ⟨n, ρ, A, st, o, rfl, _⟩ := h.ex
    rfl
  obtain ⟨n, ρ, A, st, o, rfl, h, ho, q⟩ := h.ex
  refine ⟨_, (pss_cons (ps_if (pt_cmp (pc_dnotin (hu_of hr) (pv 1) (pe_fldK K (pv 0)))) (pss_one ps_never) pss_nil)
    (pss_one (ps_ret (pe_dget (hu_of hr) (pe_fldK K (pv 0)) (pv 1) (fun _ _ => rfl))))), ?_⟩
  have hv := valV_pl (i := 0) ho
  refine ⟨_, rfl, _, rfl, A.a, T.hold, A.dx, _, _, rfl, h.oa, X.cH, X.hpl, rfl, A.pl, _, rfl, DGet.k (k := Sum.inr o) h.opl, _, rfl, ?_⟩
  rw [hv]
  refine iteF ?_
  refine ⟨_, rfl, A.a, T.hold, A.dx, _, _, rfl, h.oa, X.cH, X.hpl, rfl, _, rfl, A.pl, _, rfl, hv ▸ DGet.k (k := Sum.inr o) h.opl, ?_⟩
  rw [Nat.zero_add]
  exact q
abbrev sd_Hold_part_of : Stmt := inClass (top 21) 20
abbrev N_Hold_part_of : List Str := ["self", "name"]
abbrev P_Hold_part_of : List Str := ["self", "name"]
theorem sc_Hold_part_of : FnScope N_Hold_part_of P_Hold_part_of (defScope sd_Hold_part_of) := ⟨rfl, rfl, rfl, by decide +kernel, rfl, by decide +kernel, by decide +kernel⟩
theorem ok_Hold_part_of {T : TC} (F : AtM K T.hold "part_of" "Hold.part_of" sd_Hold_part_of f fd) (X : Txt K T) : Mn P w K mg base 1 T.hold "part_of" P_Hold_part_of (spPartOf T) := by
  refine F.ok sc_Hold_part_of (fun vs H Q E h => ?_) (fun cdv A outer s H vs Q E hr h => ?_) (fun _ _ _ _ _ _ us hl => match us, hl with | [_, _], _ => rfl)
  · obtain ⟨n, ρ, A, st, i, p, q, rfl, _⟩ := h.ex
    rfl
  obtain ⟨n, ρ, A, st, i, p, q, rfl, h, nd, ep, eq, k⟩ := h.ex
  refine ⟨_, (pss_cons (ps_if (pt_cmp (pc_dnotin (hu_of hr) (pv 1) (pe_fldK K (pv 0)))) (pss_one ps_never) pss_nil)
    (pss_one (ps_ret (pe_dget (hu_of hr) (pe_fldK K (pv 0)) (pv 1) (fun _ _ => rfl))))), ?_⟩
  have hv := valV_ab nd ep eq
  refine ⟨_, rfl, _, rfl, A.a, T.hold, A.dx, _, _, rfl, h.oa, X.cH, X.hab, rfl, A.ab, _, rfl, DGet.k (k := Sum.inr p.nm) h.oab, _, rfl, ?_⟩
  rw [hv]
  refine iteF ?_
  exact ⟨_, rfl, A.a, T.hold, A.dx, _, _, rfl, h.oa, X.cH, X.hab, rfl, _, rfl, A.ab, _, rfl, hv ▸ DGet.k (k := Sum.inr p.nm) h.oab, k⟩
abbrev sd_Hold_check_new : Stmt := inClass (top 21) 21
abbrev N_Hold_check_new : List Str := ["self", "name"]
abbrev P_Hold_check_new : List Str := ["self", "name"]
theorem sc_Hold_check_new : FnScope N_Hold_check_new P_Hold_check_new (defScope sd_Hold_check_new) := ⟨rfl, rfl, rfl, by decide +kernel, rfl, by decide +kernel, by decide +kernel⟩
theorem ok_Hold_check_new {T : TC} (F : AtM K T.hold "check_new" "Hold.check_new" sd_Hold_check_new f fd) (X : Txt K T) (D_is_name : Dn P w K mg base 2 "is_name" ["text"] spIsName) : Mn P w K mg base 3 T.hold "check_new" P_Hold_check_new (spCheckNew T) := by
  refine F.ok sc_Hold_check_new (fun vs H Q E h => ?_) (fun cdv A outer s H vs Q E hr h => ?_) (fun _ _ _ _ _ _ us hl => match us, hl with | [_, _], _ => rfl)
  · obtain ⟨n, ρ, A, st, x, rfl, _⟩ := h.ex
    rfl
  obtain ⟨n, ρ, A, st, x, rfl, h, hx, hn, q⟩ := h.ex
  refine ⟨_, (pss_cons (ps_if (pt_not (pt_val (pe_fn D_is_name hr (pa_cons (pv 1) pa_nil)))) (pss_one ps_never) pss_nil)
    (pss_one (ps_if (pt_cmp (pc_din (hu_of hr) (pv 1) (pe_fldK K (pv 0)))) (pss_one ps_never) pss_nil))), ?_⟩
  refine ⟨_, rfl, use_isname (cs := x.cps.toList) (isNm_len hx) fun H1 g1 => ⟨_, rfl, ?_⟩⟩
  rw [show isName x.cps.toList = true from hx]
  refine iteF ?_
  have h1 := h.mono g1
  refine ⟨_, rfl, _, rfl, A.a, T.hold, A.dx, _, _, rfl, h1.oa, X.cH, X.hnm, rfl, A.nm, _, rfl, DGet.k (k := Sum.inr x) h1.onm, _, rfl, ?_⟩
  rw [valV_nm_none hn]
  exact iteF (q H1 g1)
abbrev sd_Hold_parts : Stmt := inClass (top 21) 11
abbrev N_Hold_parts : List Str := ["self"]
abbrev P_Hold_parts : List Str := ["self"]
theorem sc_Hold_parts : FnScope N_Hold_parts P_Hold_parts (defScope sd_Hold_parts) := ⟨rfl, rfl, rfl, by decide +kernel, rfl, by decide +kernel, by decide +kernel⟩
theorem ok_Hold_parts {T : TC} (F : AtM K T.hold "parts" "Hold.parts" sd_Hold_parts f fd) (X : Txt K T) : Mn P w K mg base 1 T.hold "parts" P_Hold_parts (spParts T) := by
  refine F.ok sc_Hold_parts (fun vs H Q E h => ?_) (fun cdv A outer s H vs Q E hr h => ?_) (fun _ _ _ _ _ _ us hl => match us, hl with | [_], _ => rfl)
  · obtain ⟨n, ρ, A, st, rfl, _⟩ := h.ex
    rfl
  obtain ⟨n, ρ, A, st, rfl, h, hl, q⟩ := h.ex
  refine ⟨_, (pss_one (ps_ret (pe_frz (pe_comp ["part"] [none] rfl (pi_vals (pe_fldK K (pv 0))) (fun _ _ _ _ => (pg_name (i := 0) (show List.Nodup (["part"] : List Str) from by decide +kernel) rfl (Or.inl rfl))) (fun _ _ _ _ => (pe_tup (pa_cons (pe_fldK K (pv 0)) (pa_cons (pe_fldK K (pv 0)) (pa_cons (pe_fldK K (pv 0)) (pa_cons (pe_fldK K (pv 0)) pa_nil)))))) rfl (by rfl))))), ?_⟩
  refine ⟨A.ab, _, h.oab, fun o => ?_⟩
  refine ⟨_, rfl, A.a, T.hold, A.dx, _, _, rfl, frz_ne h.oab h.oa (fun k z => by cases z), X.cH, X.hab, rfl, A.ab, o, _, rfl, upd_same, fun acc hacc => ?_⟩
  have el := abK_len h.ql
  refine comp_1 (n := st.pts.length) 0 (fun i out H1 => Same (upd H A.ab (.frz o (.dK (abK st.pts A.qs)))) H1 ∧ PtsAt H1 out (st.pts.take i)) (by omega) ⟨same_new hacc _, .nil⟩ (fun i out H1 hi _ hp => ⟨hp.1 _ _ upd_same, by rw [el]; exact hi⟩) (fun out H1 _ hp => ⟨hp.1 _ _ upd_same, by rw [el]; exact Nat.le_refl _⟩) ?_ ?_
  · rintro i x out H1 H2 hi hol ha ⟨g, hP⟩ ⟨rfl, kv, hkv, rfl⟩
    have ep := List.getElem?_eq_getElem hi
    obtain ⟨qq, eq, h1, h2, _⟩ := h.find ep
    rw [abK_get ep eq] at hkv
    cases hkv
    have hq := g _ _ (frz_ne h.oab h1 (fun k z => by cases z))
    refine ⟨_, rfl, qq.1, T.part, qq.2.1, _, _, rfl, hq, X.cP, X.pnm, rfl, _, rfl, qq.1, T.part, qq.2.1, _, _, rfl, hq, X.cP, X.pow, rfl, _, rfl, qq.1, T.part, qq.2.1, _, _, rfl, hq, X.cP, X.pwo, rfl, _, rfl, qq.1, T.part, qq.2.1, _, _, rfl, hq, X.cP, X.pwe, rfl, (by show 4 ≤ sizeLine; decide), fun t ht => ?_⟩
    have g1 := same_new ht (partO st.pts[i])
    refine ⟨g1 _ _ ha, (g.trans g1).upd_new hacc _, ?_⟩
    rw [take_snoc ep]
    exact ((hP.mono g1.tups).snoc upd_same).mono (tup_upd (.inr ⟨_, g1 _ _ ha, rfl⟩))
  rintro out H1 hol ha ⟨g, hP⟩
  rw [List.take_length] at hP
  have hz := g _ _ (upd_same (H := H) (a := A.ab) (o := .frz o (.dK (abK st.pts A.qs))))
  have na : acc ≠ A.ab := fun e => by rw [e, hz] at ha; cases ha
  exact ⟨hz, q acc out _ (frz_back h.oab g) (frz_free h.oab hacc) (by rw [upd_ne na]; exact ha) (hP.mono (tup_upd (.inr ⟨_, hz, rfl⟩)))⟩
abbrev sd_Hold_whole : Stmt := inClass (top 21) 13
abbrev N_Hold_whole : List Str := ["self"]
abbrev P_Hold_whole : List Str := ["self"]
theorem sc_Hold_whole : FnScope N_Hold_whole P_Hold_whole (defScope sd_Hold_whole) := ⟨rfl, rfl, rfl, by decide +kernel, rfl, by decide +kernel, by decide +kernel⟩
theorem ok_Hold_whole {T : TC} (F : AtM K T.hold "whole" "Hold.whole" sd_Hold_whole f fd) (X : Txt K T) (m_sum : mg "sum" = none) : Mn P w K mg base 1 T.hold "whole" P_Hold_whole (spWhole T) := by
  refine F.ok sc_Hold_whole (fun vs H Q E h => ?_) (fun cdv A outer s H vs Q E hr h => ?_) (fun _ _ _ _ _ _ us hl => match us, hl with | [_], _ => rfl)
  · obtain ⟨n, ρ, A, st, rfl, _⟩ := h.ex
    rfl
  obtain ⟨n, ρ, A, st, rfl, h, hl, q⟩ := h.ex
  refine ⟨_, (pss_one (ps_ret (pe_callB (call_sumK K rfl) (by rfl) m_sum PyProof.Rows.boot_sum (pa_cons (pe_frz (pe_comp ["part"] [none] rfl (pi_vals (pe_fldK K (pv 0))) (fun _ _ _ _ => (pg_name (i := 0) (show List.Nodup (["part"] : List Str) from by decide +kernel) rfl (Or.inl rfl))) (fun _ _ _ _ => (pe_fldK K (pv 0))) rfl (by rfl))) pa_nil)))), ?_⟩
  refine ⟨A.ab, _, h.oab, fun o => ?_⟩
  refine ⟨_, rfl, A.a, T.hold, A.dx, _, _, rfl, frz_ne h.oab h.oa (fun k z => by cases z), X.cH, X.hab, rfl, A.ab, o, _, rfl, upd_same, fun acc hacc => ?_⟩
  have el := abK_len h.ql
  refine comp_1 (n := st.pts.length) 0 (fun i out H1 => Same (upd H A.ab (.frz o (.dK (abK st.pts A.qs)))) H1 ∧ out = ((st.pts.take i).map (·.wo)).map V.int) (by omega) ⟨same_new hacc _, rfl⟩ (fun i out H1 hi _ hp => ⟨hp.1 _ _ upd_same, by rw [el]; exact hi⟩) (fun out H1 _ hp => ⟨hp.1 _ _ upd_same, by rw [el]; exact Nat.le_refl _⟩) ?_ ?_
  · rintro i x out H1 H2 hi hol ha ⟨g, e⟩ ⟨rfl, kv, hkv, rfl⟩
    have ep := List.getElem?_eq_getElem hi
    obtain ⟨qq, eq, h1, h2, _⟩ := h.find ep
    rw [abK_get ep eq] at hkv
    cases hkv
    have hq := g _ _ (frz_ne h.oab h1 (fun k z => by cases z))
    refine ⟨_, rfl, qq.1, T.part, qq.2.1, _, _, rfl, hq, X.cP, X.pwo, rfl, ha, g.upd_new hacc _, ?_⟩
    rw [take_snoc ep, e, List.map_append, List.map_append]
    rfl
  rintro out H1 hol ha ⟨g, e⟩
  rw [List.take_length] at e
  have hz := g _ _ (upd_same (H := H) (a := A.ab) (o := .frz o (.dK (abK st.pts A.qs))))
  have na : acc ≠ A.ab := fun e => by rw [e, hz] at ha; cases ha
  exact ⟨hz, acc, st.pts.map (fun p : Pt => p.wo), rfl, SqL.of (by rw [upd_ne na, ha, e]), q _ (frz_back h.oab g)⟩
abbrev sd_Hold_beyond_common : Stmt := inClass (top 21) 25
abbrev N_Hold_beyond_common : List Str := ["self", "tops"]
abbrev P_Hold_beyond_common : List Str := ["self", "tops"]
theorem sc_Hold_beyond_common : FnScope N_Hold_beyond_common P_Hold_beyond_common (defScope sd_Hold_beyond_common) := ⟨rfl, rfl, rfl, by decide +kernel, rfl, by decide +kernel, by decide +kernel⟩
theorem ok_Hold_beyond_common {T : TC} (F : AtM K T.hold "beyond_common" "Hold.beyond_common" sd_Hold_beyond_common f fd) (X : Txt K T) (m_zip : mg "zip" = none) : Mn P w K mg base 1 T.hold "beyond_common" P_Hold_beyond_common (spBey T K) := by
  refine F.ok sc_Hold_beyond_common (fun vs H Q E h => ?_) (fun cdv A outer s H vs Q E hr h => ?_) (fun _ _ _ _ _ _ us hl => match us, hl with | [_, _], _ => rfl)
  · obtain ⟨n, ρ, A, st, l, tops, rfl, _⟩ := h.ex
    rfl
  obtain ⟨n, ρ, A, st, l, tops, rfl, h, hS, htl, hle, q⟩ := h.ex
  refine ⟨_, (pss_one (ps_ret (pe_comp ["top", "common"] [none, none] rfl (pi_zipG K (by rfl) m_zip (pa_cons (pv 1) (pa_cons (pe_fldK K (pv 0)) pa_nil))) (fun _ _ _ _ => (pg_tupK K (n := 2) rfl (pgs_cons (pg_name (i := 0) (show List.Nodup (["top", "common"] : List Str) from by decide +kernel) rfl (Or.inl rfl)) (pgs_cons (pg_name (i := 1) (show List.Nodup (["top", "common"] : List Str) from by decide +kernel) rfl (Or.inl rfl)) pgs_nil)))) (fun _ _ _ _ => (pe_op op_sub (pv 0) (pv 1))) rfl (by rfl)))), ?_⟩
  refine ⟨_, rfl, _, rfl, A.a, T.hold, A.dx, _, _, rfl, h.oa, X.cH, X.hcm, rfl, _, _, _, _, _, _, rfl, .lst hS, .lst (SqL.of h.ocm), fun acc hacc => ?_⟩
  refine comp_T (K := K) (n := tops.length) [0, 1] (fun i out H1 => Same H H1 ∧ out = (List.zipWith (fun t c => t - c) (tops.take i) (st.com.take i)).map V.int) (by decide) (by omega) ⟨same_new hacc _, rfl⟩ (fun i out H1 hi _ hp => ⟨hp.1.seq hS, hp.1.seq (SqL.of h.ocm), by rw [List.length_map]; exact hi, by rw [List.length_map]; omega⟩)
    (fun out H1 _ hp => ⟨hp.1.seq hS, hp.1.seq (SqL.of h.ocm), .inl (by rw [List.length_map]; exact Nat.le_refl _)⟩) ?_ ?_
  · rintro i x out H1 H2 hi hol ha ⟨g, e⟩ ⟨p, x1, y1, hp, rfl, rfl, e1, e2⟩
    obtain ⟨t, rfl, et⟩ := ints_at e1
    obtain ⟨c, rfl, ec⟩ := ints_at e2
    have g1 := same_new hp (.tup [.int t, .int c])
    refine ⟨p, _, rfl, SqT.of upd_same, rfl, _, rfl, _, rfl, _, _, rfl, rfl, g1 _ _ ha, (g.trans g1).upd_new hacc _, ?_⟩
    rw [zipW_take _ et ec, e, List.map_append]
    rfl
  rintro out H1 hol ha ⟨g, e⟩
  rw [List.take_length, htl, List.take_length] at e
  exact q acc H1 g hacc (by rw [ha, e]; rfl)
abbrev sd_Hold_stow : Stmt := inClass (top 21) 22
abbrev N_Hold_stow : List Str := ["self", "part"]
abbrev P_Hold_stow : List Str := ["self", "part"]
theorem sc_Hold_stow : FnScope N_Hold_stow P_Hold_stow (defScope sd_Hold_stow) := ⟨rfl, rfl, rfl, by decide +kernel, rfl, by decide +kernel, by decide +kernel⟩
theorem ok_Hold_stow {T : TC} (F : AtM K T.hold "stow" "Hold.stow" sd_Hold_stow f fd) (X : Txt K T) : Mn P w K mg base 1 T.hold "stow" P_Hold_stow (spStow T) := by
  refine F.ok sc_Hold_stow (fun vs H Q E h => ?_) (fun cdv A outer s H vs Q E hr h => ?_) (fun _ _ _ _ _ _ us hl => match us, hl with | [_, _], _ => rfl)
  · obtain ⟨n, ρ, A, st, qq, p, rfl, _⟩ := h.ex
    rfl
  obtain ⟨n, ρ, A, st, qq, p, rfl, hh, h1, h2, c1, c2, hn, wf', q⟩ := h.ex
  have h := hh.h
  refine ⟨_, (pss_cons (ps_dput (hu_of hr) (pe_fldK K (pv 0)) (pe_fldK K (pv 1)) (pv 1) rfl)
    (pss_one (ps_dput (hu_of hr) (pe_fldK K (pv 0)) (pe_fldK K (pv 1)) pe_bl rfl))), ?_⟩
  have nop : ∀ x ∈ st.pts, x.nm ≠ p.nm := fun x hx e => hn (by rw [← e]; exact hh.wf.sub x hx)
  have lab : (abK st.pts A.qs).length < sizeLine := by rw [abK_len h.ql]; exact small1000 hh.wf.ptsL
  refine ⟨_, rfl, _, rfl, A.a, T.hold, A.dx, _, _, rfl, h.oa, X.cH, X.hab, rfl, _, rfl, qq.1, T.part, qq.2.1, _, _, rfl, h1, X.cP, X.pnm, rfl, A.ab, _, rfl, DPut.k (k := Sum.inr p.nm) h.oab lab, ?_⟩
  rw [putK_new _ (valV_ab_none nop), ← abK_snoc h.ql p qq]
  have k1 : qq.1 ≠ qq.2.2 := ne_of h1 h2 (by intro z; cases z)
  have f1 : Kp n ρ (updC (updC ρ qq.1 (n, 20, p.nm)) qq.2.2 (n, 21, p.nm)) H H (fun _ => true) := ⟨fun _ _ e => e, fun b t x o _ c e => ⟨e, by
    rw [updC_ne (fun z => by rw [z, c2] at c; cases c), updC_ne (fun z => by rw [z, c1] at c; cases c)]; exact c⟩⟩
  have hc := h.same f1
  have g1 : Gh (updC (updC ρ qq.1 (n, 20, p.nm)) qq.2.2 (n, 21, p.nm)) H := (hh.g.color h1 rfl).color h2 rfl
  have fr1 : FrX n qq.1 qq.2.2 ρ H (updC (updC ρ qq.1 (n, 20, p.nm)) qq.2.2 (n, 21, p.nm)) H := fun b o e k n1 n2 => ⟨e, by rw [updC_ne n2, updC_ne n1]⟩
  have hs := hc.set_ab g1 (st.pts ++ [p]) (A.qs ++ [qq]) (by rw [List.length_append, List.length_append, h.ql]; rfl) (fun i x y ex ey => by
    by_cases hi : i < st.pts.length
    · rw [List.getElem?_append_left hi] at ex
      rw [List.getElem?_append_left (by rw [h.ql]; exact hi)] at ey
      exact hc.opt i x y ex ey
    · rw [List.getElem?_append_right (by omega)] at ex
      rw [List.getElem?_append_right (by rw [h.ql]; omega), h.ql] at ey
      have e0 : i - st.pts.length = 0 := by
        rcases Nat.eq_zero_or_pos (i - st.pts.length) with z | z
        · exact z
        · rw [List.getElem?_eq_none (by show 1 ≤ _; exact z)] at ex; cases ex
      rw [e0] at ex ey
      cases ex; cases ey
      exact ⟨h1, h2, by rw [updC_ne k1]; exact updC_same, updC_same⟩)
  have g2 := g1.wr (a := A.ab) (o := .dK (abK (st.pts ++ [p]) (A.qs ++ [qq]))) rfl
  have fr2 : Fr n _ H _ (upd H A.ab (.dK (abK (st.pts ++ [p]) (A.qs ++ [qq])))) := Fr.write hc.cab
  have h1' : upd H A.ab (.dK (abK (st.pts ++ [p]) (A.qs ++ [qq]))) qq.1 = some (.ins T.part qq.2.1 (fldP p qq.2.2)) := by rw [upd_ne (ne_of h1 h.oab (by intro z; cases z))]; exact h1
  refine ⟨_, rfl, A.a, T.hold, A.dx, _, _, rfl, hs.oa, X.cH, X.hnm, rfl, _, rfl, qq.1, T.part, qq.2.1, _, _, rfl, h1', X.cP, X.pnm, rfl, A.nm, _, rfl, DPut.k (k := Sum.inr p.nm) hs.onm (by unfold nmK; rw [List.length_map]; exact small1000 hh.wf.nmsL), ?_⟩
  rw [putK_new _ (valV_nm_none hn), show nmK st.nms ++ [(Sum.inr p.nm, V.bl true)] = nmK (st.nms ++ [p.nm]) from by unfold nmK; rw [List.map_append]; rfl]
  have hs2 := hs.set_nm g2 (st.nms ++ [p.nm])
  exact q _ _ _ ⟨g2.wr rfl, hs2, wf'⟩ rfl (fr1.trans (fr2.trans (Fr.write hs.cnm)))
abbrev sd_Hold_sign : Stmt := inClass (top 21) 1
abbrev N_Hold_sign : List Str := ["self", "owner", "part"]
abbrev P_Hold_sign : List Str := ["self", "owner"]
theorem sc_Hold_sign : FnScope N_Hold_sign P_Hold_sign (defScope sd_Hold_sign) := ⟨rfl, rfl, rfl, by decide +kernel, rfl, by decide +kernel, by decide +kernel⟩
theorem ok_Hold_sign {T : TC} (F : AtM K T.hold "sign" "Hold.sign" sd_Hold_sign f fd) (X : Txt K T) (D_is_name : Dn P w K mg base 2 "is_name" ["text"] spIsName) (m_len : mg "len" = none) : Mn P w K mg base 3 T.hold "sign" P_Hold_sign (spHSign T) := by
  refine F.ok sc_Hold_sign (fun vs H Q E h => ?_) (fun cdv A outer s H vs Q E hr h => ?_) (fun _ _ _ _ _ _ us hl => match us, hl with | [_, _], _ => rfl)
  · obtain ⟨n, ρ, A, st, o, rfl, _⟩ := h.ex
    rfl
  obtain ⟨n, ρ, A, st, o, rfl, hh, hx, hn, hl, q⟩ := h.ex
  refine ⟨_, (pss_cons (ps_if (pt_not (pt_val (pe_fn D_is_name hr (pa_cons (pv 1) pa_nil)))) (pss_one ps_never) pss_nil)
    (pss_cons (ps_if (pt_cmp (pc_din (hu_of hr) (pv 1) (pe_fldK K (pv 0)))) (pss_one ps_never) pss_nil)
    (pss_cons (ps_dput (hu_of hr) (pe_fldK K (pv 0)) (pv 1) (pe_callB call_lenD (by rfl) m_len PySem.boot_len (pa_cons (pe_fldK K (pv 0)) pa_nil)) rfl)
    (pss_cons (ps_expr (pe_bm PySem.F.plainAttrs_list PySem.F.slot_list_append PySem.F.type_list_append mt_append (pe_fldK K (pv 0)) (pa_cons pe_int pa_nil)))
    (pss_cons (ps_expr (pe_bm PySem.F.plainAttrs_list PySem.F.slot_list_append PySem.F.type_list_append mt_append (pe_fldK K (pv 0)) (pa_cons pe_int pa_nil)))
    (pss_one (ps_frz (ps_for PassesOwn.never rfl (pi_vals (pe_fldK K (pv 0))) (pg_name (i := 2) sc_Hold_sign.nd rfl (Or.inl rfl)) (pss_one (ps_expr (pe_bm PySem.F.plainAttrs_list PySem.F.slot_list_append PySem.F.type_list_append mt_append (pe_fldK K (pv 2)) (pa_cons pe_int pa_nil)))))))))))), ?_⟩
  refine ⟨_, rfl, use_isname (cs := o.cps.toList) (isNm_len hx) fun H1 g1 => ⟨_, rfl, ?_⟩⟩
  rw [show isName o.cps.toList = true from hx]
  refine iteF ?_
  have hh1 := hh.mono g1
  have h1 := hh1.h
  have F1 : Fr n ρ H ρ H1 := Fr.of_same g1
  refine ⟨_, rfl, _, rfl, A.a, T.hold, A.dx, _, _, rfl, h1.oa, X.cH, X.hpl, rfl, A.pl, _, rfl, DGet.k (k := Sum.inr o) h1.opl, _, rfl, ?_⟩
  rw [valV_pl_none hn]
  refine iteF ?_
  have lpl := plK_length st.own 0
  refine ⟨_, rfl, A.a, T.hold, A.dx, _, _, rfl, h1.oa, X.cH, X.hpl, rfl, A.pl, _, rfl, h1.opl, _, rfl, A.a, T.hold, A.dx, _, _, rfl, h1.oa, X.cH, X.hpl, rfl, _, rfl, A.pl, _, rfl, DPut.k (k := Sum.inr o) h1.opl (small1000 (by rw [lpl]; omega)), ?_⟩
  rw [putK_new _ (valV_pl_none hn), lpl, show plK 0 st.own ++ [(Sum.inr o, V.int (st.own.length : Int))] = plK 0 (st.own ++ [o]) from by rw [plK_snoc, Nat.zero_add]]
  have h2 := h1.set_pl hh1.g (st.own ++ [o])
  have G2 := hh1.g.wr (a := A.pl) (o := .dK (plK 0 (st.own ++ [o]))) rfl
  have F2 := F1.trans (Fr.write (o := .dK (plK 0 (st.own ++ [o]))) h1.cpl)
  generalize upd H1 A.pl (.dK (plK 0 (st.own ++ [o]))) = H2 at *
  have lcm : (st.com.map V.int).length < sizeLine := by rw [List.length_map, hh.wf.coml]; exact small1000 (by omega)
  refine ⟨_, rfl, A.a, T.hold, A.dx, _, _, rfl, h2.oa, X.cH, X.hcm, rfl, .inl ⟨rfl, _, SqL.of h2.ocm⟩, A.cm, _, _, rfl, rfl, h2.ocm, lcm, ?_⟩
  rw [show st.com.map V.int ++ [V.int 0] = (st.com ++ [0]).map V.int from by rw [List.map_append]; rfl]
  have h3 := h2.set_cm G2 (st.com ++ [0])
  have G3 := G2.wr (a := A.cm) (o := .lst ((st.com ++ [0]).map V.int)) rfl
  have F3 := F2.trans (Fr.write (o := .lst ((st.com ++ [0]).map V.int)) h2.ccm)
  generalize upd H2 A.cm (.lst ((st.com ++ [0]).map V.int)) = H3 at *
  have lpu : (st.pur.map V.int).length < sizeLine := by rw [List.length_map, hh.wf.purl]; exact small1000 (by omega)
  refine ⟨_, rfl, A.a, T.hold, A.dx, _, _, rfl, h3.oa, X.cH, X.hpu, rfl, .inl ⟨rfl, _, SqL.of h3.opu⟩, A.pu, _, _, rfl, rfl, h3.opu, lpu, ?_⟩
  rw [show st.pur.map V.int ++ [V.int 0] = (st.pur ++ [0]).map V.int from by rw [List.map_append]; rfl]
  have h4 := h3.set_pu G3 (st.pur ++ [0])
  have G4 := G3.wr (a := A.pu) (o := .lst ((st.pur ++ [0]).map V.int)) rfl
  have F4 := F3.trans (Fr.write (o := .lst ((st.pur ++ [0]).map V.int)) h3.cpu)
  generalize upd H3 A.pu (.lst ((st.pur ++ [0]).map V.int)) = H4 at *
  clear h1 h2 h3 G2 G3 F2 F3 hh1
  have hpl := hh.wf.ptsL
  refine ⟨A.ab, _, h4.oab, fun ob => ?_⟩
  refine ⟨_, rfl, A.a, T.hold, A.dx, _, _, rfl, frz_ne h4.oab h4.oa (fun k z => by cases z), X.cH, X.hab, rfl, A.ab, ob, _, rfl, upd_same, ?_⟩
  have el := abK_len h4.ql
  have el0 : (abK st.pts A.qs).length = st.pts.length := el
  refine for_walk (n := st.pts.length) (fun i σ H' => (∃ s2, σ = [some (.ref A.a), some (.str o), s2]) ∧ Frz H' A.ab ob (abK st.pts A.qs) ∧ ∃ H5, H' = upd H5 A.ab (.frz ob (.dK (abK st.pts A.qs))) ∧ Gh ρ H5 ∧ Fr n ρ H ρ H5 ∧
      HoldAt T n ρ A H5 { st with own := st.own ++ [o], com := st.com ++ [0], pur := st.pur ++ [0], pts := (st.pts.take i).map (fun p => { p with row := p.row ++ [0] }) ++ st.pts.drop i })
    ⟨⟨_, rfl⟩, upd_same, H4, rfl, G4, F4, h4⟩ (fun i σ H' hi hp => ⟨hp.2.1, by rw [el0]; exact hi⟩) (fun σ H' hp => ⟨hp.2.1, by rw [el0]; exact Nat.le_refl _⟩) ?_ ?_
  · rintro i x σ H' H'' hi ⟨⟨s2, rfl⟩, hz, H5, rfl, G5, F5, h5⟩ ⟨rfl, kv, hkv, rfl⟩
    have ep := List.getElem?_eq_getElem hi
    have ep5 := walk_get (fun p : Pt => { p with row := p.row ++ [0] }) ep
    obtain ⟨qq, eq, k1, k2, k3, k4⟩ := h5.find ep5
    rw [abK_get ep eq] at hkv
    cases hkv
    have nm5 := walk_map (fun p : Pt => { p with row := p.row ++ [0] }) (fun p : Pt => p.nm) (fun _ => rfl) st.pts i
    have nd5 : (((st.pts.take i).map (fun p : Pt => { p with row := p.row ++ [0] }) ++ st.pts.drop i).map (fun p : Pt => p.nm)).Nodup := by rw [nm5]; exact hh.wf.ptsN
    have z1 := frz_ne (o := ob) h5.oab k1 (fun k z => by cases z)
    have z2 := frz_ne (o := ob) h5.oab k2 (fun k z => by cases z)
    rw [show abK ({ st with own := st.own ++ [o], com := st.com ++ [0], pur := st.pur ++ [0], pts := (st.pts.take i).map (fun p : Pt => { p with row := p.row ++ [0] }) ++ st.pts.drop i } : HS).pts A.qs = abK st.pts A.qs from abK_names nm5] at z1 z2
    have hrl : ((st.pts[i]).row.map V.int).length < sizeLine := by rw [List.length_map, hh.wf.rows _ (List.getElem_mem hi)]; exact small1000 (by omega)
    refine ⟨_, rfl, qq.1, T.part, qq.2.1, _, _, rfl, z1, X.cP, X.pro, rfl, .inl ⟨rfl, _, SqL.of z2⟩, qq.2.2, _, _, rfl, rfl, z2, hrl, ?_⟩
    have na : A.ab ≠ qq.2.2 := (ne_of k2 h5.oab (by intro z; cases z)).symm
    rw [show (st.pts[i]).row.map V.int ++ [V.int 0] = ((st.pts[i]).row ++ [0]).map V.int from by rw [List.map_append]; rfl]
    have h6 := h5.set_row G5 ((st.pts[i]).row ++ [0]) ep5 eq nd5
    rw [show ({ st with own := st.own ++ [o], com := st.com ++ [0], pur := st.pur ++ [0], pts := (st.pts.take i).map (fun p : Pt => { p with row := p.row ++ [0] }) ++ st.pts.drop i } : HS).pts.set i { st.pts[i] with row := (st.pts[i]).row ++ [0] } = _ from walk_set (fun p : Pt => { p with row := p.row ++ [0] }) ep] at h6
    exact ⟨⟨_, rfl⟩, (upd_ne na).trans hz, _, upd_comm na, G5.wr rfl, F5.trans (Fr.write k4), h6⟩
  · rintro σ H' ⟨_, hz, H5, rfl, G5, F5, h5⟩
    have nm5 := walk_map (fun p : Pt => { p with row := p.row ++ [0] }) (fun p : Pt => p.nm) (fun _ => rfl) st.pts st.pts.length
    have e5 : abK ({ st with own := st.own ++ [o], com := st.com ++ [0], pur := st.pur ++ [0], pts := (st.pts.take st.pts.length).map (fun p : Pt => { p with row := p.row ++ [0] }) ++ st.pts.drop st.pts.length } : HS).pts A.qs = abK st.pts A.qs := abK_names nm5
    have h5' := h5.oab
    rw [e5] at h5'
    refine ⟨hz, ?_⟩
    rw [upd_upd, upd_self h5']
    have es : ({ st with own := st.own ++ [o], com := st.com ++ [0], pur := st.pur ++ [0], pts := (st.pts.take st.pts.length).map (fun p : Pt => { p with row := p.row ++ [0] }) ++ st.pts.drop st.pts.length } : HS) = signS st o := by
      unfold signS
      rw [List.take_length, List.drop_length, List.append_nil]
    rw [es] at h5
    exact q ρ A H5 ⟨G5, h5, wf_sign hh.wf hn hl⟩ rfl F5
abbrev sd_Hold_load : Stmt := inClass (top 21) 2
abbrev N_Hold_load : List Str := ["self", "part", "owner", "worth", "weight", "place", "tops"]
abbrev P_Hold_load : List Str := ["self", "part", "owner", "worth", "weight"]
theorem sc_Hold_load : FnScope N_Hold_load P_Hold_load (defScope sd_Hold_load) := ⟨rfl, rfl, rfl, by decide +kernel, rfl, by decide +kernel, by decide +kernel⟩
theorem ok_Hold_load {T : TC} (F : AtM K T.hold "load" "Hold.load" sd_Hold_load f fd) (X : Txt K T) (D_Hold_check_new : Mn P w K mg base 3 T.hold "check_new" ["self", "name"] (spCheckNew T)) (D_Hold_place_of : Mn P w K mg base 1 T.hold "place_of" ["self", "owner"] (spPlace T))
    (D_Hold_beyond_common : Mn P w K mg base 1 T.hold "beyond_common" ["self", "tops"] (spBey T K)) (D_Hold_stow : Mn P w K mg base 1 T.hold "stow" ["self", "part"] (spStow T)) (D_Part : Cn P w K mg base 1 "Part" T.part ["self", "name", "owner", "worth", "weight", "scale", "row"] (spPInit T K)) (m_len : mg "len" = none) : Mn P w K mg base 4 T.hold "load" P_Hold_load (spLoad T) := by
  refine F.ok sc_Hold_load (fun vs H Q E h => ?_) (fun cdv A outer s H vs Q E hr h => ?_) (fun _ _ _ _ _ _ us hl => match us, hl with | [_, _, _, _, _], _ => rfl)
  · obtain ⟨n, ρ, A, st, x, o, wo, we, rfl, _⟩ := h.ex
    rfl
  obtain ⟨n, ρ, A, st, x, o, wo, we, rfl, hh, hx, hn, ho, h4, h5, h6, h7, q⟩ := h.ex
  refine ⟨_, (pss_cons (ps_expr (pe_mth D_Hold_check_new hr (pv 0) (pa_cons (pv 1) pa_nil)))
    (pss_cons (ps_set (i := 5) sc_Hold_load.nd rfl (Or.inl rfl) (pe_mth D_Hold_place_of hr (pv 0) (pa_cons (pv 2) pa_nil)))
    (pss_cons (ps_if (pt_pure (PW.pt (pw_or (pt_cmpR op_lt (pv 3) pe_int (nomark _)) (pw_or1 (pt_cmpR op_lt (pv 4) pe_int (nomark _)))))) (pss_one ps_never) pss_nil)
    (pss_cons (ps_set (i := 6) sc_Hold_load.nd rfl (Or.inl rfl) (pe_op op_rep (pe_lst (pa_cons pe_int pa_nil)) (pe_callB call_lenD (by rfl) m_len PySem.boot_len (pa_cons (pe_fldK K (pv 0)) pa_nil))))
    (pss_cons (ps_asg (pe_fldK K (pe_fldK K (pv 0))) (pg_sub (pv 6) (pv 5) set_list))
    (pss_one (ps_expr (pe_mth D_Hold_stow hr (pv 0) (pa_cons (pe_mk D_Part hr (pa_cons (pv 1) (pa_cons (pv 2) (pa_cons (pv 3) (pa_cons (pv 4) (pa_cons pe_int (pa_cons (pe_mth D_Hold_beyond_common hr (pv 0) (pa_cons (pv 6) pa_nil)) pa_nil))))))) pa_nil))))))))), ?_⟩
  refine ⟨_, rfl, A.a, A.dx, _, rfl, hh.h.oa, rfl, _, rfl, ⟨⟨n, ρ, A, st, x, rfl, hh.h, hx, hn, fun H1 g1 => ?_⟩⟩⟩
  have hh1 := hh.mono g1
  have F1 : Fr n ρ H ρ H1 := Fr.of_same g1
  clear hh
  refine ⟨_, rfl, A.a, A.dx, _, rfl, hh1.h.oa, rfl, _, rfl, ⟨⟨n, ρ, A, st, o, rfl, hh1.h, ho, ?_⟩⟩⟩
  refine ⟨false, ⟨_, rfl, _, _, rfl, rfl, _, rfl, ite2 (fun c => absurd (of_decide_eq_true c) (by omega)) fun _ => ⟨_, rfl, _, _, rfl, rfl, _, rfl, decide_eq_false (by omega), rfl⟩⟩, iteF ?_⟩
  refine ⟨(by show 1 ≤ sizeLine; decide), fun p0 hp0 => ?_⟩
  have g2 := same_new hp0 (.lst [.int 0])
  have hh2 := hh1.mono g2
  have F2 := F1.trans (Fr.of_same (ρ := ρ) g2)
  have hp02 : upd H1 p0 (.lst [.int 0]) p0 = some (.lst [.int 0]) := upd_same
  generalize upd H1 p0 (.lst [.int 0]) = H2 at *
  clear hh1 F1
  have lpl := plK_length st.own 0
  have hol := hh2.wf.ownL
  refine ⟨_, rfl, A.a, T.hold, A.dx, _, _, rfl, hh2.h.oa, X.cH, X.hpl, rfl, A.pl, _, rfl, hh2.h.opl, p0, _, _, rfl, rfl, hp02, by omega, by rw [lpl]; omega, by rw [lpl]; show 1 * _ ≤ _; rw [Int.toNat_natCast, Nat.one_mul]; exact small (by omega), fun p1 hp1 => ?_⟩
  rw [lpl, Int.toNat_natCast, show (List.replicate st.own.length [V.int 0]).flatten = (List.replicate st.own.length (0 : Int)).map V.int from by rw [List.map_replicate, List.flatten_replicate_singleton]]
  have g3 := same_new hp1 (.lst ((List.replicate st.own.length (0 : Int)).map V.int))
  have hh3 := hh2.mono g3
  have F3 := F2.trans (Fr.of_same (ρ := ρ) g3)
  have n1 : H p1 = none := (g1.trans g2).free hp1
  have c1 : ρ p1 = none := hh2.g.none hp1
  have hp13 : upd H2 p1 (.lst ((List.replicate st.own.length (0 : Int)).map V.int)) p1 = _ := upd_same
  generalize upd H2 p1 (.lst ((List.replicate st.own.length (0 : Int)).map V.int)) = H3 at *
  have hi := List.idxOf_lt_length_iff.mpr ho
  refine ⟨_, rfl, A.a, T.hold, A.dx, _, _, rfl, hh3.h.oa, X.cH, X.hbt, rfl, A.bt, T.bot, A.db, _, _, rfl, hh3.h.obt, X.cB, X.bpr, rfl, _, rfl, _, rfl, p1, _, _, st.own.idxOf o, rfl, rfl, hp13, by rw [List.length_map, List.length_replicate]; exact ixN_nat hi, ?_⟩
  rw [show ((List.replicate st.own.length (0 : Int)).map V.int).set (st.own.idxOf o) (V.int st.prod) = ((List.replicate st.own.length (0 : Int)).set (st.own.idxOf o) st.prod).map V.int from by rw [List.map_set]]
  have hh4 := hh3.wrOut (o := .lst (((List.replicate st.own.length (0 : Int)).set (st.own.idxOf o) st.prod).map V.int)) c1 hp13 rfl rfl
  have F4 := F3.new (o := .lst (((List.replicate st.own.length (0 : Int)).set (st.own.idxOf o) st.prod).map V.int)) n1
  have hp14 : upd H3 p1 (.lst (((List.replicate st.own.length (0 : Int)).set (st.own.idxOf o) st.prod).map V.int)) p1 = _ := upd_same
  have s4 : Same H (upd H3 p1 (.lst (((List.replicate st.own.length (0 : Int)).set (st.own.idxOf o) st.prod).map V.int))) := ((g1.trans g2).trans g3).upd_new n1 _
  generalize upd H3 p1 (.lst (((List.replicate st.own.length (0 : Int)).set (st.own.idxOf o) st.prod).map V.int)) = H4 at *
  clear hh2 hh3 F2 F3
  refine ⟨_, rfl, A.a, A.dx, _, rfl, hh4.h.oa, rfl, _, rfl, _, rfl, _, rfl, _, rfl, _, rfl, A.a, A.dx, _, rfl, hh4.h.oa, rfl, _, rfl, ⟨⟨n, ρ, A, st, p1, _, rfl, hh4.h, SqL.of hp14, by rw [List.length_set, List.length_replicate, hh4.wf.coml], by rw [List.length_set, List.length_replicate]; omega, fun r H5 g5 hr5 hr5' => ?_⟩⟩⟩
  intro y dy hy hdy hyd
  have hr6 : upd (upd H5 dy (.own y)) y (.ins T.part dy []) r = some (.lst ((beyS st ((List.replicate st.own.length 0).set (st.own.idxOf o) st.prod)).map V.int)) := by rw [upd_ne (ne_of_none hr5' hy), upd_ne (ne_of_none hr5' hdy)]; exact hr5'
  refine ⟨⟨y, dy, r, ⟨x, o, wo, we, 1, beyS st ((List.replicate st.own.length 0).set (st.own.idxOf o) st.prod)⟩, rfl, upd_same, SqL.of hr6, fun rr H6 hrr k6 hy6 hrr6 => ⟨rfl, ?_⟩⟩⟩
  have hrr5 : H5 rr = none := by
    have e1 : rr ≠ y := fun e => by rw [e, upd_same] at hrr; cases hrr
    have e2 : rr ≠ dy := fun e => by rw [e, upd_ne hyd, upd_same] at hrr; cases hrr
    rw [upd_ne e1, upd_ne e2] at hrr; exact hrr
  have g6 : Same H5 H6 := fun b u e => k6 b u (by rw [upd_ne (ne_of_none e hy), upd_ne (ne_of_none e hdy)]; exact e) (ne_of_none e hy)
  have hh5 := hh4.mono g5
  have hh6 := hh5.mono g6
  have F6 := F4.trans (Fr.of_same (ρ := ρ) (g5.trans g6))
  exact ⟨⟨n, ρ, A, st, (y, dy, rr), _, rfl, hh6, hy6, hrr6, hh5.g.none hy, hh5.g.none hrr5, hn, wf_load hh4.wf hn h6 h7 ho h4 h5, fun ρ' A' H' a1 a2 a3 => q ρ' A' H' a1 a2 (a3.fr F6 ((s4.trans g5).free hy) ((s4.trans g5).free hrr5))⟩⟩
abbrev sd_Hold_init : Stmt := inClass (top 21) 0
abbrev N_Hold_init : List Str := ["self"]
abbrev P_Hold_init : List Str := ["self"]
theorem sc_Hold_init : FnScope N_Hold_init P_Hold_init (defScope sd_Hold_init) := ⟨rfl, rfl, rfl, by decide +kernel, rfl, by decide +kernel, by decide +kernel⟩
theorem ok_Hold_init {T : TC} (F : AtC K mg "Hold" T.hold "Hold.__init__" sd_Hold_init f fd) (X : Txt K T) (D_Bottom : Cn P w K mg base 1 "Bottom" T.bot ["self"] (spBInit T)) : Cn P w K mg base 3 "Hold" T.hold P_Hold_init (spHInit T) := by
  refine F.ok sc_Hold_init (fun vs H Q E h => ?_) (fun cdv A outer s H vs Q E hr h => ?_) (fun _ _ _ _ _ _ us hl => match us, hl with | [_], _ => rfl)
  · obtain ⟨p, dx, ρ, n, rfl, _⟩ := h.ex
    rfl
  obtain ⟨p, dx, ρ, n, rfl, hp, g, hρ, q⟩ := h.ex
  refine ⟨_, (pss_cons (ps_fldK K (pv 0) pe_dnewK)
    (pss_cons (ps_fldK K (pv 0) pe_dnewK)
    (pss_cons (ps_fldK K (pv 0) (pe_lst pa_nil))
    (pss_cons (ps_fldK K (pv 0) pe_dnewK)
    (pss_cons (ps_fldK K (pv 0) (pe_mk0 D_Bottom hr))
    (pss_cons (ps_fldK K (pv 0) (pe_lst pa_nil))
    (pss_one (ps_fldK K (pv 0) (pe_lst pa_nil))))))))), ?_⟩
  have M0 : Mading p H ρ H ρ [] := ⟨(fun _ m => absurd m (by simp)), fun b o e _ => ⟨e, rfl⟩, g, _, hp⟩
  intro pl hpl
  have M1 := (M0.new (o := .dK []) (c := (n, 1, ⟨#[]⟩)) hpl rfl)
  refine ⟨_, rfl, p, T.hold, dx, _, rfl, by rw [upd_ne (ne_of_none hp hpl)]; exact hp, X.cH, X.hpl, by show 0 < 1000; decide, ?_⟩
  have M2 := M1.wr (u := .ins T.hold dx (putF "places" (.ref pl) [])) rfl
  have hp2 : upd (upd H pl (.dK [])) p (.ins T.hold dx (putF "places" (.ref pl) [])) p = _ := upd_same
  generalize upd (upd H pl (.dK [])) p (.ins T.hold dx (putF "places" (.ref pl) [])) = H2 at *
  clear M0 M1
  intro ab hab
  have M3 := (M2.new (o := .dK []) (c := (n, 2, ⟨#[]⟩)) hab rfl)
  refine ⟨_, rfl, p, T.hold, dx, _, rfl, by rw [upd_ne (ne_of_none hp2 hab)]; exact hp2, X.cH, X.hab, by show 1 < 1000; decide, ?_⟩
  have M4 := M3.wr (u := .ins T.hold dx (putF "aboard" (.ref ab) (putF "places" (.ref pl) []))) rfl
  have hp4 : upd (upd H2 ab (.dK [])) p (.ins T.hold dx (putF "aboard" (.ref ab) (putF "places" (.ref pl) []))) p = _ := upd_same
  generalize upd (upd H2 ab (.dK [])) p (.ins T.hold dx (putF "aboard" (.ref ab) (putF "places" (.ref pl) []))) = H4 at *
  clear M2 M3
  refine ⟨(by show 0 ≤ sizeLine; decide), fun as has => ?_⟩
  have M5 := (M4.new (o := .lst []) (c := (n, 3, ⟨#[]⟩)) has rfl)
  refine ⟨_, rfl, p, T.hold, dx, _, rfl, by rw [upd_ne (ne_of_none hp4 has)]; exact hp4, X.cH, X.has, by show 2 < 1000; decide, ?_⟩
  have M6 := M5.wr (u := .ins T.hold dx (putF "ashore" (.ref as) (putF "aboard" (.ref ab) (putF "places" (.ref pl) [])))) rfl
  have hp6 : upd (upd H4 as (.lst [])) p (.ins T.hold dx (putF "ashore" (.ref as) (putF "aboard" (.ref ab) (putF "places" (.ref pl) [])))) p = _ := upd_same
  generalize upd (upd H4 as (.lst [])) p (.ins T.hold dx (putF "ashore" (.ref as) (putF "aboard" (.ref ab) (putF "places" (.ref pl) [])))) = H6 at *
  clear M4 M5
  intro nm hnm
  have M7 := (M6.new (o := .dK []) (c := (n, 4, ⟨#[]⟩)) hnm rfl)
  refine ⟨_, rfl, p, T.hold, dx, _, rfl, by rw [upd_ne (ne_of_none hp6 hnm)]; exact hp6, X.cH, X.hnm, by show 3 < 1000; decide, ?_⟩
  have M8 := M7.wr (u := .ins T.hold dx (putF "names" (.ref nm) (putF "ashore" (.ref as) (putF "aboard" (.ref ab) (putF "places" (.ref pl) []))))) rfl
  have hp8 : upd (upd H6 nm (.dK [])) p (.ins T.hold dx (putF "names" (.ref nm) (putF "ashore" (.ref as) (putF "aboard" (.ref ab) (putF "places" (.ref pl) []))))) p = _ := upd_same
  generalize upd (upd H6 nm (.dK [])) p (.ins T.hold dx (putF "names" (.ref nm) (putF "ashore" (.ref as) (putF "aboard" (.ref ab) (putF "places" (.ref pl) []))))) = H8 at *
  clear M6 M7
  intro bt db hbt hdb hne
  refine ⟨⟨bt, db, rfl, upd_same, fun sp kn H9 hsp hkn hsk k9 hb9 hs9 hk9 => ⟨rfl, ?_⟩⟩⟩
  have s9 : Same H8 H9 := fun b o e => k9 b o (by rw [upd_ne (ne_of_none e hbt), upd_ne (ne_of_none e hdb)]; exact e) (ne_of_none e hbt)
  have fr : ∀ {c : Addr}, upd (upd H8 db (.own bt)) bt (.ins T.bot db []) c = none → H8 c = none := fun {c} e => by
    have e1 : c ≠ bt := fun z => by rw [z, upd_same] at e; cases e
    have e2 : c ≠ db := fun z => by rw [z, upd_ne hne, upd_same] at e; cases e
    rw [upd_ne e1, upd_ne e2] at e; exact e
  have hsp8 := fr hsp
  have hkn8 := fr hkn
  have M9 := M8.same s9
  have M10 := M9.add (c := (n, 5, ⟨#[]⟩)) hb9 rfl M8 hbt (fun e he => ne_of_none (M8.m e he).1 hbt)
  have M11 := M10.add (c := (n, 8, ⟨#[]⟩)) hs9 rfl M8 hsp8 (fun e he => by
    rcases List.mem_cons.mp he with rfl | he
    · exact ne_of hb9 hs9 (by intro z; cases z)
    · exact ne_of_none (M8.m e he).1 hsp8)
  have M12 := M11.add (c := (n, 9, ⟨#[]⟩)) hk9 rfl M8 hkn8 (fun e he => by
    rcases List.mem_cons.mp he with rfl | he
    · exact ne_of hs9 hk9 (by intro z; cases z)
    rcases List.mem_cons.mp he with rfl | he
    · exact ne_of hb9 hk9 (by intro z; cases z)
    · exact ne_of_none (M8.m e he).1 hkn8)
  have hp9 := s9 _ _ hp8
  refine ⟨_, rfl, p, T.hold, dx, _, rfl, hp9, X.cH, X.hbt, by show 4 < 1000; decide, ?_⟩
  have M13 := M12.wr (u := .ins T.hold dx (putF "bottom" (.ref bt) (putF "names" (.ref nm) (putF "ashore" (.ref as) (putF "aboard" (.ref ab) (putF "places" (.ref pl) [])))))) rfl
  have hp13 : upd H9 p (.ins T.hold dx (putF "bottom" (.ref bt) (putF "names" (.ref nm) (putF "ashore" (.ref as) (putF "aboard" (.ref ab) (putF "places" (.ref pl) [])))))) p = _ := upd_same
  generalize upd H9 p (.ins T.hold dx (putF "bottom" (.ref bt) (putF "names" (.ref nm) (putF "ashore" (.ref as) (putF "aboard" (.ref ab) (putF "places" (.ref pl) [])))))) = H13 at *
  clear M8 M9 M10 M11 M12
  refine ⟨(by show 0 ≤ sizeLine; decide), fun cm hcm => ?_⟩
  have M14 := (M13.new (o := .lst []) (c := (n, 6, ⟨#[]⟩)) hcm rfl)
  refine ⟨_, rfl, p, T.hold, dx, _, rfl, by rw [upd_ne (ne_of_none hp13 hcm)]; exact hp13, X.cH, X.hcm, by show 5 < 1000; decide, ?_⟩
  have M15 := M14.wr (u := .ins T.hold dx (putF "common" (.ref cm) (putF "bottom" (.ref bt) (putF "names" (.ref nm) (putF "ashore" (.ref as) (putF "aboard" (.ref ab) (putF "places" (.ref pl) []))))))) rfl
  have hp15 : upd (upd H13 cm (.lst [])) p (.ins T.hold dx (putF "common" (.ref cm) (putF "bottom" (.ref bt) (putF "names" (.ref nm) (putF "ashore" (.ref as) (putF "aboard" (.ref ab) (putF "places" (.ref pl) []))))))) p = _ := upd_same
  generalize upd (upd H13 cm (.lst [])) p (.ins T.hold dx (putF "common" (.ref cm) (putF "bottom" (.ref bt) (putF "names" (.ref nm) (putF "ashore" (.ref as) (putF "aboard" (.ref ab) (putF "places" (.ref pl) []))))))) = H15 at *
  clear M13 M14
  refine ⟨(by show 0 ≤ sizeLine; decide), fun pu hpu => ?_⟩
  have M16 := (M15.new (o := .lst []) (c := (n, 7, ⟨#[]⟩)) hpu rfl)
  refine ⟨_, rfl, p, T.hold, dx, _, rfl, by rw [upd_ne (ne_of_none hp15 hpu)]; exact hp15, X.cH, X.hpu, by show 6 < 1000; decide, ?_⟩
  have M17 := M16.wr (u := .ins T.hold dx (putF "purses" (.ref pu) (putF "common" (.ref cm) (putF "bottom" (.ref bt) (putF "names" (.ref nm) (putF "ashore" (.ref as) (putF "aboard" (.ref ab) (putF "places" (.ref pl) [])))))))) rfl
  have hp17 : upd (upd H15 pu (.lst [])) p (.ins T.hold dx (putF "purses" (.ref pu) (putF "common" (.ref cm) (putF "bottom" (.ref bt) (putF "names" (.ref nm) (putF "ashore" (.ref as) (putF "aboard" (.ref ab) (putF "places" (.ref pl) [])))))))) p = _ := upd_same
  generalize upd (upd H15 pu (.lst [])) p (.ins T.hold dx (putF "purses" (.ref pu) (putF "common" (.ref cm) (putF "bottom" (.ref bt) (putF "names" (.ref nm) (putF "ashore" (.ref as) (putF "aboard" (.ref ab) (putF "places" (.ref pl) [])))))))) = H17 at *
  clear M15 M16
  have m := M17.m
  have nop : ∀ {a : Addr} {o : HO} {c : Col} {ρ2 : Rho}, (H17 a = some o ∧ ρ2 a = some c ∧ a ≠ p) → H17 a = some o ∧ updC ρ2 p (n, 0, ⟨#[]⟩) a = some c := fun h => ⟨h.1, by rw [updC_ne h.2.2]; exact h.2.1⟩
  have a1 := nop (m _ (.head _))
  have a2 := nop (m _ (.tail _ (.head _)))
  have a3 := nop (m _ (.tail _ (.tail _ (.head _))))
  have a4 := nop (m _ (.tail _ (.tail _ (.tail _ (.head _)))))
  have a5 := nop (m _ (.tail _ (.tail _ (.tail _ (.tail _ (.head _))))))
  have a6 := nop (m _ (.tail _ (.tail _ (.tail _ (.tail _ (.tail _ (.head _)))))))
  have a7 := nop (m _ (.tail _ (.tail _ (.tail _ (.tail _ (.tail _ (.tail _ (.head _))))))))
  have a8 := nop (m _ (.tail _ (.tail _ (.tail _ (.tail _ (.tail _ (.tail _ (.tail _ (.head _)))))))))
  have a9 := nop (m _ (.tail _ (.tail _ (.tail _ (.tail _ (.tail _ (.tail _ (.tail _ (.tail _ (.head _))))))))))
  refine q (updC _ p (n, 0, ⟨#[]⟩)) ⟨p, dx, pl, ab, as, nm, bt, db, cm, pu, sp, kn, []⟩ H17 rfl ⟨M17.g.color hp17 rfl, ⟨hp17, updC_same, a9.1, a9.2, a8.1, a8.2, ⟨[], a7.1, .nil⟩, a7.2, a6.1, a6.2, a5.1, a5.2, a2.1, a2.2, a1.1, a1.2, a4.1, a4.2, ⟨[], a3.1, (fun x hx => absurd hx (by simp)), Nat.le_refl _, List.nodup_nil⟩, a3.2, rfl, fun i x y ex => by simp [hs0] at ex⟩, wf0⟩ (fun b o e hb => ?_)
  obtain ⟨x, y⟩ := M17.k b o e hb
  exact ⟨x, by rw [updC_ne hb]; exact y⟩
abbrev sd_check_amount : Stmt := top 23
abbrev N_check_amount : List Str := ["amount"]
abbrev P_check_amount : List Str := ["amount"]
theorem sc_check_amount : FnScope N_check_amount P_check_amount (defScope sd_check_amount) := ⟨rfl, rfl, rfl, by decide +kernel, rfl, by decide +kernel, by decide +kernel⟩
theorem ok_check_amount (F : At K mg "check_amount" sd_check_amount f fd) : Dn P w K mg base 1 "check_amount" P_check_amount spCkA := by
  refine F.ok sc_check_amount (fun vs H Q E h => ?_) (fun cdv A outer s H vs Q E hr h => ?_) (fun _ _ _ _ _ _ us hl => match us, hl with | [_], _ => rfl)
  · obtain ⟨a, rfl, _⟩ := h.ex
    rfl
  obtain ⟨a, rfl, h1, q⟩ := h.ex
  refine ⟨_, (pss_one (ps_if (pt_cmpR op_lt (pv 0) pe_int (nomark _)) (pss_one ps_never) pss_nil)), ?_⟩
  exact ⟨_, rfl, _, _, rfl, rfl, _, rfl, ite2 (fun c => absurd (of_decide_eq_true c) (by omega)) fun _ => q⟩
abbrev sd_check_loss : Stmt := top 24
abbrev N_check_loss : List Str := ["most", "amount"]
abbrev P_check_loss : List Str := ["most", "amount"]
theorem sc_check_loss : FnScope N_check_loss P_check_loss (defScope sd_check_loss) := ⟨rfl, rfl, rfl, by decide +kernel, rfl, by decide +kernel, by decide +kernel⟩
theorem ok_check_loss (F : At K mg "check_loss" sd_check_loss f fd) (D_check_amount : Dn P w K mg base 1 "check_amount" ["amount"] spCkA) : Dn P w K mg base 2 "check_loss" P_check_loss spCkL := by
  refine F.ok sc_check_loss (fun vs H Q E h => ?_) (fun cdv A outer s H vs Q E hr h => ?_) (fun _ _ _ _ _ _ us hl => match us, hl with | [_, _], _ => rfl)
  · obtain ⟨m, a, rfl, _⟩ := h.ex
    rfl
  obtain ⟨m, a, rfl, h1, h2, q⟩ := h.ex
  refine ⟨_, (pss_cons (ps_expr (pe_fn D_check_amount hr (pa_cons (pv 1) pa_nil)))
    (pss_one (ps_if (pt_cmpR op_gt (pv 1) (pv 0) (nomark _)) (pss_one ps_never) pss_nil))), ?_⟩
  exact ⟨_, rfl, ⟨⟨a, rfl, h1, _, rfl, _, rfl, _, _, rfl, rfl, _, rfl, ite2 (fun c => absurd (of_decide_eq_true c) (by omega)) fun _ => q⟩⟩⟩
abbrev sd_amounts_of : Stmt := top 22
abbrev N_amounts_of : List Str := ["rows", "amounts", "name", "amount"]
abbrev P_amounts_of : List Str := ["rows"]
theorem sc_amounts_of : FnScope N_amounts_of P_amounts_of (defScope sd_amounts_of) := ⟨rfl, rfl, rfl, by decide +kernel, rfl, by decide +kernel, by decide +kernel⟩
theorem ok_amounts_of (F : At K mg "amounts_of" sd_amounts_of f fd) (m_len : mg "len" = none) : Dn P w K mg base 1 "amounts_of" P_amounts_of (spAmts K) := by
  refine F.ok sc_amounts_of (fun vs H Q E h => ?_) (fun cdv A outer s H vs Q E hr h => ?_) (fun _ _ _ _ _ _ us hl => match us, hl with | [_], _ => rfl)
  · obtain ⟨l, us, rs, rfl, _⟩ := h.ex
    rfl
  obtain ⟨l, us, rs, rfl, hl, hR, nd, hne, hle, q⟩ := h.ex
  refine ⟨_, (pss_cons (ps_set (i := 1) sc_amounts_of.nd rfl (Or.inl rfl) pe_dnewK)
    (pss_cons (ps_for PassesOwn.never rfl (pi_listK K (pv 0)) (pg_tupK K (n := 2) rfl (pgs_cons (pg_name (i := 2) sc_amounts_of.nd rfl (Or.inl rfl)) (pgs_cons (pg_name (i := 3) sc_amounts_of.nd rfl (Or.inl rfl)) pgs_nil))) (pss_cons (ps_if (pt_cmp (pc_din (hu_of hr) (pv 2) (pv 1))) (pss_one ps_never) pss_nil)
    (pss_one (ps_dput (hu_of hr) (pv 1) (pv 2) (pv 3) rfl))))
    (pss_cons (ps_if (pt_cmpR op_eq (pe_callB call_lenD (by rfl) m_len PySem.boot_len (pa_cons (pv 1) pa_nil)) pe_int (nomark _)) (pss_one ps_never) pss_nil)
    (pss_one (ps_ret (pv 1)))))), ?_⟩
  intro d hd
  have g0 := same_new hd (.dK [])
  have hd0 : upd H d (.dK []) d = some (.dK (amtK (rs.take 0))) := upd_same
  generalize upd H d (.dK []) = H0 at *
  have hul := hR.length
  refine ⟨_, rfl, l, rfl, ⟨us, g0.seq hl⟩, ?_⟩
  refine for_list (K := K) (xs := us) (fun i σ H' => Same H H' ∧ H' d = some (.dK (amtK (rs.take i))) ∧ ∃ s2 s3, σ = [some (.ref l), some (.ref d), s2, s3]) ⟨g0, hd0, _, _, rfl⟩ (fun i σ H' _ hp => hp.1.seq hl) ?_ ?_
  · rintro i x σ H' hx ⟨g, hd', s2, s3, rfl⟩
    obtain ⟨a, r, rfl, er, ha⟩ := hR.get hx
    have hnot : r.1 ∉ (rs.take i).map (·.1) := by
      rw [List.map_take]
      exact nodup_take_not nd (by rw [List.getElem?_map, er]; rfl)
    have hlt : (amtK (rs.take i)).length < sizeLine := by rw [amtK_len, List.length_take]; exact small1000 (by omega)
    refine ⟨a, _, rfl, SqT.of (g _ _ ha), rfl, _, _, rfl, _, _, rfl, rfl, ?_⟩
    refine ⟨_, rfl, _, rfl, d, _, rfl, DGet.k (k := Sum.inr r.1) hd', _, rfl, ?_⟩
    rw [amtK_none hnot]
    refine iteF ?_
    refine ⟨_, rfl, _, rfl, _, rfl, d, _, rfl, DPut.k (k := Sum.inr r.1) hd' hlt, g.upd_new hd _, ?_, _, _, rfl⟩
    rw [upd_same, putK_new _ (amtK_none hnot), take_snoc er]
    unfold amtK
    rw [List.map_append]
    rfl
  rintro σ H' ⟨g, hd', s2, s3, rfl⟩
  rw [hul, List.take_length] at hd'
  refine ⟨_, rfl, d, _, rfl, hd', rfl, _, rfl, ?_⟩
  rw [amtK_len]
  have hpos : 0 < rs.length := List.length_pos_iff.mpr hne
  rw [decide_eq_false (fun e => by have := V.int.inj e; omega)]
  exact iteF ⟨_, rfl, q d H' g hd hd'⟩
abbrev sd_factor_of_all : Stmt := top 5
abbrev N_factor_of_all : List Str := ["step", "tops", "top"]
abbrev P_factor_of_all : List Str := ["step", "tops"]
theorem sc_factor_of_all : FnScope N_factor_of_all P_factor_of_all (defScope sd_factor_of_all) := ⟨rfl, rfl, rfl, by decide +kernel, rfl, by decide +kernel, by decide +kernel⟩
theorem ok_factor_of_all (F : At K mg "factor_of_all" sd_factor_of_all f fd) (D_common_factor : Dn P w K mg base 1 "common_factor" ["one", "other"] spCf) : Dn P w K mg base 2 "factor_of_all" P_factor_of_all (spFact K) := by
  refine F.ok sc_factor_of_all (fun vs H Q E h => ?_) (fun cdv A outer s H vs Q E hr h => ?_) (fun _ _ _ _ _ _ us hl => match us, hl with | [_, _], _ => rfl)
  · obtain ⟨s, l, ts, rfl, _⟩ := h.ex
    rfl
  obtain ⟨s, l, ts, rfl, hl, h0, h1, q⟩ := h.ex
  refine ⟨_, (pss_cons (ps_for PassesOwn.never rfl (pi_listK K (pv 1)) (pg_name (i := 2) sc_factor_of_all.nd rfl (Or.inl rfl)) (pss_one (ps_set (i := 0) sc_factor_of_all.nd rfl (Or.inl rfl) (pe_fn D_common_factor hr (pa_cons (pv 2) (pa_cons (pv 0) pa_nil))))))
    (pss_one (ps_ret (pv 0)))), ?_⟩
  refine ⟨_, rfl, l, rfl, ⟨_, hl⟩, ?_⟩
  refine for_list (K := K) (xs := ts.map V.int) (fun i σ H' => H' = H ∧ 0 ≤ factS s (ts.take i) ∧ ∃ s2, σ = [some (.int (factS s (ts.take i))), some (.ref l), s2]) ⟨rfl, h0, _, rfl⟩ (fun i σ H' _ hp => by rw [hp.1]; exact hl) ?_ ?_
  · rintro i x σ H' hx ⟨rfl, hf, s2, rfl⟩
    obtain ⟨t, rfl, et⟩ := ints_at hx
    have e1 : factS s (ts.take (i + 1)) = Jm.cf t (factS s (ts.take i)) := by
      unfold factS
      rw [take_snoc et, List.foldl_append]
      rfl
    refine ⟨_, rfl, _, rfl, t, _, rfl, h1 t (List.mem_of_getElem? et), hf, rfl, ?_, some (.int t), ?_⟩
    · rw [e1]; unfold Jm.cf; omega
    · rw [e1]; rfl
  rintro σ H' ⟨rfl, hf, s2, rfl⟩
  rw [List.length_map, List.take_length]
  exact ⟨_, rfl, q⟩
abbrev sd_Bottom_grow : Stmt := inClass (top 4) 1
abbrev N_Bottom_grow : List Str := ["self", "step"]
abbrev P_Bottom_grow : List Str := ["self", "step"]
theorem sc_Bottom_grow : FnScope N_Bottom_grow P_Bottom_grow (defScope sd_Bottom_grow) := ⟨rfl, rfl, rfl, by decide +kernel, rfl, by decide +kernel, by decide +kernel⟩
theorem ok_Bottom_grow {T : TC} (F : AtM K T.bot "grow" "Bottom.grow" sd_Bottom_grow f fd) (X : Txt K T) : Mn P w K mg base 1 T.bot "grow" P_Bottom_grow (spGrow T) := by
  refine F.ok sc_Bottom_grow (fun vs H Q E h => ?_) (fun cdv A outer s H vs Q E hr h => ?_) (fun _ _ _ _ _ _ us hl => match us, hl with | [_, _], _ => rfl)
  · obtain ⟨n, ρ, A, st, s, rfl, _⟩ := h.ex
    rfl
  obtain ⟨n, ρ, A, st, s, rfl, g, h, hl, z1, z2, q⟩ := h.ex
  refine ⟨_, (pss_one (ps_ifJ (pt_cmpR op_gt (pv 1) pe_int (nomark _)) (pss_cons (ps_expr (pe_bm PySem.F.plainAttrs_list PySem.F.slot_list_append PySem.F.type_list_append mt_append (pe_fldK K (pv 0)) (pa_cons (pv 1) pa_nil)))
    (pss_cons (ps_fldaugK K (pv 0) (pv 1) in_mulW)
    (pss_one (ps_fldK K (pv 0) pe_dnewK)))) pss_nil)), ?_⟩
  refine ⟨fun σ' H' => Q .non H', ⟨_, rfl, _, _, rfl, rfl, _, rfl, ite2 (fun c => ?_) (fun c => ?_)⟩, fun _ _ z => z⟩
  · have c' : 1 < s := of_decide_eq_true c
    refine ⟨_, rfl, A.bt, T.bot, A.db, _, _, rfl, h.obt, X.cB, X.bst, rfl, .inl ⟨rfl, _, SqL.of h.osp⟩, _, rfl, A.sp, _, _, rfl, rfl, h.osp, by rw [List.length_map]; exact small1000 hl, ?_⟩
    rw [show st.stp.map V.int ++ [V.int s] = (st.stp ++ [s]).map V.int from by rw [List.map_append]; rfl]
    have h1 := h.set_sp g (st.stp ++ [s])
    have g1 := g.wr (a := A.sp) (o := .lst ((st.stp ++ [s]).map V.int)) rfl
    have F1 : Fr n ρ H ρ (upd H A.sp (.lst ((st.stp ++ [s]).map V.int))) := Fr.write h.csp
    generalize upd H A.sp (.lst ((st.stp ++ [s]).map V.int)) = H1 at *
    refine ⟨_, rfl, A.bt, T.bot, A.db, _, _, rfl, h1.obt, X.cB, X.bpr, rfl, _, rfl, _, _, rfl, rfl, cmul_sz z1 z2, A.db, _, h1.obt, by show 3 < 1000; decide, ?_⟩
    intro kn hkn
    have nb : kn ≠ A.bt := fun e => by rw [e, upd_same] at hkn; cases hkn
    have hkn1 : H1 kn = none := by rw [upd_ne nb] at hkn; exact hkn
    have ckn : ρ kn = none := g1.none hkn1
    refine ⟨_, rfl, A.bt, T.bot, A.db, _, rfl, by rw [upd_ne (Ne.symm nb)]; exact upd_same, X.cB, X.bkn, by show 3 < 1000; decide, ?_⟩
    have eH : upd (upd (upd H1 A.bt (.ins T.bot A.db (putF "product" (.int (st.prod * s)) (fldB A.sp st.prod A.kn)))) kn (.dK [])) A.bt (.ins T.bot A.db (putF "known" (.ref kn) (putF "product" (.int (st.prod * s)) (fldB A.sp st.prod A.kn)))) = upd (upd H1 kn (.dK [])) A.bt (.ins T.bot A.db (fldB A.sp (st.prod * s) kn)) := by
      rw [upd_comm (Ne.symm nb), upd_upd]
      rfl
    have k2 : Kp n ρ (updC ρ kn (n, 9, ⟨#[]⟩)) H1 (upd H1 kn (.dK [])) (fun _ => true) := ⟨(same_new hkn1 _).tups, fun b t x o _ c e => ⟨same_new hkn1 _ _ _ e, by rw [updC_ne (ne_of_none e hkn1)]; exact c⟩⟩
    have h2 := h1.same k2
    have g2 : Gh (updC ρ kn (n, 9, ⟨#[]⟩)) (upd H1 kn (.dK [])) := (g1.alloc hkn1).color upd_same rfl
    have F2 : Fr n ρ H1 (updC ρ kn (n, 9, ⟨#[]⟩)) (upd H1 kn (.dK [])) := Fr.color hkn1 (same_new hkn1 _)
    have h3 := h2.set_bt g2 (st.prod * s) kn upd_same updC_same
    have es : growS st s = { { st with stp := st.stp ++ [s] } with prod := st.prod * s, kn := 0 } := by
      unfold growS
      rw [if_pos c']
    rw [es] at q
    show Q .non _
    refine (show _ = _ from eH) ▸ ?_
    exact q _ _ _ (g2.wr rfl) h3 rfl (F1.trans (F2.trans (Fr.write h2.cbt)))
  · have c' : ¬ 1 < s := of_decide_eq_false (Bool.eq_false_iff.mpr c)
    have es : growS st s = st := by unfold growS; rw [if_neg c']
    rw [es] at q
    exact q ρ A H g h rfl Fr.refl
abbrev sd_Hold_given_up : Stmt := inClass (top 21) 27
abbrev N_Hold_given_up : List Str := ["self", "amounts", "lost", "sums", "name", "amount", "part", "many"]
abbrev P_Hold_given_up : List Str := ["self", "amounts"]
theorem sc_Hold_given_up : FnScope N_Hold_given_up P_Hold_given_up (defScope sd_Hold_given_up) := ⟨rfl, rfl, rfl, by decide +kernel, rfl, by decide +kernel, by decide +kernel⟩
theorem ok_Hold_given_up {T : TC} (F : AtM K T.hold "given_up" "Hold.given_up" sd_Hold_given_up f fd) (X : Txt K T) (m_sum : mg "sum" = none) (m_zip : mg "zip" = none) : Mn P w K mg base 1 T.hold "given_up" P_Hold_given_up (spGiven T) := by
  refine F.ok sc_Hold_given_up (fun vs H Q E h => ?_) (fun cdv A outer s H vs Q E hr h => ?_) (fun _ _ _ _ _ _ us hl => match us, hl with | [_, _], _ => rfl)
  · obtain ⟨n, ρ, A, st, d, rs, rfl, _⟩ := h.ex
    rfl
  obtain ⟨n, ρ, A, st, d, rs, rfl, h, wf, hd, cd, hle, hrow, q⟩ := h.ex
  refine ⟨_, (pss_cons (ps_set (i := 2) sc_Hold_given_up.nd rfl (Or.inr rfl) (pe_callB (call_sumV rfl) (by rfl) m_sum PyProof.Rows.boot_sum (pa_cons (pe_vals (pv 1)) pa_nil)))
    (pss_cons (ps_setC (i := 3) ["common", "lost"] [none, some 2] sc_Hold_given_up.nd rfl rfl rfl (pi_listK K (pe_fldK K (pv 0))) (fun _ _ _ _ => (pg_name (i := 0) (show List.Nodup (["common", "lost"] : List Str) from by decide +kernel) rfl (Or.inl rfl))) (fun _ _ _ _ => (pe_op op_mulW (pv 1) (pv 0))) rfl (by rfl) (by rfl))
    (pss_cons (ps_frz (ps_for PassesOwn.never rfl (pi_items (pv 1)) (pg_tupK K (n := 2) rfl (pgs_cons (pg_name (i := 4) sc_Hold_given_up.nd rfl (Or.inl rfl)) (pgs_cons (pg_name (i := 5) sc_Hold_given_up.nd rfl (Or.inl rfl)) pgs_nil))) (pss_cons (ps_set (i := 6) sc_Hold_given_up.nd rfl (Or.inl rfl) (pe_dget (hu_of hr) (pe_fldK K (pv 0)) (pv 4) (fun _ _ => rfl)))
    (pss_cons (ps_set (i := 7) sc_Hold_given_up.nd rfl (Or.inr rfl) (pe_op op_mulW (pv 5) (pe_fldK K (pv 6))))
    (pss_one (ps_setC (i := 3) ["old", "own", "many"] [none, none, some 7] sc_Hold_given_up.nd rfl rfl rfl (pi_zipG K (by rfl) m_zip (pa_cons (pv 3) (pa_cons (pe_fldK K (pv 6)) pa_nil))) (fun _ _ _ _ => (pg_tupK K (n := 2) rfl (pgs_cons (pg_name (i := 0) (show List.Nodup (["old", "own", "many"] : List Str) from by decide +kernel) rfl (Or.inl rfl)) (pgs_cons (pg_name (i := 1) (show List.Nodup (["old", "own", "many"] : List Str) from by decide +kernel) rfl (Or.inl rfl)) pgs_nil)))) (fun _ _ _ _ => (pe_op op_add (pv 0) (pe_op op_mulW (pv 2) (pv 1)))) rfl (by rfl) (by rfl)))))))
    (pss_one (ps_ret (pv 3)))))), ?_⟩
  have hcl : st.com.length ≤ 100 := by rw [wf.coml]; exact wf.ownL
  have zl : Jm.Sz 1100 (lostS rs) := by
    have := Jm.sum_sz (n := 60) (ws := rs.map (·.2)) (fun m hm => by obtain ⟨r, hr, rfl⟩ := List.mem_map.mp hm; exact (hrow r hr).1)
    exact this.mono (by rw [List.length_map]; omega)
  have zc : ∀ c ∈ st.com, Jm.Sz 8000 c := fun c hc => Jm.Sz.of_abs (by have := wf.com0 c hc; have := wf.prod1; omega) (wf.com0 c hc).2 wf.big
  refine ⟨_, rfl, d, _, rfl, .inl hd, fun v hv => ⟨v, d, _, rs.map (·.2), rfl, upd_same, .inl (by rw [upd_ne (ne_of_none hd hv)]; exact hd), by unfold amtK; rw [List.map_map, List.map_map]; rfl, ?_⟩⟩
  have g1 := same_new hv (vview v d)
  have hd1 := g1 _ _ hd
  have h1 := h.mono g1
  generalize upd H v (vview v d) = H1 at *
  refine ⟨_, rfl, A.a, T.hold, A.dx, _, _, rfl, h1.oa, X.cH, X.hcm, rfl, A.cm, rfl, ⟨_, SqL.of h1.ocm⟩, fun l0 hl0 => ?_⟩
  refine comp_1 (J := Itl K A.cm) (n := (st.com.map V.int).length) 0 (fun i o H' => Same H1 H' ∧ o = ((st.com.take i).map fun c => lostS rs * c).map V.int) (by rw [List.length_map]; omega) ⟨same_new hl0 _, rfl⟩ (fun i o H' hi _ hp => ⟨_, _, SqL.of (hp.1 _ _ h1.ocm), List.getElem?_eq_getElem hi⟩) (fun o H' _ hp => ⟨_, SqL.of (hp.1 _ _ h1.ocm), Nat.le_refl _⟩) ?_ ?_
  · rintro i y o H2 H3 hi hol ha ⟨g, e⟩ ⟨rfl, hy⟩
    obtain ⟨c, rfl, ec⟩ := ints_at (hy _ (SqL.of (g _ _ h1.ocm)))
    refine ⟨_, rfl, _, rfl, _, _, rfl, rfl, cmul_sz zl (zc c (List.mem_of_getElem? ec)), ha, g.upd_new hl0 _, ?_⟩
    subst e
    rw [take_snoc ec, List.map_append, List.map_append]
    rfl
  rintro o H2 hol ha ⟨g2, e⟩
  rw [List.length_map, List.take_length] at e
  subst e
  have g12 := g1.trans g2
  have hd2 := g2 _ _ hd1
  have h2 := h1.mono g2
  have hn0 : H l0 = none := g1.free hl0
  refine ⟨d, _, hd2, fun ob => ⟨_, rfl, d, ob, _, rfl, upd_same, ?_⟩⟩
  have al := amtK_len rs
  refine for_walk (n := (amtK rs).length) (fun i σ H' => Same (upd H2 d (.frz ob (.dK (amtK rs)))) H' ∧ ∃ l s4 s5 s6 s7, σ = [some (.ref A.a), some (.ref d), some (.int (lostS rs)), some (.ref l), s4, s5, s6, s7] ∧ H l = none ∧ H' l = some (.lst (((rs.take i).foldl (giveStep st) (st.com.map fun c => lostS rs * c)).map V.int)) ∧ ((rs.take i).foldl (giveStep st) (st.com.map fun c => lostS rs * c)).length = st.com.length)
    ⟨Same.refl _, l0, _, _, _, _, rfl, hn0, frz_ne hd2 ha (fun k z => by cases z), by rw [List.take_zero, List.foldl_nil, List.length_map]⟩ (fun i σ H' hi hp => ⟨hp.1 _ _ upd_same, hi⟩) (fun σ H' hp => ⟨hp.1 _ _ upd_same, Nat.le_refl _⟩) ?_ ?_
  · rintro i x σ H3 H4 hi ⟨g, l, s4, s5, s6, s7, rfl, hln, hl, hsl⟩ ⟨pp, kv, hpp, hkv, rfl, rfl⟩
    unfold amtK at hkv
    rw [List.getElem?_map] at hkv
    obtain ⟨r, er, rfl⟩ := Option.map_eq_some_iff.mp hkv
    have hrm := List.mem_of_getElem? er
    obtain ⟨zr, p, hpm, enm⟩ := hrow r hrm
    obtain ⟨ip, hip, eip⟩ := List.getElem_of_mem hpm
    have ep : st.pts[ip]? = some p := by rw [List.getElem?_eq_getElem hip, eip]
    have epg : pget st r.1 = p := by rw [← enm]; exact pget_of wf.ptsN ep
    have g4 := same_new hpp (.tup [.str r.1, .int r.2])
    have gg := g.trans g4
    have h2z : ∀ {b : Addr} {u : HO}, H2 b = some u → (∀ k, u ≠ .dK k) → upd H3 pp (.tup [.str r.1, .int r.2]) b = some u := fun e k => gg _ _ (frz_ne hd2 e k)
    have nab : A.ab ≠ d := (col_ne_none cd h.cab).symm
    obtain ⟨qq, eq, k1, k2, _, _⟩ := h2.find ep
    have hab : upd H3 pp (.tup [.str r.1, .int r.2]) A.ab = some (.dK (abK st.pts A.qs)) := gg _ _ (by rw [upd_ne nab]; exact h2.oab)
    have hv := valV_ab wf.ptsN ep eq
    have hq1 := h2z k1 (fun k z => by cases z)
    have hq2 := h2z k2 (fun k z => by cases z)
    have hpt : upd H3 pp (.tup [.str r.1, .int r.2]) pp = some (.tup [.str r.1, .int r.2]) := upd_same
    have hl4 := g4 _ _ hl
    have hno : ∀ {b : Addr}, upd H3 pp (.tup [.str r.1, .int r.2]) b = none → H b = none := fun {b} e => by
      have e1 := frz_free hd2 (gg.free e)
      exact g12.free e1
    have ha4 : upd H3 pp (.tup [.str r.1, .int r.2]) A.a = some (.ins T.hold A.dx (fldH A)) := h2z h2.oa (fun k z => by cases z)
    show gTup K 2 _ _ _ (upd H3 pp (.tup [.str r.1, .int r.2])) _
    generalize upd H3 pp (.tup [.str r.1, .int r.2]) = H4 at *
    refine ⟨pp, _, rfl, SqT.of hpt, rfl, _, _, rfl, _, _, rfl, rfl, ?_⟩
    refine ⟨_, rfl, A.a, T.hold, A.dx, _, _, rfl, ha4, X.cH, X.hab, rfl, _, rfl, A.ab, _, rfl, by rw [← enm]; exact hv ▸ DGet.k (k := Sum.inr p.nm) hab, ?_⟩
    have zs : Jm.Sz 8000 p.sc := Jm.Sz.of_abs (by have := wf.sc0 p hpm; have := wf.prod1; omega) (wf.sc0 p hpm).2 wf.big
    refine ⟨_, rfl, _, rfl, qq.1, T.part, qq.2.1, _, _, rfl, hq1, X.cP, X.psc, rfl, _, _, rfl, rfl, cmul_sz zr zs, ?_⟩
    have erl : p.row.length = st.com.length := by rw [wf.rows p hpm, wf.coml]
    generalize eS : (rs.take i).foldl (giveStep st) (st.com.map fun c => lostS rs * c) = S at *
    refine ⟨_, rfl, _, rfl, qq.1, T.part, qq.2.1, _, _, rfl, hq1, X.cP, X.pro, rfl, _, _, _, _, _, _, rfl, .lst (SqL.of hl4), .lst (SqL.of hq2), fun acc hacc => ?_⟩
    refine comp_T (K := K) (n := S.length) [0, 1] (fun j out H5 => Same H4 H5 ∧ out = (List.zipWith (fun old own => old + (r.2 * p.sc) * own) (S.take j) (p.row.take j)).map V.int) (by decide) (by omega) ⟨same_new hacc _, rfl⟩ (fun j out H5 hj _ hp => ⟨SqL.of (hp.1 _ _ hl4), SqL.of (hp.1 _ _ hq2), by rw [List.length_map]; exact hj, by rw [List.length_map]; omega⟩)
      (fun out H5 _ hp => ⟨SqL.of (hp.1 _ _ hl4), SqL.of (hp.1 _ _ hq2), .inl (by rw [List.length_map]; exact Nat.le_refl _)⟩) ?_ ?_
    · rintro j x out H5 H6 hj hol2 ha2 ⟨g5, e5⟩ ⟨p2, x1, y1, hp2, rfl, rfl, e1, e2⟩
      obtain ⟨t, rfl, et⟩ := ints_at e1
      obtain ⟨c, rfl, ec⟩ := ints_at e2
      have g6 := same_new hp2 (.tup [.int t, .int c])
      have zw : Jm.Sz 8000 c := Jm.Sz.of_abs (wf.row0 p hpm c (List.mem_of_getElem? ec)).1 (wf.row0 p hpm c (List.mem_of_getElem? ec)).2 wf.big
      refine ⟨p2, _, rfl, SqT.of upd_same, rfl, _, rfl, _, rfl, _, rfl, _, _, rfl, rfl, cmul_sz (zr.mul zs) zw, _, _, rfl, rfl, g6 _ _ ha2, (g5.trans g6).upd_new hacc _, ?_⟩
      rw [zipW_take _ et ec, e5, List.map_append]
      rfl
    rintro out H5 hol2 ha2 ⟨g5, e5⟩
    rw [List.take_length, hsl, ← erl, List.take_length] at e5
    have eN : (rs.take (i + 1)).foldl (giveStep st) (st.com.map fun c => lostS rs * c) = List.zipWith (fun old own => old + (r.2 * p.sc) * own) S p.row := by
      rw [take_snoc er, List.foldl_append, eS]
      show giveStep st S r = _
      unfold giveStep
      rw [epg]
    refine ⟨gg.trans g5, acc, _, _, _, _, rfl, hno hacc, ?_, ?_⟩
    · rw [eN, ha2, e5]
    · rw [eN, List.length_zipWith]; omega
  rintro σ H3 ⟨g, l, s4, s5, s6, s7, rfl, hln, hl, hsl⟩
  rw [al, List.take_length] at hl
  refine ⟨g _ _ upd_same, _, rfl, ?_⟩
  have nl : l ≠ d := fun e => by rw [e, hd] at hln; cases hln
  exact q l _ (g12.trans (frz_back hd2 g)) hln (by rw [upd_ne nl]; exact hl)
abbrev sd_Hold_lessen : Stmt := inClass (top 21) 23
abbrev N_Hold_lessen : List Str := ["self", "name", "amount", "part"]
abbrev P_Hold_lessen : List Str := ["self", "name", "amount"]
theorem sc_Hold_lessen : FnScope N_Hold_lessen P_Hold_lessen (defScope sd_Hold_lessen) := ⟨rfl, rfl, rfl, by decide +kernel, rfl, by decide +kernel, by decide +kernel⟩
theorem ok_Hold_lessen {T : TC} (F : AtM K T.hold "lessen" "Hold.lessen" sd_Hold_lessen f fd) (X : Txt K T) : Mn P w K mg base 1 T.hold "lessen" P_Hold_lessen (spLess T) := by
  refine F.ok sc_Hold_lessen (fun vs H Q E h => ?_) (fun cdv A outer s H vs Q E hr h => ?_) (fun _ _ _ _ _ _ us hl => match us, hl with | [_, _, _], _ => rfl)
  · obtain ⟨n, ρ, A, st, r, rfl, _⟩ := h.ex
    rfl
  obtain ⟨n, ρ, A, st, r, rfl, hh, ⟨p, hpm, enm, hle⟩, wf', q⟩ := h.ex
  have h := hh.h
  have nd := hh.wf.ptsN
  refine ⟨_, (pss_cons (ps_set (i := 3) sc_Hold_lessen.nd rfl (Or.inl rfl) (pe_dget (hu_of hr) (pe_fldK K (pv 0)) (pv 1) (fun _ _ => rfl)))
    (pss_cons (ps_fldaugK K (pv 3) (pv 2) in_sub)
    (pss_one (ps_ifJ (pt_cmpR op_eq (pe_fldK K (pv 3)) pe_int (nomark _)) (pss_one (ps_ddel (pe_fldK K (pv 0)) (pv 1))) pss_nil)))), ?_⟩
  obtain ⟨ip, hip, eip⟩ := List.getElem_of_mem hpm
  have ep : st.pts[ip]? = some p := by rw [List.getElem?_eq_getElem hip, eip]
  obtain ⟨qq, eq, k1, k2, k3, k4⟩ := h.find ep
  have hv := valV_ab nd ep eq
  refine ⟨_, rfl, A.a, T.hold, A.dx, _, _, rfl, h.oa, X.cH, X.hab, rfl, _, rfl, A.ab, _, rfl, by rw [← enm]; exact hv ▸ DGet.k (k := Sum.inr p.nm) h.oab, ?_⟩
  refine ⟨_, rfl, qq.1, T.part, qq.2.1, _, _, rfl, k1, X.cP, X.pwo, rfl, _, rfl, _, _, rfl, rfl, qq.2.1, _, k1, by show 6 < 1000; decide, ?_⟩
  have h1 := h.set_pt (p1 := { p with wo := p.wo - r.2 }) hh.g ep eq rfl rfl nd
  have g1 := hh.g.wr (a := qq.1) (o := .ins T.part qq.2.1 (fldP { p with wo := p.wo - r.2 } qq.2.2)) rfl
  have F1 : Fr n ρ H ρ (upd H qq.1 (.ins T.part qq.2.1 (fldP { p with wo := p.wo - r.2 } qq.2.2))) := Fr.write k3
  show tIfJ _ _ _ _ _ (upd H qq.1 (.ins T.part qq.2.1 (fldP { p with wo := p.wo - r.2 } qq.2.2)))
  have k1' : upd H qq.1 (.ins T.part qq.2.1 (fldP { p with wo := p.wo - r.2 } qq.2.2)) qq.1 = some (.ins T.part qq.2.1 (fldP { p with wo := p.wo - r.2 } qq.2.2)) := upd_same
  generalize upd H qq.1 (.ins T.part qq.2.1 (fldP { p with wo := p.wo - r.2 } qq.2.2)) = H1 at *
  have el : lessS st r = { st with pts := if p.wo - r.2 = 0 then st.pts.eraseIdx ip else st.pts.set ip { p with wo := p.wo - r.2 } } := by
    unfold lessS
    rw [← enm, lessP_eq nd (fun x hx => by have := hh.wf.wo0 x hx; omega) ep]
  rw [el] at wf' q
  refine ⟨fun σ' H' => Q .non H', ?_, fun _ _ z => z⟩
  refine ⟨_, rfl, qq.1, T.part, qq.2.1, _, _, rfl, k1', X.cP, X.pwo, rfl, rfl, _, rfl, ite2 (fun c => ?_) (fun c => ?_)⟩
  · have c' : p.wo - r.2 = 0 := V.int.inj (of_decide_eq_true c)
    rw [if_pos c'] at wf' q
    have nd1 : ((st.pts.set ip { p with wo := p.wo - r.2 }).map (fun x : Pt => x.nm)).Nodup := by
      rw [List.map_set, show ({ p with wo := p.wo - r.2 } : Pt).nm = p.nm from rfl, set_same' (by rw [List.getElem?_map, ep]; rfl)]
      exact nd
    have ep1 : (st.pts.set ip { p with wo := p.wo - r.2 })[ip]? = some { p with wo := p.wo - r.2 } := List.getElem?_set_self hip
    have dk := dropK_ab nd1 h1.ql ep1
    rw [List.eraseIdx_set_eq] at dk
    have hv1 := valV_ab nd1 ep1 eq
    refine ⟨_, rfl, A.a, T.hold, A.dx, _, _, rfl, h1.oa, X.cH, X.hab, rfl, _, rfl, A.ab, _, Sum.inr r.1, rfl, h1.oab, rfl, ?_, ?_⟩
    · rw [← enm]
      show (valV (abK (st.pts.set ip { p with wo := p.wo - r.2 }) A.qs) (Sum.inr p.nm)).isSome = true
      rw [show valV (abK (st.pts.set ip { p with wo := p.wo - r.2 }) A.qs) (Sum.inr p.nm) = _ from hv1]
      rfl
    · show Q .non (upd H1 A.ab (.dK (dropK (abK (st.pts.set ip { p with wo := p.wo - r.2 }) A.qs) (Sum.inr r.1))))
      rw [← enm, show dropK (abK (st.pts.set ip { p with wo := p.wo - r.2 }) A.qs) (Sum.inr p.nm) = _ from dk]
      have hi2 : ip < A.qs.length := by rw [h.ql]; exact hip
      have h2 := h1.set_ab g1 (st.pts.eraseIdx ip) (A.qs.eraseIdx ip) (by rw [List.length_eraseIdx_of_lt hip, List.length_eraseIdx_of_lt hi2, h.ql]) (fun j x y ex ey => by
        rw [← List.eraseIdx_set_eq (l := st.pts) (i := ip) (a := { p with wo := p.wo - r.2 })] at ex
        obtain ⟨k, a1, a2⟩ := eraseIdx_get ex ey
        exact h1.opt k x y a1 a2)
      exact q ρ _ _ ⟨g1.wr rfl, h2, wf'⟩ rfl (F1.trans (Fr.write h1.cab))
  · have c' : ¬ p.wo - r.2 = 0 := fun e => c (decide_eq_true (by rw [e]))
    rw [if_neg c'] at wf' q
    exact q ρ A H1 ⟨g1, h1, wf'⟩ rfl F1
abbrev sd_Hold_blend : Stmt := inClass (top 21) 28
abbrev N_Hold_blend : List Str := ["self", "kept", "whole", "added", "scales", "common", "shared", "part", "scale"]
abbrev P_Hold_blend : List Str := ["self", "kept", "whole", "added"]
theorem sc_Hold_blend : FnScope N_Hold_blend P_Hold_blend (defScope sd_Hold_blend) := ⟨rfl, rfl, rfl, by decide +kernel, rfl, by decide +kernel, by decide +kernel⟩
theorem ok_Hold_blend {T : TC} (F : AtM K T.hold "blend" "Hold.blend" sd_Hold_blend f fd) (X : Txt K T) (D_factor_of_all : Dn P w K mg base 2 "factor_of_all" ["step", "tops"] (spFact K)) (D_Bottom_grow : Mn P w K mg base 1 T.bot "grow" ["self", "step"] (spGrow T)) (m_zip : mg "zip" = none) : Mn P w K mg base 3 T.hold "blend" P_Hold_blend (spBlend T K) := by
  refine F.ok sc_Hold_blend (fun vs H Q E h => ?_) (fun cdv A outer s H vs Q E hr h => ?_) (fun _ _ _ _ _ _ us hl => match us, hl with | [_, _, _, _], _ => rfl)
  · obtain ⟨n, ρ, A, st, kept, whole, l, added, rfl, _⟩ := h.ex
    rfl
  obtain ⟨n, ρ, A, st, kept, whole, la, added, rfl, hh, hla, hal, k0, w0, kz, wz, haz, hpz, hsl, wf', q⟩ := h.ex
  refine ⟨_, (pss_cons (ps_frz (ps_setC (i := 4) ["part", "kept"] [none, some 1] sc_Hold_blend.nd rfl rfl rfl (pi_vals (pe_fldK K (pv 0))) (fun _ _ _ _ => (pg_name (i := 0) (show List.Nodup (["part", "kept"] : List Str) from by decide +kernel) rfl (Or.inl rfl))) (fun _ _ _ _ => (pe_op op_mulW (pe_fldK K (pv 0)) (pv 1))) rfl (by rfl) (by rfl)))
    (pss_cons (ps_setC (i := 5) ["top", "more", "kept"] [none, none, some 1] sc_Hold_blend.nd rfl rfl rfl (pi_zipG K (by rfl) m_zip (pa_cons (pe_fldK K (pv 0)) (pa_cons (pv 3) pa_nil))) (fun _ _ _ _ => (pg_tupK K (n := 2) rfl (pgs_cons (pg_name (i := 0) (show List.Nodup (["top", "more", "kept"] : List Str) from by decide +kernel) rfl (Or.inl rfl)) (pgs_cons (pg_name (i := 1) (show List.Nodup (["top", "more", "kept"] : List Str) from by decide +kernel) rfl (Or.inl rfl)) pgs_nil)))) (fun _ _ _ _ => (pe_op op_add (pe_op op_mulW (pv 0) (pv 2)) (pv 1))) rfl (by rfl) (by rfl))
    (pss_cons (ps_set (i := 6) sc_Hold_blend.nd rfl (Or.inr rfl) (pe_fn D_factor_of_all hr (pa_cons (pv 2) (pa_cons (pe_op op_cat (pv 4) (pv 5)) pa_nil))))
    (pss_cons (ps_frz (ps_for PassesOwn.never rfl (pi_zipG K (by rfl) m_zip (pa_cons (pe_vals (pe_fldK K (pv 0))) (pa_cons (pv 4) pa_nil))) (pg_tupK K (n := 2) rfl (pgs_cons (pg_name (i := 7) sc_Hold_blend.nd rfl (Or.inl rfl)) (pgs_cons (pg_name (i := 8) sc_Hold_blend.nd rfl (Or.inl rfl)) pgs_nil))) (pss_one (ps_fldK K (pv 7) (pe_op op_fdivW (pv 8) (pv 6))))))
    (pss_cons (ps_fldK K (pv 0) (pe_comp ["top", "shared"] [none, some 6] rfl (pi_listK K (pv 5)) (fun _ _ _ _ => (pg_name (i := 0) (show List.Nodup (["top", "shared"] : List Str) from by decide +kernel) rfl (Or.inl rfl))) (fun _ _ _ _ => (pe_op op_fdivW (pv 0) (pv 1))) rfl (by rfl)))
    (pss_cons (ps_fldK K (pv 0) (pe_comp ["purse", "whole", "shared"] [none, some 2, some 6] rfl (pi_listK K (pe_fldK K (pv 0))) (fun _ _ _ _ => (pg_name (i := 0) (show List.Nodup (["purse", "whole", "shared"] : List Str) from by decide +kernel) rfl (Or.inl rfl))) (fun _ _ _ _ => (pe_op op_mulW (pv 0) (pe_op op_fdivW (pv 1) (pv 2)))) rfl (by rfl)))
    (pss_one (ps_expr (pe_mth D_Bottom_grow hr (pe_fldK K (pv 0)) (pa_cons (pe_op op_fdivW (pv 2) (pv 6)) pa_nil)))))))))), ?_⟩
  have hpl := hh.wf.ptsL
  have nd := hh.wf.ptsN
  have hcl : st.com.length ≤ 100 := by rw [hh.wf.coml]; exact hh.wf.ownL
  have zsc : ∀ p ∈ st.pts, Jm.Sz 8000 p.sc := fun p hp => Jm.Sz.of_abs (by have := hh.wf.sc0 p hp; have := hh.wf.prod1; omega) (hh.wf.sc0 p hp).2 hh.wf.big
  have zcm : ∀ c ∈ st.com, Jm.Sz 8000 c := fun c hc => Jm.Sz.of_abs (by have := hh.wf.com0 c hc; have := hh.wf.prod1; omega) (hh.wf.com0 c hc).2 hh.wf.big
  have h := hh.h
  refine ⟨A.ab, _, h.oab, fun ob => ?_⟩
  refine ⟨_, rfl, A.a, T.hold, A.dx, _, _, rfl, frz_ne h.oab h.oa (fun k z => by cases z), X.cH, X.hab, rfl, A.ab, ob, _, rfl, upd_same, fun l1 hl1 => ?_⟩
  have el := abK_len h.ql
  refine comp_1 (n := st.pts.length) 0 (fun i out H1 => Same (upd H A.ab (.frz ob (.dK (abK st.pts A.qs)))) H1 ∧ out = ((st.pts.take i).map fun p : Pt => p.sc * kept).map V.int) (by omega) ⟨same_new hl1 _, rfl⟩ (fun i out H1 hi _ hp => ⟨hp.1 _ _ upd_same, by rw [el]; exact hi⟩) (fun out H1 _ hp => ⟨hp.1 _ _ upd_same, by rw [el]; exact Nat.le_refl _⟩) ?_ ?_
  · rintro i x out H1 H2 hi hol ha ⟨g, e⟩ ⟨rfl, kv, hkv, rfl⟩
    have ep := List.getElem?_eq_getElem hi
    obtain ⟨qq, eq, k1, k2, _⟩ := h.find ep
    rw [abK_get ep eq] at hkv
    cases hkv
    have hq := g _ _ (frz_ne h.oab k1 (fun k z => by cases z))
    refine ⟨_, rfl, qq.1, T.part, qq.2.1, _, _, rfl, hq, X.cP, X.psc, rfl, _, rfl, _, _, rfl, rfl, cmul_sz (zsc _ (List.getElem_mem hi)) kz, ha, g.upd_new hl1 _, ?_⟩
    subst e
    rw [take_snoc ep, List.map_append, List.map_append]
    rfl
  rintro o1 H1 hol1 ha1 ⟨g1, e1⟩
  rw [List.take_length] at e1
  have hz1 := g1 _ _ (upd_same (H := H) (a := A.ab) (o := .frz ob (.dK (abK st.pts A.qs))))
  have na1 : l1 ≠ A.ab := fun e => by rw [e, hz1] at ha1; cases ha1
  refine ⟨hz1, ?_⟩
  have s2 : Same H (upd H1 A.ab (.dK (abK st.pts A.qs))) := frz_back h.oab g1
  have hl1n : H l1 = none := frz_free h.oab hl1
  have ha2 : upd H1 A.ab (.dK (abK st.pts A.qs)) l1 = some (.lst ((scalesS st kept).map V.int)) := by rw [upd_ne na1, ha1, e1]; rfl
  generalize upd H1 A.ab (.dK (abK st.pts A.qs)) = H2 at *
  clear g1 hz1 ha1 e1
  have h2 := h.mono s2
  have hla2 := s2.seq hla
  refine ⟨_, rfl, A.a, T.hold, A.dx, _, _, rfl, h2.oa, X.cH, X.hcm, rfl, _, rfl, _, _, _, _, _, _, rfl, .lst (SqL.of h2.ocm), .lst hla2, fun l2 hl2 => ?_⟩
  refine comp_T (K := K) (n := st.com.length) [0, 1] (fun i out H3 => Same H2 H3 ∧ out = (List.zipWith (fun t m => t * kept + m) (st.com.take i) (added.take i)).map V.int) (by decide) (by omega) ⟨same_new hl2 _, rfl⟩ (fun i out H3 hi _ hp => ⟨SqL.of (hp.1 _ _ h2.ocm), hp.1.seq hla2, by rw [List.length_map]; exact hi, by rw [List.length_map]; omega⟩)
    (fun out H3 _ hp => ⟨SqL.of (hp.1 _ _ h2.ocm), hp.1.seq hla2, .inl (by rw [List.length_map]; exact Nat.le_refl _)⟩) ?_ ?_
  · rintro i x out H3 H4 hi hol ha ⟨g, e⟩ ⟨p, x1, y1, hp, rfl, rfl, e1, e2⟩
    obtain ⟨t, rfl, et⟩ := ints_at e1
    obtain ⟨c, rfl, ec⟩ := ints_at e2
    have g1 := same_new hp (.tup [.int t, .int c])
    refine ⟨p, _, rfl, SqT.of upd_same, rfl, _, rfl, _, rfl, _, _, rfl, rfl, cmul_sz (zcm t (List.mem_of_getElem? et)) kz, _, rfl, _, _, rfl, rfl, g1 _ _ ha, (g.trans g1).upd_new hl2 _, ?_⟩
    rw [zipW_take _ et ec, e, List.map_append]
    rfl
  rintro o2 H3 hol2 ha3 ⟨g3, e3⟩
  rw [List.take_length, ← hal, List.take_length] at e3
  have ec3 : o2 = (comS st kept added).map V.int := e3
  subst ec3
  have s3 := s2.trans g3
  have h3 := h.mono s3
  have hl1' := g3 _ _ ha2
  have hl2n : H l2 = none := s2.free hl2
  have n12 : l1 ≠ l2 := fun e => by rw [e, hl2] at ha2; cases ha2
  clear e3 h2 hla2 g3 ha2 s2
  have lsc : (scalesS st kept).length = st.pts.length := by unfold scalesS; rw [List.length_map]
  have lcm : (comS st kept added).length = st.com.length := by unfold comS; rw [List.length_zipWith, hal, Nat.min_self]
  refine ⟨_, rfl, _, rfl, _, rfl, l1, l2, _, _, rfl, rfl, hl1', ha3, by rw [List.length_map, List.length_map, lsc, lcm]; exact Nat.le_trans (Nat.add_le_add hpl hcl) (by rw [sizeLine_eq]; decide), fun p3 hp3 => ?_⟩
  rw [← List.map_append]
  have g4 := same_new hp3 (.lst ((scalesS st kept ++ comS st kept added).map V.int))
  refine ⟨⟨whole, p3, _, rfl, SqL.of upd_same, by omega, ?_, ?_⟩⟩
  · intro t ht
    rcases List.mem_append.mp ht with z | z
    · unfold scalesS at z
      obtain ⟨p, hp, rfl⟩ := List.mem_map.mp z
      exact Int.mul_nonneg (by have := hh.wf.sc0 p hp; omega) (by omega)
    · obtain ⟨c, hc, m, hm, rfl⟩ := mem_zipW (show t ∈ List.zipWith _ st.com added from z)
      have a1 := Int.mul_nonneg (hh.wf.com0 c hc).1 (by omega : 0 ≤ kept)
      have a2 := (haz m hm).1
      omega
  have s4 := s3.trans g4
  have h4 := h.mono s4
  have G4 := hh.g.same s4
  have F4 : Fr n ρ H ρ (upd H3 p3 (.lst ((scalesS st kept ++ comS st kept added).map V.int))) := Fr.of_same s4
  have b1 := g4 _ _ hl1'
  have b2 := g4 _ _ ha3
  generalize upd H3 p3 (.lst ((scalesS st kept ++ comS st kept added).map V.int)) = H4 at *
  clear hl1' ha3 s3 h3 g4
  obtain ⟨sd, hsd⟩ : ∃ sd, sd = sharedS st kept whole added := ⟨_, rfl⟩
  rw [show factS whole (scalesS st kept ++ comS st kept added) = sd from hsd.symm]
  have sp : 0 < sd := by rw [hsd]; exact factS_pos _ _ w0
  have sdv : sd ∣ whole := by rw [hsd]; exact (factS_dvd _ _).1
  have sz : Jm.Sz 60 sd := wz.dvd w0 (by omega) sdv
  have wq : 0 < whole / sd := Int.ediv_pos_of_pos_of_dvd w0 (by omega) sdv
  have wqz : Jm.Sz 60 (whole / sd) := wz.ediv sp
  have cds : ∀ {i : Int}, CDivW i sd := fun {i} => cdivW_sz sp (sz.mono (by decide))
  refine ⟨A.ab, _, h4.oab, fun ob2 => ?_⟩
  refine ⟨_, rfl, A.a, T.hold, A.dx, _, _, rfl, frz_ne h4.oab h4.oa (fun k z => by cases z), X.cH, X.hab, rfl, A.ab, _, rfl, .inr ⟨ob2, upd_same⟩, fun v hv => ?_⟩
  have nva : v ≠ A.ab := fun e => by rw [e, upd_same] at hv; cases hv
  have hv4 : H4 v = none := frz_free h4.oab hv
  have g5 := same_new hv4 (vview v A.ab)
  have hv5 : upd H4 v (vview v A.ab) v = some (vview v A.ab) := upd_same
  rw [upd_comm (Ne.symm nva)]
  have h5 := h4.mono g5
  have G5 := G4.same g5
  have F5 := F4.trans (Fr.of_same (ρ := ρ) g5)
  have s5 := s4.trans g5
  have c1 := g5 _ _ b1
  have c2 := g5 _ _ b2
  generalize upd H4 v (vview v A.ab) = H5 at *
  clear h4 G4 F4 s4 b1 b2 g5
  refine ⟨_, rfl, _, _, _, _, _, _, rfl, .vals (frz_ne h5.oab hv5 (fun k z => by cases z)) upd_same, .lst (SqL.of (frz_ne h5.oab c1 (fun k z => by cases z))), ?_⟩
  have exl : ((abK st.pts A.qs).map fun p => p.2).length = st.pts.length := by rw [List.length_map]; exact el
  have eyl : ((scalesS st kept).map V.int).length = st.pts.length := by rw [List.length_map]; exact lsc
  refine for_walk (n := st.pts.length) (fun i σ H' => (∃ s7 s8, σ = [some (.ref A.a), some (.int kept), some (.int whole), some (.ref la), some (.ref l1), some (.ref l2), some (.int sd), s7, s8]) ∧ ∃ H6, H' = upd H6 A.ab (.frz ob2 (.dK (abK st.pts A.qs))) ∧ Gh ρ H6 ∧ Fr n ρ H ρ H6 ∧ HoldAt T n ρ A H6 { st with pts := (st.pts.take i).map (fun p => { p with sc := p.sc * kept / sd }) ++ st.pts.drop i } ∧ H6 l1 = some (.lst ((scalesS st kept).map V.int)) ∧ H6 l2 = some (.lst ((comS st kept added).map V.int)) ∧ (∀ b, H6 b = none → H b = none))
    ⟨⟨_, _, rfl⟩, H5, rfl, G5, F5, h5, c1, c2, fun b e => s5.free e⟩ ?_ ?_ ?_ ?_
  · rintro i σ H' hi ⟨_, H6, rfl, G6, F6, h6, d1, d2, fr⟩
    have e6 : abK ({ st with pts := (st.pts.take i).map (fun p : Pt => { p with sc := p.sc * kept / sd }) ++ st.pts.drop i } : HS).pts A.qs = abK st.pts A.qs := abK_names (walk_map (fun p : Pt => { p with sc := p.sc * kept / sd }) (fun p : Pt => p.nm) (fun _ => rfl) st.pts i)
    have hab6 := h6.oab
    rw [e6] at hab6
    exact ⟨upd_same, SqL.of (frz_ne hab6 d1 (fun k z => by cases z)), by rw [exl]; exact hi, by rw [eyl]; exact hi⟩
  · rintro σ H' ⟨_, H6, rfl, G6, F6, h6, d1, d2, fr⟩
    have e6 : abK ({ st with pts := (st.pts.take st.pts.length).map (fun p : Pt => { p with sc := p.sc * kept / sd }) ++ st.pts.drop st.pts.length } : HS).pts A.qs = abK st.pts A.qs := abK_names (walk_map (fun p : Pt => { p with sc := p.sc * kept / sd }) (fun p : Pt => p.nm) (fun _ => rfl) st.pts _)
    have hab6 := h6.oab
    rw [e6] at hab6
    exact ⟨upd_same, SqL.of (frz_ne hab6 d1 (fun k z => by cases z)), .inl (by rw [exl]; exact Nat.le_refl _)⟩
  · rintro i x σ H' H'' hi ⟨⟨s7, s8, rfl⟩, H6, rfl, G6, F6, h6, d1, d2, fr⟩ ⟨pp, x1, y1, hpp, rfl, rfl, ex, ey⟩
    have ep := List.getElem?_eq_getElem hi
    have ep6 := walk_get (fun p : Pt => { p with sc := p.sc * kept / sd }) ep
    obtain ⟨qq, eq, k1, k2, k3, k4⟩ := h6.find ep6
    have nm6 := walk_map (fun p : Pt => { p with sc := p.sc * kept / sd }) (fun p : Pt => p.nm) (fun _ => rfl) st.pts i
    have e6 : abK ({ st with pts := (st.pts.take i).map (fun p : Pt => { p with sc := p.sc * kept / sd }) ++ st.pts.drop i } : HS).pts A.qs = abK st.pts A.qs := abK_names nm6
    have hab6 := h6.oab
    rw [e6] at hab6
    rw [List.getElem?_map, abK_get ep eq] at ex
    cases ex
    obtain ⟨sc, rfl, esc⟩ := ints_at ey
    have esc2 : sc = (st.pts[i]).sc * kept := by
      unfold scalesS at esc
      rw [List.getElem?_map, ep] at esc
      exact (Option.some.inj esc).symm
    subst esc2
    have npa : pp ≠ A.ab := fun e => by rw [e, upd_same] at hpp; cases hpp
    have hpp6 : H6 pp = none := frz_free hab6 hpp
    have g7 := same_new hpp6 (.tup [.ref qq.1, .int ((st.pts[i]).sc * kept)])
    rw [upd_comm (Ne.symm npa)]
    have hpt : upd H6 pp (.tup [.ref qq.1, .int ((st.pts[i]).sc * kept)]) pp = some (.tup [.ref qq.1, .int ((st.pts[i]).sc * kept)]) := upd_same
    have h7 := h6.mono g7
    have G7 := G6.same g7
    have F7 := F6.trans (Fr.of_same (ρ := ρ) g7)
    have hab7 := g7 _ _ hab6
    have f1 := g7 _ _ d1
    have f2 := g7 _ _ d2
    have fr7 : ∀ b, upd H6 pp (.tup [.ref qq.1, .int ((st.pts[i]).sc * kept)]) b = none → H b = none := fun b e => fr b (g7.free e)
    have k1' := g7 _ _ k1
    generalize upd H6 pp (.tup [.ref qq.1, .int ((st.pts[i]).sc * kept)]) = H7 at *
    refine ⟨pp, _, rfl, SqT.of (frz_ne hab7 hpt (fun k z => by cases z)), rfl, _, _, rfl, _, _, rfl, rfl, ?_⟩
    refine ⟨_, rfl, _, rfl, _, _, rfl, rfl, cds, _, rfl, qq.1, T.part, qq.2.1, _, rfl, frz_ne hab7 k1' (fun k z => by cases z), X.cP, X.psc, by show 6 < 1000; decide, ?_⟩
    have nd7 : (((st.pts.take i).map (fun p : Pt => { p with sc := p.sc * kept / sd }) ++ st.pts.drop i).map (fun p : Pt => p.nm)).Nodup := by rw [nm6]; exact nd
    have h8 := h7.set_pt (p1 := { st.pts[i] with sc := (st.pts[i]).sc * kept / sd }) G7 ep6 eq rfl rfl nd7
    rw [show ({ st with pts := (st.pts.take i).map (fun p : Pt => { p with sc := p.sc * kept / sd }) ++ st.pts.drop i } : HS).pts.set i { st.pts[i] with sc := (st.pts[i]).sc * kept / sd } = _ from walk_set (fun p : Pt => { p with sc := p.sc * kept / sd }) ep] at h8
    have nqa : A.ab ≠ qq.1 := (ne_of k1' hab7 (by intro z; cases z)).symm
    have nq1 : l1 ≠ qq.1 := ne_of f1 k1' (by intro z; cases z)
    have nq2 : l2 ≠ qq.1 := ne_of f2 k1' (by intro z; cases z)
    refine ⟨⟨_, _, rfl⟩, _, upd_comm nqa, G7.wr rfl, F7.trans (Fr.write k3), h8, by rw [upd_ne nq1]; exact f1, by rw [upd_ne nq2]; exact f2, fun b e => fr7 b ?_⟩
    by_cases z : b = qq.1
    · rw [z, upd_same] at e; cases e
    · rw [upd_ne z] at e; exact e
  rintro σ H' ⟨⟨s7, s8, rfl⟩, H6, rfl, G6, F6, h6, d1, d2, fr⟩
  have e6 : abK ({ st with pts := (st.pts.take st.pts.length).map (fun p : Pt => { p with sc := p.sc * kept / sd }) ++ st.pts.drop st.pts.length } : HS).pts A.qs = abK st.pts A.qs := abK_names (walk_map (fun p : Pt => { p with sc := p.sc * kept / sd }) (fun p : Pt => p.nm) (fun _ => rfl) st.pts _)
  have hab6 := h6.oab
  rw [e6] at hab6
  refine ⟨upd_same, ?_⟩
  rw [upd_upd, upd_self hab6]
  rw [show ({ st with pts := (st.pts.take st.pts.length).map (fun p : Pt => { p with sc := p.sc * kept / sd }) ++ st.pts.drop st.pts.length } : HS) = { st with pts := st.pts.map fun p : Pt => { p with sc := p.sc * kept / sd } } from by rw [List.take_length, List.drop_length, List.append_nil]] at h6
  clear e6 hab6 h5 G5 F5 s5 c1 c2 hv5
  refine ⟨_, rfl, l2, rfl, ⟨_, SqL.of d2⟩, fun l3 hl3 => ?_⟩
  refine comp_1 (J := Itl K l2) (n := ((comS st kept added).map V.int).length) 0 (fun i o H' => Same H6 H' ∧ o = (((comS st kept added).take i).map (· / sd)).map V.int) (by rw [List.length_map]; omega) ⟨same_new hl3 _, rfl⟩ (fun i o H' hi _ hp => ⟨_, _, SqL.of (hp.1 _ _ d2), List.getElem?_eq_getElem hi⟩) (fun o H' _ hp => ⟨_, SqL.of (hp.1 _ _ d2), Nat.le_refl _⟩) ?_ ?_
  · rintro i y o Ha Hb hi hol ha ⟨g, e⟩ ⟨rfl, hy⟩
    obtain ⟨c, rfl, ec⟩ := ints_at (hy _ (SqL.of (g _ _ d2)))
    refine ⟨_, rfl, _, rfl, _, _, rfl, rfl, cds, ha, g.upd_new hl3 _, ?_⟩
    subst e
    rw [take_snoc ec, List.map_append, List.map_append]
    rfl
  rintro o3 H8 hol3 ha8 ⟨g8, e8⟩
  rw [List.length_map, List.take_length] at e8
  subst e8
  have h8 := h6.mono g8
  have G8 := G6.same g8
  have F8 := F6.trans (Fr.of_same (ρ := ρ) g8)
  have fr8 : ∀ b, H8 b = none → H b = none := fun b e => fr b (g8.free e)
  have c3 : ρ l3 = none := G6.none hl3
  have n3 : H l3 = none := fr l3 hl3
  refine ⟨_, rfl, A.a, T.hold, A.dx, _, rfl, h8.oa, X.cH, X.hcm, by show 7 < 1000; decide, ?_⟩
  obtain ⟨h9, G9⟩ := color_new (t := 6) h8 G8 c3 ha8 rfl
  have F9 : Fr n ρ H (updC ρ l3 (n, 6, ⟨#[]⟩)) H8 := F8.colorNew n3
  have h10 := h9.new_cm G9 l3 _ ha8 updC_same
  have G10 := G9.wr (a := A.a) (o := .ins T.hold A.dx (fldH { A with cm := l3 })) rfl
  have F10 := F9.trans (Fr.write (o := .ins T.hold A.dx (fldH { A with cm := l3 })) h9.ca)
  show tSeq _ _ _ _ (upd H8 A.a (.ins T.hold A.dx (fldH { A with cm := l3 })))
  have fr10 : ∀ b, upd H8 A.a (.ins T.hold A.dx (fldH { A with cm := l3 })) b = none → H b = none := fun b e => fr8 b (by
    by_cases z : b = A.a
    · rw [z, upd_same] at e; cases e
    · rw [upd_ne z] at e; exact e)
  generalize upd H8 A.a (.ins T.hold A.dx (fldH { A with cm := l3 })) = H10 at *
  clear h6 G6 F6 h8 G8 F8 h9 G9 F9 ha8 g8 fr8 fr d1 d2
  refine ⟨_, rfl, A.a, T.hold, A.dx, _, _, rfl, h10.oa, X.cH, X.hpu, rfl, A.pu, rfl, ⟨_, SqL.of h10.opu⟩, fun l4 hl4 => ?_⟩
  have hpul : st.pur.length ≤ 100 := by rw [hh.wf.purl]; exact hh.wf.ownL
  refine comp_1 (J := Itl K A.pu) (n := (st.pur.map V.int).length) 0 (fun i o H' => Same H10 H' ∧ o = ((st.pur.take i).map (· * (whole / sd))).map V.int) (by rw [List.length_map]; omega) ⟨same_new hl4 _, rfl⟩ (fun i o H' hi _ hp => ⟨_, _, SqL.of (hp.1 _ _ h10.opu), List.getElem?_eq_getElem hi⟩) (fun o H' _ hp => ⟨_, SqL.of (hp.1 _ _ h10.opu), Nat.le_refl _⟩) ?_ ?_
  · rintro i y o Ha Hb hi hol ha ⟨g, e⟩ ⟨rfl, hy⟩
    obtain ⟨c, rfl, ec⟩ := ints_at (hy _ (SqL.of (g _ _ h10.opu)))
    refine ⟨_, rfl, _, rfl, _, rfl, _, _, rfl, rfl, cds, _, _, rfl, rfl, cmul_sz (hpz c (List.mem_of_getElem? ec)) wqz, ha, g.upd_new hl4 _, ?_⟩
    subst e
    rw [take_snoc ec, List.map_append, List.map_append]
    rfl
  rintro o4 H11 hol4 ha11 ⟨g11, e11⟩
  rw [List.length_map, List.take_length] at e11
  subst e11
  have h11 := h10.mono g11
  have G11 := G10.same g11
  have F11 := F10.trans (Fr.of_same (ρ := updC ρ l3 (n, 6, ⟨#[]⟩)) g11)
  have c4 : updC ρ l3 (n, 6, ⟨#[]⟩) l4 = none := G10.none hl4
  have n4 : H l4 = none := fr10 l4 hl4
  refine ⟨_, rfl, A.a, T.hold, A.dx, _, rfl, h11.oa, X.cH, X.hpu, by show 7 < 1000; decide, ?_⟩
  obtain ⟨h12, G12⟩ := color_new (t := 7) h11 G11 c4 ha11 rfl
  have F12 : Fr n ρ H (updC (updC ρ l3 (n, 6, ⟨#[]⟩)) l4 (n, 7, ⟨#[]⟩)) H11 := F11.colorNew n4
  have h13 := h12.new_pu G12 l4 _ ha11 updC_same
  have G13 := G12.wr (a := A.a) (o := .ins T.hold A.dx (fldH { { A with cm := l3 } with pu := l4 })) rfl
  have F13 := F12.trans (Fr.write (o := .ins T.hold A.dx (fldH { { A with cm := l3 } with pu := l4 })) h12.ca)
  rw [show putF "purses" (V.ref l4) (fldH { A with cm := l3 }) = fldH { { A with cm := l3 } with pu := l4 } from rfl]
  generalize upd H11 A.a (.ins T.hold A.dx (fldH { { A with cm := l3 } with pu := l4 })) = H13 at *
  refine ⟨_, rfl, A.a, T.hold, A.dx, _, _, rfl, h13.oa, X.cH, X.hbt, rfl, A.bt, A.db, _, rfl, h13.obt, rfl, _, rfl, _, rfl, _, _, rfl, rfl, cds, ?_⟩
  refine ⟨⟨n, _, { { A with cm := l3 } with pu := l4 }, { st with pts := st.pts.map (fun p : Pt => { p with sc := p.sc * kept / sd }), com := (comS st kept added).map (· / sd), pur := st.pur.map (· * (whole / sd)) }, whole / sd, rfl, G13, h13, by show st.stp.length ≤ 1000; omega, hh.wf.big.mono (by decide), wqz.mono (by decide), fun ρ' A' H' a1 a2 a3 a4 => ?_⟩⟩
  have eb : blendS st kept whole added = growS { st with pts := st.pts.map (fun p : Pt => { p with sc := p.sc * kept / sd }), com := (comS st kept added).map (· / sd), pur := st.pur.map (· * (whole / sd)) } (whole / sd) := by
    unfold blendS
    rw [hsd]
  rw [eb] at wf' q
  exact q ρ' A' H' ⟨a1, a2, wf'⟩ a3 (F13.trans a4)
abbrev sd_Hold_cast : Stmt := inClass (top 21) 3
abbrev N_Hold_cast : List Str := ["self", "rows", "amounts", "name", "amount", "whole", "lost"]
abbrev P_Hold_cast : List Str := ["self", "rows"]
theorem sc_Hold_cast : FnScope N_Hold_cast P_Hold_cast (defScope sd_Hold_cast) := ⟨rfl, rfl, rfl, by decide +kernel, rfl, by decide +kernel, by decide +kernel⟩
theorem ok_Hold_cast {T : TC} (F : AtM K T.hold "cast" "Hold.cast" sd_Hold_cast f fd) (X : Txt K T) (D_amounts_of : Dn P w K mg base 1 "amounts_of" ["rows"] (spAmts K)) (D_check_loss : Dn P w K mg base 2 "check_loss" ["most", "amount"] spCkL) (D_Hold_part_of : Mn P w K mg base 1 T.hold "part_of" ["self", "name"] (spPartOf T)) (D_Hold_whole : Mn P w K mg base 1 T.hold "whole" ["self"] (spWhole T)) (D_Hold_blend : Mn P w K mg base 3 T.hold "blend" ["self", "kept", "whole", "added"] (spBlend T K)) (D_Hold_given_up : Mn P w K mg base 1 T.hold "given_up" ["self", "amounts"] (spGiven T)) (D_Hold_lessen : Mn P w K mg base 1 T.hold "lessen" ["self", "name", "amount"] (spLess T)) (m_sum : mg "sum" = none) : Mn P w K mg base 4 T.hold "cast" P_Hold_cast (spCast T K) := by
  refine F.ok sc_Hold_cast (fun vs H Q E h => ?_) (fun cdv A outer s H vs Q E hr h => ?_) (fun _ _ _ _ _ _ us hl => match us, hl with | [_, _], _ => rfl)
  · obtain ⟨n, ρ, A, st, l, us, rs, rfl, _⟩ := h.ex
    rfl
  obtain ⟨n, ρ, A, st, l, us, rs, rfl, hh, hl, hR, ok, q⟩ := h.ex
  have wf := hh.wf
  have nd := ok.nd
  refine ⟨_, (pss_cons (ps_set (i := 2) sc_Hold_cast.nd rfl (Or.inl rfl) (pe_fn D_amounts_of hr (pa_cons (pv 1) pa_nil)))
    (pss_cons (ps_frz (ps_for PassesOwn.never rfl (pi_items (pv 2)) (pg_tupK K (n := 2) rfl (pgs_cons (pg_name (i := 3) sc_Hold_cast.nd rfl (Or.inl rfl)) (pgs_cons (pg_name (i := 4) sc_Hold_cast.nd rfl (Or.inl rfl)) pgs_nil))) (pss_one (ps_expr (pe_fn D_check_loss hr (pa_cons (pe_fldK K (pe_mth D_Hold_part_of hr (pv 0) (pa_cons (pv 3) pa_nil))) (pa_cons (pv 4) pa_nil)))))))
    (pss_cons (ps_set (i := 5) sc_Hold_cast.nd rfl (Or.inl rfl) (pe_mth0 D_Hold_whole hr (pv 0)))
    (pss_cons (ps_set (i := 6) sc_Hold_cast.nd rfl (Or.inl rfl) (pe_callB (call_sumV rfl) (by rfl) m_sum PyProof.Rows.boot_sum (pa_cons (pe_vals (pv 2)) pa_nil)))
    (pss_cons (ps_if (pt_cmpR op_ge (pv 6) (pv 5) (nomark _)) (pss_one ps_never) pss_nil)
    (pss_cons (ps_expr (pe_mth D_Hold_blend hr (pv 0) (pa_cons (pe_op op_sub (pv 5) (pv 6)) (pa_cons (pv 5) (pa_cons (pe_mth D_Hold_given_up hr (pv 0) (pa_cons (pv 2) pa_nil)) pa_nil)))))
    (pss_one (ps_frz (ps_for PassesOwn.never rfl (pi_items (pv 2)) (pg_tupK K (n := 2) rfl (pgs_cons (pg_name (i := 3) sc_Hold_cast.nd rfl (Or.inl rfl)) (pgs_cons (pg_name (i := 4) sc_Hold_cast.nd rfl (Or.inl rfl)) pgs_nil))) (pss_one (ps_expr (pe_mth D_Hold_lessen hr (pv 0) (pa_cons (pv 3) (pa_cons (pv 4) pa_nil)))))))))))))), ?_⟩
  refine ⟨_, rfl, ⟨⟨l, us, rs, rfl, hl, hR, nd, ok.ne, ok.len, fun d H1 g1 hdn hd1 => ?_⟩⟩⟩
  have hh1 := hh.mono g1
  have F1 : Fr n ρ H ρ H1 := Fr.of_same g1
  have cd : ρ d = none := hh.g.none hdn
  have al := amtK_len rs
  refine ⟨d, _, hd1, fun ob => ⟨_, rfl, d, ob, _, rfl, upd_same, ?_⟩⟩
  refine for_walk (n := (amtK rs).length) (fun i σ H' => Same (upd H1 d (.frz ob (.dK (amtK rs)))) H' ∧ ∃ s3 s4 s5 s6, σ = [some (.ref A.a), some (.ref l), some (.ref d), s3, s4, s5, s6])
    ⟨Same.refl _, _, _, _, _, rfl⟩ (fun i σ H' hi hp => ⟨hp.1 _ _ upd_same, hi⟩) (fun σ H' hp => ⟨hp.1 _ _ upd_same, Nat.le_refl _⟩) ?_ ?_
  · rintro i x σ H3 H4 hi ⟨g, s3, s4, s5, s6, rfl⟩ ⟨pp, kv, hpp, hkv, rfl, rfl⟩
    unfold amtK at hkv
    rw [List.getElem?_map] at hkv
    obtain ⟨r, er, rfl⟩ := Option.map_eq_some_iff.mp hkv
    have hrm := List.mem_of_getElem? er
    obtain ⟨r1, zr, p, hpm, enm, hle⟩ := ok.row r hrm
    obtain ⟨ip, hip, eip⟩ := List.getElem_of_mem hpm
    have ep : st.pts[ip]? = some p := by rw [List.getElem?_eq_getElem hip, eip]
    have g4 := same_new hpp (.tup [.str r.1, .int r.2])
    have gg := g.trans g4
    have hf : HH T n ρ A (upd H1 d (.frz ob (.dK (amtK rs)))) st := hh1.wrOut cd hd1 rfl rfl
    have h4 := hf.mono gg
    have hpt : upd H3 pp (.tup [.str r.1, .int r.2]) pp = some (.tup [.str r.1, .int r.2]) := upd_same
    show gTup K 2 _ _ _ (upd H3 pp (.tup [.str r.1, .int r.2])) _
    generalize upd H3 pp (.tup [.str r.1, .int r.2]) = H4 at *
    obtain ⟨qq, eq, k1, k2, _, _⟩ := h4.h.find ep
    refine ⟨pp, _, rfl, SqT.of hpt, rfl, _, _, rfl, _, _, rfl, rfl, ?_⟩
    refine ⟨_, rfl, A.a, A.dx, _, rfl, h4.h.oa, rfl, _, rfl, ⟨⟨n, ρ, A, st, ip, p, qq, by rw [← enm]; rfl, h4.h, wf.ptsN, ep, eq, ?_⟩⟩⟩
    refine ⟨qq.1, T.part, qq.2.1, _, _, rfl, k1, X.cP, X.pwo, rfl, _, rfl, ⟨⟨p.wo, r.2, rfl, r1, hle, ?_⟩⟩⟩
    exact ⟨gg, _, _, _, _, rfl⟩
  rintro σ H2 ⟨g2, s3, s4, s5, s6, rfl⟩
  refine ⟨g2 _ _ upd_same, ?_⟩
  have gB := frz_back hd1 g2
  have hh2 := hh1.mono gB
  have F2 : Fr n ρ H ρ (upd H2 d (.dK (amtK rs))) := F1.trans (Fr.of_same gB)
  have hd2 : upd H2 d (.dK (amtK rs)) d = some (.dK (amtK rs)) := upd_same
  generalize upd H2 d (.dK (amtK rs)) = H2' at *
  refine ⟨_, rfl, A.a, A.dx, _, rfl, hh2.h.oa, rfl, ⟨⟨n, ρ, A, st, rfl, hh2.h, wf.ptsL, fun H3 g3 => ?_⟩⟩⟩
  have hh3 := hh2.mono g3
  have hd3 := g3 _ _ hd2
  have F3 := F2.trans (Fr.of_same (ρ := ρ) g3)
  refine ⟨_, rfl, d, _, rfl, .inl hd3, fun v hv => ⟨v, d, _, rs.map (·.2), rfl, upd_same, .inl (by rw [upd_ne (ne_of_none hd3 hv)]; exact hd3), by unfold amtK; rw [List.map_map, List.map_map]; rfl, ?_⟩⟩
  have g4 := same_new hv (vview v d)
  have hh4 := hh3.mono g4
  have hd4 := g4 _ _ hd3
  have F4 := F3.trans (Fr.of_same (ρ := ρ) g4)
  generalize upd H3 v (vview v d) = H4 at *
  have bo := ok.blend wf
  refine ⟨_, rfl, _, rfl, _, _, rfl, rfl, _, rfl, ite2 (fun c => absurd (of_decide_eq_true c) (by have := ok.lost; show ¬ wholeS st ≤ lostS rs; omega)) fun _ => ?_⟩
  refine ⟨_, rfl, A.a, A.dx, _, rfl, hh4.h.oa, rfl, _, rfl, _, rfl, _, _, rfl, rfl, _, rfl, _, rfl, A.a, A.dx, _, rfl, hh4.h.oa, rfl, _, rfl, ⟨⟨n, ρ, A, st, d, rs, rfl, hh4.h, wf, hd4, cd, ok.len, fun r hr => ⟨(ok.row r hr).2.1, by obtain ⟨p, hp, e, _⟩ := (ok.row r hr).2.2; exact ⟨p, hp, e⟩⟩, fun l5 H5 g5 hn5 hl5 => ?_⟩⟩⟩
  have hh5 := hh4.mono g5
  have hd5 := g5 _ _ hd4
  have F5 := F4.trans (Fr.of_same (ρ := ρ) g5)
  have zk : Jm.Sz 60 (wholeS st - lostS rs) := bo.big.of_le (by have := bo.k; have := bo.l; omega)
  have zG : ∀ m ∈ givenS st rs, 0 ≤ m ∧ Jm.Sz 8900 m := fun m hm => by
    have h1 := bo.add m hm
    have h2 := wf.prod1
    have zl : Jm.Sz 60 (lostS rs) := bo.big.of_le (by have := bo.k; have := bo.l; omega)
    exact ⟨h1.1, Jm.Sz.of_abs (by have := Int.mul_nonneg bo.l (show 0 ≤ st.prod by omega); omega) h1.2 ((zl.mul bo.prod).mono (by decide))⟩
  refine ⟨⟨n, ρ, A, st, wholeS st - lostS rs, wholeS st, l5, givenS st rs, rfl, hh5, SqL.of hl5, bo.len, bo.k, by have := bo.k; have := bo.l; omega, zk, bo.big, zG, ok.pur, ok.stp, wf_blend wf bo, fun ρ6 A6 H6 hh6 e6 f6 => ?_⟩⟩
  obtain ⟨hd6, cd6⟩ := f6 d _ hd5 (fun t x => by rw [cd]; intro z; cases z)
  rw [cd] at cd6
  have F6 := F5.trans f6
  refine ⟨d, _, hd6, fun ob2 => ⟨_, rfl, d, ob2, _, rfl, upd_same, ?_⟩⟩
  generalize eB : blendS st (wholeS st - lostS rs) (wholeS st) (givenS st rs) = stb at *
  have dueB : Due stb rs := by rw [← eB]; exact due_blend ok.due
  have ecast : castS st rs = rs.foldl lessS stb := by unfold castS; rw [eB]
  refine for_walk (n := (amtK rs).length) (fun i σ H' => ∃ ρ' A', HH T n ρ' A' H' ((rs.take i).foldl lessS stb) ∧ A'.a = A.a ∧ H' d = some (.frz ob2 (.dK (amtK rs))) ∧ ρ' d = none ∧ Fr n ρ H ρ' H' ∧ Due ((rs.take i).foldl lessS stb) (rs.drop i) ∧ ∃ s3 s4 s5 s6, σ = [some (.ref A.a), some (.ref l), some (.ref d), s3, s4, s5, s6])
    ⟨ρ6, A6, hh6.wrOut cd6 hd6 rfl rfl, e6, upd_same, cd6, F6.new hdn, dueB, _, _, _, _, rfl⟩ (fun i σ H' hi hp => by obtain ⟨_, _, _, _, e, _⟩ := hp; exact ⟨e, hi⟩) (fun σ H' hp => by obtain ⟨_, _, _, _, e, _⟩ := hp; exact ⟨e, Nat.le_refl _⟩) ?_ ?_
  · rintro i x σ H7 H8 hi ⟨ρ7, A7, hh7, e7, hd7, cd7, F7, due, s3, s4, s5, s6, rfl⟩ ⟨pp, kv, hpp, hkv, rfl, rfl⟩
    unfold amtK at hkv
    rw [List.getElem?_map] at hkv
    obtain ⟨r, er, rfl⟩ := Option.map_eq_some_iff.mp hkv
    have hir : i < rs.length := by rw [← al]; exact hi
    have edr : rs.drop i = r :: rs.drop (i + 1) := by
      rw [List.drop_eq_getElem_cons hir]
      rw [List.getElem?_eq_getElem hir] at er
      rw [Option.some.inj er]
    rw [edr] at due
    have g4 := same_new hpp (.tup [.str r.1, .int r.2])
    have hh8 := hh7.mono g4
    have hd8 := g4 _ _ hd7
    have F8 := F7.trans (Fr.of_same (ρ := ρ7) g4)
    have hpt : upd H7 pp (.tup [.str r.1, .int r.2]) pp = some (.tup [.str r.1, .int r.2]) := upd_same
    show gTup K 2 _ _ _ (upd H7 pp (.tup [.str r.1, .int r.2])) _
    generalize upd H7 pp (.tup [.str r.1, .int r.2]) = H8 at *
    refine ⟨pp, _, rfl, SqT.of hpt, rfl, _, _, rfl, _, _, rfl, rfl, ?_⟩
    have eN : (rs.take (i + 1)).foldl lessS stb = lessS ((rs.take i).foldl lessS stb) r := by rw [take_snoc er, List.foldl_append]; rfl
    have ndr : ((r :: rs.drop (i + 1)).map (fun r : Row => r.1)).Nodup := by rw [← edr, List.map_drop]; exact nd.sublist (List.drop_sublist _ _)
    refine ⟨_, rfl, A.a, A7.dx, _, rfl, by rw [← e7]; exact hh8.h.oa, rfl, _, rfl, _, rfl, ⟨⟨n, ρ7, A7, _, r, by rw [e7]; rfl, hh8, due r List.mem_cons_self, due_wf hh7.wf due, fun ρ9 A9 H9 hh9 e9 f9 => ?_⟩⟩⟩
    obtain ⟨hd9, cd9⟩ := f9 d _ hd8 (fun t x => by rw [cd7]; intro z; cases z)
    rw [cd7] at cd9
    rw [← eN] at hh9
    exact ⟨ρ9, A9, hh9, e9.trans e7, hd9, cd9, F8.trans f9, by rw [eN]; exact due_next hh7.wf due ndr, _, _, _, _, rfl⟩
  rintro σ H7 ⟨ρ7, A7, hh7, e7, hd7, cd7, F7, due, s3, s4, s5, s6, rfl⟩
  rw [al, List.take_length, ← ecast] at hh7
  exact ⟨hd7, q ρ7 A7 _ (hh7.wrOut cd7 hd7 rfl rfl) e7 (F7.new hdn)⟩
abbrev sd__law_draw : Stmt := top 26
abbrev N__law_draw : List Str := ["_law_script", "_law_k", "_law_j", "_law_many", "_law_cell", "_law_turn", "_law_rest", "_law_step", "_law_one", "_law_two"]
abbrev P__law_draw : List Str := ["_law_script", "_law_k", "_law_j", "_law_many"]
theorem sc__law_draw : FnScope N__law_draw P__law_draw (defScope sd__law_draw) := ⟨rfl, rfl, rfl, by decide +kernel, rfl, by decide +kernel, by decide +kernel⟩
theorem ok__law_draw (F : At K mg "_law_draw" sd__law_draw f fd) (m_len : mg "len" = none) (m_range : mg "range" = none) : Dn P w K mg base 1 "_law_draw" P__law_draw (spDraw K) := by
  refine F.ok sc__law_draw (fun vs H Q E h => ?_) (fun cdv A outer s H vs Q E hr h => ?_) (fun _ _ _ _ _ _ us hl => match us, hl with | [_, _, _, _], _ => rfl)
  · obtain ⟨a, ns, k, j, many, rfl, _⟩ := h.ex
    rfl
  obtain ⟨a, ns, k, j, many, rfl, hS, h63, hk, hj, hj2, hm, q⟩ := h.ex
  refine ⟨_, (pss_cons (ps_set (i := 4) sc__law_draw.nd rfl (Or.inl rfl) pe_int)
    (pss_cons (ps_set (i := 5) sc__law_draw.nd rfl (Or.inl rfl) pe_int)
    (pss_cons (ps_ifJ (pt_cmpR op_gt (pe_callB (call_lenK K) (by rfl) m_len PySem.boot_len (pa_cons (pv 0) pa_nil)) pe_int (nomark _)) (pss_cons (ps_set (i := 4) sc__law_draw.nd rfl (Or.inl rfl) (pe_ix (ix_listK K) (pv 0) (pe_op op_mod (pv 1) (pe_callB (call_lenK K) (by rfl) m_len PySem.boot_len (pa_cons (pv 0) pa_nil))) (fun _ _ => rfl)))
    (pss_one (ps_set (i := 5) sc__law_draw.nd rfl (Or.inl rfl) (pe_op op_fdivW (pv 1) (pe_callB (call_lenK K) (by rfl) m_len PySem.boot_len (pa_cons (pv 0) pa_nil)))))) pss_nil)
    (pss_cons (ps_set (i := 6) sc__law_draw.nd rfl (Or.inl rfl) (pv 4))
    (pss_cons (ps_for PassesOwn.never rfl (pi_range1 (by rfl) m_range (pa_cons (pv 2) pa_nil)) (pg_name (i := 7) sc__law_draw.nd rfl (Or.inl rfl)) (pss_one (ps_set (i := 6) sc__law_draw.nd rfl (Or.inl rfl) (pe_op op_fdivW (pv 6) (pe_op op_pow pe_int pe_int)))))
    (pss_cons (ps_if (pt_pure (PW.pt (pw_and (pt_cmpR op_eq (pv 5) pe_int (nomark _)) (pw_and (pt_cmpR op_ge (pv 4) (pe_op op_pow pe_int pe_int) (nomark _)) (pw_and1 (pt_cmpR op_gt (pv 6) pe_int (nomark _))))))) (pss_one (ps_ret (pe_op op_mod (pe_op op_mod (pv 6) (pe_op op_pow pe_int pe_int)) (pv 3)))) pss_nil)
    (pss_cons (ps_set (i := 8) sc__law_draw.nd rfl (Or.inl rfl) (pe_op op_mod (pe_op op_add (pe_op op_add (pe_op op_add (pe_op op_mul (pv 4) pe_int) (pe_op op_mul (pv 1) pe_int)) (pe_op op_mul (pv 2) pe_int)) pe_int) pe_int))
    (pss_cons (ps_set (i := 9) sc__law_draw.nd rfl (Or.inl rfl) (pe_op op_mod (pe_op op_add (pe_op op_mul (pv 8) pe_int) (pe_op op_fdivW (pv 4) pe_int)) pe_int))
    (pss_cons (ps_set (i := 9) sc__law_draw.nd rfl (Or.inl rfl) (pe_op op_mod (pe_op op_add (pe_op op_mul (pv 9) (pe_op op_add (pe_op op_mod (pv 8) pe_int) pe_int)) (pv 2)) pe_int))
    (pss_one (ps_ret (pe_op op_mod (pe_op op_mod (pe_op op_add (pe_op op_add (pe_op op_mul (pv 8) pe_int) (pe_op op_mul (pv 9) pe_int)) (pe_op op_fdivW (pv 9) pe_int)) pe_int) (pv 3))))))))))))), ?_⟩
  have hl : (ns.map V.int).length = ns.length := List.length_map _
  refine ⟨fun σ H' => H' = H ∧ σ = [some (.ref a), some (.int k), some (.int j), some (.int many), some (.int (Jm.cellOf ns k)), some (.int (Jm.turnOf ns k)), none, none, none, none], ?_, ?_⟩
  · refine ⟨_, rfl, a, _, rfl, .inl hS, _, _, rfl, rfl, _, rfl, ?_⟩
    refine ite2 (fun c => ?_) (fun c => ?_)
    · have c' : 0 < (((ns.map V.int).length : Nat) : Int) := of_decide_eq_true c
      rw [hl] at c'
      have i0 : 0 ≤ k % (ns.length : Int) := Int.emod_nonneg _ (by omega)
      have i1 : k % (ns.length : Int) < (ns.length : Int) := Int.emod_lt_of_pos _ c'
      refine ⟨_, rfl, _, rfl, _, rfl, a, _, rfl, .inl hS, _, _, rfl, rfl, (by show (0 : Int) < _; rw [hl]; exact c'), a, _, _, .int (ns.getD (k % ns.length).toNat 0), rfl, rfl, hS, ?_, ?_⟩
      · rw [hl]
        exact atI_map i0 i1
      refine ⟨_, rfl, _, rfl, a, _, rfl, .inl hS, _, _, rfl, rfl, cdivW_of (n := 10) (by rw [hl]; exact c') (by rw [hl]; omega) (by decide), rfl, ?_⟩
      unfold Jm.cellOf Jm.turnOf
      rw [if_pos c', if_pos c', hl]
      rfl
    · have c' : ¬ 0 < (((ns.map V.int).length : Nat) : Int) := of_decide_eq_false (Bool.eq_false_iff.mpr c)
      rw [hl] at c'
      refine ⟨rfl, ?_⟩
      unfold Jm.cellOf Jm.turnOf
      rw [if_neg c', if_neg c']
      rfl
  rintro σ H' ⟨rfl, rfl⟩
  generalize ec : Jm.cellOf ns k = cell at *
  generalize et : Jm.turnOf ns k = turn at *
  refine ⟨_, rfl, _, rfl, j, rfl, by omega, hj2, ?_⟩
  refine for_range (lo := 0) (n := j.toNat) (fun i σ H'' => H'' = H' ∧ ∃ st : Option V, σ = [some (.ref a), some (.int k), some (.int j), some (.int many), some (.int cell), some (.int turn), some (.int (Jm.restN cell i)), st, none, none]) ⟨rfl, none, rfl⟩ ?_ ?_
  · rintro i σ H'' hi ⟨rfl, st, rfl⟩
    refine ⟨_, rfl, _, _, rfl, rfl, ⟨by decide, by decide, by decide⟩, _, _, rfl, rfl, cdivW_lit (by decide +kernel), rfl, ?_⟩
    exact ⟨_, rfl⟩
  rintro σ H'' ⟨rfl, st, rfl⟩
  have full : Q (.int (Jm.draw ns k j many)) H'' := q
  unfold Jm.draw at full
  rw [ec, et] at full
  generalize er : Jm.restN cell j.toNat = rest at *
  refine ⟨decide (turn = 0 ∧ 1000000000000000000 ≤ cell ∧ 0 < rest), ?_, ?_⟩
  · refine ⟨_, rfl, rfl, _, rfl, ?_⟩
    by_cases h1 : turn = 0
    · rw [decide_eq_true (by rw [h1] : V.int turn = V.int 0)]
      refine iteT ⟨_, rfl, _, _, rfl, rfl, ⟨by decide, by decide, by decide⟩, _, _, rfl, rfl, _, rfl, ?_⟩
      by_cases h2 : 1000000000000000000 ≤ cell
      · rw [decide_eq_true (show (10 : Int) ^ (18 : Int).toNat ≤ cell from h2)]
        refine iteT ⟨_, rfl, _, _, rfl, rfl, _, rfl, ?_, rfl⟩
        by_cases h3 : 0 < rest
        · rw [decide_eq_true h3, decide_eq_true ⟨h1, h2, h3⟩]
        · rw [decide_eq_false h3, decide_eq_false fun z => h3 z.2.2]
      · rw [decide_eq_false (show ¬ (10 : Int) ^ (18 : Int).toNat ≤ cell from h2)]
        exact iteF ⟨(decide_eq_false fun z => h2 z.2.1).symm, rfl⟩
    · rw [decide_eq_false (fun z => h1 (V.int.inj z))]
      exact iteF ⟨(decide_eq_false fun z => h1 z.1).symm, rfl⟩
  by_cases h : turn = 0 ∧ 1000000000000000000 ≤ cell ∧ 0 < rest
  · rw [decide_eq_true h]
    rw [if_pos h] at full
    refine iteT ⟨_, rfl, _, _, rfl, rfl, ⟨by decide, by decide, by decide⟩, _, _, rfl, rfl, (by show (0 : Int) < _; decide), _, rfl, _, _, rfl, rfl, hm, ?_⟩
    exact full
  · rw [decide_eq_false h]
    rw [if_neg h] at full
    refine iteF ?_
    refine ⟨_, rfl, _, _, rfl, rfl, .inr ⟨by decide, by decide⟩, _, rfl, _, _, rfl, rfl, .inr ⟨by decide, by decide⟩, _, _, rfl, rfl, _, rfl, _, _, rfl, rfl, .inr ⟨by decide, by decide⟩, _, _, rfl, rfl, _, _, rfl, rfl, _, _, rfl, rfl, (by show (0 : Int) < _; decide), ?_⟩
    refine ⟨_, rfl, _, _, rfl, rfl, .inr ⟨by decide, by decide⟩, _, rfl, _, _, rfl, rfl, cdivW_lit (by decide +kernel), _, _, rfl, rfl, _, _, rfl, rfl, (by show (0 : Int) < _; decide), ?_⟩
    unfold Jm.mixed at full
    dsimp only at full ⊢
    generalize e1 : (cell * 7919 + k * 104729 + j * 1299709 + 31) % 1000000007 = one at *
    generalize e2 : (one * 48271 + cell / 1009) % 998244353 = two at *
    have b1 : 0 ≤ one % 9973 := Int.emod_nonneg _ (by decide)
    have b2 : one % 9973 < 9973 := Int.emod_lt_of_pos _ (by decide)
    refine ⟨_, rfl, _, rfl, _, _, rfl, rfl, (by show (0 : Int) < _; decide), _, _, rfl, rfl, _, _, rfl, rfl, .inr ⟨by omega, by omega⟩, _, rfl, _, _, rfl, rfl, _, _, rfl, rfl, (by show (0 : Int) < _; decide), ?_⟩
    refine ⟨_, rfl, _, _, rfl, rfl, .inr ⟨by decide, by decide⟩, _, rfl, _, _, rfl, rfl, .inr ⟨by decide, by decide⟩, _, _, rfl, rfl, _, rfl, _, _, rfl, rfl, cdivW_lit (by decide +kernel), _, _, rfl, rfl, _, _, rfl, rfl, (by show (0 : Int) < _; decide), _, rfl, _, _, rfl, rfl, hm, ?_⟩
    exact full
abbrev sd__law_name : Stmt := top 27
abbrev N__law_name : List Str := ["_law_code", "_law_size", "_law_word", "_law_at_here"]
abbrev P__law_name : List Str := ["_law_code", "_law_size"]
theorem sc__law_name : FnScope N__law_name P__law_name (defScope sd__law_name) := ⟨rfl, rfl, rfl, by decide +kernel, rfl, by decide +kernel, by decide +kernel⟩
theorem ok__law_name (F : At K mg "_law_name" sd__law_name f fd) (m_range : mg "range" = none) : Dn P w K mg base 1 "_law_name" P__law_name spName' := by
  refine F.ok sc__law_name (fun vs H Q E h => ?_) (fun cdv A outer s H vs Q E hr h => ?_) (fun _ _ _ _ _ _ us hl => match us, hl with | [_, _], _ => rfl)
  · obtain ⟨c, n, rfl, _⟩ := h.ex
    rfl
  obtain ⟨c, n, rfl, hc, hn, q⟩ := h.ex
  refine ⟨_, (pss_cons (ps_set (i := 2) sc__law_name.nd rfl (Or.inl rfl) pe_str)
    (pss_cons (ps_for PassesOwn.never rfl (pi_range1 (by rfl) m_range (pa_cons (pv 1) pa_nil)) (pg_name (i := 3) sc__law_name.nd rfl (Or.inl rfl)) (pss_cons (ps_set (i := 2) sc__law_name.nd rfl (Or.inl rfl) (pe_op op_add_str (pv 2) (pe_ix ix_str pe_str (pe_op op_mod (pv 0) pe_int) (fun _ _ => rfl))))
    (pss_one (ps_set (i := 0) sc__law_name.nd rfl (Or.inl rfl) (pe_op op_fdivW (pv 0) pe_int)))))
    (pss_one (ps_ret (pv 2))))), ?_⟩
  refine ⟨_, rfl, _, rfl, by omega, by omega, ?_⟩
  refine for_range (lo := 0) (n := (n : Int).toNat) (fun i σ H' => H' = H ∧ ∃ (s1 : Option V), σ = [some (.int (c / 26 ^ i)), some (.int n), some (.str (tx (nmL c i))), s1]) ⟨rfl, none, by rw [Int.pow_zero, Int.ediv_one]; rfl⟩ ?_ ?_
  · rintro i σ H' hi ⟨rfl, s1, rfl⟩
    have hp : (0 : Int) < 26 ^ i := Int.pow_pos (by decide)
    have hd0 : 0 ≤ c / 26 ^ i := Int.ediv_nonneg hc (Int.le_of_lt hp)
    have hm0 : 0 ≤ c / 26 ^ i % 26 := Int.emod_nonneg _ (by decide)
    have hm1 : c / 26 ^ i % 26 < 26 := Int.emod_lt_of_pos _ (by decide)
    refine ⟨_, rfl, _, rfl, _, _, rfl, rfl, (by show (0 : Int) < 26; decide), _, _, _, rfl, rfl, (by decide +kernel), letter_at hm0 hm1, ?_⟩
    refine ⟨_, _, rfl, rfl, ?_, ?_⟩
    · rw [tx_length, nmL_length]
      show i + 1 ≤ sizeLine
      exact Nat.le_of_lt (small1000 (by omega))
    refine ⟨_, rfl, _, _, rfl, rfl, cdivW_sz (by decide) (sz_lit (by decide +kernel)), rfl, some (.int ((0 : Int) + (i : Int))), ?_⟩
    have e1 : c / 26 ^ i / 26 = c / 26 ^ (i + 1) := by rw [Int.ediv_ediv_of_nonneg (Int.le_of_lt hp), Int.pow_succ]
    have e2 : (tx (nmL c i) ++ tx [97 + (c / 26 ^ i % 26).toNat] : Str) = tx (nmL c (i + 1)) := by rw [tx_cat, nmL_succ]
    rw [← e1, ← e2]
    rfl
  rintro σ H' ⟨rfl, s1, rfl⟩
  refine ⟨_, rfl, ?_⟩
  rw [Int.toNat_natCast]
  exact q
abbrev sd__law_names : Stmt := top 28
abbrev N__law_names : List Str := ["_law_script", "_law_k", "_law_many", "_law_alike", "_law_size", "_law_first", "_law_shift", "_law_at_here", "_law_names_here", "_law_code"]
abbrev P__law_names : List Str := ["_law_script", "_law_k", "_law_many"]
theorem sc__law_names : FnScope N__law_names P__law_names (defScope sd__law_names) := ⟨rfl, rfl, rfl, by decide +kernel, rfl, by decide +kernel, by decide +kernel⟩
theorem ok__law_names (F : At K mg "_law_names" sd__law_names f fd) (D__law_draw : Dn P w K mg base 1 "_law_draw" ["_law_script", "_law_k", "_law_j", "_law_many"] (spDraw K)) (D__law_name : Dn P w K mg base 1 "_law_name" ["_law_code", "_law_size"] spName') (m_range : mg "range" = none) : Dn P w K mg base 2 "_law_names" P__law_names (spNames K) := by
  refine F.ok sc__law_names (fun vs H Q E h => ?_) (fun cdv A outer s H vs Q E hr h => ?_) (fun _ _ _ _ _ _ us hl => match us, hl with | [_, _, _], _ => rfl)
  · obtain ⟨a, ms, k, many, rfl, _⟩ := h.ex
    rfl
  obtain ⟨a, ms, k, many, rfl, hS, h63, hk, hm, q⟩ := h.ex
  refine ⟨_, (pss_cons (ps_set (i := 3) sc__law_names.nd rfl (Or.inl rfl) (pe_cmpR op_eq (pe_fn D__law_draw hr (pa_cons (pv 0) (pa_cons (pv 1) (pa_cons pe_int (pa_cons pe_int pa_nil))))) pe_int (nomark _)))
    (pss_cons (ps_set (i := 4) sc__law_names.nd rfl (Or.inl rfl) (pe_op op_add pe_int (pe_fn D__law_draw hr (pa_cons (pv 0) (pa_cons (pv 1) (pa_cons pe_int (pa_cons pe_int pa_nil)))))))
    (pss_cons (ps_set (i := 5) sc__law_names.nd rfl (Or.inl rfl) (pe_fn D__law_draw hr (pa_cons (pv 0) (pa_cons (pv 1) (pa_cons pe_int (pa_cons (pe_op op_pow pe_int pe_int) pa_nil))))))
    (pss_cons (ps_set (i := 6) sc__law_names.nd rfl (Or.inl rfl) pe_int)
    (pss_cons (ps_ifJ (pt_val (pv 3)) (pss_one (ps_for PassesOwn.never rfl (pi_range1 (by rfl) m_range (pa_cons (pe_fn D__law_draw hr (pa_cons (pv 0) (pa_cons (pv 1) (pa_cons pe_int (pa_cons (pv 4) pa_nil))))) pa_nil)) (pg_name (i := 7) sc__law_names.nd rfl (Or.inl rfl)) (pss_one (ps_set (i := 6) sc__law_names.nd rfl (Or.inl rfl) (pe_op op_mul (pv 6) pe_int))))) pss_nil)
    (pss_cons (ps_set (i := 8) sc__law_names.nd rfl (Or.inl rfl) (pe_lst pa_nil))
    (pss_cons (ps_for PassesOwn.never rfl (pi_range1 (by rfl) m_range (pa_cons (pv 2) pa_nil)) (pg_name (i := 7) sc__law_names.nd rfl (Or.inl rfl)) (pss_cons (ps_set (i := 9) sc__law_names.nd rfl (Or.inl rfl) (pe_op op_add (pv 5) (pe_op op_mul (pv 6) (pe_fn D__law_draw hr (pa_cons (pv 0) (pa_cons (pv 1) (pa_cons (pe_op op_add pe_int (pe_op op_mul pe_int (pv 7))) (pa_cons pe_int pa_nil))))))))
    (pss_cons (ps_ifJ (pt_not (pt_val (pv 3))) (pss_cons (ps_set (i := 4) sc__law_names.nd rfl (Or.inl rfl) (pe_op op_add pe_int (pe_fn D__law_draw hr (pa_cons (pv 0) (pa_cons (pv 1) (pa_cons (pe_op op_add pe_int (pe_op op_mul pe_int (pv 7))) (pa_cons pe_int pa_nil)))))))
    (pss_one (ps_set (i := 9) sc__law_names.nd rfl (Or.inl rfl) (pe_fn D__law_draw hr (pa_cons (pv 0) (pa_cons (pv 1) (pa_cons (pe_op op_add pe_int (pe_op op_mul pe_int (pv 7))) (pa_cons (pe_op op_pow pe_int pe_int) pa_nil)))))))) pss_nil)
    (pss_cons (ps_while PassesOwn.never (pt_cmpR op_in_seq (pe_fn D__law_name hr (pa_cons (pv 9) (pa_cons (pv 4) pa_nil))) (pv 8) (by with_unfolding_all rfl)) (pss_one (ps_set (i := 9) sc__law_names.nd rfl (Or.inl rfl) (pe_op op_add (pv 9) (pv 6)))))
    (pss_one (ps_expr (pe_bm PySem.F.plainAttrs_list PySem.F.slot_list_append PySem.F.type_list_append mt_append (pv 8) (pa_cons (pe_fn D__law_name hr (pa_cons (pv 9) (pa_cons (pv 4) pa_nil))) pa_nil))))))))
    (pss_one (ps_ret (pv 8)))))))))), ?_⟩
  have P10 : CPow 10 10 := ⟨by decide, by decide, by decide +kernel⟩
  refine ⟨_, rfl, _, rfl, use_draw hS h63 hk (by decide) (by decide) (by decide) fun al _ _ _ => ⟨rfl, ?_⟩⟩
  refine ⟨_, rfl, _, rfl, use_draw hS h63 hk (by decide) (by decide) (by decide) fun sd _ s0 s1 => ⟨_, _, rfl, rfl, ?_⟩⟩
  refine ⟨_, rfl, _, rfl, _, _, rfl, rfl, P10, use_draw hS h63 hk (by decide) (by decide) (by decide +kernel) fun fc _ f0 f1 => ?_⟩
  generalize hal : decide (V.int al = V.int 0) = alike
  obtain ⟨n0, en0⟩ : ∃ n : Nat, 1 + sd = (n : Int) := ⟨(1 + sd).toNat, by omega⟩
  refine ⟨fun σ H' => H' = H ∧ ∃ (d : Nat) (s7 : Option V), (alike = true → d < n0) ∧ (alike = false → d = 0) ∧ d < 8 ∧ σ = [some (.ref a), some (.int k), some (.int many), some (.bl alike), some (.int (1 + sd)), some (.int fc), some (.int ((26 : Int) ^ d)), s7, none, none], ?_, ?_⟩
  · refine ⟨_, rfl, _, rfl, ite2 (fun c => ?_) (fun c => ?_)⟩
    · refine ⟨_, rfl, _, rfl, _, rfl, use_draw hS h63 hk (by decide) (by decide) (by omega) fun dd _ d0 d1 => ⟨dd, rfl, by omega, by omega, ?_⟩⟩
      refine for_range (lo := 0) (n := dd.toNat) (fun i σ H' => H' = H ∧ ∃ s7 : Option V, σ = [some (.ref a), some (.int k), some (.int many), some (.bl alike), some (.int (1 + sd)), some (.int fc), some (.int ((26 : Int) ^ i)), s7, none, none]) ⟨rfl, none, rfl⟩ ?_ ?_
      · rintro i σ H' hi ⟨rfl, s7, rfl⟩
        refine ⟨_, rfl, _, _, rfl, rfl, .inr ⟨by decide, by decide⟩, rfl, some (.int ((0 : Int) + (i : Int))), ?_⟩
        rw [Int.pow_succ]
        rfl
      · rintro σ H' ⟨rfl, s7, rfl⟩
        exact ⟨rfl, dd.toNat, s7, fun _ => by omega, fun z => absurd c (by rw [z]; exact Bool.false_ne_true), by omega, rfl⟩
    · exact ⟨rfl, 0, none, fun z => absurd z c, fun _ => rfl, by decide, rfl⟩
  rintro σ H' ⟨rfl, d, s7, hd1, hd2, hd8, rfl⟩
  refine ⟨(by show 0 ≤ sizeLine; decide), fun pn hpn => ?_⟩
  have g0 := same_new hpn (.lst [])
  refine ⟨_, rfl, (many : Int), rfl, by omega, by omega, ?_⟩
  refine for_range (lo := 0) (n := (many : Int).toNat) (fun i σ H2 => Same H' H2 ∧ ∃ (nss : List (List Nat)) (n : Nat) (s1 s2 : Option V), d < n ∧ n ≤ 8 ∧ σ = [some (.ref a), some (.int k), some (.int many), some (.bl alike), some (.int (n : Int)), some (.int fc), some (.int ((26 : Int) ^ d)), s1, some (.ref pn), s2] ∧ H2 pn = some (.lst (txs nss)) ∧ nss.length = i ∧ nss.Nodup ∧ ∀ x ∈ nss, NameOk x)
    ⟨g0, [], n0, s7, none, ?_, by omega, by rw [← en0]; rfl, upd_same, rfl, List.nodup_nil, fun _ m => nomatch m⟩ ?_ ?_
  · cases alike with
    | true => exact hd1 rfl
    | false => rw [hd2 rfl]; omega
  · rintro i σ H2 hi ⟨g, nss, n, s1, s2, hdn, hn8, rfl, hn, hnl, hnd, hok⟩
    have hsl : (txs nss).length = i := by unfold txs; rw [List.length_map]; exact hnl
    have hSg := g.seq hS
    have hp : (0 : Int) < 26 ^ d := Int.pow_pos (by decide)
    have hp8 : (26 : Int) ^ d < 2 ^ 64 := by
      rcases (by omega : d = 0 ∨ d = 1 ∨ d = 2 ∨ d = 3 ∨ d = 4 ∨ d = 5 ∨ d = 6 ∨ d = 7) with e | e | e | e | e | e | e | e <;> (rw [e]; decide +kernel)
    refine ⟨_, rfl, _, rfl, _, rfl, _, rfl, _, rfl, _, _, rfl, rfl, .inl ⟨by decide, by decide⟩, _, _, rfl, rfl, use_draw hSg h63 hk (by omega) (by omega) (by decide) fun cd _ c0 c1 => ⟨_, _, rfl, rfl, .inl ⟨by omega, hp8⟩, _, _, rfl, rfl, ?_⟩⟩
    have hcode : 0 ≤ fc + 26 ^ d * cd := Int.add_nonneg f0 (Int.mul_nonneg (Int.le_of_lt hp) c0)
    refine ⟨fun σ H3 => H3 = H2 ∧ ∃ (n : Nat) (c : Int), 0 ≤ c ∧ d < n ∧ n ≤ 8 ∧ σ = [some (.ref a), some (.int k), some (.int many), some (.bl alike), some (.int (n : Int)), some (.int fc), some (.int ((26 : Int) ^ d)), some (.int ((0 : Int) + (i : Int))), some (.ref pn), some (.int c)], ?_, ?_⟩
    · refine ⟨_, rfl, _, rfl, ?_⟩
      cases hb : alike with
      | true => exact iteF ⟨rfl, n, _, hcode, hdn, hn8, rfl⟩
      | false =>
        refine iteT ?_
        have hd0 := hd2 hb
        refine ⟨_, rfl, _, rfl, _, rfl, _, _, rfl, rfl, .inl ⟨by decide, by decide⟩, _, _, rfl, rfl, use_draw hSg h63 hk (by omega) (by omega) (by decide) fun zd _ z0 z1 => ⟨_, _, rfl, rfl, ?_⟩⟩
        refine ⟨_, rfl, _, rfl, _, rfl, _, _, rfl, rfl, .inl ⟨by decide, by decide⟩, _, _, rfl, rfl, _, _, rfl, rfl, P10, use_draw hSg h63 hk (by omega) (by omega) (by decide +kernel) fun cd2 _ e0 _ => ?_⟩
        refine ⟨rfl, (1 + zd).toNat, cd2, e0, by omega, by omega, ?_⟩
        rw [show (((1 + zd).toNat : Nat) : Int) = 1 + zd from by omega]
        rfl
    clear hdn hn8 hcode
    rintro σ H3 ⟨rfl, n, c0', cc0, hdn, hn8, rfl⟩
    refine ⟨fun m σ H4 => H4 = H3 ∧ ∃ t : Nat, m = nss.length + 1 - t ∧ t ≤ nss.length ∧ σ = [some (.ref a), some (.int k), some (.int many), some (.bl alike), some (.int (n : Int)), some (.int fc), some (.int ((26 : Int) ^ d)), some (.int ((0 : Int) + (i : Int))), some (.ref pn), some (.int (c0' + (t : Int) * 26 ^ d))] ∧ ∀ j : Nat, j < t → nmL (c0' + (j : Int) * 26 ^ d) n ∈ nss,
      ⟨_, rfl, 0, rfl, Nat.zero_le _, by rw [show c0' + ((0 : Nat) : Int) * 26 ^ d = c0' from by simp], fun j hj => absurd hj (Nat.not_lt_zero _)⟩, ?_⟩
    rintro m σ H4 ⟨rfl, t, rfl, ht, rfl, htr⟩
    have hct : 0 ≤ c0' + (t : Int) * 26 ^ d := Int.add_nonneg cc0 (Int.mul_nonneg (by omega) (Int.le_of_lt hp))
    refine ⟨_, rfl, _, rfl, use_name rfl hct (by omega) ?_⟩
    refine ⟨_, rfl, pn, _, rfl, .inl (SqL.of hn), rfl, txs_flat nss, ?_⟩
    show ∃ b, V.bl (if false = true then !inV (.str (tx (nmL (c0' + (t : Int) * 26 ^ d) n))) (txs nss) else inV (.str (tx (nmL (c0' + (t : Int) * 26 ^ d) n))) (txs nss)) = .bl b ∧ _
    rw [if_neg Bool.false_ne_true, inV_txs]
    refine ⟨_, rfl, ite2 (fun c => ?_) (fun c => ?_)⟩
    · have hmem : nmL (c0' + (t : Int) * 26 ^ d) n ∈ nss := of_decide_eq_true c
      have htr' : ∀ j : Nat, j < t + 1 → nmL (c0' + (j : Int) * 26 ^ d) n ∈ nss := fun j hj => by
        rcases Nat.lt_succ_iff_lt_or_eq.mp hj with z | z
        · exact htr j z
        · rw [z]; exact hmem
      have hle := tries_leD (c := c0') (n := n) (t := t + 1) hdn (by omega) htr'
      refine ⟨_, fun _ _ z => z, ?_⟩
      refine ⟨_, rfl, _, rfl, _, _, rfl, rfl, ?_⟩
      refine ⟨_, (by omega : nss.length + 1 - (t + 1) < nss.length + 1 - t), rfl, t + 1, rfl, hle, ?_, htr'⟩
      rw [show c0' + ((t + 1 : Nat) : Int) * 26 ^ d = c0' + (t : Int) * 26 ^ d + 26 ^ d from by rw [Int.natCast_add, Int.add_mul]; show _ + (_ + 1 * _) = _; rw [Int.one_mul, Int.add_assoc]]
      rfl
    · have hnm : nmL (c0' + (t : Int) * 26 ^ d) n ∉ nss := of_decide_eq_false (Bool.eq_false_iff.mpr c)
      refine ⟨_, rfl, .inl ⟨rfl, _, SqL.of hn⟩, ?_⟩
      refine ⟨_, rfl, _, rfl, use_name rfl hct (by omega) ?_⟩
      refine ⟨pn, txs nss, _, rfl, rfl, hn, small1000 (by omega), g.upd_new hpn _, nss ++ [nmL (c0' + (t : Int) * 26 ^ d) n], n, _, _, hdn, hn8, rfl, ?_, ?_, nd_snoc hnd hnm, fun x hx => ?_⟩
      · rw [upd_same]
        unfold txs
        rw [List.map_append]
        rfl
      · rw [List.length_append, hnl]
        rfl
      · rcases List.mem_append.mp hx with z | z
        · exact hok x z
        · rw [List.mem_singleton.mp z]
          exact nmL_ok _ (by omega) hn8
  rintro σ H2 ⟨g, nss, n, s1, s2, hdn, hn8, rfl, hn, hnl, hnd, hok⟩
  exact ⟨_, rfl, q pn nss H2 g hn hpn (by omega) hnd hok⟩
abbrev sd__law_much : Stmt := top 30
abbrev N__law_much : List Str := ["_law_script", "_law_k", "_law_j", "_law_size"]
abbrev P__law_much : List Str := ["_law_script", "_law_k", "_law_j"]
theorem sc__law_much : FnScope N__law_much P__law_much (defScope sd__law_much) := ⟨rfl, rfl, rfl, by decide +kernel, rfl, by decide +kernel, by decide +kernel⟩
theorem ok__law_much (F : At K mg "_law_much" sd__law_much f fd) (D__law_draw : Dn P w K mg base 1 "_law_draw" ["_law_script", "_law_k", "_law_j", "_law_many"] (spDraw K)) : Dn P w K mg base 2 "_law_much" P__law_much (spMuch K) := by
  refine F.ok sc__law_much (fun vs H Q E h => ?_) (fun cdv A outer s H vs Q E hr h => ?_) (fun _ _ _ _ _ _ us hl => match us, hl with | [_, _, _], _ => rfl)
  · obtain ⟨a, ns, k, j, rfl, _⟩ := h.ex
    rfl
  obtain ⟨a, ns, k, j, rfl, hS, h63, hk, hj, hj2, q⟩ := h.ex
  refine ⟨_, (pss_cons (ps_set (i := 3) sc__law_much.nd rfl (Or.inl rfl) (pe_ix (ix_listK K) (pe_lst (pa_cons pe_int (pa_cons pe_int (pa_cons pe_int (pa_cons (pe_op op_pow pe_int pe_int) pa_nil))))) (pe_fn D__law_draw hr (pa_cons (pv 0) (pa_cons (pv 1) (pa_cons (pv 2) (pa_cons pe_int pa_nil))))) (fun _ _ => rfl)))
    (pss_one (ps_ret (pe_op op_add pe_int (pe_fn D__law_draw hr (pa_cons (pv 0) (pa_cons (pv 1) (pa_cons (pe_op op_add (pv 2) pe_int) (pa_cons (pv 3) pa_nil))))))))), ?_⟩
  refine ⟨_, _, rfl, rfl, ⟨by decide, by decide, by decide⟩, (by show 4 ≤ sizeLine; decide), fun p1 hp1 => ?_⟩
  have g1 := same_new hp1 (.lst [V.int 9, V.int 40, V.int 1000, V.int (10 ^ (9 : Int).toNat)])
  refine ⟨_, rfl, _, rfl, _, rfl, use_draw (g1.seq hS) h63 hk hj (by omega) (by decide) fun d _ d0 d1 => ?_⟩
  obtain ⟨B, hB, hB0, hB1⟩ : ∃ B : Int, atI [V.int 9, V.int 40, V.int 1000, V.int (10 ^ (9 : Int).toNat)] d = some (.int B) ∧ 0 < B ∧ B ≤ 1000000000 := by
    rcases (by omega : d = 0 ∨ d = 1 ∨ d = 2 ∨ d = 3) with e | e | e | e
    · exact ⟨9, by rw [e]; rfl, by decide, by decide⟩
    · exact ⟨40, by rw [e]; rfl, by decide, by decide⟩
    · exact ⟨1000, by rw [e]; rfl, by decide, by decide⟩
    · exact ⟨10 ^ (9 : Int).toNat, by rw [e]; rfl, by decide, by decide⟩
  refine ⟨p1, _, _, _, rfl, rfl, SqL.of upd_same, hB, ?_⟩
  refine ⟨_, rfl, _, rfl, _, rfl, _, _, rfl, rfl, _, rfl, use_draw (g1.seq hS) h63 hk (by omega) (by omega) hB0 fun e _ e0 e1 => ⟨_, _, rfl, rfl, ?_⟩⟩
  exact q (1 + e) _ (by omega) (by omega) g1
abbrev sd__law_int : Stmt := top 39
abbrev N__law_int : List Str := ["_law_found"]
abbrev P__law_int : List Str := ["_law_found"]
theorem sc__law_int : FnScope N__law_int P__law_int (defScope sd__law_int) := ⟨rfl, rfl, rfl, by decide +kernel, rfl, by decide +kernel, by decide +kernel⟩
theorem ok__law_int (F : At K mg "_law_int" sd__law_int f fd) (m_isinstance : mg "isinstance" = none) (m_int : mg "int" = none) (m_bool : mg "bool" = none) : Dn P w K mg base 1 "_law_int" P__law_int spInt := by
  refine F.ok sc__law_int (fun vs H Q E h => ?_) (fun cdv A outer s H vs Q E hr h => ?_) (fun _ _ _ _ _ _ us hl => match us, hl with | [_], _ => rfl)
  · obtain ⟨a, rfl, _⟩ := h
    rfl
  obtain ⟨i, rfl, q⟩ := h
  refine ⟨_, (pss_one (ps_ret (pe_and (pe_callB (call_isinstK K) (by rfl) m_isinstance PyProof.Rows.boot_isinstance (pa_cons (pv 0) (pa_cons (pe_ty PyProof.Rows.boot_int rfl m_int) pa_nil))) (pe_one (pe_not (pe_callB (call_isinstK K) (by rfl) m_isinstance PyProof.Rows.boot_isinstance (pa_cons (pv 0) (pa_cons (pe_ty PyProof.Rows.boot_bool rfl m_bool) pa_nil)))))))), ?_⟩
  refine ⟨_, rfl, _, _, _, _, rfl, TyOf.int i, isi_same, _, rfl, iteT ?_⟩
  refine ⟨_, rfl, _, _, _, _, rfl, TyOf.int i, isi_int_bool, _, rfl, ?_⟩
  exact q
abbrev sd__law_part_list : Stmt := top 40
abbrev N__law_part_list : List Str := ["_law_found", "_law_parts", "_law_at_here", "_law_one"]
abbrev P__law_part_list : List Str := ["_law_found", "_law_parts"]
theorem sc__law_part_list : FnScope N__law_part_list P__law_part_list (defScope sd__law_part_list) := ⟨rfl, rfl, rfl, by decide +kernel, rfl, by decide +kernel, by decide +kernel⟩
theorem ok__law_part_list (F : At K mg "_law_part_list" sd__law_part_list f fd) (D__law_int : Dn P w K mg base 1 "_law_int" ["_law_found"] spInt) (m_isinstance : mg "isinstance" = none) (m_list : mg "list" = none) (m_tuple : mg "tuple" = none) (m_str : mg "str" = none) (m_range : mg "range" = none) (m_len : mg "len" = none) : Dn P w K mg base 2 "_law_part_list" P__law_part_list (spPartList K) := by
  refine F.ok sc__law_part_list (fun vs H Q E h => ?_) (fun cdv A outer s H vs Q E hr h => ?_) (fun _ _ _ _ _ _ us hl => match us, hl with | [_, _], _ => rfl)
  · obtain ⟨r, l, ws, us, ps, rfl, _⟩ := h.ex
    rfl
  obtain ⟨r, l, ws, us, ps, rfl, hr0, hP, hl, hR, hN, hle, q⟩ := h.ex
  refine ⟨_, (pss_cons (ps_if (pt_pure (PW.pt (pw_or (pt_not (pt_val (pe_callB (call_isinstK K) (by rfl) m_isinstance PyProof.Rows.boot_isinstance (pa_cons (pv 0) (pa_cons (pe_ty PyProof.Rows.boot_list rfl m_list) pa_nil))))) (pw_or1 (pt_cmpR op_ne (pe_callB (call_lenK K) (by rfl) m_len PySem.boot_len (pa_cons (pv 0) pa_nil)) (pe_callB (call_lenK K) (by rfl) m_len PySem.boot_len (pa_cons (pv 1) pa_nil)) (nomark _)))))) (pss_one (ps_ret pe_bl)) pss_nil)
    (pss_cons (ps_for PassesOwn.never rfl (pi_range1 (by rfl) m_range (pa_cons (pe_callB (call_lenK K) (by rfl) m_len PySem.boot_len (pa_cons (pv 1) pa_nil)) pa_nil)) (pg_name (i := 2) sc__law_part_list.nd rfl (Or.inl rfl)) (pss_cons (ps_set (i := 3) sc__law_part_list.nd rfl (Or.inl rfl) (pe_ix (ix_listK K) (pv 0) (pv 2) (fun _ _ => rfl)))
    (pss_cons (ps_if (pt_pure (PW.pt (pw_or (pt_not (pt_val (pe_callB (call_isinstK K) (by rfl) m_isinstance PyProof.Rows.boot_isinstance (pa_cons (pv 3) (pa_cons (pe_ty PyProof.Rows.boot_tuple rfl m_tuple) pa_nil))))) (pw_or1 (pt_cmpR op_ne (pe_callB (call_lenK K) (by rfl) m_len PySem.boot_len (pa_cons (pv 3) pa_nil)) pe_int (nomark _)))))) (pss_one (ps_ret pe_bl)) pss_nil)
    (pss_cons (ps_if (pt_pure (PW.pt (pw_or (pt_not (pt_val (pe_callB (call_isinstK K) (by rfl) m_isinstance PyProof.Rows.boot_isinstance (pa_cons (pe_ix (ix_tupK K) (pv 3) pe_int (fun _ _ => rfl)) (pa_cons (pe_ty PyProof.Rows.boot_str rfl m_str) pa_nil))))) (pw_or1 (pt_not (pt_val (pe_callB (call_isinstK K) (by rfl) m_isinstance PyProof.Rows.boot_isinstance (pa_cons (pe_ix (ix_tupK K) (pv 3) pe_int (fun _ _ => rfl)) (pa_cons (pe_ty PyProof.Rows.boot_str rfl m_str) pa_nil))))))))) (pss_one (ps_ret pe_bl)) pss_nil)
    (pss_cons (ps_if (pt_pure (PW.pt (pw_or (pt_not (pt_val (pe_fn D__law_int hr (pa_cons (pe_ix (ix_tupK K) (pv 3) pe_int (fun _ _ => rfl)) pa_nil)))) (pw_or1 (pt_not (pt_val (pe_fn D__law_int hr (pa_cons (pe_ix (ix_tupK K) (pv 3) pe_int (fun _ _ => rfl)) pa_nil)))))))) (pss_one (ps_ret pe_bl)) pss_nil)
    (pss_one (ps_if (pt_cmpR (op_neDK K hr.units) (pv 3) (pe_tup (pa_cons (pe_ix (ix_seqK K) (pe_ix (ix_listK K) (pv 1) (pv 2) (fun _ _ => rfl)) pe_int (fun _ _ => rfl)) (pa_cons (pe_ix (ix_seqK K) (pe_ix (ix_listK K) (pv 1) (pv 2) (fun _ _ => rfl)) pe_int (fun _ _ => rfl)) (pa_cons (pe_ix (ix_seqK K) (pe_ix (ix_listK K) (pv 1) (pv 2) (fun _ _ => rfl)) pe_int (fun _ _ => rfl)) (pa_cons (pe_ix (ix_seqK K) (pe_ix (ix_listK K) (pv 1) (pv 2) (fun _ _ => rfl)) pe_int (fun _ _ => rfl)) pa_nil))))) (nomark _)) (pss_one (ps_ret pe_bl)) pss_nil)))))))
    (pss_one (ps_ret pe_bl)))), ?_⟩
  have hwl := hP.length
  have hul := hR.len
  refine ⟨false, ?_, iteF ?_⟩
  · refine ⟨_, rfl, _, _, _, _, rfl, TyOf.lst hr0, isi_same, _, rfl, iteF ?_⟩
    refine ⟨_, rfl, _, _, rfl, .inl (SqL.of hr0), _, rfl, _, _, rfl, .inl hl, rfl, _, rfl, ?_, rfl⟩
    show (!decide (V.int (ws.length : Int) = V.int (us.length : Int))) = false
    rw [decide_eq_true (by rw [hwl, hul])]
    rfl
  refine ⟨_, rfl, l, us, rfl, .inl hl, _, rfl, by omega, by omega, ?_⟩
  refine for_range (lo := 0) (n := ((us.length : Nat) : Int).toNat) (fun i σ H' => Same H H' ∧ ∃ (s1 s2 : Option V), σ = [some (.ref r), some (.ref l), s1, s2]) ⟨Same.refl _, none, none, rfl⟩ ?_ ?_
  · rintro i σ H' hi ⟨g, s1, s2, rfl⟩
    have e0 : (0 : Int) + (i : Int) = ((i : Nat) : Int) := by omega
    rw [e0]
    have hi' : i < ps.length := by omega
    have ep := List.getElem?_eq_getElem hi'
    obtain ⟨t, et, ht⟩ := hP.get ep
    obtain ⟨u, xs, eu, hu, x0, x1, x2, x3⟩ := (hR.mono g).at_ i _ ep
    have ht' := g _ _ ht
    obtain ⟨n1, n2⟩ := hN _ (List.getElem_mem hi')
    have hr1 := g _ _ hr0
    have hl1 := g.seq hl
    refine ⟨_, rfl, _, rfl, r, ws, i, .ref t, rfl, rfl, SqL.of hr1, atI_ref et, ?_⟩
    refine ⟨false, ⟨_, rfl, _, _, _, _, rfl, TyOf.tup ht', isi_same, _, rfl, iteF ⟨_, rfl, _, _, rfl, .inr (SqT.of ht'), rfl, _, rfl, rfl, rfl⟩⟩, iteF ?_⟩
    refine ⟨false, ⟨_, rfl, t, _, _, _, rfl, rfl, SqT.of ht', rfl, _, _, _, _, rfl, TyOf.str _, isi_same, _, rfl, iteF ⟨_, rfl, t, _, _, _, rfl, rfl, SqT.of ht', rfl, _, _, _, _, rfl, TyOf.str _, isi_same, _, rfl, rfl, rfl⟩⟩, iteF ?_⟩
    refine ⟨false, ⟨_, rfl, t, _, _, _, rfl, rfl, SqT.of ht', rfl, _, rfl, _, rfl, iteF ⟨_, rfl, t, _, _, _, rfl, rfl, SqT.of ht', rfl, _, rfl, _, rfl, rfl, rfl⟩⟩, iteF ?_⟩
    refine ⟨_, rfl, _, rfl, _, rfl, l, us, i, .ref u, rfl, rfl, hl1, atI_ref eu, hu.ix (i := 0) x0 ?_⟩
    refine ⟨_, rfl, _, rfl, l, us, i, .ref u, rfl, rfl, hl1, atI_ref eu, hu.ix (i := 1) x1 ?_⟩
    refine ⟨_, rfl, _, rfl, l, us, i, .ref u, rfl, rfl, hl1, atI_ref eu, hu.ix (i := 2) x2 ?_⟩
    refine ⟨_, rfl, _, rfl, l, us, i, .ref u, rfl, rfl, hl1, atI_ref eu, hu.ix (i := 3) x3 ?_⟩
    refine ⟨(by show 4 ≤ sizeLine; decide), fun p1 hp1 => ?_⟩
    have g1 := same_new hp1 (partO ps[i])
    refine ⟨_, _, dt_part (g1 _ _ ht'), dt_part (p := ps[i]) upd_same, shaped_part n1 n2, shaped_part n1 n2, _, rfl, ?_⟩
    rw [eqv_part]
    exact iteF ⟨g.trans g1, _, _, rfl⟩
  rintro σ H' ⟨g, s1, s2, rfl⟩
  exact q H' g
abbrev sd__law_begin : Stmt := top 41
abbrev N__law_begin : List Str := ["_law_owners", "_law_hold", "_law_owner"]
abbrev P__law_begin : List Str := ["_law_owners"]
theorem sc__law_begin : FnScope N__law_begin P__law_begin (defScope sd__law_begin) := ⟨rfl, rfl, rfl, by decide +kernel, rfl, by decide +kernel, by decide +kernel⟩
theorem ok__law_begin {T : TC} (F : At K mg "_law_begin" sd__law_begin f fd) (D_Hold : Cn P w K mg base 3 "Hold" T.hold ["self"] (spHInit T)) (D_Hold_sign : Mn P w K mg base 3 T.hold "sign" ["self", "owner"] (spHSign T)) : Dn P w K mg base 5 "_law_begin" P__law_begin (spBegin T K) := by
  refine F.ok sc__law_begin (fun vs H Q E h => ?_) (fun cdv A outer s H vs Q E hr h => ?_) (fun _ _ _ _ _ _ us hl => match us, hl with | [_], _ => rfl)
  · obtain ⟨l, own, n, ρ, rfl, _⟩ := h.ex
    rfl
  obtain ⟨l, own, n, ρ, rfl, hl, cl, nd, hnm, hle, g, q⟩ := h.ex
  refine ⟨_, (pss_cons (ps_set (i := 1) sc__law_begin.nd rfl (Or.inl rfl) (pe_mk0 D_Hold hr))
    (pss_cons (ps_for PassesOwn.never rfl (pi_listK K (pv 0)) (pg_name (i := 2) sc__law_begin.nd rfl (Or.inl rfl)) (pss_one (ps_expr (pe_mth D_Hold_sign hr (pv 1) (pa_cons (pv 2) pa_nil)))))
    (pss_one (ps_ret (pv 1))))), ?_⟩
  intro x dx hx hdx hne
  refine ⟨⟨x, dx, ρ, n, rfl, upd_same, (g.alloc hdx).alloc (by rw [upd_ne (Ne.symm hne)]; exact hx), g.none hx, fun ρ1 A H1 ea hh k => ⟨rfl, ?_⟩⟩⟩
  have F1 : Fr n ρ H ρ1 H1 := fun b o e _ => k b o (by rw [upd_ne (ne_of_none e hx), upd_ne (ne_of_none e hdx)]; exact e) (ne_of_none e hx)
  refine ⟨_, rfl, l, rfl, ⟨_, F1.seq hl cl⟩, ?_⟩
  refine for_list (K := K) (xs := own.map V.str) (fun i σ H' => ∃ ρ' A' s2, σ = [some (.ref l), some (.ref x), s2] ∧ A'.a = x ∧ HH T n ρ' A' H' ((own.take i).foldl signS hs0) ∧ Fr n ρ H ρ' H')
    ⟨ρ1, A, none, rfl, ea, hh, F1⟩ (fun i σ H' _ hp => by obtain ⟨_, _, _, _, _, _, f⟩ := hp; exact f.seq hl cl) ?_ ?_
  · rintro i y σ H' hy ⟨ρ', A', s2, rfl, ea', hh', F'⟩
    rw [List.getElem?_map] at hy
    obtain ⟨o, eo, rfl⟩ := Option.map_eq_some_iff.mp hy
    have hi := (List.getElem?_eq_some_iff.mp eo).1
    have hos := signs_own (own.take i) hs0
    have hos' : ((own.take i).foldl signS hs0).own = own.take i := by rw [hos]; rfl
    refine ⟨_, rfl, x, A'.dx, _, rfl, ea' ▸ hh'.h.oa, rfl, _, rfl, ⟨⟨n, ρ', A', _, o, by rw [ea']; rfl, hh', hnm o (List.mem_of_getElem? eo), ?_, ?_, fun ρ2 A2 H2 h2 e2 F2 => ?_⟩⟩⟩
    · rw [hos']
      intro m
      have h2 : (own.take (i + 1)).Nodup := nd.sublist (List.take_sublist _ _)
      rw [take_snoc eo] at h2
      exact (List.nodup_append.mp h2).2.2 o m o (List.mem_singleton.mpr rfl) rfl
    · rw [hos', List.length_take]
      omega
    · rw [take_snoc eo, List.foldl_append]
      exact ⟨ρ2, A2, _, rfl, e2.trans ea', h2, F'.trans F2⟩
  rintro σ H' ⟨ρ', A', s2, rfl, ea', hh', F'⟩
  rw [List.length_map, List.take_length] at hh'
  have := q ρ' A' H' hh' F'
  rw [ea'] at this
  exact ⟨_, rfl, this⟩
abbrev sd__law_model : Stmt := top 29
abbrev N__law_model : List Str := ["_law_owners"]
abbrev P__law_model : List Str := ["_law_owners"]
theorem sc__law_model : FnScope N__law_model P__law_model (defScope sd__law_model) := ⟨rfl, rfl, rfl, by decide +kernel, rfl, by decide +kernel, by decide +kernel⟩
theorem ok__law_model (F : At K mg "_law_model" sd__law_model f fd) (m_list : mg "list" = none) : Dn P w K mg base 1 "_law_model" P__law_model (spModel K) := by
  refine F.ok sc__law_model (fun vs H Q E h => ?_) (fun cdv A outer s H vs Q E hr h => ?_) (fun _ _ _ _ _ _ us hl => match us, hl with | [_], _ => rfl)
  · obtain ⟨l, own, n, ρ, rfl, _⟩ := h.ex
    rfl
  obtain ⟨l, own, n, ρ, rfl, hl, G, hle, q⟩ := h.ex
  refine ⟨_, (pss_one (ps_ret (pe_disp (pps_cons pe_str (pe_callTy (call_list_ofK K) (by rfl) m_list PyProof.Rows.boot_list (pa_cons (pv 0) pa_nil)) (pps_cons pe_str (pe_lst pa_nil) (pps_cons pe_str pe_int (pps_cons pe_str (pe_lst pa_nil) (pps_cons pe_str (pe_lst pa_nil) pps_nil))))) (by rfl) (by rfl) (fun z => nomatch z) (by with_unfolding_all decide)))), ?_⟩
  intro m hm
  have g0 := same_new hm (.dK [])
  have em0 : upd H m (.dK []) m = some (.dK []) := upd_same
  have hl0 := g0.seq hl
  generalize upd H m (.dK []) = H0 at *
  refine ⟨_, rfl, l, _, rfl, .inl hl0, fun lo hlo => ?_⟩
  have g1 := same_new hlo (.lst (own.map V.str))
  have eo1 : upd H0 lo (.lst (own.map V.str)) lo = some (.lst (own.map V.str)) := upd_same
  have em1 := g1 _ _ em0
  generalize upd H0 lo (.lst (own.map V.str)) = H1 at *
  refine ⟨(by show 0 ≤ sizeLine; decide), fun lp hlp => ?_⟩
  have g2 := same_new hlp (.lst [])
  have ep2 : upd H1 lp (.lst []) lp = some (.lst []) := upd_same
  have eo2 := g2 _ _ eo1
  have em2 := g2 _ _ em1
  show tPairs _ _ (upd H1 lp (.lst [])) _
  generalize upd H1 lp (.lst []) = H2 at *
  refine ⟨(by show 0 ≤ sizeLine; decide), fun la hla => ?_⟩
  have g3 := same_new hla (.lst [])
  have ea3 : upd H2 la (.lst []) la = some (.lst []) := upd_same
  have ep3 := g3 _ _ ep2
  have eo3 := g3 _ _ eo2
  have em3 := g3 _ _ em2
  show tPairs _ _ (upd H2 la (.lst [])) _
  generalize upd H2 la (.lst []) = H3 at *
  refine ⟨(by show 0 ≤ sizeLine; decide), fun lk hlk => ?_⟩
  have g4 := same_new hlk (.lst [])
  have ek4 : upd H3 lk (.lst []) lk = some (.lst []) := upd_same
  have ea4 := g4 _ _ ea3
  have ep4 := g4 _ _ ep3
  have eo4 := g4 _ _ eo3
  have em4 := g4 _ _ em3
  show upd H3 lk (.lst []) m = _ ∧ _
  generalize upd H3 lk (.lst []) = H4 at *
  have gA := ((g0.trans g1).trans g2).trans (g3.trans g4)
  have n1 : lo ≠ m := fun e => by rw [e, em0] at hlo; cases hlo
  have n2 : lp ≠ m := fun e => by rw [e, em1] at hlp; cases hlp
  have n3 : lp ≠ lo := fun e => by rw [e, eo1] at hlp; cases hlp
  have n4 : la ≠ m := fun e => by rw [e, em2] at hla; cases hla
  have n5 : la ≠ lo := fun e => by rw [e, eo2] at hla; cases hla
  have n6 : la ≠ lp := fun e => by rw [e, ep2] at hla; cases hla
  have n7 : lk ≠ m := fun e => by rw [e, em3] at hlk; cases hlk
  have n8 : lk ≠ lo := fun e => by rw [e, eo3] at hlk; cases hlk
  have n9 : lk ≠ lp := fun e => by rw [e, ep3] at hlk; cases hlk
  have nA : lk ≠ la := fun e => by rw [e, ea3] at hlk; cases hlk
  refine ⟨em4, [(Sum.inr "owners", .ref lo), (Sum.inr "parts", .ref lp), (Sum.inr "bottom", .int 1), (Sum.inr "ashore", .ref la), (Sum.inr "known", .ref lk)], rfl, by show 5 ≤ 15; decide, ?_⟩
  have eK : mergeK [] [(Sum.inr "owners", .ref lo), (Sum.inr "parts", .ref lp), (Sum.inr "bottom", .int 1), (Sum.inr "ashore", .ref la), (Sum.inr "known", .ref lk)] = bookK ⟨m, lo, lp, la, lk, []⟩ 1 := rfl
  rw [eK]
  have u1 : upd H4 m (.dK (bookK ⟨m, lo, lp, la, lk, []⟩ 1)) m = some (.dK (bookK ⟨m, lo, lp, la, lk, []⟩ 1)) := upd_same
  have u2 : upd H4 m (.dK (bookK ⟨m, lo, lp, la, lk, []⟩ 1)) lo = some (.lst (own.map V.str)) := by rw [upd_ne n1]; exact eo4
  have u3 : upd H4 m (.dK (bookK ⟨m, lo, lp, la, lk, []⟩ 1)) lp = some (.lst []) := by rw [upd_ne n2]; exact ep4
  have u4 : upd H4 m (.dK (bookK ⟨m, lo, lp, la, lk, []⟩ 1)) la = some (.lst []) := by rw [upd_ne n4]; exact ea4
  have u5 : upd H4 m (.dK (bookK ⟨m, lo, lp, la, lk, []⟩ 1)) lk = some (.lst []) := by rw [upd_ne n7]; exact ek4
  have G4 := (G.same gA).wr (a := m) (o := .dK (bookK ⟨m, lo, lp, la, lk, []⟩ 1)) rfl
  have hz : ∀ b o, H b = some o → upd H4 m (.dK (bookK ⟨m, lo, lp, la, lk, []⟩ 1)) b = some o := fun b o e => by
    rw [upd_ne (fun z => by rw [z, hm] at e; cases e)]; exact gA _ _ e
  have y1 : H lo = none := g0.free hlo
  have y2 : H lp = none := (g0.trans g1).free hlp
  have y3 : H la = none := ((g0.trans g1).trans g2).free hla
  have y4 : H lk = none := (((g0.trans g1).trans g2).trans g3).free hlk
  generalize upd H4 m (.dK (bookK ⟨m, lo, lp, la, lk, []⟩ 1)) = H5 at *
  refine q (updC (updC (updC (updC (updC ρ m (n, 20, ⟨#[]⟩)) lo (n, 21, ⟨#[]⟩)) lp (n, 22, ⟨#[]⟩)) la (n, 25, ⟨#[]⟩)) lk (n, 26, ⟨#[]⟩)) ⟨m, lo, lp, la, lk, []⟩ H5 (((((G4.color u1 rfl).color u2 rfl).color u3 rfl).color u4 rfl).color u5 rfl) ⟨u1, ?_, u2, ?_, u3, ?_, ⟨[], u4, .nil⟩, ?_, u5, updC_same, rfl, fun i p q e => by simp at e⟩ (fun b o e => ⟨hz b o e, ?_⟩)
  · show updC _ lk _ m = _
    rw [updC_ne (Ne.symm n7), updC_ne (Ne.symm n4), updC_ne (Ne.symm n2), updC_ne (Ne.symm n1), updC_same]
  · show updC _ lk _ lo = _
    rw [updC_ne (Ne.symm n8), updC_ne (Ne.symm n5), updC_ne (Ne.symm n3), updC_same]
  · show updC _ lk _ lp = _
    rw [updC_ne (Ne.symm n9), updC_ne (Ne.symm n6), updC_same]
  · show updC _ lk _ la = _
    rw [updC_ne (Ne.symm nA), updC_same]
  · rw [updC_ne (ne_of_none e y4), updC_ne (ne_of_none e y3), updC_ne (ne_of_none e y2), updC_ne (ne_of_none e y1), updC_ne (ne_of_none e hm)]
abbrev sd__law_seat : Stmt := top 31
abbrev N__law_seat : List Str := ["_law_owners", "_law_name_here", "_law_at_here"]
abbrev P__law_seat : List Str := ["_law_owners", "_law_name_here"]
theorem sc__law_seat : FnScope N__law_seat P__law_seat (defScope sd__law_seat) := ⟨rfl, rfl, rfl, by decide +kernel, rfl, by decide +kernel, by decide +kernel⟩
theorem ok__law_seat (F : At K mg "_law_seat" sd__law_seat f fd) (m_len : mg "len" = none) (m_range : mg "range" = none) : Dn P w K mg base 1 "_law_seat" P__law_seat (spSeat K) := by
  refine F.ok sc__law_seat (fun vs H Q E h => ?_) (fun cdv A outer s H vs Q E hr h => ?_) (fun _ _ _ _ _ _ us hl => match us, hl with | [_, _], _ => rfl)
  · obtain ⟨l, own, o, rfl, _⟩ := h.ex
    rfl
  obtain ⟨l, own, o, rfl, hl, ho, hle, q⟩ := h.ex
  refine ⟨_, (pss_cons (ps_for PassesOwn.never rfl (pi_range1 (by rfl) m_range (pa_cons (pe_callB (call_lenK K) (by rfl) m_len PySem.boot_len (pa_cons (pv 0) pa_nil)) pa_nil)) (pg_name (i := 2) sc__law_seat.nd rfl (Or.inl rfl)) (pss_one (ps_if (pt_cmpR op_eq (pe_ix (ix_listK K) (pv 0) (pv 2) (fun _ _ => rfl)) (pv 1) (nomark _)) (pss_one (ps_ret (pv 2))) pss_nil)))
    (pss_one (ps_ret (pe_un un_neg pe_int)))), ?_⟩
  have ll : (own.map V.str).length = own.length := List.length_map _
  refine ⟨_, rfl, l, _, rfl, .inl hl, _, rfl, by omega, by omega, ?_⟩
  refine for_range (lo := 0) (n := (((own.map V.str).length : Nat) : Int).toNat) (fun i σ H' => H' = H ∧ o ∉ own.take i ∧ ∃ s2, σ = [some (.ref l), some (.str o), s2]) ⟨rfl, by simp, _, rfl⟩ ?_ ?_
  · rintro i σ H' hi ⟨rfl, hn, s2, rfl⟩
    have e0 : (0 : Int) + (i : Int) = ((i : Nat) : Int) := by omega
    rw [e0]
    have hio : i < own.length := by omega
    have ei := List.getElem?_eq_getElem hio
    refine ⟨_, rfl, _, rfl, l, _, _, _, rfl, rfl, hl, atI_nat (by rw [List.getElem?_map, ei]; rfl), _, rfl, rfl, _, rfl, ite2 (fun c => ?_) (fun c => ?_)⟩
    · have c' : own[i] = o := V.str.inj (of_decide_eq_true c)
      refine ⟨_, rfl, ?_⟩
      have : own.idxOf o = i := by
        have h1 : own.idxOf o ≤ i := by
          rcases Nat.lt_or_ge i (own.idxOf o) with z | z
          · exact absurd c' (by simpa using List.not_of_lt_findIdx z)
          · exact z
        rcases Nat.lt_or_ge (own.idxOf o) i with z | z
        · exact absurd (List.mem_of_getElem? (i := own.idxOf o) (by rw [List.getElem?_take, if_pos z]; exact idxOf_get ho)) hn
        · omega
      rw [← this]; exact q
    · refine ⟨rfl, fun m => ?_, _, rfl⟩
      rw [take_snoc ei] at m
      rcases List.mem_append.mp m with z | z
      · exact hn z
      · exact c (decide_eq_true (by rw [List.mem_singleton.mp z]))
  rintro σ H' ⟨rfl, hn, s2, rfl⟩
  rw [show (((own.map V.str).length : Nat) : Int).toNat = own.length from by omega, List.take_length] at hn
  exact absurd ho hn
abbrev sd__law_new_part : Stmt := top 32
abbrev N__law_new_part : List Str := ["_law_model_here", "_law_name_here", "_law_owner", "_law_worth", "_law_weight", "_law_tops"]
abbrev P__law_new_part : List Str := ["_law_model_here", "_law_name_here", "_law_owner", "_law_worth", "_law_weight"]
theorem sc__law_new_part : FnScope N__law_new_part P__law_new_part (defScope sd__law_new_part) := ⟨rfl, rfl, rfl, by decide +kernel, rfl, by decide +kernel, by decide +kernel⟩
theorem ok__law_new_part (F : At K mg "_law_new_part" sd__law_new_part f fd) (D__law_seat : Dn P w K mg base 1 "_law_seat" ["_law_owners", "_law_name_here"] (spSeat K)) : Dn P w K mg base 2 "_law_new_part" P__law_new_part spNewPart := by
  refine F.ok sc__law_new_part (fun vs H Q E h => ?_) (fun cdv A outer s H vs Q E hr h => ?_) (fun _ _ _ _ _ _ us hl => match us, hl with | [_, _, _, _, _], _ => rfl)
  · obtain ⟨n, ρ, B, b, x, o, wo, we, rfl, _⟩ := h.ex
    rfl
  obtain ⟨n, ρ, B, b, x, o, wo, we, rfl, G, h, ho, hol, hpl, hkl, q⟩ := h.ex
  refine ⟨_, (pss_cons (ps_setC (i := 5) ["_law_one"] [none] sc__law_new_part.nd rfl rfl rfl (pi_listK K (pe_dget (hu_of hr) (pv 0) pe_str (fun _ _ => rfl))) (fun _ _ _ _ => (pg_name (i := 0) (show List.Nodup (["_law_one"] : List Str) from by decide +kernel) rfl (Or.inl rfl))) (fun _ _ _ _ => pe_int) rfl (by rfl) (by rfl))
    (pss_cons (ps_asg (pe_dget (hu_of hr) (pv 0) pe_str (fun _ _ => rfl)) (pg_sub (pv 5) (pe_fn D__law_seat hr (pa_cons (pe_dget (hu_of hr) (pv 0) pe_str (fun _ _ => rfl)) (pa_cons (pv 2) pa_nil))) set_list))
    (pss_cons (ps_expr (pe_bm PySem.F.plainAttrs_list PySem.F.slot_list_append PySem.F.type_list_append mt_append (pe_dget (hu_of hr) (pv 0) pe_str (fun _ _ => rfl)) (pa_cons (pe_lst (pa_cons (pv 1) (pa_cons (pv 2) (pa_cons (pv 3) (pa_cons (pv 4) (pa_cons (pv 5) pa_nil)))))) pa_nil)))
    (pss_one (ps_expr (pe_bm PySem.F.plainAttrs_list PySem.F.slot_list_append PySem.F.type_list_append mt_append (pe_dget (hu_of hr) (pv 0) pe_str (fun _ _ => rfl)) (pa_cons (pv 1) pa_nil))))))), ?_⟩
  refine ⟨_, rfl, B.m, _, rfl, DGet.k (k := Sum.inr "owners") h.om, B.lo, rfl, ⟨_, SqL.of h.oo⟩, fun l0 hl0 => ?_⟩
  have hol2 : (b.own.map V.str).length = b.own.length := List.length_map _
  refine comp_1 (J := Itl K B.lo) (n := (b.own.map V.str).length) 0 (fun i o H' => Same H H' ∧ o = (List.replicate i (0 : Int)).map V.int) (by omega) ⟨same_new hl0 _, rfl⟩ (fun i o H' hi _ hp => ⟨_, _, SqL.of (hp.1 _ _ h.oo), List.getElem?_eq_getElem hi⟩) (fun o H' _ hp => ⟨_, SqL.of (hp.1 _ _ h.oo), Nat.le_refl _⟩) ?_ ?_
  · rintro i y o H2 H3 hi hol ha ⟨g, e⟩ ⟨rfl, hy⟩
    refine ⟨ha, g.upd_new hl0 _, ?_⟩
    subst e
    rw [List.replicate_succ', List.map_append]
    rfl
  rintro o1 H1 _ ha ⟨g1, e⟩
  subst e
  rw [hol2] at ha
  have h1 := h.mono g1
  have il : b.own.idxOf o < b.own.length := List.idxOf_lt_length_of_mem ho
  have rl : ((List.replicate b.own.length (0 : Int)).map V.int).length = b.own.length := by rw [List.length_map, List.length_replicate]
  refine ⟨_, rfl, B.m, _, rfl, DGet.k (k := Sum.inr "bottom") h1.om, _, rfl, _, rfl, B.m, _, rfl, DGet.k (k := Sum.inr "owners") h1.om, _, rfl, ⟨⟨B.lo, b.own, o, rfl, SqL.of h1.oo, ho, hol, ?_⟩⟩⟩
  refine ⟨l0, _, _, _, rfl, rfl, ha, by rw [rl]; exact ixN_nat il, ?_⟩
  rw [← List.map_set]
  have g2 := g1.upd_new hl0 (.lst (((List.replicate b.own.length (0 : Int)).set (b.own.idxOf o) b.bot).map V.int))
  have ha2 : upd H1 l0 (.lst (((List.replicate b.own.length (0 : Int)).set (b.own.idxOf o) b.bot).map V.int)) l0 = some (.lst (((List.replicate b.own.length (0 : Int)).set (b.own.idxOf o) b.bot).map V.int)) := upd_same
  show tSeq _ _ _ _ (upd H1 l0 (.lst (((List.replicate b.own.length (0 : Int)).set (b.own.idxOf o) b.bot).map V.int)))
  generalize upd H1 l0 (.lst (((List.replicate b.own.length (0 : Int)).set (b.own.idxOf o) b.bot).map V.int)) = H2 at *
  have h2 := h.mono g2
  refine ⟨_, rfl, B.m, _, rfl, DGet.k (k := Sum.inr "parts") h2.om, .inl ⟨rfl, _, SqL.of h2.op⟩, _, rfl, _, rfl, _, rfl, _, rfl, _, rfl, (by show 5 ≤ sizeLine; decide), fun p hp => ?_⟩
  have g3 := same_new hp (bpO ⟨x, o, wo, we, (List.replicate b.own.length (0 : Int)).set (b.own.idxOf o) b.bot⟩ l0)
  have hp3 : upd H2 p (bpO ⟨x, o, wo, we, (List.replicate b.own.length (0 : Int)).set (b.own.idxOf o) b.bot⟩ l0) p = some (bpO ⟨x, o, wo, we, (List.replicate b.own.length (0 : Int)).set (b.own.idxOf o) b.bot⟩ l0) := upd_same
  show tNil _ (upd H2 p (bpO ⟨x, o, wo, we, (List.replicate b.own.length (0 : Int)).set (b.own.idxOf o) b.bot⟩ l0)) _
  generalize upd H2 p (bpO ⟨x, o, wo, we, (List.replicate b.own.length (0 : Int)).set (b.own.idxOf o) b.bot⟩ l0) = H3 at *
  have hpn : H p = none := g2.free hp
  have g23 := g2.trans g3
  have cl0 : ρ l0 = none := G.none hl0
  have np : p ≠ l0 := fun e => by rw [e, ha2] at hp; cases hp
  have cp : updC ρ l0 (n, 24, x) p = none := by rw [updC_ne np]; exact G.none hpn
  have h3 : BookAt n (updC (updC ρ l0 (n, 24, x)) p (n, 23, x)) B H3 b := ((h.mono g23).col cl0).col cp
  have G3 : Gh (updC (updC ρ l0 (n, 24, x)) p (n, 23, x)) H3 := ((G.same g23).color (g3 _ _ ha2) rfl).color hp3 rfl
  have F3 : Fr n ρ H (updC (updC ρ l0 (n, 24, x)) p (n, 23, x)) H3 := ((Fr.of_same g23).colorNew hl0).colorNew hpn
  have c1 : updC (updC ρ l0 (n, 24, x)) p (n, 23, x) p = some (n, 23, x) := updC_same
  have c2 : updC (updC ρ l0 (n, 24, x)) p (n, 23, x) l0 = some (n, 24, x) := by rw [updC_ne (Ne.symm np), updC_same]
  have ha3 := g3 _ _ ha2
  refine ⟨B.lp, _, _, rfl, rfl, h3.op, by rw [List.length_map, h.ql]; exact small1000 hpl, ?_⟩
  rw [show B.qs.map (fun q => V.ref q.1) ++ [V.ref p] = (B.qs ++ [(p, l0)]).map (fun q => V.ref q.1) from by rw [List.map_append]; rfl]
  have h4 := h3.add_pt G3 (p := ⟨x, o, wo, we, (List.replicate b.own.length (0 : Int)).set (b.own.idxOf o) b.bot⟩) (q := (p, l0)) hp3 ha3 c1 c2
  have G4 := G3.wr (a := B.lp) (o := .lst ((B.qs ++ [(p, l0)]).map fun q => V.ref q.1)) rfl
  have F4 := F3.trans (Fr.write (o := .lst ((B.qs ++ [(p, l0)]).map fun q => V.ref q.1)) h3.cp)
  generalize upd H3 B.lp (.lst ((B.qs ++ [(p, l0)]).map fun q => V.ref q.1)) = H4 at *
  refine ⟨_, rfl, B.m, _, rfl, DGet.k (k := Sum.inr "known") h4.om, .inl ⟨rfl, _, SqL.of h4.ok⟩, _, rfl, B.lk, _, _, rfl, rfl, h4.ok, by rw [List.length_map]; exact small1000 hkl, ?_⟩
  rw [show b.kno.map V.str ++ [V.str x] = (b.kno ++ [x]).map V.str from by rw [List.map_append]; rfl]
  exact q _ _ _ (G4.wr rfl) (h4.set_kno G4 (b.kno ++ [x])) rfl (F4.trans (Fr.write h4.ck))
abbrev sd__law_at : Stmt := top 35
abbrev N__law_at : List Str := ["_law_parts", "_law_name_here", "_law_at_here"]
abbrev P__law_at : List Str := ["_law_parts", "_law_name_here"]
theorem sc__law_at : FnScope N__law_at P__law_at (defScope sd__law_at) := ⟨rfl, rfl, rfl, by decide +kernel, rfl, by decide +kernel, by decide +kernel⟩
theorem ok__law_at (F : At K mg "_law_at" sd__law_at f fd) (m_len : mg "len" = none) (m_range : mg "range" = none) : Dn P w K mg base 1 "_law_at" P__law_at (spLAt K) := by
  refine F.ok sc__law_at (fun vs H Q E h => ?_) (fun cdv A outer s H vs Q E hr h => ?_) (fun _ _ _ _ _ _ us hl => match us, hl with | [_, _], _ => rfl)
  · obtain ⟨l, us, ws, j, r, rfl, _⟩ := h.ex
    rfl
  obtain ⟨l, us, ws, j, r, rfl, hl, hW, nd, hle, ej, q⟩ := h.ex
  refine ⟨_, (pss_cons (ps_for PassesOwn.never rfl (pi_range1 (by rfl) m_range (pa_cons (pe_callB (call_lenK K) (by rfl) m_len PySem.boot_len (pa_cons (pv 0) pa_nil)) pa_nil)) (pg_name (i := 2) sc__law_at.nd rfl (Or.inl rfl)) (pss_one (ps_if (pt_cmpR op_eq (pe_ix (ix_seqK K) (pe_ix (ix_listK K) (pv 0) (pv 2) (fun _ _ => rfl)) pe_int (fun _ _ => rfl)) (pv 1) (nomark _)) (pss_one (ps_ret (pv 2))) pss_nil)))
    (pss_one (ps_ret (pe_un un_neg pe_int)))), ?_⟩
  have ll := hW.len
  have hj : j < ws.length := (List.getElem?_eq_some_iff.mp ej).1
  refine ⟨_, rfl, l, _, rfl, .inl hl, _, rfl, by omega, by omega, ?_⟩
  refine for_range (lo := 0) (n := ((us.length : Nat) : Int).toNat) (fun i σ H' => H' = H ∧ i ≤ j ∧ ∃ s2, σ = [some (.ref l), some (.str r.1), s2]) ⟨rfl, Nat.zero_le _, _, rfl⟩ ?_ ?_
  · rintro i σ H' hi ⟨rfl, hn, s2, rfl⟩
    have e0 : (0 : Int) + (i : Int) = ((i : Nat) : Int) := by omega
    rw [e0]
    have hio : i < ws.length := by omega
    have ei := List.getElem?_eq_getElem hio
    obtain ⟨a, xs, ea, hsq, x0, _⟩ := hW.at_ i _ ei
    refine ⟨_, rfl, _, rfl, l, _, _, _, rfl, rfl, hl, atI_nat ea, hsq.ix (i := 0) x0 ?_⟩
    refine ⟨_, rfl, rfl, _, rfl, ite2 (fun c => ?_) (fun c => ?_)⟩
    · have c' : (ws[i]).1 = r.1 := V.str.inj (of_decide_eq_true c)
      have : i = j := by
        have r1 : (ws.map (fun r : Row => r.1))[i]? = some (ws[i]).1 := by rw [List.getElem?_map, ei]; rfl
        have r2 : (ws.map (fun r : Row => r.1))[j]? = some r.1 := by rw [List.getElem?_map, ej]; rfl
        exact (List.getElem?_inj (by rw [List.length_map]; exact hio) nd).mp (r1.trans (by rw [c']; exact r2.symm))
      subst this
      exact ⟨_, rfl, q⟩
    · refine ⟨rfl, ?_, _, rfl⟩
      rcases Nat.lt_or_ge i j with z | z
      · exact z
      · have : i = j := by omega
        subst this
        rw [ei] at ej
        cases ej
        exact absurd (decide_eq_true rfl) c
  rintro σ H' ⟨rfl, hn, s2, rfl⟩
  omega
abbrev sd__law_rows : Stmt := top 34
abbrev N__law_rows : List Str := ["_law_script", "_law_k", "_law_parts", "_law_spare", "_law_order", "_law_rows_here", "_law_at_here", "_law_way", "_law_amount"]
abbrev P__law_rows : List Str := ["_law_script", "_law_k", "_law_parts"]
theorem sc__law_rows : FnScope N__law_rows P__law_rows (defScope sd__law_rows) := ⟨rfl, rfl, rfl, by decide +kernel, rfl, by decide +kernel, by decide +kernel⟩
theorem ok__law_rows (F : At K mg "_law_rows" sd__law_rows f fd) (D__law_draw : Dn P w K mg base 1 "_law_draw" ["_law_script", "_law_k", "_law_j", "_law_many"] (spDraw K)) (m_len : mg "len" = none) (m_range : mg "range" = none) (m_list : mg "list" = none) (m_sum : mg "sum" = none) (m_min : mg "min" = none) : Dn P w K mg base 2 "_law_rows" P__law_rows (spLRows K) := by
  refine F.ok sc__law_rows (fun vs H Q E h => ?_) (fun cdv A outer s H vs Q E hr h => ?_) (fun _ _ _ _ _ _ us hl => match us, hl with | [_, _, _], _ => rfl)
  · obtain ⟨a, l, ns, k, us, ws, rfl, _⟩ := h.ex
    rfl
  obtain ⟨a, l, ns, k, us, ws, rfl, hS, h63, hk0, hk1, hl, hW, nd, hle, hw1, q⟩ := h.ex
  refine ⟨_, (pss_cons (ps_set (i := 3) sc__law_rows.nd rfl (Or.inl rfl) (pe_op op_sub (pe_callB (call_sumK K rfl) (by rfl) m_sum PyProof.Rows.boot_sum (pa_cons (pe_comp ["_law_part"] [none] rfl (pi_listK K (pv 2)) (fun _ _ _ _ => (pg_name (i := 0) (show List.Nodup (["_law_part"] : List Str) from by decide +kernel) rfl (Or.inl rfl))) (fun _ _ _ _ => (pe_ix (ix_seqK K) (pv 0) pe_int (fun _ _ => rfl))) rfl (by rfl)) pa_nil)) pe_int))
    (pss_cons (ps_set (i := 4) sc__law_rows.nd rfl (Or.inl rfl) (pe_callTy (call_list_rng rfl) (by rfl) m_list PyProof.Rows.boot_list (pa_cons (pe_range1 (by rfl) m_range (pa_cons (pe_callB (call_lenK K) (by rfl) m_len PySem.boot_len (pa_cons (pv 2) pa_nil)) pa_nil)) pa_nil)))
    (pss_cons (ps_ifJ (pt_cmpR op_eq (pe_fn D__law_draw hr (pa_cons (pv 0) (pa_cons (pv 1) (pa_cons pe_int (pa_cons pe_int pa_nil))))) pe_int (nomark _)) (pss_one (ps_set (i := 4) sc__law_rows.nd rfl (Or.inl rfl) (pe_rev K (pv 4) (pe_un un_neg pe_int)))) pss_nil)
    (pss_cons (ps_set (i := 5) sc__law_rows.nd rfl (Or.inl rfl) (pe_lst pa_nil))
    (pss_cons (ps_for PassesOwn.never rfl (pi_listK K (pv 4)) (pg_name (i := 6) sc__law_rows.nd rfl (Or.inl rfl)) (pss_cons (ps_set (i := 7) sc__law_rows.nd rfl (Or.inl rfl) (pe_fn D__law_draw hr (pa_cons (pv 0) (pa_cons (pv 1) (pa_cons (pe_op op_add pe_int (pe_op op_mul pe_int (pv 6))) (pa_cons pe_int pa_nil))))))
    (pss_cons (ps_set (i := 8) sc__law_rows.nd rfl (Or.inl rfl) (pe_callB (call_min3 rfl) (by rfl) m_min PyProof.Rows.boot_min (pa_cons (pe_ix (ix_seqK K) (pe_ix (ix_listK K) (pv 2) (pv 6) (fun _ _ => rfl)) pe_int (fun _ _ => rfl)) (pa_cons (pv 3) (pa_cons (pe_op op_pow pe_int pe_int) pa_nil)))))
    (pss_cons (ps_ifJ (pt_pure (PW.pt (pw_and (pt_cmpR op_eq (pv 7) pe_int (nomark _)) (pw_and1 (pt_cmpR op_gt (pv 8) pe_int (nomark _)))))) (pss_one (ps_set (i := 8) sc__law_rows.nd rfl (Or.inl rfl) (pe_op op_add pe_int (pe_fn D__law_draw hr (pa_cons (pv 0) (pa_cons (pv 1) (pa_cons (pe_op op_add pe_int (pe_op op_mul pe_int (pv 6))) (pa_cons (pv 8) pa_nil)))))))) pss_nil)
    (pss_one (ps_ifJ (pt_pure (PW.pt (pw_and (pt_cmpR op_gt (pv 7) pe_int (nomark _)) (pw_and1 (pt_cmpR op_gt (pv 8) pe_int (nomark _)))))) (pss_cons (ps_expr (pe_bm PySem.F.plainAttrs_list PySem.F.slot_list_append PySem.F.type_list_append mt_append (pv 5) (pa_cons (pe_tup (pa_cons (pe_ix (ix_seqK K) (pe_ix (ix_listK K) (pv 2) (pv 6) (fun _ _ => rfl)) pe_int (fun _ _ => rfl)) (pa_cons (pv 8) pa_nil))) pa_nil)))
    (pss_one (ps_set (i := 3) sc__law_rows.nd rfl (Or.inl rfl) (pe_op op_sub (pv 3) (pv 8))))) pss_nil))))))
    (pss_one (ps_ret (pv 5)))))))), ?_⟩
  have ll := hW.len
  refine ⟨_, rfl, l, rfl, ⟨_, hl⟩, fun l0 hl0 => ?_⟩
  refine comp_1 (J := Itl K l) (n := us.length) 0 (fun i o H' => Same H H' ∧ o = ((ws.take i).map (fun r : Row => r.2)).map V.int) (by omega) ⟨same_new hl0 _, rfl⟩ (fun i o H' hi _ hp => ⟨_, _, hp.1.seq hl, List.getElem?_eq_getElem hi⟩) (fun o H' _ hp => ⟨_, hp.1.seq hl, Nat.le_refl _⟩) ?_ ?_
  · rintro i y o H2 H3 hi hol ha ⟨g, e⟩ ⟨rfl, hy⟩
    have hiw : i < ws.length := by omega
    have ei := List.getElem?_eq_getElem hiw
    obtain ⟨ar, xs, ea, hsq, x0, x2⟩ := hW.at_ i _ ei
    have ey := hy _ (g.seq hl)
    rw [ea] at ey
    cases ey
    refine ⟨_, rfl, (g.sq hsq).ix (i := 2) x2 ?_⟩
    refine ⟨ha, g.upd_new hl0 _, ?_⟩
    subst e
    rw [take_snoc ei, List.map_append, List.map_append]
    rfl
  rintro o1 H1 _ ha ⟨g1, e⟩
  rw [ll, List.take_length] at e
  subst e
  refine ⟨l0, ws.map (fun r : Row => r.2), rfl, SqL.of ha, _, _, rfl, rfl, ?_⟩
  show gName 3 (.int (lostS ws - 1)) _ _ _
  refine ⟨_, rfl, l, _, rfl, .inl (g1.seq hl), _, rfl, fun pr hpr => ?_⟩
  refine ⟨pr, ws.length, rfl, ?_, by omega, fun po hpo => ?_⟩
  · rw [upd_same, ll]
  have gA := (same_new hpr (.rng 0 ((us.length : Nat) : Int))).trans (same_new hpo (.lst ((L2.upTo ws.length).map V.int)))
  have gB := g1.trans gA
  have hord : upd (upd H1 pr (.rng 0 ((us.length : Nat) : Int))) po (.lst ((L2.upTo ws.length).map V.int)) po = some (.lst ((L2.upTo ws.length).map V.int)) := upd_same
  generalize upd (upd H1 pr (.rng 0 ((us.length : Nat) : Int))) po (.lst ((L2.upTo ws.length).map V.int)) = H2 at *
  have ndo : (L2.upTo ws.length).Nodup := by
    unfold L2.upTo
    refine List.Pairwise.map _ (fun x y h e => h (by omega)) List.nodup_range
  have rng : ∀ x ∈ L2.upTo ws.length, 0 ≤ x ∧ x < (ws.length : Int) := fun x hx => by
    unfold L2.upTo at hx
    obtain ⟨i, hi, rfl⟩ := List.mem_map.mp hx
    have := List.mem_range.mp hi
    omega
  have lup : (L2.upTo ws.length).length = ws.length := by unfold L2.upTo; rw [List.length_map, List.length_range]
  refine ⟨fun σ H3 => Same H H3 ∧ ∃ (pq : Addr) (os : List Int), σ = [some (.ref a), some (.int k), some (.ref l), some (.int (lostS ws - 1)), some (.ref pq), none, none, none, none] ∧ H3 pq = some (.lst (os.map V.int)) ∧ os.Nodup ∧ os.length = ws.length ∧ ∀ x ∈ os, 0 ≤ x ∧ x < (ws.length : Int), ?_, ?_⟩
  · refine ⟨_, rfl, _, rfl, use_draw (gB.seq hS) h63 hk0 (by decide) (by decide) (by decide) fun d _ d0 d1 => ⟨rfl, _, rfl, ite2 (fun c => ?_) (fun c => ?_)⟩⟩
    · refine ⟨_, rfl, _, rfl, rfl, po, _, rfl, SqL.of hord, fun pz hpz => ?_⟩
      have g3 := same_new hpz (.lst ((L2.upTo ws.length).map V.int).reverse)
      exact ⟨gB.trans g3, pz, (L2.upTo ws.length).reverse, rfl, by rw [upd_same, List.map_reverse], List.pairwise_reverse.mpr (List.Pairwise.imp (fun h => Ne.symm h) ndo), by rw [List.length_reverse, lup], fun x hx => rng x (List.mem_reverse.mp hx)⟩
    · exact ⟨gB, po, L2.upTo ws.length, rfl, hord, ndo, lup, rng⟩
  rintro σ H3 ⟨g3, pq, os, rfl, hos, hnd, hol, hrg⟩
  refine ⟨(by show 0 ≤ sizeLine; decide), fun z hz => ?_⟩
  have g4 := same_new hz (.lst [])
  have hzz : upd H3 z (.lst []) z = some (.lst []) := upd_same
  have hos4 := g4 _ _ hos
  have nz : pq ≠ z := fun e => by rw [e, hz] at hos; cases hos
  have hzH : H z = none := g3.free hz
  have g34 := g3.trans g4
  show tSeq _ _ _ _ (upd H3 z (.lst []))
  generalize upd H3 z (.lst []) = H4 at *
  have w1 : ws ≠ [] → 1 ≤ lostS ws := fun hne => by
    cases ws with
    | nil => exact absurd rfl hne
    | cons r rs =>
      have h1 := hw1 r List.mem_cons_self
      have h2 := lost_ge0 (rs := rs) fun x hx => hw1 x (List.mem_cons_of_mem _ hx)
      rw [show lostS (r :: rs) = r.2 + lostS rs from by unfold lostS; rw [List.map_cons, List.sum_cons]]
      omega
  refine ⟨_, rfl, pq, rfl, ⟨_, SqL.of hos4⟩, ?_⟩
  refine for_list (K := K) (xs := os.map V.int) (fun i σ H' => Same H H' ∧ H' pq = some (.lst (os.map V.int)) ∧ ∃ (zs : List V) (rs : List Row) (sp : Int) (s6 s7 s8 : Option V), σ = [some (.ref a), some (.int k), some (.ref l), some (.int sp), some (.ref pq), some (.ref z), s6, s7, s8] ∧ H' z = some (.lst zs) ∧ RowsIn H' zs rs ∧ rs.length ≤ i ∧ (rs.map (fun r : Row => r.1)).Nodup ∧
      sp = lostS ws - 1 - lostS rs ∧ (ws ≠ [] → 0 ≤ sp) ∧ ∀ r ∈ rs, 1 ≤ r.2 ∧ r.2 ≤ 1000000000 ∧ ∃ j : Nat, ((j : Nat) : Int) ∈ os.take i ∧ ∃ w, ws[j]? = some w ∧ w.1 = r.1 ∧ r.2 ≤ w.2)
    ⟨g34, hos4, [], [], lostS ws - 1, none, none, none, rfl, hzz, .nil, Nat.le_refl _, List.nodup_nil, by show _ = lostS ws - 1 - 0; omega, fun hne => by have := w1 hne; omega, fun r hr => absurd hr (by simp)⟩ ?_ ?_ ?_
  · rintro i σ H' _ ⟨_, h, _⟩
    exact SqL.of h
  · rintro i x σ H5 hx ⟨g5, hq5, zs, rs, sp, s6, s7, s8, rfl, hz5, hR, hrl, hrn, hsp, hsp0, hrow⟩
    rw [List.getElem?_map] at hx
    obtain ⟨at', hat, rfl⟩ := Option.map_eq_some_iff.mp hx
    have hio := (List.getElem?_eq_some_iff.mp hat).1
    obtain ⟨t0, t1⟩ := hrg at' (List.mem_of_getElem? hat)
    obtain ⟨jt, hjt⟩ : ∃ jt : Nat, ((jt : Nat) : Int) = at' := ⟨at'.toNat, by omega⟩
    subst hjt
    have hjl : jt < ws.length := by omega
    have hne : ws ≠ [] := fun e => by rw [e] at hjl; simp at hjl
    have hsp1 := hsp0 hne
    have hnot : ((jt : Nat) : Int) ∉ os.take i := fun m => by
      obtain ⟨j, hj, ej⟩ := List.mem_iff_getElem.mp m
      rw [List.getElem_take] at ej
      rw [List.length_take] at hj
      have e2 := (List.getElem?_eq_some_iff.mp hat).2
      have := (List.getElem_inj hnd).mp (ej.trans e2.symm)
      omega
    have ej := List.getElem?_eq_getElem hjl
    have hwj := hw1 _ (List.mem_of_getElem? ej)
    generalize ws[jt] = wj at *
    obtain ⟨ar, xs, ea, hsq, x0, x2⟩ := hW.at_ jt _ ej
    refine ⟨_, rfl, _, rfl, _, rfl, _, _, rfl, rfl, .inl ⟨by decide, by decide⟩, _, _, rfl, rfl, use_draw (g5.seq hS) h63 hk0 (by omega) (by omega) (by decide) fun way _ v0 v1 => ?_⟩
    refine ⟨_, rfl, _, rfl, l, _, _, _, rfl, rfl, g5.seq hl, atI_nat ea, (g5.sq hsq).ix (i := 2) x2 ?_⟩
    refine ⟨_, rfl, _, _, rfl, rfl, ⟨by decide, by decide, by decide⟩, _, _, _, rfl, ?_⟩
    obtain ⟨m1, m2, m3⟩ := min3_le wj.2 sp ((10 : Int) ^ (9 : Int).toNat)
    have m0 : 0 ≤ min3 wj.2 sp ((10 : Int) ^ (9 : Int).toNat) := min3_ge (by omega) hsp1 (by decide)
    have m3 : min3 wj.2 sp ((10 : Int) ^ (9 : Int).toNat) ≤ 1000000000 := m3
    generalize min3 wj.2 sp ((10 : Int) ^ (9 : Int).toNat) = m at *
    refine ⟨fun σ H6 => H5 = H6 ∧ ∃ m : Int, 0 ≤ m ∧ m ≤ sp ∧ m ≤ wj.2 ∧ m ≤ 1000000000 ∧ σ = [some (.ref a), some (.int k), some (.ref l), some (.int sp), some (.ref pq), some (.ref z), some (.int (jt : Int)), some (.int way), some (.int m)], ?_, ?_⟩
    · refine ⟨decide (way = 2 ∧ 0 < m), ?_, ?_⟩
      · refine ⟨_, rfl, rfl, _, rfl, ?_⟩
        by_cases h1 : way = 2
        · rw [decide_eq_true (by rw [h1] : V.int way = V.int 2)]
          refine iteT ⟨_, rfl, _, _, rfl, rfl, _, rfl, ?_, rfl⟩
          by_cases h2 : 0 < m
          · rw [decide_eq_true h2, decide_eq_true ⟨h1, h2⟩]
          · rw [decide_eq_false h2, decide_eq_false fun z => h2 z.2]
        · rw [decide_eq_false (fun z => h1 (V.int.inj z))]
          exact iteF ⟨(decide_eq_false fun z => h1 z.1).symm, rfl⟩
      refine ite2 (fun c => ?_) (fun c => ?_)
      · obtain ⟨_, c2⟩ := of_decide_eq_true c
        refine ⟨_, rfl, _, rfl, _, rfl, _, _, rfl, rfl, .inl ⟨by decide, by decide⟩, _, _, rfl, rfl, _, rfl, use_draw (g5.seq hS) h63 hk0 (by omega) (by omega) c2 fun d _ d0 d1 => ⟨_, _, rfl, rfl, rfl, 1 + d, by omega, by omega, by omega, by omega, rfl⟩⟩
      · exact ⟨rfl, m, m0, m2, m1, m3, rfl⟩
    rintro σ H6 ⟨rfl, o, o0, o1, o2, o3, rfl⟩
    have grow : ∀ r ∈ rs, 1 ≤ r.2 ∧ r.2 ≤ 1000000000 ∧ ∃ j : Nat, ((j : Nat) : Int) ∈ os.take (i + 1) ∧ ∃ w, ws[j]? = some w ∧ w.1 = r.1 ∧ r.2 ≤ w.2 := fun r hr => by
      obtain ⟨a1, a2, j, a3, a4⟩ := hrow r hr
      exact ⟨a1, a2, j, by rw [take_snoc hat]; exact List.mem_append_left _ a3, a4⟩
    refine ⟨fun σ H6 => Same H H6 ∧ H6 pq = some (.lst (os.map V.int)) ∧ ∃ (zs : List V) (rs : List Row) (sp : Int) (s6 s7 s8 : Option V), σ = [some (.ref a), some (.int k), some (.ref l), some (.int sp), some (.ref pq), some (.ref z), s6, s7, s8] ∧ H6 z = some (.lst zs) ∧ RowsIn H6 zs rs ∧ rs.length ≤ i + 1 ∧ (rs.map (fun r : Row => r.1)).Nodup ∧
      sp = lostS ws - 1 - lostS rs ∧ (ws ≠ [] → 0 ≤ sp) ∧ ∀ r ∈ rs, 1 ≤ r.2 ∧ r.2 ≤ 1000000000 ∧ ∃ j : Nat, ((j : Nat) : Int) ∈ os.take (i + 1) ∧ ∃ w, ws[j]? = some w ∧ w.1 = r.1 ∧ r.2 ≤ w.2, ?_, fun _ _ h => h⟩
    refine ⟨decide (0 < way ∧ 0 < o), ?_, ?_⟩
    · refine ⟨_, rfl, _, _, rfl, rfl, _, rfl, ?_⟩
      by_cases h1 : 0 < way
      · rw [decide_eq_true h1]
        refine iteT ⟨_, rfl, _, _, rfl, rfl, _, rfl, ?_, rfl⟩
        by_cases h2 : 0 < o
        · rw [decide_eq_true h2, decide_eq_true ⟨h1, h2⟩]
        · rw [decide_eq_false h2, decide_eq_false fun z => h2 z.2]
      · rw [decide_eq_false h1]
        exact iteF ⟨(decide_eq_false fun z => h1 z.1).symm, rfl⟩
    refine ite2 (fun c => ?_) (fun c => ?_)
    · obtain ⟨_, c2⟩ := of_decide_eq_true c
      refine ⟨_, rfl, .inl ⟨rfl, _, SqL.of hz5⟩, _, rfl, _, rfl, l, _, _, _, rfl, rfl, g5.seq hl, atI_nat ea, (g5.sq hsq).ix (i := 0) x0 ?_⟩
      refine ⟨_, rfl, (by show 2 ≤ sizeLine; decide), fun p hp => ?_⟩
      have g6 := same_new hp (rowO (wj.1, o))
      have hz6 := g6 _ _ hz5
      have hq6 := g6 _ _ hq5
      have hp6 : upd H5 p (rowO (wj.1, o)) p = some (rowO (wj.1, o)) := upd_same
      have zlen := hR.length
      show tNil _ (upd H5 p (rowO (wj.1, o))) _
      generalize upd H5 p (rowO (wj.1, o)) = H6 at *
      refine ⟨z, _, _, rfl, rfl, hz6, by rw [zlen]; exact small1000 (by omega), ?_⟩
      have np : p ≠ z := fun e => by rw [e, hz5] at hp; cases hp
      have tu : ∀ b ys, H6 b = some (.tup ys) → upd H6 z (.lst (zs ++ [.ref p])) b = some (.tup ys) := tup_upd (.inr ⟨_, hz6, rfl⟩)
      refine ⟨_, rfl, _, rfl, _, _, rfl, rfl, (g5.trans g6).upd_new hzH _, by rw [upd_ne nz]; exact hq6, zs ++ [.ref p], rs ++ [(wj.1, o)], sp - o, _, _, _, rfl, upd_same, ((hR.mono g6.tups).snoc hp6).mono tu, by rw [List.length_append]; show rs.length + 1 ≤ i + 1; omega, ?_, ?_, fun _ => by omega, ?_⟩
      · rw [List.map_append]
        refine nd_snoc hrn fun hm => ?_
        obtain ⟨r, hr, er⟩ := List.mem_map.mp hm
        obtain ⟨_, _, j, hj, w, hwj', e1, _⟩ := hrow r hr
        have hj2 : j < ws.length := (List.getElem?_eq_some_iff.mp hwj').1
        have r1 : (ws.map (fun r : Row => r.1))[j]? = some w.1 := by rw [List.getElem?_map, hwj']; rfl
        have r2 : (ws.map (fun r : Row => r.1))[jt]? = some wj.1 := by rw [List.getElem?_map, ej]; rfl
        have er : r.1 = wj.1 := er
        have : j = jt := (List.getElem?_inj (by rw [List.length_map]; exact hj2) nd).mp (r1.trans (by rw [e1, er]; exact r2.symm))
        rw [this] at hj
        exact hnot hj
      · rw [show lostS (rs ++ [(wj.1, o)]) = lostS rs + o from by unfold lostS; rw [List.map_append, List.sum_append]; simp]
        omega
      · intro r hr
        rcases List.mem_append.mp hr with h1 | h1
        · exact grow r h1
        · rw [List.mem_singleton.mp h1]
          exact ⟨by show 1 ≤ o; omega, o3, jt, by rw [take_snoc hat]; exact List.mem_append_right _ (List.mem_singleton.mpr rfl), wj, ej, rfl, o2⟩
    · exact ⟨g5, hq5, zs, rs, sp, _, _, _, rfl, hz5, hR, by omega, hrn, hsp, hsp0, grow⟩
  rintro σ H5 ⟨g5, hq5, zs, rs, sp, s6, s7, s8, rfl, hz5, hR, hrl, hrn, hsp, hsp0, hrow⟩
  rw [List.length_map, hol] at hrl
  refine ⟨_, rfl, q z zs rs H5 g5 hzH hz5 hR ⟨hrn, fun r hr => ?_, ?_, hrl⟩⟩
  · obtain ⟨a1, a2, j, _, w, hw, e1, e2⟩ := hrow r hr
    exact ⟨a1, a2, w, List.mem_of_getElem? hw, e1, e2⟩
  · by_cases c : ws = []
    · right
      rw [c] at hrl
      exact List.length_eq_zero_iff.mp (by simpa using hrl)
    · left
      have := hsp0 c
      omega
abbrev sd__law_bear : Stmt := top 36
abbrev N__law_bear : List Str := ["_law_model_here", "_law_amounts", "_law_seat_here", "_law_award", "_law_parts", "_law_whole", "_law_kept", "_law_given", "_law_at_here", "_law_k"]
abbrev P__law_bear : List Str := ["_law_model_here", "_law_amounts", "_law_seat_here", "_law_award"]
theorem sc__law_bear : FnScope N__law_bear P__law_bear (defScope sd__law_bear) := ⟨rfl, rfl, rfl, by decide +kernel, rfl, by decide +kernel, by decide +kernel⟩
theorem ok__law_bear (F : At K mg "_law_bear" sd__law_bear f fd) (m_len : mg "len" = none) (m_range : mg "range" = none) (m_sum : mg "sum" = none) : Dn P w K mg base 1 "_law_bear" P__law_bear (spBear K) := by
  refine F.ok sc__law_bear (fun vs H Q E h => ?_) (fun cdv A outer s H vs Q E hr h => ?_) (fun _ _ _ _ _ _ us hl => match us, hl with | [_, _, _, _], _ => rfl)
  · obtain ⟨n, ρ, B, b, l, as, seat, aw, rfl, _⟩ := h.ex
    rfl
  obtain ⟨n, ρ, B, b, l, as, seat, aw, rfl, G, h, wf, hl, cl, ok, q⟩ := h.ex
  refine ⟨_, (pss_cons (ps_set (i := 4) sc__law_bear.nd rfl (Or.inr rfl) (pe_dget (hu_of hr) (pv 0) pe_str (fun _ _ => rfl)))
    (pss_cons (ps_set (i := 5) sc__law_bear.nd rfl (Or.inl rfl) (pe_callB (call_sumK K rfl) (by rfl) m_sum PyProof.Rows.boot_sum (pa_cons (pe_comp ["_law_part"] [none] rfl (pi_listK K (pv 4)) (fun _ _ _ _ => (pg_name (i := 0) (show List.Nodup (["_law_part"] : List Str) from by decide +kernel) rfl (Or.inl rfl))) (fun _ _ _ _ => (pe_ix (ix_listK K) (pv 0) pe_int (fun _ _ => rfl))) rfl (by rfl)) pa_nil)))
    (pss_cons (ps_set (i := 6) sc__law_bear.nd rfl (Or.inr rfl) (pe_op op_sub (pe_op op_sub (pv 5) (pv 3)) (pe_callB (call_sumK K rfl) (by rfl) m_sum PyProof.Rows.boot_sum (pa_cons (pv 1) pa_nil))))
    (pss_cons (ps_set (i := 7) sc__law_bear.nd rfl (Or.inr rfl) (pe_lst pa_nil))
    (pss_cons (ps_for PassesOwn.never rfl (pi_range1 (by rfl) m_range (pa_cons (pe_callB (call_lenK K) (by rfl) m_len PySem.boot_len (pa_cons (pe_dget (hu_of hr) (pv 0) pe_str (fun _ _ => rfl)) pa_nil)) pa_nil)) (pg_name (i := 8) sc__law_bear.nd rfl (Or.inr rfl)) (pss_one (ps_expr (pe_bm PySem.F.plainAttrs_list PySem.F.slot_list_append PySem.F.type_list_append mt_append (pv 7) (pa_cons (pe_callB (call_sumK K rfl) (by rfl) m_sum PyProof.Rows.boot_sum (pa_cons (pe_comp ["_law_k", "_law_parts", "_law_at_here", "_law_amounts"] [none, some 4, some 8, some 1] rfl (pi_range1 (by rfl) m_range (pa_cons (pe_callB (call_lenK K) (by rfl) m_len PySem.boot_len (pa_cons (pv 4) pa_nil)) pa_nil)) (fun _ _ _ _ => (pg_name (i := 0) (show List.Nodup (["_law_k", "_law_parts", "_law_at_here", "_law_amounts"] : List Str) from by decide +kernel) rfl (Or.inl rfl))) (fun _ _ _ _ => (pe_op op_mulW (pe_ix (ix_listK K) (pe_ix (ix_listK K) (pe_ix (ix_listK K) (pv 1) (pv 0) (fun _ _ => rfl)) pe_int (fun _ _ => rfl)) (pv 2) (fun _ _ => rfl)) (pe_ix (ix_listK K) (pv 3) (pv 0) (fun _ _ => rfl)))) rfl (by rfl)) pa_nil)) pa_nil)))))
    (pss_cons (ps_ifJ (pt_cmpR op_gt (pv 3) pe_int (nomark _)) (pss_one (ps_asg (pe_op op_add (pe_ix (ix_listK K) (pv 7) (pv 2) (fun _ _ => rfl)) (pe_op op_mulW (pv 3) (pe_dget (hu_of hr) (pv 0) pe_str (fun _ _ => rfl)))) (pg_sub (pv 7) (pv 2) set_list))) pss_nil)
    (pss_cons (ps_for PassesOwn.never rfl (pi_range1 (by rfl) m_range (pa_cons (pe_callB (call_lenK K) (by rfl) m_len PySem.boot_len (pa_cons (pv 4) pa_nil)) pa_nil)) (pg_name (i := 9) sc__law_bear.nd rfl (Or.inr rfl)) (pss_cons (ps_asg (pe_comp ["_law_at_here", "_law_parts", "_law_k", "_law_kept", "_law_given"] [none, some 4, some 9, some 6, some 7] rfl (pi_range1 (by rfl) m_range (pa_cons (pe_callB (call_lenK K) (by rfl) m_len PySem.boot_len (pa_cons (pv 7) pa_nil)) pa_nil)) (fun _ _ _ _ => (pg_name (i := 0) (show List.Nodup (["_law_at_here", "_law_parts", "_law_k", "_law_kept", "_law_given"] : List Str) from by decide +kernel) rfl (Or.inl rfl))) (fun _ _ _ _ => (pe_op op_add (pe_op op_mulW (pe_ix (ix_listK K) (pe_ix (ix_listK K) (pe_ix (ix_listK K) (pv 1) (pv 2) (fun _ _ => rfl)) pe_int (fun _ _ => rfl)) (pv 0) (fun _ _ => rfl)) (pv 3)) (pe_ix (ix_listK K) (pv 4) (pv 0) (fun _ _ => rfl)))) rfl (by rfl)) (pg_sub (pe_ix (ix_listK K) (pv 4) (pv 9) (fun _ _ => rfl)) pe_int set_list))
    (pss_one (ps_asg (pe_op op_sub (pe_ix (ix_listK K) (pe_ix (ix_listK K) (pv 4) (pv 9) (fun _ _ => rfl)) pe_int (fun _ _ => rfl)) (pe_ix (ix_listK K) (pv 1) (pv 9) (fun _ _ => rfl))) (pg_sub (pe_ix (ix_listK K) (pv 4) (pv 9) (fun _ _ => rfl)) pe_int set_list)))))
    (pss_cons (ps_dput (hu_of hr) (pv 0) pe_str (pe_op op_mulW (pe_dget (hu_of hr) (pv 0) pe_str (fun _ _ => rfl)) (pv 5)) rfl)
    (pss_one (ps_dput (hu_of hr) (pv 0) pe_str (pe_compI ["_law_part"] [none] rfl (pi_listK K (pv 4)) (fun _ _ _ _ => (pg_name (i := 0) (show List.Nodup (["_law_part"] : List Str) from by decide +kernel) rfl (Or.inl rfl))) (fun _ _ _ _ => (pv 0)) (fun _ _ _ _ => (pt_cmpR op_gt (pe_ix (ix_listK K) (pv 0) pe_int (fun _ _ => rfl)) pe_int (nomark _))) rfl (by rfl)) rfl)))))))))), ?_⟩
  have pl := wf.pl
  have pql : (B.qs.map fun q => V.ref q.1).length = b.pts.length := by rw [List.length_map]; exact h.ql
  refine ⟨_, rfl, B.m, _, rfl, DGet.k (k := Sum.inr "parts") h.om, ?_⟩
  refine ⟨_, rfl, B.lp, rfl, ⟨_, SqL.of h.op⟩, fun l0 hl0 => ?_⟩
  refine comp_1 (J := Itl K B.lp) (n := b.pts.length) 0 (fun i o H' => Same H H' ∧ o = ((b.pts.take i).map (fun p : BP => p.wo)).map V.int) (by omega) ⟨same_new hl0 _, rfl⟩ (fun i o H' hi _ hp => ⟨_, _, SqL.of (hp.1 _ _ h.op), List.getElem?_eq_getElem (by rw [pql]; exact hi)⟩) (fun o H' _ hp => ⟨_, SqL.of (hp.1 _ _ h.op), by rw [pql]; exact Nat.le_refl _⟩) ?_ ?_
  · rintro i y o H2 H3 hi hol ha ⟨g, e⟩ ⟨rfl, hy⟩
    have ei := List.getElem?_eq_getElem hi
    obtain ⟨qq, eq, k1, k2, _, _⟩ := h.find ei
    have ey := hy _ (SqL.of (g _ _ h.op))
    rw [List.getElem?_map, eq] at ey
    cases ey
    refine ⟨_, rfl, qq.1, _, _, _, rfl, rfl, SqL.of (g _ _ k1), atI_nat (j := 2) rfl, ha, g.upd_new hl0 _, ?_⟩
    subst e
    rw [take_snoc ei, List.map_append, List.map_append]
    rfl
  rintro o1 H1 _ ha ⟨g1, e⟩
  rw [List.take_length] at e
  subst e
  refine ⟨l0, b.pts.map (fun p : BP => p.wo), rfl, SqL.of ha, ?_⟩
  show gName 5 (.int (wholeB b)) _ _ _
  refine ⟨_, rfl, _, rfl, _, _, rfl, rfl, _, rfl, l, as, rfl, g1.seq hl, _, _, rfl, rfl, ?_⟩
  show gName 6 (.int (wholeB b - aw - as.sum)) _ _ _
  generalize ekp : wholeB b - aw - as.sum = kept at *
  have hkp : 0 < kept := by rw [← ekp]; exact ok.kept
  have zw := ok.big
  have as0 : 0 ≤ as.sum := by
    cases has : as with
    | nil => exact Int.le_refl _
    | cons a l => exact Int.le_trans (ok.a0 a (by rw [has]; exact List.mem_cons_self)) (by rw [← has]; exact sum_le_of ok.a0 (by rw [has]; exact List.mem_cons_self))
  have zk : Jm.Sz 60 kept := zw.of_le (by have := ok.aw0; omega)
  have za : ∀ a ∈ as, Jm.Sz 60 a := fun a hm => zw.of_le (by have := ok.a0 a hm; have := sum_le_of ok.a0 hm; have := ok.aw0; omega)
  have zaw : Jm.Sz 60 aw := zw.of_le (by have := ok.aw0; omega)
  have zt : ∀ p ∈ b.pts, ∀ t ∈ p.tops, Jm.Sz 7000 t := fun p hp t ht => Jm.Sz.of_abs (by have := wf.t0 p hp t ht; have := wf.b1; omega) (wf.t0 p hp t ht).2 wf.bz
  have h1 := h.mono g1
  have hl1 := g1.seq hl
  refine ⟨(by show 0 ≤ sizeLine; decide), fun gv hgv => ?_⟩
  have g2 := same_new hgv (.lst [])
  have hg2 : upd H1 gv (.lst []) gv = some (.lst []) := upd_same
  have hgvH : H gv = none := g1.free hgv
  have g12 := g1.trans g2
  show tSeq _ _ _ _ (upd H1 gv (.lst []))
  generalize upd H1 gv (.lst []) = H2 at *
  have h2 := h.mono g12
  have ol := wf.ol
  have oml : (b.own.map V.str).length = b.own.length := List.length_map _
  refine ⟨_, rfl, B.m, _, rfl, DGet.k (k := Sum.inr "owners") h2.om, B.lo, _, rfl, .inl (SqL.of h2.oo), _, rfl, by omega, by omega, ?_⟩
  refine for_range (lo := 0) (n := (((b.own.map V.str).length : Nat) : Int).toNat) (fun i σ H' => Same H H' ∧ H' gv = some (.lst (((List.range i).map (giveCol b.pts as)).map V.int)) ∧ ∃ s8, σ = [some (.ref B.m), some (.ref l), some (.int (seat : Int)), some (.int aw), some (.ref B.lp), some (.int (wholeB b)), some (.int kept), some (.ref gv), s8, none])
    ⟨g12, hg2, _, rfl⟩ ?_ ?_
  · rintro i σ H3 hi ⟨g3, hg3, s8, rfl⟩
    have e0 : (0 : Int) + (i : Int) = ((i : Nat) : Int) := by omega
    rw [e0]
    have hio : i < b.own.length := by omega
    refine ⟨_, rfl, .inl ⟨rfl, _, SqL.of hg3⟩, _, rfl, B.lp, _, rfl, .inl (SqL.of (g3 _ _ h.op)), _, rfl, by omega, by omega, fun c hc => ?_⟩
    refine comp_1 (J := Itr 0 _) (n := b.pts.length) 0 (fun j o H' => Same H3 H' ∧ o = (List.zipWith (fun (p : BP) (a : Int) => p.tops.getD i 0 * a) (b.pts.take j) (as.take j)).map V.int) (by omega) ⟨same_new hc _, rfl⟩ (fun j o H' hj _ _ => by show j < (((B.qs.map fun q => V.ref q.1).length : Nat) : Int).toNat; omega) (fun o H' _ _ => by show (((B.qs.map fun q => V.ref q.1).length : Nat) : Int).toNat ≤ b.pts.length; omega) ?_ ?_
    · rintro j x o H4 H5 hj hol ha4 ⟨g4, e4⟩ ⟨rfl, rfl⟩
      have e0 : (0 : Int) + (j : Int) = ((j : Nat) : Int) := by omega
      rw [e0]
      have ej := List.getElem?_eq_getElem hj
      have hja : j < as.length := by rw [ok.len]; exact hj
      have ea := List.getElem?_eq_getElem hja
      obtain ⟨qq, eq, k1, k2, _, _⟩ := h.find ej
      have gg := g3.trans g4
      have hti : i < (b.pts[j]).tops.length := by rw [wf.tl _ (List.mem_of_getElem? ej)]; exact hio
      have et := List.getElem?_eq_getElem hti
      have eD : (b.pts[j]).tops.getD i 0 = (b.pts[j]).tops[i] := by rw [List.getD_eq_getElem?_getD, et]; rfl
      refine ⟨_, rfl, _, rfl, B.lp, _, _, _, rfl, rfl, SqL.of (gg _ _ h.op), atI_nat (by rw [List.getElem?_map, eq]; rfl), qq.1, _, _, _, rfl, rfl, SqL.of (gg _ _ k1), atI_nat (j := 4) rfl, _, rfl, qq.2, _, _, _, rfl, rfl, SqL.of (gg _ _ k2), atI_nat (by rw [List.getElem?_map, et]; rfl), ?_⟩
      refine ⟨_, rfl, _, rfl, l, _, _, _, rfl, rfl, gg.seq hl, atI_nat (by rw [List.getElem?_map, ea]; rfl), _, _, rfl, rfl, cmul_sz (zt _ (List.mem_of_getElem? ej) _ (List.mem_of_getElem? et)) (za _ (List.mem_of_getElem? ea)), ha4, g4.upd_new hc _, ?_⟩
      rw [giveCol_snoc ej ea, e4, List.map_append, eD]
      rfl
    rintro o H4 _ ha4 ⟨g4, e4⟩
    have e5 : List.zipWith (fun (p : BP) (a : Int) => p.tops.getD i 0 * a) (b.pts.take b.pts.length) (as.take b.pts.length) = List.zipWith (fun (p : BP) (a : Int) => p.tops.getD i 0 * a) b.pts as := by rw [List.take_length, ← ok.len, List.take_length]
    rw [e5] at e4
    subst e4
    refine ⟨c, _, rfl, SqL.of ha4, gv, _, _, rfl, rfl, g4 _ _ hg3, by rw [List.length_map, List.length_map, List.length_range]; exact small1000 (by omega), (g3.trans g4).upd_new hgvH _, ?_, _, rfl⟩
    rw [upd_same, List.range_succ, List.map_append, List.map_append]
    rfl
  rintro σ H3 ⟨g3, hg3, s8, rfl⟩
  rw [show (((b.own.map V.str).length : Nat) : Int).toNat = b.own.length from by omega] at hg3
  have hg3 : H3 gv = some (.lst ((givenB b as).map V.int)) := hg3
  have h3 := h.mono g3
  have gl := givenB_len b as
  refine ⟨fun σ H' => Same H H' ∧ H' gv = some (.lst ((givB b as seat aw).map V.int)) ∧ σ = [some (.ref B.m), some (.ref l), some (.int (seat : Int)), some (.int aw), some (.ref B.lp), some (.int (wholeB b)), some (.int kept), some (.ref gv), s8, none], ?_, ?_⟩
  · refine ⟨_, rfl, _, _, rfl, rfl, _, rfl, ite2 (fun c => ?_) (fun c => ?_)⟩
    · have c' : 0 < aw := of_decide_eq_true c
      have hsl : seat < (givenB b as).length := by rw [gl]; exact ok.seat
      have es := List.getElem?_eq_getElem hsl
      have eD : (givenB b as).getD seat 0 = (givenB b as)[seat] := by rw [List.getD_eq_getElem?_getD, es]; rfl
      refine ⟨_, rfl, _, rfl, gv, _, _, _, rfl, rfl, SqL.of hg3, atI_nat (by rw [List.getElem?_map, es]; rfl), _, rfl, _, rfl, B.m, _, rfl, DGet.k (k := Sum.inr "bottom") h3.om, _, _, rfl, rfl, cmul_sz zaw wf.bz, _, _, rfl, rfl, _, rfl, _, rfl, gv, _, _, _, rfl, rfl, hg3, by rw [List.length_map]; exact ixN_nat hsl, g3.upd_new hgvH _, ?_, rfl⟩
      rw [upd_same]
      unfold givB
      rw [if_pos c', List.map_set, eD]
    · have c' : ¬ 0 < aw := of_decide_eq_false (Bool.eq_false_iff.mpr c)
      refine ⟨g3, ?_, rfl⟩
      unfold givB
      rw [if_neg c']
      exact hg3
  rintro σ H4 ⟨g4, hg4, rfl⟩
  have gvl := givB_len b as seat aw
  generalize egv : givB b as seat aw = given at *
  have h4 := h.mono g4
  have gmn : (given.map V.int).length = b.own.length := by rw [List.length_map]; exact gvl
  have cgv : ρ gv = none := G.none hgvH
  have bl : (bearP b as seat aw).length = b.pts.length := bearP_len ok.len
  refine ⟨_, rfl, B.lp, _, rfl, .inl (SqL.of h4.op), _, rfl, by omega, by omega, ?_⟩
  refine for_range (lo := 0) (n := (((B.qs.map fun q => V.ref q.1).length : Nat) : Int).toNat) (fun i σ H' => ∃ ρ' B' s8 s9, σ = [some (.ref B.m), some (.ref l), some (.int (seat : Int)), some (.int aw), some (.ref B.lp), some (.int (wholeB b)), some (.int kept), some (.ref gv), s8, s9] ∧ Gh ρ' H' ∧ BookAt n ρ' B' H' { b with pts := (bearP b as seat aw).take i ++ b.pts.drop i } ∧ B'.m = B.m ∧ B'.lp = B.lp ∧ Fr n ρ H ρ' H' ∧ H' gv = some (.lst (given.map V.int)) ∧ ρ' gv = none)
    ⟨ρ, B, _, _, rfl, G.same g4, h4, rfl, rfl, Fr.of_same g4, hg4, cgv⟩ ?_ ?_
  · rintro i σ H5 hi ⟨ρ5, B5, s8, s9, rfl, G5, h5, em5, ep5, F5, hg5, cg5⟩
    have e0 : (0 : Int) + (i : Int) = ((i : Nat) : Int) := by omega
    rw [e0]
    have hip : i < b.pts.length := by omega
    have ei := List.getElem?_eq_getElem hip
    have hpm := List.mem_of_getElem? ei
    have hia : i < as.length := by rw [ok.len]; exact hip
    have ea := List.getElem?_eq_getElem hia
    have em : ((bearP b as seat aw).take i ++ b.pts.drop i)[i]? = some b.pts[i] := mix_get (by omega) ei
    have ebp := bearP_at (seat := seat) (aw := aw) ei ea
    rw [egv, ekp] at ebp
    have htl := wf.tl _ hpm
    have hzt := zt _ hpm
    generalize b.pts[i] = p at *
    have hza := za _ (List.mem_of_getElem? ea)
    generalize as[i] = a at *
    obtain ⟨qq, eq, k1, k2, c1, c2⟩ := h5.find em
    have op5 : H5 B.lp = some (.lst (B5.qs.map fun q => V.ref q.1)) := by rw [← ep5]; exact h5.op
    have eqr : (B5.qs.map fun q => V.ref q.1)[i]? = some (.ref qq.1) := by rw [List.getElem?_map, eq]; rfl
    refine ⟨_, rfl, gv, _, rfl, .inl (SqL.of hg5), _, rfl, by omega, by omega, fun t1 ht1 => ?_⟩
    refine comp_1 (J := Itr 0 _) (n := b.own.length) 0 (fun j o H' => Same H5 H' ∧ o = (List.zipWith (fun t g => t * kept + g) (p.tops.take j) (given.take j)).map V.int) (by omega) ⟨same_new ht1 _, rfl⟩ (fun j o H' hj _ _ => by show j < (((given.map V.int).length : Nat) : Int).toNat; omega) (fun o H' _ _ => by show (((given.map V.int).length : Nat) : Int).toNat ≤ b.own.length; omega) ?_ ?_
    · rintro j x o H6 H7 hj hol ha6 ⟨g6, e6⟩ ⟨rfl, rfl⟩
      have e0 : (0 : Int) + (j : Int) = ((j : Nat) : Int) := by omega
      rw [e0]
      have et := List.getElem?_eq_getElem (show j < p.tops.length by rw [htl]; exact hj)
      have eg := List.getElem?_eq_getElem (show j < given.length by rw [gvl]; exact hj)
      refine ⟨_, rfl, _, rfl, B.lp, _, _, _, rfl, rfl, SqL.of (g6 _ _ op5), atI_nat eqr, qq.1, _, _, _, rfl, rfl, SqL.of (g6 _ _ k1), atI_nat (j := 4) rfl, _, rfl, qq.2, _, _, _, rfl, rfl, SqL.of (g6 _ _ k2), atI_nat (by rw [List.getElem?_map, et]; rfl), ?_⟩
      refine ⟨_, rfl, _, _, rfl, rfl, cmul_sz (hzt _ (List.mem_of_getElem? et)) zk, _, rfl, _, rfl, gv, _, _, _, rfl, rfl, SqL.of (g6 _ _ hg5), atI_nat (by rw [List.getElem?_map, eg]; rfl), _, _, rfl, rfl, ha6, g6.upd_new ht1 _, ?_⟩
      rw [zipW_take _ et eg, e6, List.map_append]
      rfl
    rintro o H6 _ ha6 ⟨g6, e6⟩
    rw [show p.tops.take b.own.length = p.tops from by rw [← htl]; exact List.take_length, show given.take b.own.length = given from by rw [← gvl]; exact List.take_length] at e6
    subst e6
    have h6 := h5.mono g6
    have G6 := G5.same g6
    have ct1 : ρ5 t1 = none := G5.none ht1
    have h7 : BookAt n (updC ρ5 t1 (n, 24, p.nm)) B5 H6 { b with pts := (bearP b as seat aw).take i ++ b.pts.drop i } := h6.col ct1
    have G7 : Gh (updC ρ5 t1 (n, 24, p.nm)) H6 := G6.color ha6 rfl
    have F7 : Fr n ρ H (updC ρ5 t1 (n, 24, p.nm)) H6 := F5.trans (Fr.color ht1 g6)
    have ct : updC ρ5 t1 (n, 24, p.nm) t1 = some (n, 24, p.nm) := updC_same
    have cg7 : updC ρ5 t1 (n, 24, p.nm) gv = none := by rw [updC_ne (fun z => by rw [z] at hg5; rw [hg5] at ht1; cases ht1)]; exact cg5
    have hg6 := g6 _ _ hg5
    have op6 := g6 _ _ op5
    have k16 := g6 _ _ k1
    have c17 : updC ρ5 t1 (n, 24, p.nm) qq.1 = some (n, 23, p.nm) := by rw [updC_ne (ne_of_none k1 ht1)]; exact c1
    generalize updC ρ5 t1 (n, 24, p.nm) = ρ7 at *
    have ndm : (((bearP b as seat aw).take i ++ b.pts.drop i).map (fun p : BP => p.nm)).Nodup := by rw [mix_nm ok.len]; exact wf.nd
    have nqg : gv ≠ qq.1 := fun z => by rw [z, c17] at cg7; cases cg7
    generalize eT : List.zipWith (fun t g => t * kept + g) p.tops given = T at *
    refine ⟨_, rfl, _, rfl, B.lp, _, _, _, rfl, rfl, SqL.of op6, atI_nat eqr, qq.1, _, _, 4, rfl, rfl, k16, rfl, ?_⟩
    have h8 := h7.set_pt G7 (p1 := { p with tops := T }) (t1 := t1) em eq rfl ndm ha6 ct
    have G8 := G7.wr (a := qq.1) (o := bpO { p with tops := T } t1) rfl
    have F8 := F7.trans (Fr.write (o := bpO { p with tops := T } t1) c17)
    have k18 : upd H6 qq.1 (bpO { p with tops := T } t1) qq.1 = some (bpO { p with tops := T } t1) := upd_same
    have hg8 : upd H6 qq.1 (bpO { p with tops := T } t1) gv = some (.lst (given.map V.int)) := by rw [upd_ne nqg]; exact hg6
    have nlp : B.lp ≠ qq.1 := fun z => by
      have := h7.cp
      rw [ep5, z, c17] at this
      cases this
    have op8 : upd H6 qq.1 (bpO { p with tops := T } t1) B.lp = some (.lst (B5.qs.map fun q => V.ref q.1)) := by rw [upd_ne nlp]; exact op6
    have ntq : t1 ≠ qq.1 := fun z => by rw [z, c17] at ct; cases ct
    have ht8 : upd H6 qq.1 (bpO { p with tops := T } t1) t1 = some (.lst (T.map V.int)) := by rw [upd_ne ntq]; exact ha6
    generalize hH8 : upd H6 qq.1 (HO.lst _) = H8
    have hH8' : upd H6 qq.1 (bpO { p with tops := T } t1) = H8 := hH8
    rw [hH8'] at h8 G8 F8 k18 hg8 op8 ht8
    clear hH8 hH8'
    refine ⟨_, rfl, _, rfl, B.lp, _, _, _, rfl, rfl, SqL.of op8, atI_nat eqr, qq.1, _, _, _, rfl, rfl, SqL.of k18, atI_nat (j := 2) rfl, ?_⟩
    refine ⟨_, rfl, _, rfl, l, _, _, _, rfl, rfl, F8.seq hl cl, atI_nat (by rw [List.getElem?_map, ea]; rfl), _, _, rfl, rfl, ?_⟩
    refine ⟨_, rfl, _, rfl, B.lp, _, _, _, rfl, rfl, SqL.of op8, atI_nat eqr, qq.1, _, _, 2, rfl, rfl, k18, rfl, ?_⟩
    have hiq : i < B5.qs.length := (List.getElem?_eq_some_iff.mp eq).1
    have him : i < ((bearP b as seat aw).take i ++ b.pts.drop i).length := (List.getElem?_eq_some_iff.mp em).1
    have h9 := h8.set_pt G8 (i := i) (p0 := { p with tops := T }) (p1 := chgB given kept p a) (q0 := (qq.1, t1)) (t1 := t1) (List.getElem?_set_self him) (List.getElem?_set_self hiq) rfl (by
      show ((((bearP b as seat aw).take i ++ b.pts.drop i).set i { p with tops := T }).map (fun p : BP => p.nm)).Nodup
      rw [List.map_set, set_same' (by rw [List.getElem?_map, em]; rfl)]
      exact ndm) (by show H8 t1 = some (.lst ((List.zipWith (fun t g => t * kept + g) p.tops given).map V.int)); rw [eT]; exact ht8) ct
    have e9 : (((bearP b as seat aw).take i ++ b.pts.drop i).set i { p with tops := T }).set i (chgB given kept p a) = (bearP b as seat aw).take (i + 1) ++ b.pts.drop (i + 1) := by rw [List.set_set]; exact mix_set ebp hip
    have h9' : BookAt n ρ7 { B5 with qs := (B5.qs.set i (qq.1, t1)).set i (qq.1, t1) } (upd H8 qq.1 (bpO (chgB given kept p a) t1)) { b with pts := (((bearP b as seat aw).take i ++ b.pts.drop i).set i { p with tops := T }).set i (chgB given kept p a) } := h9
    rw [e9] at h9'
    exact ⟨ρ7, { B5 with qs := (B5.qs.set i (qq.1, t1)).set i (qq.1, t1) }, _, _, rfl, G8.wr rfl, h9', em5, ep5, F8.trans (Fr.write c17), by rw [upd_ne nqg]; exact hg8, cg7⟩
  rintro σ H5 ⟨ρ5, B5, s8, s9, rfl, G5, h5, em5, ep5, F5, hg5, cg5⟩
  rw [show (((B.qs.map fun q => V.ref q.1).length : Nat) : Int).toNat = b.pts.length from by omega, show (bearP b as seat aw).take b.pts.length = bearP b as seat aw from by rw [← bl]; exact List.take_length, List.drop_length, List.append_nil] at h5
  obtain ⟨m5, lo5, lp5, la5, lk5, qs5⟩ := B5
  have em5 : m5 = B.m := em5
  have ep5 : lp5 = B.lp := ep5
  subst em5 ep5
  refine ⟨_, rfl, B.m, _, rfl, DGet.k (k := Sum.inr "bottom") h5.om, _, rfl, _, _, rfl, rfl, cmul_sz wf.bz zw, _, rfl, B.m, _, rfl, DPut.k (k := Sum.inr "bottom") h5.om (by show 5 < sizeLine; decide), ?_⟩
  rw [bookK_bot]
  have h6 := h5.set_bot G5 (b.bot * wholeB b)
  have G6 := G5.wr (a := B.m) (o := .dK (bookK ⟨B.m, lo5, B.lp, la5, lk5, qs5⟩ (b.bot * wholeB b))) rfl
  have F6 := F5.trans (Fr.write (o := .dK (bookK ⟨B.m, lo5, B.lp, la5, lk5, qs5⟩ (b.bot * wholeB b))) h5.cm)
  generalize hH6 : upd H5 B.m (HO.dK _) = H6
  have hH6' : upd H5 B.m (.dK (bookK ⟨B.m, lo5, B.lp, la5, lk5, qs5⟩ (b.bot * wholeB b))) = H6 := hH6
  have h6 : BookAt n ρ5 ⟨B.m, lo5, B.lp, la5, lk5, qs5⟩ (upd H5 B.m (.dK (bookK ⟨B.m, lo5, B.lp, la5, lk5, qs5⟩ (b.bot * wholeB b)))) { b with pts := bearP b as seat aw, bot := b.bot * wholeB b } := h6
  rw [hH6'] at h6 G6 F6
  clear hH6 hH6'
  have q5l : qs5.length = (bearP b as seat aw).length := h5.ql
  have qml : (qs5.map fun q => V.ref q.1).length = (bearP b as seat aw).length := by rw [List.length_map]; exact q5l
  have op6 : H6 B.lp = some (.lst (qs5.map fun q => V.ref q.1)) := h6.op
  refine ⟨_, rfl, B.lp, rfl, ⟨_, SqL.of op6⟩, fun lp hlp => ?_⟩
  refine compI_1 (J := Itl K B.lp) (n := (bearP b as seat aw).length) 0 (fun i o H' => Same H6 H' ∧ o = (sieve ((bearP b as seat aw).take i) (qs5.take i)).map fun q => V.ref q.1) (by omega) ⟨same_new hlp _, rfl⟩ (fun i o H' hi _ hp => ⟨_, _, SqL.of (hp.1 _ _ op6), List.getElem?_eq_getElem (by rw [qml]; exact hi)⟩) (fun o H' _ hp => ⟨_, SqL.of (hp.1 _ _ op6), by rw [qml]; exact Nat.le_refl _⟩) ?_ ?_
  · rintro i y o H7 H8 hi hol ha ⟨g, e⟩ ⟨rfl, hy⟩
    have ei := List.getElem?_eq_getElem hi
    obtain ⟨qq, eq, k1, k2, _, _⟩ := h6.find ei
    have eq : qs5[i]? = some qq := eq
    have ey := hy _ (SqL.of (g _ _ op6))
    rw [List.getElem?_map, eq] at ey
    cases ey
    have es := sieve_snoc ei eq
    refine ⟨_, rfl, qq.1, _, _, _, rfl, rfl, SqL.of (g _ _ k1), atI_nat (j := 2) rfl, _, _, rfl, rfl, _, rfl, ite2 (fun c => ?_) (fun c => ?_)⟩
    · rw [if_pos (of_decide_eq_true c)] at es
      refine ⟨_, rfl, ha, g.upd_new hlp _, ?_⟩
      rw [es, e, List.map_append]
      rfl
    · rw [if_neg (of_decide_eq_false (Bool.eq_false_iff.mpr c))] at es
      exact ⟨ha, g, by rw [es, e, List.append_nil]⟩
  rintro o H7 _ ha ⟨g7, e⟩
  rw [List.take_length, ← q5l, List.take_length] at e
  subst e
  have h7 := h6.mono g7
  have G7 := G6.same g7
  have clp : ρ5 lp = none := G6.none hlp
  have h8 := h7.col (t := 22) (x := ⟨#[]⟩) clp
  have G8 : Gh (updC ρ5 lp (n, 22, ⟨#[]⟩)) H7 := G7.color ha rfl
  have F8 : Fr n ρ H (updC ρ5 lp (n, 22, ⟨#[]⟩)) H7 := F6.trans (Fr.color hlp g7)
  have h9 := h8.set_lp G8 (lp := lp) (qs := sieve (bearP b as seat aw) qs5) (ps := (bearP b as seat aw).filter fun p => decide (0 < p.wo)) ha updC_same (sieve_len q5l) (fun i x y ex ey => by
    obtain ⟨j, a1, a2⟩ := sieve_at ex ey q5l
    exact h8.pt j x y a1 a2)
  refine ⟨_, rfl, B.m, _, rfl, DPut.k (k := Sum.inr "parts") h7.om (by show 5 < sizeLine; decide), ?_⟩
  rw [bookK_lp]
  exact q _ _ _ (G8.wr rfl) h9 rfl (F8.trans (Fr.write h8.cm))
abbrev sd__law_model_cast : Stmt := top 37
abbrev N__law_model_cast : List Str := ["_law_model_here", "_law_rows_here", "_law_amounts", "_law_name_here", "_law_amount"]
abbrev P__law_model_cast : List Str := ["_law_model_here", "_law_rows_here"]
theorem sc__law_model_cast : FnScope N__law_model_cast P__law_model_cast (defScope sd__law_model_cast) := ⟨rfl, rfl, rfl, by decide +kernel, rfl, by decide +kernel, by decide +kernel⟩
theorem ok__law_model_cast (F : At K mg "_law_model_cast" sd__law_model_cast f fd) (D__law_at : Dn P w K mg base 1 "_law_at" ["_law_parts", "_law_name_here"] (spLAt K)) (D__law_bear : Dn P w K mg base 1 "_law_bear" ["_law_model_here", "_law_amounts", "_law_seat_here", "_law_award"] (spBear K)) : Dn P w K mg base 2 "_law_model_cast" P__law_model_cast (spMCast K) := by
  refine F.ok sc__law_model_cast (fun vs H Q E h => ?_) (fun cdv A outer s H vs Q E hr h => ?_) (fun _ _ _ _ _ _ us hl => match us, hl with | [_, _], _ => rfl)
  · obtain ⟨n, ρ, B, b, l, us, rs, rfl, _⟩ := h.ex
    rfl
  obtain ⟨n, ρ, B, b, l, us, rs, rfl, G, h, wf, hl, hR, cl, rb, hle, bo, q⟩ := h.ex
  refine ⟨_, (pss_cons (ps_setC (i := 2) ["_law_part"] [none] sc__law_model_cast.nd rfl rfl rfl (pi_listK K (pe_dget (hu_of hr) (pv 0) pe_str (fun _ _ => rfl))) (fun _ _ _ _ => (pg_name (i := 0) (show List.Nodup (["_law_part"] : List Str) from by decide +kernel) rfl (Or.inl rfl))) (fun _ _ _ _ => pe_int) rfl (by rfl) (by rfl))
    (pss_cons (ps_for PassesOwn.never rfl (pi_listK K (pv 1)) (pg_tupK K (n := 2) rfl (pgs_cons (pg_name (i := 3) sc__law_model_cast.nd rfl (Or.inl rfl)) (pgs_cons (pg_name (i := 4) sc__law_model_cast.nd rfl (Or.inl rfl)) pgs_nil))) (pss_one (ps_asg (pv 4) (pg_sub (pv 2) (pe_fn D__law_at hr (pa_cons (pe_dget (hu_of hr) (pv 0) pe_str (fun _ _ => rfl)) (pa_cons (pv 3) pa_nil))) set_list))))
    (pss_one (ps_expr (pe_fn D__law_bear hr (pa_cons (pv 0) (pa_cons (pv 2) (pa_cons pe_int (pa_cons pe_int pa_nil))))))))), ?_⟩
  have pl := wf.pl
  have pql : (B.qs.map fun q => V.ref q.1).length = b.pts.length := by rw [List.length_map]; exact h.ql
  refine ⟨_, rfl, B.m, _, rfl, DGet.k (k := Sum.inr "parts") h.om, B.lp, rfl, ⟨_, SqL.of h.op⟩, fun l0 hl0 => ?_⟩
  refine comp_1 (J := Itl K B.lp) (n := b.pts.length) 0 (fun i o H' => Same H H' ∧ o = ((b.pts.take i).map fun _ => (0 : Int)).map V.int) (by omega) ⟨same_new hl0 _, rfl⟩ (fun i o H' hi _ hp => ⟨_, _, SqL.of (hp.1 _ _ h.op), List.getElem?_eq_getElem (by rw [pql]; exact hi)⟩) (fun o H' _ hp => ⟨_, SqL.of (hp.1 _ _ h.op), by rw [pql]; exact Nat.le_refl _⟩) ?_ ?_
  · rintro i y o H2 H3 hi hol ha ⟨g, e⟩ ⟨rfl, hy⟩
    refine ⟨ha, g.upd_new hl0 _, ?_⟩
    subst e
    rw [take_snoc (List.getElem?_eq_getElem hi), List.map_append, List.map_append]
    rfl
  rintro o1 H1 _ ha ⟨g1, e⟩
  rw [List.take_length] at e
  subst e
  have hul := hR.length
  refine ⟨_, rfl, l, rfl, ⟨us, g1.seq hl⟩, ?_⟩
  refine for_list (K := K) (xs := us) (fun i σ H' => Same H H' ∧ H' l0 = some (.lst ((amtsB b (rs.take i)).map V.int)) ∧ ∃ s3 s4, σ = [some (.ref B.m), some (.ref l), some (.ref l0), s3, s4]) ⟨g1, ha, _, _, rfl⟩ (fun i σ H' _ hp => hp.1.seq hl) ?_ ?_
  · rintro i x σ H2 hx ⟨g2, ha2, s3, s4, rfl⟩
    obtain ⟨a, r, rfl, er, har⟩ := hR.get hx
    obtain ⟨r1, j, p, hp, e, le⟩ := rb.row r (List.mem_of_getElem? er)
    have hj := (List.getElem?_eq_some_iff.mp hp).1
    have hn : r.1 ∉ (rs.take i).map (fun r : Row => r.1) := by
      rw [List.map_take]
      exact nodup_take_not rb.nd (by rw [List.getElem?_map, er]; rfl)
    obtain ⟨s1, s2⟩ := amtsB_step wf.nd hp e hn
    have h2 := h.mono g2
    refine ⟨a, _, rfl, SqT.of (g2 _ _ har), rfl, _, _, rfl, _, _, rfl, rfl, ?_⟩
    refine ⟨_, rfl, _, rfl, _, rfl, B.m, _, rfl, DGet.k (k := Sum.inr "parts") h2.om, _, rfl, ⟨⟨B.lp, _, nwB b, j, (p.nm, p.wo), by rw [← e]; rfl, SqL.of h2.op, h2.nw, ?_, by unfold nwB; rw [List.length_map]; exact pl, by unfold nwB; rw [List.getElem?_map, hp]; rfl, ?_⟩⟩⟩
    · unfold nwB; rw [List.map_map]; exact wf.nd
    · refine ⟨l0, _, _, j, rfl, rfl, ha2, by rw [List.length_map, amtsB_len]; exact ixN_nat hj, g2.upd_new hl0 _, ?_, _, _, rfl⟩
      rw [upd_same, take_snoc er, s1, List.map_set]
  rintro σ H2 ⟨g2, ha2, s3, s4, rfl⟩
  rw [hul, List.take_length] at ha2
  refine ⟨_, rfl, _, rfl, ⟨⟨n, ρ, B, b, l0, amtsB b rs, 0, 0, rfl, G.same g2, h.mono g2, wf, SqL.of ha2, G.none hl0, bo, fun ρ' B' H' a1 a2 a3 a4 => q ρ' B' H' a1 a2 a3 ((Fr.of_same g2).trans a4)⟩⟩⟩
abbrev sd__law_loads : Stmt := top 33
abbrev N__law_loads : List Str := ["_law_script", "_law_k", "_law_hold", "_law_model_here", "_law_names_here", "_law_many", "_law_at_here", "_law_owner", "_law_worth", "_law_weight"]
abbrev P__law_loads : List Str := ["_law_script", "_law_k", "_law_hold", "_law_model_here", "_law_names_here", "_law_many"]
theorem sc__law_loads : FnScope N__law_loads P__law_loads (defScope sd__law_loads) := ⟨rfl, rfl, rfl, by decide +kernel, rfl, by decide +kernel, by decide +kernel⟩
theorem ok__law_loads {T : TC} (F : At K mg "_law_loads" sd__law_loads f fd) (D__law_draw : Dn P w K mg base 1 "_law_draw" ["_law_script", "_law_k", "_law_j", "_law_many"] (spDraw K)) (D__law_much : Dn P w K mg base 2 "_law_much" ["_law_script", "_law_k", "_law_j"] (spMuch K)) (D__law_new_part : Dn P w K mg base 2 "_law_new_part" ["_law_model_here", "_law_name_here", "_law_owner", "_law_worth", "_law_weight"] spNewPart)
    (D_Hold_load : Mn P w K mg base 4 T.hold "load" ["self", "part", "owner", "worth", "weight"] (spLoad T)) (m_len : mg "len" = none) (m_range : mg "range" = none) : Dn P w K mg base 5 "_law_loads" P__law_loads (spLoads T K) := by
  refine F.ok sc__law_loads (fun vs H Q E h => ?_) (fun cdv A outer s H vs Q E hr h => ?_) (fun _ _ _ _ _ _ us hl => match us, hl with | [_, _, _, _, _, _], _ => rfl)
  · obtain ⟨n, m, ρ, A, B, st, b, a, ln, ns, k, nms, many, rfl, _⟩ := h.ex
    rfl
  obtain ⟨n, m, ρ, A, B, st, b, a, ln, ns, k, nms, many, rfl, nm, hh, hb, gd, hS, h63, hk0, hk1, hN, nmN, nmK, owK, hml, hm50, en, ep, ek, q⟩ := h.ex
  refine ⟨_, (pss_one (ps_for PassesOwn.never rfl (pi_range1 (by rfl) m_range (pa_cons (pv 5) pa_nil)) (pg_name (i := 6) sc__law_loads.nd rfl (Or.inl rfl)) (pss_cons (ps_set (i := 7) sc__law_loads.nd rfl (Or.inl rfl) (pe_ix (ix_listK K) (pe_dget (hu_of hr) (pv 3) pe_str (fun _ _ => rfl)) (pe_fn D__law_draw hr (pa_cons (pv 0) (pa_cons (pe_op op_add (pv 1) (pv 6)) (pa_cons pe_int (pa_cons (pe_callB (call_lenK K) (by rfl) m_len PySem.boot_len (pa_cons (pe_dget (hu_of hr) (pv 3) pe_str (fun _ _ => rfl)) pa_nil)) pa_nil))))) (fun _ _ => rfl)))
    (pss_cons (ps_set (i := 8) sc__law_loads.nd rfl (Or.inl rfl) (pe_fn D__law_much hr (pa_cons (pv 0) (pa_cons (pe_op op_add (pv 1) (pv 6)) (pa_cons pe_int pa_nil)))))
    (pss_cons (ps_set (i := 9) sc__law_loads.nd rfl (Or.inl rfl) (pe_fn D__law_draw hr (pa_cons (pv 0) (pa_cons (pe_op op_add (pv 1) (pv 6)) (pa_cons pe_int (pa_cons pe_int pa_nil))))))
    (pss_cons (ps_expr (pe_mth D_Hold_load hr (pv 2) (pa_cons (pe_ix (ix_listK K) (pv 4) (pv 6) (fun _ _ => rfl)) (pa_cons (pv 7) (pa_cons (pv 8) (pa_cons (pv 9) pa_nil))))))
    (pss_one (ps_expr (pe_fn D__law_new_part hr (pa_cons (pv 3) (pa_cons (pe_ix (ix_listK K) (pv 4) (pv 6) (fun _ _ => rfl)) (pa_cons (pv 7) (pa_cons (pv 8) (pa_cons (pv 9) pa_nil)))))))))))))), ?_⟩
  refine ⟨_, rfl, _, rfl, by omega, by omega, ?_⟩
  refine for_range (lo := 0) (n := ((many : Nat) : Int).toNat) (fun i σ H' => ∃ ρ' A' B' st' b' s6 s7 s8 s9, σ = [some (.ref a), some (.int k), some (.ref A.a), some (.ref B.m), some (.ref ln), some (.int (many : Int)), s6, s7, s8, s9] ∧ HH T n ρ' A' H' st' ∧ BookAt m ρ' B' H' b' ∧ GdP 0 st' b' ∧ A'.a = A.a ∧ B'.m = B.m ∧ b'.own = b.own ∧ b'.pts.length = i ∧ b'.kno.length = i ∧ st'.nms = nms.take i ∧ Same (out ρ H) (out ρ' H'))
    ⟨ρ, A, B, st, b, _, _, _, _, rfl, hh, hb, gd, rfl, rfl, rfl, by rw [ep]; rfl, by rw [ek]; rfl, by rw [en]; rfl, Same.refl _⟩ ?_ ?_
  · rintro i σ H1 hi ⟨ρ1, A1, B1, st1, b1, s6, s7, s8, s9, rfl, hh1, hb1, gd1, ea1, em1, eo1, epl, ekl, en1, o1⟩
    have e0 : (0 : Int) + (i : Int) = ((i : Nat) : Int) := by omega
    rw [e0]
    have him : i < many := by omega
    have hin : i < nms.length := by omega
    have ex := List.getElem?_eq_getElem hin
    have exm := List.mem_of_getElem? ex
    have hx0 := nmK _ exm
    have hxn : nms[i] ∉ nms.take i := nodup_take_not nmN ex
    generalize nms[i] = x at *
    have hS1 := hS _ _ o1
    have hN1 := hN _ _ o1
    have omH : H1 B.m = some (.dK (bookK B1 b1.bot)) := by rw [← em1]; exact hb1.om
    have ol1 : (b1.own.map V.str).length = b1.own.length := List.length_map _
    have ow0 := gd1.own
    refine ⟨_, rfl, B.m, _, rfl, DGet.k (k := Sum.inr "owners") omH, _, rfl, _, rfl, _, rfl, _, _, rfl, rfl, _, rfl, B.m, _, rfl, DGet.k (k := Sum.inr "owners") omH, B1.lo, _, rfl, .inl (SqL.of hb1.oo), use_draw hS1 h63 (by omega) (by decide) (by decide) (by omega) fun d _ d0 d1 => ?_⟩
    obtain ⟨jo, o, ejo, eo, eat⟩ := atI_strs (l := b1.own) d0 (by omega)
    have hom : o ∈ b1.own := List.mem_of_getElem? eo
    refine ⟨B1.lo, _, _, _, rfl, rfl, SqL.of hb1.oo, eat, ?_⟩
    refine ⟨_, rfl, _, rfl, _, rfl, _, _, rfl, rfl, use_much hS1 h63 (by omega) (by decide) (by decide) fun wo H2 w1 w2 g2 => ?_⟩
    refine ⟨_, rfl, _, rfl, _, rfl, _, _, rfl, rfl, use_draw (g2.seq hS1) h63 (by omega) (by decide) (by decide) (by decide) fun we _ v0 v1 => ?_⟩
    have hh2 := hh1.mono g2
    have o2 := o1.trans (out_same (ρ := ρ1) g2)
    have hN2 := hN _ _ o2
    have exv : (nms.map V.str)[i]? = some (.str x) := by rw [List.getElem?_map, ex]; rfl
    have hxs : x ∉ st1.nms := by rw [en1]; exact hxn
    have eow := gd1.rel.own
    have hnl : st1.nms.length = i := by rw [en1, List.length_take]; omega
    refine ⟨_, rfl, A.a, A1.dx, _, rfl, by rw [← ea1]; exact hh2.h.oa, rfl, _, rfl, _, rfl, ln, _, _, _, rfl, rfl, hN2, atI_nat exv, _, rfl, _, rfl, _, rfl, ⟨⟨n, ρ1, A1, st1, x, o, wo, we, by rw [ea1]; rfl, hh2, hx0.isNm, hxs, by rw [eow]; exact hom, w1, v0, by omega, by rw [gd1.rel.len]; omega, fun ρ3 A3 H3 hh3 e3 f3 => ?_⟩⟩⟩
    have hb3 := (hb1.mono g2).other f3 hh2.g (Ne.symm nm)
    have o3 := o2.trans f3.out
    have hN3 := hN _ _ o3
    refine ⟨_, rfl, _, rfl, _, rfl, ln, _, _, _, rfl, rfl, hN3, atI_nat exv, _, rfl, _, rfl, _, rfl, ⟨⟨m, ρ3, B1, b1, x, o, wo, we, by rw [em1]; rfl, hh3.g, hb3, hom, by have := gd1.wfB.ol; omega, by omega, by omega, fun ρ4 B4 H4 G4 hb4 e4 f4 => ?_⟩⟩⟩
    have hh4 := hh3.other f4 G4 nm
    refine ⟨ρ4, A3, B4, _, _, _, _, _, _, rfl, hh4, hb4, gd_load gd1 ?_ w1 w2 (by omega) (by omega) hx0.strOk (owK o (by rw [← eo1]; exact hom)).strOk, e3.trans ea1, e4.trans em1, eo1, ?_, ?_, ?_, o3.trans f4.out⟩
    · intro hm
      obtain ⟨p, hp, e⟩ := List.mem_map.mp hm
      obtain ⟨j, hj, ej⟩ := List.getElem_of_mem hp
      obtain ⟨p', hp', e1, _⟩ := gd1.rel.at (i := j) (q := p) (by rw [List.getElem?_eq_getElem hj, ej])
      have := hh1.wf.sub p' (List.mem_of_getElem? hp')
      rw [e1] at this
      have e : p.nm = x := e
      rw [e] at this
      exact hxs this
    · show (b1.pts ++ [_]).length = i + 1
      rw [List.length_append, epl]; rfl
    · show (b1.kno ++ [_]).length = i + 1
      rw [List.length_append, ekl]; rfl
    · show st1.nms ++ [x] = nms.take (i + 1)
      rw [en1, take_snoc ex]
  rintro σ H1 ⟨ρ1, A1, B1, st1, b1, s6, s7, s8, s9, rfl, hh1, hb1, gd1, ea1, em1, eo1, epl, ekl, en1, o1⟩
  exact q ρ1 A1 B1 H1 st1 b1 hh1 hb1 gd1 ea1 em1 eo1 (by rw [epl]; omega) o1
abbrev sd__law_cast_now : Stmt := top 38
abbrev N__law_cast_now : List Str := ["_law_script", "_law_k", "_law_hold", "_law_model_here", "_law_rows_here", "_law_handed"]
abbrev P__law_cast_now : List Str := ["_law_script", "_law_k", "_law_hold", "_law_model_here"]
theorem sc__law_cast_now : FnScope N__law_cast_now P__law_cast_now (defScope sd__law_cast_now) := ⟨rfl, rfl, rfl, by decide +kernel, rfl, by decide +kernel, by decide +kernel⟩
theorem ok__law_cast_now {T : TC} (F : At K mg "_law_cast_now" sd__law_cast_now f fd) (D__law_rows : Dn P w K mg base 2 "_law_rows" ["_law_script", "_law_k", "_law_parts"] (spLRows K)) (D__law_model_cast : Dn P w K mg base 2 "_law_model_cast" ["_law_model_here", "_law_rows_here"] (spMCast K)) (D_Hold_cast : Mn P w K mg base 4 T.hold "cast" ["self", "rows"] (spCast T K)) (m_len : mg "len" = none) (m_list : mg "list" = none) : Dn P w K mg base 5 "_law_cast_now" P__law_cast_now (spCastNow T K) := by
  refine F.ok sc__law_cast_now (fun vs H Q E h => ?_) (fun cdv A outer s H vs Q E hr h => ?_) (fun _ _ _ _ _ _ us hl => match us, hl with | [_, _, _, _], _ => rfl)
  · obtain ⟨n, m, ρ, A, B, st, b, a, ns, k, c, rfl, _⟩ := h.ex
    rfl
  obtain ⟨n, m, ρ, A, B, st, b, a, ns, k, c, rfl, nm, hh, hb, gd, hc, hS, h63, hk0, hk1, q⟩ := h.ex
  refine ⟨_, (pss_cons (ps_set (i := 4) sc__law_cast_now.nd rfl (Or.inl rfl) (pe_fn D__law_rows hr (pa_cons (pv 0) (pa_cons (pv 1) (pa_cons (pe_dget (hu_of hr) (pv 3) pe_str (fun _ _ => rfl)) pa_nil)))))
    (pss_cons (ps_if (pt_cmpR op_gt (pe_callB (call_lenK K) (by rfl) m_len PySem.boot_len (pa_cons (pv 4) pa_nil)) pe_int (nomark _)) (pss_cons (ps_set (i := 5) sc__law_cast_now.nd rfl (Or.inl rfl) (pe_callTy (call_list_ofK K) (by rfl) m_list PyProof.Rows.boot_list (pa_cons (pv 4) pa_nil)))
    (pss_cons (ps_expr (pe_mth D_Hold_cast hr (pv 2) (pa_cons (pv 5) pa_nil)))
    (pss_cons (ps_if (pt_cmpR (op_neDK K hr.units) (pv 5) (pv 4) (nomark _)) (pss_one (ps_ret pe_bl)) pss_nil)
    (pss_cons (ps_expr (pe_bm0 PySem.F.plainAttrs_list PySem.F.slot_list_clear PySem.F.type_list_clear mt_clear (pv 5)))
    (pss_one (ps_expr (pe_fn D__law_model_cast hr (pa_cons (pv 3) (pa_cons (pv 4) pa_nil))))))))) pss_nil)
    (pss_one (ps_ret pe_bl)))), ?_⟩
  have pl := gd.pl
  refine ⟨_, rfl, _, rfl, _, rfl, B.m, _, rfl, DGet.k (k := Sum.inr "parts") hb.om, ⟨⟨a, B.lp, ns, k, _, nwB b, rfl, hS _ _ (Same.refl _), h63, hk0, hk1, SqL.of hb.op, hb.nw, by unfold nwB; rw [List.map_map]; exact gd.wfB.nd, by unfold nwB; rw [List.length_map]; omega, fun w hw => by obtain ⟨p, hp, rfl⟩ := List.mem_map.mp hw; exact gd.wfB.w1 p hp, fun z zs rs H1 g1 hz hz1 hR rok => ?_⟩⟩⟩
  have zl := hR.length
  have hh1 := hh.mono g1
  have hb1 := hb.mono g1
  have cz : ρ z = none := hh.g.none hz
  refine ⟨_, rfl, z, _, rfl, .inl (SqL.of hz1), _, _, rfl, rfl, _, rfl, ite2 (fun c0 => ?_) (fun c0 => ?_)⟩
  · have c1 : 0 < rs.length := by have : (0 : Int) < ((zs.length : Nat) : Int) := of_decide_eq_true c0; omega
    have hne : rs ≠ [] := fun e => by rw [e] at c1; simp at c1
    obtain ⟨cok, rb, bo⟩ := rows_castok gd hh.wf rok hne hc
    refine ⟨_, rfl, z, _, rfl, .inl (SqL.of hz1), fun hd hhd => ?_⟩
    have g2 := same_new hhd (.lst zs)
    have hd2 : upd H1 hd (.lst zs) hd = some (.lst zs) := upd_same
    have hz2 := g2 _ _ hz1
    have hR2 := hR.mono g2.tups
    have hh2 := hh1.mono g2
    have hb2 := hb1.mono g2
    have chd : ρ hd = none := hh1.g.none hhd
    have o2 : Same (out ρ H) (out ρ (upd H1 hd (.lst zs))) := out_same (g1.trans g2)
    show tSeq _ _ _ _ (upd H1 hd (.lst zs))
    generalize upd H1 hd (.lst zs) = H2 at *
    refine ⟨_, rfl, A.a, A.dx, _, rfl, hh2.h.oa, rfl, _, rfl, ⟨⟨n, ρ, A, st, hd, zs, rs, rfl, hh2, SqL.of hd2, hR2, cok, fun ρ3 A3 H3 hh3 e3 f3 => ?_⟩⟩⟩
    have hb3 := hb2.other f3 hh2.g (Ne.symm nm)
    have ehd := f3.at hd2 chd
    have ez := f3.at hz2 cz
    have hR3 := hR2.mono (f3.tup hh2.g)
    have sk : ∀ r ∈ rs, PyData.strOk r.1 = true := fun r hr => by
      obtain ⟨_, j, p, hp, e, _⟩ := rb.row r hr
      rw [← e]
      exact (gd.nm p (List.mem_of_getElem? hp)).1
    refine ⟨_, rfl, _, rfl, _, _, .lst (SqL.of ehd.1) hR3.dt, .lst (SqL.of ez.1) hR3.dt, shaped_rows rs sk, shaped_rows rs sk, _, rfl, ?_⟩
    rw [eqv_rows]
    refine iteF ?_
    refine ⟨_, rfl, .inl ⟨rfl, _, SqL.of ehd.1⟩, hd, _, rfl, rfl, ehd.1, ?_⟩
    have hh4 := hh3.wrOut (o := .lst []) ehd.2 ehd.1 rfl rfl
    have hb4 : BookAt m ρ3 B (upd H3 hd (.lst [])) b := hb3.same (kp_out ehd.2 ehd.1 rfl)
    have nz : z ≠ hd := fun e => by rw [e] at hz1; rw [hz1] at hhd; cases hhd
    have ez4 : upd H3 hd (.lst []) z = some (.lst zs) := by rw [upd_ne nz]; exact ez.1
    have hR4 := hR3.mono (tup_upd (p := hd) (o := .lst []) (.inr ⟨_, ehd.1, rfl⟩))
    have hdH : H hd = none := g1.free hhd
    have o4 : Same (out ρ H) (out ρ3 (upd H3 hd (.lst []))) := fun x o e => by
      obtain ⟨e1, e2⟩ := out_some (f3.out _ _ (o2 _ _ e))
      have hx : x ≠ hd := ne_of_none (out_some e).1 hdH
      exact out_of (by rw [upd_ne hx]; exact e1) e2
    generalize upd H3 hd (.lst []) = H4 at *
    refine ⟨_, rfl, _, rfl, ⟨⟨m, ρ3, B, b, z, zs, rs, rfl, hh4.g, hb4, gd.wfB, SqL.of ez4, hR4, ez.2, rb, cok.len, bo, fun ρ5 B5 H5 G5 hb5 e5 f5 => ?_⟩⟩⟩
    exact q ρ5 A3 B5 H5 _ _ (hh4.other f5 G5 nm) hb5 (gd_cast gd hh.wf cok bo hc) e3 e5 rfl (o4.trans f5.out)
  · exact q ρ A B H1 st b hh1 hb1 gd.mono rfl rfl rfl (out_same g1)
abbrev sd_law : Stmt := top 42
abbrev N_law : List Str := ["_law_script", "_law_owners", "_law_names_here", "_law_hold", "_law_model_here", "_law_at_here", "_law_whole"]
abbrev P_law : List Str := ["_law_script"]
theorem sc_law : FnScope N_law P_law (defScope sd_law) := ⟨rfl, rfl, rfl, by decide +kernel, rfl, by decide +kernel, by decide +kernel⟩
theorem ok_law {T : TC} (F : At K mg "law" sd_law f fd) (D__law_draw : Dn P w K mg base 1 "_law_draw" ["_law_script", "_law_k", "_law_j", "_law_many"] (spDraw K)) (D__law_names : Dn P w K mg base 2 "_law_names" ["_law_script", "_law_k", "_law_many"] (spNames K))
    (D__law_int : Dn P w K mg base 1 "_law_int" ["_law_found"] spInt) (D__law_part_list : Dn P w K mg base 2 "_law_part_list" ["_law_found", "_law_parts"] (spPartList K)) (D__law_begin : Dn P w K mg base 5 "_law_begin" ["_law_owners"] (spBegin T K)) (D__law_model : Dn P w K mg base 1 "_law_model" ["_law_owners"] (spModel K))
    (D__law_loads : Dn P w K mg base 5 "_law_loads" ["_law_script", "_law_k", "_law_hold", "_law_model_here", "_law_names_here", "_law_many"] (spLoads T K)) (D__law_cast_now : Dn P w K mg base 5 "_law_cast_now" ["_law_script", "_law_k", "_law_hold", "_law_model_here"] (spCastNow T K))
    (D_Hold_parts : Mn P w K mg base 1 T.hold "parts" ["self"] (spParts T)) (D_Hold_whole : Mn P w K mg base 1 T.hold "whole" ["self"] (spWhole T)) (m_range : mg "range" = none) (m_sum : mg "sum" = none) : FnOk P w K mg base CX0 6 f fd P_law (spLaw K) := by
  refine F.fn.ok sc_law (fun vs H Q E h => ?_) (fun cdv A outer s H vs Q E hr h => ?_)
  · obtain ⟨a, ns, rfl, _⟩ := h
    rfl
  obtain ⟨a, ns, rfl, hS, h63, q⟩ := h
  refine ⟨_, (pss_cons (ps_set (i := 1) sc_law.nd rfl (Or.inl rfl) (pe_fn D__law_names hr (pa_cons (pv 0) (pa_cons pe_int (pa_cons (pe_op op_add pe_int (pe_fn D__law_draw hr (pa_cons (pv 0) (pa_cons pe_int (pa_cons pe_int (pa_cons pe_int pa_nil)))))) pa_nil)))))
    (pss_cons (ps_set (i := 2) sc_law.nd rfl (Or.inl rfl) (pe_fn D__law_names hr (pa_cons (pv 0) (pa_cons pe_int (pa_cons pe_int pa_nil)))))
    (pss_cons (ps_set (i := 3) sc_law.nd rfl (Or.inl rfl) (pe_fn D__law_begin hr (pa_cons (pv 1) pa_nil)))
    (pss_cons (ps_set (i := 4) sc_law.nd rfl (Or.inl rfl) (pe_fn D__law_model hr (pa_cons (pv 1) pa_nil)))
    (pss_cons (ps_expr (pe_fn D__law_loads hr (pa_cons (pv 0) (pa_cons pe_int (pa_cons (pv 3) (pa_cons (pv 4) (pa_cons (pv 2) (pa_cons (pe_op op_add pe_int (pe_fn D__law_draw hr (pa_cons (pv 0) (pa_cons pe_int (pa_cons pe_int (pa_cons pe_int pa_nil)))))) pa_nil))))))))
    (pss_cons (ps_for PassesOwn.never rfl (pi_range1 (by rfl) m_range (pa_cons (pe_op op_add pe_int (pe_fn D__law_draw hr (pa_cons (pv 0) (pa_cons pe_int (pa_cons pe_int (pa_cons pe_int pa_nil)))))) pa_nil)) (pg_name (i := 5) sc_law.nd rfl (Or.inl rfl)) (pss_cons (ps_if (pt_not (pt_val (pe_fn D__law_cast_now hr (pa_cons (pv 0) (pa_cons (pe_op op_add pe_int (pv 5)) (pa_cons (pv 3) (pa_cons (pv 4) pa_nil))))))) (pss_one (ps_ret pe_bl)) pss_nil)
    (pss_cons (ps_if (pt_not (pt_val (pe_fn D__law_part_list hr (pa_cons (pe_mth0 D_Hold_parts hr (pv 3)) (pa_cons (pe_dget (hu_of hr) (pv 4) pe_str (fun _ _ => rfl)) pa_nil))))) (pss_one (ps_ret pe_bl)) pss_nil)
    (pss_cons (ps_set (i := 6) sc_law.nd rfl (Or.inl rfl) (pe_mth0 D_Hold_whole hr (pv 3)))
    (pss_one (ps_if (PW.pt (pw_or (pt_not (pt_val (pe_fn D__law_int hr (pa_cons (pv 6) pa_nil)))) (pw_or1 (pt_cmpR op_ne (pv 6) (pe_callB (call_sumK K rfl) (by rfl) m_sum PyProof.Rows.boot_sum (pa_cons (pe_comp ["_law_part"] [none] rfl (pi_listK K (pe_dget (hu_of hr) (pv 4) pe_str (fun _ _ => rfl))) (fun _ _ _ _ => (pg_name (i := 0) (show List.Nodup (["_law_part"] : List Str) from by decide +kernel) rfl (Or.inl rfl))) (fun _ _ _ _ => (pe_ix (ix_listK K) (pv 0) pe_int (fun _ _ => rfl))) rfl (by rfl)) pa_nil)) (nomark _))))) (pss_one (ps_ret pe_bl)) pss_nil))))))
    (pss_one (ps_ret pe_bl)))))))), ?_⟩
  refine ⟨_, rfl, _, rfl, use_draw hS h63 (by decide) (by decide) (by decide) (by decide) fun od _ o0 o1 => ⟨_, _, rfl, rfl, ?_⟩⟩
  obtain ⟨no, hno⟩ : ∃ no : Nat, 1 + od = (no : Int) := ⟨(1 + od).toNat, by omega⟩
  refine use_names hno hS h63 (by decide) (by omega) fun zo nso H1 g1 hzo _ hnol hnod hnok => ?_
  have hS1 := g1.seq hS
  refine ⟨_, rfl, use_names (show (6 : Int) = ((6 : Nat) : Int) from rfl) hS1 h63 (by decide) (by decide) fun zn nsn H2 g2 hzn _ hnnl hnnd hnnk => ?_⟩
  have hS2 := g2.seq hS1
  have hzo2 := g2 _ _ hzo
  rw [txs_nmS] at hzo2 hzn
  have hol := nmS_len nso
  have hnl := nmS_len nsn
  have ownN := nmS_nodup hnod
  have ownK := nmS_ok hnok
  have nmN := nmS_nodup hnnd
  have nmK' := nmS_ok hnnk
  generalize nmS nso = own at *
  generalize nmS nsn = nms at *
  clear hnod hnok hnnd hnnk hzo
  refine ⟨_, rfl, ⟨⟨zo, own, 0, fun _ => none, rfl, SqL.of hzo2, rfl, ownN, fun o ho => (ownK o ho).isNm, by omega, (fun b c e => by cases e), fun ρ3 A3 H3 hh3 F3 => ?_⟩⟩⟩
  have o3 : Same (out (fun _ => none) H2) (out ρ3 H3) := F3.out
  have hx3 := hh3
  refine ⟨_, rfl, ⟨⟨zo, own, 1, ρ3, rfl, F3.seq (SqL.of hzo2) rfl, hh3.g, by omega, fun ρ4 B4 H4 G4 hb4 k4 => ?_⟩⟩⟩
  have F4 : Fr 1 ρ3 H3 ρ4 H4 := fun b o e _ => k4 b o e
  have hh4 := hh3.other F4 G4 (by decide)
  have o4 := o3.trans F4.out
  have fS := (SqF.of hS2).go o4
  have fN := (SqF.of (SqL.of (K := K) hzn)).go o4
  have hS4 := fS _ _ (Same.refl _)
  obtain ⟨gd4, en4⟩ := gd0 (own := own) (by omega) (by omega)
  generalize own.foldl signS hs0 = st4 at *
  refine ⟨_, rfl, _, rfl, _, rfl, _, rfl, _, rfl, use_draw hS4 h63 (by decide) (by decide) (by decide) (by decide) fun md _ m0 m1 => ⟨_, _, rfl, rfl, ?_⟩⟩
  obtain ⟨many, hmany⟩ : ∃ many : Nat, 2 + md = (many : Int) := ⟨(2 + md).toNat, by omega⟩
  refine ⟨⟨0, 1, ρ4, A3, B4, st4, ⟨own, [], 1, [], []⟩, a, zn, ns, 4, nms, many, by rw [← hmany]; rfl, by decide, hh4, hb4, gd4, fS, h63, by decide, by decide, fN, nmN, nmK', ownK, by omega, by omega, en4, rfl, rfl, fun ρ5 A5 B5 H5 st5 b5 hh5 hb5 gd5 ea5 em5 eo5 _ o5 => ?_⟩⟩
  have fS5 := fS.go o5
  have hS5 := fS5 _ _ (Same.refl _)
  generalize A3.a = x at *
  generalize B4.m = mm at *
  clear hh4 hb4 gd4 o4 k4 F4 F3 o3 hh3 hx3 hzn hzo2 hS2 hS1 hS fN fS hS4 o5 G4
  refine ⟨_, rfl, use_draw hS5 h63 (by decide) (by decide) (by decide) (by decide) fun cd _ c0 c1 => ⟨_, _, rfl, rfl, ?_⟩⟩
  refine ⟨_, rfl, by omega, by omega, ?_⟩
  refine for_range (lo := 0) (n := (1 + cd).toNat) (fun i σ H' => ∃ ρ' A' B' st' b' s5 s6, σ = [some (.ref a), some (.ref zo), some (.ref zn), some (.ref x), some (.ref mm), s5, s6] ∧ HH T 0 ρ' A' H' st' ∧ BookAt 1 ρ' B' H' b' ∧ GdP i st' b' ∧ A'.a = x ∧ B'.m = mm ∧ SqF K ρ' H' a (ns.map V.int))
    ⟨ρ5, A5, B5, st5, b5, _, _, rfl, hh5, hb5, gd5, ea5, em5, fS5⟩ ?_ ?_
  · clear hh5 hb5 gd5 ea5 em5 fS5 hS5 eo5
    rintro i σ H6 hi ⟨ρ6, A6, B6, st6, b6, s5, s6, rfl, hh6, hb6, gd6, ea6, em6, fS6⟩
    have e0 : (0 : Int) + (i : Int) = ((i : Nat) : Int) := by omega
    rw [e0]
    refine ⟨_, rfl, _, rfl, _, _, rfl, rfl, _, rfl, _, rfl, ⟨⟨0, 1, ρ6, A6, B6, st6, b6, a, ns, 10 + (i : Int), i, by rw [ea6, em6]; rfl, by decide, hh6, hb6, gd6, by omega, fS6, h63, by omega, by omega, fun ρ7 A7 B7 H7 st7 b7 hh7 hb7 gd7 ea7 em7 eo7 o7 => ⟨_, rfl, iteF ?_⟩⟩⟩⟩
    have fS7 := fS6.go o7
    have ea := ea7.trans ea6
    have em := em7.trans em6
    clear hh6 hb6 gd6 fS6 o7 ea7 em7
    have pl := gd7.pl
    have rl := gd7.rel.len
    have wl := gd7.rel.whole
    refine ⟨_, rfl, x, A7.dx, _, rfl, by rw [← ea]; exact hh7.h.oa, rfl, ⟨⟨0, ρ7, A7, st7, by rw [ea]; rfl, hh7.h, by omega, fun r ws H8 g8 hr hw8 hP8 => ?_⟩⟩⟩
    have hb8 := hb7.mono g8
    have omH : H8 mm = some (.dK (bookK B7 b7.bot)) := by rw [← em]; exact hb8.om
    refine ⟨_, rfl, mm, _, rfl, DGet.k (k := Sum.inr "parts") omH, ⟨⟨r, B7.lp, ws, _, st7.pts, rfl, hw8, hP8, SqL.of hb8.op, gd7.rel.rows hb8, gd7.nms, by omega, fun H9 g9 => ⟨_, rfl, iteF ?_⟩⟩⟩⟩
    have hh9 := (hh7.mono g8).mono g9
    have hb9 := hb8.mono g9
    refine ⟨_, rfl, x, A7.dx, _, rfl, by rw [← ea]; exact hh9.h.oa, rfl, ⟨⟨0, ρ7, A7, st7, by rw [ea]; rfl, hh9.h, by omega, fun H10 g10 => ?_⟩⟩⟩
    have hh10 := hh9.mono g10
    have hb10 := hb9.mono g10
    have op10 := hb10.op
    have omH : H10 mm = some (.dK (bookK B7 b7.bot)) := by rw [← em]; exact hb10.om
    have pql : (B7.qs.map fun q => V.ref q.1).length = b7.pts.length := by rw [List.length_map]; exact hb7.ql
    refine ⟨_, rfl, _, rfl, _, rfl, iteF ?_⟩
    refine ⟨_, rfl, _, rfl, mm, _, rfl, DGet.k (k := Sum.inr "parts") omH, B7.lp, rfl, ⟨_, SqL.of op10⟩, fun ac hac => ?_⟩
    refine comp_1 (J := Itl K B7.lp) (n := b7.pts.length) 0 (fun i o H' => Same H10 H' ∧ o = ((b7.pts.take i).map (fun p : BP => p.wo)).map V.int) (by omega) ⟨same_new hac _, rfl⟩ (fun i o H' hi _ hp => ⟨_, _, SqL.of (hp.1 _ _ op10), List.getElem?_eq_getElem (by rw [pql]; exact hi)⟩) (fun o H' _ hp => ⟨_, SqL.of (hp.1 _ _ op10), by rw [pql]; exact Nat.le_refl _⟩) ?_ ?_
    · rintro j y o H11 H12 hj hol ha ⟨g, e⟩ ⟨rfl, hy⟩
      have ej := List.getElem?_eq_getElem hj
      obtain ⟨qq, eq, k1, k2, _, _⟩ := hb10.find ej
      have ey := hy _ (SqL.of (g _ _ op10))
      rw [List.getElem?_map, eq] at ey
      cases ey
      refine ⟨_, rfl, qq.1, _, _, _, rfl, rfl, SqL.of (g _ _ k1), atI_nat (j := 2) rfl, ha, g.upd_new hac _, ?_⟩
      subst e
      rw [take_snoc ej, List.map_append, List.map_append]
      rfl
    rintro o H11 _ ha ⟨g11, e⟩
    rw [List.take_length] at e
    subst e
    refine ⟨ac, b7.pts.map (fun p : BP => p.wo), rfl, SqL.of ha, rfl, _, rfl, ?_⟩
    have ew : wholeS st7 = (b7.pts.map (fun p : BP => p.wo)).sum := wl
    rw [show (!decide (V.int (wholeS st7) = V.int (b7.pts.map (fun p : BP => p.wo)).sum)) = false from by rw [decide_eq_true (by rw [ew])]; rfl]
    refine iteF ?_
    exact ⟨ρ7, A7, B7, st7, b7, _, _, rfl, hh10.mono g11, hb10.mono g11, gd7, ea, em, fS7.go (((out_same g8).trans (out_same g9)).trans ((out_same g10).trans (out_same g11)))⟩
  rintro σ H6 ⟨ρ6, A6, B6, st6, b6, s5, s6, rfl, _⟩
  exact q H6
end
theorem all_mk {l : PySem.W.OpenLaw} {w : World} {K : PySem.W.Frag} {h : Heap} {mg : Str → Option Value} {fa : Addr} (X : K.In h) (G : h.Ns mainGlobals mg) (hfa : mg "law" = some (.ref fa))
    {f0 : Addr} {od0 an0 : Option Addr} {sl0 : Array (Option Value)} {oc0 kV0 dc0 pm0 cd0 ct0 : Value}
    {f1 : Addr} {od1 an1 : Option Addr} {sl1 : Array (Option Value)} {oc1 kV1 dc1 pm1 cd1 ct1 : Value}
    {f2 : Addr} {od2 an2 : Option Addr} {sl2 : Array (Option Value)} {oc2 kV2 dc2 pm2 cd2 ct2 : Value}
    {f3 : Addr} {od3 an3 : Option Addr} {sl3 : Array (Option Value)} {oc3 kV3 dc3 pm3 cd3 ct3 : Value}
    {f4 : Addr} {od4 an4 : Option Addr} {sl4 : Array (Option Value)} {oc4 kV4 dc4 pm4 cd4 ct4 : Value}
    {f5 : Addr} {od5 an5 : Option Addr} {sl5 : Array (Option Value)} {oc5 kV5 dc5 pm5 cd5 ct5 : Value}
    {f6 : Addr} {od6 an6 : Option Addr} {sl6 : Array (Option Value)} {oc6 kV6 dc6 pm6 cd6 ct6 : Value}
    {f7 : Addr} {od7 an7 : Option Addr} {sl7 : Array (Option Value)} {oc7 kV7 dc7 pm7 cd7 ct7 : Value}
    {f8 : Addr} {od8 an8 : Option Addr} {sl8 : Array (Option Value)} {oc8 kV8 dc8 pm8 cd8 ct8 : Value}
    {f9 : Addr} {od9 an9 : Option Addr} {sl9 : Array (Option Value)} {oc9 kV9 dc9 pm9 cd9 ct9 : Value}
    {f10 : Addr} {od10 an10 : Option Addr} {sl10 : Array (Option Value)} {oc10 kV10 dc10 pm10 cd10 ct10 : Value}
    {f11 : Addr} {od11 an11 : Option Addr} {sl11 : Array (Option Value)} {oc11 kV11 dc11 pm11 cd11 ct11 : Value}
    {f12 : Addr} {od12 an12 : Option Addr} {sl12 : Array (Option Value)} {oc12 kV12 dc12 pm12 cd12 ct12 : Value}
    {f13 : Addr} {od13 an13 : Option Addr} {sl13 : Array (Option Value)} {oc13 kV13 dc13 pm13 cd13 ct13 : Value}
    {f14 : Addr} {od14 an14 : Option Addr} {sl14 : Array (Option Value)} {oc14 kV14 dc14 pm14 cd14 ct14 : Value}
    {f15 : Addr} {od15 an15 : Option Addr} {sl15 : Array (Option Value)} {oc15 kV15 dc15 pm15 cd15 ct15 : Value}
    {f16 : Addr} {od16 an16 : Option Addr} {sl16 : Array (Option Value)} {oc16 kV16 dc16 pm16 cd16 ct16 : Value}
    {f17 : Addr} {od17 an17 : Option Addr} {sl17 : Array (Option Value)} {oc17 kV17 dc17 pm17 cd17 ct17 : Value}
    {f18 : Addr} {od18 an18 : Option Addr} {sl18 : Array (Option Value)} {oc18 kV18 dc18 pm18 cd18 ct18 : Value}
    {f19 : Addr} {od19 an19 : Option Addr} {sl19 : Array (Option Value)} {oc19 kV19 dc19 pm19 cd19 ct19 : Value}
    {f20 : Addr} {od20 an20 : Option Addr} {sl20 : Array (Option Value)} {oc20 kV20 dc20 pm20 cd20 ct20 : Value}
    {f21 : Addr} {od21 an21 : Option Addr} {sl21 : Array (Option Value)} {oc21 kV21 dc21 pm21 cd21 ct21 : Value}
    {f22 : Addr} {od22 an22 : Option Addr} {sl22 : Array (Option Value)} {oc22 kV22 dc22 pm22 cd22 ct22 : Value}
    {f23 : Addr} {od23 an23 : Option Addr} {sl23 : Array (Option Value)} {oc23 kV23 dc23 pm23 cd23 ct23 : Value}
    (a0 : PySem.W.nsIn K mainGlobals "common_factor" = some (some (.ref f0))) (l0 : K.lookup f0 = some ⟨oc0, od0, .func (PySem.W.fnOf "common_factor" "common_factor" (defArgs sd_common_factor) (defBody sd_common_factor) (defScope sd_common_factor) .none kV0 dc0 pm0 an0 cd0 ct0), sl0⟩) (c0 : PySem.W.codeIn K cd0 "common_factor" = true) (k0 : PySem.W.keepIn K (.ref f0) = true)
    (a1 : PySem.W.nsIn K mainGlobals "made_of" = some (some (.ref f1))) (l1 : K.lookup f1 = some ⟨oc1, od1, .func (PySem.W.fnOf "made_of" "made_of" (defArgs sd_made_of) (defBody sd_made_of) (defScope sd_made_of) .none kV1 dc1 pm1 an1 cd1 ct1), sl1⟩) (c1 : PySem.W.codeIn K cd1 "made_of" = true) (k1 : PySem.W.keepIn K (.ref f1) = true)
    (a2 : PySem.W.nsIn K mainGlobals "is_name" = some (some (.ref f2))) (l2 : K.lookup f2 = some ⟨oc2, od2, .func (PySem.W.fnOf "is_name" "is_name" (defArgs sd_is_name) (defBody sd_is_name) (defScope sd_is_name) .none kV2 dc2 pm2 an2 cd2 ct2), sl2⟩) (c2 : PySem.W.codeIn K cd2 "is_name" = true) (k2 : PySem.W.keepIn K (.ref f2) = true)
    (a3 : PySem.W.nsIn K mainGlobals "check_amount" = some (some (.ref f3))) (l3 : K.lookup f3 = some ⟨oc3, od3, .func (PySem.W.fnOf "check_amount" "check_amount" (defArgs sd_check_amount) (defBody sd_check_amount) (defScope sd_check_amount) .none kV3 dc3 pm3 an3 cd3 ct3), sl3⟩) (c3 : PySem.W.codeIn K cd3 "check_amount" = true) (k3 : PySem.W.keepIn K (.ref f3) = true)
    (a4 : PySem.W.nsIn K mainGlobals "check_loss" = some (some (.ref f4))) (l4 : K.lookup f4 = some ⟨oc4, od4, .func (PySem.W.fnOf "check_loss" "check_loss" (defArgs sd_check_loss) (defBody sd_check_loss) (defScope sd_check_loss) .none kV4 dc4 pm4 an4 cd4 ct4), sl4⟩) (c4 : PySem.W.codeIn K cd4 "check_loss" = true) (k4 : PySem.W.keepIn K (.ref f4) = true)
    (a5 : PySem.W.nsIn K mainGlobals "amounts_of" = some (some (.ref f5))) (l5 : K.lookup f5 = some ⟨oc5, od5, .func (PySem.W.fnOf "amounts_of" "amounts_of" (defArgs sd_amounts_of) (defBody sd_amounts_of) (defScope sd_amounts_of) .none kV5 dc5 pm5 an5 cd5 ct5), sl5⟩) (c5 : PySem.W.codeIn K cd5 "amounts_of" = true) (k5 : PySem.W.keepIn K (.ref f5) = true)
    (a6 : PySem.W.nsIn K mainGlobals "factor_of_all" = some (some (.ref f6))) (l6 : K.lookup f6 = some ⟨oc6, od6, .func (PySem.W.fnOf "factor_of_all" "factor_of_all" (defArgs sd_factor_of_all) (defBody sd_factor_of_all) (defScope sd_factor_of_all) .none kV6 dc6 pm6 an6 cd6 ct6), sl6⟩) (c6 : PySem.W.codeIn K cd6 "factor_of_all" = true) (k6 : PySem.W.keepIn K (.ref f6) = true)
    (a7 : PySem.W.nsIn K mainGlobals "_law_draw" = some (some (.ref f7))) (l7 : K.lookup f7 = some ⟨oc7, od7, .func (PySem.W.fnOf "_law_draw" "_law_draw" (defArgs sd__law_draw) (defBody sd__law_draw) (defScope sd__law_draw) .none kV7 dc7 pm7 an7 cd7 ct7), sl7⟩) (c7 : PySem.W.codeIn K cd7 "_law_draw" = true) (k7 : PySem.W.keepIn K (.ref f7) = true)
    (a8 : PySem.W.nsIn K mainGlobals "_law_name" = some (some (.ref f8))) (l8 : K.lookup f8 = some ⟨oc8, od8, .func (PySem.W.fnOf "_law_name" "_law_name" (defArgs sd__law_name) (defBody sd__law_name) (defScope sd__law_name) .none kV8 dc8 pm8 an8 cd8 ct8), sl8⟩) (c8 : PySem.W.codeIn K cd8 "_law_name" = true) (k8 : PySem.W.keepIn K (.ref f8) = true)
    (a9 : PySem.W.nsIn K mainGlobals "_law_names" = some (some (.ref f9))) (l9 : K.lookup f9 = some ⟨oc9, od9, .func (PySem.W.fnOf "_law_names" "_law_names" (defArgs sd__law_names) (defBody sd__law_names) (defScope sd__law_names) .none kV9 dc9 pm9 an9 cd9 ct9), sl9⟩) (c9 : PySem.W.codeIn K cd9 "_law_names" = true) (k9 : PySem.W.keepIn K (.ref f9) = true)
    (a10 : PySem.W.nsIn K mainGlobals "_law_model" = some (some (.ref f10))) (l10 : K.lookup f10 = some ⟨oc10, od10, .func (PySem.W.fnOf "_law_model" "_law_model" (defArgs sd__law_model) (defBody sd__law_model) (defScope sd__law_model) .none kV10 dc10 pm10 an10 cd10 ct10), sl10⟩) (c10 : PySem.W.codeIn K cd10 "_law_model" = true) (k10 : PySem.W.keepIn K (.ref f10) = true)
    (a11 : PySem.W.nsIn K mainGlobals "_law_much" = some (some (.ref f11))) (l11 : K.lookup f11 = some ⟨oc11, od11, .func (PySem.W.fnOf "_law_much" "_law_much" (defArgs sd__law_much) (defBody sd__law_much) (defScope sd__law_much) .none kV11 dc11 pm11 an11 cd11 ct11), sl11⟩) (c11 : PySem.W.codeIn K cd11 "_law_much" = true) (k11 : PySem.W.keepIn K (.ref f11) = true)
    (a12 : PySem.W.nsIn K mainGlobals "_law_seat" = some (some (.ref f12))) (l12 : K.lookup f12 = some ⟨oc12, od12, .func (PySem.W.fnOf "_law_seat" "_law_seat" (defArgs sd__law_seat) (defBody sd__law_seat) (defScope sd__law_seat) .none kV12 dc12 pm12 an12 cd12 ct12), sl12⟩) (c12 : PySem.W.codeIn K cd12 "_law_seat" = true) (k12 : PySem.W.keepIn K (.ref f12) = true)
    (a13 : PySem.W.nsIn K mainGlobals "_law_new_part" = some (some (.ref f13))) (l13 : K.lookup f13 = some ⟨oc13, od13, .func (PySem.W.fnOf "_law_new_part" "_law_new_part" (defArgs sd__law_new_part) (defBody sd__law_new_part) (defScope sd__law_new_part) .none kV13 dc13 pm13 an13 cd13 ct13), sl13⟩) (c13 : PySem.W.codeIn K cd13 "_law_new_part" = true) (k13 : PySem.W.keepIn K (.ref f13) = true)
    (a14 : PySem.W.nsIn K mainGlobals "_law_loads" = some (some (.ref f14))) (l14 : K.lookup f14 = some ⟨oc14, od14, .func (PySem.W.fnOf "_law_loads" "_law_loads" (defArgs sd__law_loads) (defBody sd__law_loads) (defScope sd__law_loads) .none kV14 dc14 pm14 an14 cd14 ct14), sl14⟩) (c14 : PySem.W.codeIn K cd14 "_law_loads" = true) (k14 : PySem.W.keepIn K (.ref f14) = true)
    (a15 : PySem.W.nsIn K mainGlobals "_law_rows" = some (some (.ref f15))) (l15 : K.lookup f15 = some ⟨oc15, od15, .func (PySem.W.fnOf "_law_rows" "_law_rows" (defArgs sd__law_rows) (defBody sd__law_rows) (defScope sd__law_rows) .none kV15 dc15 pm15 an15 cd15 ct15), sl15⟩) (c15 : PySem.W.codeIn K cd15 "_law_rows" = true) (k15 : PySem.W.keepIn K (.ref f15) = true)
    (a16 : PySem.W.nsIn K mainGlobals "_law_at" = some (some (.ref f16))) (l16 : K.lookup f16 = some ⟨oc16, od16, .func (PySem.W.fnOf "_law_at" "_law_at" (defArgs sd__law_at) (defBody sd__law_at) (defScope sd__law_at) .none kV16 dc16 pm16 an16 cd16 ct16), sl16⟩) (c16 : PySem.W.codeIn K cd16 "_law_at" = true) (k16 : PySem.W.keepIn K (.ref f16) = true)
    (a17 : PySem.W.nsIn K mainGlobals "_law_bear" = some (some (.ref f17))) (l17 : K.lookup f17 = some ⟨oc17, od17, .func (PySem.W.fnOf "_law_bear" "_law_bear" (defArgs sd__law_bear) (defBody sd__law_bear) (defScope sd__law_bear) .none kV17 dc17 pm17 an17 cd17 ct17), sl17⟩) (c17 : PySem.W.codeIn K cd17 "_law_bear" = true) (k17 : PySem.W.keepIn K (.ref f17) = true)
    (a18 : PySem.W.nsIn K mainGlobals "_law_model_cast" = some (some (.ref f18))) (l18 : K.lookup f18 = some ⟨oc18, od18, .func (PySem.W.fnOf "_law_model_cast" "_law_model_cast" (defArgs sd__law_model_cast) (defBody sd__law_model_cast) (defScope sd__law_model_cast) .none kV18 dc18 pm18 an18 cd18 ct18), sl18⟩) (c18 : PySem.W.codeIn K cd18 "_law_model_cast" = true) (k18 : PySem.W.keepIn K (.ref f18) = true)
    (a19 : PySem.W.nsIn K mainGlobals "_law_cast_now" = some (some (.ref f19))) (l19 : K.lookup f19 = some ⟨oc19, od19, .func (PySem.W.fnOf "_law_cast_now" "_law_cast_now" (defArgs sd__law_cast_now) (defBody sd__law_cast_now) (defScope sd__law_cast_now) .none kV19 dc19 pm19 an19 cd19 ct19), sl19⟩) (c19 : PySem.W.codeIn K cd19 "_law_cast_now" = true) (k19 : PySem.W.keepIn K (.ref f19) = true)
    (a20 : PySem.W.nsIn K mainGlobals "_law_int" = some (some (.ref f20))) (l20 : K.lookup f20 = some ⟨oc20, od20, .func (PySem.W.fnOf "_law_int" "_law_int" (defArgs sd__law_int) (defBody sd__law_int) (defScope sd__law_int) .none kV20 dc20 pm20 an20 cd20 ct20), sl20⟩) (c20 : PySem.W.codeIn K cd20 "_law_int" = true) (k20 : PySem.W.keepIn K (.ref f20) = true)
    (a21 : PySem.W.nsIn K mainGlobals "_law_part_list" = some (some (.ref f21))) (l21 : K.lookup f21 = some ⟨oc21, od21, .func (PySem.W.fnOf "_law_part_list" "_law_part_list" (defArgs sd__law_part_list) (defBody sd__law_part_list) (defScope sd__law_part_list) .none kV21 dc21 pm21 an21 cd21 ct21), sl21⟩) (c21 : PySem.W.codeIn K cd21 "_law_part_list" = true) (k21 : PySem.W.keepIn K (.ref f21) = true)
    (a22 : PySem.W.nsIn K mainGlobals "_law_begin" = some (some (.ref f22))) (l22 : K.lookup f22 = some ⟨oc22, od22, .func (PySem.W.fnOf "_law_begin" "_law_begin" (defArgs sd__law_begin) (defBody sd__law_begin) (defScope sd__law_begin) .none kV22 dc22 pm22 an22 cd22 ct22), sl22⟩) (c22 : PySem.W.codeIn K cd22 "_law_begin" = true) (k22 : PySem.W.keepIn K (.ref f22) = true)
    (a23 : PySem.W.nsIn K mainGlobals "law" = some (some (.ref f23))) (l23 : K.lookup f23 = some ⟨oc23, od23, .func (PySem.W.fnOf "law" "law" (defArgs sd_law) (defBody sd_law) (defScope sd_law) .none kV23 dc23 pm23 an23 cd23 ct23), sl23⟩) (c23 : PySem.W.codeIn K cd23 "law" = true) (k23 : PySem.W.keepIn K (.ref f23) = true)
    (z_len : PySem.W.nsIn K mainGlobals "len" = some none)
    (z_range : PySem.W.nsIn K mainGlobals "range" = some none)
    (z_sum : PySem.W.nsIn K mainGlobals "sum" = some none)
    (z_list : PySem.W.nsIn K mainGlobals "list" = some none)
    (z_zip : PySem.W.nsIn K mainGlobals "zip" = some none)
    (z_all : PySem.W.nsIn K mainGlobals "all" = some none)
    (z_int : PySem.W.nsIn K mainGlobals "int" = some none)
    (z_bool : PySem.W.nsIn K mainGlobals "bool" = some none)
    (z_str : PySem.W.nsIn K mainGlobals "str" = some none)
    (z_tuple : PySem.W.nsIn K mainGlobals "tuple" = some none)
    (z_abs : PySem.W.nsIn K mainGlobals "abs" = some none)
    (z_isinstance : PySem.W.nsIn K mainGlobals "isinstance" = some none)
    (z_min : PySem.W.nsIn K mainGlobals "min" = some none)
    {tk_LETTERS : Tok} (b_LETTERS : PySem.W.nsIn K mainGlobals "LETTERS" = some (some (.str "abcdefghijklmnopqrstuvwxyz" tk_LETTERS)))
    {C_Hold : Addr} (aC_Hold : PySem.W.nsIn K mainGlobals "Hold" = some (some (.ref C_Hold))) (pg_Hold : PySem.W.plainGet K C_Hold Str.empty = true) (hd_Hold : PySem.W.hasDictIn K C_Hold = true) (po_Hold : PySem.W.plainOver K C_Hold = true) (sa_Hold : PySem.W.findIn K (.ref C_Hold) "__setattr__" = some (some (.builtin "object.__setattr__"))) (mk_Hold : PySem.W.makesIn K C_Hold = true) (kc_Hold : PySem.W.keepIn K (.ref C_Hold) = true)
    {f_Hold_init : Addr} {od_Hold_init an_Hold_init : Option Addr} {sl_Hold_init : Array (Option Value)} {oc_Hold_init kV_Hold_init dc_Hold_init pm_Hold_init cd_Hold_init ct_Hold_init : Value}
    (a_Hold_init : PySem.W.findIn K (.ref C_Hold) "__init__" = some (some (.ref f_Hold_init))) (i_Hold_init : PySem.W.isFn K (.ref f_Hold_init) = true) (l_Hold_init : K.lookup f_Hold_init = some ⟨oc_Hold_init, od_Hold_init, .func (PySem.W.fnOf "__init__" "Hold.__init__" (defArgs sd_Hold_init) (defBody sd_Hold_init) (defScope sd_Hold_init) .none kV_Hold_init dc_Hold_init pm_Hold_init an_Hold_init cd_Hold_init ct_Hold_init), sl_Hold_init⟩) (c_Hold_init : PySem.W.codeIn K cd_Hold_init "Hold.__init__" = true) (k_Hold_init : PySem.W.keepIn K (.ref f_Hold_init) = true)
    {f_Hold_place_of : Addr} {od_Hold_place_of an_Hold_place_of : Option Addr} {sl_Hold_place_of : Array (Option Value)} {oc_Hold_place_of kV_Hold_place_of dc_Hold_place_of pm_Hold_place_of cd_Hold_place_of ct_Hold_place_of : Value}
    (a_Hold_place_of : PySem.W.findIn K (.ref C_Hold) "place_of" = some (some (.ref f_Hold_place_of))) (i_Hold_place_of : PySem.W.isFn K (.ref f_Hold_place_of) = true) (l_Hold_place_of : K.lookup f_Hold_place_of = some ⟨oc_Hold_place_of, od_Hold_place_of, .func (PySem.W.fnOf "place_of" "Hold.place_of" (defArgs sd_Hold_place_of) (defBody sd_Hold_place_of) (defScope sd_Hold_place_of) .none kV_Hold_place_of dc_Hold_place_of pm_Hold_place_of an_Hold_place_of cd_Hold_place_of ct_Hold_place_of), sl_Hold_place_of⟩) (c_Hold_place_of : PySem.W.codeIn K cd_Hold_place_of "Hold.place_of" = true) (k_Hold_place_of : PySem.W.keepIn K (.ref f_Hold_place_of) = true)
    {f_Hold_part_of : Addr} {od_Hold_part_of an_Hold_part_of : Option Addr} {sl_Hold_part_of : Array (Option Value)} {oc_Hold_part_of kV_Hold_part_of dc_Hold_part_of pm_Hold_part_of cd_Hold_part_of ct_Hold_part_of : Value}
    (a_Hold_part_of : PySem.W.findIn K (.ref C_Hold) "part_of" = some (some (.ref f_Hold_part_of))) (i_Hold_part_of : PySem.W.isFn K (.ref f_Hold_part_of) = true) (l_Hold_part_of : K.lookup f_Hold_part_of = some ⟨oc_Hold_part_of, od_Hold_part_of, .func (PySem.W.fnOf "part_of" "Hold.part_of" (defArgs sd_Hold_part_of) (defBody sd_Hold_part_of) (defScope sd_Hold_part_of) .none kV_Hold_part_of dc_Hold_part_of pm_Hold_part_of an_Hold_part_of cd_Hold_part_of ct_Hold_part_of), sl_Hold_part_of⟩) (c_Hold_part_of : PySem.W.codeIn K cd_Hold_part_of "Hold.part_of" = true) (k_Hold_part_of : PySem.W.keepIn K (.ref f_Hold_part_of) = true)
    {f_Hold_check_new : Addr} {od_Hold_check_new an_Hold_check_new : Option Addr} {sl_Hold_check_new : Array (Option Value)} {oc_Hold_check_new kV_Hold_check_new dc_Hold_check_new pm_Hold_check_new cd_Hold_check_new ct_Hold_check_new : Value}
    (a_Hold_check_new : PySem.W.findIn K (.ref C_Hold) "check_new" = some (some (.ref f_Hold_check_new))) (i_Hold_check_new : PySem.W.isFn K (.ref f_Hold_check_new) = true) (l_Hold_check_new : K.lookup f_Hold_check_new = some ⟨oc_Hold_check_new, od_Hold_check_new, .func (PySem.W.fnOf "check_new" "Hold.check_new" (defArgs sd_Hold_check_new) (defBody sd_Hold_check_new) (defScope sd_Hold_check_new) .none kV_Hold_check_new dc_Hold_check_new pm_Hold_check_new an_Hold_check_new cd_Hold_check_new ct_Hold_check_new), sl_Hold_check_new⟩) (c_Hold_check_new : PySem.W.codeIn K cd_Hold_check_new "Hold.check_new" = true) (k_Hold_check_new : PySem.W.keepIn K (.ref f_Hold_check_new) = true)
    {f_Hold_parts : Addr} {od_Hold_parts an_Hold_parts : Option Addr} {sl_Hold_parts : Array (Option Value)} {oc_Hold_parts kV_Hold_parts dc_Hold_parts pm_Hold_parts cd_Hold_parts ct_Hold_parts : Value}
    (a_Hold_parts : PySem.W.findIn K (.ref C_Hold) "parts" = some (some (.ref f_Hold_parts))) (i_Hold_parts : PySem.W.isFn K (.ref f_Hold_parts) = true) (l_Hold_parts : K.lookup f_Hold_parts = some ⟨oc_Hold_parts, od_Hold_parts, .func (PySem.W.fnOf "parts" "Hold.parts" (defArgs sd_Hold_parts) (defBody sd_Hold_parts) (defScope sd_Hold_parts) .none kV_Hold_parts dc_Hold_parts pm_Hold_parts an_Hold_parts cd_Hold_parts ct_Hold_parts), sl_Hold_parts⟩) (c_Hold_parts : PySem.W.codeIn K cd_Hold_parts "Hold.parts" = true) (k_Hold_parts : PySem.W.keepIn K (.ref f_Hold_parts) = true)
    {f_Hold_whole : Addr} {od_Hold_whole an_Hold_whole : Option Addr} {sl_Hold_whole : Array (Option Value)} {oc_Hold_whole kV_Hold_whole dc_Hold_whole pm_Hold_whole cd_Hold_whole ct_Hold_whole : Value}
    (a_Hold_whole : PySem.W.findIn K (.ref C_Hold) "whole" = some (some (.ref f_Hold_whole))) (i_Hold_whole : PySem.W.isFn K (.ref f_Hold_whole) = true) (l_Hold_whole : K.lookup f_Hold_whole = some ⟨oc_Hold_whole, od_Hold_whole, .func (PySem.W.fnOf "whole" "Hold.whole" (defArgs sd_Hold_whole) (defBody sd_Hold_whole) (defScope sd_Hold_whole) .none kV_Hold_whole dc_Hold_whole pm_Hold_whole an_Hold_whole cd_Hold_whole ct_Hold_whole), sl_Hold_whole⟩) (c_Hold_whole : PySem.W.codeIn K cd_Hold_whole "Hold.whole" = true) (k_Hold_whole : PySem.W.keepIn K (.ref f_Hold_whole) = true)
    {f_Hold_beyond_common : Addr} {od_Hold_beyond_common an_Hold_beyond_common : Option Addr} {sl_Hold_beyond_common : Array (Option Value)} {oc_Hold_beyond_common kV_Hold_beyond_common dc_Hold_beyond_common pm_Hold_beyond_common cd_Hold_beyond_common ct_Hold_beyond_common : Value}
    (a_Hold_beyond_common : PySem.W.findIn K (.ref C_Hold) "beyond_common" = some (some (.ref f_Hold_beyond_common))) (i_Hold_beyond_common : PySem.W.isFn K (.ref f_Hold_beyond_common) = true) (l_Hold_beyond_common : K.lookup f_Hold_beyond_common = some ⟨oc_Hold_beyond_common, od_Hold_beyond_common, .func (PySem.W.fnOf "beyond_common" "Hold.beyond_common" (defArgs sd_Hold_beyond_common) (defBody sd_Hold_beyond_common) (defScope sd_Hold_beyond_common) .none kV_Hold_beyond_common dc_Hold_beyond_common pm_Hold_beyond_common an_Hold_beyond_common cd_Hold_beyond_common ct_Hold_beyond_common), sl_Hold_beyond_common⟩) (c_Hold_beyond_common : PySem.W.codeIn K cd_Hold_beyond_common "Hold.beyond_common" = true) (k_Hold_beyond_common : PySem.W.keepIn K (.ref f_Hold_beyond_common) = true)
    {f_Hold_stow : Addr} {od_Hold_stow an_Hold_stow : Option Addr} {sl_Hold_stow : Array (Option Value)} {oc_Hold_stow kV_Hold_stow dc_Hold_stow pm_Hold_stow cd_Hold_stow ct_Hold_stow : Value}
    (a_Hold_stow : PySem.W.findIn K (.ref C_Hold) "stow" = some (some (.ref f_Hold_stow))) (i_Hold_stow : PySem.W.isFn K (.ref f_Hold_stow) = true) (l_Hold_stow : K.lookup f_Hold_stow = some ⟨oc_Hold_stow, od_Hold_stow, .func (PySem.W.fnOf "stow" "Hold.stow" (defArgs sd_Hold_stow) (defBody sd_Hold_stow) (defScope sd_Hold_stow) .none kV_Hold_stow dc_Hold_stow pm_Hold_stow an_Hold_stow cd_Hold_stow ct_Hold_stow), sl_Hold_stow⟩) (c_Hold_stow : PySem.W.codeIn K cd_Hold_stow "Hold.stow" = true) (k_Hold_stow : PySem.W.keepIn K (.ref f_Hold_stow) = true)
    {f_Hold_sign : Addr} {od_Hold_sign an_Hold_sign : Option Addr} {sl_Hold_sign : Array (Option Value)} {oc_Hold_sign kV_Hold_sign dc_Hold_sign pm_Hold_sign cd_Hold_sign ct_Hold_sign : Value}
    (a_Hold_sign : PySem.W.findIn K (.ref C_Hold) "sign" = some (some (.ref f_Hold_sign))) (i_Hold_sign : PySem.W.isFn K (.ref f_Hold_sign) = true) (l_Hold_sign : K.lookup f_Hold_sign = some ⟨oc_Hold_sign, od_Hold_sign, .func (PySem.W.fnOf "sign" "Hold.sign" (defArgs sd_Hold_sign) (defBody sd_Hold_sign) (defScope sd_Hold_sign) .none kV_Hold_sign dc_Hold_sign pm_Hold_sign an_Hold_sign cd_Hold_sign ct_Hold_sign), sl_Hold_sign⟩) (c_Hold_sign : PySem.W.codeIn K cd_Hold_sign "Hold.sign" = true) (k_Hold_sign : PySem.W.keepIn K (.ref f_Hold_sign) = true)
    {f_Hold_load : Addr} {od_Hold_load an_Hold_load : Option Addr} {sl_Hold_load : Array (Option Value)} {oc_Hold_load kV_Hold_load dc_Hold_load pm_Hold_load cd_Hold_load ct_Hold_load : Value}
    (a_Hold_load : PySem.W.findIn K (.ref C_Hold) "load" = some (some (.ref f_Hold_load))) (i_Hold_load : PySem.W.isFn K (.ref f_Hold_load) = true) (l_Hold_load : K.lookup f_Hold_load = some ⟨oc_Hold_load, od_Hold_load, .func (PySem.W.fnOf "load" "Hold.load" (defArgs sd_Hold_load) (defBody sd_Hold_load) (defScope sd_Hold_load) .none kV_Hold_load dc_Hold_load pm_Hold_load an_Hold_load cd_Hold_load ct_Hold_load), sl_Hold_load⟩) (c_Hold_load : PySem.W.codeIn K cd_Hold_load "Hold.load" = true) (k_Hold_load : PySem.W.keepIn K (.ref f_Hold_load) = true)
    {f_Hold_given_up : Addr} {od_Hold_given_up an_Hold_given_up : Option Addr} {sl_Hold_given_up : Array (Option Value)} {oc_Hold_given_up kV_Hold_given_up dc_Hold_given_up pm_Hold_given_up cd_Hold_given_up ct_Hold_given_up : Value}
    (a_Hold_given_up : PySem.W.findIn K (.ref C_Hold) "given_up" = some (some (.ref f_Hold_given_up))) (i_Hold_given_up : PySem.W.isFn K (.ref f_Hold_given_up) = true) (l_Hold_given_up : K.lookup f_Hold_given_up = some ⟨oc_Hold_given_up, od_Hold_given_up, .func (PySem.W.fnOf "given_up" "Hold.given_up" (defArgs sd_Hold_given_up) (defBody sd_Hold_given_up) (defScope sd_Hold_given_up) .none kV_Hold_given_up dc_Hold_given_up pm_Hold_given_up an_Hold_given_up cd_Hold_given_up ct_Hold_given_up), sl_Hold_given_up⟩) (c_Hold_given_up : PySem.W.codeIn K cd_Hold_given_up "Hold.given_up" = true) (k_Hold_given_up : PySem.W.keepIn K (.ref f_Hold_given_up) = true)
    {f_Hold_lessen : Addr} {od_Hold_lessen an_Hold_lessen : Option Addr} {sl_Hold_lessen : Array (Option Value)} {oc_Hold_lessen kV_Hold_lessen dc_Hold_lessen pm_Hold_lessen cd_Hold_lessen ct_Hold_lessen : Value}
    (a_Hold_lessen : PySem.W.findIn K (.ref C_Hold) "lessen" = some (some (.ref f_Hold_lessen))) (i_Hold_lessen : PySem.W.isFn K (.ref f_Hold_lessen) = true) (l_Hold_lessen : K.lookup f_Hold_lessen = some ⟨oc_Hold_lessen, od_Hold_lessen, .func (PySem.W.fnOf "lessen" "Hold.lessen" (defArgs sd_Hold_lessen) (defBody sd_Hold_lessen) (defScope sd_Hold_lessen) .none kV_Hold_lessen dc_Hold_lessen pm_Hold_lessen an_Hold_lessen cd_Hold_lessen ct_Hold_lessen), sl_Hold_lessen⟩) (c_Hold_lessen : PySem.W.codeIn K cd_Hold_lessen "Hold.lessen" = true) (k_Hold_lessen : PySem.W.keepIn K (.ref f_Hold_lessen) = true)
    {f_Hold_blend : Addr} {od_Hold_blend an_Hold_blend : Option Addr} {sl_Hold_blend : Array (Option Value)} {oc_Hold_blend kV_Hold_blend dc_Hold_blend pm_Hold_blend cd_Hold_blend ct_Hold_blend : Value}
    (a_Hold_blend : PySem.W.findIn K (.ref C_Hold) "blend" = some (some (.ref f_Hold_blend))) (i_Hold_blend : PySem.W.isFn K (.ref f_Hold_blend) = true) (l_Hold_blend : K.lookup f_Hold_blend = some ⟨oc_Hold_blend, od_Hold_blend, .func (PySem.W.fnOf "blend" "Hold.blend" (defArgs sd_Hold_blend) (defBody sd_Hold_blend) (defScope sd_Hold_blend) .none kV_Hold_blend dc_Hold_blend pm_Hold_blend an_Hold_blend cd_Hold_blend ct_Hold_blend), sl_Hold_blend⟩) (c_Hold_blend : PySem.W.codeIn K cd_Hold_blend "Hold.blend" = true) (k_Hold_blend : PySem.W.keepIn K (.ref f_Hold_blend) = true)
    {f_Hold_cast : Addr} {od_Hold_cast an_Hold_cast : Option Addr} {sl_Hold_cast : Array (Option Value)} {oc_Hold_cast kV_Hold_cast dc_Hold_cast pm_Hold_cast cd_Hold_cast ct_Hold_cast : Value}
    (a_Hold_cast : PySem.W.findIn K (.ref C_Hold) "cast" = some (some (.ref f_Hold_cast))) (i_Hold_cast : PySem.W.isFn K (.ref f_Hold_cast) = true) (l_Hold_cast : K.lookup f_Hold_cast = some ⟨oc_Hold_cast, od_Hold_cast, .func (PySem.W.fnOf "cast" "Hold.cast" (defArgs sd_Hold_cast) (defBody sd_Hold_cast) (defScope sd_Hold_cast) .none kV_Hold_cast dc_Hold_cast pm_Hold_cast an_Hold_cast cd_Hold_cast ct_Hold_cast), sl_Hold_cast⟩) (c_Hold_cast : PySem.W.codeIn K cd_Hold_cast "Hold.cast" = true) (k_Hold_cast : PySem.W.keepIn K (.ref f_Hold_cast) = true)
    (n_Hold_places : PySem.W.findIn K (.ref C_Hold) "places" = some none)
    (n_Hold_aboard : PySem.W.findIn K (.ref C_Hold) "aboard" = some none)
    (n_Hold_ashore : PySem.W.findIn K (.ref C_Hold) "ashore" = some none)
    (n_Hold_names : PySem.W.findIn K (.ref C_Hold) "names" = some none)
    (n_Hold_bottom : PySem.W.findIn K (.ref C_Hold) "bottom" = some none)
    (n_Hold_common : PySem.W.findIn K (.ref C_Hold) "common" = some none)
    (n_Hold_purses : PySem.W.findIn K (.ref C_Hold) "purses" = some none)
    {C_Part : Addr} (aC_Part : PySem.W.nsIn K mainGlobals "Part" = some (some (.ref C_Part))) (pg_Part : PySem.W.plainGet K C_Part Str.empty = true) (hd_Part : PySem.W.hasDictIn K C_Part = true) (po_Part : PySem.W.plainOver K C_Part = true) (sa_Part : PySem.W.findIn K (.ref C_Part) "__setattr__" = some (some (.builtin "object.__setattr__"))) (mk_Part : PySem.W.makesIn K C_Part = true) (kc_Part : PySem.W.keepIn K (.ref C_Part) = true)
    {f_Part_init : Addr} {od_Part_init an_Part_init : Option Addr} {sl_Part_init : Array (Option Value)} {oc_Part_init kV_Part_init dc_Part_init pm_Part_init cd_Part_init ct_Part_init : Value}
    (a_Part_init : PySem.W.findIn K (.ref C_Part) "__init__" = some (some (.ref f_Part_init))) (i_Part_init : PySem.W.isFn K (.ref f_Part_init) = true) (l_Part_init : K.lookup f_Part_init = some ⟨oc_Part_init, od_Part_init, .func (PySem.W.fnOf "__init__" "Part.__init__" (defArgs sd_Part_init) (defBody sd_Part_init) (defScope sd_Part_init) .none kV_Part_init dc_Part_init pm_Part_init an_Part_init cd_Part_init ct_Part_init), sl_Part_init⟩) (c_Part_init : PySem.W.codeIn K cd_Part_init "Part.__init__" = true) (k_Part_init : PySem.W.keepIn K (.ref f_Part_init) = true)
    (n_Part_name : PySem.W.findIn K (.ref C_Part) "name" = some none)
    (n_Part_owner : PySem.W.findIn K (.ref C_Part) "owner" = some none)
    (n_Part_worth : PySem.W.findIn K (.ref C_Part) "worth" = some none)
    (n_Part_weight : PySem.W.findIn K (.ref C_Part) "weight" = some none)
    (n_Part_scale : PySem.W.findIn K (.ref C_Part) "scale" = some none)
    (n_Part_row : PySem.W.findIn K (.ref C_Part) "row" = some none)
    {C_Bottom : Addr} (aC_Bottom : PySem.W.nsIn K mainGlobals "Bottom" = some (some (.ref C_Bottom))) (pg_Bottom : PySem.W.plainGet K C_Bottom Str.empty = true) (hd_Bottom : PySem.W.hasDictIn K C_Bottom = true) (po_Bottom : PySem.W.plainOver K C_Bottom = true) (sa_Bottom : PySem.W.findIn K (.ref C_Bottom) "__setattr__" = some (some (.builtin "object.__setattr__"))) (mk_Bottom : PySem.W.makesIn K C_Bottom = true) (kc_Bottom : PySem.W.keepIn K (.ref C_Bottom) = true)
    {f_Bottom_init : Addr} {od_Bottom_init an_Bottom_init : Option Addr} {sl_Bottom_init : Array (Option Value)} {oc_Bottom_init kV_Bottom_init dc_Bottom_init pm_Bottom_init cd_Bottom_init ct_Bottom_init : Value}
    (a_Bottom_init : PySem.W.findIn K (.ref C_Bottom) "__init__" = some (some (.ref f_Bottom_init))) (i_Bottom_init : PySem.W.isFn K (.ref f_Bottom_init) = true) (l_Bottom_init : K.lookup f_Bottom_init = some ⟨oc_Bottom_init, od_Bottom_init, .func (PySem.W.fnOf "__init__" "Bottom.__init__" (defArgs sd_Bottom_init) (defBody sd_Bottom_init) (defScope sd_Bottom_init) .none kV_Bottom_init dc_Bottom_init pm_Bottom_init an_Bottom_init cd_Bottom_init ct_Bottom_init), sl_Bottom_init⟩) (c_Bottom_init : PySem.W.codeIn K cd_Bottom_init "Bottom.__init__" = true) (k_Bottom_init : PySem.W.keepIn K (.ref f_Bottom_init) = true)
    {f_Bottom_grow : Addr} {od_Bottom_grow an_Bottom_grow : Option Addr} {sl_Bottom_grow : Array (Option Value)} {oc_Bottom_grow kV_Bottom_grow dc_Bottom_grow pm_Bottom_grow cd_Bottom_grow ct_Bottom_grow : Value}
    (a_Bottom_grow : PySem.W.findIn K (.ref C_Bottom) "grow" = some (some (.ref f_Bottom_grow))) (i_Bottom_grow : PySem.W.isFn K (.ref f_Bottom_grow) = true) (l_Bottom_grow : K.lookup f_Bottom_grow = some ⟨oc_Bottom_grow, od_Bottom_grow, .func (PySem.W.fnOf "grow" "Bottom.grow" (defArgs sd_Bottom_grow) (defBody sd_Bottom_grow) (defScope sd_Bottom_grow) .none kV_Bottom_grow dc_Bottom_grow pm_Bottom_grow an_Bottom_grow cd_Bottom_grow ct_Bottom_grow), sl_Bottom_grow⟩) (c_Bottom_grow : PySem.W.codeIn K cd_Bottom_grow "Bottom.grow" = true) (k_Bottom_grow : PySem.W.keepIn K (.ref f_Bottom_grow) = true)
    (n_Bottom_steps : PySem.W.findIn K (.ref C_Bottom) "steps" = some none)
    (n_Bottom_product : PySem.W.findIn K (.ref C_Bottom) "product" = some none)
    (n_Bottom_known : PySem.W.findIn K (.ref C_Bottom) "known" = some none)
    : ∃ fd : FuncData, (∀ (s : Shared) (v : Value), BindsTo s fd ⟨[v], []⟩ [("_law_script", v)]) ∧ ∀ base : Heap, K.In base → base.Ns mainGlobals mg → FnOk l.prog w K mg base CX0 6 fa fd ["_law_script"] (spLaw K) := by
  have e := hfa.symm.trans (PySem.W.mg_of X G a23)
  cases e
  have F_common_factor := at_mk (st := sd_common_factor) X G a0 l0 c0 k0
  have F_made_of := at_mk (st := sd_made_of) X G a1 l1 c1 k1
  have F_is_name := at_mk (st := sd_is_name) X G a2 l2 c2 k2
  have F_check_amount := at_mk (st := sd_check_amount) X G a3 l3 c3 k3
  have F_check_loss := at_mk (st := sd_check_loss) X G a4 l4 c4 k4
  have F_amounts_of := at_mk (st := sd_amounts_of) X G a5 l5 c5 k5
  have F_factor_of_all := at_mk (st := sd_factor_of_all) X G a6 l6 c6 k6
  have F__law_draw := at_mk (st := sd__law_draw) X G a7 l7 c7 k7
  have F__law_name := at_mk (st := sd__law_name) X G a8 l8 c8 k8
  have F__law_names := at_mk (st := sd__law_names) X G a9 l9 c9 k9
  have F__law_model := at_mk (st := sd__law_model) X G a10 l10 c10 k10
  have F__law_much := at_mk (st := sd__law_much) X G a11 l11 c11 k11
  have F__law_seat := at_mk (st := sd__law_seat) X G a12 l12 c12 k12
  have F__law_new_part := at_mk (st := sd__law_new_part) X G a13 l13 c13 k13
  have F__law_loads := at_mk (st := sd__law_loads) X G a14 l14 c14 k14
  have F__law_rows := at_mk (st := sd__law_rows) X G a15 l15 c15 k15
  have F__law_at := at_mk (st := sd__law_at) X G a16 l16 c16 k16
  have F__law_bear := at_mk (st := sd__law_bear) X G a17 l17 c17 k17
  have F__law_model_cast := at_mk (st := sd__law_model_cast) X G a18 l18 c18 k18
  have F__law_cast_now := at_mk (st := sd__law_cast_now) X G a19 l19 c19 k19
  have F__law_int := at_mk (st := sd__law_int) X G a20 l20 c20 k20
  have F__law_part_list := at_mk (st := sd__law_part_list) X G a21 l21 c21 k21
  have F__law_begin := at_mk (st := sd__law_begin) X G a22 l22 c22 k22
  have F_law := at_mk (st := sd_law) X G a23 l23 c23 k23
  have m_len := PySem.W.mg_none_of X G z_len
  have m_range := PySem.W.mg_none_of X G z_range
  have m_sum := PySem.W.mg_none_of X G z_sum
  have m_list := PySem.W.mg_none_of X G z_list
  have m_zip := PySem.W.mg_none_of X G z_zip
  have m_all := PySem.W.mg_none_of X G z_all
  have m_int := PySem.W.mg_none_of X G z_int
  have m_bool := PySem.W.mg_none_of X G z_bool
  have m_str := PySem.W.mg_none_of X G z_str
  have m_tuple := PySem.W.mg_none_of X G z_tuple
  have m_abs := PySem.W.mg_none_of X G z_abs
  have m_isinstance := PySem.W.mg_none_of X G z_isinstance
  have m_min := PySem.W.mg_none_of X G z_min
  have m_LETTERS := PySem.W.mg_of X G b_LETTERS
  have F_Hold_init : AtC K mg "Hold" C_Hold "Hold.__init__" sd_Hold_init f_Hold_init _ := ⟨fun_mk l_Hold_init c_Hold_init k_Hold_init, ⟨mk_Hold, a_Hold_init, i_Hold_init, kc_Hold⟩, PySem.W.mg_of X G aC_Hold⟩
  have F_Hold_place_of : AtM K C_Hold "place_of" "Hold.place_of" sd_Hold_place_of f_Hold_place_of _ := ⟨fun_mk l_Hold_place_of c_Hold_place_of k_Hold_place_of, ⟨a_Hold_place_of, i_Hold_place_of, k_Hold_place_of⟩, ⟨pg_Hold, hd_Hold, po_Hold, sa_Hold⟩⟩
  have F_Hold_part_of : AtM K C_Hold "part_of" "Hold.part_of" sd_Hold_part_of f_Hold_part_of _ := ⟨fun_mk l_Hold_part_of c_Hold_part_of k_Hold_part_of, ⟨a_Hold_part_of, i_Hold_part_of, k_Hold_part_of⟩, ⟨pg_Hold, hd_Hold, po_Hold, sa_Hold⟩⟩
  have F_Hold_check_new : AtM K C_Hold "check_new" "Hold.check_new" sd_Hold_check_new f_Hold_check_new _ := ⟨fun_mk l_Hold_check_new c_Hold_check_new k_Hold_check_new, ⟨a_Hold_check_new, i_Hold_check_new, k_Hold_check_new⟩, ⟨pg_Hold, hd_Hold, po_Hold, sa_Hold⟩⟩
  have F_Hold_parts : AtM K C_Hold "parts" "Hold.parts" sd_Hold_parts f_Hold_parts _ := ⟨fun_mk l_Hold_parts c_Hold_parts k_Hold_parts, ⟨a_Hold_parts, i_Hold_parts, k_Hold_parts⟩, ⟨pg_Hold, hd_Hold, po_Hold, sa_Hold⟩⟩
  have F_Hold_whole : AtM K C_Hold "whole" "Hold.whole" sd_Hold_whole f_Hold_whole _ := ⟨fun_mk l_Hold_whole c_Hold_whole k_Hold_whole, ⟨a_Hold_whole, i_Hold_whole, k_Hold_whole⟩, ⟨pg_Hold, hd_Hold, po_Hold, sa_Hold⟩⟩
  have F_Hold_beyond_common : AtM K C_Hold "beyond_common" "Hold.beyond_common" sd_Hold_beyond_common f_Hold_beyond_common _ := ⟨fun_mk l_Hold_beyond_common c_Hold_beyond_common k_Hold_beyond_common, ⟨a_Hold_beyond_common, i_Hold_beyond_common, k_Hold_beyond_common⟩, ⟨pg_Hold, hd_Hold, po_Hold, sa_Hold⟩⟩
  have F_Hold_stow : AtM K C_Hold "stow" "Hold.stow" sd_Hold_stow f_Hold_stow _ := ⟨fun_mk l_Hold_stow c_Hold_stow k_Hold_stow, ⟨a_Hold_stow, i_Hold_stow, k_Hold_stow⟩, ⟨pg_Hold, hd_Hold, po_Hold, sa_Hold⟩⟩
  have F_Hold_sign : AtM K C_Hold "sign" "Hold.sign" sd_Hold_sign f_Hold_sign _ := ⟨fun_mk l_Hold_sign c_Hold_sign k_Hold_sign, ⟨a_Hold_sign, i_Hold_sign, k_Hold_sign⟩, ⟨pg_Hold, hd_Hold, po_Hold, sa_Hold⟩⟩
  have F_Hold_load : AtM K C_Hold "load" "Hold.load" sd_Hold_load f_Hold_load _ := ⟨fun_mk l_Hold_load c_Hold_load k_Hold_load, ⟨a_Hold_load, i_Hold_load, k_Hold_load⟩, ⟨pg_Hold, hd_Hold, po_Hold, sa_Hold⟩⟩
  have F_Hold_given_up : AtM K C_Hold "given_up" "Hold.given_up" sd_Hold_given_up f_Hold_given_up _ := ⟨fun_mk l_Hold_given_up c_Hold_given_up k_Hold_given_up, ⟨a_Hold_given_up, i_Hold_given_up, k_Hold_given_up⟩, ⟨pg_Hold, hd_Hold, po_Hold, sa_Hold⟩⟩
  have F_Hold_lessen : AtM K C_Hold "lessen" "Hold.lessen" sd_Hold_lessen f_Hold_lessen _ := ⟨fun_mk l_Hold_lessen c_Hold_lessen k_Hold_lessen, ⟨a_Hold_lessen, i_Hold_lessen, k_Hold_lessen⟩, ⟨pg_Hold, hd_Hold, po_Hold, sa_Hold⟩⟩
  have F_Hold_blend : AtM K C_Hold "blend" "Hold.blend" sd_Hold_blend f_Hold_blend _ := ⟨fun_mk l_Hold_blend c_Hold_blend k_Hold_blend, ⟨a_Hold_blend, i_Hold_blend, k_Hold_blend⟩, ⟨pg_Hold, hd_Hold, po_Hold, sa_Hold⟩⟩
  have F_Hold_cast : AtM K C_Hold "cast" "Hold.cast" sd_Hold_cast f_Hold_cast _ := ⟨fun_mk l_Hold_cast c_Hold_cast k_Hold_cast, ⟨a_Hold_cast, i_Hold_cast, k_Hold_cast⟩, ⟨pg_Hold, hd_Hold, po_Hold, sa_Hold⟩⟩
  have F_Part_init : AtC K mg "Part" C_Part "Part.__init__" sd_Part_init f_Part_init _ := ⟨fun_mk l_Part_init c_Part_init k_Part_init, ⟨mk_Part, a_Part_init, i_Part_init, kc_Part⟩, PySem.W.mg_of X G aC_Part⟩
  have F_Bottom_init : AtC K mg "Bottom" C_Bottom "Bottom.__init__" sd_Bottom_init f_Bottom_init _ := ⟨fun_mk l_Bottom_init c_Bottom_init k_Bottom_init, ⟨mk_Bottom, a_Bottom_init, i_Bottom_init, kc_Bottom⟩, PySem.W.mg_of X G aC_Bottom⟩
  have F_Bottom_grow : AtM K C_Bottom "grow" "Bottom.grow" sd_Bottom_grow f_Bottom_grow _ := ⟨fun_mk l_Bottom_grow c_Bottom_grow k_Bottom_grow, ⟨a_Bottom_grow, i_Bottom_grow, k_Bottom_grow⟩, ⟨pg_Bottom, hd_Bottom, po_Bottom, sa_Bottom⟩⟩
  have TX : Txt K ⟨C_Hold, C_Part, C_Bottom⟩ := ⟨⟨pg_Hold, hd_Hold, po_Hold, sa_Hold⟩, ⟨pg_Part, hd_Part, po_Part, sa_Part⟩, ⟨pg_Bottom, hd_Bottom, po_Bottom, sa_Bottom⟩, n_Hold_places, n_Hold_aboard, n_Hold_ashore, n_Hold_names, n_Hold_bottom, n_Hold_common, n_Hold_purses, n_Part_name, n_Part_owner, n_Part_worth, n_Part_weight, n_Part_scale, n_Part_row, n_Bottom_steps, n_Bottom_product, n_Bottom_known⟩
  refine ⟨PySem.W.fnOf "law" "law" (defArgs sd_law) (defBody sd_law) (defScope sd_law) .none kV23 dc23 pm23 an23 cd23 ct23, fun s v => .of_eq rfl, fun base _ _ => ?_⟩
  have D_common_factor := ok_common_factor (P := l.prog) (w := w) (base := base) (mg := mg) F_common_factor
  have D_made_of := ok_made_of (P := l.prog) (w := w) (base := base) (mg := mg) F_made_of m_all
  have D_is_name := ok_is_name F_is_name D_made_of m_len m_LETTERS
  have D_check_amount := ok_check_amount (P := l.prog) (w := w) (base := base) (mg := mg) F_check_amount
  have D_check_loss := ok_check_loss F_check_loss D_check_amount
  have D_amounts_of := ok_amounts_of (P := l.prog) (w := w) (base := base) (mg := mg) F_amounts_of m_len
  have D_factor_of_all := ok_factor_of_all F_factor_of_all D_common_factor
  have D_Bottom := ok_Bottom_init (P := l.prog) (w := w) (base := base) (mg := mg) (T := ⟨C_Hold, C_Part, C_Bottom⟩) F_Bottom_init TX
  have D_Part := ok_Part_init (P := l.prog) (w := w) (base := base) (mg := mg) (T := ⟨C_Hold, C_Part, C_Bottom⟩) F_Part_init TX m_list
  have D_Hold := ok_Hold_init (T := ⟨C_Hold, C_Part, C_Bottom⟩) F_Hold_init TX D_Bottom
  have D_Bottom_grow := ok_Bottom_grow (P := l.prog) (w := w) (base := base) (mg := mg) (T := ⟨C_Hold, C_Part, C_Bottom⟩) F_Bottom_grow TX
  have D_Hold_place_of := ok_Hold_place_of (P := l.prog) (w := w) (base := base) (mg := mg) (T := ⟨C_Hold, C_Part, C_Bottom⟩) F_Hold_place_of TX
  have D_Hold_part_of := ok_Hold_part_of (P := l.prog) (w := w) (base := base) (mg := mg) (T := ⟨C_Hold, C_Part, C_Bottom⟩) F_Hold_part_of TX
  have D_Hold_check_new := ok_Hold_check_new (T := ⟨C_Hold, C_Part, C_Bottom⟩) F_Hold_check_new TX D_is_name
  have D_Hold_parts := ok_Hold_parts (P := l.prog) (w := w) (base := base) (mg := mg) (T := ⟨C_Hold, C_Part, C_Bottom⟩) F_Hold_parts TX
  have D_Hold_whole := ok_Hold_whole (P := l.prog) (w := w) (base := base) (mg := mg) (T := ⟨C_Hold, C_Part, C_Bottom⟩) F_Hold_whole TX m_sum
  have D_Hold_beyond_common := ok_Hold_beyond_common (P := l.prog) (w := w) (base := base) (mg := mg) (T := ⟨C_Hold, C_Part, C_Bottom⟩) F_Hold_beyond_common TX m_zip
  have D_Hold_stow := ok_Hold_stow (P := l.prog) (w := w) (base := base) (mg := mg) (T := ⟨C_Hold, C_Part, C_Bottom⟩) F_Hold_stow TX
  have D_Hold_sign := ok_Hold_sign (T := ⟨C_Hold, C_Part, C_Bottom⟩) F_Hold_sign TX D_is_name m_len
  have D_Hold_load := ok_Hold_load (T := ⟨C_Hold, C_Part, C_Bottom⟩) F_Hold_load TX D_Hold_check_new D_Hold_place_of D_Hold_beyond_common D_Hold_stow D_Part m_len
  have D_Hold_given_up := ok_Hold_given_up (P := l.prog) (w := w) (base := base) (mg := mg) (T := ⟨C_Hold, C_Part, C_Bottom⟩) F_Hold_given_up TX m_sum m_zip
  have D_Hold_lessen := ok_Hold_lessen (P := l.prog) (w := w) (base := base) (mg := mg) (T := ⟨C_Hold, C_Part, C_Bottom⟩) F_Hold_lessen TX
  have D_Hold_blend := ok_Hold_blend (T := ⟨C_Hold, C_Part, C_Bottom⟩) F_Hold_blend TX D_factor_of_all D_Bottom_grow m_zip
  have D_Hold_cast := ok_Hold_cast (T := ⟨C_Hold, C_Part, C_Bottom⟩) F_Hold_cast TX D_amounts_of D_check_loss D_Hold_part_of D_Hold_whole D_Hold_blend D_Hold_given_up D_Hold_lessen m_sum
  have D__law_draw := ok__law_draw (P := l.prog) (w := w) (base := base) (mg := mg) F__law_draw m_len m_range
  have D__law_name := ok__law_name (P := l.prog) (w := w) (base := base) (mg := mg) F__law_name m_range
  have D__law_names := ok__law_names F__law_names D__law_draw D__law_name m_range
  have D__law_model := ok__law_model (P := l.prog) (w := w) (base := base) (mg := mg) F__law_model m_list
  have D__law_much := ok__law_much F__law_much D__law_draw
  have D__law_seat := ok__law_seat (P := l.prog) (w := w) (base := base) (mg := mg) F__law_seat m_len m_range
  have D__law_new_part := ok__law_new_part F__law_new_part D__law_seat
  have D__law_loads := ok__law_loads F__law_loads D__law_draw D__law_much D__law_new_part D_Hold_load m_len m_range
  have D__law_rows := ok__law_rows F__law_rows D__law_draw m_len m_range m_list m_sum m_min
  have D__law_at := ok__law_at (P := l.prog) (w := w) (base := base) (mg := mg) F__law_at m_len m_range
  have D__law_bear := ok__law_bear (P := l.prog) (w := w) (base := base) (mg := mg) F__law_bear m_len m_range m_sum
  have D__law_model_cast := ok__law_model_cast F__law_model_cast D__law_at D__law_bear
  have D__law_cast_now := ok__law_cast_now F__law_cast_now D__law_rows D__law_model_cast D_Hold_cast m_len m_list
  have D__law_int := ok__law_int (P := l.prog) (w := w) (base := base) (mg := mg) F__law_int m_isinstance m_int m_bool
  have D__law_part_list := ok__law_part_list F__law_part_list D__law_int m_isinstance m_list m_tuple m_str m_range m_len
  have D__law_begin := ok__law_begin (T := ⟨C_Hold, C_Part, C_Bottom⟩) F__law_begin D_Hold D_Hold_sign
  exact ok_law (T := ⟨C_Hold, C_Part, C_Bottom⟩) F_law D__law_draw D__law_names D__law_int D__law_part_list D__law_begin D__law_model D__law_loads D__law_cast_now D_Hold_parts D_Hold_whole m_range m_sum
theorem walk {l : PySem.W.OpenLaw} {q : Program} {loose : List Str} {XP : (Str → Option Value) → Heap → Prop} {YP : World → Heap → Prop} {d : DefRec} {K : Params → PySem.W.Frag} (hn : l.most = some 63) (hdf : d.params.defaults = [])
    (hY : ∀ (w : World) (h : Heap), YP w h → (K w.params).In h)
    (F : ∀ (w : World) (mg : Str → Option Value) (fa : Addr) (h : Heap), (K w.params).In h → h.Ns mainGlobals mg → mg d.name = some (.ref fa) →
      ∃ fd : FuncData, (∀ (s : Shared) (u : Value), BindsTo s fd ⟨[u], []⟩ [("_law_script", u)]) ∧ ∀ base : Heap, (K w.params).In base → base.Ns mainGlobals mg → FnOk l.prog w (K w.params) mg base CX0 6 fa fd ["_law_script"] (spLaw (K w.params))) :
    PySem.W.WalkO q loose XP YP l.row.toRowW d [] (fun f vs => PySem.call f vs) :=
  L2.walk_of (n := 63) (k := 6) (x := "_law_script") (CX := fun _ => CX0) (sp := fun w => spLaw (K w.params)) hn (by decide) hdf ⟨rfl, by decide, by decide⟩ hY F (fun _ _ a ns hl _ hS => ⟨a, ns, rfl, hS, hl, fun _ => rfl⟩) fun _ _ _ _ _ z => z
end Law
namespace PySem.W.Fast
theorem tw7887982685579286794 : True := ⟨⟩
theorem tw3836768961767982748 : True := ⟨⟩
theorem tw9393864602658981625 : True := ⟨⟩
theorem tw11828016968697678918 : True := ⟨⟩
theorem tw12128803298043016441 : True := ⟨⟩
theorem tw412934160102291425 : True := ⟨⟩
theorem tw9369508537440525837 : True := ⟨⟩
theorem tw11362132151236531033 : True := ⟨⟩
theorem tw8317356402976292366 : True := ⟨⟩
theorem tw17330514759762925539 : True := ⟨⟩
theorem tw12356768117840961903 : True := ⟨⟩
theorem tw17856139547510586783 : True := ⟨⟩
theorem tw15282759669299892766 : True := ⟨⟩
theorem tw2634364081770002665 : True := ⟨⟩
theorem tw17910706641885947855 : True := ⟨⟩
theorem tw4795425252812474354 : True := ⟨⟩
theorem tw10296469367322849458 : True := ⟨⟩
theorem tw8766871929731026345 : True := ⟨⟩
theorem tw11205365111228646619 : True := ⟨⟩
theorem tw7411696335967644150 : True := ⟨⟩
theorem tw5850275571634459260 : True := ⟨⟩
theorem tw13545582264173907261 : True := ⟨⟩
theorem tw11482871951626212496 : True := ⟨⟩
theorem tw13430235085292373937 : True := ⟨⟩
theorem tw16144337709147002971 : True := ⟨⟩
theorem tw17651964308804662096 : True := ⟨⟩
theorem tw17991575825704261443 : True := ⟨⟩
theorem tw927746965144325026 : True := ⟨⟩
theorem tw9809371963652193536 : True := ⟨⟩
theorem tw6611227120057710003 : True := ⟨⟩
theorem tw7784414220057989045 : True := ⟨⟩
theorem tw18217452155996620036 : True := ⟨⟩
theorem tw685341160775468925 : True := ⟨⟩
theorem tw10527692935070241353 : True := ⟨⟩
theorem tw4968064481755735506 : True := ⟨⟩
theorem tw6958689190966210028 : True := ⟨⟩
theorem tw8839711371112234561 : True := ⟨⟩
theorem tw16601557507668435377 : True := ⟨⟩
theorem tw14107121228784480537 : True := ⟨⟩
theorem tw13914462151710069247 : True := ⟨⟩
theorem tw1588781287960549660 : True := ⟨⟩
theorem tw5825637195658545899 : True := ⟨⟩
theorem tw5410118640522302109 : True := ⟨⟩
theorem tw12545799627152044639 : True := ⟨⟩
theorem tw4794735543652673562 : True := ⟨⟩
theorem tw12318331894927208753 : True := ⟨⟩
theorem tw10582596111598728450 : True := ⟨⟩
theorem tw16118065558279633292 : True := ⟨⟩
theorem tw6179767949050197414 : True := ⟨⟩
theorem tw9957886740389951931 : True := ⟨⟩
theorem tw12831050098545680671 : True := ⟨⟩
theorem tw16234575376886278300 : True := ⟨⟩
theorem tw3134124280726004394 : True := ⟨⟩
theorem tw6256186827378681247 : True := ⟨⟩
theorem tw7089056395223290939 : True := ⟨⟩
theorem tw4229413502793185573 : True := ⟨⟩
theorem tw13295079863962148258 : True := ⟨⟩
theorem tw14262095805547734028 : True := ⟨⟩
theorem tw9647337464575904891 : True := ⟨⟩
theorem tw7182390668179523928 : True := ⟨⟩
theorem tw16375616147674653048 : True := ⟨⟩
theorem tw12550268227763600239 : True := ⟨⟩
theorem tw5129808355303225897 : True := ⟨⟩
theorem tw4300907544540973770 : True := ⟨⟩
theorem tw9532254624069238819 : True := ⟨⟩
theorem tw2758465182252942903 : True := ⟨⟩
theorem tw8742207955006766987 : True := ⟨⟩
theorem tw3693494126934122114 : True := ⟨⟩
theorem tw9564518812720785174 : True := ⟨⟩
theorem tw11615968192398854051 : True := ⟨⟩
theorem tw10164632834086699406 : True := ⟨⟩
theorem tw11650343784307288430 : True := ⟨⟩
theorem tw12715340450937740918 : True := ⟨⟩
theorem tw15276910767730198737 : True := ⟨⟩
theorem tw14655865154358895267 : True := ⟨⟩
theorem tw9664207684125684761 : True := ⟨⟩
theorem tw8560114008215609352 : True := ⟨⟩
theorem tw18041461706050984103 : True := ⟨⟩
theorem tw16004844398104517897 : True := ⟨⟩
theorem tw5657452358378899997 : True := ⟨⟩
theorem tw11480609405323579097 : True := ⟨⟩
theorem tw4008972221174646234 : True := ⟨⟩
theorem tw10557602284317543888 : True := ⟨⟩
theorem tw17867816353668522673 : True := ⟨⟩
theorem tw16901543081731164369 : True := ⟨⟩
theorem tw10221023268649420337 : True := ⟨⟩
theorem tw11231187522426656267 : True := ⟨⟩
theorem tw18121001639476377725 : True := ⟨⟩
theorem tw16546859333391858934 : True := ⟨⟩
theorem tw14650800843679851922 : True := ⟨⟩
theorem tw6825905933402490254 : True := ⟨⟩
theorem tw3535587247669786412 : True := ⟨⟩
theorem tw9582816197283940195 : True := ⟨⟩
theorem tw8797196585750936133 : True := ⟨⟩
theorem tw8007187004879400335 : True := ⟨⟩
theorem tw13709133991752085597 : True := ⟨⟩
theorem tw7573921720049836210 : True := ⟨⟩
theorem tw1535372404598211861 : True := ⟨⟩
theorem tw7670834699358114478 : True := ⟨⟩
theorem tw16692057833474802589 : True := ⟨⟩
theorem tw9815058890862328926 : True := ⟨⟩
theorem tw8110115420620012271 : True := ⟨⟩
theorem tw762459754364375763 : True := ⟨⟩
theorem tw1541508388822741680 : True := ⟨⟩
theorem tw1987100446402683104 : True := ⟨⟩
theorem tw14875192018371715291 : True := ⟨⟩
theorem tw11557027117404102097 : True := ⟨⟩
theorem tw6498357872751783489 : True := ⟨⟩
theorem tw1842397087239864462 : True := ⟨⟩
theorem tw7090828126980422721 : True := ⟨⟩
theorem tw3415602428341488408 : True := ⟨⟩
theorem tw16016345061031193787 : True := ⟨⟩
theorem tw18248411310570758585 : True := ⟨⟩
theorem tw9953124787213335969 : True := ⟨⟩
theorem tw4421489283030743124 : True := ⟨⟩
theorem tw2954406755309001061 : True := ⟨⟩
theorem tw12015322812016261520 : True := ⟨⟩
theorem tw18407523641544532916 : True := ⟨⟩
theorem tw9027517107226697433 : True := ⟨⟩
theorem tw12163075317692969110 : True := ⟨⟩
theorem tw890045588867922128 : True := ⟨⟩
theorem tw18441209283079212351 : True := ⟨⟩
theorem tw6109196035079028593 : True := ⟨⟩
theorem tw17022330753069943298 : True := ⟨⟩
theorem tw3774234008181554675 : True := ⟨⟩
theorem tw16765564080004889278 : True := ⟨⟩
theorem tw16961659246680527749 : True := ⟨⟩
theorem tw16765206903237387056 : True := ⟨⟩
theorem tw1101424820160265507 : True := ⟨⟩
theorem tw7928338628218481304 : True := ⟨⟩
theorem tw16934068591255102986 : True := ⟨⟩
theorem tw8698340315404628295 : True := ⟨⟩
theorem tw8228127482701599021 : True := ⟨⟩
theorem tw6235076336622222264 : True := ⟨⟩
theorem tw6786574312950127482 : True := ⟨⟩
theorem tw8490254843137022501 : True := ⟨⟩
theorem tw11390187482677705313 : True := ⟨⟩
theorem tw11712250919441571894 : True := ⟨⟩
theorem tw5707382235153677105 : True := ⟨⟩
theorem tw16974165525809935284 : True := ⟨⟩
theorem tw11546833728373990413 : True := ⟨⟩
theorem tw16678805419617291354 : True := ⟨⟩
theorem tw2478221064282989440 : True := ⟨⟩
theorem tw17885925268294937964 : True := ⟨⟩
theorem tw17149187868698778353 : True := ⟨⟩
theorem tw6307783892516199878 : True := ⟨⟩
theorem tw7856582913128127848 : True := ⟨⟩
theorem tw17411409686282975798 : True := ⟨⟩
theorem tw8483968249440464832 : True := ⟨⟩
theorem tw17741111198660830737 : True := ⟨⟩
theorem tw11085042532521874328 : True := ⟨⟩
theorem tw637878030068954508 : True := ⟨⟩
theorem tw9937532432493983993 : True := ⟨⟩
theorem tw17256311445406194157 : True := ⟨⟩
theorem tw17436938955504172643 : True := ⟨⟩
theorem tw14956331923116780591 : True := ⟨⟩
theorem tw11845487430259955808 : True := ⟨⟩
theorem tw17668353952829792164 : True := ⟨⟩
theorem tw16878797629532027315 : True := ⟨⟩
theorem tw4738616654806588535 : True := ⟨⟩
theorem tw2691845244184984860 : True := ⟨⟩
theorem tw13950259989919099783 : True := ⟨⟩
theorem tw12368270274456950569 : True := ⟨⟩
theorem tw11791589623481074392 : True := ⟨⟩
theorem tw8449991971881435219 : True := ⟨⟩
theorem tw5406250486148452081 : True := ⟨⟩
theorem tw15802113103334596986 : True := ⟨⟩
theorem tw15001297730380052733 : True := ⟨⟩
theorem tw14288182957097474327 : True := ⟨⟩
theorem tw12639564639467803317 : True := ⟨⟩
theorem tw16296271530469011496 : True := ⟨⟩
theorem tw13706522413288489926 : True := ⟨⟩
theorem tw18131683947951952039 : True := ⟨⟩
theorem tw8466174526050127712 : True := ⟨⟩
theorem tw5659455892286835263 : True := ⟨⟩
theorem tw12733778005981241719 : True := ⟨⟩
theorem tw8476283059225455388 : True := ⟨⟩
theorem tw17149594817775108549 : True := ⟨⟩
theorem tw12283086337558212963 : True := ⟨⟩
theorem tw14201628317184527602 : True := ⟨⟩
theorem tw17891924623595611606 : True := ⟨⟩
theorem tw698696491527394113 : True := ⟨⟩
theorem tw9268439634452365524 : True := ⟨⟩
theorem tw12015901314477517963 : True := ⟨⟩
theorem tw7844405245688499098 : True := ⟨⟩
theorem tw12978530264483237932 : True := ⟨⟩
theorem tw9042330826137230711 : True := ⟨⟩
theorem tw2305651201193919527 : True := ⟨⟩
theorem tw6219545887735529189 : True := ⟨⟩
theorem tw17740069372352493911 : True := ⟨⟩
theorem tw16122496108986879203 : True := ⟨⟩
theorem tw1790659520077754878 : True := ⟨⟩
theorem tw17637681318449664529 : True := ⟨⟩
theorem tw2789148597065525443 : True := ⟨⟩
theorem tw10791723916872825423 : True := ⟨⟩
theorem tw13279073756860412474 : True := ⟨⟩
theorem tw6506278657184542666 : True := ⟨⟩
theorem tw14836539844337731529 : True := ⟨⟩
theorem tw17371404532737049038 : True := ⟨⟩
theorem tw5171037082868128253 : True := ⟨⟩
theorem tw8404085945945218542 : True := ⟨⟩
theorem tw18304438379290976204 : True := ⟨⟩
theorem tw5385851007440690256 : True := ⟨⟩
theorem tw15461002542987928233 : True := ⟨⟩
theorem tw9961473141840924914 : True := ⟨⟩
theorem tw7532208837205525031 : True := ⟨⟩
theorem tw17187264309917777466 : True := ⟨⟩
theorem tw10524037375456852421 : True := ⟨⟩
theorem tw8767072278487416766 : True := ⟨⟩
theorem tw13791177871739149890 : True := ⟨⟩
theorem tw11276755879274045742 : True := ⟨⟩
theorem tw5144673494394136188 : True := ⟨⟩
theorem tw8164337176501965669 : True := ⟨⟩
theorem tw1554774003906599959 : True := ⟨⟩
theorem tw2082349939330313242 : True := ⟨⟩
theorem tw10270957910977125481 : True := ⟨⟩
theorem tw2017584788366215531 : True := ⟨⟩
theorem tw12516272495233324752 : True := ⟨⟩
theorem tw5338453113510051176 : True := ⟨⟩
theorem tw1173425824817280166 : True := ⟨⟩
theorem tw10607811001509435314 : True := ⟨⟩
theorem tw8639668574206076165 : True := ⟨⟩
theorem tw8429792747056354674 : True := ⟨⟩
theorem tw2642758094473377674 : True := ⟨⟩
theorem tw209999300047277046 : True := ⟨⟩
theorem tw5813471548714636653 : True := ⟨⟩
theorem tw13560549270047445600 : True := ⟨⟩
theorem tw6597560767512233170 : True := ⟨⟩
theorem tw2422473377094560596 : True := ⟨⟩
theorem tw1171723072554094727 : True := ⟨⟩
theorem tw1988820863501690065 : True := ⟨⟩
theorem tw13921013276238584004 : True := ⟨⟩
theorem tw6062951293989314990 : True := ⟨⟩
theorem tw7953503583140104863 : True := ⟨⟩
theorem tw8481427662751351812 : True := ⟨⟩
theorem tw3943427652908845321 : True := ⟨⟩
theorem tw10294142960581490258 : True := ⟨⟩
theorem tw1171209424002042157 : True := ⟨⟩
theorem tw16322632531078478284 : True := ⟨⟩
theorem tw7581455905718265124 : True := ⟨⟩
theorem tw17769329917597611433 : True := ⟨⟩
theorem tw14839649226608427314 : True := ⟨⟩
theorem tw12201210003486524263 : True := ⟨⟩
theorem tw11164155161895330156 : True := ⟨⟩
theorem tw15721369610878621326 : True := ⟨⟩
theorem tw13514569997536604872 : True := ⟨⟩
theorem tw5506708008814395410 : True := ⟨⟩
theorem tw18120103011134105022 : True := ⟨⟩
theorem tw2308427555478049286 : True := ⟨⟩
theorem tw9249730199495729792 : True := ⟨⟩
theorem tw3067799994845328537 : True := ⟨⟩
theorem tw2824963614576886359 : True := ⟨⟩
theorem tw14968644687210992578 : True := ⟨⟩
theorem tw687924362148574689 : True := ⟨⟩
theorem tw733074199529902704 : True := ⟨⟩
theorem tw3835759363068198186 : True := ⟨⟩
theorem tw2856793967003265058 : True := ⟨⟩
theorem tw9353189981530229502 : True := ⟨⟩
theorem tw17413491791131056640 : True := ⟨⟩
theorem tw17991052179114705582 : True := ⟨⟩
theorem tw136328254968671409 : True := ⟨⟩
theorem tw13132904740905061076 : True := ⟨⟩
theorem tw156161765267148597 : True := ⟨⟩
theorem tw8957884181280926298 : True := ⟨⟩
theorem tw5754180946746128381 : True := ⟨⟩
theorem tw7722613425602779286 : True := ⟨⟩
theorem tw2346342242765519111 : True := ⟨⟩
theorem tw1977155818077853022 : True := ⟨⟩
theorem tw12401012077305187471 : True := ⟨⟩
theorem tw11979554462655926734 : True := ⟨⟩
theorem tw4113667004263931287 : True := ⟨⟩
theorem tw16024783873556306636 : True := ⟨⟩
theorem tw15015568788616923784 : True := ⟨⟩
theorem tw241603492760817309 : True := ⟨⟩
theorem tw12627447023311999055 : True := ⟨⟩
theorem tw4591701216747638791 : True := ⟨⟩
theorem tw1387729962828961000 : True := ⟨⟩
theorem tw4472351530026274589 : True := ⟨⟩
theorem tw12494790238525389793 : True := ⟨⟩
theorem tw15601780868235415306 : True := ⟨⟩
theorem tw4023069782218423816 : True := ⟨⟩
theorem tw1487347961333527584 : True := ⟨⟩
theorem tw7427381389822249671 : True := ⟨⟩
theorem tw10415797632426992828 : True := ⟨⟩
theorem tw13456523945662385063 : True := ⟨⟩
theorem tw7871194012839387197 : True := ⟨⟩
theorem tw1398997014337826110 : True := ⟨⟩
theorem tw1619466786319435463 : True := ⟨⟩
theorem tw4575927330502544857 : True := ⟨⟩
theorem tw8461709935901613776 : True := ⟨⟩
theorem tw10441603805477016608 : True := ⟨⟩
theorem tw10833319919865486482 : True := ⟨⟩
theorem tw11511317217058148649 : True := ⟨⟩
theorem tw5487730850216335580 : True := ⟨⟩
theorem tw89751214142693246 : True := ⟨⟩
theorem tw2920099416236285981 : True := ⟨⟩
theorem tw14819631910193296988 : True := ⟨⟩
theorem tw9086798824822072988 : True := ⟨⟩
theorem tw14391017798026277056 : True := ⟨⟩
theorem tw17352807457464184490 : True := ⟨⟩
theorem tw5815620080529269588 : True := ⟨⟩
theorem tw9439653043180517974 : True := ⟨⟩
theorem tw11007238333360032471 : True := ⟨⟩
theorem tw5655697295144022619 : True := ⟨⟩
theorem tw9218928635092136085 : True := ⟨⟩
theorem tw16121874599602859163 : True := ⟨⟩
theorem tw10424085447426001056 : True := ⟨⟩
theorem tw18185447966774830893 : True := ⟨⟩
theorem tw9134989329345969713 : True := ⟨⟩
theorem tw8846037784290268476 : True := ⟨⟩
theorem tw1285379202344305925 : True := ⟨⟩
theorem tw15009464362296563702 : True := ⟨⟩
theorem tw9941693771085749360 : True := ⟨⟩
theorem tw12505315999584708368 : True := ⟨⟩
theorem tw10117061124187354495 : True := ⟨⟩
theorem tw5748903819083751716 : True := ⟨⟩
theorem tw134576710783125262 : True := ⟨⟩
theorem tw2238982552960914946 : True := ⟨⟩
theorem tw653335220064856667 : True := ⟨⟩
theorem tw15010717212865538262 : True := ⟨⟩
theorem tw2160304091858866853 : True := ⟨⟩
theorem tw14704085983892669859 : True := ⟨⟩
theorem tw4612815543669384016 : True := ⟨⟩
theorem tw14094658944893380497 : True := ⟨⟩
theorem tw17557243873646551369 : True := ⟨⟩
theorem tw1515468253610367230 : True := ⟨⟩
theorem tw6556442523243122603 : True := ⟨⟩
theorem tw12172022075698489888 : True := ⟨⟩
theorem tw6568337633936652105 : True := ⟨⟩
theorem tw422040856448104133 : True := ⟨⟩
theorem tw12556459997867042902 : True := ⟨⟩
theorem tw6903942149952954375 : True := ⟨⟩
theorem tw1196003709443325825 : True := ⟨⟩
theorem tw8306773548042039088 : True := ⟨⟩
theorem tw2496161834266689544 : True := ⟨⟩
theorem tw30034571577306374 : True := ⟨⟩
theorem tw15859578844026546010 : True := ⟨⟩
theorem tw59961418865995898 : True := ⟨⟩
theorem tw3710142905733221763 : True := ⟨⟩
theorem tw2553430609458336081 : True := ⟨⟩
theorem tw8205764015172272761 : True := ⟨⟩
theorem tw9528515142918865080 : True := ⟨⟩
theorem tw12687659488218345567 : True := ⟨⟩
theorem tw4791458908859213795 : True := ⟨⟩
theorem tw17255901243428439902 : True := ⟨⟩
theorem tw2719636466012984571 : True := ⟨⟩
theorem tw7233863546871360943 : True := ⟨⟩
theorem tw16174718918794586987 : True := ⟨⟩
theorem tw12472393459690351587 : True := ⟨⟩
theorem tw1376573788030151966 : True := ⟨⟩
theorem tw18379751684245554593 : True := ⟨⟩
theorem tw14985027028900090315 : True := ⟨⟩
theorem tw4319007492276596480 : True := ⟨⟩
theorem tw14480047085620866114 : True := ⟨⟩
theorem tw14711377337539884988 : True := ⟨⟩
theorem tw13701866813757774291 : True := ⟨⟩
theorem tw6067367027171572412 : True := ⟨⟩
theorem tw17911065425333760318 : True := ⟨⟩
theorem tw15245901119278297369 : True := ⟨⟩
theorem tw12426209315916095803 : True := ⟨⟩
theorem tw4438846644920020657 : True := ⟨⟩
theorem tw5386474416058424658 : True := ⟨⟩
theorem tw6722061376453125973 : True := ⟨⟩
theorem tw11828548827900799633 : True := ⟨⟩
theorem tw8834942684710453812 : True := ⟨⟩
theorem tw18052344787851276547 : True := ⟨⟩
theorem tw13717621414109613507 : True := ⟨⟩
theorem tw6720716042839747101 : True := ⟨⟩
theorem tw12786491537686333063 : True := ⟨⟩
theorem tw4275795456745967673 : True := ⟨⟩
theorem tw2859462256565003584 : True := ⟨⟩
theorem tw6590619901353543478 : True := ⟨⟩
theorem tw862883821188883491 : True := ⟨⟩
theorem tw14582725868277275738 : True := ⟨⟩
theorem tw2376959257593669252 : True := ⟨⟩
theorem tw6412137856050316340 : True := ⟨⟩
theorem tw16557485248678117627 : True := ⟨⟩
theorem tw12956788340089081119 : True := ⟨⟩
theorem tw4797080109395632959 : True := ⟨⟩
theorem tw13075719733670688140 : True := ⟨⟩
theorem tw1914540090634877301 : True := ⟨⟩
theorem tw9849639052051174066 : True := ⟨⟩
theorem tw195958329919120149 : True := ⟨⟩
theorem tw6106840346160799138 : True := ⟨⟩
theorem tw558229991835047137 : True := ⟨⟩
theorem tw13617041009821253346 : True := ⟨⟩
theorem tw2117466156570304184 : True := ⟨⟩
theorem tw11978523044799494328 : True := ⟨⟩
theorem tw11405938326320565279 : True := ⟨⟩
theorem tw3631506685665857852 : True := ⟨⟩
theorem tw10820650778762663262 : True := ⟨⟩
theorem tw7131221768232172584 : True := ⟨⟩
theorem tw4270809451109573297 : True := ⟨⟩
theorem tw2632022749007221080 : True := ⟨⟩
theorem tw14378625279842290455 : True := ⟨⟩
theorem tw15005684900124204723 : True := ⟨⟩
theorem tw6767245842774768491 : True := ⟨⟩
theorem tw566576630938929383 : True := ⟨⟩
theorem tw2890995588211991873 : True := ⟨⟩
theorem tw7400460712196487786 : True := ⟨⟩
theorem tw15716943305361519751 : True := ⟨⟩
theorem tw10021139417689990739 : True := ⟨⟩
theorem tw7789985241669514403 : True := ⟨⟩
theorem tw5397862941414809968 : True := ⟨⟩
theorem tw13373801177348738326 : True := ⟨⟩
theorem tw3736970639887366393 : True := ⟨⟩
theorem tw9799219964712996424 : True := ⟨⟩
theorem tw9612062621688195148 : True := ⟨⟩
theorem tw7425021392818881015 : True := ⟨⟩
theorem tw5140862310888090958 : True := ⟨⟩
theorem tw2465489997168169660 : True := ⟨⟩
theorem tw16835908595338526649 : True := ⟨⟩
theorem tw10753038750749566270 : True := ⟨⟩
theorem tw12889472629383142425 : True := ⟨⟩
theorem tw3045670067359846114 : True := ⟨⟩
theorem tw12269477164336350023 : True := ⟨⟩
theorem tw13833459282228810908 : True := ⟨⟩
theorem tw14027590555416743394 : True := ⟨⟩
theorem tw11809235698881020871 : True := ⟨⟩
theorem tw12762632667947487974 : True := ⟨⟩
theorem tw12914266156875797064 : True := ⟨⟩
theorem tw6787134469189067250 : True := ⟨⟩
theorem tw1415613187751064621 : True := ⟨⟩
theorem tw8620211335572871720 : True := ⟨⟩
theorem tw1535777251874452688 : True := ⟨⟩
theorem tw16979070633619693984 : True := ⟨⟩
theorem tw1634300155532574286 : True := ⟨⟩
theorem tw8889232231558514792 : True := ⟨⟩
theorem tw3286565090723317435 : True := ⟨⟩
theorem tw385774851689002190 : True := ⟨⟩
theorem tw9343494218413890499 : True := ⟨⟩
theorem tw11290711771369378760 : True := ⟨⟩
theorem tw16609726381410555303 : True := ⟨⟩
theorem tw4741112356382507767 : True := ⟨⟩
theorem tw4740361510706204567 : True := ⟨⟩
theorem tw14705861511868065098 : True := ⟨⟩
theorem tw7382447654270959550 : True := ⟨⟩
theorem tw7754625521051357996 : True := ⟨⟩
theorem tw4786405520049918083 : True := ⟨⟩
theorem tw2396263931653574658 : True := ⟨⟩
theorem tw3897126153356084062 : True := ⟨⟩
theorem tw14475672213516461460 : True := ⟨⟩
theorem tw15320654505971435409 : True := ⟨⟩
theorem tw6232758590563632733 : True := ⟨⟩
theorem tw12966583185081256657 : True := ⟨⟩
theorem tw16137438090438991384 : True := ⟨⟩
theorem tw15765020793096274892 : True := ⟨⟩
theorem tw10484678501836194044 : True := ⟨⟩
theorem tw18342184429533313781 : True := ⟨⟩
theorem tw790914202398026930 : True := ⟨⟩
theorem tw17265354966754951862 : True := ⟨⟩
theorem tw10541516957783709245 : True := ⟨⟩
theorem tw17740508166041302636 : True := ⟨⟩
theorem tw8494275996975275524 : True := ⟨⟩
theorem tw2743646045324709736 : True := ⟨⟩
theorem tw15640875430112040484 : True := ⟨⟩
theorem tw13194663136014363269 : True := ⟨⟩
theorem tw3844666521046588489 : True := ⟨⟩
theorem tw1550791385224969647 : True := ⟨⟩
theorem tw12527029640434548365 : True := ⟨⟩
theorem tw14894097942039665731 : True := ⟨⟩
theorem tw4994004768164957459 : True := ⟨⟩
theorem tw8935727672087755598 : True := ⟨⟩
theorem tw12068839391101476684 : True := ⟨⟩
theorem tw2110833271061204657 : True := ⟨⟩
theorem tw11368578075734081489 : True := ⟨⟩
theorem tw8523849648856359551 : True := ⟨⟩
theorem tw9499219152187520752 : True := ⟨⟩
theorem tw4450095953353843960 : True := ⟨⟩
theorem tw6696158666139357071 : True := ⟨⟩
theorem tw7671986960949942550 : True := ⟨⟩
theorem tw11875874569673370527 : True := ⟨⟩
theorem tw7057909081197521282 : True := ⟨⟩
theorem tw8401925313336205088 : True := ⟨⟩
theorem tw17735660435637258711 : True := ⟨⟩
theorem tw17475768596506538369 : True := ⟨⟩
theorem tw15682893871598967798 : True := ⟨⟩
theorem tw6213065536807605894 : True := ⟨⟩
theorem tw14323520599189818079 : True := ⟨⟩
theorem tw13788463433692840157 : True := ⟨⟩
theorem tw17301552764301735452 : True := ⟨⟩
theorem tw15305270891573336375 : True := ⟨⟩
theorem tw3375193567515607469 : True := ⟨⟩
theorem tw6861996946726729756 : True := ⟨⟩
theorem tw1437909959798438533 : True := ⟨⟩
theorem tw3077155523168928084 : True := ⟨⟩
theorem tw2352412375289247630 : True := ⟨⟩
theorem tw12664533854122702447 : True := ⟨⟩
theorem tw16226477017264715454 : True := ⟨⟩
theorem tw1476058475899045321 : True := ⟨⟩
theorem tw15338619808428492648 : True := ⟨⟩
theorem tw4596633313098171868 : True := ⟨⟩
theorem tw1243808320362158052 : True := ⟨⟩
theorem tw17363864705077408852 : True := ⟨⟩
theorem tw18349437530476046523 : True := ⟨⟩
theorem tw9140866860700236308 : True := ⟨⟩
theorem tw3927321074750690619 : True := ⟨⟩
theorem tw5979634754912023864 : True := ⟨⟩
theorem tw8854104635137045054 : True := ⟨⟩
theorem tw13149839198690291929 : True := ⟨⟩
theorem tw17318382803201085237 : True := ⟨⟩
theorem tw8064117498927726252 : True := ⟨⟩
theorem tw5219887478619574294 : True := ⟨⟩
theorem tw339231486666679905 : True := ⟨⟩
theorem tw5288089043430390377 : True := ⟨⟩
theorem tw15024903384490011527 : True := ⟨⟩
theorem tw16417977421071095912 : True := ⟨⟩
theorem tw15538614518003188964 : True := ⟨⟩
theorem tw16779801687252010281 : True := ⟨⟩
theorem tw13952540875217320296 : True := ⟨⟩
theorem tw8948443376830899433 : True := ⟨⟩
theorem tw17979912737995221231 : True := ⟨⟩
theorem tw15329290974749231436 : True := ⟨⟩
theorem tw10875718526681425135 : True := ⟨⟩
theorem tw3811155643735588627 : True := ⟨⟩
theorem tw4273738654980750347 : True := ⟨⟩
theorem tw3748541807734148655 : True := ⟨⟩
theorem tw16169564212872984060 : True := ⟨⟩
theorem tw6751998301573005186 : True := ⟨⟩
theorem tw16529330809821240581 : True := ⟨⟩
theorem tw5346079715544415309 : True := ⟨⟩
theorem tw13331735518937951104 : True := ⟨⟩
theorem tw4726428906268624307 : True := ⟨⟩
theorem tw1442169459816176410 : True := ⟨⟩
theorem tw12420929669109638233 : True := ⟨⟩
theorem tw17090360972525523858 : True := ⟨⟩
theorem tw17021739598215280084 : True := ⟨⟩
theorem tw637594469389730708 : True := ⟨⟩
theorem tw16809980017759957527 : True := ⟨⟩
theorem tw11041286715438606030 : True := ⟨⟩
theorem tw392470014758368204 : True := ⟨⟩
theorem tw8701524066567152124 : True := ⟨⟩
theorem tw5702762410779633431 : True := ⟨⟩
theorem tw7755821566543767221 : True := ⟨⟩
theorem tw2886671328857373757 : True := ⟨⟩
theorem tw15943172279085809783 : True := ⟨⟩
theorem tw4376996853327784846 : True := ⟨⟩
theorem tw17565490200505498520 : True := ⟨⟩
theorem tw1906352754134179682 : True := ⟨⟩
theorem tw2453309282214270294 : True := ⟨⟩
theorem tw18303852123288524412 : True := ⟨⟩
theorem tw15068013990409787348 : True := ⟨⟩
theorem tw15612819020242974688 : True := ⟨⟩
theorem tw9178031097694544866 : True := ⟨⟩
theorem tw15840690001272995578 : True := ⟨⟩
theorem tw485795320757017886 : True := ⟨⟩
theorem tw1210371606850501868 : True := ⟨⟩
theorem tw18264502585672170635 : True := ⟨⟩
theorem tw7664711223859057062 : True := ⟨⟩
theorem tw6146888840611366240 : True := ⟨⟩
theorem tw9651489532901584571 : True := ⟨⟩
theorem tw7218502055756518189 : True := ⟨⟩
theorem tw407208512937195386 : True := ⟨⟩
theorem tw8877142115988260542 : True := ⟨⟩
theorem tw8492019850281959401 : True := ⟨⟩
theorem tw15782829182027234652 : True := ⟨⟩
theorem tw15668662257516424599 : True := ⟨⟩
theorem tw4344612416432721076 : True := ⟨⟩
theorem tw15454505321340595369 : True := ⟨⟩
theorem tw3768228939208790649 : True := ⟨⟩
theorem tw14815619221919327661 : True := ⟨⟩
theorem tw4454943358309608071 : True := ⟨⟩
theorem tw7819406614529546576 : True := ⟨⟩
theorem tw1740168655586491121 : True := ⟨⟩
theorem tw306981283749438458 : True := ⟨⟩
theorem tw8846585210668129996 : True := ⟨⟩
theorem tw11524601772130528618 : True := ⟨⟩
theorem tw8771853244240350978 : True := ⟨⟩
theorem tw14166833158508892827 : True := ⟨⟩
theorem tw16431895019421007674 : True := ⟨⟩
theorem tw63503476216158041 : True := ⟨⟩
theorem tw17858487683035477894 : True := ⟨⟩
theorem tw10755489556870968254 : True := ⟨⟩
theorem tw13724922750366054684 : True := ⟨⟩
theorem tw13293604914784664193 : True := ⟨⟩
theorem tw10523939842605885976 : True := ⟨⟩
theorem tw14807275697881323017 : True := ⟨⟩
theorem tw6372505772293862219 : True := ⟨⟩
theorem tw12884566986957390448 : True := ⟨⟩
theorem tw2274025316146058323 : True := ⟨⟩
theorem tw15691811694001566333 : True := ⟨⟩
theorem tw4481789253189620503 : True := ⟨⟩
theorem tw2522812691728185387 : True := ⟨⟩
theorem tw2187666867404638336 : True := ⟨⟩
theorem tw7971864933215629407 : True := ⟨⟩
theorem tw5371095143250039679 : True := ⟨⟩
theorem tw4322572418671666089 : True := ⟨⟩
theorem tw5398874423836569575 : True := ⟨⟩
theorem tw4396049443985683867 : True := ⟨⟩
theorem tw1496240456111306514 : True := ⟨⟩
theorem tw13260628198925066821 : True := ⟨⟩
theorem tw4483113625499869364 : True := ⟨⟩
theorem tw12148881868196417227 : True := ⟨⟩
theorem tw7303115677065576465 : True := ⟨⟩
theorem tw16998354057715870445 : True := ⟨⟩
theorem tw5442834110611992652 : True := ⟨⟩
theorem tw11849807516096038355 : True := ⟨⟩
theorem tw8268623909108436035 : True := ⟨⟩
theorem tw1020049199567206454 : True := ⟨⟩
theorem tw15968808779903164676 : True := ⟨⟩
theorem tw3673559314036544724 : True := ⟨⟩
theorem tw12920849284050955099 : True := ⟨⟩
theorem tw7994531835811665753 : True := ⟨⟩
theorem tw1834365802649706088 : True := ⟨⟩
theorem tw3433487089492320002 : True := ⟨⟩
theorem tw12164860458016408008 : True := ⟨⟩
theorem tw3802793771605447770 : True := ⟨⟩
theorem tw1242159217339821466 : True := ⟨⟩
theorem tw14882903938776434007 : True := ⟨⟩
theorem tw18290238886747494124 : True := ⟨⟩
theorem tw11832873525439437425 : True := ⟨⟩
theorem tw14096853522401711610 : True := ⟨⟩
theorem tw7376430549029022963 : True := ⟨⟩
theorem tw6564620776436699333 : True := ⟨⟩
theorem tw10334302907255815640 : True := ⟨⟩
theorem tw8927038864989212881 : True := ⟨⟩
theorem tw14957963130809647317 : True := ⟨⟩
theorem tw4353635610366576369 : True := ⟨⟩
theorem tw9254900712913555260 : True := ⟨⟩
theorem tw3336685959232394287 : True := ⟨⟩
theorem tw9235964880862274063 : True := ⟨⟩
theorem tw6718312248422075990 : True := ⟨⟩
theorem tw2765674836423536291 : True := ⟨⟩
theorem tw5868061840124210269 : True := ⟨⟩
theorem tw1321769037592271081 : True := ⟨⟩
theorem tw15638736430689021758 : True := ⟨⟩
theorem tw4216869010670476957 : True := ⟨⟩
theorem tw12877055191702691605 : True := ⟨⟩
theorem tw3308409703848595610 : True := ⟨⟩
theorem tw4479204065652860078 : True := ⟨⟩
theorem tw15570424982913058339 : True := ⟨⟩
theorem tw6032353594874586711 : True := ⟨⟩
theorem tw16223143846047831247 : True := ⟨⟩
theorem tw6416848254467853739 : True := ⟨⟩
theorem tw16851479248487240838 : True := ⟨⟩
theorem tw13163158554219844754 : True := ⟨⟩
theorem tw9666264154828094726 : True := ⟨⟩
theorem tw6449698231182108566 : True := ⟨⟩
theorem tw753738421427190110 : True := ⟨⟩
theorem tw1777605771989876299 : True := ⟨⟩
theorem tw15515748184831540657 : True := ⟨⟩
theorem tw17917071097919361671 : True := ⟨⟩
theorem tw5658393293373424923 : True := ⟨⟩
theorem tw8352039318472898172 : True := ⟨⟩
theorem tw11852210120220067323 : True := ⟨⟩
theorem tw16752524754096325608 : True := ⟨⟩
theorem tw10814997327707900979 : True := ⟨⟩
theorem tw12099686979052974354 : True := ⟨⟩
theorem tw14420372345868001620 : True := ⟨⟩
theorem tw5405096990552762 : True := ⟨⟩
theorem tw17012195823253226041 : True := ⟨⟩
end PySem.W.Fast
open PySem PySem.W PyProof.Rows
set_option maxRecDepth 100000 in
set_option maxHeartbeats 0 in
theorem PySem.Challenge.cw_jettison_k18_casts_take_worth_holds : PySem.Challenge.rw_jettison_k18_casts_take_worth.Holds := by
  w_on; o_law; k_head; (case hw => w_witness2)
  k_fill
  refine Law.walk (l := PySem.Challenge.rw_jettison_k18_casts_take_worth) rfl rfl (fun w h Y => PySem.W.kIn_of Y) ?F
  case F =>
    intro w mg fa h KX G hmg
    refine' Law.all_mk KX G hmg ?a0 ?l0 ?c0 ?k0 ?a1 ?l1 ?c1 ?k1 ?a2 ?l2 ?c2 ?k2 ?a3 ?l3 ?c3 ?k3 ?a4 ?l4 ?c4 ?k4 ?a5 ?l5 ?c5 ?k5 ?a6 ?l6 ?c6 ?k6 ?a7 ?l7 ?c7 ?k7 ?a8 ?l8 ?c8 ?k8 ?a9 ?l9 ?c9 ?k9 ?a10 ?l10 ?c10 ?k10 ?a11 ?l11 ?c11 ?k11 ?a12 ?l12 ?c12 ?k12 ?a13 ?l13 ?c13 ?k13 ?a14 ?l14 ?c14 ?k14 ?a15 ?l15 ?c15 ?k15 ?a16 ?l16 ?c16 ?k16 ?a17 ?l17 ?c17 ?k17 ?a18 ?l18 ?c18 ?k18 ?a19 ?l19 ?c19 ?k19 ?a20 ?l20 ?c20 ?k20 ?a21 ?l21 ?c21 ?k21 ?a22 ?l22 ?c22 ?k22 ?a23 ?l23 ?c23 ?k23 ?z_len ?z_range ?z_sum ?z_list ?z_zip ?z_all ?z_int ?z_bool ?z_str ?z_tuple ?z_abs ?z_isinstance ?z_min ?b_LETTERS ?aC_Hold ?pg_Hold ?hd_Hold ?po_Hold ?sa_Hold ?mk_Hold ?kc_Hold ?a_Hold_init ?i_Hold_init ?l_Hold_init ?c_Hold_init ?k_Hold_init ?a_Hold_place_of ?i_Hold_place_of ?l_Hold_place_of ?c_Hold_place_of ?k_Hold_place_of ?a_Hold_part_of ?i_Hold_part_of ?l_Hold_part_of ?c_Hold_part_of ?k_Hold_part_of ?a_Hold_check_new ?i_Hold_check_new ?l_Hold_check_new ?c_Hold_check_new ?k_Hold_check_new ?a_Hold_parts ?i_Hold_parts ?l_Hold_parts ?c_Hold_parts ?k_Hold_parts ?a_Hold_whole ?i_Hold_whole ?l_Hold_whole ?c_Hold_whole ?k_Hold_whole ?a_Hold_beyond_common ?i_Hold_beyond_common ?l_Hold_beyond_common ?c_Hold_beyond_common ?k_Hold_beyond_common ?a_Hold_stow ?i_Hold_stow ?l_Hold_stow ?c_Hold_stow ?k_Hold_stow ?a_Hold_sign ?i_Hold_sign ?l_Hold_sign ?c_Hold_sign ?k_Hold_sign ?a_Hold_load ?i_Hold_load ?l_Hold_load ?c_Hold_load ?k_Hold_load ?a_Hold_given_up ?i_Hold_given_up ?l_Hold_given_up ?c_Hold_given_up ?k_Hold_given_up ?a_Hold_lessen ?i_Hold_lessen ?l_Hold_lessen ?c_Hold_lessen ?k_Hold_lessen ?a_Hold_blend ?i_Hold_blend ?l_Hold_blend ?c_Hold_blend ?k_Hold_blend ?a_Hold_cast ?i_Hold_cast ?l_Hold_cast ?c_Hold_cast ?k_Hold_cast ?n_Hold_places ?n_Hold_aboard ?n_Hold_ashore ?n_Hold_names ?n_Hold_bottom ?n_Hold_common ?n_Hold_purses ?aC_Part ?pg_Part ?hd_Part ?po_Part ?sa_Part ?mk_Part ?kc_Part ?a_Part_init ?i_Part_init ?l_Part_init ?c_Part_init ?k_Part_init ?n_Part_name ?n_Part_owner ?n_Part_worth ?n_Part_weight ?n_Part_scale ?n_Part_row ?aC_Bottom ?pg_Bottom ?hd_Bottom ?po_Bottom ?sa_Bottom ?mk_Bottom ?kc_Bottom ?a_Bottom_init ?i_Bottom_init ?l_Bottom_init ?c_Bottom_init ?k_Bottom_init ?a_Bottom_grow ?i_Bottom_grow ?l_Bottom_grow ?c_Bottom_grow ?k_Bottom_grow ?n_Bottom_steps ?n_Bottom_product ?n_Bottom_known
    (case a0 => k_is); (case l0 => k_is); (case c0 => k_is); (case k0 => k_is)
    (case a1 => k_is); (case l1 => k_is); (case c1 => k_is); (case k1 => k_is)
    (case a2 => k_is); (case l2 => k_is); (case c2 => k_is); (case k2 => k_is)
    (case a3 => k_is); (case l3 => k_is); (case c3 => k_is); (case k3 => k_is)
    (case a4 => k_is); (case l4 => k_is); (case c4 => k_is); (case k4 => k_is)
    (case a5 => k_is); (case l5 => k_is); (case c5 => k_is); (case k5 => k_is)
    (case a6 => k_is); (case l6 => k_is); (case c6 => k_is); (case k6 => k_is)
    (case a7 => k_is); (case l7 => k_is); (case c7 => k_is); (case k7 => k_is)
    (case a8 => k_is); (case l8 => k_is); (case c8 => k_is); (case k8 => k_is)
    (case a9 => k_is); (case l9 => k_is); (case c9 => k_is); (case k9 => k_is)
    (case a10 => k_is); (case l10 => k_is); (case c10 => k_is); (case k10 => k_is)
    (case a11 => k_is); (case l11 => k_is); (case c11 => k_is); (case k11 => k_is)
    (case a12 => k_is); (case l12 => k_is); (case c12 => k_is); (case k12 => k_is)
    (case a13 => k_is); (case l13 => k_is); (case c13 => k_is); (case k13 => k_is)
    (case a14 => k_is); (case l14 => k_is); (case c14 => k_is); (case k14 => k_is)
    (case a15 => k_is); (case l15 => k_is); (case c15 => k_is); (case k15 => k_is)
    (case a16 => k_is); (case l16 => k_is); (case c16 => k_is); (case k16 => k_is)
    (case a17 => k_is); (case l17 => k_is); (case c17 => k_is); (case k17 => k_is)
    (case a18 => k_is); (case l18 => k_is); (case c18 => k_is); (case k18 => k_is)
    (case a19 => k_is); (case l19 => k_is); (case c19 => k_is); (case k19 => k_is)
    (case a20 => k_is); (case l20 => k_is); (case c20 => k_is); (case k20 => k_is)
    (case a21 => k_is); (case l21 => k_is); (case c21 => k_is); (case k21 => k_is)
    (case a22 => k_is); (case l22 => k_is); (case c22 => k_is); (case k22 => k_is)
    (case a23 => k_is); (case l23 => k_is); (case c23 => k_is); (case k23 => k_is)
    (case z_len => k_is)
    (case z_range => k_is)
    (case z_sum => k_is)
    (case z_list => k_is)
    (case z_zip => k_is)
    (case z_all => k_is)
    (case z_int => k_is)
    (case z_bool => k_is)
    (case z_str => k_is)
    (case z_tuple => k_is)
    (case z_abs => k_is)
    (case z_isinstance => k_is)
    (case z_min => k_is)
    (case b_LETTERS => k_is)
    (case aC_Hold => k_is)
    (case pg_Hold => k_is)
    (case hd_Hold => k_is)
    (case po_Hold => k_is)
    (case sa_Hold => k_is)
    (case mk_Hold => k_is)
    (case kc_Hold => k_is)
    (case a_Hold_init => k_is)
    (case i_Hold_init => k_is)
    (case l_Hold_init => k_is)
    (case c_Hold_init => k_is)
    (case k_Hold_init => k_is)
    (case a_Hold_place_of => k_is)
    (case i_Hold_place_of => k_is)
    (case l_Hold_place_of => k_is)
    (case c_Hold_place_of => k_is)
    (case k_Hold_place_of => k_is)
    (case a_Hold_part_of => k_is)
    (case i_Hold_part_of => k_is)
    (case l_Hold_part_of => k_is)
    (case c_Hold_part_of => k_is)
    (case k_Hold_part_of => k_is)
    (case a_Hold_check_new => k_is)
    (case i_Hold_check_new => k_is)
    (case l_Hold_check_new => k_is)
    (case c_Hold_check_new => k_is)
    (case k_Hold_check_new => k_is)
    (case a_Hold_parts => k_is)
    (case i_Hold_parts => k_is)
    (case l_Hold_parts => k_is)
    (case c_Hold_parts => k_is)
    (case k_Hold_parts => k_is)
    (case a_Hold_whole => k_is)
    (case i_Hold_whole => k_is)
    (case l_Hold_whole => k_is)
    (case c_Hold_whole => k_is)
    (case k_Hold_whole => k_is)
    (case a_Hold_beyond_common => k_is)
    (case i_Hold_beyond_common => k_is)
    (case l_Hold_beyond_common => k_is)
    (case c_Hold_beyond_common => k_is)
    (case k_Hold_beyond_common => k_is)
    (case a_Hold_stow => k_is)
    (case i_Hold_stow => k_is)
    (case l_Hold_stow => k_is)
    (case c_Hold_stow => k_is)
    (case k_Hold_stow => k_is)
    (case a_Hold_sign => k_is)
    (case i_Hold_sign => k_is)
    (case l_Hold_sign => k_is)
    (case c_Hold_sign => k_is)
    (case k_Hold_sign => k_is)
    (case a_Hold_load => k_is)
    (case i_Hold_load => k_is)
    (case l_Hold_load => k_is)
    (case c_Hold_load => k_is)
    (case k_Hold_load => k_is)
    (case a_Hold_given_up => k_is)
    (case i_Hold_given_up => k_is)
    (case l_Hold_given_up => k_is)
    (case c_Hold_given_up => k_is)
    (case k_Hold_given_up => k_is)
    (case a_Hold_lessen => k_is)
    (case i_Hold_lessen => k_is)
    (case l_Hold_lessen => k_is)
    (case c_Hold_lessen => k_is)
    (case k_Hold_lessen => k_is)
    (case a_Hold_blend => k_is)
    (case i_Hold_blend => k_is)
    (case l_Hold_blend => k_is)
    (case c_Hold_blend => k_is)
    (case k_Hold_blend => k_is)
    (case a_Hold_cast => k_is)
    (case i_Hold_cast => k_is)
    (case l_Hold_cast => k_is)
    (case c_Hold_cast => k_is)
    (case k_Hold_cast => k_is)
    (case n_Hold_places => k_is)
    (case n_Hold_aboard => k_is)
    (case n_Hold_ashore => k_is)
    (case n_Hold_names => k_is)
    (case n_Hold_bottom => k_is)
    (case n_Hold_common => k_is)
    (case n_Hold_purses => k_is)
    (case aC_Part => k_is)
    (case pg_Part => k_is)
    (case hd_Part => k_is)
    (case po_Part => k_is)
    (case sa_Part => k_is)
    (case mk_Part => k_is)
    (case kc_Part => k_is)
    (case a_Part_init => k_is)
    (case i_Part_init => k_is)
    (case l_Part_init => k_is)
    (case c_Part_init => k_is)
    (case k_Part_init => k_is)
    (case n_Part_name => k_is)
    (case n_Part_owner => k_is)
    (case n_Part_worth => k_is)
    (case n_Part_weight => k_is)
    (case n_Part_scale => k_is)
    (case n_Part_row => k_is)
    (case aC_Bottom => k_is)
    (case pg_Bottom => k_is)
    (case hd_Bottom => k_is)
    (case po_Bottom => k_is)
    (case sa_Bottom => k_is)
    (case mk_Bottom => k_is)
    (case kc_Bottom => k_is)
    (case a_Bottom_init => k_is)
    (case i_Bottom_init => k_is)
    (case l_Bottom_init => k_is)
    (case c_Bottom_init => k_is)
    (case k_Bottom_init => k_is)
    (case a_Bottom_grow => k_is)
    (case i_Bottom_grow => k_is)
    (case l_Bottom_grow => k_is)
    (case c_Bottom_grow => k_is)
    (case k_Bottom_grow => k_is)
    (case n_Bottom_steps => k_is)
    (case n_Bottom_product => k_is)
    (case n_Bottom_known => k_is)
