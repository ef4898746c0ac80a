import PyProof.Rows.All
import Wide.All
import OpenK.AllK
import Wide.FinOn
import Lean
import PyProof.EqAt
import PyProof.EqKinds
import PyProof.TupleCall
import PySem.Challenge.RW_jettison_k15_owners_sign
set_option Elab.async false
set_option linter.all false
set_option maxRecDepth 100000
set_option Elab.async false
set_option linter.all false
set_option maxRecDepth 100000
namespace L2
open PySem PySem.Spec PyProof.Rows
abbrev Key := Sum Int Str
def keyIs : Key → Value → Bool
  | .inl k, v => Value.isInt k v
  | .inr x, v => Value.isStrOf x v
def keyH (w : World) : Key → Int
  | .inl k => hashInt k
  | .inr x => hashStr w x
theorem keyIs_shape : ∀ {k : Key} {v : Value}, keyIs k v = true → (∃ i t, k = Sum.inl i ∧ v = Value.int i t) ∨ (∃ x t, k = Sum.inr x ∧ v = Value.str x t)
  | .inl i, v, h => by
    obtain ⟨t, e⟩ := Value.isInt_shape (k := i) (v := v) h
    exact .inl ⟨i, t, rfl, e⟩
  | .inr x, v, h => by
    obtain ⟨t, e⟩ := Value.isStrOf_shape (x := x) (v := v) h
    exact .inr ⟨x, t, rfl, e⟩
theorem keyIs_int (i : Int) (t : Tok) : keyIs (.inl i) (.int i t) = true := by simp [keyIs, Value.isInt]
theorem keyIs_str (x : Str) (t : Tok) : keyIs (.inr x) (.str x t) = true := by simp [keyIs, Value.isStrOf]
theorem key_ll (a b : Int) : decide ((Sum.inl a : Key) = Sum.inl b) = (a == b) := by
  by_cases e : a = b
  · subst e; simp
  · have h : ¬ (Sum.inl a : Key) = Sum.inl b := fun q => e (Sum.inl.inj q)
    rw [decide_eq_false h]
    exact (beq_eq_false_iff_ne.mpr e).symm
theorem key_rr (a b : Str) : decide ((Sum.inr a : Key) = Sum.inr b) = decide (a = b) := by
  by_cases e : a = b
  · subst e; simp
  · have h : ¬ (Sum.inr a : Key) = Sum.inr b := fun q => e (Sum.inr.inj q)
    rw [decide_eq_false h, decide_eq_false e]
theorem key_lr (a : Int) (b : Str) : decide ((Sum.inl a : Key) = Sum.inr b) = false := decide_eq_false (fun q => nomatch q)
theorem key_rl (a : Str) (b : Int) : decide ((Sum.inr a : Key) = Sum.inl b) = false := decide_eq_false (fun q => nomatch q)
def mixKind (prog : Program) (w : World) : PySem.KeyKind prog w Key where
  is := keyIs
  hash := keyH w
  inj := fun v a b ha hb => by
    rcases keyIs_shape ha with ⟨i, t, rfl, rfl⟩ | ⟨x, t, rfl, rfl⟩
    · rcases keyIs_shape hb with ⟨j, u, rfl, e⟩ | ⟨y, u, rfl, e⟩
      · injection e with e1 _; rw [e1]
      · exact nomatch e
    · rcases keyIs_shape hb with ⟨j, u, rfl, e⟩ | ⟨y, u, rfl, e⟩
      · exact nomatch e
      · injection e with e1 _; rw [e1]
  byValue := fun k v h => by
    rcases keyIs_shape h with ⟨i, t, rfl, rfl⟩ | ⟨x, t, rfl, rfl⟩ <;> rfl
  pyHash := fun hv h => by
    rcases keyIs_shape hv with ⟨i, t, rfl, rfl⟩ | ⟨x, t, rfl, rfl⟩
    · exact wpAny_pyHash_int h
    · exact wpAny_pyHash_str h
  eqBool := fun hu hv h => by
    rcases keyIs_shape hu with ⟨i, t, rfl, rfl⟩ | ⟨x, t, rfl, rfl⟩
    · rcases keyIs_shape hv with ⟨j, u, rfl, rfl⟩ | ⟨y, u, rfl, rfl⟩
      · rw [key_ll] at h; exact wpAny_eqBool_int h
      · rw [key_lr] at h; exact SeqAt.EqAt.int_str i t y u _ _ _ _ h
    · rcases keyIs_shape hv with ⟨j, u, rfl, rfl⟩ | ⟨y, u, rfl, rfl⟩
      · rw [key_rl] at h; exact SeqAt.EqAt.str_int x t j u _ _ _ _ h
      · rw [key_rr] at h; exact wpAny_eqBool_str h
  «strs» := fun k x t v h => by
    rcases keyIs_shape h with ⟨i, u, rfl, e⟩ | ⟨y, u, rfl, e⟩
    · exact nomatch e
    · injection e with e1 _
      subst e1
      cases v <;> rfl
theorem mixKind_is (prog : Program) (w : World) (k : Key) (v : Value) : (mixKind prog w).is k v = keyIs k v := rfl
theorem mixKind_int (prog : Program) (w : World) (i : Int) (t : Tok) : (mixKind prog w).is (.inl i) (.int i t) = true := keyIs_int i t
theorem mixKind_str (prog : Program) (w : World) (x : Str) (t : Tok) : (mixKind prog w).is (.inr x) (.str x t) = true := keyIs_str x t
end L2
namespace L2
open PySem PySem.Spec PyProof.Rows
inductive V where
  | non | bl (b : Bool) | int (i : Int) | str (x : Str) | byt (b : Array UInt8) | flt (b : UInt64) | ref (a : Addr) | ty (n : String)
  deriving DecidableEq
def RelV : V → Value → Prop
  | .non, u => u = Value.none
  | .bl b, u => u = Value.bool b
  | .int i, u => ∃ t, u = Value.int i t
  | .str x, u => ∃ t, u = Value.str x t
  | .byt b, u => ∃ t, u = Value.bytes b t
  | .flt b, u => ∃ t, u = Value.float b t
  | .ref a, u => u = Value.ref a
  | .ty n, u => u = Value.type n
abbrev Vals : List V → List Value → Prop := Paired RelV
theorem Vals.length {xs : List V} {us : List Value} (r : Vals xs us) : xs.length = us.length := Paired.length r
theorem Vals.get : ∀ {xs : List V} {us : List Value} {i : Nat} {x : V}, Vals xs us → xs[i]? = some x → ∃ u, us[i]? = some u ∧ RelV x u
  | _, _, _, _, .nil, e => by simp at e
  | _, _, 0, _, .cons r _, e => by simp at e; subst e; exact ⟨_, rfl, r⟩
  | _, _, i + 1, x, .cons _ t, e => by
    obtain ⟨u, h1, h2⟩ := Vals.get (i := i) (x := x) t (by simpa using e)
    exact ⟨u, by simpa using h1, h2⟩
theorem Vals.append : ∀ {xs ys : List V} {us ws : List Value}, Vals xs us → Vals ys ws → Vals (xs ++ ys) (us ++ ws)
  | _, _, _, _, .nil, s => s
  | _, _, _, _, .cons r t, s => .cons r (Vals.append t s)
def RelO : Option V → Option Value → Prop
  | some v, some u => RelV v u
  | none, none => True
  | _, _ => False
def KV {κ : Type} : List (κ × V) → List (κ × Value) → Prop := Paired fun (p : κ × V) (q : κ × Value) => p.1 = q.1 ∧ RelV p.2 q.2
def kV : Key → V
  | .inl i => .int i
  | .inr x => .str x
inductive HO where
  | lst (xs : List V)
  | tup (xs : List V)
  | dK (kvs : List (Key × V)) | dT (kvs : List (List Key × V))
  | set (S : Int → Bool) (n : Nat)
  | ins (C dx : Addr) (fs : List (Str × V))
  | own (x : Addr)
  | xd (fs : List (Str × V))
  | met (f x : Addr)
  | rng (lo hi : Int)
  | frz (o : Obj) (u : HO)
  | tbl (ps : Array Value)
  | ext (φ : Heap → Prop)
abbrev Hp := Addr → Option HO
def upd (H : Hp) (a : Addr) (o : HO) : Hp := fun b => if b = a then some o else H b
theorem upd_same {H : Hp} {a : Addr} {o : HO} : upd H a o a = some o := by unfold upd; rw [if_pos rfl]
theorem upd_ne {H : Hp} {a b : Addr} {o : HO} (h : b ≠ a) : upd H a o b = H b := by unfold upd; rw [if_neg h]
theorem upd_upd {H : Hp} {a : Addr} {o u : HO} : upd (upd H a o) a u = upd H a u := by
  funext b; unfold upd; split <;> rfl
theorem ne_of {H : Hp} {a b : Addr} {o u : HO} (h : H a = some o) (h' : H b = some u) (d : o ≠ u) : a ≠ b := by
  intro e; subst e; rw [h] at h'; exact d (Option.some.inj h')
theorem ne_of_none {H : Hp} {a b : Addr} {o : HO} (h : H a = some o) (h' : H b = none) : a ≠ b := by
  intro e; subst e; rw [h] at h'; cases h'
section
variable (P : Program) (w : World)
def ObjOk (H : Hp) (h : Heap) (a : Addr) : HO → Prop
  | .lst xs => xs.length ≤ sizeLine ∧ ∃ (its : List Value) (n : Nat), Vals xs its ∧ h.get? a = some { cls := .type "list", data := .seq its.toArray n }
  | .tup xs => xs.length ≤ sizeLine ∧ ∃ its : List Value, Vals xs its ∧ IsTup h a its.toArray
  | .dK kvs => kvs.length ≤ sizeLine ∧ (a == sysModules) = false ∧ ∃ vs, KV kvs vs ∧ h.DictOf (mixKind P w) a vs
  | .dT kvs => kvs.length ≤ sizeLine ∧ (a == sysModules) = false ∧ ∃ xs : List (List Key × Addr × Value),
      Paired (fun (p : List Key × V) (q : List Key × Addr × Value) => p.1 = q.1 ∧ H q.2.1 = some (.tup (p.1.map kV)) ∧ RelV p.2 q.2.2) kvs xs ∧
      ∃ o es ep, h.get? a = some o ∧ o.ExactDict ∧ o.data = .dict es ep ∧ es.toList = xs.map (entryOfKey (tupleKind (mixKind P w))) ∧ (xs.map (·.1)).Nodup
  | .set S n => h.SetOf (intKind P w) a S n
  | .ins C dx fs => H dx = some (.own a) ∧ fs.length ≤ 1000 ∧ dx ≠ a ∧ h.get? a = some (PySem.W.instObj C dx) ∧
      ∃ mA, h.Ns1 dx mA ∧ (∀ f, RelO (fs.lookup f) (mA f)) ∧ PySem.Within mA (fs.map (·.1))
  | .own _ => ∃ o, h.get? a = some o
  | .xd fs => ∃ mA, h.Ns1 a mA ∧ ∀ f, RelO (fs.lookup f) (mA f)
  | .rng lo hi => ∃ t u v, h.get? a = some { cls := .type "range", data := .fields #[.int lo t, .int hi u, .int 1 v] }
  | .frz o u => h.get? a = some o ∧ ObjOk H h a u
  | .tbl ps => h.get? a = some { cls := .none, data := .fields ps }
  | .met f x => h.get? a = some (PySem.W.methodObj (.ref f) (.ref x))
  | .ext φ => φ h ∧ (∃ o, h.get? a = some o) ∧ ∀ h1 h2 : Heap, φ h1 → (∀ o, h1.get? a = some o → h2.get? a = some o) → φ h2
def HOk (H : Hp) (h : Heap) : Prop := ∀ a o, H a = some o → ObjOk P w H h a o
end
section
variable {P : Program} {w : World} {H H' : Hp} {h h' : Heap} {a : Addr} {o : HO}
theorem ObjOk.lt (x : ObjOk P w H h a o) : a < h.objs.size := by
  cases o with
  | lst xs => obtain ⟨_, _, _, _, e⟩ := x; exact Heap.lt_size e
  | tup xs => obtain ⟨_, _, _, p⟩ := x; exact p.lt
  | dK kvs => obtain ⟨_, _, _, _, o, _, _, e, _⟩ := x; exact Heap.lt_size e
  | dT kvs => obtain ⟨_, _, _, _, o, _, _, e, _⟩ := x; exact Heap.lt_size e
  | set S n => obtain ⟨o, _, _, _, e, _⟩ := x; exact Heap.lt_size e
  | ins C dx fs => obtain ⟨_, _, _, e, _⟩ := x; exact Heap.lt_size e
  | own y => obtain ⟨_, e⟩ := x; exact Heap.lt_size e
  | xd fs => obtain ⟨_, ⟨_, _, _, e, _⟩, _⟩ := x; exact Heap.lt_size e
  | rng lo hi => obtain ⟨_, _, _, e⟩ := x; exact Heap.lt_size e
  | frz ob u => obtain ⟨e, _⟩ := x; exact Heap.lt_size e
  | tbl ps => exact Heap.lt_size (show h.get? a = some _ from x)
  | met f y => exact Heap.lt_size (show h.get? a = some _ from x)
  | ext φ => obtain ⟨_, ⟨_, e⟩, _⟩ := x; exact Heap.lt_size e
theorem Paired.mapP {α β : Type} {F G : α → β → Prop} : ∀ {l₁ : List α} {l₂ : List β}, Paired F l₁ l₂ → (∀ a b, F a b → G a b) → Paired G l₁ l₂
  | _, _, .nil, _ => .nil
  | _, _, .cons r t, f => .cons (f _ _ r) (Paired.mapP t f)
theorem ObjOk.stay (x : ObjOk P w H h a o) (k : ∀ b u, (b = a ∨ H b = some (.own a)) → h.get? b = some u → h'.get? b = some u)
    (ho : ∀ b, H b = some (.own a) → H' b = some (.own a)) (ht : ∀ b xs, H b = some (.tup xs) → H' b = some (.tup xs)) : ObjOk P w H' h' a o := by
  induction o with
  | lst xs => obtain ⟨z, its, n, r, e⟩ := x; exact ⟨z, its, n, r, k _ _ (.inl rfl) e⟩
  | tup xs => obtain ⟨z, its, r, ob, e, c⟩ := x; exact ⟨z, its, r, ob, k _ _ (.inl rfl) e, c⟩
  | dK kvs => obtain ⟨z, y, vs, r, ob, es, ep, e, c⟩ := x; exact ⟨z, y, vs, r, ob, es, ep, k _ _ (.inl rfl) e, c⟩
  | dT kvs =>
    obtain ⟨z, y, xs, r, ob, es, ep, e, c⟩ := x
    exact ⟨z, y, xs, Paired.mapP r fun p q z => ⟨z.1, ht _ _ z.2.1, z.2.2⟩, ob, es, ep, k _ _ (.inl rfl) e, c⟩
  | set S n => obtain ⟨ob, es, ep, t, e, c⟩ := x; exact ⟨ob, es, ep, t, k _ _ (.inl rfl) e, c⟩
  | ins C dx fs =>
    obtain ⟨d, z, ne, e, mA, ⟨od, es, ep, e2, c⟩, r⟩ := x
    exact ⟨ho _ d, z, ne, k _ _ (.inl rfl) e, mA, ⟨od, es, ep, k _ _ (.inr d) e2, c⟩, r⟩
  | own y => obtain ⟨ob, e⟩ := x; exact ⟨ob, k _ _ (.inl rfl) e⟩
  | xd fs => obtain ⟨mA, ⟨od, es, ep, e, c⟩, r⟩ := x; exact ⟨mA, ⟨od, es, ep, k _ _ (.inl rfl) e, c⟩, r⟩
  | rng lo hi => obtain ⟨t, u, v, e⟩ := x; exact ⟨t, u, v, k _ _ (.inl rfl) e⟩
  | frz ob u ih => obtain ⟨e, q⟩ := x; exact ⟨k _ _ (.inl rfl) e, ih q⟩
  | tbl ps =>
    have e : h.get? a = some { cls := .none, data := .fields ps } := x
    show h'.get? a = some { cls := .none, data := .fields ps }
    exact k a _ (.inl rfl) e
  | met f y =>
    have e : h.get? a = some (PySem.W.methodObj (.ref f) (.ref y)) := x
    show h'.get? a = some (PySem.W.methodObj (.ref f) (.ref y))
    exact k a _ (.inl rfl) e
  | ext φ => obtain ⟨p, ⟨o, e⟩, st⟩ := x; exact ⟨st _ _ p fun o q => k _ _ (.inl rfl) q, ⟨o, k _ _ (.inl rfl) e⟩, st⟩
theorem HOk.lt (x : HOk P w H h) (e : H a = some o) : a < h.objs.size := (x a o e).lt
theorem HOk.fresh (x : HOk P w H h) (e : h.objs.size ≤ a) : H a = none := by
  cases q : H a with
  | none => rfl
  | some u => exact absurd (Nat.lt_of_lt_of_le (x.lt q) e) (Nat.lt_irrefl _)
theorem HOk.kept (x : HOk P w H h) (k : ∀ b u, h.get? b = some u → h'.get? b = some u) : HOk P w H h' := fun a o e =>
  (x a o e).stay (fun b u _ q => k b u q) (fun _ q => q) fun _ _ q => q
theorem HOk.laid (x : HOk P w H h) (k : ∀ b u, h.get? b = some u → h'.get? b = some u) (hp : h.objs.size ≤ a) (new : ObjOk P w (upd H a o) h' a o) : HOk P w (upd H a o) h' := fun b u e => by
  have hn := x.fresh hp
  by_cases hb : b = a
  · subst hb; rw [upd_same] at e; cases e; exact new
  · rw [upd_ne hb] at e
    exact (x b u e).stay (fun c v _ q => k c v q) (fun c q => by rw [upd_ne (ne_of_none q hn)]; exact q) fun c xs q => by rw [upd_ne (ne_of_none q hn)]; exact q
end
def Rd (H : Hp) (a : Addr) (u : HO) : Prop := H a = some u ∨ ∃ o, H a = some (.frz o u)
theorem Rd.ok {P : Program} {w : World} {H : Hp} {h : Heap} {a : Addr} {u : HO} (r : Rd H a u) (x : HOk P w H h) : ObjOk P w H h a u := by
  rcases r with r | ⟨o, r⟩
  · exact x a u r
  · obtain ⟨_, q⟩ := x a _ r
    exact q
def Mut : Option HO → Prop
  | some (.lst _) => True
  | some (.dK _) => True
  | some (.dT _) => True
  | some (.set _ _) => True
  | some (.ins _ _ _) => True
  | some (.ext _) => True
  | _ => False
section
variable {P : Program} {w : World} {H : Hp} {h h' : Heap} {x e : Addr} {o' : HO}
theorem HOk.write (ok : HOk P w H h) (mu : Mut (H x)) (he : e = x ∨ H e = some (.own x)) (k : ∀ b u, b ≠ e → h.get? b = some u → h'.get? b = some u) (heo : ∃ u, h'.get? e = some u)
    (new : ObjOk P w (upd H x o') h' x o') : HOk P w (upd H x o') h' := fun b u q => by
  have nown : ∀ c y, H c = some (.own y) → c ≠ x := fun c y r z => by subst z; rw [r] at mu; exact mu
  have ntup : ∀ c xs, H c = some (.tup xs) → c ≠ x := fun c xs r z => by subst z; rw [r] at mu; exact mu
  by_cases hb : b = x
  · subst hb; rw [upd_same] at q; cases q; exact new
  · rw [upd_ne hb] at q
    by_cases hbe : b = e
    · have q' : H b = some (.own x) := by
        rcases he with z | z
        · exact absurd (hbe.trans z) hb
        · rw [hbe]; exact z
      rw [q] at q'; cases q'
      obtain ⟨v, hv⟩ := heo
      exact ⟨v, by rw [hbe]; exact hv⟩
    · refine (ok b u q).stay (fun c v hc r => k c v ?_ r) (fun c r => by rw [upd_ne (nown c b r)]; exact r) fun c xs r => by rw [upd_ne (ntup c xs r)]; exact r
      rcases hc with rfl | hc
      · exact hbe
      · rintro rfl
        rcases he with z | z
        · exact nown c b hc z
        · rw [hc] at z; cases z; exact hb rfl
end
structure Un (fs ex : List Addr) (H H' : Hp) (h h' : Heap) : Prop where
  keep : ∀ b o, h.get? b = some o → H b = none → b ∉ fs → b ∉ ex → h'.get? b = some o
  slot : ∀ b o, h.get? b = some o → H b = none → b ∈ fs → b ∉ ex → ∃ sl, h'.get? b = some { o with slots := sl }
  free : ∀ b o, h.get? b = some o → H b = none → b ∉ ex → H' b = none
  there : ∀ b o, h.get? b = some o → b ∉ ex → ∃ o', h'.get? b = some o'
  tups : ∀ b xs, H b = some (.tup xs) → H' b = some (.tup xs)
  frzs : ∀ b o u, H b = some (.frz o u) → H' b = some (.frz o u)
  tbls : ∀ b ps, H b = some (.tbl ps) → ∃ more, H' b = some (.tbl (ps ++ more))
section
variable {fs fs' ex ex' : List Addr} {H H1 H2 : Hp} {h h1 h2 h' : Heap} {a x e : Addr} {o : HO}
theorem Un.any (u : Un fs ex H H1 h h1) {b : Addr} {ob : Obj} (q : h.get? b = some ob) (n : H b = none) (hx : b ∉ ex) : ∃ sl, h1.get? b = some { ob with slots := sl } := by
  by_cases hb : b ∈ fs
  · exact u.slot b ob q n hb hx
  · exact ⟨ob.slots, u.keep b ob q n hb hx⟩
theorem Un.kept (k : ∀ b u, h.get? b = some u → h'.get? b = some u) : Un fs ex H H h h' :=
  ⟨fun b ob q _ _ _ => k b ob q, fun b ob q _ _ _ => ⟨ob.slots, k b ob q⟩, fun _ _ _ n _ => n, fun b ob q _ => ⟨ob, k b ob q⟩, fun _ _ q => q, fun _ _ _ q => q, fun _ ps q => ⟨#[], by rw [q]; simp⟩⟩
theorem Un.refl : Un fs ex H H h h := Un.kept fun _ _ q => q
theorem Un.laid (k : ∀ b u, h.get? b = some u → h'.get? b = some u) (hp : h.objs.size ≤ a) (hn : H a = none) : Un fs ex H (upd H a o) h h' where
  keep := fun b u q _ _ _ => k b u q
  slot := fun b u q _ _ _ => ⟨u.slots, k b u q⟩
  free := fun b u q n _ => by rw [upd_ne (Nat.ne_of_lt (Nat.lt_of_lt_of_le (Heap.lt_size q) hp))]; exact n
  there := fun b u q _ => ⟨u, k b u q⟩
  tups := fun b xs q => by rw [upd_ne (ne_of_none q hn)]; exact q
  frzs := fun b u xs q => by rw [upd_ne (ne_of_none q hn)]; exact q
  tbls := fun b ps q => ⟨#[], by rw [upd_ne (ne_of_none q hn), q]; simp⟩
theorem Un.write (mu : Mut (H x)) (he : e = x ∨ H e = some (.own x)) (k : ∀ b u, b ≠ e → h.get? b = some u → h'.get? b = some u) (heo : ∃ u, h'.get? e = some u) : Un fs ex H (upd H x o) h h' := by
  have hx : ∀ b, H b = none → b ≠ x := fun b n z => by subst z; rw [n] at mu; exact mu
  have hb : ∀ b, H b = none → b ≠ e := fun b n z => by
    subst z
    rcases he with r | r
    · exact hx b n r
    · rw [n] at r; cases r
  have hm : ∀ b u, H b = some u → ¬ Mut (some u) → b ≠ x := fun b u q nm z => by subst z; rw [q] at mu; exact nm mu
  refine ⟨fun b u q n _ _ => k b u (hb b n) q, fun b u q n _ _ => ⟨u.slots, k b u (hb b n) q⟩, fun b u q n _ => by rw [upd_ne (hx b n)]; exact n, fun b u q _ => ?_,
    fun b xs q => by rw [upd_ne (hm b _ q fun z => z)]; exact q, fun b u xs q => by rw [upd_ne (hm b _ q fun z => z)]; exact q, fun b ps q => ⟨#[], by rw [upd_ne (hm b _ q fun z => z), q]; simp⟩⟩
  by_cases hbe : b = e
  · subst hbe; exact heo
  · exact ⟨u, k b u hbe q⟩
end
def trk (h : Heap) (H : Hp) : List Addr := (List.range h.objs.size).filter fun a => (H a).isSome
def hidT (h : Heap) (H : Hp) : Heap := PySem.W.hideAll h (trk h H)
theorem hidT_size (h : Heap) (H : Hp) : (hidT h H).objs.size = h.objs.size := PySem.W.hideAll_size _ _
theorem hidT_get {h : Heap} {H : Hp} {b : Addr} {o : Obj} (e : h.get? b = some o) (n : H b = none) : (hidT h H).get? b = some o :=
  PySem.W.hideAll_get _ e fun hm => by
    have q : (H b).isSome = true := (List.mem_filter.mp hm).2
    rw [n] at q; simp at q
theorem of_hidT {h : Heap} {H : Hp} {b : Addr} {o : Obj} (e : (hidT h H).get? b = some o) : h.get? b = some o ∧ H b = none := by
  have e' : h.get? b = some o := PySem.W.of_hideAll (trk h H) e
  refine ⟨e', ?_⟩
  cases q : H b with
  | none => rfl
  | some x =>
    have hm : b ∈ trk h H := List.mem_filter.mpr ⟨List.mem_range.mpr (Heap.lt_size e'), by simp [q]⟩
    have z : (hidT h H).get? b = none := PySem.W.hideAll_none (trk h H) hm
    rw [z] at e; cases e
end L2
namespace L2
open PySem PySem.Spec PyProof.Rows
structure Mod (K : PySem.W.Frag) (mg : Str → Option Value) (base : Heap) : Prop where
  kin : K.In base
  glob : base.Ns mainGlobals mg
  blt : ∃ mb, base.Ns builtinsNs mb ∧ ∀ x : Str, x ≠ "__name__" → mb x = bootBuiltins x
  nolimit : base.NoLimit
structure Cx where
  prog : Program
  w : World
  K : PySem.W.Frag
  mg : Str → Option Value
  base : Heap
  A : Around
  N : List Str
  s₀ : Shared
  H₀ : Hp
  env : Env
  outer : List Env
  stack : List Env
  ex : List Addr
  fn : Str → Bool
  calm : Bool
  pn : List (Addr × Obj)
  xe : Value → Shared → Prop
def frs (l : List Env) : List Addr := l.filterMap (·.frame)
abbrev Cx.fs (X : Cx) : List Addr := frs X.outer
def Vis (sc : Scope) (x : Str) : Prop := sc.names.lookup x = some .local ∨ sc.names.lookup x = some .cell ∨ sc.names.lookup x = some .free
def Loc (sc : Scope) (x : Str) : Prop := sc.names.lookup x = some .local ∨ sc.names.lookup x = some .cell
def Look (env : Env) (h : Heap) (m : Str → Option Value) (x : Str) (u : Value) : Prop :=
  (env.kindOf x = some .local ∧ m x = some u) ∨ ((env.kindOf x = some .cell ∨ env.kindOf x = some .free) ∧ ∃ c, env.cells.lookup x = some c ∧ h.IsCell c (some u))
structure Cx.Ok (X : Cx) : Prop where
  mod : Mod X.K X.mg X.base
  kind : X.env.scope.kind = .function
  glob : X.env.globals = mainGlobals
  blt : X.env.builtins = builtinsNs
  above : X.s₀.heap.objs.size ≤ X.env.locals
  inj : ∀ x y c, X.env.cells.lookup x = some c → X.env.cells.lookup y = some c → x = y
  has : ∀ x, (X.env.kindOf x = some .cell ∨ X.env.kindOf x = some .free) → ∃ c, X.env.cells.lookup x = some c
  cab : ∀ x c, X.fn x = true → X.env.cells.lookup x = some c → X.s₀.heap.objs.size ≤ c
  hd : X.calm = true → X.A.handled = none
  frames : X.A.frames = some X.stack
  stk : X.stack = X.outer ∨ (X.stack = X.env :: X.outer ∧ X.env.frame = some X.env.locals)
  exf : ∀ b ∈ X.ex, b ≠ X.env.locals ∧ ∀ x c, X.env.cells.lookup x = some c → c ≠ b
  bs : ∀ b o, X.base.get? b = some o → X.s₀.heap.get? b = some o ∧ X.H₀ b = none
  bsz : X.base.objs.size ≤ X.s₀.heap.objs.size
  noex : ∀ b o, X.base.get? b = some o → b ∉ X.ex
  exfs : ∀ b ∈ X.ex, b ∉ X.fs
  funs : X.s₀.heap.FunFrames X.base X.outer
  frf : ∀ b ∈ X.fs, X.H₀ b = none
structure Inv (X : Cx) (pins : List (Addr × Obj)) (σ : List (Option V)) (H : Hp) (s : Shared) : Prop where
  ok : X.Ok
  os : s.os = X.s₀.os
  bare : AllBare s.gens
  base : Un X.fs X.ex X.H₀ H X.s₀.heap s.heap
  loc : ∃ m, s.heap.Ns X.env.locals m ∧ ∀ (i : Nat) (x : Str) (v : V), X.N[i]? = some x → σ[i]? = some (some v) → Vis X.env.scope x → ∃ u, RelV v u ∧ Look X.env s.heap m x u
  cell : ∀ x c, X.env.cells.lookup x = some c → ∃ v, s.heap.IsCell c v
  free : H X.env.locals = none
  freeC : ∀ x c, X.env.cells.lookup x = some c → H c = none
  pin : ∀ p ∈ X.pn ++ pins, s.heap.get? p.1 = some p.2 ∧ H p.1 = none ∧ p.1 ≠ X.env.locals ∧ p.1 ∉ X.fs ∧ ∀ v, p.2.data ≠ .cell v
  hok : HOk X.prog X.w H s.heap
  len : σ.length = X.N.length
section
variable {X : Cx} {pins : List (Addr × Obj)} {σ : List (Option V)} {H H' : Hp} {s : Shared} {h' : Heap}
theorem Cx.Ok.nofr (ok : X.Ok) {b : Addr} {o : Obj} (e : X.base.get? b = some o) : b ∉ X.fs := fun hb => by
  have := (ok.funs.mem hb).1
  rw [e] at this; cases this
theorem Inv.bs (I : Inv X pins σ H s) : ∀ b o, X.base.get? b = some o → s.heap.get? b = some o ∧ H b = none := fun b o e =>
  ⟨I.base.keep b o (I.ok.bs b o e).1 (I.ok.bs b o e).2 (I.ok.nofr e) (I.ok.noex b o e), I.base.free b o (I.ok.bs b o e).1 (I.ok.bs b o e).2 (I.ok.noex b o e)⟩
theorem Inv.bk (I : Inv X pins σ H s) : ∀ b o, X.base.get? b = some o → s.heap.get? b = some o := fun b o e => (I.bs b o e).1
theorem Inv.mod (I : Inv X pins σ H s) : Mod X.K X.mg X.base := I.ok.mod
theorem Inv.kIn (I : Inv X pins σ H s) : X.K.In s.heap := I.ok.mod.kin.keeps I.bk
theorem Inv.lt (I : Inv X pins σ H s) : X.env.locals < s.heap.objs.size := let ⟨_, hn, _⟩ := I.loc; hn.lt
theorem Inv.sz (I : Inv X pins σ H s) : X.s₀.heap.objs.size ≤ s.heap.objs.size := Nat.le_trans I.ok.above (Nat.le_of_lt I.lt)
theorem Inv.nofs (I : Inv X pins σ H s) {a : Addr} (h : s.heap.objs.size ≤ a) : a ∉ X.fs := fun hb => by
  obtain ⟨_, o, ho, _⟩ := I.ok.funs.mem hb
  exact absurd (Nat.lt_of_lt_of_le (Heap.lt_size ho) (Nat.le_trans I.sz h)) (Nat.lt_irrefl _)
theorem Inv.cne (I : Inv X pins σ H s) : ∀ x c, X.env.cells.lookup x = some c → c ≠ X.env.locals := fun x c e z => by
  obtain ⟨v, o, ho, hd⟩ := I.cell x c e
  obtain ⟨m, ⟨o', es, ep, ho', hd', _⟩, _⟩ := I.loc
  rw [z, ho'] at ho; cases ho; rw [hd'] at hd; cases hd
theorem Inv.funs (I : Inv X pins σ H s) : s.heap.FunFrames X.base X.outer := by
  have all : ∀ (l : List Env), (∀ b ∈ frs l, b ∈ X.fs) → X.s₀.heap.FunFrames X.base l → s.heap.FunFrames X.base l := by
    intro l
    induction l with
    | nil => intro _ _; trivial
    | cons env r ih =>
      intro hs hl
      obtain ⟨hk, ⟨L, o, hf, hn, ho, hd⟩, hr⟩ := hl
      have hL : L ∈ X.fs := hs L (by unfold frs; rw [List.filterMap_cons, hf]; exact List.mem_cons_self)
      obtain ⟨sl, e⟩ := I.base.slot L o ho (I.ok.frf L hL) hL fun z => I.ok.exfs L z hL
      exact ⟨hk, ⟨L, _, hf, hn, e, hd⟩, ih (fun b hb => hs b (by unfold frs; rw [List.filterMap_cons, hf]; exact List.mem_cons_of_mem _ hb)) hr⟩
  exact all X.outer (fun _ hb => hb) I.ok.funs
theorem Inv.stack (I : Inv X pins σ H s) : s.heap.FunFrames X.base X.stack := by
  rcases I.ok.stk with e | ⟨e, hf⟩
  · rw [e]; exact I.funs
  · rw [e]
    obtain ⟨m, hn, _⟩ := I.loc
    refine .cons (by rw [I.ok.kind]; decide) hf hn ?_ I.funs
    exact Heap.get?_none_of_le (Nat.le_trans I.ok.bsz I.ok.above)
theorem Inv.stkSub (I : Inv X pins σ H s) : ∀ b ∈ frs X.stack, b ∈ X.env.locals :: X.fs := fun b hb => by
  rcases I.ok.stk with e | ⟨e, hf⟩
  · rw [e] at hb; exact List.mem_cons_of_mem _ hb
  · rw [e] at hb
    unfold frs at hb
    rw [List.filterMap_cons, hf] at hb
    exact hb
theorem Inv.stkFree (I : Inv X pins σ H s) : ∀ b ∈ frs X.stack, H b = none := fun b hb => by
  rcases List.mem_cons.mp (I.stkSub b hb) with e | hb
  · rw [e]; exact I.free
  · obtain ⟨_, o, ho, _⟩ := I.ok.funs.mem hb
    exact I.base.free b o ho (I.ok.frf b hb) fun z => I.ok.exfs b z hb
theorem Inv.step {g' : Array GenState} {t' : Nat} {d' : Drawn} {ch : List Addr} (I : Inv X pins σ H s)
    (hch : ∀ b ∈ ch, (b ∈ X.ex ∨ X.s₀.heap.objs.size ≤ b) ∧ b ≠ X.env.locals ∧ (∀ x c, X.env.cells.lookup x = some c → c ≠ b) ∧ ∀ p ∈ X.pn ++ pins, p.1 ≠ b)
    (keep : ∀ b o, b ≠ X.env.locals → b ∉ X.fs → b ∉ ch → s.heap.get? b = some o → H b = none → h'.get? b = some o)
    (slot : ∀ b o, b ≠ X.env.locals → b ∈ X.fs → b ∉ ch → s.heap.get? b = some o → H b = none → ∃ sl, h'.get? b = some { o with slots := sl }) (free : ∀ b o, b ∉ ch → s.heap.get? b = some o → H b = none → H' b = none)
    (there : ∀ b o, b ∉ ch → s.heap.get? b = some o → ∃ o', h'.get? b = some o')
    (tups : ∀ b xs, H b = some (.tup xs) → H' b = some (.tup xs)) (frzs : ∀ b o u, H b = some (.frz o u) → H' b = some (.frz o u)) (tbls : ∀ b ps, H b = some (.tbl ps) → ∃ more, H' b = some (.tbl (ps ++ more)))
    (ns : ∀ m, s.heap.Ns X.env.locals m → h'.Ns X.env.locals m) (hok : HOk X.prog X.w H' h') (hg : AllBare g') :
    Inv X pins σ H' { s with heap := h', gens := g', drawn := d', toks := t' } := by
  have neL : ∀ b o, X.s₀.heap.get? b = some o → b ≠ X.env.locals := fun b o e => Nat.ne_of_lt (Nat.lt_of_lt_of_le (Heap.lt_size e) I.ok.above)
  have neC : ∀ b o, X.s₀.heap.get? b = some o → b ∉ X.ex → b ∉ ch := fun b o e hx hb => by
    rcases (hch b hb).1 with z | z
    · exact hx z
    · exact absurd (Nat.lt_of_lt_of_le (Heap.lt_size e) z) (Nat.lt_irrefl _)
  have cellK : ∀ x c, X.env.cells.lookup x = some c → ∀ v, s.heap.IsCell c v → h'.IsCell c v := fun x c e v ⟨o, ho, hd⟩ => by
    have nch : c ∉ ch := fun z => (hch c z).2.2.1 x c e rfl
    by_cases hc : c ∈ X.fs
    · obtain ⟨sl, q⟩ := slot c o (I.cne x c e) hc nch ho (I.freeC x c e)
      exact ⟨_, q, hd⟩
    · exact ⟨o, keep c o (I.cne x c e) hc nch ho (I.freeC x c e), hd⟩
  refine ⟨I.ok, I.os, hg, ⟨fun b o e n hb hx => ?_, fun b o e n hb hx => ?_, fun b o e n hx => ?_, fun b o e hx => ?_, fun b xs e => tups b xs (I.base.tups b xs e), fun b o xs e => frzs b o xs (I.base.frzs b o xs e), fun b ps e => ?_⟩, ?_, fun x c e => ?_, ?_, fun x c e => ?_, fun p hp => ?_, hok, I.len⟩
  · exact keep b o (neL b o e) hb (neC b o e hx) (I.base.keep b o e n hb hx) (I.base.free b o e n hx)
  · obtain ⟨sl, e1⟩ := I.base.slot b o e n hb hx
    obtain ⟨sl', e2⟩ := slot b _ (neL b o e) hb (neC b o e hx) e1 (I.base.free b o e n hx)
    exact ⟨sl', e2⟩
  · obtain ⟨o', e1⟩ := I.base.there b o e hx
    exact free b o' (neC b o e hx) e1 (I.base.free b o e n hx)
  · obtain ⟨o', e1⟩ := I.base.there b o e hx
    exact there b o' (neC b o e hx) e1
  · obtain ⟨m1, e1⟩ := I.base.tbls b ps e
    obtain ⟨m2, e2⟩ := tbls b _ e1
    exact ⟨m1 ++ m2, by rw [e2, Array.append_assoc]⟩
  · obtain ⟨m, hn, hl⟩ := I.loc
    refine ⟨m, ns m hn, fun i x v e1 e2 e3 => ?_⟩
    obtain ⟨u, r, l⟩ := hl i x v e1 e2 e3
    refine ⟨u, r, ?_⟩
    rcases l with l | ⟨k, c, e, z⟩
    · exact .inl l
    · exact .inr ⟨k, c, e, cellK x c e _ z⟩
  · obtain ⟨v, z⟩ := I.cell x c e
    exact ⟨v, cellK x c e v z⟩
  · obtain ⟨m, ⟨o, _, _, ho, _⟩, _⟩ := I.loc
    exact free _ o (fun z => (hch _ z).2.1 rfl) ho I.free
  · obtain ⟨v, o, ho, hd⟩ := I.cell x c e
    exact free c o (fun z => (hch c z).2.2.1 x c e rfl) ho (I.freeC x c e)
  · obtain ⟨e, n, ne, nf, d⟩ := I.pin p hp
    have nch : p.1 ∉ ch := fun z => (hch p.1 z).2.2.2 p hp rfl
    exact ⟨keep p.1 p.2 ne nf nch e n, free p.1 p.2 nch e n, ne, nf, d⟩
theorem Inv.un {t' : Nat} (I : Inv X pins σ H s) (u : Un X.fs [] H H' s.heap h') (hok : HOk X.prog X.w H' h') : Inv X pins σ H' { s with heap := h', toks := t' } := by
  obtain ⟨m, ⟨o, es, ep, ho, r⟩, _⟩ := id I.loc
  obtain ⟨sl, hL⟩ := u.any ho I.free (by simp)
  exact I.step (g' := s.gens) (d' := s.drawn) (ch := []) (fun _ z => nomatch z) (fun b o _ hb _ e n => u.keep b o e n hb (by simp)) (fun b o _ hb _ e n => u.slot b o e n hb (by simp)) (fun b o _ e n => u.free b o e n (by simp)) (fun b o _ e => u.there b o e (by simp)) u.tups u.frzs u.tbls (fun m' hm => by
    obtain ⟨o', es', ep', ho', r'⟩ := hm
    rw [ho] at ho'; cases ho'
    exact ⟨_, es', ep', hL, r'⟩) hok I.bare
theorem Inv.call {g' : Array GenState} {t' : Nat} {d' : Drawn} {ch : List Addr} (I : Inv X pins σ H s) (u : Un (frs X.stack) ch H H' s.heap h') (hok : HOk X.prog X.w H' h') (hg : AllBare g')
    (hch : ∀ b ∈ ch, (b ∈ X.ex ∨ X.s₀.heap.objs.size ≤ b) ∧ b ≠ X.env.locals ∧ (∀ x c, X.env.cells.lookup x = some c → c ≠ b) ∧ ∀ p ∈ X.pn ++ pins, p.1 ≠ b) :
    Inv X pins σ H' { s with heap := h', gens := g', drawn := d', toks := t' } := by
  obtain ⟨m, ⟨o, es, ep, ho, r⟩, _⟩ := id I.loc
  obtain ⟨sl, hL⟩ := u.any ho I.free fun z => (hch _ z).2.1 rfl
  exact I.step (ch := ch) hch (fun b o hL hb hc e n => u.keep b o e n (fun z => (List.mem_cons.mp (I.stkSub b z)).elim hL hb) hc) (fun b o _ _ hc e n => u.any e n hc) (fun b o hc e n => u.free b o e n hc) (fun b o hc e => u.there b o e hc) u.tups u.frzs u.tbls (fun m' hm => by
    obtain ⟨o', es', ep', ho', r'⟩ := hm
    rw [ho] at ho'; cases ho'
    exact ⟨_, es', ep', hL, r'⟩) hok hg
theorem Inv.turned {t' : Nat} {it : Addr} (I : Inv X pins σ H s) (k : ∀ b o, b ≠ it → s.heap.get? b = some o → h'.get? b = some o) (hn : H it = none) (hL : it ≠ X.env.locals)
    (h1 : it ∈ X.ex ∨ X.s₀.heap.objs.size ≤ it) (h2 : ∀ x c, X.env.cells.lookup x = some c → c ≠ it) (h3 : ∀ p ∈ X.pn ++ pins, p.1 ≠ it) : Inv X pins σ H { s with heap := h', toks := t' } := by
  have nit : ∀ b u, H b = some u → b ≠ it := fun b u e z => by rw [z, hn] at e; cases e
  refine I.step (g' := s.gens) (d' := s.drawn) (ch := [it]) (fun b hb => ?_) (fun b o _ _ hc e _ => k b o (fun z => hc (by simp [z])) e) (fun b o _ _ hc e _ => ⟨o.slots, k b o (fun z => hc (by simp [z])) e⟩) (fun _ _ _ _ n => n)
    (fun b o hc e => ⟨o, k b o (fun z => hc (by simp [z])) e⟩) (fun _ _ e => e) (fun _ _ _ e => e) (fun b ps e => ⟨#[], by rw [e]; simp⟩) (fun m hm => ?_) (fun b u e => ?_) I.bare
  · have e : b = it := by simpa using hb
    subst e
    exact ⟨h1, hL, h2, h3⟩
  · obtain ⟨o, es, ep, ho, r⟩ := hm
    exact ⟨o, es, ep, k _ o (Ne.symm hL) ho, r⟩
  · refine (I.hok b u e).stay (fun c v hc q => k c v ?_ q) (fun _ q => q) fun _ _ q => q
    rcases hc with z | z
    · rw [z]; exact nit b u e
    · exact nit c _ z
theorem Inv.tok (I : Inv X pins σ H s) (t : Nat) : Inv X pins σ H { s with toks := t } := I.un (h' := s.heap) (t' := t) Un.refl I.hok
theorem Inv.kept {t' : Nat} (I : Inv X pins σ H s) (k : ∀ b u, s.heap.get? b = some u → h'.get? b = some u) : Inv X pins σ H { s with heap := h', toks := t' } := I.un (Un.kept k) (I.hok.kept k)
theorem Inv.laid {a : Addr} {o : HO} {t' : Nat} (I : Inv X pins σ H s) (k : ∀ b u, s.heap.get? b = some u → h'.get? b = some u) (hp : s.heap.objs.size ≤ a) (new : ObjOk X.prog X.w (upd H a o) h' a o) :
    Inv X pins σ (upd H a o) { s with heap := h', toks := t' } := I.un (Un.laid k hp (I.hok.fresh hp)) (I.hok.laid k hp new)
theorem Inv.write {x e : Addr} {o : HO} {t' : Nat} (I : Inv X pins σ H s) (mu : Mut (H x)) (he : e = x ∨ H e = some (.own x)) (k : ∀ b u, b ≠ e → s.heap.get? b = some u → h'.get? b = some u) (heo : ∃ u, h'.get? e = some u)
    (new : ObjOk X.prog X.w (upd H x o) h' x o) : Inv X pins σ (upd H x o) { s with heap := h', toks := t' } := I.un (Un.write mu he k heo) (I.hok.write mu he k heo new)
theorem Inv.pins_of {pins' : List (Addr × Obj)} (I : Inv X pins σ H s) (h : ∀ p ∈ pins', s.heap.get? p.1 = some p.2 ∧ H p.1 = none ∧ p.1 ≠ X.env.locals ∧ p.1 ∉ X.fs ∧ ∀ v, p.2.data ≠ .cell v) : Inv X pins' σ H s :=
  ⟨I.ok, I.os, I.bare, I.base, I.loc, I.cell, I.free, I.freeC, fun p hp => (List.mem_append.mp hp).elim (fun z => I.pin p (List.mem_append_left _ z)) (h p), I.hok, I.len⟩
theorem nodup_ix {N : List Str} (hN : N.Nodup) {i j : Nat} {x : Str} (a : N[i]? = some x) (b : N[j]? = some x) : i = j := by
  obtain ⟨h1, e1⟩ := List.getElem?_eq_some_iff.mp a
  obtain ⟨h2, e2⟩ := List.getElem?_eq_some_iff.mp b
  exact (List.getElem_inj hN).mp (e1.trans e2.symm)
theorem store_ok2 {M : Model} {A : Around} {E : Value → Shared → Prop} {i : Nat} {x : Str} {v : V} {u : Value} {Q : Unit → Shared → Prop} (I : Inv X pins σ H s) (hN : X.N.Nodup) (hi : X.N[i]? = some x) (hx : Loc X.env.scope x) (r : RelV v u)
    (h : ∀ s', Inv X pins (σ.set i (some v)) H s' → (∃ a, Heap.SameBut a s.heap s'.heap ∧ (a = X.env.locals ∨ X.env.cells.lookup x = some a)) → Q () s') (hf : X.fn x = true ∨ X.env.scope.names.lookup x = some .local := by first | exact .inl rfl | exact .inr rfl | assumption) : wpAny M A (storeName X.env x u) Q E s := by
  obtain ⟨m, hn, hl⟩ := id I.loc
  have hcls : (X.env.scope.kind == .class || (X.env.scope.kind == .module && X.env.locals != X.env.globals)) = false := by rw [I.ok.kind]; rfl
  have hiσ : i < σ.length := by rw [I.len]; exact (List.getElem?_eq_some_iff.mp hi).1
  have cne := I.cne
  have tracked : ∀ {a : Addr} {h' : Heap}, (∃ o, s.heap.get? a = some o ∧ H a = none) → Heap.SameBut a s.heap h' → HOk X.prog X.w H h' := fun {a h'} ha hs b ob e => by
    obtain ⟨_, _, hfree⟩ := ha
    refine (I.hok b ob e).stay (fun c w' hc q => (hs.2 c ?_).trans q) (fun _ q => q) fun _ _ q => q
    rintro rfl
    rcases hc with rfl | hc
    · rw [hfree] at e; cases e
    · rw [hfree] at hc; cases hc
  rcases hx with hk | hk
  · refine wpAny_storeName_local hk hn (fun h' hn' hs => ?_) hcls
    obtain ⟨oL, _, _, hoL, _⟩ := id hn
    refine h _ ⟨I.ok, I.os, I.bare, ⟨fun b o e n hb hx => ?_, fun b o e n hb hx => ?_, I.base.free, fun b o e hx => ?_, I.base.tups, I.base.frzs, I.base.tbls⟩, ⟨_, hn', fun j y v' e1 e2 e3 => ?_⟩, fun y c e => ?_, I.free, I.freeC, fun p hp => ?_, tracked ⟨oL, hoL, I.free⟩ hs, by simpa using I.len⟩ ⟨_, hs, .inl rfl⟩
    · exact (hs.2 b (Nat.ne_of_lt (Nat.lt_of_lt_of_le (Heap.lt_size e) I.ok.above))).trans (I.base.keep b o e n hb hx)
    · obtain ⟨sl, e1⟩ := I.base.slot b o e n hb hx
      exact ⟨sl, (hs.2 b (Nat.ne_of_lt (Nat.lt_of_lt_of_le (Heap.lt_size e) I.ok.above))).trans e1⟩
    · obtain ⟨o', e1⟩ := I.base.there b o e hx
      exact ⟨o', (hs.2 b (Nat.ne_of_lt (Nat.lt_of_lt_of_le (Heap.lt_size e) I.ok.above))).trans e1⟩
    · by_cases hj : j = i
      · subst hj
        rw [hi] at e1; cases e1
        rw [List.getElem?_set_self hiσ] at e2
        cases e2
        exact ⟨u, r, .inl ⟨hk, by simp⟩⟩
      · rw [List.getElem?_set_ne (Ne.symm hj)] at e2
        obtain ⟨u', r', q⟩ := hl j y v' e1 e2 e3
        refine ⟨u', r', ?_⟩
        rcases q with ⟨k, e⟩ | ⟨k, c, e, z⟩
        · refine .inl ⟨k, ?_⟩
          have : y ≠ x := fun e => hj (nodup_ix hN e1 (e ▸ hi))
          simp [this, e]
        · exact .inr ⟨k, c, e, z.sameBut hs (cne y c e)⟩
    · obtain ⟨w', z⟩ := I.cell y c e
      exact ⟨w', z.sameBut hs (cne y c e)⟩
    · obtain ⟨e, n, ne, nf, d⟩ := I.pin p hp
      exact ⟨(hs.2 p.1 ne).trans e, n, ne, nf, d⟩
  · have hfn : X.fn x = true := by
      rcases hf with z | z
      · exact z
      · rw [z] at hk; cases hk
    obtain ⟨c, hc⟩ := I.ok.has x (.inl hk)
    obtain ⟨w', z⟩ := I.cell x c hc
    refine wpAny_storeName_cell I.ok.kind hk hc z (fun h' hc' hs => ?_)
    obtain ⟨oc, hoc, hocd⟩ := id z
    refine h { s with heap := h' } ⟨I.ok, I.os, I.bare, ⟨fun b o e n hb hx => ?_, fun b o e n hb hx => ?_, I.base.free, fun b o e hx => ?_, I.base.tups, I.base.frzs, I.base.tbls⟩, ⟨m, hn.sameBut hs (Ne.symm (cne x c hc)), fun j y v' e1 e2 e3 => ?_⟩, fun y c' e => ?_, I.free, I.freeC, fun p hp => ?_, tracked ⟨oc, hoc, I.freeC x c hc⟩ hs, by simpa using I.len⟩ ⟨c, hs, .inr hc⟩
    · exact (hs.2 b (Nat.ne_of_lt (Nat.lt_of_lt_of_le (Heap.lt_size e) (I.ok.cab x c hfn hc)))).trans (I.base.keep b o e n hb hx)
    · obtain ⟨sl, e1⟩ := I.base.slot b o e n hb hx
      exact ⟨sl, (hs.2 b (Nat.ne_of_lt (Nat.lt_of_lt_of_le (Heap.lt_size e) (I.ok.cab x c hfn hc)))).trans e1⟩
    · obtain ⟨o', e1⟩ := I.base.there b o e hx
      exact ⟨o', (hs.2 b (Nat.ne_of_lt (Nat.lt_of_lt_of_le (Heap.lt_size e) (I.ok.cab x c hfn hc)))).trans e1⟩
    · by_cases hj : j = i
      · subst hj
        rw [hi] at e1; cases e1
        rw [List.getElem?_set_self hiσ] at e2
        cases e2
        exact ⟨u, r, .inr ⟨.inl hk, c, hc, hc'⟩⟩
      · rw [List.getElem?_set_ne (Ne.symm hj)] at e2
        obtain ⟨u', r', q⟩ := hl j y v' e1 e2 e3
        refine ⟨u', r', ?_⟩
        rcases q with q | ⟨k, c', e, z'⟩
        · exact .inl q
        · refine .inr ⟨k, c', e, z'.sameBut hs ?_⟩
          rintro rfl
          exact hj (nodup_ix hN e1 (I.ok.inj _ _ _ e hc ▸ hi))
    · by_cases hcc : c' = c
      · subst hcc; exact ⟨_, hc'⟩
      · obtain ⟨w2, z2⟩ := I.cell y c' e
        exact ⟨w2, z2.sameBut hs hcc⟩
    · obtain ⟨e, n, ne, nf, d⟩ := I.pin p hp
      refine ⟨(hs.2 p.1 ?_).trans e, n, ne, nf, d⟩
      intro q
      rw [q, hoc] at e
      have q' : oc = p.2 := Option.some.inj e
      exact d w' (by rw [← q']; exact hocd)
theorem store_ok {M : Model} {A : Around} {E : Value → Shared → Prop} {i : Nat} {x : Str} {v : V} {u : Value} {Q : Unit → Shared → Prop} (I : Inv X pins σ H s) (hN : X.N.Nodup) (hi : X.N[i]? = some x) (hx : Loc X.env.scope x) (r : RelV v u)
    (h : ∀ s', Inv X pins (σ.set i (some v)) H s' → Q () s') (hf : X.fn x = true ∨ X.env.scope.names.lookup x = some .local := by first | exact .inl rfl | exact .inr rfl | assumption) : wpAny M A (storeName X.env x u) Q E s :=
  store_ok2 I hN hi hx r (fun s' I' _ => h s' I') hf
theorem Inv.call' {s' : Shared} {ch : List Addr} (I : Inv X pins σ H s) (ho : s'.os = s.os) (u : Un (frs X.stack) ch H H' s.heap s'.heap) (hok : HOk X.prog X.w H' s'.heap) (hg : AllBare s'.gens)
    (hch : ∀ b ∈ ch, (b ∈ X.ex ∨ X.s₀.heap.objs.size ≤ b) ∧ b ≠ X.env.locals ∧ (∀ x c, X.env.cells.lookup x = some c → c ≠ b) ∧ ∀ p ∈ X.pn ++ pins, p.1 ≠ b) : Inv X pins σ H' s' := by
  obtain ⟨h', g', d', t', o'⟩ := s'
  have e : o' = s.os := ho
  subst e
  exact I.call (g' := g') (t' := t') (d' := d') u hok hg hch
end
abbrev XK := Value → Option Addr → Hp → Prop
abbrev St := List (Option V)
abbrev VK := V → Hp → Prop
abbrev TE := St → Hp → VK → Prop
abbrev TT := St → Hp → (Bool → Hp → Prop) → Prop
abbrev TA := St → Hp → (List V → Hp → Prop) → Prop
structure Ends where
  nx : St → Hp → Prop
  rt : VK
  bk : St → Hp → Prop := fun _ _ => False
  ct : St → Hp → Prop := fun _ _ => False
abbrev TS := Ends → St → Hp → Prop
def EP (X : Cx) (pins : List (Addr × Obj)) (σ : St) (Q : VK) (u : Value) (s' : Shared) : Prop := ∃ v H', Inv X pins σ H' s' ∧ RelV v u ∧ Q v H'
def TP (X : Cx) (pins : List (Addr × Obj)) (σ : St) (Q : Bool → Hp → Prop) (b : Bool) (s' : Shared) : Prop := ∃ H', Inv X pins σ H' s' ∧ Q b H'
def AP (X : Cx) (pins : List (Addr × Obj)) (σ : St) (Q : List V → Hp → Prop) (us : List Value) (s' : Shared) : Prop := ∃ vs H', Inv X pins σ H' s' ∧ Vals vs us ∧ Q vs H'
def SP (X : Cx) (pins : List (Addr × Obj)) (D : Ends) (f : Flow) (s' : Shared) : Prop :=
  match f with
  | .next => ∃ σ' H', Inv X pins σ' H' s' ∧ D.nx σ' H'
  | .brk => ∃ σ' H', Inv X pins σ' H' s' ∧ D.bk σ' H'
  | .cont => ∃ σ' H', Inv X pins σ' H' s' ∧ D.ct σ' H'
  | .ret u => ∃ v σ' H', Inv X pins σ' H' s' ∧ RelV v u ∧ D.rt v H'
def PE (X : Cx) (e : Expr) (t : TE) : Prop :=
  ∀ (pins : List (Addr × Obj)) (s : Shared) (σ : St) (H : Hp) (Q : VK), Inv X pins σ H s → t σ H Q → wpAny (model X.prog X.w) X.A (eval e X.env) (EP X pins σ Q) X.xe s
def PT (X : Cx) (e : Expr) (t : TT) : Prop :=
  ∀ (pins : List (Addr × Obj)) (s : Shared) (σ : St) (H : Hp) (Q : Bool → Hp → Prop), Inv X pins σ H s → t σ H Q → wpAny (model X.prog X.w) X.A (isTrue e X.env (eval e X.env)) (TP X pins σ Q) X.xe s
def PW (X : Cx) (e : Expr) (t : TT) : Prop :=
  ∀ (whole : Sem Value) (pins : List (Addr × Obj)) (s : Shared) (σ : St) (H : Hp) (Q : Bool → Hp → Prop), Inv X pins σ H s → t σ H Q → wpAny (model X.prog X.w) X.A (isTrue e X.env whole) (TP X pins σ Q) X.xe s
theorem PW.pt {X : Cx} {e : Expr} {t : TT} (h : PW X e t) : PT X e t := h _
def PA (X : Cx) (es : List Expr) (t : TA) : Prop :=
  ∀ (pos : Pos) (pins : List (Addr × Obj)) (s : Shared) (σ : St) (H : Hp) (Q : List V → Hp → Prop), Inv X pins σ H s → t σ H Q → wpAny (model X.prog X.w) X.A (spliced (backTo pos (starEach es X.env))) (AP X pins σ Q) X.xe s
def PS (X : Cx) (st : Stmt) (t : TS) : Prop :=
  ∀ (pins : List (Addr × Obj)) (s : Shared) (σ : St) (H : Hp) (D : Ends), Inv X pins σ H s → t D σ H → wpAny (model X.prog X.w) X.A (exec st X.env) (SP X pins D) X.xe s
def PSs (X : Cx) (st : List Stmt) (t : TS) : Prop :=
  ∀ (pins : List (Addr × Obj)) (s : Shared) (σ : St) (H : Hp) (D : Ends), Inv X pins σ H s → t D σ H → wpAny (model X.prog X.w) X.A (execs st X.env) (SP X pins D) X.xe s
theorem thn {α : Type} {t : Sem α} {Q Q' : α → Shared → Prop} {M : Model} {A : Around} {E : Value → Shared → Prop} {s : Shared} (h : wpAny M A t Q E s) (hQ : ∀ a s, Q a s → Q' a s) : wpAny M A t Q' E s := wpAny_mono h hQ fun _ _ x => x
end L2
namespace L2
open PySem PySem.Spec PyProof.Rows
section
variable {X : Cx}
def tVar (i : Nat) : TE := fun σ H Q => ∃ v, σ[i]? = some (some v) ∧ Q v H
def tC (v : V) : TE := fun _ H Q => Q v H
theorem pe_var {i : Nat} {x : Str} {pos : Pos} (hN : X.N[i]? = some x) (hv : Vis X.env.scope x) (hd : (x == ("__debug__" : Str)) = false := by decide) (hcd : (x == ("__classdict__" : Str)) = false := by decide) : PE X (.Name x pos) (tVar i) := by
  intro pins s σ H Q I h
  obtain ⟨v, e, h⟩ := h
  obtain ⟨m, hn, hl⟩ := I.loc
  obtain ⟨u, r, l⟩ := hl i x v hN e hv
  have fin : EP X pins σ Q u s := ⟨v, H, I, r, h⟩
  rcases l with ⟨hk, hm⟩ | ⟨hk, c, hc, hcell⟩
  · exact wpAny_Name (wpAny_loadName_local I.ok.kind hk hn hm fin) hd
  · rcases hk with hk | hk
    · exact wpAny_Name (wpAny_loadName_cell I.ok.kind hk hc hcell fin) hd
    · exact wpAny_Name (wpAny_loadName_free I.ok.kind hk hc hcell fin hcd) hd
theorem pe_int {i j pos} : PE X (.Constant (.int i) j pos) (tC (.int i)) := fun _ _ _ H _ I h => wpAny_Constant_int ⟨.int i, H, I.tok _, ⟨_, rfl⟩, h⟩
theorem pe_bl {b j pos} : PE X (.Constant (.bool b) j pos) (tC (.bl b)) := fun _ _ _ H _ I h => Constant_bool ⟨.bl b, H, I, rfl, h⟩
theorem pe_non {j pos} : PE X (.Constant .none j pos) (tC .non) := fun _ _ _ H _ I h => Constant_none ⟨.non, H, I, rfl, h⟩
theorem pe_str {x j pos} : PE X (.Constant (.str x) j pos) (tC (.str x)) := fun _ _ _ H _ I h => Calls.Constant_str ⟨.str x, H, I.tok _, ⟨_, rfl⟩, h⟩
def Gl (X : Cx) (x : Str) : Prop := X.env.kindOf x = some .globalImplicit
theorem ld_glob {E : Value → Shared → Prop} {pins : List (Addr × Obj)} {s : Shared} {σ : St} {H : Hp} {x : Str} {u : Value} {pos : Pos} {Q : Value → Shared → Prop} (I : Inv X pins σ H s) (hg : Gl X x) (hm : X.mg x = some u) (h : Q u s)
    (hd : (x == ("__debug__" : Str)) = false := by decide) : wpAny (model X.prog X.w) X.A (eval (.Name x pos) X.env) Q E s :=
  Calls.Name_function_global I.ok.kind hg (Calls.loadGlobal_global (by rw [I.ok.glob]; exact I.mod.glob.keeps I.bk) hm h) hd
theorem ld_blt {E : Value → Shared → Prop} {pins : List (Addr × Obj)} {s : Shared} {σ : St} {H : Hp} {x : Str} {u : Value} {pos : Pos} {Q : Value → Shared → Prop} (I : Inv X pins σ H s) (hg : Gl X x) (hm : X.mg x = none) (hv : bootBuiltins x = some u) (h : Q u s)
    (hn : x ≠ "__name__" := by decide) (hd : (x == ("__debug__" : Str)) = false := by decide) : wpAny (model X.prog X.w) X.A (eval (.Name x pos) X.env) Q E s := by
  obtain ⟨mb, h1, h2⟩ := I.mod.blt
  exact Calls.Name_function_global I.ok.kind hg (Calls.loadGlobal_builtin (by rw [I.ok.glob]; exact I.mod.glob.keeps I.bk) hm (by rw [I.ok.blt]; exact h1.keeps I.bk) ((h2 x hn).trans hv) h) hd
theorem pe_glob {x : Str} {v : V} {u : Value} {pos : Pos} (hg : Gl X x) (hm : X.mg x = some u) (r : RelV v u) (hd : (x == ("__debug__" : Str)) = false := by decide) : PE X (.Name x pos) (tC v) :=
  fun _ _ _ H _ I h => ld_glob I hg hm ⟨v, H, I, r, h⟩ hd
theorem pe_bltn {x : Str} {v : V} {u : Value} {pos : Pos} (hg : Gl X x) (hm : X.mg x = none) (hv : bootBuiltins x = some u) (r : RelV v u) (hn : x ≠ "__name__" := by decide) (hd : (x == ("__debug__" : Str)) = false := by decide) : PE X (.Name x pos) (tC v) :=
  fun _ _ _ H _ I h => ld_blt I hg hm hv ⟨v, H, I, r, h⟩ hn hd
variable {a b : Expr} {ta tb : TE} {pos : Pos}
def PC (X : Cx) (op : CmpOp) (a b : Expr) (t : TE) : Prop :=
  ∀ (pins : List (Addr × Obj)) (s : Shared) (σ : St) (H : Hp) (Q : VK), Inv X pins σ H s → t σ H Q →
    wpAny (model X.prog X.w) X.A (eval a X.env) (fun v s₁ => wpAny (model X.prog X.w) X.A (eval b X.env) (fun u s₂ => wpAny (model X.prog X.w) X.A (compareOp op v u) (EP X pins σ Q) X.xe s₂) X.xe s₁) X.xe s
theorem nobehind (b : Expr) {op : CmpOp} (h : op ≠ .In) (h2 : op ≠ .NotIn) : behindInMarks op b = false := by
  have e1 : (op == CmpOp.In) = false := by cases op <;> first | rfl | exact absurd rfl h
  have e2 : (op == CmpOp.NotIn) = false := by cases op <;> first | rfl | exact absurd rfl h2
  cases b <;> simp [behindInMarks, e1, e2]
def tB (t : TE) : TT := fun σ H Q => t σ H fun x H1 => ∃ c, x = .bl c ∧ Q c H1
theorem pt_cmp {op : CmpOp} {t : TE} (h : PC X op a b t) (h1 : behindInMarks op b = false := by first | exact nobehind _ (by decide) (by decide) | rfl) : PT X (.Compare a [op] [b] pos) (tB t) := by
  intro pins s σ H Q I hw
  refine wpAny_isTrue_Compare1 (thn (h pins s σ H _ I hw) fun v s1 h1 => thn h1 fun u s2 h2 => thn h2 fun c s3 ⟨x, H1, I1, r1, q1⟩ => ?_) h1
  obtain ⟨d, rfl, q⟩ := q1
  cases r1
  exact wpAny_truthy_bool ⟨H1, I1, q⟩
theorem pt_val {e : Expr} {t : TE} (h : PE X e t) (he : ∀ whole, isTrue e X.env whole = (do let v ← whole; standAt e.pos; holding [v] (truthy v)) := by intro _; rfl) : PT X e (tB t) := by
  intro pins s σ H Q I hw
  refine isTrue_plain (thn (h pins s σ H _ I hw) fun v s1 ⟨x, H1, I1, r1, q1⟩ => ?_) (he _)
  obtain ⟨d, rfl, q⟩ := q1
  cases r1
  exact wpAny_truthy_bool ⟨H1, I1, q⟩
variable {tA tB' : TT} {rest : List Expr}
def tAnd (t u : TT) : TT := fun σ H Q => t σ H fun c H1 => if c = true then u σ H1 Q else Q false H1
def tOr (t u : TT) : TT := fun σ H Q => t σ H fun c H1 => if c = true then Q true H1 else u σ H1 Q
def tNot (t : TT) : TT := fun σ H Q => t σ H fun c H1 => Q (!c) H1
theorem pw_and1 (ha : PT X a tA) : PW X (.BoolOp .And [a] pos) tA := by
  intro wh pins s σ H Q I h
  refine isTrue_and (thn (ha pins s σ H Q I h) fun c s1 e => ?_)
  cases c with
  | true => exact isTrue_and_nil e
  | false => exact e
theorem pw_or1 (ha : PT X a tA) : PW X (.BoolOp .Or [a] pos) tA := by
  intro wh pins s σ H Q I h
  refine isTrue_or (thn (ha pins s σ H Q I h) fun c s1 e => ?_)
  cases c with
  | false => exact isTrue_or_nil e
  | true => exact e
theorem pw_and (ha : PT X a tA) (hb : PW X (.BoolOp .And (b :: rest) pos) tB') : PW X (.BoolOp .And (a :: b :: rest) pos) (tAnd tA tB') := by
  intro wh pins s σ H Q I h
  refine isTrue_and (thn (ha pins s σ H _ I h) fun c s1 ⟨H1, I1, q1⟩ => ?_)
  cases c with
  | true => exact hb wh pins s1 σ H1 Q I1 q1
  | false => exact ⟨H1, I1, q1⟩
theorem pw_or (ha : PT X a tA) (hb : PW X (.BoolOp .Or (b :: rest) pos) tB') : PW X (.BoolOp .Or (a :: b :: rest) pos) (tOr tA tB') := by
  intro wh pins s σ H Q I h
  refine isTrue_or (thn (ha pins s σ H _ I h) fun c s1 ⟨H1, I1, q1⟩ => ?_)
  cases c with
  | true => exact ⟨H1, I1, q1⟩
  | false => exact hb wh pins s1 σ H1 Q I1 q1
theorem pt_not (ha : PT X a tA) : PT X (.UnaryOp .Not a pos) (tNot tA) := by
  intro pins s σ H Q I h
  exact isTrue_not (ha pins s σ H (fun c H1 => Q (!c) H1) I h)
def tAndV (ta tb : TE) : TE := fun σ H Q => ta σ H fun x H1 => ∃ c, x = .bl c ∧ if c = true then tb σ H1 Q else Q (.bl false) H1
def tNotV (ta : TE) : TE := fun σ H Q => ta σ H fun x H1 => ∃ c, x = .bl c ∧ Q (.bl (!c)) H1
theorem pe_one {op} {t : TE} (h : PE X a t) : PE X (.BoolOp op [a] pos) t := fun pins s σ H Q I hw => BoolOp_one (h pins s σ H Q I hw)
theorem pe_and (ha : PE X a ta) (hb : PE X (.BoolOp .And (b :: rest) pos) tb) : PE X (.BoolOp .And (a :: b :: rest) pos) (tAndV ta tb) := by
  intro pins s σ H Q I h
  refine BoolOp_and (thn (ha pins s σ H _ I h) fun v s1 ⟨x, H1, I1, r1, q1⟩ => ?_)
  obtain ⟨c, rfl, q1⟩ := q1
  cases r1
  refine wpAny_truthy_bool ?_
  cases c with
  | true => exact hb pins s1 σ H1 Q I1 q1
  | false => exact ⟨.bl false, H1, I1, rfl, q1⟩
theorem pe_not (ha : PE X a ta) : PE X (.UnaryOp .Not a pos) (tNotV ta) := by
  intro pins s σ H Q I h
  refine UnaryOp_ (thn (ha pins s σ H _ I h) fun v s1 ⟨x, H1, I1, r1, q1⟩ => ?_)
  obtain ⟨c, rfl, q1⟩ := q1
  cases r1
  exact not_of (wpAny_truthy_bool ⟨.bl (!c), H1, I1, rfl, q1⟩)
end
end L2
namespace L2
open PySem PySem.Spec PyProof.Rows
def SqL (K : PySem.W.Frag) (H : Hp) (a : Addr) (xs : List V) : Prop :=
  Rd H a (.lst xs) ∨
    ∃ (o : Obj) (its : Array Value) (n : Nat), K.lookup a = some o ∧ o.cls = .type "list" ∧ o.dict = none ∧ o.data = .seq its n ∧ its.size ≤ sizeLine ∧ Vals xs its.toList
def SqT (K : PySem.W.Frag) (H : Hp) (a : Addr) (xs : List V) : Prop :=
  Rd H a (.tup xs) ∨
    ∃ (o : Obj) (its : Array Value) (n : Nat), K.lookup a = some o ∧ o.cls = .type "tuple" ∧ o.data = .seq its n ∧ its.size ≤ sizeLine ∧ Vals xs its.toList
def absV : Value → Option V
  | .none => some .non
  | .bool b => some (.bl b)
  | .int i _ => some (.int i)
  | .str x _ => some (.str x)
  | .bytes b _ => some (.byt b)
  | .float b _ => some (.flt b)
  | .ref a => some (.ref a)
  | .type n => some (.ty n)
  | _ => none
theorem RelV.abs {x : V} {u : Value} (r : RelV x u) : absV u = some x := by
  cases x with
  | non => cases r; rfl
  | bl _ => cases r; rfl
  | int _ => obtain ⟨t, rfl⟩ := r; rfl
  | str _ => obtain ⟨t, rfl⟩ := r; rfl
  | byt _ => obtain ⟨t, rfl⟩ := r; rfl
  | flt _ => obtain ⟨t, rfl⟩ := r; rfl
  | ref _ => cases r; rfl
  | ty _ => cases r; rfl
theorem RelV.inj {x y : V} {u : Value} (r : RelV x u) (q : RelV y u) : x = y := Option.some.inj (r.abs.symm.trans q.abs)
theorem Vals.inj : ∀ {xs ys : List V} {us : List Value}, Vals xs us → Vals ys us → xs = ys
  | _, _, _, .nil, .nil => rfl
  | _, _, _, .cons r t, .cons r' t' => by rw [r.inj r', Vals.inj t t']
section
variable {X : Cx} {pins : List (Addr × Obj)} {σ : St} {H : Hp} {s : Shared} {a : Addr} {xs ys : List V}
theorem SqL.of {K : PySem.W.Frag} (h : H a = some (.lst xs)) : SqL K H a xs := .inl (.inl h)
theorem SqT.of {K : PySem.W.Frag} (h : H a = some (.tup xs)) : SqT K H a xs := .inl (.inl h)
theorem Inv.list (I : Inv X pins σ H s) (h : SqL X.K H a xs) : ∃ its : List Value, Vals xs its ∧ PlainL s.heap a its.toArray ∧ xs.length ≤ sizeLine := by
  rcases h with h | ⟨o, its, n, hk, hc, hd, hs, hz, r⟩
  · obtain ⟨z, its, n, r, e⟩ := h.ok I.hok
    exact ⟨its, r, ⟨_, n, e, rfl, rfl, rfl⟩, z⟩
  · refine ⟨its.toList, r, ⟨o, n, I.kIn a o hk, hc, hd, by simpa using hs⟩, ?_⟩
    have e := r.length
    simp only [Array.length_toList] at e
    omega
theorem Inv.tuple (I : Inv X pins σ H s) (h : SqT X.K H a xs) : ∃ its : List Value, Vals xs its ∧ IsTup s.heap a its.toArray ∧ xs.length ≤ sizeLine := by
  rcases h with h | ⟨o, its, n, hk, hc, hs, hz, r⟩
  · obtain ⟨z, its, r, p⟩ := h.ok I.hok
    exact ⟨its, r, p, z⟩
  · refine ⟨its.toList, r, ⟨o, I.kIn a o hk, hc, n, by simpa using hs⟩, ?_⟩
    have e := r.length
    simp only [Array.length_toList] at e
    omega
theorem Inv.list_inj (I : Inv X pins σ H s) (h : SqL X.K H a xs) (h' : SqL X.K H a ys) : xs = ys := by
  obtain ⟨its, r, ⟨o, n, e, _, _, d⟩, _⟩ := I.list h
  obtain ⟨its', r', ⟨o', n', e', _, _, d'⟩, _⟩ := I.list h'
  rw [e] at e'; cases e'
  rw [d] at d'
  injection d' with d1 _
  have : its = its' := by simpa using congrArg Array.toList d1
  subst this
  exact r.inj r'
end
abbrev Cx.wish (X : Cx) (E : Value → Shared → Prop) : Cx := { X with xe := E }
abbrev Cx.nox (X : Cx) : Cx := X.wish fun _ _ => False
theorem Cx.Ok.wish {X : Cx} (ok : X.Ok) (E : Value → Shared → Prop) : (X.wish E).Ok :=
  ⟨ok.mod, ok.kind, ok.glob, ok.blt, ok.above, ok.inj, ok.has, ok.cab, ok.hd, ok.frames, ok.stk, ok.exf, ok.bs, ok.bsz, ok.noex, ok.exfs, ok.funs, ok.frf⟩
theorem Cx.Ok.unwish {X : Cx} {E : Value → Shared → Prop} (ok : (X.wish E).Ok) : X.Ok :=
  ⟨ok.mod, ok.kind, ok.glob, ok.blt, ok.above, ok.inj, ok.has, ok.cab, ok.hd, ok.frames, ok.stk, ok.exf, ok.bs, ok.bsz, ok.noex, ok.exfs, ok.funs, ok.frf⟩
section
variable {X : Cx} {pins : List (Addr × Obj)} {σ : St} {H : Hp} {s : Shared} {E : Value → Shared → Prop}
theorem Inv.wish (I : Inv X pins σ H s) (E : Value → Shared → Prop) : Inv (X.wish E) pins σ H s := ⟨I.ok.wish E, I.os, I.bare, I.base, I.loc, I.cell, I.free, I.freeC, I.pin, I.hok, I.len⟩
theorem Inv.unwish (I : Inv (X.wish E) pins σ H s) : Inv X pins σ H s := ⟨I.ok.unwish, I.os, I.bare, I.base, I.loc, I.cell, I.free, I.freeC, I.pin, I.hok, I.len⟩
theorem SP.unwish {D : Ends} {f : Flow} {s' : Shared} (h : SP (X.wish E) pins D f s') : SP X pins D f s' := by
  cases f with
  | next => obtain ⟨σ', H', I, q⟩ := h; exact ⟨σ', H', I.unwish, q⟩
  | brk => obtain ⟨σ', H', I, q⟩ := h; exact ⟨σ', H', I.unwish, q⟩
  | cont => obtain ⟨σ', H', I, q⟩ := h; exact ⟨σ', H', I.unwish, q⟩
  | ret u => obtain ⟨v, σ', H', I, r, q⟩ := h; exact ⟨v, σ', H', I.unwish, r, q⟩
theorem PSs.nox {st : List Stmt} {t : TS} (h : PSs X.nox st t) : PSs X st t := fun pins s σ H D I hw =>
  wpAny_mono (h pins s σ H D (I.wish _) hw) (fun _ _ q => q.unwish) fun _ _ z => False.elim z
end
section
variable {X : Cx} {st : Stmt} {rest : List Stmt} {t u : TS} {e : Expr} {te : TE} {pos : Pos}
def tNext : TS := fun D σ H => D.nx σ H
def tSeq (t u : TS) : TS := fun D σ H => t { D with nx := u D } σ H
theorem pss_nil : PSs X [] tNext := fun _ _ σ H _ I h => wpAny_execs_nil ⟨σ, H, I, h⟩
theorem pss_cons (h1 : PS X st t) (h2 : PSs X rest u) : PSs X (st :: rest) (tSeq t u) := by
  intro pins s σ H D I h
  refine wpAny_execs_cons (thn (h1 pins s σ H { D with nx := u D } I h) fun f s1 q => ?_)
  cases f with
  | next =>
    obtain ⟨σ', H', I', q⟩ := q
    exact h2 pins s1 σ' H' D I' q
  | ret v => exact q
  | brk => exact q
  | cont => exact q
theorem pss_one (h1 : PS X st t) : PSs X [st] t := by
  intro pins s σ H D I h
  refine wpAny_execs_cons (thn (h1 pins s σ H D I h) fun f s1 q => ?_)
  cases f with
  | next => exact wpAny_execs_nil q
  | ret v => exact q
  | brk => exact q
  | cont => exact q
theorem Inv.quiet {pins : List (Addr × Obj)} {σ : St} {H : Hp} {s : Shared} (I : Inv X pins σ H s) : interactive X.env = false := by simp [interactive, I.ok.kind]
def tDrop (te : TE) : TS := fun D σ H => te σ H fun _ H1 => D.nx σ H1
theorem ps_expr (he : PE X e te) (hs : swapsWith e none pos.line X.env = pure false := by rfl) : PS X (.Expr e pos) (tDrop te) := by
  intro pins s σ H D I h
  exact wpAny_Expr_any (thn (he pins s σ H _ I h) fun v s1 ⟨x, H1, I1, r1, q1⟩ => ⟨σ, H1, I1, q1⟩) I.quiet hs
def tRet (te : TE) : TS := fun D σ H => te σ H D.rt
theorem ps_ret (he : PE X e te) : PS X (.Return (some e) pos) (tRet te) := by
  intro pins s σ H D I h
  exact wpAny_Return_some (thn (he pins s σ H _ I h) fun v s1 ⟨x, H1, I1, r1, q1⟩ => ⟨x, σ, H1, I1, r1, q1⟩)
def tIfS (c : TT) (t u : TS) : TS := fun D σ H => c σ H fun b H1 => if b = true then t D σ H1 else u D σ H1
theorem ps_if {c : Expr} {a b : List Stmt} {tc : TT} (hc : PT X c tc) (ha : PSs X a t) (hb : PSs X b u) : PS X (.If c a b pos) (tIfS tc t u) := by
  intro pins s σ H D I h
  refine wpAny_If (thn (hc pins s σ H _ I h) fun d s1 ⟨H1, I1, q1⟩ => ?_)
  cases d with
  | true => exact ha pins s1 σ H1 D I1 q1
  | false => exact hb pins s1 σ H1 D I1 q1
def tNever : TS := fun _ _ _ => False
theorem ps_never : PS X st tNever := fun _ _ _ _ _ _ h => h.elim
end
abbrev TG := V → St → Hp → (St → Hp → Prop) → Prop
abbrev TGs := List V → St → Hp → (St → Hp → Prop) → Prop
def PG (X : Cx) (target : Expr) (t : TG) : Prop :=
  ∀ (pins : List (Addr × Obj)) (s : Shared) (σ : St) (H : Hp) (v : V) (u : Value) (Q : St → Hp → Prop), Inv X pins σ H s → RelV v u → t v σ H Q →
    wpAny (model X.prog X.w) X.A (assign target X.env u) (fun _ s' => ∃ σ' H', Inv X pins σ' H' s' ∧ Q σ' H') X.xe s
def PGs (X : Cx) (ts : List Expr) (t : TGs) : Prop :=
  ∀ (pins : List (Addr × Obj)) (s : Shared) (σ : St) (H : Hp) (vs : List V) (us : List Value) (Q : St → Hp → Prop), Inv X pins σ H s → Vals vs us → t vs σ H Q →
    wpAny (model X.prog X.w) X.A (assignInOrder ((assignEach ts X.env).map (·.2)) us) (fun _ s' => ∃ σ' H', Inv X pins σ' H' s' ∧ Q σ' H') X.xe s
section
variable {X : Cx} {pos : Pos}
def gName (i : Nat) : TG := fun v σ H Q => Q (σ.set i (some v)) H
theorem pg_name {i : Nat} {x : Str} (hN : X.N.Nodup) (hi : X.N[i]? = some x) (hx : Loc X.env.scope x) (hf : X.fn x = true ∨ X.env.scope.names.lookup x = some .local := by first | exact .inl rfl | exact .inr rfl | assumption) : PG X (.Name x pos) (gName i) := by
  intro pins s σ H v u Q I r h
  exact wpAny_assign_Name (store_ok I hN hi hx r (fun s' I' => ⟨_, H, I', h⟩) hf)
def gNil : TGs := fun vs σ H Q => vs = [] ∧ Q σ H
def gCons (t : TG) (u : TGs) : TGs := fun vs σ H Q => ∃ v r, vs = v :: r ∧ t v σ H fun σ' H' => u r σ' H' Q
theorem pgs_nil : PGs X [] gNil := by
  intro pins s σ H vs us Q I r h
  obtain ⟨e, h⟩ := h
  subst e
  cases r
  exact assignInOrder_nil ⟨σ, H, I, h⟩
theorem pgs_cons {e : Expr} {es : List Expr} {t : TG} {u : TGs} (h1 : PG X e t) (h2 : PGs X es u)
    (hs : (assignEach (e :: es) X.env).map (·.2) = assign e X.env :: (assignEach es X.env).map (·.2) := by rfl) : PGs X (e :: es) (gCons t u) := by
  intro pins s σ H vs us Q I r h
  obtain ⟨v, vr, e1, h⟩ := h
  subst e1
  cases r with
  | cons r rr =>
    rw [hs]
    refine assignInOrder_cons (thn (h1 pins s σ H _ _ _ I r h) fun _ s1 ⟨σ1, H1, I1, q1⟩ => ?_)
    exact h2 pins s1 σ1 H1 _ _ Q I1 rr q1
def gTup (K : PySem.W.Frag) (n : Nat) (t : TGs) : TG := fun v σ H Q => ∃ a xs, v = .ref a ∧ SqT K H a xs ∧ xs.length = n ∧ t xs σ H Q
theorem pg_tup {es : List Expr} {k : Nat} {t : TGs} {n : Nat} (hc : X.calm = true) (h : PGs X es t)
    (hn : (assignEach es X.env).length = n := by rfl) (hst : (assignEach es X.env).findIdx? (·.1) = none := by rfl) : PG X (.Tuple es k pos) (gTup X.K n t) := by
  intro pins s σ H v u Q I r hw
  obtain ⟨a, xs, e1, hq, hl, hw⟩ := hw
  subst e1
  cases r
  obtain ⟨its, rv, ht, hz⟩ := I.tuple hq
  refine assign_Tuple_tuple (I.ok.hd hc) ht (by simp [hn, ← hl, rv.length]) hst fun h' hx => ?_
  have I1 : Inv X pins σ H { s with heap := h' } := I.kept (t' := s.toks) fun b o e => hx b o (Nat.ne_of_lt (Heap.lt_size e)) e
  exact h pins _ σ H xs _ Q I1 (by simpa using rv) hw
def tAsg (te : TE) (g : TG) : TS := fun D σ H => te σ H fun x H1 => g x σ H1 D.nx
theorem ps_set {i : Nat} {x : Str} {e : Expr} {te : TE} {pos' : Pos} (hN : X.N.Nodup) (hi : X.N[i]? = some x) (hx : Loc X.env.scope x) (he : PE X e te) (hs : swapsWith e (some (.Name x pos')) pos.line X.env = pure false := by rfl) (hf : X.fn x = true ∨ X.env.scope.names.lookup x = some .local := by first | exact .inl rfl | exact .inr rfl | assumption) :
    PS X (.Assign [.Name x pos'] e pos) (tAsg te (gName i)) := by
  intro pins s σ H D I h
  refine wpAny_Assign_Name (thn (he pins s σ H _ I h) fun v s1 ⟨y, H1, I1, r1, q1⟩ => ?_) hs
  exact store_ok I1 hN hi hx r1 (fun s2 I2 => ⟨_, H1, I2, q1⟩) hf
end
section
variable {X : Cx} {pos : Pos}
def tWhile (c : TT) (tb : TS) : TS := fun D σ H => ∃ W : Nat → St → Hp → Prop, (∃ m, W m σ H) ∧ ∀ m σ H, W m σ H →
  c σ H fun b H1 => if b = true then ∃ N : St → Hp → Prop, (∀ σ' H', N σ' H' → ∃ m', m' < m ∧ W m' σ' H') ∧ tb { D with nx := N, ct := N, bk := D.nx } σ H1 else D.nx σ H1
theorem ps_while {c : Expr} {body : List Stmt} {tc : TT} {tb : TS} (hp : PassesOwn (model X.prog X.w) X.A X.env X.xe) (hc : PT X c tc) (hb : PSs X body tb) : PS X (.While c body [] pos) (tWhile tc tb) := by
  intro pins s σ H D I h
  obtain ⟨W, ⟨m0, w0⟩, turn⟩ := h
  refine wpAny_While (codeAny_whileLoop (fun n s' => ∃ σ' H', Inv X pins σ' H' s' ∧ W n σ' H') ?_ m0 ⟨σ, H, I, w0⟩)
  rintro n s1 ⟨σ1, H1, I1, w1⟩
  refine wpAny_passesOwn hp (thn (hc pins s1 σ1 H1 _ I1 (turn n σ1 H1 w1)) fun b s2 ⟨H2, I2, q2⟩ => ?_)
  cases b with
  | true =>
    obtain ⟨N, hN, q2⟩ := q2
    rw [if_pos rfl]
    refine wpAny_passesOwn hp (thn (hb pins s2 σ1 H2 _ I2 q2) fun f s3 q3 => ?_)
    cases f with
    | next =>
      obtain ⟨σ3, H3, I3, n3⟩ := q3
      obtain ⟨m', hm, w3⟩ := hN σ3 H3 n3
      exact ⟨m', hm, σ3, H3, I3, w3⟩
    | cont =>
      obtain ⟨σ3, H3, I3, n3⟩ := q3
      obtain ⟨m', hm, w3⟩ := hN σ3 H3 n3
      exact ⟨m', hm, σ3, H3, I3, w3⟩
    | brk => exact q3
    | ret v => exact q3
  | false =>
    rw [if_neg Bool.false_ne_true]
    exact wpAny_execs_nil ⟨σ1, H2, I2, q2⟩
end
structure It where
  go : Nat → Hp → Prop
  yld : Nat → Hp → V → Hp → Prop
  stop : Nat → Hp → Prop
def FpOk (X : Cx) (pins : List (Addr × Obj)) (H : Hp) (b : Addr) : Prop :=
  H b = none ∧ b ≠ X.env.locals ∧ b ∉ X.fs ∧ (b ∈ X.ex ∨ X.s₀.heap.objs.size ≤ b) ∧ (∀ x c, X.env.cells.lookup x = some c → c ≠ b) ∧ ∀ p ∈ X.pn ++ pins, p.1 ≠ b
theorem Inv.fpOk {X : Cx} {pins : List (Addr × Obj)} {σ : St} {H H' : Hp} {s : Shared} {b : Addr} (I : Inv X pins σ H s) (hb : s.heap.objs.size ≤ b) (hn : H' b = none) : FpOk X pins H' b := by
  refine ⟨hn, Nat.ne_of_gt (Nat.lt_of_lt_of_le I.lt hb), I.nofs hb, .inr (Nat.le_trans I.sz hb), fun x c e z => ?_, fun p hp z => ?_⟩
  · obtain ⟨v, q⟩ := I.cell x c e
    exact absurd (Nat.lt_of_lt_of_le q.lt (by rw [z]; exact hb)) (Nat.lt_irrefl _)
  · exact absurd (Nat.lt_of_lt_of_le (Heap.lt_size (I.pin p hp).1) (by rw [z]; exact hb)) (Nat.lt_irrefl _)
structure Turn (P : Program) (w : World) (K : PySem.W.Frag) (tg : Expr) (J : It) (fp : List Addr) (it : Addr) (tn : Nat → Heap → Prop) : Prop where
  mem : it ∈ fp
  obj : ∀ i h, tn i h → ∀ b ∈ fp, ∃ o, h.get? b = some o ∧ ∀ v, o.data ≠ .cell v
  keep : ∀ i h h', tn i h → (∀ b ∈ fp, ∀ o, h.get? b = some o → h'.get? b = some o) → tn i h'
  item : ∀ (X : Cx), X.prog = P → X.w = w → X.K = K → X.calm = true → ∀ (i : Nat) (pins : List (Addr × Obj)) (s : Shared) (σ : St) (H : Hp) (E : Value → Shared → Prop), Inv X pins σ H s → (∀ b ∈ fp, FpOk X pins H b) → tn i s.heap → J.go i H →
    wpAny (model P w) X.A (pyNext (.ref it)) (fun r s1 => ∃ u, r = some u ∧
      wpAny (model P w) X.A (letOwnedTupleGo tg (.ref it) u) (fun _ s2 => ∃ x H', Inv X pins σ H' s2 ∧ RelV x u ∧ J.yld i H x H' ∧ tn (i + 1) s2.heap ∧ ∀ b ∈ fp, H' b = none) E s1) E s
  done : ∀ (X : Cx), X.prog = P → X.w = w → X.K = K → X.calm = true → ∀ (i : Nat) (pins : List (Addr × Obj)) (s : Shared) (σ : St) (H : Hp) (E : Value → Shared → Prop), Inv X pins σ H s → (∀ b ∈ fp, FpOk X pins H b) → tn i s.heap → J.stop i H →
    wpAny (model P w) X.A (pyNext (.ref it)) (fun r s1 => r = none ∧ Inv X pins σ H s1) E s
  self : ∀ (A : Around) (i : Nat) (s : Shared) (Q : Value → Shared → Prop) (E : Value → Shared → Prop), tn i s.heap → Q (.ref it) s → wpAny (model P w) A (pyIter (.ref it)) Q E s
abbrev TI := St → Hp → (It → Hp → Prop) → Prop
def PIE (X : Cx) (pins : List (Addr × Obj)) (σ : St) (tg : Expr) (R : It → Hp → Prop) (itv : Value) (s2 : Shared) : Prop :=
  ∃ (it : Addr) (fp : List Addr) (tn : Nat → Heap → Prop) (J : It) (H' : Hp), itv = .ref it ∧ Inv X pins σ H' s2 ∧ Turn X.prog X.w X.K tg J fp it tn ∧ tn 0 s2.heap ∧ (∀ b ∈ fp, FpOk X pins H' b) ∧ R J H'
def PI (X : Cx) (tg iter : Expr) (wi : TI) : Prop :=
  ∀ (pins : List (Addr × Obj)) (s : Shared) (σ : St) (H : Hp) (R : It → Hp → Prop), Inv X pins σ H s → wi σ H R →
    wpAny (model X.prog X.w) X.A (eval iter X.env) (fun v s1 => wpAny (model X.prog X.w) X.A (pyIter v) (PIE X pins σ tg R) X.xe s1) X.xe s
theorem go_of {M : Model} {A : Around} {E : Value → Shared → Prop} {s : Shared} {tg : Expr} {it : Addr} {u : Value} {o : Obj} {n : String} {vs : Array Value} {Q : Unit → Shared → Prop} (ho : s.heap.get? it = some o) (hc : o.cls = .type n) (hd : o.data = .fields vs)
    (hn : ["enumerate", "zip", "dict_itemiterator", "dict_reverseitemiterator", "odict_iterator", "itertools.zip_longest", "itertools.pairwise"].contains n = false) (hQ : Q () s) : wpAny M A (letOwnedTupleGo tg (.ref it) u) Q E s := by
  unfold letOwnedTupleGo
  cases tg <;> first
    | exact wpAny_pure hQ
    | (cases u <;> first
        | exact wpAny_pure hQ
        | (refine wpAny_bind (wpAny_load ho ?_)
           rw [hc, hd]
           show wpAny M A (if (["enumerate", "zip", "dict_itemiterator", "dict_reverseitemiterator", "odict_iterator", "itertools.zip_longest", "itertools.pairwise"].contains n && vs[0]? == some (rawInt _)) = true then _ else _) Q E s
           rw [if_neg (by intro h; rw [hn, Bool.false_and] at h; cases h)]
           exact wpAny_pure hQ))
def Itl (K : PySem.W.Frag) (a : Addr) : It :=
  ⟨fun i H => ∃ xs x, SqL K H a xs ∧ xs[i]? = some x, fun i H x H' => H' = H ∧ ∀ xs, SqL K H a xs → xs[i]? = some x, fun i H => ∃ xs, SqL K H a xs ∧ xs.length ≤ i⟩
def Itr (lo : Int) (n : Nat) : It := ⟨fun i _ => i < n, fun i H x H' => H' = H ∧ x = .int (lo + i), fun i _ => n ≤ i⟩
theorem turn_list {P : Program} {w : World} {K : PySem.W.Frag} {tg : Expr} (a it : Addr) : Turn P w K tg (Itl K a) [it] it (fun i h => h.IsListIter it a i) where
  mem := by simp
  obj := fun i h st b hb => by
    have e : b = it := by simpa using hb
    subst e
    obtain ⟨o, e, c, d⟩ := st
    exact ⟨o, e, fun v z => by rw [d] at z; cases z⟩
  keep := fun i h h' st k => st.at fun o e => k it (by simp) o e
  item := by
    intro X hP hw hK hc i pins s σ H E I hf st hg
    subst hP hw hK
    obtain ⟨xs, x, hq, hx⟩ := hg
    obtain ⟨its, rv, p, hz⟩ := I.list hq
    obtain ⟨u, hu, ru⟩ := rv.get hx
    obtain ⟨f0, f1, f2, f3, f4, f5⟩ := hf it (by simp)
    refine wpAny_pyNext_list_item st p.isList (x := u) (by simpa using hu) fun h' st' sb => ?_
    have I1 : Inv X pins σ H { s with heap := h' } := I.turned (t' := s.toks) (fun b o hb e => (sb.2 b hb).trans e) f0 f1 f3 f4 f5
    obtain ⟨o, e, c, d⟩ := id st'
    exact ⟨u, rfl, go_of (s := { s with heap := h' }) e c d (by decide) ⟨x, H, I1, ru, ⟨rfl, fun ys hy => by rw [I.list_inj hy hq]; exact hx⟩, st', fun b hb => (hf b hb).1⟩⟩
  done := by
    intro X hP hw hK hc i pins s σ H E I hf st hg
    subst hP hw hK
    obtain ⟨xs, hq, hx⟩ := hg
    obtain ⟨its, rv, p, hz⟩ := I.list hq
    obtain ⟨f0, f1, f2, f3, f4, f5⟩ := hf it (by simp)
    have hl := rv.length
    exact wpAny_pyNext_list_end (I.ok.hd hc) st p.isList (by simp; omega) fun h' eb => ⟨rfl, I.turned (t' := s.toks) (fun b o hb e => eb b o hb e) f0 f1 f3 f4 f5⟩
  self := fun _ _ _ _ _ st h => wpAny_pyIter_listiter st h
theorem turn_range {P : Program} {w : World} {K : PySem.W.Frag} {tg : Expr} (it : Addr) (lo : Int) (n : Nat) : Turn P w K tg (Itr lo n) [it] it (fun i h => IsRangeIter h it (lo + (i : Nat) * 1) ((n : Int) - (i : Nat)) 1) where
  mem := by simp
  obj := fun i h st b hb => by
    have e : b = it := by simpa using hb
    subst e
    exact ⟨_, st, fun v z => by
      have z' : Data.fields _ = Data.cell v := z
      cases z'⟩
  keep := fun i h h' st k => k it (by simp) _ st
  item := by
    intro X hP hw hK hc i pins s σ H E I hf st hg
    subst hP hw hK
    obtain ⟨f0, f1, f2, f3, f4, f5⟩ := hf it (by simp)
    have W := Walks.range (prog := X.prog) (w := X.w) (I.ok.hd hc) it lo 1 n
    refine W.item i s _ _ hg st fun v h' tk hv st' kk => ?_
    obtain ⟨t, rfl⟩ := hv
    have I1 : Inv X pins σ H { s with heap := h', toks := tk } := I.turned (fun b o hb e => kk b o (by simpa using hb) e) f0 f1 f3 f4 f5
    refine ⟨_, rfl, go_of (s := { s with heap := h', toks := tk }) (n := "range_iterator") st' rfl rfl (by decide) ⟨.int (lo + i), H, I1, ⟨t, ?_⟩, ⟨rfl, rfl⟩, st', fun b hb => (hf b hb).1⟩⟩
    rw [Int.mul_one]
  done := by
    intro X hP hw hK hc i pins s σ H E I hf st hg
    subst hP hw hK
    obtain ⟨f0, f1, f2, f3, f4, f5⟩ := hf it (by simp)
    exact wpAny_pyNext_range_end (I.ok.hd hc) st (by have : n ≤ i := hg; omega) fun h' eb => ⟨rfl, I.turned (t' := s.toks) (fun b o hb e => eb b o hb e) f0 f1 f3 f4 f5⟩
  self := fun _ _ _ _ _ st h => wpAny_pyIter_rangeiter st h
end L2
namespace L2
open PySem PySem.Spec PyProof.Rows
section
variable {X : Cx} {tg : Expr}
def iList (K : PySem.W.Frag) (tl : TE) : TI := fun σ H R => tl σ H fun x H1 => ∃ a, x = .ref a ∧ (∃ xs, SqL K H1 a xs) ∧ R (Itl K a) H1
theorem pi_list {l : Expr} {tl : TE} (hl : PE X l tl) : PI X tg l (iList X.K tl) := by
  intro pins s σ H R I h
  refine thn (hl pins s σ H _ I h) fun v s1 ⟨x, H1, I1, r1, q1⟩ => ?_
  obtain ⟨a, e, ⟨xs, hq⟩, q⟩ := q1
  subst e
  cases r1
  obtain ⟨its, rv, p, hz⟩ := I1.list hq
  refine wpAny_pyIter_list p.isList ?_
  refine ⟨s1.heap.objs.size, [s1.heap.objs.size], _, _, H1, rfl, I1.kept (t' := s1.toks) fun b o e => Heap.get?_push_of_some _ e, turn_list a _, ⟨_, Heap.get?_push_size _ rfl, rfl, rfl⟩, fun b hb => ?_, q⟩
  have e : b = s1.heap.objs.size := by simpa using hb
  subst e
  exact I1.fpOk (Nat.le_refl _) (I1.hok.fresh (Nat.le_refl _))
theorem range_it {pins : List (Addr × Obj)} {σ : St} {H : Hp} {s : Shared} {R : It → Hp → Prop} {E : Value → Shared → Prop} {lo hi : Int} {t u v : Tok} {tk : Nat} (I : Inv X pins σ H s) (h1 : -(2 ^ 62) ≤ lo) (h2 : lo < 2 ^ 62) (h3 : -(2 ^ 62) ≤ hi) (h4 : hi < 2 ^ 62)
    (q : R (Itr lo (hi - lo).toNat) H) : wpAny (model X.prog X.w) X.A (pyIter (.ref s.heap.objs.size)) (PIE X pins σ tg R) E { s with heap := s.heap.push { cls := .type "range", data := .fields #[.int lo t, .int hi u, .int 1 v] }, toks := tk } := by
  refine wpAny_pyIter_range (IsRange.new ..) (small_one h1 h2 h3 h4) ?_
  have I1 : Inv X pins σ H { s with heap := s.heap.push { cls := .type "range", data := .fields #[.int lo t, .int hi u, .int 1 v] }, toks := tk } := I.kept fun b o e => Heap.get?_push_of_some _ e
  refine ⟨(s.heap.push { cls := .type "range", data := .fields #[.int lo t, .int hi u, .int 1 v] }).objs.size, [(s.heap.push { cls := .type "range", data := .fields #[.int lo t, .int hi u, .int 1 v] }).objs.size], _, _, H, rfl,
    I1.kept (t' := tk) fun b o e => Heap.get?_push_of_some _ e, turn_range _ lo (hi - lo).toNat, ?_, fun b hb => ?_, q⟩
  · have e1 : lo + ((0 : Nat) : Int) * 1 = lo := by simp
    have e2 : (((hi - lo).toNat : Nat) : Int) - ((0 : Nat) : Int) = Builtin.Range.rangeSize lo hi 1 := by rw [rangeSize_one]; split <;> omega
    show IsRangeIter _ _ (lo + ((0 : Nat) : Int) * 1) ((((hi - lo).toNat : Nat) : Int) - ((0 : Nat) : Int)) 1
    rw [e1, e2]
    exact Heap.get?_push_size _ rfl
  · have e : b = (s.heap.push { cls := .type "range", data := .fields #[.int lo t, .int hi u, .int 1 v] }).objs.size := by simpa using hb
    subst e
    exact I1.fpOk (Nat.le_refl _) (I1.hok.fresh (Nat.le_refl _))
def iRng1 (ta : TA) : TI := fun σ H R => ta σ H fun vs H1 => ∃ j : Int, vs = [.int j] ∧ -(2 ^ 62) ≤ j ∧ j < 2 ^ 62 ∧ R (Itr 0 j.toNat) H1
theorem pi_range1 {a : Expr} {ta : TA} {p pos : Pos} (hg : Gl X "range") (hm : X.mg "range" = none) (ha : PA X [a] ta) (hs : starEach [a] X.env = [(false, eval a X.env)] := by rfl) : PI X tg (.Call (.Name "range" p) [a] [] pos) (iRng1 ta) := by
  intro pins s σ H R I h
  refine Call_ (ld_blt I hg hm boot_range (PyProof.Rows.callWith_type1 (thn (ha pos pins s σ H _ I h) fun us s1 ⟨vs, H1, I1, r1, q1⟩ => ?_) hs rfl))
  obtain ⟨j, e, q1, q2, q⟩ := q1
  subst e
  cases r1 with
  | cons r rr =>
    cases rr
    obtain ⟨t, rfl⟩ := r
    exact call_range_1 (range_it I1 (by omega) (by omega) q1 q2 (by simpa using q))
def tFor (wi : TI) (g : TG) (tb : TS) : TS := fun D σ H => wi σ H fun J H1 => ∃ W : Nat → Nat → St → Hp → Prop, (∃ m, W 0 m σ H1) ∧ ∀ i m σ H, W i m σ H →
  (J.stop i H ∧ D.nx σ H) ∨ (J.go i H ∧ ∃ N : St → Hp → Prop, (∀ σ' H', N σ' H' → ∃ m', m' < m ∧ W (i + 1) m' σ' H') ∧ ∀ x H', J.yld i H x H' → g x σ H' fun σ2 H2 => tb { D with nx := N, ct := N, bk := D.nx } σ2 H2)
def pinsAt (fp : List Addr) (h : Heap) : List (Addr × Obj) := fp.filterMap fun b => (h.get? b).map fun o => (b, o)
theorem mem_pinsAt {fp : List Addr} {h : Heap} {b : Addr} {o : Obj} (hb : b ∈ fp) (e : h.get? b = some o) : (b, o) ∈ pinsAt fp h := List.mem_filterMap.mpr ⟨b, hb, by rw [e]; rfl⟩
theorem of_pinsAt {fp : List Addr} {h : Heap} {p : Addr × Obj} (hp : p ∈ pinsAt fp h) : p.1 ∈ fp ∧ h.get? p.1 = some p.2 := by
  obtain ⟨b, hb, e⟩ := List.mem_filterMap.mp hp
  cases q : h.get? b with
  | none => rw [q] at e; cases e
  | some o =>
    rw [q] at e
    have e' : (b, o) = p := Option.some.inj e
    subst e'
    exact ⟨hb, q⟩
theorem Inv.pinned {pins : List (Addr × Obj)} {σ : St} {H : Hp} {s : Shared} {fp : List Addr} (I : Inv X pins σ H s) (hf : ∀ b ∈ fp, FpOk X pins H b) (ho : ∀ b ∈ fp, ∃ o, s.heap.get? b = some o ∧ ∀ v, o.data ≠ .cell v) : Inv X (pins ++ pinsAt fp s.heap) σ H s :=
  I.pins_of fun p hp => (List.mem_append.mp hp).elim (fun z => I.pin p (List.mem_append_right _ z)) fun z => by
    obtain ⟨hb, e⟩ := of_pinsAt z
    obtain ⟨f0, f1, f2, _⟩ := hf p.1 hb
    obtain ⟨o, e', d⟩ := ho p.1 hb
    rw [e] at e'; cases e'
    exact ⟨e, f0, f1, f2, d⟩
theorem Inv.unpinned {pins pl : List (Addr × Obj)} {σ : St} {H : Hp} {s : Shared} (I : Inv X (pins ++ pl) σ H s) : Inv X pins σ H s := I.pins_of fun p hp => I.pin p (List.mem_append_right _ (List.mem_append_left _ hp))
theorem ps_for {iter : Expr} {body : List Stmt} {wi : TI} {g : TG} {tb : TS} {pos : Pos} (hp : PassesOwn (model X.prog X.w) X.A X.env X.xe) (hc : X.calm = true) (hi : PI X tg iter wi) (hg : PG X tg g) (hb : PSs X body tb)
    (hs : ∀ x, foldedSetIterable iter X.env x = pure x := by intro _; rfl) : PS X (.For tg iter body [] pos) (tFor wi g tb) := by
  intro pins s σ H D I h
  refine wpAny_For (thn (hi pins s σ H _ I h) fun v s1 h1 => thn h1 fun itv s2 h2 => ?_) hs
  obtain ⟨it, fp, tn, J, H2, e, I2, T, st2, f2, W, ⟨m0, w0⟩, turn⟩ := h2
  subst e
  have stat : ∀ {H' : Hp}, (∀ b ∈ fp, H' b = none) → ∀ b ∈ fp, FpOk X pins H' b := fun hn b hb => ⟨hn b hb, (f2 b hb).2⟩
  refine codeAny_forLoop_any (fun n s' => ∃ i σ' H', Inv X pins σ' H' s' ∧ tn i s'.heap ∧ (∀ b ∈ fp, H' b = none) ∧ W i n σ' H') ?_ m0 ⟨0, σ, H2, I2, st2, fun b hb => (f2 b hb).1, w0⟩
  rintro n s3 ⟨i, σ3, H3, I3, st3, fr3, w3⟩
  rcases turn i n σ3 H3 w3 with ⟨stop, qn⟩ | ⟨go, N, hN, step⟩
  · refine wpAny_passesOwn hp (thn (T.done X rfl rfl rfl hc i pins s3 σ3 H3 X.xe I3 (stat fr3) st3 stop) fun r s4 ⟨hr, I4⟩ => ?_)
    subst hr
    exact wpAny_execs_nil ⟨σ3, H3, I4, qn⟩
  · refine wpAny_passesOwn hp (thn (T.item X rfl rfl rfl hc i pins s3 σ3 H3 X.xe I3 (stat fr3) st3 go) fun r s4 ⟨u, hr, h4⟩ => ?_)
    subst hr
    refine wpAny_passesOwn hp (thn h4 fun _ s5 ⟨x, H5, I5, r5, y5, st5, fr5⟩ => ?_)
    have I5' := I5.pinned (stat fr5) (T.obj _ _ st5)
    refine wpAny_passesOwn hp (thn (hg _ s5 σ3 H5 x u _ I5' r5 (step x H5 y5)) fun _ s6 ⟨σ6, H6, I6, q6⟩ => ?_)
    refine wpAny_passesOwn hp (thn (hb _ s6 σ6 H6 _ I6 q6) fun f s7 q7 => ?_)
    have again : ∀ {σ7 : St} {H7 : Hp}, Inv X (pins ++ pinsAt fp s5.heap) σ7 H7 s7 → N σ7 H7 → ∃ m, m < n ∧ ∃ i σ' H', Inv X pins σ' H' s7 ∧ tn i s7.heap ∧ (∀ b ∈ fp, H' b = none) ∧ W i m σ' H' := fun {σ7 H7} I7 n7 => by
      obtain ⟨m', hm, w7⟩ := hN σ7 H7 n7
      refine ⟨m', hm, i + 1, σ7, H7, I7.unpinned, T.keep _ _ _ st5 fun b hb o e => (I7.pin (b, o) (List.mem_append_right _ (List.mem_append_right _ (mem_pinsAt hb e)))).1, fun b hb => ?_, w7⟩
      obtain ⟨o, e, d⟩ := T.obj _ _ st5 b hb
      exact (I7.pin (b, o) (List.mem_append_right _ (List.mem_append_right _ (mem_pinsAt hb e)))).2.1
    cases f with
    | next => obtain ⟨σ7, H7, I7, n7⟩ := q7; exact again I7 n7
    | cont => obtain ⟨σ7, H7, I7, n7⟩ := q7; exact again I7 n7
    | brk => obtain ⟨σ7, H7, I7, q7⟩ := q7; exact ⟨σ7, H7, I7.unpinned, q7⟩
    | ret v => obtain ⟨x7, σ7, H7, I7, r7, q7⟩ := q7; exact ⟨x7, σ7, H7, I7.unpinned, r7, q7⟩
end
theorem for_range {lo : Int} {n : Nat} {g : TG} {tb : TS} {D : Ends} {σ : St} {H : Hp} (Pv : Nat → St → Hp → Prop) (h0 : Pv 0 σ H)
    (hs : ∀ i σ H, i < n → Pv i σ H → g (.int (lo + i)) σ H fun σ2 H2 => tb { D with nx := Pv (i + 1), ct := Pv (i + 1), bk := D.nx } σ2 H2) (hd : ∀ σ H, Pv n σ H → D.nx σ H) :
    ∃ W : Nat → Nat → St → Hp → Prop, (∃ m, W 0 m σ H) ∧ ∀ i m σ H, W i m σ H →
      ((Itr lo n).stop i H ∧ D.nx σ H) ∨ ((Itr lo n).go i H ∧ ∃ N : St → Hp → Prop, (∀ σ' H', N σ' H' → ∃ m', m' < m ∧ W (i + 1) m' σ' H') ∧ ∀ x H', (Itr lo n).yld i H x H' → g x σ H' fun σ2 H2 => tb { D with nx := N, ct := N, bk := D.nx } σ2 H2) := by
  refine ⟨fun i m σ H => m = n - i ∧ i ≤ n ∧ Pv i σ H, ⟨n, by simp, Nat.zero_le _, h0⟩, ?_⟩
  rintro i m σ H ⟨rfl, hi, p⟩
  by_cases hlt : i < n
  · refine .inr ⟨hlt, Pv (i + 1), fun σ' H' p' => ⟨n - (i + 1), by omega, rfl, hlt, p'⟩, fun x H' y => ?_⟩
    obtain ⟨e, y⟩ := y
    subst e y
    exact hs i σ _ hlt p
  · have e : i = n := by omega
    subst e
    exact .inl ⟨Nat.le_refl _, hd σ H p⟩
end L2
namespace L2
open PySem PySem.Spec PyProof.Rows
abbrev R2 := V → V → Hp → VK → Prop
def OpR (X : Cx) (f : Value → Value → Sem Value) (r : R2) : Prop :=
  ∀ (pins : List (Addr × Obj)) (s : Shared) (σ : St) (H : Hp) (x y : V) (v u : Value) (Q : VK), Inv X pins σ H s → RelV x v → RelV y u → r x y H Q →
    wpAny (model X.prog X.w) X.A (f v u) (EP X pins σ Q) X.xe s
def CallR (X : Cx) (f : Value) (r : List V → Hp → VK → Prop) : Prop :=
  ∀ (pins : List (Addr × Obj)) (s : Shared) (σ : St) (H : Hp) (xs : List V) (us : List Value) (Q : VK), Inv X pins σ H s → Vals xs us → r xs H Q →
    wpAny (model X.prog X.w) X.A (call f us) (EP X pins σ Q) X.xe s
def tOp (r : R2) (ta tb : TE) : TE := fun σ H Q => ta σ H fun x H1 => tb σ H1 fun y H2 => r x y H2 Q
def rI (C : Int → Int → Prop) (g : Int → Int → V) : R2 := fun x y H Q => ∃ i j, x = .int i ∧ y = .int j ∧ C i j ∧ Q (g i j) H
def rI0 (g : Int → Int → V) : R2 := fun x y H Q => ∃ i j, x = .int i ∧ y = .int j ∧ Q (g i j) H
section
variable {X : Cx} {a b c : Expr} {ta tb tc : TE} {pos : Pos}
theorem binT (ha : PE X a ta) (hb : PE X b tb) {pins : List (Addr × Obj)} {s : Shared} {σ : St} {H : Hp} {R : V → V → Hp → Prop} (I : Inv X pins σ H s)
    (h : ta σ H fun x H1 => tb σ H1 fun y H2 => R x y H2) {Q : Value → Shared → Prop} {f : Value → Value → Sem Value}
    (hf : ∀ v u s2 x y H2, Inv X pins σ H2 s2 → RelV x v → RelV y u → R x y H2 → wpAny (model X.prog X.w) X.A (f v u) Q X.xe s2) :
    wpAny (model X.prog X.w) X.A (eval a X.env) (fun v s₁ => wpAny (model X.prog X.w) X.A (eval b X.env) (fun u s₂ => wpAny (model X.prog X.w) X.A (f v u) Q X.xe s₂) X.xe s₁) X.xe s := by
  refine thn (ha pins s σ H _ I h) fun v s1 ⟨x, H1, I1, r1, q1⟩ => ?_
  refine thn (hb pins s1 σ H1 _ I1 q1) fun u s2 ⟨y, H2, I2, r2, q2⟩ => ?_
  exact hf v u s2 x y H2 I2 r1 r2 q2
theorem pe_op {op : Operator} {r : R2} (ho : OpR X (binaryOp op) r) (ha : PE X a ta) (hb : PE X b tb) : PE X (.BinOp a op b pos) (tOp r ta tb) := by
  intro pins s σ H Q I h
  exact wpAny_BinOp (binT ha hb I h fun v u s2 x y H2 I2 rx ry q => ho pins s2 σ H2 x y v u Q I2 rx ry q)
theorem opI {f : Value → Value → Sem Value} {C : Int → Int → Prop} {g : Int → Int → Int}
    (rule : ∀ (i j : Int) (t u : Tok) (s : Shared) (Q : Value → Shared → Prop) (E : Value → Shared → Prop), C i j → Q (.int (g i j) s.toks) { s with toks := s.toks + 1 } → wpAny (model X.prog X.w) X.A (f (.int i t) (.int j u)) Q E s) :
    OpR X f (rI C fun i j => .int (g i j)) := by
  intro pins s σ H x y v u Q I rx ry h
  obtain ⟨i, j, rfl, rfl, hc, q⟩ := h
  obtain ⟨t, rfl⟩ := rx
  obtain ⟨t', rfl⟩ := ry
  exact rule i j t t' s _ _ hc ⟨.int (g i j), H, I.tok _, ⟨_, rfl⟩, q⟩
theorem opI0 {f : Value → Value → Sem Value} {g : Int → Int → Int}
    (rule : ∀ (i j : Int) (t u : Tok) (s : Shared) (Q : Value → Shared → Prop) (E : Value → Shared → Prop), Q (.int (g i j) s.toks) { s with toks := s.toks + 1 } → wpAny (model X.prog X.w) X.A (f (.int i t) (.int j u)) Q E s) :
    OpR X f (rI0 fun i j => .int (g i j)) := by
  intro pins s σ H x y v u Q I rx ry h
  obtain ⟨i, j, rfl, rfl, q⟩ := h
  obtain ⟨t, rfl⟩ := rx
  obtain ⟨t', rfl⟩ := ry
  exact rule i j t t' s _ _ ⟨.int (g i j), H, I.tok _, ⟨_, rfl⟩, q⟩
theorem opB0 {f : Value → Value → Sem Value} {g : Int → Int → Bool}
    (rule : ∀ (i j : Int) (t u : Tok) (s : Shared) (Q : Value → Shared → Prop) (E : Value → Shared → Prop), Q (.bool (g i j)) s → wpAny (model X.prog X.w) X.A (f (.int i t) (.int j u)) Q E s) :
    OpR X f (rI0 fun i j => .bl (g i j)) := by
  intro pins s σ H x y v u Q I rx ry h
  obtain ⟨i, j, rfl, rfl, q⟩ := h
  obtain ⟨t, rfl⟩ := rx
  obtain ⟨t', rfl⟩ := ry
  exact rule i j t t' s _ _ ⟨.bl (g i j), H, I, rfl, q⟩
def CPow (i j : Int) : Prop := 0 ≤ j ∧ j ≤ 1000000 ∧ i.natAbs < 2 ^ 64
def CMul (i j : Int) : Prop := (-(2 ^ 64) < i ∧ i < 2 ^ 64) ∨ (-(2 ^ 64) < j ∧ j < 2 ^ 64)
theorem CMul.ok {i j : Int} (h : CMul i j) : IntMulOk i j := by
  rcases h with ⟨h1, h2⟩ | ⟨h1, h2⟩
  · exact .of_left (intBits_le_64 h1 h2)
  · exact .of_right (intBits_le_64 h1 h2)
theorem op_add : OpR X (binaryOp .Add) (rI0 fun i j => .int (i + j)) := opI0 fun _ _ _ _ _ _ _ q => add_int q
theorem op_sub : OpR X (binaryOp .Sub) (rI0 fun i j => .int (i - j)) := opI0 fun _ _ _ _ _ _ _ q => sub_int q
theorem op_mul : OpR X (binaryOp .Mult) (rI CMul fun i j => .int (i * j)) := opI fun _ _ _ _ _ _ _ hc q => mul_int q hc.ok
theorem op_mod : OpR X (binaryOp .Mod) (rI (fun _ j => 0 < j) fun i j => .int (i % j)) := opI fun i j _ _ _ _ _ hc q => by
  have h1 : (0 : Int) < j := hc
  exact mod_int' (by omega) (by rw [Int.fmod_eq_emod_of_nonneg i (by omega)]; exact q)
theorem op_pow : OpR X (binaryOp .Pow) (rI CPow fun i j => .int (i ^ j.toNat)) := opI fun _ _ _ _ _ _ _ hc q => pow_int_small hc.1 hc.2.1 hc.2.2 q
end
def scal : V → V → Bool
  | .non, .non => true | .non, .int _ => true | .int _, .non => true | .non, .bl _ => true | .bl _, .non => true | .non, .str _ => true | .str _, .non => true
  | .int _, .int _ => true | .bl _, .bl _ => true | .str _, .str _ => true | .byt _, .byt _ => true
  | .int _, .str _ => true | .str _, .int _ => true | .bl _, .str _ => true | .str _, .bl _ => true
  | _, _ => false
def rEq : R2 := fun x y H Q => scal x y = true ∧ Q (.bl (decide (x = y))) H
theorem dec_int {i j : Int} : decide (V.int i = V.int j) = (i == j) := by
  rw [Bool.eq_iff_iff]
  simp
theorem dec_bl {i j : Bool} : decide (V.bl i = V.bl j) = (i == j) := by
  rw [Bool.eq_iff_iff]
  simp
theorem dec_str {i j : Str} : decide (V.str i = V.str j) = (i == j) := by
  rw [Bool.eq_iff_iff]
  simp
theorem dec_byt {i j : Array UInt8} : decide (V.byt i = V.byt j) = (i.toList == j.toList) := by
  rw [Bool.eq_iff_iff]
  cases i
  cases j
  simp
section
variable {X : Cx} {a b c : Expr} {ta tb tc : TE} {pos : Pos}
theorem fin_bl {pins : List (Addr × Obj)} {σ : St} {H : Hp} {s : Shared} {Q : VK} {k k' : Bool} (I : Inv X pins σ H s) (q : Q (.bl k) H) (e : k = k') : EP X pins σ Q (.bool k') s := by
  subst e
  exact ⟨.bl k, H, I, rfl, q⟩
theorem op_eq : OpR X (compareOp .Eq) rEq := by
  intro pins s σ H x y v u Q I rx ry h
  obtain ⟨hs, q⟩ := h
  cases x with
  | non =>
    cases rx
    cases y with
    | non => cases ry; exact PySem.EqNone.eq_none_none (fin_bl I q (by simp))
    | bl j => cases ry; exact PySem.EqNone.eq_none_bool (fin_bl I q (by simp))
    | int j => obtain ⟨t', rfl⟩ := ry; exact PySem.EqNone.eq_none_int (fin_bl I q (by simp))
    | str j => obtain ⟨t', rfl⟩ := ry; exact PySem.EqNone.eq_none_str (fin_bl I q (by simp))
    | _ => exact absurd (show false = true from hs) Bool.false_ne_true
  | bl i =>
    cases rx
    cases y with
    | non => cases ry; exact PySem.EqNone.eq_bool_none (fin_bl I q (by simp))
    | bl j => cases ry; exact eq_bool (fin_bl I q dec_bl)
    | str j => obtain ⟨t', rfl⟩ := ry; exact PySem.EqMixed.eq_bool_str (fin_bl I q (by simp))
    | _ => exact absurd (show false = true from hs) Bool.false_ne_true
  | int i =>
    obtain ⟨t, rfl⟩ := rx
    cases y with
    | non => cases ry; exact PySem.EqNone.eq_int_none (fin_bl I q (by simp))
    | int j => obtain ⟨t', rfl⟩ := ry; exact eq_int (fin_bl I q dec_int)
    | str j => obtain ⟨t', rfl⟩ := ry; exact PySem.EqMixed.eq_int_str (fin_bl I q (by simp))
    | _ => exact absurd (show false = true from hs) Bool.false_ne_true
  | str i =>
    obtain ⟨t, rfl⟩ := rx
    cases y with
    | non => cases ry; exact PySem.EqNone.eq_str_none (fin_bl I q (by simp))
    | bl j => cases ry; exact PySem.EqMixed.eq_str_bool (fin_bl I q (by simp))
    | int j => obtain ⟨t', rfl⟩ := ry; exact PySem.EqMixed.eq_str_int (fin_bl I q (by simp))
    | str j => obtain ⟨t', rfl⟩ := ry; exact eq_str (fin_bl I q dec_str)
    | _ => exact absurd (show false = true from hs) Bool.false_ne_true
  | byt i =>
    obtain ⟨t, rfl⟩ := rx
    cases y with
    | byt j => obtain ⟨t', rfl⟩ := ry; exact PySem.W.eq_bytes (fin_bl I q dec_byt)
    | _ => exact absurd (show false = true from hs) Bool.false_ne_true
  | _ => cases y <;> exact absurd (show false = true from hs) Bool.false_ne_true
theorem op_le : OpR X (compareOp .LtE) (rI0 fun i j => .bl (decide (i ≤ j))) := opB0 fun _ _ _ _ _ _ _ q => le_int q
theorem op_gt : OpR X (compareOp .Gt) (rI0 fun i j => .bl (decide (j < i))) := opB0 fun _ _ _ _ _ _ _ q => gt_int q
theorem op_ge : OpR X (compareOp .GtE) (rI0 fun i j => .bl (decide (j ≤ i))) := opB0 fun _ _ _ _ _ _ _ q => ge_int q
theorem op_in_str : OpR X (compareOp .In) (fun x y H Q => ∃ i j, x = .str i ∧ y = .str j ∧ Q (.bl (!(Builtin.Str.occurrences j i 0 j.length 1).isEmpty)) H) := by
  intro pins s σ H x y v u Q I rx ry h
  obtain ⟨i, j, rfl, rfl, q⟩ := h
  obtain ⟨t, rfl⟩ := rx
  obtain ⟨t', rfl⟩ := ry
  exact in_str (fin_bl I q rfl)
theorem op_notin_str : OpR X (compareOp .NotIn) (fun x y H Q => ∃ i j, x = .str i ∧ y = .str j ∧ Q (.bl (!(!(Builtin.Str.occurrences j i 0 j.length 1).isEmpty))) H) := by
  intro pins s σ H x y v u Q I rx ry h
  obtain ⟨i, j, rfl, rfl, q⟩ := h
  obtain ⟨t, rfl⟩ := rx
  obtain ⟨t', rfl⟩ := ry
  exact notIn_str (fin_bl I q rfl)
theorem nomark (b : Expr) {op : CmpOp} (h : op ≠ .In := by decide) (h2 : op ≠ .NotIn := by decide) : behindInMarks op b = false := by
  have e1 : (op == CmpOp.In) = false := by cases op <;> first | rfl | exact absurd rfl h
  have e2 : (op == CmpOp.NotIn) = false := by cases op <;> first | rfl | exact absurd rfl h2
  cases b <;> simp [behindInMarks, e1, e2]
theorem pe_cmpR {op : CmpOp} {r : R2} (ho : OpR X (compareOp op) r) (ha : PE X a ta) (hb : PE X b tb) (hm : behindInMarks op b = false) : PE X (.Compare a [op] [b] pos) (tOp r ta tb) := by
  intro pins s σ H Q I h
  exact wpAny_Compare1 (binT ha hb I h fun v u s2 x y H2 I2 rx ry q => ho pins s2 σ H2 x y v u Q I2 rx ry q) hm
def tTest (t : TE) : TT := fun σ H Q => t σ H fun x H' => ∃ k, x = .bl k ∧ Q k H'
theorem pt_cmpR {op : CmpOp} {r : R2} (ho : OpR X (compareOp op) r) (ha : PE X a ta) (hb : PE X b tb) (hm : behindInMarks op b = false) : PT X (.Compare a [op] [b] pos) (tTest (tOp r ta tb)) := by
  intro pins s σ H Q I h
  refine wpAny_isTrue_Compare1 (thn (ha pins s σ H _ I h) fun v s1 ⟨x, H1, I1, r1, q1⟩ => thn (hb pins s1 σ H1 _ I1 q1) fun u s2 ⟨y, H2, I2, r2, q2⟩ =>
    thn (ho pins s2 σ H2 x y v u _ I2 r1 r2 q2) fun c s3 ⟨z, H3, I3, r3, k, e, q3⟩ => ?_) hm
  subst e
  cases r3
  exact wpAny_truthy_bool ⟨H3, I3, q3⟩
def tChain (r r' : R2) (ta tb tc : TE) : TE := fun σ H Q => ta σ H fun x H1 => tb σ H1 fun y H2 => r x y H2 fun z H3 => ∃ k, z = .bl k ∧
  (if k = true then tc σ H3 fun w' H4 => r' y w' H4 Q else Q (.bl false) H3)
theorem pe_chain {op op' : CmpOp} {r r' : R2} (ho : OpR X (compareOp op) r) (ho' : OpR X (compareOp op') r') (ha : PE X a ta) (hb : PE X b tb) (hc : PE X c tc)
    (hm : lastMarks [op, op'] [b, c] = false := by with_unfolding_all rfl) : PE X (.Compare a [op, op'] [b, c] pos) (tChain r r' ta tb tc) := by
  intro pins s σ H Q I h
  refine Compare_chain (thn (ha pins s σ H _ I h) fun v s1 ⟨x, H1, I1, r1, q1⟩ => chain_link (thn (hb pins s1 σ H1 _ I1 q1) fun u s2 ⟨y, H2, I2, r2, q2⟩ =>
    thn (ho pins s2 σ H2 x y v u _ I2 r1 r2 q2) fun d s3 ⟨z, H3, I3, r3, k, e, q3⟩ => ?_)) hm
  subst e
  cases r3
  refine wpAny_truthy_bool ?_
  cases k with
  | false => exact ite_ff ⟨.bl false, H3, I3, rfl, q3⟩
  | true => exact ite_tt (chain_last (thn (hc pins s3 σ H3 _ I3 q3) fun w' s4 ⟨z', H4, I4, r4, q4⟩ => ho' pins s4 σ H4 y z' u w' Q I4 r2 r4 q4))
theorem line63 : (sizeLine : Nat) < 2 ^ 63 := by rw [sizeLine_eq]; decide
theorem op_add_str : OpR X (binaryOp .Add) (fun x y H Q => ∃ i j, x = .str i ∧ y = .str j ∧ i.length + j.length ≤ sizeLine ∧ Q (.str (i ++ j)) H) := by
  intro pins s σ H x y v u Q I rx ry h
  obtain ⟨i, j, rfl, rfl, hz, q⟩ := h
  obtain ⟨t, rfl⟩ := rx
  obtain ⟨t', rfl⟩ := ry
  exact add_str (fun t' tk => ⟨.str (i ++ j), H, I.tok _, ⟨_, rfl⟩, q⟩) hz
theorem vals1 {x : V} {us : List Value} (r : Vals [x] us) : ∃ u, us = [u] ∧ RelV x u := by
  cases r with
  | cons r1 r2 => cases r2; exact ⟨_, rfl, r1⟩
theorem vals2 {x y : V} {us : List Value} (r : Vals [x, y] us) : ∃ u w', us = [u, w'] ∧ RelV x u ∧ RelV y w' := by
  cases r with
  | cons r1 r2 =>
    cases r2 with
    | cons r3 r4 => cases r4; exact ⟨_, _, rfl, r1, r3⟩
end
end L2
namespace L2
open PySem PySem.Spec PyProof.Rows
structure ObjM (h : Heap) (x dx C : Addr) (mA : Str → Option Value) : Prop where
  obj : h.get? x = some (PySem.W.instObj C dx)
  ns : h.Ns1 dx mA
  ne : dx ≠ x
theorem lookIn_ns {h : Heap} {dx : Addr} {mA : Str → Option Value} (n : h.Ns1 dx mA) : ∃ od, h.get? dx = some od ∧ ∀ name, PySem.W.lookIn name od = some (mA name) := by
  obtain ⟨o, es, ep, ho, hd, hk, _, hm⟩ := n
  refine ⟨o, ho, fun name => ?_⟩
  have e := hm name
  unfold nsFind findBy at e
  rw [← Array.find?_toList] at e
  unfold PySem.W.lookIn
  rw [hd]
  dsimp only
  split
  · rename_i y q
    rw [q] at e
    exact congrArg some e
  · rename_i q
    rw [q] at e
    have a : es.toList.any (·.refKey) = false := by
      rw [List.any_eq_false]
      intro y hy
      obtain ⟨z, t, hkey⟩ := hk y (Array.mem_toList_iff.mp hy)
      simp [DictEntry.refKey, hkey]
    have a' : ¬ es.toList.any (·.refKey) = true := by rw [a]; exact Bool.false_ne_true
    rw [if_neg a']
    exact congrArg some e
theorem ObjM.look {h : Heap} {x dx C : Addr} {mA : Str → Option Value} (I : ObjM h x dx C mA) : ∃ od, PySem.W.InstAt h x (PySem.W.instObj C dx) C (some od) ∧ ∀ name, PySem.W.lookIn name od = some (mA name) :=
  let ⟨od, ho, hl⟩ := lookIn_ns I.ns
  ⟨od, ⟨I.obj, rfl, rfl, ho⟩, hl⟩
section
variable {prog : Program} {w : World} {A : Around} {E : Value → Shared → Prop} {s : Shared} {K : PySem.W.Frag} {x dx C f : Addr} {mA : Str → Option Value} {name : Str} {v : Value}
theorem get_map {expr : Bool} {Q : Value → Shared → Prop} (X : K.In s.heap) (I : ObjM s.heap x dx C mA) (hg : PySem.W.plainGet K C name = true) (hh : PySem.W.hasDictIn K C = true)
    (ha : PySem.W.findIn K (.ref C) name = some none) (hv : mA name = some v) (hv' : PySem.W.handedIn v = true) (h : Q v { s with toks := s.toks + 1 }) :
    wpAny (model prog w) A (getAttr (.ref x) name expr) Q E s := by
  obtain ⟨od, J, hl⟩ := I.look
  exact PySem.W.get_value X J (PySem.W.plainGet_of hg).1 (PySem.W.findObj_own hh ha rfl (by rw [hl, hv])) hv' h
theorem get_meth {pl : Sem Bool} {Q : Value × List Value → Shared → Prop} (X : K.In s.heap) (I : ObjM s.heap x dx C mA) (hg : PySem.W.plainGet K C name = true)
    (hf : PySem.W.findIn K (.ref C) name = some (some (.ref f))) (ht : PySem.W.isFn K (.ref f) = true) (hv : mA name = none) (h : Q (.ref f, [.ref x]) s) :
    wpAny (model prog w) A (getMethod (.ref x) name pl) Q E s := by
  obtain ⟨od, J, hl⟩ := I.look
  exact PySem.W.method_fn X J (PySem.W.plainGet_of hg).1 (PySem.W.plainGet_of hg).2 hf (beq_iff_eq.mp ht) (by show (PySem.W.lookIn name od).map (·.isSome) = some false; rw [hl, hv]; rfl) h
theorem set_map {ns : List Str} {Q : Unit → Shared → Prop} (X : K.In s.heap) (I : ObjM s.heap x dx C mA)
    (hs : PySem.W.findIn K (.ref C) "__setattr__" = some (some (.builtin "object.__setattr__"))) (hp : PySem.W.plainOver K C = true) (ht : PySem.W.takerIn K C name = some none) (hh : PySem.W.hasDictIn K C = true)
    (hw : PySem.Within mA ns) (hsz : ns.length ≤ sizeLine)
    (h : ∀ h', ObjM h' x dx C (fun y => if y = name then some v else mA y) → Heap.SameBut dx s.heap h' → Q () { s with heap := h', toks := s.toks + 2 }) :
    wpAny (model prog w) A (setAttr (.ref x) name v) Q E s := by
  obtain ⟨od, J, hl⟩ := I.look
  refine PySem.W.set_plain X J hs (PySem.W.osa_open (s := { s with toks := s.toks + 1 }) (r := none) X J hp ht fun b => ?_)
  obtain ⟨cd, hc, hd'⟩ := PySem.W.any_some hh
  have hx : s.heap.get? x = some ⟨.ref C, some dx, .plain, #[]⟩ := I.obj
  refine wpAny_bind (wpAny_pure (wpAny_bind (wpAny_bind (wpAny_loadPart hx (wpAny_bind (PySem.W.Looks.here (s := { s with toks := s.toks + 1 }) (PySem.W.looks_clsIn X hc) ?_))))))
  rw [hd']
  refine wpAny_pure (a := some dx) (wpAny_bind (wpAny_pure (wpAny_bind ?_)))
  refine wpAny_nsSet1 (s := { s with toks := s.toks + 1 }) I.ns fun h' hn2 hs2 => ?_
  obtain ⟨oD, esD, epD, hoD, hdD, hcD⟩ := hn2.count (PySem.Within.cons name v hw)
  refine wpAny_bind (wpAny_lookBehind hoD (by rw [hdD]; exact pastItsLine_dict (Nat.le_trans hcD (by rw [List.length_cons]; omega))) ?_)
  exact wpAny_pure (h _ ⟨(hs2.2 _ (Ne.symm I.ne)).trans I.obj, hn2, I.ne⟩ hs2)
theorem make_map {R : Result → Shared → Prop} {vs : List Value} {kw : List (Str × Value)} (X : K.In s.heap) (hm : PySem.W.makesIn K C = true)
    (hi : PySem.W.findIn K (.ref C) "__init__" = some (some (.ref f))) (hf : PySem.W.typeIn K (.ref f) = some (.type "function"))
    (h : codeAny (model prog w) (A.under (.builtin "type.__call__" ⟨.ref C :: vs, kw⟩)) (.call (.ref f) ⟨.ref (s.heap.objs.size + 1) :: vs, kw⟩) (PySem.W.InitBack (s.heap.objs.size + 1) R)
      { s with heap := (s.heap.push PySem.W.emptyDict).push (PySem.W.instObj C s.heap.objs.size) }) :
    codeAny (model prog w) A (.call (.ref C) ⟨vs, kw⟩) R s := by
  obtain ⟨hh, g, d, t, os⟩ := s
  exact PySem.W.make_core (PySem.W.makes_of X hm) (PySem.W.looks_findIn X hi) (fun self => PySem.W.bind_fn X self hf) (.inl rfl) h
end
def putF (f : Str) (v : V) : List (Str × V) → List (Str × V)
  | [] => [(f, v)]
  | (g, x) :: r => if g = f then (g, v) :: r else (g, x) :: putF f v r
theorem lookup_putF (f g : Str) (v : V) : ∀ fs : List (Str × V), (putF f v fs).lookup g = if g = f then some v else fs.lookup g
  | [] => by
    show List.lookup g [(f, v)] = _
    by_cases h : g = f
    · have hb : (g == f) = true := beq_iff_eq.mpr h
      simp only [List.lookup, hb, if_pos h]
    · have hb : (g == f) = false := beq_eq_false_iff_ne.mpr h
      simp only [List.lookup, hb, if_neg h]
  | (k, x) :: r => by
    have ih := lookup_putF f g v r
    rw [show putF f v ((k, x) :: r) = (if k = f then (k, v) :: r else (k, x) :: putF f v r) from rfl]
    by_cases hk : k = f
    · rw [if_pos hk]
      by_cases h : g = k
      · have hb : (g == k) = true := beq_iff_eq.mpr h
        simp only [List.lookup, hb, if_pos (h.trans hk)]
      · have hb : (g == k) = false := beq_eq_false_iff_ne.mpr h
        simp only [List.lookup, hb, if_neg (fun e : g = f => h (e.trans hk.symm))]
    · rw [if_neg hk]
      by_cases h : g = k
      · have hb : (g == k) = true := beq_iff_eq.mpr h
        simp only [List.lookup, hb, if_neg (fun e : g = f => hk (h.symm.trans e))]
      · have hb : (g == k) = false := beq_eq_false_iff_ne.mpr h
        simp only [List.lookup, hb]
        exact ih
theorem keys_putF (f : Str) (v : V) : ∀ fs : List (Str × V), f ∈ (putF f v fs).map (·.1) ∧ ∀ g, g ∈ fs.map (·.1) → g ∈ (putF f v fs).map (·.1)
  | [] => ⟨by simp [putF], fun g h => by simp at h⟩
  | (k, x) :: r => by
    obtain ⟨i1, i2⟩ := keys_putF f v r
    rw [show putF f v ((k, x) :: r) = (if k = f then (k, v) :: r else (k, x) :: putF f v r) from rfl]
    by_cases hk : k = f
    · rw [if_pos hk]
      subst hk
      exact ⟨by simp, fun g h => by simpa using h⟩
    · rw [if_neg hk]
      refine ⟨?_, fun g h => ?_⟩
      · rw [List.map_cons]
        exact List.mem_cons_of_mem _ i1
      · rw [List.map_cons] at h ⊢
        rcases List.mem_cons.mp h with e | e
        · exact List.mem_cons.mpr (.inl e)
        · exact List.mem_cons_of_mem _ (i2 g e)
theorem length_putF (f : Str) (v : V) : ∀ fs : List (Str × V), (putF f v fs).length ≤ fs.length + 1
  | [] => by simp [putF]
  | (k, x) :: r => by
    have ih := length_putF f v r
    rw [show putF f v ((k, x) :: r) = (if k = f then (k, v) :: r else (k, x) :: putF f v r) from rfl]
    by_cases hk : k = f
    · rw [if_pos hk, List.length_cons, List.length_cons]; omega
    · rw [if_neg hk, List.length_cons, List.length_cons]; omega
theorem RelO.some_of {v : V} {o : Option Value} (r : RelO (some v) o) : ∃ u, o = some u ∧ RelV v u := by
  cases o with
  | none => exact (show False from r).elim
  | some u => exact ⟨u, rfl, r⟩
theorem RelO.none_of {o : Option Value} (r : RelO none o) : o = none := by
  cases o with
  | none => rfl
  | some u => exact (show False from r).elim
theorem handed_of {v : V} {u : Value} (r : RelV v u) : PySem.W.handedIn u = true := by
  cases v with
  | non => cases (show u = Value.none from r); rfl
  | bl b => cases (show u = Value.bool b from r); rfl
  | int i => obtain ⟨t, e⟩ := (show ∃ t, u = Value.int i t from r); cases e; rfl
  | str x => obtain ⟨t, e⟩ := (show ∃ t, u = Value.str x t from r); cases e; rfl
  | byt b => obtain ⟨t, e⟩ := (show ∃ t, u = Value.bytes b t from r); cases e; rfl
  | flt b => obtain ⟨t, e⟩ := (show ∃ t, u = Value.float b t from r); cases e; rfl
  | ref a => cases (show u = Value.ref a from r); rfl
  | ty n => cases (show u = Value.type n from r); rfl
section
variable {P : Program} {w : World} {H H' : Hp} {h h' : Heap} {a C dx : Addr} {fs fs' : List (Str × V)}
theorem ins_get (hok : HOk P w H h) (e : H a = some (.ins C dx fs)) : ∃ mA, ObjM h a dx C mA ∧ (∀ f, RelO (fs.lookup f) (mA f)) ∧ PySem.Within mA (fs.map (·.1)) ∧ fs.length ≤ 1000 ∧ H dx = some (.own a) := by
  obtain ⟨d, z, ne, ob, mA, n, r, q⟩ := (show ObjOk P w H h a (.ins C dx fs) from hok a _ e)
  exact ⟨mA, ⟨ob, n, ne⟩, r, q, z, d⟩
end
structure Cls (K : PySem.W.Frag) (C : Addr) : Prop where
  pg : PySem.W.plainGet K C Str.empty = true
  hd : PySem.W.hasDictIn K C = true
  po : PySem.W.plainOver K C = true
  sa : PySem.W.findIn K (.ref C) "__setattr__" = some (some (.builtin "object.__setattr__"))
theorem Cls.get {K : PySem.W.Frag} {C : Addr} (c : Cls K C) (f : Str) : PySem.W.plainGet K C f = true := c.pg
def NoAttr (K : PySem.W.Frag) (C : Addr) (f : Str) : Prop := PySem.W.findIn K (.ref C) f = some none
theorem NoAttr.taker {K : PySem.W.Frag} {C : Addr} {f : Str} (n : NoAttr K C f) : PySem.W.takerIn K C f = some none := by
  unfold PySem.W.takerIn
  rw [show PySem.W.findIn K (.ref C) f = some none from n]
  rfl
structure Meth (K : PySem.W.Frag) (C : Addr) (m : Str) (f : Addr) : Prop where
  at_ : PySem.W.findIn K (.ref C) m = some (some (.ref f))
  fn : PySem.W.isFn K (.ref f) = true
  kp : PySem.W.keepIn K (.ref f) = true
section
variable {X : Cx} {pins : List (Addr × Obj)} {σ : St} {H : Hp} {s : Shared} {a C dx : Addr} {fs : List (Str × V)} {f : Str} {v : V} {A : Around} {E : Value → Shared → Prop}
theorem getattr_ok {b : Bool} {Q : Value → Shared → Prop} (I : Inv X pins σ H s) (e : H a = some (.ins C dx fs)) (c : Cls X.K C) (n : NoAttr X.K C f) (l : fs.lookup f = some v)
    (h : ∀ u s', Inv X pins σ H s' → RelV v u → Q u s') : wpAny (model X.prog X.w) A (getAttr (.ref a) f b) Q E s := by
  obtain ⟨mA, O, r, _, _, _⟩ := ins_get I.hok e
  obtain ⟨u, hu, ru⟩ := RelO.some_of (v := v) (o := mA f) (by rw [← l]; exact r f)
  exact get_map I.kIn O (c.get f) c.hd n hu (handed_of ru) (h u _ (I.tok _) ru)
theorem getmeth_ok {m : Str} {g : Addr} {pl : Sem Bool} {Q : Value × List Value → Shared → Prop} (I : Inv X pins σ H s) (e : H a = some (.ins C dx fs)) (c : Cls X.K C) (k : Meth X.K C m g) (l : fs.lookup m = none)
    (h : Q (.ref g, [.ref a]) s) : wpAny (model X.prog X.w) A (getMethod (.ref a) m pl) Q E s := by
  obtain ⟨mA, O, r, _, _, _⟩ := ins_get I.hok e
  have hn : mA m = none := RelO.none_of (by rw [← l]; exact r m)
  exact get_meth I.kIn O (c.get m) k.at_ k.fn hn h
theorem setattr_ok {y : V} {u : Value} {Q : Unit → Shared → Prop} (I : Inv X pins σ H s) (e : H a = some (.ins C dx fs)) (c : Cls X.K C) (n : NoAttr X.K C f) (hl : fs.length < 1000) (ry : RelV y u)
    (h : ∀ s', Inv X pins σ (upd H a (.ins C dx (putF f y fs))) s' → Q () s') : wpAny (model X.prog X.w) A (setAttr (.ref a) f u) Q E s := by
  obtain ⟨mA, O, r, wi, _, ho⟩ := ins_get I.hok e
  have hz : (fs.map (·.1)).length ≤ sizeLine := by rw [List.length_map, sizeLine_eq]; omega
  refine set_map I.kIn O c.sa c.po n.taker c.hd wi hz fun h' O' sb => h _ ?_
  have hd : ∃ o, h'.get? dx = some o := let ⟨o, _, _, e', _⟩ := O'.ns; ⟨o, e'⟩
  refine I.write (x := a) (e := dx) (by rw [e]; exact True.intro) (.inr ho) (fun b q hb z => (sb.2 b hb).trans z) hd ?_
  refine ⟨by rw [upd_ne O.ne]; exact ho, ?_, O.ne, O'.obj, _, O'.ns, fun g => ?_, fun g hg => ?_⟩
  · have := length_putF f y fs; omega
  · show RelO ((putF f y fs).lookup g) (if g = f then some u else mA g)
    rw [lookup_putF]
    by_cases q : g = f
    · rw [if_pos q, if_pos q]; exact ry
    · rw [if_neg q, if_neg q]; exact r g
  · by_cases q : g = f
    · rw [q]; exact (keys_putF f y fs).1
    · refine (keys_putF f y fs).2 g (wi g fun z => hg ?_)
      show (if g = f then some u else mA g) = none
      rw [if_neg q]; exact z
theorem Inv.made (I : Inv X pins σ H s) : Inv X pins σ (upd (upd H s.heap.objs.size (.own (s.heap.objs.size + 1))) (s.heap.objs.size + 1) (.ins C s.heap.objs.size []))
    { s with heap := (s.heap.push PySem.W.emptyDict).push (PySem.W.instObj C s.heap.objs.size) } := by
  have e1 : (s.heap.push PySem.W.emptyDict).get? s.heap.objs.size = some PySem.W.emptyDict := Heap.get?_push_size s.heap rfl
  have e2 : ((s.heap.push PySem.W.emptyDict).push (PySem.W.instObj C s.heap.objs.size)).get? (s.heap.objs.size + 1) = some (PySem.W.instObj C s.heap.objs.size) := by
    have := Heap.get?_push_size (s.heap.push PySem.W.emptyDict) (o := PySem.W.instObj C s.heap.objs.size) rfl
    rwa [Heap.size_push] at this
  have e3 : (s.heap.push PySem.W.emptyDict).Ns s.heap.objs.size (fun _ => none) := ⟨PySem.W.emptyDict, #[], _, e1, rfl, (fun e he => absurd he (by simp)), fun _ => rfl⟩
  have I1 := I.laid (a := s.heap.objs.size) (o := .own (s.heap.objs.size + 1)) (h' := s.heap.push PySem.W.emptyDict) (t' := s.toks) (fun b u q => Heap.get?_push_of_some _ q) (Nat.le_refl _) ⟨_, e1⟩
  refine I1.laid (a := s.heap.objs.size + 1) (o := .ins C s.heap.objs.size []) (t' := s.toks) (fun b u q => Heap.get?_push_of_some _ q) (Nat.le_of_eq (Heap.size_push _ _)) ?_
  have ne : s.heap.objs.size ≠ s.heap.objs.size + 1 := Nat.ne_of_lt (Nat.lt_succ_self _)
  refine ⟨by rw [upd_ne ne, upd_same], Nat.zero_le _, ne, e2, fun _ => none, (Heap.Ns1.of_empty e3).at fun o q => Heap.get?_push_of_some _ q, fun _ => True.intro, fun y hy => absurd rfl hy⟩
theorem attr_of {prog : Program} {w : World} {env : Env} {e : Expr} {f : Str} {pos : Pos} {s : Shared} {Q : Value → Shared → Prop} (hb : attributeBase e f env (eval e env) = eval e env)
    (h : wpAny (model prog w) A (eval e env) (fun o s₁ => wpAny (model prog w) A (getAttr o f true) Q E s₁) E s) : wpAny (model prog w) A (eval (.Attribute e f pos) env) Q E s :=
  Attribute_any_ h (by rw [arm_eval_Attribute, hb])
end
def tFld (K : PySem.W.Frag) (ta : TE) (f : Str) : TE := fun σ H Q => ta σ H fun x H1 => ∃ a C dx fs v, x = .ref a ∧ H1 a = some (.ins C dx fs) ∧ Cls K C ∧ NoAttr K C f ∧ fs.lookup f = some v ∧ Q v H1
def sFld (K : PySem.W.Frag) (ta tv : TE) (f : Str) : TS := fun D σ H => tv σ H fun y H1 => ta σ H1 fun x H2 => ∃ a C dx fs, x = .ref a ∧ H2 a = some (.ins C dx fs) ∧ Cls K C ∧ NoAttr K C f ∧ fs.length < 1000 ∧
  D.nx σ (upd H2 a (.ins C dx (putF f y fs)))
section
variable {X : Cx} {o e value : Expr} {f : Str} {pos pos' tpos : Pos} {ta tv : TE}
theorem pe_fld (he : PE X e ta) (hb : attributeBase e f X.env (eval e X.env) = eval e X.env) : PE X (.Attribute e f pos) (tFld X.K ta f) := by
  intro pins s σ H Q I h
  refine attr_of hb (thn (he pins s σ H _ I h) fun u s1 ⟨x, H1, I1, rx, a, C, dx, fs, v, ex, ea, c, n, l, q⟩ => ?_)
  subst ex
  obtain rfl : u = Value.ref a := rx
  exact getattr_ok I1 ea c n l fun u' s2 I2 ru => ⟨v, H1, I2, ru, q⟩
theorem ps_fld (ha : PE X o ta) (hv : PE X value tv) (hs : swapsWith value (some (.Attribute o f pos')) pos.line X.env = pure false) : PS X (.Assign [.Attribute o f pos'] value pos) (sFld X.K ta tv f) := by
  intro pins s σ H D I h
  refine plainObj_wpAny_Assign_Attribute (thn (hv pins s σ H _ I h) fun u s1 ⟨y, H1, I1, ry, q⟩ => thn (ha pins s1 σ H1 _ I1 q) fun ov s2 ⟨x, H2, I2, rx, a, C, dx, fs, ex, ea, c, n, l, q2⟩ => ?_) hs
  subst ex
  obtain rfl : ov = Value.ref a := rx
  exact setattr_ok I2 ea c n l ry fun s3 I3 => ⟨σ, _, I3, q2⟩
end
section
variable {X : Cx} {pins : List (Addr × Obj)} {σ : St} {H : Hp} {s : Shared} {A : Around} {E : Value → Shared → Prop} {Q : Value → Shared → Prop} {c : Value} {b : Bool}
inductive TyOf (K : PySem.W.Frag) (H : Hp) : V → Value → Prop where
  | non : TyOf K H .non (.type "NoneType")
  | bl (x : Bool) : TyOf K H (.bl x) (.type "bool")
  | int (i : Int) : TyOf K H (.int i) (.type "int")
  | str (x : Str) : TyOf K H (.str x) (.type "str")
  | flt (x : UInt64) : TyOf K H (.flt x) (.type "float")
  | lst {a : Addr} {xs : List V} (e : H a = some (.lst xs)) : TyOf K H (.ref a) (.type "list")
  | frz {a : Addr} {o : Obj} {xs : List V} (e : H a = some (.frz o (.lst xs))) : TyOf K H (.ref a) (.type "list")
  | tup {a : Addr} {xs : List V} (e : H a = some (.tup xs)) : TyOf K H (.ref a) (.type "tuple")
  | dK {a : Addr} {kvs : List (Key × V)} (e : H a = some (.dK kvs)) : TyOf K H (.ref a) (.type "dict")
  | dT {a : Addr} {kvs : List (List Key × V)} (e : H a = some (.dT kvs)) : TyOf K H (.ref a) (.type "dict")
  | ins {a C dx : Addr} {fs : List (Str × V)} (e : H a = some (.ins C dx fs)) (cl : Cls K C) (ha : PySem.W.findIn K (.ref C) "__class__" = some (some (.builtin "object.__class__")))
      (hn : PySem.W.specialIn K (.builtin "object.__class__") "__get__" = some (some (.builtin "getset_descriptor.__get__"))) (htk : PySem.W.takesIn K (.builtin "object.__class__") = some true)
      (hm : PySem.W.mroIn K C (.type "object") = some true) : TyOf K H (.ref a) (.ref C)
theorem isinst_ok {x : V} {u t : Value} (I : Inv X pins σ H s) (rx : RelV x u) (ty : TyOf X.K H x t) (e : PySem.W.kitOne X.K t c = some b) (h : ∀ tk, Q (.bool b) { s with toks := tk }) :
    wpAny (model X.prog X.w) A (call (.builtin "isinstance") [u, c]) Q E s := by
  cases ty with
  | non => cases (show u = Value.none from rx); exact PySem.W.kia_one PySem.W.kitx_none I.kIn True.intro e (fun z => nomatch z) h
  | bl y => cases (show u = Value.bool y from rx); exact PySem.W.kia_one PySem.W.kitx_bool I.kIn True.intro e (fun z => nomatch z) h
  | int i => obtain ⟨t, q⟩ := (show ∃ t, u = Value.int i t from rx); cases q; exact PySem.W.kia_one PySem.W.kitx_int I.kIn True.intro e (fun z => nomatch z) h
  | str y => obtain ⟨t, q⟩ := (show ∃ t, u = Value.str y t from rx); cases q; exact PySem.W.kia_one PySem.W.kitx_str I.kIn True.intro e (fun z => nomatch z) h
  | flt y => obtain ⟨t, q⟩ := (show ∃ t, u = Value.float y t from rx); cases q; exact PySem.W.kia_one PySem.W.kitx_float I.kIn True.intro e (fun z => nomatch z) h
  | @lst a xs ea =>
    cases (show u = Value.ref a from rx)
    obtain ⟨_, _, n, _, h1⟩ := (show ObjOk X.prog X.w H s.heap a (.lst xs) from I.hok a _ ea)
    exact PySem.W.kia_one PySem.W.kitx_list I.kIn ⟨_, h1, rfl⟩ e (fun z => nomatch z) h
  | @frz a ob xs ea =>
    cases (show u = Value.ref a from rx)
    obtain ⟨_, _, _, n, _, h1⟩ := (show ObjOk X.prog X.w H s.heap a (.frz ob (.lst xs)) from I.hok a _ ea)
    exact PySem.W.kia_one PySem.W.kitx_list I.kIn ⟨_, h1, rfl⟩ e (fun z => nomatch z) h
  | @tup a xs ea =>
    cases (show u = Value.ref a from rx)
    obtain ⟨_, _, _, p⟩ := (show ObjOk X.prog X.w H s.heap a (.tup xs) from I.hok a _ ea)
    obtain ⟨o, h1, h2, _⟩ := p
    exact PySem.W.kia_one PySem.W.kitx_tuple I.kIn ⟨o, h1, h2⟩ e (fun z => nomatch z) h
  | @dK a kvs ea =>
    cases (show u = Value.ref a from rx)
    obtain ⟨_, _, vs, _, p⟩ := (show ObjOk X.prog X.w H s.heap a (.dK kvs) from I.hok a _ ea)
    obtain ⟨o, es, ep, h1, h2, _⟩ := p
    exact PySem.W.kia_one PySem.W.kitx_dict I.kIn ⟨o, h1, h2.1⟩ e (fun z => nomatch z) h
  | @dT a kvs ea =>
    cases (show u = Value.ref a from rx)
    obtain ⟨_, _, xs, _, o, es, ep, h1, h2, _⟩ := (show ObjOk X.prog X.w H s.heap a (.dT kvs) from I.hok a _ ea)
    exact PySem.W.kia_one PySem.W.kitx_dict I.kIn ⟨o, h1, h2.1⟩ e (fun z => nomatch z) h
  | @ins a C dx fs ea cl ha hn htk hm =>
    cases (show u = Value.ref a from rx)
    obtain ⟨mA, O, _⟩ := ins_get I.hok ea
    obtain ⟨od, J, _⟩ := O.look
    exact PySem.W.kia_one (PySem.W.kitx_own (cl.get _) cl.hd ha hn htk hm) I.kIn J e (fun z => nomatch z) h
end
end L2
namespace L2
open PySem PySem.Spec PyProof.Rows
structure Room (k : Nat) (A : Around) : Prop where
  hd : A.handled = none
  dp : A.depth + 3 * k + 5 < recursionLimit
  un : A.units + 16 * k + 200 < cLine
theorem Room.mono {j k : Nat} {A : Around} (r : Room k A) (h : j ≤ k) : Room j A := ⟨r.hd, by have := r.dp; omega, by have := r.un; omega⟩
theorem Room.deeper {k : Nat} {A : Around} (r : Room (k + 1) A) (env : Env) : Room k (A.deeper env) :=
  ⟨r.hd, by have := r.dp; show A.depth + 1 + 3 * k + 5 < _; omega, by have := r.un; show A.units + 3 + 16 * k + 200 < _; omega⟩
theorem make_depth {A : Around} {C : Addr} {us : List Value} {kw : List (Str × Value)} : (A.under (.builtin "type.__call__" ⟨.ref C :: us, kw⟩)).depth = A.depth + 1 := by
  first | rfl | simp [Around.under, Code.weight, Code.isCreation, Code.isGuard, Code.isCaller, Code.frames, Code.isFrame, guardIds]
theorem make_units {A : Around} {C : Addr} {us : List Value} {kw : List (Str × Value)} : (A.under (.builtin "type.__call__" ⟨.ref C :: us, kw⟩)).units = A.units + 1 := by
  first | rfl | simp [Around.under, Code.cUnits, Code.frames, Code.isFrame]
theorem Room.make {k : Nat} {A : Around} (r : Room (k + 1) A) (C : Addr) (us : List Value) (kw : List (Str × Value)) : Room k (A.under (.builtin "type.__call__" ⟨.ref C :: us, kw⟩)) :=
  ⟨r.hd, by have := r.dp; rw [make_depth]; omega, by have := r.un; rw [make_units]; omega⟩
theorem Room.depth {k : Nat} {A : Around} (r : Room k A) : A.depth < recursionLimit := by have := r.dp; omega
theorem Room.units {k : Nat} {A : Around} (r : Room k A) : A.units + 64 < cLine := by have := r.un; omega
def tNil : TA := fun _ H Q => Q [] H
def tCons (ta : TE) (tr : TA) : TA := fun σ H Q => ta σ H fun x H1 => tr σ H1 fun xs H2 => Q (x :: xs) H2
section
variable {X : Cx} {e : Expr} {es : List Expr} {te : TE} {t : TA} {pos : Pos}
theorem pa_nil : PA X [] tNil := fun _ _ _ _ H Q I h => Calls.spliced_nil ⟨[], H, I, .nil, h⟩
theorem pa_cons (ha : PE X e te) (hr : PA X es t) (hs : starEach (e :: es) X.env = (false, eval e X.env) :: starEach es X.env := by rfl) : PA X (e :: es) (tCons te t) := by
  intro pos pins s σ H Q I h
  rw [hs]
  show wpAny _ _ (spliced ((false, eval e X.env) :: backTo pos (starEach es X.env))) _ _ s
  refine Calls.spliced_cons (thn (ha pins s σ H _ I h) fun u s1 ⟨x, H1, I1, r1, q1⟩ => ?_)
  exact thn (hr pos pins s1 σ H1 _ I1 q1) fun us s2 ⟨xs, H2, I2, r2, q2⟩ => ⟨x :: xs, H2, I2, .cons r1 r2, q2⟩
def tTup (t : TA) : TE := fun σ H Q => t σ H fun xs H1 => xs.length ≤ sizeLine ∧ ∀ p, H1 p = none → Q (.ref p) (upd H1 p (.tup xs))
def tLst (t : TA) : TE := fun σ H Q => t σ H fun xs H1 => xs.length ≤ sizeLine ∧ ∀ p, H1 p = none → Q (.ref p) (upd H1 p (.lst xs))
theorem pe_tup {x1} (h : PA X es t) : PE X (.Tuple es x1 pos) (tTup t) := by
  intro pins s σ H Q I hq
  refine wpAny_Tuple_spliced (thn (h pos pins s σ H _ I hq) fun us s1 ⟨xs, H1, I1, r, z, q⟩ => ⟨by rw [← r.length]; exact z, ?_⟩)
  have hf : H1 s1.heap.objs.size = none := I1.hok.fresh (Nat.le_refl _)
  refine ⟨.ref s1.heap.objs.size, upd H1 s1.heap.objs.size (.tup xs), I1.laid (t' := s1.toks) (fun b u e => Heap.get?_push_of_some _ e) (Nat.le_refl _) ?_, rfl, q _ hf⟩
  exact ⟨z, us, r, ⟨_, Heap.get?_push_size _ rfl, rfl, _, rfl⟩⟩
theorem pe_lst (h : PA X es t) : PE X (.List es pos) (tLst t) := by
  intro pins s σ H Q I hq
  refine wpAny_List_spliced (thn (h pos pins s σ H _ I hq) fun us s1 ⟨xs, H1, I1, r, z, q⟩ => ⟨by rw [← r.length]; exact z, ?_⟩)
  have hf : H1 s1.heap.objs.size = none := I1.hok.fresh (Nat.le_refl _)
  refine ⟨.ref s1.heap.objs.size, upd H1 s1.heap.objs.size (.lst xs), I1.laid (t' := s1.toks) (fun b u e => Heap.get?_push_of_some _ e) (Nat.le_refl _) ?_, rfl, q _ hf⟩
  exact ⟨z, us, 0, r, Heap.get?_push_size _ rfl⟩
end
abbrev Sp := List V → Hp → VK → XK → Prop
abbrev CXT := List Env → Hp → Shared → XK → Value → Shared → Prop
structure Env0 (P : Program) (w : World) (K : PySem.W.Frag) (mg : Str → Option Value) (base : Heap) (A : Around) (outer : List Env) (s : Shared) (H : Hp) : Prop where
  frames : A.frames = some outer
  mod : Mod K mg base
  bs : ∀ b o, base.get? b = some o → s.heap.get? b = some o ∧ H b = none
  bsz : base.objs.size ≤ s.heap.objs.size
  funs : s.heap.FunFrames base outer
  frf : ∀ b ∈ frs outer, H b = none
  hok : HOk P w H s.heap
  bare : AllBare s.gens
def CE (outer : List Env) (P : Program) (w : World) (H : Hp) (s : Shared) (Q : VK) (u : Value) (s' : Shared) : Prop :=
  ∃ v H', s'.os = s.os ∧ AllBare s'.gens ∧ Un (frs outer) [] H H' s.heap s'.heap ∧ HOk P w H' s'.heap ∧ RelV v u ∧ Q v H'
def CR (CX : CXT) (outer : List Env) (P : Program) (w : World) (H : Hp) (s : Shared) (Q : VK) (E : XK) (r : Result) (s' : Shared) : Prop :=
  match r with
  | .ok (.ret u) => CE outer P w H s Q u s'
  | .ok _ => False
  | .error e => CX outer H s E e s'
structure FnOk (P : Program) (w : World) (K : PySem.W.Frag) (mg : Str → Option Value) (base : Heap) (CX : CXT) (k : Nat) (f : Addr) (fd : FuncData) (ps : List Str) (sp : Sp) : Prop where
  len : ∀ vs H Q E, sp vs H Q E → vs.length = ps.length
  run : ∀ (A : Around) (outer : List Env) (s : Shared) (H : Hp) (args : Args) (us : List Value) (vs : List V) (Q : VK) (E : XK), Room k A → Env0 P w K mg base A outer s H → BindsTo s fd args (ps.zip us) → Vals vs us → sp vs H Q E →
    codeAny (model P w) A (.call (.ref f) args) (CR CX outer P w H s Q E) s
theorem Env0.make {P : Program} {w : World} {K : PySem.W.Frag} {mg : Str → Option Value} {base : Heap} {A : Around} {outer : List Env} {s : Shared} {H : Hp} (e : Env0 P w K mg base A outer s H) (C : Addr) (us : List Value) (kw : List (Str × Value)) :
    Env0 P w K mg base (A.under (.builtin "type.__call__" ⟨.ref C :: us, kw⟩)) outer s H := ⟨by first | exact e.frames | (simpa [Around.under, Code.envs, Code.isFrame, pushEnvs] using e.frames), e.mod, e.bs, e.bsz, e.funs, e.frf, e.hok, e.bare⟩
section
variable {X : Cx} {pins : List (Addr × Obj)} {σ : St} {H : Hp} {s s' : Shared}
theorem Inv.env0 (I : Inv X pins σ H s) : Env0 X.prog X.w X.K X.mg X.base X.A X.stack s H :=
  ⟨I.ok.frames, I.ok.mod, I.bs, Nat.le_trans I.ok.bsz I.sz, I.stack, I.stkFree, I.hok, I.bare⟩
theorem Inv.after {Q : VK} {u : Value} (I : Inv X pins σ H s) (h : CE X.stack X.prog X.w H s Q u s') : EP X pins σ Q u s' := by
  obtain ⟨v, H', os, bare, un, hok, r, q⟩ := h
  obtain ⟨hh, g, d, t, os'⟩ := s'
  obtain rfl : os' = s.os := os
  exact ⟨v, H', I.call (h' := hh) (g' := g) (d' := d) (t' := t) (ch := []) un hok bare (fun b z => absurd z (by simp)), r, q⟩
end
def tCall (sp : Sp) (dvs : List V) (E : XK) (t : TA) : TE := fun σ H Q => t σ H fun vs H1 => sp (vs ++ dvs) H1 Q E
def tMeth (C : Addr) (m : Str) (sp : Sp) (dvs : List V) (E : XK) (ta : TE) (t : TA) : TE := fun σ H Q => ta σ H fun x H1 => ∃ a dx fs, x = .ref a ∧ H1 a = some (.ins C dx fs) ∧ fs.lookup m = none ∧
  t σ H1 fun vs H2 => sp (x :: (vs ++ dvs)) H2 Q E
def tMake (C : Addr) (sp : Sp) (dvs : List V) (E : XK) (t : TA) : TE := fun σ H Q => t σ H fun vs H1 => ∀ x dx, H1 x = none → H1 dx = none → dx ≠ x →
  sp (.ref x :: (vs ++ dvs)) (upd (upd H1 dx (.own x)) x (.ins C dx [])) (fun v H2 => v = .non ∧ Q (.ref x) H2) E
def Binds (K : PySem.W.Frag) (fd : FuncData) (ps : List Str) (ds : List Value) : Prop :=
  ∀ (s : Shared) (us : List Value), K.In s.heap → (us ++ ds).length = ps.length → BindsTo s fd ⟨us, []⟩ (ps.zip (us ++ ds))
theorem Binds.all {K : PySem.W.Frag} {fd : FuncData} {ps : List Str} (h : ∀ us : List Value, us.length = ps.length → bindArgs fd ⟨us, []⟩ = pure (ps.zip us)) : Binds K fd ps [] := fun s us _ hl => by
  rw [List.append_nil] at hl ⊢
  exact .of_eq (h us hl)
def Passes (CX : CXT) (X : Cx) (E : XK) : Prop := ∀ (pins : List (Addr × Obj)) (σ : St) (H : Hp) (s : Shared) (e : Value) (s' : Shared), Inv X pins σ H s → CX X.stack H s E e s' → X.xe e s'
section
variable {X : Cx} {CX : CXT} {k : Nat} {f C : Addr} {fd : FuncData} {ps : List Str} {sp : Sp} {dvs : List V} {ds : List Value} {E : XK} {x m : Str} {p pos apos : Pos} {e o : Expr} {es : List Expr} {ta : TE} {t : TA}
theorem run_fn {pins : List (Addr × Obj)} {σ : St} {H : Hp} {s : Shared} {Q : VK} {us : List Value} {vs : List V} (F : FnOk X.prog X.w X.K X.mg X.base CX k f fd ps sp) (hr : Room k X.A) (hb : Binds X.K fd ps ds) (hd : Vals dvs ds) (hx : Passes CX X E)
    (I : Inv X pins σ H s) (r : Vals vs us) (h : sp (vs ++ dvs) H Q E) : wpAny (model X.prog X.w) X.A (call (.ref f) us) (EP X pins σ Q) X.xe s := by
  have r2 : Vals (vs ++ dvs) (us ++ ds) := r.append hd
  have hl : (us ++ ds).length = ps.length := by rw [← r2.length]; exact F.len _ _ _ _ h
  refine wpAny_call (codeAny_mono (F.run X.A X.stack s H ⟨us, []⟩ (us ++ ds) (vs ++ dvs) Q E hr I.env0 (hb s us I.kIn hl) r2 h) fun r s' hq => ?_)
  cases r with
  | error e => exact hx pins σ H s e s' I hq
  | ok fl =>
    cases fl with
    | ret u => exact I.after hq
    | next => exact False.elim hq
    | brk => exact False.elim hq
    | cont => exact False.elim hq
theorem pe_call (F : FnOk X.prog X.w X.K X.mg X.base CX k f fd ps sp) (hr : Room k X.A) (hg : Gl X x) (hm : X.mg x = some (.ref f)) (hk : PySem.W.keepIn X.K (.ref f) = true) (hb : Binds X.K fd ps ds) (hd : Vals dvs ds) (hx : Passes CX X E)
    (ha : PA X (e :: es) t) (hdb : (x == ("__debug__" : Str)) = false := by decide) (he : starEach (e :: es) X.env = (false, eval e X.env) :: starEach es X.env := by rfl) (hpl : (backTo pos (starEach es X.env)).any (·.1) = false := by rfl) :
    PE X (.Call (.Name x p) (e :: es) [] pos) (tCall sp dvs E t) := by
  intro pins s σ H Q I h
  refine wpAny_Call_Name_kw (ld_glob I hg hm ?_ hdb)
  refine PySem.W.callWith_K (h₀ := X.base) I.ok.mod.kin hk (thn (ha pos pins s σ H _ I h) fun us s1 ⟨vs, H1, I1, r, q⟩ => ⟨I1.kIn, ?_⟩) he hpl
  exact run_fn F hr hb hd hx I1 r q
theorem pe_meth {pl : Sem Bool} (he : PE X o ta) (c : Cls X.K C) (hm : Meth X.K C m f) (F : FnOk X.prog X.w X.K X.mg X.base CX k f fd ps sp) (hr : Room k X.A) (hb : Binds X.K fd ps ds) (hd : Vals dvs ds) (hx : Passes CX X E) (ha : PA X (e :: es) t)
    (hst : starEach (e :: es) X.env = (false, eval e X.env) :: starEach es X.env := by rfl) (hpl : (backTo pos (starEach es X.env)).any (·.1) = false := by rfl)
    (ht : eval (.Call (.Attribute o m apos) (e :: es) [] pos) X.env = (do
      let ov ← eval o X.env
      standAt apos.atName
      let (f, first) ← holding [ov] (getMethod ov m pl)
      callWith pos f first (backTo pos (starEach (e :: es) X.env)) (backToKw pos (keywordEach [] X.env))) := by rfl) :
    PE X (.Call (.Attribute o m apos) (e :: es) [] pos) (tMeth C m sp dvs E ta t) := by
  intro pins s σ H Q I h
  refine PySem.W.methodCall_KW (pl := pl) (thn (he pins s σ H _ I h) fun u s1 ⟨x, H1, I1, rx, a, dx, fs, ex, ea, l, q⟩ => ?_) ht
  subst ex
  obtain rfl : u = Value.ref a := rx
  refine getmeth_ok I1 ea c hm l ?_
  refine PySem.W.callWith_K (first := [.ref a]) (h₀ := X.base) I.ok.mod.kin hm.kp (thn (ha pos pins s1 σ H1 _ I1 q) fun us s2 ⟨vs, H2, I2, r, q2⟩ => ⟨I2.kIn, ?_⟩) hst hpl
  exact run_fn (us := .ref a :: us) (vs := .ref a :: vs) F hr hb hd hx I2 (.cons rfl r) q2
theorem pe_meth0 {pl : Sem Bool} (he : PE X o ta) (c : Cls X.K C) (hm : Meth X.K C m f) (F : FnOk X.prog X.w X.K X.mg X.base CX k f fd ps sp) (hr : Room k X.A) (hb : Binds X.K fd ps ds) (hd : Vals dvs ds) (hx : Passes CX X E)
    (ht : eval (.Call (.Attribute o m apos) [] [] pos) X.env = (do
      let ov ← eval o X.env
      standAt apos.atName
      let (f, first) ← holding [ov] (getMethod ov m pl)
      callWith pos f first (backTo pos (starEach [] X.env)) (backToKw pos (keywordEach [] X.env))) := by rfl) :
    PE X (.Call (.Attribute o m apos) [] [] pos) (tMeth C m sp dvs E ta tNil) := by
  intro pins s σ H Q I h
  refine PySem.W.methodCall_KW (pl := pl) (thn (he pins s σ H _ I h) fun u s1 ⟨x, H1, I1, rx, a, dx, fs, ex, ea, l, q⟩ => ?_) ht
  subst ex
  obtain rfl : u = Value.ref a := rx
  refine getmeth_ok I1 ea c hm l ?_
  exact PySem.W.callWith_K0 (first := [.ref a]) I1.kIn hm.kp (run_fn (us := [.ref a]) (vs := [.ref a]) F hr hb hd hx I1 (.cons rfl .nil) q)
structure Mk (K : PySem.W.Frag) (C f : Addr) : Prop where
  makes : PySem.W.makesIn K C = true
  init : PySem.W.findIn K (.ref C) "__init__" = some (some (.ref f))
  fn : PySem.W.isFn K (.ref f) = true
  kp : PySem.W.keepIn K (.ref C) = true
theorem run_make {pins : List (Addr × Obj)} {σ : St} {H : Hp} {s : Shared} {Q : VK} {us : List Value} {vs : List V} (M : Mk X.K C f) (F : FnOk X.prog X.w X.K X.mg X.base CX k f fd ps sp) (hr : Room (k + 1) X.A) (hb : Binds X.K fd ps ds) (hd : Vals dvs ds)
    (hx : Passes CX X E) (I : Inv X pins σ H s) (r : Vals vs us)
    (h : ∀ x dx, H x = none → H dx = none → dx ≠ x → sp (.ref x :: (vs ++ dvs)) (upd (upd H dx (.own x)) x (.ins C dx [])) (fun v H2 => v = .non ∧ Q (.ref x) H2) E) :
    wpAny (model X.prog X.w) X.A (call (.ref C) us) (EP X pins σ Q) X.xe s := by
  have hq := h (s.heap.objs.size + 1) s.heap.objs.size (I.hok.fresh (Nat.le_succ _)) (I.hok.fresh (Nat.le_refl _)) (Nat.ne_of_lt (Nat.lt_succ_self _))
  have I2 := Inv.made (C := C) I
  have r2 : Vals (V.ref (s.heap.objs.size + 1) :: (vs ++ dvs)) (Value.ref (s.heap.objs.size + 1) :: (us ++ ds)) := .cons rfl (r.append hd)
  have hl : (Value.ref (s.heap.objs.size + 1) :: us ++ ds).length = ps.length := by
    have e := r2.length
    rw [F.len _ _ _ _ hq] at e
    exact e.symm
  refine wpAny_call (make_map (f := f) I.kIn M.makes M.init (beq_iff_eq.mp M.fn) (codeAny_mono (F.run _ X.stack _ _ ⟨Value.ref (s.heap.objs.size + 1) :: us, []⟩ (Value.ref (s.heap.objs.size + 1) :: (us ++ ds)) _ _ E (hr.make C us [])
    (I2.env0.make C us []) (hb _ (Value.ref (s.heap.objs.size + 1) :: us) I2.kIn hl) r2 hq) fun r s' hq' => ?_))
  cases r with
  | error e => exact hx pins σ _ _ e s' I2 hq'
  | ok fl =>
    cases fl with
    | ret u =>
      obtain ⟨v, H', I3, rv, ev, q3⟩ := I2.after hq'
      subst ev
      exact ⟨rv, ⟨V.ref (s.heap.objs.size + 1), H', I3, rfl, q3⟩⟩
    | next => exact False.elim hq'
    | brk => exact False.elim hq'
    | cont => exact False.elim hq'
theorem pe_make0 (M : Mk X.K C f) (F : FnOk X.prog X.w X.K X.mg X.base CX k f fd ps sp) (hr : Room (k + 1) X.A) (hg : Gl X x) (hm : X.mg x = some (.ref C)) (hb : Binds X.K fd ps ds) (hd : Vals dvs ds) (hx : Passes CX X E)
    (hdb : (x == ("__debug__" : Str)) = false := by decide) : PE X (.Call (.Name x p) [] [] pos) (tMake C sp dvs E tNil) := by
  intro pins s σ H Q I h
  refine wpAny_Call_Name_kw (ld_glob I hg hm ?_ hdb)
  exact PySem.W.callWith_K0 I.kIn M.kp (run_make (us := []) M F hr hb hd hx I .nil h)
end
section
variable {X : Cx} {CX : CXT} {k : Nat} {f C : Addr} {fd : FuncData} {ps ks : List Str} {sp : Sp} {E : XK} {x m : Str} {p pos apos kpos : Pos} {e o : Expr} {es : List Expr} {kws : List Keyword} {te ta : TE} {t tk : TA} {nm : Option Str}
variable {g : List Value → List Value → List Value} {gV : List V → List V → List V}
end
structure FnScope (N P : List Str) (sc : Scope) : Prop where
  kind : sc.kind = .function
  co : sc.isCoroutine = false
  gen : sc.isGenerator = false
  nd : N.Nodup
  pre : N.take P.length = P
  par : ∀ x ∈ P, sc.names.lookup x = some .local ∨ sc.names.lookup x = some .cell
  nofree : ∀ y ∈ sc.names, y.2 ≠ .free
theorem bindL_out {kindOf : Str → Option NameKind} {x : Str} : ∀ {binds : List (Str × Value)} {m : Str → Option Value}, (∀ v, (x, v) ∉ binds) → bindL kindOf binds m x = m x
  | [], _, _ => rfl
  | (n, v) :: r, m, h => by
    unfold bindL
    rw [bindL_out fun w hw => h w (List.mem_cons_of_mem _ hw)]
    split
    · have : x ≠ n := by rintro rfl; exact h v List.mem_cons_self
      simp [this]
    · rfl
theorem bindC_out {kindOf : Str → Option NameKind} {x : Str} : ∀ {binds : List (Str × Value)} {m : Str → Option Value}, (∀ v, (x, v) ∉ binds) → bindC kindOf binds m x = m x
  | [], _, _ => rfl
  | (n, v) :: r, m, h => by
    unfold bindC
    rw [bindC_out fun w hw => h w (List.mem_cons_of_mem _ hw)]
    split
    · rfl
    · have : x ≠ n := by rintro rfl; exact h v List.mem_cons_self
      simp [this]
theorem bindL_get {kindOf : Str → Option NameKind} {x : Str} {v : Value} : ∀ {P : List Str} {vs : List Value} {i : Nat} {m : Str → Option Value}, P.Nodup → P[i]? = some x → vs[i]? = some v → kindOf x = some .local →
    bindL kindOf (P.zip vs) m x = some v
  | [], _, _, _, _, h, _, _ => by simp at h
  | _ :: _, [], _, _, _, _, h, _ => by simp at h
  | p :: P, w :: vs, 0, m, nd, h1, h2, hk => by
    simp at h1 h2; subst h1; subst h2
    show bindL kindOf ((p, w) :: P.zip vs) m p = _
    unfold bindL
    rw [bindL_out fun v hv => (List.nodup_cons.mp nd).1 (List.of_mem_zip hv).1, if_pos hk]
    simp
  | p :: P, w :: vs, i + 1, m, nd, h1, h2, hk => by
    show bindL kindOf ((p, w) :: P.zip vs) m x = _
    unfold bindL
    exact bindL_get (i := i) (List.nodup_cons.mp nd).2 (by simpa using h1) (by simpa using h2) hk
theorem bindC_get {kindOf : Str → Option NameKind} {x : Str} {v : Value} : ∀ {P : List Str} {vs : List Value} {i : Nat} {m : Str → Option Value}, P.Nodup → P[i]? = some x → vs[i]? = some v → kindOf x ≠ some .local →
    bindC kindOf (P.zip vs) m x = some v
  | [], _, _, _, _, h, _, _ => by simp at h
  | _ :: _, [], _, _, _, _, h, _ => by simp at h
  | p :: P, w :: vs, 0, m, nd, h1, h2, hk => by
    simp at h1 h2; subst h1; subst h2
    show bindC kindOf ((p, w) :: P.zip vs) m p = _
    unfold bindC
    rw [bindC_out fun v hv => (List.nodup_cons.mp nd).1 (List.of_mem_zip hv).1, if_neg hk]
    simp
  | p :: P, w :: vs, i + 1, m, nd, h1, h2, hk => by
    show bindC kindOf ((p, w) :: P.zip vs) m x = _
    unfold bindC
    exact bindC_get (i := i) (List.nodup_cons.mp nd).2 (by simpa using h1) (by simpa using h2) hk
def start (N : List Str) (vs : List V) : St := vs.map some ++ List.replicate (N.length - vs.length) none
def cxOf (CX : CXT) (P : Program) (w : World) (K : PySem.W.Frag) (mg : Str → Option Value) (base : Heap) (N : List Str) (qual : Str) (scope : Scope) (f : Addr) (cd : Value) (A : Around) (outer : List Env) (s : Shared) (H : Hp) (E : XK) : Cx where
  prog := P
  w := w
  K := K
  mg := mg
  base := base
  A := A.deeper (envOfC qual scope s.heap.objs.size f cd)
  N := N
  s₀ := s
  H₀ := H
  env := envOfC qual scope s.heap.objs.size f cd
  outer := outer
  stack := envOfC qual scope s.heap.objs.size f cd :: outer
  ex := []
  calm := true
  fn := fun _ => true
  pn := []
  xe := fun e s' => wpAny (model P w) (A.deeper (envOfC qual scope s.heap.objs.size f cd)) (leaving (envOfC qual scope s.heap.objs.size f cd) e) (fun _ s'' => CX outer H s E e s'') (fun e' s'' => CX outer H s E e' s'') s'
theorem cell_has {sc : Scope} {n : Nat} {x : Str} (h : sc.names.lookup x = some .cell) : ∃ c, (cellsFrom n sc.names []).lookup x = some c := by
  have q := PySem.W.cellsFrom_some sc.names n [] (.inl h)
  exact Option.isSome_iff_exists.mp q
theorem inv_start {CX : CXT} {P : Program} {w : World} {K : PySem.W.Frag} {mg : Str → Option Value} {base : Heap} {N ps : List Str} {qual : Str} {scope : Scope} {f : Addr} {cd : Value} {A : Around} {outer : List Env} {s s1 : Shared} {H : Hp} {E : XK} {us : List Value} {vs : List V}
    (S : FnScope N ps scope) (hd : A.handled = none) (e0 : Env0 P w K mg base A outer s H) (hl : vs.length = ps.length) (r : Vals vs us)
    (x : InCallC s s.heap.objs.size (bindL (envOfC qual scope s.heap.objs.size f cd).kindOf (ps.zip us) fun _ => none) (cellsFrom (s.heap.objs.size + 1) scope.names []) (bindC (envOfC qual scope s.heap.objs.size f cd).kindOf (ps.zip us) fun _ => none) s1) :
    Inv (cxOf CX P w K mg base N qual scope f cd A outer s H E) [] (start N vs) H s1 := by
  have hpl : ps.length ≤ N.length := by have := congrArg List.length S.pre; rw [List.length_take] at this; omega
  obtain ⟨h1, tk, rfl, hk⟩ := x.done
  have noA : ∀ b : Addr, b ∉ (cxOf CX P w K mg base N qual scope f cd A outer s H E).ex := fun b z => absurd (show b ∈ ([] : List Addr) from z) (by simp)
  refine ⟨⟨e0.mod, S.kind, rfl, rfl, Nat.le_refl _, fun y z c h1 h2 => ?_, fun y hy => ?_, fun y c _ h => ?_, fun _ => hd, Around.frames_deeper e0.frames, .inr ⟨rfl, rfl⟩, fun b z => absurd z (noA b), e0.bs, e0.bsz, fun b _ _ => noA b, fun b z => absurd z (noA b), e0.funs, e0.frf⟩,
    rfl, e0.bare, Un.kept hk, ⟨_, x.toInCall.ns, fun i y v h1 h2 h3 => ?_⟩, fun y c h => ⟨_, x.cell y c h⟩, e0.hok.fresh (Nat.le_refl _), fun y c h => ?_, fun p hp => absurd (show p ∈ ([] : List (Addr × Obj)) from hp) (by simp), e0.hok.kept hk, ?_⟩
  · exact name_of_addr x.apart (PySem.mem_of_lookup h1) (PySem.mem_of_lookup h2)
  · have hy : scope.names.lookup y = some .cell ∨ scope.names.lookup y = some .free := hy
    rcases hy with hy | hy
    · exact cell_has hy
    · exact absurd rfl (S.nofree _ (PySem.mem_of_lookup hy))
  · exact Nat.le_of_lt (x.above y c (PySem.mem_of_lookup h))
  · have hi : i < vs.length := by
      unfold start at h2
      by_cases hi : i < vs.length
      · exact hi
      · rw [List.getElem?_append_right (by simpa using hi)] at h2
        rw [List.getElem?_replicate] at h2
        split at h2 <;> cases h2
    have ha : vs[i]? = some v := by
      unfold start at h2
      rw [List.getElem?_append_left (by simpa using hi), List.getElem?_map] at h2
      cases e : vs[i]? with
      | none => rw [e] at h2; cases h2
      | some a => rw [e] at h2; cases h2; rfl
    obtain ⟨u, hu, rv⟩ := r.get ha
    have hp : ps[i]? = some y := by
      rw [← S.pre, List.getElem?_take_of_lt (by omega)]; exact h1
    have ndP : ps.Nodup := by rw [← S.pre]; exact S.nd.sublist (List.take_sublist _ _)
    refine ⟨u, rv, ?_⟩
    rcases S.par y (List.mem_of_getElem? hp) with k | k
    · exact .inl ⟨k, bindL_get ndP hp hu k⟩
    · obtain ⟨c, e⟩ := cell_has (n := s.heap.objs.size + 1) k
      refine .inr ⟨.inl k, c, e, ?_⟩
      have q := x.cell y c e
      rw [bindC_get ndP hp hu (by show scope.names.lookup y ≠ _; rw [k]; decide)] at q
      exact q
  · exact e0.hok.fresh (Nat.le_of_lt (x.above y c (PySem.mem_of_lookup h)))
  · unfold start
    show _ = N.length
    rw [List.length_append, List.length_map, List.length_replicate]
    omega
theorem fn_of {CX : CXT} {P : Program} {w : World} {K : PySem.W.Frag} {mg : Str → Option Value} {base : Heap} {k : Nat} {f : Addr} {name qual : Str} {params : Arguments} {body : List Stmt} {scope : Scope} {dV kV doc pm cdv ct oc : Value} {an od : Option Addr}
    {osl : Array (Option Value)} {N ps : List Str} {sp : Sp} (lk : K.lookup f = some ⟨oc, od, .func (PySem.W.fnOf name qual params body scope dV kV doc pm an cdv ct), osl⟩) (hcd : PySem.W.codeIn K cdv qual = true) (S : FnScope N ps scope)
    (len : ∀ vs H Q E, sp vs H Q E → vs.length = ps.length)
    (hbody : ∀ (A : Around) (outer : List Env) (s : Shared) (H : Hp) (vs : List V) (Q : VK) (E : XK), Room k (A.deeper (envOfC qual scope s.heap.objs.size f cdv)) → sp vs H Q E →
      ∃ t, PSs (cxOf CX P w K mg base N qual scope f cdv A outer s H E) body t ∧ t { nx := fun _ H' => Q .non H', rt := Q } (start N vs) H) :
    FnOk P w K mg base CX (k + 1) f (PySem.W.fnOf name qual params body scope dV kV doc pm an cdv ct) ps sp := by
  refine ⟨len, fun A outer s H args us vs Q E hr e0 hb r hsp => ?_⟩
  have hl := len _ _ _ _ hsp
  have KX : K.In s.heap := e0.mod.kin.keeps fun b o e => (e0.bs b o e).1
  have lim : s.heap.NoLimit := e0.mod.nolimit.keeps fun b o e => (e0.bs b o e).1
  have hkind : ∀ y ∈ ps.zip us, scope.names.lookup y.1 = some .local ∨ (scope.names.lookup y.1 = some .cell ∧ ((cellsFrom (s.heap.objs.size + 1) scope.names []).lookup y.1).isSome = true) := fun ⟨n, v⟩ hy => by
    rcases S.par n (List.of_mem_zip hy).1 with q | q
    · exact .inl q
    · exact .inr ⟨q, PySem.W.cellsFrom_some _ _ _ (.inl q)⟩
  refine codeAny_call_function hr.depth (KX _ _ lk) rfl S.co S.gen rfl (PySem.W.codeRec_of KX hcd) (hb _ _ _ _ ?_)
  refine wpAny_newFunctionEnv_cells S.kind hkind fun env he s1 x => ?_
  subst he
  refine ⟨lim.keeps x.toInCall.keep, codeAny_func ?_⟩
  obtain ⟨t, ht, hq⟩ := hbody A outer s H vs Q E (hr.deeper _) hsp
  have I : Inv (cxOf CX P w K mg base N qual scope f cdv A outer s H E) [] (start N vs) H s1 := inv_start S hr.hd e0 hl r x
  refine wpAny_mono (ht [] s1 (start N vs) H _ I hq) (fun fl s' hs => ?_) fun e s' hs => hs
  have fin : ∀ {σ' : St} {H' : Hp} {v : V} {u : Value}, Inv (cxOf CX P w K mg base N qual scope f cdv A outer s H E) [] σ' H' s' → RelV v u → Q v H' → CE outer P w H s Q u s' :=
    fun {σ' H' v u} J rv q => ⟨v, H', J.os, J.bare, J.base, J.hok, rv, q⟩
  cases fl with
  | ret u =>
    obtain ⟨v, σ', H', J, rv, q⟩ := hs
    exact fin J rv q
  | next =>
    obtain ⟨σ', H', J, q⟩ := hs
    exact fin (v := V.non) (u := Value.none) J rfl q
  | brk =>
    obtain ⟨_, _, _, q⟩ := hs
    exact False.elim q
  | cont =>
    obtain ⟨_, _, _, q⟩ := hs
    exact False.elim q
end L2
namespace L2
open PySem PySem.Spec PyProof.Rows
section
variable {X : Cx} {x : Str} {p pos : Pos} {e : Expr} {es : List Expr} {t : TA} {id T : String} {r : List V → Hp → VK → Prop}
def tCB (r : List V → Hp → VK → Prop) (t : TA) : TE := fun σ H Q => t σ H fun vs H1 => r vs H1 Q
theorem pe_callB (hc : CallR X (.builtin id) r) (hg : Gl X x) (hm : X.mg x = none) (hv : bootBuiltins x = some (.builtin id)) (ha : PA X (e :: es) t) (hn : x ≠ "__name__" := by decide) (hdb : (x == ("__debug__" : Str)) = false := by decide)
    (he : starEach (e :: es) X.env = (false, eval e X.env) :: starEach es X.env := by rfl) (hpl : (backTo pos (starEach es X.env)).any (·.1) = false := by rfl) : PE X (.Call (.Name x p) (e :: es) [] pos) (tCB r t) := by
  intro pins s σ H Q I h
  refine wpAny_Call_Name_kw (ld_blt I hg hm hv ?_ hn hdb)
  exact PyProof.Rows.callWith_builtin1 (thn (ha pos pins s σ H _ I h) fun us s1 ⟨vs, H1, I1, r1, q1⟩ => hc pins s1 σ H1 vs us Q I1 r1 q1) he hpl
theorem pe_callTy (hc : CallR X (.type T) r) (hg : Gl X x) (hm : X.mg x = none) (hv : bootBuiltins x = some (.type T)) (ha : PA X (e :: es) t) (hn : x ≠ "__name__" := by decide) (hdb : (x == ("__debug__" : Str)) = false := by decide)
    (he : starEach (e :: es) X.env = (false, eval e X.env) :: starEach es X.env := by rfl) (hpl : (backTo pos (starEach es X.env)).any (·.1) = false := by rfl) : PE X (.Call (.Name x p) (e :: es) [] pos) (tCB r t) := by
  intro pins s σ H Q I h
  refine wpAny_Call_Name_kw (ld_blt I hg hm hv ?_ hn hdb)
  exact PyProof.Rows.callWith_type1 (thn (ha pos pins s σ H _ I h) fun us s1 ⟨vs, H1, I1, r1, q1⟩ => hc pins s1 σ H1 vs us Q I1 r1 q1) he hpl
end
end L2
namespace HT
open PySem PyProof.Rows
section
open PySem.SeqAt
open PySem.AutoSeq1 (wpAny_loadPart')
open PySem.MeetsSeq PySem.MeetsSeq2 PySem.MeetsSeq3
end
section
variable {prog : Program} {w : World} {A : Around} {E : Value → Shared → Prop} {s : Shared}
def sIx (n d : Nat) : Option Int → Nat
  | none => d
  | some v => if v < 0 then (v + (n : Int)).toNat else min v.toNat n
theorem sIx_none (n d : Nat) : sIx n d none = d := rfl
theorem sIx_nat (n d k : Nat) : sIx n d (some (k : Int)) = min k n := by
  show (if (k : Int) < 0 then ((k : Int) + (n : Int)).toNat else min (k : Int).toNat n) = min k n
  rw [if_neg (by omega), Int.toNat_natCast]
theorem sIx_le (n d : Nat) (hd : d ≤ n) (o : Option Int) : sIx n d o ≤ n := by
  cases o with
  | none => exact hd
  | some v =>
    show (if v < 0 then (v + (n : Int)).toNat else min v.toNat n) ≤ n
    by_cases hv : v < 0
    · rw [if_pos hv]; omega
    · rw [if_neg hv]; exact Nat.min_le_right _ _
end
end HT
namespace L2
open PySem PySem.Spec PyProof.Rows
abbrev TO := St → Hp → (Option Int → Hp → Prop) → Prop
def PO (X : Cx) (e : Option Expr) (t : TO) : Prop :=
  ∀ (pins : List (Addr × Obj)) (s : Shared) (σ : St) (H : Hp) (Q : Option Int → Hp → Prop), Inv X pins σ H s → t σ H Q →
    wpAny (model X.prog X.w) X.A (evalPart e X.env) (fun u s' => ∃ o H', Inv X pins σ H' s' ∧ IsPart u o ∧ Q o H') X.xe s
def tNoPart : TO := fun _ H Q => Q none H
def tPart (t : TE) : TO := fun σ H Q => t σ H fun x H1 => ∃ i, x = .int i ∧ Q (some i) H1
theorem intsAre_of {ns : List Int} : ∀ {us : List Value}, Vals (ns.map V.int) us → IntsAre us ns := by
  induction ns with
  | nil => intro us r; rw [List.map_nil] at r; cases r; exact .nil
  | cons n ns ih =>
    intro us r
    rw [List.map_cons] at r
    cases r with
    | cons r1 r2 =>
      obtain ⟨t, e⟩ := r1
      subst e
      exact .cons n t (ih r2)
section
variable {X : Cx} {e : Expr} {te : TE} {lo hi : Option Expr} {tl th : TO} {pos p2 : Pos}
theorem po_none : PO X none tNoPart := by
  intro pins s σ H Q I h
  rw [evalPart_none]
  exact wpAny_pure ⟨none, H, I, .none, h⟩
theorem po_some (h : PE X e te) : PO X (some e) (tPart te) := by
  intro pins s σ H Q I hw
  rw [evalPart_some]
  refine thn (h pins s σ H _ I hw) fun u s1 ⟨x, H1, I1, r1, q1⟩ => ?_
  obtain ⟨i, rfl, q⟩ := q1
  obtain ⟨t, rfl⟩ := r1
  exact ⟨some i, H1, I1, .int i t, q⟩
def SlR (X : Cx) (r : V → Option Int → Option Int → Hp → VK → Prop) : Prop :=
  ∀ (pins : List (Addr × Obj)) (s : Shared) (σ : St) (H : Hp) (x : V) (v vl vu : Value) (lo hi : Option Int) (sl : Addr) (Q : VK), Inv X pins σ H s → RelV x v → s.heap.IsSliceOf sl vl vu .none → IsPart vl lo → IsPart vu hi → r x lo hi H Q →
    ∃ T id, typeLookup (.type T) "__getitem__" = pure (some (.builtin id)) ∧ s.TypeIs v T ∧ wpAny (model X.prog X.w) X.A (getItem v (.ref sl)) (EP X pins σ Q) X.xe s
def tSl (r : V → Option Int → Option Int → Hp → VK → Prop) (te : TE) (tl th : TO) : TE := fun σ H Q => te σ H fun x H1 => tl σ H1 fun l H2 => th σ H2 fun u H3 => r x l u H3 Q
theorem pe_slice {r : V → Option Int → Option Int → Hp → VK → Prop} (hr : SlR X r) (he : PE X e te) (hl : PO X lo tl) (hu : PO X hi th) : PE X (.Subscript e (.Slice lo hi none p2) pos) (tSl r te tl th) := by
  intro pins s σ H Q I h
  refine Subscript_ (thn (he pins s σ H _ I h) fun v s1 ⟨x, H1, I1, r1, q1⟩ => ?_)
  refine wpAny_Slice (thn (hl pins s1 σ H1 _ I1 q1) fun vl s2 ⟨l, H2, I2, pl, q2⟩ => thn (hu pins s2 σ H2 _ I2 q2) fun vu s3 ⟨u, H3, I3, pu, q3⟩ => ?_)
  rw [evalPart_none]
  refine wpAny_pure ?_
  have I4 : Inv X pins σ H3 { s3 with heap := s3.heap.push { cls := .type "slice", data := .fields #[vl, vu, .none] } } := I3.kept (t' := s3.toks) fun b ob q => Heap.get?_push_of_some _ q
  obtain ⟨T, id, hT, ht, hg⟩ := hr pins { s3 with heap := s3.heap.push { cls := .type "slice", data := .fields #[vl, vu, .none] } } σ H3 x v vl vu l u s3.heap.objs.size Q I4 r1 (Heap.IsSliceOf.new ..) pl pu q3
  show wpAny (model X.prog X.w) X.A (subscriptTail e (.Slice lo hi none p2) v (.ref s3.heap.objs.size)) (EP X pins σ Q) X.xe { s3 with heap := s3.heap.push { cls := .type "slice", data := .fields #[vl, vu, .none] } }
  exact tail_any (ops := [.ref s3.heap.objs.size, v]) ht hT hg (by with_unfolding_all rfl)
end
end L2
namespace L2
open PySem PySem.Spec PyProof.Rows
def ixN (n : Nat) (i : Int) : Option Nat := if 0 ≤ i then (if i < n then some i.toNat else none) else if -(n : Int) ≤ i then some (i + n).toNat else none
def atI {α : Type} (xs : List α) (i : Int) : Option α := (ixN xs.length i).bind fun j => xs[j]?
theorem ixN_seq {n : Nat} {i : Int} {j : Nat} (h : ixN n i = some j) : seqIndex? i n = some j ∧ j < n ∧ -(n : Int) ≤ i ∧ i < n := by
  unfold ixN at h
  by_cases h0 : 0 ≤ i
  · rw [if_pos h0] at h
    by_cases h1 : i < n
    · rw [if_pos h1] at h
      have e : i.toNat = j := Option.some.inj h
      exact ⟨by rw [seqIndex_of h0 h1, e], by omega, by omega, h1⟩
    · rw [if_neg h1] at h; cases h
  · rw [if_neg h0] at h
    by_cases h1 : -(n : Int) ≤ i
    · rw [if_pos h1] at h
      have e : (i + n).toNat = j := Option.some.inj h
      exact ⟨by rw [seqIndex_neg (by omega) h1, e], by omega, h1, by omega⟩
    · rw [if_neg h1] at h; cases h
theorem atI_get {α : Type} {xs : List α} {i : Int} {v : α} (h : atI xs i = some v) : ∃ j, seqIndex? i xs.length = some j ∧ xs[j]? = some v ∧ j < xs.length ∧ -(xs.length : Int) ≤ i ∧ i < xs.length := by
  unfold atI at h
  cases e : ixN xs.length i with
  | none => rw [e] at h; cases h
  | some j =>
    rw [e] at h
    obtain ⟨h1, h2, h3, h4⟩ := ixN_seq e
    exact ⟨j, h1, h, h2, h3, h4⟩
theorem atI_nat {α : Type} {xs : List α} {j : Nat} {v : α} (h : xs[j]? = some v) : atI xs (j : Int) = some v := by
  have hj : j < xs.length := (List.getElem?_eq_some_iff.mp h).1
  have e : ixN xs.length (j : Int) = some j := by
    unfold ixN
    rw [if_pos (by omega), if_pos (by omega)]; simp
  unfold atI; rw [e]; exact h
def PlainIx (b : Expr) : Prop := ∀ o i, subscripted b false o i = operate [o, i] (getItem o i)
def IxR (X : Cx) (r : R2) : Prop :=
  ∀ (value slice : Expr) (pins : List (Addr × Obj)) (s : Shared) (σ : St) (H : Hp) (x y : V) (v u : Value) (Q : VK), Inv X pins σ H s → RelV x v → RelV y u → r x y H Q →
    subscripted slice false v u = operate [v, u] (getItem v u) → wpAny (model X.prog X.w) X.A (subscriptTail value slice v u) (EP X pins σ Q) X.xe s
def MtR (X : Cx) (id : String) (r : V → List V → Hp → VK → Prop) : Prop :=
  ∀ (pins : List (Addr × Obj)) (s : Shared) (σ : St) (H : Hp) (x : V) (xs : List V) (v : Value) (us : List Value) (Q : VK), Inv X pins σ H s → RelV x v → Vals xs us → r x xs H Q →
    wpAny (model X.prog X.w) X.A (call (.builtin id) (v :: us)) (EP X pins σ Q) X.xe s
section
variable {X : Cx} {a b : Expr} {ta tb : TE} {pos : Pos}
theorem pe_ix {r : R2} (hr : IxR X r) (ha : PE X a ta) (hb : PE X b tb) (hs : PlainIx b) : PE X (.Subscript a b pos) (tOp r ta tb) := by
  intro pins s σ H Q I h
  exact Subscript_ (binT ha hb I h fun v u s2 x y H2 I2 rx ry q => hr a b pins s2 σ H2 x y v u Q I2 rx ry q (hs _ _))
def rIxL (K : PySem.W.Frag) : R2 := fun x y H Q => ∃ p xs i v, x = .ref p ∧ y = .int i ∧ SqL K H p xs ∧ atI xs i = some v ∧ Q v H
def rIxT (K : PySem.W.Frag) : R2 := fun x y H Q => ∃ p xs i v, x = .ref p ∧ y = .int i ∧ SqT K H p xs ∧ atI xs i = some v ∧ Q v H
def rIxS : R2 := fun x y H Q => ∃ z i c, x = .str z ∧ y = .int i ∧ z.length ≤ sizeLine ∧ atI z.cps.toList i = some c ∧ Q (.str ⟨#[c]⟩) H
theorem ix_list : IxR X (rIxL X.K) := by
  intro value slice pins s σ H x y v u Q I rx ry h hs
  obtain ⟨p, xs, i, z, rfl, rfl, hq, he, q⟩ := h
  cases rx
  obtain ⟨t, rfl⟩ := ry
  obtain ⟨its, r, pl, hz⟩ := I.list hq
  obtain ⟨j, h1, h2, h3, h4, h5⟩ := atI_get he
  obtain ⟨w, ew, rw'⟩ := r.get h2
  have hl := r.length
  have hn := line63
  have fin : EP X pins σ Q w s := ⟨z, H, I, rw', q⟩
  by_cases h0 : 0 ≤ i
  · have hj : i.toNat = j := by
      rw [seqIndex_of h0 h5] at h1
      exact Option.some.inj h1
    exact item_listR pl.isList h0 (by omega) (by rw [hj]; simpa using ew) fin hs
  · have hj : (i + (its.toArray.size : Int)).toNat = j := by
      rw [seqIndex_neg (by omega) h4] at h1
      rw [List.size_toArray, ← hl]
      exact Option.some.inj h1
    exact subscriptTail_builtinR (x := w) pl.isList.typeIs slot_list_getitem.lookup
      (wpAny_getItem_list_neg (Q := fun r s' => r = w ∧ EP X pins σ Q r s') pl.isList (by omega) (by rw [List.size_toArray] <;> omega) (by omega) (by rw [hj]; simpa using ew) ⟨rfl, fin⟩) hs
theorem ix_tup : IxR X (rIxT X.K) := by
  intro value slice pins s σ H x y v u Q I rx ry h hs
  obtain ⟨p, xs, i, z, rfl, rfl, hq, he, q⟩ := h
  cases rx
  obtain ⟨t, rfl⟩ := ry
  obtain ⟨its, r, pl, hz⟩ := I.tuple hq
  obtain ⟨j, h1, h2, h3, h4, h5⟩ := atI_get he
  obtain ⟨w, ew, rw'⟩ := r.get h2
  have hl := r.length
  have hn := line63
  have fin : EP X pins σ Q w s := ⟨z, H, I, rw', q⟩
  exact subscriptTail_builtinR (x := w) pl.typeIs slot_tuple_getitem.lookup
    (getItem_tuple (j := j) (Q := fun r s' => r = w ∧ EP X pins σ Q r s') pl (by omega) (by omega) (by rw [List.size_toArray, ← hl]; exact h1) (by simpa using ew) ⟨rfl, fin⟩) hs
theorem ix_str : IxR X rIxS := by
  intro value slice pins s σ H x y v u Q I rx ry h hs
  obtain ⟨z, i, c, rfl, rfl, hz, he, q⟩ := h
  obtain ⟨t, rfl⟩ := rx
  obtain ⟨t', rfl⟩ := ry
  obtain ⟨j, h1, h2, h3, h4, h5⟩ := atI_get he
  have hl : z.cps.toList.length = z.length := by simp [Str.length]
  rw [hl] at h1 h4 h5
  have hn := line63
  exact tail_any (typeIs_str s z t) slot_str_getitem.lookup (getItem_str (c := c) (by
    have e1 : decide (i < -(2 ^ 63 : Int)) = false := decide_eq_false (by omega)
    have e2 : decide (i ≥ 2 ^ 63) = false := decide_eq_false (by omega)
    rw [e1, e2, Bool.or_false]) (by rw [h1]; simpa using h2) ⟨.str ⟨#[c]⟩, H, I.tok _, ⟨_, rfl⟩, q⟩) hs
def flatV : V → Bool
  | .non => true
  | .bl _ => true
  | .int _ => true
  | .str _ => true
  | _ => false
def eqV : V → V → Bool
  | .non, .non => true
  | .bl a, .bl b => a == b
  | .bl a, .int b => (if a then 1 else 0) == b
  | .int a, .bl b => a == (if b then 1 else 0)
  | .int a, .int b => a == b
  | .str a, .str b => a == b
  | _, _ => false
theorem eqAt_V {A : Around} {s : Shared} {y x : V} {u v : Value} (ry : RelV y u) (rx : RelV x v) (fy : flatV y = true) (fx : flatV x = true) : SeqAt.EqAt A s u v (eqV y x) := by
  cases y with
  | non =>
    cases ry
    cases x with
    | non => cases rx; exact SeqAt.EqAt.same _
    | bl b => cases rx; exact SeqAt.EqAt.none_bool b
    | int b => obtain ⟨t, rfl⟩ := rx; exact SeqAt.EqAt.none_int b t
    | str b => obtain ⟨t, rfl⟩ := rx; exact SeqAt.EqAt.none_str b t
    | _ => exact absurd (show false = true from fx) Bool.false_ne_true
  | bl a =>
    cases ry
    cases x with
    | non => cases rx; exact SeqAt.EqAt.bool_none a
    | bl b => cases rx; exact SeqAt.EqAt.bool_bool a b
    | int b => obtain ⟨t, rfl⟩ := rx; exact SeqAt.EqAt.bool_int a b t
    | str b => obtain ⟨t, rfl⟩ := rx; exact SeqAt.EqAt.bool_str a b t
    | _ => exact absurd (show false = true from fx) Bool.false_ne_true
  | int a =>
    obtain ⟨t', rfl⟩ := ry
    cases x with
    | non => cases rx; exact SeqAt.EqAt.int_none a t'
    | bl b => cases rx; exact SeqAt.EqAt.int_bool a t' b
    | int b => obtain ⟨t, rfl⟩ := rx; exact SeqAt.EqAt.int_int a t' b t
    | str b => obtain ⟨t, rfl⟩ := rx; exact SeqAt.EqAt.int_str a t' b t
    | _ => exact absurd (show false = true from fx) Bool.false_ne_true
  | str a =>
    obtain ⟨t', rfl⟩ := ry
    cases x with
    | non => cases rx; exact SeqAt.EqAt.str_none a t'
    | bl b => cases rx; exact SeqAt.EqAt.str_bool a t' b
    | int b => obtain ⟨t, rfl⟩ := rx; exact SeqAt.EqAt.str_int a t' b t
    | str b => obtain ⟨t, rfl⟩ := rx; exact SeqAt.EqAt.str_str a t' b t
    | _ => exact absurd (show false = true from fx) Bool.false_ne_true
  | _ => exact absurd (show false = true from fy) Bool.false_ne_true
def eqU (x : V) (u : Value) : Bool := match u with
  | .none => eqV .non x
  | .bool b => eqV (.bl b) x
  | .int i _ => eqV (.int i) x
  | .str z _ => eqV (.str z) x
  | _ => false
theorem eqU_of {x y : V} {u : Value} (r : RelV y u) (f : flatV y = true) : eqU x u = eqV y x := by
  cases y with
  | non => cases r; rfl
  | bl b => cases r; rfl
  | int i => obtain ⟨t, rfl⟩ := r; rfl
  | str z => obtain ⟨t, rfl⟩ := r; rfl
  | _ => exact absurd (show false = true from f) Bool.false_ne_true
theorem any_eqU {x : V} : ∀ {xs : List V} {us : List Value}, Vals xs us → xs.all flatV = true → us.any (eqU x) = xs.any fun y => eqV y x
  | _, _, .nil, _ => rfl
  | y :: xs, u :: us, .cons r t, f => by
    rw [List.all_cons, Bool.and_eq_true] at f
    rw [List.any_cons, List.any_cons, eqU_of r f.1, any_eqU t f.2]
theorem mem_eqAt {A : Around} {s : Shared} {x : V} {v : Value} (rx : RelV x v) (fx : flatV x = true) : ∀ {xs : List V} {us : List Value}, Vals xs us → xs.all flatV = true → ∀ u ∈ us, SeqAt.EqAt A s u v (eqU x u)
  | _, _, .nil, _ => fun u hu => by cases hu
  | y :: xs, u :: us, .cons r t, f => fun u' hu => by
    rw [List.all_cons, Bool.and_eq_true] at f
    rcases List.mem_cons.mp hu with rfl | hu
    · rw [eqU_of r f.1]; exact eqAt_V r rx f.1 fx
    · exact mem_eqAt rx fx t f.2 u' hu
def inV (x : V) (xs : List V) : Bool := xs.any fun y => eqV y x
def rIn (K : PySem.W.Frag) (neg : Bool) : R2 := fun x y H Q => ∃ p xs, y = .ref p ∧ (SqL K H p xs ∨ SqT K H p xs) ∧ flatV x = true ∧ xs.all flatV = true ∧ Q (.bl (if neg then !inV x xs else inV x xs)) H
theorem op_in_seq : OpR X (compareOp .In) (rIn X.K false) := by
  intro pins s σ H x y v u Q I rx ry h
  obtain ⟨p, xs, rfl, hq, fx, fs, q⟩ := h
  cases ry
  rcases hq with hq | hq
  · obtain ⟨its, r, pl, hz⟩ := I.list hq
    refine SeqAt.in_listAt (eqU x) pl.isList (fun w hw => mem_eqAt rx fx r fs w (by simpa using hw)) ⟨.bl _, H, I, rfl, ?_⟩
    rw [show its.toArray.any (eqU x) = its.any (eqU x) by simp, any_eqU r fs]
    exact q
  · obtain ⟨its, r, pl, hz⟩ := I.tuple hq
    refine SeqAt.in_tupleAt (eqU x) pl (fun w hw => mem_eqAt rx fx r fs w (by simpa using hw)) ⟨.bl _, H, I, rfl, ?_⟩
    rw [show its.toArray.any (eqU x) = its.any (eqU x) by simp, any_eqU r fs]
    exact q
theorem call_len_seq : CallR X (.builtin "len") (fun xs H Q => ∃ p ys, xs = [.ref p] ∧ (SqL X.K H p ys ∨ SqT X.K H p ys) ∧ Q (.int ys.length) H) := by
  intro pins s σ H xs us Q I r h
  obtain ⟨p, ys, rfl, hq, q⟩ := h
  obtain ⟨u, rfl, rx⟩ := vals1 r
  cases rx
  have hn := line63
  rcases hq with hq | hq
  · obtain ⟨its, r', pl, hz⟩ := I.list hq
    have hlen := r'.length
    exact Calls.call_len_list pl.isList (by simp only [List.size_toArray] <;> omega) ⟨.int ys.length, H, I.tok _, ⟨s.toks + 1, by rw [List.size_toArray, hlen]⟩, q⟩
  · obtain ⟨its, r', pl, hz⟩ := I.tuple hq
    have hlen := r'.length
    exact len_tuple pl (by simp only [List.size_toArray] <;> omega) ⟨.int ys.length, H, I.tok _, ⟨s.toks + 1, by rw [List.size_toArray, hlen]⟩, q⟩
theorem call_len_str : CallR X (.builtin "len") (fun xs H Q => ∃ z, xs = [.str z] ∧ z.length ≤ sizeLine ∧ Q (.int z.length) H) := by
  intro pins s σ H xs us Q I r h
  obtain ⟨z, rfl, hz, q⟩ := h
  obtain ⟨u, rfl, t, rfl⟩ := vals1 r
  have hn := line63
  exact len_str (by omega) ⟨.int z.length, H, I.tok _, ⟨_, rfl⟩, q⟩
theorem call_list_of : CallR X (.type "list") (fun xs H Q => ∃ p ys, xs = [.ref p] ∧ (SqL X.K H p ys ∨ SqT X.K H p ys) ∧ ∀ l, H l = none → Q (.ref l) (upd H l (.lst ys))) := by
  intro pins s σ H xs us Q I r h
  obtain ⟨p, ys, rfl, hq, q⟩ := h
  obtain ⟨u, rfl, rx⟩ := vals1 r
  cases rx
  have fin : ∀ (its : List Value), Vals ys its → ys.length ≤ sizeLine → ∀ (h' : Heap) (c' : Nat), (∀ b o', s.heap.get? b = some o' → h'.get? b = some o') →
      h'.get? s.heap.objs.size = some { cls := .type "list", dict := none, data := .seq its.toArray c', slots := #[] } → EP X pins σ Q (.ref s.heap.objs.size) { s with heap := h' } := fun its r' hz h' c' kp e =>
    ⟨.ref s.heap.objs.size, _, I.laid (t' := s.toks) kp (Nat.le_refl _) (show ObjOk X.prog X.w _ h' _ (.lst ys) from ⟨hz, its, c', r', e⟩), rfl, q _ (I.hok.fresh (Nat.le_refl _))⟩
  rcases hq with hq | hq
  · obtain ⟨its, r', pl, hz⟩ := I.list hq
    have hlen := r'.length
    obtain ⟨o, ho, hc, n, hd⟩ := pl.isList
    exact call_list_seq p (.inl rfl) ho hc hd (fun h' c' kp e => fin its r' hz h' c' kp e) (by simp only [List.size_toArray] <;> omega)
  · obtain ⟨its, r', pl, hz⟩ := I.tuple hq
    have hlen := r'.length
    obtain ⟨o, ho, hc, n, hd⟩ := pl
    exact call_list_seq p (.inr rfl) ho hc hd (fun h' c' kp e => fin its r' hz h' c' kp e) (by simp only [List.size_toArray] <;> omega)
def tyV (K : PySem.W.Frag) (T : String) (x : V) (H : Hp) : Prop := match x with
  | .str _ => T = "str"
  | .int _ => T = "int"
  | .ref p => (T = "list" ∧ ∃ xs, SqL K H p xs) ∨ (T = "tuple" ∧ ∃ o, K.lookup p = some o ∧ o.cls = .type "tuple" ∧ o.dict = none) ∨
      (T = "dict" ∧ ((∃ kvs, H p = some (.dK kvs)) ∨ ∃ kvs, H p = some (.dT kvs))) ∨ (T = "set" ∧ ∃ S n, H p = some (.set S n))
  | _ => False
theorem tyV_is {pins : List (Addr × Obj)} {σ : St} {H : Hp} {s : Shared} {T : String} {x : V} {v : Value} (I : Inv X pins σ H s) (r : RelV x v) (ty : tyV X.K T x H) :
    s.TypeIs v T ∧ ∀ a, v = .ref a → ∃ ob, s.heap.get? a = some ob ∧ ob.dict = none := by
  cases x with
  | str z =>
    obtain ⟨t, rfl⟩ := r
    cases (show T = "str" from ty)
    exact ⟨typeIs_str s z t, fun _ e => nomatch e⟩
  | int i =>
    obtain ⟨t, rfl⟩ := r
    cases (show T = "int" from ty)
    exact ⟨typeIs_int s i t, fun _ e => nomatch e⟩
  | ref p =>
    cases r
    rcases ty with ⟨rfl, xs, hq⟩ | ⟨rfl, o, hk, hc, hd⟩ | ⟨rfl, hk⟩ | ⟨rfl, S, n, hk⟩
    · obtain ⟨its, _, pl, _⟩ := I.list hq
      refine ⟨pl.isList.typeIs, fun a e => ?_⟩
      cases e
      obtain ⟨o, n, e, c, hd, _⟩ := pl
      exact ⟨o, e, hd⟩
    · refine ⟨⟨o, I.kIn p o hk, hc⟩, fun a e => ?_⟩
      cases e
      exact ⟨o, I.kIn _ o hk, hd⟩
    · have z : ∃ o, s.heap.get? p = some o ∧ o.ExactDict := by
        rcases hk with ⟨kvs, hk⟩ | ⟨kvs, hk⟩
        · obtain ⟨_, _, _, _, o, _, _, e, ex, _⟩ := I.hok p _ hk
          exact ⟨o, e, ex⟩
        · obtain ⟨_, _, _, _, o, _, _, e, ex, _⟩ := I.hok p _ hk
          exact ⟨o, e, ex⟩
      obtain ⟨o, e, ex⟩ := z
      refine ⟨⟨o, e, ex.1⟩, fun a e2 => ?_⟩
      cases e2
      exact ⟨o, e, ex.2.1⟩
    · obtain ⟨o, _, _, _, e, ex, _⟩ := I.hok p _ hk
      refine ⟨⟨o, e, ex.1⟩, fun a e2 => ?_⟩
      cases e2
      exact ⟨o, e, ex.2.1⟩
  | _ => exact False.elim ty
def tBM0 (K : PySem.W.Frag) (T : String) (r : V → List V → Hp → VK → Prop) (to : TE) : TE := fun σ H Q => to σ H fun x H1 => tyV K T x H1 ∧ r x [] H1 Q
def tBM (K : PySem.W.Frag) (T : String) (r : V → List V → Hp → VK → Prop) (to : TE) (t : TA) : TE := fun σ H Q => to σ H fun x H1 => tyV K T x H1 ∧ t σ H1 fun xs H2 => r x xs H2 Q
variable {o e : Expr} {es : List Expr} {to : TE} {t : TA} {name : Str} {apos cpos : Pos} {T id : String} {r : V → List V → Hp → VK → Prop}
theorem pe_bm0 (pa : PlainAttrs T) (slot : Slot T name id) (hty : typeOf (.builtin id) = pure (.type "method_descriptor")) (hm : MtR X id r) (ho : PE X o to)
    (hbase : attributeBase o name X.env (eval o X.env) = eval o X.env := by rfl) (hline : (apos.endLine == cpos.line) = true := by rfl) : PE X (.Call (.Attribute o name apos) [] [] cpos) (tBM0 X.K T r to) := by
  intro pins s σ H Q I h
  refine wpAny_Call_method0_late hbase hline (thn (ho pins s σ H _ I h) fun v s1 ⟨x, H1, I1, r1, ty, q1⟩ => ?_)
  obtain ⟨h1, h2⟩ := tyV_is I1 r1 ty
  exact ⟨T, id, pa, slot, hty, h1, h2, Calls.callWith_builtin rfl (PySem.evalArgs_none (hm pins s1 σ H1 x [] v [] Q I1 r1 .nil q1))⟩
theorem pe_bm (pa : PlainAttrs T) (slot : Slot T name id) (hty : typeOf (.builtin id) = pure (.type "method_descriptor")) (hm : MtR X id r) (ho : PE X o to) (ha : PA X (e :: es) t)
    (hbase : attributeBase o name X.env (eval o X.env) = eval o X.env := by rfl)
    (hfew : ((backTo cpos (starEach (e :: es) X.env)).all (fun x => !x.1) && (backToKw cpos (keywordEach [] X.env)).all (fun x => x.1.isSome)
      && decide ((e :: es).length + ([] : List Keyword).length + (if ([] : List Keyword).isEmpty then 0 else 1) < 30)) = true := by rfl)
    (hline : (apos.endLine == cpos.line) = true := by rfl) (hs : starEach (e :: es) X.env = (false, eval e X.env) :: starEach es X.env := by rfl) (hplain : (backTo cpos (starEach es X.env)).any (·.1) = false := by rfl) :
    PE X (.Call (.Attribute o name apos) (e :: es) [] cpos) (tBM X.K T r to t) := by
  intro pins s σ H Q I h
  refine wpAny_Call_method_late hbase hfew hline rfl (thn (ho pins s σ H _ I h) fun v s1 ⟨x, H1, I1, r1, ty, q1⟩ => ?_)
  obtain ⟨h1, h2⟩ := tyV_is I1 r1 ty
  refine ⟨T, id, pa, slot, hty, h1, h2, ?_⟩
  have hA := ha cpos pins s1 σ H1 _ I1 q1
  rw [hs] at hA ⊢
  refine Calls.callWith_builtin (by show (false || (backTo cpos (starEach es X.env)).any (·.1)) = false; rw [hplain] <;> rfl) (Calls.evalArgs_plain ?_)
  exact thn hA fun us s2 ⟨vs, H2, I2, r2, q2⟩ => hm pins s2 σ H2 x vs v us Q I2 r1 r2 q2
end
end L2
namespace L2
open PySem PySem.Spec PyProof.Rows
def MtM (X : Cx) (id : String) (r : V → List V → Hp → VK → Prop) : Prop :=
  ∀ (pins : List (Addr × Obj)) (s : Shared) (σ : St) (H : Hp) (x : V) (xs : List V) (v : Value) (us : List Value) (Q : VK), Inv X pins σ H s → RelV x v → Vals xs us → r x xs H Q →
    wpAny (model X.prog X.w) X.A (call (.builtin id) (v :: us)) (EP X pins σ Q) X.xe s
theorem Vals.one : ∀ {x : V} {us : List Value}, Vals [x] us → ∃ u, us = [u] ∧ RelV x u
  | _, _, .cons r .nil => ⟨_, rfl, r⟩
theorem Vals.zero : ∀ {us : List Value}, Vals [] us → us = []
  | _, .nil => rfl
section
variable {X : Cx} {pins : List (Addr × Obj)} {σ : St} {H : Hp} {s : Shared} {l b : Addr} {xs ys zs : List V}
theorem Inv.lset {its its' : List Value} {n : Nat} {f : Array Value → Array Value} {t' : Nat} (I : Inv X pins σ H s) (hH : H l = some (.lst xs))
    (e : s.heap.get? l = some { cls := .type "list", data := .seq its.toArray n }) (hf : f its.toArray = its'.toArray) (hv : Vals ys its') (hz : ys.length ≤ sizeLine) :
    Inv X pins σ (upd H l (.lst ys)) { s with heap := s.heap.update l (Obj.mapSeq f), toks := t' } := by
  have q := PySem.IsL.update e f
  rw [hf] at q
  refine I.write (x := l) (e := l) (by rw [hH]; exact trivial) (.inl rfl) (fun b' u hb hu => (Heap.get?_update_other s.heap (Obj.mapSeq f) (Ne.symm hb)).trans hu) ⟨_, q⟩ ?_
  exact ⟨hz, its', _, hv, q⟩
theorem Inv.lnew {its : List Value} {t' : Nat} (I : Inv X pins σ H s) (hv : Vals ys its) (hz : ys.length ≤ sizeLine) :
    Inv X pins σ (upd H s.heap.objs.size (.lst ys)) { s with heap := s.heap.push { cls := .type "list", data := .seq its.toArray }, toks := t' } :=
  I.laid (fun _ _ q => Heap.get?_push_of_some _ q) (Nat.le_refl _) ⟨hz, its, 0, hv, Heap.get?_push_size _ rfl⟩
theorem Inv.fresh (I : Inv X pins σ H s) : H s.heap.objs.size = none := I.hok.fresh (Nat.le_refl _)
theorem Inv.lstM (I : Inv X pins σ H s) (hH : H l = some (.lst xs)) : xs.length ≤ sizeLine ∧ ∃ (its : List Value) (n : Nat), Vals xs its ∧ xs.length = its.length ∧ s.heap.get? l = some { cls := .type "list", data := .seq its.toArray n } := by
  obtain ⟨z, its, n, r, e⟩ := I.hok l _ hH
  exact ⟨z, its, n, r, r.length, e⟩
end
section
variable {X : Cx}
def rAppend : V → List V → Hp → VK → Prop := fun x vs H Q => ∃ l xs y, x = .ref l ∧ vs = [y] ∧ H l = some (.lst xs) ∧ xs.length < sizeLine ∧ Q .non (upd H l (.lst (xs ++ [y])))
theorem mt_append : MtM X "list.append" rAppend := by
  intro pins s σ H x vs v us Q I rx rv h
  obtain ⟨l, xs, y, rfl, rfl, hH, hz, q⟩ := h
  cases rx
  obtain ⟨u, rfl, ru⟩ := rv.one
  obtain ⟨z, its, n, r, hl, e⟩ := I.lstM hH
  refine call_meets F.slot_list_append ⟨_, e, rfl⟩ F.entry_list_append (F.args_list_append_2 _ _) (PySem.list_append l its.toArray n u (by rw [List.size_toArray]; omega)) ⟨e, ?_⟩
  refine ⟨.non, _, I.lset (its' := its ++ [u]) hH e (by simp) (r.append (.cons ru .nil)) ?_, rfl, q⟩
  rw [List.length_append, List.length_singleton]
  omega
def rClear : V → List V → Hp → VK → Prop := fun x vs H Q => ∃ l xs, x = .ref l ∧ vs = [] ∧ H l = some (.lst xs) ∧ Q .non (upd H l (.lst []))
theorem mt_clear : MtM X "list.clear" rClear := by
  intro pins s σ H x vs v us Q I rx rv h
  obtain ⟨l, xs, rfl, rfl, hH, q⟩ := h
  cases rx
  have hus := rv.zero
  subst hus
  obtain ⟨z, its, n, r, hl, e⟩ := I.lstM hH
  refine call_meets F.slot_list_clear ⟨_, e, rfl⟩ F.entry_list_clear (F.args_list_clear_1 _) (AutoSeq1.list_clear_list_0 l its.toArray n (by rw [List.size_toArray]; omega)) ⟨e, ?_⟩
  exact ⟨.non, _, I.lset (its' := []) (ys := []) hH e rfl .nil (Nat.zero_le _), rfl, q⟩
def rCat : R2 := fun x y H Q => ∃ l b xs zs, x = .ref l ∧ y = .ref b ∧ H l = some (.lst xs) ∧ H b = some (.lst zs) ∧ xs.length + zs.length ≤ sizeLine ∧ ∀ p, H p = none → Q (.ref p) (upd H p (.lst (xs ++ zs)))
theorem op_cat : OpR X (binaryOp .Add) rCat := by
  intro pins s σ H x y v u Q I rx ry h
  obtain ⟨l, b, xs, zs, rfl, rfl, hH, hB, hz, q⟩ := h
  cases rx
  cases ry
  obtain ⟨z, its, n, r, hl, e⟩ := I.lstM hH
  obtain ⟨z2, its2, n2, r2, hl2, e2⟩ := I.lstM hB
  refine PySem.P.add_list e e2 ?_ (by rw [List.size_toArray, List.size_toArray]; omega)
  have ea : its.toArray ++ its2.toArray = (its ++ its2).toArray := by simp
  rw [ea]
  exact ⟨.ref _, _, I.lnew (t' := s.toks) (r.append r2) (by rw [List.length_append]; omega), rfl, q _ I.fresh⟩
theorem len_rep {α : Type} (xs : List α) (k : Nat) : (List.replicate k xs).flatten.length = k * xs.length := by
  induction k with
  | zero => simp
  | succ k ih => rw [List.replicate_succ, List.flatten_cons, List.length_append, ih, Nat.succ_mul, Nat.add_comm]
end
section
variable {prog : Program} {w : World} {A : Around} {E : Value → Shared → Prop} {s : Shared}
set_option maxRecDepth 100000 in
end
section
variable {X : Cx}
end
end L2
namespace L2
open PySem PySem.Spec PyProof.Rows
section
variable {κ : Type} [DecidableEq κ]
def valV (kvs : List (κ × V)) (k : κ) : Option V := (kvs.find? fun kv => decide (kv.1 = k)).map (·.2)
def putK (kvs : List (κ × V)) (k : κ) (v : V) : List (κ × V) :=
  if (kvs.any fun kv => decide (kv.1 = k)) = true then kvs.map (fun kv => if kv.1 = k then (kv.1, v) else kv) else kvs ++ [(k, v)]
theorem valV_pos {p : κ × V} {r : List (κ × V)} {k : κ} (e : p.1 = k) : valV (p :: r) k = some p.2 := by simp [valV, List.find?_cons, e]
theorem valV_neg {p : κ × V} {r : List (κ × V)} {k : κ} (e : ¬ p.1 = k) : valV (p :: r) k = valV r k := by simp [valV, List.find?_cons, e]
theorem valV_any (k : κ) : ∀ kvs : List (κ × V), (kvs.any fun kv => decide (kv.1 = k)) = (valV kvs k).isSome
  | [] => rfl
  | p :: r => by
    rw [List.any_cons]
    by_cases e : p.1 = k
    · simp only [valV_pos e, decide_eq_true e, Bool.true_or, Option.isSome_some]
    · rw [valV_neg e, decide_eq_false e, Bool.false_or]; exact valV_any k r
theorem length_putK (kvs : List (κ × V)) (k : κ) (v : V) : (putK kvs k v).length ≤ kvs.length + 1 := by
  unfold putK
  split
  · rw [List.length_map]; omega
  · rw [List.length_append, List.length_cons, List.length_nil]; omega
theorem putK_new {kvs : List (κ × V)} {k : κ} (v : V) (h : valV kvs k = none) : putK kvs k v = kvs ++ [(k, v)] := by
  unfold putK
  rw [valV_any, h]
  exact if_neg (by decide)
theorem RelO.isSome_eq {o : Option V} {u : Option Value} (r : RelO o u) : o.isSome = u.isSome := by
  cases o with
  | none => cases u with
    | none => rfl
    | some _ => exact (show False from r).elim
  | some _ => cases u with
    | none => exact (show False from r).elim
    | some _ => rfl
theorem KV.val {kvs : List (κ × V)} {vs : List (κ × Value)} (r : KV kvs vs) (k : κ) : RelO (valV kvs k) (valueAt vs k) := by
  unfold KV at r
  induction r with
  | nil => exact True.intro
  | @cons p q ps qs h t ih =>
    obtain ⟨h1, h2⟩ := h
    by_cases e : p.1 = k
    · have e' : q.1 = k := h1.symm.trans e
      have b : valueAt (q :: qs) k = some q.2 := by simp [valueAt, List.find?_cons, e']
      rw [valV_pos e, b]; exact h2
    · have e' : ¬ q.1 = k := fun z => e (h1.trans z)
      have b : valueAt (q :: qs) k = valueAt qs k := by simp [valueAt, List.find?_cons, e']
      rw [valV_neg e, b]; exact ih
theorem KV.any {kvs : List (κ × V)} {vs : List (κ × Value)} (r : KV kvs vs) (k : κ) : (kvs.any fun kv => decide (kv.1 = k)) = vs.any fun kv => decide (kv.1 = k) := by
  unfold KV at r
  induction r with
  | nil => rfl
  | cons h t ih => rw [List.any_cons, List.any_cons, ih, h.1]
theorem KV.repl {kvs : List (κ × V)} {vs : List (κ × Value)} (r : KV kvs vs) (k : κ) {y : V} {u : Value} (ry : RelV y u) :
    KV (kvs.map fun kv => if kv.1 = k then (kv.1, y) else kv) (vs.map fun kv => if kv.1 = k then (kv.1, u) else kv) := by
  unfold KV at r ⊢
  induction r with
  | nil => exact .nil
  | @cons p q ps qs h t ih =>
    rw [List.map_cons, List.map_cons]
    refine .cons ?_ ih
    obtain ⟨h1, h2⟩ := h
    by_cases e : p.1 = k
    · rw [if_pos e, if_pos (h1.symm.trans e)]; exact ⟨h1, ry⟩
    · rw [if_neg e, if_neg (fun z => e (h1.trans z))]; exact ⟨h1, h2⟩
theorem KV.put {kvs : List (κ × V)} {vs : List (κ × Value)} (r : KV kvs vs) (k : κ) {y : V} {u : Value} (ry : RelV y u) : KV (putK kvs k y) (stored vs k u) := by
  unfold putK stored
  rw [r.any k]
  by_cases e : (vs.any fun kv => decide (kv.1 = k)) = true
  · rw [if_pos e, if_pos e]; exact r.repl k ry
  · rw [if_neg e, if_neg e]; exact Paired.snoc r ⟨rfl, ry⟩
theorem KV.length {kvs : List (κ × V)} {vs : List (κ × Value)} (r : KV kvs vs) : kvs.length = vs.length := Paired.length r
end
theorem kV_is {P : Program} {w : World} {k : Key} {u : Value} (r : RelV (kV k) u) : (mixKind P w).is k u = true := by
  cases k with
  | inl i => obtain ⟨t, e⟩ := (show ∃ t, u = Value.int i t from r); subst e; exact mixKind_int P w i t
  | inr x => obtain ⟨t, e⟩ := (show ∃ t, u = Value.str x t from r); subst e; exact mixKind_str P w x t
theorem items_are {P : Program} {w : World} : ∀ {ks : List Key} {us : List Value}, Vals (ks.map kV) us → ItemsAre (mixKind P w) ks us
  | [], _, r => by rw [List.map_nil] at r; cases r; exact .nil
  | k :: ks, _, r => by
    rw [List.map_cons] at r
    cases r with
    | cons h t => exact .cons (kV_is h) (items_are t)
abbrev KT (H : Hp) : List (List Key × V) → List (List Key × Addr × Value) → Prop := Paired fun p q => p.1 = q.1 ∧ H q.2.1 = some (.tup (p.1.map kV)) ∧ RelV p.2 q.2.2
theorem KT.val {H : Hp} {kvs : List (List Key × V)} {xs : List (List Key × Addr × Value)} (r : KT H kvs xs) (k : List Key) : RelO (valV kvs k) ((atKey xs k).map (·.2)) := by
  induction r with
  | nil => exact True.intro
  | @cons p q ps qs h t ih =>
    obtain ⟨h1, _, h2⟩ := h
    by_cases e : p.1 = k
    · have e' : q.1 = k := h1.symm.trans e
      have b : atKey (q :: qs) k = some q.2 := by simp [atKey, List.find?_cons, e']
      rw [valV_pos e, b]; exact h2
    · have e' : ¬ q.1 = k := fun z => e (h1.trans z)
      have b : atKey (q :: qs) k = atKey qs k := by simp [atKey, List.find?_cons, e']
      rw [valV_neg e, b]; exact ih
theorem KT.repl {H : Hp} {kvs : List (List Key × V)} {xs : List (List Key × Addr × Value)} (r : KT H kvs xs) (k : List Key) {y : V} {u : Value} (ry : RelV y u) :
    KT H (kvs.map fun kv => if kv.1 = k then (kv.1, y) else kv) (xs.map (putAt k u)) := by
  induction r with
  | nil => exact .nil
  | @cons p q ps qs h t ih =>
    rw [List.map_cons, List.map_cons]
    refine .cons ?_ ih
    obtain ⟨h1, h2, h3⟩ := h
    unfold putAt
    by_cases e : p.1 = k
    · rw [if_pos e, if_pos (h1.symm.trans e)]; exact ⟨h1, h2, ry⟩
    · rw [if_neg e, if_neg (fun z => e (h1.trans z))]; exact ⟨h1, h2, h3⟩
theorem KT.put {H : Hp} {kvs : List (List Key × V)} {xs : List (List Key × Addr × Value)} (r : KT H kvs xs) (k : List Key) {b : Addr} {y : V} {u : Value} (hb : H b = some (.tup (k.map kV))) (ry : RelV y u) :
    KT H (putK kvs k y) (storedH xs k b u) := by
  have e : (kvs.any fun kv => decide (kv.1 = k)) = (atKey xs k).isSome := by
    rw [valV_any, (r.val k).isSome_eq, Option.isSome_map]
  unfold putK storedH
  rw [e]
  by_cases q : (atKey xs k).isSome = true
  · rw [if_pos q, if_pos q]; exact r.repl k ry
  · rw [if_neg q, if_neg q]; exact Paired.snoc r ⟨rfl, hb, ry⟩
theorem KT.keeps {H H' : Hp} {kvs : List (List Key × V)} {xs : List (List Key × Addr × Value)} (r : KT H kvs xs) (ht : ∀ b ys, H b = some (.tup ys) → H' b = some (.tup ys)) : KT H' kvs xs :=
  Paired.mapP r fun _ _ z => ⟨z.1, ht _ _ z.2.1, z.2.2⟩
section
variable {P : Program} {w : World} {H : Hp} {h : Heap} {a : Addr}
theorem rd_of {u : HO} (ok : HOk P w H h) (e : Rd H a u) : ObjOk P w H h a u := e.ok ok
theorem dk_rd {kvs : List (Key × V)} (ok : HOk P w H h) (e : Rd H a (.dK kvs)) : kvs.length ≤ sizeLine ∧ (a == sysModules) = false ∧ ∃ vs, KV kvs vs ∧ h.DictOf (mixKind P w) a vs :=
  show ObjOk P w H h a (.dK kvs) from rd_of ok e
theorem dk_of {kvs : List (Key × V)} (ok : HOk P w H h) (e : H a = some (.dK kvs)) : kvs.length ≤ sizeLine ∧ (a == sysModules) = false ∧ ∃ vs, KV kvs vs ∧ h.DictOf (mixKind P w) a vs := dk_rd ok (.inl e)
theorem key_of {ks : List Key} (ok : HOk P w H h) (e : H a = some (.tup (ks.map kV))) : (tupleKind (mixKind P w)).is h ks a := by
  obtain ⟨_, its, r, o, h1, h2, n, h3⟩ := (show ObjOk P w H h a (.tup (ks.map kV)) from ok a _ e)
  exact ⟨o, its.toArray, n, h1, h2, h3, by simpa using items_are r⟩
theorem dt_rd {kvs : List (List Key × V)} (ok : HOk P w H h) (e : Rd H a (.dT kvs)) : kvs.length ≤ sizeLine ∧ (a == sysModules) = false ∧
    ∃ xs, KT H kvs xs ∧ h.DictOfH (tupleKind (mixKind P w)) a xs := by
  obtain ⟨z, y, xs, r, o, es, ep, h1, h2, h3, h4, h5⟩ := (show ObjOk P w H h a (.dT kvs) from rd_of ok e)
  refine ⟨z, y, xs, r, o, es, ep, h1, h2, h3, h4, fun x hx => ?_, h5⟩
  have all : ∀ {l : List (List Key × V)} {m : List (List Key × Addr × Value)}, KT H l m → ∀ x ∈ m, (tupleKind (mixKind P w)).is h x.1 x.2.1 := by
    intro l m q
    induction q with
    | nil => intro x hx; exact nomatch hx
    | @cons p q ps qs hq t ih =>
      intro x hx
      rcases List.mem_cons.mp hx with e | hx
      · subst e
        exact key_of ok (by rw [← hq.1]; exact hq.2.1)
      · exact ih x hx
  exact all r x hx
theorem dt_of {kvs : List (List Key × V)} (ok : HOk P w H h) (e : H a = some (.dT kvs)) : kvs.length ≤ sizeLine ∧ (a == sysModules) = false ∧
    ∃ xs, KT H kvs xs ∧ h.DictOfH (tupleKind (mixKind P w)) a xs := dt_rd ok (.inl e)
end
def DGet (H : Hp) (a : Addr) (y : V) (r : Option V) : Prop :=
  (∃ kvs k, Rd H a (.dK kvs) ∧ y = kV k ∧ r = valV kvs k) ∨ ∃ kvs k b, Rd H a (.dT kvs) ∧ y = .ref b ∧ H b = some (.tup (k.map kV)) ∧ r = valV kvs k
def DPut (H : Hp) (a : Addr) (y v : V) (H' : Hp) : Prop :=
  (∃ kvs k, H a = some (.dK kvs) ∧ y = kV k ∧ kvs.length < sizeLine ∧ H' = upd H a (.dK (putK kvs k v))) ∨
  ∃ kvs k b, H a = some (.dT kvs) ∧ y = .ref b ∧ H b = some (.tup (k.map kV)) ∧ kvs.length < sizeLine ∧ H' = upd H a (.dT (putK kvs k v))
theorem DGet.k {H : Hp} {a : Addr} {kvs : List (Key × V)} {k : Key} (e : H a = some (.dK kvs)) : DGet H a (kV k) (valV kvs k) := .inl ⟨kvs, k, .inl e, rfl, rfl⟩
theorem DPut.k {H : Hp} {a : Addr} {kvs : List (Key × V)} {k : Key} {v : V} (e : H a = some (.dK kvs)) (hl : kvs.length < sizeLine) : DPut H a (kV k) v (upd H a (.dK (putK kvs k v))) := .inl ⟨kvs, k, e, rfl, hl, rfl⟩
section
variable {X : Cx} {pins : List (Addr × Obj)} {σ : St} {H : Hp} {s : Shared} {a : Addr} {y v : V} {u r : Value} {o : Option V} {A : Around} {E : Value → Shared → Prop}
theorem Inv.big (I : Inv X pins σ H s) : sysModules < s.heap.objs.size := by
  have h : mainGlobals < s.heap.objs.size := (I.mod.glob.keeps I.bk).lt
  exact Nat.lt_trans (by decide) h
theorem d_in {Q : Value → Shared → Prop} (hu : A.units + 1 < cLine) (I : Inv X pins σ H s) (g : DGet H a y o) (ry : RelV y u) (h : ∀ s', Inv X pins σ H s' → Q (.bool o.isSome) s') :
    wpAny (model X.prog X.w) A (compareOp .In u (.ref a)) Q E s := by
  rcases g with ⟨kvs, k, e, ey, l⟩ | ⟨kvs, k, b, e, ey, eb, l⟩
  · subst ey
    obtain ⟨z, hd, vs, rel, dd⟩ := dk_rd I.hok e
    refine wpAny_in_of (kV_is ry) hd dd.mapOf ?_
    rw [← (rel.val k).isSome_eq, ← l]
    exact h _ (I.tok _)
  · subst ey
    cases (show u = Value.ref b from ry)
    obtain ⟨z, hd, xs, rel, dd⟩ := dt_rd I.hok e
    refine wpAny_in_heap (tupleKind_room_in1 hu) (key_of I.hok eb) hd dd ?_
    have q := (rel.val k).isSome_eq
    rw [Option.isSome_map] at q
    rw [← q, ← l]
    exact h _ (I.tok _)
theorem d_write {h' : Heap} {t' : Nat} {ob : HO} (I : Inv X pins σ H s) (mu : Mut (H a)) (hs : Heap.SameBut a s.heap h') (he : ∃ q, h'.get? a = some q) (new : ObjOk X.prog X.w (upd H a ob) h' a ob) :
    Inv X pins σ (upd H a ob) { s with heap := h', toks := t' } :=
  I.write (x := a) (e := a) mu (.inl rfl) (fun b q hb z => (hs.2 b hb).trans z) he new
theorem dk_new {P : Program} {w : World} {H' : Hp} {h' : Heap} {kvs : List (Key × V)} {vs : List (Key × Value)} (z : kvs.length ≤ sizeLine) (hd : (a == sysModules) = false) (rel : KV kvs vs) (dd : h'.DictOf (mixKind P w) a vs) :
    ObjOk P w H' h' a (.dK kvs) := ⟨z, hd, vs, rel, dd⟩
theorem d_setItem {H' : Hp} {Q : Unit → Shared → Prop} (hu : A.units + 1 < cLine) (I : Inv X pins σ H s) (g : DPut H a y v H') (ry : RelV y u) (rv : RelV v r) (h : ∀ s', Inv X pins σ H' s' → Q () s') :
    wpAny (model X.prog X.w) A (setItem (.ref a) u r) Q E s := by
  rcases g with ⟨kvs, k, e, ey, l, eH⟩ | ⟨kvs, k, b, e, ey, eb, l, eH⟩
  · subst ey eH
    obtain ⟨z, hd, vs, rel, dd⟩ := dk_of I.hok e
    have hz : vs.length ≤ sizeLine := by rw [← rel.length]; exact z
    have hl : (putK kvs k v).length ≤ sizeLine := by have := length_putK kvs k v; omega
    refine wpAny_setItem_pairs (hsz := hz) (kV_is ry) dd fun h' dd' hs => h _ ?_
    have he : ∃ q, h'.get? a = some q := let ⟨q, _, _, hq, _⟩ := dd'; ⟨q, hq⟩
    exact d_write I (by rw [e]; exact True.intro) hs he (dk_new hl hd (rel.put k rv) dd')
  · subst ey eH
    cases (show u = Value.ref b from ry)
    obtain ⟨z, hd, xs, rel, dd⟩ := dt_of I.hok e
    have hz : xs.length ≤ sizeLine := by rw [← Paired.length rel]; exact z
    have hl : (putK kvs k v).length ≤ sizeLine := by have := length_putK kvs k v; omega
    refine wpAny_setItem_heap (hsz := hz) (tupleKind_room_in1 hu) (key_of I.hok eb) dd fun h' dd' hs => h _ ?_
    obtain ⟨q, es, ep, hq, h2, h3, h4, _, h5⟩ := dd'
    refine d_write I (by rw [e]; exact True.intro) hs ⟨q, hq⟩ ⟨hl, hd, _, (rel.put k eb rv).keeps fun c ys ec => ?_, q, es, ep, hq, h2, h3, h4, h5⟩
    rw [upd_ne (ne_of ec e (fun z => nomatch z))]
    exact ec
end
section
variable {X : Cx} {pins : List (Addr × Obj)} {σ : St} {H : Hp} {s : Shared} {a : Addr} {kvs : List (Key × V)} {k : Key} {u : Value} {A : Around} {E : Value → Shared → Prop}
theorem d_len {Q : Value → Shared → Prop} (I : Inv X pins σ H s) (e : Rd H a (.dK kvs)) (h : ∀ t s', Inv X pins σ H s' → Q (.int kvs.length t) s') : wpAny (model X.prog X.w) A (call (.builtin "len") [.ref a]) Q E s := by
  obtain ⟨z, hd, vs, rel, dd⟩ := dk_rd I.hok e
  refine call_len_dict hd dd (by rw [← rel.length]; rw [sizeLine_eq] at z; omega) ?_
  rw [← rel.length]
  exact h _ _ (I.tok _)
end
def tDIn (ty td : TE) : TE := fun σ H Q => ty σ H fun y H1 => td σ H1 fun x H2 => ∃ a o, x = .ref a ∧ DGet H2 a y o ∧ Q (.bl o.isSome) H2
def sDPut (td ty tv : TE) : TS := fun D σ H => tv σ H fun v H1 => td σ H1 fun x H2 => ty σ H2 fun y H3 => ∃ a H4, x = .ref a ∧ DPut H3 a y v H4 ∧ D.nx σ H4
section
variable {X : Cx} {o i e value : Expr} {pos pos' tpos : Pos} {td ty tv : TE}
theorem pc_din (hu : X.A.units + 1 < cLine) (hi : PE X i ty) (ho : PE X o td) : PC X .In i o (tDIn ty td) := by
  intro pins s σ H Q I h
  refine thn (hi pins s σ H _ I h) fun iv s1 ⟨y, H1, I1, ry, q1⟩ => thn (ho pins s1 σ H1 _ I1 q1) fun u s2 ⟨x, H2, I2, rx, a, ov, ex, g, q2⟩ => ?_
  subst ex
  obtain rfl : u = Value.ref a := rx
  exact d_in hu I2 g ry fun s3 I3 => ⟨.bl ov.isSome, H2, I3, rfl, q2⟩
theorem ps_dput (hu : X.A.units + 1 < cLine) (ho : PE X o td) (hi : PE X i ty) (hv : PE X value tv) (hs : swapsWith value (some (.Subscript o i pos')) pos.line X.env = pure false) :
    PS X (.Assign [.Subscript o i pos'] value pos) (sDPut td ty tv) := by
  intro pins s σ H D I h
  refine wpAny_Assign_Subscript (thn (hv pins s σ H _ I h) fun r s1 ⟨v, H1, I1, rv, q1⟩ => thn (ho pins s1 σ H1 _ I1 q1) fun u s2 ⟨x, H2, I2, rx, q2⟩ => thn (hi pins s2 σ H2 _ I2 q2) fun iv s3 ⟨y, H3, I3, ry, a, H4, ex, g, q3⟩ => ?_) hs
  subst ex
  obtain rfl : u = Value.ref a := rx
  exact d_setItem hu I3 g ry rv fun s4 I4 => ⟨σ, H4, I4, q3⟩
end
theorem dk_empty {P : Program} {w : World} {H : Hp} (h : Heap) (hb : sysModules < h.objs.size) : ObjOk P w H (h.push { cls := .type "dict", data := .dict #[] }) h.objs.size (.dK []) :=
  ⟨Nat.zero_le _, beq_eq_false_iff_ne.mpr (Ne.symm (Nat.ne_of_lt hb)), [], .nil, Heap.DictOf.new h⟩
def tDNewK : TE := fun _ H Q => ∀ p, H p = none → Q (.ref p) (upd H p (.dK []))
section
variable {X : Cx} {pos : Pos}
theorem pe_dnewK : PE X (.Dict [] [] pos) tDNewK := fun pins s σ H Q I h =>
  wpAny_Dict_empty ⟨.ref s.heap.objs.size, _, I.laid (a := s.heap.objs.size) (o := .dK []) (t' := s.toks) (fun _ _ q => Heap.get?_push_of_some _ q) (Nat.le_refl _) (dk_empty s.heap I.big), rfl, h _ (I.hok.fresh (Nat.le_refl _))⟩
end
def IsD (H : Hp) (a : Addr) : Prop := (∃ kvs, Rd H a (.dK kvs)) ∨ ∃ kvs, Rd H a (.dT kvs)
theorem isD_at {X : Cx} {pins : List (Addr × Obj)} {σ : St} {H : Hp} {s : Shared} {a : Addr} (I : Inv X pins σ H s) (d : IsD H a) :
    s.TypeIs (.ref a) "dict" ∧ (∀ b, Value.ref a = .ref b → ∃ ob, s.heap.get? b = some ob ∧ ob.dict = none) ∧ (a == sysModules) = false := by
  rcases d with ⟨kvs, e⟩ | ⟨kvs, e⟩
  · obtain ⟨_, hd, vs, _, dd⟩ := dk_rd I.hok e
    refine ⟨dd.typeIs, fun b q => ?_, hd⟩
    cases q
    obtain ⟨ob, _, _, h1, h2, _⟩ := dd
    exact ⟨ob, h1, h2.2.1⟩
  · obtain ⟨_, hd, xs, _, dd⟩ := dt_rd I.hok e
    refine ⟨dd.typeIs, fun b q => ?_, hd⟩
    cases q
    obtain ⟨ob, _, _, h1, h2, _⟩ := dd
    exact ⟨ob, h1, h2.2.1⟩
section
variable {X : Cx} {pins : List (Addr × Obj)} {σ : St} {H : Hp} {s : Shared} {a : Addr} {y d : V} {u r : Value} {o : Option V} {A : Around} {E : Value → Shared → Prop}
end
section
variable {X : Cx} {o e f : Expr} {apos cpos : Pos} {td ty tx : TE}
end
section
variable {X : Cx} {pins : List (Addr × Obj)} {σ : St} {H : Hp} {s : Shared} {a : Addr} {kvs : List (Key × V)} {A : Around} {E : Value → Shared → Prop}
end
section
variable {X : Cx} {pins : List (Addr × Obj)} {σ : St} {H : Hp} {s : Shared} {a : Addr} {y : V} {u : Value} {A : Around} {E : Value → Shared → Prop}
end
end L2
namespace Att
open PySem PySem.W PySem.Calls PyProof.Rows
theorem ints_of_wellAll {P : Params} {h : Heap} : ∀ (ns : List Int) (vs : List Value), WellAll P h vs (ns.map WData.int) → IntsAre vs ns := by
  intro ns
  induction ns with
  | nil =>
    intro vs w
    rw [List.map_nil] at w
    cases w
    exact .nil
  | cons n ns ih =>
    intro vs w
    rw [List.map_cons] at w
    cases w with
    | cons a b =>
      cases a
      exact .cons _ _ (ih _ b)
theorem script_of {l : OpenLaw} {n : Nat} (hn : l.most = some n) {P : Params} {h : Heap} {args : List WData} {vals : List Value}
    (hpre : l.row.toRowW.claim.pre args = true) (hwl : WellAll P h vals args) :
    ∃ a vs ns, vals = [Value.ref a] ∧ args = [WData.list (ns.map WData.int)] ∧ h.get? a = some { cls := .type "list", data := .seq vs.toArray } ∧ IntsAre vs ns ∧ ns.length ≤ n := by
  have hsh : WShape.hasAll [] args [.list .int] = true := (pre_splitW hpre).1
  have hc : l.pre.holds [] { args := args } = true := (pre_splitW hpre).2
  obtain ⟨d, r, rfl, h1, h2⟩ := hasAllW_cons hsh
  obtain rfl := hasAllW_nil h2
  obtain ⟨xs, rfl, h3⟩ := hasW_list h1
  obtain ⟨ns, rfl⟩ := items_int h3
  have hlen : ns.length ≤ n := by
    unfold OpenLaw.pre at hc
    have h4 : (WTm.not (.lt (.lit (.int (n : Int))) (.len (.arg 0)))).holds [] { args := [.list (ns.map .int)] } = true := by
      have h4 := (holds_andW hc).1
      rw [hn] at h4
      exact h4
    have h5 := condW_of h4 (w_not (w_lt w_lit (w_len_list (w_arg rfl))))
    rw [List.length_map] at h5
    refine Nat.le_of_not_lt fun q => ?_
    have q' : (n : Int) < ((ns.length : Nat) : Int) := by omega
    first
      | (rw [decide_eq_true q'] at h5; exact absurd h5 (by decide))
      | (simp at h5; omega)
  cases hwl with
  | cons w1 w2 =>
    cases w2
    cases w1 with
    | list ho hall => exact ⟨_, _, ns, rfl, rfl, ho, ints_of_wellAll ns _ hall, hlen⟩
theorem post_true (l : OpenLaw) (args : List WData) : l.row.toRowW.claim.post args (.bool true) args = true :=
  postW_of (r := l.row.toRowW) (X := (true == true))
    (show WShape.has [] (.bool true) .bool = true by first | rfl | decide | simp [WShape.has, WShape.arms, WShape.armsAll])
    (show (WTm.eq .res (.lit (.bool true))).value [] { args := args, res := some (.bool true), after := args } = some (.bool (true == true)) from w_eq_bool (w_res rfl) w_lit) rfl
theorem attach_call {l : OpenLaw} {n : Nat} {q : Program} {loose : List Str} {XP : (Str → Option Value) → Heap → Prop} {YP : World → Heap → Prop} {d : DefRec}
    (hn : l.most = some n) (hdf : d.params.defaults = [])
    (call : ∀ (w : World) (s₀ s₁ : Shared) (mg mb : Str → Option Value) (fa : Addr) (o : Obj) (pm cd doc : Value) (a : Addr) (vs : List Value) (ns : List Int),
      Ground q loose [] XP w s₀ mg mb s₁.heap → YP w s₁.heap →
      s₁.heap.get? fa = some o → o.data = .func (docDef d.name d.params d.body d.scope pm cd doc) → s₁.heap.CodeRec cd d.name → mg d.name = some (.ref fa) →
      s₁.heap.get? a = some { cls := .type "list", data := .seq vs.toArray } → IntsAre vs ns → ns.length ≤ n → s₁.gens = #[] →
      codeAny (model l.prog w) callerA (.call (.ref fa) ⟨[.ref a], []⟩) (fun r s' => r = .ok (.ret (.bool true)) ∧ OldK s₁.heap s'.heap ∧ s'.os = s₁.os ∧ AllBare s'.gens) s₁) :
    WalkO q loose XP YP l.row.toRowW d [] (fun f vs => PySem.call f vs) := by
  intro w s₀ s₁ mg mb G Y fa o pm cd doc dV kV ho hd hcd hD hmg hg args vals as hpre hlay hrd hwl hlo
  obtain rfl : dV = .none := Dflts.none hD hdf
  obtain rfl : kV = .none := Dflts.noKw hD
  obtain ⟨a, vs, ns, rfl, rfl, hobj, hints, hlen⟩ := script_of hn hpre hwl
  refine enter_call (codeAny_mono (call w s₀ s₁ mg mb fa o pm cd doc a vs ns G Y ho (fd_plain hd) hcd hmg hobj hints hlen hg) fun r s' hq => ?_)
  obtain ⟨rfl, h2, h3, h4⟩ := hq
  exact ⟨.inl ⟨.bool true, .bool true, [], rfl, fun _ => rfl, .bool true, post_true l _, fun _ => ⟨List.Pairwise.nil, fun _ hm => (nomatch hm)⟩⟩, h2, h3, h4⟩
section
variable {prog : Program} {w : World} {A : Around} {E : Value → Shared → Prop} {s : Shared} {K : Frag}
end
end Att
namespace L2
open PySem PySem.Spec PyProof.Rows
theorem vals_ints : ∀ {vs : List Value} {ns : List Int}, IntsAre vs ns → Vals (ns.map V.int) vs
  | _, _, .nil => .nil
  | _, _, .cons n t h => .cons ⟨t, rfl⟩ (vals_ints h)
def Only (H : Hp) : Prop := ∀ b, H b = none ∨ ∃ o xs, H b = some (.frz o (.lst xs))
theorem law_call {P : Program} {w : World} {K : PySem.W.Frag} {mg mb : Str → Option Value} {CX : CXT} {k : Nat} {fa a : Addr} {fd : FuncData} {x : Str} {sp : Sp} {s₁ : Shared} {vs : List Value} {ns : List Int}
    (KX : K.In s₁.heap) (hns : s₁.heap.Ns mainGlobals mg) (hb : s₁.heap.Ns builtinsNs mb) (hbb : ∀ x : Str, x ≠ "__name__" → mb x = bootBuiltins x) (hlim : s₁.heap.NoLimit) (hg : s₁.gens = #[])
    (ha : s₁.heap.get? a = some { cls := .type "list", data := .seq vs.toArray }) (hi : IntsAre vs ns) (hl : ns.length ≤ sizeLine) (hr : Room k callerA)
    (F : ∀ base : Heap, K.In base → base.Ns mainGlobals mg → FnOk P w K mg base CX k fa fd [x] sp) (hbind : ∀ (s : Shared) (u : Value), BindsTo s fd ⟨[u], []⟩ [(x, u)])
    (hsp : ∀ H : Hp, Only H → SqL K H a (ns.map V.int) → sp [.ref a] H (fun v _ => v = .bl true) fun _ _ _ => False)
    (hCX : ∀ H e s', CX [] H s₁ (fun _ _ _ => False) e s' → False) :
    codeAny (model P w) callerA (.call (.ref fa) ⟨[.ref a], []⟩) (fun r s' => r = .ok (.ret (.bool true)) ∧ OldK s₁.heap s'.heap ∧ s'.os = s₁.os ∧ AllBare s'.gens) s₁ := by
  have rv := vals_ints hi
  have lenV := hi.length
  have core : ∀ H : Hp, Only H → SqL K H a (ns.map V.int) → HOk P w H s₁.heap → (∀ b, H b ≠ none → b = a) → (H a ≠ none → K.lookup a = none) →
      codeAny (model P w) callerA (.call (.ref fa) ⟨[.ref a], []⟩) (fun r s' => r = .ok (.ret (.bool true)) ∧ OldK s₁.heap s'.heap ∧ s'.os = s₁.os ∧ AllBare s'.gens) s₁ := by
    intro H hO hS hok hA hK
    have base_of : ∀ {b : Addr} {o : Obj}, s₁.heap.get? b = some o → H b = none → (hidT s₁.heap H).get? b = some o := fun e n => hidT_get e n
    have noA : ∀ {b : Addr} {o : Obj} {es : Array DictEntry} {ep : Nat}, s₁.heap.get? b = some o → o.data = .dict es ep → H b = none := fun {b o es ep} e d => by
      cases q : H b with
      | none => rfl
      | some u =>
        have e' : b = a := hA b (by rw [q]; simp)
        subst e'
        rw [ha] at e; cases e
        have d' : Data.seq vs.toArray _ = Data.dict es ep := d
        cases d'
    have nsK : ∀ {b : Addr} {m : Str → Option Value}, s₁.heap.Ns b m → (hidT s₁.heap H).Ns b m := fun {b m} ⟨o, es, ep, e, d, r⟩ => ⟨o, es, ep, base_of e (noA e d), d, r⟩
    have hKb : K.In (hidT s₁.heap H) := fun b o e => base_of (KX b o e) (by
      cases q : H b with
      | none => rfl
      | some u =>
        have e' : b = a := hA b (by rw [q]; simp)
        subst e'
        rw [hK (by rw [q]; simp)] at e; cases e)
    have hM : Mod K mg (hidT s₁.heap H) := ⟨hKb, nsK hns, ⟨mb, nsK hb, hbb⟩, let ⟨mc, h1, h2⟩ := hlim; ⟨mc, nsK h1, h2⟩⟩
    have e0 : Env0 P w K mg (hidT s₁.heap H) callerA [] s₁ H := ⟨rfl, hM, fun b o e => of_hidT e, Nat.le_of_eq (hidT_size _ _), trivial, fun b hb => absurd (show b ∈ ([] : List Addr) from hb) (by simp), hok, .of_eq hg⟩
    refine codeAny_mono ((F _ hKb (nsK hns)).run callerA [] s₁ H ⟨[.ref a], []⟩ [.ref a] [.ref a] _ _ hr e0 (hbind s₁ (.ref a)) (.cons rfl .nil) (hsp H hO hS)) fun r s' h => ?_
    cases r with
    | error e => exact (hCX H e s' h).elim
    | ok fl =>
      cases fl with
      | next => exact False.elim h
      | brk => exact False.elim h
      | cont => exact False.elim h
      | ret u =>
        obtain ⟨v, H', os, bare, un, hok', r', q⟩ := h
        have q' : v = .bl true := q
        subst q'
        obtain rfl : u = Value.bool true := r'
        refine ⟨rfl, OldK.of_keep fun b o e => ?_, os, bare⟩
        cases q : H b with
        | none => exact un.keep b o e q (by intro z; exact absurd (show b ∈ ([] : List Addr) from z) (by simp)) (by simp)
        | some u =>
          rcases hO b with z | ⟨ob, xs, z⟩
          · rw [q] at z; cases z
          · have z2 := un.frzs b ob _ z
            obtain ⟨e1, _⟩ := hok b _ z
            obtain ⟨e2, _⟩ := hok' b _ z2
            rw [e] at e1; cases e1
            exact e2
  cases hk : K.lookup a with
  | some o =>
    have e := KX a o hk
    rw [ha] at e
    cases e
    refine core (fun _ => none) (fun _ => .inl rfl) (.inr ⟨_, vs.toArray, _, hk, rfl, rfl, rfl, by rw [List.size_toArray, lenV]; exact hl, by simpa using rv⟩) (fun b u z => by have z' : (none : Option HO) = some u := z; cases z') (fun b z => absurd rfl z) fun z => absurd rfl z
  | none =>
    refine core (fun b => if b = a then some (.frz { cls := .type "list", data := .seq vs.toArray } (.lst (ns.map V.int))) else none) (fun b => ?_) (.inl (.inr ⟨{ cls := .type "list", data := .seq vs.toArray }, if_pos rfl⟩)) (fun b u z => ?_) (fun b z => ?_) fun _ => hk
    · by_cases hb : b = a
      · exact .inr ⟨_, _, if_pos hb⟩
      · exact .inl (if_neg hb)
    · by_cases hb : b = a
      · have z' := (if_pos hb).symm.trans z
        cases z'
        subst hb
        exact ⟨ha, by rw [List.length_map]; exact hl, vs, _, rv, ha⟩
      · have z' := (if_neg hb).symm.trans z
        cases z'
    · by_cases hb : b = a
      · exact hb
      · exact absurd (if_neg hb) z
end L2
namespace L2
open PySem PySem.Spec PyProof.Rows
theorem walk_of {l : PySem.W.OpenLaw} {n k : Nat} {q : Program} {loose : List Str} {XP : (Str → Option Value) → Heap → Prop} {YP : World → Heap → Prop} {d : DefRec} {K : Params → PySem.W.Frag} {CX : World → CXT} {sp : World → Sp} {x : Str}
    (hn : l.most = some n) (hn2 : n ≤ sizeLine) (hdf : d.params.defaults = []) (hr : Room k callerA)
    (hY : ∀ (w : World) (h : Heap), YP w h → (K w.params).In h)
    (F : ∀ (w : World) (mg : Str → Option Value) (fa : Addr) (h : Heap), (K w.params).In h → h.Ns mainGlobals mg → mg d.name = some (.ref fa) →
      ∃ fd : FuncData, (∀ (s : Shared) (u : Value), BindsTo s fd ⟨[u], []⟩ [(x, u)]) ∧
        ∀ base : Heap, (K w.params).In base → base.Ns mainGlobals mg → FnOk l.prog w (K w.params) mg base (CX w) k fa fd [x] (sp w))
    (hsp : ∀ (w : World) (H : Hp) (a : Addr) (ns : List Int), ns.length ≤ n → Only H → SqL (K w.params) H a (ns.map V.int) → sp w [.ref a] H (fun v _ => v = .bl true) fun _ _ _ => False)
    (hCX : ∀ (w : World) (H : Hp) (s : Shared) (e : Value) (s' : Shared), CX w [] H s (fun _ _ _ => False) e s' → False) :
    PySem.W.WalkO q loose XP YP l.row.toRowW d [] (fun f vs => PySem.call f vs) := by
  refine Att.attach_call hn hdf fun w s₀ s₁ mg mb fa o pm cd doc a vs ns G Y ho hd hcd hmg hobj hints hlen hg => ?_
  have KX := hY w _ Y
  obtain ⟨fd, hb, hF⟩ := F w mg fa _ KX G.T.g hmg
  exact law_call KX G.T.g G.T.b G.T.builtins G.T.nolimit hg hobj hints (Nat.le_trans hlen hn2) hr hF hb (fun H hO hS => hsp w H a ns hlen hO hS) fun H e s' => hCX w H s₁ e s'
end L2
namespace L2
open PySem PySem.Spec PyProof.Rows
def inClass (s : Stmt) (j : Nat) : Stmt := match s with
  | .ClassDef _ _ _ body _ _ _ _ _ _ _ => body.getD j (.Pass ⟨0, 0, 0, 0⟩)
  | _ => .Pass ⟨0, 0, 0, 0⟩
def defArgs (s : Stmt) : Arguments := match s with
  | .FunctionDef _ a _ _ _ _ _ _ _ _ => a
  | _ => { posonlyargs := [], args := [], vararg := none, kwonlyargs := [], kw_defaults := [], kwarg := none, defaults := [] }
def defBody (s : Stmt) : List Stmt := match s with
  | .FunctionDef _ _ b _ _ _ _ _ _ _ => b
  | _ => []
def defScope (s : Stmt) : Scope := match s with
  | .FunctionDef _ _ _ _ _ _ sc _ _ _ => sc
  | _ => { kind := .function, names := [], isGenerator := false, isCoroutine := false }
abbrev CX0 : CXT := fun _ _ _ _ _ _ => False
abbrev E0 : XK := fun _ _ _ => False
structure Fun (K : PySem.W.Frag) (x qual : Str) (st : Stmt) (f : Addr) (fd : FuncData) : Prop where
  ex : ∃ (oc : Value) (od : Option Addr) (kV doc pm : Value) (an : Option Addr) (cdv ct : Value) (osl : Array (Option Value)),
    fd = PySem.W.fnOf x qual (defArgs st) (defBody st) (defScope st) .none kV doc pm an cdv ct ∧ K.lookup f = some ⟨oc, od, .func fd, osl⟩ ∧ PySem.W.codeIn K cdv qual = true
  kp : PySem.W.keepIn K (.ref f) = true
section
variable {P : Program} {w : World} {K : PySem.W.Frag} {mg : Str → Option Value} {base : Heap}
theorem Fun.ok {x qual : Str} {st : Stmt} {f : Addr} {fd : FuncData} {N ps : List Str} {k : Nat} {sp : Sp} (F : Fun K x qual st f fd) (S : FnScope N ps (defScope st)) (len : ∀ vs H Q E, sp vs H Q E → vs.length = ps.length)
    (hbody : ∀ (cdv : Value) (A : Around) (outer : List Env) (s : Shared) (H : Hp) (vs : List V) (Q : VK) (E : XK), Room k (A.deeper (envOfC qual (defScope st) s.heap.objs.size f cdv)) → sp vs H Q E →
      ∃ t, PSs (cxOf CX0 P w K mg base N qual (defScope st) f cdv A outer s H E).nox (defBody st) t ∧ t { nx := fun _ H' => Q .non H', rt := Q } (start N vs) H) : FnOk P w K mg base CX0 (k + 1) f fd ps sp := by
  obtain ⟨oc, od, kV, doc, pm, an, cdv, ct, osl, rfl, lk, hcd⟩ := F.ex
  refine fn_of lk hcd S len fun A outer s H vs Q E hr hsp => ?_
  obtain ⟨t, h, q⟩ := hbody cdv A outer s H vs Q E hr hsp
  exact ⟨t, h.nox, q⟩
theorem Fun.binds {x qual : Str} {st : Stmt} {f : Addr} {fd : FuncData} {ps : List Str} (F : Fun K x qual st f fd)
    (h : ∀ (kV doc pm : Value) (an : Option Addr) (cdv ct : Value) (us : List Value), us.length = ps.length → bindArgs (PySem.W.fnOf x qual (defArgs st) (defBody st) (defScope st) .none kV doc pm an cdv ct) ⟨us, []⟩ = pure (ps.zip us)) : Binds K fd ps [] := by
  obtain ⟨oc, od, kV, doc, pm, an, cdv, ct, osl, rfl, lk, hcd⟩ := F.ex
  exact .all (h kV doc pm an cdv ct)
theorem fun_mk {x qual : Str} {st : Stmt} {f : Addr} {oc : Value} {od an : Option Addr} {osl : Array (Option Value)} {kV doc pm cdv ct : Value} (l : K.lookup f = some ⟨oc, od, .func (PySem.W.fnOf x qual (defArgs st) (defBody st) (defScope st) .none kV doc pm an cdv ct), osl⟩)
    (c : PySem.W.codeIn K cdv qual = true) (k : PySem.W.keepIn K (.ref f) = true) : Fun K x qual st f (PySem.W.fnOf x qual (defArgs st) (defBody st) (defScope st) .none kV doc pm an cdv ct) := ⟨⟨oc, od, kV, doc, pm, an, cdv, ct, osl, rfl, l, c⟩, k⟩
end
theorem hu_of {A : Around} {k : Nat} (hr : Room k A) : A.units + 1 < cLine := Nat.lt_of_le_of_lt (Nat.add_le_add_left (by decide : 1 ≤ 64) _) hr.units
theorem small1000 {n : Nat} (h : n ≤ 1000) : n < sizeLine := Nat.lt_of_le_of_lt h (by decide)
section
variable {X : Cx}
theorem pv (i : Nat) {x : Str} {pos : Pos} (hN : X.N[i]? = some x := by rfl) (hv : Vis X.env.scope x := by first | exact Or.inl rfl | exact Or.inr (Or.inl rfl) | exact Or.inr (Or.inr rfl)) (hd : (x == ("__debug__" : Str)) = false := by decide)
    (hcd : (x == ("__classdict__" : Str)) = false := by decide) : PE X (.Name x pos) (tVar i) := pe_var hN hv hd hcd
end
theorem iteF {A B : Prop} (h : B) : if false = true then A else B := by
  rw [if_neg Bool.false_ne_true]
  exact h
theorem iteT {A B : Prop} (h : A) : if true = true then A else B := by
  rw [if_pos rfl]
  exact h
theorem ite2 {c A B : Prop} [Decidable c] (h1 : c → A) (h2 : ¬ c → B) : if c then A else B := by
  by_cases h : c
  · rw [if_pos h]
    exact h1 h
  · rw [if_neg h]
    exact h2 h
def Same (H H' : Hp) : Prop := ∀ b o, H b = some o → H' b = some o
theorem Same.refl (H : Hp) : Same H H := fun _ _ h => h
theorem Same.trans {H H1 H2 : Hp} (a : Same H H1) (b : Same H1 H2) : Same H H2 := fun c o h => b c o (a c o h)
theorem Same.free {H H' : Hp} (e : Same H H') {l : Addr} (h : H' l = Option.none) : H l = Option.none := by
  cases q : H l with
  | none => rfl
  | some o =>
    rw [e l o q] at h
    cases h
theorem Same.seq {K : PySem.W.Frag} {H H' : Hp} {a : Addr} {xs : List V} (e : Same H H') (h : SqL K H a xs) : SqL K H' a xs := by
  rcases h with (h | ⟨o, h⟩) | h
  · exact .inl (.inl (e _ _ h))
  · exact .inl (.inr ⟨o, e _ _ h⟩)
  · exact .inr h
end L2
namespace L2
open PySem PySem.Spec PyProof.Rows
section
variable {X : Cx}
theorem call_lenD : CallR X (.builtin "len") (fun xs H Q => ∃ a kvs, xs = [V.ref a] ∧ H a = some (.dK kvs) ∧ Q (.int kvs.length) H) := by
  intro pins s σ H xs us Q I r h
  obtain ⟨a, kvs, rfl, ha, q⟩ := h
  obtain ⟨u, rfl, ru⟩ := vals1 r
  cases ru
  exact d_len I (.inl ha) fun t s' I' => ⟨.int kvs.length, H, I', ⟨t, rfl⟩, q⟩
end
section
variable {κ : Type} [DecidableEq κ]
theorem nd_snoc : ∀ {l : List κ} {k : κ}, l.Nodup → ¬ k ∈ l → (l ++ [k]).Nodup
  | [], k, _, _ => by simp
  | a :: r, k, h, hk => by
    obtain ⟨h1, h2⟩ := List.nodup_cons.mp h
    show (a :: (r ++ [k])).Nodup
    refine List.nodup_cons.mpr ⟨fun m => ?_, nd_snoc h2 fun m => hk (List.mem_cons.mpr (Or.inr m))⟩
    rcases List.mem_append.mp m with q | q
    · exact h1 q
    · exact hk (List.mem_cons.mpr (Or.inl (List.mem_singleton.mp q).symm))
end
end L2
set_option maxHeartbeats 4000000
namespace L2
open PySem PySem.Spec PyProof.Rows
section
variable {X : Cx}
def CDivW (_ j : Int) : Prop := 0 < j ∧ j.natAbs.log2 < 9000
theorem op_fdivW : OpR X (binaryOp .FloorDiv) (rI CDivW fun i j => .int (i / j)) := opI fun i j _ _ _ _ _ hc q => by
  have h1 : (0 : Int) < j := hc.1
  exact floordiv_int (by omega) (by rw [Int.fdiv_eq_ediv_of_nonneg i (by omega)]; exact q) (.inl (PyProof.noPylong_of_log2 hc.2))
theorem cdivW_lit {i j : Int} (h : (decide (0 < j) && decide (j.natAbs.log2 < 9000)) = true) : CDivW i j := by
  obtain ⟨a, b⟩ := Bool.and_eq_true_iff.mp h
  exact ⟨of_decide_eq_true a, of_decide_eq_true b⟩
theorem cdivW_of {i j : Int} {n : Nat} (h0 : 0 < j) (h : j < 2 ^ n) (hn : n ≤ 9000) : CDivW i j := by
  refine ⟨h0, ?_⟩
  have e : (j.natAbs : Int) = j := by omega
  have h2 : j.natAbs < 2 ^ n := by
    have : (j.natAbs : Int) < ((2 ^ n : Nat) : Int) := by rw [e]; simpa using h
    exact Int.ofNat_lt.mp this
  have := (Nat.log2_lt (n := j.natAbs) (k := n) (by omega)).mpr h2
  omega
theorem call_isinst : CallR X (.builtin "isinstance") (fun xs H Q => ∃ x n t b, xs = [x, .ty n] ∧ TyOf X.K H x t ∧ PySem.W.kitOne X.K t (.type n) = some b ∧ Q (.bl b) H) := by
  intro pins s σ H xs us Q I r h
  obtain ⟨x, n, t, b, rfl, ty, e, q⟩ := h
  obtain ⟨u, w', rfl, ru, rw'⟩ := vals2 r
  have rw2 : w' = Value.type n := rw'
  subst rw2
  exact isinst_ok I ru ty e fun tk => ⟨.bl b, H, I.tok _, rfl, q⟩
theorem pe_ty {x : Str} {n : String} {pos : Pos} (hv : bootBuiltins x = some (.type n)) (hg : Gl X x) (hm : X.mg x = none) (hn : x ≠ "__name__" := by decide) (hd : (x == ("__debug__" : Str)) = false := by decide) : PE X (.Name x pos) (tC (.ty n)) := pe_bltn hg hm hv rfl hn hd
theorem isi_same {K : PySem.W.Frag} {n : String} : PySem.W.kitOne K (.type n) (.type n) = some true := by
  unfold PySem.W.kitOne
  rw [if_pos (beq_self_eq_true _)]
theorem isi_int_bool {K : PySem.W.Frag} : PySem.W.kitOne K (.type "int") (.type "bool") = some false := by rfl
mutual
inductive Dt (K : PySem.W.Frag) (H : Hp) : V → PyData → Prop
  | non : Dt K H .non .none
  | bl (b : Bool) : Dt K H (.bl b) (.bool b)
  | int (i : Int) : Dt K H (.int i) (.int i)
  | str (x : Str) : Dt K H (.str x) (.str x)
  | lst {a : Addr} {xs : List V} {ds : List PyData} : SqL K H a xs → DtA K H xs ds → Dt K H (.ref a) (.list ds)
  | tup {a : Addr} {xs : List V} {ds : List PyData} : SqT K H a xs → DtA K H xs ds → Dt K H (.ref a) (.tuple ds)
inductive DtA (K : PySem.W.Frag) (H : Hp) : List V → List PyData → Prop
  | nil : DtA K H [] []
  | cons {x : V} {xs : List V} {d : PyData} {ds : List PyData} : Dt K H x d → DtA K H xs ds → DtA K H (x :: xs) (d :: ds)
end
section
variable {pins : List (Addr × Obj)} {σ : St} {H : Hp} {s : Shared}
mutual
theorem Dt.reads (I : Inv X pins σ H s) : ∀ {x : V} {d : PyData} {u : Value}, Dt X.K H x d → RelV x u → ∃ as, Reads s.heap u d as
  | _, _, u, .non, r => by cases (show u = Value.none from r); exact ⟨_, .none⟩
  | _, _, u, .bl b, r => by cases (show u = Value.bool b from r); exact ⟨_, .bool b⟩
  | _, _, u, .int i, r => by obtain ⟨t, rfl⟩ := (show ∃ t, u = Value.int i t from r); exact ⟨_, .int i t⟩
  | _, _, u, .str x, r => by obtain ⟨t, rfl⟩ := (show ∃ t, u = Value.str x t from r); exact ⟨_, .str x t⟩
  | _, _, u, @Dt.lst _ _ a xs ds h hd, r => by
    cases (show u = Value.ref a from r)
    obtain ⟨its, rv, ⟨o, n, e, c, _, d⟩, hz⟩ := I.list h
    obtain ⟨as, ra⟩ := DtA.reads I hd rv
    exact ⟨_, .list e c d (by simpa using ra)⟩
  | _, _, u, @Dt.tup _ _ a xs ds h hd, r => by
    cases (show u = Value.ref a from r)
    obtain ⟨its, rv, ⟨o, e, c, n, d⟩, hz⟩ := I.tuple h
    obtain ⟨as, ra⟩ := DtA.reads I hd rv
    exact ⟨_, .tuple e c d (by simpa using ra)⟩
theorem DtA.reads (I : Inv X pins σ H s) : ∀ {xs : List V} {ds : List PyData} {us : List Value}, DtA X.K H xs ds → Vals xs us → ∃ as, ReadsAll s.heap us ds as
  | _, _, _, .nil, .nil => ⟨_, .nil⟩
  | _, _, _, .cons h t, .cons r rs => by
    obtain ⟨as, ra⟩ := Dt.reads I h r
    obtain ⟨bs, rb⟩ := DtA.reads I t rs
    exact ⟨_, .cons ra rb⟩
end
end
def rEqD (K : PySem.W.Frag) : R2 := fun x y H Q => ∃ d e, Dt K H x d ∧ Dt K H y e ∧ SeqAt.shaped d = true ∧ SeqAt.shaped e = true ∧ Q (.bl (PyData.eqv d e)) H
def rNeD (K : PySem.W.Frag) : R2 := fun x y H Q => ∃ d e, Dt K H x d ∧ Dt K H y e ∧ SeqAt.shaped d = true ∧ SeqAt.shaped e = true ∧ Q (.bl (!PyData.eqv d e)) H
theorem op_eqD (hu : X.A.units + 64 < cLine) : OpR X (compareOp .Eq) (rEqD X.K) := by
  intro pins s σ H x y v u Q I rx ry h
  obtain ⟨d, e, hd, he, sd, se, q⟩ := h
  obtain ⟨as, ra⟩ := hd.reads I rx
  obtain ⟨bs, rb⟩ := he.reads I ry
  exact eq_dataH ra rb sd se hu ⟨.bl _, H, I, rfl, q⟩
theorem op_neD (hu : X.A.units + 64 < cLine) : OpR X (compareOp .NotEq) (rNeD X.K) := by
  intro pins s σ H x y v u Q I rx ry h
  obtain ⟨d, e, hd, he, sd, se, q⟩ := h
  obtain ⟨as, ra⟩ := hd.reads I rx
  obtain ⟨bs, rb⟩ := he.reads I ry
  exact ne_dataH ra rb sd se hu ⟨.bl _, H, I, rfl, q⟩
structure Dn (P : Program) (w : World) (K : PySem.W.Frag) (mg : Str → Option Value) (base : Heap) (k : Nat) (x : Str) (ps : List Str) (sp : Sp) : Prop where
  ex : ∃ f fd, FnOk P w K mg base CX0 k f fd ps sp ∧ Binds K fd ps [] ∧ PySem.W.keepIn K (.ref f) = true ∧ mg x = some (.ref f)
theorem pe_fn {j k : Nat} {x : Str} {ps : List Str} {sp : Sp} {e : Expr} {es : List Expr} {t : TA} {p pos : Pos} (D : Dn X.prog X.w X.K X.mg X.base j x ps sp) (hr : Room k X.A) (ha : PA X (e :: es) t) (hj : j ≤ k := by decide) (hg : Gl X x := by rfl)
    (hdb : (x == ("__debug__" : Str)) = false := by decide) (he : starEach (e :: es) X.env = (false, eval e X.env) :: starEach es X.env := by rfl) (hpl : (backTo pos (starEach es X.env)).any (·.1) = false := by rfl) :
    PE X (.Call (.Name x p) (e :: es) [] pos) (tCall sp [] E0 t) := by
  obtain ⟨f, fd, F, b, kp, m⟩ := D.ex
  exact pe_call F (hr.mono hj) hg m kp b .nil (fun _ _ _ _ _ _ _ h => h.elim) ha hdb he hpl
end
structure At (K : PySem.W.Frag) (mg : Str → Option Value) (x : Str) (st : Stmt) (f : Addr) (fd : FuncData) : Prop where
  fn : Fun K x x st f fd
  name : mg x = some (.ref f)
theorem At.ok {P : Program} {w : World} {K : PySem.W.Frag} {mg : Str → Option Value} {base : Heap} {x : Str} {st : Stmt} {f : Addr} {fd : FuncData} {N ps : List Str} {k : Nat} {sp : Sp} (F : At K mg x st f fd) (S : FnScope N ps (defScope st)) (len : ∀ vs H Q E, sp vs H Q E → vs.length = ps.length)
    (hbody : ∀ (cdv : Value) (A : Around) (outer : List Env) (s : Shared) (H : Hp) (vs : List V) (Q : VK) (E : XK), Room k (A.deeper (envOfC x (defScope st) s.heap.objs.size f cdv)) → sp vs H Q E →
      ∃ t, PSs (cxOf CX0 P w K mg base N x (defScope st) f cdv A outer s H E).nox (defBody st) t ∧ t { nx := fun _ H' => Q .non H', rt := Q } (start N vs) H)
    (h : ∀ (kV doc pm : Value) (an : Option Addr) (cdv ct : Value) (us : List Value), us.length = ps.length → bindArgs (PySem.W.fnOf x x (defArgs st) (defBody st) (defScope st) .none kV doc pm an cdv ct) ⟨us, []⟩ = pure (ps.zip us)) :
    Dn P w K mg base (k + 1) x ps sp := ⟨f, fd, F.fn.ok S len hbody, F.fn.binds h, F.fn.kp, F.name⟩
theorem at_mk {K : PySem.W.Frag} {mg : Str → Option Value} {h : Heap} {x : Str} {st : Stmt} {f : Addr} {oc : Value} {od an : Option Addr} {osl : Array (Option Value)} {kV doc pm cdv ct : Value} (X : K.In h) (G : h.Ns mainGlobals mg)
    (a : PySem.W.nsIn K mainGlobals x = some (some (.ref f))) (l : K.lookup f = some ⟨oc, od, .func (PySem.W.fnOf x x (defArgs st) (defBody st) (defScope st) .none kV doc pm an cdv ct), osl⟩)
    (c : PySem.W.codeIn K cdv x = true) (k : PySem.W.keepIn K (.ref f) = true) : At K mg x st f (PySem.W.fnOf x x (defArgs st) (defBody st) (defScope st) .none kV doc pm an cdv ct) := ⟨fun_mk l c k, PySem.W.mg_of X G a⟩
theorem Same.tup {H H' : Hp} {K : PySem.W.Frag} {a : Addr} {xs : List V} (e : Same H H') (h : SqT K H a xs) : SqT K H' a xs := by
  rcases h with (h | ⟨o, h⟩) | h
  · exact .inl (.inl (e _ _ h))
  · exact .inl (.inr ⟨o, e _ _ h⟩)
  · exact .inr h
theorem same_new {H : Hp} {p : Addr} (h : H p = none) (o : HO) : Same H (upd H p o) := fun b u q => by rw [upd_ne (ne_of_none q h)]; exact q
end L2
namespace Jm
def cf (a b : Int) : Int := (Int.gcd a b : Int)
abbrev fr (t b : Int) : Rat := Rat.divInt t b
end Jm
namespace Jm
end Jm
namespace Jm
def Sz (n : Nat) (x : Int) : Prop := x.natAbs < 2 ^ n
end Jm
namespace Jm
end Jm
namespace Jm
end Jm
namespace Jm
end Jm
namespace Jm
def restN (c : Int) : Nat → Int
  | 0 => c
  | i + 1 => restN c i / 10000000000
def cellOf (ns : List Int) (k : Int) : Int := if 0 < (ns.length : Int) then ns.getD (k % ns.length).toNat 0 else 0
def turnOf (ns : List Int) (k : Int) : Int := if 0 < (ns.length : Int) then k / ns.length else 1
def mixed (c k j many : Int) : Int :=
  let one := (c * 7919 + k * 104729 + j * 1299709 + 31) % 1000000007
  let two := (one * 48271 + c / 1009) % 998244353
  let three := (two * (one % 9973 + 1) + j) % 1000000009
  (one * 69621 + three * 40692 + three / 1013) % 2147483647 % many
def draw (ns : List Int) (k j many : Int) : Int :=
  if turnOf ns k = 0 ∧ 1000000000000000000 ≤ cellOf ns k ∧ 0 < restN (cellOf ns k) j.toNat then restN (cellOf ns k) j.toNat % 10000000000 % many
  else mixed (cellOf ns k) k j many
theorem draw_lo (ns : List Int) (k j many : Int) (h : 0 < many) : 0 ≤ draw ns k j many := by
  unfold draw; split
  · exact Int.emod_nonneg _ (by omega)
  · exact Int.emod_nonneg _ (by omega)
theorem draw_hi (ns : List Int) (k j many : Int) (h : 0 < many) : draw ns k j many < many := by
  unfold draw; split
  · exact Int.emod_lt_of_pos _ h
  · exact Int.emod_lt_of_pos _ h
end Jm
namespace L2
open PySem PySem.Spec PyProof.Rows
structure spDraw (K : PySem.W.Frag) (vs : List V) (H : Hp) (Q : VK) (E : XK) : Prop where
  ex : ∃ (a : Addr) (ns : List Int) (k j many : Int), vs = [.ref a, .int k, .int j, .int many] ∧ SqL K H a (ns.map V.int) ∧ ns.length ≤ 63 ∧ 0 ≤ k ∧ 0 ≤ j ∧ j < 2 ^ 62 ∧ 0 < many ∧ Q (.int (Jm.draw ns k j many)) H
theorem use_draw {K : PySem.W.Frag} {H : Hp} {Q : VK} {E : XK} {a : Addr} {ns : List Int} {k j many : Int} (hS : SqL K H a (ns.map V.int)) (h63 : ns.length ≤ 63) (h1 : 0 ≤ k) (h2 : 0 ≤ j) (h3 : j < 2 ^ 62) (h4 : 0 < many)
    (h : ∀ d : Int, d = Jm.draw ns k j many → 0 ≤ d → d < many → Q (.int d) H) : spDraw K [.ref a, .int k, .int j, .int many] H Q E :=
  ⟨a, ns, k, j, many, rfl, hS, h63, h1, h2, h3, h4, h _ rfl (Jm.draw_lo ns k j many h4) (Jm.draw_hi ns k j many h4)⟩
abbrev ratO (q : Rat) : HO := .tup [.int q.num, .int (q.den : Int)]
def spInt : Sp := fun vs H Q _ => ∃ i : Int, vs = [.int i] ∧ Q (.bl true) H
def spLaw (K : PySem.W.Frag) : Sp := fun vs H Q _ => ∃ (a : Addr) (ns : List Int), vs = [.ref a] ∧ SqL K H a (ns.map V.int) ∧ ns.length ≤ 63 ∧ ∀ H', Q (.bl true) H'
section
variable {X : Cx} {pos : Pos}
def tIfJ (c : TT) (t u : TS) : TS := fun D σ H => ∃ J : St → Hp → Prop, (c σ H fun b H1 => if b = true then t { D with nx := J } σ H1 else u { D with nx := J } σ H1) ∧ ∀ σ' H', J σ' H' → D.nx σ' H'
theorem ps_ifJ {c : Expr} {a b : List Stmt} {tc : TT} {t u : TS} (hc : PT X c tc) (ha : PSs X a t) (hb : PSs X b u) : PS X (.If c a b pos) (tIfJ tc t u) := by
  intro pins s σ H D I h
  obtain ⟨J, h, hJ⟩ := h
  refine thn (ps_if hc ha hb pins s σ H { D with nx := J } I h) fun f s' q => ?_
  cases f with
  | next => obtain ⟨σ', H', I', q⟩ := q; exact ⟨σ', H', I', hJ _ _ q⟩
  | cont => exact q
  | brk => exact q
  | ret v => exact q
end
theorem pt_pure {X : Cx} {e : Expr} {t : TT} (h : PT X e t) : PT X e (fun σ H Q => ∃ b : Bool, t σ H (fun b' H' => b' = b ∧ H' = H) ∧ Q b H) := by
  intro pins s σ H Q I hw
  obtain ⟨b, hb, q⟩ := hw
  refine thn (h pins s σ H _ I hb) fun b' s' ⟨H', I', e1, e2⟩ => ?_
  subst e1 e2
  exact ⟨_, I', q⟩
theorem cdivW_sz {i j : Int} (h0 : 0 < j) (h : Jm.Sz 9000 j) : CDivW i j := by
  refine ⟨h0, ?_⟩
  exact (Nat.log2_lt (by omega)).mpr h
theorem sz_lit {n : Nat} {x : Int} (h : decide (x.natAbs < 2 ^ n) = true) : Jm.Sz n x := by
  unfold Jm.Sz
  exact of_decide_eq_true h
theorem atI_map {ns : List Int} {k : Int} (h0 : 0 ≤ k) (h : k < (ns.length : Int)) : atI (ns.map V.int) k = some (.int (ns.getD k.toNat 0)) := by
  have hk : k.toNat < ns.length := by omega
  have ek : k = ((k.toNat : Nat) : Int) := by omega
  have q : atI (ns.map V.int) ((k.toNat : Nat) : Int) = some (.int (ns.getD k.toNat 0)) := atI_nat (by rw [List.getElem?_map, List.getD_eq_getElem?_getD, List.getElem?_eq_getElem hk] <;> rfl)
  rw [← ek] at q
  exact q
end L2
namespace L2
open PySem PySem.Spec PyProof.Rows
section
variable {prog : Program} {w : World} {A : Around} {R : Result → Shared → Prop} {s : Shared}
theorem compLoop_any {elt target iter : Expr} {scope : Scope} {pos : Pos} {it acc : Value} {env : Env} (J : Nat → Shared → Prop)
    (turn : ∀ n s, J n s → wpAny (model prog w) A (pyNext it) (fun r s₁ => match r with
      | none => R (.ok .next) s₁
      | some v => wpAny (model prog w) A (letOwnedTupleGo target it v) (fun _ s₂ => wpAny (model prog w) A (assign target env v) (fun _ s₃ => wpAny (model prog w) A (eval elt env) (fun x s₄ =>
              wpAny (model prog w) A (call (.builtin "list.append") [acc, x]) (fun _ s₅ => ∃ m, m < n ∧ J m s₅) (fun _ _ => False) s₄) (fun _ _ => False) s₃) (fun _ _ => False) s₂) (fun _ _ => False) s₁) (fun _ _ => False) s)
    (n : Nat) (h : J n s) : codeAny (model prog w) A (.compLoop (.ListComp elt [⟨target, iter, [], 0⟩] scope pos) 0 it acc env) R s := by
  refine codeAny_loop rfl J (fun n s hI => ?_) n h
  show wpAny _ A ((compTurn (.ListComp elt [⟨target, iter, [], 0⟩] scope pos) 0 it acc env).onRaise (fun x => do noteFrame x env; theTreesLotGoes x)) _ _ s
  refine wpAny_noted ?_
  rw [compTurn_list1]
  refine wpAny_bind (wpAny_standAt (wpAny_bind (wpAny_mono (turn n s hI) (fun r s₁ h₁ => ?_) fun _ _ h' => h'.elim)))
  cases r with
  | none => exact wpAny_pure h₁
  | some v =>
    refine wpAny_bind (wpAny_mono h₁ (fun _ s₂ h₂ => wpAny_bind (wpAny_mono h₂ (fun _ s₃ h₃ => ?_) fun _ _ h' => h'.elim)) fun _ _ h' => h'.elim)
    exact wpAny_bind (wpAny_bind (wpAny_mono h₃ (fun x s₄ h₄ => wpAny_bind (wpAny_mono h₄ (fun _ s₅ h₅ => wpAny_pure (wpAny_pure ⟨rfl, h₅⟩)) fun _ _ h' => h'.elim)) fun _ _ h' => h'.elim))
end
theorem closure_ok {scope : Scope} {env : Env} (h : ∀ y ∈ scope.names, y.2 = .free → ∃ c, env.cells.lookup y.1 = some c) :
    ∃ cl, closureFor scope env = pure cl ∧ (∀ y c, (y, c) ∈ cl → env.cells.lookup y = some c ∧ (y, NameKind.free) ∈ scope.names) ∧ ∀ y, (y, NameKind.free) ∈ scope.names → ∃ c, (y, c) ∈ cl := by
  have gen : ∀ (names : List (Str × NameKind)) (acc : List (Str × Addr)), (∀ y ∈ names, y.2 = .free → ∃ c, env.cells.lookup y.1 = some c) →
      ∃ cl, (forIn names acc fun (x : Str × NameKind) (cs : List (Str × Addr)) => (if (x.2 == NameKind.free) = true then do let a ← cellOf env x.1; pure (ForInStep.yield ((x.1, a) :: cs)) else pure (ForInStep.yield cs) : Sem _)) = pure cl ∧
        (∀ y c, (y, c) ∈ cl → (env.cells.lookup y = some c ∧ (y, NameKind.free) ∈ names) ∨ (y, c) ∈ acc) ∧ (∀ p ∈ acc, p ∈ cl) ∧ ∀ y, (y, NameKind.free) ∈ names → ∃ c, (y, c) ∈ cl := by
    intro names
    induction names with
    | nil => intro acc _; exact ⟨acc, by rw [List.forIn_nil], fun y c m => .inr m, fun p hp => hp, fun y m => nomatch m⟩
    | cons x r ih =>
      intro acc hc
      obtain ⟨n, k⟩ := x
      by_cases hk : k = .free
      · subst hk
        obtain ⟨c, ec⟩ := hc (n, .free) List.mem_cons_self rfl
        obtain ⟨cl, e, h1, h2, h3⟩ := ih ((n, c) :: acc) fun y hy => hc y (List.mem_cons_of_mem _ hy)
        refine ⟨cl, ?_, fun y d m => ?_, fun p hp => h2 p (List.mem_cons_of_mem _ hp), fun y m => ?_⟩
        · rw [List.forIn_cons, ← e]
          have ecell : cellOf env n = pure c := by unfold cellOf; rw [ec]
          simp only [beq_self_eq_true, if_true, ecell, pure_bind]
        · rcases h1 y d m with ⟨a, b⟩ | b
          · exact .inl ⟨a, List.mem_cons_of_mem _ b⟩
          · rcases List.mem_cons.mp b with z | z
            · cases z; exact .inl ⟨ec, List.mem_cons_self⟩
            · exact .inr z
        · rcases List.mem_cons.mp m with z | z
          · cases z; exact ⟨c, h2 _ List.mem_cons_self⟩
          · exact h3 y z
      · obtain ⟨cl, e, h1, h2, h3⟩ := ih acc fun y hy => hc y (List.mem_cons_of_mem _ hy)
        have hb : (k == NameKind.free) = false := by simpa using hk
        refine ⟨cl, ?_, fun y d m => ?_, h2, fun y m => ?_⟩
        · rw [List.forIn_cons, ← e]
          simp only [hb, Bool.false_eq_true, if_false, pure_bind]
        · rcases h1 y d m with ⟨a, b⟩ | b
          · exact .inl ⟨a, List.mem_cons_of_mem _ b⟩
          · exact .inr b
        · rcases List.mem_cons.mp m with z | z
          · cases z; exact absurd rfl hk
          · exact h3 y z
  obtain ⟨cl, e, h1, _, h3⟩ := gen scope.names [] h
  refine ⟨cl, ?_, fun y c m => (h1 y c m).elim id (fun z => nomatch z), h3⟩
  have e2 : closureFor scope env = ((forIn scope.names ([] : List (Str × Addr)) fun (x : Str × NameKind) (cs : List (Str × Addr)) => (if (x.2 == NameKind.free) = true then do let a ← cellOf env x.1; pure (ForInStep.yield ((x.1, a) :: cs)) else pure (ForInStep.yield cs) : Sem _)) >>= fun r => pure r) := rfl
  rw [e2, e]
  rfl
theorem lookup_mem {α : Type} {l : List (Str × α)} {y : Str} {c : α} (h : (y, c) ∈ l) : ∃ d, l.lookup y = some d := by
  induction l with
  | nil => cases h
  | cons p r ih =>
    obtain ⟨k, v⟩ := p
    rw [List.lookup_cons]
    cases hb : y == k with
    | true => exact ⟨v, rfl⟩
    | false =>
      rcases List.mem_cons.mp h with z | z
      · cases z; simp at hb
      · exact ih z
theorem cellsFrom_look : ∀ (names : List (Str × NameKind)) (n : Nat) (acc : List (Str × Addr)) {x : Str} {c : Addr}, (cellsFrom n names acc).lookup x = some c → n ≤ c ∨ acc.lookup x = some c
  | [], _, _, _, _, h => .inr h
  | (name, kind) :: r, n, acc, x, c, h => by
    unfold cellsFrom at h
    split at h
    · rcases cellsFrom_look r (n + 1) _ h with z | z
      · exact .inl (by omega)
      · rw [List.lookup_cons] at z
        cases hb : x == name with
        | true => rw [hb] at z; cases z; exact .inl (Nat.le_refl _)
        | false => rw [hb] at z; exact .inr z
    · exact cellsFrom_look r n acc h
theorem cellsFrom_low : ∀ (names : List (Str × NameKind)) (n n0 : Nat) (acc : List (Str × Addr)) {x : Str} {c : Addr}, n0 ≤ n → (∀ d, acc.lookup x = some d → n0 ≤ d) → (cellsFrom n names acc).lookup x = some c → n0 ≤ c := by
  intro names n n0 acc x c hn ha h
  rcases cellsFrom_look names n acc h with z | z
  · omega
  · exact ha c z
theorem cellsFrom_own : ∀ (names : List (Str × NameKind)) (n : Nat) (acc : List (Str × Addr)) {x : Str} {c : Addr}, (x, NameKind.cell) ∈ names → (cellsFrom n names acc).lookup x = some c → n ≤ c
  | [], _, _, _, _, m, _ => nomatch m
  | (name, kind) :: r, n, acc, x, c, m, h => by
    unfold cellsFrom at h
    rcases List.mem_cons.mp m with z | z
    · cases z
      rw [if_pos (by rfl)] at h
      refine cellsFrom_low r (n + 1) n _ (by omega) (fun d hd => ?_) h
      rw [List.lookup_cons, beq_self_eq_true] at hd
      cases hd
      exact Nat.le_refl _
    · split at h
      · exact Nat.le_trans (Nat.le_succ _) (cellsFrom_own r (n + 1) _ z h)
      · exact cellsFrom_own r n acc z h
theorem cellsFrom_keep : ∀ (names : List (Str × NameKind)) (n : Nat) (acc : List (Str × Addr)) {x : Str}, (∃ c, acc.lookup x = some c) → ∃ c, (cellsFrom n names acc).lookup x = some c
  | [], _, _, _, h => h
  | (name, kind) :: r, n, acc, x, h => by
    unfold cellsFrom
    split
    · refine cellsFrom_keep r (n + 1) _ ?_
      rw [List.lookup_cons]
      cases x == name with
      | true => exact ⟨_, rfl⟩
      | false => exact h
    · exact cellsFrom_keep r n acc h
theorem cellsFrom_has : ∀ (names : List (Str × NameKind)) (n : Nat) (acc : List (Str × Addr)) {x : Str}, (x, NameKind.cell) ∈ names → ∃ c, (cellsFrom n names acc).lookup x = some c
  | [], _, _, _, m => nomatch m
  | (name, kind) :: r, n, acc, x, m => by
    unfold cellsFrom
    rcases List.mem_cons.mp m with z | z
    · cases z
      rw [if_pos (by rfl)]
      refine cellsFrom_keep r (n + 1) _ ⟨n, ?_⟩
      rw [List.lookup_cons, beq_self_eq_true]
    · split
      · exact cellsFrom_has r (n + 1) _ z
      · exact cellsFrom_has r n acc z
theorem cellsFrom_old : ∀ (names : List (Str × NameKind)) (n : Nat) (acc : List (Str × Addr)) {x : Str}, (x, NameKind.cell) ∉ names → (cellsFrom n names acc).lookup x = acc.lookup x
  | [], _, _, _, _ => rfl
  | (name, kind) :: r, n, acc, x, m => by
    have m2 : (x, NameKind.cell) ∉ r := fun z => m (List.mem_cons_of_mem _ z)
    unfold cellsFrom
    split
    · rename_i hk
      rw [cellsFrom_old r (n + 1) _ m2, List.lookup_cons]
      cases hb : x == name with
      | true =>
        have e1 := beq_iff_eq.mp hb
        have e2 : kind = NameKind.cell := by simpa using hk
        subst e1 e2
        exact absurd List.mem_cons_self m
      | false => rfl
    · exact cellsFrom_old r n acc m2
theorem cellsFrom_inj : ∀ (names : List (Str × NameKind)) (n : Nat) (acc : List (Str × Addr)), (∀ x y c, acc.lookup x = some c → acc.lookup y = some c → x = y) → (∀ x c, acc.lookup x = some c → c < n) →
    ∀ x y c, (cellsFrom n names acc).lookup x = some c → (cellsFrom n names acc).lookup y = some c → x = y
  | [], _, _, h, _ => h
  | (name, kind) :: r, n, acc, h, hlt => by
    intro x y c hx hy
    unfold cellsFrom at hx hy
    split at hx
    · rename_i hk
      rw [if_pos hk] at hy
      refine cellsFrom_inj r (n + 1) _ (fun x y c hx hy => ?_) (fun x c hx => ?_) x y c hx hy
      · rw [List.lookup_cons] at hx hy
        cases hb : x == name with
        | true =>
          cases hb2 : y == name with
          | true => rw [beq_iff_eq.mp hb, beq_iff_eq.mp hb2]
          | false =>
            rw [hb] at hx; rw [hb2] at hy
            cases hx
            exact absurd (hlt _ _ hy) (Nat.lt_irrefl _)
        | false =>
          cases hb2 : y == name with
          | true =>
            rw [hb] at hx; rw [hb2] at hy
            cases hy
            exact absurd (hlt _ _ hx) (Nat.lt_irrefl _)
          | false =>
            rw [hb] at hx; rw [hb2] at hy
            exact h x y c hx hy
      · rw [List.lookup_cons] at hx
        cases hb : x == name with
        | true => rw [hb] at hx; cases hx; exact Nat.lt_succ_self _
        | false => rw [hb] at hx; exact Nat.lt_succ_of_lt (hlt _ _ hx)
    · rename_i hk
      rw [if_neg hk] at hy
      exact cellsFrom_inj r n acc h hlt x y c hx hy
theorem cells_there : ∀ (names : List (Str × NameKind)) (h : Heap) (acc : List (Str × Addr)), (∀ x c, acc.lookup x = some c → ∃ v, h.IsCell c v) → ∀ x c, (cellsFrom h.objs.size names acc).lookup x = some c → ∃ v, (pushCells h names).IsCell c v
  | [], _, _, ha => ha
  | (name, kind) :: r, h, acc, ha => by
    intro x c hx
    unfold cellsFrom at hx
    unfold pushCells
    split at hx
    · rename_i hk
      rw [if_pos hk]
      have q := cells_there r (h.push { cls := .type "cell", data := .cell none }) ((name, h.objs.size) :: acc) (fun x c hx => by
        rw [List.lookup_cons] at hx
        cases hb : x == name with
        | true => rw [hb] at hx; cases hx; exact ⟨none, _, Heap.get?_push_size _ rfl, rfl⟩
        | false =>
          rw [hb] at hx
          obtain ⟨v, z⟩ := ha x c hx
          exact ⟨v, z.keeps fun b o e => Heap.get?_push_of_some _ e⟩) x c
      rw [Heap.size_push] at q
      exact q hx
    · rename_i hk
      rw [if_neg hk]
      exact cells_there r h acc ha x c hx
def cxComp (X : Cx) (N2 : List Str) (scope : Scope) (cl : List (Str × Addr)) (s₂ : Shared) (H₂ : Hp) (fp : List Addr) : Cx where
  prog := X.prog
  w := X.w
  K := X.K
  mg := X.mg
  base := X.base
  A := X.A
  N := N2
  s₀ := s₂
  H₀ := H₂
  env := { scope := relabel scope X.env, locals := s₂.heap.objs.size, globals := X.env.globals, cells := cellsFrom (s₂.heap.objs.size + 1) scope.names cl, qual := X.env.qual, func := none, code := X.env.code, frame := X.env.frame, builtins := X.env.builtins }
  outer := X.stack
  stack := X.stack
  ex := fp
  fn := fun x => decide (scope.names.lookup x = some .cell)
  calm := X.calm
  pn := []
  xe := fun _ _ => False
def compOk (XN : List Str) (xn sn : List (Str × NameKind)) (N2 : List Str) (ix : List (Option Nat)) : Bool :=
  (ix.length == N2.length) &&
  ((ix.zip N2).all fun p => match p.1 with
    | none => true
    | some j => XN[j]? == some p.2 && sn.lookup p.2 == some .free && (xn.lookup p.2 == some .cell || xn.lookup p.2 == some .free)) &&
  (sn.all fun y => y.2 != .free || (xn.lookup y.1 == some .cell || xn.lookup y.1 == some .free)) &&
  (sn.all fun y => y.2 != .local || sn.lookup y.1 == some .local) &&
  (sn.all fun y => y.2 != .free || sn.all fun z => z.2 != .cell || z.1 != y.1)
theorem relabel_mem {scope : Scope} {env : Env} {x : Str} {k : NameKind} (h : (relabel scope env).names.lookup x = some k) (hk : k = .cell ∨ k = .free) : (x, NameKind.cell) ∈ scope.names ∨ (x, NameKind.free) ∈ scope.names := by
  have m := PySem.mem_of_lookup h
  obtain ⟨y, hy, e⟩ := List.mem_map.mp m
  obtain ⟨n, k0⟩ := y
  dsimp only at e
  split at e
  · rename_i hc
    cases e
    have h1 : k0 = NameKind.free := by
      have := (Bool.and_eq_true_iff.mp (Bool.and_eq_true_iff.mp hc).1).1
      simpa using this
    subst h1
    exact .inr hy
  · cases e
    rcases hk with rfl | rfl
    · exact .inl hy
    · exact .inr hy
theorem relabel_free {scope : Scope} {env : Env} : ∀ {x : Str}, scope.names.lookup x = some .free → (relabel scope env).names.lookup x = some .cell ∨ (relabel scope env).names.lookup x = some .free := by
  intro x h
  have gen : ∀ (l : List (Str × NameKind)), l.lookup x = some .free → (l.map fun (n, k) => if (k == NameKind.free && env.scope.kind == .function && env.kindOf n == some .cell) then (n, NameKind.cell) else (n, k)).lookup x = some .cell ∨
      (l.map fun (n, k) => if (k == NameKind.free && env.scope.kind == .function && env.kindOf n == some .cell) then (n, NameKind.cell) else (n, k)).lookup x = some .free := by
    intro l
    induction l with
    | nil => intro h; cases h
    | cons p r ih =>
      intro h
      obtain ⟨n, k⟩ := p
      rw [List.lookup_cons] at h
      rw [List.map_cons]
      dsimp only
      cases hb : x == n with
      | true =>
        rw [hb] at h
        cases h
        split
        · rw [List.lookup_cons, hb]; exact .inl rfl
        · rw [List.lookup_cons, hb]; exact .inr rfl
      | false =>
        rw [hb] at h
        split
        · rw [List.lookup_cons, hb]; exact ih h
        · rw [List.lookup_cons, hb]; exact ih h
  exact gen scope.names h
theorem comp_enter {X : Cx} {pins : List (Addr × Obj)} {σ σ2 : St} {H : Hp} {s : Shared} {N2 : List Str} {scope : Scope} {cl : List (Str × Addr)} {fp : List Addr} (I : Inv X pins σ H s) (hk : scope.kind = .function)
    (hcl1 : ∀ y c, (y, c) ∈ cl → X.env.cells.lookup y = some c) (hcl2 : ∀ y, (y, NameKind.free) ∈ scope.names → ∃ c, (y, c) ∈ cl) (hfp : ∀ b ∈ fp, FpOk X pins H b) (hfo : ∀ b ∈ fp, b < s.heap.objs.size) (hl : σ2.length = N2.length)
    (hσ : ∀ (i : Nat) (x : Str) (v : V), N2[i]? = some x → σ2[i]? = some (some v) → scope.names.lookup x = some .free ∧ (X.env.kindOf x = some .cell ∨ X.env.kindOf x = some .free) ∧ ∃ j : Nat, X.N[j]? = some x ∧ σ[j]? = some (some v))
    (hd : ∀ x, (x, NameKind.free) ∈ scope.names → (x, NameKind.cell) ∉ scope.names) :
    Inv (cxComp X N2 scope cl s H fp) [] σ2 H { s with heap := pushCells (s.heap.push { cls := .type "dict", data := .dict #[] }) scope.names } := by
  have keeps : ∀ b o, s.heap.get? b = some o → (pushCells (s.heap.push { cls := .type "dict", data := .dict #[] }) scope.names).get? b = some o := fun b o e => pushCells_keeps _ _ b o (Heap.get?_push_of_some _ e)
  have hsz : (s.heap.push { cls := .type "dict", data := .dict #[] }).objs.size = s.heap.objs.size + 1 := Heap.size_push ..
  have clook : ∀ x c, cl.lookup x = some c → X.env.cells.lookup x = some c := fun x c e => hcl1 x c (PySem.mem_of_lookup e)
  have clt : ∀ x c, cl.lookup x = some c → c < s.heap.objs.size := fun x c e => by
    obtain ⟨v, z⟩ := I.cell x c (clook x c e)
    exact z.lt
  have there := cells_there scope.names (s.heap.push { cls := .type "dict", data := .dict #[] }) cl (fun x c e => by
    obtain ⟨v, z⟩ := I.cell x c (clook x c e)
    exact ⟨v, z.keeps fun b o e => Heap.get?_push_of_some _ e⟩)
  rw [hsz] at there
  have cells : ∀ x c, (cellsFrom (s.heap.objs.size + 1) scope.names cl).lookup x = some c → s.heap.objs.size + 1 ≤ c ∨ X.env.cells.lookup x = some c := fun x c e => by
    rcases cellsFrom_look _ _ _ e with z | z
    · exact .inl z
    · exact .inr (clook x c z)
  have okY : (cxComp X N2 scope cl s H fp).Ok := by
    refine ⟨I.ok.mod, hk, I.ok.glob, I.ok.blt, Nat.le_refl _, ?_, ?_, ?_, I.ok.hd, I.ok.frames, .inl rfl, ?_, I.bs, Nat.le_trans I.ok.bsz I.sz, ?_, ?_, I.stack, I.stkFree⟩
    · exact cellsFrom_inj _ _ _ (fun x y c hx hy => I.ok.inj x y c (clook x c hx) (clook y c hy)) fun x c e => Nat.lt_succ_of_lt (clt x c e)
    · intro x hx
      have m : (x, NameKind.cell) ∈ scope.names ∨ (x, NameKind.free) ∈ scope.names := by
        rcases hx with z | z
        · exact relabel_mem z (.inl rfl)
        · exact relabel_mem z (.inr rfl)
      rcases m with m | m
      · exact cellsFrom_has _ _ _ m
      · obtain ⟨c, mc⟩ := hcl2 x m
        exact cellsFrom_keep _ _ _ (lookup_mem mc)
    · intro x c hf e
      have hf' : scope.names.lookup x = some .cell := of_decide_eq_true hf
      exact Nat.le_trans (Nat.le_succ _) (cellsFrom_own _ _ _ (PySem.mem_of_lookup hf') e)
    · intro b hb
      refine ⟨Nat.ne_of_lt (hfo b hb), fun x c e z => ?_⟩
      have hlt := hfo b hb
      rcases cells x c e with k | k
      · exact absurd (Nat.lt_of_lt_of_le hlt (Nat.le_trans (Nat.le_succ _) (z ▸ k))) (Nat.lt_irrefl _)
      · exact (hfp b hb).2.2.2.2.1 x c k z
    · intro b o e hb
      rcases (hfp b hb).2.2.2.1 with z | z
      · exact I.ok.noex b o e z
      · exact absurd (Nat.lt_of_lt_of_le (Heap.lt_size (I.ok.bs b o e).1) z) (Nat.lt_irrefl _)
    · intro b hb hbs
      rcases List.mem_cons.mp (I.stkSub b hbs) with z | z
      · exact (hfp b hb).2.1 z
      · exact (hfp b hb).2.2.1 z
  refine ⟨okY, rfl, I.bare, Un.kept keeps, ?_, there, I.hok.fresh (Nat.le_refl _), ?_, (fun p hp => nomatch hp), I.hok.kept keeps, hl⟩
  · refine ⟨fun _ => none, (Heap.Ns.new s.heap (.type "dict")).keeps (pushCells_keeps _ _), fun i x v e1 e2 _ => ?_⟩
    obtain ⟨hf, hx, j, j1, j2⟩ := hσ i x v e1 e2
    obtain ⟨m, _, hloc⟩ := I.loc
    have hv : Vis X.env.scope x := hx.elim (fun z => .inr (.inl z)) fun z => .inr (.inr z)
    obtain ⟨u, r, lk⟩ := hloc j x v j1 j2 hv
    refine ⟨u, r, .inr ⟨relabel_free hf, ?_⟩⟩
    rcases lk with ⟨k, _⟩ | ⟨_, c, ec, ic⟩
    · rcases hx with z | z <;> rw [z] at k <;> cases k
    · refine ⟨c, ?_, ic.keeps keeps⟩
      have mf := PySem.mem_of_lookup hf
      show (cellsFrom (s.heap.objs.size + 1) scope.names cl).lookup x = some c
      rw [cellsFrom_old _ _ _ (hd x mf)]
      obtain ⟨c', mc⟩ := hcl2 x mf
      obtain ⟨d, ed⟩ := lookup_mem mc
      rw [ed]
      have := clook x d ed
      rw [ec] at this
      exact this.symm
  · intro x c e
    rcases cells x c e with k | k
    · exact I.hok.fresh (by omega)
    · exact I.freeC x c k
section
variable {X : Cx}
def CompG (J : It) (g : TG) (te : TE) (acc : Addr) (σ₀ : St) (H : Hp) (Q : VK) : Prop := ∃ W : Nat → Nat → St → Hp → Prop,
  (∃ m, W 0 m σ₀ (upd H acc (.lst []))) ∧ ∀ i m σ2 H2, W i m σ2 H2 →
    (J.stop i H2 ∧ Q (.ref acc) H2) ∨ (J.go i H2 ∧ ∃ (S : St → Prop) (N : V → Hp → Prop), (∀ σ3 v H4, S σ3 → N v H4 → ∃ xs, H4 acc = some (.lst xs) ∧ xs.length < sizeLine ∧ ∃ m', m' < m ∧ W (i + 1) m' σ3 (upd H4 acc (.lst (xs ++ [v])))) ∧ ∀ x H', J.yld i H2 x H' → g x σ2 H' fun σ3 H3 => S σ3 ∧ te σ3 H3 N)
def tComp (wi : TI) (ix : List (Option Nat)) (g : TG) (te : TE) : TE := fun σ H Q => wi σ H fun J H1 => ∀ acc, H1 acc = none → CompG J g te acc (ix.map fun o => o.bind fun j => (σ[j]?).join) H1 Q
theorem compOk_use {XN : List Str} {xn sn : List (Str × NameKind)} {N2 : List Str} {ix : List (Option Nat)} (h : compOk XN xn sn N2 ix = true) :
    ix.length = N2.length ∧ (∀ (i : Nat) (x : Str) (j : Nat), N2[i]? = some x → ix[i]? = some (some j) → XN[j]? = some x ∧ sn.lookup x = some .free ∧ (xn.lookup x = some .cell ∨ xn.lookup x = some .free)) ∧
    (∀ y ∈ sn, y.2 = .free → xn.lookup y.1 = some .cell ∨ xn.lookup y.1 = some .free) ∧ (∀ y ∈ sn, y.2 = .local → sn.lookup y.1 = some .local) ∧ ∀ x, (x, NameKind.free) ∈ sn → (x, NameKind.cell) ∉ sn := by
  unfold compOk at h
  obtain ⟨h, h5⟩ := Bool.and_eq_true_iff.mp h
  obtain ⟨h, h4⟩ := Bool.and_eq_true_iff.mp h
  obtain ⟨h, h3⟩ := Bool.and_eq_true_iff.mp h
  obtain ⟨h1, h2⟩ := Bool.and_eq_true_iff.mp h
  have e1 : ix.length = N2.length := by simpa using h1
  refine ⟨e1, fun i x j a b => ?_, fun y hy e => ?_, fun y hy e => ?_, fun x m1 m2 => ?_⟩
  · have m : (some j, x) ∈ ix.zip N2 := by
      refine List.mem_of_getElem? (i := i) ?_
      rw [List.getElem?_zip_eq_some]
      exact ⟨b, a⟩
    have q := List.all_eq_true.mp h2 _ m
    dsimp only at q
    obtain ⟨q, q3⟩ := Bool.and_eq_true_iff.mp q
    obtain ⟨q1, q2⟩ := Bool.and_eq_true_iff.mp q
    exact ⟨by simpa using q1, by simpa using q2, (Bool.or_eq_true_iff.mp q3).imp (fun z => by simpa using z) fun z => by simpa using z⟩
  · have q := List.all_eq_true.mp h3 y hy
    rcases Bool.or_eq_true_iff.mp q with z | z
    · rw [e] at z; simp at z
    · exact (Bool.or_eq_true_iff.mp z).imp (fun z => by simpa using z) fun z => by simpa using z
  · have q := List.all_eq_true.mp h4 y hy
    rcases Bool.or_eq_true_iff.mp q with z | z
    · rw [e] at z; simp at z
    · simpa using z
  · have q := List.all_eq_true.mp h5 _ m1
    rcases Bool.or_eq_true_iff.mp q with z | z
    · simp at z
    · have q2 := List.all_eq_true.mp z _ m2
      simp at q2
theorem comp_block {tg iter elt : Expr} {scope : Scope} {pos : Pos} {N2 : List Str} {ix : List (Option Nat)} {g : TG} {te : TE} {cl : List (Str × Addr)} {pins : List (Addr × Obj)} {σ : St} {H : Hp} {s : Shared} {E : Value → Shared → Prop} {Q : VK}
    {RR : Value → Addr → Result → Shared → Prop} (hc : X.calm = true) (hg : ∀ cl s₂ H₂ fp, PG (cxComp X N2 scope cl s₂ H₂ fp) tg g) (he : ∀ cl s₂ H₂ fp, PE (cxComp X N2 scope cl s₂ H₂ fp) elt te)
    (hk : scope.kind = .function) (hn : compOk X.N X.env.scope.names scope.names N2 ix = true)
    (hcl1 : ∀ y c, (y, c) ∈ cl → X.env.cells.lookup y = some c) (hcl2 : ∀ y, (y, NameKind.free) ∈ scope.names → ∃ c, (y, c) ∈ cl)
    {it : Addr} {fp : List Addr} {tn : Nat → Heap → Prop} {J : It} (I : Inv X pins σ H s) (T : Turn X.prog X.w X.K tg J fp it tn) (st : tn 0 s.heap) (f : ∀ b ∈ fp, FpOk X pins H b)
    (h : ∀ acc, H acc = none → CompG J g te acc (ix.map fun o => o.bind fun j => (σ[j]?).join) H Q)
    (hR : ∀ acc C H' s' m, Inv X pins σ H' s' → s'.heap.Ns C m → H' C = none → C ≠ X.env.locals → X.s₀.heap.objs.size ≤ C → (∀ x c, X.env.cells.lookup x = some c → c ≠ C) → (∀ p ∈ X.pn ++ pins, p.1 ≠ C) → Q (.ref acc) H' → RR (.ref acc) C (.ok .next) s') :
    wpAny (model X.prog X.w) X.A (newList []) (fun acc s₃ => wpAny (model X.prog X.w) X.A (newFunctionEnv scope X.env.globals cl [] X.env.qual none .none (some X.env)) (fun cenv s₄ =>
      codeAny (model X.prog X.w) X.A (.compStart (.ListComp elt [⟨tg, iter, [], 0⟩] scope pos) 0 (.ref it) acc { cenv with scope := relabel scope X.env }) (RR acc cenv.locals) s₄) E s₃) E s := by
  obtain ⟨k1, k2, k3, k4, k5⟩ := compOk_use hn
  refine wpAny_newObj_type ?_
  have I3 : Inv X pins σ (upd H s.heap.objs.size (.lst [])) { s with heap := s.heap.push { cls := .type "list", data := .seq ([] : List Value).toArray } } :=
    I.laid (a := s.heap.objs.size) (o := .lst []) (t' := s.toks) (fun _ _ q => Heap.get?_push_of_some _ q) (Nat.le_refl _) ⟨Nat.zero_le _, [], _, .nil, Heap.get?_push_size _ rfl⟩
  obtain ⟨W, ⟨m0, w0⟩, turn⟩ := h s.heap.objs.size I.fresh
  have fo : ∀ b ∈ fp, b < s.heap.objs.size := fun b hb => by
    obtain ⟨o, e, _⟩ := T.obj 0 _ st b hb
    exact Heap.lt_size e
  have st3 : tn 0 (s.heap.push { cls := .type "list", data := .seq ([] : List Value).toArray }) := T.keep _ _ _ st fun b _ o e => Heap.get?_push_of_some _ e
  have f3 : ∀ b ∈ fp, FpOk X pins (upd H s.heap.objs.size (.lst [])) b := fun b hb => ⟨by rw [upd_ne (Nat.ne_of_lt (fo b hb))]; exact (f b hb).1, (f b hb).2⟩
  have fo3 : ∀ b ∈ fp, b < (s.heap.push { cls := .type "list", data := .seq ([] : List Value).toArray }).objs.size := fun b hb => by rw [Heap.size_push]; exact Nat.lt_succ_of_lt (fo b hb)
  generalize es3 : ({ s with heap := s.heap.push { cls := .type "list", data := .seq ([] : List Value).toArray } } : Shared) = s3 at *
  have eh3 : s3.heap = s.heap.push { cls := .type "list", data := .seq ([] : List Value).toArray } := by rw [← es3]
  rw [← eh3] at st3 fo3
  generalize s.heap.objs.size = acc at *
  generalize eH3 : upd H acc (.lst []) = H3 at *
  have IY := comp_enter (N2 := N2) (scope := scope) (cl := cl) (fp := fp) (σ2 := ix.map fun o => o.bind fun j => (σ[j]?).join) I3 hk hcl1 hcl2 f3 fo3 (by rw [List.length_map]; exact k1) (fun i x v e1 e2 => by
    rw [List.getElem?_map] at e2
    cases ei : ix[i]? with
    | none => rw [ei] at e2; cases e2
    | some o =>
      rw [ei] at e2
      cases o with
      | none => cases e2
      | some j =>
        obtain ⟨a1, a2, a3⟩ := k2 i x j e1 ei
        refine ⟨a2, a3, j, a1, ?_⟩
        have e3 : (σ[j]?).join = some v := Option.some.inj e2
        cases ej : σ[j]? with
        | none => rw [ej] at e3; cases e3
        | some z => rw [ej] at e3; exact congrArg some e3) k5
  have ne : wpAny (model X.prog X.w) X.A (newFunctionEnv scope X.env.globals cl [] X.env.qual none .none (some X.env)) (fun cenv s₄ =>
      cenv = { scope := scope, locals := s3.heap.objs.size, globals := X.env.globals, cells := cellsFrom (s3.heap.objs.size + 1) scope.names cl, qual := X.env.qual, func := none, code := X.env.code, frame := X.env.frame, builtins := X.env.builtins } ∧
      s₄ = { s3 with heap := pushCells (s3.heap.push { cls := .type "dict", data := .dict #[] }) scope.names }) E s3 := by
    simp only [newFunctionEnv, Option.isSome_some, if_true]
    refine wpAny_bind (wpAny_alloc ?_)
    refine wpAny_bind (wpAny_layCells _ (fun name kind cells => by cases hkc : kind == NameKind.cell <;> simp [hkc]) _ _ _ _ ?_)
    rw [List.forIn_nil]
    refine wpAny_bind (wpAny_pure (wpAny_pure ⟨?_, rfl⟩))
    rw [show ({ s3 with heap := s3.heap.push { cls := .type "dict", data := .dict #[] } } : Shared).heap.objs.size = s3.heap.objs.size + 1 from Heap.size_push ..]
  refine thn ne fun cenv s4 ⟨e1, e2⟩ => ?_
  subst e1 e2
  have stY : tn 0 (pushCells (s3.heap.push { cls := .type "dict", data := .dict #[] }) scope.names) := T.keep _ _ _ st3 fun b _ o e => pushCells_keeps _ _ b o (Heap.get?_push_of_some _ e)
  have hHC : s3.heap.objs.size ≠ X.env.locals := Nat.ne_of_gt I3.lt
  have stat : ∀ {H' : Hp}, (∀ b ∈ fp, H' b = none) → ∀ b ∈ fp, FpOk (cxComp X N2 scope cl s3 H3 fp) [] H' b := fun {H'} hn b hb =>
    ⟨hn b hb, (IY.ok.exf b hb).1, IY.ok.exfs b hb, .inl hb, (IY.ok.exf b hb).2, fun p hp => nomatch hp⟩
  have loop : codeAny (model X.prog X.w) X.A (.compLoop (.ListComp elt [⟨tg, iter, [], 0⟩] scope pos) 0 (.ref it) (.ref acc) (cxComp X N2 scope cl s3 H3 fp).env) (RR (.ref acc) s3.heap.objs.size)
      { s3 with heap := pushCells (s3.heap.push { cls := .type "dict", data := .dict #[] }) scope.names } := by
    refine compLoop_any (fun n s' => ∃ i σ' H', Inv (cxComp X N2 scope cl s3 H3 fp) [] σ' H' s' ∧ tn i s'.heap ∧ (∀ b ∈ fp, H' b = none) ∧ W i n σ' H') ?_ m0 ⟨0, _, H3, IY, stY, fun b hb => (f3 b hb).1, w0⟩
    rintro n s5 ⟨i, σ5, H5, I5, st5, fr5, w5⟩
    rcases turn i n σ5 H5 w5 with ⟨stop, qn⟩ | ⟨go, S, N, hSN, step⟩
    · refine thn (T.done (cxComp X N2 scope cl s3 H3 fp) rfl rfl rfl hc i [] s5 σ5 H5 (fun _ _ => False) I5 (stat fr5) st5 stop) fun r s6 ⟨hr, I6⟩ => ?_
      subst hr
      obtain ⟨m6, ns6, _⟩ := id I6.loc
      have IX : Inv X pins σ H5 s6 := I3.call' (ch := fp) I6.os I6.base I6.hok I6.bare fun b hb => ⟨(f3 b hb).2.2.2.1, (f3 b hb).2.1, (f3 b hb).2.2.2.2.1, (f3 b hb).2.2.2.2.2⟩
      refine hR acc s3.heap.objs.size H5 s6 m6 IX ns6 I6.free hHC I3.sz (fun x c e z => ?_) (fun p hp z => ?_) qn
      · obtain ⟨v, q⟩ := I3.cell x c e
        exact absurd q.lt (by rw [z]; exact Nat.lt_irrefl _)
      · exact absurd (Heap.lt_size (I3.pin p hp).1) (by rw [z]; exact Nat.lt_irrefl _)
    · refine thn (T.item (cxComp X N2 scope cl s3 H3 fp) rfl rfl rfl hc i [] s5 σ5 H5 (fun _ _ => False) I5 (stat fr5) st5 go) fun r s6 ⟨u, hr, h6⟩ => ?_
      subst hr
      refine thn h6 fun _ s7 ⟨x, H7, I7, r7, y7, st7, fr7⟩ => ?_
      have I7' := I7.pinned (stat fr7) (T.obj _ _ st7)
      refine thn (hg cl s3 H3 fp _ s7 σ5 H7 x u _ I7' r7 (step x H7 y7)) fun _ s8 ⟨σ8, H8, I8, hS8, q8⟩ => ?_
      refine thn (he cl s3 H3 fp _ s8 σ8 H8 _ I8 q8) fun y s9 ⟨v, H9, I9, r9, q9⟩ => ?_
      obtain ⟨xs, hxs, hxl, m', hm, w9⟩ := hSN σ8 v H9 hS8 q9
      refine thn (mt_append _ s9 σ8 H9 (.ref acc) [v] (.ref acc) [y] (fun z H10 => z = .non ∧ H10 = upd H9 acc (.lst (xs ++ [v]))) I9 rfl (.cons r9 .nil) ⟨acc, xs, v, rfl, rfl, hxs, hxl, rfl, rfl⟩) fun z s10 ⟨zv, H10, I10, r10, ez, eH⟩ => ?_
      subst eH
      refine ⟨m', hm, i + 1, σ8, _, I10.unpinned, T.keep _ _ _ st7 fun b hb o e => (I10.pin (b, o) (List.mem_append_right _ (List.mem_append_right _ (mem_pinsAt hb e)))).1, fun b hb => ?_, w9⟩
      obtain ⟨o, e, d⟩ := T.obj _ _ st7 b hb
      exact (I10.pin (b, o) (List.mem_append_right _ (List.mem_append_right _ (mem_pinsAt hb e)))).2.1
  exact codeAny_compStart_list loop (T.self _ 0 _ _ _ stY loop)
theorem pe_comp {tg iter elt : Expr} {scope : Scope} {pos : Pos} (N2 : List Str) (ix : List (Option Nat)) {wi : TI} {g : TG} {te : TE} (hc : X.calm = true) (hi : PI X tg iter wi)
    (hg : ∀ cl s₂ H₂ fp, PG (cxComp X N2 scope cl s₂ H₂ fp) tg g) (he : ∀ cl s₂ H₂ fp, PE (cxComp X N2 scope cl s₂ H₂ fp) elt te)
    (hk : scope.kind = .function) (hn : compOk X.N X.env.scope.names scope.names N2 ix = true) (hs : ∀ x, foldedSetIterable iter X.env x = pure x := by intro _; rfl) :
    PE X (.ListComp elt [⟨tg, iter, [], 0⟩] scope pos) (tComp wi ix g te) := by
  intro pins s σ H Q I h
  obtain ⟨k1, k2, k3, k4, k5⟩ := compOk_use hn
  obtain ⟨cl, ecl, c1, c2⟩ := closure_ok (scope := scope) (env := X.env) fun y hy e => I.ok.has y.1 (k3 y hy e)
  rw [eval_ListComp]
  refine wpAny_comprehension_free (use := none) rfl hs ecl hk k4 (thn (hi pins s σ H _ I h) fun v s1 h1 => thn h1 fun itv s2 h2 => ?_)
  obtain ⟨it, fp, tn, J, H2, e, I2, T, st2, f2, h2⟩ := h2
  subst e
  refine comp_block (RR := fun acc C => compPost (model X.prog X.w) X.A X.xe none (EP X pins σ Q) acc C) (Q := Q) hc hg he hk hn (fun y c m => (c1 y c m).1) c2 I2 T st2 f2 h2 ?_
  intro acc C H' s' m I' ns hHC hL hsz hcells hpins q
  exact ⟨m, ns, fun h' hs' => ⟨.ref acc, H', I'.turned (it := C) (t' := s'.toks) (fun b o hb e => (hs'.2 b hb).trans e) hHC hL (.inr hsz) hcells hpins, rfl, q⟩⟩
end
theorem comp_range {lo : Int} {n k : Nat} {te : TE} {σ2 : St} {H : Hp} {acc : Addr} {Q : VK} (Pv : Nat → List V → Hp → Prop) (hn : n ≤ 100000) (h0 : Pv 0 [] (upd H acc (.lst [])))
    (hs : ∀ (i : Nat) (out : List V) (H1 : Hp), i < n → out.length = i → H1 acc = some (.lst out) → Pv i out H1 → te (σ2.set k (some (.int (lo + i)))) H1 fun v H4 => H4 acc = some (.lst out) ∧ Pv (i + 1) (out ++ [v]) (upd H4 acc (.lst (out ++ [v]))))
    (hd : ∀ (out : List V) (H1 : Hp), out.length = n → H1 acc = some (.lst out) → Pv n out H1 → Q (.ref acc) H1) :
    CompG (Itr lo n) (gName k) te acc σ2 H Q := by
  refine ⟨fun i m σ' H' => m = n - i ∧ i ≤ n ∧ (∀ v, σ'.set k (some v) = σ2.set k (some v)) ∧ ∃ out, out.length = i ∧ H' acc = some (.lst out) ∧ Pv i out H', ⟨n, by simp, Nat.zero_le _, fun _ => rfl, [], rfl, upd_same, h0⟩, ?_⟩
  rintro i m σ' H' ⟨rfl, hi, hσ, out, ho, ha, p⟩
  by_cases hlt : i < n
  · refine .inr ⟨hlt, fun σ3 => ∀ v, σ3.set k (some v) = σ2.set k (some v), fun v H4 => H4 acc = some (.lst out) ∧ Pv (i + 1) (out ++ [v]) (upd H4 acc (.lst (out ++ [v]))), fun σ3 v H4 hS ⟨a, b⟩ => ?_, fun x H1 y => ?_⟩
    · refine ⟨out, a, ?_, n - (i + 1), by omega, rfl, hlt, hS, out ++ [v], by rw [List.length_append, ho]; rfl, upd_same, b⟩
      have : sizeLine = 16777216 := sizeLine_eq
      omega
    · obtain ⟨e, y⟩ := y
      subst e y
      refine ⟨fun v => by rw [List.set_set]; exact hσ v, ?_⟩
      have q := hs i out _ hlt ho ha p
      rw [← hσ] at q
      exact q
  · have e : i = n := by omega
    subst e
    exact .inl ⟨Nat.le_refl _, hd out H' ho ha p⟩
theorem Same.upd_new {H H' : Hp} {p : Addr} (e : Same H H') (h : H p = none) (o : HO) : Same H (upd H' p o) := fun b u q => by rw [upd_ne (ne_of_none q h)]; exact e b u q
end L2
namespace L2
open PySem PySem.Spec PyProof.Rows
end L2
namespace L2
open PySem PySem.Spec PyProof.Rows
end L2
namespace L2
open PySem PySem.Spec PyProof.Rows
section
variable {X : Cx}
theorem call_sum (hc : X.calm = true) : CallR X (.builtin "sum") (fun xs H Q => ∃ (a : Addr) (ns : List Int), xs = [.ref a] ∧ SqL X.K H a (ns.map V.int) ∧ Q (.int ns.sum) H) := by
  intro pins s σ H xs us Q I r h
  obtain ⟨a, ns, rfl, hS, q⟩ := h
  obtain ⟨u, rfl, ru⟩ := vals1 r
  cases ru
  obtain ⟨its, rv, p, hz⟩ := I.list hS
  have hi := intsAre_of rv
  have hl := p.isList
  obtain ⟨o, ho, _⟩ := id hl
  have hne : a ≠ s.heap.objs.size := Nat.ne_of_lt (Heap.lt_size ho)
  have W := (Walks.list (prog := X.prog) (w := X.w) (A := X.A.in1) (I.ok.hd hc) s.heap.objs.size a hne its.toArray).toS
  have hln : its.length = ns.length := by rw [← rv.length, List.length_map]
  refine call_sum_walkAnyS (wpAny_pyIter_list hl ?_)
  refine ⟨s.heap.objs.size, _, _, _, _, _, _, fun i => ns.getD i 0, rfl, W, ⟨⟨_, Heap.get?_push_size _ rfl, rfl, rfl⟩, hl.at fun o e => Heap.get?_push_of_some _ e⟩, fun b hb => ?_, fun i v hP => ?_, fun s' t' hm => ?_⟩
  · rcases List.mem_cons.mp hb with rfl | hb
    · exact Heap.lt_size (Heap.get?_push_size _ rfl)
    · obtain rfl := List.mem_singleton.mp hb
      exact Heap.lt_size (Heap.get?_push_of_some _ ho)
  · have hP' : its[i]? = some v := by simpa using hP
    have hil : i < ns.length := by
      have := (List.getElem?_eq_some_iff.mp hP').1
      omega
    obtain ⟨u, hu, ru⟩ := rv.get (i := i) (x := V.int ns[i]) (by rw [List.getElem?_map, List.getElem?_eq_getElem hil]; rfl)
    rw [hP'] at hu
    cases hu
    obtain ⟨t, e⟩ := ru
    refine ⟨t, ?_⟩
    rw [e]
    show Value.int ns[i] t = Value.int (ns.getD i 0) t
    rw [List.getD_eq_getElem?_getD, List.getElem?_eq_getElem hil]
    rfl
  · obtain ⟨h', g', d', tk', os'⟩ := s'
    have e1 : g' = s.gens := hm.gens
    have e2 : d' = s.drawn := hm.drawn
    have e3 : os' = s.os := hm.os
    subst e1 e2 e3
    have hsz : its.toArray.size = ns.length := by rw [List.size_toArray, hln]
    rw [hsz, preSum_getD, List.take_of_length_le (Nat.le_refl _)]
    exact ⟨.int ns.sum, H, I.kept (h' := h') (t' := tk') fun b o e => hm.heap b o (fun hb => absurd (Heap.lt_size e) ((List.mem_singleton.mp hb) ▸ Nat.lt_irrefl _)) (Heap.get?_push_of_some _ e), ⟨t', rfl⟩, q⟩
theorem call_all (hc : X.calm = true) : CallR X (.builtin "all") (fun xs H Q => ∃ (a : Addr) (bs : List Bool), xs = [.ref a] ∧ SqL X.K H a (bs.map V.bl) ∧ Q (.bl (bs.all id)) H) := by
  intro pins s σ H xs us Q I r h
  obtain ⟨a, bs, rfl, hS, q⟩ := h
  obtain ⟨u, rfl, ru⟩ := vals1 r
  cases ru
  obtain ⟨its, rv, p, hz⟩ := I.list hS
  have hl := p.isList
  obtain ⟨o, ho, _⟩ := id hl
  have hne : a ≠ s.heap.objs.size := Nat.ne_of_lt (Heap.lt_size ho)
  have hln : its.length = bs.length := by rw [← rv.length, List.length_map]
  refine call_all_walk (wpAny_pyIter_list hl ?_)
  refine ⟨s.heap.objs.size, _, _, _, _, _, fun i => bs.getD i false, rfl, Walks.list (prog := X.prog) (w := X.w) (A := X.A.in1) (I.ok.hd hc) s.heap.objs.size a hne its.toArray, ⟨⟨_, Heap.get?_push_size _ rfl, rfl, rfl⟩, hl.at fun o e => Heap.get?_push_of_some _ e⟩, fun i v s' Q' E' hP hQ => ?_, fun h' tk hk => ?_⟩
  · have hP' : its[i]? = some v := by simpa using hP
    have hil : i < bs.length := by
      have := (List.getElem?_eq_some_iff.mp hP').1
      omega
    obtain ⟨u, hu, ru⟩ := rv.get (i := i) (x := V.bl bs[i]) (by rw [List.getElem?_map, List.getElem?_eq_getElem hil]; rfl)
    rw [hP'] at hu
    cases hu
    have e : v = Value.bool bs[i] := ru
    subst e
    refine wpAny_truthy_bool ?_
    have hQ2 : Q' (bs.getD i false) s' := hQ
    rw [List.getD_eq_getElem?_getD, List.getElem?_eq_getElem hil] at hQ2
    exact hQ2
  · have hsz : its.toArray.size = bs.length := by rw [List.size_toArray, hln]
    have e : (List.range its.toArray.size).all (fun i => bs.getD i false) = bs.all id := by
      rw [hsz, Bool.eq_iff_iff, List.all_eq_true, List.all_eq_true]
      refine ⟨fun z x hx => ?_, fun z i hi => ?_⟩
      · obtain ⟨i, hi, e⟩ := List.mem_iff_getElem.mp hx
        have := z i (List.mem_range.mpr hi)
        rw [List.getD_eq_getElem?_getD, List.getElem?_eq_getElem hi] at this
        rw [← e]
        exact this
      · have hi' := List.mem_range.mp hi
        rw [List.getD_eq_getElem?_getD, List.getElem?_eq_getElem hi']
        exact z _ (List.getElem_mem hi')
    rw [e]
    exact ⟨.bl (bs.all id), H, I.kept (h' := h') (t' := tk) fun b o e => hk b o (fun hb => absurd (Heap.lt_size e) ((List.mem_singleton.mp hb) ▸ Nat.lt_irrefl _)) (Heap.get?_push_of_some _ e), rfl, q⟩
end
section
variable {X : Cx} (K : PySem.W.Frag)
theorem ix_tupK (hK : X.K = K := by rfl) : IxR X (rIxT K) := hK ▸ ix_tup
theorem ix_listK (hK : X.K = K := by rfl) : IxR X (rIxL K) := hK ▸ ix_list
theorem pi_listK {tg l : Expr} {tl : TE} (hl : PE X l tl) (hK : X.K = K := by rfl) : PI X tg l (iList K tl) := hK ▸ pi_list hl
theorem op_eqDK (hu : X.A.units + 64 < cLine) (hK : X.K = K := by rfl) : OpR X (compareOp .Eq) (rEqD K) := hK ▸ op_eqD hu
theorem op_neDK (hu : X.A.units + 64 < cLine) (hK : X.K = K := by rfl) : OpR X (compareOp .NotEq) (rNeD K) := hK ▸ op_neD hu
theorem call_sumK (hc : X.calm = true) (hK : X.K = K := by rfl) : CallR X (.builtin "sum") (fun xs H Q => ∃ (a : Addr) (ns : List Int), xs = [.ref a] ∧ SqL K H a (ns.map V.int) ∧ Q (.int ns.sum) H) := hK ▸ call_sum hc
theorem call_allK (hc : X.calm = true) (hK : X.K = K := by rfl) : CallR X (.builtin "all") (fun xs H Q => ∃ (a : Addr) (bs : List Bool), xs = [.ref a] ∧ SqL K H a (bs.map V.bl) ∧ Q (.bl (bs.all id)) H) := hK ▸ call_all hc
theorem call_lenK (hK : X.K = K := by rfl) : CallR X (.builtin "len") (fun xs H Q => ∃ p ys, xs = [.ref p] ∧ (SqL K H p ys ∨ SqT K H p ys) ∧ Q (.int ys.length) H) := hK ▸ call_len_seq
theorem call_list_ofK (hK : X.K = K := by rfl) : CallR X (.type "list") (fun xs H Q => ∃ p ys, xs = [.ref p] ∧ (SqL K H p ys ∨ SqT K H p ys) ∧ ∀ l, H l = none → Q (.ref l) (upd H l (.lst ys))) := hK ▸ call_list_of
theorem call_isinstK (hK : X.K = K := by rfl) : CallR X (.builtin "isinstance") (fun xs H Q => ∃ x n t b, xs = [x, .ty n] ∧ TyOf K H x t ∧ PySem.W.kitOne K t (.type n) = some b ∧ Q (.bl b) H) := hK ▸ call_isinst
end
end L2
namespace L2
end L2
namespace L2
open PySem PySem.Spec PyProof.Rows
section
variable {X : Cx} {elts : List Expr} {kk : Nat} {tpos : Pos}
end
end L2
namespace L2
open PySem PySem.Spec PyProof.Rows
theorem pg_tupK (K : PySem.W.Frag) {X : Cx} {es : List Expr} {k : Nat} {t : TGs} {n : Nat} {pos : Pos} (hc : X.calm = true) (h : PGs X es t) (hK : X.K = K := by rfl)
    (hn : (assignEach es X.env).length = n := by rfl) (hst : (assignEach es X.env).findIdx? (·.1) = none := by rfl) : PG X (.Tuple es k pos) (gTup K n t) := hK ▸ pg_tup hc h hn hst
end L2
namespace L2
open PySem PySem.Spec PyProof.Rows
end L2
namespace L2
open PySem PySem.Spec PyProof.Rows
end L2
namespace L2
open PySem PySem.Spec PyProof.Rows
section
variable {X : Cx}
end
end L2
namespace L2
open PySem PySem.Spec PyProof.Rows
end L2
namespace L2
open PySem PySem.Spec PyProof.Rows
end L2
namespace L2
open PySem PySem.Spec PyProof.Rows
end L2
namespace L2
open PySem PySem.Spec PyProof.Rows
end L2
namespace L2
open PySem PySem.Spec PyProof.Rows
end L2
namespace L2
open PySem PySem.Spec PyProof.Rows
end L2
namespace L2
open PySem PySem.Spec PyProof.Rows
end L2
namespace L2
open PySem PySem.Spec PyProof.Rows
abbrev tx (cs : List Nat) : Str := ⟨cs.toArray⟩
theorem tx_eta (x : Str) : tx x.cps.toList = x := by cases x; rfl
theorem tx_length (cs : List Nat) : (tx cs).length = cs.length := by show cs.toArray.size = _; rw [List.size_toArray]
theorem tx_cat (a b : List Nat) : (tx a ++ tx b : Str) = tx (a ++ b) := by
  show (⟨a.toArray ++ b.toArray⟩ : Str) = _
  simp [tx]
def Its (cs : List Nat) : It := ⟨fun i _ => i < cs.length, fun i H v H' => H' = H ∧ ∃ c, cs[i]? = some c ∧ v = .str (tx [c]), fun i _ => cs.length ≤ i⟩
theorem turn_ascii {P : Program} {w : World} {K : PySem.W.Frag} {tg : Expr} (x : Str) (t : Tok) (it : Addr) : Turn P w K tg (Its x.cps.toList) [it] it (fun i h => h.IsStrIter it "str_ascii_iterator" x t i) where
  mem := by simp
  obj := fun i h st b hb => by
    have e : b = it := by simpa using hb
    subst e
    obtain ⟨o, e, c, d⟩ := st
    exact ⟨o, e, fun v z => by rw [d] at z; cases z⟩
  keep := fun i h h' st k => let ⟨o, ho, r⟩ := st; ⟨o, k it (by simp) o ho, r⟩
  item := by
    intro X hP hw hK hc i pins s σ H E I hf st hg
    subst hP hw hK
    have hi : i < x.cps.size := by have hg' : i < x.cps.toList.length := hg; simpa using hg'
    obtain ⟨f0, f1, f2, f3, f4, f5⟩ := hf it (by simp)
    refine wpAny_pyNext_ascii_item st (c := x.cps[i]) (by simp [hi]) fun h' st' sb => ?_
    have I1 : Inv X pins σ H { s with heap := h', toks := s.toks + 1 } := I.turned (t' := s.toks + 1) (fun b o hb e => sb.extBut b o hb e) f0 f1 f3 f4 f5
    obtain ⟨o, e, c, d⟩ := id st'
    exact ⟨_, rfl, go_of (s := { s with heap := h', toks := s.toks + 1 }) e c d (by decide) ⟨.str (tx [x.cps[i]]), H, I1, ⟨_, rfl⟩, ⟨rfl, x.cps[i], by simp [hi], rfl⟩, st', fun b hb => (hf b hb).1⟩⟩
  done := by
    intro X hP hw hK hc i pins s σ H E I hf st hg
    subst hP hw hK
    have hi : x.cps.size ≤ i := by have hg' : x.cps.toList.length ≤ i := hg; simpa using hg'
    obtain ⟨f0, f1, f2, f3, f4, f5⟩ := hf it (by simp)
    exact wpAny_pyNext_ascii_end (I.ok.hd hc) st (by simp; omega) fun h' eb => ⟨rfl, I.turned (t' := s.toks) (fun b o hb e => eb b o hb e) f0 f1 f3 f4 f5⟩
  self := fun _ _ _ _ _ st h => wpAny_pyIter_striter_ascii st h
theorem turn_wide {P : Program} {w : World} {K : PySem.W.Frag} {tg : Expr} (x : Str) (t : Tok) (it : Addr) : Turn P w K tg (Its x.cps.toList) [it] it (fun i h => h.IsStrIter it "str_iterator" x t i) where
  mem := by simp
  obj := fun i h st b hb => by
    have e : b = it := by simpa using hb
    subst e
    obtain ⟨o, e, c, d⟩ := st
    exact ⟨o, e, fun v z => by rw [d] at z; cases z⟩
  keep := fun i h h' st k => let ⟨o, ho, r⟩ := st; ⟨o, k it (by simp) o ho, r⟩
  item := by
    intro X hP hw hK hc i pins s σ H E I hf st hg
    subst hP hw hK
    have hi : i < x.cps.size := by have hg' : i < x.cps.toList.length := hg; simpa using hg'
    obtain ⟨f0, f1, f2, f3, f4, f5⟩ := hf it (by simp)
    refine wpAny_pyNext_wide_item st (c := x.cps[i]) (by simp [hi]) fun h' st' sb => ?_
    have I1 : Inv X pins σ H { s with heap := h', toks := s.toks + 1 } := I.turned (t' := s.toks + 1) (fun b o hb e => sb.extBut b o hb e) f0 f1 f3 f4 f5
    obtain ⟨o, e, c, d⟩ := id st'
    exact ⟨_, rfl, go_of (s := { s with heap := h', toks := s.toks + 1 }) e c d (by decide) ⟨.str (tx [x.cps[i]]), H, I1, ⟨_, rfl⟩, ⟨rfl, x.cps[i], by simp [hi], rfl⟩, st', fun b hb => (hf b hb).1⟩⟩
  done := by
    intro X hP hw hK hc i pins s σ H E I hf st hg
    subst hP hw hK
    have hi : x.cps.size ≤ i := by have hg' : x.cps.toList.length ≤ i := hg; simpa using hg'
    obtain ⟨f0, f1, f2, f3, f4, f5⟩ := hf it (by simp)
    exact wpAny_pyNext_wide_end (I.ok.hd hc) st (by simp; omega) fun h' eb => ⟨rfl, I.turned (t' := s.toks) (fun b o hb e => eb b o hb e) f0 f1 f3 f4 f5⟩
  self := fun _ _ _ _ _ st h => wpAny_pyIter_striter_wide st h
section
variable {X : Cx} {tg : Expr}
def iStr (te : TE) : TI := fun σ H R => te σ H fun x H1 => ∃ cs : List Nat, x = .str (tx cs) ∧ R (Its cs) H1
theorem pi_str {l : Expr} {tl : TE} (hl : PE X l tl) : PI X tg l (iStr tl) := by
  intro pins s σ H R I h
  refine thn (hl pins s σ H _ I h) fun v s1 ⟨x, H1, I1, r1, q1⟩ => ?_
  obtain ⟨cs, e, q⟩ := q1
  subst e
  obtain ⟨t, rfl⟩ := r1
  have fp : ∀ b ∈ [s1.heap.objs.size], FpOk X pins H1 b := fun b hb => by
    have e : b = s1.heap.objs.size := by simpa using hb
    subst e
    exact I1.fpOk (Nat.le_refl _) (I1.hok.fresh (Nat.le_refl _))
  have tw := @turn_wide X.prog X.w X.K tg (tx cs) t s1.heap.objs.size
  have ta := @turn_ascii X.prog X.w X.K tg (tx cs) t s1.heap.objs.size
  cases ha : (tx cs).cps.all (· < 128)
  · exact wpAny_pyIter_wide ha ⟨s1.heap.objs.size, [s1.heap.objs.size], _, _, H1, rfl, I1.kept (t' := s1.toks) fun b o e => Heap.get?_push_of_some _ e, tw, ⟨_, Heap.get?_push_size _ rfl, rfl, rfl⟩, fp, q⟩
  · exact wpAny_pyIter_ascii ha ⟨s1.heap.objs.size, [s1.heap.objs.size], _, _, H1, rfl, I1.kept (t' := s1.toks) fun b o e => Heap.get?_push_of_some _ e, ta, ⟨_, Heap.get?_push_size _ rfl, rfl, rfl⟩, fp, q⟩
theorem for_str {cs : List Nat} {g : TG} {tb : TS} {D : Ends} {σ : St} {H : Hp} (Pv : Nat → St → Hp → Prop) (h0 : Pv 0 σ H)
    (hs : ∀ i c σ H, cs[i]? = some c → Pv i σ H → g (.str (tx [c])) σ H fun σ2 H2 => tb { D with nx := Pv (i + 1), ct := Pv (i + 1), bk := D.nx } σ2 H2) (hd : ∀ σ H, Pv cs.length σ H → D.nx σ H) :
    ∃ W : Nat → Nat → St → Hp → Prop, (∃ m, W 0 m σ H) ∧ ∀ i m σ H, W i m σ H →
      ((Its cs).stop i H ∧ D.nx σ H) ∨ ((Its cs).go i H ∧ ∃ N : St → Hp → Prop, (∀ σ' H', N σ' H' → ∃ m', m' < m ∧ W (i + 1) m' σ' H') ∧ ∀ x H', (Its cs).yld i H x H' → g x σ H' fun σ2 H2 => tb { D with nx := N, ct := N, bk := D.nx } σ2 H2) := by
  refine ⟨fun i m σ H => m = cs.length - i ∧ i ≤ cs.length ∧ Pv i σ H, ⟨cs.length, by simp, Nat.zero_le _, h0⟩, ?_⟩
  rintro i m σ H ⟨rfl, hi, p⟩
  by_cases hlt : i < cs.length
  · refine .inr ⟨hlt, fun σ' H' => Pv (i + 1) σ' H', fun σ' H' q => ⟨cs.length - (i + 1), by omega, rfl, hlt, q⟩, ?_⟩
    rintro x H' ⟨rfl, c, hc, rfl⟩
    exact hs i c σ _ hc p
  · have e : i = cs.length := by omega
    subst e
    exact .inl ⟨Nat.le_refl _, hd σ H p⟩
theorem comp_str {cs : List Nat} {k : Nat} {te : TE} {σ2 : St} {H : Hp} {acc : Addr} {Q : VK} (Pv : Nat → List V → Hp → Prop) (hn : cs.length ≤ 100000) (h0 : Pv 0 [] (upd H acc (.lst [])))
    (hs : ∀ (i : Nat) (c : Nat) (out : List V) (H1 : Hp), cs[i]? = some c → out.length = i → H1 acc = some (.lst out) → Pv i out H1 → te (σ2.set k (some (.str (tx [c])))) H1 fun v H4 => H4 acc = some (.lst out) ∧ Pv (i + 1) (out ++ [v]) (upd H4 acc (.lst (out ++ [v]))))
    (hd : ∀ (out : List V) (H1 : Hp), out.length = cs.length → H1 acc = some (.lst out) → Pv cs.length out H1 → Q (.ref acc) H1) :
    CompG (Its cs) (gName k) te acc σ2 H Q := by
  refine ⟨fun i m σ' H' => m = cs.length - i ∧ i ≤ cs.length ∧ (∀ v, σ'.set k (some v) = σ2.set k (some v)) ∧ ∃ out, out.length = i ∧ H' acc = some (.lst out) ∧ Pv i out H', ⟨cs.length, by simp, Nat.zero_le _, fun _ => rfl, [], rfl, upd_same, h0⟩, ?_⟩
  rintro i m σ' H' ⟨rfl, hi, hσ, out, ho, ha, p⟩
  by_cases hlt : i < cs.length
  · refine .inr ⟨hlt, fun σ3 => ∀ v, σ3.set k (some v) = σ2.set k (some v), fun v H4 => H4 acc = some (.lst out) ∧ Pv (i + 1) (out ++ [v]) (upd H4 acc (.lst (out ++ [v]))), fun σ3 v H4 hS ⟨a, b⟩ => ?_, fun x H1 y => ?_⟩
    · refine ⟨out, a, ?_, cs.length - (i + 1), by omega, rfl, hlt, hS, out ++ [v], by rw [List.length_append, ho]; rfl, upd_same, b⟩
      have : sizeLine = 16777216 := sizeLine_eq
      omega
    · obtain ⟨e, c, hc, ex⟩ := y
      subst e ex
      refine ⟨fun v => by rw [List.set_set]; exact hσ v, ?_⟩
      have q2 := hs i c out _ hc ho ha p
      rw [← hσ] at q2
      exact q2
  · have e : i = cs.length := by omega
    subst e
    exact .inl ⟨Nat.le_refl _, hd out H' ho ha p⟩
def cutN (cs : List Nat) (lo hi : Option Int) : List Nat := (cs.drop (HT.sIx cs.length 0 lo)).take (HT.sIx cs.length cs.length hi - HT.sIx cs.length 0 lo)
theorem cutN_length (cs : List Nat) (lo hi : Option Int) : (cutN cs lo hi).length ≤ cs.length := by
  unfold cutN
  rw [List.length_take, List.length_drop]
  omega
theorem picked_cut (cs : List Nat) (lo hi : Option Int) : Builtin.Str.strSliceIndices lo hi 1 cs.length = (List.range (HT.sIx cs.length cs.length hi - HT.sIx cs.length 0 lo)).map (HT.sIx cs.length 0 lo + ·) := by
  rw [← sliceRange_one]
  unfold Builtin.Str.strSliceIndices
  simp only [show ((1 : Int) > 0) = True from by simp, if_true]
  congr 1
  · cases lo with
    | none => rfl
    | some i =>
      simp only [HT.sIx]
      by_cases h : i < 0
      · simp only [h, if_true] <;> omega
      · simp only [h, if_false] <;> omega
  · cases hi with
    | none => rfl
    | some i =>
      simp only [HT.sIx]
      by_cases h : i < 0
      · simp only [h, if_true] <;> omega
      · simp only [h, if_false] <;> omega
def rSlS : V → Option Int → Option Int → Hp → VK → Prop := fun x lo hi H Q => ∃ cs, x = .str (tx cs) ∧ cs.length ≤ sizeLine ∧ Q (.str (tx (cutN cs lo hi))) H
theorem sl_str : SlR X rSlS := by
  intro pins s σ H x v vl vu lo hi sl Q I rx hs pl pu h
  obtain ⟨cs, rfl, hz, q⟩ := h
  obtain ⟨t, rfl⟩ := rx
  refine ⟨"str", _, F.slot_str_getitem.lookup, typeIs_str s _ t, ?_⟩
  obtain ⟨l, rfl, el⟩ : ∃ l : Option (Int × Tok), vl = partValue l ∧ l.map (·.1) = lo := by
    cases pl with
    | none => exact ⟨none, rfl, rfl⟩
    | int i t => exact ⟨some (i, t), rfl, rfl⟩
  obtain ⟨u, rfl, eu⟩ : ∃ u : Option (Int × Tok), vu = partValue u ∧ u.map (·.1) = hi := by
    cases pu with
    | none => exact ⟨none, rfl, rfl⟩
    | int i t => exact ⟨some (i, t), rfl, rfl⟩
  refine wpAny_getItem_str_slice (l := l) (u := u) (st := none) hs rfl ?_
  have e1 : slicePicked (tx cs) l u none = (List.range (HT.sIx cs.length cs.length hi - HT.sIx cs.length 0 lo)).map (HT.sIx cs.length 0 lo + ·) := by
    unfold slicePicked
    rw [el, eu, tx_length]
    exact picked_cut cs lo hi
  have e2 : (slicePicked (tx cs) l u none).filterMap ((tx cs).cps[·]?) = cutN cs lo hi := by
    rw [e1, pick_run]
    rfl
  unfold sliceMade
  split
  · rename_i hc
    have hl : (slicePicked (tx cs) l u none).length = cs.length := by
      have := (Bool.and_eq_true_iff.mp hc).2
      rw [tx_length] at this
      simpa using this
    have hcut : cutN cs lo hi = cs := by
      rw [e1, List.length_map, List.length_range] at hl
      unfold cutN
      have h1 := HT.sIx_le cs.length cs.length (Nat.le_refl _) hi
      have h0 : HT.sIx cs.length 0 lo = 0 ∨ cs.length = 0 := by omega
      rcases h0 with h0 | h0
      · rw [h0] at hl ⊢
        rw [List.drop_zero, hl, List.take_length]
      · have : cs = [] := List.length_eq_zero_iff.mp h0
        subst this
        simp
    rw [hcut] at q
    exact ⟨.str (tx cs), H, I, ⟨t, rfl⟩, q⟩
  · show (Made.str ⟨_⟩).post _ _
    rw [e2]
    refine ⟨?_, .str (tx (cutN cs lo hi)), H, I.tok _, ⟨_, rfl⟩, q⟩
    show (tx (cutN cs lo hi)).length ≤ sizeLine
    rw [tx_length]
    exact Nat.le_trans (cutN_length cs lo hi) hz
end
theorem cutN_to (cs : List Nat) (k : Nat) : cutN cs none (some (k : Int)) = cs.take k := by
  unfold cutN
  rw [HT.sIx_none, HT.sIx_nat, List.drop_zero, Nat.sub_zero]
  rcases Nat.le_total k cs.length with h | h
  · rw [Nat.min_eq_left h]
  · rw [Nat.min_eq_right h, List.take_length, List.take_of_length_le h]
def inS (signs : Str) (c : Nat) : Bool := !(Builtin.Str.occurrences signs (tx [c]) 0 signs.length 1).isEmpty
def nmL (c : Int) (n : Nat) : List Nat := (List.range n).map fun i => 97 + ((c / 26 ^ i) % 26).toNat
theorem nmL_length (c : Int) (n : Nat) : (nmL c n).length = n := by unfold nmL; rw [List.length_map, List.length_range]
theorem nmL_succ (c : Int) (n : Nat) : nmL c (n + 1) = nmL c n ++ [97 + ((c / 26 ^ n) % 26).toNat] := by
  unfold nmL
  rw [List.range_succ, List.map_append]
  rfl
theorem letter_at {k : Int} (h0 : 0 ≤ k) (h1 : k < 26) : atI (("abcdefghijklmnopqrstuvwxyz" : Str).cps.toList) k = some (97 + k.toNat) := by
  have h : ∀ n : Nat, n < 26 → ("abcdefghijklmnopqrstuvwxyz" : Str).cps.toList[n]? = some (97 + n) := by decide +kernel
  have e : k = ((k.toNat : Nat) : Int) := by omega
  have := atI_nat (h k.toNat (by omega))
  rw [← e] at this
  exact this
structure spName' (vs : List V) (H : Hp) (Q : VK) (E : XK) : Prop where
  ex : ∃ (c : Int) (n : Nat), vs = [.int c, .int (n : Int)] ∧ 0 ≤ c ∧ n ≤ 1000 ∧ Q (.str (tx (nmL c n))) H
theorem use_name {H : Hp} {Q : VK} {E : XK} {c ni : Int} {n : Nat} (e : ni = (n : Int)) (hc : 0 ≤ c) (hn : n ≤ 1000) (q : Q (.str (tx (nmL c n))) H) : spName' [.int c, .int ni] H Q E := by
  subst e
  exact ⟨c, n, rfl, hc, hn, q⟩
structure spMadeOf (vs : List V) (H : Hp) (Q : VK) (E : XK) : Prop where
  ex : ∃ (cs : List Nat) (signs : Str), vs = [.str (tx cs), .str signs] ∧ cs.length ≤ 100000 ∧ ∀ H', Same H H' → Q (.bl (cs.all (inS signs))) H'
theorem use_madeof {H : Hp} {Q : VK} {E : XK} {cs : List Nat} {signs : Str} (hl : cs.length ≤ 100000) (q : ∀ H', Same H H' → Q (.bl (cs.all (inS signs))) H') : spMadeOf [.str (tx cs), .str signs] H Q E := ⟨cs, signs, rfl, hl, q⟩
def isName (cs : List Nat) : Bool := decide (1 ≤ (cs.length : Int)) && decide ((cs.length : Int) ≤ 8) && cs.all (inS "abcdefghijklmnopqrstuvwxyz")
structure spIsName (vs : List V) (H : Hp) (Q : VK) (E : XK) : Prop where
  ex : ∃ (cs : List Nat), vs = [.str (tx cs)] ∧ cs.length ≤ 100000 ∧ ∀ H', Same H H' → Q (.bl (isName cs)) H'
theorem use_isname {H : Hp} {Q : VK} {E : XK} {cs : List Nat} (hl : cs.length ≤ 100000) (q : ∀ H', Same H H' → Q (.bl (isName cs)) H') : spIsName [.str (tx cs)] H Q E := ⟨cs, rfl, hl, q⟩
end L2
namespace L2
open PySem PySem.Spec PyProof.Rows
section
variable {prog : Program} {w : World} {A : Around} {R : Result → Shared → Prop} {s : Shared}
end
section
variable {X : Cx}
end
end L2
namespace L2
open PySem PySem.Spec PyProof.Rows
theorem nodup_le {α : Type} [DecidableEq α] : ∀ {l m : List α}, l.Nodup → (∀ x ∈ l, x ∈ m) → l.length ≤ m.length
  | [], _, _, _ => Nat.zero_le _
  | x :: r, m, h, hs => by
    have hn := List.nodup_cons.mp h
    have hx := hs x List.mem_cons_self
    have := nodup_le (l := r) (m := m.erase x) hn.2 fun y hy => by
      have hne : y ≠ x := fun e => hn.1 (e ▸ hy)
      exact (List.mem_erase_of_ne hne).mpr (hs y (List.mem_cons_of_mem _ hy))
    rw [List.length_erase_of_mem hx] at this
    have hp : 0 < m.length := List.length_pos_of_mem hx
    rw [List.length_cons]
    omega
theorem nmL_at (c : Int) {n i : Nat} (h : i < n) : (nmL c n)[i]? = some (97 + ((c / 26 ^ i) % 26).toNat) := by
  unfold nmL
  rw [List.getElem?_map, List.getElem?_range h]
  rfl
theorem nmL_fig {c c' : Int} {n d : Nat} (h : d < n) (e : nmL c n = nmL c' n) : (c / 26 ^ d) % 26 = (c' / 26 ^ d) % 26 := by
  have h1 := nmL_at c h
  rw [e, nmL_at c' h] at h1
  have h2 := Option.some.inj h1
  have a0 : 0 ≤ (c / 26 ^ d) % 26 := Int.emod_nonneg _ (by decide)
  have b0 : 0 ≤ (c' / 26 ^ d) % 26 := Int.emod_nonneg _ (by decide)
  omega
theorem nmL_two {c c' : Int} {n : Nat} (h : 2 ≤ n) (e : nmL c n = nmL c' n) : c % 676 = c' % 676 := by
  have h0 := nmL_fig (d := 0) (by omega) e
  have h1 := nmL_fig (d := 1) (by omega) e
  rw [Int.pow_zero, Int.ediv_one, Int.ediv_one] at h0
  rw [show (26 : Int) ^ 1 = 26 from rfl] at h1
  omega
structure NameOk (x : List Nat) : Prop where
  lo : 1 ≤ x.length
  hi : x.length ≤ 8
  letters : ∀ c ∈ x, 97 ≤ c ∧ c < 123
theorem nmL_ok (c : Int) {n : Nat} (h1 : 1 ≤ n) (h2 : n ≤ 8) : NameOk (nmL c n) := by
  refine ⟨by rw [nmL_length]; exact h1, by rw [nmL_length]; exact h2, fun x hx => ?_⟩
  obtain ⟨i, _, rfl⟩ := List.mem_map.mp hx
  have a0 : 0 ≤ (c / 26 ^ i) % 26 := Int.emod_nonneg _ (by decide)
  have a1 : (c / 26 ^ i) % 26 < 26 := Int.emod_lt_of_pos _ (by decide)
  omega
def txs (nss : List (List Nat)) : List V := nss.map fun x => V.str (tx x)
theorem txs_flat (nss : List (List Nat)) : (txs nss).all flatV = true := by
  unfold txs
  rw [List.all_map, List.all_eq_true]
  exact fun _ _ => rfl
theorem tx_inj {a b : List Nat} (h : tx a = tx b) : a = b := by
  have : a.toArray = b.toArray := by injection h
  simpa using this
theorem inV_txs (x : List Nat) (nss : List (List Nat)) : inV (.str (tx x)) (txs nss) = decide (x ∈ nss) := by
  unfold inV txs
  rw [List.any_map, Bool.eq_iff_iff, List.any_eq_true, decide_eq_true_eq]
  constructor
  · rintro ⟨y, hy, e⟩
    have e2 : eqV (.str (tx y)) (.str (tx x)) = true := e
    have e3 : tx y = tx x := by
      unfold eqV at e2
      simpa using e2
    rw [← tx_inj e3]
    exact hy
  · intro h
    refine ⟨x, h, ?_⟩
    show eqV (.str (tx x)) (.str (tx x)) = true
    unfold eqV
    simp
structure spManyNames (K : PySem.W.Frag) (vs : List V) (H : Hp) (Q : VK) (E : XK) : Prop where
  ex : ∃ (a : Addr) (ms : List Int) (k : Int) (many : Nat), vs = [.ref a, .int k, .int (many : Int)] ∧ SqL K H a (ms.map V.int) ∧ ms.length ≤ 63 ∧ 0 ≤ k ∧ many ≤ 100 ∧
    ∀ (z : Addr) (nss : List (List Nat)) (H' : Hp), Same H H' → H' z = some (.lst (txs nss)) → H z = none → nss.length = many → nss.Nodup → (∀ x ∈ nss, NameOk x ∧ 2 ≤ x.length) → Q (.ref z) H'
theorem use_manynames {K : PySem.W.Frag} {H : Hp} {Q : VK} {E : XK} {a : Addr} {ms : List Int} {k mi : Int} {many : Nat} (hmi : mi = (many : Int)) (hS : SqL K H a (ms.map V.int)) (h63 : ms.length ≤ 63) (h1 : 0 ≤ k) (h2 : many ≤ 100)
    (h : ∀ (z : Addr) (nss : List (List Nat)) (H' : Hp), Same H H' → H' z = some (.lst (txs nss)) → H z = none → nss.length = many → nss.Nodup → (∀ x ∈ nss, NameOk x ∧ 2 ≤ x.length) → Q (.ref z) H') : spManyNames K [.ref a, .int k, .int mi] H Q E := by
  subst hmi
  exact ⟨a, ms, k, many, rfl, hS, h63, h1, h2, h⟩
theorem tries_le {nss : List (List Nat)} {c : Int} {n t : Nat} (h2 : 2 ≤ n) (ht : t ≤ 676) (h : ∀ j : Nat, j < t → nmL (c + (j : Int)) n ∈ nss) : t ≤ nss.length := by
  have hn : ((List.range t).map fun j => nmL (c + ((j : Nat) : Int)) n).Nodup := by
    have : (List.range t).Pairwise (fun a b => a < b) := List.pairwise_lt_range
    refine List.Pairwise.map _ ?_ (List.Pairwise.and_mem.mp this)
    rintro a b ⟨ha, hb, hab⟩ e
    have ha' := List.mem_range.mp ha
    have hb' := List.mem_range.mp hb
    have := nmL_two h2 e
    omega
  have := nodup_le hn fun x hx => by
    obtain ⟨j, hj, rfl⟩ := List.mem_map.mp hx
    exact h j (List.mem_range.mp hj)
  rw [List.length_map, List.length_range] at this
  exact this
end L2
namespace L2
open PySem PySem.Spec PyProof.Rows
theorem eqv_str (x : Str) : PyData.eqv (.str x) (.str x) = true := by unfold PyData.eqv; exact beq_self_eq_true x
end L2
namespace L2
open PySem PySem.Spec PyProof.Rows
end L2
namespace L2
open PySem PySem.Spec PyProof.Rows PySem.NumText
section
variable {X : Cx}
end
end L2
namespace L2
open PySem PySem.Spec PyProof.Rows PySem.NumText
section
variable {X : Cx} {tg : Expr}
end
theorem inS_mem (signs : Str) (c : Nat) : inS signs c = decide (c ∈ signs.cps.toList) := PySem.StrLaws.found_one signs c
end L2
namespace L2
open PySem PySem.Spec PyProof.Rows PySem.NumText
end L2
namespace L2
open PySem PySem.Spec PyProof.Rows PySem.NumText
end L2
namespace L2
open PySem PySem.Spec PyProof.Rows PySem.NumText Builtin Builtin.Str
section
variable {X : Cx}
end
end L2
namespace L2
open PySem PySem.Spec PyProof.Rows PySem.NumText
end L2
namespace L2
end L2
namespace L2
open PySem PySem.Spec PyProof.Rows
end L2
namespace L2
open PySem PySem.Spec PyProof.Rows
theorem kv_get {a : List (Key × V)} {b : List (Key × Value)} (r : KV a b) : ∀ {j : Nat} {p : Key × V}, a[j]? = some p → ∃ q, b[j]? = some q ∧ p.1 = q.1 ∧ RelV p.2 q.2 := by
  induction r with
  | nil => intro j p z; simp at z
  | cons r1 _ ih =>
    intro j p z
    cases j with
    | zero => simp at z; subst z; exact ⟨_, rfl, r1⟩
    | succ j => simp at z; obtain ⟨q, a1, a2⟩ := ih z; exact ⟨q, by simpa using a1, a2⟩
abbrev Frz (H : Hp) (d : Addr) (o : Obj) (kvs : List (Key × V)) : Prop := H d = some (.frz o (.dK kvs))
section
variable {X : Cx} {pins : List (Addr × Obj)} {σ σ' : St} {H H' : Hp} {s s' : Shared} {d : Addr} {kvs : List (Key × V)} {o : Obj}
theorem Inv.freeze (I : Inv X pins σ H s) (e : H d = some (.dK kvs)) (ho : s.heap.get? d = some o) : Inv X pins σ (upd H d (.frz o (.dK kvs))) s := by
  have nd : ∀ {b : Addr}, H b = none → b ≠ d := fun h z => by rw [z, e] at h; cases h
  have dn : ∀ {b : Addr}, H b = none → upd H d (.frz o (.dK kvs)) b = none := fun h => by rw [upd_ne (nd h)]; exact h
  have un : ∀ {b : Addr} {u : HO}, H b = some u → (∀ k, u ≠ .dK k) → b ≠ d := fun h k z => by rw [z, e] at h; cases h; exact k _ rfl
  refine ⟨I.ok, I.os, I.bare, ⟨I.base.keep, I.base.slot, fun b ob q n x => dn (I.base.free b ob q n x), I.base.there, fun b xs q => ?_, fun b ob u q => ?_, fun b ps q => ?_⟩, I.loc, I.cell, dn I.free, fun x c q => dn (I.freeC x c q), fun p hp => ?_, fun b ob q => ?_, I.len⟩
  · have := I.base.tups b xs q
    rw [upd_ne (un this fun k z => by cases z)]; exact this
  · have := I.base.frzs b ob u q
    rw [upd_ne (un this fun k z => by cases z)]; exact this
  · obtain ⟨more, this⟩ := I.base.tbls b ps q
    exact ⟨more, by rw [upd_ne (un this fun k z => by cases z)]; exact this⟩
  · obtain ⟨h1, h2, h3⟩ := I.pin p hp
    exact ⟨h1, dn h2, h3⟩
  · by_cases hb : b = d
    · subst hb
      rw [upd_same] at q; cases q
      have := I.hok b _ e
      exact ⟨ho, this⟩
    · rw [upd_ne hb] at q
      refine (I.hok b ob q).stay (fun c u _ z => z) (fun c z => ?_) fun c xs z => ?_
      · rw [upd_ne (un z fun k z => by cases z)]; exact z
      · rw [upd_ne (un z fun k z => by cases z)]; exact z
theorem Inv.thaw (I : Inv X pins σ H s) (e : Frz H d o kvs) (h0 : ∀ o u, X.H₀ d ≠ some (.frz o u)) : Inv X pins σ (upd H d (.dK kvs)) s := by
  have nd : ∀ {b : Addr}, H b = none → b ≠ d := fun h z => by rw [z] at h; exact absurd (h.symm.trans e) (by simp)
  have dn : ∀ {b : Addr}, H b = none → upd H d (.dK kvs) b = none := fun h => by rw [upd_ne (nd h)]; exact h
  have un : ∀ {b : Addr} {u : HO}, H b = some u → (∀ o k, u ≠ .frz o k) → b ≠ d := fun h k z => by rw [z] at h; have := h.symm.trans e; cases this; exact k _ _ rfl
  refine ⟨I.ok, I.os, I.bare, ⟨I.base.keep, I.base.slot, fun b ob q n x => dn (I.base.free b ob q n x), I.base.there, fun b xs q => ?_, fun b ob u q => ?_, fun b ps q => ?_⟩, I.loc, I.cell, dn I.free, fun x c q => dn (I.freeC x c q), fun p hp => ?_, fun b ob q => ?_, I.len⟩
  · have := I.base.tups b xs q
    rw [upd_ne (un this fun _ k z => by cases z)]; exact this
  · have := I.base.frzs b ob u q
    rw [upd_ne (fun (z : b = d) => h0 ob u (by rw [← z]; exact q))]; exact this
  · obtain ⟨more, this⟩ := I.base.tbls b ps q
    exact ⟨more, by rw [upd_ne (un this fun _ k z => by cases z)]; exact this⟩
  · obtain ⟨h1, h2, h3⟩ := I.pin p hp
    exact ⟨h1, dn h2, h3⟩
  · by_cases hb : b = d
    · subst hb
      rw [upd_same] at q; cases q
      exact (I.hok b _ e).2
    · rw [upd_ne hb] at q
      refine (I.hok b ob q).stay (fun c u _ z => z) (fun c z => ?_) fun c xs z => ?_
      · rw [upd_ne (un z fun _ k z => by cases z)]; exact z
      · rw [upd_ne (un z fun _ k z => by cases z)]; exact z
theorem Inv.notFrz (I : Inv X pins σ H s) (e : H d = some (.dK kvs)) : ∀ o u, X.H₀ d ≠ some (.frz o u) := fun o u z => by
  have := I.base.frzs d o u z
  rw [e] at this; cases this
theorem Inv.frzAt (I : Inv X pins σ H s) (e : Frz H d o kvs) : s.heap.get? d = some o ∧ kvs.length ≤ sizeLine ∧ (d == sysModules) = false ∧ ∃ vs ep, KV kvs vs ∧ s.heap.DictAt (mixKind X.prog X.w) d vs ep := by
  obtain ⟨ho, hz, hs, vs, r, dd⟩ := (show ObjOk X.prog X.w H s.heap d (.frz o (.dK kvs)) from I.hok d _ e)
  obtain ⟨ep, da⟩ := dd.dictAt
  exact ⟨ho, hz, hs, vs, ep, r, da⟩
end
def Ends.thaw (D : Ends) (d : Addr) (o : Obj) (kvs : List (Key × V)) : Ends where
  nx := fun σ H => Frz H d o kvs ∧ D.nx σ (upd H d (.dK kvs))
  rt := fun v H => Frz H d o kvs ∧ D.rt v (upd H d (.dK kvs))
  bk := fun σ H => Frz H d o kvs ∧ D.bk σ (upd H d (.dK kvs))
  ct := fun σ H => Frz H d o kvs ∧ D.ct σ (upd H d (.dK kvs))
def tFrz (t : TS) : TS := fun D σ H => ∃ d kvs, H d = some (.dK kvs) ∧ ∀ o, t (D.thaw d o kvs) σ (upd H d (.frz o (.dK kvs)))
theorem ps_frz {X : Cx} {st : Stmt} {t : TS} (h : PS X st t) : PS X st (tFrz t) := by
  intro pins s σ H D I hw
  obtain ⟨d, kvs, e, hw⟩ := hw
  obtain ⟨ho, es, ep, h1, _⟩ := (dk_of I.hok e).2.2.choose_spec.2
  have h0 := I.notFrz e
  refine thn (h pins s σ _ _ (I.freeze e h1) (hw ho)) fun f s' q => ?_
  cases f with
  | next => obtain ⟨σ', H', I', q1, q2⟩ := q; exact ⟨σ', _, I'.thaw q1 h0, q2⟩
  | brk => obtain ⟨σ', H', I', q1, q2⟩ := q; exact ⟨σ', _, I'.thaw q1 h0, q2⟩
  | cont => obtain ⟨σ', H', I', q1, q2⟩ := q; exact ⟨σ', _, I'.thaw q1 h0, q2⟩
  | ret u => obtain ⟨v, σ', H', I', r, q1, q2⟩ := q; exact ⟨v, σ', _, I'.thaw q1 h0, r, q2⟩
def eFrz (t : TE) : TE := fun σ H Q => ∃ d kvs, H d = some (.dK kvs) ∧ ∀ o, t σ (upd H d (.frz o (.dK kvs))) fun v H' => Frz H' d o kvs ∧ Q v (upd H' d (.dK kvs))
theorem pe_frz {X : Cx} {e : Expr} {t : TE} (h : PE X e t) : PE X e (eFrz t) := by
  intro pins s σ H Q I hw
  obtain ⟨d, kvs, e, hw⟩ := hw
  obtain ⟨ho, es, ep, h1, _⟩ := (dk_of I.hok e).2.2.choose_spec.2
  have h0 := I.notFrz e
  exact thn (h pins s σ _ _ (I.freeze e h1) (hw ho)) fun u s' ⟨v, H', I', r, q1, q2⟩ => ⟨v, _, I'.thaw q1 h0, r, q2⟩
def Itv (d : Addr) (o : Obj) (kvs : List (Key × V)) : It := ⟨fun i H => Frz H d o kvs ∧ i < kvs.length, fun i H x H' => H' = H ∧ ∃ p, kvs[i]? = some p ∧ x = p.2, fun i H => Frz H d o kvs ∧ kvs.length ≤ i⟩
theorem ep_of {h : Heap} {P : Program} {w : World} {d : Addr} {vs : List (Key × Value)} {e1 e2 : Nat} {o : Obj} {es : Array DictEntry} (da : h.DictAt (mixKind P w) d vs e1) (ho : h.get? d = some o) (hd : o.data = .dict es e2) : e1 = e2 := by
  obtain ⟨o', es', h1, _, h2, _⟩ := da
  rw [ho] at h1; cases h1
  rw [hd] at h2; cases h2; rfl
theorem kV_rel {P : Program} {w : World} {k : Key} {v : Value} (h : (mixKind P w).is k v = true) : RelV (kV k) v := by
  rw [mixKind_is] at h
  rcases keyIs_shape h with ⟨i, t, rfl, rfl⟩ | ⟨x, t, rfl, rfl⟩
  · exact ⟨t, rfl⟩
  · exact ⟨t, rfl⟩
theorem turn_vals {P : Program} {w : World} {K : PySem.W.Frag} {tg : Expr} {d it : Addr} {o : Obj} {kvs : List (Key × V)} {es : Array DictEntry} {ep : Nat} (hd : o.data = .dict es ep) :
    Turn P w K tg (Itv d o kvs) [it] it (fun i h => h.IsValIter it d i kvs.length ep) where
  mem := by simp
  obj := fun i h st b hb => by
    have e : b = it := by simpa using hb
    subst e
    obtain ⟨o, e, c, d⟩ := st
    exact ⟨o, e, fun v z => by rw [d] at z; cases z⟩
  keep := fun i h h' st k => st.at fun o e => k it (by simp) o e
  item := by
    intro X hP hw hK hc i pins s σ H E I hf st hg
    subst hP hw hK
    obtain ⟨hz, hlt⟩ := hg
    obtain ⟨ho, _, _, vs, ep', r, da⟩ := I.frzAt hz
    cases ep_of da ho hd
    have hl : kvs.length = vs.length := r.length
    obtain ⟨q, hq, _, rq⟩ := kv_get r (List.getElem?_eq_getElem hlt)
    obtain ⟨qk, qv⟩ := q
    rw [hl] at st
    obtain ⟨f0, f1, f2, f3, f4, f5⟩ := hf it (by simp)
    refine wpAny_pyNext_values_item st da hq fun h' st' sb => ?_
    have I1 : Inv X pins σ H { s with heap := h' } := I.turned (t' := s.toks) (fun b o hb e => (sb.2 b hb).trans e) f0 f1 f3 f4 f5
    obtain ⟨oi, e, c, dd⟩ := id st'
    exact ⟨_, rfl, go_of (s := { s with heap := h' }) e c dd (by decide) ⟨kvs[i].2, H, I1, rq, ⟨rfl, kvs[i], List.getElem?_eq_getElem hlt, rfl⟩, by rw [hl]; exact st', fun b hb => (hf b hb).1⟩⟩
  done := by
    intro X hP hw hK hc i pins s σ H E I hf st hg
    subst hP hw hK
    obtain ⟨hz, hle⟩ := hg
    obtain ⟨ho, _, _, vs, ep', r, da⟩ := I.frzAt hz
    cases ep_of da ho hd
    have hl : kvs.length = vs.length := r.length
    rw [hl] at st
    obtain ⟨f0, f1, f2, f3, f4, f5⟩ := hf it (by simp)
    exact wpAny_pyNext_values_end (I.ok.hd hc) st da (by rw [List.getElem?_eq_none]; omega) fun h' eb => ⟨rfl, I.turned (t' := s.toks) (fun b o hb e => eb b o hb e) f0 f1 f3 f4 f5⟩
  self := fun _ _ _ _ _ st h => wpAny_pyIter_valiter st h
section
variable {X : Cx} {tg : Expr}
def iVals (td : TE) : TI := fun σ H R => td σ H fun x H1 => ∃ d o kvs, x = .ref d ∧ Frz H1 d o kvs ∧ R (Itv d o kvs) H1
theorem pi_vals {ob : Expr} {td : TE} {apos cpos : Pos} (hob : PE X ob td) (hbase : attributeBase ob "values" X.env (eval ob X.env) = eval ob X.env := by rfl) (hline : (apos.endLine == cpos.line) = true := by rfl) :
    PI X tg (.Call (.Attribute ob "values" apos) [] [] cpos) (iVals td) := by
  intro pins s σ H R I h
  refine wpAny_Call_method0_late hbase hline (thn (hob pins s σ H _ I h) fun v s1 ⟨x, H1, I1, r1, q1⟩ => ?_)
  obtain ⟨d, o, kvs, rfl, e, fin⟩ := q1
  cases r1
  obtain ⟨ho, hz, hsys, vs, ep, rel, da⟩ := I1.frzAt e
  obtain ⟨t1, t2, _⟩ := isD_at I1 (.inl ⟨kvs, .inr ⟨o, e⟩⟩)
  have dd := da.dictOf
  refine ⟨"dict", _, F.plainAttrs_dict, F.slot_dict_values, F.type_dict_values, t1, t2, Calls.callWith_builtin rfl (PySem.evalArgs_none ?_)⟩
  refine call_meetsIn F.slot_dict_values dd.typeIs F.entry_dict_values (F.args_dict_values_1 _) (meets_dict_values (mixKind X.prog X.w) d hsys) ⟨⟨vs, dd⟩, ?_⟩
  refine wpAny_pyIter_values (s := { s1 with heap := s1.heap.push { cls := .type "dict_values", data := .fields #[.ref d] } }) ⟨_, Heap.get?_push_size _ rfl, rfl, rfl⟩ (da.push _) ?_
  have Iv : Inv X pins σ H1 { s1 with heap := s1.heap.push { cls := .type "dict_values", data := .fields #[.ref d] } } := I1.kept (t' := s1.toks) fun b o e => Heap.get?_push_of_some _ e
  generalize ({ s1 with heap := s1.heap.push { cls := .type "dict_values", data := .fields #[.ref d] } } : Shared) = sv at *
  have I2 : Inv X pins σ H1 { sv with heap := sv.heap.push { cls := .type "dict_valueiterator", data := .fields #[.ref d, .int 0 0, .int vs.length 0, .int ep 0] } } := Iv.kept (t' := sv.toks) fun b o e => Heap.get?_push_of_some _ e
  have hl : kvs.length = vs.length := rel.length
  obtain ⟨o', es, h1, _, h2, _⟩ := id da
  rw [ho] at h1; cases h1
  refine ⟨sv.heap.objs.size, [sv.heap.objs.size], _, _, H1, rfl, I2, turn_vals h2, ?_, fun b hb => ?_, fin⟩
  · rw [hl]; exact ⟨_, Heap.get?_push_size _ rfl, rfl, rfl⟩
  · have eb : b = sv.heap.objs.size := by simpa using hb
    subst eb
    exact Iv.fpOk (Nat.le_refl _) (Iv.hok.fresh (Nat.le_refl _))
end
theorem for_walk {J : It} {n : Nat} {g : TG} {tb : TS} {D : Ends} {σ : St} {H : Hp} (Pv : Nat → St → Hp → Prop) (h0 : Pv 0 σ H) (hgo : ∀ i σ H, i < n → Pv i σ H → J.go i H) (hst : ∀ σ H, Pv n σ H → J.stop n H)
    (hs : ∀ i x σ H H', i < n → Pv i σ H → J.yld i H x H' → g x σ H' fun σ2 H2 => tb { D with nx := Pv (i + 1), ct := Pv (i + 1), bk := D.nx } σ2 H2) (hd : ∀ σ H, Pv n σ H → D.nx σ H) :
    ∃ W : Nat → Nat → St → Hp → Prop, (∃ m, W 0 m σ H) ∧ ∀ i m σ H, W i m σ H →
      (J.stop i H ∧ D.nx σ H) ∨ (J.go i H ∧ ∃ N : St → Hp → Prop, (∀ σ' H', N σ' H' → ∃ m', m' < m ∧ W (i + 1) m' σ' H') ∧ ∀ x H', J.yld i H x H' → g x σ H' fun σ2 H2 => tb { D with nx := N, ct := N, bk := D.nx } σ2 H2) := by
  refine ⟨fun i m σ H => m = n - i ∧ i ≤ n ∧ Pv i σ H, ⟨n, by simp, Nat.zero_le _, h0⟩, ?_⟩
  rintro i m σ H ⟨rfl, hi, p⟩
  by_cases hlt : i < n
  · exact .inr ⟨hgo i σ H hlt p, Pv (i + 1), fun σ' H' p' => ⟨n - (i + 1), by omega, rfl, hlt, p'⟩, fun x H' y => hs i x σ H H' hlt p y⟩
  · have e : i = n := by omega
    subst e
    exact .inl ⟨hst σ H p, hd σ H p⟩
end L2
namespace L2
open PySem PySem.Spec PyProof.Rows
section
variable {prog : Program} {w : World} {K : Type} [DecidableEq K] {knd : KeyKind prog w K} {A : Around} {E : Value → Shared → Prop} {s : Shared}
end
end L2
namespace L2
open PySem PySem.Spec PyProof.Rows
section
variable {P : Program} {w : World} {A : Around} {E : Value → Shared → Prop} {s : Shared} {K : PySem.W.Frag} {S1 S2 : Hp → Prop} {xs ys : List V} {z TI TO i1 i2 l1 l2 : Addr} {t1 t2 : Nat → Heap → Prop} {c1 c2 : Heap → Prop} {i : Nat}
end
end L2
namespace L2
open PySem PySem.Spec PyProof.Rows
section
variable {prog : Program} {w : World} {A : Around} {E : Value → Shared → Prop} {s : Shared} {it t : Addr} {i : Nat} {items : Array Value} {Q : Value → Shared → Prop}
end
end L2
namespace L2
open PySem PySem.Spec PyProof.Rows
theorem dict_len : typeLookup (.type "dict") "__len__" = pure (some (.builtin "dict.__len__")) := by rw [typeLookup_type, builtinLookup_eq_fast]; kernel_rfl
section
variable {prog : Program} {w : World} {A : Around} {E : Value → Shared → Prop} {s : Shared} {K : Type} [DecidableEq K] {knd : KeyKind prog w K}
theorem wpAny_extend_dict {R : Result → Shared → Prop} (hh : A.handled = none) {d : Addr} {kvs : List (K × Value)} {ep : Nat} (hd : (d == sysModules) = false) (hm : s.heap.DictAt knd d kvs ep) (S : Addr) (hSd : S ≠ d) (res : Value) (c₀ : Nat) (hS : s.heap.get? S = some { cls := .type "list", data := .seq #[] c₀ })
    (hR : ∀ h' tk acc' c', (∀ b o, b ≠ S → s.heap.get? b = some o → h'.get? b = some o) → h'.get? S = some { cls := .type "list", dict := none, data := .seq acc' c', slots := #[] } →
      ItemsOf (fun i v => ∃ k x, kvs[i]? = some (k, x) ∧ knd.is k v = true) acc' kvs.length → R (.ok (.ret res)) { s with heap := h', toks := tk }) (hn : kvs.length ≤ sizeLine) :
    wpAny (model prog w) A.in1 (Builtin.List.listExtendWith (.ref S) (.ref d) res)
      (fun fin s' => match fin with | .done f => R (.ok f) s' | .again c' => c'.quiet = true ∧ codeAny (model prog w) A c' R s') (fun e s' => R (.error e) s') s := by
  have hSI : S ≠ s.heap.objs.size := Nat.ne_of_lt (Heap.lt_size hS)
  have hT : s.TypeIs (.ref d) "dict" := hm.dictOf.typeIs
  unfold Builtin.List.listExtendWith
  refine wpAny_bind (wpAny_typeOf (T := "dict") (v := .ref d) hT ?_)
  have h1 : Builtin.List.listSameRef (.ref S) (.ref d) = false := by
    show (S == d) = false
    simpa using hSd
  have h2 : (Value.type "dict" == Value.type "list") = false := by decide
  have h3 : (Value.type "dict" == Value.type "tuple") = false := by decide
  simp only [h1, h2, h3, Bool.or_false, Bool.false_eq_true, if_false]
  refine wpAny_bind (wpAny_pyIter_dict hd hm ?_)
  refine wpAny_bind (wpAny_holding ?_)
  unfold Builtin.List.listLengthHint
  have hT2 : ({ s with heap := s.heap.push { cls := .type "dict_keyiterator", data := .fields #[.ref d, .int 0 0, .int kvs.length 0, .int ep 0] } } : Shared).TypeIs (.ref d) "dict" := (hm.push _).dictOf.typeIs
  refine wpAny_bind (wpAny_specialOf (T := "dict") (v := .ref d) hT2 dict_len ?_)
  wp_delta
  refine wpAny_bind (wpAny_isInstance (T := "dict") (v := .ref d) (b := true) hT2 (by rw [isSubtype_type]; kernel_rfl) ?_)
  show wpAny _ _ (typeOf (Value.ref d) >>= _) _ _ _
  refine wpAny_bind (wpAny_typeOf (T := "dict") (v := .ref d) hT2 ?_)
  refine wpAny_pure ?_
  have hne : d ≠ s.heap.objs.size := Nat.ne_of_lt hm.lt_size
  have hSf : S ∉ [s.heap.objs.size, d] := fun hm' => by
    rcases List.mem_cons.mp hm' with z | z
    · exact hSI z
    · exact hSd (List.mem_singleton.mp z)
  show wpAny _ A.in1 (rule "list.extend.makes-room" >>= fun _ => Builtin.List.listTouch (.ref S) >>= fun _ =>
    again (.builtin "list.extend.loop" ⟨[.ref S, .ref s.heap.objs.size, res], []⟩)) _ _ _
  refine wpAny_bind (wpAny_rule ?_)
  refine wpAny_bind ?_
  show wpAny _ A.in1 (updateSeq S (·.push .none) >>= fun _ => updateSeq S (·.pop)) _ _ _
  have hS₁ := Heap.get?_push_of_some { cls := .type "dict_keyiterator", data := .fields #[.ref d, .int 0 0, .int kvs.length 0, .int ep 0] } hS
  refine wpAny_bind (wpAny_updateSeq hS₁ rfl ?_)
  have hS₂ := Heap.get?_update_self (Obj.mapSeq (·.push Value.none)) hS₁ rfl
  refine wpAny_updateSeq (hz := by seq_fits) hS₂ rfl ?_
  have hS₃ := Heap.get?_update_self (Obj.mapSeq (·.pop)) hS₂ rfl
  have oth : ∀ b o, b ≠ S → (s.heap.push { cls := .type "dict_keyiterator", data := .fields #[.ref d, .int 0 0, .int kvs.length 0, .int ep 0] }).get? b = some o → (((s.heap.push { cls := .type "dict_keyiterator", data := .fields #[.ref d, .int 0 0, .int kvs.length 0, .int ep 0] }).update S (Obj.mapSeq (·.push Value.none))).update S (Obj.mapSeq (·.pop))).get? b = some o :=
    fun b o hb e => (Heap.get?_update_other _ _ (Ne.symm hb)).trans ((Heap.get?_update_other _ _ (Ne.symm hb)).trans e)
  refine wpAny_pure ⟨plainId_quiet F.plain_extend_loop _, codeAny_extend_loopS (Walks.dictKeys (prog := prog) (w := w) (A := A.in1) (knd := knd) hh s.heap.objs.size d hne kvs ep).toS hn _ hSf _ kvs.length 0 _ _ _ rfl (Nat.zero_le _) ⟨⟨_, oth _ _ (Ne.symm hSI) (Heap.get?_push_size _ rfl), rfl, rfl⟩, (hm.push _).at' fun o e => oth d o (Ne.symm hSd) e⟩ hS₃ (ItemsOf.nil _) fun s' acc' c' hm2 hS' hacc => ?_⟩
  rw [Moved.eq_with hm2]
  refine hR s'.heap s'.toks acc' c' (fun b ob hb e => hm2.heap b ob (fun hmem => ?_) (oth b ob hb (Heap.get?_push_of_some _ e))) hS' hacc
  rcases List.mem_cons.mp hmem with e' | hmem
  · exact hb e'
  · exact absurd (Heap.lt_size e) (by rw [List.mem_singleton.mp hmem]; exact Nat.lt_irrefl _)
theorem call_list_dict {Q : Value → Shared → Prop} (hh : A.handled = none) {d : Addr} {kvs : List (K × Value)} {ep : Nat} (hd : (d == sysModules) = false) (hm : s.heap.DictAt knd d kvs ep) (hn : kvs.length ≤ sizeLine)
    (hQ : ∀ h' tk acc' c', (∀ b o, s.heap.get? b = some o → h'.get? b = some o) →
      h'.get? s.heap.objs.size = some { cls := .type "list", dict := none, data := .seq acc' c', slots := #[] } → ItemsOf (fun i v => ∃ k x, kvs[i]? = some (k, x) ∧ knd.is k v = true) acc' kvs.length → Q (.ref s.heap.objs.size) { s with heap := h', toks := tk }) :
    wpAny (model prog w) A (call (.type "list") [.ref d]) Q E s := by
  refine callType_codes (Q₁ := fun obj s₁ => obj = .ref s.heap.objs.size ∧ s₁ = { s with heap := s.heap.push { cls := .type "list", data := .seq #[] } }) F.called_list (F.typeCall_list_1 _) F.entry_list_init
    (code_list_new _ ⟨rfl, rfl⟩) fun obj s₁ h₁ => ?_
  obtain ⟨rfl, rfl⟩ := h₁
  have hS : (s.heap.push { cls := .type "list", data := .seq #[] }).get? s.heap.objs.size = some { cls := .type "list", data := .seq #[] } := Heap.get?_push_size _ rfl
  have hne : s.heap.objs.size ≠ d := Nat.ne_of_gt hm.lt_size
  refine ⟨⟨_, hS, rfl⟩, F.args_list_init_2 _ _, ?_⟩
  show wpAny _ _ (do let old ← Builtin.List.listItems (.ref s.heap.objs.size); Builtin.List.listUpdate (.ref s.heap.objs.size) (fun _ => #[]); letGo old.toList.reverse; Builtin.List.listExtendWith (.ref s.heap.objs.size) (.ref d) .none) _ _ _
  refine wpAny_bind ?_
  unfold Builtin.List.listItems
  refine wpAny_bind (wpAny_seqItems hS rfl (wpAny_pure ?_))
  show wpAny _ _ (updateSeq s.heap.objs.size (fun _ => #[]) >>= fun _ => letGo (#[] : Array Value).toList.reverse >>= fun _ => Builtin.List.listExtendWith (.ref s.heap.objs.size) (.ref d) .none) _ _ _
  refine wpAny_bind (wpAny_updateSeq hS rfl ?_)
  have hS₂ := Heap.get?_update_self (Obj.mapSeq (fun _ => (#[] : Array Value))) hS rfl
  have oth : ∀ b o, b ≠ s.heap.objs.size → (s.heap.push { cls := .type "list", data := .seq #[] }).get? b = some o → ((s.heap.push { cls := .type "list", data := .seq #[] }).update s.heap.objs.size (Obj.mapSeq (fun _ => (#[] : Array Value)))).get? b = some o :=
    fun b o hb e => (Heap.get?_update_other _ _ (Ne.symm hb)).trans e
  refine wpAny_bind (wpAny_letGo ?_)
  refine wpAny_extend_dict (A := A.in1) hh hd (hm.push _ |>.at' fun o e => oth d o hne.symm e) s.heap.objs.size hne .none _ hS₂ (fun h' tk acc' c' hk hS' hacc => ?_) hn
  exact ⟨rfl, hQ h' tk acc' c' (fun b o e => hk b o (Nat.ne_of_lt (Heap.lt_size e)) (oth b o (Nat.ne_of_lt (Heap.lt_size e)) (Heap.get?_push_of_some _ e))) hS' hacc⟩
end
end L2
namespace L2
open PySem PySem.Spec PyProof.Rows
theorem paired_of {α β : Type} {F : α → β → Prop} : ∀ {l₁ : List α} {l₂ : List β}, l₁.length = l₂.length → (∀ (i : Nat) (x : α) (y : β), l₁[i]? = some x → l₂[i]? = some y → F x y) → Paired F l₁ l₂
  | [], [], _, _ => .nil
  | x :: xs, y :: ys, h, f => .cons (f 0 x y rfl rfl) (paired_of (by simpa using h) fun i a b ha hb => f (i + 1) a b (by simpa using ha) (by simpa using hb))
section
variable {X : Cx}
variable {elts : List Expr} {kk : Nat} {tpos : Pos}
theorem call_listD (hc : X.calm = true) : CallR X (.type "list") (fun xs H Q => ∃ (d : Addr) (kvs : List (Key × V)), xs = [.ref d] ∧ Rd H d (.dK kvs) ∧ ∀ l, H l = none → Q (.ref l) (upd H l (.lst (kvs.map fun p => kV p.1)))) := by
  intro pins s σ H xs us Q I r h
  obtain ⟨d, kvs, rfl, hz, q⟩ := h
  obtain ⟨u, rfl, ru⟩ := vals1 r
  cases ru
  obtain ⟨hsz, hsys, vs, rel, dd⟩ := dk_rd I.hok hz
  obtain ⟨ep, da⟩ := dd.dictAt
  have hl : kvs.length = vs.length := rel.length
  refine call_list_dict (I.ok.hd hc) hsys da (by omega) fun h' tk acc' c' kp e it => ?_
  refine ⟨.ref s.heap.objs.size, _, I.laid (t' := tk) kp (Nat.le_refl _) (show ObjOk X.prog X.w _ h' _ (.lst (kvs.map fun p => kV p.1)) from ⟨by rw [List.length_map]; exact hsz, acc'.toList, c', ?_, by rw [e]⟩), rfl, q _ I.fresh⟩
  obtain ⟨sz, hit⟩ := it
  have hA : acc'.toList.length = acc'.size := by simp
  have hB : (kvs.map fun p => kV p.1).length = acc'.toList.length := by rw [List.length_map]; omega
  refine paired_of hB fun i x y hx hy => ?_
  rw [List.getElem?_map] at hx
  obtain ⟨p, hp, rfl⟩ := Option.map_eq_some_iff.mp hx
  obtain ⟨k, v, hk, hkk⟩ := hit i y (by simpa using hy)
  obtain ⟨q', hq', ek, _⟩ := kv_get rel hp
  rw [hk] at hq'
  cases hq'
  rw [ek]
  exact kV_rel hkk
end
end L2
namespace L2
open PySem PySem.Spec PyProof.Rows
def setAll : St → List Nat → List V → St
  | σ, k :: ks, v :: vs => setAll (σ.set k (some v)) ks vs
  | σ, _, _ => σ
theorem setAll_set {k : Nat} {v : Option V} : ∀ {ks : List Nat} {vs : List V} {σ : St}, k ∉ ks → (setAll σ ks vs).set k v = setAll (σ.set k v) ks vs
  | [], _, _, _ => by unfold setAll; rfl
  | _ :: _, [], _, _ => by unfold setAll; rfl
  | j :: ks, w :: vs, σ, h => by
    have hj : k ≠ j := fun e => h (by rw [e]; exact List.mem_cons_self)
    show (setAll (σ.set j (some w)) ks vs).set k v = setAll ((σ.set k v).set j (some w)) ks vs
    rw [setAll_set (fun m => h (List.mem_cons_of_mem _ m)), List.set_comm _ _ hj]
theorem setAll_again : ∀ {ks : List Nat} {vs ws : List V} {σ : St}, ks.Nodup → vs.length = ks.length → ws.length = ks.length → setAll (setAll σ ks vs) ks ws = setAll σ ks ws
  | [], [], [], _, _, _, _ => rfl
  | k :: ks, v :: vs, w :: ws, σ, nd, h1, h2 => by
    have nk := (List.nodup_cons.mp nd).1
    show setAll ((setAll (σ.set k (some v)) ks vs).set k (some w)) ks ws = setAll (σ.set k (some w)) ks ws
    rw [setAll_set nk, List.set_set, setAll_again (List.nodup_cons.mp nd).2 (by simpa using h1) (by simpa using h2)]
def gNs : List Nat → TGs
  | [] => gNil
  | k :: ks => gCons (gName k) (gNs ks)
theorem gNs_of {Q : St → Hp → Prop} {H : Hp} : ∀ {ks : List Nat} {vs : List V} {σ : St}, vs.length = ks.length → Q (setAll σ ks vs) H → gNs ks vs σ H Q
  | [], [], _, _, q => ⟨rfl, q⟩
  | k :: ks, v :: vs, σ, h, q => ⟨v, vs, rfl, gNs_of (by simpa using h) q⟩
theorem comp_T {K : PySem.W.Frag} {J : It} {n : Nat} (ks : List Nat) {te : TE} {σ2 : St} {H : Hp} {acc : Addr} {Q : VK} (Pv : Nat → List V → Hp → Prop) (nd : ks.Nodup) (hn : n ≤ 100000) (h0 : Pv 0 [] (upd H acc (.lst [])))
    (hgo : ∀ i out H1, i < n → H1 acc = some (.lst out) → Pv i out H1 → J.go i H1) (hst : ∀ out H1, H1 acc = some (.lst out) → Pv n out H1 → J.stop n H1)
    (hs : ∀ (i : Nat) (x : V) (out : List V) (H1 H2 : Hp), i < n → out.length = i → H1 acc = some (.lst out) → Pv i out H1 → J.yld i H1 x H2 →
      ∃ t vs, x = .ref t ∧ SqT K H2 t vs ∧ vs.length = ks.length ∧ te (setAll σ2 ks vs) H2 fun v H4 => H4 acc = some (.lst out) ∧ Pv (i + 1) (out ++ [v]) (upd H4 acc (.lst (out ++ [v]))))
    (hd : ∀ (out : List V) (H1 : Hp), out.length = n → H1 acc = some (.lst out) → Pv n out H1 → Q (.ref acc) H1) :
    CompG J (gTup K ks.length (gNs ks)) te acc σ2 H Q := by
  refine ⟨fun i m σ' H' => m = n - i ∧ i ≤ n ∧ (∀ ws, ws.length = ks.length → setAll σ' ks ws = setAll σ2 ks ws) ∧ ∃ out, out.length = i ∧ H' acc = some (.lst out) ∧ Pv i out H', ⟨n, by simp, Nat.zero_le _, fun _ _ => rfl, [], rfl, upd_same, h0⟩, ?_⟩
  rintro i m σ' H' ⟨rfl, hi, hσ, out, ho, ha, p⟩
  by_cases hlt : i < n
  · refine .inr ⟨hgo i out H' hlt ha p, fun σ3 => ∀ ws, ws.length = ks.length → setAll σ3 ks ws = setAll σ2 ks ws, fun v H4 => H4 acc = some (.lst out) ∧ Pv (i + 1) (out ++ [v]) (upd H4 acc (.lst (out ++ [v]))), fun σ3 v H4 hS ⟨a, b⟩ => ?_, fun x H1 y => ?_⟩
    · refine ⟨out, a, ?_, n - (i + 1), by omega, rfl, hlt, hS, out ++ [v], by rw [List.length_append, ho]; rfl, upd_same, b⟩
      have : sizeLine = 16777216 := sizeLine_eq
      omega
    · obtain ⟨t, vs, rfl, sq, hl, q⟩ := hs i x out H' H1 hlt ho ha p y
      refine ⟨t, vs, rfl, sq, hl, gNs_of hl ⟨fun ws hw => ?_, ?_⟩⟩
      · rw [setAll_again nd hl hw]; exact hσ ws hw
      · rw [hσ vs hl]; exact q
  · have e : i = n := by omega
    subst e
    exact .inl ⟨hst out H' ha p, hd out H' ho ha p⟩
theorem comp_1 {J : It} {n : Nat} (k : Nat) {te : TE} {σ2 : St} {H : Hp} {acc : Addr} {Q : VK} (Pv : Nat → List V → Hp → Prop) (hn : n ≤ 100000) (h0 : Pv 0 [] (upd H acc (.lst [])))
    (hgo : ∀ i out H1, i < n → H1 acc = some (.lst out) → Pv i out H1 → J.go i H1) (hst : ∀ out H1, H1 acc = some (.lst out) → Pv n out H1 → J.stop n H1)
    (hs : ∀ (i : Nat) (x : V) (out : List V) (H1 H2 : Hp), i < n → out.length = i → H1 acc = some (.lst out) → Pv i out H1 → J.yld i H1 x H2 →
      te (σ2.set k (some x)) H2 fun v H4 => H4 acc = some (.lst out) ∧ Pv (i + 1) (out ++ [v]) (upd H4 acc (.lst (out ++ [v]))))
    (hd : ∀ (out : List V) (H1 : Hp), out.length = n → H1 acc = some (.lst out) → Pv n out H1 → Q (.ref acc) H1) :
    CompG J (gName k) te acc σ2 H Q := by
  refine ⟨fun i m σ' H' => m = n - i ∧ i ≤ n ∧ (∀ w : Option V, σ'.set k w = σ2.set k w) ∧ ∃ out, out.length = i ∧ H' acc = some (.lst out) ∧ Pv i out H', ⟨n, by simp, Nat.zero_le _, fun _ => rfl, [], rfl, upd_same, h0⟩, ?_⟩
  rintro i m σ' H' ⟨rfl, hi, hσ, out, ho, ha, p⟩
  by_cases hlt : i < n
  · refine .inr ⟨hgo i out H' hlt ha p, fun σ3 => ∀ w : Option V, σ3.set k w = σ2.set k w, fun v H4 => H4 acc = some (.lst out) ∧ Pv (i + 1) (out ++ [v]) (upd H4 acc (.lst (out ++ [v]))), fun σ3 v H4 hS ⟨a, b⟩ => ?_, fun x H1 y => ?_⟩
    · refine ⟨out, a, ?_, n - (i + 1), by omega, rfl, hlt, hS, out ++ [v], by rw [List.length_append, ho]; rfl, upd_same, b⟩
      have : sizeLine = 16777216 := sizeLine_eq
      omega
    · refine ⟨fun w => by rw [List.set_set]; exact hσ w, ?_⟩
      rw [hσ]
      exact hs i x out H' H1 hlt ho ha p y
  · have e : i = n := by omega
    subst e
    exact .inl ⟨hst out H' ha p, hd out H' ho ha p⟩
end L2
namespace L2
open PySem PySem.Spec PyProof.Rows
structure Mn (P : Program) (w : World) (K : PySem.W.Frag) (mg : Str → Option Value) (base : Heap) (k : Nat) (C : Addr) (m : Str) (ps : List Str) (sp : Sp) : Prop where
  ex : ∃ f fd, FnOk P w K mg base CX0 k f fd ps sp ∧ Binds K fd ps [] ∧ Meth K C m f ∧ Cls K C
structure Cn (P : Program) (w : World) (K : PySem.W.Frag) (mg : Str → Option Value) (base : Heap) (k : Nat) (x : Str) (C : Addr) (ps : List Str) (sp : Sp) : Prop where
  ex : ∃ f fd, FnOk P w K mg base CX0 k f fd ps sp ∧ Binds K fd ps [] ∧ Mk K C f ∧ mg x = some (.ref C)
section
variable {X : Cx}
theorem pe_mth0 {pl : Sem Bool} {j k : Nat} {C : Addr} {m : Str} {ps : List Str} {sp : Sp} {o : Expr} {ta : TE} {apos pos : Pos} (D : Mn X.prog X.w X.K X.mg X.base j C m ps sp) (hr : Room k X.A) (ho : PE X o ta) (hj : j ≤ k := by decide)
    (ht : eval (.Call (.Attribute o m apos) [] [] pos) X.env = (do
      let ov ← eval o X.env
      standAt apos.atName
      let (f, first) ← holding [ov] (getMethod ov m pl)
      callWith pos f first (backTo pos (starEach [] X.env)) (backToKw pos (keywordEach [] X.env))) := by rfl) :
    PE X (.Call (.Attribute o m apos) [] [] pos) (tMeth C m sp [] E0 ta tNil) := by
  obtain ⟨f, fd, F, b, hm, c⟩ := D.ex
  exact pe_meth0 (pl := pl) ho c hm F (hr.mono hj) b .nil (fun _ _ _ _ _ _ _ h => h.elim) ht
theorem pe_mk0 {j k : Nat} {x : Str} {C : Addr} {ps : List Str} {sp : Sp} {p pos : Pos} (D : Cn X.prog X.w X.K X.mg X.base j x C ps sp) (hr : Room k X.A) (hj : j + 1 ≤ k := by decide) (hg : Gl X x := by rfl)
    (hdb : (x == ("__debug__" : Str)) = false := by decide) : PE X (.Call (.Name x p) [] [] pos) (tMake C sp [] E0 tNil) := by
  obtain ⟨f, fd, F, b, M, m⟩ := D.ex
  exact pe_make0 M F (hr.mono hj) hg m b .nil (fun _ _ _ _ _ _ _ h => h.elim) hdb
theorem pe_fldK (K : PySem.W.Frag) {e : Expr} {f : Str} {ta : TE} {pos : Pos} (he : PE X e ta) (hb : attributeBase e f X.env (eval e X.env) = eval e X.env := by rfl) (hK : X.K = K := by rfl) : PE X (.Attribute e f pos) (tFld K ta f) := hK ▸ pe_fld he hb
theorem ps_fldK (K : PySem.W.Frag) {o value : Expr} {f : Str} {ta tv : TE} {pos pos' : Pos} (ha : PE X o ta) (hv : PE X value tv) (hs : swapsWith value (some (.Attribute o f pos')) pos.line X.env = pure false := by rfl) (hK : X.K = K := by rfl) : PS X (.Assign [.Attribute o f pos'] value pos) (sFld K ta tv f) := hK ▸ ps_fld ha hv hs
end
structure AtM (K : PySem.W.Frag) (C : Addr) (m qual : Str) (st : Stmt) (f : Addr) (fd : FuncData) : Prop where
  fn : Fun K m qual st f fd
  me : Meth K C m f
  cl : Cls K C
theorem AtM.ok {P : Program} {w : World} {K : PySem.W.Frag} {mg : Str → Option Value} {base : Heap} {C : Addr} {m qual : Str} {st : Stmt} {f : Addr} {fd : FuncData} {N ps : List Str} {k : Nat} {sp : Sp} (F : AtM K C m qual st f fd) (S : FnScope N ps (defScope st)) (len : ∀ vs H Q E, sp vs H Q E → vs.length = ps.length)
    (hbody : ∀ (cdv : Value) (A : Around) (outer : List Env) (s : Shared) (H : Hp) (vs : List V) (Q : VK) (E : XK), Room k (A.deeper (envOfC qual (defScope st) s.heap.objs.size f cdv)) → sp vs H Q E →
      ∃ t, PSs (cxOf CX0 P w K mg base N qual (defScope st) f cdv A outer s H E).nox (defBody st) t ∧ t { nx := fun _ H' => Q .non H', rt := Q } (start N vs) H)
    (h : ∀ (kV doc pm : Value) (an : Option Addr) (cdv ct : Value) (us : List Value), us.length = ps.length → bindArgs (PySem.W.fnOf m qual (defArgs st) (defBody st) (defScope st) .none kV doc pm an cdv ct) ⟨us, []⟩ = pure (ps.zip us)) :
    Mn P w K mg base (k + 1) C m ps sp := ⟨f, fd, F.fn.ok S len hbody, F.fn.binds h, F.me, F.cl⟩
structure AtC (K : PySem.W.Frag) (mg : Str → Option Value) (x : Str) (C : Addr) (qual : Str) (st : Stmt) (f : Addr) (fd : FuncData) : Prop where
  fn : Fun K "__init__" qual st f fd
  mks : Mk K C f
  name : mg x = some (.ref C)
theorem AtC.ok {P : Program} {w : World} {K : PySem.W.Frag} {mg : Str → Option Value} {base : Heap} {C : Addr} {x qual : Str} {st : Stmt} {f : Addr} {fd : FuncData} {N ps : List Str} {k : Nat} {sp : Sp} (F : AtC K mg x C qual st f fd) (S : FnScope N ps (defScope st)) (len : ∀ vs H Q E, sp vs H Q E → vs.length = ps.length)
    (hbody : ∀ (cdv : Value) (A : Around) (outer : List Env) (s : Shared) (H : Hp) (vs : List V) (Q : VK) (E : XK), Room k (A.deeper (envOfC qual (defScope st) s.heap.objs.size f cdv)) → sp vs H Q E →
      ∃ t, PSs (cxOf CX0 P w K mg base N qual (defScope st) f cdv A outer s H E).nox (defBody st) t ∧ t { nx := fun _ H' => Q .non H', rt := Q } (start N vs) H)
    (h : ∀ (kV doc pm : Value) (an : Option Addr) (cdv ct : Value) (us : List Value), us.length = ps.length → bindArgs (PySem.W.fnOf "__init__" qual (defArgs st) (defBody st) (defScope st) .none kV doc pm an cdv ct) ⟨us, []⟩ = pure (ps.zip us)) :
    Cn P w K mg base (k + 1) x C ps sp := ⟨f, fd, F.fn.ok S len hbody, F.fn.binds h, F.mks, F.name⟩
end L2
namespace L2
open PySem PySem.Spec PyProof.Rows
abbrev Col := Nat × Nat × Str
abbrev Rho := Addr → Option Col
abbrev col (n t : Nat) : Option Col := some (n, t, (⟨#[]⟩ : Str))
def isTup : HO → Bool
  | .tup _ => true
  | _ => false
def Gh (ρ : Rho) (H : Hp) : Prop := ∀ b c, ρ b = some c → ∃ o, H b = some o ∧ isTup o = false
def Fr (n : Nat) (ρ : Rho) (H : Hp) (ρ' : Rho) (H' : Hp) : Prop := ∀ b o, H b = some o → (∀ t x, ρ b ≠ some (n, t, x)) → H' b = some o ∧ ρ' b = ρ b
def updC (ρ : Rho) (a : Addr) (c : Col) : Rho := fun b => if b = a then some c else ρ b
theorem updC_same {ρ : Rho} {a : Addr} {c : Col} : updC ρ a c a = some c := if_pos rfl
theorem updC_ne {ρ : Rho} {a b : Addr} {c : Col} (h : b ≠ a) : updC ρ a c b = ρ b := if_neg h
def out (ρ : Rho) (H : Hp) : Hp := fun b => if ρ b = none then H b else none
theorem out_le {ρ : Rho} {H : Hp} : Same (out ρ H) H := fun b o h => by
  unfold out at h
  split at h
  · exact h
  · cases h
theorem out_of {ρ : Rho} {H : Hp} {b : Addr} {o : HO} (h : H b = some o) (c : ρ b = none) : out ρ H b = some o := by
  unfold out; rw [if_pos c]; exact h
theorem out_some {ρ : Rho} {H : Hp} {b : Addr} {o : HO} (h : out ρ H b = some o) : H b = some o ∧ ρ b = none := by
  unfold out at h
  split at h
  · next c => exact ⟨h, c⟩
  · cases h
theorem Gh.none {ρ : Rho} {H : Hp} (g : Gh ρ H) {b : Addr} (h : H b = Option.none) : ρ b = Option.none := by
  cases e : ρ b with
  | none => rfl
  | some c => obtain ⟨o, q, _⟩ := g b c e; rw [h] at q; cases q
theorem Gh.tup {ρ : Rho} {H : Hp} (g : Gh ρ H) {b : Addr} {xs : List V} (h : H b = some (.tup xs)) : ρ b = Option.none := by
  cases e : ρ b with
  | none => rfl
  | some c => obtain ⟨o, q, t⟩ := g b c e; rw [h] at q; cases q; cases t
theorem Gh.same {ρ : Rho} {H H' : Hp} (g : Gh ρ H) (s : Same H H') : Gh ρ H' := fun b c e => let ⟨o, h, t⟩ := g b c e; ⟨o, s b o h, t⟩
theorem Gh.wr {ρ : Rho} {H : Hp} (g : Gh ρ H) {a : Addr} {o : HO} (t : isTup o = false) : Gh ρ (upd H a o) := fun b c e => by
  by_cases h : b = a
  · rw [h, upd_same]; exact ⟨o, rfl, t⟩
  · rw [upd_ne h]; exact g b c e
theorem Gh.alloc {ρ : Rho} {H : Hp} (g : Gh ρ H) {a : Addr} {o : HO} (h : H a = Option.none) : Gh ρ (upd H a o) := g.same (same_new h o)
theorem Gh.color {ρ : Rho} {H : Hp} (g : Gh ρ H) {a : Addr} {c : Col} {o : HO} (h : H a = some o) (t : isTup o = false) : Gh (updC ρ a c) H := fun b d e => by
  by_cases z : b = a
  · rw [z]; exact ⟨o, h, t⟩
  · rw [updC_ne z] at e; exact g b d e
theorem Fr.trans {n : Nat} {ρ ρ1 ρ2 : Rho} {H H1 H2 : Hp} (a : Fr n ρ H ρ1 H1) (b : Fr n ρ1 H1 ρ2 H2) : Fr n ρ H ρ2 H2 := fun c o h k => by
  obtain ⟨h1, e1⟩ := a c o h k
  obtain ⟨h2, e2⟩ := b c o h1 (by rw [e1]; exact k)
  exact ⟨h2, e2.trans e1⟩
theorem Fr.of_same {n : Nat} {ρ : Rho} {H H' : Hp} (s : Same H H') : Fr n ρ H ρ H' := fun b o h _ => ⟨s b o h, rfl⟩
theorem Fr.write {n : Nat} {ρ : Rho} {H : Hp} {a : Addr} {o : HO} {t : Nat} {x : Str} (c : ρ a = some (n, t, x)) : Fr n ρ H ρ (upd H a o) := fun b u h k => by
  have : b ≠ a := fun e => k t x (by rw [e]; exact c)
  rw [upd_ne this]; exact ⟨h, rfl⟩
theorem Fr.out {n : Nat} {ρ ρ' : Rho} {H H' : Hp} (f : Fr n ρ H ρ' H') : Same (out ρ H) (out ρ' H') := fun b o h => by
  obtain ⟨h1, c⟩ := out_some h
  obtain ⟨h2, e⟩ := f b o h1 (fun t x => by rw [c]; intro z; cases z)
  exact out_of h2 (e.trans c)
theorem out_same {ρ : Rho} {H H' : Hp} (s : Same H H') : Same (out ρ H) (out ρ H') := fun b o h => by
  obtain ⟨h1, c⟩ := out_some h
  exact out_of (s b o h1) c
structure Pt where
  nm : Str
  ow : Str
  wo : Int
  we : Int
  sc : Int
  row : List Int
structure Ash where
  nm : Str
  ow : Str
  wo : Int
  sh : List (Str × Rat)
structure HS where
  own : List Str
  pts : List Pt
  ash : List Ash
  nms : List Str
  stp : List Int
  prod : Int
  kn : Nat
  com : List Int
  pur : List Int
structure HA where
  a : Addr
  dx : Addr
  pl : Addr
  ab : Addr
  as : Addr
  nm : Addr
  bt : Addr
  db : Addr
  cm : Addr
  pu : Addr
  sp : Addr
  kn : Addr
  qs : List (Addr × Addr × Addr)
structure TC where
  hold : Addr
  part : Addr
  bot : Addr
def plK : Nat → List Str → List (Key × V)
  | _, [] => []
  | i, o :: r => (Sum.inr o, .int i) :: plK (i + 1) r
def abK (ps : List Pt) (qs : List (Addr × Addr × Addr)) : List (Key × V) := List.zipWith (fun p q => ((Sum.inr p.nm : Key), V.ref q.1)) ps qs
def nmK (l : List Str) : List (Key × V) := l.map fun x => (Sum.inr x, .bl true)
def fldH (A : HA) : List (Str × V) := [("places", .ref A.pl), ("aboard", .ref A.ab), ("ashore", .ref A.as), ("names", .ref A.nm), ("bottom", .ref A.bt), ("common", .ref A.cm), ("purses", .ref A.pu)]
def fldP (p : Pt) (r : Addr) : List (Str × V) := [("name", .str p.nm), ("owner", .str p.ow), ("worth", .int p.wo), ("weight", .int p.we), ("scale", .int p.sc), ("row", .ref r)]
def fldB (sp : Addr) (prod : Int) (kn : Addr) : List (Str × V) := [("steps", .ref sp), ("product", .int prod), ("known", .ref kn)]
def KnAt (H : Hp) (kvs : List (Key × V)) (prod : Int) : Prop := ∀ p ∈ kvs, ∃ (t : Int) (r : Addr), p = (Sum.inl t, V.ref r) ∧ H r = some (ratO (Jm.fr t prod))
inductive ShAt (H : Hp) : List V → List (Str × Rat) → Prop
  | nil : ShAt H [] []
  | cons {r f : Addr} {x : Str} {q : Rat} {vs : List V} {l : List (Str × Rat)} : H r = some (.tup [.str x, .ref f]) → H f = some (ratO q) → ShAt H vs l → ShAt H (.ref r :: vs) ((x, q) :: l)
inductive AshAt (n : Nat) (ρ : Rho) (H : Hp) : List V → List Ash → Prop
  | nil : AshAt n ρ H [] []
  | cons {r l : Addr} {x : Ash} {ss : List V} {vs : List V} {as : List Ash} : H r = some (.tup [.str x.nm, .str x.ow, .int x.wo, .ref l]) → H l = some (.lst ss) → ρ l = some (n, 30, x.nm) → ShAt H ss x.sh → AshAt n ρ H vs as → AshAt n ρ H (.ref r :: vs) (x :: as)
structure HoldAt (T : TC) (n : Nat) (ρ : Rho) (A : HA) (H : Hp) (st : HS) : Prop where
  oa : H A.a = some (.ins T.hold A.dx (fldH A))
  ca : ρ A.a = col n 0
  opl : H A.pl = some (.dK (plK 0 st.own))
  cpl : ρ A.pl = col n 1
  oab : H A.ab = some (.dK (abK st.pts A.qs))
  cab : ρ A.ab = col n 2
  oas : ∃ vs, H A.as = some (.lst vs) ∧ AshAt n ρ H vs st.ash
  cas : ρ A.as = col n 3
  onm : H A.nm = some (.dK (nmK st.nms))
  cnm : ρ A.nm = col n 4
  obt : H A.bt = some (.ins T.bot A.db (fldB A.sp st.prod A.kn))
  cbt : ρ A.bt = col n 5
  ocm : H A.cm = some (.lst (st.com.map V.int))
  ccm : ρ A.cm = col n 6
  opu : H A.pu = some (.lst (st.pur.map V.int))
  cpu : ρ A.pu = col n 7
  osp : H A.sp = some (.lst (st.stp.map V.int))
  csp : ρ A.sp = col n 8
  okn : ∃ kvs, H A.kn = some (.dK kvs) ∧ KnAt H kvs st.prod ∧ kvs.length ≤ st.kn ∧ (kvs.map (·.1)).Nodup
  ckn : ρ A.kn = col n 9
  ql : A.qs.length = st.pts.length
  opt : ∀ (i : Nat) (p : Pt) (q : Addr × Addr × Addr), st.pts[i]? = some p → A.qs[i]? = some q → H q.1 = some (.ins T.part q.2.1 (fldP p q.2.2)) ∧ H q.2.2 = some (.lst (p.row.map V.int)) ∧ ρ q.1 = some (n, 20, p.nm) ∧ ρ q.2.2 = some (n, 21, p.nm)
theorem col_ne {ρ : Rho} {a b : Addr} {c d : Col} (ha : ρ a = some c) (hb : ρ b = some d) (h : c ≠ d) : a ≠ b := fun e => by
  rw [e, hb] at ha; cases ha; exact h rfl
theorem col_ne_none {ρ : Rho} {a b : Addr} {c : Col} (ha : ρ a = none) (hb : ρ b = some c) : a ≠ b := fun e => by rw [e, hb] at ha; cases ha
theorem ShAt.mono {H H' : Hp} {vs : List V} {l : List (Str × Rat)} (h : ShAt H vs l) (g : ∀ b xs, H b = some (.tup xs) → H' b = some (.tup xs)) : ShAt H' vs l := by
  induction h with
  | nil => exact .nil
  | cons a b _ ih => exact .cons (g _ _ a) (g _ _ b) ih
def Kp (n : Nat) (ρ ρ' : Rho) (H H' : Hp) (ts : Nat → Bool) : Prop := (∀ b xs, H b = some (.tup xs) → H' b = some (.tup xs)) ∧ ∀ b t x o, ts t = true → ρ b = some (n, t, x) → H b = some o → H' b = some o ∧ ρ' b = some (n, t, x)
theorem AshAt.keep {n : Nat} {ρ ρ' : Rho} {H H' : Hp} {vs : List V} {l : List Ash} (h : AshAt n ρ H vs l) {ts : Nat → Bool} (k : Kp n ρ ρ' H H' ts) (e : ts 30 = true) : AshAt n ρ' H' vs l := by
  induction h with
  | nil => exact .nil
  | cons a b c d _ ih => exact .cons (k.1 _ _ a) (k.2 _ _ _ _ e c b).1 (k.2 _ _ _ _ e c b).2 (d.mono k.1) ih
theorem kp_write {n t : Nat} {x : Str} {ρ : Rho} {H : Hp} {a : Addr} {o : HO} (g : Gh ρ H) (c : ρ a = some (n, t, x)) : Kp n ρ ρ H (upd H a o) (fun u => decide (u ≠ t)) := by
  refine ⟨fun b xs h => ?_, fun b u y w hu hc h => ⟨?_, hc⟩⟩
  · rw [upd_ne (col_ne_none (g.tup h) c)]; exact h
  · rw [upd_ne (col_ne hc c (fun e => by cases e; exact absurd hu (by simp)))]; exact h
theorem kp_same {n : Nat} {ρ : Rho} {H H' : Hp} {ts : Nat → Bool} (s : Same H H') : Kp n ρ ρ H H' ts := ⟨fun b xs h => s _ _ h, fun b u y w _ hc h => ⟨s _ _ h, hc⟩⟩
theorem HoldAt.same {T : TC} {n : Nat} {ρ ρ' : Rho} {A : HA} {H H' : Hp} {st : HS} (h : HoldAt T n ρ A H st) (k : Kp n ρ ρ' H H' fun _ => true) : HoldAt T n ρ' A H' st := by
  have z := fun {b : Addr} {t : Nat} {x : Str} {o : HO} (c : ρ b = some (n, t, x)) (e : H b = some o) => k.2 b t x o rfl c e
  obtain ⟨vs, h1, h2⟩ := h.oas
  obtain ⟨kvs, k1, k2, k3⟩ := h.okn
  exact ⟨(z h.ca h.oa).1, (z h.ca h.oa).2, (z h.cpl h.opl).1, (z h.cpl h.opl).2, (z h.cab h.oab).1, (z h.cab h.oab).2, ⟨vs, (z h.cas h1).1, h2.keep k rfl⟩, (z h.cas h1).2, (z h.cnm h.onm).1, (z h.cnm h.onm).2, (z h.cbt h.obt).1, (z h.cbt h.obt).2,
    (z h.ccm h.ocm).1, (z h.ccm h.ocm).2, (z h.cpu h.opu).1, (z h.cpu h.opu).2, (z h.csp h.osp).1, (z h.csp h.osp).2, ⟨kvs, (z h.ckn k1).1, fun p hp => let ⟨t, r, e, q⟩ := k2 p hp; ⟨t, r, e, k.1 _ _ q⟩, k3⟩, (z h.ckn k1).2, h.ql,
    fun i p q e1 e2 => let ⟨a, b, c, d⟩ := h.opt i p q e1 e2; ⟨(z c a).1, (z d b).1, (z c a).2, (z d b).2⟩⟩
theorem HoldAt.mono {T : TC} {n : Nat} {ρ : Rho} {A : HA} {H H' : Hp} {st : HS} (h : HoldAt T n ρ A H st) (s : Same H H') : HoldAt T n ρ A H' st := h.same (kp_same s)
theorem abK_set {p0 p1 : Pt} : ∀ {ps : List Pt} {qs : List (Addr × Addr × Addr)} {i : Nat}, ps[i]? = some p0 → p1.nm = p0.nm → abK (ps.set i p1) qs = abK ps qs
  | [], _, _, h, _ => by simp at h
  | _ :: _, [], _, _, _ => by simp [abK]
  | p :: ps, q :: qs, 0, h, e => by
    have : p = p0 := by simpa using h
    simp [abK, e, this]
  | p :: ps, q :: qs, i + 1, h, e => by
    have := abK_set (qs := qs) (by simpa using h : ps[i]? = some p0) e
    simp only [abK, List.set_cons_succ, List.zipWith_cons_cons] at this ⊢
    rw [this]
theorem nm_inj {ps : List Pt} (nd : (ps.map (·.nm)).Nodup) {i j : Nat} {p q : Pt} (h1 : ps[i]? = some p) (h2 : ps[j]? = some q) (e : p.nm = q.nm) : i = j := by
  have a : (ps.map (·.nm))[i]? = some p.nm := by rw [List.getElem?_map, h1]; rfl
  have b : (ps.map (·.nm))[j]? = some p.nm := by rw [List.getElem?_map, h2, e]; rfl
  exact nodup_ix nd a b
theorem opt_set2 {T : TC} {n : Nat} {ρ : Rho} {A : HA} {H H' : Hp} {st : HS} (h : HoldAt T n ρ A H st) (nd : (st.pts.map (·.nm)).Nodup) {i : Nat} {p0 : Pt} {l : List Int} {q0 : Addr × Addr × Addr} (ep : st.pts[i]? = some p0) (eq : A.qs[i]? = some q0)
    (hw : H' q0.2.2 = some (.lst (l.map V.int))) (hs : ∀ {b : Addr} {t : Nat} {x : Str} {o : HO}, ρ b = some (n, t, x) → t ≠ 21 ∨ x ≠ p0.nm → H b = some o → H' b = some o) :
    ∀ (j : Nat) (p : Pt) (q : Addr × Addr × Addr), (st.pts.set i { p0 with row := l })[j]? = some p → A.qs[j]? = some q → H' q.1 = some (.ins T.part q.2.1 (fldP p q.2.2)) ∧ H' q.2.2 = some (.lst (p.row.map V.int)) ∧ ρ q.1 = some (n, 20, p.nm) ∧ ρ q.2.2 = some (n, 21, p.nm) := by
  intro j p q ej eq'
  by_cases hj : i = j
  · subst hj
    rw [eq] at eq'; cases eq'
    rw [List.getElem?_set_self (List.getElem?_eq_some_iff.mp ep).1] at ej
    cases ej
    obtain ⟨a, b, c, d⟩ := h.opt i p0 q0 ep eq
    exact ⟨hs c (.inl (by decide)) a, hw, c, d⟩
  · rw [List.getElem?_set_ne hj] at ej
    obtain ⟨a, b, c, d⟩ := h.opt j p q ej eq'
    exact ⟨hs c (.inl (by decide)) a, hs d (.inr fun e => hj (nm_inj nd ep ej e.symm)) b, c, d⟩
theorem kp_write2 {n t : Nat} {x : Str} {ρ : Rho} {H : Hp} {a : Addr} {o : HO} (c : ρ a = some (n, t, x)) : ∀ {b : Addr} {u : Nat} {y : Str} {w : HO}, ρ b = some (n, u, y) → u ≠ t ∨ y ≠ x → H b = some w → upd H a o b = some w := fun {b u y w} hc hu h => by
  rw [upd_ne (col_ne hc c (fun e => by cases e; rcases hu with z | z <;> exact z rfl))]; exact h
theorem HoldAt.set_pl {T : TC} {n : Nat} {ρ : Rho} {A : HA} {H : Hp} {st : HS} (h : HoldAt T n ρ A H st) (g : Gh ρ H) (l : List Str) : HoldAt T n ρ A (upd H A.pl (.dK (plK 0 l))) { st with own := l } := by
  have k := kp_write (o := .dK (plK 0 l)) g h.cpl
  have z := fun {b : Addr} {t : Nat} {x : Str} {o : HO} (u : decide (t ≠ 1) = true) (c : ρ b = some (n, t, x)) (e : H b = some o) => (k.2 b t x o u c e).1
  obtain ⟨vs, h1, h2⟩ := h.oas
  obtain ⟨kvs, k1, k2, k3⟩ := h.okn
  exact ⟨z (by decide) h.ca h.oa, h.ca, upd_same, h.cpl, z (by decide) h.cab h.oab, h.cab, ⟨vs, z (by decide) h.cas h1, h2.keep k (by decide)⟩, h.cas, z (by decide) h.cnm h.onm, h.cnm, z (by decide) h.cbt h.obt, h.cbt, z (by decide) h.ccm h.ocm, h.ccm, z (by decide) h.cpu h.opu, h.cpu, z (by decide) h.csp h.osp, h.csp, ⟨kvs, z (by decide) h.ckn k1, fun p hp => let ⟨t, r, e, q⟩ := k2 p hp; ⟨t, r, e, k.1 _ _ q⟩, k3⟩, h.ckn, h.ql, fun i p q e1 e2 => let ⟨a, b, c, d⟩ := h.opt i p q e1 e2; ⟨z (by decide) c a, z (by decide) d b, c, d⟩⟩
theorem HoldAt.set_cm {T : TC} {n : Nat} {ρ : Rho} {A : HA} {H : Hp} {st : HS} (h : HoldAt T n ρ A H st) (g : Gh ρ H) (l : List Int) : HoldAt T n ρ A (upd H A.cm (.lst (l.map V.int))) { st with com := l } := by
  have k := kp_write (o := .lst (l.map V.int)) g h.ccm
  have z := fun {b : Addr} {t : Nat} {x : Str} {o : HO} (u : decide (t ≠ 6) = true) (c : ρ b = some (n, t, x)) (e : H b = some o) => (k.2 b t x o u c e).1
  obtain ⟨vs, h1, h2⟩ := h.oas
  obtain ⟨kvs, k1, k2, k3⟩ := h.okn
  exact ⟨z (by decide) h.ca h.oa, h.ca, z (by decide) h.cpl h.opl, h.cpl, z (by decide) h.cab h.oab, h.cab, ⟨vs, z (by decide) h.cas h1, h2.keep k (by decide)⟩, h.cas, z (by decide) h.cnm h.onm, h.cnm, z (by decide) h.cbt h.obt, h.cbt, upd_same, h.ccm, z (by decide) h.cpu h.opu, h.cpu, z (by decide) h.csp h.osp, h.csp, ⟨kvs, z (by decide) h.ckn k1, fun p hp => let ⟨t, r, e, q⟩ := k2 p hp; ⟨t, r, e, k.1 _ _ q⟩, k3⟩, h.ckn, h.ql, fun i p q e1 e2 => let ⟨a, b, c, d⟩ := h.opt i p q e1 e2; ⟨z (by decide) c a, z (by decide) d b, c, d⟩⟩
theorem HoldAt.set_pu {T : TC} {n : Nat} {ρ : Rho} {A : HA} {H : Hp} {st : HS} (h : HoldAt T n ρ A H st) (g : Gh ρ H) (l : List Int) : HoldAt T n ρ A (upd H A.pu (.lst (l.map V.int))) { st with pur := l } := by
  have k := kp_write (o := .lst (l.map V.int)) g h.cpu
  have z := fun {b : Addr} {t : Nat} {x : Str} {o : HO} (u : decide (t ≠ 7) = true) (c : ρ b = some (n, t, x)) (e : H b = some o) => (k.2 b t x o u c e).1
  obtain ⟨vs, h1, h2⟩ := h.oas
  obtain ⟨kvs, k1, k2, k3⟩ := h.okn
  exact ⟨z (by decide) h.ca h.oa, h.ca, z (by decide) h.cpl h.opl, h.cpl, z (by decide) h.cab h.oab, h.cab, ⟨vs, z (by decide) h.cas h1, h2.keep k (by decide)⟩, h.cas, z (by decide) h.cnm h.onm, h.cnm, z (by decide) h.cbt h.obt, h.cbt, z (by decide) h.ccm h.ocm, h.ccm, upd_same, h.cpu, z (by decide) h.csp h.osp, h.csp, ⟨kvs, z (by decide) h.ckn k1, fun p hp => let ⟨t, r, e, q⟩ := k2 p hp; ⟨t, r, e, k.1 _ _ q⟩, k3⟩, h.ckn, h.ql, fun i p q e1 e2 => let ⟨a, b, c, d⟩ := h.opt i p q e1 e2; ⟨z (by decide) c a, z (by decide) d b, c, d⟩⟩
theorem HoldAt.set_row {T : TC} {n : Nat} {ρ : Rho} {A : HA} {H : Hp} {st : HS} (h : HoldAt T n ρ A H st) (g : Gh ρ H) {i : Nat} {p0 : Pt} {q0 : Addr × Addr × Addr} (l : List Int) (ep : st.pts[i]? = some p0) (eq : A.qs[i]? = some q0) (nd : (st.pts.map (·.nm)).Nodup) : HoldAt T n ρ A (upd H q0.2.2 (.lst (l.map V.int))) { st with pts := st.pts.set i { p0 with row := l } } := by
  have k := kp_write (o := .lst (l.map V.int)) g (h.opt i p0 q0 ep eq).2.2.2
  have z := fun {b : Addr} {t : Nat} {x : Str} {o : HO} (u : decide (t ≠ 21) = true) (c : ρ b = some (n, t, x)) (e : H b = some o) => (k.2 b t x o u c e).1
  obtain ⟨vs, h1, h2⟩ := h.oas
  obtain ⟨kvs, k1, k2, k3⟩ := h.okn
  exact ⟨z (by decide) h.ca h.oa, h.ca, z (by decide) h.cpl h.opl, h.cpl, by show _ = some (HO.dK (abK (st.pts.set i { p0 with row := l }) A.qs)); rw [abK_set (p1 := { p0 with row := l }) ep rfl]; exact z (by decide) h.cab h.oab, h.cab, ⟨vs, z (by decide) h.cas h1, h2.keep k (by decide)⟩, h.cas, z (by decide) h.cnm h.onm, h.cnm, z (by decide) h.cbt h.obt, h.cbt, z (by decide) h.ccm h.ocm, h.ccm, z (by decide) h.cpu h.opu, h.cpu, z (by decide) h.csp h.osp, h.csp, ⟨kvs, z (by decide) h.ckn k1, fun p hp => let ⟨t, r, e, q⟩ := k2 p hp; ⟨t, r, e, k.1 _ _ q⟩, k3⟩, h.ckn, by rw [List.length_set]; exact h.ql, opt_set2 h nd ep eq upd_same (kp_write2 (h.opt i p0 q0 ep eq).2.2.2)⟩
end L2
namespace L2
open PySem PySem.Spec PyProof.Rows
structure Txt (K : PySem.W.Frag) (T : TC) : Prop where
  cH : Cls K T.hold
  cP : Cls K T.part
  cB : Cls K T.bot
  hpl : NoAttr K T.hold "places"
  hab : NoAttr K T.hold "aboard"
  has : NoAttr K T.hold "ashore"
  hnm : NoAttr K T.hold "names"
  hbt : NoAttr K T.hold "bottom"
  hcm : NoAttr K T.hold "common"
  hpu : NoAttr K T.hold "purses"
  pnm : NoAttr K T.part "name"
  pow : NoAttr K T.part "owner"
  pwo : NoAttr K T.part "worth"
  pwe : NoAttr K T.part "weight"
  psc : NoAttr K T.part "scale"
  pro : NoAttr K T.part "row"
  bst : NoAttr K T.bot "steps"
  bpr : NoAttr K T.bot "product"
  bkn : NoAttr K T.bot "known"
structure Wf (st : HS) : Prop where
  ownN : st.own.Nodup
  nmsN : st.nms.Nodup
  ptsN : (st.pts.map (·.nm)).Nodup
  sub : ∀ p ∈ st.pts, p.nm ∈ st.nms
  rows : ∀ p ∈ st.pts, p.row.length = st.own.length
  ow : ∀ p ∈ st.pts, p.ow ∈ st.own
  coml : st.com.length = st.own.length
  purl : st.pur.length = st.own.length
  prod1 : 1 ≤ st.prod
  prodE : st.prod = st.stp.foldl (· * ·) 1
  stp2 : ∀ s ∈ st.stp, 2 ≤ s
  ownL : st.own.length ≤ 100
  nmsL : st.nms.length ≤ 1000
  ptsL : st.pts.length ≤ 1000
  stpL : st.stp.length ≤ 100
  ashL : st.ash.length ≤ 1000
  knL : st.kn ≤ 1000000
  big : Jm.Sz 8000 st.prod
  com0 : ∀ c ∈ st.com, 0 ≤ c ∧ c ≤ st.prod
  sc0 : ∀ p ∈ st.pts, 1 ≤ p.sc ∧ p.sc ≤ st.prod
  row0 : ∀ p ∈ st.pts, ∀ r ∈ p.row, -st.prod ≤ r ∧ r ≤ st.prod
  top0 : ∀ p ∈ st.pts, ∀ t ∈ List.zipWith (fun r c => p.sc * r + c) p.row st.com, 0 ≤ t ∧ t ≤ st.prod
  wo0 : ∀ p ∈ st.pts, 1 ≤ p.wo ∧ 0 ≤ p.we
  pur0 : ∀ u ∈ st.pur, Jm.Sz 9000 u
structure HH (T : TC) (n : Nat) (ρ : Rho) (A : HA) (H : Hp) (st : HS) : Prop where
  g : Gh ρ H
  h : HoldAt T n ρ A H st
  wf : Wf st
def HPost (T : TC) (n : Nat) (ρ : Rho) (A : HA) (H : Hp) (st : HS) (Q : Hp → Prop) : Prop := ∀ ρ' A' H', HH T n ρ' A' H' st → A'.a = A.a → Fr n ρ H ρ' H' → Q H'
def hs0 : HS := ⟨[], [], [], [], [], 1, 0, [], []⟩
theorem wf0 : Wf hs0 := by
  refine ⟨List.nodup_nil, List.nodup_nil, List.nodup_nil, ?_, ?_, ?_, rfl, rfl, ?_, rfl, ?_, ?_, ?_, ?_, ?_, ?_, ?_, ?_, ?_, ?_, ?_, ?_, ?_, ?_⟩ <;> first | (intro _ h; exact absurd h (by simp [hs0])) | decide | (show Jm.Sz 8000 1; exact sz_lit (by decide +kernel))
theorem valV_pl : ∀ {l : List Str} {i : Nat} {o : Str}, o ∈ l → valV (plK i l) (Sum.inr o) = some (.int ((i + l.idxOf o : Nat) : Int))
  | [], _, _, h => by simp at h
  | x :: l, i, o, h => by
    by_cases e : x = o
    · subst e
      rw [show plK i (x :: l) = (Sum.inr x, .int i) :: plK (i + 1) l from rfl, valV_pos rfl]
      simp
    · rw [show plK i (x :: l) = (Sum.inr x, .int i) :: plK (i + 1) l from rfl, valV_neg (by intro z; exact e (Sum.inr.inj z))]
      have hm : o ∈ l := by
        rcases List.mem_cons.mp h with z | z
        · exact absurd z.symm e
        · exact z
      rw [valV_pl hm]
      have eb : (x == o) = false := by simpa using e
      have : (x :: l).idxOf o = l.idxOf o + 1 := by rw [List.idxOf_cons, eb]; rfl
      rw [this]
      show some (V.int ((i + 1 + l.idxOf o : Nat) : Int)) = some (V.int ((i + (l.idxOf o + 1) : Nat) : Int))
      rw [show i + 1 + l.idxOf o = i + (l.idxOf o + 1) from by omega]
theorem valV_pl_none : ∀ {l : List Str} {i : Nat} {o : Str}, o ∉ l → valV (plK i l) (Sum.inr o) = none
  | [], _, _, _ => rfl
  | x :: l, i, o, h => by
    rw [show plK i (x :: l) = (Sum.inr x, .int i) :: plK (i + 1) l from rfl, valV_neg (fun z => h (by rw [← Sum.inr.inj z]; exact List.mem_cons_self))]
    exact valV_pl_none fun m => h (List.mem_cons_of_mem _ m)
theorem plK_length : ∀ (l : List Str) (i : Nat), (plK i l).length = l.length
  | [], _ => rfl
  | _ :: l, i => by rw [show ∀ x, plK i (x :: l) = (Sum.inr x, .int i) :: plK (i + 1) l from fun _ => rfl, List.length_cons, List.length_cons, plK_length l]
theorem plK_snoc : ∀ (l : List Str) (i : Nat) (o : Str), plK i (l ++ [o]) = plK i l ++ [(Sum.inr o, .int ((i + l.length : Nat) : Int))]
  | [], i, o => rfl
  | x :: l, i, o => by
    show (Sum.inr x, V.int i) :: plK (i + 1) (l ++ [o]) = _
    rw [plK_snoc l (i + 1) o]
    show _ = (Sum.inr x, V.int i) :: (plK (i + 1) l ++ _)
    rw [List.length_cons, show i + 1 + l.length = i + (l.length + 1) from by omega]
theorem plK_keys : ∀ (l : List Str) (i : Nat), (plK i l).map (fun p => kV p.1) = l.map V.str
  | [], _ => rfl
  | x :: l, i => by
    show kV (Sum.inr x) :: (plK (i + 1) l).map _ = V.str x :: l.map V.str
    rw [plK_keys l]
    rfl
theorem abK_get {ps : List Pt} {qs : List (Addr × Addr × Addr)} {i : Nat} {p : Pt} {q : Addr × Addr × Addr} (h1 : ps[i]? = some p) (h2 : qs[i]? = some q) : (abK ps qs)[i]? = some (Sum.inr p.nm, .ref q.1) := by
  unfold abK
  rw [List.getElem?_zipWith, h1, h2]
theorem abK_len {ps : List Pt} {qs : List (Addr × Addr × Addr)} (h : qs.length = ps.length) : (abK ps qs).length = ps.length := by
  unfold abK
  rw [List.length_zipWith, h, Nat.min_self]
theorem HoldAt.find {T : TC} {n : Nat} {ρ : Rho} {A : HA} {H : Hp} {st : HS} (h : HoldAt T n ρ A H st) {i : Nat} {p : Pt} (e : st.pts[i]? = some p) : ∃ q, A.qs[i]? = some q ∧ H q.1 = some (.ins T.part q.2.1 (fldP p q.2.2)) ∧ H q.2.2 = some (.lst (p.row.map V.int)) ∧ ρ q.1 = some (n, 20, p.nm) ∧ ρ q.2.2 = some (n, 21, p.nm) := by
  have hi : i < A.qs.length := by rw [h.ql]; exact (List.getElem?_eq_some_iff.mp e).1
  exact ⟨A.qs[i], List.getElem?_eq_getElem hi, h.opt i p _ e (List.getElem?_eq_getElem hi)⟩
def signS (st : HS) (o : Str) : HS := { st with own := st.own ++ [o], com := st.com ++ [0], pur := st.pur ++ [0], pts := st.pts.map fun p => { p with row := p.row ++ [0] } }
def topsS (st : HS) (p : Pt) : List Int := List.zipWith (fun r c => p.sc * r + c) p.row st.com
def beyS (st : HS) (tops : List Int) : List Int := List.zipWith (fun t c => t - c) tops st.com
def stowS (st : HS) (p : Pt) : HS := { st with pts := st.pts ++ [p], nms := st.nms ++ [p.nm] }
def loadS (st : HS) (x o : Str) (wo we : Int) : HS := stowS st ⟨x, o, wo, we, 1, beyS st ((List.replicate st.own.length 0).set (st.own.idxOf o) st.prod)⟩
def wholeS (st : HS) : Int := (st.pts.map (·.wo)).sum
def shareS (st : HS) (p : Pt) : List (Str × Rat) := (List.zip st.own (topsS st p)).filterMap fun x => if 0 < x.2 then some (x.1, Jm.fr x.2 st.prod) else none
def partO (p : Pt) : HO := .tup [.str p.nm, .str p.ow, .int p.wo, .int p.we]
inductive PtsAt (H : Hp) : List V → List Pt → Prop
  | nil : PtsAt H [] []
  | cons {r : Addr} {p : Pt} {vs : List V} {ps : List Pt} : H r = some (partO p) → PtsAt H vs ps → PtsAt H (.ref r :: vs) (p :: ps)
end L2
namespace L2
open PySem PySem.Spec PyProof.Rows
def isNm (o : Str) : Bool := isName o.cps.toList
structure spBInit (T : TC) (vs : List V) (H : Hp) (Q : VK) (E : XK) : Prop where
  ex : ∃ p dx, vs = [.ref p] ∧ H p = some (.ins T.bot dx []) ∧ ∀ sp kn H', H sp = none → H kn = none → sp ≠ kn → (∀ b o, H b = some o → b ≠ p → H' b = some o) → H' p = some (.ins T.bot dx (fldB sp 1 kn)) → H' sp = some (.lst []) → H' kn = some (.dK []) → Q .non H'
structure spHInit (T : TC) (vs : List V) (H : Hp) (Q : VK) (E : XK) : Prop where
  ex : ∃ p dx ρ n, vs = [.ref p] ∧ H p = some (.ins T.hold dx []) ∧ Gh ρ H ∧ ρ p = none ∧ ∀ ρ' A H', A.a = p → HH T n ρ' A H' hs0 → (∀ b o, H b = some o → b ≠ p → H' b = some o ∧ ρ' b = ρ b) → Q .non H'
structure spParts (T : TC) (vs : List V) (H : Hp) (Q : VK) (E : XK) : Prop where
  ex : ∃ n ρ A st, vs = [.ref A.a] ∧ HoldAt T n ρ A H st ∧ st.pts.length ≤ 1000 ∧ ∀ r ws H', Same H H' → H r = none → H' r = some (.lst ws) → PtsAt H' ws st.pts → Q (.ref r) H'
structure spWhole (T : TC) (vs : List V) (H : Hp) (Q : VK) (E : XK) : Prop where
  ex : ∃ n ρ A st, vs = [.ref A.a] ∧ HoldAt T n ρ A H st ∧ st.pts.length ≤ 1000 ∧ ∀ H', Same H H' → Q (.int (wholeS st)) H'
structure spRoster (T : TC) (vs : List V) (H : Hp) (Q : VK) (E : XK) : Prop where
  ex : ∃ n ρ A st, vs = [.ref A.a] ∧ HoldAt T n ρ A H st ∧ ∀ r, H r = none → Q (.ref r) (upd H r (.lst (st.own.map V.str)))
inductive LandAt (ρ : Rho) (H : Hp) : List V → List Ash → Prop
  | nil : LandAt ρ H [] []
  | cons {r l : Addr} {x : Ash} {ss : List V} {vs : List V} {as : List Ash} : H r = some (.tup [.str x.nm, .str x.ow, .int x.wo, .ref l]) → H l = some (.lst ss) → ρ l = none → ShAt H ss x.sh → LandAt ρ H vs as → LandAt ρ H (.ref r :: vs) (x :: as)
structure spLanded (T : TC) (vs : List V) (H : Hp) (Q : VK) (E : XK) : Prop where
  ex : ∃ n ρ A st, vs = [.ref A.a] ∧ HH T n ρ A H st ∧ ∀ r ws H', Same H H' → H r = none → H' r = some (.lst ws) → LandAt ρ H' ws st.ash → Q (.ref r) H'
theorem PtsAt.mono {H H' : Hp} {vs : List V} {l : List Pt} (h : PtsAt H vs l) (g : ∀ b xs, H b = some (.tup xs) → H' b = some (.tup xs)) : PtsAt H' vs l := by
  induction h with
  | nil => exact .nil
  | cons a _ ih => exact .cons (g _ _ a) ih
theorem PtsAt.snoc {H : Hp} {vs : List V} {l : List Pt} {r : Addr} {p : Pt} (h : PtsAt H vs l) (e : H r = some (partO p)) : PtsAt H (vs ++ [.ref r]) (l ++ [p]) := by
  induction h with
  | nil => exact .cons e .nil
  | cons a _ ih => exact .cons a ih
theorem tup_upd {H : Hp} {p : Addr} {o : HO} (h : H p = none ∨ ∃ u, H p = some u ∧ isTup u = false) : ∀ b xs, H b = some (.tup xs) → upd H p o b = some (.tup xs) := fun b xs e => by
  rw [upd_ne (fun z => ?_)]
  · exact e
  · rw [z] at e
    rcases h with h | ⟨u, h, t⟩
    · rw [h] at e; cases e
    · rw [h] at e; cases e; cases t
theorem frz_back {H H1 : Hp} {d : Addr} {o : Obj} {kvs : List (Key × V)} (e : H d = some (.dK kvs)) (s : Same (upd H d (.frz o (.dK kvs))) H1) : Same H (upd H1 d (.dK kvs)) := fun b u q => by
  by_cases h : b = d
  · rw [h, e] at q; cases q; rw [h]; exact upd_same
  · rw [upd_ne h]; exact s b u (by rw [upd_ne h]; exact q)
theorem frz_ne {H : Hp} {d b : Addr} {o : Obj} {u : HO} {kvs : List (Key × V)} (e : H d = some (.dK kvs)) (q : H b = some u) (h : ∀ k, u ≠ .dK k) : upd H d (.frz o (.dK kvs)) b = some u := by
  rw [upd_ne (fun z => by rw [z, e] at q; cases q; exact h _ rfl)]; exact q
theorem frz_free {H : Hp} {d b : Addr} {o : Obj} {kvs : List (Key × V)} (e : H d = some (.dK kvs)) (q : upd H d (.frz o (.dK kvs)) b = none) : H b = none := by
  by_cases h : b = d
  · rw [h, upd_same] at q; cases q
  · rw [upd_ne h] at q; exact q
theorem Same.tups {H H' : Hp} (s : Same H H') : ∀ b xs, H b = some (.tup xs) → H' b = some (.tup xs) := fun b xs h => s b _ h
theorem take_snoc {α : Type} {l : List α} {i : Nat} {x : α} (h : l[i]? = some x) : l.take (i + 1) = l.take i ++ [x] := by rw [List.take_add_one, h]; rfl
end L2
namespace L2
open PySem PySem.Spec PyProof.Rows
theorem HH.mono {T : TC} {n : Nat} {ρ : Rho} {A : HA} {H H' : Hp} {st : HS} (h : HH T n ρ A H st) (s : Same H H') : HH T n ρ A H' st := ⟨h.g.same s, h.h.mono s, h.wf⟩
theorem kp_out {n : Nat} {ρ : Rho} {H : Hp} {a : Addr} {o u : HO} {ts : Nat → Bool} (c : ρ a = none) (h : H a = some u) (t : isTup u = false) : Kp n ρ ρ H (upd H a o) ts :=
  ⟨tup_upd (.inr ⟨u, h, t⟩), fun b x y w _ hc e => ⟨by rw [upd_ne (fun z => by rw [z, c] at hc; cases hc)]; exact e, hc⟩⟩
theorem HH.wrOut {T : TC} {n : Nat} {ρ : Rho} {A : HA} {H : Hp} {st : HS} {a : Addr} {o u : HO} (h : HH T n ρ A H st) (c : ρ a = none) (e : H a = some u) (t : isTup u = false) (t2 : isTup o = false) : HH T n ρ A (upd H a o) st := ⟨h.g.wr t2, h.h.same (kp_out c e t), h.wf⟩
theorem zipW_snoc {α β γ : Type} (f : α → β → γ) {xs : List α} {ys : List β} (h : xs.length = ys.length) (x : α) (y : β) : List.zipWith f (xs ++ [x]) (ys ++ [y]) = List.zipWith f xs ys ++ [f x y] := by
  rw [List.zipWith_append h]; rfl
theorem wf_sign {st : HS} (w : Wf st) {o : Str} (h : o ∉ st.own) (hl : st.own.length < 100) : Wf (signS st o) := by
  have P : ∀ p ∈ (signS st o).pts, ∃ p0 ∈ st.pts, p = { p0 with row := p0.row ++ [0] } := fun p hp => by
    obtain ⟨p0, h0, rfl⟩ := List.mem_map.mp (show p ∈ st.pts.map _ from hp)
    exact ⟨p0, h0, rfl⟩
  have p1 := w.prod1
  refine ⟨?_, w.nmsN, ?_, fun p hp => ?_, fun p hp => ?_, fun p hp => ?_, ?_, ?_, w.prod1, w.prodE, w.stp2, ?_, w.nmsL, ?_, w.stpL, w.ashL, w.knL, w.big, fun c hc => ?_, fun p hp => ?_, fun p hp r hr => ?_, fun p hp t ht => ?_, fun p hp => ?_, fun u hu => ?_⟩
  · exact nd_snoc w.ownN h
  · show ((st.pts.map fun p => { p with row := p.row ++ [0] }).map (·.nm)).Nodup
    rw [List.map_map]
    exact w.ptsN
  · obtain ⟨p0, h0, rfl⟩ := P p hp
    exact w.sub p0 h0
  · obtain ⟨p0, h0, rfl⟩ := P p hp
    show (p0.row ++ [0]).length = (st.own ++ [o]).length
    rw [List.length_append, List.length_append, w.rows p0 h0]
    rfl
  · obtain ⟨p0, h0, rfl⟩ := P p hp
    exact List.mem_append_left _ (w.ow p0 h0)
  · show (st.com ++ [0]).length = (st.own ++ [o]).length
    rw [List.length_append, List.length_append, w.coml]
    rfl
  · show (st.pur ++ [0]).length = (st.own ++ [o]).length
    rw [List.length_append, List.length_append, w.purl]
    rfl
  · show (st.own ++ [o]).length ≤ 100
    rw [List.length_append]
    exact hl
  · show (st.pts.map _).length ≤ 1000
    rw [List.length_map]
    exact w.ptsL
  · rcases List.mem_append.mp (show c ∈ st.com ++ [0] from hc) with z | z
    · exact w.com0 c z
    · rw [List.mem_singleton.mp z]; exact ⟨Int.le_refl _, by show (0 : Int) ≤ st.prod; omega⟩
  · obtain ⟨p0, h0, rfl⟩ := P p hp
    exact w.sc0 p0 h0
  · obtain ⟨p0, h0, rfl⟩ := P p hp
    rcases List.mem_append.mp (show r ∈ p0.row ++ [0] from hr) with z | z
    · exact w.row0 p0 h0 r z
    · rw [List.mem_singleton.mp z]; show -st.prod ≤ 0 ∧ 0 ≤ st.prod; omega
  · obtain ⟨p0, h0, rfl⟩ := P p hp
    have el : p0.row.length = st.com.length := by rw [w.rows p0 h0, w.coml]
    have ht : t ∈ List.zipWith (fun r c => p0.sc * r + c) (p0.row ++ [0]) (st.com ++ [0]) := ht
    rw [zipW_snoc _ el _ _] at ht
    rcases List.mem_append.mp ht with z | z
    · exact w.top0 p0 h0 t z
    · rw [List.mem_singleton.mp z]; show 0 ≤ p0.sc * 0 + 0 ∧ p0.sc * 0 + 0 ≤ st.prod; omega
  · obtain ⟨p0, h0, rfl⟩ := P p hp
    exact w.wo0 p0 h0
  · rcases List.mem_append.mp (show u ∈ st.pur ++ [0] from hu) with z | z
    · exact w.pur0 u z
    · rw [List.mem_singleton.mp z]; exact sz_lit (by decide +kernel)
theorem upd_comm {H : Hp} {a b : Addr} {o u : HO} (h : a ≠ b) : upd (upd H a o) b u = upd (upd H b u) a o := by
  funext c
  unfold upd
  by_cases e1 : c = b
  · rw [if_pos e1, if_neg (fun z => h (z.symm.trans e1)), if_pos e1]
  · rw [if_neg e1]
    by_cases e2 : c = a
    · rw [if_pos e2, if_pos e2]
    · rw [if_neg e2, if_neg e2, if_neg e1]
theorem upd_self {H : Hp} {a : Addr} {o : HO} (h : H a = some o) : upd H a o = H := by
  funext c
  unfold upd
  by_cases e : c = a
  · rw [if_pos e, e, h]
  · rw [if_neg e]
theorem walk_get {α : Type} (g : α → α) {l : List α} {i : Nat} {p : α} (h : l[i]? = some p) : ((l.take i).map g ++ l.drop i)[i]? = some p := by
  have hi := (List.getElem?_eq_some_iff.mp h).1
  have e : ((l.take i).map g).length = i := by rw [List.length_map, List.length_take]; omega
  rw [List.getElem?_append_right (by omega), e, Nat.sub_self, List.getElem?_drop]
  exact h
theorem walk_set {α : Type} (g : α → α) {l : List α} {i : Nat} {p : α} (h : l[i]? = some p) : ((l.take i).map g ++ l.drop i).set i (g p) = (l.take (i + 1)).map g ++ l.drop (i + 1) := by
  have hi := (List.getElem?_eq_some_iff.mp h).1
  have e : ((l.take i).map g).length = i := by rw [List.length_map, List.length_take]; omega
  have ep : l[i] = p := by rw [List.getElem?_eq_getElem hi] at h; exact Option.some.inj h
  rw [List.set_append_right _ _ (by omega), e, Nat.sub_self, List.drop_eq_getElem_cons hi, List.set_cons_zero, take_snoc h, List.map_append, List.append_assoc]
  rfl
theorem walk_map {α β : Type} (g : α → α) (f : α → β) (hf : ∀ x, f (g x) = f x) (l : List α) (i : Nat) : ((l.take i).map g ++ l.drop i).map f = l.map f := by
  rw [List.map_append, List.map_map, show f ∘ g = f from funext hf, ← List.map_append, List.take_append_drop]
theorem abK_names {ps ps' : List Pt} {qs : List (Addr × Addr × Addr)} (h : ps.map (·.nm) = ps'.map (·.nm)) : abK ps qs = abK ps' qs := by
  have : ∀ {ps : List Pt}, abK ps qs = List.zipWith (fun (x : Str) q => ((Sum.inr x : Key), V.ref q.1)) (ps.map (·.nm)) qs := fun {ps} => by unfold abK; rw [List.zipWith_map_left]
  rw [this, this, h]
structure Mading (p : Addr) (H : Hp) (ρ : Rho) (H' : Hp) (ρ' : Rho) (l : List (Addr × HO × Col)) : Prop where
  m : ∀ e ∈ l, H' e.1 = some e.2.1 ∧ ρ' e.1 = some e.2.2 ∧ e.1 ≠ p
  k : ∀ b o, H b = some o → b ≠ p → H' b = some o ∧ ρ' b = ρ b
  g : Gh ρ' H'
  pp : ∃ u, H' p = some u
theorem Mading.new {p a : Addr} {H H' : Hp} {ρ ρ' : Rho} {l : List (Addr × HO × Col)} {o : HO} {c : Col} (h : Mading p H ρ H' ρ' l) (ha : H' a = none) (t : isTup o = false) : Mading p H ρ (upd H' a o) (updC ρ' a c) ((a, o, c) :: l) := by
  obtain ⟨u, hu⟩ := h.pp
  refine ⟨fun e he => ?_, fun b w hb hp => ?_, (h.g.alloc ha).color upd_same t, u, by rw [upd_ne (ne_of_none hu ha)]; exact hu⟩
  · rcases List.mem_cons.mp he with rfl | he
    · exact ⟨upd_same, updC_same, fun z => by rw [show a = p from z, hu] at ha; cases ha⟩
    · obtain ⟨x, y, z⟩ := h.m e he
      have : e.1 ≠ a := ne_of_none x ha
      rw [upd_ne this, updC_ne this]
      exact ⟨x, y, z⟩
  · obtain ⟨x, y⟩ := h.k b w hb hp
    have : b ≠ a := ne_of_none x ha
    rw [upd_ne this, updC_ne this]
    exact ⟨x, y⟩
theorem Mading.wr {p : Addr} {H H' : Hp} {ρ ρ' : Rho} {l : List (Addr × HO × Col)} {u : HO} (h : Mading p H ρ H' ρ' l) (t : isTup u = false) : Mading p H ρ (upd H' p u) ρ' l := by
  refine ⟨fun e he => ?_, fun b w hb hp => ?_, h.g.wr t, u, upd_same⟩
  · obtain ⟨x, y, z⟩ := h.m e he
    rw [upd_ne z]; exact ⟨x, y, z⟩
  · obtain ⟨x, y⟩ := h.k b w hb hp
    rw [upd_ne hp]; exact ⟨x, y⟩
theorem Mading.same {p : Addr} {H H' H'' : Hp} {ρ ρ' : Rho} {l : List (Addr × HO × Col)} (h : Mading p H ρ H' ρ' l) (s : Same H' H'') : Mading p H ρ H'' ρ' l := by
  obtain ⟨u, hu⟩ := h.pp
  exact ⟨fun e he => let ⟨x, y, z⟩ := h.m e he; ⟨s _ _ x, y, z⟩, fun b w hb hp => let ⟨x, y⟩ := h.k b w hb hp; ⟨s _ _ x, y⟩, h.g.same s, u, s _ _ hu⟩
theorem Mading.add {p a : Addr} {H H' H0 : Hp} {ρ ρ' ρ0 : Rho} {l l0 : List (Addr × HO × Col)} {o : HO} {c : Col} (h : Mading p H ρ H' ρ' l) (ha : H' a = some o) (t : isTup o = false) (h0 : Mading p H ρ H0 ρ0 l0) (hn : H0 a = none) (hl : ∀ e ∈ l, e.1 ≠ a) : Mading p H ρ H' (updC ρ' a c) ((a, o, c) :: l) := by
  refine ⟨fun e he => ?_, fun b w hb hp => ?_, h.g.color ha t, h.pp⟩
  · rcases List.mem_cons.mp he with rfl | he
    · obtain ⟨u, hu⟩ := h0.pp
      exact ⟨ha, updC_same, fun z => by rw [show a = p from z, hu] at hn; cases hn⟩
    · obtain ⟨x, y, z⟩ := h.m e he
      rw [updC_ne (hl e he)]
      exact ⟨x, y, z⟩
  · obtain ⟨x, y⟩ := h.k b w hb hp
    obtain ⟨x0, _⟩ := h0.k b w hb hp
    rw [updC_ne (ne_of_none x0 hn)]
    exact ⟨x, y⟩
theorem AshAt.length {n : Nat} {ρ : Rho} {H : Hp} {vs : List V} {l : List Ash} (h : AshAt n ρ H vs l) : vs.length = l.length := by
  induction h with
  | nil => rfl
  | cons _ _ _ _ _ ih => simp [ih]
theorem AshAt.get {n : Nat} {ρ : Rho} {H : Hp} {vs : List V} {l : List Ash} (h : AshAt n ρ H vs l) : ∀ {i : Nat} {x : V}, vs[i]? = some x → ∃ r q y ss, x = .ref r ∧ l[i]? = some y ∧ H r = some (.tup [.str y.nm, .str y.ow, .int y.wo, .ref q]) ∧ H q = some (.lst ss) ∧ ρ q = some (n, 30, y.nm) ∧ ShAt H ss y.sh := by
  induction h with
  | nil => intro i x e; simp at e
  | @cons r q y ss vs as a b c d _ ih =>
    intro i x e
    cases i with
    | zero => simp at e; subst e; exact ⟨r, q, y, ss, rfl, rfl, a, b, c, d⟩
    | succ i => simp at e; obtain ⟨r', q', y', ss', e1, e2, e3⟩ := ih e; exact ⟨r', q', y', ss', e1, by simpa using e2, e3⟩
inductive LandN (a : Addr) (ρ : Rho) (H : Hp) : List V → List Ash → Prop
  | nil : LandN a ρ H [] []
  | cons {r l : Addr} {x : Ash} {ss : List V} {vs : List V} {as : List Ash} : H r = some (.tup [.str x.nm, .str x.ow, .int x.wo, .ref l]) → H l = some (.lst ss) → ρ l = none → l ≠ a → ShAt H ss x.sh → LandN a ρ H vs as → LandN a ρ H (.ref r :: vs) (x :: as)
theorem LandN.to {a : Addr} {ρ : Rho} {H : Hp} {vs : List V} {l : List Ash} (h : LandN a ρ H vs l) : LandAt ρ H vs l := by
  induction h with
  | nil => exact .nil
  | cons x y z _ w _ ih => exact .cons x y z w ih
theorem LandN.mono {a : Addr} {ρ : Rho} {H H' : Hp} {vs : List V} {l : List Ash} (h : LandN a ρ H vs l) (g : Same H H') : LandN a ρ H' vs l := by
  induction h with
  | nil => exact .nil
  | cons x y z n w _ ih => exact .cons (g _ _ x) (g _ _ y) z n (w.mono g.tups) ih
theorem LandN.upd {a : Addr} {ρ : Rho} {H : Hp} {vs : List V} {l : List Ash} {xs ys : List V} (h : LandN a ρ H vs l) (ha : H a = some (.lst xs)) : LandN a ρ (L2.upd H a (.lst ys)) vs l := by
  induction h with
  | nil => exact .nil
  | cons x y z n w _ ih => exact .cons (tup_upd (.inr ⟨_, ha, rfl⟩) _ _ x) (by rw [upd_ne n]; exact y) z n (w.mono (tup_upd (.inr ⟨_, ha, rfl⟩))) ih
theorem LandN.snoc {a : Addr} {ρ : Rho} {H : Hp} {vs : List V} {as : List Ash} {r l : Addr} {x : Ash} {ss : List V} (h : LandN a ρ H vs as) (e1 : H r = some (.tup [.str x.nm, .str x.ow, .int x.wo, .ref l])) (e2 : H l = some (.lst ss)) (e3 : ρ l = none) (e5 : l ≠ a) (e4 : ShAt H ss x.sh) : LandN a ρ H (vs ++ [.ref r]) (as ++ [x]) := by
  induction h with
  | nil => exact .cons e1 e2 e3 e5 e4 .nil
  | cons x y z n w _ ih => exact .cons x y z n w ih
end L2
namespace L2
open PySem PySem.Spec PyProof.Rows
def NmOk (x : Str) : Prop := NameOk x.cps.toList
theorem Fr.at {n : Nat} {ρ ρ' : Rho} {H H' : Hp} (f : Fr n ρ H ρ' H') {b : Addr} {o : HO} (e : H b = some o) (c : ρ b = none) : H' b = some o ∧ ρ' b = none := by
  obtain ⟨a, d⟩ := f b o e (fun t x => by rw [c]; intro z; cases z)
  exact ⟨a, d.trans c⟩
end L2
namespace L2
open PySem PySem.Spec PyProof.Rows
def nmS (nss : List (List Nat)) : List Str := nss.map tx
theorem txs_nmS (nss : List (List Nat)) : txs nss = (nmS nss).map V.str := by unfold txs nmS; rw [List.map_map]; rfl
theorem nmS_ok {nss : List (List Nat)} (h : ∀ x ∈ nss, NameOk x) : ∀ o ∈ nmS nss, NmOk o := fun o ho => by
  obtain ⟨x, hx, rfl⟩ := List.mem_map.mp ho
  show NameOk (tx x).cps.toList
  rw [show (tx x).cps.toList = x from by simp]
  exact h x hx
theorem nmS_len (nss : List (List Nat)) : (nmS nss).length = nss.length := by unfold nmS; rw [List.length_map]
theorem inV_strs (x : Str) (l : List Str) : inV (.str x) (l.map V.str) = decide (x ∈ l) := by
  have := inV_txs x.cps.toList (l.map fun y => y.cps.toList)
  rw [tx_eta] at this
  rw [show txs (l.map fun y => y.cps.toList) = l.map V.str from by unfold txs; rw [List.map_map]; congr 1; ] at this
  rw [this]
  congr 1
  refine propext ⟨fun m => ?_, fun m => List.mem_map.mpr ⟨x, m, rfl⟩⟩
  obtain ⟨y, hy, e⟩ := List.mem_map.mp m
  have : tx y.cps.toList = tx x.cps.toList := by rw [e]
  rw [tx_eta, tx_eta] at this
  rw [← this]; exact hy
theorem flat_strs (l : List Str) : (l.map V.str).all flatV = true := by
  rw [List.all_map]
  exact List.all_eq_true.mpr fun _ _ => rfl
section
variable {T : TC} {n : Nat} {L H : Hp} {x lp : Addr} {st : HS} {ps : List Pt}
end
end L2
namespace L2
open PySem PySem.Spec PyProof.Rows
abbrev Row := Str × Int
def lostS (rs : List Row) : Int := (rs.map (·.2)).sum
def pget (st : HS) (x : Str) : Pt := (st.pts.find? fun p => decide (p.nm = x)).getD ⟨x, x, 0, 0, 1, []⟩
def giveStep (st : HS) (sums : List Int) (r : Row) : List Int := List.zipWith (fun old own => old + (r.2 * (pget st r.1).sc) * own) sums (pget st r.1).row
def givenS (st : HS) (rs : List Row) : List Int := rs.foldl (giveStep st) (st.com.map fun c => lostS rs * c)
def factS (s : Int) (ts : List Int) : Int := ts.foldl (fun s t => Jm.cf t s) s
def scalesS (st : HS) (kept : Int) : List Int := st.pts.map fun p => p.sc * kept
def comS (st : HS) (kept : Int) (added : List Int) : List Int := List.zipWith (fun t m => t * kept + m) st.com added
def sharedS (st : HS) (kept whole : Int) (added : List Int) : Int := factS whole (scalesS st kept ++ comS st kept added)
def growS (st : HS) (s : Int) : HS := if 1 < s then { st with stp := st.stp ++ [s], prod := st.prod * s, kn := 0 } else st
def blendS (st : HS) (kept whole : Int) (added : List Int) : HS :=
  growS { st with pts := st.pts.map (fun p => { p with sc := p.sc * kept / sharedS st kept whole added }), com := (comS st kept added).map (· / sharedS st kept whole added), pur := st.pur.map (· * (whole / sharedS st kept whole added)) } (whole / sharedS st kept whole added)
def lessP (ps : List Pt) (x : Str) (a : Int) : List Pt := (ps.map fun p => if p.nm = x then { p with wo := p.wo - a } else p).filter fun p => decide (p.wo ≠ 0)
def lessS (st : HS) (r : Row) : HS := { st with pts := lessP st.pts r.1 r.2 }
def castS (st : HS) (rs : List Row) : HS := rs.foldl lessS (blendS st (wholeS st - lostS rs) (wholeS st) (givenS st rs))
end L2
namespace L2
open PySem PySem.Spec PyProof.Rows
end L2
namespace L2
open PySem PySem.Spec PyProof.Rows
end L2
namespace L2
open PySem PySem.Spec PyProof.Rows
end L2
namespace L2
open PySem PySem.Spec PyProof.Rows
section
variable {X : Cx}
end
end L2
namespace L2
open PySem PySem.Spec PyProof.Rows
end L2
namespace L2
open PySem PySem.Spec PyProof.Rows
end L2
namespace L2
open PySem PySem.Spec PyProof.Rows
end L2
namespace L2
open PySem PySem.Spec PyProof.Rows
end L2
namespace L2
open PySem PySem.Spec PyProof.Rows
end L2
namespace L2
open PySem PySem.Spec PyProof.Rows
end L2
namespace L2
open PySem PySem.Spec PyProof.Rows
theorem strD_lay (ps : List Str) (hk : ∀ r ∈ ps, PyData.strOk r = true) : PyData.canLayAll0 (ps.map PyData.str) = true := by
  induction ps with
  | nil => rfl
  | cons q r ih =>
    rw [List.map_cons]
    unfold PyData.canLayAll0
    rw [ih fun p hp => hk p (List.mem_cons_of_mem _ hp), Bool.and_true]
    unfold PyData.canLay0
    exact hk q List.mem_cons_self
theorem strD_depth (ps : List Str) : PyData.depthAll (ps.map PyData.str) ≤ 1 := by
  induction ps with
  | nil => exact Nat.zero_le _
  | cons q r ih =>
    rw [List.map_cons]
    unfold PyData.depthAll
    have : PyData.depth (.str q) ≤ 1 := Nat.le_of_ble_eq_true rfl
    omega
theorem shaped_strs (ps : List Str) (hk : ∀ r ∈ ps, PyData.strOk r = true) : SeqAt.shaped (.list (ps.map PyData.str)) = true := by
  unfold SeqAt.shaped PyData.canLay0 PyData.depth
  rw [strD_lay ps hk]
  have := strD_depth ps
  simp only [Bool.true_and, decide_eq_true_eq]
  omega
theorem eqv_strs (ps : List Str) : PyData.eqv (.list (ps.map PyData.str)) (.list (ps.map PyData.str)) = true := by
  unfold PyData.eqv
  induction ps with
  | nil => rfl
  | cons q r ih =>
    rw [List.map_cons]
    unfold PyData.eqvAll
    rw [ih, Bool.and_true]
    exact eqv_str q
theorem dt_strs {K : PySem.W.Frag} {H : Hp} : ∀ (l : List Str), DtA K H (l.map V.str) (l.map PyData.str)
  | [] => .nil
  | x :: l => .cons (.str x) (dt_strs l)
end L2
namespace L2
open PySem PySem.Spec PyProof.Rows
structure DefAt (K : PySem.W.Frag) (x : Str) (st : Stmt) : Prop where
  ex : ∃ (f : Addr) (oc : Value) (od an : Option Addr) (sl : Array (Option Value)) (kV dc pm cd ct : Value), PySem.W.nsIn K mainGlobals x = some (some (.ref f)) ∧ K.lookup f = some ⟨oc, od, .func (PySem.W.fnOf x x (defArgs st) (defBody st) (defScope st) .none kV dc pm an cd ct), sl⟩ ∧ PySem.W.codeIn K cd x = true ∧ PySem.W.keepIn K (.ref f) = true
theorem DefAt.at {K : PySem.W.Frag} {mg : Str → Option Value} {h : Heap} {x : Str} {st : Stmt} (d : DefAt K x st) (X : K.In h) (G : h.Ns mainGlobals mg) : ∃ f fd, At K mg x st f fd := by
  obtain ⟨f, oc, od, an, sl, kV, dc, pm, cd, ct, a, l, c, k⟩ := d.ex
  exact ⟨f, _, at_mk X G a l c k⟩
structure MetAt (K : PySem.W.Frag) (C : Addr) (n qual : Str) (st : Stmt) : Prop where
  ex : ∃ (f : Addr) (oc : Value) (od an : Option Addr) (sl : Array (Option Value)) (kV dc pm cd ct : Value), PySem.W.findIn K (.ref C) n = some (some (.ref f)) ∧ PySem.W.isFn K (.ref f) = true ∧ K.lookup f = some ⟨oc, od, .func (PySem.W.fnOf n qual (defArgs st) (defBody st) (defScope st) .none kV dc pm an cd ct), sl⟩ ∧ PySem.W.codeIn K cd qual = true ∧ PySem.W.keepIn K (.ref f) = true
theorem MetAt.at {K : PySem.W.Frag} {C : Addr} {n qual : Str} {st : Stmt} (d : MetAt K C n qual st) (cl : Cls K C) : ∃ f fd, AtM K C n qual st f fd := by
  obtain ⟨f, oc, od, an, sl, kV, dc, pm, cd, ct, a, i, l, c, k⟩ := d.ex
  exact ⟨f, _, fun_mk l c k, ⟨a, i, k⟩, cl⟩
theorem MetAt.made {K : PySem.W.Frag} {mg : Str → Option Value} {h : Heap} {x : Str} {C : Addr} {qual : Str} {st : Stmt} (d : MetAt K C "__init__" qual st) (X : K.In h) (G : h.Ns mainGlobals mg) (a0 : PySem.W.nsIn K mainGlobals x = some (some (.ref C))) (m : PySem.W.makesIn K C = true) (kc : PySem.W.keepIn K (.ref C) = true) : ∃ f fd, AtC K mg x C qual st f fd := by
  obtain ⟨f, oc, od, an, sl, kV, dc, pm, cd, ct, a, i, l, c, k⟩ := d.ex
  exact ⟨f, _, fun_mk l c k, ⟨m, a, i, kc⟩, PySem.W.mg_of X G a0⟩
theorem DefAt.of {K : PySem.W.Frag} {x : Str} {st : Stmt} {f : Addr} {oc : Value} {od an : Option Addr} {sl : Array (Option Value)} {kV dc pm cd ct : Value} (a : PySem.W.nsIn K mainGlobals x = some (some (.ref f))) (l : K.lookup f = some ⟨oc, od, .func (PySem.W.fnOf x x (defArgs st) (defBody st) (defScope st) .none kV dc pm an cd ct), sl⟩) (c : PySem.W.codeIn K cd x = true) (k : PySem.W.keepIn K (.ref f) = true) : DefAt K x st := ⟨⟨_, _, _, _, _, _, _, _, _, _, a, l, c, k⟩⟩
theorem MetAt.of {K : PySem.W.Frag} {C : Addr} {n qual : Str} {st : Stmt} {f : Addr} {oc : Value} {od an : Option Addr} {sl : Array (Option Value)} {kV dc pm cd ct : Value} (a : PySem.W.findIn K (.ref C) n = some (some (.ref f))) (i : PySem.W.isFn K (.ref f) = true) (l : K.lookup f = some ⟨oc, od, .func (PySem.W.fnOf n qual (defArgs st) (defBody st) (defScope st) .none kV dc pm an cd ct), sl⟩) (c : PySem.W.codeIn K cd qual = true) (k : PySem.W.keepIn K (.ref f) = true) : MetAt K C n qual st := ⟨⟨_, _, _, _, _, _, _, _, _, _, a, i, l, c, k⟩⟩
end L2
namespace L2
open PySem PySem.Spec PyProof.Rows
section
variable {X : Cx}
def rRepS : R2 := fun x y H Q => ∃ (cs : List Nat) (k : Int), x = .str (tx cs) ∧ y = .int k ∧ 0 ≤ k ∧ cs.length * k.toNat ≤ sizeLine ∧ k < 2 ^ 62 ∧ Q (.str (tx (List.replicate k.toNat cs).flatten)) H
theorem foldl_repN (cs : List Nat) : ∀ (k : Nat) (acc : List Nat), List.foldl (fun x1 x2 => x1 ++ x2) acc.toArray (List.replicate k cs.toArray) = (acc ++ (List.replicate k cs).flatten).toArray
  | 0, acc => by simp
  | k + 1, acc => by
    rw [List.replicate_succ, List.replicate_succ, List.foldl_cons, List.flatten_cons, ← List.append_assoc]
    have := foldl_repN cs k (acc ++ cs)
    rw [← this]
    congr 1
    simp
theorem op_repS : OpR X (binaryOp .Mult) rRepS := by
  intro pins s σ H x y v u Q I rx ry h
  obtain ⟨cs, k, rfl, rfl, h0, hz, hk, q⟩ := h
  obtain ⟨t, rfl⟩ := rx
  obtain ⟨t', rfl⟩ := ry
  have hs := sizeLine_eq
  refine PySem.P.mul_str (by simp; omega) (fun h1 h2 => ?_) (fun h1 h2 => ?_) ?_
  · rw [tx_length]
    have hc : cs.length ≠ 0 := fun z => by rw [tx_length, z] at h2; simp at h2
    have hk1 : cs.length ≤ cs.length * k.toNat := Nat.le_mul_of_pos_right _ (by omega)
    have hk2 : k.toNat ≤ cs.length * k.toNat := Nat.le_mul_of_pos_left _ (by omega)
    intro z
    have hq : (2 ^ 63 - 1 : Int) / k ≥ 16777216 := by
      rw [ge_iff_le, Int.le_ediv_iff_mul_le (by omega)]
      omega
    omega
  · rw [tx_length]
    unfold Builtin.Str.tooLong
    exact decide_eq_false (by omega)
  · have hfold : List.foldl (fun x1 x2 => x1 ++ x2) #[] (List.replicate k.toNat cs.toArray) = (List.replicate k.toNat cs).flatten.toArray := by
      have := foldl_repN cs k.toNat []
      rw [List.nil_append] at this
      exact this
    split
    · rename_i hlt
      have e : k.toNat = 0 := by omega
      rw [e] at q
      exact ⟨by decide, .str (tx []), H, I.tok _, ⟨_, rfl⟩, q⟩
    · split
      · rename_i hlt hc
        refine ⟨.str (tx cs), H, I, ⟨t, rfl⟩, ?_⟩
        rcases Bool.or_eq_true_iff.mp hc with z | z
        · have : k = 1 := by simpa using z
          subst this
          rw [show ((1 : Int).toNat) = 1 from rfl] at q
          simpa using q
        · rw [tx_length] at z
          have : cs = [] := List.length_eq_zero_iff.mp (by simpa using z)
          subst this
          have e : (List.replicate k.toNat ([] : List Nat)).flatten = [] := by rw [List.flatten_eq_nil_iff]; intro l hl; exact (List.mem_replicate.mp hl).2
          rw [e] at q
          exact q
      · show (Made.str ⟨_⟩).post _ _
        rw [hfold]
        refine ⟨?_, .str (tx (List.replicate k.toNat cs).flatten), H, I.tok _, ⟨_, rfl⟩, q⟩
        show (tx _).length ≤ sizeLine
        rw [tx_length, len_rep, Nat.mul_comm]
        exact hz
variable {o i : Expr} {pos : Pos} {td ty : TE}
end
end L2
namespace L2
open PySem PySem.Spec PyProof.Rows
end L2
namespace L2
open PySem PySem.Spec PyProof.Rows
section
variable {a b : List Nat} {m v : Int} (ha : NameOk a) (hb : NameOk b) (hm : 1 ≤ m) (hm2 : m ≤ 1000000000) (hv : 0 ≤ v) (hv2 : v ≤ 1000000000)
include ha hb hm hm2 hv hv2 in
end
end L2
namespace L2
open PySem PySem.Spec PyProof.Rows
structure spLawIsName (vs : List V) (H : Hp) (Q : VK) (E : XK) : Prop where
  ex : ∃ (cs : List Nat), vs = [.str (tx cs)] ∧ cs.length ≤ 100000 ∧ Q (.bl (isName cs)) H
theorem use_lawisname {H : Hp} {Q : VK} {E : XK} {cs : List Nat} (hl : cs.length ≤ 100000) (q : Q (.bl (isName cs)) H) : spLawIsName [.str (tx cs)] H Q E := ⟨cs, rfl, hl, q⟩
end L2
namespace L2
open PySem PySem.Spec PyProof.Rows
open Builtin Builtin.Str
section
variable {X : Cx}
end
end L2
namespace L2
open PySem PySem.Spec PyProof.Rows PySem.NumText
end L2
namespace L2
open PySem PySem.Spec PyProof.Rows PySem.NumText
end L2
namespace L2
open PySem PySem.Spec PyProof.Rows PySem.NumText
end L2
namespace L2
open PySem PySem.Spec PyProof.Rows PySem.NumText Builtin Builtin.Str
section
variable {X : Cx}
end
end L2
namespace L2
open PySem PySem.Spec PyProof.Rows PySem.NumText
def rAddT : R2 := fun x y H Q => ∃ a b : List Nat, x = .str (tx a) ∧ y = .str (tx b) ∧ a.length + b.length ≤ 10000000 ∧ Q (.str (tx (a ++ b))) H
theorem op_addT {X : Cx} : OpR X (binaryOp .Add) rAddT := by
  intro pins s σ H x y v u Q I rx ry h
  obtain ⟨a, b, rfl, rfl, hz, q⟩ := h
  exact op_add_str pins s σ H _ _ v u Q I rx ry ⟨tx a, tx b, rfl, rfl, by rw [tx_length, tx_length, sizeLine_eq]; omega, by rw [tx_cat]; exact q⟩
end L2
namespace L2
open PySem PySem.Spec PyProof.Rows
def Trc (h : Heap) (x T C : Addr) : Prop := ∃ oe vs a0 oT ts, h.get? x = some oe ∧ oe.cls = .ref C ∧ vs[0]? = some a0 ∧ oe.data = .fields vs ∧ vs[1]? = some (.ref T) ∧ T ≠ x ∧ h.get? T = some oT ∧ oT.data = .fields ts ∧ ts[3]? = some .none
def CX1 (P : Program) (w : World) : CXT := fun outer H s E e s' => ∃ (x T C : Addr) (H' : Hp), e = .ref x ∧ s'.os = s.os ∧ AllBare s'.gens ∧ Un (frs outer) [] H H' s.heap s'.heap ∧ HOk P w H' s'.heap ∧ Trc s'.heap x T C ∧
  s.heap.get? x = none ∧ s.heap.get? T = none ∧ H' x = none ∧ H' T = none ∧ E e (some C) H'
theorem HOk.keptOn {P : Program} {w : World} {H : Hp} {h h' : Heap} (x : HOk P w H h) (k : ∀ b o u, H b = some o → h.get? b = some u → h'.get? b = some u) : HOk P w H h' := fun a o e =>
  (x a o e).stay (fun b u hb q => by
    rcases hb with rfl | hb
    · exact k _ _ _ e q
    · exact k _ _ _ hb q) (fun _ q => q) fun _ _ q => q
theorem ObjOk.isAt {P : Program} {w : World} {H : Hp} {h : Heap} {a : Addr} {o : HO} (x : ObjOk P w H h a o) : ∃ u, h.get? a = some u := by
  cases o with
  | lst xs => obtain ⟨_, _, _, _, e⟩ := x; exact ⟨_, e⟩
  | tup xs => obtain ⟨_, _, _, p⟩ := x; obtain ⟨o, e, _⟩ := p; exact ⟨_, e⟩
  | dK kvs => obtain ⟨_, _, _, _, o, _, _, e, _⟩ := x; exact ⟨_, e⟩
  | dT kvs => obtain ⟨_, _, _, _, o, _, _, e, _⟩ := x; exact ⟨_, e⟩
  | set S n => obtain ⟨o, _, _, _, e, _⟩ := x; exact ⟨_, e⟩
  | ins C dx fs => obtain ⟨_, _, _, e, _⟩ := x; exact ⟨_, e⟩
  | own y => obtain ⟨_, e⟩ := x; exact ⟨_, e⟩
  | xd fs => obtain ⟨_, ⟨_, _, _, e, _⟩, _⟩ := x; exact ⟨_, e⟩
  | rng lo hi => obtain ⟨_, _, _, e⟩ := x; exact ⟨_, e⟩
  | frz ob u => obtain ⟨e, _⟩ := x; exact ⟨_, e⟩
  | tbl ps => exact ⟨_, (show h.get? a = some _ from x)⟩
  | met f y => exact ⟨_, (show h.get? a = some _ from x)⟩
  | ext φ => obtain ⟨_, ⟨_, e⟩, _⟩ := x; exact ⟨_, e⟩
section
variable {P : Program} {w : World} {K : PySem.W.Frag} {mg : Str → Option Value} {base : Heap} {N : List Str} {qual : Str} {scope : Scope} {f : Addr} {cd : Value} {A : Around} {outer : List Env} {s0 : Shared} {H0 : Hp} {E : XK} {CX : CXT}
theorem left_cx {pins : List (Addr × Obj)} {σ : St} {H : Hp} {s : Shared} {x C : Addr} {a0 : Value} {h' : Heap} {B : Heap} (I : Inv (cxOf CX P w K mg base N qual scope f cd A outer s0 H0 E) pins σ H s)
    (hB : ∀ b o, s.heap.get? b = some o → b ∉ frs (envOfC qual scope s0.heap.objs.size f cd :: outer) → s0.heap.get? b ≠ none ∨ H b ≠ none → B.get? b = some o)
    (hfl : Heap.FlyingW B outer x (.ref C) a0 h') (hup : s.heap.UpToSlots h') (hx : s0.heap.get? x = none) (hxH : H x = none)
    (q : E (.ref x) (some C) H) : CX1 P w outer H0 s0 E (.ref x) { s with heap := h' } := by
  obtain ⟨st, bx, fr, oe, vs, T, oT, ts, h1, ⟨h2, h3⟩, h4, h5, h6, h7, h8, h9, h10⟩ := hfl
  have notfr : T ∉ frs outer := fun m => by
    obtain ⟨_, o, ho, hd⟩ := fr.mem m
    rw [h8] at ho; cases ho
    exact hd _ h9
  have L0 : s0.heap.get? s0.heap.objs.size = none := Heap.get?_none_of_le (Nat.le_refl _)
  have big : ∀ b o, s0.heap.get? b = some o → b ∉ frs outer → b ∉ frs (envOfC qual scope s0.heap.objs.size f cd :: outer) := fun b o e n m => by
    have m' : b ∈ s0.heap.objs.size :: frs outer := m
    rcases List.mem_cons.mp m' with z | z
    · rw [z, L0] at e; cases e
    · exact n z
  have hT0 : s0.heap.get? T = none := by
    cases e : s0.heap.get? T with
    | none => rfl
    | some o =>
      obtain ⟨o', ho'⟩ := I.base.there T o e (by simp [cxOf])
      have := hB T o' ho' (big T o e notfr) (.inl (by rw [e]; exact fun z => nomatch z))
      rw [h6] at this; cases this
  have hTH : H T = none := by
    cases e : H T with
    | none => rfl
    | some o =>
      have lt := I.hok.lt e
      have nst : T ∉ frs (envOfC qual scope s0.heap.objs.size f cd :: outer) := fun m => by
        have := I.stkFree T m
        rw [e] at this; cases this
      have hob : ∃ u, s.heap.get? T = some u := (I.hok T o e).isAt
      obtain ⟨u, hu⟩ := hob
      have := hB T u hu nst (.inr (by rw [e]; exact fun z => nomatch z))
      rw [h6] at this; cases this
  refine ⟨x, T, C, H, rfl, I.os, I.bare, ⟨fun b o e n nf _ => ?_, fun b o e n m _ => ?_, fun b o e n _ => ?_, fun b o e _ => ?_, I.base.tups, I.base.frzs, I.base.tbls⟩, ?_, ⟨oe, vs, a0, oT, ts, h1, h2, h3, h4, h5, h7, h8, h9, h10⟩, hx, hT0, hxH, hTH, q⟩
  · exact st b o (hB b o (I.base.keep b o e n nf (by simp [cxOf])) (big b o e nf) (.inl (by rw [e]; exact fun z => nomatch z)))
  · obtain ⟨sl, hs⟩ := I.base.slot b o e n m (by simp [cxOf])
    have fr0 := I.ok.funs
    obtain ⟨_, o', ho', hd'⟩ := fr0.mem m
    obtain ⟨sl', hs'⟩ := hup b _ hs (fun vs z => by
      have ho2 : s0.heap.get? b = some o' := ho'
      rw [e] at ho2; cases ho2
      exact hd' vs z)
    exact ⟨sl', hs'⟩
  · exact I.base.free b o e n (by simp [cxOf])
  · obtain ⟨o', ho'⟩ := I.base.there b o e (by simp [cxOf])
    by_cases m : b ∈ frs outer
    · have fr0 := I.ok.funs
      obtain ⟨_, o2, ho2, hd2⟩ := fr.mem m
      exact ⟨o2, ho2⟩
    · exact ⟨o', st b o' (hB b o' ho' (big b o e m) (.inl (by rw [e]; exact fun z => nomatch z)))⟩
  · exact I.hok.keptOn fun b o u e hu => st b u (hB b u hu (fun m => by have := I.stkFree b m; rw [e] at this; cases this) (.inr (by rw [e]; exact fun z => nomatch z)))
theorem leave_on {pins : List (Addr × Obj)} {σ : St} {H : Hp} {s : Shared} {x T C : Addr} (I : Inv (cxOf (CX1 P w) P w K mg base N qual scope f cd A outer s0 H0 E) pins σ H s) (t : Trc s.heap x T C) (hx : s0.heap.get? x = none) (hT : s0.heap.get? T = none) (hxH : H x = none) (hTH : H T = none)
    (q : E (.ref x) (some C) H) : (cxOf (CX1 P w) P w K mg base N qual scope f cd A outer s0 H0 E).xe (.ref x) s := by
  obtain ⟨oe, vs, a0, oT, ts, h1, h2, h3, h4, h5, h6, h7, h8, h9⟩ := t
  have hst := I.stack
  have hst' : s.heap.FunFrames base (envOfC qual scope s0.heap.objs.size f cd :: outer) := hst
  have hin : ∀ env ∈ (envOfC qual scope s0.heap.objs.size f cd :: outer), ∀ b, env.frame = some b → b ∈ x :: T :: frs (envOfC qual scope s0.heap.objs.size f cd :: outer) := fun env he b hb => List.mem_cons_of_mem _ (List.mem_cons_of_mem _ (List.mem_filterMap.mpr ⟨env, he, hb⟩))
  refine wpAny_leaves_onW (base := PySem.W.hideAll s.heap (x :: T :: frs (envOfC qual scope s0.heap.objs.size f cd :: outer))) (L := s0.heap.objs.size) (cls := .ref C) (a0 := a0) (outer := outer) I.ok.frames rfl ⟨fun b o e => PySem.W.of_hideAll _ e, PySem.W.hideAll_none _ List.mem_cons_self, PySem.W.funFrames_hide hst' hin, oe, vs, T, oT, ts, h1, ⟨h2, h3⟩, h4, h5, PySem.W.hideAll_none _ (List.mem_cons_of_mem _ List.mem_cons_self), h6, h7, h8, h9⟩ fun h' fl up => ?_
  refine left_cx I (fun b o e n hb => PySem.W.hideAll_get _ e fun m => ?_) fl up hx hxH q
  rcases List.mem_cons.mp m with z | m
  · rw [z] at hb
    rcases hb with hb | hb
    · exact hb hx
    · exact hb hxH
  · rcases List.mem_cons.mp m with z | m
    · rw [z] at hb
      rcases hb with hb | hb
      · exact hb hT
      · exact hb hTH
    · exact n m
theorem pass1 : Passes (CX1 P w) (cxOf (CX1 P w) P w K mg base N qual scope f cd A outer s0 H0 E) E := fun pins σ H s e s' I h => by
  obtain ⟨x, T, C, H', rfl, os, bare, un, hok, t, hx, hT, hxH, hTH, q⟩ := h
  have I' : Inv (cxOf (CX1 P w) P w K mg base N qual scope f cd A outer s0 H0 E) pins σ H' s' := I.call' (ch := []) os un hok bare (fun b z => absurd z (by simp))
  have old : ∀ b, s.heap.get? b = none → s0.heap.get? b = none := fun b e => by
    cases q : s0.heap.get? b with
    | none => rfl
    | some o =>
      obtain ⟨o', ho'⟩ := I.base.there b o q (by simp [cxOf])
      rw [e] at ho'; cases ho'
  exact leave_on I' t (old x hx) (old T hT) hxH hTH q
theorem leave_made {pins : List (Addr × Obj)} {σ : St} {H : Hp} {s : Shared} {x C : Addr} {args : List Value} {h1 : Heap} (I : Inv (cxOf (CX1 P w) P w K mg base N qual scope f cd A outer s0 H0 E) pins σ H s) (hm : Heap.MadeExcOf s.heap h1 x (.ref C) args)
    (q : E (.ref x) (some C) H) : (cxOf (CX1 P w) P w K mg base N qual scope f cd A outer s0 H0 E).xe (.ref x) { s with heap := h1 } := by
  have hst' : s.heap.FunFrames base (envOfC qual scope s0.heap.objs.size f cd :: outer) := I.stack
  have hin : ∀ env ∈ (envOfC qual scope s0.heap.objs.size f cd :: outer), ∀ b, env.frame = some b → b ∈ frs (envOfC qual scope s0.heap.objs.size f cd :: outer) := fun env he b hb => List.mem_filterMap.mpr ⟨env, he, hb⟩
  have I1 : Inv (cxOf (CX1 P w) P w K mg base N qual scope f cd A outer s0 H0 E) pins σ H { s with heap := h1 } := I.kept (t' := s.toks) hm.keeps
  have hxH : H x = none := by
    cases e : H x with
    | none => rfl
    | some o =>
      obtain ⟨u, hu⟩ := (I.hok x o e).isAt
      rw [hm.new] at hu; cases hu
  have hx0 : s0.heap.get? x = none := by
    cases e : s0.heap.get? x with
    | none => rfl
    | some o =>
      obtain ⟨o', ho'⟩ := I.base.there x o e (by simp [cxOf])
      rw [hm.new] at ho'; cases ho'
  refine wpAny_leaves_madeW (base := PySem.W.hideAll s.heap (frs (envOfC qual scope s0.heap.objs.size f cd :: outer))) (h := s.heap) (L := s0.heap.objs.size) (outer := outer) I.ok.frames rfl (fun b o e => PySem.W.of_hideAll _ e) (PySem.W.funFrames_hide hst' hin) hm fun h' t fl _ _ up => ?_
  refine left_cx I1 (fun b o e n hb => PySem.W.hideAll_get _ ?_ n) fl up hx0 hxH q
  rcases hb with hb | hb
  · cases e0 : s0.heap.get? b with
    | none => exact absurd e0 hb
    | some o0 =>
      obtain ⟨o', ho'⟩ := I.base.there b o0 e0 (by simp [cxOf])
      have e' : h1.get? b = some o := e
      have := hm.keeps b o' ho'
      rw [e'] at this; cases this
      exact ho'
  · cases e0 : H b with
    | none => exact absurd e0 hb
    | some o0 =>
      obtain ⟨o', ho'⟩ := (I.hok b o0 e0).isAt
      have e' : h1.get? b = some o := e
      have := hm.keeps b o' ho'
      rw [e'] at this; cases this
      exact ho'
end
end L2
namespace L2
open PySem PySem.Spec PyProof.Rows
def bmVE : List Value := [.type "ValueError", .type "Exception", .type "BaseException", .type "object"]
structure OwnExc (K : PySem.W.Frag) (C : Addr) : Prop where
  ex : ∃ (nm q : Str) (N : Addr) (bs bm : List Value) (hdct : Bool) (sn : List Str) (sub : List Value) (ab : Bool) (col : Option Bool) (dd : Option Addr) (k0 k1 k2 k3 k5 : Option Value) (mN : Str → Option Value), mN "__init__" = none ∧ bm.contains (.type "BaseException") = true ∧ ∀ h : Heap, K.In h →
    h.get? C = some (excClassObj nm q C N bs bm hdct sn sub ab col dd k0 k1 k2 k3 k5 "ValueError.__new__") ∧ h.Ns N mN ∧ OwnTail h bmVE bm
section
variable {P : Program} {w : World} {K : PySem.W.Frag} {mg : Str → Option Value} {base : Heap} {N : List Str} {qual : Str} {scope : Scope} {f : Addr} {cd : Value} {A : Around} {outer : List Env} {s0 : Shared} {H0 : Hp} {E : XK}
def tRaise (C : Addr) (E : XK) : TS := fun _ _ H => ∀ x, E (.ref x) (some C) H
theorem ps_raise {x : Str} {C : Addr} {t : Str} {kd : Nat} {p0 p1 cpos pos : Pos} (oc : OwnExc K C) (hg : Gl (cxOf (CX1 P w) P w K mg base N qual scope f cd A outer s0 H0 E) x) (hm : mg x = some (.ref C)) (hd : (x == ("__debug__" : Str)) = false := by decide) :
    PS (cxOf (CX1 P w) P w K mg base N qual scope f cd A outer s0 H0 E) (.Raise (some (.Call (.Name x p0) [.Constant (.str t) kd p1] [] cpos)) none pos) (tRaise C E) := by
  intro pins s σ H D I h
  obtain ⟨nm, q, Nn, bs, bm, hdct, sn, sub, ab, col, dd, k0, k1, k2, k3, k5, mN, hni, hb, fx⟩ := oc.ex
  refine wpAny_Raise_call_subT (bm := bm) (C := C) (nm := nm) (q := q) (N := Nn) (bs := bs) (hdct := hdct) (sn := sn) (sub := sub) (ab := ab) (col := col) (dd := dd) (k0 := k0) (k1 := k1) (k2 := k2) (k3 := k3) (k5 := k5) F.excBase_ValueError hb (I.ok.hd rfl) rfl hni ?_
  refine ld_glob I hg hm ⟨rfl, ?_⟩ hd
  have pa : PA (cxOf (CX1 P w) P w K mg base N qual scope f cd A outer s0 H0 E) [.Constant (.str t) kd p1] (tCons (tC (.str t)) tNil) := pa_cons pe_str pa_nil
  refine PySem.Calls.evalArgs_plain (thn (pa cpos pins s σ H (fun vs H1 => vs.length = 1 ∧ H1 = H) I ⟨rfl, rfl⟩) fun us s1 ⟨vs, H1, I1, r, hv, e⟩ => ?_)
  subst e
  obtain ⟨hC, hN, T⟩ := fx s1.heap I1.kIn
  exact ⟨rfl, by show us.length ≤ sizeLine; rw [← r.length, hv, sizeLine_eq]; decide, hC, hN, T, fun h' e hm => leave_made I1 hm (h e)⟩
structure Dx (P : Program) (w : World) (K : PySem.W.Frag) (mg : Str → Option Value) (base : Heap) (k : Nat) (x : Str) (ps : List Str) (sp : Sp) : Prop where
  ex : ∃ f fd, FnOk P w K mg base (CX1 P w) k f fd ps sp ∧ Binds K fd ps [] ∧ PySem.W.keepIn K (.ref f) = true ∧ mg x = some (.ref f)
theorem At.okX {x : Str} {st : Stmt} {f : Addr} {fd : FuncData} {N ps : List Str} {k : Nat} {sp : Sp} (F : At K mg x st f fd) (S : FnScope N ps (defScope st)) (len : ∀ vs H Q E, sp vs H Q E → vs.length = ps.length)
    (hbody : ∀ (cdv : Value) (A : Around) (outer : List Env) (s : Shared) (H : Hp) (vs : List V) (Q : VK) (E : XK), Room k (A.deeper (envOfC x (defScope st) s.heap.objs.size f cdv)) → sp vs H Q E →
      ∃ t, PSs (cxOf (CX1 P w) P w K mg base N x (defScope st) f cdv A outer s H E) (defBody st) t ∧ t { nx := fun _ H' => Q .non H', rt := Q } (start N vs) H)
    (h : ∀ (kV doc pm : Value) (an : Option Addr) (cdv ct : Value) (us : List Value), us.length = ps.length → bindArgs (PySem.W.fnOf x x (defArgs st) (defBody st) (defScope st) .none kV doc pm an cdv ct) ⟨us, []⟩ = pure (ps.zip us)) :
    Dx P w K mg base (k + 1) x ps sp := by
  refine ⟨f, fd, ?_, F.fn.binds h, F.fn.kp, F.name⟩
  obtain ⟨oc, od, kV, doc, pm, an, cdv, ct, osl, rfl, lk, hcd⟩ := F.fn.ex
  exact fn_of lk hcd S len fun A outer s H vs Q E hr hsp => hbody cdv A outer s H vs Q E hr hsp
end
end L2
namespace L2
open PySem PySem.Spec PyProof.Rows
def TrcF (h : Heap) (x T C : Addr) (fl : Value) : Prop := ∃ oe vs a0 oT ts, h.get? x = some oe ∧ oe.cls = .ref C ∧ vs[0]? = some a0 ∧ oe.data = .fields vs ∧ vs[1]? = some (.ref T) ∧ T ≠ x ∧ h.get? T = some oT ∧ oT.data = .fields ts ∧ ts[3]? = some fl
structure Fly (X : Cx) (pins : List (Addr × Obj)) (σ : St) (Hc : Hp) (sc : Shared) (H : Hp) (x C : Addr) (fl : Value) (s : Shared) : Prop where
  ic : Inv X pins σ Hc sc
  os : s.os = sc.os
  bare : AllBare s.gens
  un : Un (frs X.stack) [] Hc H sc.heap s.heap
  hok : HOk X.prog X.w H s.heap
  nx : sc.heap.get? x = none
  hx : H x = none
  tr : ∃ T, TrcF s.heap x T C fl ∧ sc.heap.get? T = none ∧ H T = none
section
variable {X : Cx} {pins : List (Addr × Obj)} {σ : St} {Hc H : Hp} {sc s : Shared} {x C : Addr} {fl : Value}
theorem Fly.inv (F : Fly X pins σ Hc sc H x C fl s) : Inv X pins σ H s := F.ic.call' (ch := []) F.os F.un F.hok F.bare (fun b z => absurd z (by simp))
theorem Fly.step {h' B : Heap} {fl' a0 : Value} (F : Fly X pins σ Hc sc H x C fl s) (hB : ∀ b o, s.heap.get? b = some o → b ∉ frs X.stack → sc.heap.get? b ≠ none ∨ H b ≠ none → B.get? b = some o)
    (st : B.StaysIn h') (fr : h'.FunFrames B X.stack) (tr : h'.TracedAtW B x (.ref C) a0 fl') (up : s.heap.UpToSlots h') : Fly X pins σ Hc sc H x C fl' { s with heap := h' } := by
  have I := F.inv
  obtain ⟨oe, vs, T, oT, ts, h1, ⟨h2, h3⟩, h4, h5, h6, h7, h8, h9, h10⟩ := tr
  have notfr : T ∉ frs X.stack := fun m => by
    obtain ⟨_, o, ho, hd⟩ := fr.mem m
    rw [h8] at ho; cases ho
    exact hd _ h9
  have hT0 : sc.heap.get? T = none := by
    cases e : sc.heap.get? T with
    | none => rfl
    | some o =>
      obtain ⟨o', ho'⟩ := F.un.there T o e (by simp)
      have := hB T o' ho' notfr (.inl (by rw [e]; exact fun z => nomatch z))
      rw [h6] at this; cases this
  have hTH : H T = none := by
    cases e : H T with
    | none => rfl
    | some o =>
      obtain ⟨u, hu⟩ := (F.hok T o e).isAt
      have := hB T u hu notfr (.inr (by rw [e]; exact fun z => nomatch z))
      rw [h6] at this; cases this
  refine ⟨F.ic, F.os, F.bare, ⟨fun b o e n nf _ => ?_, fun b o e n m _ => ?_, F.un.free, fun b o e _ => ?_, F.un.tups, F.un.frzs, F.un.tbls⟩, ?_, F.nx, F.hx, T, ⟨oe, vs, a0, oT, ts, h1, h2, h3, h4, h5, h7, h8, h9, h10⟩, hT0, hTH⟩
  · exact st b o (hB b o (F.un.keep b o e n nf (by simp)) nf (.inl (by rw [e]; exact fun z => nomatch z)))
  · obtain ⟨sl, hs⟩ := F.un.slot b o e n m (by simp)
    obtain ⟨_, o', ho', hd'⟩ := F.ic.stack.mem m
    obtain ⟨sl', hs'⟩ := up b _ hs (fun vs z => by
      rw [e] at ho'; cases ho'
      exact hd' vs z)
    exact ⟨sl', hs'⟩
  · obtain ⟨o', ho'⟩ := F.un.there b o e (by simp)
    by_cases m : b ∈ frs X.stack
    · obtain ⟨_, o2, ho2, hd2⟩ := fr.mem m
      exact ⟨o2, ho2⟩
    · exact ⟨o', st b o' (hB b o' ho' m (.inl (by rw [e]; exact fun z => nomatch z)))⟩
  · exact F.hok.keptOn fun b o u e hu => st b u (hB b u hu (fun m => by have := I.stkFree b m; rw [e] at this; cases this) (.inr (by rw [e]; exact fun z => nomatch z)))
theorem Fly.hid (F : Fly X pins σ Hc sc H x C fl s) : ∃ (a0 : Value) (B : Heap), (∀ b o, s.heap.get? b = some o → b ∉ frs X.stack → sc.heap.get? b ≠ none ∨ H b ≠ none → B.get? b = some o) ∧ B.StaysIn s.heap ∧ B.get? x = none ∧ s.heap.FunFrames B X.stack ∧ s.heap.TracedAtW B x (.ref C) a0 fl := by
  obtain ⟨T, ⟨oe, vs, a0, oT, ts, h1, h2, h3, h4, h5, h6, h7, h8, h9⟩, hT, hTH⟩ := F.tr
  have hin : ∀ env ∈ X.stack, ∀ b, env.frame = some b → b ∈ x :: T :: frs X.stack := fun env he b hb => List.mem_cons_of_mem _ (List.mem_cons_of_mem _ (List.mem_filterMap.mpr ⟨env, he, hb⟩))
  refine ⟨a0, PySem.W.hideAll s.heap (x :: T :: frs X.stack), fun b o e n hb => PySem.W.hideAll_get _ e fun m => ?_, fun b o e => PySem.W.of_hideAll _ e, PySem.W.hideAll_none _ List.mem_cons_self, PySem.W.funFrames_hide F.inv.stack hin, oe, vs, T, oT, ts, h1, ⟨h2, h3⟩, h4, h5, PySem.W.hideAll_none _ (List.mem_cons_of_mem _ List.mem_cons_self), h6, h7, h8, h9⟩
  rcases List.mem_cons.mp m with z | m
  · rw [z] at hb
    rcases hb with hb | hb
    · exact hb F.nx
    · exact hb F.hx
  · rcases List.mem_cons.mp m with z | m
    · rw [z] at hb
      rcases hb with hb | hb
      · exact hb hT
      · exact hb hTH
    · exact n m
theorem fly_note {M : Model} {A : Around} {E : Value → Shared → Prop} {Q : Unit → Shared → Prop} (F : Fly X pins σ Hc sc H x C .none s) (hA : A.frames = some X.stack) (hs : X.stack = X.env :: X.outer) (hf : X.env.frame = some X.env.locals)
    (h : ∀ s', Fly X pins σ Hc sc H x C (rawInt X.env.locals) s' → Q () s') : wpAny M A (noteFrame (.ref x) X.env) Q E s := by
  obtain ⟨a0, B, hB, st, bx, fr, tr⟩ := F.hid
  rw [hs] at fr hA
  refine wpAny_looks_onW (base := B) hA hf ⟨st, bx, fr, tr⟩ fun h' hh up => ?_
  obtain ⟨k1, k2, k3, k4⟩ := hh
  rw [← hs] at k3
  exact h _ (F.step hB k1 k3 k4 up)
theorem fly_land {M : Model} {A : Around} {E : Value → Shared → Prop} {Q : Unit → Shared → Prop} (F : Fly X pins σ Hc sc H x C fl s)
    (h : ∀ s', Fly X pins σ Hc sc H x C .none s' → Q () s') : wpAny M A (setFlight (.ref x) none) Q E s := by
  obtain ⟨a0, B, hB, st, bx, fr, tr⟩ := F.hid
  refine wpAny_setFlight_noneW (base := B) st fr tr fun h' k1 k2 k3 k4 => h _ (F.step hB k1 k2 k3 fun b o hb hn => ⟨o.slots, k4 b o hb hn⟩)
end
end L2
namespace L2
open PySem PySem.Spec PyProof.Rows
def excO (x C : Addr) : HO := .ext fun h => ∃ o, h.get? x = some o ∧ o.cls = .ref C
section
variable {X : Cx} {pins : List (Addr × Obj)} {σ : St} {Hc H : Hp} {sc s : Shared} {x C : Addr} {fl : Value}
theorem callX {j k : Nat} {g : Str} {ps : List Str} {sp : Sp} {e : Expr} {es : List Expr} {t : TA} {p pos : Pos} (D : Dx X.prog X.w X.K X.mg X.base j g ps sp) (hr : Room k X.A) (hno : ∀ e s, X.xe e s → False) (ha : PA X (e :: es) t) (hj : j ≤ k) (hg : Gl X g)
    (hdb : (g == ("__debug__" : Str)) = false) (he : starEach (e :: es) X.env = (false, eval e X.env) :: starEach es X.env) (hpl : (backTo pos (starEach es X.env)).any (·.1) = false)
    {Q : VK} {R : Addr → Hp → Prop} (I : Inv X pins σ H s) (h : t σ H fun vs H1 => sp (vs ++ []) H1 Q fun _ c H' => ∃ C, c = some C ∧ R C H') :
    wpAny (model X.prog X.w) X.A (eval (.Call (.Name g p) (e :: es) [] pos) X.env) (EP X pins σ Q) (fun ev s' => ∃ x C Hc sc H', ev = .ref x ∧ Fly X pins σ Hc sc H' x C .none s' ∧ R C H') s := by
  obtain ⟨f, fd, F, hb, kp, m⟩ := D.ex
  refine wpAny_Call_Name_kw (ld_glob I hg m ?_ hdb)
  refine PySem.W.callWith_K (h₀ := X.base) I.ok.mod.kin kp (wpAny_mono (ha pos pins s σ H _ I h) (fun us s1 ⟨vs, H1, I1, r, q⟩ => ⟨I1.kIn, ?_⟩) fun _ _ z => (hno _ _ z).elim) he hpl
  have r2 : Vals (vs ++ []) (us ++ []) := r.append .nil
  have hl : (us ++ []).length = ps.length := by rw [← r2.length]; exact F.len _ _ _ _ q
  refine wpAny_call (codeAny_mono (F.run X.A X.stack s1 H1 ⟨us, []⟩ (us ++ []) (vs ++ []) Q _ (hr.mono hj) I1.env0 (hb s1 us I1.kIn hl) r2 q) fun r s' hq => ?_)
  cases r with
  | error e =>
    have hq' : CX1 X.prog X.w X.stack H1 s1 (fun _ c H' => ∃ C, c = some C ∧ R C H') e s' := hq
    obtain ⟨x, T, C, H', rfl, os, bare, un, hok, tr, hx, hT, hxH, hTH, C', ec, hR⟩ := hq'
    cases ec
    exact ⟨x, C, H1, s1, H', rfl, ⟨I1, os, bare, un, hok, hx, hxH, T, tr, hT, hTH⟩, hR⟩
  | ok fl =>
    cases fl with
    | ret u => exact I1.after hq
    | next => exact False.elim hq
    | brk => exact False.elim hq
    | cont => exact False.elim hq
abbrev Cx.held (X : Cx) (x : Addr) : Cx := { X with A := X.A.mark (some (.ref x)), calm := false }
theorem Inv.held (I : Inv X pins σ H s) (x : Addr) : Inv (X.held x) pins σ H s :=
  ⟨⟨I.ok.mod, I.ok.kind, I.ok.glob, I.ok.blt, I.ok.above, I.ok.inj, I.ok.has, I.ok.cab, (fun z => nomatch z), I.ok.frames, I.ok.stk, I.ok.exf, I.ok.bs, I.ok.bsz, I.ok.noex, I.ok.exfs, I.ok.funs, I.ok.frf⟩, I.os, I.bare, I.base, I.loc, I.cell, I.free, I.freeC, I.pin, I.hok, I.len⟩
theorem Fly.known (F : Fly X pins σ Hc sc H x C fl s) : Inv X pins σ (upd H x (excO x C)) s := by
  have I := F.inv
  have ne : ∀ {b o}, sc.heap.get? b = some o → b ≠ x := fun e z => by rw [z, F.nx] at e; cases e
  have ne0 : ∀ {b o}, X.s₀.heap.get? b = some o → b ∉ X.ex → b ≠ x := fun {b o} e n => by
    obtain ⟨o', ho'⟩ := F.ic.base.there b o e n
    exact ne ho'
  have neH : ∀ {b o}, H b = some o → b ≠ x := fun e z => by rw [z, F.hx] at e; cases e
  obtain ⟨T, ⟨oe, vs, a0, oT, ts, h1, h2, _⟩, _⟩ := F.tr
  refine ⟨I.ok, I.os, I.bare, ⟨I.base.keep, I.base.slot, fun b o e n nx => ?_, I.base.there, fun b xs e => ?_, fun b o u e => ?_, fun b ps e => ?_⟩, I.loc, I.cell, ?_, fun y c e => ?_, fun p hp => ?_, fun b o e => ?_, I.len⟩
  · rw [upd_ne (ne0 e nx)]; exact I.base.free b o e n nx
  · have z := I.base.tups b xs e
    rw [upd_ne (neH z)]; exact z
  · have z := I.base.frzs b o u e
    rw [upd_ne (neH z)]; exact z
  · obtain ⟨more, z⟩ := I.base.tbls b ps e
    exact ⟨more, by rw [upd_ne (neH z)]; exact z⟩
  · obtain ⟨m, ⟨o, _, _, ho, _⟩, _⟩ := F.ic.loc
    rw [upd_ne (ne ho)]; exact I.free
  · obtain ⟨v, o, ho, _⟩ := F.ic.cell y c e
    rw [upd_ne (ne ho)]; exact I.freeC y c e
  · obtain ⟨a, b, c⟩ := I.pin p hp
    obtain ⟨a', _⟩ := F.ic.pin p hp
    exact ⟨a, by rw [upd_ne (ne a')]; exact b, c⟩
  · by_cases z : b = x
    · subst z
      rw [upd_same] at e
      cases e
      exact ⟨⟨oe, h1, h2⟩, ⟨oe, h1⟩, fun h1 h2 ⟨o, a, c⟩ k => ⟨o, k o a, c⟩⟩
    · rw [upd_ne z] at e
      exact (F.hok b o e).stay (fun _ _ _ q => q) (fun c q => by rw [upd_ne (neH q)]; exact q) fun c xs q => by rw [upd_ne (neH q)]; exact q
theorem Inv.gone {n : Str} {j : Nat} {h' : Heap} {t' : Nat} {v : Option Value} {m : Str → Option Value} (I : Inv X pins σ H s) (hN : X.N.Nodup) (hj : X.N[j]? = some n) (hm : s.heap.Ns X.env.locals m) (hl : ∀ (i : Nat) (x : Str) (v : V), X.N[i]? = some x → σ[i]? = some (some v) → Vis X.env.scope x → ∃ u, RelV v u ∧ Look X.env s.heap m x u)
    (hn : h'.Ns X.env.locals (fun x => if x = n then v else m x)) (hs : Heap.SameBut X.env.locals s.heap h') : Inv X pins (σ.set j none) H { s with heap := h', toks := t' } := by
  have neL : ∀ b o, X.s₀.heap.get? b = some o → b ≠ X.env.locals := fun b o e => Nat.ne_of_lt (Nat.lt_of_lt_of_le (Heap.lt_size e) I.ok.above)
  have kp : ∀ b o, b ≠ X.env.locals → s.heap.get? b = some o → h'.get? b = some o := fun b o ne e => (hs.2 b ne).trans e
  have cellK : ∀ x c, X.env.cells.lookup x = some c → ∀ v, s.heap.IsCell c v → h'.IsCell c v := fun x c e v ⟨o, ho, hd⟩ => ⟨o, kp c o (I.cne x c e) ho, hd⟩
  refine ⟨I.ok, I.os, I.bare, ⟨fun b o e n hb hx => kp b o (neL b o e) (I.base.keep b o e n hb hx), fun b o e n hb hx => ?_, I.base.free, fun b o e hx => ?_, I.base.tups, I.base.frzs, I.base.tbls⟩, ?_, fun x c e => ?_, I.free, I.freeC, fun p hp => ?_, ?_, by rw [List.length_set]; exact I.len⟩
  · obtain ⟨sl, e1⟩ := I.base.slot b o e n hb hx
    exact ⟨sl, kp b _ (neL b o e) e1⟩
  · obtain ⟨o', e1⟩ := I.base.there b o e hx
    exact ⟨o', kp b o' (neL b o e) e1⟩
  · refine ⟨_, hn, fun i y w e1 e2 e3 => ?_⟩
    by_cases z : i = j
    · subst z
      rw [List.getElem?_set_self'] at e2
      cases q : σ[i]? with
      | none => rw [q] at e2; cases e2
      | some a => rw [q] at e2; cases e2
    · rw [List.getElem?_set_ne (Ne.symm z)] at e2
      obtain ⟨u, r, l⟩ := hl i y w e1 e2 e3
      refine ⟨u, r, ?_⟩
      rcases l with ⟨k, l⟩ | ⟨k, c, e, zc⟩
      · have hne : y ≠ n := fun q => z (nodup_ix hN e1 (q ▸ hj))
        exact .inl ⟨k, by show (if y = n then v else m y) = some u; rw [if_neg hne]; exact l⟩
      · exact .inr ⟨k, c, e, cellK y c e _ zc⟩
  · obtain ⟨v, z⟩ := I.cell x c e
    exact ⟨v, cellK x c e v z⟩
  · obtain ⟨e, n, ne, nf, d⟩ := I.pin p hp
    exact ⟨kp p.1 p.2 ne e, n, ne, nf, d⟩
  · exact I.hok.keptOn fun b o u e hu => kp b u (fun z => by rw [z, I.free] at e; cases e) hu
end
end L2
namespace L2
open PySem PySem.Spec PyProof.Rows
def FX (X : Cx) (pins : List (Addr × Obj)) (R : Addr → St → Hp → Prop) (ev : Value) (s : Shared) : Prop :=
  ∃ x C σ Hc sc H', ev = .ref x ∧ Fly X pins σ Hc sc H' x C .none s ∧ R C σ H'
abbrev TX := Ends → (Addr → St → Hp → Prop) → St → Hp → Prop
def PX (X : Cx) (st : List Stmt) (t : TX) : Prop :=
  ∀ (pins : List (Addr × Obj)) (s : Shared) (σ : St) (H : Hp) (D : Ends) (R : Addr → St → Hp → Prop), Inv X pins σ H s → t D R σ H → wpAny (model X.prog X.w) X.A (execs st X.env) (SP X pins D) (FX X pins R) s
def tXnon (sp : Sp) (t : TA) : TX := fun D R σ H => t σ H fun vs H1 => sp (vs ++ []) H1 (fun v H' => v = .non ∧ D.nx σ H') fun _ c H' => ∃ C, c = some C ∧ R C σ H'
def tTry (K : PySem.W.Frag) (J : Addr) (j : Nat) (t : TX) (u : TS) : TS := fun D σ H =>
  t D (fun C σ' H' => PySem.W.exmOne K (.ref C) (.ref J) = some true ∧ ∀ x, H' x = none → u { nx := fun σ2 H2 => D.nx (σ2.set j none) H2, rt := D.rt, bk := fun σ2 H2 => D.bk (σ2.set j none) H2, ct := fun σ2 H2 => D.ct (σ2.set j none) H2 } (σ'.set j (some (.ref x))) (upd H' x (excO x C))) σ H
section
variable {X : Cx} {pins : List (Addr × Obj)} {σ : St} {Hc H : Hp} {sc s : Shared} {x C : Addr} {fl : Value}
theorem Inv.unheld (I' : Inv (X.held x) pins σ H s) (ok : X.Ok) : Inv X pins σ H s :=
  ⟨ok, I'.os, I'.bare, I'.base, I'.loc, I'.cell, I'.free, I'.freeC, I'.pin, I'.hok, I'.len⟩
theorem ps_try {j : Nat} {n J : Str} {Ja : Addr} {t : TX} {u : TS} {body : List Stmt} {b0 : Stmt} {suite : List Stmt} {p hp pos : Pos} (hN : X.N.Nodup) (hj : X.N[j]? = some n) (hl : X.env.scope.names.lookup n = some .local) (hno : ∀ e s, X.xe e s → False)
    (hst : X.stack = X.env :: X.outer) (hfr : X.env.frame = some X.env.locals) (hb : PX X body t) (hg : Gl X J) (hm : X.mg J = some (.ref Ja)) (hs : ∀ x, PSs (X.held x) (b0 :: suite) u) (hd : (J == ("__debug__" : Str)) = false := by decide) :
    PS X (.Try body [.ExceptHandler (some (.Name J p)) (some n) (b0 :: suite) hp] [] [] pos) (tTry X.K Ja j t u) := by
  intro pins s σ H D I h
  refine wpAny_Try_except (wpAny_mono (hb pins s σ H _ _ I h) (fun f s1 q => ?_) fun ev s1 q => ?_)
  · cases f with
    | next => exact wpAny_execs_nil q
    | brk => exact q
    | cont => exact q
    | ret u => exact q
  · obtain ⟨x, C, σ', Hc, sc, H', rfl, F, hk, hR⟩ := q
    refine fly_note F I.ok.frames hst hfr fun s2 F2 => fly_land F2 fun s3 F3 => ?_
    have I3 : Inv (X.held x) pins σ' H' s3 := F3.inv.held x
    refine wpAny_handleBy_cons (codeAny_handlers_test (ld_glob (X := X.held x) I3 hg hm ?_ hd)) (by intro z; cases z)
    obtain ⟨T, ⟨oe, vs, a0, oT, ts, h1, h2, _⟩, _⟩ := F3.tr
    have LT : PySem.W.Looks (model X.prog X.w) s3.heap (typeOf (.ref x)) (.ref C) := by
      have := (PySem.W.Looks.ld (M := model X.prog X.w) (part := none) h1).andThen (f := fun o => (pure o.cls : Sem Value)) (PySem.W.Looks.now)
      rw [h2] at this
      exact this
    refine (PySem.W.exm_one I3.kIn LT hk).here ?_
    refine codeAny_handlers_suite_as (fly_land F3 fun s4 F4 => ?_)
    have I4 : Inv (X.held x) pins σ' (upd H' x (excO x C)) s4 := F4.known.held x
    refine store_ok (X := X.held x) I4 hN hj (.inl hl) (v := .ref x) rfl (fun s5 I5 => ?_) (.inr hl)
    refine wpAny_mono (hs x pins s5 _ _ _ I5 (hR x F4.hx)) (fun f s6 q => ?_) fun e s6 z => (hno e s6 z).elim
    have goes : ∀ {σ2 H2} {Q : Prop} {G : Shared → Prop} {p : Pos}, Inv (X.held x) pins σ2 H2 s6 → (∀ s', Inv X pins (σ2.set j none) H2 s' → G s') → wpAny (model X.prog X.w) X.A (do bindName X.env n .none; unbindBehindTheSuite X.env n p) (fun _ s' => G s') X.xe s6 := by
      intro σ2 H2 _ G p I6 k
      have I7 := I6.unheld I.ok
      obtain ⟨m, hm, hlo⟩ := I7.loc
      refine wpAny_nameGoes_keeps (m := m) (by unfold Env.kindOf; exact hl) hm (by rw [I.ok.kind]; rfl) fun h' v hn hs => k _ (I7.gone hN hj hm hlo hn hs)
    cases f with
    | next => obtain ⟨σ2, H2, I6, q⟩ := q; exact goes (Q := True) I6 fun s' I' => ⟨_, H2, I', q⟩
    | brk => obtain ⟨σ2, H2, I6, q⟩ := q; exact goes (Q := True) I6 fun s' I' => ⟨_, H2, I', q⟩
    | cont => obtain ⟨σ2, H2, I6, q⟩ := q; exact goes (Q := True) I6 fun s' I' => ⟨_, H2, I', q⟩
    | ret u => obtain ⟨v, σ2, H2, I6, r, q⟩ := q; exact goes (Q := True) I6 fun s' I' => ⟨v, _, H2, I', r, q⟩
end
end L2
namespace L2
open PySem PySem.Spec PyProof.Rows PySem.W PySem.Calls Builtin Builtin.ObjectAttr Builtin.Getset_descriptor
structure ExcCls (K : Frag) (C : Addr) : Prop where
  ga : findIn K (.ref C) "__getattribute__" = some (some (.builtin "BaseException.__getattribute__"))
  gn : findIn K (.ref C) "__getattr__" = some none
  ca : findIn K (.ref C) "__class__" = some (some (.builtin "object.__class__"))
  mo : mroIn K C (.type "object") = some true
  mb : mroIn K C (.type "BaseException") = some true
  is : (clsIn K C).isSome = true
section
variable {prog : Program} {w : World} {A : Around} {E : Value → Shared → Prop} {h : Heap} {g : Array GenState} {d : Drawn} {t : Nat} {os : OsState} {x C : Addr} {o : Obj} {K : Frag} {R : Result → Shared → Prop}
theorem xc_ty {M : Model} (hx : h.get? x = some o) (hc : o.cls = .ref C) : Looks M h (typeOf (.ref x)) (.ref C) := hc ▸ (Looks.ld hx).andThen .now
theorem xc_get {tp : Value} (X : K.In h) (ec : ExcCls K C) (hx : h.get? x = some o) (hc : o.cls = .ref C) (hq : R (.ok (.ret (.ref C))) ⟨h, g, d, t, os⟩) :
    codeAny (model prog w) A (.call (.builtin "getset_descriptor.__get__") ⟨[.builtin "object.__class__", .ref x, tp], []⟩) R ⟨h, g, d, t, os⟩ := by
  have L0 := xc_ty (M := model prog w) hx hc
  have L1 := looks_mroIn (M := model prog w) X ec.mo
  refine codeAny_call_builtin KF.slot_gs.plain KF.entry_gs (KF.slot_gs.check _ _ _ _ _ _ _ _ KF.type_class (KF.args_gs _ _ _) ?_)
  unfold Builtin.«getset_descriptor.__get__» descrGet
  rw [dga_obj]
  refine wpAny_bind (wpAny_pure ?_)
  unfold descrGetter descrCheckInstance descrNameAndClass isInstance
  simp only [KF.owner_class]
  repeat lk
  refine ⟨Code.quiet_builtin _ (by decide +kernel), codeAny_builtin KF.entry_class ?_⟩
  unfold Builtin.«object.__class__» shownTypeOf
  repeat lk
  exact hq
theorem xc_entry {tk : Tok} {Q : Fin → Shared → Prop} (X : K.In h) (ec : ExcCls K C) (hx : h.get? x = some o) (hc : o.cls = .ref C) (hq : Q (.done (.ret (.ref C))) ⟨h, g, d, t, os⟩) :
    wpAny (model prog w) A (Builtin.«object.__getattribute__» ⟨[.ref x, .str "__class__" tk], []⟩) Q E ⟨h, g, d, t, os⟩ := by
  have L0 := xc_ty (M := model prog w) hx hc
  have L1 := looks_findIn (M := model prog w) X ec.ca
  have hT5 : (⟨h, g, d, t, os⟩ : Shared).TypeIs (.builtin "object.__class__") "getset_descriptor" := F.typeOf_object_class
  have f5 := F.typeOf_object_class
  have f6 := F.slot_gs_get.lookup
  have f7 := F.slot_gs_set.lookup
  repeat (any_goals (first | assumption | with_reducible refine Looks.at L0 ?_ | with_reducible refine Looks.at L1 ?_ | wp_step))
  refine xc_get X ec hx hc ?_
  repeat (any_goals (first | assumption | wp_step))
theorem xc_check {M : Model} {nameV : Value} {Q : Unit → Shared → Prop} (X : K.In h) (ec : ExcCls K C) (hx : h.get? x = some o) (hc : o.cls = .ref C) (hq : Q () ⟨h, g, d, t, os⟩) :
    wpAny M A (checkBuiltinCall "BaseException.__getattribute__" ⟨[.ref x, nameV], []⟩) Q E ⟨h, g, d, t, os⟩ := by
  have hk : builtinKind "BaseException.__getattribute__" = some .slot := by decide +kernel
  have hsplit : splitId "BaseException.__getattribute__" = some ("BaseException", "__getattribute__") := by decide +kernel
  have L0 := xc_ty (M := M) hx hc
  have L1 := looks_mroIn (M := M) X ec.mb
  have ha := F.args_bexc_ga (.ref x) nameV
  simp only [checkBuiltinCall, hk, hsplit]
  refine wpAny_bind ?_
  · unfold isInstance
    repeat (first | with_reducible refine Looks.at L0 ?_ | with_reducible refine Looks.at L1 ?_ | wp_step)
    exact hq
theorem xc_call {tk : Tok} (X : K.In h) (ec : ExcCls K C) (hx : h.get? x = some o) (hc : o.cls = .ref C) (hq : R (.ok (.ret (.ref C))) ⟨h, g, d, t, os⟩) :
    codeAny (model prog w) A (.call (.builtin "BaseException.__getattribute__") ⟨[.ref x, .str "__class__" tk], []⟩) R ⟨h, g, d, t, os⟩ :=
  codeAny_call_builtin F.excAttr_ValueError.ga.plain F.entry_bexc_ga (xc_check X ec hx hc (xc_entry X ec hx hc hq))
theorem xc_by {tk : Tok} {fill expr : Bool} {Q : Value → Shared → Prop} (X : K.In h) (ec : ExcCls K C) (hx : h.get? x = some o) (hc : o.cls = .ref C) (hq : Q (.ref C) ⟨h, g, d, t, os⟩) :
    wpAny (model prog w) A (getAttrBy (.ref x) (.str "__class__" tk) fill expr) Q E ⟨h, g, d, t, os⟩ := by
  have L0 := xc_ty (M := model prog w) hx hc
  have L1 := looks_findIn (M := model prog w) X ec.ga
  have L2 := looks_findIn (M := model prog w) X ec.gn
  have f3 := F.excAttr_ValueError.ga.bind (.ref x)
  have hx0 : (expr && onTheHeap (Value.builtin "BaseException.__getattribute__")) = false := by cases expr <;> rfl
  have hx2 : (Value.builtin "BaseException.__getattribute__" == Value.builtin "object.__getattribute__") = false := by decide +kernel
  have hx1 : (onTheHeap (Value.ref C) && Value.builtin "BaseException.__getattribute__" == Value.builtin "object.__getattribute__") = false := by rw [hx2]; rfl
  repeat (any_goals (first | assumption | with_reducible refine Looks.at L0 ?_ | with_reducible refine Looks.at L1 ?_ | with_reducible refine Looks.at L2 ?_ | wp_step))
  refine xc_call X ec hx hc ?_
  repeat (any_goals (first | assumption | wp_step))
theorem xc_attr {Q : Option Value → Shared → Prop} (X : K.In h) (ec : ExcCls K C) (hx : h.get? x = some o) (hc : o.cls = .ref C) (hq : Q (some (.ref C)) ⟨h, g, d, t + 1, os⟩) :
    wpAny (model prog w) A (getAttr? (.ref x) "__class__") Q E ⟨h, g, d, t, os⟩ := by
  unfold getAttr? getAttrBy?
  repeat (any_goals (first | assumption | with_reducible apply xc_by X ec hx hc | wp_step))
theorem kitx_exc (ec : ExcCls K C) : KitX K (.ref x) (.ref C) (fun h => ∃ o, h.get? x = some o ∧ o.cls = .ref C) where
  ty := fun _ _ _ ⟨o, hx, hc⟩ => xc_ty hx hc
  it := fun _ _ X _ => by
    have := ec.is
    unfold clsIn at this
    split at this
    · rename_i c' d' cd' sl' ho
      intro A' Q' E' s' k q
      unfold isType loadHead
      exact wpAny_bind (wpAny_loadPart (k _ _ (X _ _ ho)) (wpAny_pure q))
    · cases this
  ne := fun h tp dd its n sl X htp => by
    have := ec.is
    refine Bool.eq_false_iff.mpr fun q => ?_
    have e : C = tp := Value.ref.inj (beq_iff_eq.mp q)
    subst e
    unfold clsIn at this
    split at this
    · rename_i c' d' cd' sl' ho
      have z := (X _ _ ho).symm.trans htp
      cases z
    · cases this
  ca := fun {_ _ _ _ _ s} X ⟨o, hx, hc⟩ k => by
    obtain ⟨h, g, d, t, os⟩ := s
    exact xc_attr X ec hx hc k
end
end L2
namespace L2
open PySem PySem.Spec PyProof.Rows PySem.W
theorem tail_has {K : Frag} {bmB : List Value} {x : Value} (hb : bmB.contains x = true) : ∀ {l : List Value}, tailIn K bmB l = true → l.contains x = true
  | [], e => by rw [beq_iff_eq.mp (show (bmB == []) = true from e)] at hb; exact hb
  | v :: r, e => by
    unfold tailIn at e
    rcases Bool.or_eq_true_iff.mp e with q | q
    · rw [beq_iff_eq.mp q]; exact hb
    · split at q
      · split at q
        · simp only [Bool.and_eq_true] at q
          rw [List.contains_cons, tail_has hb q.2, Bool.or_true]
        · cases q
      · cases q
def nsMapIn (K : Frag) (N : Addr) (x : Str) : Option Value := match K.lookup N with
  | some o => (match o.data with | .dict es _ => nsFind es x | _ => none)
  | none => none
theorem nsMapIn_eq {K : Frag} {h : Heap} {N : Addr} (X : K.In h) (e : nsOkIn K N = true) : h.nsMap N = nsMapIn K N := by
  unfold nsOkIn at e
  split at e
  · rename_i ho
    funext x
    unfold nsMapIn Heap.nsMap
    rw [X _ _ ho, ho]
  · cases e
theorem nsMapIn_none {K : Frag} {N : Addr} {x : Str} (q : nsIn K N x = some none) : nsMapIn K N x = none := by
  unfold nsIn at q
  unfold nsMapIn
  split at q
  · rename_i c d es n sl ho
    rw [ho]
    show nsFind es x = none
    split at q
    · cases q
    · rename_i he
      unfold nsFind findBy
      rw [← Array.find?_toList, he]
      rfl
  · cases q
theorem OwnExc.of {K : Frag} {C : Addr} (q : excIn K C bmVE "ValueError.__new__" = true) : OwnExc K C := by
  unfold excIn at q
  split at q
  · rename_i dd cd sl ho
    split at q
    · rename_i C' bm k0 k1 k2 k3 n k5 hm hs
      simp only [Bool.and_eq_true, beq_iff_eq, Bool.not_eq_true'] at q
      obtain ⟨⟨⟨⟨⟨rfl, rfl⟩, hdel⟩, ht⟩, hok⟩, hni⟩ := q
      obtain ⟨nm, bs, mro, ns, qn, hd, sn, sub, ab, col, del⟩ := cd
      dsimp only at hm hdel hok hni
      subst hm hdel
      have hsl : sl = #[k0, k1, k2, k3, some (.builtin "ValueError.__new__"), k5] := by
        obtain ⟨l⟩ := sl
        simp only at hs
        rw [hs]
      subst hsl
      refine ⟨nm, qn, ns, bs, bm, hd, sn, sub, ab, col, dd, k0, k1, k2, k3, k5, nsMapIn K ns, nsMapIn_none hni, tail_has (by decide +kernel) ht, fun h X => ⟨X _ _ ho, ?_, tail_of_in X ht⟩⟩
      have := Heap.Ns.of_isNs (isNs_of_in X hok)
      rw [nsMapIn_eq X hok] at this
      exact this
    · cases q
  · cases q
def clsV : V → Value
  | .ref a => .ref a
  | .ty n => .type n
  | _ => .none
section
variable {X : Cx}
theorem call_isinstX (K : Frag) (hK : X.K = K) : CallR X (.builtin "isinstance") (fun xs H Q => ∃ x C c b, xs = [.ref x, c] ∧ H x = some (excO x C) ∧ ExcCls K C ∧ RelV c (clsV c) ∧ kitOne K (.ref C) (clsV c) = some b ∧ Q (.bl b) H) := by
  subst hK
  intro pins s σ H xs us Q I r h
  obtain ⟨x, C, c, b, rfl, hx, ec, rc, e, q⟩ := h
  obtain ⟨u, w', rfl, ru, rw'⟩ := vals2 r
  have e1 : u = .ref x := ru
  subst e1
  have e2 : w' = clsV c := by
    cases c with
    | ref a => exact rw'
    | ty n => exact rw'
    | non => exact rw'
    | bl b => exact nomatch (show Value.none = Value.bool b from rc)
    | int i => obtain ⟨t, z⟩ := (show ∃ t, Value.none = Value.int i t from rc); cases z
    | str i => obtain ⟨t, z⟩ := (show ∃ t, Value.none = Value.str i t from rc); cases z
    | byt i => obtain ⟨t, z⟩ := (show ∃ t, Value.none = Value.bytes i t from rc); cases z
    | flt i => obtain ⟨t, z⟩ := (show ∃ t, Value.none = Value.float i t from rc); cases z
  subst e2
  exact kia_one (kitx_exc ec) I.kIn (I.hok x _ hx).1 e (fun z => nomatch z) fun tk => ⟨.bl b, H, I.tok _, rfl, q⟩
end
end L2
namespace L2
open PySem PySem.Spec PyProof.Rows PySem.W PySem.NumText
structure Ec where
  (bad twice noown nopart novoy badnum much rows deed paper jett : Addr)
structure Told (K : Frag) (e : Ec) (C : Addr) (i : Nat) : Prop where
  ec : ExcCls K C
  jt : exmOne K (.ref C) (.ref e.jett) = some true
  ve : kitOne K (.ref C) (.type "ValueError") = some true
  k0 : kitOne K (.ref C) (.ref e.bad) = some (decide (0 = i))
  k1 : kitOne K (.ref C) (.ref e.twice) = some (decide (1 = i))
  k2 : kitOne K (.ref C) (.ref e.noown) = some (decide (2 = i))
  k3 : kitOne K (.ref C) (.ref e.nopart) = some (decide (3 = i))
  k4 : kitOne K (.ref C) (.ref e.novoy) = some (decide (4 = i))
  k5 : kitOne K (.ref C) (.ref e.badnum) = some (decide (5 = i))
  k6 : kitOne K (.ref C) (.ref e.much) = some (decide (6 = i))
  k7 : kitOne K (.ref C) (.ref e.rows) = some (decide (7 = i))
  k8 : kitOne K (.ref C) (.ref e.deed) = some (decide (8 = i))
  k9 : kitOne K (.ref C) (.ref e.paper) = some (decide (9 = i))
def hotB (i : Nat) : List Bool := true :: (List.range 10).map fun k => decide (k = i)
def hotV (i : Nat) : List V := (hotB i).map V.bl
theorem Told.of {K : Frag} {e : Ec} {C : Addr} {i : Nat} {b0 b1 b2 b3 b4 b5 b6 b7 b8 b9 : Bool} (ga : findIn K (.ref C) "__getattribute__" = some (some (.builtin "BaseException.__getattribute__"))) (gn : findIn K (.ref C) "__getattr__" = some none) (ca : findIn K (.ref C) "__class__" = some (some (.builtin "object.__class__")))
    (mo : mroIn K C (.type "object") = some true) (mb : mroIn K C (.type "BaseException") = some true) (jt : exmOne K (.ref C) (.ref e.jett) = some true) (ve : kitOne K (.ref C) (.type "ValueError") = some true)
    (k0 : kitOne K (.ref C) (.ref e.bad) = some b0) (k1 : kitOne K (.ref C) (.ref e.twice) = some b1) (k2 : kitOne K (.ref C) (.ref e.noown) = some b2) (k3 : kitOne K (.ref C) (.ref e.nopart) = some b3) (k4 : kitOne K (.ref C) (.ref e.novoy) = some b4)
    (k5 : kitOne K (.ref C) (.ref e.badnum) = some b5) (k6 : kitOne K (.ref C) (.ref e.much) = some b6) (k7 : kitOne K (.ref C) (.ref e.rows) = some b7) (k8 : kitOne K (.ref C) (.ref e.deed) = some b8) (k9 : kitOne K (.ref C) (.ref e.paper) = some b9)
    (h : [b0, b1, b2, b3, b4, b5, b6, b7, b8, b9] = (List.range 10).map fun k => decide (k = i)) : Told K e C i := by
  have h' : [b0, b1, b2, b3, b4, b5, b6, b7, b8, b9] = [decide (0 = i), decide (1 = i), decide (2 = i), decide (3 = i), decide (4 = i), decide (5 = i), decide (6 = i), decide (7 = i), decide (8 = i), decide (9 = i)] := h
  simp only [List.cons.injEq, and_true] at h'
  obtain ⟨rfl, rfl, rfl, rfl, rfl, rfl, rfl, rfl, rfl, rfl⟩ := h'
  have is : (clsIn K C).isSome = true := by
    unfold mroIn at mo
    obtain ⟨cd, a, b⟩ := Option.bind_eq_some_iff.mp mo
    rw [a]; rfl
  exact ⟨⟨ga, gn, ca, mo, mb, is⟩, jt, ve, k0, k1, k2, k3, k4, k5, k6, k7, k8, k9⟩
end L2
namespace L2
open PySem PySem.Spec PyProof.Rows PySem.W PySem.NumText
def tIsi (K : Frag) (j : Nat) (c : V) : TE := tCB (fun xs H Q => ∃ x C c b, xs = [.ref x, c] ∧ H x = some (excO x C) ∧ ExcCls K C ∧ RelV c (clsV c) ∧ kitOne K (.ref C) (clsV c) = some b ∧ Q (.bl b) H) (tCons (tVar j) (tCons (tC c) tNil))
def tTold (K : Frag) (e : Ec) (i j : Nat) : TS :=
  tSeq (tAsg (tLst (tCons (tIsi K j (.ty "ValueError")) (tCons (tIsi K j (.ref e.bad)) (tCons (tIsi K j (.ref e.twice)) (tCons (tIsi K j (.ref e.noown)) tNil))))) (gName i))
    (tSeq (tAsg (tOp rCat (tVar i) (tLst (tCons (tIsi K j (.ref e.nopart)) (tCons (tIsi K j (.ref e.novoy)) (tCons (tIsi K j (.ref e.badnum)) tNil))))) (gName i))
      (tAsg (tOp rCat (tVar i) (tLst (tCons (tIsi K j (.ref e.much)) (tCons (tIsi K j (.ref e.rows)) (tCons (tIsi K j (.ref e.deed)) (tCons (tIsi K j (.ref e.paper)) tNil)))))) (gName i)))
section
theorem told_suite {K : Frag} {e : Ec} {i j n : Nat} {D : Ends} {σ : St} {H : Hp} {x C : Addr} (to : Told K e C n) (hj : σ[j]? = some (some (.ref x))) (hi : i < σ.length) (hij : i ≠ j) (hx : H x = some (excO x C))
    (q : ∀ l H', Same H H' → H' l = some (.lst (hotV n)) → D.nx (σ.set i (some (.ref l))) H') : tTold K e i j D σ H := by
  have set_i : ∀ (σ : St) (v : V), i < σ.length → (σ.set i (some v))[i]? = some (some v) := fun σ v h => List.getElem?_set_self h
  have set_j : ∀ (σ : St) (v : V), σ[j]? = some (some (.ref x)) → (σ.set i (some v))[j]? = some (some (.ref x)) := fun σ v h => by rw [List.getElem?_set_ne hij]; exact h
  refine ⟨_, hj, x, C, _, _, rfl, hx, to.ec, rfl, to.ve, ?_⟩
  refine ⟨_, hj, x, C, _, _, rfl, hx, to.ec, rfl, to.k0, ?_⟩
  refine ⟨_, hj, x, C, _, _, rfl, hx, to.ec, rfl, to.k1, ?_⟩
  refine ⟨_, hj, x, C, _, _, rfl, hx, to.ec, rfl, to.k2, ?_⟩
  refine ⟨(show 4 ≤ sizeLine from by rw [sizeLine_eq]; decide), fun p1 hp1 => ?_⟩
  generalize hH1 : upd H p1 (HO.lst _) = H1
  have hH1' : upd H p1 (.lst [V.bl true, V.bl (decide (0 = n)), V.bl (decide (1 = n)), V.bl (decide (2 = n))]) = H1 := hH1
  have g1 : Same H H1 := hH1' ▸ same_new hp1 _
  have h1 : H1 p1 = some (.lst [V.bl true, V.bl (decide (0 = n)), V.bl (decide (1 = n)), V.bl (decide (2 = n))]) := by rw [← hH1', upd_same]
  clear hH1 hH1'
  have hj1 := set_j σ (.ref p1) hj
  have hx1 := g1 _ _ hx
  refine ⟨_, set_i _ _ hi, ?_⟩
  refine ⟨_, hj1, x, C, _, _, rfl, hx1, to.ec, rfl, to.k3, ?_⟩
  refine ⟨_, hj1, x, C, _, _, rfl, hx1, to.ec, rfl, to.k4, ?_⟩
  refine ⟨_, hj1, x, C, _, _, rfl, hx1, to.ec, rfl, to.k5, ?_⟩
  refine ⟨(show 3 ≤ sizeLine from by rw [sizeLine_eq]; decide), fun p2 hp2 => ?_⟩
  generalize hH2 : upd H1 p2 (HO.lst _) = H2
  have hH2' : upd H1 p2 (.lst [V.bl (decide (3 = n)), V.bl (decide (4 = n)), V.bl (decide (5 = n))]) = H2 := hH2
  have g2 : Same H1 H2 := hH2' ▸ same_new hp2 _
  have h2 : H2 p2 = some (.lst [V.bl (decide (3 = n)), V.bl (decide (4 = n)), V.bl (decide (5 = n))]) := by rw [← hH2', upd_same]
  clear hH2 hH2'
  refine ⟨p1, p2, _, _, rfl, rfl, g2 _ _ h1, h2, (show 4 + 3 ≤ sizeLine from by rw [sizeLine_eq]; decide), fun p3 hp3 => ?_⟩
  generalize hH3 : upd H2 p3 (HO.lst _) = H3
  have hH3' : upd H2 p3 (.lst [V.bl true, V.bl (decide (0 = n)), V.bl (decide (1 = n)), V.bl (decide (2 = n)), V.bl (decide (3 = n)), V.bl (decide (4 = n)), V.bl (decide (5 = n))]) = H3 := hH3
  have g3 : Same H2 H3 := hH3' ▸ same_new hp3 _
  have h3 : H3 p3 = some (.lst [V.bl true, V.bl (decide (0 = n)), V.bl (decide (1 = n)), V.bl (decide (2 = n)), V.bl (decide (3 = n)), V.bl (decide (4 = n)), V.bl (decide (5 = n))]) := by rw [← hH3', upd_same]
  clear hH3 hH3'
  have hj3 := set_j _ (.ref p3) hj1
  have hx3 := g3 _ _ (g2 _ _ hx1)
  refine ⟨_, set_i _ _ (by rw [List.length_set]; exact hi), ?_⟩
  refine ⟨_, hj3, x, C, _, _, rfl, hx3, to.ec, rfl, to.k6, ?_⟩
  refine ⟨_, hj3, x, C, _, _, rfl, hx3, to.ec, rfl, to.k7, ?_⟩
  refine ⟨_, hj3, x, C, _, _, rfl, hx3, to.ec, rfl, to.k8, ?_⟩
  refine ⟨_, hj3, x, C, _, _, rfl, hx3, to.ec, rfl, to.k9, ?_⟩
  refine ⟨(show 4 ≤ sizeLine from by rw [sizeLine_eq]; decide), fun p4 hp4 => ?_⟩
  generalize hH4 : upd H3 p4 (HO.lst _) = H4
  have hH4' : upd H3 p4 (.lst [V.bl (decide (6 = n)), V.bl (decide (7 = n)), V.bl (decide (8 = n)), V.bl (decide (9 = n))]) = H4 := hH4
  have g4 : Same H3 H4 := hH4' ▸ same_new hp4 _
  have h4 : H4 p4 = some (.lst [V.bl (decide (6 = n)), V.bl (decide (7 = n)), V.bl (decide (8 = n)), V.bl (decide (9 = n))]) := by rw [← hH4', upd_same]
  clear hH4 hH4'
  refine ⟨p3, p4, _, _, rfl, rfl, g4 _ _ h3, h4, (show 7 + 4 ≤ sizeLine from by rw [sizeLine_eq]; decide), fun p5 hp5 => ?_⟩
  have g5 := same_new hp5 (.lst (hotV n))
  have := q p5 (upd H4 p5 (.lst (hotV n))) (g1.trans (g2.trans (g3.trans (g4.trans g5)))) upd_same
  show D.nx (((σ.set i _).set i _).set i _) _
  rw [List.set_set, List.set_set]
  exact this
end
end L2
namespace L2
open PySem PySem.Spec PyProof.Rows
structure Mx (P : Program) (w : World) (K : PySem.W.Frag) (mg : Str → Option Value) (base : Heap) (k : Nat) (C : Addr) (m : Str) (ps : List Str) (sp : Sp) : Prop where
  ex : ∃ f fd, FnOk P w K mg base (CX1 P w) k f fd ps sp ∧ Binds K fd ps [] ∧ Meth K C m f ∧ Cls K C
theorem AtM.okX {P : Program} {w : World} {K : PySem.W.Frag} {mg : Str → Option Value} {base : Heap} {C : Addr} {m qual : Str} {st : Stmt} {f : Addr} {fd : FuncData} {N ps : List Str} {k : Nat} {sp : Sp} (F : AtM K C m qual st f fd) (S : FnScope N ps (defScope st)) (len : ∀ vs H Q E, sp vs H Q E → vs.length = ps.length)
    (hbody : ∀ (cdv : Value) (A : Around) (outer : List Env) (s : Shared) (H : Hp) (vs : List V) (Q : VK) (E : XK), Room k (A.deeper (envOfC qual (defScope st) s.heap.objs.size f cdv)) → sp vs H Q E →
      ∃ t, PSs (cxOf (CX1 P w) P w K mg base N qual (defScope st) f cdv A outer s H E) (defBody st) t ∧ t { nx := fun _ H' => Q .non H', rt := Q } (start N vs) H)
    (h : ∀ (kV doc pm : Value) (an : Option Addr) (cdv ct : Value) (us : List Value), us.length = ps.length → bindArgs (PySem.W.fnOf m qual (defArgs st) (defBody st) (defScope st) .none kV doc pm an cdv ct) ⟨us, []⟩ = pure (ps.zip us)) :
    Mx P w K mg base (k + 1) C m ps sp := by
  refine ⟨f, fd, ?_, F.fn.binds h, F.me, F.cl⟩
  obtain ⟨oc, od, kV, doc, pm, an, cdv, ct, osl, rfl, lk, hcd⟩ := F.fn.ex
  exact fn_of lk hcd S len fun A outer s H vs Q E hr hsp => hbody cdv A outer s H vs Q E hr hsp
section
variable {P : Program} {w : World} {K : PySem.W.Frag} {mg : Str → Option Value} {base : Heap} {N : List Str} {qual : Str} {scope : Scope} {f : Addr} {cd : Value} {A : Around} {outer : List Env} {s0 : Shared} {H0 : Hp} {E : XK}
theorem pe_mthX {pl : Sem Bool} {j k : Nat} {C : Addr} {m : Str} {ps : List Str} {sp : Sp} {o e : Expr} {es : List Expr} {ta : TE} {t : TA} {apos pos : Pos} (D : Mx P w K mg base j C m ps sp) (hr : Room k (cxOf (CX1 P w) P w K mg base N qual scope f cd A outer s0 H0 E).A) (ho : PE (cxOf (CX1 P w) P w K mg base N qual scope f cd A outer s0 H0 E) o ta) (ha : PA (cxOf (CX1 P w) P w K mg base N qual scope f cd A outer s0 H0 E) (e :: es) t) (hj : j ≤ k := by decide)
    (hst : starEach (e :: es) (cxOf (CX1 P w) P w K mg base N qual scope f cd A outer s0 H0 E).env = (false, eval e (cxOf (CX1 P w) P w K mg base N qual scope f cd A outer s0 H0 E).env) :: starEach es (cxOf (CX1 P w) P w K mg base N qual scope f cd A outer s0 H0 E).env := by rfl) (hpl : (backTo pos (starEach es (cxOf (CX1 P w) P w K mg base N qual scope f cd A outer s0 H0 E).env)).any (·.1) = false := by rfl)
    (ht : eval (.Call (.Attribute o m apos) (e :: es) [] pos) (cxOf (CX1 P w) P w K mg base N qual scope f cd A outer s0 H0 E).env = (do
      let ov ← eval o (cxOf (CX1 P w) P w K mg base N qual scope f cd A outer s0 H0 E).env
      standAt apos.atName
      let (f2, first) ← holding [ov] (getMethod ov m pl)
      callWith pos f2 first (backTo pos (starEach (e :: es) (cxOf (CX1 P w) P w K mg base N qual scope f cd A outer s0 H0 E).env)) (backToKw pos (keywordEach [] (cxOf (CX1 P w) P w K mg base N qual scope f cd A outer s0 H0 E).env))) := by rfl) :
    PE (cxOf (CX1 P w) P w K mg base N qual scope f cd A outer s0 H0 E) (.Call (.Attribute o m apos) (e :: es) [] pos) (tMeth C m sp [] E ta t) := by
  obtain ⟨f', fd, F, b, hm, c⟩ := D.ex
  exact pe_meth (pl := pl) ho c hm F (hr.mono hj) b .nil pass1 ha hst hpl ht
end
section
variable {X : Cx}
theorem px_non {j k : Nat} {g : Str} {ps : List Str} {sp : Sp} {e : Expr} {es : List Expr} {t : TA} {p pos p2 p3 p4 : Pos} {kd : Nat} {body : List Stmt} (D : Dx X.prog X.w X.K X.mg X.base j g ps sp) (hr : Room k X.A) (hno : ∀ e s, X.xe e s → False) (ha : PA X (e :: es) t) (hj : j ≤ k := by decide) (hg : Gl X g := by rfl)
    (hdb : (g == ("__debug__" : Str)) = false := by decide) (he : starEach (e :: es) X.env = (false, eval e X.env) :: starEach es X.env := by rfl) (hpl : (backTo pos (starEach es X.env)).any (·.1) = false := by rfl) :
    PX X [.If (.Compare (.Call (.Name g p) (e :: es) [] pos) [.IsNot] [.Constant .none kd p2] p3) body [] p4] (tXnon sp t) := by
  intro pins s σ H Dn R I h
  refine wpAny_execs_cons (wpAny_If (wpAny_isTrue_Compare1 (wpAny_mono (callX D hr hno ha hj hg hdb he hpl I h) (fun v s1 ⟨y, H1, I1, r1, ey, q1⟩ => ?_) fun ev s1 ⟨x, C, Hc, sc, H', ev', F, hR⟩ => ⟨x, C, σ, Hc, sc, H', ev', F, hR⟩) (nobehind _ (by decide) (by decide))))
  subst ey
  cases r1
  exact Constant_none (isnot_none_gen (wpAny_truthy_bool (wpAny_execs_nil (wpAny_execs_nil ⟨_, H1, I1, q1⟩))))
end
def Ec.at (e : Ec) : Nat → Addr
  | 0 => e.bad | 1 => e.twice | 2 => e.noown | 3 => e.nopart | 4 => e.novoy | 5 => e.badnum | 6 => e.much | 7 => e.rows | 8 => e.deed | _ => e.paper
def Rf (e : Ec) (E : XK) (H : Hp) (i : Nat) : Prop := ∀ x H', Same H H' → E (.ref x) (some (e.at i)) H'
structure DoX (T : TC) (e : Ec) (n : Nat) (ρ : Rho) (A : HA) (H : Hp) (r : Option Nat) (st' : HS) (Q : VK) (E : XK) : Prop where
  no : ∀ i, r = some i → Rf e E H i
  ok : r = none → HPost T n ρ A H st' fun H' => Q .non H'
def newR (st : HS) (x : Str) : Option Nat := if isNm x = true then (if x ∈ st.nms then some 1 else none) else some 0
def signR (st : HS) (o : Str) : Option Nat := if isNm o = true then (if o ∈ st.own then some 1 else none) else some 0
def loadR (st : HS) (x o : Str) (wo we : Int) : Option Nat := match newR st x with
  | some i => some i
  | none => if o ∈ st.own then (if wo < 1 ∨ we < 0 then some 5 else none) else some 2
structure spSignX (T : TC) (e : Ec) (vs : List V) (H : Hp) (Q : VK) (E : XK) : Prop where
  ex : ∃ n ρ A st o, vs = [.ref A.a, .str o] ∧ HH T n ρ A H st ∧ o.cps.toList.length ≤ 100000 ∧ st.own.length < 100 ∧ DoX T e n ρ A H (signR st o) (signS st o) Q E
theorem signR_none {st : HS} {o : Str} (h1 : isNm o = true) (h2 : o ∉ st.own) : signR st o = none := by unfold signR; rw [if_pos h1, if_neg h2]
end L2
namespace L2
open PySem PySem.Spec PyProof.Rows PySem.NumText
end L2
namespace L2
open PySem PySem.Spec PyProof.Rows PySem.NumText
end L2
namespace L2
open PySem PySem.Spec PyProof.Rows PySem.NumText
end L2
namespace L2
open PySem PySem.Spec PyProof.Rows PySem.NumText
end L2
namespace L2
open PySem PySem.Spec PyProof.Rows PySem.NumText
structure spHot (vs : List V) (H : Hp) (Q : VK) (E : XK) : Prop where
  ex : ∃ n : Nat, vs = [.int (n : Int)] ∧ ∀ p H', Same H H' → H' p = some (.lst (hotV n)) → Q (.ref p) H'
theorem use_hot {H : Hp} {Q : VK} {E : XK} {n : Nat} {i : Int} (e : i = (n : Int)) (q : ∀ p H', Same H H' → H' p = some (.lst (hotV n)) → Q (.ref p) H') : spHot [.int i] H Q E := ⟨n, by rw [e], q⟩
end L2
namespace L2
open PySem PySem.Spec PyProof.Rows PySem.NumText
theorem bools_dt {K : PySem.W.Frag} {H : Hp} : ∀ bs : List Bool, DtA K H (bs.map V.bl) (bs.map PyData.bool)
  | [] => .nil
  | b :: bs => .cons (.bl b) (bools_dt bs)
end L2
namespace L2
open PySem PySem.Spec PyProof.Rows
inductive Dd where
  | sign (o : Str) | load (x o : Str) (wo we : Int) | cast (rs : List Row) | award (o : Str) (a : Int) | mishap (x : Str) (a : Int) | rise (x : Str) (a : Int) | hand (x o : Str) | land (x : Str) | sever (x y : Str) (a we : Int) | still
def flatR : List Row → List V
  | [] => []
  | r :: rs => .str r.1 :: .int r.2 :: flatR rs
def Dd.v : Dd → List V
  | .sign o => [.str "sign", .str o]
  | .load x o wo we => [.str "load", .str x, .str o, .int wo, .int we]
  | .cast rs => .str "cast" :: flatR rs
  | .award o a => [.str "award", .str o, .int a]
  | .mishap x a => [.str "mishap", .str x, .int a]
  | .rise x a => [.str "rise", .str x, .int a]
  | .hand x o => [.str "hand", .str x, .str o]
  | .land x => [.str "land", .str x]
  | .sever x y a we => [.str "sever", .str x, .str y, .int a, .int we]
  | .still => [.str "still"]
def nmsOf (st : HS) : List Str := st.pts.map fun p => p.nm
def rowR (st : HS) (r : Row) : Option Nat := if r.1 ∈ nmsOf st then (if r.2 < 1 then some 5 else if (pget st r.1).wo < r.2 then some 6 else none) else some 3
def castR (st : HS) (rs : List Row) : Option Nat := if rs ≠ [] ∧ (rs.map fun r : Row => r.1).Nodup then (match rs.findSome? (rowR st) with
  | some i => some i
  | none => if wholeS st ≤ lostS rs then some 6 else none) else some 7
def awardR (st : HS) (o : Str) (a : Int) : Option Nat := if o ∈ st.own then (if a < 1 then some 5 else if wholeS st ≤ a then some 6 else none) else some 2
def riseR (st : HS) (x : Str) (a : Int) : Option Nat := if x ∈ nmsOf st then (if a < 1 then some 5 else none) else some 3
def handR (st : HS) (x o : Str) : Option Nat := if x ∈ nmsOf st then (if o ∈ st.own then none else some 2) else some 3
def landR (st : HS) (x : Str) : Option Nat := if x ∈ nmsOf st then none else some 3
def severR (st : HS) (x y : Str) (a we : Int) : Option Nat := if x ∈ nmsOf st then (match newR st y with
  | some i => some i
  | none => if a < 1 ∨ we < 0 then some 5 else if (pget st x).wo ≤ a ∨ (pget st x).we < we then some 6 else none) else some 3
def refS (st : HS) : Dd → Option Nat
  | .sign o => signR st o
  | .load x o wo we => loadR st x o wo we
  | .cast rs => castR st rs
  | .award o a => awardR st o a
  | .mishap x a => rowR st (x, a)
  | .rise x a => riseR st x a
  | .hand x o => handR st x o
  | .land x => landR st x
  | .sever x y a we => severR st x y a we
  | .still => none
def awardS (st : HS) (o : Str) (a : Int) : HS := blendS st (wholeS st - a) (wholeS st) ((List.replicate st.own.length 0).set (st.own.idxOf o) (a * st.prod))
def onP (st : HS) (x : Str) (f : Pt → Pt) : HS := { st with pts := st.pts.map fun p => if p.nm = x then f p else p }
def riseS (st : HS) (x : Str) (a : Int) : HS := onP st x fun p => { p with wo := p.wo + a }
def handT (st : HS) (p : Pt) (o : Str) : List Int := ((topsS st p).set (st.own.idxOf o) ((topsS st p).getD (st.own.idxOf o) 0 + (topsS st p).getD (st.own.idxOf p.ow) 0)).set (st.own.idxOf p.ow) 0
def handS (st : HS) (x o : Str) : HS := if st.own.idxOf o = st.own.idxOf (pget st x).ow then st else onP st x fun p => { p with ow := o, sc := 1, row := beyS st (handT st p o) }
def landG (st : HS) (p : Pt) : List Int := List.zipWith (fun u t => u + p.wo * t) st.pur (topsS st p)
def landS (st : HS) (x : Str) : HS :=
  { st with pts := st.pts.filter (fun p => decide (p.nm ≠ x))
            ash := st.ash ++ [⟨x, (pget st x).ow, (pget st x).wo, shareS st (pget st x)⟩]
            kn := st.kn + 100
            pur := (landG st (pget st x)).set (st.own.idxOf (pget st x).ow) ((landG st (pget st x)).getD (st.own.idxOf (pget st x).ow) 0 - (pget st x).wo * st.prod) }
def severS (st : HS) (x y : Str) (a we : Int) : HS := stowS (onP st x fun p => { p with wo := p.wo - a, we := p.we - we }) ⟨y, (pget st x).ow, a, we, (pget st x).sc, (pget st x).row⟩
def doneS (st : HS) : Dd → HS
  | .sign o => signS st o
  | .load x o wo we => loadS st x o wo we
  | .cast rs => castS st rs
  | .award o a => awardS st o a
  | .mishap x a => lessS st (x, a)
  | .rise x a => riseS st x a
  | .hand x o => handS st x o
  | .land x => landS st x
  | .sever x y a we => severS st x y a we
  | .still => st
structure spHoldDo (T : TC) (e : Ec) (al : HS → Dd → Prop) (K : PySem.W.Frag) (vs : List V) (H : Hp) (Q : VK) (E : XK) : Prop where
  ex : ∃ n ρ A st z d, vs = [.ref A.a, .ref z] ∧ SqT K H z (Dd.v d) ∧ HH T n ρ A H st ∧ al st d ∧ DoX T e n ρ A H (refS st d) (doneS st d) Q E
structure spTried (T : TC) (al : HS → Dd → Prop) (K : PySem.W.Frag) (vs : List V) (H : Hp) (Q : VK) (E : XK) : Prop where
  ex : ∃ n ρ A st z d, vs = [.ref A.a, .ref z] ∧ SqT K H z (Dd.v d) ∧ HH T n ρ A H st ∧ al st d ∧ (∀ i, refS st d = some i → ∀ l H', Same H H' → H' l = some (.lst (hotV i)) → Q (.ref l) H') ∧
    (refS st d = none → ∀ l ρ' A' H', HH T n ρ' A' H' (doneS st d) → A'.a = A.a → Fr n ρ H ρ' H' → H' l = some (.lst []) → ρ' l = none → H l = none → Q (.ref l) H')
theorem signR_cases {st : HS} {o : Str} {i : Nat} (h : signR st o = some i) : i = 0 ∨ i = 1 := by
  unfold signR at h
  split at h
  · split at h <;> cases h; exact .inr rfl
  · cases h; exact .inl rfl
def al15 (st : HS) : Dd → Prop
  | .sign o => o.cps.toList.length ≤ 100000 ∧ st.own.length < 100
  | _ => False
theorem al15_told {K : PySem.W.Frag} {e : Ec} {st : HS} {d : Dd} {i : Nat} (t0 : Told K e e.bad 0) (t1 : Told K e e.twice 1) (ha : al15 st d) (hr : refS st d = some i) : Told K e (e.at i) i := by
  cases d with
  | sign o => rcases signR_cases hr with rfl | rfl <;> assumption
  | _ => exact ha.elim
end L2
namespace L2
open PySem PySem.Spec PyProof.Rows
def wl (s : Str) : Nat := s.cps.toList.length
theorem wl_tx (cs : List Nat) : wl (tx cs) = cs.length := by unfold wl; show cs.toArray.toList.length = _; simp
section
variable {X : Cx}
def rAddW : R2 := fun x y H Q => ∃ i j : Str, x = .str i ∧ y = .str j ∧ wl i + wl j ≤ 10000 ∧ ∀ r : Str, wl r = wl i + wl j → Q (.str r) H
theorem op_addW : OpR X (binaryOp .Add) rAddW := by
  intro pins s σ H x y v u Q I rx ry h
  obtain ⟨i, j, rfl, rfl, hz, q⟩ := h
  rw [← tx_eta i] at rx
  rw [← tx_eta j] at ry
  exact op_addT pins s σ H _ _ v u Q I rx ry ⟨_, _, rfl, rfl, Nat.le_trans hz (by decide), q _ (by rw [wl_tx, List.length_append]; rfl)⟩
def rSlW : V → Option Int → Option Int → Hp → VK → Prop := fun x lo hi H Q => ∃ i : Str, x = .str i ∧ wl i ≤ 10000 ∧ ∀ r : Str, wl r ≤ wl i → (∀ n : Nat, lo = none → hi = some (n : Int) → wl r ≤ n) → Q (.str r) H
theorem sl_strW : SlR X rSlW := by
  intro pins s σ H x v vl vu lo hi sl Q I rx hs pl pu h
  obtain ⟨i, rfl, hz, q⟩ := h
  rw [← tx_eta i] at rx
  refine sl_str pins s σ H _ v vl vu lo hi sl Q I rx hs pl pu ⟨_, rfl, by rw [sizeLine_eq]; exact Nat.le_trans hz (by decide), q _ ?_ ?_⟩
  · rw [wl_tx]; exact cutN_length _ _ _
  · rintro n rfl rfl
    rw [wl_tx, cutN_to, List.length_take]
    omega
theorem rep_len (cs : List Nat) : ∀ n : Nat, (List.replicate n cs).flatten.length = n * cs.length
  | 0 => by simp
  | n + 1 => by rw [List.replicate_succ, List.flatten_cons, List.length_append, rep_len cs n, Nat.succ_mul, Nat.add_comm]
def rRepW : R2 := fun x y H Q => ∃ (i : Str) (k : Int), x = .str i ∧ y = .int k ∧ 0 ≤ k ∧ k ≤ 1000 ∧ wl i ≤ 1000 ∧ ∀ r : Str, wl r = wl i * k.toNat → Q (.str r) H
theorem op_repW : OpR X (binaryOp .Mult) rRepW := by
  intro pins s σ H x y v u Q I rx ry h
  obtain ⟨i, k, rfl, rfl, h0, h1, h2, q⟩ := h
  rw [← tx_eta i] at rx
  have hm : wl i * k.toNat ≤ 1000 * 1000 := Nat.mul_le_mul h2 (by omega)
  refine op_repS pins s σ H _ _ v u Q I rx ry ⟨_, k, rfl, rfl, h0, by rw [sizeLine_eq]; exact Nat.le_trans hm (by decide), by omega, q _ ?_⟩
  rw [wl_tx, rep_len, Nat.mul_comm]; rfl
end
theorem atI_in {α : Type} {xs : List α} {i : Int} (h1 : -(xs.length : Int) ≤ i) (h2 : i < (xs.length : Int)) : ∃ v ∈ xs, atI xs i = some v := by
  unfold atI ixN
  by_cases h0 : 0 ≤ i
  · rw [if_pos h0, if_pos h2]
    have hj : i.toNat < xs.length := by omega
    exact ⟨xs[i.toNat], List.getElem_mem hj, List.getElem?_eq_getElem hj⟩
  · rw [if_neg h0, if_pos h1]
    have hj : (i + xs.length).toNat < xs.length := by omega
    exact ⟨xs[(i + xs.length).toNat], List.getElem_mem hj, List.getElem?_eq_getElem hj⟩
theorem isNm_strOk {x : Str} (h : isNm x = true) : PyData.strOk x = true := by
  unfold PyData.strOk
  rw [Array.all_eq_true']
  intro c hc
  unfold isNm isName at h
  have h1 := List.all_eq_true.mp (Bool.and_eq_true_iff.mp h).2 c (by simpa using hc)
  rw [inS_mem] at h1
  have hm := of_decide_eq_true h1
  have : ∀ c ∈ ("abcdefghijklmnopqrstuvwxyz" : Str).cps.toList, c < 1000 := by decide +kernel
  have := this c hm
  exact decide_eq_true (by omega)
theorem hot_ok : ∀ i : Fin 10, SeqAt.shaped (.list ((hotB i.val).map PyData.bool)) = true ∧ PyData.eqv (.list ((hotB i.val).map PyData.bool)) (.list ((hotB i.val).map PyData.bool)) = true := by decide +kernel
def told (r : Option Nat) : List Bool := match r with
  | some i => hotB i
  | none => []
def toldV (r : Option Nat) : List V := (told r).map V.bl
theorem told_dt {K : PySem.W.Frag} {H : Hp} (r : Option Nat) : DtA K H (toldV r) ((told r).map PyData.bool) := bools_dt _
theorem told_ok {r : Option Nat} (h : ∀ i, r = some i → i < 10) : SeqAt.shaped (.list ((told r).map PyData.bool)) = true ∧ PyData.eqv (.list ((told r).map PyData.bool)) (.list ((told r).map PyData.bool)) = true := by
  cases r with
  | none => exact ⟨rfl, rfl⟩
  | some i => exact hot_ok ⟨i, h i rfl⟩
end L2
namespace L2
open PySem PySem.Spec PyProof.Rows
def afterS (st : HS) (d : Dd) : HS := match refS st d with
  | some _ => st
  | none => doneS st d
theorem use_tried {T : TC} {al : HS → Dd → Prop} {K : PySem.W.Frag} {H : Hp} {Q : VK} {E : XK} {n : Nat} {ρ : Rho} {A : HA} {st : HS} {x z : Addr} {d : Dd} (ea : A.a = x) (hz : SqT K H z (Dd.v d)) (hh : HH T n ρ A H st) (ha : al st d)
    (q : ∀ l ρ' A' H', HH T n ρ' A' H' (afterS st d) → A'.a = x → Fr n ρ H ρ' H' → (∀ i, refS st d = some i → Same H H') → H' l = some (.lst (toldV (refS st d))) → Q (.ref l) H') : spTried T al K [.ref x, .ref z] H Q E := by
  subst ea
  refine ⟨n, ρ, A, st, z, d, rfl, hz, hh, ha, fun i hi l H' g hl => q l ρ A H' ?_ rfl (Fr.of_same g) (fun _ _ => g) ?_, fun hi l ρ' A' H' hh' ea' F hl _ _ => q l ρ' A' H' ?_ ea' F (fun i z => by rw [hi] at z; cases z) ?_⟩
  · unfold afterS; rw [hi]; exact hh.mono g
  · rw [hi]; exact hl
  · unfold afterS; rw [hi]; exact hh'
  · rw [hi]; exact hl
end L2
namespace L2
open PySem PySem.Spec PyProof.Rows
theorem ne_told {K : PySem.W.Frag} {H : Hp} {l l' : Addr} {r : Option Nat} {Q : VK} (h1 : H l = some (.lst (toldV r))) (h2 : H l' = some (.lst (toldV r))) (h : ∀ i, r = some i → i < 10) (q : Q (.bl false) H) : rNeD K (.ref l) (.ref l') H Q :=
  ⟨_, _, .lst (SqL.of h1) (told_dt r), .lst (SqL.of h2) (told_dt r), (told_ok h).1, (told_ok h).1, by rw [(told_ok h).2]; exact q⟩
theorem ne_strs {K : PySem.W.Frag} {H : Hp} {l l' : Addr} {xs : List Str} {Q : VK} (h1 : SqL K H l (xs.map V.str)) (h2 : SqL K H l' (xs.map V.str)) (h : ∀ x ∈ xs, PyData.strOk x = true) (q : Q (.bl false) H) : rNeD K (.ref l) (.ref l') H Q :=
  ⟨_, _, .lst h1 (dt_strs xs), .lst h2 (dt_strs xs), shaped_strs xs h, shaped_strs xs h, by rw [eqv_strs]; exact q⟩
theorem eq_strs {K : PySem.W.Frag} {H : Hp} {l l' : Addr} {xs : List Str} {Q : VK} (h1 : SqL K H l (xs.map V.str)) (h2 : SqL K H l' (xs.map V.str)) (h : ∀ x ∈ xs, PyData.strOk x = true) (q : Q (.bl true) H) : rEqD K (.ref l) (.ref l') H Q :=
  ⟨_, _, .lst h1 (dt_strs xs), .lst h2 (dt_strs xs), shaped_strs xs h, shaped_strs xs h, by rw [eqv_strs]; exact q⟩
end L2
namespace L2
open PySem PySem.Spec PyProof.Rows
section
variable {P : Program} {w : World} {K : PySem.W.Frag} {mg : Str → Option Value} {base : Heap} {k : Nat} {T : TC} {e : Ec} {ps : List Str}
end
end L2
namespace Law
open PySem L2
def top (i : Nat) : Stmt := PySem.Challenge.pw_jettison_k15_owners_sign.main.body.getD i (.Pass ⟨0, 0, 0, 0⟩)
section
variable {P : Program} {w : World} {K : PySem.W.Frag} {mg : Str → Option Value} {base : Heap} {f : Addr} {fd : FuncData}
abbrev sd_made_of : Stmt := top 21
abbrev N_made_of : List Str := ["text", "signs"]
abbrev P_made_of : List Str := ["text", "signs"]
theorem sc_made_of : FnScope N_made_of P_made_of (defScope sd_made_of) := ⟨rfl, rfl, rfl, by decide +kernel, rfl, by decide +kernel, by decide +kernel⟩
theorem ok_made_of (F : At K mg "made_of" sd_made_of f fd) (m_all : mg "all" = none) : Dn P w K mg base 1 "made_of" P_made_of spMadeOf := by
  refine F.ok sc_made_of (fun vs H Q E h => ?_) (fun cdv A outer s H vs Q E hr h => ?_) (fun _ _ _ _ _ _ us hl => match us, hl with | [_, _], _ => rfl)
  · obtain ⟨cs, signs, rfl, _⟩ := h.ex
    rfl
  obtain ⟨cs, signs, rfl, hl, q⟩ := h.ex
  refine ⟨_, (@pss_one _ _ _ (@ps_ret _ _ _ _ (@pe_callB _ _ _ _ _ _ _ _ _ (call_allK K rfl) (by rfl) m_all PyProof.Rows.boot_all (@pa_cons _ _ _ _ _ (@pe_comp _ _ _ _ _ _ ["sign", "signs"] [none, some 1] _ _ _ rfl (@pi_str _ _ _ _ (@pv _ 0 _ _ (by rfl) (by first | exact Or.inl rfl | exact Or.inr (Or.inl rfl) | exact Or.inr (Or.inr rfl)) (by decide) (by decide))) (fun _ _ _ _ => (@pg_name _ _ (0) _ (show List.Nodup (["sign", "signs"] : List Str) from by decide +kernel) rfl (Or.inl rfl) (by first | exact .inl rfl | exact .inr rfl | assumption))) (fun _ _ _ _ => (@pe_cmpR _ _ _ _ _ _ _ _ op_in_str (@pv _ 0 _ _ (by rfl) (by first | exact Or.inl rfl | exact Or.inr (Or.inl rfl) | exact Or.inr (Or.inr rfl)) (by decide) (by decide)) (@pv _ 1 _ _ (by rfl) (by first | exact Or.inl rfl | exact Or.inr (Or.inl rfl) | exact Or.inr (Or.inr rfl)) (by decide) (by decide)) (by with_unfolding_all rfl))) rfl (by rfl) (by intro _; rfl)) (@pa_nil _) (by rfl)) (by decide) (by decide) (by rfl) (by rfl)))), ?_⟩
  refine ⟨_, rfl, cs, rfl, fun acc hacc => ?_⟩
  refine comp_str (fun i out H1 => Same H H1 ∧ out = ((cs.take i).map (inS signs)).map V.bl) hl ⟨same_new hacc _, rfl⟩ ?_ ?_
  · rintro i c out H1 hx hol ha ⟨g, e⟩
    refine ⟨_, rfl, _, rfl, _, _, rfl, rfl, ha, g.upd_new hacc _, ?_⟩
    rw [e, List.take_add_one, hx, List.map_append, List.map_append]
    rfl
  rintro out H1 hol ha ⟨g, e⟩
  rw [List.take_length] at e
  refine ⟨acc, cs.map (inS signs), rfl, SqL.of (by rw [ha, e]), ?_⟩
  have e2 : (cs.map (inS signs)).all id = cs.all (inS signs) := by rw [List.all_map]; rfl
  rw [e2]
  exact q H1 g
abbrev sd_is_name : Stmt := top 20
abbrev N_is_name : List Str := ["text"]
abbrev P_is_name : List Str := ["text"]
theorem sc_is_name : FnScope N_is_name P_is_name (defScope sd_is_name) := ⟨rfl, rfl, rfl, by decide +kernel, rfl, by decide +kernel, by decide +kernel⟩
theorem ok_is_name {tk : Tok} (F : At K mg "is_name" sd_is_name f fd) (D_made_of : Dn P w K mg base 1 "made_of" ["text", "signs"] spMadeOf) (m_len : mg "len" = none) (m_LETTERS : mg "LETTERS" = some (.str "abcdefghijklmnopqrstuvwxyz" tk)) : Dn P w K mg base 2 "is_name" P_is_name spIsName := by
  refine F.ok sc_is_name (fun vs H Q E h => ?_) (fun cdv A outer s H vs Q E hr h => ?_) (fun _ _ _ _ _ _ us hl => match us, hl with | [_], _ => rfl)
  · obtain ⟨cs, rfl, _⟩ := h.ex
    rfl
  obtain ⟨cs, rfl, hl, q⟩ := h.ex
  refine ⟨_, (@pss_one _ _ _ (@ps_ret _ _ _ _ (@pe_and _ _ _ _ _ _ _ (@pe_chain _ _ _ _ _ _ _ _ _ _ _ _ op_le op_le (@pe_int _ _ _ _) (@pe_callB _ _ _ _ _ _ _ _ _ call_len_str (by rfl) m_len PySem.boot_len (@pa_cons _ _ _ _ _ (@pv _ 0 _ _ (by rfl) (by first | exact Or.inl rfl | exact Or.inr (Or.inl rfl) | exact Or.inr (Or.inr rfl)) (by decide) (by decide)) (@pa_nil _) (by rfl)) (by decide) (by decide) (by rfl) (by rfl)) (@pe_int _ _ _ _) (by with_unfolding_all rfl)) (@pe_one _ _ _ _ _ (@pe_fn _ _ _ _ _ _ _ _ _ _ _ D_made_of hr (@pa_cons _ _ _ _ _ (@pv _ 0 _ _ (by rfl) (by first | exact Or.inl rfl | exact Or.inr (Or.inl rfl) | exact Or.inr (Or.inr rfl)) (by decide) (by decide)) (@pa_cons _ _ _ _ _ (@pe_glob _ _ (.str "abcdefghijklmnopqrstuvwxyz") _ _ (by rfl) m_LETTERS ⟨_, rfl⟩ (by decide)) (@pa_nil _) (by rfl)) (by rfl)) (by decide) (by rfl) (by decide) (by rfl) (by rfl)))))), ?_⟩
  have hz : (tx cs).length ≤ sizeLine := by rw [tx_length, sizeLine_eq]; omega
  refine ⟨_, rfl, _, rfl, hz, _, _, rfl, rfl, _, rfl, ?_⟩
  rw [tx_length]
  refine ite2 (fun c => ?_) (fun c => ?_)
  · refine ⟨_, _, rfl, rfl, _, rfl, ite2 (fun c2 => ?_) (fun c2 => ?_)⟩
    · refine ⟨_, rfl, use_madeof hl fun H' g => ?_⟩
      have := q H' g
      unfold isName at this
      rw [c, c2, Bool.true_and, Bool.true_and] at this
      exact this
    · have := q H (Same.refl _)
      unfold isName at this
      rw [c, Bool.eq_false_iff.mpr c2, Bool.true_and, Bool.false_and] at this
      exact this
  · have := q H (Same.refl _)
    unfold isName at this
    rw [Bool.eq_false_iff.mpr c, Bool.false_and, Bool.false_and] at this
    exact ⟨_, rfl, iteF this⟩
abbrev sd_Bottom_init : Stmt := inClass (top 4) 0
abbrev N_Bottom_init : List Str := ["self"]
abbrev P_Bottom_init : List Str := ["self"]
theorem sc_Bottom_init : FnScope N_Bottom_init P_Bottom_init (defScope sd_Bottom_init) := ⟨rfl, rfl, rfl, by decide +kernel, rfl, by decide +kernel, by decide +kernel⟩
theorem ok_Bottom_init {T : TC} (F : AtC K mg "Bottom" T.bot "Bottom.__init__" sd_Bottom_init f fd) (X : Txt K T) : Cn P w K mg base 1 "Bottom" T.bot P_Bottom_init (spBInit T) := by
  refine F.ok sc_Bottom_init (fun vs H Q E h => ?_) (fun cdv A outer s H vs Q E hr h => ?_) (fun _ _ _ _ _ _ us hl => match us, hl with | [_], _ => rfl)
  · obtain ⟨p, dx, rfl, _⟩ := h.ex
    rfl
  obtain ⟨p, dx, rfl, hp, q⟩ := h.ex
  refine ⟨_, (@pss_cons _ _ _ _ _ (@ps_fldK _ K _ _ _ _ _ _ _ (@pv _ 0 _ _ (by rfl) (by first | exact Or.inl rfl | exact Or.inr (Or.inl rfl) | exact Or.inr (Or.inr rfl)) (by decide) (by decide)) (@pe_lst _ _ _ _ (@pa_nil _)) (by rfl) (by rfl)) (@pss_cons _ _ _ _ _ (@ps_fldK _ K _ _ _ _ _ _ _ (@pv _ 0 _ _ (by rfl) (by first | exact Or.inl rfl | exact Or.inr (Or.inl rfl) | exact Or.inr (Or.inr rfl)) (by decide) (by decide)) (@pe_int _ _ _ _) (by rfl) (by rfl)) (@pss_one _ _ _ (@ps_fldK _ K _ _ _ _ _ _ _ (@pv _ 0 _ _ (by rfl) (by first | exact Or.inl rfl | exact Or.inr (Or.inl rfl) | exact Or.inr (Or.inr rfl)) (by decide) (by decide)) (@pe_dnewK _ _) (by rfl) (by rfl))))), ?_⟩
  refine ⟨(by show 0 ≤ sizeLine; decide), fun l hl => ?_⟩
  have n1 : p ≠ l := ne_of_none hp hl
  refine ⟨_, rfl, p, T.bot, dx, _, rfl, by rw [upd_ne n1]; exact hp, X.cB, X.bst, by show 0 < 1000; decide, ?_⟩
  refine ⟨_, rfl, p, T.bot, dx, _, rfl, upd_same, X.cB, X.bpr, by show 1 < 1000; decide, ?_⟩
  intro d hd
  have n2 : d ≠ p := fun e => by rw [e, upd_same] at hd; cases hd
  have n3 : d ≠ l := fun e => by rw [e, upd_ne (Ne.symm n1), upd_ne (Ne.symm n1), upd_same] at hd; cases hd
  have hd0 : H d = none := by rw [upd_ne n2, upd_ne n2, upd_ne n3] at hd; exact hd
  refine ⟨_, rfl, p, T.bot, dx, _, rfl, by rw [upd_ne (Ne.symm n2)]; exact upd_same, X.cB, X.bkn, by show 2 < 1000; decide, ?_⟩
  refine q l d _ hl hd0 (Ne.symm n3) (fun b o e hb => ?_) upd_same ?_ ?_
  · rw [upd_ne hb, upd_ne (ne_of_none e hd0), upd_ne hb, upd_ne hb, upd_ne (ne_of_none e hl)]; exact e
  · rw [upd_ne (Ne.symm n1), upd_ne (Ne.symm n3), upd_ne (Ne.symm n1), upd_ne (Ne.symm n1)]; exact upd_same
  · rw [upd_ne n2]; exact upd_same
abbrev sd_Hold_roster : Stmt := inClass (top 24) 10
abbrev N_Hold_roster : List Str := ["self"]
abbrev P_Hold_roster : List Str := ["self"]
theorem sc_Hold_roster : FnScope N_Hold_roster P_Hold_roster (defScope sd_Hold_roster) := ⟨rfl, rfl, rfl, by decide +kernel, rfl, by decide +kernel, by decide +kernel⟩
theorem ok_Hold_roster {T : TC} (F : AtM K T.hold "roster" "Hold.roster" sd_Hold_roster f fd) (X : Txt K T) (m_list : mg "list" = none) : Mn P w K mg base 1 T.hold "roster" P_Hold_roster (spRoster T) := by
  refine F.ok sc_Hold_roster (fun vs H Q E h => ?_) (fun cdv A outer s H vs Q E hr h => ?_) (fun _ _ _ _ _ _ us hl => match us, hl with | [_], _ => rfl)
  · obtain ⟨n, ρ, A, st, rfl, _⟩ := h.ex
    rfl
  obtain ⟨n, ρ, A, st, rfl, h, q⟩ := h.ex
  refine ⟨_, (@pss_one _ _ _ (@ps_ret _ _ _ _ (@pe_callTy _ _ _ _ _ _ _ _ _ (call_listD rfl) (by rfl) m_list PyProof.Rows.boot_list (@pa_cons _ _ _ _ _ (@pe_fldK _ K _ _ _ _ (@pv _ 0 _ _ (by rfl) (by first | exact Or.inl rfl | exact Or.inr (Or.inl rfl) | exact Or.inr (Or.inr rfl)) (by decide) (by decide)) (by rfl) (by rfl)) (@pa_nil _) (by rfl)) (by decide) (by decide) (by rfl) (by rfl)))), ?_⟩
  refine ⟨_, rfl, A.a, T.hold, A.dx, _, _, rfl, h.oa, X.cH, X.hpl, rfl, A.pl, _, rfl, .inl h.opl, fun l hl => ?_⟩
  rw [plK_keys]
  exact q l hl
abbrev sd_Hold_parts : Stmt := inClass (top 24) 11
abbrev N_Hold_parts : List Str := ["self"]
abbrev P_Hold_parts : List Str := ["self"]
theorem sc_Hold_parts : FnScope N_Hold_parts P_Hold_parts (defScope sd_Hold_parts) := ⟨rfl, rfl, rfl, by decide +kernel, rfl, by decide +kernel, by decide +kernel⟩
theorem ok_Hold_parts {T : TC} (F : AtM K T.hold "parts" "Hold.parts" sd_Hold_parts f fd) (X : Txt K T) : Mn P w K mg base 1 T.hold "parts" P_Hold_parts (spParts T) := by
  refine F.ok sc_Hold_parts (fun vs H Q E h => ?_) (fun cdv A outer s H vs Q E hr h => ?_) (fun _ _ _ _ _ _ us hl => match us, hl with | [_], _ => rfl)
  · obtain ⟨n, ρ, A, st, rfl, _⟩ := h.ex
    rfl
  obtain ⟨n, ρ, A, st, rfl, h, hl, q⟩ := h.ex
  refine ⟨_, (@pss_one _ _ _ (@ps_ret _ _ _ _ (@pe_frz _ _ _ (@pe_comp _ _ _ _ _ _ ["part"] [none] _ _ _ rfl (@pi_vals _ _ _ _ _ _ (@pe_fldK _ K _ _ _ _ (@pv _ 0 _ _ (by rfl) (by first | exact Or.inl rfl | exact Or.inr (Or.inl rfl) | exact Or.inr (Or.inr rfl)) (by decide) (by decide)) (by rfl) (by rfl)) (by rfl) (by rfl)) (fun _ _ _ _ => (@pg_name _ _ (0) _ (show List.Nodup (["part"] : List Str) from by decide +kernel) rfl (Or.inl rfl) (by first | exact .inl rfl | exact .inr rfl | assumption))) (fun _ _ _ _ => (@pe_tup _ _ _ _ _ (@pa_cons _ _ _ _ _ (@pe_fldK _ K _ _ _ _ (@pv _ 0 _ _ (by rfl) (by first | exact Or.inl rfl | exact Or.inr (Or.inl rfl) | exact Or.inr (Or.inr rfl)) (by decide) (by decide)) (by rfl) (by rfl)) (@pa_cons _ _ _ _ _ (@pe_fldK _ K _ _ _ _ (@pv _ 0 _ _ (by rfl) (by first | exact Or.inl rfl | exact Or.inr (Or.inl rfl) | exact Or.inr (Or.inr rfl)) (by decide) (by decide)) (by rfl) (by rfl)) (@pa_cons _ _ _ _ _ (@pe_fldK _ K _ _ _ _ (@pv _ 0 _ _ (by rfl) (by first | exact Or.inl rfl | exact Or.inr (Or.inl rfl) | exact Or.inr (Or.inr rfl)) (by decide) (by decide)) (by rfl) (by rfl)) (@pa_cons _ _ _ _ _ (@pe_fldK _ K _ _ _ _ (@pv _ 0 _ _ (by rfl) (by first | exact Or.inl rfl | exact Or.inr (Or.inl rfl) | exact Or.inr (Or.inr rfl)) (by decide) (by decide)) (by rfl) (by rfl)) (@pa_nil _) (by rfl)) (by rfl)) (by rfl)) (by rfl)))) rfl (by rfl) (by intro _; rfl))))), ?_⟩
  refine ⟨A.ab, _, h.oab, fun o => ?_⟩
  refine ⟨_, rfl, A.a, T.hold, A.dx, _, _, rfl, frz_ne h.oab h.oa (fun k z => by cases z), X.cH, X.hab, rfl, A.ab, o, _, rfl, upd_same, fun acc hacc => ?_⟩
  have el := abK_len h.ql
  refine comp_1 (n := st.pts.length) 0 (fun i out H1 => Same (upd H A.ab (.frz o (.dK (abK st.pts A.qs)))) H1 ∧ PtsAt H1 out (st.pts.take i)) (by omega) ⟨same_new hacc _, .nil⟩ (fun i out H1 hi _ hp => ⟨hp.1 _ _ upd_same, by rw [el]; exact hi⟩) (fun out H1 _ hp => ⟨hp.1 _ _ upd_same, by rw [el]; exact Nat.le_refl _⟩) ?_ ?_
  · rintro i x out H1 H2 hi hol ha ⟨g, hP⟩ ⟨rfl, kv, hkv, rfl⟩
    have ep := List.getElem?_eq_getElem hi
    obtain ⟨qq, eq, h1, h2, _⟩ := h.find ep
    rw [abK_get ep eq] at hkv
    cases hkv
    have hq := g _ _ (frz_ne h.oab h1 (fun k z => by cases z))
    refine ⟨_, rfl, qq.1, T.part, qq.2.1, _, _, rfl, hq, X.cP, X.pnm, rfl, _, rfl, qq.1, T.part, qq.2.1, _, _, rfl, hq, X.cP, X.pow, rfl, _, rfl, qq.1, T.part, qq.2.1, _, _, rfl, hq, X.cP, X.pwo, rfl, _, rfl, qq.1, T.part, qq.2.1, _, _, rfl, hq, X.cP, X.pwe, rfl, (by show 4 ≤ sizeLine; decide), fun t ht => ?_⟩
    have g1 := same_new ht (partO st.pts[i])
    refine ⟨g1 _ _ ha, (g.trans g1).upd_new hacc _, ?_⟩
    rw [take_snoc ep]
    exact ((hP.mono g1.tups).snoc upd_same).mono (tup_upd (.inr ⟨_, g1 _ _ ha, rfl⟩))
  rintro out H1 hol ha ⟨g, hP⟩
  rw [List.take_length] at hP
  have hz := g _ _ (upd_same (H := H) (a := A.ab) (o := .frz o (.dK (abK st.pts A.qs))))
  have na : acc ≠ A.ab := fun e => by rw [e, hz] at ha; cases ha
  exact ⟨hz, q acc out _ (frz_back h.oab g) (frz_free h.oab hacc) (by rw [upd_ne na]; exact ha) (hP.mono (tup_upd (.inr ⟨_, hz, rfl⟩)))⟩
abbrev sd_Hold_whole : Stmt := inClass (top 24) 13
abbrev N_Hold_whole : List Str := ["self"]
abbrev P_Hold_whole : List Str := ["self"]
theorem sc_Hold_whole : FnScope N_Hold_whole P_Hold_whole (defScope sd_Hold_whole) := ⟨rfl, rfl, rfl, by decide +kernel, rfl, by decide +kernel, by decide +kernel⟩
theorem ok_Hold_whole {T : TC} (F : AtM K T.hold "whole" "Hold.whole" sd_Hold_whole f fd) (X : Txt K T) (m_sum : mg "sum" = none) : Mn P w K mg base 1 T.hold "whole" P_Hold_whole (spWhole T) := by
  refine F.ok sc_Hold_whole (fun vs H Q E h => ?_) (fun cdv A outer s H vs Q E hr h => ?_) (fun _ _ _ _ _ _ us hl => match us, hl with | [_], _ => rfl)
  · obtain ⟨n, ρ, A, st, rfl, _⟩ := h.ex
    rfl
  obtain ⟨n, ρ, A, st, rfl, h, hl, q⟩ := h.ex
  refine ⟨_, (@pss_one _ _ _ (@ps_ret _ _ _ _ (@pe_callB _ _ _ _ _ _ _ _ _ (call_sumK K rfl) (by rfl) m_sum PyProof.Rows.boot_sum (@pa_cons _ _ _ _ _ (@pe_frz _ _ _ (@pe_comp _ _ _ _ _ _ ["part"] [none] _ _ _ rfl (@pi_vals _ _ _ _ _ _ (@pe_fldK _ K _ _ _ _ (@pv _ 0 _ _ (by rfl) (by first | exact Or.inl rfl | exact Or.inr (Or.inl rfl) | exact Or.inr (Or.inr rfl)) (by decide) (by decide)) (by rfl) (by rfl)) (by rfl) (by rfl)) (fun _ _ _ _ => (@pg_name _ _ (0) _ (show List.Nodup (["part"] : List Str) from by decide +kernel) rfl (Or.inl rfl) (by first | exact .inl rfl | exact .inr rfl | assumption))) (fun _ _ _ _ => (@pe_fldK _ K _ _ _ _ (@pv _ 0 _ _ (by rfl) (by first | exact Or.inl rfl | exact Or.inr (Or.inl rfl) | exact Or.inr (Or.inr rfl)) (by decide) (by decide)) (by rfl) (by rfl))) rfl (by rfl) (by intro _; rfl))) (@pa_nil _) (by rfl)) (by decide) (by decide) (by rfl) (by rfl)))), ?_⟩
  refine ⟨A.ab, _, h.oab, fun o => ?_⟩
  refine ⟨_, rfl, A.a, T.hold, A.dx, _, _, rfl, frz_ne h.oab h.oa (fun k z => by cases z), X.cH, X.hab, rfl, A.ab, o, _, rfl, upd_same, fun acc hacc => ?_⟩
  have el := abK_len h.ql
  refine comp_1 (n := st.pts.length) 0 (fun i out H1 => Same (upd H A.ab (.frz o (.dK (abK st.pts A.qs)))) H1 ∧ out = ((st.pts.take i).map (·.wo)).map V.int) (by omega) ⟨same_new hacc _, rfl⟩ (fun i out H1 hi _ hp => ⟨hp.1 _ _ upd_same, by rw [el]; exact hi⟩) (fun out H1 _ hp => ⟨hp.1 _ _ upd_same, by rw [el]; exact Nat.le_refl _⟩) ?_ ?_
  · rintro i x out H1 H2 hi hol ha ⟨g, e⟩ ⟨rfl, kv, hkv, rfl⟩
    have ep := List.getElem?_eq_getElem hi
    obtain ⟨qq, eq, h1, h2, _⟩ := h.find ep
    rw [abK_get ep eq] at hkv
    cases hkv
    have hq := g _ _ (frz_ne h.oab h1 (fun k z => by cases z))
    refine ⟨_, rfl, qq.1, T.part, qq.2.1, _, _, rfl, hq, X.cP, X.pwo, rfl, ha, g.upd_new hacc _, ?_⟩
    rw [take_snoc ep, e, List.map_append, List.map_append]
    rfl
  rintro out H1 hol ha ⟨g, e⟩
  rw [List.take_length] at e
  have hz := g _ _ (upd_same (H := H) (a := A.ab) (o := .frz o (.dK (abK st.pts A.qs))))
  have na : acc ≠ A.ab := fun e => by rw [e, hz] at ha; cases ha
  exact ⟨hz, acc, st.pts.map (fun p : Pt => p.wo), rfl, SqL.of (by rw [upd_ne na, ha, e]), q _ (frz_back h.oab g)⟩
abbrev sd_Hold_sign : Stmt := inClass (top 24) 1
abbrev N_Hold_sign : List Str := ["self", "owner", "part"]
abbrev P_Hold_sign : List Str := ["self", "owner"]
theorem sc_Hold_sign : FnScope N_Hold_sign P_Hold_sign (defScope sd_Hold_sign) := ⟨rfl, rfl, rfl, by decide +kernel, rfl, by decide +kernel, by decide +kernel⟩
theorem okX_Hold_sign {T : TC} {e : Ec} (F : AtM K T.hold "sign" "Hold.sign" sd_Hold_sign f fd) (X : Txt K T) (D_is_name : Dn P w K mg base 2 "is_name" ["text"] spIsName) (m_len : mg "len" = none) (oc_BadName : OwnExc K e.bad) (m_BadName : mg "BadName" = some (.ref e.bad)) (oc_Twice : OwnExc K e.twice) (m_Twice : mg "Twice" = some (.ref e.twice)) : Mx P w K mg base 3 T.hold "sign" P_Hold_sign (spSignX T e) := by
  refine F.okX sc_Hold_sign (fun vs H Q E h => ?_) (fun cdv A outer s H vs Q E hr h => ?_) (fun _ _ _ _ _ _ us hl => match us, hl with | [_, _], _ => rfl)
  · obtain ⟨n, ρ, A, st, o, rfl, _⟩ := h.ex
    rfl
  obtain ⟨n, ρ, A, st, o, rfl, hh, hx, hl, dq⟩ := h.ex
  refine ⟨_, (@pss_cons _ _ _ _ _ (@ps_if _ _ _ _ _ _ _ _ (@pt_not _ _ _ _ (@pt_val _ _ _ (@pe_fn _ _ _ _ _ _ _ _ _ _ _ D_is_name hr (@pa_cons _ _ _ _ _ (@pv _ 1 _ _ (by rfl) (by first | exact Or.inl rfl | exact Or.inr (Or.inl rfl) | exact Or.inr (Or.inr rfl)) (by decide) (by decide)) (@pa_nil _) (by rfl)) (by decide) (by rfl) (by decide) (by rfl) (by rfl)) (by intro _; rfl))) (@pss_one _ _ _ (@ps_raise _ _ _ _ _ _ _ _ _ _ _ _ _ _ _ _ _ _ _ _ _ _ _ oc_BadName (by rfl) m_BadName (by decide))) (@pss_nil _)) (@pss_cons _ _ _ _ _ (@ps_if _ _ _ _ _ _ _ _ (@pt_cmp _ _ _ _ _ _ (@pc_din _ _ _ _ _ (hu_of hr) (@pv _ 1 _ _ (by rfl) (by first | exact Or.inl rfl | exact Or.inr (Or.inl rfl) | exact Or.inr (Or.inr rfl)) (by decide) (by decide)) (@pe_fldK _ K _ _ _ _ (@pv _ 0 _ _ (by rfl) (by first | exact Or.inl rfl | exact Or.inr (Or.inl rfl) | exact Or.inr (Or.inr rfl)) (by decide) (by decide)) (by rfl) (by rfl))) (by first | exact nobehind _ (by decide) (by decide) | rfl)) (@pss_one _ _ _ (@ps_raise _ _ _ _ _ _ _ _ _ _ _ _ _ _ _ _ _ _ _ _ _ _ _ oc_Twice (by rfl) m_Twice (by decide))) (@pss_nil _)) (@pss_cons _ _ _ _ _ (@ps_dput _ _ _ _ _ _ _ _ _ (hu_of hr) (@pe_fldK _ K _ _ _ _ (@pv _ 0 _ _ (by rfl) (by first | exact Or.inl rfl | exact Or.inr (Or.inl rfl) | exact Or.inr (Or.inr rfl)) (by decide) (by decide)) (by rfl) (by rfl)) (@pv _ 1 _ _ (by rfl) (by first | exact Or.inl rfl | exact Or.inr (Or.inl rfl) | exact Or.inr (Or.inr rfl)) (by decide) (by decide)) (@pe_callB _ _ _ _ _ _ _ _ _ call_lenD (by rfl) m_len PySem.boot_len (@pa_cons _ _ _ _ _ (@pe_fldK _ K _ _ _ _ (@pv _ 0 _ _ (by rfl) (by first | exact Or.inl rfl | exact Or.inr (Or.inl rfl) | exact Or.inr (Or.inr rfl)) (by decide) (by decide)) (by rfl) (by rfl)) (@pa_nil _) (by rfl)) (by decide) (by decide) (by rfl) (by rfl)) rfl) (@pss_cons _ _ _ _ _ (@ps_expr _ _ _ _ (@pe_bm _ _ _ _ _ _ _ _ _ _ _ _ PySem.F.plainAttrs_list PySem.F.slot_list_append PySem.F.type_list_append mt_append (@pe_fldK _ K _ _ _ _ (@pv _ 0 _ _ (by rfl) (by first | exact Or.inl rfl | exact Or.inr (Or.inl rfl) | exact Or.inr (Or.inr rfl)) (by decide) (by decide)) (by rfl) (by rfl)) (@pa_cons _ _ _ _ _ (@pe_int _ _ _ _) (@pa_nil _) (by rfl)) (by rfl) (by rfl) (by rfl) (by rfl) (by rfl)) (by rfl)) (@pss_cons _ _ _ _ _ (@ps_expr _ _ _ _ (@pe_bm _ _ _ _ _ _ _ _ _ _ _ _ PySem.F.plainAttrs_list PySem.F.slot_list_append PySem.F.type_list_append mt_append (@pe_fldK _ K _ _ _ _ (@pv _ 0 _ _ (by rfl) (by first | exact Or.inl rfl | exact Or.inr (Or.inl rfl) | exact Or.inr (Or.inr rfl)) (by decide) (by decide)) (by rfl) (by rfl)) (@pa_cons _ _ _ _ _ (@pe_int _ _ _ _) (@pa_nil _) (by rfl)) (by rfl) (by rfl) (by rfl) (by rfl) (by rfl)) (by rfl)) (@pss_one _ _ _ (@ps_frz _ _ _ (@ps_for _ _ _ _ _ _ _ _ PassesOwn.leaving rfl (@pi_vals _ _ _ _ _ _ (@pe_fldK _ K _ _ _ _ (@pv _ 0 _ _ (by rfl) (by first | exact Or.inl rfl | exact Or.inr (Or.inl rfl) | exact Or.inr (Or.inr rfl)) (by decide) (by decide)) (by rfl) (by rfl)) (by rfl) (by rfl)) (@pg_name _ _ (2) _ sc_Hold_sign.nd rfl (Or.inl rfl) (by first | exact .inl rfl | exact .inr rfl | assumption)) (@pss_one _ _ _ (@ps_expr _ _ _ _ (@pe_bm _ _ _ _ _ _ _ _ _ _ _ _ PySem.F.plainAttrs_list PySem.F.slot_list_append PySem.F.type_list_append mt_append (@pe_fldK _ K _ _ _ _ (@pv _ 2 _ _ (by rfl) (by first | exact Or.inl rfl | exact Or.inr (Or.inl rfl) | exact Or.inr (Or.inr rfl)) (by decide) (by decide)) (by rfl) (by rfl)) (@pa_cons _ _ _ _ _ (@pe_int _ _ _ _) (@pa_nil _) (by rfl)) (by rfl) (by rfl) (by rfl) (by rfl) (by rfl)) (by rfl))) (by intro _; rfl))))))))), ?_⟩
  refine ⟨_, rfl, use_isname (cs := o.cps.toList) hx fun H1 g1 => ⟨_, rfl, ?_⟩⟩
  by_cases hx : isName o.cps.toList = true
  rotate_left
  · rw [Bool.eq_false_iff.mpr hx]
    exact iteT fun y => dq.no 0 (by unfold signR isNm; rw [if_neg hx]) y H1 g1
  rw [hx]
  refine iteF ?_
  have hh1 := hh.mono g1
  have h1 := hh1.h
  have F1 : Fr n ρ H ρ H1 := Fr.of_same g1
  refine ⟨_, rfl, _, rfl, A.a, T.hold, A.dx, _, _, rfl, h1.oa, X.cH, X.hpl, rfl, A.pl, _, rfl, DGet.k (k := Sum.inr o) h1.opl, _, rfl, ?_⟩
  by_cases hn : o ∈ st.own
  · rw [valV_pl hn]
    exact iteT fun y => dq.no 1 (by unfold signR isNm; rw [if_pos hx, if_pos hn]) y H1 g1
  have q := dq.ok (signR_none hx hn)
  rw [valV_pl_none hn]
  refine iteF ?_
  have lpl := plK_length st.own 0
  refine ⟨_, rfl, A.a, T.hold, A.dx, _, _, rfl, h1.oa, X.cH, X.hpl, rfl, A.pl, _, rfl, h1.opl, _, rfl, A.a, T.hold, A.dx, _, _, rfl, h1.oa, X.cH, X.hpl, rfl, _, rfl, A.pl, _, rfl, DPut.k (k := Sum.inr o) h1.opl (small1000 (by rw [lpl]; omega)), ?_⟩
  rw [putK_new _ (valV_pl_none hn), lpl, show plK 0 st.own ++ [(Sum.inr o, V.int (st.own.length : Int))] = plK 0 (st.own ++ [o]) from by rw [plK_snoc, Nat.zero_add]]
  have h2 := h1.set_pl hh1.g (st.own ++ [o])
  have G2 := hh1.g.wr (a := A.pl) (o := .dK (plK 0 (st.own ++ [o]))) rfl
  have F2 := F1.trans (Fr.write (o := .dK (plK 0 (st.own ++ [o]))) h1.cpl)
  generalize upd H1 A.pl (.dK (plK 0 (st.own ++ [o]))) = H2 at *
  have lcm : (st.com.map V.int).length < sizeLine := by rw [List.length_map, hh.wf.coml]; exact small1000 (by omega)
  refine ⟨_, rfl, A.a, T.hold, A.dx, _, _, rfl, h2.oa, X.cH, X.hcm, rfl, .inl ⟨rfl, _, SqL.of h2.ocm⟩, A.cm, _, _, rfl, rfl, h2.ocm, lcm, ?_⟩
  rw [show st.com.map V.int ++ [V.int 0] = (st.com ++ [0]).map V.int from by rw [List.map_append]; rfl]
  have h3 := h2.set_cm G2 (st.com ++ [0])
  have G3 := G2.wr (a := A.cm) (o := .lst ((st.com ++ [0]).map V.int)) rfl
  have F3 := F2.trans (Fr.write (o := .lst ((st.com ++ [0]).map V.int)) h2.ccm)
  generalize upd H2 A.cm (.lst ((st.com ++ [0]).map V.int)) = H3 at *
  have lpu : (st.pur.map V.int).length < sizeLine := by rw [List.length_map, hh.wf.purl]; exact small1000 (by omega)
  refine ⟨_, rfl, A.a, T.hold, A.dx, _, _, rfl, h3.oa, X.cH, X.hpu, rfl, .inl ⟨rfl, _, SqL.of h3.opu⟩, A.pu, _, _, rfl, rfl, h3.opu, lpu, ?_⟩
  rw [show st.pur.map V.int ++ [V.int 0] = (st.pur ++ [0]).map V.int from by rw [List.map_append]; rfl]
  have h4 := h3.set_pu G3 (st.pur ++ [0])
  have G4 := G3.wr (a := A.pu) (o := .lst ((st.pur ++ [0]).map V.int)) rfl
  have F4 := F3.trans (Fr.write (o := .lst ((st.pur ++ [0]).map V.int)) h3.cpu)
  generalize upd H3 A.pu (.lst ((st.pur ++ [0]).map V.int)) = H4 at *
  clear h1 h2 h3 G2 G3 F2 F3 hh1
  have hpl := hh.wf.ptsL
  refine ⟨A.ab, _, h4.oab, fun ob => ?_⟩
  refine ⟨_, rfl, A.a, T.hold, A.dx, _, _, rfl, frz_ne h4.oab h4.oa (fun k z => by cases z), X.cH, X.hab, rfl, A.ab, ob, _, rfl, upd_same, ?_⟩
  have el := abK_len h4.ql
  have el0 : (abK st.pts A.qs).length = st.pts.length := el
  refine for_walk (n := st.pts.length) (fun i σ H' => (∃ s2, σ = [some (.ref A.a), some (.str o), s2]) ∧ Frz H' A.ab ob (abK st.pts A.qs) ∧ ∃ H5, H' = upd H5 A.ab (.frz ob (.dK (abK st.pts A.qs))) ∧ Gh ρ H5 ∧ Fr n ρ H ρ H5 ∧
      HoldAt T n ρ A H5 { st with own := st.own ++ [o], com := st.com ++ [0], pur := st.pur ++ [0], pts := (st.pts.take i).map (fun p => { p with row := p.row ++ [0] }) ++ st.pts.drop i })
    ⟨⟨_, rfl⟩, upd_same, H4, rfl, G4, F4, h4⟩ (fun i σ H' hi hp => ⟨hp.2.1, by rw [el0]; exact hi⟩) (fun σ H' hp => ⟨hp.2.1, by rw [el0]; exact Nat.le_refl _⟩) ?_ ?_
  · rintro i x σ H' H'' hi ⟨⟨s2, rfl⟩, hz, H5, rfl, G5, F5, h5⟩ ⟨rfl, kv, hkv, rfl⟩
    have ep := List.getElem?_eq_getElem hi
    have ep5 := walk_get (fun p : Pt => { p with row := p.row ++ [0] }) ep
    obtain ⟨qq, eq, k1, k2, k3, k4⟩ := h5.find ep5
    rw [abK_get ep eq] at hkv
    cases hkv
    have nm5 := walk_map (fun p : Pt => { p with row := p.row ++ [0] }) (fun p : Pt => p.nm) (fun _ => rfl) st.pts i
    have nd5 : (((st.pts.take i).map (fun p : Pt => { p with row := p.row ++ [0] }) ++ st.pts.drop i).map (fun p : Pt => p.nm)).Nodup := by rw [nm5]; exact hh.wf.ptsN
    have z1 := frz_ne (o := ob) h5.oab k1 (fun k z => by cases z)
    have z2 := frz_ne (o := ob) h5.oab k2 (fun k z => by cases z)
    rw [show abK ({ st with own := st.own ++ [o], com := st.com ++ [0], pur := st.pur ++ [0], pts := (st.pts.take i).map (fun p : Pt => { p with row := p.row ++ [0] }) ++ st.pts.drop i } : HS).pts A.qs = abK st.pts A.qs from abK_names nm5] at z1 z2
    have hrl : ((st.pts[i]).row.map V.int).length < sizeLine := by rw [List.length_map, hh.wf.rows _ (List.getElem_mem hi)]; exact small1000 (by omega)
    refine ⟨_, rfl, qq.1, T.part, qq.2.1, _, _, rfl, z1, X.cP, X.pro, rfl, .inl ⟨rfl, _, SqL.of z2⟩, qq.2.2, _, _, rfl, rfl, z2, hrl, ?_⟩
    have na : A.ab ≠ qq.2.2 := (ne_of k2 h5.oab (by intro z; cases z)).symm
    rw [show (st.pts[i]).row.map V.int ++ [V.int 0] = ((st.pts[i]).row ++ [0]).map V.int from by rw [List.map_append]; rfl]
    have h6 := h5.set_row G5 ((st.pts[i]).row ++ [0]) ep5 eq nd5
    rw [show ({ st with own := st.own ++ [o], com := st.com ++ [0], pur := st.pur ++ [0], pts := (st.pts.take i).map (fun p : Pt => { p with row := p.row ++ [0] }) ++ st.pts.drop i } : HS).pts.set i { st.pts[i] with row := (st.pts[i]).row ++ [0] } = _ from walk_set (fun p : Pt => { p with row := p.row ++ [0] }) ep] at h6
    exact ⟨⟨_, rfl⟩, (upd_ne na).trans hz, _, upd_comm na, G5.wr rfl, F5.trans (Fr.write k4), h6⟩
  · rintro σ H' ⟨_, hz, H5, rfl, G5, F5, h5⟩
    have nm5 := walk_map (fun p : Pt => { p with row := p.row ++ [0] }) (fun p : Pt => p.nm) (fun _ => rfl) st.pts st.pts.length
    have e5 : abK ({ st with own := st.own ++ [o], com := st.com ++ [0], pur := st.pur ++ [0], pts := (st.pts.take st.pts.length).map (fun p : Pt => { p with row := p.row ++ [0] }) ++ st.pts.drop st.pts.length } : HS).pts A.qs = abK st.pts A.qs := abK_names nm5
    have h5' := h5.oab
    rw [e5] at h5'
    refine ⟨hz, ?_⟩
    rw [upd_upd, upd_self h5']
    have es : ({ st with own := st.own ++ [o], com := st.com ++ [0], pur := st.pur ++ [0], pts := (st.pts.take st.pts.length).map (fun p : Pt => { p with row := p.row ++ [0] }) ++ st.pts.drop st.pts.length } : HS) = signS st o := by
      unfold signS
      rw [List.take_length, List.drop_length, List.append_nil]
    rw [es] at h5
    exact q ρ A H5 ⟨G5, h5, wf_sign hh.wf hn hl⟩ rfl F5
abbrev sd_Hold_init : Stmt := inClass (top 24) 0
abbrev N_Hold_init : List Str := ["self"]
abbrev P_Hold_init : List Str := ["self"]
theorem sc_Hold_init : FnScope N_Hold_init P_Hold_init (defScope sd_Hold_init) := ⟨rfl, rfl, rfl, by decide +kernel, rfl, by decide +kernel, by decide +kernel⟩
theorem ok_Hold_init {T : TC} (F : AtC K mg "Hold" T.hold "Hold.__init__" sd_Hold_init f fd) (X : Txt K T) (D_Bottom : Cn P w K mg base 1 "Bottom" T.bot ["self"] (spBInit T)) : Cn P w K mg base 3 "Hold" T.hold P_Hold_init (spHInit T) := by
  refine F.ok sc_Hold_init (fun vs H Q E h => ?_) (fun cdv A outer s H vs Q E hr h => ?_) (fun _ _ _ _ _ _ us hl => match us, hl with | [_], _ => rfl)
  · obtain ⟨p, dx, ρ, n, rfl, _⟩ := h.ex
    rfl
  obtain ⟨p, dx, ρ, n, rfl, hp, g, hρ, q⟩ := h.ex
  refine ⟨_, (@pss_cons _ _ _ _ _ (@ps_fldK _ K _ _ _ _ _ _ _ (@pv _ 0 _ _ (by rfl) (by first | exact Or.inl rfl | exact Or.inr (Or.inl rfl) | exact Or.inr (Or.inr rfl)) (by decide) (by decide)) (@pe_dnewK _ _) (by rfl) (by rfl)) (@pss_cons _ _ _ _ _ (@ps_fldK _ K _ _ _ _ _ _ _ (@pv _ 0 _ _ (by rfl) (by first | exact Or.inl rfl | exact Or.inr (Or.inl rfl) | exact Or.inr (Or.inr rfl)) (by decide) (by decide)) (@pe_dnewK _ _) (by rfl) (by rfl)) (@pss_cons _ _ _ _ _ (@ps_fldK _ K _ _ _ _ _ _ _ (@pv _ 0 _ _ (by rfl) (by first | exact Or.inl rfl | exact Or.inr (Or.inl rfl) | exact Or.inr (Or.inr rfl)) (by decide) (by decide)) (@pe_lst _ _ _ _ (@pa_nil _)) (by rfl) (by rfl)) (@pss_cons _ _ _ _ _ (@ps_fldK _ K _ _ _ _ _ _ _ (@pv _ 0 _ _ (by rfl) (by first | exact Or.inl rfl | exact Or.inr (Or.inl rfl) | exact Or.inr (Or.inr rfl)) (by decide) (by decide)) (@pe_dnewK _ _) (by rfl) (by rfl)) (@pss_cons _ _ _ _ _ (@ps_fldK _ K _ _ _ _ _ _ _ (@pv _ 0 _ _ (by rfl) (by first | exact Or.inl rfl | exact Or.inr (Or.inl rfl) | exact Or.inr (Or.inr rfl)) (by decide) (by decide)) (@pe_mk0 _ _ _ _ _ _ _ _ _ D_Bottom hr (by decide) (by rfl) (by decide)) (by rfl) (by rfl)) (@pss_cons _ _ _ _ _ (@ps_fldK _ K _ _ _ _ _ _ _ (@pv _ 0 _ _ (by rfl) (by first | exact Or.inl rfl | exact Or.inr (Or.inl rfl) | exact Or.inr (Or.inr rfl)) (by decide) (by decide)) (@pe_lst _ _ _ _ (@pa_nil _)) (by rfl) (by rfl)) (@pss_one _ _ _ (@ps_fldK _ K _ _ _ _ _ _ _ (@pv _ 0 _ _ (by rfl) (by first | exact Or.inl rfl | exact Or.inr (Or.inl rfl) | exact Or.inr (Or.inr rfl)) (by decide) (by decide)) (@pe_lst _ _ _ _ (@pa_nil _)) (by rfl) (by rfl))))))))), ?_⟩
  have M0 : Mading p H ρ H ρ [] := ⟨(fun _ m => absurd m (by simp)), fun b o e _ => ⟨e, rfl⟩, g, _, hp⟩
  intro pl hpl
  have M1 := (M0.new (o := .dK []) (c := (n, 1, ⟨#[]⟩)) hpl rfl)
  refine ⟨_, rfl, p, T.hold, dx, _, rfl, by rw [upd_ne (ne_of_none hp hpl)]; exact hp, X.cH, X.hpl, by show 0 < 1000; decide, ?_⟩
  have M2 := M1.wr (u := .ins T.hold dx (putF "places" (.ref pl) [])) rfl
  have hp2 : upd (upd H pl (.dK [])) p (.ins T.hold dx (putF "places" (.ref pl) [])) p = _ := upd_same
  generalize upd (upd H pl (.dK [])) p (.ins T.hold dx (putF "places" (.ref pl) [])) = H2 at *
  clear M0 M1
  intro ab hab
  have M3 := (M2.new (o := .dK []) (c := (n, 2, ⟨#[]⟩)) hab rfl)
  refine ⟨_, rfl, p, T.hold, dx, _, rfl, by rw [upd_ne (ne_of_none hp2 hab)]; exact hp2, X.cH, X.hab, by show 1 < 1000; decide, ?_⟩
  have M4 := M3.wr (u := .ins T.hold dx (putF "aboard" (.ref ab) (putF "places" (.ref pl) []))) rfl
  have hp4 : upd (upd H2 ab (.dK [])) p (.ins T.hold dx (putF "aboard" (.ref ab) (putF "places" (.ref pl) []))) p = _ := upd_same
  generalize upd (upd H2 ab (.dK [])) p (.ins T.hold dx (putF "aboard" (.ref ab) (putF "places" (.ref pl) []))) = H4 at *
  clear M2 M3
  refine ⟨(by show 0 ≤ sizeLine; decide), fun as has => ?_⟩
  have M5 := (M4.new (o := .lst []) (c := (n, 3, ⟨#[]⟩)) has rfl)
  refine ⟨_, rfl, p, T.hold, dx, _, rfl, by rw [upd_ne (ne_of_none hp4 has)]; exact hp4, X.cH, X.has, by show 2 < 1000; decide, ?_⟩
  have M6 := M5.wr (u := .ins T.hold dx (putF "ashore" (.ref as) (putF "aboard" (.ref ab) (putF "places" (.ref pl) [])))) rfl
  have hp6 : upd (upd H4 as (.lst [])) p (.ins T.hold dx (putF "ashore" (.ref as) (putF "aboard" (.ref ab) (putF "places" (.ref pl) [])))) p = _ := upd_same
  generalize upd (upd H4 as (.lst [])) p (.ins T.hold dx (putF "ashore" (.ref as) (putF "aboard" (.ref ab) (putF "places" (.ref pl) [])))) = H6 at *
  clear M4 M5
  intro nm hnm
  have M7 := (M6.new (o := .dK []) (c := (n, 4, ⟨#[]⟩)) hnm rfl)
  refine ⟨_, rfl, p, T.hold, dx, _, rfl, by rw [upd_ne (ne_of_none hp6 hnm)]; exact hp6, X.cH, X.hnm, by show 3 < 1000; decide, ?_⟩
  have M8 := M7.wr (u := .ins T.hold dx (putF "names" (.ref nm) (putF "ashore" (.ref as) (putF "aboard" (.ref ab) (putF "places" (.ref pl) []))))) rfl
  have hp8 : upd (upd H6 nm (.dK [])) p (.ins T.hold dx (putF "names" (.ref nm) (putF "ashore" (.ref as) (putF "aboard" (.ref ab) (putF "places" (.ref pl) []))))) p = _ := upd_same
  generalize upd (upd H6 nm (.dK [])) p (.ins T.hold dx (putF "names" (.ref nm) (putF "ashore" (.ref as) (putF "aboard" (.ref ab) (putF "places" (.ref pl) []))))) = H8 at *
  clear M6 M7
  intro bt db hbt hdb hne
  refine ⟨⟨bt, db, rfl, upd_same, fun sp kn H9 hsp hkn hsk k9 hb9 hs9 hk9 => ⟨rfl, ?_⟩⟩⟩
  have s9 : Same H8 H9 := fun b o e => k9 b o (by rw [upd_ne (ne_of_none e hbt), upd_ne (ne_of_none e hdb)]; exact e) (ne_of_none e hbt)
  have fr : ∀ {c : Addr}, upd (upd H8 db (.own bt)) bt (.ins T.bot db []) c = none → H8 c = none := fun {c} e => by
    have e1 : c ≠ bt := fun z => by rw [z, upd_same] at e; cases e
    have e2 : c ≠ db := fun z => by rw [z, upd_ne hne, upd_same] at e; cases e
    rw [upd_ne e1, upd_ne e2] at e; exact e
  have hsp8 := fr hsp
  have hkn8 := fr hkn
  have M9 := M8.same s9
  have M10 := M9.add (c := (n, 5, ⟨#[]⟩)) hb9 rfl M8 hbt (fun e he => ne_of_none (M8.m e he).1 hbt)
  have M11 := M10.add (c := (n, 8, ⟨#[]⟩)) hs9 rfl M8 hsp8 (fun e he => by
    rcases List.mem_cons.mp he with rfl | he
    · exact ne_of hb9 hs9 (by intro z; cases z)
    · exact ne_of_none (M8.m e he).1 hsp8)
  have M12 := M11.add (c := (n, 9, ⟨#[]⟩)) hk9 rfl M8 hkn8 (fun e he => by
    rcases List.mem_cons.mp he with rfl | he
    · exact ne_of hs9 hk9 (by intro z; cases z)
    rcases List.mem_cons.mp he with rfl | he
    · exact ne_of hb9 hk9 (by intro z; cases z)
    · exact ne_of_none (M8.m e he).1 hkn8)
  have hp9 := s9 _ _ hp8
  refine ⟨_, rfl, p, T.hold, dx, _, rfl, hp9, X.cH, X.hbt, by show 4 < 1000; decide, ?_⟩
  have M13 := M12.wr (u := .ins T.hold dx (putF "bottom" (.ref bt) (putF "names" (.ref nm) (putF "ashore" (.ref as) (putF "aboard" (.ref ab) (putF "places" (.ref pl) [])))))) rfl
  have hp13 : upd H9 p (.ins T.hold dx (putF "bottom" (.ref bt) (putF "names" (.ref nm) (putF "ashore" (.ref as) (putF "aboard" (.ref ab) (putF "places" (.ref pl) [])))))) p = _ := upd_same
  generalize upd H9 p (.ins T.hold dx (putF "bottom" (.ref bt) (putF "names" (.ref nm) (putF "ashore" (.ref as) (putF "aboard" (.ref ab) (putF "places" (.ref pl) [])))))) = H13 at *
  clear M8 M9 M10 M11 M12
  refine ⟨(by show 0 ≤ sizeLine; decide), fun cm hcm => ?_⟩
  have M14 := (M13.new (o := .lst []) (c := (n, 6, ⟨#[]⟩)) hcm rfl)
  refine ⟨_, rfl, p, T.hold, dx, _, rfl, by rw [upd_ne (ne_of_none hp13 hcm)]; exact hp13, X.cH, X.hcm, by show 5 < 1000; decide, ?_⟩
  have M15 := M14.wr (u := .ins T.hold dx (putF "common" (.ref cm) (putF "bottom" (.ref bt) (putF "names" (.ref nm) (putF "ashore" (.ref as) (putF "aboard" (.ref ab) (putF "places" (.ref pl) []))))))) rfl
  have hp15 : upd (upd H13 cm (.lst [])) p (.ins T.hold dx (putF "common" (.ref cm) (putF "bottom" (.ref bt) (putF "names" (.ref nm) (putF "ashore" (.ref as) (putF "aboard" (.ref ab) (putF "places" (.ref pl) []))))))) p = _ := upd_same
  generalize upd (upd H13 cm (.lst [])) p (.ins T.hold dx (putF "common" (.ref cm) (putF "bottom" (.ref bt) (putF "names" (.ref nm) (putF "ashore" (.ref as) (putF "aboard" (.ref ab) (putF "places" (.ref pl) []))))))) = H15 at *
  clear M13 M14
  refine ⟨(by show 0 ≤ sizeLine; decide), fun pu hpu => ?_⟩
  have M16 := (M15.new (o := .lst []) (c := (n, 7, ⟨#[]⟩)) hpu rfl)
  refine ⟨_, rfl, p, T.hold, dx, _, rfl, by rw [upd_ne (ne_of_none hp15 hpu)]; exact hp15, X.cH, X.hpu, by show 6 < 1000; decide, ?_⟩
  have M17 := M16.wr (u := .ins T.hold dx (putF "purses" (.ref pu) (putF "common" (.ref cm) (putF "bottom" (.ref bt) (putF "names" (.ref nm) (putF "ashore" (.ref as) (putF "aboard" (.ref ab) (putF "places" (.ref pl) [])))))))) rfl
  have hp17 : upd (upd H15 pu (.lst [])) p (.ins T.hold dx (putF "purses" (.ref pu) (putF "common" (.ref cm) (putF "bottom" (.ref bt) (putF "names" (.ref nm) (putF "ashore" (.ref as) (putF "aboard" (.ref ab) (putF "places" (.ref pl) [])))))))) p = _ := upd_same
  generalize upd (upd H15 pu (.lst [])) p (.ins T.hold dx (putF "purses" (.ref pu) (putF "common" (.ref cm) (putF "bottom" (.ref bt) (putF "names" (.ref nm) (putF "ashore" (.ref as) (putF "aboard" (.ref ab) (putF "places" (.ref pl) [])))))))) = H17 at *
  clear M15 M16
  have m := M17.m
  have nop : ∀ {a : Addr} {o : HO} {c : Col} {ρ2 : Rho}, (H17 a = some o ∧ ρ2 a = some c ∧ a ≠ p) → H17 a = some o ∧ updC ρ2 p (n, 0, ⟨#[]⟩) a = some c := fun h => ⟨h.1, by rw [updC_ne h.2.2]; exact h.2.1⟩
  have a1 := nop (m _ (.head _))
  have a2 := nop (m _ (.tail _ (.head _)))
  have a3 := nop (m _ (.tail _ (.tail _ (.head _))))
  have a4 := nop (m _ (.tail _ (.tail _ (.tail _ (.head _)))))
  have a5 := nop (m _ (.tail _ (.tail _ (.tail _ (.tail _ (.head _))))))
  have a6 := nop (m _ (.tail _ (.tail _ (.tail _ (.tail _ (.tail _ (.head _)))))))
  have a7 := nop (m _ (.tail _ (.tail _ (.tail _ (.tail _ (.tail _ (.tail _ (.head _))))))))
  have a8 := nop (m _ (.tail _ (.tail _ (.tail _ (.tail _ (.tail _ (.tail _ (.tail _ (.head _)))))))))
  have a9 := nop (m _ (.tail _ (.tail _ (.tail _ (.tail _ (.tail _ (.tail _ (.tail _ (.tail _ (.head _))))))))))
  refine q (updC _ p (n, 0, ⟨#[]⟩)) ⟨p, dx, pl, ab, as, nm, bt, db, cm, pu, sp, kn, []⟩ H17 rfl ⟨M17.g.color hp17 rfl, ⟨hp17, updC_same, a9.1, a9.2, a8.1, a8.2, ⟨[], a7.1, .nil⟩, a7.2, a6.1, a6.2, a5.1, a5.2, a2.1, a2.2, a1.1, a1.2, a4.1, a4.2, ⟨[], a3.1, (fun x hx => absurd hx (by simp)), Nat.le_refl _, List.nodup_nil⟩, a3.2, rfl, fun i x y ex => by simp [hs0] at ex⟩, wf0⟩ (fun b o e hb => ?_)
  obtain ⟨x, y⟩ := M17.k b o e hb
  exact ⟨x, by rw [updC_ne hb]; exact y⟩
abbrev sd_Hold_landed : Stmt := inClass (top 24) 17
abbrev N_Hold_landed : List Str := ["self"]
abbrev P_Hold_landed : List Str := ["self"]
theorem sc_Hold_landed : FnScope N_Hold_landed P_Hold_landed (defScope sd_Hold_landed) := ⟨rfl, rfl, rfl, by decide +kernel, rfl, by decide +kernel, by decide +kernel⟩
theorem ok_Hold_landed {T : TC} (F : AtM K T.hold "landed" "Hold.landed" sd_Hold_landed f fd) (X : Txt K T) (m_list : mg "list" = none) : Mn P w K mg base 1 T.hold "landed" P_Hold_landed (spLanded T) := by
  refine F.ok sc_Hold_landed (fun vs H Q E h => ?_) (fun cdv A outer s H vs Q E hr h => ?_) (fun _ _ _ _ _ _ us hl => match us, hl with | [_], _ => rfl)
  · obtain ⟨n, ρ, A, st, rfl, _⟩ := h.ex
    rfl
  obtain ⟨n, ρ, A, st, rfl, hh, q⟩ := h.ex
  obtain ⟨ws, hw, hA⟩ := hh.h.oas
  have hl := hA.length
  have hal := hh.wf.ashL
  refine ⟨_, (@pss_one _ _ _ (@ps_ret _ _ _ _ (@pe_comp _ _ _ _ _ _ ["name", "owner", "worth", "shares"] [none, none, none, none] _ _ _ rfl (@pi_listK _ K _ _ _ (@pe_fldK _ K _ _ _ _ (@pv _ 0 _ _ (by rfl) (by first | exact Or.inl rfl | exact Or.inr (Or.inl rfl) | exact Or.inr (Or.inr rfl)) (by decide) (by decide)) (by rfl) (by rfl)) (by rfl)) (fun _ _ _ _ => (@pg_tupK K _ _ _ _ (4) _ rfl (@pgs_cons _ _ _ _ _ (@pg_name _ _ (0) _ (show List.Nodup (["name", "owner", "worth", "shares"] : List Str) from by decide +kernel) rfl (Or.inl rfl) (by first | exact .inl rfl | exact .inr rfl | assumption)) (@pgs_cons _ _ _ _ _ (@pg_name _ _ (1) _ (show List.Nodup (["name", "owner", "worth", "shares"] : List Str) from by decide +kernel) rfl (Or.inl rfl) (by first | exact .inl rfl | exact .inr rfl | assumption)) (@pgs_cons _ _ _ _ _ (@pg_name _ _ (2) _ (show List.Nodup (["name", "owner", "worth", "shares"] : List Str) from by decide +kernel) rfl (Or.inl rfl) (by first | exact .inl rfl | exact .inr rfl | assumption)) (@pgs_cons _ _ _ _ _ (@pg_name _ _ (3) _ (show List.Nodup (["name", "owner", "worth", "shares"] : List Str) from by decide +kernel) rfl (Or.inl rfl) (by first | exact .inl rfl | exact .inr rfl | assumption)) (@pgs_nil _) (by rfl)) (by rfl)) (by rfl)) (by rfl)) (by rfl) (by rfl) (by rfl))) (fun _ _ _ _ => (@pe_tup _ _ _ _ _ (@pa_cons _ _ _ _ _ (@pv _ 0 _ _ (by rfl) (by first | exact Or.inl rfl | exact Or.inr (Or.inl rfl) | exact Or.inr (Or.inr rfl)) (by decide) (by decide)) (@pa_cons _ _ _ _ _ (@pv _ 1 _ _ (by rfl) (by first | exact Or.inl rfl | exact Or.inr (Or.inl rfl) | exact Or.inr (Or.inr rfl)) (by decide) (by decide)) (@pa_cons _ _ _ _ _ (@pv _ 2 _ _ (by rfl) (by first | exact Or.inl rfl | exact Or.inr (Or.inl rfl) | exact Or.inr (Or.inr rfl)) (by decide) (by decide)) (@pa_cons _ _ _ _ _ (@pe_callTy _ _ _ _ _ _ _ _ _ (call_list_ofK K) (by rfl) m_list PyProof.Rows.boot_list (@pa_cons _ _ _ _ _ (@pv _ 3 _ _ (by rfl) (by first | exact Or.inl rfl | exact Or.inr (Or.inl rfl) | exact Or.inr (Or.inr rfl)) (by decide) (by decide)) (@pa_nil _) (by rfl)) (by decide) (by decide) (by rfl) (by rfl)) (@pa_nil _) (by rfl)) (by rfl)) (by rfl)) (by rfl)))) rfl (by rfl) (by intro _; rfl)))), ?_⟩
  refine ⟨_, rfl, A.a, T.hold, A.dx, _, _, rfl, hh.h.oa, X.cH, X.has, rfl, A.as, rfl, ⟨_, SqL.of hw⟩, fun acc hacc => ?_⟩
  refine comp_T (K := K) (n := ws.length) [0, 1, 2, 3] (fun i out H1 => Same H H1 ∧ LandN acc ρ H1 out (st.ash.take i)) (by decide) (by omega) ⟨same_new hacc _, .nil⟩ (fun i out H1 hi _ hp => ⟨ws, _, SqL.of (hp.1 _ _ hw), List.getElem?_eq_getElem hi⟩) (fun out H1 _ hp => ⟨ws, SqL.of (hp.1 _ _ hw), Nat.le_refl _⟩) ?_ ?_
  · rintro i x out H1 H2 hi hol ha ⟨g, hL⟩ ⟨rfl, hy⟩
    have ex := hy ws (SqL.of (g _ _ hw))
    obtain ⟨r, l, y, ss, rfl, ey, a1, a2, a3, a4⟩ := hA.get ex
    refine ⟨r, _, rfl, SqT.of (g _ _ a1), rfl, _, rfl, _, rfl, _, rfl, _, rfl, l, ss, rfl, .inl (SqL.of (g _ _ a2)), fun l2 hl2 => ⟨(by show 4 ≤ sizeLine; decide), fun t ht => ?_⟩⟩
    have g2 := same_new hl2 (.lst ss)
    have g3 := same_new ht (.tup [.str y.nm, .str y.ow, .int y.wo, .ref l2])
    have hl3 : upd H2 l2 (.lst ss) l2 = some (.lst ss) := upd_same
    have c2 : ρ l2 = none := hh.g.none (g.free hl2)
    refine ⟨(g2.trans g3) _ _ ha, ((g.trans g2).trans g3).upd_new hacc _, ?_⟩
    rw [take_snoc ey]
    have n1 : l2 ≠ acc := fun e => by rw [e, ha] at hl2; cases hl2
    exact ((hL.mono (g2.trans g3)).snoc (x := y) upd_same (g3 _ _ hl3) c2 n1 (a4.mono ((g.trans g2).trans g3).tups)).upd ((g2.trans g3) _ _ ha)
  rintro out H1 hol ha ⟨g, hL⟩
  rw [hl, List.take_length] at hL
  exact q acc out H1 g hacc ha hL.to
abbrev sd__law_draw : Stmt := top 29
abbrev N__law_draw : List Str := ["_law_script", "_law_k", "_law_j", "_law_many", "_law_cell", "_law_turn", "_law_rest", "_law_step", "_law_one", "_law_two"]
abbrev P__law_draw : List Str := ["_law_script", "_law_k", "_law_j", "_law_many"]
theorem sc__law_draw : FnScope N__law_draw P__law_draw (defScope sd__law_draw) := ⟨rfl, rfl, rfl, by decide +kernel, rfl, by decide +kernel, by decide +kernel⟩
theorem ok__law_draw (F : At K mg "_law_draw" sd__law_draw f fd) (m_len : mg "len" = none) (m_range : mg "range" = none) : Dn P w K mg base 1 "_law_draw" P__law_draw (spDraw K) := by
  refine F.ok sc__law_draw (fun vs H Q E h => ?_) (fun cdv A outer s H vs Q E hr h => ?_) (fun _ _ _ _ _ _ us hl => match us, hl with | [_, _, _, _], _ => rfl)
  · obtain ⟨a, ns, k, j, many, rfl, _⟩ := h.ex
    rfl
  obtain ⟨a, ns, k, j, many, rfl, hS, h63, hk, hj, hj2, hm, q⟩ := h.ex
  refine ⟨_, (@pss_cons _ _ _ _ _ (@ps_set _ _ (4) _ _ _ _ sc__law_draw.nd rfl (Or.inl rfl) (@pe_int _ _ _ _) (by rfl) (by first | exact .inl rfl | exact .inr rfl | assumption)) (@pss_cons _ _ _ _ _ (@ps_set _ _ (5) _ _ _ _ sc__law_draw.nd rfl (Or.inl rfl) (@pe_int _ _ _ _) (by rfl) (by first | exact .inl rfl | exact .inr rfl | assumption)) (@pss_cons _ _ _ _ _ (@ps_ifJ _ _ _ _ _ _ _ _ (@pt_cmpR _ _ _ _ _ _ _ _ op_gt (@pe_callB _ _ _ _ _ _ _ _ _ (call_lenK K) (by rfl) m_len PySem.boot_len (@pa_cons _ _ _ _ _ (@pv _ 0 _ _ (by rfl) (by first | exact Or.inl rfl | exact Or.inr (Or.inl rfl) | exact Or.inr (Or.inr rfl)) (by decide) (by decide)) (@pa_nil _) (by rfl)) (by decide) (by decide) (by rfl) (by rfl)) (@pe_int _ _ _ _) (nomark _)) (@pss_cons _ _ _ _ _ (@ps_set _ _ (4) _ _ _ _ sc__law_draw.nd rfl (Or.inl rfl) (@pe_ix _ _ _ _ _ _ _ (ix_listK K) (@pv _ 0 _ _ (by rfl) (by first | exact Or.inl rfl | exact Or.inr (Or.inl rfl) | exact Or.inr (Or.inr rfl)) (by decide) (by decide)) (@pe_op _ _ _ _ _ _ _ _ op_mod (@pv _ 1 _ _ (by rfl) (by first | exact Or.inl rfl | exact Or.inr (Or.inl rfl) | exact Or.inr (Or.inr rfl)) (by decide) (by decide)) (@pe_callB _ _ _ _ _ _ _ _ _ (call_lenK K) (by rfl) m_len PySem.boot_len (@pa_cons _ _ _ _ _ (@pv _ 0 _ _ (by rfl) (by first | exact Or.inl rfl | exact Or.inr (Or.inl rfl) | exact Or.inr (Or.inr rfl)) (by decide) (by decide)) (@pa_nil _) (by rfl)) (by decide) (by decide) (by rfl) (by rfl))) (fun _ _ => rfl)) (by rfl) (by first | exact .inl rfl | exact .inr rfl | assumption)) (@pss_one _ _ _ (@ps_set _ _ (5) _ _ _ _ sc__law_draw.nd rfl (Or.inl rfl) (@pe_op _ _ _ _ _ _ _ _ op_fdivW (@pv _ 1 _ _ (by rfl) (by first | exact Or.inl rfl | exact Or.inr (Or.inl rfl) | exact Or.inr (Or.inr rfl)) (by decide) (by decide)) (@pe_callB _ _ _ _ _ _ _ _ _ (call_lenK K) (by rfl) m_len PySem.boot_len (@pa_cons _ _ _ _ _ (@pv _ 0 _ _ (by rfl) (by first | exact Or.inl rfl | exact Or.inr (Or.inl rfl) | exact Or.inr (Or.inr rfl)) (by decide) (by decide)) (@pa_nil _) (by rfl)) (by decide) (by decide) (by rfl) (by rfl))) (by rfl) (by first | exact .inl rfl | exact .inr rfl | assumption)))) (@pss_nil _)) (@pss_cons _ _ _ _ _ (@ps_set _ _ (6) _ _ _ _ sc__law_draw.nd rfl (Or.inl rfl) (@pv _ 4 _ _ (by rfl) (by first | exact Or.inl rfl | exact Or.inr (Or.inl rfl) | exact Or.inr (Or.inr rfl)) (by decide) (by decide)) (by rfl) (by first | exact .inl rfl | exact .inr rfl | assumption)) (@pss_cons _ _ _ _ _ (@ps_for _ _ _ _ _ _ _ _ PassesOwn.never rfl (@pi_range1 _ _ _ _ _ _ (by rfl) m_range (@pa_cons _ _ _ _ _ (@pv _ 2 _ _ (by rfl) (by first | exact Or.inl rfl | exact Or.inr (Or.inl rfl) | exact Or.inr (Or.inr rfl)) (by decide) (by decide)) (@pa_nil _) (by rfl)) (by rfl)) (@pg_name _ _ (7) _ sc__law_draw.nd rfl (Or.inl rfl) (by first | exact .inl rfl | exact .inr rfl | assumption)) (@pss_one _ _ _ (@ps_set _ _ (6) _ _ _ _ sc__law_draw.nd rfl (Or.inl rfl) (@pe_op _ _ _ _ _ _ _ _ op_fdivW (@pv _ 6 _ _ (by rfl) (by first | exact Or.inl rfl | exact Or.inr (Or.inl rfl) | exact Or.inr (Or.inr rfl)) (by decide) (by decide)) (@pe_op _ _ _ _ _ _ _ _ op_pow (@pe_int _ _ _ _) (@pe_int _ _ _ _))) (by rfl) (by first | exact .inl rfl | exact .inr rfl | assumption))) (by intro _; rfl)) (@pss_cons _ _ _ _ _ (@ps_if _ _ _ _ _ _ _ _ (@pt_pure _ _ _ (PW.pt (@pw_and _ _ _ _ _ _ _ (@pt_cmpR _ _ _ _ _ _ _ _ op_eq (@pv _ 5 _ _ (by rfl) (by first | exact Or.inl rfl | exact Or.inr (Or.inl rfl) | exact Or.inr (Or.inr rfl)) (by decide) (by decide)) (@pe_int _ _ _ _) (nomark _)) (@pw_and _ _ _ _ _ _ _ (@pt_cmpR _ _ _ _ _ _ _ _ op_ge (@pv _ 4 _ _ (by rfl) (by first | exact Or.inl rfl | exact Or.inr (Or.inl rfl) | exact Or.inr (Or.inr rfl)) (by decide) (by decide)) (@pe_op _ _ _ _ _ _ _ _ op_pow (@pe_int _ _ _ _) (@pe_int _ _ _ _)) (nomark _)) (@pw_and1 _ _ _ _ (@pt_cmpR _ _ _ _ _ _ _ _ op_gt (@pv _ 6 _ _ (by rfl) (by first | exact Or.inl rfl | exact Or.inr (Or.inl rfl) | exact Or.inr (Or.inr rfl)) (by decide) (by decide)) (@pe_int _ _ _ _) (nomark _))))))) (@pss_one _ _ _ (@ps_ret _ _ _ _ (@pe_op _ _ _ _ _ _ _ _ op_mod (@pe_op _ _ _ _ _ _ _ _ op_mod (@pv _ 6 _ _ (by rfl) (by first | exact Or.inl rfl | exact Or.inr (Or.inl rfl) | exact Or.inr (Or.inr rfl)) (by decide) (by decide)) (@pe_op _ _ _ _ _ _ _ _ op_pow (@pe_int _ _ _ _) (@pe_int _ _ _ _))) (@pv _ 3 _ _ (by rfl) (by first | exact Or.inl rfl | exact Or.inr (Or.inl rfl) | exact Or.inr (Or.inr rfl)) (by decide) (by decide))))) (@pss_nil _)) (@pss_cons _ _ _ _ _ (@ps_set _ _ (8) _ _ _ _ sc__law_draw.nd rfl (Or.inl rfl) (@pe_op _ _ _ _ _ _ _ _ op_mod (@pe_op _ _ _ _ _ _ _ _ op_add (@pe_op _ _ _ _ _ _ _ _ op_add (@pe_op _ _ _ _ _ _ _ _ op_add (@pe_op _ _ _ _ _ _ _ _ op_mul (@pv _ 4 _ _ (by rfl) (by first | exact Or.inl rfl | exact Or.inr (Or.inl rfl) | exact Or.inr (Or.inr rfl)) (by decide) (by decide)) (@pe_int _ _ _ _)) (@pe_op _ _ _ _ _ _ _ _ op_mul (@pv _ 1 _ _ (by rfl) (by first | exact Or.inl rfl | exact Or.inr (Or.inl rfl) | exact Or.inr (Or.inr rfl)) (by decide) (by decide)) (@pe_int _ _ _ _))) (@pe_op _ _ _ _ _ _ _ _ op_mul (@pv _ 2 _ _ (by rfl) (by first | exact Or.inl rfl | exact Or.inr (Or.inl rfl) | exact Or.inr (Or.inr rfl)) (by decide) (by decide)) (@pe_int _ _ _ _))) (@pe_int _ _ _ _)) (@pe_int _ _ _ _)) (by rfl) (by first | exact .inl rfl | exact .inr rfl | assumption)) (@pss_cons _ _ _ _ _ (@ps_set _ _ (9) _ _ _ _ sc__law_draw.nd rfl (Or.inl rfl) (@pe_op _ _ _ _ _ _ _ _ op_mod (@pe_op _ _ _ _ _ _ _ _ op_add (@pe_op _ _ _ _ _ _ _ _ op_mul (@pv _ 8 _ _ (by rfl) (by first | exact Or.inl rfl | exact Or.inr (Or.inl rfl) | exact Or.inr (Or.inr rfl)) (by decide) (by decide)) (@pe_int _ _ _ _)) (@pe_op _ _ _ _ _ _ _ _ op_fdivW (@pv _ 4 _ _ (by rfl) (by first | exact Or.inl rfl | exact Or.inr (Or.inl rfl) | exact Or.inr (Or.inr rfl)) (by decide) (by decide)) (@pe_int _ _ _ _))) (@pe_int _ _ _ _)) (by rfl) (by first | exact .inl rfl | exact .inr rfl | assumption)) (@pss_cons _ _ _ _ _ (@ps_set _ _ (9) _ _ _ _ sc__law_draw.nd rfl (Or.inl rfl) (@pe_op _ _ _ _ _ _ _ _ op_mod (@pe_op _ _ _ _ _ _ _ _ op_add (@pe_op _ _ _ _ _ _ _ _ op_mul (@pv _ 9 _ _ (by rfl) (by first | exact Or.inl rfl | exact Or.inr (Or.inl rfl) | exact Or.inr (Or.inr rfl)) (by decide) (by decide)) (@pe_op _ _ _ _ _ _ _ _ op_add (@pe_op _ _ _ _ _ _ _ _ op_mod (@pv _ 8 _ _ (by rfl) (by first | exact Or.inl rfl | exact Or.inr (Or.inl rfl) | exact Or.inr (Or.inr rfl)) (by decide) (by decide)) (@pe_int _ _ _ _)) (@pe_int _ _ _ _))) (@pv _ 2 _ _ (by rfl) (by first | exact Or.inl rfl | exact Or.inr (Or.inl rfl) | exact Or.inr (Or.inr rfl)) (by decide) (by decide))) (@pe_int _ _ _ _)) (by rfl) (by first | exact .inl rfl | exact .inr rfl | assumption)) (@pss_one _ _ _ (@ps_ret _ _ _ _ (@pe_op _ _ _ _ _ _ _ _ op_mod (@pe_op _ _ _ _ _ _ _ _ op_mod (@pe_op _ _ _ _ _ _ _ _ op_add (@pe_op _ _ _ _ _ _ _ _ op_add (@pe_op _ _ _ _ _ _ _ _ op_mul (@pv _ 8 _ _ (by rfl) (by first | exact Or.inl rfl | exact Or.inr (Or.inl rfl) | exact Or.inr (Or.inr rfl)) (by decide) (by decide)) (@pe_int _ _ _ _)) (@pe_op _ _ _ _ _ _ _ _ op_mul (@pv _ 9 _ _ (by rfl) (by first | exact Or.inl rfl | exact Or.inr (Or.inl rfl) | exact Or.inr (Or.inr rfl)) (by decide) (by decide)) (@pe_int _ _ _ _))) (@pe_op _ _ _ _ _ _ _ _ op_fdivW (@pv _ 9 _ _ (by rfl) (by first | exact Or.inl rfl | exact Or.inr (Or.inl rfl) | exact Or.inr (Or.inr rfl)) (by decide) (by decide)) (@pe_int _ _ _ _))) (@pe_int _ _ _ _)) (@pv _ 3 _ _ (by rfl) (by first | exact Or.inl rfl | exact Or.inr (Or.inl rfl) | exact Or.inr (Or.inr rfl)) (by decide) (by decide)))))))))))))), ?_⟩
  have hl : (ns.map V.int).length = ns.length := List.length_map _
  refine ⟨fun σ H' => H' = H ∧ σ = [some (.ref a), some (.int k), some (.int j), some (.int many), some (.int (Jm.cellOf ns k)), some (.int (Jm.turnOf ns k)), none, none, none, none], ?_, ?_⟩
  · refine ⟨_, rfl, a, _, rfl, .inl hS, _, _, rfl, rfl, _, rfl, ?_⟩
    refine ite2 (fun c => ?_) (fun c => ?_)
    · have c' : 0 < (((ns.map V.int).length : Nat) : Int) := of_decide_eq_true c
      rw [hl] at c'
      have i0 : 0 ≤ k % (ns.length : Int) := Int.emod_nonneg _ (by omega)
      have i1 : k % (ns.length : Int) < (ns.length : Int) := Int.emod_lt_of_pos _ c'
      refine ⟨_, rfl, _, rfl, _, rfl, a, _, rfl, .inl hS, _, _, rfl, rfl, (by show (0 : Int) < _; rw [hl]; exact c'), a, _, _, .int (ns.getD (k % ns.length).toNat 0), rfl, rfl, hS, ?_, ?_⟩
      · rw [hl]
        exact atI_map i0 i1
      refine ⟨_, rfl, _, rfl, a, _, rfl, .inl hS, _, _, rfl, rfl, cdivW_of (n := 10) (by rw [hl]; exact c') (by rw [hl]; omega) (by decide), rfl, ?_⟩
      unfold Jm.cellOf Jm.turnOf
      rw [if_pos c', if_pos c', hl]
      rfl
    · have c' : ¬ 0 < (((ns.map V.int).length : Nat) : Int) := of_decide_eq_false (Bool.eq_false_iff.mpr c)
      rw [hl] at c'
      refine ⟨rfl, ?_⟩
      unfold Jm.cellOf Jm.turnOf
      rw [if_neg c', if_neg c']
      rfl
  rintro σ H' ⟨rfl, rfl⟩
  generalize ec : Jm.cellOf ns k = cell at *
  generalize et : Jm.turnOf ns k = turn at *
  refine ⟨_, rfl, _, rfl, j, rfl, by omega, hj2, ?_⟩
  refine for_range (lo := 0) (n := j.toNat) (fun i σ H'' => H'' = H' ∧ ∃ st : Option V, σ = [some (.ref a), some (.int k), some (.int j), some (.int many), some (.int cell), some (.int turn), some (.int (Jm.restN cell i)), st, none, none]) ⟨rfl, none, rfl⟩ ?_ ?_
  · rintro i σ H'' hi ⟨rfl, st, rfl⟩
    refine ⟨_, rfl, _, _, rfl, rfl, ⟨by decide, by decide, by decide⟩, _, _, rfl, rfl, cdivW_lit (by decide +kernel), rfl, ?_⟩
    exact ⟨_, rfl⟩
  rintro σ H'' ⟨rfl, st, rfl⟩
  have full : Q (.int (Jm.draw ns k j many)) H'' := q
  unfold Jm.draw at full
  rw [ec, et] at full
  generalize er : Jm.restN cell j.toNat = rest at *
  refine ⟨decide (turn = 0 ∧ 1000000000000000000 ≤ cell ∧ 0 < rest), ?_, ?_⟩
  · refine ⟨_, rfl, rfl, _, rfl, ?_⟩
    by_cases h1 : turn = 0
    · rw [decide_eq_true (by rw [h1] : V.int turn = V.int 0)]
      refine iteT ⟨_, rfl, _, _, rfl, rfl, ⟨by decide, by decide, by decide⟩, _, _, rfl, rfl, _, rfl, ?_⟩
      by_cases h2 : 1000000000000000000 ≤ cell
      · rw [decide_eq_true (show (10 : Int) ^ (18 : Int).toNat ≤ cell from h2)]
        refine iteT ⟨_, rfl, _, _, rfl, rfl, _, rfl, ?_, rfl⟩
        by_cases h3 : 0 < rest
        · rw [decide_eq_true h3, decide_eq_true ⟨h1, h2, h3⟩]
        · rw [decide_eq_false h3, decide_eq_false fun z => h3 z.2.2]
      · rw [decide_eq_false (show ¬ (10 : Int) ^ (18 : Int).toNat ≤ cell from h2)]
        exact iteF ⟨(decide_eq_false fun z => h2 z.2.1).symm, rfl⟩
    · rw [decide_eq_false (fun z => h1 (V.int.inj z))]
      exact iteF ⟨(decide_eq_false fun z => h1 z.1).symm, rfl⟩
  by_cases h : turn = 0 ∧ 1000000000000000000 ≤ cell ∧ 0 < rest
  · rw [decide_eq_true h]
    rw [if_pos h] at full
    refine iteT ⟨_, rfl, _, _, rfl, rfl, ⟨by decide, by decide, by decide⟩, _, _, rfl, rfl, (by show (0 : Int) < _; decide), _, rfl, _, _, rfl, rfl, hm, ?_⟩
    exact full
  · rw [decide_eq_false h]
    rw [if_neg h] at full
    refine iteF ?_
    refine ⟨_, rfl, _, _, rfl, rfl, .inr ⟨by decide, by decide⟩, _, rfl, _, _, rfl, rfl, .inr ⟨by decide, by decide⟩, _, _, rfl, rfl, _, rfl, _, _, rfl, rfl, .inr ⟨by decide, by decide⟩, _, _, rfl, rfl, _, _, rfl, rfl, _, _, rfl, rfl, (by show (0 : Int) < _; decide), ?_⟩
    refine ⟨_, rfl, _, _, rfl, rfl, .inr ⟨by decide, by decide⟩, _, rfl, _, _, rfl, rfl, cdivW_lit (by decide +kernel), _, _, rfl, rfl, _, _, rfl, rfl, (by show (0 : Int) < _; decide), ?_⟩
    unfold Jm.mixed at full
    dsimp only at full ⊢
    generalize e1 : (cell * 7919 + k * 104729 + j * 1299709 + 31) % 1000000007 = one at *
    generalize e2 : (one * 48271 + cell / 1009) % 998244353 = two at *
    have b1 : 0 ≤ one % 9973 := Int.emod_nonneg _ (by decide)
    have b2 : one % 9973 < 9973 := Int.emod_lt_of_pos _ (by decide)
    refine ⟨_, rfl, _, rfl, _, _, rfl, rfl, (by show (0 : Int) < _; decide), _, _, rfl, rfl, _, _, rfl, rfl, .inr ⟨by omega, by omega⟩, _, rfl, _, _, rfl, rfl, _, _, rfl, rfl, (by show (0 : Int) < _; decide), ?_⟩
    refine ⟨_, rfl, _, _, rfl, rfl, .inr ⟨by decide, by decide⟩, _, rfl, _, _, rfl, rfl, .inr ⟨by decide, by decide⟩, _, _, rfl, rfl, _, rfl, _, _, rfl, rfl, cdivW_lit (by decide +kernel), _, _, rfl, rfl, _, _, rfl, rfl, (by show (0 : Int) < _; decide), _, rfl, _, _, rfl, rfl, hm, ?_⟩
    exact full
abbrev sd__law_name : Stmt := top 30
abbrev N__law_name : List Str := ["_law_code", "_law_size", "_law_word", "_law_at"]
abbrev P__law_name : List Str := ["_law_code", "_law_size"]
theorem sc__law_name : FnScope N__law_name P__law_name (defScope sd__law_name) := ⟨rfl, rfl, rfl, by decide +kernel, rfl, by decide +kernel, by decide +kernel⟩
theorem ok__law_name (F : At K mg "_law_name" sd__law_name f fd) (m_range : mg "range" = none) : Dn P w K mg base 1 "_law_name" P__law_name spName' := by
  refine F.ok sc__law_name (fun vs H Q E h => ?_) (fun cdv A outer s H vs Q E hr h => ?_) (fun _ _ _ _ _ _ us hl => match us, hl with | [_, _], _ => rfl)
  · obtain ⟨c, n, rfl, _⟩ := h.ex
    rfl
  obtain ⟨c, n, rfl, hc, hn, q⟩ := h.ex
  refine ⟨_, (@pss_cons _ _ _ _ _ (@ps_set _ _ (2) _ _ _ _ sc__law_name.nd rfl (Or.inl rfl) (@pe_str _ _ _ _) (by rfl) (by first | exact .inl rfl | exact .inr rfl | assumption)) (@pss_cons _ _ _ _ _ (@ps_for _ _ _ _ _ _ _ _ PassesOwn.never rfl (@pi_range1 _ _ _ _ _ _ (by rfl) m_range (@pa_cons _ _ _ _ _ (@pv _ 1 _ _ (by rfl) (by first | exact Or.inl rfl | exact Or.inr (Or.inl rfl) | exact Or.inr (Or.inr rfl)) (by decide) (by decide)) (@pa_nil _) (by rfl)) (by rfl)) (@pg_name _ _ (3) _ sc__law_name.nd rfl (Or.inl rfl) (by first | exact .inl rfl | exact .inr rfl | assumption)) (@pss_cons _ _ _ _ _ (@ps_set _ _ (2) _ _ _ _ sc__law_name.nd rfl (Or.inl rfl) (@pe_op _ _ _ _ _ _ _ _ op_add_str (@pv _ 2 _ _ (by rfl) (by first | exact Or.inl rfl | exact Or.inr (Or.inl rfl) | exact Or.inr (Or.inr rfl)) (by decide) (by decide)) (@pe_ix _ _ _ _ _ _ _ ix_str (@pe_str _ _ _ _) (@pe_op _ _ _ _ _ _ _ _ op_mod (@pv _ 0 _ _ (by rfl) (by first | exact Or.inl rfl | exact Or.inr (Or.inl rfl) | exact Or.inr (Or.inr rfl)) (by decide) (by decide)) (@pe_int _ _ _ _)) (fun _ _ => rfl))) (by rfl) (by first | exact .inl rfl | exact .inr rfl | assumption)) (@pss_one _ _ _ (@ps_set _ _ (0) _ _ _ _ sc__law_name.nd rfl (Or.inl rfl) (@pe_op _ _ _ _ _ _ _ _ op_fdivW (@pv _ 0 _ _ (by rfl) (by first | exact Or.inl rfl | exact Or.inr (Or.inl rfl) | exact Or.inr (Or.inr rfl)) (by decide) (by decide)) (@pe_int _ _ _ _)) (by rfl) (by first | exact .inl rfl | exact .inr rfl | assumption)))) (by intro _; rfl)) (@pss_one _ _ _ (@ps_ret _ _ _ _ (@pv _ 2 _ _ (by rfl) (by first | exact Or.inl rfl | exact Or.inr (Or.inl rfl) | exact Or.inr (Or.inr rfl)) (by decide) (by decide)))))), ?_⟩
  refine ⟨_, rfl, _, rfl, by omega, by omega, ?_⟩
  refine for_range (lo := 0) (n := (n : Int).toNat) (fun i σ H' => H' = H ∧ ∃ (s1 : Option V), σ = [some (.int (c / 26 ^ i)), some (.int n), some (.str (tx (nmL c i))), s1]) ⟨rfl, none, by rw [Int.pow_zero, Int.ediv_one]; rfl⟩ ?_ ?_
  · rintro i σ H' hi ⟨rfl, s1, rfl⟩
    have hp : (0 : Int) < 26 ^ i := Int.pow_pos (by decide)
    have hd0 : 0 ≤ c / 26 ^ i := Int.ediv_nonneg hc (Int.le_of_lt hp)
    have hm0 : 0 ≤ c / 26 ^ i % 26 := Int.emod_nonneg _ (by decide)
    have hm1 : c / 26 ^ i % 26 < 26 := Int.emod_lt_of_pos _ (by decide)
    refine ⟨_, rfl, _, rfl, _, _, rfl, rfl, (by show (0 : Int) < 26; decide), _, _, _, rfl, rfl, (by decide +kernel), letter_at hm0 hm1, ?_⟩
    refine ⟨_, _, rfl, rfl, ?_, ?_⟩
    · rw [tx_length, nmL_length]
      show i + 1 ≤ sizeLine
      exact Nat.le_of_lt (small1000 (by omega))
    refine ⟨_, rfl, _, _, rfl, rfl, cdivW_sz (by decide) (sz_lit (by decide +kernel)), rfl, some (.int ((0 : Int) + (i : Int))), ?_⟩
    have e1 : c / 26 ^ i / 26 = c / 26 ^ (i + 1) := by rw [Int.ediv_ediv_of_nonneg (Int.le_of_lt hp), Int.pow_succ]
    have e2 : (tx (nmL c i) ++ tx [97 + (c / 26 ^ i % 26).toNat] : Str) = tx (nmL c (i + 1)) := by rw [tx_cat, nmL_succ]
    rw [← e1, ← e2]
    rfl
  rintro σ H' ⟨rfl, s1, rfl⟩
  refine ⟨_, rfl, ?_⟩
  rw [Int.toNat_natCast]
  exact q
abbrev sd__law_many_names : Stmt := top 31
abbrev N__law_many_names : List Str := ["_law_script", "_law_k", "_law_many", "_law_size", "_law_names", "_law_at", "_law_code"]
abbrev P__law_many_names : List Str := ["_law_script", "_law_k", "_law_many"]
theorem sc__law_many_names : FnScope N__law_many_names P__law_many_names (defScope sd__law_many_names) := ⟨rfl, rfl, rfl, by decide +kernel, rfl, by decide +kernel, by decide +kernel⟩
theorem ok__law_many_names (F : At K mg "_law_many_names" sd__law_many_names f fd) (D__law_draw : Dn P w K mg base 1 "_law_draw" ["_law_script", "_law_k", "_law_j", "_law_many"] (spDraw K)) (D__law_name : Dn P w K mg base 1 "_law_name" ["_law_code", "_law_size"] spName') (m_range : mg "range" = none) : Dn P w K mg base 2 "_law_many_names" P__law_many_names (spManyNames K) := by
  refine F.ok sc__law_many_names (fun vs H Q E h => ?_) (fun cdv A outer s H vs Q E hr h => ?_) (fun _ _ _ _ _ _ us hl => match us, hl with | [_, _, _], _ => rfl)
  · obtain ⟨a, ms, k, many, rfl, _⟩ := h.ex
    rfl
  obtain ⟨a, ms, k, many, rfl, hS, h63, hk, hm, q⟩ := h.ex
  refine ⟨_, (@pss_cons _ _ _ _ _ (@ps_set _ _ (3) _ _ _ _ sc__law_many_names.nd rfl (Or.inl rfl) (@pe_op _ _ _ _ _ _ _ _ op_add (@pe_int _ _ _ _) (@pe_fn _ _ _ _ _ _ _ _ _ _ _ D__law_draw hr (@pa_cons _ _ _ _ _ (@pv _ 0 _ _ (by rfl) (by first | exact Or.inl rfl | exact Or.inr (Or.inl rfl) | exact Or.inr (Or.inr rfl)) (by decide) (by decide)) (@pa_cons _ _ _ _ _ (@pv _ 1 _ _ (by rfl) (by first | exact Or.inl rfl | exact Or.inr (Or.inl rfl) | exact Or.inr (Or.inr rfl)) (by decide) (by decide)) (@pa_cons _ _ _ _ _ (@pe_int _ _ _ _) (@pa_cons _ _ _ _ _ (@pe_int _ _ _ _) (@pa_nil _) (by rfl)) (by rfl)) (by rfl)) (by rfl)) (by decide) (by rfl) (by decide) (by rfl) (by rfl))) (by rfl) (by first | exact .inl rfl | exact .inr rfl | assumption)) (@pss_cons _ _ _ _ _ (@ps_set _ _ (4) _ _ _ _ sc__law_many_names.nd rfl (Or.inl rfl) (@pe_lst _ _ _ _ (@pa_nil _)) (by rfl) (by first | exact .inl rfl | exact .inr rfl | assumption)) (@pss_cons _ _ _ _ _ (@ps_for _ _ _ _ _ _ _ _ PassesOwn.never rfl (@pi_range1 _ _ _ _ _ _ (by rfl) m_range (@pa_cons _ _ _ _ _ (@pv _ 2 _ _ (by rfl) (by first | exact Or.inl rfl | exact Or.inr (Or.inl rfl) | exact Or.inr (Or.inr rfl)) (by decide) (by decide)) (@pa_nil _) (by rfl)) (by rfl)) (@pg_name _ _ (5) _ sc__law_many_names.nd rfl (Or.inl rfl) (by first | exact .inl rfl | exact .inr rfl | assumption)) (@pss_cons _ _ _ _ _ (@ps_set _ _ (6) _ _ _ _ sc__law_many_names.nd rfl (Or.inl rfl) (@pe_fn _ _ _ _ _ _ _ _ _ _ _ D__law_draw hr (@pa_cons _ _ _ _ _ (@pv _ 0 _ _ (by rfl) (by first | exact Or.inl rfl | exact Or.inr (Or.inl rfl) | exact Or.inr (Or.inr rfl)) (by decide) (by decide)) (@pa_cons _ _ _ _ _ (@pe_op _ _ _ _ _ _ _ _ op_add (@pv _ 1 _ _ (by rfl) (by first | exact Or.inl rfl | exact Or.inr (Or.inl rfl) | exact Or.inr (Or.inr rfl)) (by decide) (by decide)) (@pv _ 5 _ _ (by rfl) (by first | exact Or.inl rfl | exact Or.inr (Or.inl rfl) | exact Or.inr (Or.inr rfl)) (by decide) (by decide))) (@pa_cons _ _ _ _ _ (@pe_int _ _ _ _) (@pa_cons _ _ _ _ _ (@pe_op _ _ _ _ _ _ _ _ op_pow (@pe_int _ _ _ _) (@pe_int _ _ _ _)) (@pa_nil _) (by rfl)) (by rfl)) (by rfl)) (by rfl)) (by decide) (by rfl) (by decide) (by rfl) (by rfl)) (by rfl) (by first | exact .inl rfl | exact .inr rfl | assumption)) (@pss_cons _ _ _ _ _ (@ps_while _ _ _ _ _ _ PassesOwn.never (@pt_cmpR _ _ _ _ _ _ _ _ op_in_seq (@pe_fn _ _ _ _ _ _ _ _ _ _ _ D__law_name hr (@pa_cons _ _ _ _ _ (@pv _ 6 _ _ (by rfl) (by first | exact Or.inl rfl | exact Or.inr (Or.inl rfl) | exact Or.inr (Or.inr rfl)) (by decide) (by decide)) (@pa_cons _ _ _ _ _ (@pv _ 3 _ _ (by rfl) (by first | exact Or.inl rfl | exact Or.inr (Or.inl rfl) | exact Or.inr (Or.inr rfl)) (by decide) (by decide)) (@pa_nil _) (by rfl)) (by rfl)) (by decide) (by rfl) (by decide) (by rfl) (by rfl)) (@pv _ 4 _ _ (by rfl) (by first | exact Or.inl rfl | exact Or.inr (Or.inl rfl) | exact Or.inr (Or.inr rfl)) (by decide) (by decide)) (by with_unfolding_all rfl)) (@pss_one _ _ _ (@ps_set _ _ (6) _ _ _ _ sc__law_many_names.nd rfl (Or.inl rfl) (@pe_op _ _ _ _ _ _ _ _ op_add (@pv _ 6 _ _ (by rfl) (by first | exact Or.inl rfl | exact Or.inr (Or.inl rfl) | exact Or.inr (Or.inr rfl)) (by decide) (by decide)) (@pe_int _ _ _ _)) (by rfl) (by first | exact .inl rfl | exact .inr rfl | assumption)))) (@pss_one _ _ _ (@ps_expr _ _ _ _ (@pe_bm _ _ _ _ _ _ _ _ _ _ _ _ PySem.F.plainAttrs_list PySem.F.slot_list_append PySem.F.type_list_append mt_append (@pv _ 4 _ _ (by rfl) (by first | exact Or.inl rfl | exact Or.inr (Or.inl rfl) | exact Or.inr (Or.inr rfl)) (by decide) (by decide)) (@pa_cons _ _ _ _ _ (@pe_fn _ _ _ _ _ _ _ _ _ _ _ D__law_name hr (@pa_cons _ _ _ _ _ (@pv _ 6 _ _ (by rfl) (by first | exact Or.inl rfl | exact Or.inr (Or.inl rfl) | exact Or.inr (Or.inr rfl)) (by decide) (by decide)) (@pa_cons _ _ _ _ _ (@pv _ 3 _ _ (by rfl) (by first | exact Or.inl rfl | exact Or.inr (Or.inl rfl) | exact Or.inr (Or.inr rfl)) (by decide) (by decide)) (@pa_nil _) (by rfl)) (by rfl)) (by decide) (by rfl) (by decide) (by rfl) (by rfl)) (@pa_nil _) (by rfl)) (by rfl) (by rfl) (by rfl) (by rfl) (by rfl)) (by rfl))))) (by intro _; rfl)) (@pss_one _ _ _ (@ps_ret _ _ _ _ (@pv _ 4 _ _ (by rfl) (by first | exact Or.inl rfl | exact Or.inr (Or.inl rfl) | exact Or.inr (Or.inr rfl)) (by decide) (by decide))))))), ?_⟩
  have P10 : CPow 10 10 := ⟨by decide, by decide, by decide +kernel⟩
  refine ⟨_, rfl, _, rfl, use_draw hS h63 hk (by decide) (by decide) (by decide) fun sd _ s0 s1 => ⟨_, _, rfl, rfl, ?_⟩⟩
  obtain ⟨n, en⟩ : ∃ n : Nat, 2 + sd = (n : Int) := ⟨(2 + sd).toNat, by omega⟩
  refine ⟨(by show 0 ≤ sizeLine; decide), fun pn hpn => ?_⟩
  have g0 := same_new hpn (.lst [])
  refine ⟨_, rfl, (many : Int), rfl, by omega, by omega, ?_⟩
  refine for_range (lo := 0) (n := (many : Int).toNat) (fun i σ H' => Same H H' ∧ ∃ (nss : List (List Nat)) (s1 s2 : Option V), σ = [some (.ref a), some (.int k), some (.int many), some (.int (2 + sd)), some (.ref pn), s1, s2] ∧ H' pn = some (.lst (txs nss)) ∧ nss.length = i ∧ nss.Nodup ∧ ∀ x ∈ nss, NameOk x ∧ 2 ≤ x.length)
    ⟨g0, [], none, none, rfl, upd_same, rfl, List.nodup_nil, fun _ m => nomatch m⟩ ?_ ?_
  · rintro i σ H' hi ⟨g, nss, s1, s2, rfl, hn, hnl, hnd, hok⟩
    have hsl : (txs nss).length = i := by unfold txs; rw [List.length_map]; exact hnl
    refine ⟨_, rfl, _, rfl, _, rfl, _, _, rfl, rfl, _, _, rfl, rfl, P10, use_draw (g.seq hS) h63 (by omega) (by decide) (by decide) (by decide +kernel) fun c0 _ c00 c01 => ?_⟩
    refine ⟨fun m σ H2 => H2 = H' ∧ ∃ t : Nat, m = nss.length + 1 - t ∧ t ≤ nss.length ∧ σ = [some (.ref a), some (.int k), some (.int many), some (.int (2 + sd)), some (.ref pn), some (.int ((0 : Int) + (i : Int))), some (.int (c0 + (t : Int)))] ∧ ∀ j : Nat, j < t → nmL (c0 + (j : Int)) n ∈ nss,
      ⟨_, rfl, 0, rfl, Nat.zero_le _, by rw [show c0 + ((0 : Nat) : Int) = c0 from by omega]; rfl, fun j hj => absurd hj (Nat.not_lt_zero _)⟩, ?_⟩
    rintro m σ H2 ⟨rfl, t, rfl, ht, rfl, htr⟩
    refine ⟨_, rfl, _, rfl, use_name en (by omega) (by omega) ?_⟩
    refine ⟨_, rfl, pn, _, rfl, .inl (SqL.of hn), rfl, txs_flat nss, ?_⟩
    show ∃ b, V.bl (if false = true then !inV (.str (tx (nmL (c0 + (t : Int)) n))) (txs nss) else inV (.str (tx (nmL (c0 + (t : Int)) n))) (txs nss)) = .bl b ∧ _
    rw [if_neg Bool.false_ne_true, inV_txs]
    refine ⟨_, rfl, ite2 (fun c => ?_) (fun c => ?_)⟩
    · have hmem : nmL (c0 + (t : Int)) n ∈ nss := of_decide_eq_true c
      have htr' : ∀ j : Nat, j < t + 1 → nmL (c0 + (j : Int)) n ∈ nss := fun j hj => by
        rcases Nat.lt_succ_iff_lt_or_eq.mp hj with z | z
        · exact htr j z
        · rw [z]; exact hmem
      have hle := tries_le (c := c0) (n := n) (t := t + 1) (by omega) (by omega) htr'
      refine ⟨_, fun _ _ z => z, ?_⟩
      refine ⟨_, rfl, _, _, rfl, rfl, ?_⟩
      exact ⟨_, (by omega : nss.length + 1 - (t + 1) < nss.length + 1 - t), rfl, t + 1, rfl, hle, by rw [show c0 + ((t + 1 : Nat) : Int) = c0 + (t : Int) + 1 from by omega]; rfl, htr'⟩
    · have hnm : nmL (c0 + (t : Int)) n ∉ nss := of_decide_eq_false (Bool.eq_false_iff.mpr c)
      refine ⟨_, rfl, .inl ⟨rfl, _, SqL.of hn⟩, ?_⟩
      refine ⟨_, rfl, _, rfl, use_name en (by omega) (by omega) ?_⟩
      refine ⟨pn, txs nss, _, rfl, rfl, hn, small1000 (by omega), g.upd_new hpn _, nss ++ [nmL (c0 + (t : Int)) n], _, _, rfl, ?_, ?_, nd_snoc hnd hnm, fun x hx => ?_⟩
      · rw [upd_same]
        unfold txs
        rw [List.map_append]
        rfl
      · rw [List.length_append, hnl]
        rfl
      · rcases List.mem_append.mp hx with z | z
        · exact hok x z
        · rw [List.mem_singleton.mp z]
          exact ⟨nmL_ok _ (by omega) (by omega), by rw [nmL_length]; omega⟩
  rintro σ H' ⟨g, nss, s1, s2, rfl, hn, hnl, hnd, hok⟩
  exact ⟨_, rfl, q pn nss H' g hn hpn (by omega) hnd hok⟩
abbrev sd__law_int : Stmt := top 36
abbrev N__law_int : List Str := ["_law_found"]
abbrev P__law_int : List Str := ["_law_found"]
theorem sc__law_int : FnScope N__law_int P__law_int (defScope sd__law_int) := ⟨rfl, rfl, rfl, by decide +kernel, rfl, by decide +kernel, by decide +kernel⟩
theorem ok__law_int (F : At K mg "_law_int" sd__law_int f fd) (m_isinstance : mg "isinstance" = none) (m_int : mg "int" = none) (m_bool : mg "bool" = none) : Dn P w K mg base 1 "_law_int" P__law_int spInt := by
  refine F.ok sc__law_int (fun vs H Q E h => ?_) (fun cdv A outer s H vs Q E hr h => ?_) (fun _ _ _ _ _ _ us hl => match us, hl with | [_], _ => rfl)
  · obtain ⟨a, rfl, _⟩ := h
    rfl
  obtain ⟨i, rfl, q⟩ := h
  refine ⟨_, (@pss_one _ _ _ (@ps_ret _ _ _ _ (@pe_and _ _ _ _ _ _ _ (@pe_callB _ _ _ _ _ _ _ _ _ (call_isinstK K) (by rfl) m_isinstance PyProof.Rows.boot_isinstance (@pa_cons _ _ _ _ _ (@pv _ 0 _ _ (by rfl) (by first | exact Or.inl rfl | exact Or.inr (Or.inl rfl) | exact Or.inr (Or.inr rfl)) (by decide) (by decide)) (@pa_cons _ _ _ _ _ (@pe_ty _ _ _ _ PyProof.Rows.boot_int rfl m_int (by decide) (by decide)) (@pa_nil _) (by rfl)) (by rfl)) (by decide) (by decide) (by rfl) (by rfl)) (@pe_one _ _ _ _ _ (@pe_not _ _ _ _ (@pe_callB _ _ _ _ _ _ _ _ _ (call_isinstK K) (by rfl) m_isinstance PyProof.Rows.boot_isinstance (@pa_cons _ _ _ _ _ (@pv _ 0 _ _ (by rfl) (by first | exact Or.inl rfl | exact Or.inr (Or.inl rfl) | exact Or.inr (Or.inr rfl)) (by decide) (by decide)) (@pa_cons _ _ _ _ _ (@pe_ty _ _ _ _ PyProof.Rows.boot_bool rfl m_bool (by decide) (by decide)) (@pa_nil _) (by rfl)) (by rfl)) (by decide) (by decide) (by rfl) (by rfl))))))), ?_⟩
  refine ⟨_, rfl, _, _, _, _, rfl, TyOf.int i, isi_same, _, rfl, iteT ?_⟩
  refine ⟨_, rfl, _, _, _, _, rfl, TyOf.int i, isi_int_bool, _, rfl, ?_⟩
  exact q
abbrev sd__law_is_name : Stmt := top 35
abbrev N__law_is_name : List Str := ["_law_word", "_law_sign"]
abbrev P__law_is_name : List Str := ["_law_word"]
theorem sc__law_is_name : FnScope N__law_is_name P__law_is_name (defScope sd__law_is_name) := ⟨rfl, rfl, rfl, by decide +kernel, rfl, by decide +kernel, by decide +kernel⟩
theorem ok__law_is_name (F : At K mg "_law_is_name" sd__law_is_name f fd) (m_len : mg "len" = none) : Dn P w K mg base 1 "_law_is_name" P__law_is_name spLawIsName := by
  refine F.ok sc__law_is_name (fun vs H Q E h => ?_) (fun cdv A outer s H vs Q E hr h => ?_) (fun _ _ _ _ _ _ us hl => match us, hl with | [_], _ => rfl)
  · obtain ⟨cs, rfl, _⟩ := h.ex
    rfl
  obtain ⟨cs, rfl, hl, q⟩ := h.ex
  refine ⟨_, (@pss_cons _ _ _ _ _ (@ps_for _ _ _ _ _ _ _ _ PassesOwn.never rfl (@pi_str _ _ _ _ (@pv _ 0 _ _ (by rfl) (by first | exact Or.inl rfl | exact Or.inr (Or.inl rfl) | exact Or.inr (Or.inr rfl)) (by decide) (by decide))) (@pg_name _ _ (1) _ sc__law_is_name.nd rfl (Or.inl rfl) (by first | exact .inl rfl | exact .inr rfl | assumption)) (@pss_one _ _ _ (@ps_if _ _ _ _ _ _ _ _ (@pt_cmpR _ _ _ _ _ _ _ _ op_notin_str (@pv _ 1 _ _ (by rfl) (by first | exact Or.inl rfl | exact Or.inr (Or.inl rfl) | exact Or.inr (Or.inr rfl)) (by decide) (by decide)) (@pe_str _ _ _ _) (by with_unfolding_all rfl)) (@pss_one _ _ _ (@ps_ret _ _ _ _ (@pe_bl _ _ _ _))) (@pss_nil _))) (by intro _; rfl)) (@pss_one _ _ _ (@ps_ret _ _ _ _ (@pe_and _ _ _ _ _ _ _ (@pe_cmpR _ _ _ _ _ _ _ _ op_le (@pe_int _ _ _ _) (@pe_callB _ _ _ _ _ _ _ _ _ call_len_str (by rfl) m_len PySem.boot_len (@pa_cons _ _ _ _ _ (@pv _ 0 _ _ (by rfl) (by first | exact Or.inl rfl | exact Or.inr (Or.inl rfl) | exact Or.inr (Or.inr rfl)) (by decide) (by decide)) (@pa_nil _) (by rfl)) (by decide) (by decide) (by rfl) (by rfl)) (nomark _)) (@pe_one _ _ _ _ _ (@pe_cmpR _ _ _ _ _ _ _ _ op_le (@pe_callB _ _ _ _ _ _ _ _ _ call_len_str (by rfl) m_len PySem.boot_len (@pa_cons _ _ _ _ _ (@pv _ 0 _ _ (by rfl) (by first | exact Or.inl rfl | exact Or.inr (Or.inl rfl) | exact Or.inr (Or.inr rfl)) (by decide) (by decide)) (@pa_nil _) (by rfl)) (by decide) (by decide) (by rfl) (by rfl)) (@pe_int _ _ _ _) (nomark _))))))), ?_⟩
  have hz : (tx cs).length ≤ sizeLine := by rw [tx_length, sizeLine_eq]; omega
  refine ⟨_, rfl, cs, rfl, ?_⟩
  refine for_str (fun i σ H2 => H2 = H ∧ (cs.take i).all (inS "abcdefghijklmnopqrstuvwxyz") = true ∧ ∃ (s1 : Option V), σ = [some (.str (tx cs)), s1]) ⟨rfl, rfl, none, rfl⟩ ?_ ?_
  · rintro i ch σ H2 hc ⟨rfl, ha, s1, rfl⟩
    have e : (cs.take (i + 1)).all (inS "abcdefghijklmnopqrstuvwxyz") = ((cs.take i).all (inS "abcdefghijklmnopqrstuvwxyz") && inS "abcdefghijklmnopqrstuvwxyz" ch) := by
      rw [List.take_add_one, hc, List.all_append]
      show (_ && (inS _ ch && true)) = _
      rw [Bool.and_true]
    refine ⟨_, rfl, _, _, rfl, rfl, _, rfl, ?_⟩
    show if (!inS "abcdefghijklmnopqrstuvwxyz" ch) = true then _ else _
    cases hb : inS "abcdefghijklmnopqrstuvwxyz" ch with
    | true => exact iteF ⟨rfl, by rw [e, ha, hb]; rfl, _, rfl⟩
    | false =>
      refine iteT ?_
      have hf : isName cs = false := by
        unfold isName
        rw [show cs.all (inS "abcdefghijklmnopqrstuvwxyz") = false by rw [List.all_eq_false]; exact ⟨ch, List.mem_of_getElem? hc, by rw [hb]; exact Bool.false_ne_true⟩, Bool.and_false]
      rw [hf] at q
      exact q
  rintro σ H2 ⟨rfl, ha, s1, rfl⟩
  rw [List.take_length] at ha
  have hf : isName cs = (decide (1 ≤ (cs.length : Int)) && decide ((cs.length : Int) ≤ 8)) := by unfold isName; rw [ha, Bool.and_true]
  rw [hf] at q
  refine ⟨_, rfl, _, rfl, hz, _, _, rfl, rfl, _, rfl, ?_⟩
  rw [tx_length]
  refine ite2 (fun c => ?_) (fun c => ?_)
  · refine ⟨_, rfl, _, rfl, hz, _, _, rfl, rfl, ?_⟩
    rw [tx_length]
    rw [c, Bool.true_and] at q
    exact q
  · rw [Bool.eq_false_iff.mpr c, Bool.false_and] at q
    exact q
abbrev sd__law_hot : Stmt := top 34
abbrev N__law_hot : List Str := ["_law_at"]
abbrev P__law_hot : List Str := ["_law_at"]
theorem sc__law_hot : FnScope N__law_hot P__law_hot (defScope sd__law_hot) := ⟨rfl, rfl, rfl, by decide +kernel, rfl, by decide +kernel, by decide +kernel⟩
theorem ok__law_hot (F : At K mg "_law_hot" sd__law_hot f fd) (m_range : mg "range" = none) : Dn P w K mg base 1 "_law_hot" P__law_hot spHot := by
  refine F.ok sc__law_hot (fun vs H Q E h => ?_) (fun cdv A outer s H vs Q E hr h => ?_) (fun _ _ _ _ _ _ us hl => match us, hl with | [_], _ => rfl)
  · obtain ⟨n, rfl, _⟩ := h.ex
    rfl
  obtain ⟨n, rfl, q⟩ := h.ex
  refine ⟨_, (@pss_one _ _ _ (@ps_ret _ _ _ _ (@pe_op _ _ _ _ _ _ _ _ op_cat (@pe_lst _ _ _ _ (@pa_cons _ _ _ _ _ (@pe_bl _ _ _ _) (@pa_nil _) (by rfl))) (@pe_comp _ _ _ _ _ _ ["_law_k", "_law_at"] [none, some 0] _ _ _ rfl (@pi_range1 _ _ _ _ _ _ (by rfl) m_range (@pa_cons _ _ _ _ _ (@pe_int _ _ _ _) (@pa_nil _) (by rfl)) (by rfl)) (fun _ _ _ _ => (@pg_name _ _ (0) _ (show List.Nodup (["_law_k", "_law_at"] : List Str) from by decide +kernel) rfl (Or.inl rfl) (by first | exact .inl rfl | exact .inr rfl | assumption))) (fun _ _ _ _ => (@pe_cmpR _ _ _ _ _ _ _ _ op_eq (@pv _ 0 _ _ (by rfl) (by first | exact Or.inl rfl | exact Or.inr (Or.inl rfl) | exact Or.inr (Or.inr rfl)) (by decide) (by decide)) (@pv _ 1 _ _ (by rfl) (by first | exact Or.inl rfl | exact Or.inr (Or.inl rfl) | exact Or.inr (Or.inr rfl)) (by decide) (by decide)) (nomark _))) rfl (by rfl) (by intro _; rfl))))), ?_⟩
  refine ⟨(by show 1 ≤ sizeLine; decide), fun p1 hp1 => ?_⟩
  have g1 : Same H (upd H p1 (.lst [.bl true])) := same_new hp1 _
  have h1 : upd H p1 (.lst [.bl true]) p1 = some (.lst [.bl true]) := upd_same
  generalize upd H p1 (.lst [.bl true]) = H1 at g1 h1
  refine ⟨10, rfl, (by decide), (by decide), fun acc hacc => ?_⟩
  refine comp_range (n := (10 : Int).toNat) (fun i out H' => Same H1 H' ∧ out = ((List.range i).map fun k => V.bl (decide (k = n)))) (by decide) ⟨same_new hacc _, rfl⟩ ?_ ?_
  · rintro i out H' hi hol ha ⟨g, e⟩
    refine ⟨_, rfl, _, rfl, rfl, ha, g.upd_new hacc _, ?_⟩
    rw [List.range_succ, List.map_append, e]
    congr 1
    show [V.bl (decide (V.int (0 + (i : Int)) = V.int (n : Int)))] = [V.bl (decide (i = n))]
    congr 2
    exact decide_eq_decide.mpr ⟨fun z => by have := V.int.inj z; omega, fun z => by rw [z]; congr 1; omega⟩
  rintro out H' hol ha ⟨g, e⟩
  refine ⟨p1, acc, _, _, rfl, rfl, g _ _ h1, ha, (by rw [hol, sizeLine_eq]; decide), fun p hp => q p _ (g1.trans (g.trans (same_new hp _))) ?_⟩
  rw [upd_same, e]
  show some (HO.lst (V.bl true :: _)) = some (HO.lst ((true :: (List.range 10).map fun k => decide (k = n)).map V.bl))
  rw [List.map_cons, List.map_map]
  rfl
abbrev sd__law_hold_do : Stmt := top 32
abbrev N__law_hold_do : List Str := ["_law_hold", "_law_deed"]
abbrev P__law_hold_do : List Str := ["_law_hold", "_law_deed"]
theorem sc__law_hold_do : FnScope N__law_hold_do P__law_hold_do (defScope sd__law_hold_do) := ⟨rfl, rfl, rfl, by decide +kernel, rfl, by decide +kernel, by decide +kernel⟩
theorem ok__law_hold_do {T : TC} {e : Ec} (F : At K mg "_law_hold_do" sd__law_hold_do f fd) (DX_Hold_sign : Mx P w K mg base 3 T.hold "sign" ["self", "owner"] (spSignX T e)) : Dx P w K mg base 6 "_law_hold_do" P__law_hold_do (spHoldDo T e al15 K) := by
  refine F.okX sc__law_hold_do (fun vs H Q E h => ?_) (fun cdv A outer s H vs Q E hr h => ?_) (fun _ _ _ _ _ _ us hl => match us, hl with | [_, _], _ => rfl)
  · obtain ⟨n, ρ, A, st, z, d, rfl, _⟩ := h.ex
    rfl
  obtain ⟨n, ρ, A, st, z, d, rfl, hz, hh, ha, dq⟩ := h.ex
  refine ⟨_, (@pss_cons _ _ _ _ _ (@ps_if _ _ _ _ _ _ _ _ (@pt_cmpR _ _ _ _ _ _ _ _ op_eq (@pe_ix _ _ _ _ _ _ _ (ix_tupK K) (@pv _ 1 _ _ (by rfl) (by first | exact Or.inl rfl | exact Or.inr (Or.inl rfl) | exact Or.inr (Or.inr rfl)) (by decide) (by decide)) (@pe_int _ _ _ _) (fun _ _ => rfl)) (@pe_str _ _ _ _) (nomark _)) (@pss_one _ _ _ (@ps_ret _ _ _ _ (@pe_mthX _ _ _ _ _ _ _ _ _ _ _ _ _ _ _ _ _ _ _ _ _ _ _ _ _ _ _ _ _ DX_Hold_sign hr (@pv _ 0 _ _ (by rfl) (by first | exact Or.inl rfl | exact Or.inr (Or.inl rfl) | exact Or.inr (Or.inr rfl)) (by decide) (by decide)) (@pa_cons _ _ _ _ _ (@pe_ix _ _ _ _ _ _ _ (ix_tupK K) (@pv _ 1 _ _ (by rfl) (by first | exact Or.inl rfl | exact Or.inr (Or.inl rfl) | exact Or.inr (Or.inr rfl)) (by decide) (by decide)) (@pe_int _ _ _ _) (fun _ _ => rfl)) (@pa_nil _) (by rfl)) (by decide) (by rfl) (by rfl) (by rfl)))) (@pss_one _ _ _ (@ps_if _ _ _ _ _ _ _ _ (@pt_cmpR _ _ _ _ _ _ _ _ op_eq (@pe_ix _ _ _ _ _ _ _ (ix_tupK K) (@pv _ 1 _ _ (by rfl) (by first | exact Or.inl rfl | exact Or.inr (Or.inl rfl) | exact Or.inr (Or.inr rfl)) (by decide) (by decide)) (@pe_int _ _ _ _) (fun _ _ => rfl)) (@pe_str _ _ _ _) (nomark _)) (@pss_one _ _ _ (@ps_never _ _)) (@pss_one _ _ _ (@ps_if _ _ _ _ _ _ _ _ (@pt_cmpR _ _ _ _ _ _ _ _ op_eq (@pe_ix _ _ _ _ _ _ _ (ix_tupK K) (@pv _ 1 _ _ (by rfl) (by first | exact Or.inl rfl | exact Or.inr (Or.inl rfl) | exact Or.inr (Or.inr rfl)) (by decide) (by decide)) (@pe_int _ _ _ _) (fun _ _ => rfl)) (@pe_str _ _ _ _) (nomark _)) (@pss_one _ _ _ (@ps_never _ _)) (@pss_one _ _ _ (@ps_if _ _ _ _ _ _ _ _ (@pt_cmpR _ _ _ _ _ _ _ _ op_eq (@pe_ix _ _ _ _ _ _ _ (ix_tupK K) (@pv _ 1 _ _ (by rfl) (by first | exact Or.inl rfl | exact Or.inr (Or.inl rfl) | exact Or.inr (Or.inr rfl)) (by decide) (by decide)) (@pe_int _ _ _ _) (fun _ _ => rfl)) (@pe_str _ _ _ _) (nomark _)) (@pss_one _ _ _ (@ps_never _ _)) (@pss_one _ _ _ (@ps_if _ _ _ _ _ _ _ _ (@pt_cmpR _ _ _ _ _ _ _ _ op_eq (@pe_ix _ _ _ _ _ _ _ (ix_tupK K) (@pv _ 1 _ _ (by rfl) (by first | exact Or.inl rfl | exact Or.inr (Or.inl rfl) | exact Or.inr (Or.inr rfl)) (by decide) (by decide)) (@pe_int _ _ _ _) (fun _ _ => rfl)) (@pe_str _ _ _ _) (nomark _)) (@pss_one _ _ _ (@ps_never _ _)) (@pss_one _ _ _ (@ps_if _ _ _ _ _ _ _ _ (@pt_cmpR _ _ _ _ _ _ _ _ op_eq (@pe_ix _ _ _ _ _ _ _ (ix_tupK K) (@pv _ 1 _ _ (by rfl) (by first | exact Or.inl rfl | exact Or.inr (Or.inl rfl) | exact Or.inr (Or.inr rfl)) (by decide) (by decide)) (@pe_int _ _ _ _) (fun _ _ => rfl)) (@pe_str _ _ _ _) (nomark _)) (@pss_one _ _ _ (@ps_never _ _)) (@pss_one _ _ _ (@ps_if _ _ _ _ _ _ _ _ (@pt_cmpR _ _ _ _ _ _ _ _ op_eq (@pe_ix _ _ _ _ _ _ _ (ix_tupK K) (@pv _ 1 _ _ (by rfl) (by first | exact Or.inl rfl | exact Or.inr (Or.inl rfl) | exact Or.inr (Or.inr rfl)) (by decide) (by decide)) (@pe_int _ _ _ _) (fun _ _ => rfl)) (@pe_str _ _ _ _) (nomark _)) (@pss_one _ _ _ (@ps_never _ _)) (@pss_one _ _ _ (@ps_if _ _ _ _ _ _ _ _ (@pt_cmpR _ _ _ _ _ _ _ _ op_eq (@pe_ix _ _ _ _ _ _ _ (ix_tupK K) (@pv _ 1 _ _ (by rfl) (by first | exact Or.inl rfl | exact Or.inr (Or.inl rfl) | exact Or.inr (Or.inr rfl)) (by decide) (by decide)) (@pe_int _ _ _ _) (fun _ _ => rfl)) (@pe_str _ _ _ _) (nomark _)) (@pss_one _ _ _ (@ps_never _ _)) (@pss_one _ _ _ (@ps_if _ _ _ _ _ _ _ _ (@pt_cmpR _ _ _ _ _ _ _ _ op_eq (@pe_ix _ _ _ _ _ _ _ (ix_tupK K) (@pv _ 1 _ _ (by rfl) (by first | exact Or.inl rfl | exact Or.inr (Or.inl rfl) | exact Or.inr (Or.inr rfl)) (by decide) (by decide)) (@pe_int _ _ _ _) (fun _ _ => rfl)) (@pe_str _ _ _ _) (nomark _)) (@pss_one _ _ _ (@ps_never _ _)) (@pss_nil _)))))))))))))))))) (@pss_one _ _ _ (@ps_ret _ _ _ _ (@pe_non _ _ _)))), ?_⟩
  cases d with
  | sign o =>
    obtain ⟨h1, h2⟩ := ha
    refine ⟨_, rfl, z, _, _, _, rfl, rfl, hz, atI_nat (j := 0) rfl, rfl, _, rfl, ite2 (fun c => ?_) (fun c => absurd (decide_eq_true rfl) c)⟩
    exact ⟨_, rfl, A.a, A.dx, _, rfl, hh.h.oa, rfl, _, rfl, z, _, _, _, rfl, rfl, hz, atI_nat (j := 1) rfl, ⟨⟨n, ρ, A, st, o, rfl, hh, h1, h2, dq⟩⟩⟩
  | _ => exact ha.elim
abbrev sd__law_tried : Stmt := top 33
abbrev N__law_tried : List Str := ["_law_hold", "_law_deed", "_law_told", "e"]
abbrev P__law_tried : List Str := ["_law_hold", "_law_deed"]
theorem sc__law_tried : FnScope N__law_tried P__law_tried (defScope sd__law_tried) := ⟨rfl, rfl, rfl, by decide +kernel, rfl, by decide +kernel, by decide +kernel⟩
theorem ok__law_tried {T : TC} {e : Ec} {al : HS → Dd → Prop} (F : At K mg "_law_tried" sd__law_tried f fd) (DX__law_hold_do : Dx P w K mg base 6 "_law_hold_do" ["_law_hold", "_law_deed"] (spHoldDo T e al K)) (to : ∀ st d i, al st d → refS st d = some i → Told K e (e.at i) i) (m_isinstance : mg "isinstance" = none) (m_ValueError : mg "ValueError" = none)
    (m_BadName : mg "BadName" = some (.ref e.bad)) (m_Twice : mg "Twice" = some (.ref e.twice)) (m_NoOwner : mg "NoOwner" = some (.ref e.noown)) (m_NoPart : mg "NoPart" = some (.ref e.nopart)) (m_NoVoyage : mg "NoVoyage" = some (.ref e.novoy)) (m_BadNumber : mg "BadNumber" = some (.ref e.badnum))
    (m_TooMuch : mg "TooMuch" = some (.ref e.much)) (m_BadRows : mg "BadRows" = some (.ref e.rows)) (m_NoDeed : mg "NoDeed" = some (.ref e.deed)) (m_BadPaper : mg "BadPaper" = some (.ref e.paper)) (m_JettisonError : mg "JettisonError" = some (.ref e.jett)) : Dn P w K mg base 7 "_law_tried" P__law_tried (spTried T al K) := by
  refine F.ok sc__law_tried (fun vs H Q E h => ?_) (fun cdv A outer s H vs Q E hr h => ?_) (fun _ _ _ _ _ _ us hl => match us, hl with | [_, _], _ => rfl)
  · obtain ⟨n, ρ, A, st, z, d, rfl, _⟩ := h.ex
    rfl
  obtain ⟨n, ρ, A, st, z, d, rfl, hz, hh, ha, q2, q⟩ := h.ex
  refine ⟨_, (@pss_cons _ _ _ _ _ (@ps_set _ _ (2) _ _ _ _ sc__law_tried.nd rfl (Or.inl rfl) (@pe_lst _ _ _ _ (@pa_nil _)) (by rfl) (by first | exact .inl rfl | exact .inr rfl | assumption)) (@pss_cons _ _ _ _ _ (@ps_try _ (3) _ _ _ _ _ _ _ _ _ _ _ sc__law_tried.nd rfl rfl (fun _ _ z => z) rfl rfl (@px_non _ _ _ _ _ _ _ _ _ _ _ _ _ _ _ _ DX__law_hold_do hr (fun _ _ z => z) (@pa_cons _ _ _ _ _ (@pv _ 0 _ _ (by rfl) (by first | exact Or.inl rfl | exact Or.inr (Or.inl rfl) | exact Or.inr (Or.inr rfl)) (by decide) (by decide)) (@pa_cons _ _ _ _ _ (@pv _ 1 _ _ (by rfl) (by first | exact Or.inl rfl | exact Or.inr (Or.inl rfl) | exact Or.inr (Or.inr rfl)) (by decide) (by decide)) (@pa_nil _) (by rfl)) (by rfl)) (by decide) (by rfl) (by decide) (by rfl) (by rfl)) (by rfl) m_JettisonError (fun _ => (@pss_cons _ _ _ _ _ (@ps_set _ _ (2) _ _ _ _ sc__law_tried.nd rfl (Or.inl rfl) (@pe_lst _ _ _ _ (@pa_cons _ _ _ _ _ (@pe_callB _ _ _ _ _ _ _ _ _ (call_isinstX K rfl) (by rfl) m_isinstance PyProof.Rows.boot_isinstance (@pa_cons _ _ _ _ _ (@pv _ 3 _ _ (by rfl) (by first | exact Or.inl rfl | exact Or.inr (Or.inl rfl) | exact Or.inr (Or.inr rfl)) (by decide) (by decide)) (@pa_cons _ _ _ _ _ (@pe_ty _ _ ("ValueError") _ (by rfl) rfl m_ValueError (by decide) (by decide)) (@pa_nil _) (by rfl)) (by rfl)) (by decide) (by decide) (by rfl) (by rfl)) (@pa_cons _ _ _ _ _ (@pe_callB _ _ _ _ _ _ _ _ _ (call_isinstX K rfl) (by rfl) m_isinstance PyProof.Rows.boot_isinstance (@pa_cons _ _ _ _ _ (@pv _ 3 _ _ (by rfl) (by first | exact Or.inl rfl | exact Or.inr (Or.inl rfl) | exact Or.inr (Or.inr rfl)) (by decide) (by decide)) (@pa_cons _ _ _ _ _ (@pe_glob _ _ (.ref _) _ _ (by rfl) m_BadName rfl (by decide)) (@pa_nil _) (by rfl)) (by rfl)) (by decide) (by decide) (by rfl) (by rfl)) (@pa_cons _ _ _ _ _ (@pe_callB _ _ _ _ _ _ _ _ _ (call_isinstX K rfl) (by rfl) m_isinstance PyProof.Rows.boot_isinstance (@pa_cons _ _ _ _ _ (@pv _ 3 _ _ (by rfl) (by first | exact Or.inl rfl | exact Or.inr (Or.inl rfl) | exact Or.inr (Or.inr rfl)) (by decide) (by decide)) (@pa_cons _ _ _ _ _ (@pe_glob _ _ (.ref _) _ _ (by rfl) m_Twice rfl (by decide)) (@pa_nil _) (by rfl)) (by rfl)) (by decide) (by decide) (by rfl) (by rfl)) (@pa_cons _ _ _ _ _ (@pe_callB _ _ _ _ _ _ _ _ _ (call_isinstX K rfl) (by rfl) m_isinstance PyProof.Rows.boot_isinstance (@pa_cons _ _ _ _ _ (@pv _ 3 _ _ (by rfl) (by first | exact Or.inl rfl | exact Or.inr (Or.inl rfl) | exact Or.inr (Or.inr rfl)) (by decide) (by decide)) (@pa_cons _ _ _ _ _ (@pe_glob _ _ (.ref _) _ _ (by rfl) m_NoOwner rfl (by decide)) (@pa_nil _) (by rfl)) (by rfl)) (by decide) (by decide) (by rfl) (by rfl)) (@pa_nil _) (by rfl)) (by rfl)) (by rfl)) (by rfl))) (by rfl) (by first | exact .inl rfl | exact .inr rfl | assumption)) (@pss_cons _ _ _ _ _ (@ps_set _ _ (2) _ _ _ _ sc__law_tried.nd rfl (Or.inl rfl) (@pe_op _ _ _ _ _ _ _ _ op_cat (@pv _ 2 _ _ (by rfl) (by first | exact Or.inl rfl | exact Or.inr (Or.inl rfl) | exact Or.inr (Or.inr rfl)) (by decide) (by decide)) (@pe_lst _ _ _ _ (@pa_cons _ _ _ _ _ (@pe_callB _ _ _ _ _ _ _ _ _ (call_isinstX K rfl) (by rfl) m_isinstance PyProof.Rows.boot_isinstance (@pa_cons _ _ _ _ _ (@pv _ 3 _ _ (by rfl) (by first | exact Or.inl rfl | exact Or.inr (Or.inl rfl) | exact Or.inr (Or.inr rfl)) (by decide) (by decide)) (@pa_cons _ _ _ _ _ (@pe_glob _ _ (.ref _) _ _ (by rfl) m_NoPart rfl (by decide)) (@pa_nil _) (by rfl)) (by rfl)) (by decide) (by decide) (by rfl) (by rfl)) (@pa_cons _ _ _ _ _ (@pe_callB _ _ _ _ _ _ _ _ _ (call_isinstX K rfl) (by rfl) m_isinstance PyProof.Rows.boot_isinstance (@pa_cons _ _ _ _ _ (@pv _ 3 _ _ (by rfl) (by first | exact Or.inl rfl | exact Or.inr (Or.inl rfl) | exact Or.inr (Or.inr rfl)) (by decide) (by decide)) (@pa_cons _ _ _ _ _ (@pe_glob _ _ (.ref _) _ _ (by rfl) m_NoVoyage rfl (by decide)) (@pa_nil _) (by rfl)) (by rfl)) (by decide) (by decide) (by rfl) (by rfl)) (@pa_cons _ _ _ _ _ (@pe_callB _ _ _ _ _ _ _ _ _ (call_isinstX K rfl) (by rfl) m_isinstance PyProof.Rows.boot_isinstance (@pa_cons _ _ _ _ _ (@pv _ 3 _ _ (by rfl) (by first | exact Or.inl rfl | exact Or.inr (Or.inl rfl) | exact Or.inr (Or.inr rfl)) (by decide) (by decide)) (@pa_cons _ _ _ _ _ (@pe_glob _ _ (.ref _) _ _ (by rfl) m_BadNumber rfl (by decide)) (@pa_nil _) (by rfl)) (by rfl)) (by decide) (by decide) (by rfl) (by rfl)) (@pa_nil _) (by rfl)) (by rfl)) (by rfl)))) (by rfl) (by first | exact .inl rfl | exact .inr rfl | assumption)) (@pss_one _ _ _ (@ps_set _ _ (2) _ _ _ _ sc__law_tried.nd rfl (Or.inl rfl) (@pe_op _ _ _ _ _ _ _ _ op_cat (@pv _ 2 _ _ (by rfl) (by first | exact Or.inl rfl | exact Or.inr (Or.inl rfl) | exact Or.inr (Or.inr rfl)) (by decide) (by decide)) (@pe_lst _ _ _ _ (@pa_cons _ _ _ _ _ (@pe_callB _ _ _ _ _ _ _ _ _ (call_isinstX K rfl) (by rfl) m_isinstance PyProof.Rows.boot_isinstance (@pa_cons _ _ _ _ _ (@pv _ 3 _ _ (by rfl) (by first | exact Or.inl rfl | exact Or.inr (Or.inl rfl) | exact Or.inr (Or.inr rfl)) (by decide) (by decide)) (@pa_cons _ _ _ _ _ (@pe_glob _ _ (.ref _) _ _ (by rfl) m_TooMuch rfl (by decide)) (@pa_nil _) (by rfl)) (by rfl)) (by decide) (by decide) (by rfl) (by rfl)) (@pa_cons _ _ _ _ _ (@pe_callB _ _ _ _ _ _ _ _ _ (call_isinstX K rfl) (by rfl) m_isinstance PyProof.Rows.boot_isinstance (@pa_cons _ _ _ _ _ (@pv _ 3 _ _ (by rfl) (by first | exact Or.inl rfl | exact Or.inr (Or.inl rfl) | exact Or.inr (Or.inr rfl)) (by decide) (by decide)) (@pa_cons _ _ _ _ _ (@pe_glob _ _ (.ref _) _ _ (by rfl) m_BadRows rfl (by decide)) (@pa_nil _) (by rfl)) (by rfl)) (by decide) (by decide) (by rfl) (by rfl)) (@pa_cons _ _ _ _ _ (@pe_callB _ _ _ _ _ _ _ _ _ (call_isinstX K rfl) (by rfl) m_isinstance PyProof.Rows.boot_isinstance (@pa_cons _ _ _ _ _ (@pv _ 3 _ _ (by rfl) (by first | exact Or.inl rfl | exact Or.inr (Or.inl rfl) | exact Or.inr (Or.inr rfl)) (by decide) (by decide)) (@pa_cons _ _ _ _ _ (@pe_glob _ _ (.ref _) _ _ (by rfl) m_NoDeed rfl (by decide)) (@pa_nil _) (by rfl)) (by rfl)) (by decide) (by decide) (by rfl) (by rfl)) (@pa_cons _ _ _ _ _ (@pe_callB _ _ _ _ _ _ _ _ _ (call_isinstX K rfl) (by rfl) m_isinstance PyProof.Rows.boot_isinstance (@pa_cons _ _ _ _ _ (@pv _ 3 _ _ (by rfl) (by first | exact Or.inl rfl | exact Or.inr (Or.inl rfl) | exact Or.inr (Or.inr rfl)) (by decide) (by decide)) (@pa_cons _ _ _ _ _ (@pe_glob _ _ (.ref _) _ _ (by rfl) m_BadPaper rfl (by decide)) (@pa_nil _) (by rfl)) (by rfl)) (by decide) (by decide) (by rfl) (by rfl)) (@pa_nil _) (by rfl)) (by rfl)) (by rfl)) (by rfl)))) (by rfl) (by first | exact .inl rfl | exact .inr rfl | assumption)))))) (by decide)) (@pss_one _ _ _ (@ps_ret _ _ _ _ (@pv _ 2 _ _ (by rfl) (by first | exact Or.inl rfl | exact Or.inr (Or.inl rfl) | exact Or.inr (Or.inr rfl)) (by decide) (by decide)))))), ?_⟩
  refine ⟨Nat.zero_le _, fun l0 hl0 => ?_⟩
  have g0 : Same H (upd H l0 (.lst [])) := same_new hl0 _
  have h0 : upd H l0 (.lst []) l0 = some (.lst []) := upd_same
  generalize upd H l0 (.lst []) = H0 at g0 h0
  refine ⟨_, rfl, _, rfl, ⟨⟨n, ρ, A, st, z, d, rfl, g0.tup hz, hh.mono g0, ha, ⟨fun i hi x H1 g1 => ⟨_, rfl, (to st d i ha hi).jt, fun y hy => ?_⟩, fun hn ρ' A' H' hh' ea F' => ⟨rfl, ?_⟩⟩⟩⟩⟩
  · have g2 := same_new hy (excO y (e.at i))
    refine told_suite (i := 2) (j := 3) (to st d i ha hi) rfl (show 2 < 4 from by decide) (by decide) upd_same fun l H2 g3 hl2 => ?_
    exact ⟨_, rfl, q2 i hi l _ (g0.trans (g1.trans (g2.trans g3))) hl2⟩
  · obtain ⟨a1, a2⟩ := F'.at h0 (hh.g.none hl0)
    exact ⟨_, rfl, q hn l0 ρ' A' H' hh' ea ((Fr.of_same g0).trans F') a1 a2 hl0⟩
abbrev sd_law : Stmt := top 37
abbrev N_law : List Str := ["_law_script", "_law_names", "_law_hold", "_law_signed", "_law_at", "_law_word", "_law_some", "_law_due", "_law_found"]
abbrev P_law : List Str := ["_law_script"]
theorem sc_law : FnScope N_law P_law (defScope sd_law) := ⟨rfl, rfl, rfl, by decide +kernel, rfl, by decide +kernel, by decide +kernel⟩
theorem ok_law {T : TC} (F : At K mg "law" sd_law f fd) (D__law_draw : Dn P w K mg base 1 "_law_draw" ["_law_script", "_law_k", "_law_j", "_law_many"] (spDraw K)) (D__law_many_names : Dn P w K mg base 2 "_law_many_names" ["_law_script", "_law_k", "_law_many"] (spManyNames K)) (D__law_is_name : Dn P w K mg base 1 "_law_is_name" ["_law_word"] spLawIsName) (D__law_hot : Dn P w K mg base 1 "_law_hot" ["_law_at"] spHot)
    (D__law_tried : Dn P w K mg base 7 "_law_tried" ["_law_hold", "_law_deed"] (spTried T al15 K)) (D__law_int : Dn P w K mg base 1 "_law_int" ["_law_found"] spInt) (D_Hold : Cn P w K mg base 3 "Hold" T.hold ["self"] (spHInit T)) (D_Hold_roster : Mn P w K mg base 1 T.hold "roster" ["self"] (spRoster T)) (D_Hold_parts : Mn P w K mg base 1 T.hold "parts" ["self"] (spParts T)) (D_Hold_whole : Mn P w K mg base 1 T.hold "whole" ["self"] (spWhole T)) (D_Hold_landed : Mn P w K mg base 1 T.hold "landed" ["self"] (spLanded T))
    (m_len : mg "len" = none) (m_range : mg "range" = none) (m_isinstance : mg "isinstance" = none) (m_list : mg "list" = none) : FnOk P w K mg base CX0 8 f fd P_law (spLaw K) := by
  refine F.fn.ok sc_law (fun vs H Q E h => ?_) (fun cdv A outer s H vs Q E hr h => ?_)
  · obtain ⟨a, ns, rfl, _⟩ := h
    rfl
  obtain ⟨a, ns, rfl, hS, h63, q⟩ := h
  refine ⟨_, (@pss_cons _ _ _ _ _ (@ps_set _ _ (1) _ _ _ _ sc_law.nd rfl (Or.inl rfl) (@pe_fn _ _ _ _ _ _ _ _ _ _ _ D__law_many_names hr (@pa_cons _ _ _ _ _ (@pv _ 0 _ _ (by rfl) (by first | exact Or.inl rfl | exact Or.inr (Or.inl rfl) | exact Or.inr (Or.inr rfl)) (by decide) (by decide)) (@pa_cons _ _ _ _ _ (@pe_int _ _ _ _) (@pa_cons _ _ _ _ _ (@pe_op _ _ _ _ _ _ _ _ op_add (@pe_int _ _ _ _) (@pe_fn _ _ _ _ _ _ _ _ _ _ _ D__law_draw hr (@pa_cons _ _ _ _ _ (@pv _ 0 _ _ (by rfl) (by first | exact Or.inl rfl | exact Or.inr (Or.inl rfl) | exact Or.inr (Or.inr rfl)) (by decide) (by decide)) (@pa_cons _ _ _ _ _ (@pe_int _ _ _ _) (@pa_cons _ _ _ _ _ (@pe_int _ _ _ _) (@pa_cons _ _ _ _ _ (@pe_int _ _ _ _) (@pa_nil _) (by rfl)) (by rfl)) (by rfl)) (by rfl)) (by decide) (by rfl) (by decide) (by rfl) (by rfl))) (@pa_nil _) (by rfl)) (by rfl)) (by rfl)) (by decide) (by rfl) (by decide) (by rfl) (by rfl)) (by rfl) (by first | exact .inl rfl | exact .inr rfl | assumption)) (@pss_cons _ _ _ _ _ (@ps_set _ _ (2) _ _ _ _ sc_law.nd rfl (Or.inl rfl) (@pe_mk0 _ _ _ _ _ _ _ _ _ D_Hold hr (by decide) (by rfl) (by decide)) (by rfl) (by first | exact .inl rfl | exact .inr rfl | assumption)) (@pss_cons _ _ _ _ _ (@ps_set _ _ (3) _ _ _ _ sc_law.nd rfl (Or.inl rfl) (@pe_lst _ _ _ _ (@pa_nil _)) (by rfl) (by first | exact .inl rfl | exact .inr rfl | assumption)) (@pss_cons _ _ _ _ _ (@ps_for _ _ _ _ _ _ _ _ PassesOwn.never rfl (@pi_range1 _ _ _ _ _ _ (by rfl) m_range (@pa_cons _ _ _ _ _ (@pe_callB _ _ _ _ _ _ _ _ _ (call_lenK K) (by rfl) m_len PySem.boot_len (@pa_cons _ _ _ _ _ (@pv _ 1 _ _ (by rfl) (by first | exact Or.inl rfl | exact Or.inr (Or.inl rfl) | exact Or.inr (Or.inr rfl)) (by decide) (by decide)) (@pa_nil _) (by rfl)) (by decide) (by decide) (by rfl) (by rfl)) (@pa_nil _) (by rfl)) (by rfl)) (@pg_name _ _ (4) _ sc_law.nd rfl (Or.inl rfl) (by first | exact .inl rfl | exact .inr rfl | assumption)) (@pss_cons _ _ _ _ _ (@ps_set _ _ (5) _ _ _ _ sc_law.nd rfl (Or.inl rfl) (@pe_ix _ _ _ _ _ _ _ (ix_listK K) (@pv _ 1 _ _ (by rfl) (by first | exact Or.inl rfl | exact Or.inr (Or.inl rfl) | exact Or.inr (Or.inr rfl)) (by decide) (by decide)) (@pv _ 4 _ _ (by rfl) (by first | exact Or.inl rfl | exact Or.inr (Or.inl rfl) | exact Or.inr (Or.inr rfl)) (by decide) (by decide)) (fun _ _ => rfl)) (by rfl) (by first | exact .inl rfl | exact .inr rfl | assumption)) (@pss_cons _ _ _ _ _ (@ps_ifJ _ _ _ _ _ _ _ _ (@pt_cmpR _ _ _ _ _ _ _ _ op_eq (@pe_fn _ _ _ _ _ _ _ _ _ _ _ D__law_draw hr (@pa_cons _ _ _ _ _ (@pv _ 0 _ _ (by rfl) (by first | exact Or.inl rfl | exact Or.inr (Or.inl rfl) | exact Or.inr (Or.inr rfl)) (by decide) (by decide)) (@pa_cons _ _ _ _ _ (@pe_op _ _ _ _ _ _ _ _ op_add (@pe_int _ _ _ _) (@pv _ 4 _ _ (by rfl) (by first | exact Or.inl rfl | exact Or.inr (Or.inl rfl) | exact Or.inr (Or.inr rfl)) (by decide) (by decide))) (@pa_cons _ _ _ _ _ (@pe_int _ _ _ _) (@pa_cons _ _ _ _ _ (@pe_int _ _ _ _) (@pa_nil _) (by rfl)) (by rfl)) (by rfl)) (by rfl)) (by decide) (by rfl) (by decide) (by rfl) (by rfl)) (@pe_int _ _ _ _) (nomark _)) (@pss_cons _ _ _ _ _ (@ps_set _ _ (6) _ _ _ _ sc_law.nd rfl (Or.inl rfl) (@pe_lst _ _ _ _ (@pa_cons _ _ _ _ _ (@pe_op _ _ _ _ _ _ _ _ op_addW (@pv _ 5 _ _ (by rfl) (by first | exact Or.inl rfl | exact Or.inr (Or.inl rfl) | exact Or.inr (Or.inr rfl)) (by decide) (by decide)) (@pe_str _ _ _ _)) (@pa_cons _ _ _ _ _ (@pe_slice _ _ _ _ _ _ _ _ _ _ sl_strW (@pv _ 5 _ _ (by rfl) (by first | exact Or.inl rfl | exact Or.inr (Or.inl rfl) | exact Or.inr (Or.inr rfl)) (by decide) (by decide)) (@po_none _) (@po_some _ _ _ (@pe_int _ _ _ _))) (@pa_cons _ _ _ _ _ (@pe_str _ _ _ _) (@pa_cons _ _ _ _ _ (@pe_op _ _ _ _ _ _ _ _ op_addW (@pe_slice _ _ _ _ _ _ _ _ _ _ sl_strW (@pv _ 5 _ _ (by rfl) (by first | exact Or.inl rfl | exact Or.inr (Or.inl rfl) | exact Or.inr (Or.inr rfl)) (by decide) (by decide)) (@po_none _) (@po_some _ _ _ (@pe_int _ _ _ _))) (@pe_str _ _ _ _)) (@pa_cons _ _ _ _ _ (@pe_op _ _ _ _ _ _ _ _ op_addW (@pe_str _ _ _ _) (@pv _ 5 _ _ (by rfl) (by first | exact Or.inl rfl | exact Or.inr (Or.inl rfl) | exact Or.inr (Or.inr rfl)) (by decide) (by decide))) (@pa_cons _ _ _ _ _ (@pe_ix _ _ _ _ _ _ _ (ix_listK K) (@pv _ 1 _ _ (by rfl) (by first | exact Or.inl rfl | exact Or.inr (Or.inl rfl) | exact Or.inr (Or.inr rfl)) (by decide) (by decide)) (@pe_int _ _ _ _) (fun _ _ => rfl)) (@pa_cons _ _ _ _ _ (@pe_ix _ _ _ _ _ _ _ (ix_listK K) (@pv _ 1 _ _ (by rfl) (by first | exact Or.inl rfl | exact Or.inr (Or.inl rfl) | exact Or.inr (Or.inr rfl)) (by decide) (by decide)) (@pe_op _ _ _ _ _ _ _ _ op_sub (@pv _ 4 _ _ (by rfl) (by first | exact Or.inl rfl | exact Or.inr (Or.inl rfl) | exact Or.inr (Or.inr rfl)) (by decide) (by decide)) (@pe_int _ _ _ _)) (fun _ _ => rfl)) (@pa_nil _) (by rfl)) (by rfl)) (by rfl)) (by rfl)) (by rfl)) (by rfl)) (by rfl))) (by rfl) (by first | exact .inl rfl | exact .inr rfl | assumption)) (@pss_cons _ _ _ _ _ (@ps_set _ _ (6) _ _ _ _ sc_law.nd rfl (Or.inl rfl) (@pe_op _ _ _ _ _ _ _ _ op_cat (@pv _ 6 _ _ (by rfl) (by first | exact Or.inl rfl | exact Or.inr (Or.inl rfl) | exact Or.inr (Or.inr rfl)) (by decide) (by decide)) (@pe_lst _ _ _ _ (@pa_cons _ _ _ _ _ (@pe_op _ _ _ _ _ _ _ _ op_addW (@pv _ 5 _ _ (by rfl) (by first | exact Or.inl rfl | exact Or.inr (Or.inl rfl) | exact Or.inr (Or.inr rfl)) (by decide) (by decide)) (@pe_str _ _ _ _)) (@pa_cons _ _ _ _ _ (@pe_op _ _ _ _ _ _ _ _ op_addW (@pv _ 5 _ _ (by rfl) (by first | exact Or.inl rfl | exact Or.inr (Or.inl rfl) | exact Or.inr (Or.inr rfl)) (by decide) (by decide)) (@pe_str _ _ _ _)) (@pa_cons _ _ _ _ _ (@pe_op _ _ _ _ _ _ _ _ op_repW (@pe_str _ _ _ _) (@pe_int _ _ _ _)) (@pa_nil _) (by rfl)) (by rfl)) (by rfl)))) (by rfl) (by first | exact .inl rfl | exact .inr rfl | assumption)) (@pss_one _ _ _ (@ps_set _ _ (5) _ _ _ _ sc_law.nd rfl (Or.inl rfl) (@pe_ix _ _ _ _ _ _ _ (ix_listK K) (@pv _ 6 _ _ (by rfl) (by first | exact Or.inl rfl | exact Or.inr (Or.inl rfl) | exact Or.inr (Or.inr rfl)) (by decide) (by decide)) (@pe_fn _ _ _ _ _ _ _ _ _ _ _ D__law_draw hr (@pa_cons _ _ _ _ _ (@pv _ 0 _ _ (by rfl) (by first | exact Or.inl rfl | exact Or.inr (Or.inl rfl) | exact Or.inr (Or.inr rfl)) (by decide) (by decide)) (@pa_cons _ _ _ _ _ (@pe_op _ _ _ _ _ _ _ _ op_add (@pe_int _ _ _ _) (@pv _ 4 _ _ (by rfl) (by first | exact Or.inl rfl | exact Or.inr (Or.inl rfl) | exact Or.inr (Or.inr rfl)) (by decide) (by decide))) (@pa_cons _ _ _ _ _ (@pe_int _ _ _ _) (@pa_cons _ _ _ _ _ (@pe_int _ _ _ _) (@pa_nil _) (by rfl)) (by rfl)) (by rfl)) (by rfl)) (by decide) (by rfl) (by decide) (by rfl) (by rfl)) (fun _ _ => rfl)) (by rfl) (by first | exact .inl rfl | exact .inr rfl | assumption))))) (@pss_nil _)) (@pss_cons _ _ _ _ _ (@ps_set _ _ (7) _ _ _ _ sc_law.nd rfl (Or.inl rfl) (@pe_lst _ _ _ _ (@pa_nil _)) (by rfl) (by first | exact .inl rfl | exact .inr rfl | assumption)) (@pss_cons _ _ _ _ _ (@ps_ifJ _ _ _ _ _ _ _ _ (@pt_not _ _ _ _ (@pt_val _ _ _ (@pe_fn _ _ _ _ _ _ _ _ _ _ _ D__law_is_name hr (@pa_cons _ _ _ _ _ (@pv _ 5 _ _ (by rfl) (by first | exact Or.inl rfl | exact Or.inr (Or.inl rfl) | exact Or.inr (Or.inr rfl)) (by decide) (by decide)) (@pa_nil _) (by rfl)) (by decide) (by rfl) (by decide) (by rfl) (by rfl)) (by intro _; rfl))) (@pss_one _ _ _ (@ps_set _ _ (7) _ _ _ _ sc_law.nd rfl (Or.inl rfl) (@pe_fn _ _ _ _ _ _ _ _ _ _ _ D__law_hot hr (@pa_cons _ _ _ _ _ (@pe_int _ _ _ _) (@pa_nil _) (by rfl)) (by decide) (by rfl) (by decide) (by rfl) (by rfl)) (by rfl) (by first | exact .inl rfl | exact .inr rfl | assumption))) (@pss_one _ _ _ (@ps_ifJ _ _ _ _ _ _ _ _ (@pt_cmpR _ _ _ _ _ _ _ _ op_in_seq (@pv _ 5 _ _ (by rfl) (by first | exact Or.inl rfl | exact Or.inr (Or.inl rfl) | exact Or.inr (Or.inr rfl)) (by decide) (by decide)) (@pv _ 3 _ _ (by rfl) (by first | exact Or.inl rfl | exact Or.inr (Or.inl rfl) | exact Or.inr (Or.inr rfl)) (by decide) (by decide)) (by with_unfolding_all rfl)) (@pss_one _ _ _ (@ps_set _ _ (7) _ _ _ _ sc_law.nd rfl (Or.inl rfl) (@pe_fn _ _ _ _ _ _ _ _ _ _ _ D__law_hot hr (@pa_cons _ _ _ _ _ (@pe_int _ _ _ _) (@pa_nil _) (by rfl)) (by decide) (by rfl) (by decide) (by rfl) (by rfl)) (by rfl) (by first | exact .inl rfl | exact .inr rfl | assumption))) (@pss_one _ _ _ (@ps_expr _ _ _ _ (@pe_bm _ _ _ _ _ _ _ _ _ _ _ _ PySem.F.plainAttrs_list PySem.F.slot_list_append PySem.F.type_list_append mt_append (@pv _ 3 _ _ (by rfl) (by first | exact Or.inl rfl | exact Or.inr (Or.inl rfl) | exact Or.inr (Or.inr rfl)) (by decide) (by decide)) (@pa_cons _ _ _ _ _ (@pv _ 5 _ _ (by rfl) (by first | exact Or.inl rfl | exact Or.inr (Or.inl rfl) | exact Or.inr (Or.inr rfl)) (by decide) (by decide)) (@pa_nil _) (by rfl)) (by rfl) (by rfl) (by rfl) (by rfl) (by rfl)) (by rfl)))))) (@pss_cons _ _ _ _ _ (@ps_if _ _ _ _ _ _ _ _ (@pt_cmpR _ _ _ _ _ _ _ _ (op_neDK K hr.units) (@pe_fn _ _ _ _ _ _ _ _ _ _ _ D__law_tried hr (@pa_cons _ _ _ _ _ (@pv _ 2 _ _ (by rfl) (by first | exact Or.inl rfl | exact Or.inr (Or.inl rfl) | exact Or.inr (Or.inr rfl)) (by decide) (by decide)) (@pa_cons _ _ _ _ _ (@pe_tup _ _ _ _ _ (@pa_cons _ _ _ _ _ (@pe_str _ _ _ _) (@pa_cons _ _ _ _ _ (@pv _ 5 _ _ (by rfl) (by first | exact Or.inl rfl | exact Or.inr (Or.inl rfl) | exact Or.inr (Or.inr rfl)) (by decide) (by decide)) (@pa_nil _) (by rfl)) (by rfl))) (@pa_nil _) (by rfl)) (by rfl)) (by decide) (by rfl) (by decide) (by rfl) (by rfl)) (@pv _ 7 _ _ (by rfl) (by first | exact Or.inl rfl | exact Or.inr (Or.inl rfl) | exact Or.inr (Or.inr rfl)) (by decide) (by decide)) (nomark _)) (@pss_one _ _ _ (@ps_ret _ _ _ _ (@pe_bl _ _ _ _))) (@pss_nil _)) (@pss_cons _ _ _ _ _ (@ps_set _ _ (8) _ _ _ _ sc_law.nd rfl (Or.inl rfl) (@pe_mth0 _ _ _ _ _ _ _ _ _ _ _ _ D_Hold_roster hr (@pv _ 2 _ _ (by rfl) (by first | exact Or.inl rfl | exact Or.inr (Or.inl rfl) | exact Or.inr (Or.inr rfl)) (by decide) (by decide)) (by decide) (by rfl)) (by rfl) (by first | exact .inl rfl | exact .inr rfl | assumption)) (@pss_cons _ _ _ _ _ (@ps_if _ _ _ _ _ _ _ _ (@pt_pure _ _ _ (PW.pt (@pw_or _ _ _ _ _ _ _ (@pt_not _ _ _ _ (@pt_val _ _ _ (@pe_callB _ _ _ _ _ _ _ _ _ (call_isinstK K) (by rfl) m_isinstance PyProof.Rows.boot_isinstance (@pa_cons _ _ _ _ _ (@pv _ 8 _ _ (by rfl) (by first | exact Or.inl rfl | exact Or.inr (Or.inl rfl) | exact Or.inr (Or.inr rfl)) (by decide) (by decide)) (@pa_cons _ _ _ _ _ (@pe_ty _ _ _ _ PyProof.Rows.boot_list rfl m_list (by decide) (by decide)) (@pa_nil _) (by rfl)) (by rfl)) (by decide) (by decide) (by rfl) (by rfl)) (by intro _; rfl))) (@pw_or1 _ _ _ _ (@pt_cmpR _ _ _ _ _ _ _ _ (op_neDK K hr.units) (@pv _ 8 _ _ (by rfl) (by first | exact Or.inl rfl | exact Or.inr (Or.inl rfl) | exact Or.inr (Or.inr rfl)) (by decide) (by decide)) (@pv _ 3 _ _ (by rfl) (by first | exact Or.inl rfl | exact Or.inr (Or.inl rfl) | exact Or.inr (Or.inr rfl)) (by decide) (by decide)) (nomark _)))))) (@pss_one _ _ _ (@ps_ret _ _ _ _ (@pe_bl _ _ _ _))) (@pss_nil _)) (@pss_one _ _ _ (@ps_expr _ _ _ _ (@pe_bm0 _ _ _ _ _ _ _ _ _ PySem.F.plainAttrs_list PySem.F.slot_list_clear PySem.F.type_list_clear mt_clear (@pv _ 8 _ _ (by rfl) (by first | exact Or.inl rfl | exact Or.inr (Or.inl rfl) | exact Or.inr (Or.inr rfl)) (by decide) (by decide)) (by rfl) (by rfl)) (by rfl)))))))))) (by intro _; rfl)) (@pss_cons _ _ _ _ _ (@ps_if _ _ _ _ _ _ _ _ (PW.pt (@pw_or _ _ _ _ _ _ _ (@pt_cmpR _ _ _ _ _ _ _ _ (op_neDK K hr.units) (@pe_mth0 _ _ _ _ _ _ _ _ _ _ _ _ D_Hold_parts hr (@pv _ 2 _ _ (by rfl) (by first | exact Or.inl rfl | exact Or.inr (Or.inl rfl) | exact Or.inr (Or.inr rfl)) (by decide) (by decide)) (by decide) (by rfl)) (@pe_lst _ _ _ _ (@pa_nil _)) (nomark _)) (@pw_or1 _ _ _ _ (@pt_cmpR _ _ _ _ _ _ _ _ (op_neDK K hr.units) (@pe_mth0 _ _ _ _ _ _ _ _ _ _ _ _ D_Hold_landed hr (@pv _ 2 _ _ (by rfl) (by first | exact Or.inl rfl | exact Or.inr (Or.inl rfl) | exact Or.inr (Or.inr rfl)) (by decide) (by decide)) (by decide) (by rfl)) (@pe_lst _ _ _ _ (@pa_nil _)) (nomark _))))) (@pss_one _ _ _ (@ps_ret _ _ _ _ (@pe_bl _ _ _ _))) (@pss_nil _)) (@pss_one _ _ _ (@ps_ret _ _ _ _ (@pe_and _ _ _ _ _ _ _ (@pe_fn _ _ _ _ _ _ _ _ _ _ _ D__law_int hr (@pa_cons _ _ _ _ _ (@pe_mth0 _ _ _ _ _ _ _ _ _ _ _ _ D_Hold_whole hr (@pv _ 2 _ _ (by rfl) (by first | exact Or.inl rfl | exact Or.inr (Or.inl rfl) | exact Or.inr (Or.inr rfl)) (by decide) (by decide)) (by decide) (by rfl)) (@pa_nil _) (by rfl)) (by decide) (by rfl) (by decide) (by rfl) (by rfl)) (@pe_and _ _ _ _ _ _ _ (@pe_cmpR _ _ _ _ _ _ _ _ op_eq (@pe_mth0 _ _ _ _ _ _ _ _ _ _ _ _ D_Hold_whole hr (@pv _ 2 _ _ (by rfl) (by first | exact Or.inl rfl | exact Or.inr (Or.inl rfl) | exact Or.inr (Or.inr rfl)) (by decide) (by decide)) (by decide) (by rfl)) (@pe_int _ _ _ _) (nomark _)) (@pe_one _ _ _ _ _ (@pe_cmpR _ _ _ _ _ _ _ _ (op_eqDK K hr.units) (@pe_mth0 _ _ _ _ _ _ _ _ _ _ _ _ D_Hold_roster hr (@pv _ 2 _ _ (by rfl) (by first | exact Or.inl rfl | exact Or.inr (Or.inl rfl) | exact Or.inr (Or.inr rfl)) (by decide) (by decide)) (by decide) (by rfl)) (@pv _ 3 _ _ (by rfl) (by first | exact Or.inl rfl | exact Or.inr (Or.inl rfl) | exact Or.inr (Or.inr rfl)) (by decide) (by decide)) (nomark _)))))))))))), ?_⟩
  refine ⟨_, rfl, _, rfl, use_draw hS h63 (by decide) (by decide) (by decide) (by decide) fun nd _ n0 n1 => ⟨_, _, rfl, rfl, ?_⟩⟩
  obtain ⟨np, hnp⟩ : ∃ np : Nat, 1 + nd = (np : Int) := ⟨(1 + nd).toNat, by omega⟩
  refine use_manynames hnp hS h63 (by decide) (by omega) fun zn nsn L g1 hzn _ hnl hnd hnk => ?_
  have hS1 := g1.seq hS
  rw [txs_nmS] at hzn
  have hnll := nmS_len nsn
  have nmK' := nmS_ok (fun x hx => (hnk x hx).1)
  generalize nmS nsn = nms at *
  clear hnd hnk
  have hwl : ∀ x ∈ nms, wl x ≤ 8 := fun x hx => (nmK' x hx).hi
  intro x dx hx hdx hne
  refine ⟨⟨x, dx, fun _ => none, 0, rfl, upd_same, (fun b c e => nomatch e), rfl, fun ρ1 A1 H2 ea hh k => ⟨rfl, ?_⟩⟩⟩
  have gL : Same L (out ρ1 H2) := fun b o e => by
    obtain ⟨k1, k2⟩ := k b o (by rw [upd_ne (ne_of_none e hx), upd_ne (ne_of_none e hdx)]; exact e) (ne_of_none e hx)
    exact out_of k1 k2
  clear k
  refine ⟨(by show 0 ≤ sizeLine; decide), fun ls hls => ?_⟩
  have hLs : L ls = none := by
    cases e : L ls with
    | none => rfl
    | some o => have := out_le _ _ (gL _ _ e); rw [hls] at this; cases this
  have cLs : ρ1 ls = none := hh.g.none hls
  have g3 := same_new hls (.lst [])
  have Z0 : HH T 0 ρ1 A1 (upd H2 ls (.lst [])) hs0 := hh.mono g3
  have gL3 : Same L (out ρ1 (upd H2 ls (.lst []))) := gL.trans (out_same g3)
  have hls3 : upd H2 ls (.lst []) ls = some (.lst []) := upd_same
  generalize upd H2 ls (.lst []) = H3 at *
  have hnn : (nms.map V.str).length = np := by rw [List.length_map]; omega
  refine ⟨_, rfl, zn, _, rfl, .inl (SqL.of (out_le _ _ (gL3 _ _ hzn))), _, rfl, by omega, by omega, ?_⟩
  refine for_range (lo := 0) (n := (((nms.map V.str).length : Nat) : Int).toNat) (fun i σ H' => ∃ (s4 s5 s6 s7 s8 : Option V) (st : HS) (ρ : Rho) (A : HA), σ = [some (.ref a), some (.ref zn), some (.ref x), some (.ref ls), s4, s5, s6, s7, s8] ∧ A.a = x ∧ HH T 0 ρ A H' st ∧ Same L (out ρ H') ∧ H' ls = some (.lst (st.own.map V.str)) ∧ ρ ls = none ∧ st.pts = [] ∧ st.ash = [] ∧ st.own.length ≤ i ∧ ∀ o ∈ st.own, isNm o = true)
    ⟨_, _, _, _, _, hs0, ρ1, A1, rfl, ea, Z0, gL3, hls3, cLs, rfl, rfl, Nat.le_refl 0, (fun _ m => nomatch m)⟩ ?_ ?_
  · rintro i σ H4 hi ⟨s4, s5, s6, s7, s8, st, ρ, A, rfl, ea', hh4, gL4, hls4, cls4, ep, es, hol, hon⟩
    have e0 : (0 : Int) + (i : Int) = ((i : Nat) : Int) := by omega
    rw [e0]
    have hin : i < nms.length := by omega
    have hzn4 := out_le _ _ (gL4 _ _ hzn)
    have hS4 : SqL K H4 a (ns.map V.int) := out_le.seq (gL4.seq hS1)
    have hat : atI (nms.map V.str) (i : Int) = some (.str nms[i]) := atI_nat (by rw [List.getElem?_map, List.getElem?_eq_getElem hin]; rfl)
    have hw0 := hwl nms[i] (List.getElem_mem hin)
    generalize nms[i] = w0 at hat hw0
    refine ⟨_, rfl, _, rfl, zn, _, _, _, rfl, rfl, SqL.of hzn4, hat, ?_⟩
    refine ⟨fun σ' H5 => ∃ (s6 : Option V) (wd : Str), σ' = [some (.ref a), some (.ref zn), some (.ref x), some (.ref ls), some (.int (i : Int)), some (.str wd), s6, s7, s8] ∧ Same H4 H5 ∧ wl wd ≤ 100, ?_, ?_⟩
    · refine ⟨_, rfl, _, rfl, _, _, rfl, rfl, use_draw hS4 h63 (by omega) (by decide) (by decide) (by decide) fun d1 _ _ _ => ⟨rfl, _, rfl, ite2 (fun _ => ?_) (fun _ => ?_)⟩⟩
      · have l1 : wl "abcdefg" ≤ 10 := by decide +kernel
        have l2 : wl "Z" ≤ 10 := by decide +kernel
        have l3 : wl " " ≤ 10 := by decide +kernel
        have l4 : wl "1" ≤ 10 := by decide +kernel
        have l5 : wl "a" ≤ 10 := by decide +kernel
        have l6 : wl "" ≤ 10 := by decide +kernel
        have hat0 : atI (nms.map V.str) 0 = some (.str nms[0]) := atI_nat (j := 0) (by rw [List.getElem?_map, List.getElem?_eq_getElem (by omega)]; rfl)
        obtain ⟨v9, hv9, hat9⟩ := atI_in (xs := nms.map V.str) (i := (i : Int) - 1) (by rw [List.length_map]; omega) (by rw [List.length_map]; omega)
        obtain ⟨w9, hw9, rfl⟩ := List.mem_map.mp hv9
        have hw9' := hwl w9 hw9
        have hw8 := hwl nms[0] (List.getElem_mem (by omega))
        refine ⟨_, rfl, _, _, rfl, rfl, by omega, fun r1 h1 => ?_⟩
        refine ⟨_, rfl, _, rfl, _, rfl, by omega, fun r2 h2 _ => ?_⟩
        refine ⟨_, rfl, _, rfl, _, rfl, by omega, fun r3 h3 _ => ⟨_, _, rfl, rfl, by omega, fun r4 h4 => ?_⟩⟩
        refine ⟨_, rfl, _, _, rfl, rfl, by omega, fun r5 h5 => ?_⟩
        refine ⟨_, rfl, zn, _, _, _, rfl, rfl, SqL.of hzn4, hat0, ?_⟩
        refine ⟨_, rfl, _, rfl, _, _, rfl, rfl, zn, _, _, _, rfl, rfl, SqL.of hzn4, hat9, ?_⟩
        refine ⟨(by show 7 ≤ sizeLine; decide), fun p1 hp1 => ?_⟩
        have g5 := same_new hp1 (.lst [.str r1, .str r2, .str "", .str r4, .str r5, .str nms[0], .str w9])
        have hp15 : upd H4 p1 (.lst [.str r1, .str r2, .str "", .str r4, .str r5, .str nms[0], .str w9]) p1 = some (.lst [.str r1, .str r2, .str "", .str r4, .str r5, .str nms[0], .str w9]) := upd_same
        show tSeq _ _ _ _ (upd H4 p1 (.lst [.str r1, .str r2, .str "", .str r4, .str r5, .str nms[0], .str w9]))
        generalize upd H4 p1 (.lst [.str r1, .str r2, .str "", .str r4, .str r5, .str nms[0], .str w9]) = H5 at g5 hp15
        refine ⟨_, rfl, _, rfl, _, _, rfl, rfl, by omega, fun r6 h6 => ?_⟩
        refine ⟨_, rfl, _, _, rfl, rfl, by omega, fun r7 h7 => ?_⟩
        refine ⟨_, _, rfl, rfl, by decide, by decide, by omega, fun r8 h8 => ?_⟩
        have h8' : wl r8 = wl "a" * 9 := h8
        refine ⟨(by show 3 ≤ sizeLine; decide), fun p2 hp2 => ?_⟩
        have g6 := same_new hp2 (.lst [.str r6, .str r7, .str r8])
        refine ⟨p1, p2, _, _, rfl, rfl, g6 _ _ hp15, upd_same, (by show 10 ≤ sizeLine; decide), fun p3 hp3 => ?_⟩
        have g7 := same_new hp3 (.lst [.str r1, .str r2, .str "", .str r4, .str r5, .str nms[0], .str w9, .str r6, .str r7, .str r8])
        have g57 := g5.trans (g6.trans g7)
        refine ⟨_, rfl, _, rfl, _, rfl, _, _, rfl, rfl, use_draw (g57.seq hS4) h63 (by omega) (by decide) (by decide) (by decide) fun d2 _ d0 d1 => ?_⟩
        obtain ⟨v, hv, hatv⟩ := atI_in (xs := [V.str r1, .str r2, .str "", .str r4, .str r5, .str nms[0], .str w9, .str r6, .str r7, .str r8]) (i := d2) (by show -(10 : Int) ≤ d2; omega) (by show d2 < (10 : Int); omega)
        refine ⟨p3, _, _, _, rfl, rfl, SqL.of upd_same, hatv, ?_⟩
        have : ∃ wd : Str, v = .str wd ∧ wl wd ≤ 100 := by
          simp only [List.mem_cons, List.not_mem_nil, or_false] at hv
          rcases hv with h | h | h | h | h | h | h | h | h | h <;> exact ⟨_, h, by omega⟩
        obtain ⟨wd, rfl, hwd⟩ := this
        exact ⟨_, wd, rfl, g57, hwd⟩
      · exact ⟨s6, w0, rfl, Same.refl _, by omega⟩
    rintro σ H5 ⟨s6', wd, rfl, g5, hwd⟩
    clear hat hw0
    have hh5 := hh4.mono g5
    have gL5 := gL4.trans (out_same (ρ := ρ) g5)
    have hls5 := g5 _ _ hls4
    refine ⟨(by show 0 ≤ sizeLine; decide), fun ld hld => ?_⟩
    have g6 := same_new hld (.lst [])
    have hld6 : upd H5 ld (.lst []) ld = some (.lst []) := upd_same
    have hh6 := hh5.mono g6
    have gL6 := gL5.trans (out_same (ρ := ρ) g6)
    have hls6 := g6 _ _ hls5
    have cld : ρ ld = none := hh5.g.none hld
    have hlds : ld ≠ ls := fun e => by rw [e, hls5] at hld; cases hld
    show tSeq _ _ _ _ (upd H5 ld (.lst []))
    generalize upd H5 ld (.lst []) = H6 at g6 hld6 hh6 gL6 hls6
    clear hh5 gL5 hls5 hh4 gL4 hls4 hzn4 hS4 hld g5
    have hiw : signR st wd = some 0 ∨ (isName wd.cps.toList = true ∧ ((wd ∈ st.own ∧ signR st wd = some 1) ∨ (wd ∉ st.own ∧ signR st wd = none))) := by
      unfold signR isNm
      by_cases h1 : isName wd.cps.toList = true
      · rw [if_pos h1]
        by_cases h2 : wd ∈ st.own
        · rw [if_pos h2]; exact .inr ⟨h1, .inl ⟨h2, rfl⟩⟩
        · rw [if_neg h2]; exact .inr ⟨h1, .inr ⟨h2, rfl⟩⟩
      · rw [if_neg h1]; exact .inl rfl
    have hr10 : ∀ i, signR st wd = some i → i < 10 := fun i z => by
      rcases hiw with h | ⟨_, ⟨_, h⟩ | ⟨_, h⟩⟩ <;> rw [h] at z <;> cases z <;> decide
    have hownl : (st.own.map V.str).length < sizeLine := by rw [List.length_map]; exact small1000 (by omega)
    have haft : afterS st (.sign wd) = if signR st wd = none then signS st wd else st := by
      unfold afterS
      show (match signR st wd with | some _ => st | none => signS st wd) = _
      cases signR st wd <;> rfl
    refine ⟨fun σ' H7 => ∃ ld', σ' = [some (.ref a), some (.ref zn), some (.ref x), some (.ref ls), some (.int (i : Int)), some (.str wd), s6', some (.ref ld'), s8] ∧ HH T 0 ρ A H7 st ∧ Same L (out ρ H7) ∧ H7 ls = some (.lst ((afterS st (.sign wd)).own.map V.str)) ∧ H7 ld' = some (.lst (toldV (signR st wd))) ∧ (signR st wd = none → ρ ld' = none), ?_, ?_⟩
    · refine ⟨_, rfl, use_lawisname (cs := wd.cps.toList) (by have : wd.cps.toList.length ≤ 100 := hwd; omega) ⟨_, rfl, ?_⟩⟩
      rcases hiw with hr | ⟨hn, hr⟩
      · have hn : isName wd.cps.toList = false := by
          cases h1 : isName wd.cps.toList with
          | false => rfl
          | true =>
            unfold signR isNm at hr
            rw [if_pos h1] at hr
            split at hr <;> cases hr
        rw [hn]
        refine iteT ?_
        refine use_hot (n := 0) rfl fun p H7 g7 hp7 => ?_
        refine ⟨p, rfl, hh6.mono g7, gL6.trans (out_same g7), ?_, by rw [hr]; exact hp7, fun z => by rw [hr] at z; cases z⟩
        rw [haft, hr]; exact g7 _ _ hls6
      · rw [hn]
        refine iteF ?_
        refine ⟨_, ⟨_, rfl, _, rfl, ls, _, rfl, .inl (SqL.of hls6), rfl, flat_strs _, _, rfl, ?_⟩, fun _ _ z => z⟩
        rw [inV_strs]
        rcases hr with ⟨hm, hr⟩ | ⟨hm, hr⟩
        · rw [decide_eq_true hm]
          refine iteT ?_
          refine use_hot (n := 1) rfl fun p H7 g7 hp7 => ?_
          refine ⟨p, rfl, hh6.mono g7, gL6.trans (out_same g7), ?_, by rw [hr]; exact hp7, fun z => by rw [hr] at z; cases z⟩
          rw [haft, hr]; exact g7 _ _ hls6
        · rw [decide_eq_false hm]
          refine iteF ?_
          refine ⟨_, rfl, .inl ⟨rfl, _, SqL.of hls6⟩, _, rfl, ls, _, _, rfl, rfl, hls6, hownl, ?_⟩
          refine ⟨ld, rfl, hh6.wrOut cls4 hls6 rfl rfl, ?_, ?_, ?_, fun _ => cld⟩
          · exact fun b o e => by
              have := gL6 _ _ e
              obtain ⟨z1, z2⟩ := out_some this
              exact out_of (by rw [upd_ne (ne_of_none e hLs)]; exact z1) z2
          · rw [upd_same, haft, hr]
            show _ = some (HO.lst ((st.own ++ [wd]).map V.str))
            rw [List.map_append]; rfl
          · rw [upd_ne hlds, hr]; exact hld6
    rintro σ H7 ⟨ld', rfl, hh7, gL7, hls7, hld7, cld7⟩
    refine ⟨_, rfl, _, rfl, (by show 2 ≤ sizeLine; decide), fun tz htz => ?_⟩
    have g8 := same_new htz (.tup [.str "sign", .str wd])
    refine use_tried (d := .sign wd) ea' (SqT.of upd_same) (hh7.mono g8) ⟨by have : wd.cps.toList.length ≤ 100 := hwd; omega, by omega⟩ fun l ρ8 A8 H8 hh8 ea8 F8 s8' hl8 => ?_
    have F78 : Fr 0 ρ H7 ρ8 H8 := (Fr.of_same g8).trans F8
    have hld8 : H8 ld' = some (.lst (toldV (signR st wd))) := by
      cases hr : signR st wd with
      | none => rw [← hr]; exact (F78.at hld7 (cld7 hr)).1
      | some j => rw [← hr]; exact s8' j hr _ _ (g8 _ _ hld7)
    obtain ⟨hls8, cls8⟩ := F78.at hls7 cls4
    have gL8 := gL7.trans F78.out
    refine ⟨_, rfl, ne_told hl8 hld8 hr10 ⟨_, rfl, iteF ?_⟩⟩
    have hst8 : (afterS st (.sign wd)).pts = [] ∧ (afterS st (.sign wd)).ash = [] ∧ (afterS st (.sign wd)).own.length ≤ i + 1 ∧ ∀ o ∈ (afterS st (.sign wd)).own, isNm o = true := by
      rw [haft]
      by_cases hr : signR st wd = none
      · rw [if_pos hr]
        refine ⟨by show st.pts.map _ = []; rw [ep]; rfl, es, by show (st.own ++ [wd]).length ≤ i + 1; rw [List.length_append]; show st.own.length + 1 ≤ i + 1; omega, fun o ho => ?_⟩
        rcases List.mem_append.mp (show o ∈ st.own ++ [wd] from ho) with z | z
        · exact hon o z
        · rw [List.mem_singleton.mp z]
          rcases hiw with h | ⟨h, _⟩
          · rw [hr] at h; cases h
          · exact h
      · rw [if_neg hr]; exact ⟨ep, es, by omega, hon⟩
    generalize afterS st (.sign wd) = st8 at *
    obtain ⟨ep8, es8, hol8, hon8⟩ := hst8
    refine ⟨_, rfl, x, A8.dx, _, rfl, ea8 ▸ hh8.h.oa, rfl, ⟨⟨0, ρ8, A8, st8, by rw [ea8]; rfl, hh8.h, fun r hr => ?_⟩⟩⟩
    have g9 := same_new hr (.lst (st8.own.map V.str))
    have hr9 : upd H8 r (.lst (st8.own.map V.str)) r = some (.lst (st8.own.map V.str)) := upd_same
    have cr : ρ8 r = none := hh8.g.none hr
    show gName 8 (.ref r) _ (upd H8 r (.lst (st8.own.map V.str))) _
    have hh9 := hh8.mono g9
    have gL9 := gL8.trans (out_same (ρ := ρ8) g9)
    have hls9 := g9 _ _ hls8
    have hrls : ls ≠ r := fun e => by rw [e, hr] at hls8; cases hls8
    generalize upd H8 r (.lst (st8.own.map V.str)) = H9 at *
    refine ⟨false, ?_, iteF ?_⟩
    · refine ⟨_, rfl, _, _, _, _, rfl, TyOf.lst hr9, isi_same, _, rfl, iteF ?_⟩
      exact ⟨_, rfl, _, rfl, ne_strs (SqL.of hr9) (SqL.of hls9) (fun o ho => isNm_strOk (hon8 o ho)) ⟨_, rfl, rfl, rfl⟩⟩
    refine ⟨_, rfl, .inl ⟨rfl, _, SqL.of hr9⟩, r, _, rfl, rfl, hr9, ?_⟩
    have hLr : L r = none := by
      cases e : L r with
      | none => rfl
      | some o =>
        have := out_le _ _ (gL8 _ _ e)
        rw [hr] at this; cases this
    refine ⟨_, _, _, _, _, st8, ρ8, A8, rfl, ea8, hh9.wrOut cr hr9 rfl rfl, ?_, by rw [upd_ne hrls]; exact hls9, cls8, ep8, es8, hol8, hon8⟩
    exact fun b o e => by
      obtain ⟨z1, z2⟩ := out_some (gL9 _ _ e)
      exact out_of (by rw [upd_ne (ne_of_none e hLr)]; exact z1) z2
  rintro σ H4 ⟨s4, s5, s6, s7, s8, st, ρ, A, rfl, ea', hh4, gL4, hls4, cls4, ep, es, hol, hon⟩
  have ndt : ∀ {H : Hp} {r p : Addr} {Q : VK}, H r = some (.lst []) → H p = some (.lst []) → Q (.bl false) H → rNeD K (.ref r) (.ref p) H Q := fun h1 h2 q => ⟨.list [], .list [], .lst (SqL.of h1) .nil, .lst (SqL.of h2) .nil, rfl, rfl, q⟩
  refine ⟨_, rfl, x, A.dx, _, rfl, ea' ▸ hh4.h.oa, rfl, ⟨⟨0, ρ, A, st, by rw [ea']; rfl, hh4.h, by rw [ep]; exact Nat.zero_le _, fun r ws H5 g5 hr hr5 hws => ?_⟩⟩⟩
  rw [ep] at hws
  cases hws
  refine ⟨(by show 0 ≤ sizeLine; decide), fun p6 hp6 => ?_⟩
  have g6 := same_new hp6 (.lst [])
  refine ndt (g6 _ _ hr5) upd_same ⟨_, rfl, iteF ?_⟩
  have g46 := g5.trans g6
  have hh6 := hh4.mono g46
  have hls6 := g46 _ _ hls4
  generalize upd H5 p6 (.lst []) = H6 at *
  refine ⟨_, rfl, x, A.dx, _, rfl, ea' ▸ hh6.h.oa, rfl, ⟨⟨0, ρ, A, st, by rw [ea']; rfl, hh6, fun r2 ws2 H7 g7 hr2 hr27 hws2 => ?_⟩⟩⟩
  rw [es] at hws2
  cases hws2
  refine ⟨(by show 0 ≤ sizeLine; decide), fun p8 hp8 => ?_⟩
  have g8 := same_new hp8 (.lst [])
  refine ndt (g8 _ _ hr27) upd_same ⟨_, rfl, iteF ?_⟩
  have g68 := g7.trans g8
  have hh8 := hh6.mono g68
  have hls8 := g68 _ _ hls6
  generalize upd H7 p8 (.lst []) = H8 at *
  have ew : wholeS st = 0 := by unfold wholeS; rw [ep]; rfl
  refine ⟨_, rfl, x, A.dx, _, rfl, ea' ▸ hh8.h.oa, rfl, ⟨⟨0, ρ, A, st, by rw [ea']; rfl, hh8.h, by rw [ep]; exact Nat.zero_le _, fun H9 g9 => ?_⟩⟩⟩
  rw [ew]
  refine ⟨0, rfl, _, rfl, iteT ?_⟩
  have hh9 := hh8.mono g9
  refine ⟨_, rfl, x, A.dx, _, rfl, ea' ▸ hh9.h.oa, rfl, ⟨⟨0, ρ, A, st, by rw [ea']; rfl, hh9.h, by rw [ep]; exact Nat.zero_le _, fun H10 g10 => ?_⟩⟩⟩
  rw [ew]
  refine ⟨rfl, _, rfl, iteT ?_⟩
  have hh10 := hh9.mono g10
  have hls10 := g10 _ _ (g9 _ _ hls8)
  refine ⟨_, rfl, x, A.dx, _, rfl, ea' ▸ hh10.h.oa, rfl, ⟨⟨0, ρ, A, st, by rw [ea']; rfl, hh10.h, fun r3 hr3 => ?_⟩⟩⟩
  have g11 := same_new hr3 (.lst (st.own.map V.str))
  exact ⟨_, rfl, eq_strs (SqL.of upd_same) (SqL.of (g11 _ _ hls10)) (fun o ho => isNm_strOk (hon o ho)) (q _)⟩
end
theorem all_mk {l : PySem.W.OpenLaw} {w : World} {K : PySem.W.Frag} {h : Heap} {mg : Str → Option Value} {fa : Addr} (X : K.In h) (G : h.Ns mainGlobals mg) (hfa : mg "law" = some (.ref fa))
    {f : Addr} {od an : Option Addr} {sl : Array (Option Value)} {oc kV dc pm cd ct : Value}
    (a : PySem.W.nsIn K mainGlobals "law" = some (some (.ref f))) (l1 : K.lookup f = some ⟨oc, od, .func (PySem.W.fnOf "law" "law" (defArgs sd_law) (defBody sd_law) (defScope sd_law) .none kV dc pm an cd ct), sl⟩) (c : PySem.W.codeIn K cd "law" = true) (k : PySem.W.keepIn K (.ref f) = true)
    (d_made_of : DefAt K "made_of" sd_made_of) (d_is_name : DefAt K "is_name" sd_is_name) (d__law_draw : DefAt K "_law_draw" sd__law_draw) (d__law_name : DefAt K "_law_name" sd__law_name) (d__law_many_names : DefAt K "_law_many_names" sd__law_many_names) (d__law_hold_do : DefAt K "_law_hold_do" sd__law_hold_do) (d__law_tried : DefAt K "_law_tried" sd__law_tried) (d__law_hot : DefAt K "_law_hot" sd__law_hot) (d__law_is_name : DefAt K "_law_is_name" sd__law_is_name) (d__law_int : DefAt K "_law_int" sd__law_int)
    (z_len : PySem.W.nsIn K mainGlobals "len" = some none)
    (z_range : PySem.W.nsIn K mainGlobals "range" = some none)
    (z_sum : PySem.W.nsIn K mainGlobals "sum" = some none)
    (z_list : PySem.W.nsIn K mainGlobals "list" = some none)
    (z_zip : PySem.W.nsIn K mainGlobals "zip" = some none)
    (z_all : PySem.W.nsIn K mainGlobals "all" = some none)
    (z_int : PySem.W.nsIn K mainGlobals "int" = some none)
    (z_bool : PySem.W.nsIn K mainGlobals "bool" = some none)
    (z_str : PySem.W.nsIn K mainGlobals "str" = some none)
    (z_tuple : PySem.W.nsIn K mainGlobals "tuple" = some none)
    (z_abs : PySem.W.nsIn K mainGlobals "abs" = some none)
    (z_isinstance : PySem.W.nsIn K mainGlobals "isinstance" = some none)
    (z_ValueError : PySem.W.nsIn K mainGlobals "ValueError" = some none)
    {tk_LETTERS : Tok} (b_LETTERS : PySem.W.nsIn K mainGlobals "LETTERS" = some (some (.str "abcdefghijklmnopqrstuvwxyz" tk_LETTERS)))
    {C_Hold : Addr} (aC_Hold : PySem.W.nsIn K mainGlobals "Hold" = some (some (.ref C_Hold))) (pg_Hold : PySem.W.plainGet K C_Hold Str.empty = true) (hd_Hold : PySem.W.hasDictIn K C_Hold = true) (po_Hold : PySem.W.plainOver K C_Hold = true) (sa_Hold : PySem.W.findIn K (.ref C_Hold) "__setattr__" = some (some (.builtin "object.__setattr__"))) (mk_Hold : PySem.W.makesIn K C_Hold = true) (kc_Hold : PySem.W.keepIn K (.ref C_Hold) = true)
    (d_Hold_init : MetAt K C_Hold "__init__" "Hold.__init__" sd_Hold_init) (d_Hold_sign : MetAt K C_Hold "sign" "Hold.sign" sd_Hold_sign) (d_Hold_roster : MetAt K C_Hold "roster" "Hold.roster" sd_Hold_roster) (d_Hold_parts : MetAt K C_Hold "parts" "Hold.parts" sd_Hold_parts) (d_Hold_whole : MetAt K C_Hold "whole" "Hold.whole" sd_Hold_whole) (d_Hold_landed : MetAt K C_Hold "landed" "Hold.landed" sd_Hold_landed)
    (n_Hold_places : PySem.W.findIn K (.ref C_Hold) "places" = some none)
    (n_Hold_aboard : PySem.W.findIn K (.ref C_Hold) "aboard" = some none)
    (n_Hold_ashore : PySem.W.findIn K (.ref C_Hold) "ashore" = some none)
    (n_Hold_names : PySem.W.findIn K (.ref C_Hold) "names" = some none)
    (n_Hold_bottom : PySem.W.findIn K (.ref C_Hold) "bottom" = some none)
    (n_Hold_common : PySem.W.findIn K (.ref C_Hold) "common" = some none)
    (n_Hold_purses : PySem.W.findIn K (.ref C_Hold) "purses" = some none)
    {C_Part : Addr} (aC_Part : PySem.W.nsIn K mainGlobals "Part" = some (some (.ref C_Part))) (pg_Part : PySem.W.plainGet K C_Part Str.empty = true) (hd_Part : PySem.W.hasDictIn K C_Part = true) (po_Part : PySem.W.plainOver K C_Part = true) (sa_Part : PySem.W.findIn K (.ref C_Part) "__setattr__" = some (some (.builtin "object.__setattr__"))) (mk_Part : PySem.W.makesIn K C_Part = true) (kc_Part : PySem.W.keepIn K (.ref C_Part) = true)
    (n_Part_name : PySem.W.findIn K (.ref C_Part) "name" = some none)
    (n_Part_owner : PySem.W.findIn K (.ref C_Part) "owner" = some none)
    (n_Part_worth : PySem.W.findIn K (.ref C_Part) "worth" = some none)
    (n_Part_weight : PySem.W.findIn K (.ref C_Part) "weight" = some none)
    (n_Part_scale : PySem.W.findIn K (.ref C_Part) "scale" = some none)
    (n_Part_row : PySem.W.findIn K (.ref C_Part) "row" = some none)
    {C_Bottom : Addr} (aC_Bottom : PySem.W.nsIn K mainGlobals "Bottom" = some (some (.ref C_Bottom))) (pg_Bottom : PySem.W.plainGet K C_Bottom Str.empty = true) (hd_Bottom : PySem.W.hasDictIn K C_Bottom = true) (po_Bottom : PySem.W.plainOver K C_Bottom = true) (sa_Bottom : PySem.W.findIn K (.ref C_Bottom) "__setattr__" = some (some (.builtin "object.__setattr__"))) (mk_Bottom : PySem.W.makesIn K C_Bottom = true) (kc_Bottom : PySem.W.keepIn K (.ref C_Bottom) = true)
    (d_Bottom_init : MetAt K C_Bottom "__init__" "Bottom.__init__" sd_Bottom_init)
    (n_Bottom_steps : PySem.W.findIn K (.ref C_Bottom) "steps" = some none)
    (n_Bottom_product : PySem.W.findIn K (.ref C_Bottom) "product" = some none)
    (n_Bottom_known : PySem.W.findIn K (.ref C_Bottom) "known" = some none)
    {c_BadName c_Twice c_NoOwner c_NoPart c_NoVoyage c_BadNumber c_TooMuch c_BadRows c_NoDeed c_BadPaper c_JettisonError : Addr}
    (bE_BadName : PySem.W.nsIn K mainGlobals "BadName" = some (some (.ref c_BadName))) (bE_Twice : PySem.W.nsIn K mainGlobals "Twice" = some (some (.ref c_Twice))) (bE_NoOwner : PySem.W.nsIn K mainGlobals "NoOwner" = some (some (.ref c_NoOwner))) (bE_NoPart : PySem.W.nsIn K mainGlobals "NoPart" = some (some (.ref c_NoPart))) (bE_NoVoyage : PySem.W.nsIn K mainGlobals "NoVoyage" = some (some (.ref c_NoVoyage))) (bE_BadNumber : PySem.W.nsIn K mainGlobals "BadNumber" = some (some (.ref c_BadNumber))) (bE_TooMuch : PySem.W.nsIn K mainGlobals "TooMuch" = some (some (.ref c_TooMuch))) (bE_BadRows : PySem.W.nsIn K mainGlobals "BadRows" = some (some (.ref c_BadRows))) (bE_NoDeed : PySem.W.nsIn K mainGlobals "NoDeed" = some (some (.ref c_NoDeed))) (bE_BadPaper : PySem.W.nsIn K mainGlobals "BadPaper" = some (some (.ref c_BadPaper))) (bE_JettisonError : PySem.W.nsIn K mainGlobals "JettisonError" = some (some (.ref c_JettisonError)))
    (to_BadName : Told K (Ec.mk c_BadName c_Twice c_NoOwner c_NoPart c_NoVoyage c_BadNumber c_TooMuch c_BadRows c_NoDeed c_BadPaper c_JettisonError) c_BadName 0) (ox_BadName : PySem.W.excIn K c_BadName [.type "ValueError", .type "Exception", .type "BaseException", .type "object"] "ValueError.__new__" = true)
    (to_Twice : Told K (Ec.mk c_BadName c_Twice c_NoOwner c_NoPart c_NoVoyage c_BadNumber c_TooMuch c_BadRows c_NoDeed c_BadPaper c_JettisonError) c_Twice 1) (ox_Twice : PySem.W.excIn K c_Twice [.type "ValueError", .type "Exception", .type "BaseException", .type "object"] "ValueError.__new__" = true)
    : ∃ fd : FuncData, (∀ (s : Shared) (v : Value), BindsTo s fd ⟨[v], []⟩ [("_law_script", v)]) ∧ ∀ base : Heap, K.In base → base.Ns mainGlobals mg → FnOk l.prog w K mg base CX0 8 fa fd ["_law_script"] (spLaw K) := by
  have e := hfa.symm.trans (PySem.W.mg_of X G a)
  cases e
  have F_law := at_mk (st := sd_law) X G a l1 c k
  obtain ⟨_, _, F_made_of⟩ := d_made_of.at X G
  obtain ⟨_, _, F_is_name⟩ := d_is_name.at X G
  obtain ⟨_, _, F__law_draw⟩ := d__law_draw.at X G
  obtain ⟨_, _, F__law_name⟩ := d__law_name.at X G
  obtain ⟨_, _, F__law_many_names⟩ := d__law_many_names.at X G
  obtain ⟨_, _, F__law_hold_do⟩ := d__law_hold_do.at X G
  obtain ⟨_, _, F__law_tried⟩ := d__law_tried.at X G
  obtain ⟨_, _, F__law_hot⟩ := d__law_hot.at X G
  obtain ⟨_, _, F__law_is_name⟩ := d__law_is_name.at X G
  obtain ⟨_, _, F__law_int⟩ := d__law_int.at X G
  have m_len := PySem.W.mg_none_of X G z_len
  have m_range := PySem.W.mg_none_of X G z_range
  have m_sum := PySem.W.mg_none_of X G z_sum
  have m_list := PySem.W.mg_none_of X G z_list
  have m_zip := PySem.W.mg_none_of X G z_zip
  have m_all := PySem.W.mg_none_of X G z_all
  have m_int := PySem.W.mg_none_of X G z_int
  have m_bool := PySem.W.mg_none_of X G z_bool
  have m_str := PySem.W.mg_none_of X G z_str
  have m_tuple := PySem.W.mg_none_of X G z_tuple
  have m_abs := PySem.W.mg_none_of X G z_abs
  have m_isinstance := PySem.W.mg_none_of X G z_isinstance
  have m_ValueError := PySem.W.mg_none_of X G z_ValueError
  have m_LETTERS := PySem.W.mg_of X G b_LETTERS
  obtain ⟨_, _, F_Hold_init⟩ := d_Hold_init.made X G aC_Hold mk_Hold kc_Hold
  obtain ⟨_, _, F_Hold_sign⟩ := d_Hold_sign.at ⟨pg_Hold, hd_Hold, po_Hold, sa_Hold⟩
  obtain ⟨_, _, F_Hold_roster⟩ := d_Hold_roster.at ⟨pg_Hold, hd_Hold, po_Hold, sa_Hold⟩
  obtain ⟨_, _, F_Hold_parts⟩ := d_Hold_parts.at ⟨pg_Hold, hd_Hold, po_Hold, sa_Hold⟩
  obtain ⟨_, _, F_Hold_whole⟩ := d_Hold_whole.at ⟨pg_Hold, hd_Hold, po_Hold, sa_Hold⟩
  obtain ⟨_, _, F_Hold_landed⟩ := d_Hold_landed.at ⟨pg_Hold, hd_Hold, po_Hold, sa_Hold⟩
  obtain ⟨_, _, F_Bottom_init⟩ := d_Bottom_init.made X G aC_Bottom mk_Bottom kc_Bottom
  have TX : Txt K ⟨C_Hold, C_Part, C_Bottom⟩ := ⟨⟨pg_Hold, hd_Hold, po_Hold, sa_Hold⟩, ⟨pg_Part, hd_Part, po_Part, sa_Part⟩, ⟨pg_Bottom, hd_Bottom, po_Bottom, sa_Bottom⟩, n_Hold_places, n_Hold_aboard, n_Hold_ashore, n_Hold_names, n_Hold_bottom, n_Hold_common, n_Hold_purses, n_Part_name, n_Part_owner, n_Part_worth, n_Part_weight, n_Part_scale, n_Part_row, n_Bottom_steps, n_Bottom_product, n_Bottom_known⟩
  have m_BadName := PySem.W.mg_of X G bE_BadName
  have m_Twice := PySem.W.mg_of X G bE_Twice
  have m_NoOwner := PySem.W.mg_of X G bE_NoOwner
  have m_NoPart := PySem.W.mg_of X G bE_NoPart
  have m_NoVoyage := PySem.W.mg_of X G bE_NoVoyage
  have m_BadNumber := PySem.W.mg_of X G bE_BadNumber
  have m_TooMuch := PySem.W.mg_of X G bE_TooMuch
  have m_BadRows := PySem.W.mg_of X G bE_BadRows
  have m_NoDeed := PySem.W.mg_of X G bE_NoDeed
  have m_BadPaper := PySem.W.mg_of X G bE_BadPaper
  have m_JettisonError := PySem.W.mg_of X G bE_JettisonError
  have oc_BadName := OwnExc.of ox_BadName
  have oc_Twice := OwnExc.of ox_Twice
  refine ⟨PySem.W.fnOf "law" "law" (defArgs sd_law) (defBody sd_law) (defScope sd_law) .none kV dc pm an cd ct, fun s v => .of_eq rfl, fun base _ _ => ?_⟩
  have D_made_of := ok_made_of (P := l.prog) (w := w) (base := base) (mg := mg) F_made_of m_all
  have D_is_name := ok_is_name F_is_name D_made_of m_len m_LETTERS
  have D_Bottom := ok_Bottom_init (P := l.prog) (w := w) (base := base) (mg := mg) (T := ⟨C_Hold, C_Part, C_Bottom⟩) F_Bottom_init TX
  have D_Hold := ok_Hold_init (T := ⟨C_Hold, C_Part, C_Bottom⟩) F_Hold_init TX D_Bottom
  have D_Hold_roster := ok_Hold_roster (P := l.prog) (w := w) (base := base) (mg := mg) (T := ⟨C_Hold, C_Part, C_Bottom⟩) F_Hold_roster TX m_list
  have D_Hold_parts := ok_Hold_parts (P := l.prog) (w := w) (base := base) (mg := mg) (T := ⟨C_Hold, C_Part, C_Bottom⟩) F_Hold_parts TX
  have D_Hold_whole := ok_Hold_whole (P := l.prog) (w := w) (base := base) (mg := mg) (T := ⟨C_Hold, C_Part, C_Bottom⟩) F_Hold_whole TX m_sum
  have D_Hold_landed := ok_Hold_landed (P := l.prog) (w := w) (base := base) (mg := mg) (T := ⟨C_Hold, C_Part, C_Bottom⟩) F_Hold_landed TX m_list
  have DX_Hold_sign := okX_Hold_sign (T := ⟨C_Hold, C_Part, C_Bottom⟩) (e := ⟨c_BadName, c_Twice, c_NoOwner, c_NoPart, c_NoVoyage, c_BadNumber, c_TooMuch, c_BadRows, c_NoDeed, c_BadPaper, c_JettisonError⟩) F_Hold_sign TX D_is_name m_len oc_BadName m_BadName oc_Twice m_Twice
  have D__law_draw := ok__law_draw (P := l.prog) (w := w) (base := base) (mg := mg) F__law_draw m_len m_range
  have D__law_name := ok__law_name (P := l.prog) (w := w) (base := base) (mg := mg) F__law_name m_range
  have D__law_many_names := ok__law_many_names F__law_many_names D__law_draw D__law_name m_range
  have D__law_int := ok__law_int (P := l.prog) (w := w) (base := base) (mg := mg) F__law_int m_isinstance m_int m_bool
  have D__law_is_name := ok__law_is_name (P := l.prog) (w := w) (base := base) (mg := mg) F__law_is_name m_len
  have D__law_hot := ok__law_hot (P := l.prog) (w := w) (base := base) (mg := mg) F__law_hot m_range
  have DX__law_hold_do := ok__law_hold_do F__law_hold_do DX_Hold_sign
  have to_all : ∀ st d i, al15 st d → refS st d = some i → Told K (Ec.mk c_BadName c_Twice c_NoOwner c_NoPart c_NoVoyage c_BadNumber c_TooMuch c_BadRows c_NoDeed c_BadPaper c_JettisonError) ((Ec.mk c_BadName c_Twice c_NoOwner c_NoPart c_NoVoyage c_BadNumber c_TooMuch c_BadRows c_NoDeed c_BadPaper c_JettisonError).at i) i := fun st d i ha hr => al15_told to_BadName to_Twice ha hr
  have D__law_tried := ok__law_tried F__law_tried DX__law_hold_do to_all m_isinstance m_ValueError m_BadName m_Twice m_NoOwner m_NoPart m_NoVoyage m_BadNumber m_TooMuch m_BadRows m_NoDeed m_BadPaper m_JettisonError
  exact ok_law (T := ⟨C_Hold, C_Part, C_Bottom⟩) F_law D__law_draw D__law_many_names D__law_is_name D__law_hot D__law_tried D__law_int D_Hold D_Hold_roster D_Hold_parts D_Hold_whole D_Hold_landed m_len m_range m_isinstance m_list
theorem walk {l : PySem.W.OpenLaw} {q : Program} {loose : List Str} {XP : (Str → Option Value) → Heap → Prop} {YP : World → Heap → Prop} {d : DefRec} {K : Params → PySem.W.Frag} (hn : l.most = some 63) (hdf : d.params.defaults = [])
    (hY : ∀ (w : World) (h : Heap), YP w h → (K w.params).In h)
    (F : ∀ (w : World) (mg : Str → Option Value) (fa : Addr) (h : Heap), (K w.params).In h → h.Ns mainGlobals mg → mg d.name = some (.ref fa) →
      ∃ fd : FuncData, (∀ (s : Shared) (u : Value), BindsTo s fd ⟨[u], []⟩ [("_law_script", u)]) ∧ ∀ base : Heap, (K w.params).In base → base.Ns mainGlobals mg → FnOk l.prog w (K w.params) mg base CX0 8 fa fd ["_law_script"] (spLaw (K w.params))) :
    PySem.W.WalkO q loose XP YP l.row.toRowW d [] (fun f vs => PySem.call f vs) :=
  L2.walk_of (n := 63) (k := 8) (x := "_law_script") (CX := fun _ => CX0) (sp := fun w => spLaw (K w.params)) hn (by decide) hdf ⟨rfl, by decide, by decide⟩ hY F (fun _ _ a ns hl _ hS => ⟨a, ns, rfl, hS, hl, fun _ => rfl⟩) fun _ _ _ _ _ z => z
end Law
namespace PySem.W.Fast
theorem tw16812201939073148553 : True := ⟨⟩
theorem tw7397402132985398464 : True := ⟨⟩
theorem tw2707993193258973823 : True := ⟨⟩
theorem tw8287086769774972278 : True := ⟨⟩
theorem tw15714257525963071373 : True := ⟨⟩
theorem tw17641548358931481413 : True := ⟨⟩
theorem tw11342755543771447063 : True := ⟨⟩
theorem tw8069564532761048540 : True := ⟨⟩
theorem tw7880043264279098079 : True := ⟨⟩
theorem tw8877268490568846075 : True := ⟨⟩
theorem tw697043104967470210 : True := ⟨⟩
theorem tw5500273857234955753 : True := ⟨⟩
theorem tw16805032212710741515 : True := ⟨⟩
theorem tw12786203669653342011 : True := ⟨⟩
theorem tw16773575647226235282 : True := ⟨⟩
theorem tw12654453047354549661 : True := ⟨⟩
theorem tw5978281108303837611 : True := ⟨⟩
theorem tw15898376931456744894 : True := ⟨⟩
theorem tw12941196247766623867 : True := ⟨⟩
theorem tw15859230186150563259 : True := ⟨⟩
theorem tw10377815133789631521 : True := ⟨⟩
theorem tw16400111818388765405 : True := ⟨⟩
theorem tw16663994231357186621 : True := ⟨⟩
theorem tw2795719541296952845 : True := ⟨⟩
theorem tw7733649504161282389 : True := ⟨⟩
theorem tw5840960981577886218 : True := ⟨⟩
theorem tw7839986012239386111 : True := ⟨⟩
theorem tw9718991910143276959 : True := ⟨⟩
theorem tw16184322665329764457 : True := ⟨⟩
theorem tw4769955357182245088 : True := ⟨⟩
theorem tw5971372146548766907 : True := ⟨⟩
theorem tw10597160305817805211 : True := ⟨⟩
theorem tw11362950000125902210 : True := ⟨⟩
theorem tw8793145015223949627 : True := ⟨⟩
theorem tw2616196682614871186 : True := ⟨⟩
theorem tw3229256008996007412 : True := ⟨⟩
theorem tw13248118706099794626 : True := ⟨⟩
theorem tw6413621286665574644 : True := ⟨⟩
theorem tw11432195255229305979 : True := ⟨⟩
theorem tw15789344251715386129 : True := ⟨⟩
theorem tw18163783078339544599 : True := ⟨⟩
theorem tw8380088844206884148 : True := ⟨⟩
theorem tw12971846628390433344 : True := ⟨⟩
theorem tw13379497176373894971 : True := ⟨⟩
theorem tw11131384646324117946 : True := ⟨⟩
theorem tw169390704685961081 : True := ⟨⟩
theorem tw11313170204360208709 : True := ⟨⟩
theorem tw1346005809139015690 : True := ⟨⟩
theorem tw12788658340668095819 : True := ⟨⟩
theorem tw5661009830977476898 : True := ⟨⟩
theorem tw12466941131279471911 : True := ⟨⟩
theorem tw10554050953641518272 : True := ⟨⟩
theorem tw6129742840819218527 : True := ⟨⟩
theorem tw14897909905843785774 : True := ⟨⟩
theorem tw14837055380815657501 : True := ⟨⟩
theorem tw17989876344093306020 : True := ⟨⟩
theorem tw14600947893336257106 : True := ⟨⟩
theorem tw13131933164973935083 : True := ⟨⟩
theorem tw5048752738168974069 : True := ⟨⟩
theorem tw11686619389894304992 : True := ⟨⟩
theorem tw9326380273231218136 : True := ⟨⟩
theorem tw225517011259025897 : True := ⟨⟩
theorem tw15960013837703768569 : True := ⟨⟩
theorem tw8744337641205732226 : True := ⟨⟩
theorem tw17402953849146777549 : True := ⟨⟩
theorem tw16380756510871712798 : True := ⟨⟩
theorem tw15033739011289060668 : True := ⟨⟩
theorem tw16623367820057836554 : True := ⟨⟩
theorem tw12978852882673782638 : True := ⟨⟩
theorem tw12942275508921612990 : True := ⟨⟩
theorem tw6333655455066072157 : True := ⟨⟩
theorem tw11080517576121785968 : True := ⟨⟩
theorem tw16836407236983188392 : True := ⟨⟩
theorem tw9788833176239904383 : True := ⟨⟩
theorem tw10091309764487253487 : True := ⟨⟩
theorem tw14196316968444803616 : True := ⟨⟩
theorem tw10402053968729395776 : True := ⟨⟩
theorem tw8792353980492232386 : True := ⟨⟩
theorem tw11378948036347369946 : True := ⟨⟩
theorem tw12654811949318924725 : True := ⟨⟩
theorem tw13944522583157088907 : True := ⟨⟩
theorem tw9118333980000419314 : True := ⟨⟩
theorem tw495411138309335868 : True := ⟨⟩
theorem tw18307909640587564595 : True := ⟨⟩
theorem tw16390323483271337853 : True := ⟨⟩
theorem tw4307787370379110018 : True := ⟨⟩
theorem tw3835389386036461765 : True := ⟨⟩
theorem tw2719614982992351531 : True := ⟨⟩
theorem tw5832841292088362398 : True := ⟨⟩
theorem tw2829697883694396501 : True := ⟨⟩
theorem tw6581185273479671470 : True := ⟨⟩
theorem tw14450640214253716718 : True := ⟨⟩
theorem tw5725303911531662867 : True := ⟨⟩
theorem tw5967502541684042063 : True := ⟨⟩
theorem tw15093319993090162902 : True := ⟨⟩
theorem tw2728518557408212510 : True := ⟨⟩
theorem tw6917258855370589087 : True := ⟨⟩
theorem tw12609514070193662295 : True := ⟨⟩
theorem tw2504139775943120494 : True := ⟨⟩
theorem tw1817528983687190241 : True := ⟨⟩
theorem tw7888235159768752114 : True := ⟨⟩
theorem tw7308468910736691743 : True := ⟨⟩
theorem tw5450218645660544265 : True := ⟨⟩
theorem tw15831593272531713759 : True := ⟨⟩
theorem tw10724098493053518037 : True := ⟨⟩
theorem tw12906969932572365953 : True := ⟨⟩
theorem tw14189288156683078914 : True := ⟨⟩
theorem tw15505254774582170848 : True := ⟨⟩
theorem tw10270978435835710807 : True := ⟨⟩
theorem tw13235650399459768639 : True := ⟨⟩
theorem tw2207805665024746321 : True := ⟨⟩
theorem tw2581520354171306149 : True := ⟨⟩
theorem tw14692703470551612466 : True := ⟨⟩
theorem tw10610579536822538272 : True := ⟨⟩
theorem tw350627071083930648 : True := ⟨⟩
theorem tw10883705440086080776 : True := ⟨⟩
theorem tw17165052080418938912 : True := ⟨⟩
theorem tw4901219282471129813 : True := ⟨⟩
theorem tw15399277532437088484 : True := ⟨⟩
theorem tw15996053752378136941 : True := ⟨⟩
theorem tw16959173874953435042 : True := ⟨⟩
theorem tw14441006028052527517 : True := ⟨⟩
theorem tw1758199845689315163 : True := ⟨⟩
theorem tw13736147437059571002 : True := ⟨⟩
theorem tw14650362745810951990 : True := ⟨⟩
theorem tw265690629145346739 : True := ⟨⟩
theorem tw12857701725449781483 : True := ⟨⟩
theorem tw13142465670971210709 : True := ⟨⟩
theorem tw17697351541415316616 : True := ⟨⟩
theorem tw5567928808488291576 : True := ⟨⟩
theorem tw5952317410122119919 : True := ⟨⟩
theorem tw14142575454173128509 : True := ⟨⟩
theorem tw8961794845338625696 : True := ⟨⟩
theorem tw2940309292376674315 : True := ⟨⟩
theorem tw18362805517946940610 : True := ⟨⟩
theorem tw4477972313400278155 : True := ⟨⟩
theorem tw8571457514673669324 : True := ⟨⟩
theorem tw9770350001748860838 : True := ⟨⟩
theorem tw18041351025138165724 : True := ⟨⟩
theorem tw3637727627935421433 : True := ⟨⟩
theorem tw9848823006714436046 : True := ⟨⟩
theorem tw885347420187116891 : True := ⟨⟩
theorem tw3621001292817169680 : True := ⟨⟩
theorem tw12122513860000407989 : True := ⟨⟩
theorem tw6992995941771160549 : True := ⟨⟩
theorem tw11005066700577570255 : True := ⟨⟩
theorem tw10625587194621423094 : True := ⟨⟩
theorem tw10052650483381587534 : True := ⟨⟩
theorem tw4532989553615381520 : True := ⟨⟩
theorem tw6113314316170575353 : True := ⟨⟩
theorem tw13498057074376861326 : True := ⟨⟩
theorem tw6025868395890064922 : True := ⟨⟩
theorem tw5959979372189232865 : True := ⟨⟩
theorem tw17670492257612111472 : True := ⟨⟩
theorem tw13910670609829081411 : True := ⟨⟩
theorem tw16563277123246452269 : True := ⟨⟩
theorem tw447176518728513037 : True := ⟨⟩
theorem tw6728758507743695074 : True := ⟨⟩
theorem tw5085443958330755994 : True := ⟨⟩
theorem tw4704152980814901345 : True := ⟨⟩
theorem tw5193302199208369404 : True := ⟨⟩
theorem tw16178243837101496468 : True := ⟨⟩
theorem tw8929544256311854378 : True := ⟨⟩
theorem tw66316927750386787 : True := ⟨⟩
theorem tw14237094387079592872 : True := ⟨⟩
theorem tw5637023806098805664 : True := ⟨⟩
theorem tw17195884351729107434 : True := ⟨⟩
theorem tw2195723790486543923 : True := ⟨⟩
theorem tw526891502694693884 : True := ⟨⟩
theorem tw17159925516270953974 : True := ⟨⟩
theorem tw4838241942958294063 : True := ⟨⟩
theorem tw12489364408928531520 : True := ⟨⟩
theorem tw2764262419395689824 : True := ⟨⟩
theorem tw8624846890933899588 : True := ⟨⟩
theorem tw17114985191989218188 : True := ⟨⟩
theorem tw452842551230259826 : True := ⟨⟩
theorem tw9098531225983822962 : True := ⟨⟩
theorem tw3792444873078631252 : True := ⟨⟩
theorem tw4312912677370789306 : True := ⟨⟩
theorem tw6168710093263008066 : True := ⟨⟩
theorem tw15127164964683358325 : True := ⟨⟩
theorem tw5318258759312800428 : True := ⟨⟩
theorem tw3625551218843024954 : True := ⟨⟩
theorem tw11280215331038178021 : True := ⟨⟩
theorem tw16581537208280591334 : True := ⟨⟩
theorem tw1358431229798542525 : True := ⟨⟩
theorem tw2737692343454161545 : True := ⟨⟩
theorem tw5756391997412425436 : True := ⟨⟩
theorem tw7457240103244247138 : True := ⟨⟩
theorem tw17751069425226086018 : True := ⟨⟩
theorem tw2722096688456310320 : True := ⟨⟩
theorem tw1514435074449914060 : True := ⟨⟩
theorem tw702953080752354732 : True := ⟨⟩
theorem tw6742017973324861405 : True := ⟨⟩
theorem tw15805400090185069310 : True := ⟨⟩
theorem tw7856398140961879742 : True := ⟨⟩
theorem tw7039338666665292045 : True := ⟨⟩
theorem tw9011972987007691204 : True := ⟨⟩
theorem tw11059544255327822191 : True := ⟨⟩
theorem tw7974498623332905458 : True := ⟨⟩
theorem tw136098777159874867 : True := ⟨⟩
theorem tw9733103731697646422 : True := ⟨⟩
theorem tw15021538781465490487 : True := ⟨⟩
theorem tw17703506717193731904 : True := ⟨⟩
theorem tw1540406805070930769 : True := ⟨⟩
theorem tw8071295276911441322 : True := ⟨⟩
theorem tw215115734082489417 : True := ⟨⟩
theorem tw5696922579051659086 : True := ⟨⟩
theorem tw8500930599127702455 : True := ⟨⟩
theorem tw15397863400520079375 : True := ⟨⟩
theorem tw10611319661346741704 : True := ⟨⟩
theorem tw7811606799411528454 : True := ⟨⟩
theorem tw5207007877330240189 : True := ⟨⟩
theorem tw12350673838754660954 : True := ⟨⟩
theorem tw16061139086744233401 : True := ⟨⟩
theorem tw14254535048027617446 : True := ⟨⟩
theorem tw10571835812509312038 : True := ⟨⟩
theorem tw17279444800500329505 : True := ⟨⟩
theorem tw16396240585288642558 : True := ⟨⟩
theorem tw2511071017073345836 : True := ⟨⟩
theorem tw12721662035749793854 : True := ⟨⟩
theorem tw7111550369965148048 : True := ⟨⟩
theorem tw9602580096203640572 : True := ⟨⟩
theorem tw11961790555388764168 : True := ⟨⟩
theorem tw15469214892585477110 : True := ⟨⟩
theorem tw3389844240210470457 : True := ⟨⟩
theorem tw17446482552058886968 : True := ⟨⟩
theorem tw2371822203480170405 : True := ⟨⟩
theorem tw6150409209925838785 : True := ⟨⟩
theorem tw16945202531716519586 : True := ⟨⟩
theorem tw4995904227116082235 : True := ⟨⟩
theorem tw17957041187500172280 : True := ⟨⟩
theorem tw12717114031445879677 : True := ⟨⟩
theorem tw12444639821565203165 : True := ⟨⟩
theorem tw2710700496999839209 : True := ⟨⟩
theorem tw16368401000536920414 : True := ⟨⟩
theorem tw10223447834472290352 : True := ⟨⟩
theorem tw8867268605651008566 : True := ⟨⟩
theorem tw18112957707565259769 : True := ⟨⟩
theorem tw13407312345913847000 : True := ⟨⟩
theorem tw10370221846555608190 : True := ⟨⟩
theorem tw1624082071743894743 : True := ⟨⟩
theorem tw8870856665352203123 : True := ⟨⟩
theorem tw11343122300731945616 : True := ⟨⟩
theorem tw17033405935793953092 : True := ⟨⟩
theorem tw15753577562940492755 : True := ⟨⟩
theorem tw1370419965715157873 : True := ⟨⟩
theorem tw5696332766091798315 : True := ⟨⟩
theorem tw1945791212414029914 : True := ⟨⟩
theorem tw12931332024620312928 : True := ⟨⟩
theorem tw10762118827364783360 : True := ⟨⟩
theorem tw14239930984360893492 : True := ⟨⟩
theorem tw13099392196282031245 : True := ⟨⟩
theorem tw9807003996191271965 : True := ⟨⟩
theorem tw440803557866334611 : True := ⟨⟩
theorem tw14461119891141004788 : True := ⟨⟩
theorem tw18363773446096839586 : True := ⟨⟩
theorem tw7470122322759328001 : True := ⟨⟩
theorem tw16917168439260199964 : True := ⟨⟩
theorem tw12377702757444115742 : True := ⟨⟩
theorem tw11026360896402691661 : True := ⟨⟩
theorem tw13686951317573712562 : True := ⟨⟩
theorem tw329491967377317785 : True := ⟨⟩
theorem tw6498850514506965457 : True := ⟨⟩
theorem tw5406714920173555849 : True := ⟨⟩
theorem tw3601535485728553264 : True := ⟨⟩
theorem tw1010448031662370197 : True := ⟨⟩
theorem tw14950213347713789100 : True := ⟨⟩
theorem tw9746402540458339811 : True := ⟨⟩
theorem tw16642371940440831578 : True := ⟨⟩
theorem tw6247661745062303732 : True := ⟨⟩
theorem tw3842015413180242259 : True := ⟨⟩
theorem tw5466009306393209269 : True := ⟨⟩
theorem tw7216251174796332792 : True := ⟨⟩
theorem tw3974579018690810129 : True := ⟨⟩
theorem tw6917201298531179086 : True := ⟨⟩
theorem tw9802084696820992628 : True := ⟨⟩
theorem tw481269456495833437 : True := ⟨⟩
theorem tw7510528046060181135 : True := ⟨⟩
theorem tw6547109271688950839 : True := ⟨⟩
theorem tw9678754406197502292 : True := ⟨⟩
theorem tw1528256222543778046 : True := ⟨⟩
theorem tw6427714536515051332 : True := ⟨⟩
theorem tw4651444628900451442 : True := ⟨⟩
theorem tw5744615153866255580 : True := ⟨⟩
theorem tw15125153326296081909 : True := ⟨⟩
theorem tw17046302257160420581 : True := ⟨⟩
theorem tw15380731127384778982 : True := ⟨⟩
theorem tw3828410169746012999 : True := ⟨⟩
theorem tw18444571246037764924 : True := ⟨⟩
theorem tw5151124425308042028 : True := ⟨⟩
theorem tw3255116528131615356 : True := ⟨⟩
theorem tw1339448917151684106 : True := ⟨⟩
theorem tw1110055588620697768 : True := ⟨⟩
theorem tw10693133613784262729 : True := ⟨⟩
theorem tw15709996952063554166 : True := ⟨⟩
theorem tw12828889081965802974 : True := ⟨⟩
theorem tw13505159675978378081 : True := ⟨⟩
theorem tw3957076151459018797 : True := ⟨⟩
theorem tw1412567768874859095 : True := ⟨⟩
theorem tw636339109985812619 : True := ⟨⟩
theorem tw7282216201578678714 : True := ⟨⟩
theorem tw14340505276814796808 : True := ⟨⟩
theorem tw6196133051187289061 : True := ⟨⟩
theorem tw11562129811629757832 : True := ⟨⟩
theorem tw1820429813798094179 : True := ⟨⟩
theorem tw3771398169946564513 : True := ⟨⟩
theorem tw14901474026343910629 : True := ⟨⟩
theorem tw13210322450696826365 : True := ⟨⟩
theorem tw6686107063885316790 : True := ⟨⟩
theorem tw2810002598360099571 : True := ⟨⟩
theorem tw16213700868226215245 : True := ⟨⟩
theorem tw6807935682420341225 : True := ⟨⟩
theorem tw2978123659959185098 : True := ⟨⟩
theorem tw255046969219831120 : True := ⟨⟩
theorem tw3597072884903962005 : True := ⟨⟩
theorem tw7215880343198142330 : True := ⟨⟩
theorem tw13465851268950709965 : True := ⟨⟩
theorem tw13253624243603927167 : True := ⟨⟩
theorem tw718543143649935614 : True := ⟨⟩
theorem tw3732229140469500661 : True := ⟨⟩
theorem tw11908587956535941290 : True := ⟨⟩
theorem tw4551387116466754036 : True := ⟨⟩
theorem tw9492630677030583290 : True := ⟨⟩
theorem tw2525572865861245106 : True := ⟨⟩
theorem tw9859249322119673008 : True := ⟨⟩
theorem tw5446262514361544878 : True := ⟨⟩
theorem tw9020135710078667604 : True := ⟨⟩
theorem tw17537809660243610933 : True := ⟨⟩
theorem tw1968770436339235327 : True := ⟨⟩
theorem tw15865033966196543805 : True := ⟨⟩
theorem tw12946730019400535489 : True := ⟨⟩
theorem tw6142234346210759187 : True := ⟨⟩
theorem tw8225953903944237543 : True := ⟨⟩
theorem tw16261778230983526525 : True := ⟨⟩
theorem tw8372800148971157205 : True := ⟨⟩
theorem tw13526026224942190487 : True := ⟨⟩
theorem tw1320984934421602693 : True := ⟨⟩
theorem tw4995092826535388080 : True := ⟨⟩
theorem tw13127961745246717911 : True := ⟨⟩
theorem tw3144140835332884939 : True := ⟨⟩
theorem tw17315696035982148949 : True := ⟨⟩
theorem tw8168565805620905439 : True := ⟨⟩
theorem tw11168711496197180311 : True := ⟨⟩
theorem tw15816625631093545439 : True := ⟨⟩
theorem tw15649699474505601802 : True := ⟨⟩
theorem tw9136604369318797839 : True := ⟨⟩
theorem tw8418012871552984495 : True := ⟨⟩
theorem tw12706470831443570780 : True := ⟨⟩
theorem tw1964781949964247566 : True := ⟨⟩
theorem tw11041393493789425415 : True := ⟨⟩
theorem tw17599900228464276568 : True := ⟨⟩
theorem tw12322529512597279294 : True := ⟨⟩
theorem tw11263156359899369222 : True := ⟨⟩
theorem tw6187061544126998622 : True := ⟨⟩
theorem tw16747654450475998691 : True := ⟨⟩
theorem tw530476749027517378 : True := ⟨⟩
theorem tw9810836215591624488 : True := ⟨⟩
theorem tw6464362021337804919 : True := ⟨⟩
theorem tw16188463483801907037 : True := ⟨⟩
theorem tw1016589014830104530 : True := ⟨⟩
theorem tw1649724782559997116 : True := ⟨⟩
theorem tw3903189472936655098 : True := ⟨⟩
theorem tw6512761978492005240 : True := ⟨⟩
theorem tw9518444973762949416 : True := ⟨⟩
theorem tw2508249222765178078 : True := ⟨⟩
theorem tw9371157824250616964 : True := ⟨⟩
theorem tw9976894957317699243 : True := ⟨⟩
theorem tw7444698609813529019 : True := ⟨⟩
theorem tw4240932810042575465 : True := ⟨⟩
theorem tw17260458768011923616 : True := ⟨⟩
theorem tw161270019757797929 : True := ⟨⟩
theorem tw2636750099259374104 : True := ⟨⟩
theorem tw15967410103866962003 : True := ⟨⟩
theorem tw14231277820366959907 : True := ⟨⟩
theorem tw758759530518539019 : True := ⟨⟩
theorem tw7974698747943742088 : True := ⟨⟩
theorem tw10290758492043034866 : True := ⟨⟩
theorem tw4125169861676790354 : True := ⟨⟩
theorem tw1435598254305699766 : True := ⟨⟩
theorem tw13217098574613019342 : True := ⟨⟩
theorem tw5872373638376223811 : True := ⟨⟩
theorem tw17193834351252810554 : True := ⟨⟩
theorem tw9539846277871740455 : True := ⟨⟩
theorem tw18254573653978135539 : True := ⟨⟩
theorem tw939885116629154387 : True := ⟨⟩
theorem tw2535712324574508736 : True := ⟨⟩
theorem tw16098717192821133839 : True := ⟨⟩
theorem tw11621852969681766023 : True := ⟨⟩
theorem tw16957881992405239943 : True := ⟨⟩
theorem tw11064061897974400026 : True := ⟨⟩
theorem tw18173058165784125315 : True := ⟨⟩
theorem tw7350905040555633146 : True := ⟨⟩
theorem tw9928786554222958295 : True := ⟨⟩
theorem tw1066979233014210886 : True := ⟨⟩
theorem tw6314162948656857251 : True := ⟨⟩
theorem tw9730189944787252388 : True := ⟨⟩
theorem tw14657280699767778224 : True := ⟨⟩
theorem tw1471541891555299604 : True := ⟨⟩
theorem tw11551821107051015725 : True := ⟨⟩
theorem tw12866804536556860588 : True := ⟨⟩
theorem tw3030146921611488121 : True := ⟨⟩
theorem tw6554566522102746927 : True := ⟨⟩
theorem tw5970059242273100735 : True := ⟨⟩
theorem tw635187354833422605 : True := ⟨⟩
theorem tw10682763894202051475 : True := ⟨⟩
theorem tw18123018944608370542 : True := ⟨⟩
theorem tw8596940151602154176 : True := ⟨⟩
theorem tw592112732615989011 : True := ⟨⟩
theorem tw12316315977045712586 : True := ⟨⟩
theorem tw12389001727008289016 : True := ⟨⟩
theorem tw12480236027244533022 : True := ⟨⟩
theorem tw13986481156617836193 : True := ⟨⟩
theorem tw769820677709881236 : True := ⟨⟩
theorem tw13399760048614464640 : True := ⟨⟩
theorem tw11493717888555519441 : True := ⟨⟩
theorem tw5113128254800742137 : True := ⟨⟩
theorem tw230485483362638210 : True := ⟨⟩
theorem tw331177726183966256 : True := ⟨⟩
theorem tw14129062961648428553 : True := ⟨⟩
theorem tw8710178215844049833 : True := ⟨⟩
theorem tw6544604451727729044 : True := ⟨⟩
theorem tw11996244165224922832 : True := ⟨⟩
theorem tw7326633734295582903 : True := ⟨⟩
theorem tw12689258959919624690 : True := ⟨⟩
theorem tw1384928820511479410 : True := ⟨⟩
theorem tw3119542358955315144 : True := ⟨⟩
theorem tw14472033452064850739 : True := ⟨⟩
theorem tw11226653797605447762 : True := ⟨⟩
theorem tw12676344171640112080 : True := ⟨⟩
theorem tw13147822651486768230 : True := ⟨⟩
theorem tw2688048919429509914 : True := ⟨⟩
theorem tw16131907493858605815 : True := ⟨⟩
theorem tw8479508368550226985 : True := ⟨⟩
theorem tw17044799098184997684 : True := ⟨⟩
theorem tw11866246271638530019 : True := ⟨⟩
theorem tw15856765920288822355 : True := ⟨⟩
theorem tw13288221453053637604 : True := ⟨⟩
theorem tw9637130954574405193 : True := ⟨⟩
theorem tw9289851827869484286 : True := ⟨⟩
theorem tw13408635947504735780 : True := ⟨⟩
theorem tw11086447968292229108 : True := ⟨⟩
theorem tw12680811631950592560 : True := ⟨⟩
theorem tw5473952164580250549 : True := ⟨⟩
theorem tw15562998265882522720 : True := ⟨⟩
theorem tw9019253563361500680 : True := ⟨⟩
theorem tw16253743842772388940 : True := ⟨⟩
theorem tw16335341559108891332 : True := ⟨⟩
theorem tw3266263232703707025 : True := ⟨⟩
theorem tw11070560690958497272 : True := ⟨⟩
theorem tw561077816442165249 : True := ⟨⟩
theorem tw1425864662884679128 : True := ⟨⟩
theorem tw8576660625050597835 : True := ⟨⟩
theorem tw17943895599098469020 : True := ⟨⟩
theorem tw12785263661027167911 : True := ⟨⟩
theorem tw17414853844969776801 : True := ⟨⟩
theorem tw4773279249930039607 : True := ⟨⟩
theorem tw1523705612646388482 : True := ⟨⟩
theorem tw4447111430008204349 : True := ⟨⟩
theorem tw14405662288980271559 : True := ⟨⟩
theorem tw3438306746260799573 : True := ⟨⟩
theorem tw12026285615888803481 : True := ⟨⟩
theorem tw12783341706639902243 : True := ⟨⟩
theorem tw6682802003281902571 : True := ⟨⟩
theorem tw12854480293585567226 : True := ⟨⟩
theorem tw13656799596636752987 : True := ⟨⟩
theorem tw419259569153223995 : True := ⟨⟩
theorem tw6330221473509658581 : True := ⟨⟩
theorem tw14381297984118123780 : True := ⟨⟩
theorem tw17108642086327193786 : True := ⟨⟩
theorem tw312418121752469306 : True := ⟨⟩
theorem tw11089868244530617100 : True := ⟨⟩
theorem tw14235019831266576565 : True := ⟨⟩
theorem tw14132501767217060511 : True := ⟨⟩
theorem tw907320573818682494 : True := ⟨⟩
theorem tw15343575155265922254 : True := ⟨⟩
theorem tw15763178011316184485 : True := ⟨⟩
theorem tw11387803844302349460 : True := ⟨⟩
theorem tw6032143325254695317 : True := ⟨⟩
theorem tw4190060375273691817 : True := ⟨⟩
theorem tw4413688431345638023 : True := ⟨⟩
theorem tw11003458537319107766 : True := ⟨⟩
theorem tw7405951759569162725 : True := ⟨⟩
theorem tw2358089451575182406 : True := ⟨⟩
theorem tw8994346541099704625 : True := ⟨⟩
theorem tw13089936975634611157 : True := ⟨⟩
theorem tw6740228741582392 : True := ⟨⟩
theorem tw5694339044026383716 : True := ⟨⟩
theorem tw6901829941273205684 : True := ⟨⟩
theorem tw15518251315862450548 : True := ⟨⟩
theorem tw6372193465051392609 : True := ⟨⟩
theorem tw12591971267059241202 : True := ⟨⟩
theorem tw4734162632861901982 : True := ⟨⟩
theorem tw13616988581172901151 : True := ⟨⟩
theorem tw9906517652103571836 : True := ⟨⟩
theorem tw8786862584452757782 : True := ⟨⟩
theorem tw8030872805748251794 : True := ⟨⟩
theorem tw9414151134002893992 : True := ⟨⟩
theorem tw7755308570273696304 : True := ⟨⟩
theorem tw9229969857144183751 : True := ⟨⟩
theorem tw15752705505238940452 : True := ⟨⟩
theorem tw15651808475710305437 : True := ⟨⟩
theorem tw12498210040580188594 : True := ⟨⟩
theorem tw1900305884434196558 : True := ⟨⟩
theorem tw18429332903339664257 : True := ⟨⟩
theorem tw9660649648382758544 : True := ⟨⟩
theorem tw3161883573079003427 : True := ⟨⟩
theorem tw14824361752469658343 : True := ⟨⟩
theorem tw14432844120327381744 : True := ⟨⟩
theorem tw4818477563553795953 : True := ⟨⟩
theorem tw15010652202597077388 : True := ⟨⟩
theorem tw6799870787501464450 : True := ⟨⟩
theorem tw15295237982042624056 : True := ⟨⟩
theorem tw18124602015630765902 : True := ⟨⟩
theorem tw8859602927304486388 : True := ⟨⟩
theorem tw17093498511995655278 : True := ⟨⟩
theorem tw14294478522508608535 : True := ⟨⟩
theorem tw17660824867854815301 : True := ⟨⟩
theorem tw3823114523116320631 : True := ⟨⟩
theorem tw1098815840399722966 : True := ⟨⟩
theorem tw17436158801685353135 : True := ⟨⟩
theorem tw4011550091803822324 : True := ⟨⟩
theorem tw1051774603655801449 : True := ⟨⟩
theorem tw11603396132586920562 : True := ⟨⟩
theorem tw13079933194151893994 : True := ⟨⟩
theorem tw5205537277854390611 : True := ⟨⟩
theorem tw9929227567442143106 : True := ⟨⟩
theorem tw14098273391221771641 : True := ⟨⟩
theorem tw429202063040387814 : True := ⟨⟩
theorem tw14497865865547032994 : True := ⟨⟩
theorem tw4826051116886815509 : True := ⟨⟩
theorem tw7821725582095040823 : True := ⟨⟩
theorem tw8075373453324489907 : True := ⟨⟩
theorem tw15119922296706766494 : True := ⟨⟩
theorem tw7931637561708162601 : True := ⟨⟩
theorem tw16039647850806536512 : True := ⟨⟩
theorem tw5359995836324204151 : True := ⟨⟩
theorem tw12949981031970840147 : True := ⟨⟩
theorem tw1495172240846871248 : True := ⟨⟩
theorem tw14681112193064874672 : True := ⟨⟩
theorem tw6436867755481685774 : True := ⟨⟩
theorem tw18320451045368678321 : True := ⟨⟩
theorem tw4949124290014777278 : True := ⟨⟩
theorem tw11814198861145148143 : True := ⟨⟩
theorem tw14545258804116545500 : True := ⟨⟩
theorem tw9990244355379215880 : True := ⟨⟩
theorem tw8597169329714390016 : True := ⟨⟩
theorem tw3988909862489976341 : True := ⟨⟩
theorem tw1914532920939206485 : True := ⟨⟩
theorem tw6029325560948273754 : True := ⟨⟩
theorem tw18320299935130850255 : True := ⟨⟩
theorem tw4671822675708616840 : True := ⟨⟩
theorem tw8146246743145114709 : True := ⟨⟩
theorem tw9897073195993786086 : True := ⟨⟩
theorem tw10371350742330374755 : True := ⟨⟩
theorem tw6594173122085558896 : True := ⟨⟩
theorem tw7055221893738031647 : True := ⟨⟩
theorem tw2525146436498214442 : True := ⟨⟩
theorem tw17787138291983805140 : True := ⟨⟩
theorem tw10612595474154825700 : True := ⟨⟩
theorem tw10677795423985426466 : True := ⟨⟩
theorem tw17867992903834528528 : True := ⟨⟩
theorem tw7298897829697610925 : True := ⟨⟩
theorem tw6150275777301520700 : True := ⟨⟩
theorem tw6873311156580902728 : True := ⟨⟩
theorem tw3944572228873288046 : True := ⟨⟩
theorem tw18186941129442414356 : True := ⟨⟩
theorem tw15706190397107094160 : True := ⟨⟩
theorem tw11571359455336175999 : True := ⟨⟩
theorem tw725822477095601621 : True := ⟨⟩
theorem tw1041343083969162091 : True := ⟨⟩
theorem tw16324739944500991907 : True := ⟨⟩
theorem tw7381778694630312067 : True := ⟨⟩
theorem tw5267175751432999687 : True := ⟨⟩
theorem tw17924335060555393959 : True := ⟨⟩
theorem tw17957990969754849048 : True := ⟨⟩
theorem tw3389985314573154358 : True := ⟨⟩
theorem tw16947037823701879507 : True := ⟨⟩
theorem tw581878882644226858 : True := ⟨⟩
theorem tw15373591915580740759 : True := ⟨⟩
theorem tw13900505846859127168 : True := ⟨⟩
theorem tw8049805672578742733 : True := ⟨⟩
theorem tw17995657554766876397 : True := ⟨⟩
theorem tw12695945384671693 : True := ⟨⟩
theorem tw11419985869285713552 : True := ⟨⟩
theorem tw1436737917398322787 : True := ⟨⟩
theorem tw16044819973559098399 : True := ⟨⟩
theorem tw1066419388702316213 : True := ⟨⟩
theorem tw9238529758074984511 : True := ⟨⟩
theorem tw15707225838248050924 : True := ⟨⟩
theorem tw8276748956251948445 : True := ⟨⟩
theorem tw1955411553610772886 : True := ⟨⟩
theorem tw5192354341050519104 : True := ⟨⟩
theorem tw4807101043242676208 : True := ⟨⟩
theorem tw530596561436000114 : True := ⟨⟩
theorem tw3810627576854597853 : True := ⟨⟩
theorem tw8069495009248515269 : True := ⟨⟩
theorem tw15331405294333151267 : True := ⟨⟩
theorem tw2260780115295988590 : True := ⟨⟩
theorem tw11604110418896165719 : True := ⟨⟩
theorem tw890444789092750509 : True := ⟨⟩
theorem tw18303920270347957579 : True := ⟨⟩
theorem tw7184269789612755163 : True := ⟨⟩
theorem tw1231831557583294887 : True := ⟨⟩
theorem tw18377918724729927300 : True := ⟨⟩
theorem tw11123301816124191563 : True := ⟨⟩
theorem tw10837514380712597092 : True := ⟨⟩
theorem tw15377683838095646475 : True := ⟨⟩
theorem tw16292345042527260098 : True := ⟨⟩
theorem tw18107943110037527036 : True := ⟨⟩
theorem tw15583297002198583608 : True := ⟨⟩
theorem tw11610831136311674760 : True := ⟨⟩
theorem tw14560727036243025525 : True := ⟨⟩
theorem tw4028801690611261735 : True := ⟨⟩
theorem tw12552118383659795770 : True := ⟨⟩
theorem tw7927765484874345223 : True := ⟨⟩
theorem tw6637093299136089682 : True := ⟨⟩
theorem tw13466059664823304580 : True := ⟨⟩
theorem tw6841827683615240604 : True := ⟨⟩
theorem tw7070379901950657870 : True := ⟨⟩
theorem tw10829267340249355836 : True := ⟨⟩
theorem tw1619838049572734509 : True := ⟨⟩
theorem tw12870965347615555848 : True := ⟨⟩
theorem tw1936843236261660223 : True := ⟨⟩
theorem tw11726235778994956415 : True := ⟨⟩
theorem tw3438026397387717331 : True := ⟨⟩
theorem tw2251830047639133020 : True := ⟨⟩
theorem tw12547436866224289312 : True := ⟨⟩
theorem tw6767499813643485175 : True := ⟨⟩
theorem tw4546593531062529539 : True := ⟨⟩
theorem tw13956177899815171757 : True := ⟨⟩
theorem tw17636614554409644206 : True := ⟨⟩
theorem tw11084845539686289654 : True := ⟨⟩
theorem tw14218688949757575254 : True := ⟨⟩
theorem tw5698746311835508995 : True := ⟨⟩
theorem tw11265470141644983609 : True := ⟨⟩
theorem tw15784324829246659798 : True := ⟨⟩
theorem tw13456108981313254704 : True := ⟨⟩
theorem tw10981452821444559345 : True := ⟨⟩
theorem tw5667239645042859654 : True := ⟨⟩
theorem tw15230609216543731433 : True := ⟨⟩
theorem tw10003366532078799691 : True := ⟨⟩
theorem tw14947471175898914893 : True := ⟨⟩
theorem tw2611367496033369700 : True := ⟨⟩
end PySem.W.Fast
open PySem PySem.W PyProof.Rows
set_option maxRecDepth 100000 in
set_option maxHeartbeats 0 in
theorem PySem.Challenge.cw_jettison_k15_owners_sign_holds : PySem.Challenge.rw_jettison_k15_owners_sign.Holds := by
  w_on; o_law; k_head; (case hw => w_witness2)
  k_fill
  refine Law.walk (l := PySem.Challenge.rw_jettison_k15_owners_sign) rfl rfl (fun w h Y => PySem.W.kIn_of Y) ?F
  case F =>
    intro w mg fa h KX G hmg
    refine' Law.all_mk KX G hmg ?a ?l1 ?c ?k ?d_made_of ?d_is_name ?d__law_draw ?d__law_name ?d__law_many_names ?d__law_hold_do ?d__law_tried ?d__law_hot ?d__law_is_name ?d__law_int ?z_len ?z_range ?z_sum ?z_list ?z_zip ?z_all ?z_int ?z_bool ?z_str ?z_tuple ?z_abs ?z_isinstance ?z_ValueError ?b_LETTERS ?aC_Hold ?pg_Hold ?hd_Hold ?po_Hold ?sa_Hold ?mk_Hold ?kc_Hold ?d_Hold_init ?d_Hold_sign ?d_Hold_roster ?d_Hold_parts ?d_Hold_whole ?d_Hold_landed ?n_Hold_places ?n_Hold_aboard ?n_Hold_ashore ?n_Hold_names ?n_Hold_bottom ?n_Hold_common ?n_Hold_purses ?aC_Part ?pg_Part ?hd_Part ?po_Part ?sa_Part ?mk_Part ?kc_Part ?n_Part_name ?n_Part_owner ?n_Part_worth ?n_Part_weight ?n_Part_scale ?n_Part_row ?aC_Bottom ?pg_Bottom ?hd_Bottom ?po_Bottom ?sa_Bottom ?mk_Bottom ?kc_Bottom ?d_Bottom_init ?n_Bottom_steps ?n_Bottom_product ?n_Bottom_known ?bE_BadName ?bE_Twice ?bE_NoOwner ?bE_NoPart ?bE_NoVoyage ?bE_BadNumber ?bE_TooMuch ?bE_BadRows ?bE_NoDeed ?bE_BadPaper ?bE_JettisonError ?to_BadName ?ox_BadName ?to_Twice ?ox_Twice
    (case a => k_is)
    (case l1 => k_is)
    (case c => k_is)
    (case k => k_is)
    (case d_made_of => refine' L2.DefAt.of ?a ?l ?c ?k; (case a => k_is); (case l => k_is); (case c => k_is); (case k => k_is))
    (case d_is_name => refine' L2.DefAt.of ?a ?l ?c ?k; (case a => k_is); (case l => k_is); (case c => k_is); (case k => k_is))
    (case d__law_draw => refine' L2.DefAt.of ?a ?l ?c ?k; (case a => k_is); (case l => k_is); (case c => k_is); (case k => k_is))
    (case d__law_name => refine' L2.DefAt.of ?a ?l ?c ?k; (case a => k_is); (case l => k_is); (case c => k_is); (case k => k_is))
    (case d__law_many_names => refine' L2.DefAt.of ?a ?l ?c ?k; (case a => k_is); (case l => k_is); (case c => k_is); (case k => k_is))
    (case d__law_hold_do => refine' L2.DefAt.of ?a ?l ?c ?k; (case a => k_is); (case l => k_is); (case c => k_is); (case k => k_is))
    (case d__law_tried => refine' L2.DefAt.of ?a ?l ?c ?k; (case a => k_is); (case l => k_is); (case c => k_is); (case k => k_is))
    (case d__law_hot => refine' L2.DefAt.of ?a ?l ?c ?k; (case a => k_is); (case l => k_is); (case c => k_is); (case k => k_is))
    (case d__law_is_name => refine' L2.DefAt.of ?a ?l ?c ?k; (case a => k_is); (case l => k_is); (case c => k_is); (case k => k_is))
    (case d__law_int => refine' L2.DefAt.of ?a ?l ?c ?k; (case a => k_is); (case l => k_is); (case c => k_is); (case k => k_is))
    (case z_len => k_is)
    (case z_range => k_is)
    (case z_sum => k_is)
    (case z_list => k_is)
    (case z_zip => k_is)
    (case z_all => k_is)
    (case z_int => k_is)
    (case z_bool => k_is)
    (case z_str => k_is)
    (case z_tuple => k_is)
    (case z_abs => k_is)
    (case z_isinstance => k_is)
    (case z_ValueError => k_is)
    (case b_LETTERS => k_is)
    (case aC_Hold => k_is)
    (case pg_Hold => k_is)
    (case hd_Hold => k_is)
    (case po_Hold => k_is)
    (case sa_Hold => k_is)
    (case mk_Hold => k_is)
    (case kc_Hold => k_is)
    (case d_Hold_init => refine' L2.MetAt.of ?a ?i ?l ?c ?k; (case a => k_is); (case i => k_is); (case l => k_is); (case c => k_is); (case k => k_is))
    (case d_Hold_sign => refine' L2.MetAt.of ?a ?i ?l ?c ?k; (case a => k_is); (case i => k_is); (case l => k_is); (case c => k_is); (case k => k_is))
    (case d_Hold_roster => refine' L2.MetAt.of ?a ?i ?l ?c ?k; (case a => k_is); (case i => k_is); (case l => k_is); (case c => k_is); (case k => k_is))
    (case d_Hold_parts => refine' L2.MetAt.of ?a ?i ?l ?c ?k; (case a => k_is); (case i => k_is); (case l => k_is); (case c => k_is); (case k => k_is))
    (case d_Hold_whole => refine' L2.MetAt.of ?a ?i ?l ?c ?k; (case a => k_is); (case i => k_is); (case l => k_is); (case c => k_is); (case k => k_is))
    (case d_Hold_landed => refine' L2.MetAt.of ?a ?i ?l ?c ?k; (case a => k_is); (case i => k_is); (case l => k_is); (case c => k_is); (case k => k_is))
    (case n_Hold_places => k_is)
    (case n_Hold_aboard => k_is)
    (case n_Hold_ashore => k_is)
    (case n_Hold_names => k_is)
    (case n_Hold_bottom => k_is)
    (case n_Hold_common => k_is)
    (case n_Hold_purses => k_is)
    (case aC_Part => k_is)
    (case pg_Part => k_is)
    (case hd_Part => k_is)
    (case po_Part => k_is)
    (case sa_Part => k_is)
    (case mk_Part => k_is)
    (case kc_Part => k_is)
    (case n_Part_name => k_is)
    (case n_Part_owner => k_is)
    (case n_Part_worth => k_is)
    (case n_Part_weight => k_is)
    (case n_Part_scale => k_is)
    (case n_Part_row => k_is)
    (case aC_Bottom => k_is)
    (case pg_Bottom => k_is)
    (case hd_Bottom => k_is)
    (case po_Bottom => k_is)
    (case sa_Bottom => k_is)
    (case mk_Bottom => k_is)
    (case kc_Bottom => k_is)
    (case d_Bottom_init => refine' L2.MetAt.of ?a ?i ?l ?c ?k; (case a => k_is); (case i => k_is); (case l => k_is); (case c => k_is); (case k => k_is))
    (case n_Bottom_steps => k_is)
    (case n_Bottom_product => k_is)
    (case n_Bottom_known => k_is)
    (case bE_BadName => k_is)
    (case bE_Twice => k_is)
    (case bE_NoOwner => k_is)
    (case bE_NoPart => k_is)
    (case bE_NoVoyage => k_is)
    (case bE_BadNumber => k_is)
    (case bE_TooMuch => k_is)
    (case bE_BadRows => k_is)
    (case bE_NoDeed => k_is)
    (case bE_BadPaper => k_is)
    (case bE_JettisonError => k_is)
    (case to_BadName => refine' L2.Told.of ?ga ?gn ?ca ?mo ?mb ?jt ?ve ?k0 ?k1 ?k2 ?k3 ?k4 ?k5 ?k6 ?k7 ?k8 ?k9 ?h; (case ga => k_is); (case gn => k_is); (case ca => k_is); (case mo => k_is); (case mb => k_is); (case jt => kts_exm); (case ve => kit_is); (case k0 => kit_is); (case k1 => kit_is); (case k2 => kit_is); (case k3 => kit_is); (case k4 => kit_is); (case k5 => kit_is); (case k6 => kit_is); (case k7 => kit_is); (case k8 => kit_is); (case k9 => kit_is); (case h => rfl))
    (case ox_BadName => k_exc)
    (case to_Twice => refine' L2.Told.of ?ga ?gn ?ca ?mo ?mb ?jt ?ve ?k0 ?k1 ?k2 ?k3 ?k4 ?k5 ?k6 ?k7 ?k8 ?k9 ?h; (case ga => k_is); (case gn => k_is); (case ca => k_is); (case mo => k_is); (case mb => k_is); (case jt => kts_exm); (case ve => kit_is); (case k0 => kit_is); (case k1 => kit_is); (case k2 => kit_is); (case k3 => kit_is); (case k4 => kit_is); (case k5 => kit_is); (case k6 => kit_is); (case k7 => kit_is); (case k8 => kit_is); (case k9 => kit_is); (case h => rfl))
    (case ox_Twice => k_exc)
