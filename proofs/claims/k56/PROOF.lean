import PyProof.Rows.All
import Wide.All
import OpenK.AllK
import Wide.FinOn
import Lean
import PyProof.EqAt
import PyProof.EqKinds
import PyProof.TupleCall
import PySem.Challenge.RW_jettison_k56_papers_written
set_option Elab.async false
set_option linter.all false
set_option maxRecDepth 100000
set_option Elab.async false
set_option linter.all false
set_option maxRecDepth 100000
namespace L2
open PySem PySem.Spec PyProof.Rows
abbrev Key := Sum Int Str
def keyIs : Key → Value → Bool
  | .inl k, v => Value.isInt k v
  | .inr x, v => Value.isStrOf x v
def keyH (w : World) : Key → Int
  | .inl k => hashInt k
  | .inr x => hashStr w x
theorem keyIs_shape : ∀ {k : Key} {v : Value}, keyIs k v = true → (∃ i t, k = Sum.inl i ∧ v = Value.int i t) ∨ (∃ x t, k = Sum.inr x ∧ v = Value.str x t)
  | .inl i, v, h => by
    obtain ⟨t, e⟩ := Value.isInt_shape (k := i) (v := v) h
    exact .inl ⟨i, t, rfl, e⟩
  | .inr x, v, h => by
    obtain ⟨t, e⟩ := Value.isStrOf_shape (x := x) (v := v) h
    exact .inr ⟨x, t, rfl, e⟩
theorem key_ll (a b : Int) : decide ((Sum.inl a : Key) = Sum.inl b) = (a == b) := by
  by_cases e : a = b
  · subst e; simp
  · have h : ¬ (Sum.inl a : Key) = Sum.inl b := fun q => e (Sum.inl.inj q)
    rw [decide_eq_false h]
    exact (beq_eq_false_iff_ne.mpr e).symm
theorem key_rr (a b : Str) : decide ((Sum.inr a : Key) = Sum.inr b) = decide (a = b) := by
  by_cases e : a = b
  · subst e; simp
  · have h : ¬ (Sum.inr a : Key) = Sum.inr b := fun q => e (Sum.inr.inj q)
    rw [decide_eq_false h, decide_eq_false e]
theorem key_lr (a : Int) (b : Str) : decide ((Sum.inl a : Key) = Sum.inr b) = false := decide_eq_false (fun q => nomatch q)
theorem key_rl (a : Str) (b : Int) : decide ((Sum.inr a : Key) = Sum.inl b) = false := decide_eq_false (fun q => nomatch q)
def mixKind (prog : Program) (w : World) : PySem.KeyKind prog w Key where
  is := keyIs
  hash := keyH w
  inj := fun v a b ha hb => by
    rcases keyIs_shape ha with ⟨i, t, rfl, rfl⟩ | ⟨x, t, rfl, rfl⟩
    · rcases keyIs_shape hb with ⟨j, u, rfl, e⟩ | ⟨y, u, rfl, e⟩
      · injection e with e1 _; rw [e1]
      · exact nomatch e
    · rcases keyIs_shape hb with ⟨j, u, rfl, e⟩ | ⟨y, u, rfl, e⟩
      · exact nomatch e
      · injection e with e1 _; rw [e1]
  byValue := fun k v h => by
    rcases keyIs_shape h with ⟨i, t, rfl, rfl⟩ | ⟨x, t, rfl, rfl⟩ <;> rfl
  pyHash := fun hv h => by
    rcases keyIs_shape hv with ⟨i, t, rfl, rfl⟩ | ⟨x, t, rfl, rfl⟩
    · exact wpAny_pyHash_int h
    · exact wpAny_pyHash_str h
  eqBool := fun hu hv h => by
    rcases keyIs_shape hu with ⟨i, t, rfl, rfl⟩ | ⟨x, t, rfl, rfl⟩
    · rcases keyIs_shape hv with ⟨j, u, rfl, rfl⟩ | ⟨y, u, rfl, rfl⟩
      · rw [key_ll] at h; exact wpAny_eqBool_int h
      · rw [key_lr] at h; exact SeqAt.EqAt.int_str i t y u _ _ _ _ h
    · rcases keyIs_shape hv with ⟨j, u, rfl, rfl⟩ | ⟨y, u, rfl, rfl⟩
      · rw [key_rl] at h; exact SeqAt.EqAt.str_int x t j u _ _ _ _ h
      · rw [key_rr] at h; exact wpAny_eqBool_str h
  «strs» := fun k x t v h => by
    rcases keyIs_shape h with ⟨i, u, rfl, e⟩ | ⟨y, u, rfl, e⟩
    · exact nomatch e
    · injection e with e1 _
      subst e1
      cases v <;> rfl
end L2
namespace L2
open PySem PySem.Spec PyProof.Rows
inductive V where
  | non | bl (b : Bool) | int (i : Int) | str (x : Str) | byt (b : Array UInt8) | flt (b : UInt64) | ref (a : Addr) | ty (n : String)
  deriving DecidableEq
def RelV : V → Value → Prop
  | .non, u => u = Value.none
  | .bl b, u => u = Value.bool b
  | .int i, u => ∃ t, u = Value.int i t
  | .str x, u => ∃ t, u = Value.str x t
  | .byt b, u => ∃ t, u = Value.bytes b t
  | .flt b, u => ∃ t, u = Value.float b t
  | .ref a, u => u = Value.ref a
  | .ty n, u => u = Value.type n
abbrev Vals : List V → List Value → Prop := Paired RelV
theorem Vals.length {xs : List V} {us : List Value} (r : Vals xs us) : xs.length = us.length := Paired.length r
theorem Vals.get : ∀ {xs : List V} {us : List Value} {i : Nat} {x : V}, Vals xs us → xs[i]? = some x → ∃ u, us[i]? = some u ∧ RelV x u
  | _, _, _, _, .nil, e => by simp at e
  | _, _, 0, _, .cons r _, e => by simp at e; subst e; exact ⟨_, rfl, r⟩
  | _, _, i + 1, x, .cons _ t, e => by
    obtain ⟨u, h1, h2⟩ := Vals.get (i := i) (x := x) t (by simpa using e)
    exact ⟨u, by simpa using h1, h2⟩
theorem Vals.append : ∀ {xs ys : List V} {us ws : List Value}, Vals xs us → Vals ys ws → Vals (xs ++ ys) (us ++ ws)
  | _, _, _, _, .nil, s => s
  | _, _, _, _, .cons r t, s => .cons r (Vals.append t s)
theorem Vals.take : ∀ {xs : List V} {us : List Value} (n : Nat), Vals xs us → Vals (xs.take n) (us.take n)
  | _, _, 0, _ => .nil
  | _, _, _ + 1, .nil => .nil
  | _, _, n + 1, .cons r t => .cons r (Vals.take n t)
theorem Vals.drop : ∀ {xs : List V} {us : List Value} (n : Nat), Vals xs us → Vals (xs.drop n) (us.drop n)
  | _, _, 0, r => r
  | _, _, _ + 1, .nil => .nil
  | _, _, n + 1, .cons _ t => Vals.drop n t
def RelO : Option V → Option Value → Prop
  | some v, some u => RelV v u
  | none, none => True
  | _, _ => False
def KV {κ : Type} : List (κ × V) → List (κ × Value) → Prop := Paired fun (p : κ × V) (q : κ × Value) => p.1 = q.1 ∧ RelV p.2 q.2
def kV : Key → V
  | .inl i => .int i
  | .inr x => .str x
inductive HO where
  | lst (xs : List V)
  | tup (xs : List V)
  | dK (kvs : List (Key × V)) | dT (kvs : List (List Key × V))
  | set (S : Int → Bool) (n : Nat)
  | ins (C dx : Addr) (fs : List (Str × V))
  | own (x : Addr)
  | xd (fs : List (Str × V))
  | met (f x : Addr)
  | rng (lo hi : Int)
  | frz (o : Obj) (u : HO)
  | tbl (ps : Array Value)
  | ext (φ : Heap → Prop)
abbrev Hp := Addr → Option HO
def upd (H : Hp) (a : Addr) (o : HO) : Hp := fun b => if b = a then some o else H b
theorem upd_same {H : Hp} {a : Addr} {o : HO} : upd H a o a = some o := by unfold upd; rw [if_pos rfl]
theorem upd_ne {H : Hp} {a b : Addr} {o : HO} (h : b ≠ a) : upd H a o b = H b := by unfold upd; rw [if_neg h]
theorem ne_of {H : Hp} {a b : Addr} {o u : HO} (h : H a = some o) (h' : H b = some u) (d : o ≠ u) : a ≠ b := by
  intro e; subst e; rw [h] at h'; exact d (Option.some.inj h')
theorem ne_of_none {H : Hp} {a b : Addr} {o : HO} (h : H a = some o) (h' : H b = none) : a ≠ b := by
  intro e; subst e; rw [h] at h'; cases h'
section
variable (P : Program) (w : World)
def ObjOk (H : Hp) (h : Heap) (a : Addr) : HO → Prop
  | .lst xs => xs.length ≤ sizeLine ∧ ∃ (its : List Value) (n : Nat), Vals xs its ∧ h.get? a = some { cls := .type "list", data := .seq its.toArray n }
  | .tup xs => xs.length ≤ sizeLine ∧ ∃ its : List Value, Vals xs its ∧ IsTup h a its.toArray
  | .dK kvs => kvs.length ≤ sizeLine ∧ (a == sysModules) = false ∧ ∃ vs, KV kvs vs ∧ h.DictOf (mixKind P w) a vs
  | .dT kvs => kvs.length ≤ sizeLine ∧ (a == sysModules) = false ∧ ∃ xs : List (List Key × Addr × Value),
      Paired (fun (p : List Key × V) (q : List Key × Addr × Value) => p.1 = q.1 ∧ H q.2.1 = some (.tup (p.1.map kV)) ∧ RelV p.2 q.2.2) kvs xs ∧
      ∃ o es ep, h.get? a = some o ∧ o.ExactDict ∧ o.data = .dict es ep ∧ es.toList = xs.map (entryOfKey (tupleKind (mixKind P w))) ∧ (xs.map (·.1)).Nodup
  | .set S n => h.SetOf (intKind P w) a S n
  | .ins C dx fs => H dx = some (.own a) ∧ fs.length ≤ 1000 ∧ dx ≠ a ∧ h.get? a = some (PySem.W.instObj C dx) ∧
      ∃ mA, h.Ns1 dx mA ∧ (∀ f, RelO (fs.lookup f) (mA f)) ∧ PySem.Within mA (fs.map (·.1))
  | .own _ => ∃ o, h.get? a = some o
  | .xd fs => ∃ mA, h.Ns1 a mA ∧ ∀ f, RelO (fs.lookup f) (mA f)
  | .rng lo hi => ∃ t u v, h.get? a = some { cls := .type "range", data := .fields #[.int lo t, .int hi u, .int 1 v] }
  | .frz o u => h.get? a = some o ∧ ObjOk H h a u
  | .tbl ps => h.get? a = some { cls := .none, data := .fields ps }
  | .met f x => h.get? a = some (PySem.W.methodObj (.ref f) (.ref x))
  | .ext φ => φ h ∧ (∃ o, h.get? a = some o) ∧ ∀ h1 h2 : Heap, φ h1 → (∀ o, h1.get? a = some o → h2.get? a = some o) → φ h2
def HOk (H : Hp) (h : Heap) : Prop := ∀ a o, H a = some o → ObjOk P w H h a o
end
section
variable {P : Program} {w : World} {H H' : Hp} {h h' : Heap} {a : Addr} {o : HO}
theorem ObjOk.lt (x : ObjOk P w H h a o) : a < h.objs.size := by
  cases o with
  | lst xs => obtain ⟨_, _, _, _, e⟩ := x; exact Heap.lt_size e
  | tup xs => obtain ⟨_, _, _, p⟩ := x; exact p.lt
  | dK kvs => obtain ⟨_, _, _, _, o, _, _, e, _⟩ := x; exact Heap.lt_size e
  | dT kvs => obtain ⟨_, _, _, _, o, _, _, e, _⟩ := x; exact Heap.lt_size e
  | set S n => obtain ⟨o, _, _, _, e, _⟩ := x; exact Heap.lt_size e
  | ins C dx fs => obtain ⟨_, _, _, e, _⟩ := x; exact Heap.lt_size e
  | own y => obtain ⟨_, e⟩ := x; exact Heap.lt_size e
  | xd fs => obtain ⟨_, ⟨_, _, _, e, _⟩, _⟩ := x; exact Heap.lt_size e
  | rng lo hi => obtain ⟨_, _, _, e⟩ := x; exact Heap.lt_size e
  | frz ob u => obtain ⟨e, _⟩ := x; exact Heap.lt_size e
  | tbl ps => exact Heap.lt_size (show h.get? a = some _ from x)
  | met f y => exact Heap.lt_size (show h.get? a = some _ from x)
  | ext φ => obtain ⟨_, ⟨_, e⟩, _⟩ := x; exact Heap.lt_size e
theorem Paired.mapP {α β : Type} {F G : α → β → Prop} : ∀ {l₁ : List α} {l₂ : List β}, Paired F l₁ l₂ → (∀ a b, F a b → G a b) → Paired G l₁ l₂
  | _, _, .nil, _ => .nil
  | _, _, .cons r t, f => .cons (f _ _ r) (Paired.mapP t f)
theorem ObjOk.stay (x : ObjOk P w H h a o) (k : ∀ b u, (b = a ∨ H b = some (.own a)) → h.get? b = some u → h'.get? b = some u)
    (ho : ∀ b, H b = some (.own a) → H' b = some (.own a)) (ht : ∀ b xs, H b = some (.tup xs) → H' b = some (.tup xs)) : ObjOk P w H' h' a o := by
  induction o with
  | lst xs => obtain ⟨z, its, n, r, e⟩ := x; exact ⟨z, its, n, r, k _ _ (.inl rfl) e⟩
  | tup xs => obtain ⟨z, its, r, ob, e, c⟩ := x; exact ⟨z, its, r, ob, k _ _ (.inl rfl) e, c⟩
  | dK kvs => obtain ⟨z, y, vs, r, ob, es, ep, e, c⟩ := x; exact ⟨z, y, vs, r, ob, es, ep, k _ _ (.inl rfl) e, c⟩
  | dT kvs =>
    obtain ⟨z, y, xs, r, ob, es, ep, e, c⟩ := x
    exact ⟨z, y, xs, Paired.mapP r fun p q z => ⟨z.1, ht _ _ z.2.1, z.2.2⟩, ob, es, ep, k _ _ (.inl rfl) e, c⟩
  | set S n => obtain ⟨ob, es, ep, t, e, c⟩ := x; exact ⟨ob, es, ep, t, k _ _ (.inl rfl) e, c⟩
  | ins C dx fs =>
    obtain ⟨d, z, ne, e, mA, ⟨od, es, ep, e2, c⟩, r⟩ := x
    exact ⟨ho _ d, z, ne, k _ _ (.inl rfl) e, mA, ⟨od, es, ep, k _ _ (.inr d) e2, c⟩, r⟩
  | own y => obtain ⟨ob, e⟩ := x; exact ⟨ob, k _ _ (.inl rfl) e⟩
  | xd fs => obtain ⟨mA, ⟨od, es, ep, e, c⟩, r⟩ := x; exact ⟨mA, ⟨od, es, ep, k _ _ (.inl rfl) e, c⟩, r⟩
  | rng lo hi => obtain ⟨t, u, v, e⟩ := x; exact ⟨t, u, v, k _ _ (.inl rfl) e⟩
  | frz ob u ih => obtain ⟨e, q⟩ := x; exact ⟨k _ _ (.inl rfl) e, ih q⟩
  | tbl ps =>
    have e : h.get? a = some { cls := .none, data := .fields ps } := x
    show h'.get? a = some { cls := .none, data := .fields ps }
    exact k a _ (.inl rfl) e
  | met f y =>
    have e : h.get? a = some (PySem.W.methodObj (.ref f) (.ref y)) := x
    show h'.get? a = some (PySem.W.methodObj (.ref f) (.ref y))
    exact k a _ (.inl rfl) e
  | ext φ => obtain ⟨p, ⟨o, e⟩, st⟩ := x; exact ⟨st _ _ p fun o q => k _ _ (.inl rfl) q, ⟨o, k _ _ (.inl rfl) e⟩, st⟩
theorem HOk.lt (x : HOk P w H h) (e : H a = some o) : a < h.objs.size := (x a o e).lt
theorem HOk.fresh (x : HOk P w H h) (e : h.objs.size ≤ a) : H a = none := by
  cases q : H a with
  | none => rfl
  | some u => exact absurd (Nat.lt_of_lt_of_le (x.lt q) e) (Nat.lt_irrefl _)
theorem HOk.kept (x : HOk P w H h) (k : ∀ b u, h.get? b = some u → h'.get? b = some u) : HOk P w H h' := fun a o e =>
  (x a o e).stay (fun b u _ q => k b u q) (fun _ q => q) fun _ _ q => q
theorem HOk.laid (x : HOk P w H h) (k : ∀ b u, h.get? b = some u → h'.get? b = some u) (hp : h.objs.size ≤ a) (new : ObjOk P w (upd H a o) h' a o) : HOk P w (upd H a o) h' := fun b u e => by
  have hn := x.fresh hp
  by_cases hb : b = a
  · subst hb; rw [upd_same] at e; cases e; exact new
  · rw [upd_ne hb] at e
    exact (x b u e).stay (fun c v _ q => k c v q) (fun c q => by rw [upd_ne (ne_of_none q hn)]; exact q) fun c xs q => by rw [upd_ne (ne_of_none q hn)]; exact q
end
def Rd (H : Hp) (a : Addr) (u : HO) : Prop := H a = some u ∨ ∃ o, H a = some (.frz o u)
theorem Rd.ok {P : Program} {w : World} {H : Hp} {h : Heap} {a : Addr} {u : HO} (r : Rd H a u) (x : HOk P w H h) : ObjOk P w H h a u := by
  rcases r with r | ⟨o, r⟩
  · exact x a u r
  · obtain ⟨_, q⟩ := x a _ r
    exact q
def Mut : Option HO → Prop
  | some (.lst _) => True
  | some (.dK _) => True
  | some (.dT _) => True
  | some (.set _ _) => True
  | some (.ins _ _ _) => True
  | some (.ext _) => True
  | _ => False
section
variable {P : Program} {w : World} {H : Hp} {h h' : Heap} {x e : Addr} {o' : HO}
theorem HOk.write (ok : HOk P w H h) (mu : Mut (H x)) (he : e = x ∨ H e = some (.own x)) (k : ∀ b u, b ≠ e → h.get? b = some u → h'.get? b = some u) (heo : ∃ u, h'.get? e = some u)
    (new : ObjOk P w (upd H x o') h' x o') : HOk P w (upd H x o') h' := fun b u q => by
  have nown : ∀ c y, H c = some (.own y) → c ≠ x := fun c y r z => by subst z; rw [r] at mu; exact mu
  have ntup : ∀ c xs, H c = some (.tup xs) → c ≠ x := fun c xs r z => by subst z; rw [r] at mu; exact mu
  by_cases hb : b = x
  · subst hb; rw [upd_same] at q; cases q; exact new
  · rw [upd_ne hb] at q
    by_cases hbe : b = e
    · have q' : H b = some (.own x) := by
        rcases he with z | z
        · exact absurd (hbe.trans z) hb
        · rw [hbe]; exact z
      rw [q] at q'; cases q'
      obtain ⟨v, hv⟩ := heo
      exact ⟨v, by rw [hbe]; exact hv⟩
    · refine (ok b u q).stay (fun c v hc r => k c v ?_ r) (fun c r => by rw [upd_ne (nown c b r)]; exact r) fun c xs r => by rw [upd_ne (ntup c xs r)]; exact r
      rcases hc with rfl | hc
      · exact hbe
      · rintro rfl
        rcases he with z | z
        · exact nown c b hc z
        · rw [hc] at z; cases z; exact hb rfl
end
structure Un (fs ex : List Addr) (H H' : Hp) (h h' : Heap) : Prop where
  keep : ∀ b o, h.get? b = some o → H b = none → b ∉ fs → b ∉ ex → h'.get? b = some o
  slot : ∀ b o, h.get? b = some o → H b = none → b ∈ fs → b ∉ ex → ∃ sl, h'.get? b = some { o with slots := sl }
  free : ∀ b o, h.get? b = some o → H b = none → b ∉ ex → H' b = none
  there : ∀ b o, h.get? b = some o → b ∉ ex → ∃ o', h'.get? b = some o'
  tups : ∀ b xs, H b = some (.tup xs) → H' b = some (.tup xs)
  frzs : ∀ b o u, H b = some (.frz o u) → H' b = some (.frz o u)
  tbls : ∀ b ps, H b = some (.tbl ps) → ∃ more, H' b = some (.tbl (ps ++ more))
section
variable {fs fs' ex ex' : List Addr} {H H1 H2 : Hp} {h h1 h2 h' : Heap} {a x e : Addr} {o : HO}
theorem Un.any (u : Un fs ex H H1 h h1) {b : Addr} {ob : Obj} (q : h.get? b = some ob) (n : H b = none) (hx : b ∉ ex) : ∃ sl, h1.get? b = some { ob with slots := sl } := by
  by_cases hb : b ∈ fs
  · exact u.slot b ob q n hb hx
  · exact ⟨ob.slots, u.keep b ob q n hb hx⟩
theorem Un.kept (k : ∀ b u, h.get? b = some u → h'.get? b = some u) : Un fs ex H H h h' :=
  ⟨fun b ob q _ _ _ => k b ob q, fun b ob q _ _ _ => ⟨ob.slots, k b ob q⟩, fun _ _ _ n _ => n, fun b ob q _ => ⟨ob, k b ob q⟩, fun _ _ q => q, fun _ _ _ q => q, fun _ ps q => ⟨#[], by rw [q]; simp⟩⟩
theorem Un.refl : Un fs ex H H h h := Un.kept fun _ _ q => q
theorem Un.laid (k : ∀ b u, h.get? b = some u → h'.get? b = some u) (hp : h.objs.size ≤ a) (hn : H a = none) : Un fs ex H (upd H a o) h h' where
  keep := fun b u q _ _ _ => k b u q
  slot := fun b u q _ _ _ => ⟨u.slots, k b u q⟩
  free := fun b u q n _ => by rw [upd_ne (Nat.ne_of_lt (Nat.lt_of_lt_of_le (Heap.lt_size q) hp))]; exact n
  there := fun b u q _ => ⟨u, k b u q⟩
  tups := fun b xs q => by rw [upd_ne (ne_of_none q hn)]; exact q
  frzs := fun b u xs q => by rw [upd_ne (ne_of_none q hn)]; exact q
  tbls := fun b ps q => ⟨#[], by rw [upd_ne (ne_of_none q hn), q]; simp⟩
theorem Un.write (mu : Mut (H x)) (he : e = x ∨ H e = some (.own x)) (k : ∀ b u, b ≠ e → h.get? b = some u → h'.get? b = some u) (heo : ∃ u, h'.get? e = some u) : Un fs ex H (upd H x o) h h' := by
  have hx : ∀ b, H b = none → b ≠ x := fun b n z => by subst z; rw [n] at mu; exact mu
  have hb : ∀ b, H b = none → b ≠ e := fun b n z => by
    subst z
    rcases he with r | r
    · exact hx b n r
    · rw [n] at r; cases r
  have hm : ∀ b u, H b = some u → ¬ Mut (some u) → b ≠ x := fun b u q nm z => by subst z; rw [q] at mu; exact nm mu
  refine ⟨fun b u q n _ _ => k b u (hb b n) q, fun b u q n _ _ => ⟨u.slots, k b u (hb b n) q⟩, fun b u q n _ => by rw [upd_ne (hx b n)]; exact n, fun b u q _ => ?_,
    fun b xs q => by rw [upd_ne (hm b _ q fun z => z)]; exact q, fun b u xs q => by rw [upd_ne (hm b _ q fun z => z)]; exact q, fun b ps q => ⟨#[], by rw [upd_ne (hm b _ q fun z => z), q]; simp⟩⟩
  by_cases hbe : b = e
  · subst hbe; exact heo
  · exact ⟨u, k b u hbe q⟩
end
def trk (h : Heap) (H : Hp) : List Addr := (List.range h.objs.size).filter fun a => (H a).isSome
def hidT (h : Heap) (H : Hp) : Heap := PySem.W.hideAll h (trk h H)
theorem hidT_size (h : Heap) (H : Hp) : (hidT h H).objs.size = h.objs.size := PySem.W.hideAll_size _ _
theorem hidT_get {h : Heap} {H : Hp} {b : Addr} {o : Obj} (e : h.get? b = some o) (n : H b = none) : (hidT h H).get? b = some o :=
  PySem.W.hideAll_get _ e fun hm => by
    have q : (H b).isSome = true := (List.mem_filter.mp hm).2
    rw [n] at q; simp at q
theorem of_hidT {h : Heap} {H : Hp} {b : Addr} {o : Obj} (e : (hidT h H).get? b = some o) : h.get? b = some o ∧ H b = none := by
  have e' : h.get? b = some o := PySem.W.of_hideAll (trk h H) e
  refine ⟨e', ?_⟩
  cases q : H b with
  | none => rfl
  | some x =>
    have hm : b ∈ trk h H := List.mem_filter.mpr ⟨List.mem_range.mpr (Heap.lt_size e'), by simp [q]⟩
    have z : (hidT h H).get? b = none := PySem.W.hideAll_none (trk h H) hm
    rw [z] at e; cases e
end L2
namespace L2
open PySem PySem.Spec PyProof.Rows
structure Mod (K : PySem.W.Frag) (mg : Str → Option Value) (base : Heap) : Prop where
  kin : K.In base
  glob : base.Ns mainGlobals mg
  blt : ∃ mb, base.Ns builtinsNs mb ∧ ∀ x : Str, x ≠ "__name__" → mb x = bootBuiltins x
  nolimit : base.NoLimit
structure Cx where
  prog : Program
  w : World
  K : PySem.W.Frag
  mg : Str → Option Value
  base : Heap
  A : Around
  N : List Str
  s₀ : Shared
  H₀ : Hp
  env : Env
  outer : List Env
  stack : List Env
  ex : List Addr
  fn : Str → Bool
  calm : Bool
  pn : List (Addr × Obj)
  xe : Value → Shared → Prop
def frs (l : List Env) : List Addr := l.filterMap (·.frame)
abbrev Cx.fs (X : Cx) : List Addr := frs X.outer
def Vis (sc : Scope) (x : Str) : Prop := sc.names.lookup x = some .local ∨ sc.names.lookup x = some .cell ∨ sc.names.lookup x = some .free
def Loc (sc : Scope) (x : Str) : Prop := sc.names.lookup x = some .local ∨ sc.names.lookup x = some .cell
def Look (env : Env) (h : Heap) (m : Str → Option Value) (x : Str) (u : Value) : Prop :=
  (env.kindOf x = some .local ∧ m x = some u) ∨ ((env.kindOf x = some .cell ∨ env.kindOf x = some .free) ∧ ∃ c, env.cells.lookup x = some c ∧ h.IsCell c (some u))
structure Cx.Ok (X : Cx) : Prop where
  mod : Mod X.K X.mg X.base
  kind : X.env.scope.kind = .function
  glob : X.env.globals = mainGlobals
  blt : X.env.builtins = builtinsNs
  above : X.s₀.heap.objs.size ≤ X.env.locals
  inj : ∀ x y c, X.env.cells.lookup x = some c → X.env.cells.lookup y = some c → x = y
  has : ∀ x, (X.env.kindOf x = some .cell ∨ X.env.kindOf x = some .free) → ∃ c, X.env.cells.lookup x = some c
  cab : ∀ x c, X.fn x = true → X.env.cells.lookup x = some c → X.s₀.heap.objs.size ≤ c
  hd : X.calm = true → X.A.handled = none
  frames : X.A.frames = some X.stack
  stk : X.stack = X.outer ∨ (X.stack = X.env :: X.outer ∧ X.env.frame = some X.env.locals)
  exf : ∀ b ∈ X.ex, b ≠ X.env.locals ∧ ∀ x c, X.env.cells.lookup x = some c → c ≠ b
  bs : ∀ b o, X.base.get? b = some o → X.s₀.heap.get? b = some o ∧ X.H₀ b = none
  bsz : X.base.objs.size ≤ X.s₀.heap.objs.size
  noex : ∀ b o, X.base.get? b = some o → b ∉ X.ex
  exfs : ∀ b ∈ X.ex, b ∉ X.fs
  funs : X.s₀.heap.FunFrames X.base X.outer
  frf : ∀ b ∈ X.fs, X.H₀ b = none
structure Inv (X : Cx) (pins : List (Addr × Obj)) (σ : List (Option V)) (H : Hp) (s : Shared) : Prop where
  ok : X.Ok
  os : s.os = X.s₀.os
  bare : AllBare s.gens
  base : Un X.fs X.ex X.H₀ H X.s₀.heap s.heap
  loc : ∃ m, s.heap.Ns X.env.locals m ∧ ∀ (i : Nat) (x : Str) (v : V), X.N[i]? = some x → σ[i]? = some (some v) → Vis X.env.scope x → ∃ u, RelV v u ∧ Look X.env s.heap m x u
  cell : ∀ x c, X.env.cells.lookup x = some c → ∃ v, s.heap.IsCell c v
  free : H X.env.locals = none
  freeC : ∀ x c, X.env.cells.lookup x = some c → H c = none
  pin : ∀ p ∈ X.pn ++ pins, s.heap.get? p.1 = some p.2 ∧ H p.1 = none ∧ p.1 ≠ X.env.locals ∧ p.1 ∉ X.fs ∧ ∀ v, p.2.data ≠ .cell v
  hok : HOk X.prog X.w H s.heap
  len : σ.length = X.N.length
section
variable {X : Cx} {pins : List (Addr × Obj)} {σ : List (Option V)} {H H' : Hp} {s : Shared} {h' : Heap}
theorem Cx.Ok.nofr (ok : X.Ok) {b : Addr} {o : Obj} (e : X.base.get? b = some o) : b ∉ X.fs := fun hb => by
  have := (ok.funs.mem hb).1
  rw [e] at this; cases this
theorem Inv.bs (I : Inv X pins σ H s) : ∀ b o, X.base.get? b = some o → s.heap.get? b = some o ∧ H b = none := fun b o e =>
  ⟨I.base.keep b o (I.ok.bs b o e).1 (I.ok.bs b o e).2 (I.ok.nofr e) (I.ok.noex b o e), I.base.free b o (I.ok.bs b o e).1 (I.ok.bs b o e).2 (I.ok.noex b o e)⟩
theorem Inv.bk (I : Inv X pins σ H s) : ∀ b o, X.base.get? b = some o → s.heap.get? b = some o := fun b o e => (I.bs b o e).1
theorem Inv.mod (I : Inv X pins σ H s) : Mod X.K X.mg X.base := I.ok.mod
theorem Inv.kIn (I : Inv X pins σ H s) : X.K.In s.heap := I.ok.mod.kin.keeps I.bk
theorem Inv.lt (I : Inv X pins σ H s) : X.env.locals < s.heap.objs.size := let ⟨_, hn, _⟩ := I.loc; hn.lt
theorem Inv.sz (I : Inv X pins σ H s) : X.s₀.heap.objs.size ≤ s.heap.objs.size := Nat.le_trans I.ok.above (Nat.le_of_lt I.lt)
theorem Inv.nofs (I : Inv X pins σ H s) {a : Addr} (h : s.heap.objs.size ≤ a) : a ∉ X.fs := fun hb => by
  obtain ⟨_, o, ho, _⟩ := I.ok.funs.mem hb
  exact absurd (Nat.lt_of_lt_of_le (Heap.lt_size ho) (Nat.le_trans I.sz h)) (Nat.lt_irrefl _)
theorem Inv.cne (I : Inv X pins σ H s) : ∀ x c, X.env.cells.lookup x = some c → c ≠ X.env.locals := fun x c e z => by
  obtain ⟨v, o, ho, hd⟩ := I.cell x c e
  obtain ⟨m, ⟨o', es, ep, ho', hd', _⟩, _⟩ := I.loc
  rw [z, ho'] at ho; cases ho; rw [hd'] at hd; cases hd
theorem Inv.funs (I : Inv X pins σ H s) : s.heap.FunFrames X.base X.outer := by
  have all : ∀ (l : List Env), (∀ b ∈ frs l, b ∈ X.fs) → X.s₀.heap.FunFrames X.base l → s.heap.FunFrames X.base l := by
    intro l
    induction l with
    | nil => intro _ _; trivial
    | cons env r ih =>
      intro hs hl
      obtain ⟨hk, ⟨L, o, hf, hn, ho, hd⟩, hr⟩ := hl
      have hL : L ∈ X.fs := hs L (by unfold frs; rw [List.filterMap_cons, hf]; exact List.mem_cons_self)
      obtain ⟨sl, e⟩ := I.base.slot L o ho (I.ok.frf L hL) hL fun z => I.ok.exfs L z hL
      exact ⟨hk, ⟨L, _, hf, hn, e, hd⟩, ih (fun b hb => hs b (by unfold frs; rw [List.filterMap_cons, hf]; exact List.mem_cons_of_mem _ hb)) hr⟩
  exact all X.outer (fun _ hb => hb) I.ok.funs
theorem Inv.stack (I : Inv X pins σ H s) : s.heap.FunFrames X.base X.stack := by
  rcases I.ok.stk with e | ⟨e, hf⟩
  · rw [e]; exact I.funs
  · rw [e]
    obtain ⟨m, hn, _⟩ := I.loc
    refine .cons (by rw [I.ok.kind]; decide) hf hn ?_ I.funs
    exact Heap.get?_none_of_le (Nat.le_trans I.ok.bsz I.ok.above)
theorem Inv.stkSub (I : Inv X pins σ H s) : ∀ b ∈ frs X.stack, b ∈ X.env.locals :: X.fs := fun b hb => by
  rcases I.ok.stk with e | ⟨e, hf⟩
  · rw [e] at hb; exact List.mem_cons_of_mem _ hb
  · rw [e] at hb
    unfold frs at hb
    rw [List.filterMap_cons, hf] at hb
    exact hb
theorem Inv.stkFree (I : Inv X pins σ H s) : ∀ b ∈ frs X.stack, H b = none := fun b hb => by
  rcases List.mem_cons.mp (I.stkSub b hb) with e | hb
  · rw [e]; exact I.free
  · obtain ⟨_, o, ho, _⟩ := I.ok.funs.mem hb
    exact I.base.free b o ho (I.ok.frf b hb) fun z => I.ok.exfs b z hb
theorem Inv.step {g' : Array GenState} {t' : Nat} {d' : Drawn} {ch : List Addr} (I : Inv X pins σ H s)
    (hch : ∀ b ∈ ch, (b ∈ X.ex ∨ X.s₀.heap.objs.size ≤ b) ∧ b ≠ X.env.locals ∧ (∀ x c, X.env.cells.lookup x = some c → c ≠ b) ∧ ∀ p ∈ X.pn ++ pins, p.1 ≠ b)
    (keep : ∀ b o, b ≠ X.env.locals → b ∉ X.fs → b ∉ ch → s.heap.get? b = some o → H b = none → h'.get? b = some o)
    (slot : ∀ b o, b ≠ X.env.locals → b ∈ X.fs → b ∉ ch → s.heap.get? b = some o → H b = none → ∃ sl, h'.get? b = some { o with slots := sl }) (free : ∀ b o, b ∉ ch → s.heap.get? b = some o → H b = none → H' b = none)
    (there : ∀ b o, b ∉ ch → s.heap.get? b = some o → ∃ o', h'.get? b = some o')
    (tups : ∀ b xs, H b = some (.tup xs) → H' b = some (.tup xs)) (frzs : ∀ b o u, H b = some (.frz o u) → H' b = some (.frz o u)) (tbls : ∀ b ps, H b = some (.tbl ps) → ∃ more, H' b = some (.tbl (ps ++ more)))
    (ns : ∀ m, s.heap.Ns X.env.locals m → h'.Ns X.env.locals m) (hok : HOk X.prog X.w H' h') (hg : AllBare g') :
    Inv X pins σ H' { s with heap := h', gens := g', drawn := d', toks := t' } := by
  have neL : ∀ b o, X.s₀.heap.get? b = some o → b ≠ X.env.locals := fun b o e => Nat.ne_of_lt (Nat.lt_of_lt_of_le (Heap.lt_size e) I.ok.above)
  have neC : ∀ b o, X.s₀.heap.get? b = some o → b ∉ X.ex → b ∉ ch := fun b o e hx hb => by
    rcases (hch b hb).1 with z | z
    · exact hx z
    · exact absurd (Nat.lt_of_lt_of_le (Heap.lt_size e) z) (Nat.lt_irrefl _)
  have cellK : ∀ x c, X.env.cells.lookup x = some c → ∀ v, s.heap.IsCell c v → h'.IsCell c v := fun x c e v ⟨o, ho, hd⟩ => by
    have nch : c ∉ ch := fun z => (hch c z).2.2.1 x c e rfl
    by_cases hc : c ∈ X.fs
    · obtain ⟨sl, q⟩ := slot c o (I.cne x c e) hc nch ho (I.freeC x c e)
      exact ⟨_, q, hd⟩
    · exact ⟨o, keep c o (I.cne x c e) hc nch ho (I.freeC x c e), hd⟩
  refine ⟨I.ok, I.os, hg, ⟨fun b o e n hb hx => ?_, fun b o e n hb hx => ?_, fun b o e n hx => ?_, fun b o e hx => ?_, fun b xs e => tups b xs (I.base.tups b xs e), fun b o xs e => frzs b o xs (I.base.frzs b o xs e), fun b ps e => ?_⟩, ?_, fun x c e => ?_, ?_, fun x c e => ?_, fun p hp => ?_, hok, I.len⟩
  · exact keep b o (neL b o e) hb (neC b o e hx) (I.base.keep b o e n hb hx) (I.base.free b o e n hx)
  · obtain ⟨sl, e1⟩ := I.base.slot b o e n hb hx
    obtain ⟨sl', e2⟩ := slot b _ (neL b o e) hb (neC b o e hx) e1 (I.base.free b o e n hx)
    exact ⟨sl', e2⟩
  · obtain ⟨o', e1⟩ := I.base.there b o e hx
    exact free b o' (neC b o e hx) e1 (I.base.free b o e n hx)
  · obtain ⟨o', e1⟩ := I.base.there b o e hx
    exact there b o' (neC b o e hx) e1
  · obtain ⟨m1, e1⟩ := I.base.tbls b ps e
    obtain ⟨m2, e2⟩ := tbls b _ e1
    exact ⟨m1 ++ m2, by rw [e2, Array.append_assoc]⟩
  · obtain ⟨m, hn, hl⟩ := I.loc
    refine ⟨m, ns m hn, fun i x v e1 e2 e3 => ?_⟩
    obtain ⟨u, r, l⟩ := hl i x v e1 e2 e3
    refine ⟨u, r, ?_⟩
    rcases l with l | ⟨k, c, e, z⟩
    · exact .inl l
    · exact .inr ⟨k, c, e, cellK x c e _ z⟩
  · obtain ⟨v, z⟩ := I.cell x c e
    exact ⟨v, cellK x c e v z⟩
  · obtain ⟨m, ⟨o, _, _, ho, _⟩, _⟩ := I.loc
    exact free _ o (fun z => (hch _ z).2.1 rfl) ho I.free
  · obtain ⟨v, o, ho, hd⟩ := I.cell x c e
    exact free c o (fun z => (hch c z).2.2.1 x c e rfl) ho (I.freeC x c e)
  · obtain ⟨e, n, ne, nf, d⟩ := I.pin p hp
    have nch : p.1 ∉ ch := fun z => (hch p.1 z).2.2.2 p hp rfl
    exact ⟨keep p.1 p.2 ne nf nch e n, free p.1 p.2 nch e n, ne, nf, d⟩
theorem Inv.un {t' : Nat} (I : Inv X pins σ H s) (u : Un X.fs [] H H' s.heap h') (hok : HOk X.prog X.w H' h') : Inv X pins σ H' { s with heap := h', toks := t' } := by
  obtain ⟨m, ⟨o, es, ep, ho, r⟩, _⟩ := id I.loc
  obtain ⟨sl, hL⟩ := u.any ho I.free (by simp)
  exact I.step (g' := s.gens) (d' := s.drawn) (ch := []) (fun _ z => nomatch z) (fun b o _ hb _ e n => u.keep b o e n hb (by simp)) (fun b o _ hb _ e n => u.slot b o e n hb (by simp)) (fun b o _ e n => u.free b o e n (by simp)) (fun b o _ e => u.there b o e (by simp)) u.tups u.frzs u.tbls (fun m' hm => by
    obtain ⟨o', es', ep', ho', r'⟩ := hm
    rw [ho] at ho'; cases ho'
    exact ⟨_, es', ep', hL, r'⟩) hok I.bare
theorem Inv.call {g' : Array GenState} {t' : Nat} {d' : Drawn} {ch : List Addr} (I : Inv X pins σ H s) (u : Un (frs X.stack) ch H H' s.heap h') (hok : HOk X.prog X.w H' h') (hg : AllBare g')
    (hch : ∀ b ∈ ch, (b ∈ X.ex ∨ X.s₀.heap.objs.size ≤ b) ∧ b ≠ X.env.locals ∧ (∀ x c, X.env.cells.lookup x = some c → c ≠ b) ∧ ∀ p ∈ X.pn ++ pins, p.1 ≠ b) :
    Inv X pins σ H' { s with heap := h', gens := g', drawn := d', toks := t' } := by
  obtain ⟨m, ⟨o, es, ep, ho, r⟩, _⟩ := id I.loc
  obtain ⟨sl, hL⟩ := u.any ho I.free fun z => (hch _ z).2.1 rfl
  exact I.step (ch := ch) hch (fun b o hL hb hc e n => u.keep b o e n (fun z => (List.mem_cons.mp (I.stkSub b z)).elim hL hb) hc) (fun b o _ _ hc e n => u.any e n hc) (fun b o hc e n => u.free b o e n hc) (fun b o hc e => u.there b o e hc) u.tups u.frzs u.tbls (fun m' hm => by
    obtain ⟨o', es', ep', ho', r'⟩ := hm
    rw [ho] at ho'; cases ho'
    exact ⟨_, es', ep', hL, r'⟩) hok hg
theorem Inv.turned {t' : Nat} {it : Addr} (I : Inv X pins σ H s) (k : ∀ b o, b ≠ it → s.heap.get? b = some o → h'.get? b = some o) (hn : H it = none) (hL : it ≠ X.env.locals)
    (h1 : it ∈ X.ex ∨ X.s₀.heap.objs.size ≤ it) (h2 : ∀ x c, X.env.cells.lookup x = some c → c ≠ it) (h3 : ∀ p ∈ X.pn ++ pins, p.1 ≠ it) : Inv X pins σ H { s with heap := h', toks := t' } := by
  have nit : ∀ b u, H b = some u → b ≠ it := fun b u e z => by rw [z, hn] at e; cases e
  refine I.step (g' := s.gens) (d' := s.drawn) (ch := [it]) (fun b hb => ?_) (fun b o _ _ hc e _ => k b o (fun z => hc (by simp [z])) e) (fun b o _ _ hc e _ => ⟨o.slots, k b o (fun z => hc (by simp [z])) e⟩) (fun _ _ _ _ n => n)
    (fun b o hc e => ⟨o, k b o (fun z => hc (by simp [z])) e⟩) (fun _ _ e => e) (fun _ _ _ e => e) (fun b ps e => ⟨#[], by rw [e]; simp⟩) (fun m hm => ?_) (fun b u e => ?_) I.bare
  · have e : b = it := by simpa using hb
    subst e
    exact ⟨h1, hL, h2, h3⟩
  · obtain ⟨o, es, ep, ho, r⟩ := hm
    exact ⟨o, es, ep, k _ o (Ne.symm hL) ho, r⟩
  · refine (I.hok b u e).stay (fun c v hc q => k c v ?_ q) (fun _ q => q) fun _ _ q => q
    rcases hc with z | z
    · rw [z]; exact nit b u e
    · exact nit c _ z
theorem Inv.tok (I : Inv X pins σ H s) (t : Nat) : Inv X pins σ H { s with toks := t } := I.un (h' := s.heap) (t' := t) Un.refl I.hok
theorem Inv.kept {t' : Nat} (I : Inv X pins σ H s) (k : ∀ b u, s.heap.get? b = some u → h'.get? b = some u) : Inv X pins σ H { s with heap := h', toks := t' } := I.un (Un.kept k) (I.hok.kept k)
theorem Inv.laid {a : Addr} {o : HO} {t' : Nat} (I : Inv X pins σ H s) (k : ∀ b u, s.heap.get? b = some u → h'.get? b = some u) (hp : s.heap.objs.size ≤ a) (new : ObjOk X.prog X.w (upd H a o) h' a o) :
    Inv X pins σ (upd H a o) { s with heap := h', toks := t' } := I.un (Un.laid k hp (I.hok.fresh hp)) (I.hok.laid k hp new)
theorem Inv.write {x e : Addr} {o : HO} {t' : Nat} (I : Inv X pins σ H s) (mu : Mut (H x)) (he : e = x ∨ H e = some (.own x)) (k : ∀ b u, b ≠ e → s.heap.get? b = some u → h'.get? b = some u) (heo : ∃ u, h'.get? e = some u)
    (new : ObjOk X.prog X.w (upd H x o) h' x o) : Inv X pins σ (upd H x o) { s with heap := h', toks := t' } := I.un (Un.write mu he k heo) (I.hok.write mu he k heo new)
theorem Inv.pins_of {pins' : List (Addr × Obj)} (I : Inv X pins σ H s) (h : ∀ p ∈ pins', s.heap.get? p.1 = some p.2 ∧ H p.1 = none ∧ p.1 ≠ X.env.locals ∧ p.1 ∉ X.fs ∧ ∀ v, p.2.data ≠ .cell v) : Inv X pins' σ H s :=
  ⟨I.ok, I.os, I.bare, I.base, I.loc, I.cell, I.free, I.freeC, fun p hp => (List.mem_append.mp hp).elim (fun z => I.pin p (List.mem_append_left _ z)) (h p), I.hok, I.len⟩
theorem nodup_ix {N : List Str} (hN : N.Nodup) {i j : Nat} {x : Str} (a : N[i]? = some x) (b : N[j]? = some x) : i = j := by
  obtain ⟨h1, e1⟩ := List.getElem?_eq_some_iff.mp a
  obtain ⟨h2, e2⟩ := List.getElem?_eq_some_iff.mp b
  exact (List.getElem_inj hN).mp (e1.trans e2.symm)
theorem store_ok2 {M : Model} {A : Around} {E : Value → Shared → Prop} {i : Nat} {x : Str} {v : V} {u : Value} {Q : Unit → Shared → Prop} (I : Inv X pins σ H s) (hN : X.N.Nodup) (hi : X.N[i]? = some x) (hx : Loc X.env.scope x) (r : RelV v u)
    (h : ∀ s', Inv X pins (σ.set i (some v)) H s' → (∃ a, Heap.SameBut a s.heap s'.heap ∧ (a = X.env.locals ∨ X.env.cells.lookup x = some a)) → Q () s') (hf : X.fn x = true ∨ X.env.scope.names.lookup x = some .local := by first | exact .inl rfl | exact .inr rfl | assumption) : wpAny M A (storeName X.env x u) Q E s := by
  obtain ⟨m, hn, hl⟩ := id I.loc
  have hcls : (X.env.scope.kind == .class || (X.env.scope.kind == .module && X.env.locals != X.env.globals)) = false := by rw [I.ok.kind]; rfl
  have hiσ : i < σ.length := by rw [I.len]; exact (List.getElem?_eq_some_iff.mp hi).1
  have cne := I.cne
  have tracked : ∀ {a : Addr} {h' : Heap}, (∃ o, s.heap.get? a = some o ∧ H a = none) → Heap.SameBut a s.heap h' → HOk X.prog X.w H h' := fun {a h'} ha hs b ob e => by
    obtain ⟨_, _, hfree⟩ := ha
    refine (I.hok b ob e).stay (fun c w' hc q => (hs.2 c ?_).trans q) (fun _ q => q) fun _ _ q => q
    rintro rfl
    rcases hc with rfl | hc
    · rw [hfree] at e; cases e
    · rw [hfree] at hc; cases hc
  rcases hx with hk | hk
  · refine wpAny_storeName_local hk hn (fun h' hn' hs => ?_) hcls
    obtain ⟨oL, _, _, hoL, _⟩ := id hn
    refine h _ ⟨I.ok, I.os, I.bare, ⟨fun b o e n hb hx => ?_, fun b o e n hb hx => ?_, I.base.free, fun b o e hx => ?_, I.base.tups, I.base.frzs, I.base.tbls⟩, ⟨_, hn', fun j y v' e1 e2 e3 => ?_⟩, fun y c e => ?_, I.free, I.freeC, fun p hp => ?_, tracked ⟨oL, hoL, I.free⟩ hs, by simpa using I.len⟩ ⟨_, hs, .inl rfl⟩
    · exact (hs.2 b (Nat.ne_of_lt (Nat.lt_of_lt_of_le (Heap.lt_size e) I.ok.above))).trans (I.base.keep b o e n hb hx)
    · obtain ⟨sl, e1⟩ := I.base.slot b o e n hb hx
      exact ⟨sl, (hs.2 b (Nat.ne_of_lt (Nat.lt_of_lt_of_le (Heap.lt_size e) I.ok.above))).trans e1⟩
    · obtain ⟨o', e1⟩ := I.base.there b o e hx
      exact ⟨o', (hs.2 b (Nat.ne_of_lt (Nat.lt_of_lt_of_le (Heap.lt_size e) I.ok.above))).trans e1⟩
    · by_cases hj : j = i
      · subst hj
        rw [hi] at e1; cases e1
        rw [List.getElem?_set_self hiσ] at e2
        cases e2
        exact ⟨u, r, .inl ⟨hk, by simp⟩⟩
      · rw [List.getElem?_set_ne (Ne.symm hj)] at e2
        obtain ⟨u', r', q⟩ := hl j y v' e1 e2 e3
        refine ⟨u', r', ?_⟩
        rcases q with ⟨k, e⟩ | ⟨k, c, e, z⟩
        · refine .inl ⟨k, ?_⟩
          have : y ≠ x := fun e => hj (nodup_ix hN e1 (e ▸ hi))
          simp [this, e]
        · exact .inr ⟨k, c, e, z.sameBut hs (cne y c e)⟩
    · obtain ⟨w', z⟩ := I.cell y c e
      exact ⟨w', z.sameBut hs (cne y c e)⟩
    · obtain ⟨e, n, ne, nf, d⟩ := I.pin p hp
      exact ⟨(hs.2 p.1 ne).trans e, n, ne, nf, d⟩
  · have hfn : X.fn x = true := by
      rcases hf with z | z
      · exact z
      · rw [z] at hk; cases hk
    obtain ⟨c, hc⟩ := I.ok.has x (.inl hk)
    obtain ⟨w', z⟩ := I.cell x c hc
    refine wpAny_storeName_cell I.ok.kind hk hc z (fun h' hc' hs => ?_)
    obtain ⟨oc, hoc, hocd⟩ := id z
    refine h { s with heap := h' } ⟨I.ok, I.os, I.bare, ⟨fun b o e n hb hx => ?_, fun b o e n hb hx => ?_, I.base.free, fun b o e hx => ?_, I.base.tups, I.base.frzs, I.base.tbls⟩, ⟨m, hn.sameBut hs (Ne.symm (cne x c hc)), fun j y v' e1 e2 e3 => ?_⟩, fun y c' e => ?_, I.free, I.freeC, fun p hp => ?_, tracked ⟨oc, hoc, I.freeC x c hc⟩ hs, by simpa using I.len⟩ ⟨c, hs, .inr hc⟩
    · exact (hs.2 b (Nat.ne_of_lt (Nat.lt_of_lt_of_le (Heap.lt_size e) (I.ok.cab x c hfn hc)))).trans (I.base.keep b o e n hb hx)
    · obtain ⟨sl, e1⟩ := I.base.slot b o e n hb hx
      exact ⟨sl, (hs.2 b (Nat.ne_of_lt (Nat.lt_of_lt_of_le (Heap.lt_size e) (I.ok.cab x c hfn hc)))).trans e1⟩
    · obtain ⟨o', e1⟩ := I.base.there b o e hx
      exact ⟨o', (hs.2 b (Nat.ne_of_lt (Nat.lt_of_lt_of_le (Heap.lt_size e) (I.ok.cab x c hfn hc)))).trans e1⟩
    · by_cases hj : j = i
      · subst hj
        rw [hi] at e1; cases e1
        rw [List.getElem?_set_self hiσ] at e2
        cases e2
        exact ⟨u, r, .inr ⟨.inl hk, c, hc, hc'⟩⟩
      · rw [List.getElem?_set_ne (Ne.symm hj)] at e2
        obtain ⟨u', r', q⟩ := hl j y v' e1 e2 e3
        refine ⟨u', r', ?_⟩
        rcases q with q | ⟨k, c', e, z'⟩
        · exact .inl q
        · refine .inr ⟨k, c', e, z'.sameBut hs ?_⟩
          rintro rfl
          exact hj (nodup_ix hN e1 (I.ok.inj _ _ _ e hc ▸ hi))
    · by_cases hcc : c' = c
      · subst hcc; exact ⟨_, hc'⟩
      · obtain ⟨w2, z2⟩ := I.cell y c' e
        exact ⟨w2, z2.sameBut hs hcc⟩
    · obtain ⟨e, n, ne, nf, d⟩ := I.pin p hp
      refine ⟨(hs.2 p.1 ?_).trans e, n, ne, nf, d⟩
      intro q
      rw [q, hoc] at e
      have q' : oc = p.2 := Option.some.inj e
      exact d w' (by rw [← q']; exact hocd)
theorem store_ok {M : Model} {A : Around} {E : Value → Shared → Prop} {i : Nat} {x : Str} {v : V} {u : Value} {Q : Unit → Shared → Prop} (I : Inv X pins σ H s) (hN : X.N.Nodup) (hi : X.N[i]? = some x) (hx : Loc X.env.scope x) (r : RelV v u)
    (h : ∀ s', Inv X pins (σ.set i (some v)) H s' → Q () s') (hf : X.fn x = true ∨ X.env.scope.names.lookup x = some .local := by first | exact .inl rfl | exact .inr rfl | assumption) : wpAny M A (storeName X.env x u) Q E s :=
  store_ok2 I hN hi hx r (fun s' I' _ => h s' I') hf
theorem Inv.call' {s' : Shared} {ch : List Addr} (I : Inv X pins σ H s) (ho : s'.os = s.os) (u : Un (frs X.stack) ch H H' s.heap s'.heap) (hok : HOk X.prog X.w H' s'.heap) (hg : AllBare s'.gens)
    (hch : ∀ b ∈ ch, (b ∈ X.ex ∨ X.s₀.heap.objs.size ≤ b) ∧ b ≠ X.env.locals ∧ (∀ x c, X.env.cells.lookup x = some c → c ≠ b) ∧ ∀ p ∈ X.pn ++ pins, p.1 ≠ b) : Inv X pins σ H' s' := by
  obtain ⟨h', g', d', t', o'⟩ := s'
  have e : o' = s.os := ho
  subst e
  exact I.call (g' := g') (t' := t') (d' := d') u hok hg hch
end
abbrev XK := Value → Option Addr → Hp → Prop
abbrev St := List (Option V)
abbrev VK := V → Hp → Prop
abbrev TE := St → Hp → VK → Prop
abbrev TT := St → Hp → (Bool → Hp → Prop) → Prop
abbrev TA := St → Hp → (List V → Hp → Prop) → Prop
structure Ends where
  nx : St → Hp → Prop
  rt : VK
  bk : St → Hp → Prop := fun _ _ => False
  ct : St → Hp → Prop := fun _ _ => False
abbrev TS := Ends → St → Hp → Prop
def EP (X : Cx) (pins : List (Addr × Obj)) (σ : St) (Q : VK) (u : Value) (s' : Shared) : Prop := ∃ v H', Inv X pins σ H' s' ∧ RelV v u ∧ Q v H'
def TP (X : Cx) (pins : List (Addr × Obj)) (σ : St) (Q : Bool → Hp → Prop) (b : Bool) (s' : Shared) : Prop := ∃ H', Inv X pins σ H' s' ∧ Q b H'
def AP (X : Cx) (pins : List (Addr × Obj)) (σ : St) (Q : List V → Hp → Prop) (us : List Value) (s' : Shared) : Prop := ∃ vs H', Inv X pins σ H' s' ∧ Vals vs us ∧ Q vs H'
def SP (X : Cx) (pins : List (Addr × Obj)) (D : Ends) (f : Flow) (s' : Shared) : Prop :=
  match f with
  | .next => ∃ σ' H', Inv X pins σ' H' s' ∧ D.nx σ' H'
  | .brk => ∃ σ' H', Inv X pins σ' H' s' ∧ D.bk σ' H'
  | .cont => ∃ σ' H', Inv X pins σ' H' s' ∧ D.ct σ' H'
  | .ret u => ∃ v σ' H', Inv X pins σ' H' s' ∧ RelV v u ∧ D.rt v H'
def PE (X : Cx) (e : Expr) (t : TE) : Prop :=
  ∀ (pins : List (Addr × Obj)) (s : Shared) (σ : St) (H : Hp) (Q : VK), Inv X pins σ H s → t σ H Q → wpAny (model X.prog X.w) X.A (eval e X.env) (EP X pins σ Q) X.xe s
def PT (X : Cx) (e : Expr) (t : TT) : Prop :=
  ∀ (pins : List (Addr × Obj)) (s : Shared) (σ : St) (H : Hp) (Q : Bool → Hp → Prop), Inv X pins σ H s → t σ H Q → wpAny (model X.prog X.w) X.A (isTrue e X.env (eval e X.env)) (TP X pins σ Q) X.xe s
def PW (X : Cx) (e : Expr) (t : TT) : Prop :=
  ∀ (whole : Sem Value) (pins : List (Addr × Obj)) (s : Shared) (σ : St) (H : Hp) (Q : Bool → Hp → Prop), Inv X pins σ H s → t σ H Q → wpAny (model X.prog X.w) X.A (isTrue e X.env whole) (TP X pins σ Q) X.xe s
theorem PW.pt {X : Cx} {e : Expr} {t : TT} (h : PW X e t) : PT X e t := h _
def PA (X : Cx) (es : List Expr) (t : TA) : Prop :=
  ∀ (pos : Pos) (pins : List (Addr × Obj)) (s : Shared) (σ : St) (H : Hp) (Q : List V → Hp → Prop), Inv X pins σ H s → t σ H Q → wpAny (model X.prog X.w) X.A (spliced (backTo pos (starEach es X.env))) (AP X pins σ Q) X.xe s
def PS (X : Cx) (st : Stmt) (t : TS) : Prop :=
  ∀ (pins : List (Addr × Obj)) (s : Shared) (σ : St) (H : Hp) (D : Ends), Inv X pins σ H s → t D σ H → wpAny (model X.prog X.w) X.A (exec st X.env) (SP X pins D) X.xe s
def PSs (X : Cx) (st : List Stmt) (t : TS) : Prop :=
  ∀ (pins : List (Addr × Obj)) (s : Shared) (σ : St) (H : Hp) (D : Ends), Inv X pins σ H s → t D σ H → wpAny (model X.prog X.w) X.A (execs st X.env) (SP X pins D) X.xe s
theorem thn {α : Type} {t : Sem α} {Q Q' : α → Shared → Prop} {M : Model} {A : Around} {E : Value → Shared → Prop} {s : Shared} (h : wpAny M A t Q E s) (hQ : ∀ a s, Q a s → Q' a s) : wpAny M A t Q' E s := wpAny_mono h hQ fun _ _ x => x
end L2
namespace L2
open PySem PySem.Spec PyProof.Rows
section
variable {X : Cx}
def tVar (i : Nat) : TE := fun σ H Q => ∃ v, σ[i]? = some (some v) ∧ Q v H
def tC (v : V) : TE := fun _ H Q => Q v H
theorem pe_var {i : Nat} {x : Str} {pos : Pos} (hN : X.N[i]? = some x) (hv : Vis X.env.scope x) (hd : (x == ("__debug__" : Str)) = false := by decide) (hcd : (x == ("__classdict__" : Str)) = false := by decide) : PE X (.Name x pos) (tVar i) := by
  intro pins s σ H Q I h
  obtain ⟨v, e, h⟩ := h
  obtain ⟨m, hn, hl⟩ := I.loc
  obtain ⟨u, r, l⟩ := hl i x v hN e hv
  have fin : EP X pins σ Q u s := ⟨v, H, I, r, h⟩
  rcases l with ⟨hk, hm⟩ | ⟨hk, c, hc, hcell⟩
  · exact wpAny_Name (wpAny_loadName_local I.ok.kind hk hn hm fin) hd
  · rcases hk with hk | hk
    · exact wpAny_Name (wpAny_loadName_cell I.ok.kind hk hc hcell fin) hd
    · exact wpAny_Name (wpAny_loadName_free I.ok.kind hk hc hcell fin hcd) hd
theorem pe_int {i j pos} : PE X (.Constant (.int i) j pos) (tC (.int i)) := fun _ _ _ H _ I h => wpAny_Constant_int ⟨.int i, H, I.tok _, ⟨_, rfl⟩, h⟩
theorem pe_bl {b j pos} : PE X (.Constant (.bool b) j pos) (tC (.bl b)) := fun _ _ _ H _ I h => Constant_bool ⟨.bl b, H, I, rfl, h⟩
theorem pe_str {x j pos} : PE X (.Constant (.str x) j pos) (tC (.str x)) := fun _ _ _ H _ I h => Calls.Constant_str ⟨.str x, H, I.tok _, ⟨_, rfl⟩, h⟩
def Gl (X : Cx) (x : Str) : Prop := X.env.kindOf x = some .globalImplicit
theorem ld_glob {E : Value → Shared → Prop} {pins : List (Addr × Obj)} {s : Shared} {σ : St} {H : Hp} {x : Str} {u : Value} {pos : Pos} {Q : Value → Shared → Prop} (I : Inv X pins σ H s) (hg : Gl X x) (hm : X.mg x = some u) (h : Q u s)
    (hd : (x == ("__debug__" : Str)) = false := by decide) : wpAny (model X.prog X.w) X.A (eval (.Name x pos) X.env) Q E s :=
  Calls.Name_function_global I.ok.kind hg (Calls.loadGlobal_global (by rw [I.ok.glob]; exact I.mod.glob.keeps I.bk) hm h) hd
theorem ld_blt {E : Value → Shared → Prop} {pins : List (Addr × Obj)} {s : Shared} {σ : St} {H : Hp} {x : Str} {u : Value} {pos : Pos} {Q : Value → Shared → Prop} (I : Inv X pins σ H s) (hg : Gl X x) (hm : X.mg x = none) (hv : bootBuiltins x = some u) (h : Q u s)
    (hn : x ≠ "__name__" := by decide) (hd : (x == ("__debug__" : Str)) = false := by decide) : wpAny (model X.prog X.w) X.A (eval (.Name x pos) X.env) Q E s := by
  obtain ⟨mb, h1, h2⟩ := I.mod.blt
  exact Calls.Name_function_global I.ok.kind hg (Calls.loadGlobal_builtin (by rw [I.ok.glob]; exact I.mod.glob.keeps I.bk) hm (by rw [I.ok.blt]; exact h1.keeps I.bk) ((h2 x hn).trans hv) h) hd
theorem pe_glob {x : Str} {v : V} {u : Value} {pos : Pos} (hg : Gl X x) (hm : X.mg x = some u) (r : RelV v u) (hd : (x == ("__debug__" : Str)) = false := by decide) : PE X (.Name x pos) (tC v) :=
  fun _ _ _ H _ I h => ld_glob I hg hm ⟨v, H, I, r, h⟩ hd
theorem pe_bltn {x : Str} {v : V} {u : Value} {pos : Pos} (hg : Gl X x) (hm : X.mg x = none) (hv : bootBuiltins x = some u) (r : RelV v u) (hn : x ≠ "__name__" := by decide) (hd : (x == ("__debug__" : Str)) = false := by decide) : PE X (.Name x pos) (tC v) :=
  fun _ _ _ H _ I h => ld_blt I hg hm hv ⟨v, H, I, r, h⟩ hn hd
variable {a b : Expr} {ta tb : TE} {pos : Pos}
def tB (t : TE) : TT := fun σ H Q => t σ H fun x H1 => ∃ c, x = .bl c ∧ Q c H1
theorem pt_val {e : Expr} {t : TE} (h : PE X e t) (he : ∀ whole, isTrue e X.env whole = (do let v ← whole; standAt e.pos; holding [v] (truthy v)) := by intro _; rfl) : PT X e (tB t) := by
  intro pins s σ H Q I hw
  refine isTrue_plain (thn (h pins s σ H _ I hw) fun v s1 ⟨x, H1, I1, r1, q1⟩ => ?_) (he _)
  obtain ⟨d, rfl, q⟩ := q1
  cases r1
  exact wpAny_truthy_bool ⟨H1, I1, q⟩
variable {tA tB' : TT} {rest : List Expr}
def tAnd (t u : TT) : TT := fun σ H Q => t σ H fun c H1 => if c = true then u σ H1 Q else Q false H1
def tOr (t u : TT) : TT := fun σ H Q => t σ H fun c H1 => if c = true then Q true H1 else u σ H1 Q
def tNot (t : TT) : TT := fun σ H Q => t σ H fun c H1 => Q (!c) H1
theorem pw_and1 (ha : PT X a tA) : PW X (.BoolOp .And [a] pos) tA := by
  intro wh pins s σ H Q I h
  refine isTrue_and (thn (ha pins s σ H Q I h) fun c s1 e => ?_)
  cases c with
  | true => exact isTrue_and_nil e
  | false => exact e
theorem pw_or1 (ha : PT X a tA) : PW X (.BoolOp .Or [a] pos) tA := by
  intro wh pins s σ H Q I h
  refine isTrue_or (thn (ha pins s σ H Q I h) fun c s1 e => ?_)
  cases c with
  | false => exact isTrue_or_nil e
  | true => exact e
theorem pw_and (ha : PT X a tA) (hb : PW X (.BoolOp .And (b :: rest) pos) tB') : PW X (.BoolOp .And (a :: b :: rest) pos) (tAnd tA tB') := by
  intro wh pins s σ H Q I h
  refine isTrue_and (thn (ha pins s σ H _ I h) fun c s1 ⟨H1, I1, q1⟩ => ?_)
  cases c with
  | true => exact hb wh pins s1 σ H1 Q I1 q1
  | false => exact ⟨H1, I1, q1⟩
theorem pw_or (ha : PT X a tA) (hb : PW X (.BoolOp .Or (b :: rest) pos) tB') : PW X (.BoolOp .Or (a :: b :: rest) pos) (tOr tA tB') := by
  intro wh pins s σ H Q I h
  refine isTrue_or (thn (ha pins s σ H _ I h) fun c s1 ⟨H1, I1, q1⟩ => ?_)
  cases c with
  | true => exact ⟨H1, I1, q1⟩
  | false => exact hb wh pins s1 σ H1 Q I1 q1
theorem pt_not (ha : PT X a tA) : PT X (.UnaryOp .Not a pos) (tNot tA) := by
  intro pins s σ H Q I h
  exact isTrue_not (ha pins s σ H (fun c H1 => Q (!c) H1) I h)
def tAndV (ta tb : TE) : TE := fun σ H Q => ta σ H fun x H1 => ∃ c, x = .bl c ∧ if c = true then tb σ H1 Q else Q (.bl false) H1
theorem pe_one {op} {t : TE} (h : PE X a t) : PE X (.BoolOp op [a] pos) t := fun pins s σ H Q I hw => BoolOp_one (h pins s σ H Q I hw)
theorem pe_and (ha : PE X a ta) (hb : PE X (.BoolOp .And (b :: rest) pos) tb) : PE X (.BoolOp .And (a :: b :: rest) pos) (tAndV ta tb) := by
  intro pins s σ H Q I h
  refine BoolOp_and (thn (ha pins s σ H _ I h) fun v s1 ⟨x, H1, I1, r1, q1⟩ => ?_)
  obtain ⟨c, rfl, q1⟩ := q1
  cases r1
  refine wpAny_truthy_bool ?_
  cases c with
  | true => exact hb pins s1 σ H1 Q I1 q1
  | false => exact ⟨.bl false, H1, I1, rfl, q1⟩
end
end L2
namespace L2
open PySem PySem.Spec PyProof.Rows
def SqL (K : PySem.W.Frag) (H : Hp) (a : Addr) (xs : List V) : Prop :=
  Rd H a (.lst xs) ∨
    ∃ (o : Obj) (its : Array Value) (n : Nat), K.lookup a = some o ∧ o.cls = .type "list" ∧ o.dict = none ∧ o.data = .seq its n ∧ its.size ≤ sizeLine ∧ Vals xs its.toList
def SqT (K : PySem.W.Frag) (H : Hp) (a : Addr) (xs : List V) : Prop :=
  Rd H a (.tup xs) ∨
    ∃ (o : Obj) (its : Array Value) (n : Nat), K.lookup a = some o ∧ o.cls = .type "tuple" ∧ o.data = .seq its n ∧ its.size ≤ sizeLine ∧ Vals xs its.toList
def absV : Value → Option V
  | .none => some .non
  | .bool b => some (.bl b)
  | .int i _ => some (.int i)
  | .str x _ => some (.str x)
  | .bytes b _ => some (.byt b)
  | .float b _ => some (.flt b)
  | .ref a => some (.ref a)
  | .type n => some (.ty n)
  | _ => none
theorem RelV.abs {x : V} {u : Value} (r : RelV x u) : absV u = some x := by
  cases x with
  | non => cases r; rfl
  | bl _ => cases r; rfl
  | int _ => obtain ⟨t, rfl⟩ := r; rfl
  | str _ => obtain ⟨t, rfl⟩ := r; rfl
  | byt _ => obtain ⟨t, rfl⟩ := r; rfl
  | flt _ => obtain ⟨t, rfl⟩ := r; rfl
  | ref _ => cases r; rfl
  | ty _ => cases r; rfl
theorem RelV.inj {x y : V} {u : Value} (r : RelV x u) (q : RelV y u) : x = y := Option.some.inj (r.abs.symm.trans q.abs)
theorem Vals.inj : ∀ {xs ys : List V} {us : List Value}, Vals xs us → Vals ys us → xs = ys
  | _, _, _, .nil, .nil => rfl
  | _, _, _, .cons r t, .cons r' t' => by rw [r.inj r', Vals.inj t t']
section
variable {X : Cx} {pins : List (Addr × Obj)} {σ : St} {H : Hp} {s : Shared} {a : Addr} {xs ys : List V}
theorem SqL.of {K : PySem.W.Frag} (h : H a = some (.lst xs)) : SqL K H a xs := .inl (.inl h)
theorem SqT.of {K : PySem.W.Frag} (h : H a = some (.tup xs)) : SqT K H a xs := .inl (.inl h)
theorem Inv.list (I : Inv X pins σ H s) (h : SqL X.K H a xs) : ∃ its : List Value, Vals xs its ∧ PlainL s.heap a its.toArray ∧ xs.length ≤ sizeLine := by
  rcases h with h | ⟨o, its, n, hk, hc, hd, hs, hz, r⟩
  · obtain ⟨z, its, n, r, e⟩ := h.ok I.hok
    exact ⟨its, r, ⟨_, n, e, rfl, rfl, rfl⟩, z⟩
  · refine ⟨its.toList, r, ⟨o, n, I.kIn a o hk, hc, hd, by simpa using hs⟩, ?_⟩
    have e := r.length
    simp only [Array.length_toList] at e
    omega
theorem Inv.tuple (I : Inv X pins σ H s) (h : SqT X.K H a xs) : ∃ its : List Value, Vals xs its ∧ IsTup s.heap a its.toArray ∧ xs.length ≤ sizeLine := by
  rcases h with h | ⟨o, its, n, hk, hc, hs, hz, r⟩
  · obtain ⟨z, its, r, p⟩ := h.ok I.hok
    exact ⟨its, r, p, z⟩
  · refine ⟨its.toList, r, ⟨o, I.kIn a o hk, hc, n, by simpa using hs⟩, ?_⟩
    have e := r.length
    simp only [Array.length_toList] at e
    omega
theorem Inv.list_inj (I : Inv X pins σ H s) (h : SqL X.K H a xs) (h' : SqL X.K H a ys) : xs = ys := by
  obtain ⟨its, r, ⟨o, n, e, _, _, d⟩, _⟩ := I.list h
  obtain ⟨its', r', ⟨o', n', e', _, _, d'⟩, _⟩ := I.list h'
  rw [e] at e'; cases e'
  rw [d] at d'
  injection d' with d1 _
  have : its = its' := by simpa using congrArg Array.toList d1
  subst this
  exact r.inj r'
theorem Inv.tuple_inj (I : Inv X pins σ H s) (h : SqT X.K H a xs) (h' : SqT X.K H a ys) : xs = ys := by
  obtain ⟨its, r, ⟨o, e, _, n, d⟩, _⟩ := I.tuple h
  obtain ⟨its', r', ⟨o', e', _, n', d'⟩, _⟩ := I.tuple h'
  rw [e] at e'; cases e'
  rw [d] at d'
  injection d' with d1 _
  have : its = its' := by simpa using congrArg Array.toList d1
  subst this
  exact r.inj r'
end
abbrev Cx.wish (X : Cx) (E : Value → Shared → Prop) : Cx := { X with xe := E }
abbrev Cx.nox (X : Cx) : Cx := X.wish fun _ _ => False
theorem Cx.Ok.wish {X : Cx} (ok : X.Ok) (E : Value → Shared → Prop) : (X.wish E).Ok :=
  ⟨ok.mod, ok.kind, ok.glob, ok.blt, ok.above, ok.inj, ok.has, ok.cab, ok.hd, ok.frames, ok.stk, ok.exf, ok.bs, ok.bsz, ok.noex, ok.exfs, ok.funs, ok.frf⟩
theorem Cx.Ok.unwish {X : Cx} {E : Value → Shared → Prop} (ok : (X.wish E).Ok) : X.Ok :=
  ⟨ok.mod, ok.kind, ok.glob, ok.blt, ok.above, ok.inj, ok.has, ok.cab, ok.hd, ok.frames, ok.stk, ok.exf, ok.bs, ok.bsz, ok.noex, ok.exfs, ok.funs, ok.frf⟩
section
variable {X : Cx} {pins : List (Addr × Obj)} {σ : St} {H : Hp} {s : Shared} {E : Value → Shared → Prop}
theorem Inv.wish (I : Inv X pins σ H s) (E : Value → Shared → Prop) : Inv (X.wish E) pins σ H s := ⟨I.ok.wish E, I.os, I.bare, I.base, I.loc, I.cell, I.free, I.freeC, I.pin, I.hok, I.len⟩
theorem Inv.unwish (I : Inv (X.wish E) pins σ H s) : Inv X pins σ H s := ⟨I.ok.unwish, I.os, I.bare, I.base, I.loc, I.cell, I.free, I.freeC, I.pin, I.hok, I.len⟩
theorem SP.unwish {D : Ends} {f : Flow} {s' : Shared} (h : SP (X.wish E) pins D f s') : SP X pins D f s' := by
  cases f with
  | next => obtain ⟨σ', H', I, q⟩ := h; exact ⟨σ', H', I.unwish, q⟩
  | brk => obtain ⟨σ', H', I, q⟩ := h; exact ⟨σ', H', I.unwish, q⟩
  | cont => obtain ⟨σ', H', I, q⟩ := h; exact ⟨σ', H', I.unwish, q⟩
  | ret u => obtain ⟨v, σ', H', I, r, q⟩ := h; exact ⟨v, σ', H', I.unwish, r, q⟩
theorem PSs.nox {st : List Stmt} {t : TS} (h : PSs X.nox st t) : PSs X st t := fun pins s σ H D I hw =>
  wpAny_mono (h pins s σ H D (I.wish _) hw) (fun _ _ q => q.unwish) fun _ _ z => False.elim z
end
section
variable {X : Cx} {st : Stmt} {rest : List Stmt} {t u : TS} {e : Expr} {te : TE} {pos : Pos}
def tNext : TS := fun D σ H => D.nx σ H
def tSeq (t u : TS) : TS := fun D σ H => t { D with nx := u D } σ H
theorem pss_nil : PSs X [] tNext := fun _ _ σ H _ I h => wpAny_execs_nil ⟨σ, H, I, h⟩
theorem pss_cons (h1 : PS X st t) (h2 : PSs X rest u) : PSs X (st :: rest) (tSeq t u) := by
  intro pins s σ H D I h
  refine wpAny_execs_cons (thn (h1 pins s σ H { D with nx := u D } I h) fun f s1 q => ?_)
  cases f with
  | next =>
    obtain ⟨σ', H', I', q⟩ := q
    exact h2 pins s1 σ' H' D I' q
  | ret v => exact q
  | brk => exact q
  | cont => exact q
theorem pss_one (h1 : PS X st t) : PSs X [st] t := by
  intro pins s σ H D I h
  refine wpAny_execs_cons (thn (h1 pins s σ H D I h) fun f s1 q => ?_)
  cases f with
  | next => exact wpAny_execs_nil q
  | ret v => exact q
  | brk => exact q
  | cont => exact q
theorem Inv.quiet {pins : List (Addr × Obj)} {σ : St} {H : Hp} {s : Shared} (I : Inv X pins σ H s) : interactive X.env = false := by simp [interactive, I.ok.kind]
def tDrop (te : TE) : TS := fun D σ H => te σ H fun _ H1 => D.nx σ H1
theorem ps_expr (he : PE X e te) (hs : swapsWith e none pos.line X.env = pure false := by rfl) : PS X (.Expr e pos) (tDrop te) := by
  intro pins s σ H D I h
  exact wpAny_Expr_any (thn (he pins s σ H _ I h) fun v s1 ⟨x, H1, I1, r1, q1⟩ => ⟨σ, H1, I1, q1⟩) I.quiet hs
def tRet (te : TE) : TS := fun D σ H => te σ H D.rt
theorem ps_ret (he : PE X e te) : PS X (.Return (some e) pos) (tRet te) := by
  intro pins s σ H D I h
  exact wpAny_Return_some (thn (he pins s σ H _ I h) fun v s1 ⟨x, H1, I1, r1, q1⟩ => ⟨x, σ, H1, I1, r1, q1⟩)
def tIfS (c : TT) (t u : TS) : TS := fun D σ H => c σ H fun b H1 => if b = true then t D σ H1 else u D σ H1
theorem ps_if {c : Expr} {a b : List Stmt} {tc : TT} (hc : PT X c tc) (ha : PSs X a t) (hb : PSs X b u) : PS X (.If c a b pos) (tIfS tc t u) := by
  intro pins s σ H D I h
  refine wpAny_If (thn (hc pins s σ H _ I h) fun d s1 ⟨H1, I1, q1⟩ => ?_)
  cases d with
  | true => exact ha pins s1 σ H1 D I1 q1
  | false => exact hb pins s1 σ H1 D I1 q1
end
abbrev TG := V → St → Hp → (St → Hp → Prop) → Prop
abbrev TGs := List V → St → Hp → (St → Hp → Prop) → Prop
def PG (X : Cx) (target : Expr) (t : TG) : Prop :=
  ∀ (pins : List (Addr × Obj)) (s : Shared) (σ : St) (H : Hp) (v : V) (u : Value) (Q : St → Hp → Prop), Inv X pins σ H s → RelV v u → t v σ H Q →
    wpAny (model X.prog X.w) X.A (assign target X.env u) (fun _ s' => ∃ σ' H', Inv X pins σ' H' s' ∧ Q σ' H') X.xe s
def PGs (X : Cx) (ts : List Expr) (t : TGs) : Prop :=
  ∀ (pins : List (Addr × Obj)) (s : Shared) (σ : St) (H : Hp) (vs : List V) (us : List Value) (Q : St → Hp → Prop), Inv X pins σ H s → Vals vs us → t vs σ H Q →
    wpAny (model X.prog X.w) X.A (assignInOrder ((assignEach ts X.env).map (·.2)) us) (fun _ s' => ∃ σ' H', Inv X pins σ' H' s' ∧ Q σ' H') X.xe s
section
variable {X : Cx} {pos : Pos}
def gName (i : Nat) : TG := fun v σ H Q => Q (σ.set i (some v)) H
theorem pg_name {i : Nat} {x : Str} (hN : X.N.Nodup) (hi : X.N[i]? = some x) (hx : Loc X.env.scope x) (hf : X.fn x = true ∨ X.env.scope.names.lookup x = some .local := by first | exact .inl rfl | exact .inr rfl | assumption) : PG X (.Name x pos) (gName i) := by
  intro pins s σ H v u Q I r h
  exact wpAny_assign_Name (store_ok I hN hi hx r (fun s' I' => ⟨_, H, I', h⟩) hf)
def gNil : TGs := fun vs σ H Q => vs = [] ∧ Q σ H
def gCons (t : TG) (u : TGs) : TGs := fun vs σ H Q => ∃ v r, vs = v :: r ∧ t v σ H fun σ' H' => u r σ' H' Q
theorem pgs_nil : PGs X [] gNil := by
  intro pins s σ H vs us Q I r h
  obtain ⟨e, h⟩ := h
  subst e
  cases r
  exact assignInOrder_nil ⟨σ, H, I, h⟩
theorem pgs_cons {e : Expr} {es : List Expr} {t : TG} {u : TGs} (h1 : PG X e t) (h2 : PGs X es u)
    (hs : (assignEach (e :: es) X.env).map (·.2) = assign e X.env :: (assignEach es X.env).map (·.2) := by rfl) : PGs X (e :: es) (gCons t u) := by
  intro pins s σ H vs us Q I r h
  obtain ⟨v, vr, e1, h⟩ := h
  subst e1
  cases r with
  | cons r rr =>
    rw [hs]
    refine assignInOrder_cons (thn (h1 pins s σ H _ _ _ I r h) fun _ s1 ⟨σ1, H1, I1, q1⟩ => ?_)
    exact h2 pins s1 σ1 H1 _ _ Q I1 rr q1
def gTup (K : PySem.W.Frag) (n : Nat) (t : TGs) : TG := fun v σ H Q => ∃ a xs, v = .ref a ∧ SqT K H a xs ∧ xs.length = n ∧ t xs σ H Q
theorem pg_tup {es : List Expr} {k : Nat} {t : TGs} {n : Nat} (hc : X.calm = true) (h : PGs X es t)
    (hn : (assignEach es X.env).length = n := by rfl) (hst : (assignEach es X.env).findIdx? (·.1) = none := by rfl) : PG X (.Tuple es k pos) (gTup X.K n t) := by
  intro pins s σ H v u Q I r hw
  obtain ⟨a, xs, e1, hq, hl, hw⟩ := hw
  subst e1
  cases r
  obtain ⟨its, rv, ht, hz⟩ := I.tuple hq
  refine assign_Tuple_tuple (I.ok.hd hc) ht (by simp [hn, ← hl, rv.length]) hst fun h' hx => ?_
  have I1 : Inv X pins σ H { s with heap := h' } := I.kept (t' := s.toks) fun b o e => hx b o (Nat.ne_of_lt (Heap.lt_size e)) e
  exact h pins _ σ H xs _ Q I1 (by simpa using rv) hw
def tAsg (te : TE) (g : TG) : TS := fun D σ H => te σ H fun x H1 => g x σ H1 D.nx
theorem ps_asg {tg e : Expr} {te : TE} {g : TG} (he : PE X e te) (hg : PG X tg g) (hs : swapsWithSole [tg] e pos.line X.env = pure false := by rfl) (hw : swappedStores [tg] e X.env = pure none := by rfl)
    (h1 : (assignEach [tg] X.env).map (·.2) = [assign tg X.env] := by rfl) : PS X (.Assign [tg] e pos) (tAsg te g) := by
  intro pins s σ H D I h
  refine wpAny_Assign_stores (thn (he pins s σ H _ I h) fun v s1 ⟨x, H1, I1, r1, q1⟩ => ?_) hs hw
  rw [h1]
  exact thn (hg pins s1 σ H1 x v _ I1 r1 q1) fun _ s2 q => q
theorem ps_set {i : Nat} {x : Str} {e : Expr} {te : TE} {pos' : Pos} (hN : X.N.Nodup) (hi : X.N[i]? = some x) (hx : Loc X.env.scope x) (he : PE X e te) (hs : swapsWith e (some (.Name x pos')) pos.line X.env = pure false := by rfl) (hf : X.fn x = true ∨ X.env.scope.names.lookup x = some .local := by first | exact .inl rfl | exact .inr rfl | assumption) :
    PS X (.Assign [.Name x pos'] e pos) (tAsg te (gName i)) := by
  intro pins s σ H D I h
  refine wpAny_Assign_Name (thn (he pins s σ H _ I h) fun v s1 ⟨y, H1, I1, r1, q1⟩ => ?_) hs
  exact store_ok I1 hN hi hx r1 (fun s2 I2 => ⟨_, H1, I2, q1⟩) hf
def tPar (i j : Nat) (ta : TA) : TS := fun D σ H => ta σ H fun vs H1 => ∃ v w, vs = [v, w] ∧ D.nx ((σ.set i (some v)).set j (some w)) H1
theorem ps_par {i j : Nat} {x y : Str} {a b : Expr} {ta : TA} {px py pt : Pos} {kt k2 pt2} (hc : X.calm = true) (hN : X.N.Nodup) (hi : X.N[i]? = some x) (hj : X.N[j]? = some y) (hij : i ≠ j)
    (hx : X.env.scope.names.lookup x = some .local) (hy : X.env.scope.names.lookup y = some .local) (ha : PA X [a, b] ta)
    (hw : swappedStores [.Tuple [.Name x px, .Name y py] kt pt] (.Tuple [a, b] k2 pt2) X.env = pure (some [x, y]))
    (hs : swapsWithSole [.Tuple [.Name x px, .Name y py] kt pt] (.Tuple [a, b] k2 pt2) pos.line X.env = pure false := by rfl) :
    PS X (.Assign [.Tuple [.Name x px, .Name y py] kt pt] (.Tuple [a, b] k2 pt2) pos) (tPar i j ta) := by
  intro pins s σ H D I h
  rw [exec_Assign_arm]
  refine wpAny_bind (wpAny_standAt ?_)
  rw [hs]
  refine wpAny_bind (wpAny_pure ?_)
  rw [if_neg (by decide)]
  refine wpAny_bind (Tuple_ (thn (ha _ pins s σ H _ I h) fun us s1 ⟨vs, H1, I1, r1, q1⟩ => ?_))
  obtain ⟨v, w, e1, q1⟩ := q1
  subst e1
  obtain ⟨u1, u2, rfl, rv, rw'⟩ : ∃ u1 u2, us = [u1, u2] ∧ RelV v u1 ∧ RelV w u2 := by
    cases r1 with
    | cons p q =>
      cases q with
      | cons p' q' =>
        cases q'
        exact ⟨_, _, rfl, p, p'⟩
  refine wpAny_newObj_type ?_ (by show 2 ≤ sizeLine; decide)
  have I2 : Inv X pins σ H1 { s1 with heap := s1.heap.push { cls := .type "tuple", data := .seq [u1, u2].toArray } } := I1.kept (t' := s1.toks) fun b o e => Heap.get?_push_of_some _ e
  rw [hw]
  refine wpAny_bind (wpAny_pure ?_)
  show wpAny (model X.prog X.w) X.A (do rule "assign.swapped-stores"; let items ← unpackItems (.ref s1.heap.objs.size) 2 none; assignInOrder [fun v => bindName X.env y v, fun v => bindName X.env x v] items.reverse; pure Flow.next) _ _ _
  refine wpAny_bind (wpAny_rule (wpAny_bind (unpackItems_tuple (items := #[u1, u2]) (I.ok.hd hc) (IsTup.new s1.heap _) fun h' hx' => ?_)))
  have I3 := I2.kept (h' := h') (t' := s1.toks) fun b o e => hx' b o (Nat.ne_of_lt (Heap.lt_size e)) e
  show wpAny _ _ (assignInOrder [fun v => bindName X.env y v, fun v => bindName X.env x v] [u2, u1] >>= fun _ => pure Flow.next) _ _ _
  refine wpAny_bind (assignInOrder_cons (wpAny_bindName (store_ok I3 hN hj (.inl hy) rw' (fun s2 I4 => ?_) (.inr hy))))
  refine assignInOrder_cons (wpAny_bindName (store_ok I4 hN hi (.inl hx) rv (fun s3 I5 => assignInOrder_nil (wpAny_pure ?_)) (.inr hx)))
  rw [List.set_comm _ _ (Ne.symm hij)] at I5
  exact ⟨_, H1, I5, q1⟩
end
section
variable {X : Cx} {pos : Pos}
def tWhile (c : TT) (tb : TS) : TS := fun D σ H => ∃ W : Nat → St → Hp → Prop, (∃ m, W m σ H) ∧ ∀ m σ H, W m σ H →
  c σ H fun b H1 => if b = true then ∃ N : St → Hp → Prop, (∀ σ' H', N σ' H' → ∃ m', m' < m ∧ W m' σ' H') ∧ tb { D with nx := N, ct := N, bk := D.nx } σ H1 else D.nx σ H1
theorem ps_while {c : Expr} {body : List Stmt} {tc : TT} {tb : TS} (hp : PassesOwn (model X.prog X.w) X.A X.env X.xe) (hc : PT X c tc) (hb : PSs X body tb) : PS X (.While c body [] pos) (tWhile tc tb) := by
  intro pins s σ H D I h
  obtain ⟨W, ⟨m0, w0⟩, turn⟩ := h
  refine wpAny_While (codeAny_whileLoop (fun n s' => ∃ σ' H', Inv X pins σ' H' s' ∧ W n σ' H') ?_ m0 ⟨σ, H, I, w0⟩)
  rintro n s1 ⟨σ1, H1, I1, w1⟩
  refine wpAny_passesOwn hp (thn (hc pins s1 σ1 H1 _ I1 (turn n σ1 H1 w1)) fun b s2 ⟨H2, I2, q2⟩ => ?_)
  cases b with
  | true =>
    obtain ⟨N, hN, q2⟩ := q2
    rw [if_pos rfl]
    refine wpAny_passesOwn hp (thn (hb pins s2 σ1 H2 _ I2 q2) fun f s3 q3 => ?_)
    cases f with
    | next =>
      obtain ⟨σ3, H3, I3, n3⟩ := q3
      obtain ⟨m', hm, w3⟩ := hN σ3 H3 n3
      exact ⟨m', hm, σ3, H3, I3, w3⟩
    | cont =>
      obtain ⟨σ3, H3, I3, n3⟩ := q3
      obtain ⟨m', hm, w3⟩ := hN σ3 H3 n3
      exact ⟨m', hm, σ3, H3, I3, w3⟩
    | brk => exact q3
    | ret v => exact q3
  | false =>
    rw [if_neg Bool.false_ne_true]
    exact wpAny_execs_nil ⟨σ1, H2, I2, q2⟩
end
structure It where
  go : Nat → Hp → Prop
  yld : Nat → Hp → V → Hp → Prop
  stop : Nat → Hp → Prop
def FpOk (X : Cx) (pins : List (Addr × Obj)) (H : Hp) (b : Addr) : Prop :=
  H b = none ∧ b ≠ X.env.locals ∧ b ∉ X.fs ∧ (b ∈ X.ex ∨ X.s₀.heap.objs.size ≤ b) ∧ (∀ x c, X.env.cells.lookup x = some c → c ≠ b) ∧ ∀ p ∈ X.pn ++ pins, p.1 ≠ b
theorem Inv.fpOk {X : Cx} {pins : List (Addr × Obj)} {σ : St} {H H' : Hp} {s : Shared} {b : Addr} (I : Inv X pins σ H s) (hb : s.heap.objs.size ≤ b) (hn : H' b = none) : FpOk X pins H' b := by
  refine ⟨hn, Nat.ne_of_gt (Nat.lt_of_lt_of_le I.lt hb), I.nofs hb, .inr (Nat.le_trans I.sz hb), fun x c e z => ?_, fun p hp z => ?_⟩
  · obtain ⟨v, q⟩ := I.cell x c e
    exact absurd (Nat.lt_of_lt_of_le q.lt (by rw [z]; exact hb)) (Nat.lt_irrefl _)
  · exact absurd (Nat.lt_of_lt_of_le (Heap.lt_size (I.pin p hp).1) (by rw [z]; exact hb)) (Nat.lt_irrefl _)
structure Turn (P : Program) (w : World) (K : PySem.W.Frag) (tg : Expr) (J : It) (fp : List Addr) (it : Addr) (tn : Nat → Heap → Prop) : Prop where
  mem : it ∈ fp
  obj : ∀ i h, tn i h → ∀ b ∈ fp, ∃ o, h.get? b = some o ∧ ∀ v, o.data ≠ .cell v
  keep : ∀ i h h', tn i h → (∀ b ∈ fp, ∀ o, h.get? b = some o → h'.get? b = some o) → tn i h'
  item : ∀ (X : Cx), X.prog = P → X.w = w → X.K = K → X.calm = true → ∀ (i : Nat) (pins : List (Addr × Obj)) (s : Shared) (σ : St) (H : Hp) (E : Value → Shared → Prop), Inv X pins σ H s → (∀ b ∈ fp, FpOk X pins H b) → tn i s.heap → J.go i H →
    wpAny (model P w) X.A (pyNext (.ref it)) (fun r s1 => ∃ u, r = some u ∧
      wpAny (model P w) X.A (letOwnedTupleGo tg (.ref it) u) (fun _ s2 => ∃ x H', Inv X pins σ H' s2 ∧ RelV x u ∧ J.yld i H x H' ∧ tn (i + 1) s2.heap ∧ ∀ b ∈ fp, H' b = none) E s1) E s
  done : ∀ (X : Cx), X.prog = P → X.w = w → X.K = K → X.calm = true → ∀ (i : Nat) (pins : List (Addr × Obj)) (s : Shared) (σ : St) (H : Hp) (E : Value → Shared → Prop), Inv X pins σ H s → (∀ b ∈ fp, FpOk X pins H b) → tn i s.heap → J.stop i H →
    wpAny (model P w) X.A (pyNext (.ref it)) (fun r s1 => r = none ∧ Inv X pins σ H s1) E s
  self : ∀ (A : Around) (i : Nat) (s : Shared) (Q : Value → Shared → Prop) (E : Value → Shared → Prop), tn i s.heap → Q (.ref it) s → wpAny (model P w) A (pyIter (.ref it)) Q E s
abbrev TI := St → Hp → (It → Hp → Prop) → Prop
def PIE (X : Cx) (pins : List (Addr × Obj)) (σ : St) (tg : Expr) (R : It → Hp → Prop) (itv : Value) (s2 : Shared) : Prop :=
  ∃ (it : Addr) (fp : List Addr) (tn : Nat → Heap → Prop) (J : It) (H' : Hp), itv = .ref it ∧ Inv X pins σ H' s2 ∧ Turn X.prog X.w X.K tg J fp it tn ∧ tn 0 s2.heap ∧ (∀ b ∈ fp, FpOk X pins H' b) ∧ R J H'
def PI (X : Cx) (tg iter : Expr) (wi : TI) : Prop :=
  ∀ (pins : List (Addr × Obj)) (s : Shared) (σ : St) (H : Hp) (R : It → Hp → Prop), Inv X pins σ H s → wi σ H R →
    wpAny (model X.prog X.w) X.A (eval iter X.env) (fun v s1 => wpAny (model X.prog X.w) X.A (pyIter v) (PIE X pins σ tg R) X.xe s1) X.xe s
theorem go_of {M : Model} {A : Around} {E : Value → Shared → Prop} {s : Shared} {tg : Expr} {it : Addr} {u : Value} {o : Obj} {n : String} {vs : Array Value} {Q : Unit → Shared → Prop} (ho : s.heap.get? it = some o) (hc : o.cls = .type n) (hd : o.data = .fields vs)
    (hn : ["enumerate", "zip", "dict_itemiterator", "dict_reverseitemiterator", "odict_iterator", "itertools.zip_longest", "itertools.pairwise"].contains n = false) (hQ : Q () s) : wpAny M A (letOwnedTupleGo tg (.ref it) u) Q E s := by
  unfold letOwnedTupleGo
  cases tg <;> first
    | exact wpAny_pure hQ
    | (cases u <;> first
        | exact wpAny_pure hQ
        | (refine wpAny_bind (wpAny_load ho ?_)
           rw [hc, hd]
           show wpAny M A (if (["enumerate", "zip", "dict_itemiterator", "dict_reverseitemiterator", "odict_iterator", "itertools.zip_longest", "itertools.pairwise"].contains n && vs[0]? == some (rawInt _)) = true then _ else _) Q E s
           rw [if_neg (by intro h; rw [hn, Bool.false_and] at h; cases h)]
           exact wpAny_pure hQ))
def Itl (K : PySem.W.Frag) (a : Addr) : It :=
  ⟨fun i H => ∃ xs x, SqL K H a xs ∧ xs[i]? = some x, fun i H x H' => H' = H ∧ ∀ xs, SqL K H a xs → xs[i]? = some x, fun i H => ∃ xs, SqL K H a xs ∧ xs.length ≤ i⟩
def Itt (K : PySem.W.Frag) (a : Addr) : It :=
  ⟨fun i H => ∃ xs x, SqT K H a xs ∧ xs[i]? = some x, fun i H x H' => H' = H ∧ ∀ xs, SqT K H a xs → xs[i]? = some x, fun i H => ∃ xs, SqT K H a xs ∧ xs.length ≤ i⟩
def Itr (lo : Int) (n : Nat) : It := ⟨fun i _ => i < n, fun i H x H' => H' = H ∧ x = .int (lo + i), fun i _ => n ≤ i⟩
theorem turn_list {P : Program} {w : World} {K : PySem.W.Frag} {tg : Expr} (a it : Addr) : Turn P w K tg (Itl K a) [it] it (fun i h => h.IsListIter it a i) where
  mem := by simp
  obj := fun i h st b hb => by
    have e : b = it := by simpa using hb
    subst e
    obtain ⟨o, e, c, d⟩ := st
    exact ⟨o, e, fun v z => by rw [d] at z; cases z⟩
  keep := fun i h h' st k => st.at fun o e => k it (by simp) o e
  item := by
    intro X hP hw hK hc i pins s σ H E I hf st hg
    subst hP hw hK
    obtain ⟨xs, x, hq, hx⟩ := hg
    obtain ⟨its, rv, p, hz⟩ := I.list hq
    obtain ⟨u, hu, ru⟩ := rv.get hx
    obtain ⟨f0, f1, f2, f3, f4, f5⟩ := hf it (by simp)
    refine wpAny_pyNext_list_item st p.isList (x := u) (by simpa using hu) fun h' st' sb => ?_
    have I1 : Inv X pins σ H { s with heap := h' } := I.turned (t' := s.toks) (fun b o hb e => (sb.2 b hb).trans e) f0 f1 f3 f4 f5
    obtain ⟨o, e, c, d⟩ := id st'
    exact ⟨u, rfl, go_of (s := { s with heap := h' }) e c d (by decide) ⟨x, H, I1, ru, ⟨rfl, fun ys hy => by rw [I.list_inj hy hq]; exact hx⟩, st', fun b hb => (hf b hb).1⟩⟩
  done := by
    intro X hP hw hK hc i pins s σ H E I hf st hg
    subst hP hw hK
    obtain ⟨xs, hq, hx⟩ := hg
    obtain ⟨its, rv, p, hz⟩ := I.list hq
    obtain ⟨f0, f1, f2, f3, f4, f5⟩ := hf it (by simp)
    have hl := rv.length
    exact wpAny_pyNext_list_end (I.ok.hd hc) st p.isList (by simp; omega) fun h' eb => ⟨rfl, I.turned (t' := s.toks) (fun b o hb e => eb b o hb e) f0 f1 f3 f4 f5⟩
  self := fun _ _ _ _ _ st h => wpAny_pyIter_listiter st h
theorem turn_tuple {P : Program} {w : World} {K : PySem.W.Frag} {tg : Expr} (a it : Addr) : Turn P w K tg (Itt K a) [it] it (fun i h => h.IsTupleIter it a i) where
  mem := by simp
  obj := fun i h st b hb => by
    have e : b = it := by simpa using hb
    subst e
    obtain ⟨o, e, c, d⟩ := st
    exact ⟨o, e, fun v z => by rw [d] at z; cases z⟩
  keep := fun i h h' st k => st.at fun o e => k it (by simp) o e
  item := by
    intro X hP hw hK hc i pins s σ H E I hf st hg
    subst hP hw hK
    obtain ⟨xs, x, hq, hx⟩ := hg
    obtain ⟨its, rv, p, hz⟩ := I.tuple hq
    obtain ⟨u, hu, ru⟩ := rv.get hx
    obtain ⟨f0, f1, f2, f3, f4, f5⟩ := hf it (by simp)
    refine wpAny_pyNext_tuple_item st (show s.heap.IsTuple a its.toArray from p) (x := u) (by simpa using hu) fun h' st' sb => ?_
    have I1 : Inv X pins σ H { s with heap := h' } := I.turned (t' := s.toks) (fun b o hb e => (sb.2 b hb).trans e) f0 f1 f3 f4 f5
    obtain ⟨o, e, c, d⟩ := id st'
    exact ⟨u, rfl, go_of (s := { s with heap := h' }) e c d (by decide) ⟨x, H, I1, ru, ⟨rfl, fun ys hy => by rw [I.tuple_inj hy hq]; exact hx⟩, st', fun b hb => (hf b hb).1⟩⟩
  done := by
    intro X hP hw hK hc i pins s σ H E I hf st hg
    subst hP hw hK
    obtain ⟨xs, hq, hx⟩ := hg
    obtain ⟨its, rv, p, hz⟩ := I.tuple hq
    obtain ⟨f0, f1, f2, f3, f4, f5⟩ := hf it (by simp)
    have hl := rv.length
    exact wpAny_pyNext_tuple_end (I.ok.hd hc) st (show s.heap.IsTuple a its.toArray from p) (by simp; omega) fun h' eb => ⟨rfl, I.turned (t' := s.toks) (fun b o hb e => eb b o hb e) f0 f1 f3 f4 f5⟩
  self := fun _ _ _ _ _ st h => wpAny_pyIter_tupleiter st h
theorem turn_range {P : Program} {w : World} {K : PySem.W.Frag} {tg : Expr} (it : Addr) (lo : Int) (n : Nat) : Turn P w K tg (Itr lo n) [it] it (fun i h => IsRangeIter h it (lo + (i : Nat) * 1) ((n : Int) - (i : Nat)) 1) where
  mem := by simp
  obj := fun i h st b hb => by
    have e : b = it := by simpa using hb
    subst e
    exact ⟨_, st, fun v z => by
      have z' : Data.fields _ = Data.cell v := z
      cases z'⟩
  keep := fun i h h' st k => k it (by simp) _ st
  item := by
    intro X hP hw hK hc i pins s σ H E I hf st hg
    subst hP hw hK
    obtain ⟨f0, f1, f2, f3, f4, f5⟩ := hf it (by simp)
    have W := Walks.range (prog := X.prog) (w := X.w) (I.ok.hd hc) it lo 1 n
    refine W.item i s _ _ hg st fun v h' tk hv st' kk => ?_
    obtain ⟨t, rfl⟩ := hv
    have I1 : Inv X pins σ H { s with heap := h', toks := tk } := I.turned (fun b o hb e => kk b o (by simpa using hb) e) f0 f1 f3 f4 f5
    refine ⟨_, rfl, go_of (s := { s with heap := h', toks := tk }) (n := "range_iterator") st' rfl rfl (by decide) ⟨.int (lo + i), H, I1, ⟨t, ?_⟩, ⟨rfl, rfl⟩, st', fun b hb => (hf b hb).1⟩⟩
    rw [Int.mul_one]
  done := by
    intro X hP hw hK hc i pins s σ H E I hf st hg
    subst hP hw hK
    obtain ⟨f0, f1, f2, f3, f4, f5⟩ := hf it (by simp)
    exact wpAny_pyNext_range_end (I.ok.hd hc) st (by have : n ≤ i := hg; omega) fun h' eb => ⟨rfl, I.turned (t' := s.toks) (fun b o hb e => eb b o hb e) f0 f1 f3 f4 f5⟩
  self := fun _ _ _ _ _ st h => wpAny_pyIter_rangeiter st h
end L2
namespace L2
open PySem PySem.Spec PyProof.Rows
section
variable {X : Cx} {tg : Expr}
def iList (K : PySem.W.Frag) (tl : TE) : TI := fun σ H R => tl σ H fun x H1 => ∃ a, x = .ref a ∧ (∃ xs, SqL K H1 a xs) ∧ R (Itl K a) H1
def iTup (K : PySem.W.Frag) (tl : TE) : TI := fun σ H R => tl σ H fun x H1 => ∃ a, x = .ref a ∧ (∃ xs, SqT K H1 a xs) ∧ R (Itt K a) H1
theorem pi_list {l : Expr} {tl : TE} (hl : PE X l tl) : PI X tg l (iList X.K tl) := by
  intro pins s σ H R I h
  refine thn (hl pins s σ H _ I h) fun v s1 ⟨x, H1, I1, r1, q1⟩ => ?_
  obtain ⟨a, e, ⟨xs, hq⟩, q⟩ := q1
  subst e
  cases r1
  obtain ⟨its, rv, p, hz⟩ := I1.list hq
  refine wpAny_pyIter_list p.isList ?_
  refine ⟨s1.heap.objs.size, [s1.heap.objs.size], _, _, H1, rfl, I1.kept (t' := s1.toks) fun b o e => Heap.get?_push_of_some _ e, turn_list a _, ⟨_, Heap.get?_push_size _ rfl, rfl, rfl⟩, fun b hb => ?_, q⟩
  have e : b = s1.heap.objs.size := by simpa using hb
  subst e
  exact I1.fpOk (Nat.le_refl _) (I1.hok.fresh (Nat.le_refl _))
theorem pi_tup {l : Expr} {tl : TE} (hl : PE X l tl) : PI X tg l (iTup X.K tl) := by
  intro pins s σ H R I h
  refine thn (hl pins s σ H _ I h) fun v s1 ⟨x, H1, I1, r1, q1⟩ => ?_
  obtain ⟨a, e, ⟨xs, hq⟩, q⟩ := q1
  subst e
  cases r1
  obtain ⟨its, rv, p, hz⟩ := I1.tuple hq
  refine wpAny_pyIter_tuple (show s1.heap.IsTuple a its.toArray from p) ?_
  refine ⟨s1.heap.objs.size, [s1.heap.objs.size], _, _, H1, rfl, I1.kept (t' := s1.toks) fun b o e => Heap.get?_push_of_some _ e, turn_tuple a _, ⟨_, Heap.get?_push_size _ rfl, rfl, rfl⟩, fun b hb => ?_, q⟩
  have e : b = s1.heap.objs.size := by simpa using hb
  subst e
  exact I1.fpOk (Nat.le_refl _) (I1.hok.fresh (Nat.le_refl _))
theorem range_it {pins : List (Addr × Obj)} {σ : St} {H : Hp} {s : Shared} {R : It → Hp → Prop} {E : Value → Shared → Prop} {lo hi : Int} {t u v : Tok} {tk : Nat} (I : Inv X pins σ H s) (h1 : -(2 ^ 62) ≤ lo) (h2 : lo < 2 ^ 62) (h3 : -(2 ^ 62) ≤ hi) (h4 : hi < 2 ^ 62)
    (q : R (Itr lo (hi - lo).toNat) H) : wpAny (model X.prog X.w) X.A (pyIter (.ref s.heap.objs.size)) (PIE X pins σ tg R) E { s with heap := s.heap.push { cls := .type "range", data := .fields #[.int lo t, .int hi u, .int 1 v] }, toks := tk } := by
  refine wpAny_pyIter_range (IsRange.new ..) (small_one h1 h2 h3 h4) ?_
  have I1 : Inv X pins σ H { s with heap := s.heap.push { cls := .type "range", data := .fields #[.int lo t, .int hi u, .int 1 v] }, toks := tk } := I.kept fun b o e => Heap.get?_push_of_some _ e
  refine ⟨(s.heap.push { cls := .type "range", data := .fields #[.int lo t, .int hi u, .int 1 v] }).objs.size, [(s.heap.push { cls := .type "range", data := .fields #[.int lo t, .int hi u, .int 1 v] }).objs.size], _, _, H, rfl,
    I1.kept (t' := tk) fun b o e => Heap.get?_push_of_some _ e, turn_range _ lo (hi - lo).toNat, ?_, fun b hb => ?_, q⟩
  · have e1 : lo + ((0 : Nat) : Int) * 1 = lo := by simp
    have e2 : (((hi - lo).toNat : Nat) : Int) - ((0 : Nat) : Int) = Builtin.Range.rangeSize lo hi 1 := by rw [rangeSize_one]; split <;> omega
    show IsRangeIter _ _ (lo + ((0 : Nat) : Int) * 1) ((((hi - lo).toNat : Nat) : Int) - ((0 : Nat) : Int)) 1
    rw [e1, e2]
    exact Heap.get?_push_size _ rfl
  · have e : b = (s.heap.push { cls := .type "range", data := .fields #[.int lo t, .int hi u, .int 1 v] }).objs.size := by simpa using hb
    subst e
    exact I1.fpOk (Nat.le_refl _) (I1.hok.fresh (Nat.le_refl _))
def iRng1 (ta : TA) : TI := fun σ H R => ta σ H fun vs H1 => ∃ j : Int, vs = [.int j] ∧ -(2 ^ 62) ≤ j ∧ j < 2 ^ 62 ∧ R (Itr 0 j.toNat) H1
theorem pi_range1 {a : Expr} {ta : TA} {p pos : Pos} (hg : Gl X "range") (hm : X.mg "range" = none) (ha : PA X [a] ta) (hs : starEach [a] X.env = [(false, eval a X.env)] := by rfl) : PI X tg (.Call (.Name "range" p) [a] [] pos) (iRng1 ta) := by
  intro pins s σ H R I h
  refine Call_ (ld_blt I hg hm boot_range (PyProof.Rows.callWith_type1 (thn (ha pos pins s σ H _ I h) fun us s1 ⟨vs, H1, I1, r1, q1⟩ => ?_) hs rfl))
  obtain ⟨j, e, q1, q2, q⟩ := q1
  subst e
  cases r1 with
  | cons r rr =>
    cases rr
    obtain ⟨t, rfl⟩ := r
    exact call_range_1 (range_it I1 (by omega) (by omega) q1 q2 (by simpa using q))
def tFor (wi : TI) (g : TG) (tb : TS) : TS := fun D σ H => wi σ H fun J H1 => ∃ W : Nat → Nat → St → Hp → Prop, (∃ m, W 0 m σ H1) ∧ ∀ i m σ H, W i m σ H →
  (J.stop i H ∧ D.nx σ H) ∨ (J.go i H ∧ ∃ N : St → Hp → Prop, (∀ σ' H', N σ' H' → ∃ m', m' < m ∧ W (i + 1) m' σ' H') ∧ ∀ x H', J.yld i H x H' → g x σ H' fun σ2 H2 => tb { D with nx := N, ct := N, bk := D.nx } σ2 H2)
def pinsAt (fp : List Addr) (h : Heap) : List (Addr × Obj) := fp.filterMap fun b => (h.get? b).map fun o => (b, o)
theorem mem_pinsAt {fp : List Addr} {h : Heap} {b : Addr} {o : Obj} (hb : b ∈ fp) (e : h.get? b = some o) : (b, o) ∈ pinsAt fp h := List.mem_filterMap.mpr ⟨b, hb, by rw [e]; rfl⟩
theorem of_pinsAt {fp : List Addr} {h : Heap} {p : Addr × Obj} (hp : p ∈ pinsAt fp h) : p.1 ∈ fp ∧ h.get? p.1 = some p.2 := by
  obtain ⟨b, hb, e⟩ := List.mem_filterMap.mp hp
  cases q : h.get? b with
  | none => rw [q] at e; cases e
  | some o =>
    rw [q] at e
    have e' : (b, o) = p := Option.some.inj e
    subst e'
    exact ⟨hb, q⟩
theorem Inv.pinned {pins : List (Addr × Obj)} {σ : St} {H : Hp} {s : Shared} {fp : List Addr} (I : Inv X pins σ H s) (hf : ∀ b ∈ fp, FpOk X pins H b) (ho : ∀ b ∈ fp, ∃ o, s.heap.get? b = some o ∧ ∀ v, o.data ≠ .cell v) : Inv X (pins ++ pinsAt fp s.heap) σ H s :=
  I.pins_of fun p hp => (List.mem_append.mp hp).elim (fun z => I.pin p (List.mem_append_right _ z)) fun z => by
    obtain ⟨hb, e⟩ := of_pinsAt z
    obtain ⟨f0, f1, f2, _⟩ := hf p.1 hb
    obtain ⟨o, e', d⟩ := ho p.1 hb
    rw [e] at e'; cases e'
    exact ⟨e, f0, f1, f2, d⟩
theorem Inv.unpinned {pins pl : List (Addr × Obj)} {σ : St} {H : Hp} {s : Shared} (I : Inv X (pins ++ pl) σ H s) : Inv X pins σ H s := I.pins_of fun p hp => I.pin p (List.mem_append_right _ (List.mem_append_left _ hp))
theorem ps_for {iter : Expr} {body : List Stmt} {wi : TI} {g : TG} {tb : TS} {pos : Pos} (hp : PassesOwn (model X.prog X.w) X.A X.env X.xe) (hc : X.calm = true) (hi : PI X tg iter wi) (hg : PG X tg g) (hb : PSs X body tb)
    (hs : ∀ x, foldedSetIterable iter X.env x = pure x := by intro _; rfl) : PS X (.For tg iter body [] pos) (tFor wi g tb) := by
  intro pins s σ H D I h
  refine wpAny_For (thn (hi pins s σ H _ I h) fun v s1 h1 => thn h1 fun itv s2 h2 => ?_) hs
  obtain ⟨it, fp, tn, J, H2, e, I2, T, st2, f2, W, ⟨m0, w0⟩, turn⟩ := h2
  subst e
  have stat : ∀ {H' : Hp}, (∀ b ∈ fp, H' b = none) → ∀ b ∈ fp, FpOk X pins H' b := fun hn b hb => ⟨hn b hb, (f2 b hb).2⟩
  refine codeAny_forLoop_any (fun n s' => ∃ i σ' H', Inv X pins σ' H' s' ∧ tn i s'.heap ∧ (∀ b ∈ fp, H' b = none) ∧ W i n σ' H') ?_ m0 ⟨0, σ, H2, I2, st2, fun b hb => (f2 b hb).1, w0⟩
  rintro n s3 ⟨i, σ3, H3, I3, st3, fr3, w3⟩
  rcases turn i n σ3 H3 w3 with ⟨stop, qn⟩ | ⟨go, N, hN, step⟩
  · refine wpAny_passesOwn hp (thn (T.done X rfl rfl rfl hc i pins s3 σ3 H3 X.xe I3 (stat fr3) st3 stop) fun r s4 ⟨hr, I4⟩ => ?_)
    subst hr
    exact wpAny_execs_nil ⟨σ3, H3, I4, qn⟩
  · refine wpAny_passesOwn hp (thn (T.item X rfl rfl rfl hc i pins s3 σ3 H3 X.xe I3 (stat fr3) st3 go) fun r s4 ⟨u, hr, h4⟩ => ?_)
    subst hr
    refine wpAny_passesOwn hp (thn h4 fun _ s5 ⟨x, H5, I5, r5, y5, st5, fr5⟩ => ?_)
    have I5' := I5.pinned (stat fr5) (T.obj _ _ st5)
    refine wpAny_passesOwn hp (thn (hg _ s5 σ3 H5 x u _ I5' r5 (step x H5 y5)) fun _ s6 ⟨σ6, H6, I6, q6⟩ => ?_)
    refine wpAny_passesOwn hp (thn (hb _ s6 σ6 H6 _ I6 q6) fun f s7 q7 => ?_)
    have again : ∀ {σ7 : St} {H7 : Hp}, Inv X (pins ++ pinsAt fp s5.heap) σ7 H7 s7 → N σ7 H7 → ∃ m, m < n ∧ ∃ i σ' H', Inv X pins σ' H' s7 ∧ tn i s7.heap ∧ (∀ b ∈ fp, H' b = none) ∧ W i m σ' H' := fun {σ7 H7} I7 n7 => by
      obtain ⟨m', hm, w7⟩ := hN σ7 H7 n7
      refine ⟨m', hm, i + 1, σ7, H7, I7.unpinned, T.keep _ _ _ st5 fun b hb o e => (I7.pin (b, o) (List.mem_append_right _ (List.mem_append_right _ (mem_pinsAt hb e)))).1, fun b hb => ?_, w7⟩
      obtain ⟨o, e, d⟩ := T.obj _ _ st5 b hb
      exact (I7.pin (b, o) (List.mem_append_right _ (List.mem_append_right _ (mem_pinsAt hb e)))).2.1
    cases f with
    | next => obtain ⟨σ7, H7, I7, n7⟩ := q7; exact again I7 n7
    | cont => obtain ⟨σ7, H7, I7, n7⟩ := q7; exact again I7 n7
    | brk => obtain ⟨σ7, H7, I7, q7⟩ := q7; exact ⟨σ7, H7, I7.unpinned, q7⟩
    | ret v => obtain ⟨x7, σ7, H7, I7, r7, q7⟩ := q7; exact ⟨x7, σ7, H7, I7.unpinned, r7, q7⟩
end
theorem for_list {K : PySem.W.Frag} {a : Addr} {xs : List V} {g : TG} {tb : TS} {D : Ends} {σ : St} {H : Hp} (Pv : Nat → St → Hp → Prop) (h0 : Pv 0 σ H) (hl : ∀ i σ H, i ≤ xs.length → Pv i σ H → SqL K H a xs)
    (hs : ∀ i x σ H, xs[i]? = some x → Pv i σ H → g x σ H fun σ2 H2 => tb { D with nx := Pv (i + 1), ct := Pv (i + 1), bk := D.nx } σ2 H2) (hd : ∀ σ H, Pv xs.length σ H → D.nx σ H) :
    ∃ W : Nat → Nat → St → Hp → Prop, (∃ m, W 0 m σ H) ∧ ∀ i m σ H, W i m σ H →
      ((Itl K a).stop i H ∧ D.nx σ H) ∨ ((Itl K a).go i H ∧ ∃ N : St → Hp → Prop, (∀ σ' H', N σ' H' → ∃ m', m' < m ∧ W (i + 1) m' σ' H') ∧ ∀ x H', (Itl K a).yld i H x H' → g x σ H' fun σ2 H2 => tb { D with nx := N, ct := N, bk := D.nx } σ2 H2) := by
  refine ⟨fun i m σ H => m = xs.length - i ∧ i ≤ xs.length ∧ Pv i σ H, ⟨xs.length, by simp, Nat.zero_le _, h0⟩, ?_⟩
  rintro i m σ H ⟨rfl, hi, p⟩
  have q := hl i σ H hi p
  by_cases hlt : i < xs.length
  · refine .inr ⟨⟨xs, xs[i], q, by simp [hlt]⟩, Pv (i + 1), fun σ' H' p' => ⟨xs.length - (i + 1), by omega, rfl, hlt, p'⟩, fun x H' y => ?_⟩
    obtain ⟨e, y⟩ := y
    subst e
    exact hs i x σ _ (y xs q) p
  · have e : i = xs.length := by omega
    subst e
    exact .inl ⟨⟨xs, q, Nat.le_refl _⟩, hd σ H p⟩
theorem for_range {lo : Int} {n : Nat} {g : TG} {tb : TS} {D : Ends} {σ : St} {H : Hp} (Pv : Nat → St → Hp → Prop) (h0 : Pv 0 σ H)
    (hs : ∀ i σ H, i < n → Pv i σ H → g (.int (lo + i)) σ H fun σ2 H2 => tb { D with nx := Pv (i + 1), ct := Pv (i + 1), bk := D.nx } σ2 H2) (hd : ∀ σ H, Pv n σ H → D.nx σ H) :
    ∃ W : Nat → Nat → St → Hp → Prop, (∃ m, W 0 m σ H) ∧ ∀ i m σ H, W i m σ H →
      ((Itr lo n).stop i H ∧ D.nx σ H) ∨ ((Itr lo n).go i H ∧ ∃ N : St → Hp → Prop, (∀ σ' H', N σ' H' → ∃ m', m' < m ∧ W (i + 1) m' σ' H') ∧ ∀ x H', (Itr lo n).yld i H x H' → g x σ H' fun σ2 H2 => tb { D with nx := N, ct := N, bk := D.nx } σ2 H2) := by
  refine ⟨fun i m σ H => m = n - i ∧ i ≤ n ∧ Pv i σ H, ⟨n, by simp, Nat.zero_le _, h0⟩, ?_⟩
  rintro i m σ H ⟨rfl, hi, p⟩
  by_cases hlt : i < n
  · refine .inr ⟨hlt, Pv (i + 1), fun σ' H' p' => ⟨n - (i + 1), by omega, rfl, hlt, p'⟩, fun x H' y => ?_⟩
    obtain ⟨e, y⟩ := y
    subst e y
    exact hs i σ _ hlt p
  · have e : i = n := by omega
    subst e
    exact .inl ⟨Nat.le_refl _, hd σ H p⟩
end L2
namespace L2
open PySem PySem.Spec PyProof.Rows
abbrev R2 := V → V → Hp → VK → Prop
def OpR (X : Cx) (f : Value → Value → Sem Value) (r : R2) : Prop :=
  ∀ (pins : List (Addr × Obj)) (s : Shared) (σ : St) (H : Hp) (x y : V) (v u : Value) (Q : VK), Inv X pins σ H s → RelV x v → RelV y u → r x y H Q →
    wpAny (model X.prog X.w) X.A (f v u) (EP X pins σ Q) X.xe s
def UnR (X : Cx) (f : Value → Sem Value) (r : V → Hp → VK → Prop) : Prop :=
  ∀ (pins : List (Addr × Obj)) (s : Shared) (σ : St) (H : Hp) (x : V) (v : Value) (Q : VK), Inv X pins σ H s → RelV x v → r x H Q →
    wpAny (model X.prog X.w) X.A (f v) (EP X pins σ Q) X.xe s
def CallR (X : Cx) (f : Value) (r : List V → Hp → VK → Prop) : Prop :=
  ∀ (pins : List (Addr × Obj)) (s : Shared) (σ : St) (H : Hp) (xs : List V) (us : List Value) (Q : VK), Inv X pins σ H s → Vals xs us → r xs H Q →
    wpAny (model X.prog X.w) X.A (call f us) (EP X pins σ Q) X.xe s
def tOp (r : R2) (ta tb : TE) : TE := fun σ H Q => ta σ H fun x H1 => tb σ H1 fun y H2 => r x y H2 Q
def tUn (r : V → Hp → VK → Prop) (ta : TE) : TE := fun σ H Q => ta σ H fun x H1 => r x H1 Q
def rI (C : Int → Int → Prop) (g : Int → Int → V) : R2 := fun x y H Q => ∃ i j, x = .int i ∧ y = .int j ∧ C i j ∧ Q (g i j) H
def rI0 (g : Int → Int → V) : R2 := fun x y H Q => ∃ i j, x = .int i ∧ y = .int j ∧ Q (g i j) H
def rU (g : Int → V) : V → Hp → VK → Prop := fun x H Q => ∃ i, x = .int i ∧ Q (g i) H
section
variable {X : Cx} {a b c : Expr} {ta tb tc : TE} {pos : Pos}
theorem binT (ha : PE X a ta) (hb : PE X b tb) {pins : List (Addr × Obj)} {s : Shared} {σ : St} {H : Hp} {R : V → V → Hp → Prop} (I : Inv X pins σ H s)
    (h : ta σ H fun x H1 => tb σ H1 fun y H2 => R x y H2) {Q : Value → Shared → Prop} {f : Value → Value → Sem Value}
    (hf : ∀ v u s2 x y H2, Inv X pins σ H2 s2 → RelV x v → RelV y u → R x y H2 → wpAny (model X.prog X.w) X.A (f v u) Q X.xe s2) :
    wpAny (model X.prog X.w) X.A (eval a X.env) (fun v s₁ => wpAny (model X.prog X.w) X.A (eval b X.env) (fun u s₂ => wpAny (model X.prog X.w) X.A (f v u) Q X.xe s₂) X.xe s₁) X.xe s := by
  refine thn (ha pins s σ H _ I h) fun v s1 ⟨x, H1, I1, r1, q1⟩ => ?_
  refine thn (hb pins s1 σ H1 _ I1 q1) fun u s2 ⟨y, H2, I2, r2, q2⟩ => ?_
  exact hf v u s2 x y H2 I2 r1 r2 q2
theorem pe_op {op : Operator} {r : R2} (ho : OpR X (binaryOp op) r) (ha : PE X a ta) (hb : PE X b tb) : PE X (.BinOp a op b pos) (tOp r ta tb) := by
  intro pins s σ H Q I h
  exact wpAny_BinOp (binT ha hb I h fun v u s2 x y H2 I2 rx ry q => ho pins s2 σ H2 x y v u Q I2 rx ry q)
theorem pe_un {op : UnaryOp} {r : V → Hp → VK → Prop} (ho : UnR X (unaryOp op) r) (ha : PE X a ta) : PE X (.UnaryOp op a pos) (tUn r ta) := by
  intro pins s σ H Q I h
  exact UnaryOp_ (thn (ha pins s σ H _ I h) fun v s1 ⟨x, H1, I1, r1, q1⟩ => ho pins s1 σ H1 x v Q I1 r1 q1)
theorem opI {f : Value → Value → Sem Value} {C : Int → Int → Prop} {g : Int → Int → Int}
    (rule : ∀ (i j : Int) (t u : Tok) (s : Shared) (Q : Value → Shared → Prop) (E : Value → Shared → Prop), C i j → Q (.int (g i j) s.toks) { s with toks := s.toks + 1 } → wpAny (model X.prog X.w) X.A (f (.int i t) (.int j u)) Q E s) :
    OpR X f (rI C fun i j => .int (g i j)) := by
  intro pins s σ H x y v u Q I rx ry h
  obtain ⟨i, j, rfl, rfl, hc, q⟩ := h
  obtain ⟨t, rfl⟩ := rx
  obtain ⟨t', rfl⟩ := ry
  exact rule i j t t' s _ _ hc ⟨.int (g i j), H, I.tok _, ⟨_, rfl⟩, q⟩
theorem opI0 {f : Value → Value → Sem Value} {g : Int → Int → Int}
    (rule : ∀ (i j : Int) (t u : Tok) (s : Shared) (Q : Value → Shared → Prop) (E : Value → Shared → Prop), Q (.int (g i j) s.toks) { s with toks := s.toks + 1 } → wpAny (model X.prog X.w) X.A (f (.int i t) (.int j u)) Q E s) :
    OpR X f (rI0 fun i j => .int (g i j)) := by
  intro pins s σ H x y v u Q I rx ry h
  obtain ⟨i, j, rfl, rfl, q⟩ := h
  obtain ⟨t, rfl⟩ := rx
  obtain ⟨t', rfl⟩ := ry
  exact rule i j t t' s _ _ ⟨.int (g i j), H, I.tok _, ⟨_, rfl⟩, q⟩
theorem opB0 {f : Value → Value → Sem Value} {g : Int → Int → Bool}
    (rule : ∀ (i j : Int) (t u : Tok) (s : Shared) (Q : Value → Shared → Prop) (E : Value → Shared → Prop), Q (.bool (g i j)) s → wpAny (model X.prog X.w) X.A (f (.int i t) (.int j u)) Q E s) :
    OpR X f (rI0 fun i j => .bl (g i j)) := by
  intro pins s σ H x y v u Q I rx ry h
  obtain ⟨i, j, rfl, rfl, q⟩ := h
  obtain ⟨t, rfl⟩ := rx
  obtain ⟨t', rfl⟩ := ry
  exact rule i j t t' s _ _ ⟨.bl (g i j), H, I, rfl, q⟩
def CPow (i j : Int) : Prop := 0 ≤ j ∧ j ≤ 1000000 ∧ i.natAbs < 2 ^ 64
def CMul (i j : Int) : Prop := (-(2 ^ 64) < i ∧ i < 2 ^ 64) ∨ (-(2 ^ 64) < j ∧ j < 2 ^ 64)
theorem CMul.ok {i j : Int} (h : CMul i j) : IntMulOk i j := by
  rcases h with ⟨h1, h2⟩ | ⟨h1, h2⟩
  · exact .of_left (intBits_le_64 h1 h2)
  · exact .of_right (intBits_le_64 h1 h2)
theorem op_add : OpR X (binaryOp .Add) (rI0 fun i j => .int (i + j)) := opI0 fun _ _ _ _ _ _ _ q => add_int q
theorem op_sub : OpR X (binaryOp .Sub) (rI0 fun i j => .int (i - j)) := opI0 fun _ _ _ _ _ _ _ q => sub_int q
theorem op_mul : OpR X (binaryOp .Mult) (rI CMul fun i j => .int (i * j)) := opI fun _ _ _ _ _ _ _ hc q => mul_int q hc.ok
theorem op_mod : OpR X (binaryOp .Mod) (rI (fun _ j => 0 < j) fun i j => .int (i % j)) := opI fun i j _ _ _ _ _ hc q => by
  have h1 : (0 : Int) < j := hc
  exact mod_int' (by omega) (by rw [Int.fmod_eq_emod_of_nonneg i (by omega)]; exact q)
theorem op_pow : OpR X (binaryOp .Pow) (rI CPow fun i j => .int (i ^ j.toNat)) := opI fun _ _ _ _ _ _ _ hc q => pow_int_small hc.1 hc.2.1 hc.2.2 q
theorem unI {f : Value → Sem Value} {g : Int → Int}
    (rule : ∀ (i : Int) (t : Tok) (s : Shared) (Q : Value → Shared → Prop) (E : Value → Shared → Prop), Q (.int (g i) s.toks) { s with toks := s.toks + 1 } → wpAny (model X.prog X.w) X.A (f (.int i t)) Q E s) :
    UnR X f (rU fun i => .int (g i)) := by
  intro pins s σ H x v Q I rx h
  obtain ⟨i, rfl, q⟩ := h
  obtain ⟨t, rfl⟩ := rx
  exact rule i t s _ _ ⟨.int (g i), H, I.tok _, ⟨_, rfl⟩, q⟩
theorem un_neg : UnR X (unaryOp .USub) (rU fun i => .int (-i)) := unI fun _ _ _ _ _ q => neg_int q
end
def scal : V → V → Bool
  | .non, .non => true | .non, .int _ => true | .int _, .non => true | .non, .bl _ => true | .bl _, .non => true | .non, .str _ => true | .str _, .non => true
  | .int _, .int _ => true | .bl _, .bl _ => true | .str _, .str _ => true | .byt _, .byt _ => true
  | .int _, .str _ => true | .str _, .int _ => true | .bl _, .str _ => true | .str _, .bl _ => true
  | _, _ => false
def rEq : R2 := fun x y H Q => scal x y = true ∧ Q (.bl (decide (x = y))) H
def rNe : R2 := fun x y H Q => scal x y = true ∧ Q (.bl (!decide (x = y))) H
theorem dec_int {i j : Int} : decide (V.int i = V.int j) = (i == j) := by
  rw [Bool.eq_iff_iff]
  simp
theorem dec_bl {i j : Bool} : decide (V.bl i = V.bl j) = (i == j) := by
  rw [Bool.eq_iff_iff]
  simp
theorem dec_str {i j : Str} : decide (V.str i = V.str j) = (i == j) := by
  rw [Bool.eq_iff_iff]
  simp
theorem dec_byt {i j : Array UInt8} : decide (V.byt i = V.byt j) = (i.toList == j.toList) := by
  rw [Bool.eq_iff_iff]
  cases i
  cases j
  simp
section
variable {X : Cx} {a b c : Expr} {ta tb tc : TE} {pos : Pos}
theorem fin_bl {pins : List (Addr × Obj)} {σ : St} {H : Hp} {s : Shared} {Q : VK} {k k' : Bool} (I : Inv X pins σ H s) (q : Q (.bl k) H) (e : k = k') : EP X pins σ Q (.bool k') s := by
  subst e
  exact ⟨.bl k, H, I, rfl, q⟩
theorem op_eq : OpR X (compareOp .Eq) rEq := by
  intro pins s σ H x y v u Q I rx ry h
  obtain ⟨hs, q⟩ := h
  cases x with
  | non =>
    cases rx
    cases y with
    | non => cases ry; exact PySem.EqNone.eq_none_none (fin_bl I q (by simp))
    | bl j => cases ry; exact PySem.EqNone.eq_none_bool (fin_bl I q (by simp))
    | int j => obtain ⟨t', rfl⟩ := ry; exact PySem.EqNone.eq_none_int (fin_bl I q (by simp))
    | str j => obtain ⟨t', rfl⟩ := ry; exact PySem.EqNone.eq_none_str (fin_bl I q (by simp))
    | _ => exact absurd (show false = true from hs) Bool.false_ne_true
  | bl i =>
    cases rx
    cases y with
    | non => cases ry; exact PySem.EqNone.eq_bool_none (fin_bl I q (by simp))
    | bl j => cases ry; exact eq_bool (fin_bl I q dec_bl)
    | str j => obtain ⟨t', rfl⟩ := ry; exact PySem.EqMixed.eq_bool_str (fin_bl I q (by simp))
    | _ => exact absurd (show false = true from hs) Bool.false_ne_true
  | int i =>
    obtain ⟨t, rfl⟩ := rx
    cases y with
    | non => cases ry; exact PySem.EqNone.eq_int_none (fin_bl I q (by simp))
    | int j => obtain ⟨t', rfl⟩ := ry; exact eq_int (fin_bl I q dec_int)
    | str j => obtain ⟨t', rfl⟩ := ry; exact PySem.EqMixed.eq_int_str (fin_bl I q (by simp))
    | _ => exact absurd (show false = true from hs) Bool.false_ne_true
  | str i =>
    obtain ⟨t, rfl⟩ := rx
    cases y with
    | non => cases ry; exact PySem.EqNone.eq_str_none (fin_bl I q (by simp))
    | bl j => cases ry; exact PySem.EqMixed.eq_str_bool (fin_bl I q (by simp))
    | int j => obtain ⟨t', rfl⟩ := ry; exact PySem.EqMixed.eq_str_int (fin_bl I q (by simp))
    | str j => obtain ⟨t', rfl⟩ := ry; exact eq_str (fin_bl I q dec_str)
    | _ => exact absurd (show false = true from hs) Bool.false_ne_true
  | byt i =>
    obtain ⟨t, rfl⟩ := rx
    cases y with
    | byt j => obtain ⟨t', rfl⟩ := ry; exact PySem.W.eq_bytes (fin_bl I q dec_byt)
    | _ => exact absurd (show false = true from hs) Bool.false_ne_true
  | _ => cases y <;> exact absurd (show false = true from hs) Bool.false_ne_true
theorem op_ne : OpR X (compareOp .NotEq) rNe := by
  intro pins s σ H x y v u Q I rx ry h
  obtain ⟨hs, q⟩ := h
  cases x with
  | non =>
    cases rx
    cases y with
    | non => cases ry; exact PySem.EqNone.ne_none_none (fin_bl I q (by simp))
    | bl j => cases ry; exact PySem.EqNone.ne_none_bool (fin_bl I q (by simp))
    | int j => obtain ⟨t', rfl⟩ := ry; exact PySem.EqNone.ne_none_int (fin_bl I q (by simp))
    | str j => obtain ⟨t', rfl⟩ := ry; exact PySem.EqNone.ne_none_str (fin_bl I q (by simp))
    | _ => exact absurd (show false = true from hs) Bool.false_ne_true
  | bl i =>
    cases rx
    cases y with
    | non => cases ry; exact PySem.EqNone.ne_bool_none (fin_bl I q (by simp))
    | bl j => cases ry; exact ne_bool (fin_bl I q (congrArg not dec_bl))
    | str j => obtain ⟨t', rfl⟩ := ry; exact PySem.EqMixed.ne_bool_str (fin_bl I q (by simp))
    | _ => exact absurd (show false = true from hs) Bool.false_ne_true
  | int i =>
    obtain ⟨t, rfl⟩ := rx
    cases y with
    | non => cases ry; exact PySem.EqNone.ne_int_none (fin_bl I q (by simp))
    | int j => obtain ⟨t', rfl⟩ := ry; exact ne_int (fin_bl I q (congrArg not dec_int))
    | str j => obtain ⟨t', rfl⟩ := ry; exact PySem.EqMixed.ne_int_str (fin_bl I q (by simp))
    | _ => exact absurd (show false = true from hs) Bool.false_ne_true
  | str i =>
    obtain ⟨t, rfl⟩ := rx
    cases y with
    | non => cases ry; exact PySem.EqNone.ne_str_none (fin_bl I q (by simp))
    | bl j => cases ry; exact PySem.EqMixed.ne_str_bool (fin_bl I q (by simp))
    | int j => obtain ⟨t', rfl⟩ := ry; exact PySem.EqMixed.ne_str_int (fin_bl I q (by simp))
    | str j => obtain ⟨t', rfl⟩ := ry; exact ne_str (fin_bl I q (congrArg not dec_str))
    | _ => exact absurd (show false = true from hs) Bool.false_ne_true
  | byt i =>
    obtain ⟨t, rfl⟩ := rx
    cases y with
    | byt j => obtain ⟨t', rfl⟩ := ry; exact PySem.W.ne_bytes (fin_bl I q (congrArg not dec_byt))
    | _ => exact absurd (show false = true from hs) Bool.false_ne_true
  | _ => cases y <;> exact absurd (show false = true from hs) Bool.false_ne_true
theorem op_gt : OpR X (compareOp .Gt) (rI0 fun i j => .bl (decide (j < i))) := opB0 fun _ _ _ _ _ _ _ q => gt_int q
theorem op_ge : OpR X (compareOp .GtE) (rI0 fun i j => .bl (decide (j ≤ i))) := opB0 fun _ _ _ _ _ _ _ q => ge_int q
theorem nomark (b : Expr) {op : CmpOp} (h : op ≠ .In := by decide) (h2 : op ≠ .NotIn := by decide) : behindInMarks op b = false := by
  have e1 : (op == CmpOp.In) = false := by cases op <;> first | rfl | exact absurd rfl h
  have e2 : (op == CmpOp.NotIn) = false := by cases op <;> first | rfl | exact absurd rfl h2
  cases b <;> simp [behindInMarks, e1, e2]
theorem pe_cmpR {op : CmpOp} {r : R2} (ho : OpR X (compareOp op) r) (ha : PE X a ta) (hb : PE X b tb) (hm : behindInMarks op b = false) : PE X (.Compare a [op] [b] pos) (tOp r ta tb) := by
  intro pins s σ H Q I h
  exact wpAny_Compare1 (binT ha hb I h fun v u s2 x y H2 I2 rx ry q => ho pins s2 σ H2 x y v u Q I2 rx ry q) hm
def tTest (t : TE) : TT := fun σ H Q => t σ H fun x H' => ∃ k, x = .bl k ∧ Q k H'
theorem pt_cmpR {op : CmpOp} {r : R2} (ho : OpR X (compareOp op) r) (ha : PE X a ta) (hb : PE X b tb) (hm : behindInMarks op b = false) : PT X (.Compare a [op] [b] pos) (tTest (tOp r ta tb)) := by
  intro pins s σ H Q I h
  refine wpAny_isTrue_Compare1 (thn (ha pins s σ H _ I h) fun v s1 ⟨x, H1, I1, r1, q1⟩ => thn (hb pins s1 σ H1 _ I1 q1) fun u s2 ⟨y, H2, I2, r2, q2⟩ =>
    thn (ho pins s2 σ H2 x y v u _ I2 r1 r2 q2) fun c s3 ⟨z, H3, I3, r3, k, e, q3⟩ => ?_) hm
  subst e
  cases r3
  exact wpAny_truthy_bool ⟨H3, I3, q3⟩
theorem line63 : (sizeLine : Nat) < 2 ^ 63 := by rw [sizeLine_eq]; decide
theorem op_add_str : OpR X (binaryOp .Add) (fun x y H Q => ∃ i j, x = .str i ∧ y = .str j ∧ i.length + j.length ≤ sizeLine ∧ Q (.str (i ++ j)) H) := by
  intro pins s σ H x y v u Q I rx ry h
  obtain ⟨i, j, rfl, rfl, hz, q⟩ := h
  obtain ⟨t, rfl⟩ := rx
  obtain ⟨t', rfl⟩ := ry
  exact add_str (fun t' tk => ⟨.str (i ++ j), H, I.tok _, ⟨_, rfl⟩, q⟩) hz
theorem vals1 {x : V} {us : List Value} (r : Vals [x] us) : ∃ u, us = [u] ∧ RelV x u := by
  cases r with
  | cons r1 r2 => cases r2; exact ⟨_, rfl, r1⟩
theorem vals2 {x y : V} {us : List Value} (r : Vals [x, y] us) : ∃ u w', us = [u, w'] ∧ RelV x u ∧ RelV y w' := by
  cases r with
  | cons r1 r2 =>
    cases r2 with
    | cons r3 r4 => cases r4; exact ⟨_, _, rfl, r1, r3⟩
theorem call_abs : CallR X (.builtin "abs") (fun xs H Q => ∃ i, xs = [.int i] ∧ Q (.int (if i < 0 then -i else i)) H) := by
  intro pins s σ H xs us Q I r h
  obtain ⟨i, rfl, q⟩ := h
  obtain ⟨u, rfl, t, rfl⟩ := vals1 r
  exact call_abs_int fun u tk => ⟨.int (if i < 0 then -i else i), H, I.tok _, ⟨_, rfl⟩, q⟩
theorem call_str_int : CallR X (.type "str") (fun xs H Q => ∃ i, xs = [.int i] ∧ i.natAbs.log2 < 1920 ∧ Q (.str (toString i)) H) := by
  intro pins s σ H xs us Q I r h
  obtain ⟨i, rfl, hz, q⟩ := h
  obtain ⟨u, rfl, t, rfl⟩ := vals1 r
  exact PySem.P.str_of_int hz ⟨.str _, H, I.tok _, ⟨_, rfl⟩, q⟩
end
end L2
namespace L2
open PySem PySem.Spec PyProof.Rows
structure ObjM (h : Heap) (x dx C : Addr) (mA : Str → Option Value) : Prop where
  obj : h.get? x = some (PySem.W.instObj C dx)
  ns : h.Ns1 dx mA
  ne : dx ≠ x
theorem lookIn_ns {h : Heap} {dx : Addr} {mA : Str → Option Value} (n : h.Ns1 dx mA) : ∃ od, h.get? dx = some od ∧ ∀ name, PySem.W.lookIn name od = some (mA name) := by
  obtain ⟨o, es, ep, ho, hd, hk, _, hm⟩ := n
  refine ⟨o, ho, fun name => ?_⟩
  have e := hm name
  unfold nsFind findBy at e
  rw [← Array.find?_toList] at e
  unfold PySem.W.lookIn
  rw [hd]
  dsimp only
  split
  · rename_i y q
    rw [q] at e
    exact congrArg some e
  · rename_i q
    rw [q] at e
    have a : es.toList.any (·.refKey) = false := by
      rw [List.any_eq_false]
      intro y hy
      obtain ⟨z, t, hkey⟩ := hk y (Array.mem_toList_iff.mp hy)
      simp [DictEntry.refKey, hkey]
    have a' : ¬ es.toList.any (·.refKey) = true := by rw [a]; exact Bool.false_ne_true
    rw [if_neg a']
    exact congrArg some e
theorem ObjM.look {h : Heap} {x dx C : Addr} {mA : Str → Option Value} (I : ObjM h x dx C mA) : ∃ od, PySem.W.InstAt h x (PySem.W.instObj C dx) C (some od) ∧ ∀ name, PySem.W.lookIn name od = some (mA name) :=
  let ⟨od, ho, hl⟩ := lookIn_ns I.ns
  ⟨od, ⟨I.obj, rfl, rfl, ho⟩, hl⟩
section
variable {prog : Program} {w : World} {A : Around} {E : Value → Shared → Prop} {s : Shared} {K : PySem.W.Frag} {x dx C f : Addr} {mA : Str → Option Value} {name : Str} {v : Value}
end
section
variable {P : Program} {w : World} {H H' : Hp} {h h' : Heap} {a C dx : Addr} {fs fs' : List (Str × V)}
theorem ins_get (hok : HOk P w H h) (e : H a = some (.ins C dx fs)) : ∃ mA, ObjM h a dx C mA ∧ (∀ f, RelO (fs.lookup f) (mA f)) ∧ PySem.Within mA (fs.map (·.1)) ∧ fs.length ≤ 1000 ∧ H dx = some (.own a) := by
  obtain ⟨d, z, ne, ob, mA, n, r, q⟩ := (show ObjOk P w H h a (.ins C dx fs) from hok a _ e)
  exact ⟨mA, ⟨ob, n, ne⟩, r, q, z, d⟩
end
structure Cls (K : PySem.W.Frag) (C : Addr) : Prop where
  pg : PySem.W.plainGet K C Str.empty = true
  hd : PySem.W.hasDictIn K C = true
  po : PySem.W.plainOver K C = true
  sa : PySem.W.findIn K (.ref C) "__setattr__" = some (some (.builtin "object.__setattr__"))
theorem Cls.get {K : PySem.W.Frag} {C : Addr} (c : Cls K C) (f : Str) : PySem.W.plainGet K C f = true := c.pg
section
variable {X : Cx} {pins : List (Addr × Obj)} {σ : St} {H : Hp} {s : Shared} {a C dx : Addr} {fs : List (Str × V)} {f : Str} {v : V} {A : Around} {E : Value → Shared → Prop}
end
section
variable {X : Cx} {o e value : Expr} {f : Str} {pos pos' tpos : Pos} {ta tv : TE}
end
section
variable {X : Cx} {pins : List (Addr × Obj)} {σ : St} {H : Hp} {s : Shared} {A : Around} {E : Value → Shared → Prop} {Q : Value → Shared → Prop} {c : Value} {b : Bool}
inductive TyOf (K : PySem.W.Frag) (H : Hp) : V → Value → Prop where
  | non : TyOf K H .non (.type "NoneType")
  | bl (x : Bool) : TyOf K H (.bl x) (.type "bool")
  | int (i : Int) : TyOf K H (.int i) (.type "int")
  | str (x : Str) : TyOf K H (.str x) (.type "str")
  | flt (x : UInt64) : TyOf K H (.flt x) (.type "float")
  | lst {a : Addr} {xs : List V} (e : H a = some (.lst xs)) : TyOf K H (.ref a) (.type "list")
  | frz {a : Addr} {o : Obj} {xs : List V} (e : H a = some (.frz o (.lst xs))) : TyOf K H (.ref a) (.type "list")
  | tup {a : Addr} {xs : List V} (e : H a = some (.tup xs)) : TyOf K H (.ref a) (.type "tuple")
  | dK {a : Addr} {kvs : List (Key × V)} (e : H a = some (.dK kvs)) : TyOf K H (.ref a) (.type "dict")
  | dT {a : Addr} {kvs : List (List Key × V)} (e : H a = some (.dT kvs)) : TyOf K H (.ref a) (.type "dict")
  | ins {a C dx : Addr} {fs : List (Str × V)} (e : H a = some (.ins C dx fs)) (cl : Cls K C) (ha : PySem.W.findIn K (.ref C) "__class__" = some (some (.builtin "object.__class__")))
      (hn : PySem.W.specialIn K (.builtin "object.__class__") "__get__" = some (some (.builtin "getset_descriptor.__get__"))) (htk : PySem.W.takesIn K (.builtin "object.__class__") = some true)
      (hm : PySem.W.mroIn K C (.type "object") = some true) : TyOf K H (.ref a) (.ref C)
theorem isinst_ok {x : V} {u t : Value} (I : Inv X pins σ H s) (rx : RelV x u) (ty : TyOf X.K H x t) (e : PySem.W.kitOne X.K t c = some b) (h : ∀ tk, Q (.bool b) { s with toks := tk }) :
    wpAny (model X.prog X.w) A (call (.builtin "isinstance") [u, c]) Q E s := by
  cases ty with
  | non => cases (show u = Value.none from rx); exact PySem.W.kia_one PySem.W.kitx_none I.kIn True.intro e (fun z => nomatch z) h
  | bl y => cases (show u = Value.bool y from rx); exact PySem.W.kia_one PySem.W.kitx_bool I.kIn True.intro e (fun z => nomatch z) h
  | int i => obtain ⟨t, q⟩ := (show ∃ t, u = Value.int i t from rx); cases q; exact PySem.W.kia_one PySem.W.kitx_int I.kIn True.intro e (fun z => nomatch z) h
  | str y => obtain ⟨t, q⟩ := (show ∃ t, u = Value.str y t from rx); cases q; exact PySem.W.kia_one PySem.W.kitx_str I.kIn True.intro e (fun z => nomatch z) h
  | flt y => obtain ⟨t, q⟩ := (show ∃ t, u = Value.float y t from rx); cases q; exact PySem.W.kia_one PySem.W.kitx_float I.kIn True.intro e (fun z => nomatch z) h
  | @lst a xs ea =>
    cases (show u = Value.ref a from rx)
    obtain ⟨_, _, n, _, h1⟩ := (show ObjOk X.prog X.w H s.heap a (.lst xs) from I.hok a _ ea)
    exact PySem.W.kia_one PySem.W.kitx_list I.kIn ⟨_, h1, rfl⟩ e (fun z => nomatch z) h
  | @frz a ob xs ea =>
    cases (show u = Value.ref a from rx)
    obtain ⟨_, _, _, n, _, h1⟩ := (show ObjOk X.prog X.w H s.heap a (.frz ob (.lst xs)) from I.hok a _ ea)
    exact PySem.W.kia_one PySem.W.kitx_list I.kIn ⟨_, h1, rfl⟩ e (fun z => nomatch z) h
  | @tup a xs ea =>
    cases (show u = Value.ref a from rx)
    obtain ⟨_, _, _, p⟩ := (show ObjOk X.prog X.w H s.heap a (.tup xs) from I.hok a _ ea)
    obtain ⟨o, h1, h2, _⟩ := p
    exact PySem.W.kia_one PySem.W.kitx_tuple I.kIn ⟨o, h1, h2⟩ e (fun z => nomatch z) h
  | @dK a kvs ea =>
    cases (show u = Value.ref a from rx)
    obtain ⟨_, _, vs, _, p⟩ := (show ObjOk X.prog X.w H s.heap a (.dK kvs) from I.hok a _ ea)
    obtain ⟨o, es, ep, h1, h2, _⟩ := p
    exact PySem.W.kia_one PySem.W.kitx_dict I.kIn ⟨o, h1, h2.1⟩ e (fun z => nomatch z) h
  | @dT a kvs ea =>
    cases (show u = Value.ref a from rx)
    obtain ⟨_, _, xs, _, o, es, ep, h1, h2, _⟩ := (show ObjOk X.prog X.w H s.heap a (.dT kvs) from I.hok a _ ea)
    exact PySem.W.kia_one PySem.W.kitx_dict I.kIn ⟨o, h1, h2.1⟩ e (fun z => nomatch z) h
  | @ins a C dx fs ea cl ha hn htk hm =>
    cases (show u = Value.ref a from rx)
    obtain ⟨mA, O, _⟩ := ins_get I.hok ea
    obtain ⟨od, J, _⟩ := O.look
    exact PySem.W.kia_one (PySem.W.kitx_own (cl.get _) cl.hd ha hn htk hm) I.kIn J e (fun z => nomatch z) h
end
end L2
namespace L2
open PySem PySem.Spec PyProof.Rows
structure Room (k : Nat) (A : Around) : Prop where
  hd : A.handled = none
  dp : A.depth + 3 * k + 5 < recursionLimit
  un : A.units + 16 * k + 200 < cLine
theorem Room.mono {j k : Nat} {A : Around} (r : Room k A) (h : j ≤ k) : Room j A := ⟨r.hd, by have := r.dp; omega, by have := r.un; omega⟩
theorem Room.deeper {k : Nat} {A : Around} (r : Room (k + 1) A) (env : Env) : Room k (A.deeper env) :=
  ⟨r.hd, by have := r.dp; show A.depth + 1 + 3 * k + 5 < _; omega, by have := r.un; show A.units + 3 + 16 * k + 200 < _; omega⟩
theorem Room.depth {k : Nat} {A : Around} (r : Room k A) : A.depth < recursionLimit := by have := r.dp; omega
theorem Room.units {k : Nat} {A : Around} (r : Room k A) : A.units + 64 < cLine := by have := r.un; omega
def tNil : TA := fun _ H Q => Q [] H
def tCons (ta : TE) (tr : TA) : TA := fun σ H Q => ta σ H fun x H1 => tr σ H1 fun xs H2 => Q (x :: xs) H2
section
variable {X : Cx} {e : Expr} {es : List Expr} {te : TE} {t : TA} {pos : Pos}
theorem pa_nil : PA X [] tNil := fun _ _ _ _ H Q I h => Calls.spliced_nil ⟨[], H, I, .nil, h⟩
theorem pa_cons (ha : PE X e te) (hr : PA X es t) (hs : starEach (e :: es) X.env = (false, eval e X.env) :: starEach es X.env := by rfl) : PA X (e :: es) (tCons te t) := by
  intro pos pins s σ H Q I h
  rw [hs]
  show wpAny _ _ (spliced ((false, eval e X.env) :: backTo pos (starEach es X.env))) _ _ s
  refine Calls.spliced_cons (thn (ha pins s σ H _ I h) fun u s1 ⟨x, H1, I1, r1, q1⟩ => ?_)
  exact thn (hr pos pins s1 σ H1 _ I1 q1) fun us s2 ⟨xs, H2, I2, r2, q2⟩ => ⟨x :: xs, H2, I2, .cons r1 r2, q2⟩
def tTup (t : TA) : TE := fun σ H Q => t σ H fun xs H1 => xs.length ≤ sizeLine ∧ ∀ p, H1 p = none → Q (.ref p) (upd H1 p (.tup xs))
def tLst (t : TA) : TE := fun σ H Q => t σ H fun xs H1 => xs.length ≤ sizeLine ∧ ∀ p, H1 p = none → Q (.ref p) (upd H1 p (.lst xs))
theorem pe_tup {x1} (h : PA X es t) : PE X (.Tuple es x1 pos) (tTup t) := by
  intro pins s σ H Q I hq
  refine wpAny_Tuple_spliced (thn (h pos pins s σ H _ I hq) fun us s1 ⟨xs, H1, I1, r, z, q⟩ => ⟨by rw [← r.length]; exact z, ?_⟩)
  have hf : H1 s1.heap.objs.size = none := I1.hok.fresh (Nat.le_refl _)
  refine ⟨.ref s1.heap.objs.size, upd H1 s1.heap.objs.size (.tup xs), I1.laid (t' := s1.toks) (fun b u e => Heap.get?_push_of_some _ e) (Nat.le_refl _) ?_, rfl, q _ hf⟩
  exact ⟨z, us, r, ⟨_, Heap.get?_push_size _ rfl, rfl, _, rfl⟩⟩
theorem pe_lst (h : PA X es t) : PE X (.List es pos) (tLst t) := by
  intro pins s σ H Q I hq
  refine wpAny_List_spliced (thn (h pos pins s σ H _ I hq) fun us s1 ⟨xs, H1, I1, r, z, q⟩ => ⟨by rw [← r.length]; exact z, ?_⟩)
  have hf : H1 s1.heap.objs.size = none := I1.hok.fresh (Nat.le_refl _)
  refine ⟨.ref s1.heap.objs.size, upd H1 s1.heap.objs.size (.lst xs), I1.laid (t' := s1.toks) (fun b u e => Heap.get?_push_of_some _ e) (Nat.le_refl _) ?_, rfl, q _ hf⟩
  exact ⟨z, us, 0, r, Heap.get?_push_size _ rfl⟩
end
abbrev Sp := List V → Hp → VK → XK → Prop
abbrev CXT := List Env → Hp → Shared → XK → Value → Shared → Prop
structure Env0 (P : Program) (w : World) (K : PySem.W.Frag) (mg : Str → Option Value) (base : Heap) (A : Around) (outer : List Env) (s : Shared) (H : Hp) : Prop where
  frames : A.frames = some outer
  mod : Mod K mg base
  bs : ∀ b o, base.get? b = some o → s.heap.get? b = some o ∧ H b = none
  bsz : base.objs.size ≤ s.heap.objs.size
  funs : s.heap.FunFrames base outer
  frf : ∀ b ∈ frs outer, H b = none
  hok : HOk P w H s.heap
  bare : AllBare s.gens
def CE (outer : List Env) (P : Program) (w : World) (H : Hp) (s : Shared) (Q : VK) (u : Value) (s' : Shared) : Prop :=
  ∃ v H', s'.os = s.os ∧ AllBare s'.gens ∧ Un (frs outer) [] H H' s.heap s'.heap ∧ HOk P w H' s'.heap ∧ RelV v u ∧ Q v H'
def CR (CX : CXT) (outer : List Env) (P : Program) (w : World) (H : Hp) (s : Shared) (Q : VK) (E : XK) (r : Result) (s' : Shared) : Prop :=
  match r with
  | .ok (.ret u) => CE outer P w H s Q u s'
  | .ok _ => False
  | .error e => CX outer H s E e s'
structure FnOk (P : Program) (w : World) (K : PySem.W.Frag) (mg : Str → Option Value) (base : Heap) (CX : CXT) (k : Nat) (f : Addr) (fd : FuncData) (ps : List Str) (sp : Sp) : Prop where
  len : ∀ vs H Q E, sp vs H Q E → vs.length = ps.length
  run : ∀ (A : Around) (outer : List Env) (s : Shared) (H : Hp) (args : Args) (us : List Value) (vs : List V) (Q : VK) (E : XK), Room k A → Env0 P w K mg base A outer s H → BindsTo s fd args (ps.zip us) → Vals vs us → sp vs H Q E →
    codeAny (model P w) A (.call (.ref f) args) (CR CX outer P w H s Q E) s
section
variable {X : Cx} {pins : List (Addr × Obj)} {σ : St} {H : Hp} {s s' : Shared}
theorem Inv.env0 (I : Inv X pins σ H s) : Env0 X.prog X.w X.K X.mg X.base X.A X.stack s H :=
  ⟨I.ok.frames, I.ok.mod, I.bs, Nat.le_trans I.ok.bsz I.sz, I.stack, I.stkFree, I.hok, I.bare⟩
theorem Inv.after {Q : VK} {u : Value} (I : Inv X pins σ H s) (h : CE X.stack X.prog X.w H s Q u s') : EP X pins σ Q u s' := by
  obtain ⟨v, H', os, bare, un, hok, r, q⟩ := h
  obtain ⟨hh, g, d, t, os'⟩ := s'
  obtain rfl : os' = s.os := os
  exact ⟨v, H', I.call (h' := hh) (g' := g) (d' := d) (t' := t) (ch := []) un hok bare (fun b z => absurd z (by simp)), r, q⟩
end
def tCall (sp : Sp) (dvs : List V) (E : XK) (t : TA) : TE := fun σ H Q => t σ H fun vs H1 => sp (vs ++ dvs) H1 Q E
def Binds (K : PySem.W.Frag) (fd : FuncData) (ps : List Str) (ds : List Value) : Prop :=
  ∀ (s : Shared) (us : List Value), K.In s.heap → (us ++ ds).length = ps.length → BindsTo s fd ⟨us, []⟩ (ps.zip (us ++ ds))
theorem Binds.all {K : PySem.W.Frag} {fd : FuncData} {ps : List Str} (h : ∀ us : List Value, us.length = ps.length → bindArgs fd ⟨us, []⟩ = pure (ps.zip us)) : Binds K fd ps [] := fun s us _ hl => by
  rw [List.append_nil] at hl ⊢
  exact .of_eq (h us hl)
def Passes (CX : CXT) (X : Cx) (E : XK) : Prop := ∀ (pins : List (Addr × Obj)) (σ : St) (H : Hp) (s : Shared) (e : Value) (s' : Shared), Inv X pins σ H s → CX X.stack H s E e s' → X.xe e s'
section
variable {X : Cx} {CX : CXT} {k : Nat} {f C : Addr} {fd : FuncData} {ps : List Str} {sp : Sp} {dvs : List V} {ds : List Value} {E : XK} {x m : Str} {p pos apos : Pos} {e o : Expr} {es : List Expr} {ta : TE} {t : TA}
theorem run_fn {pins : List (Addr × Obj)} {σ : St} {H : Hp} {s : Shared} {Q : VK} {us : List Value} {vs : List V} (F : FnOk X.prog X.w X.K X.mg X.base CX k f fd ps sp) (hr : Room k X.A) (hb : Binds X.K fd ps ds) (hd : Vals dvs ds) (hx : Passes CX X E)
    (I : Inv X pins σ H s) (r : Vals vs us) (h : sp (vs ++ dvs) H Q E) : wpAny (model X.prog X.w) X.A (call (.ref f) us) (EP X pins σ Q) X.xe s := by
  have r2 : Vals (vs ++ dvs) (us ++ ds) := r.append hd
  have hl : (us ++ ds).length = ps.length := by rw [← r2.length]; exact F.len _ _ _ _ h
  refine wpAny_call (codeAny_mono (F.run X.A X.stack s H ⟨us, []⟩ (us ++ ds) (vs ++ dvs) Q E hr I.env0 (hb s us I.kIn hl) r2 h) fun r s' hq => ?_)
  cases r with
  | error e => exact hx pins σ H s e s' I hq
  | ok fl =>
    cases fl with
    | ret u => exact I.after hq
    | next => exact False.elim hq
    | brk => exact False.elim hq
    | cont => exact False.elim hq
theorem pe_call (F : FnOk X.prog X.w X.K X.mg X.base CX k f fd ps sp) (hr : Room k X.A) (hg : Gl X x) (hm : X.mg x = some (.ref f)) (hk : PySem.W.keepIn X.K (.ref f) = true) (hb : Binds X.K fd ps ds) (hd : Vals dvs ds) (hx : Passes CX X E)
    (ha : PA X (e :: es) t) (hdb : (x == ("__debug__" : Str)) = false := by decide) (he : starEach (e :: es) X.env = (false, eval e X.env) :: starEach es X.env := by rfl) (hpl : (backTo pos (starEach es X.env)).any (·.1) = false := by rfl) :
    PE X (.Call (.Name x p) (e :: es) [] pos) (tCall sp dvs E t) := by
  intro pins s σ H Q I h
  refine wpAny_Call_Name_kw (ld_glob I hg hm ?_ hdb)
  refine PySem.W.callWith_K (h₀ := X.base) I.ok.mod.kin hk (thn (ha pos pins s σ H _ I h) fun us s1 ⟨vs, H1, I1, r, q⟩ => ⟨I1.kIn, ?_⟩) he hpl
  exact run_fn F hr hb hd hx I1 r q
end
section
variable {X : Cx} {CX : CXT} {k : Nat} {f C : Addr} {fd : FuncData} {ps ks : List Str} {sp : Sp} {E : XK} {x m : Str} {p pos apos kpos : Pos} {e o : Expr} {es : List Expr} {kws : List Keyword} {te ta : TE} {t tk : TA} {nm : Option Str}
variable {g : List Value → List Value → List Value} {gV : List V → List V → List V}
end
structure FnScope (N P : List Str) (sc : Scope) : Prop where
  kind : sc.kind = .function
  co : sc.isCoroutine = false
  gen : sc.isGenerator = false
  nd : N.Nodup
  pre : N.take P.length = P
  par : ∀ x ∈ P, sc.names.lookup x = some .local ∨ sc.names.lookup x = some .cell
  nofree : ∀ y ∈ sc.names, y.2 ≠ .free
theorem bindL_out {kindOf : Str → Option NameKind} {x : Str} : ∀ {binds : List (Str × Value)} {m : Str → Option Value}, (∀ v, (x, v) ∉ binds) → bindL kindOf binds m x = m x
  | [], _, _ => rfl
  | (n, v) :: r, m, h => by
    unfold bindL
    rw [bindL_out fun w hw => h w (List.mem_cons_of_mem _ hw)]
    split
    · have : x ≠ n := by rintro rfl; exact h v List.mem_cons_self
      simp [this]
    · rfl
theorem bindC_out {kindOf : Str → Option NameKind} {x : Str} : ∀ {binds : List (Str × Value)} {m : Str → Option Value}, (∀ v, (x, v) ∉ binds) → bindC kindOf binds m x = m x
  | [], _, _ => rfl
  | (n, v) :: r, m, h => by
    unfold bindC
    rw [bindC_out fun w hw => h w (List.mem_cons_of_mem _ hw)]
    split
    · rfl
    · have : x ≠ n := by rintro rfl; exact h v List.mem_cons_self
      simp [this]
theorem bindL_get {kindOf : Str → Option NameKind} {x : Str} {v : Value} : ∀ {P : List Str} {vs : List Value} {i : Nat} {m : Str → Option Value}, P.Nodup → P[i]? = some x → vs[i]? = some v → kindOf x = some .local →
    bindL kindOf (P.zip vs) m x = some v
  | [], _, _, _, _, h, _, _ => by simp at h
  | _ :: _, [], _, _, _, _, h, _ => by simp at h
  | p :: P, w :: vs, 0, m, nd, h1, h2, hk => by
    simp at h1 h2; subst h1; subst h2
    show bindL kindOf ((p, w) :: P.zip vs) m p = _
    unfold bindL
    rw [bindL_out fun v hv => (List.nodup_cons.mp nd).1 (List.of_mem_zip hv).1, if_pos hk]
    simp
  | p :: P, w :: vs, i + 1, m, nd, h1, h2, hk => by
    show bindL kindOf ((p, w) :: P.zip vs) m x = _
    unfold bindL
    exact bindL_get (i := i) (List.nodup_cons.mp nd).2 (by simpa using h1) (by simpa using h2) hk
theorem bindC_get {kindOf : Str → Option NameKind} {x : Str} {v : Value} : ∀ {P : List Str} {vs : List Value} {i : Nat} {m : Str → Option Value}, P.Nodup → P[i]? = some x → vs[i]? = some v → kindOf x ≠ some .local →
    bindC kindOf (P.zip vs) m x = some v
  | [], _, _, _, _, h, _, _ => by simp at h
  | _ :: _, [], _, _, _, _, h, _ => by simp at h
  | p :: P, w :: vs, 0, m, nd, h1, h2, hk => by
    simp at h1 h2; subst h1; subst h2
    show bindC kindOf ((p, w) :: P.zip vs) m p = _
    unfold bindC
    rw [bindC_out fun v hv => (List.nodup_cons.mp nd).1 (List.of_mem_zip hv).1, if_neg hk]
    simp
  | p :: P, w :: vs, i + 1, m, nd, h1, h2, hk => by
    show bindC kindOf ((p, w) :: P.zip vs) m x = _
    unfold bindC
    exact bindC_get (i := i) (List.nodup_cons.mp nd).2 (by simpa using h1) (by simpa using h2) hk
def start (N : List Str) (vs : List V) : St := vs.map some ++ List.replicate (N.length - vs.length) none
def cxOf (CX : CXT) (P : Program) (w : World) (K : PySem.W.Frag) (mg : Str → Option Value) (base : Heap) (N : List Str) (qual : Str) (scope : Scope) (f : Addr) (cd : Value) (A : Around) (outer : List Env) (s : Shared) (H : Hp) (E : XK) : Cx where
  prog := P
  w := w
  K := K
  mg := mg
  base := base
  A := A.deeper (envOfC qual scope s.heap.objs.size f cd)
  N := N
  s₀ := s
  H₀ := H
  env := envOfC qual scope s.heap.objs.size f cd
  outer := outer
  stack := envOfC qual scope s.heap.objs.size f cd :: outer
  ex := []
  calm := true
  fn := fun _ => true
  pn := []
  xe := fun e s' => wpAny (model P w) (A.deeper (envOfC qual scope s.heap.objs.size f cd)) (leaving (envOfC qual scope s.heap.objs.size f cd) e) (fun _ s'' => CX outer H s E e s'') (fun e' s'' => CX outer H s E e' s'') s'
theorem cell_has {sc : Scope} {n : Nat} {x : Str} (h : sc.names.lookup x = some .cell) : ∃ c, (cellsFrom n sc.names []).lookup x = some c := by
  have q := PySem.W.cellsFrom_some sc.names n [] (.inl h)
  exact Option.isSome_iff_exists.mp q
theorem inv_start {CX : CXT} {P : Program} {w : World} {K : PySem.W.Frag} {mg : Str → Option Value} {base : Heap} {N ps : List Str} {qual : Str} {scope : Scope} {f : Addr} {cd : Value} {A : Around} {outer : List Env} {s s1 : Shared} {H : Hp} {E : XK} {us : List Value} {vs : List V}
    (S : FnScope N ps scope) (hd : A.handled = none) (e0 : Env0 P w K mg base A outer s H) (hl : vs.length = ps.length) (r : Vals vs us)
    (x : InCallC s s.heap.objs.size (bindL (envOfC qual scope s.heap.objs.size f cd).kindOf (ps.zip us) fun _ => none) (cellsFrom (s.heap.objs.size + 1) scope.names []) (bindC (envOfC qual scope s.heap.objs.size f cd).kindOf (ps.zip us) fun _ => none) s1) :
    Inv (cxOf CX P w K mg base N qual scope f cd A outer s H E) [] (start N vs) H s1 := by
  have hpl : ps.length ≤ N.length := by have := congrArg List.length S.pre; rw [List.length_take] at this; omega
  obtain ⟨h1, tk, rfl, hk⟩ := x.done
  have noA : ∀ b : Addr, b ∉ (cxOf CX P w K mg base N qual scope f cd A outer s H E).ex := fun b z => absurd (show b ∈ ([] : List Addr) from z) (by simp)
  refine ⟨⟨e0.mod, S.kind, rfl, rfl, Nat.le_refl _, fun y z c h1 h2 => ?_, fun y hy => ?_, fun y c _ h => ?_, fun _ => hd, Around.frames_deeper e0.frames, .inr ⟨rfl, rfl⟩, fun b z => absurd z (noA b), e0.bs, e0.bsz, fun b _ _ => noA b, fun b z => absurd z (noA b), e0.funs, e0.frf⟩,
    rfl, e0.bare, Un.kept hk, ⟨_, x.toInCall.ns, fun i y v h1 h2 h3 => ?_⟩, fun y c h => ⟨_, x.cell y c h⟩, e0.hok.fresh (Nat.le_refl _), fun y c h => ?_, fun p hp => absurd (show p ∈ ([] : List (Addr × Obj)) from hp) (by simp), e0.hok.kept hk, ?_⟩
  · exact name_of_addr x.apart (PySem.mem_of_lookup h1) (PySem.mem_of_lookup h2)
  · have hy : scope.names.lookup y = some .cell ∨ scope.names.lookup y = some .free := hy
    rcases hy with hy | hy
    · exact cell_has hy
    · exact absurd rfl (S.nofree _ (PySem.mem_of_lookup hy))
  · exact Nat.le_of_lt (x.above y c (PySem.mem_of_lookup h))
  · have hi : i < vs.length := by
      unfold start at h2
      by_cases hi : i < vs.length
      · exact hi
      · rw [List.getElem?_append_right (by simpa using hi)] at h2
        rw [List.getElem?_replicate] at h2
        split at h2 <;> cases h2
    have ha : vs[i]? = some v := by
      unfold start at h2
      rw [List.getElem?_append_left (by simpa using hi), List.getElem?_map] at h2
      cases e : vs[i]? with
      | none => rw [e] at h2; cases h2
      | some a => rw [e] at h2; cases h2; rfl
    obtain ⟨u, hu, rv⟩ := r.get ha
    have hp : ps[i]? = some y := by
      rw [← S.pre, List.getElem?_take_of_lt (by omega)]; exact h1
    have ndP : ps.Nodup := by rw [← S.pre]; exact S.nd.sublist (List.take_sublist _ _)
    refine ⟨u, rv, ?_⟩
    rcases S.par y (List.mem_of_getElem? hp) with k | k
    · exact .inl ⟨k, bindL_get ndP hp hu k⟩
    · obtain ⟨c, e⟩ := cell_has (n := s.heap.objs.size + 1) k
      refine .inr ⟨.inl k, c, e, ?_⟩
      have q := x.cell y c e
      rw [bindC_get ndP hp hu (by show scope.names.lookup y ≠ _; rw [k]; decide)] at q
      exact q
  · exact e0.hok.fresh (Nat.le_of_lt (x.above y c (PySem.mem_of_lookup h)))
  · unfold start
    show _ = N.length
    rw [List.length_append, List.length_map, List.length_replicate]
    omega
theorem fn_of {CX : CXT} {P : Program} {w : World} {K : PySem.W.Frag} {mg : Str → Option Value} {base : Heap} {k : Nat} {f : Addr} {name qual : Str} {params : Arguments} {body : List Stmt} {scope : Scope} {dV kV doc pm cdv ct oc : Value} {an od : Option Addr}
    {osl : Array (Option Value)} {N ps : List Str} {sp : Sp} (lk : K.lookup f = some ⟨oc, od, .func (PySem.W.fnOf name qual params body scope dV kV doc pm an cdv ct), osl⟩) (hcd : PySem.W.codeIn K cdv qual = true) (S : FnScope N ps scope)
    (len : ∀ vs H Q E, sp vs H Q E → vs.length = ps.length)
    (hbody : ∀ (A : Around) (outer : List Env) (s : Shared) (H : Hp) (vs : List V) (Q : VK) (E : XK), Room k (A.deeper (envOfC qual scope s.heap.objs.size f cdv)) → sp vs H Q E →
      ∃ t, PSs (cxOf CX P w K mg base N qual scope f cdv A outer s H E) body t ∧ t { nx := fun _ H' => Q .non H', rt := Q } (start N vs) H) :
    FnOk P w K mg base CX (k + 1) f (PySem.W.fnOf name qual params body scope dV kV doc pm an cdv ct) ps sp := by
  refine ⟨len, fun A outer s H args us vs Q E hr e0 hb r hsp => ?_⟩
  have hl := len _ _ _ _ hsp
  have KX : K.In s.heap := e0.mod.kin.keeps fun b o e => (e0.bs b o e).1
  have lim : s.heap.NoLimit := e0.mod.nolimit.keeps fun b o e => (e0.bs b o e).1
  have hkind : ∀ y ∈ ps.zip us, scope.names.lookup y.1 = some .local ∨ (scope.names.lookup y.1 = some .cell ∧ ((cellsFrom (s.heap.objs.size + 1) scope.names []).lookup y.1).isSome = true) := fun ⟨n, v⟩ hy => by
    rcases S.par n (List.of_mem_zip hy).1 with q | q
    · exact .inl q
    · exact .inr ⟨q, PySem.W.cellsFrom_some _ _ _ (.inl q)⟩
  refine codeAny_call_function hr.depth (KX _ _ lk) rfl S.co S.gen rfl (PySem.W.codeRec_of KX hcd) (hb _ _ _ _ ?_)
  refine wpAny_newFunctionEnv_cells S.kind hkind fun env he s1 x => ?_
  subst he
  refine ⟨lim.keeps x.toInCall.keep, codeAny_func ?_⟩
  obtain ⟨t, ht, hq⟩ := hbody A outer s H vs Q E (hr.deeper _) hsp
  have I : Inv (cxOf CX P w K mg base N qual scope f cdv A outer s H E) [] (start N vs) H s1 := inv_start S hr.hd e0 hl r x
  refine wpAny_mono (ht [] s1 (start N vs) H _ I hq) (fun fl s' hs => ?_) fun e s' hs => hs
  have fin : ∀ {σ' : St} {H' : Hp} {v : V} {u : Value}, Inv (cxOf CX P w K mg base N qual scope f cdv A outer s H E) [] σ' H' s' → RelV v u → Q v H' → CE outer P w H s Q u s' :=
    fun {σ' H' v u} J rv q => ⟨v, H', J.os, J.bare, J.base, J.hok, rv, q⟩
  cases fl with
  | ret u =>
    obtain ⟨v, σ', H', J, rv, q⟩ := hs
    exact fin J rv q
  | next =>
    obtain ⟨σ', H', J, q⟩ := hs
    exact fin (v := V.non) (u := Value.none) J rfl q
  | brk =>
    obtain ⟨_, _, _, q⟩ := hs
    exact False.elim q
  | cont =>
    obtain ⟨_, _, _, q⟩ := hs
    exact False.elim q
end L2
namespace L2
open PySem PySem.Spec PyProof.Rows
section
variable {X : Cx} {x : Str} {p pos : Pos} {e : Expr} {es : List Expr} {t : TA} {id T : String} {r : List V → Hp → VK → Prop}
def tCB (r : List V → Hp → VK → Prop) (t : TA) : TE := fun σ H Q => t σ H fun vs H1 => r vs H1 Q
theorem pe_callB (hc : CallR X (.builtin id) r) (hg : Gl X x) (hm : X.mg x = none) (hv : bootBuiltins x = some (.builtin id)) (ha : PA X (e :: es) t) (hn : x ≠ "__name__" := by decide) (hdb : (x == ("__debug__" : Str)) = false := by decide)
    (he : starEach (e :: es) X.env = (false, eval e X.env) :: starEach es X.env := by rfl) (hpl : (backTo pos (starEach es X.env)).any (·.1) = false := by rfl) : PE X (.Call (.Name x p) (e :: es) [] pos) (tCB r t) := by
  intro pins s σ H Q I h
  refine wpAny_Call_Name_kw (ld_blt I hg hm hv ?_ hn hdb)
  exact PyProof.Rows.callWith_builtin1 (thn (ha pos pins s σ H _ I h) fun us s1 ⟨vs, H1, I1, r1, q1⟩ => hc pins s1 σ H1 vs us Q I1 r1 q1) he hpl
theorem pe_callTy (hc : CallR X (.type T) r) (hg : Gl X x) (hm : X.mg x = none) (hv : bootBuiltins x = some (.type T)) (ha : PA X (e :: es) t) (hn : x ≠ "__name__" := by decide) (hdb : (x == ("__debug__" : Str)) = false := by decide)
    (he : starEach (e :: es) X.env = (false, eval e X.env) :: starEach es X.env := by rfl) (hpl : (backTo pos (starEach es X.env)).any (·.1) = false := by rfl) : PE X (.Call (.Name x p) (e :: es) [] pos) (tCB r t) := by
  intro pins s σ H Q I h
  refine wpAny_Call_Name_kw (ld_blt I hg hm hv ?_ hn hdb)
  exact PyProof.Rows.callWith_type1 (thn (ha pos pins s σ H _ I h) fun us s1 ⟨vs, H1, I1, r1, q1⟩ => hc pins s1 σ H1 vs us Q I1 r1 q1) he hpl
end
end L2
namespace HT
open PySem PyProof.Rows
section
open PySem.SeqAt
open PySem.AutoSeq1 (wpAny_loadPart')
open PySem.MeetsSeq PySem.MeetsSeq2 PySem.MeetsSeq3
end
section
variable {prog : Program} {w : World} {A : Around} {E : Value → Shared → Prop} {s : Shared}
theorem cat_tup {t b : Addr} {vs ws : List Value} {Q : Value → Shared → Prop} (ht : IsTup s.heap t vs.toArray) (hb : IsTup s.heap b ws.toArray) (hv : vs ≠ [])
    (h1 : ws = [] → Q (.ref t) s) (h2 : ws ≠ [] → Q (.ref s.heap.objs.size) { s with heap := s.heap.push { cls := .type "tuple", data := .seq (vs ++ ws).toArray } })
    (hsz : vs.length + ws.length ≤ sizeLine) : wpAny (model prog w) A (binaryOp .Add (.ref t) (.ref b)) Q E s := by
  obtain ⟨⟨cls, dd, data, sl⟩, ho, hc, n, hd⟩ := id ht
  obtain ⟨⟨cls2, dd2, data2, sl2⟩, ho2, hc2, n2, hd2⟩ := id hb
  simp only at hc hd hc2 hd2
  subst hc hd hc2 hd2
  have e : vs.toArray ++ ws.toArray = (vs ++ ws).toArray := by simp
  by_cases hw : ws = []
  · exact concat_meets ⟨_, ho, rfl⟩ ⟨_, ho2, rfl⟩ noFill_tuple_add seq_tuple_add PySem.F.slot_tuple_add PySem.F.entry_tuple_add (PySem.F.args_tuple_add_2 _ _)
      (tuple_addW1 t b vs.toArray ws.toArray n n2 dd dd2 sl sl2 (by simpa using hv) (by simp [hw])) ⟨ho, ho2, h1 hw⟩
  · refine concat_meets ⟨_, ho, rfl⟩ ⟨_, ho2, rfl⟩ noFill_tuple_add seq_tuple_add PySem.F.slot_tuple_add PySem.F.entry_tuple_add (PySem.F.args_tuple_add_2 _ _)
      (tuple_addW2 t b vs.toArray ws.toArray n n2 dd dd2 sl sl2 (by simpa using hv) (by simpa using hw) (by rw [List.size_toArray, List.size_toArray]; exact hsz)) ⟨ho, ho2, ?_⟩
    rw [e]
    exact h2 hw
def sIx (n d : Nat) : Option Int → Nat
  | none => d
  | some v => if v < 0 then (v + (n : Int)).toNat else min v.toNat n
theorem sIx_none (n d : Nat) : sIx n d none = d := rfl
theorem sIx_nat (n d k : Nat) : sIx n d (some (k : Int)) = min k n := by
  show (if (k : Int) < 0 then ((k : Int) + (n : Int)).toNat else min (k : Int).toNat n) = min k n
  rw [if_neg (by omega), Int.toNat_natCast]
theorem sIx_le (n d : Nat) (hd : d ≤ n) (o : Option Int) : sIx n d o ≤ n := by
  cases o with
  | none => exact hd
  | some v =>
    show (if v < 0 then (v + (n : Int)).toNat else min v.toNat n) ≤ n
    by_cases hv : v < 0
    · rw [if_pos hv]; omega
    · rw [if_neg hv]; exact Nat.min_le_right _ _
theorem clip_eq (v : Int) (n d : Nat) : (if v < 0 then max (v + (n : Int)) 0 else min v (n : Int)) = ((sIx n d (some v) : Nat) : Int) := by
  show (if v < 0 then max (v + (n : Int)) 0 else min v (n : Int)) = (((if v < 0 then (v + (n : Int)).toNat else min v.toNat n) : Nat) : Int)
  by_cases hv : v < 0
  · simp only [if_pos hv]; omega
  · simp only [if_neg hv]; omega
theorem adjust_gen (lo hi : Option Int) (n : Nat) : Builtin.Slice.sliceAdjust lo hi 1 (n : Int) = (((sIx n 0 lo : Nat) : Int), ((sIx n n hi : Nat) : Int)) := by
  have h1 : ¬ ((1 : Int) < 0) := by omega
  unfold Builtin.Slice.sliceAdjust
  simp only [h1, if_false]
  refine Prod.ext ?_ ?_
  · cases lo with
    | none => rfl
    | some v => exact clip_eq v n 0
  · cases hi with
    | none => rfl
    | some v => exact clip_eq v n n
theorem places_gen (i j : Nat) : Builtin.Slice.slicePlaces (i : Int) (j : Int) 1 = j - i := by
  unfold Builtin.Slice.slicePlaces
  have h1 : (1 : Int) > 0 := by omega
  simp only [h1, if_true, Int.ediv_one]
  split <;> omega
theorem slicePart_ {v : Value} {o : Option Int} {Q : Option Int → Shared → Prop} (p : IsPart v o) (h : Q o s) : wpAny (model prog w) A (Builtin.Slice.slicePartIndex v) Q E s := by
  cases p with
  | none => exact slicePart_none h
  | int i t => exact slicePart_int h
theorem sliceApplied_gen {sl : Addr} {vl vu : Value} {lo hi : Option Int} {n : Nat} {Q : Int × Int × Nat → Shared → Prop} (hs : s.heap.IsSliceOf sl vl vu .none) (pl : IsPart vl lo) (pu : IsPart vu hi)
    (h : Q (((sIx n 0 lo : Nat) : Int), 1, sIx n n hi - sIx n 0 lo) s) : wpAny (model prog w) A (Builtin.Slice.sliceApplied (.ref sl) (pure (n : Int))) Q E s := by
  obtain ⟨os, hos, hcs, hds⟩ := id hs
  unfold Builtin.Slice.sliceApplied Builtin.Slice.sliceFields
  refine wpAny_bind (wpAny_bind (wpAny_field hos hds (x := vl) rfl (wpAny_bind (wpAny_field hos hds (x := vu) rfl (wpAny_bind (wpAny_field hos hds (x := .none) rfl (wpAny_pure ?_)))))))
  refine wpAny_bind (slicePart_none ?_)
  show wpAny _ _ (if ((1 : Int) == 0) = true then _ else _) _ _ s
  rw [if_neg (by decide)]
  refine wpAny_bind (slicePart_ pl (wpAny_bind (slicePart_ pu (wpAny_bind (wpAny_pure ?_)))))
  show wpAny _ _ (match Builtin.Slice.sliceAdjust lo hi 1 (n : Int) with | (lo, hi) => pure (lo, (1 : Int), Builtin.Slice.slicePlaces lo hi 1)) _ _ s
  rw [adjust_gen lo hi n]
  show wpAny _ _ (pure (((sIx n 0 lo : Nat) : Int), (1 : Int), Builtin.Slice.slicePlaces ((sIx n 0 lo : Nat) : Int) ((sIx n n hi : Nat) : Int) 1)) _ _ s
  rw [places_gen]
  exact wpAny_pure h
theorem pick_gen (xs : Array Value) (i k : Nat) : ((List.range k).filterMap fun (m : Nat) => xs[((i : Int) + (m : Int) * 1).toNat]?).toArray = ((xs.toList.drop i).take k).toArray := by
  have e : (fun (m : Nat) => xs[((i : Int) + (m : Int) * 1).toNat]?) = fun m => xs[i + m]? := by
    funext m
    have : ((i : Int) + (m : Int) * 1).toNat = i + m := by omega
    rw [this]
  rw [e]
  have := pick_run xs i k
  rw [List.filterMap_map] at this
  have e2 : ((fun x => xs[x]?) ∘ fun x => i + x) = fun m => xs[i + m]? := rfl
  rw [e2] at this
  rw [this]
theorem getItem_tuple_cut {t sl : Addr} {items : Array Value} {vl vu : Value} {lo hi : Option Int} {Q : Value → Shared → Prop} (ht : IsTup s.heap t items) (hs : s.heap.IsSliceOf sl vl vu .none) (pl : IsPart vl lo) (pu : IsPart vu hi)
    (hw : ¬ (sIx items.size 0 lo = 0 ∧ sIx items.size items.size hi = items.size))
    (h : Q (.ref s.heap.objs.size) { s with heap := s.heap.push { cls := .type "tuple", data := .seq ((items.toList.drop (sIx items.size 0 lo)).take (sIx items.size items.size hi - sIx items.size 0 lo)).toArray } })
    (hsz : items.size ≤ sizeLine) : wpAny (model prog w) A (getItem (.ref t) (.ref sl)) Q E s := by
  have htake : sizeOk (.seq ((items.toList.drop (sIx items.size 0 lo)).take (sIx items.size items.size hi - sIx items.size 0 lo)).toArray) := by
    show ((items.toList.drop (sIx items.size 0 lo)).take (sIx items.size items.size hi - sIx items.size 0 lo)).toArray.size ≤ sizeLine
    rw [List.size_toArray, List.length_take, List.length_drop, Array.length_toList]
    omega
  have hj : sIx items.size items.size hi ≤ items.size := sIx_le _ _ (Nat.le_refl _) hi
  obtain ⟨os, hos, hcs, hds⟩ := id hs
  have hTs : s.TypeIs (.ref sl) "slice" := ⟨os, hos, hcs⟩
  unfold getItem
  try with_reducible refine wpAny_holding ?_
  first | refine wpAny_bind (wpAny_pure ?_) | skip
  refine wpAny_bind (wpAny_sequenceKey ht.typeIs (by decide) ?_)
  refine wpAny_bind (wpAny_callSpecial?_slot (name := Str.ofString "__getitem__") ht.typeIs PyProof.Rows.slot_tuple_getitem
    (wpAny_call_entry PyProof.Rows.slot_tuple_getitem ht.typeIs entry_tuple_getitem ?_ (args_tuple_getitem _ _)))
  show wpAny _ _ (Builtin.Tuple.tupleItemsOf (.ref t) >>= _) _ _ s
  refine wpAny_bind (tupleItemsOf_ ht ?_)
  refine wpAny_bind (wpAny_typeOf hTs ?_)
  rw [if_pos (by decide)]
  refine wpAny_bind (sliceApplied_gen hs pl pu ?_)
  have hno : ¬ ((((sIx items.size 0 lo : Nat) : Int) == 0 && (1 : Int) == 1 && (sIx items.size items.size hi - sIx items.size 0 lo) == items.size) = true) := by
    intro q
    rw [Bool.and_eq_true, Bool.and_eq_true] at q
    have q1 : ((sIx items.size 0 lo : Nat) : Int) = 0 := eq_of_beq q.1.1
    have q2 : sIx items.size items.size hi - sIx items.size 0 lo = items.size := eq_of_beq q.2
    exact hw ⟨by omega, by omega⟩
  show wpAny _ _ (if (((sIx items.size 0 lo : Nat) : Int) == 0 && (1 : Int) == 1 && (sIx items.size items.size hi - sIx items.size 0 lo) == items.size) = true then _ else _) _ _ s
  rw [if_neg hno, pick_gen]
  first
    | exact wpAny_bind (m := Builtin.Tuple.tupleExact _) (wpAny_newObj_type (wpAny_pure ⟨_, rfl, wpAny_pure h⟩) htake)
    | exact wpAny_bind (m := Builtin.Tuple.tupleExact _) (wpAny_newObj_type (wpAny_bind (wpAny_pure (wpAny_pure ⟨_, rfl, wpAny_pure h⟩))) htake)
    | exact wpAny_bind (wpAny_bind (m := Builtin.Tuple.tupleExact _) (wpAny_newObj_type (wpAny_pure (wpAny_pure ⟨_, rfl, wpAny_pure h⟩)) htake))
    | exact wpAny_bind (wpAny_bind (m := Builtin.Tuple.tupleExact _) (wpAny_newObj_type (wpAny_pure ⟨_, rfl, wpAny_pure h⟩) htake))
end
end HT
namespace L2
open PySem PySem.Spec PyProof.Rows
abbrev TO := St → Hp → (Option Int → Hp → Prop) → Prop
def PO (X : Cx) (e : Option Expr) (t : TO) : Prop :=
  ∀ (pins : List (Addr × Obj)) (s : Shared) (σ : St) (H : Hp) (Q : Option Int → Hp → Prop), Inv X pins σ H s → t σ H Q →
    wpAny (model X.prog X.w) X.A (evalPart e X.env) (fun u s' => ∃ o H', Inv X pins σ H' s' ∧ IsPart u o ∧ Q o H') X.xe s
def tNoPart : TO := fun _ H Q => Q none H
def tPart (t : TE) : TO := fun σ H Q => t σ H fun x H1 => ∃ i, x = .int i ∧ Q (some i) H1
section
variable {X : Cx} {e : Expr} {te : TE} {lo hi : Option Expr} {tl th : TO} {pos p2 : Pos}
theorem po_none : PO X none tNoPart := by
  intro pins s σ H Q I h
  rw [evalPart_none]
  exact wpAny_pure ⟨none, H, I, .none, h⟩
theorem po_some (h : PE X e te) : PO X (some e) (tPart te) := by
  intro pins s σ H Q I hw
  rw [evalPart_some]
  refine thn (h pins s σ H _ I hw) fun u s1 ⟨x, H1, I1, r1, q1⟩ => ?_
  obtain ⟨i, rfl, q⟩ := q1
  obtain ⟨t, rfl⟩ := r1
  exact ⟨some i, H1, I1, .int i t, q⟩
def SlR (X : Cx) (r : V → Option Int → Option Int → Hp → VK → Prop) : Prop :=
  ∀ (pins : List (Addr × Obj)) (s : Shared) (σ : St) (H : Hp) (x : V) (v vl vu : Value) (lo hi : Option Int) (sl : Addr) (Q : VK), Inv X pins σ H s → RelV x v → s.heap.IsSliceOf sl vl vu .none → IsPart vl lo → IsPart vu hi → r x lo hi H Q →
    ∃ T id, typeLookup (.type T) "__getitem__" = pure (some (.builtin id)) ∧ s.TypeIs v T ∧ wpAny (model X.prog X.w) X.A (getItem v (.ref sl)) (EP X pins σ Q) X.xe s
def tSl (r : V → Option Int → Option Int → Hp → VK → Prop) (te : TE) (tl th : TO) : TE := fun σ H Q => te σ H fun x H1 => tl σ H1 fun l H2 => th σ H2 fun u H3 => r x l u H3 Q
theorem pe_slice {r : V → Option Int → Option Int → Hp → VK → Prop} (hr : SlR X r) (he : PE X e te) (hl : PO X lo tl) (hu : PO X hi th) : PE X (.Subscript e (.Slice lo hi none p2) pos) (tSl r te tl th) := by
  intro pins s σ H Q I h
  refine Subscript_ (thn (he pins s σ H _ I h) fun v s1 ⟨x, H1, I1, r1, q1⟩ => ?_)
  refine wpAny_Slice (thn (hl pins s1 σ H1 _ I1 q1) fun vl s2 ⟨l, H2, I2, pl, q2⟩ => thn (hu pins s2 σ H2 _ I2 q2) fun vu s3 ⟨u, H3, I3, pu, q3⟩ => ?_)
  rw [evalPart_none]
  refine wpAny_pure ?_
  have I4 : Inv X pins σ H3 { s3 with heap := s3.heap.push { cls := .type "slice", data := .fields #[vl, vu, .none] } } := I3.kept (t' := s3.toks) fun b ob q => Heap.get?_push_of_some _ q
  obtain ⟨T, id, hT, ht, hg⟩ := hr pins { s3 with heap := s3.heap.push { cls := .type "slice", data := .fields #[vl, vu, .none] } } σ H3 x v vl vu l u s3.heap.objs.size Q I4 r1 (Heap.IsSliceOf.new ..) pl pu q3
  show wpAny (model X.prog X.w) X.A (subscriptTail e (.Slice lo hi none p2) v (.ref s3.heap.objs.size)) (EP X pins σ Q) X.xe { s3 with heap := s3.heap.push { cls := .type "slice", data := .fields #[vl, vu, .none] } }
  exact tail_any (ops := [.ref s3.heap.objs.size, v]) ht hT hg (by with_unfolding_all rfl)
def cutV (xs : List V) (lo hi : Option Int) : List V := (xs.drop (HT.sIx xs.length 0 lo)).take (HT.sIx xs.length xs.length hi - HT.sIx xs.length 0 lo)
theorem cutV_length (xs : List V) (lo hi : Option Int) : (cutV xs lo hi).length ≤ xs.length := by
  unfold cutV
  rw [List.length_take, List.length_drop]
  omega
def rSlT (K : PySem.W.Frag) : V → Option Int → Option Int → Hp → VK → Prop := fun x lo hi H Q => ∃ a xs, x = .ref a ∧ SqT K H a xs ∧
  ¬ (HT.sIx xs.length 0 lo = 0 ∧ HT.sIx xs.length xs.length hi = xs.length) ∧ ∀ p, H p = none → Q (.ref p) (upd H p (.tup (cutV xs lo hi)))
theorem sl_tup : SlR X (rSlT X.K) := by
  intro pins s σ H x v vl vu lo hi sl Q I rx hs pl pu h
  obtain ⟨a, xs, rfl, hx, hw, q⟩ := h
  cases rx
  obtain ⟨its, r, ht, hz⟩ := I.tuple hx
  have hlen : its.toArray.size = xs.length := by rw [List.size_toArray]; exact r.length.symm
  refine ⟨"tuple", _, PyProof.Rows.slot_tuple_getitem.lookup, ht.typeIs, ?_⟩
  refine HT.getItem_tuple_cut ht hs pl pu (by rw [hlen]; exact hw) ?_ (by rw [hlen]; exact hz)
  rw [hlen]
  refine ⟨.ref s.heap.objs.size, _, I.laid (t' := s.toks) (o := .tup (cutV xs lo hi)) (fun b ob q => Heap.get?_push_of_some _ q) (Nat.le_refl _) ?_, rfl, q _ (I.hok.fresh (Nat.le_refl _))⟩
  exact ⟨Nat.le_trans (cutV_length xs lo hi) hz, _, (r.drop (HT.sIx xs.length 0 lo)).take (HT.sIx xs.length xs.length hi - HT.sIx xs.length 0 lo), IsTup.new _ _⟩
def rCatT (K : PySem.W.Frag) : R2 := fun x y H Q => ∃ a b xs ys, x = .ref a ∧ y = .ref b ∧ SqT K H a xs ∧ SqT K H b ys ∧ xs ≠ [] ∧ xs.length + ys.length ≤ sizeLine ∧
  (ys = [] → Q (.ref a) H) ∧ (ys ≠ [] → ∀ p, H p = none → Q (.ref p) (upd H p (.tup (xs ++ ys))))
theorem Vals.nil_iff {xs : List V} {us : List Value} (r : Vals xs us) : us = [] ↔ xs = [] := by
  cases r with
  | nil => simp
  | cons _ _ => simp
theorem op_catT : OpR X (binaryOp .Add) (rCatT X.K) := by
  intro pins s σ H x y v u Q I rx ry h
  obtain ⟨a, b, xs, ys, rfl, rfl, ha, hb, hx, hz, q1, q2⟩ := h
  cases rx
  cases ry
  obtain ⟨its, r1, p1, _⟩ := I.tuple ha
  obtain ⟨its2, r2, p2, _⟩ := I.tuple hb
  refine HT.cat_tup p1 p2 (fun z => hx (r1.nil_iff.mp z)) (fun z => ⟨.ref a, H, I, rfl, q1 (r2.nil_iff.mp z)⟩) (fun z => ?_) (by rw [← r1.length, ← r2.length]; exact hz)
  refine ⟨.ref s.heap.objs.size, _, I.laid (t' := s.toks) (o := .tup (xs ++ ys)) (fun b ob q => Heap.get?_push_of_some _ q) (Nat.le_refl _) ?_, rfl, q2 (fun w => z (r2.nil_iff.mpr w)) _ (I.hok.fresh (Nat.le_refl _))⟩
  exact ⟨by rw [List.length_append]; exact hz, _, r1.append r2, IsTup.new _ _⟩
end
end L2
namespace L2
open PySem PySem.Spec PyProof.Rows
def ixN (n : Nat) (i : Int) : Option Nat := if 0 ≤ i then (if i < n then some i.toNat else none) else if -(n : Int) ≤ i then some (i + n).toNat else none
def atI {α : Type} (xs : List α) (i : Int) : Option α := (ixN xs.length i).bind fun j => xs[j]?
theorem ixN_seq {n : Nat} {i : Int} {j : Nat} (h : ixN n i = some j) : seqIndex? i n = some j ∧ j < n ∧ -(n : Int) ≤ i ∧ i < n := by
  unfold ixN at h
  by_cases h0 : 0 ≤ i
  · rw [if_pos h0] at h
    by_cases h1 : i < n
    · rw [if_pos h1] at h
      have e : i.toNat = j := Option.some.inj h
      exact ⟨by rw [seqIndex_of h0 h1, e], by omega, by omega, h1⟩
    · rw [if_neg h1] at h; cases h
  · rw [if_neg h0] at h
    by_cases h1 : -(n : Int) ≤ i
    · rw [if_pos h1] at h
      have e : (i + n).toNat = j := Option.some.inj h
      exact ⟨by rw [seqIndex_neg (by omega) h1, e], by omega, h1, by omega⟩
    · rw [if_neg h1] at h; cases h
theorem atI_get {α : Type} {xs : List α} {i : Int} {v : α} (h : atI xs i = some v) : ∃ j, seqIndex? i xs.length = some j ∧ xs[j]? = some v ∧ j < xs.length ∧ -(xs.length : Int) ≤ i ∧ i < xs.length := by
  unfold atI at h
  cases e : ixN xs.length i with
  | none => rw [e] at h; cases h
  | some j =>
    rw [e] at h
    obtain ⟨h1, h2, h3, h4⟩ := ixN_seq e
    exact ⟨j, h1, h, h2, h3, h4⟩
theorem atI_nat {α : Type} {xs : List α} {j : Nat} {v : α} (h : xs[j]? = some v) : atI xs (j : Int) = some v := by
  have hj : j < xs.length := (List.getElem?_eq_some_iff.mp h).1
  have e : ixN xs.length (j : Int) = some j := by
    unfold ixN
    rw [if_pos (by omega), if_pos (by omega)]; simp
  unfold atI; rw [e]; exact h
def PlainIx (b : Expr) : Prop := ∀ o i, subscripted b false o i = operate [o, i] (getItem o i)
def IxR (X : Cx) (r : R2) : Prop :=
  ∀ (value slice : Expr) (pins : List (Addr × Obj)) (s : Shared) (σ : St) (H : Hp) (x y : V) (v u : Value) (Q : VK), Inv X pins σ H s → RelV x v → RelV y u → r x y H Q →
    subscripted slice false v u = operate [v, u] (getItem v u) → wpAny (model X.prog X.w) X.A (subscriptTail value slice v u) (EP X pins σ Q) X.xe s
def MtR (X : Cx) (id : String) (r : V → List V → Hp → VK → Prop) : Prop :=
  ∀ (pins : List (Addr × Obj)) (s : Shared) (σ : St) (H : Hp) (x : V) (xs : List V) (v : Value) (us : List Value) (Q : VK), Inv X pins σ H s → RelV x v → Vals xs us → r x xs H Q →
    wpAny (model X.prog X.w) X.A (call (.builtin id) (v :: us)) (EP X pins σ Q) X.xe s
section
variable {X : Cx} {a b : Expr} {ta tb : TE} {pos : Pos}
theorem pe_ix {r : R2} (hr : IxR X r) (ha : PE X a ta) (hb : PE X b tb) (hs : PlainIx b) : PE X (.Subscript a b pos) (tOp r ta tb) := by
  intro pins s σ H Q I h
  exact Subscript_ (binT ha hb I h fun v u s2 x y H2 I2 rx ry q => hr a b pins s2 σ H2 x y v u Q I2 rx ry q (hs _ _))
def rIxL (K : PySem.W.Frag) : R2 := fun x y H Q => ∃ p xs i v, x = .ref p ∧ y = .int i ∧ SqL K H p xs ∧ atI xs i = some v ∧ Q v H
def rIxT (K : PySem.W.Frag) : R2 := fun x y H Q => ∃ p xs i v, x = .ref p ∧ y = .int i ∧ SqT K H p xs ∧ atI xs i = some v ∧ Q v H
def rIxS : R2 := fun x y H Q => ∃ z i c, x = .str z ∧ y = .int i ∧ z.length ≤ sizeLine ∧ atI z.cps.toList i = some c ∧ Q (.str ⟨#[c]⟩) H
theorem ix_list : IxR X (rIxL X.K) := by
  intro value slice pins s σ H x y v u Q I rx ry h hs
  obtain ⟨p, xs, i, z, rfl, rfl, hq, he, q⟩ := h
  cases rx
  obtain ⟨t, rfl⟩ := ry
  obtain ⟨its, r, pl, hz⟩ := I.list hq
  obtain ⟨j, h1, h2, h3, h4, h5⟩ := atI_get he
  obtain ⟨w, ew, rw'⟩ := r.get h2
  have hl := r.length
  have hn := line63
  have fin : EP X pins σ Q w s := ⟨z, H, I, rw', q⟩
  by_cases h0 : 0 ≤ i
  · have hj : i.toNat = j := by
      rw [seqIndex_of h0 h5] at h1
      exact Option.some.inj h1
    exact item_listR pl.isList h0 (by omega) (by rw [hj]; simpa using ew) fin hs
  · have hj : (i + (its.toArray.size : Int)).toNat = j := by
      rw [seqIndex_neg (by omega) h4] at h1
      rw [List.size_toArray, ← hl]
      exact Option.some.inj h1
    exact subscriptTail_builtinR (x := w) pl.isList.typeIs slot_list_getitem.lookup
      (wpAny_getItem_list_neg (Q := fun r s' => r = w ∧ EP X pins σ Q r s') pl.isList (by omega) (by rw [List.size_toArray] <;> omega) (by omega) (by rw [hj]; simpa using ew) ⟨rfl, fin⟩) hs
theorem ix_tup : IxR X (rIxT X.K) := by
  intro value slice pins s σ H x y v u Q I rx ry h hs
  obtain ⟨p, xs, i, z, rfl, rfl, hq, he, q⟩ := h
  cases rx
  obtain ⟨t, rfl⟩ := ry
  obtain ⟨its, r, pl, hz⟩ := I.tuple hq
  obtain ⟨j, h1, h2, h3, h4, h5⟩ := atI_get he
  obtain ⟨w, ew, rw'⟩ := r.get h2
  have hl := r.length
  have hn := line63
  have fin : EP X pins σ Q w s := ⟨z, H, I, rw', q⟩
  exact subscriptTail_builtinR (x := w) pl.typeIs slot_tuple_getitem.lookup
    (getItem_tuple (j := j) (Q := fun r s' => r = w ∧ EP X pins σ Q r s') pl (by omega) (by omega) (by rw [List.size_toArray, ← hl]; exact h1) (by simpa using ew) ⟨rfl, fin⟩) hs
theorem ix_str : IxR X rIxS := by
  intro value slice pins s σ H x y v u Q I rx ry h hs
  obtain ⟨z, i, c, rfl, rfl, hz, he, q⟩ := h
  obtain ⟨t, rfl⟩ := rx
  obtain ⟨t', rfl⟩ := ry
  obtain ⟨j, h1, h2, h3, h4, h5⟩ := atI_get he
  have hl : z.cps.toList.length = z.length := by simp [Str.length]
  rw [hl] at h1 h4 h5
  have hn := line63
  exact tail_any (typeIs_str s z t) slot_str_getitem.lookup (getItem_str (c := c) (by
    have e1 : decide (i < -(2 ^ 63 : Int)) = false := decide_eq_false (by omega)
    have e2 : decide (i ≥ 2 ^ 63) = false := decide_eq_false (by omega)
    rw [e1, e2, Bool.or_false]) (by rw [h1]; simpa using h2) ⟨.str ⟨#[c]⟩, H, I.tok _, ⟨_, rfl⟩, q⟩) hs
theorem slice_bounds (lo hi : Option Int) (n : Nat) : (sliceBounds lo hi none n).1 = ((HT.sIx n 0 lo : Nat) : Int) ∧ (sliceBounds lo hi none n).2.1 = ((HT.sIx n n hi : Nat) : Int) ∧ (sliceBounds lo hi none n).2.2 = 1 := by
  refine ⟨?_, ?_, rfl⟩
  · cases lo with
    | none => simp [sliceBounds, HT.sIx]
    | some i =>
      simp only [sliceBounds, HT.sIx, Option.getD_none, show (1 : Int) > 0 by decide, if_true]
      by_cases h : i < 0
      · simp only [h, if_true] <;> omega
      · simp only [h, if_false] <;> omega
  · cases hi with
    | none => simp [sliceBounds, HT.sIx]
    | some i =>
      simp only [sliceBounds, HT.sIx, Option.getD_none, show (1 : Int) > 0 by decide, if_true]
      by_cases h : i < 0
      · simp only [h, if_true] <;> omega
      · simp only [h, if_false] <;> omega
theorem slicePick_cut (its : List Value) (lo hi : Option Int) : slicePick its.toArray lo hi none = ((its.drop (HT.sIx its.length 0 lo)).take (HT.sIx its.length its.length hi - HT.sIx its.length 0 lo)).toArray := by
  obtain ⟨h1, h2, h3⟩ := slice_bounds lo hi its.toArray.size
  unfold slicePick
  rw [h1, h2, h3]
  simp only [sliceRange_one, pick_run, List.size_toArray] <;> rfl
def rSlL (K : PySem.W.Frag) : V → Option Int → Option Int → Hp → VK → Prop := fun x lo hi H Q => ∃ a xs, x = .ref a ∧ SqL K H a xs ∧ ∀ p, H p = none → Q (.ref p) (upd H p (.lst (cutV xs lo hi)))
theorem sl_list : SlR X (rSlL X.K) := by
  intro pins s σ H x v vl vu lo hi sl Q I rx hs pl pu h
  obtain ⟨a, xs, rfl, hx, q⟩ := h
  cases rx
  obtain ⟨its, r, ht, hz⟩ := I.list hx
  have hlen := r.length
  refine ⟨"list", _, slot_list_getitem.lookup, ht.isList.typeIs, ?_⟩
  refine wpAny_getItem_list_slice ht.isList hs pl pu .none (by simp) ?_ (by rw [List.size_toArray] <;> omega)
  rw [slicePick_cut, ← hlen]
  refine ⟨.ref s.heap.objs.size, _, I.laid (t' := s.toks) (o := .lst (cutV xs lo hi)) (fun b ob q => Heap.get?_push_of_some _ q) (Nat.le_refl _) ?_, rfl, q _ (I.hok.fresh (Nat.le_refl _))⟩
  exact ⟨Nat.le_trans (cutV_length xs lo hi) hz, _, 0, (r.drop (HT.sIx xs.length 0 lo)).take (HT.sIx xs.length xs.length hi - HT.sIx xs.length 0 lo), Heap.get?_push_size _ rfl⟩
def flatV : V → Bool
  | .non => true
  | .bl _ => true
  | .int _ => true
  | .str _ => true
  | _ => false
def eqV : V → V → Bool
  | .non, .non => true
  | .bl a, .bl b => a == b
  | .bl a, .int b => (if a then 1 else 0) == b
  | .int a, .bl b => a == (if b then 1 else 0)
  | .int a, .int b => a == b
  | .str a, .str b => a == b
  | _, _ => false
theorem eqAt_V {A : Around} {s : Shared} {y x : V} {u v : Value} (ry : RelV y u) (rx : RelV x v) (fy : flatV y = true) (fx : flatV x = true) : SeqAt.EqAt A s u v (eqV y x) := by
  cases y with
  | non =>
    cases ry
    cases x with
    | non => cases rx; exact SeqAt.EqAt.same _
    | bl b => cases rx; exact SeqAt.EqAt.none_bool b
    | int b => obtain ⟨t, rfl⟩ := rx; exact SeqAt.EqAt.none_int b t
    | str b => obtain ⟨t, rfl⟩ := rx; exact SeqAt.EqAt.none_str b t
    | _ => exact absurd (show false = true from fx) Bool.false_ne_true
  | bl a =>
    cases ry
    cases x with
    | non => cases rx; exact SeqAt.EqAt.bool_none a
    | bl b => cases rx; exact SeqAt.EqAt.bool_bool a b
    | int b => obtain ⟨t, rfl⟩ := rx; exact SeqAt.EqAt.bool_int a b t
    | str b => obtain ⟨t, rfl⟩ := rx; exact SeqAt.EqAt.bool_str a b t
    | _ => exact absurd (show false = true from fx) Bool.false_ne_true
  | int a =>
    obtain ⟨t', rfl⟩ := ry
    cases x with
    | non => cases rx; exact SeqAt.EqAt.int_none a t'
    | bl b => cases rx; exact SeqAt.EqAt.int_bool a t' b
    | int b => obtain ⟨t, rfl⟩ := rx; exact SeqAt.EqAt.int_int a t' b t
    | str b => obtain ⟨t, rfl⟩ := rx; exact SeqAt.EqAt.int_str a t' b t
    | _ => exact absurd (show false = true from fx) Bool.false_ne_true
  | str a =>
    obtain ⟨t', rfl⟩ := ry
    cases x with
    | non => cases rx; exact SeqAt.EqAt.str_none a t'
    | bl b => cases rx; exact SeqAt.EqAt.str_bool a t' b
    | int b => obtain ⟨t, rfl⟩ := rx; exact SeqAt.EqAt.str_int a t' b t
    | str b => obtain ⟨t, rfl⟩ := rx; exact SeqAt.EqAt.str_str a t' b t
    | _ => exact absurd (show false = true from fx) Bool.false_ne_true
  | _ => exact absurd (show false = true from fy) Bool.false_ne_true
def eqU (x : V) (u : Value) : Bool := match u with
  | .none => eqV .non x
  | .bool b => eqV (.bl b) x
  | .int i _ => eqV (.int i) x
  | .str z _ => eqV (.str z) x
  | _ => false
theorem eqU_of {x y : V} {u : Value} (r : RelV y u) (f : flatV y = true) : eqU x u = eqV y x := by
  cases y with
  | non => cases r; rfl
  | bl b => cases r; rfl
  | int i => obtain ⟨t, rfl⟩ := r; rfl
  | str z => obtain ⟨t, rfl⟩ := r; rfl
  | _ => exact absurd (show false = true from f) Bool.false_ne_true
theorem any_eqU {x : V} : ∀ {xs : List V} {us : List Value}, Vals xs us → xs.all flatV = true → us.any (eqU x) = xs.any fun y => eqV y x
  | _, _, .nil, _ => rfl
  | y :: xs, u :: us, .cons r t, f => by
    rw [List.all_cons, Bool.and_eq_true] at f
    rw [List.any_cons, List.any_cons, eqU_of r f.1, any_eqU t f.2]
theorem mem_eqAt {A : Around} {s : Shared} {x : V} {v : Value} (rx : RelV x v) (fx : flatV x = true) : ∀ {xs : List V} {us : List Value}, Vals xs us → xs.all flatV = true → ∀ u ∈ us, SeqAt.EqAt A s u v (eqU x u)
  | _, _, .nil, _ => fun u hu => by cases hu
  | y :: xs, u :: us, .cons r t, f => fun u' hu => by
    rw [List.all_cons, Bool.and_eq_true] at f
    rcases List.mem_cons.mp hu with rfl | hu
    · rw [eqU_of r f.1]; exact eqAt_V r rx f.1 fx
    · exact mem_eqAt rx fx t f.2 u' hu
def inV (x : V) (xs : List V) : Bool := xs.any fun y => eqV y x
def rIn (K : PySem.W.Frag) (neg : Bool) : R2 := fun x y H Q => ∃ p xs, y = .ref p ∧ (SqL K H p xs ∨ SqT K H p xs) ∧ flatV x = true ∧ xs.all flatV = true ∧ Q (.bl (if neg then !inV x xs else inV x xs)) H
theorem op_in_seq : OpR X (compareOp .In) (rIn X.K false) := by
  intro pins s σ H x y v u Q I rx ry h
  obtain ⟨p, xs, rfl, hq, fx, fs, q⟩ := h
  cases ry
  rcases hq with hq | hq
  · obtain ⟨its, r, pl, hz⟩ := I.list hq
    refine SeqAt.in_listAt (eqU x) pl.isList (fun w hw => mem_eqAt rx fx r fs w (by simpa using hw)) ⟨.bl _, H, I, rfl, ?_⟩
    rw [show its.toArray.any (eqU x) = its.any (eqU x) by simp, any_eqU r fs]
    exact q
  · obtain ⟨its, r, pl, hz⟩ := I.tuple hq
    refine SeqAt.in_tupleAt (eqU x) pl (fun w hw => mem_eqAt rx fx r fs w (by simpa using hw)) ⟨.bl _, H, I, rfl, ?_⟩
    rw [show its.toArray.any (eqU x) = its.any (eqU x) by simp, any_eqU r fs]
    exact q
theorem call_len_seq : CallR X (.builtin "len") (fun xs H Q => ∃ p ys, xs = [.ref p] ∧ (SqL X.K H p ys ∨ SqT X.K H p ys) ∧ Q (.int ys.length) H) := by
  intro pins s σ H xs us Q I r h
  obtain ⟨p, ys, rfl, hq, q⟩ := h
  obtain ⟨u, rfl, rx⟩ := vals1 r
  cases rx
  have hn := line63
  rcases hq with hq | hq
  · obtain ⟨its, r', pl, hz⟩ := I.list hq
    have hlen := r'.length
    exact Calls.call_len_list pl.isList (by simp only [List.size_toArray] <;> omega) ⟨.int ys.length, H, I.tok _, ⟨s.toks + 1, by rw [List.size_toArray, hlen]⟩, q⟩
  · obtain ⟨its, r', pl, hz⟩ := I.tuple hq
    have hlen := r'.length
    exact len_tuple pl (by simp only [List.size_toArray] <;> omega) ⟨.int ys.length, H, I.tok _, ⟨s.toks + 1, by rw [List.size_toArray, hlen]⟩, q⟩
theorem call_list_of : CallR X (.type "list") (fun xs H Q => ∃ p ys, xs = [.ref p] ∧ (SqL X.K H p ys ∨ SqT X.K H p ys) ∧ ∀ l, H l = none → Q (.ref l) (upd H l (.lst ys))) := by
  intro pins s σ H xs us Q I r h
  obtain ⟨p, ys, rfl, hq, q⟩ := h
  obtain ⟨u, rfl, rx⟩ := vals1 r
  cases rx
  have fin : ∀ (its : List Value), Vals ys its → ys.length ≤ sizeLine → ∀ (h' : Heap) (c' : Nat), (∀ b o', s.heap.get? b = some o' → h'.get? b = some o') →
      h'.get? s.heap.objs.size = some { cls := .type "list", dict := none, data := .seq its.toArray c', slots := #[] } → EP X pins σ Q (.ref s.heap.objs.size) { s with heap := h' } := fun its r' hz h' c' kp e =>
    ⟨.ref s.heap.objs.size, _, I.laid (t' := s.toks) kp (Nat.le_refl _) (show ObjOk X.prog X.w _ h' _ (.lst ys) from ⟨hz, its, c', r', e⟩), rfl, q _ (I.hok.fresh (Nat.le_refl _))⟩
  rcases hq with hq | hq
  · obtain ⟨its, r', pl, hz⟩ := I.list hq
    have hlen := r'.length
    obtain ⟨o, ho, hc, n, hd⟩ := pl.isList
    exact call_list_seq p (.inl rfl) ho hc hd (fun h' c' kp e => fin its r' hz h' c' kp e) (by simp only [List.size_toArray] <;> omega)
  · obtain ⟨its, r', pl, hz⟩ := I.tuple hq
    have hlen := r'.length
    obtain ⟨o, ho, hc, n, hd⟩ := pl
    exact call_list_seq p (.inr rfl) ho hc hd (fun h' c' kp e => fin its r' hz h' c' kp e) (by simp only [List.size_toArray] <;> omega)
theorem call_tuple_of : CallR X (.type "tuple") (fun xs H Q => ∃ p ys, xs = [.ref p] ∧ ((SqL X.K H p ys ∧ ∀ l, H l = none → Q (.ref l) (upd H l (.tup ys))) ∨ (SqT X.K H p ys ∧ Q (.ref p) H))) := by
  intro pins s σ H xs us Q I r h
  obtain ⟨p, ys, rfl, h⟩ := h
  obtain ⟨u, rfl, rx⟩ := vals1 r
  cases rx
  rcases h with ⟨hq, q⟩ | ⟨hq, q⟩
  · obtain ⟨its, r', pl, hz⟩ := I.list hq
    have hlen := r'.length
    refine call_tuple_list pl.isList (fun h' kp => ?_) (by simp only [List.size_toArray] <;> omega)
    have I1 : Inv X pins σ H { s with heap := h' } := I.kept (t' := s.toks) kp
    have I2 : Inv X pins σ (upd H h'.objs.size (.tup ys)) { s with heap := h'.push { cls := .type "tuple", data := .seq its.toArray } } :=
      I1.laid (t' := s.toks) (fun b o e => Heap.get?_push_of_some _ e) (Nat.le_refl _) (show ObjOk X.prog X.w _ _ _ (.tup ys) from ⟨hz, its, r', IsTup.new _ _⟩)
    exact ⟨.ref h'.objs.size, _, I2, rfl, q _ (I1.hok.fresh (Nat.le_refl _))⟩
  · obtain ⟨its, r', pl, hz⟩ := I.tuple hq
    exact call_tuple_same pl ⟨.ref p, H, I, rfl, q⟩
def tyV (K : PySem.W.Frag) (T : String) (x : V) (H : Hp) : Prop := match x with
  | .str _ => T = "str"
  | .int _ => T = "int"
  | .ref p => (T = "list" ∧ ∃ xs, SqL K H p xs) ∨ (T = "tuple" ∧ ∃ o, K.lookup p = some o ∧ o.cls = .type "tuple" ∧ o.dict = none) ∨
      (T = "dict" ∧ ((∃ kvs, H p = some (.dK kvs)) ∨ ∃ kvs, H p = some (.dT kvs))) ∨ (T = "set" ∧ ∃ S n, H p = some (.set S n))
  | _ => False
theorem tyV_is {pins : List (Addr × Obj)} {σ : St} {H : Hp} {s : Shared} {T : String} {x : V} {v : Value} (I : Inv X pins σ H s) (r : RelV x v) (ty : tyV X.K T x H) :
    s.TypeIs v T ∧ ∀ a, v = .ref a → ∃ ob, s.heap.get? a = some ob ∧ ob.dict = none := by
  cases x with
  | str z =>
    obtain ⟨t, rfl⟩ := r
    cases (show T = "str" from ty)
    exact ⟨typeIs_str s z t, fun _ e => nomatch e⟩
  | int i =>
    obtain ⟨t, rfl⟩ := r
    cases (show T = "int" from ty)
    exact ⟨typeIs_int s i t, fun _ e => nomatch e⟩
  | ref p =>
    cases r
    rcases ty with ⟨rfl, xs, hq⟩ | ⟨rfl, o, hk, hc, hd⟩ | ⟨rfl, hk⟩ | ⟨rfl, S, n, hk⟩
    · obtain ⟨its, _, pl, _⟩ := I.list hq
      refine ⟨pl.isList.typeIs, fun a e => ?_⟩
      cases e
      obtain ⟨o, n, e, c, hd, _⟩ := pl
      exact ⟨o, e, hd⟩
    · refine ⟨⟨o, I.kIn p o hk, hc⟩, fun a e => ?_⟩
      cases e
      exact ⟨o, I.kIn _ o hk, hd⟩
    · have z : ∃ o, s.heap.get? p = some o ∧ o.ExactDict := by
        rcases hk with ⟨kvs, hk⟩ | ⟨kvs, hk⟩
        · obtain ⟨_, _, _, _, o, _, _, e, ex, _⟩ := I.hok p _ hk
          exact ⟨o, e, ex⟩
        · obtain ⟨_, _, _, _, o, _, _, e, ex, _⟩ := I.hok p _ hk
          exact ⟨o, e, ex⟩
      obtain ⟨o, e, ex⟩ := z
      refine ⟨⟨o, e, ex.1⟩, fun a e2 => ?_⟩
      cases e2
      exact ⟨o, e, ex.2.1⟩
    · obtain ⟨o, _, _, _, e, ex, _⟩ := I.hok p _ hk
      refine ⟨⟨o, e, ex.1⟩, fun a e2 => ?_⟩
      cases e2
      exact ⟨o, e, ex.2.1⟩
  | _ => exact False.elim ty
def tBM (K : PySem.W.Frag) (T : String) (r : V → List V → Hp → VK → Prop) (to : TE) (t : TA) : TE := fun σ H Q => to σ H fun x H1 => tyV K T x H1 ∧ t σ H1 fun xs H2 => r x xs H2 Q
variable {o e : Expr} {es : List Expr} {to : TE} {t : TA} {name : Str} {apos cpos : Pos} {T id : String} {r : V → List V → Hp → VK → Prop}
theorem pe_bm (pa : PlainAttrs T) (slot : Slot T name id) (hty : typeOf (.builtin id) = pure (.type "method_descriptor")) (hm : MtR X id r) (ho : PE X o to) (ha : PA X (e :: es) t)
    (hbase : attributeBase o name X.env (eval o X.env) = eval o X.env := by rfl)
    (hfew : ((backTo cpos (starEach (e :: es) X.env)).all (fun x => !x.1) && (backToKw cpos (keywordEach [] X.env)).all (fun x => x.1.isSome)
      && decide ((e :: es).length + ([] : List Keyword).length + (if ([] : List Keyword).isEmpty then 0 else 1) < 30)) = true := by rfl)
    (hline : (apos.endLine == cpos.line) = true := by rfl) (hs : starEach (e :: es) X.env = (false, eval e X.env) :: starEach es X.env := by rfl) (hplain : (backTo cpos (starEach es X.env)).any (·.1) = false := by rfl) :
    PE X (.Call (.Attribute o name apos) (e :: es) [] cpos) (tBM X.K T r to t) := by
  intro pins s σ H Q I h
  refine wpAny_Call_method_late hbase hfew hline rfl (thn (ho pins s σ H _ I h) fun v s1 ⟨x, H1, I1, r1, ty, q1⟩ => ?_)
  obtain ⟨h1, h2⟩ := tyV_is I1 r1 ty
  refine ⟨T, id, pa, slot, hty, h1, h2, ?_⟩
  have hA := ha cpos pins s1 σ H1 _ I1 q1
  rw [hs] at hA ⊢
  refine Calls.callWith_builtin (by show (false || (backTo cpos (starEach es X.env)).any (·.1)) = false; rw [hplain] <;> rfl) (Calls.evalArgs_plain ?_)
  exact thn hA fun us s2 ⟨vs, H2, I2, r2, q2⟩ => hm pins s2 σ H2 x vs v us Q I2 r1 r2 q2
end
end L2
namespace L2
open PySem PySem.Spec PyProof.Rows
def MtM (X : Cx) (id : String) (r : V → List V → Hp → VK → Prop) : Prop :=
  ∀ (pins : List (Addr × Obj)) (s : Shared) (σ : St) (H : Hp) (x : V) (xs : List V) (v : Value) (us : List Value) (Q : VK), Inv X pins σ H s → RelV x v → Vals xs us → r x xs H Q →
    wpAny (model X.prog X.w) X.A (call (.builtin id) (v :: us)) (EP X pins σ Q) X.xe s
theorem Vals.one : ∀ {x : V} {us : List Value}, Vals [x] us → ∃ u, us = [u] ∧ RelV x u
  | _, _, .cons r .nil => ⟨_, rfl, r⟩
theorem Vals.reverse {xs : List V} {us : List Value} (h : Vals xs us) : Vals xs.reverse us.reverse := by
  induction h with
  | nil => exact .nil
  | cons r t ih => rw [List.reverse_cons, List.reverse_cons]; exact Vals.append ih (.cons r .nil)
section
variable {X : Cx} {pins : List (Addr × Obj)} {σ : St} {H : Hp} {s : Shared} {l b : Addr} {xs ys zs : List V}
theorem Inv.lset {its its' : List Value} {n : Nat} {f : Array Value → Array Value} {t' : Nat} (I : Inv X pins σ H s) (hH : H l = some (.lst xs))
    (e : s.heap.get? l = some { cls := .type "list", data := .seq its.toArray n }) (hf : f its.toArray = its'.toArray) (hv : Vals ys its') (hz : ys.length ≤ sizeLine) :
    Inv X pins σ (upd H l (.lst ys)) { s with heap := s.heap.update l (Obj.mapSeq f), toks := t' } := by
  have q := PySem.IsL.update e f
  rw [hf] at q
  refine I.write (x := l) (e := l) (by rw [hH]; exact trivial) (.inl rfl) (fun b' u hb hu => (Heap.get?_update_other s.heap (Obj.mapSeq f) (Ne.symm hb)).trans hu) ⟨_, q⟩ ?_
  exact ⟨hz, its', _, hv, q⟩
theorem Inv.lnew {its : List Value} {t' : Nat} (I : Inv X pins σ H s) (hv : Vals ys its) (hz : ys.length ≤ sizeLine) :
    Inv X pins σ (upd H s.heap.objs.size (.lst ys)) { s with heap := s.heap.push { cls := .type "list", data := .seq its.toArray }, toks := t' } :=
  I.laid (fun _ _ q => Heap.get?_push_of_some _ q) (Nat.le_refl _) ⟨hz, its, 0, hv, Heap.get?_push_size _ rfl⟩
theorem Inv.fresh (I : Inv X pins σ H s) : H s.heap.objs.size = none := I.hok.fresh (Nat.le_refl _)
theorem Inv.lstM (I : Inv X pins σ H s) (hH : H l = some (.lst xs)) : xs.length ≤ sizeLine ∧ ∃ (its : List Value) (n : Nat), Vals xs its ∧ xs.length = its.length ∧ s.heap.get? l = some { cls := .type "list", data := .seq its.toArray n } := by
  obtain ⟨z, its, n, r, e⟩ := I.hok l _ hH
  exact ⟨z, its, n, r, r.length, e⟩
theorem notLongL {n : Nat} (h : n ≤ sizeLine) : Builtin.List.listTooLong n = false := by
  unfold Builtin.List.listTooLong
  exact decide_eq_false (by omega)
end
section
variable {X : Cx}
def rAppend : V → List V → Hp → VK → Prop := fun x vs H Q => ∃ l xs y, x = .ref l ∧ vs = [y] ∧ H l = some (.lst xs) ∧ xs.length < sizeLine ∧ Q .non (upd H l (.lst (xs ++ [y])))
theorem mt_append : MtM X "list.append" rAppend := by
  intro pins s σ H x vs v us Q I rx rv h
  obtain ⟨l, xs, y, rfl, rfl, hH, hz, q⟩ := h
  cases rx
  obtain ⟨u, rfl, ru⟩ := rv.one
  obtain ⟨z, its, n, r, hl, e⟩ := I.lstM hH
  refine call_meets F.slot_list_append ⟨_, e, rfl⟩ F.entry_list_append (F.args_list_append_2 _ _) (PySem.list_append l its.toArray n u (by rw [List.size_toArray]; omega)) ⟨e, ?_⟩
  refine ⟨.non, _, I.lset (its' := its ++ [u]) hH e (by simp) (r.append (.cons ru .nil)) ?_, rfl, q⟩
  rw [List.length_append, List.length_singleton]
  omega
def rExtend : V → List V → Hp → VK → Prop := fun x vs H Q => ∃ l b xs zs, x = .ref l ∧ vs = [.ref b] ∧ H l = some (.lst xs) ∧ H b = some (.lst zs) ∧ xs.length + zs.length ≤ sizeLine ∧ Q .non (upd H l (.lst (xs ++ zs)))
theorem mt_extend : MtM X "list.extend" rExtend := by
  intro pins s σ H x vs v us Q I rx rv h
  obtain ⟨l, b, xs, zs, rfl, rfl, hH, hB, hz, q⟩ := h
  cases rx
  obtain ⟨u, rfl, ru⟩ := rv.one
  cases ru
  obtain ⟨z, its, n, r, hl, e⟩ := I.lstM hH
  obtain ⟨z2, its2, n2, r2, hl2, e2⟩ := I.lstM hB
  have hsz : its.toArray.size + its2.toArray.size ≤ sizeLine := by rw [List.size_toArray, List.size_toArray]; omega
  have hlong : ¬ (!its.toArray.isEmpty && Builtin.List.listTooLong (its.toArray.size + its2.toArray.size)) = true := by
    rw [notLongL hsz, Bool.and_false]
    exact Bool.false_ne_true
  refine call_meets F.slot_list_extend ⟨_, e, rfl⟩ F.entry_list_extend (F.args_list_extend_2 _ _)
    (AutoSeq1.list_extend_list_list_0 l its.toArray n b its2.toArray n2 hlong (by rw [List.size_toArray]; omega) (by omega)) ⟨e, e2, ?_⟩
  refine ⟨.non, _, I.lset (its' := its ++ its2) hH e (by simp) (r.append r2) ?_, rfl, q⟩
  rw [List.length_append]
  omega
def rCat : R2 := fun x y H Q => ∃ l b xs zs, x = .ref l ∧ y = .ref b ∧ H l = some (.lst xs) ∧ H b = some (.lst zs) ∧ xs.length + zs.length ≤ sizeLine ∧ ∀ p, H p = none → Q (.ref p) (upd H p (.lst (xs ++ zs)))
theorem op_cat : OpR X (binaryOp .Add) rCat := by
  intro pins s σ H x y v u Q I rx ry h
  obtain ⟨l, b, xs, zs, rfl, rfl, hH, hB, hz, q⟩ := h
  cases rx
  cases ry
  obtain ⟨z, its, n, r, hl, e⟩ := I.lstM hH
  obtain ⟨z2, its2, n2, r2, hl2, e2⟩ := I.lstM hB
  refine PySem.P.add_list e e2 ?_ (by rw [List.size_toArray, List.size_toArray]; omega)
  have ea : its.toArray ++ its2.toArray = (its ++ its2).toArray := by simp
  rw [ea]
  exact ⟨.ref _, _, I.lnew (t' := s.toks) (r.append r2) (by rw [List.length_append]; omega), rfl, q _ I.fresh⟩
theorem len_rep {α : Type} (xs : List α) (k : Nat) : (List.replicate k xs).flatten.length = k * xs.length := by
  induction k with
  | zero => simp
  | succ k ih => rw [List.replicate_succ, List.flatten_cons, List.length_append, ih, Nat.succ_mul, Nat.add_comm]
end
section
variable {prog : Program} {w : World} {A : Around} {E : Value → Shared → Prop} {s : Shared}
set_option maxRecDepth 100000 in
end
section
variable {X : Cx}
end
end L2
namespace L2
open PySem PySem.Spec PyProof.Rows
section
variable {κ : Type} [DecidableEq κ]
end
section
variable {P : Program} {w : World} {H : Hp} {h : Heap} {a : Addr}
end
section
variable {X : Cx} {pins : List (Addr × Obj)} {σ : St} {H : Hp} {s : Shared} {a : Addr} {y v : V} {u r : Value} {o : Option V} {A : Around} {E : Value → Shared → Prop}
end
section
variable {X : Cx} {pins : List (Addr × Obj)} {σ : St} {H : Hp} {s : Shared} {a : Addr} {kvs : List (Key × V)} {k : Key} {u : Value} {A : Around} {E : Value → Shared → Prop}
end
section
variable {X : Cx} {o i e value : Expr} {pos pos' tpos : Pos} {td ty tv : TE}
end
section
variable {X : Cx} {pos : Pos}
end
section
variable {X : Cx} {pins : List (Addr × Obj)} {σ : St} {H : Hp} {s : Shared} {a : Addr} {y d : V} {u r : Value} {o : Option V} {A : Around} {E : Value → Shared → Prop}
end
section
variable {X : Cx} {o e f : Expr} {apos cpos : Pos} {td ty tx : TE}
end
section
variable {X : Cx} {pins : List (Addr × Obj)} {σ : St} {H : Hp} {s : Shared} {a : Addr} {kvs : List (Key × V)} {A : Around} {E : Value → Shared → Prop}
end
section
variable {X : Cx} {pins : List (Addr × Obj)} {σ : St} {H : Hp} {s : Shared} {a : Addr} {y : V} {u : Value} {A : Around} {E : Value → Shared → Prop}
end
end L2
namespace Att
open PySem PySem.W PySem.Calls PyProof.Rows
theorem ints_of_wellAll {P : Params} {h : Heap} : ∀ (ns : List Int) (vs : List Value), WellAll P h vs (ns.map WData.int) → IntsAre vs ns := by
  intro ns
  induction ns with
  | nil =>
    intro vs w
    rw [List.map_nil] at w
    cases w
    exact .nil
  | cons n ns ih =>
    intro vs w
    rw [List.map_cons] at w
    cases w with
    | cons a b =>
      cases a
      exact .cons _ _ (ih _ b)
theorem script_of {l : OpenLaw} {n : Nat} (hn : l.most = some n) {P : Params} {h : Heap} {args : List WData} {vals : List Value}
    (hpre : l.row.toRowW.claim.pre args = true) (hwl : WellAll P h vals args) :
    ∃ a vs ns, vals = [Value.ref a] ∧ args = [WData.list (ns.map WData.int)] ∧ h.get? a = some { cls := .type "list", data := .seq vs.toArray } ∧ IntsAre vs ns ∧ ns.length ≤ n := by
  have hsh : WShape.hasAll [] args [.list .int] = true := (pre_splitW hpre).1
  have hc : l.pre.holds [] { args := args } = true := (pre_splitW hpre).2
  obtain ⟨d, r, rfl, h1, h2⟩ := hasAllW_cons hsh
  obtain rfl := hasAllW_nil h2
  obtain ⟨xs, rfl, h3⟩ := hasW_list h1
  obtain ⟨ns, rfl⟩ := items_int h3
  have hlen : ns.length ≤ n := by
    unfold OpenLaw.pre at hc
    have h4 : (WTm.not (.lt (.lit (.int (n : Int))) (.len (.arg 0)))).holds [] { args := [.list (ns.map .int)] } = true := by
      have h4 := (holds_andW hc).1
      rw [hn] at h4
      exact h4
    have h5 := condW_of h4 (w_not (w_lt w_lit (w_len_list (w_arg rfl))))
    rw [List.length_map] at h5
    refine Nat.le_of_not_lt fun q => ?_
    have q' : (n : Int) < ((ns.length : Nat) : Int) := by omega
    first
      | (rw [decide_eq_true q'] at h5; exact absurd h5 (by decide))
      | (simp at h5; omega)
  cases hwl with
  | cons w1 w2 =>
    cases w2
    cases w1 with
    | list ho hall => exact ⟨_, _, ns, rfl, rfl, ho, ints_of_wellAll ns _ hall, hlen⟩
theorem post_true (l : OpenLaw) (args : List WData) : l.row.toRowW.claim.post args (.bool true) args = true :=
  postW_of (r := l.row.toRowW) (X := (true == true))
    (show WShape.has [] (.bool true) .bool = true by first | rfl | decide | simp [WShape.has, WShape.arms, WShape.armsAll])
    (show (WTm.eq .res (.lit (.bool true))).value [] { args := args, res := some (.bool true), after := args } = some (.bool (true == true)) from w_eq_bool (w_res rfl) w_lit) rfl
theorem attach_call {l : OpenLaw} {n : Nat} {q : Program} {loose : List Str} {XP : (Str → Option Value) → Heap → Prop} {YP : World → Heap → Prop} {d : DefRec}
    (hn : l.most = some n) (hdf : d.params.defaults = [])
    (call : ∀ (w : World) (s₀ s₁ : Shared) (mg mb : Str → Option Value) (fa : Addr) (o : Obj) (pm cd doc : Value) (a : Addr) (vs : List Value) (ns : List Int),
      Ground q loose [] XP w s₀ mg mb s₁.heap → YP w s₁.heap →
      s₁.heap.get? fa = some o → o.data = .func (docDef d.name d.params d.body d.scope pm cd doc) → s₁.heap.CodeRec cd d.name → mg d.name = some (.ref fa) →
      s₁.heap.get? a = some { cls := .type "list", data := .seq vs.toArray } → IntsAre vs ns → ns.length ≤ n → s₁.gens = #[] →
      codeAny (model l.prog w) callerA (.call (.ref fa) ⟨[.ref a], []⟩) (fun r s' => r = .ok (.ret (.bool true)) ∧ OldK s₁.heap s'.heap ∧ s'.os = s₁.os ∧ AllBare s'.gens) s₁) :
    WalkO q loose XP YP l.row.toRowW d [] (fun f vs => PySem.call f vs) := by
  intro w s₀ s₁ mg mb G Y fa o pm cd doc dV kV ho hd hcd hD hmg hg args vals as hpre hlay hrd hwl hlo
  obtain rfl : dV = .none := Dflts.none hD hdf
  obtain rfl : kV = .none := Dflts.noKw hD
  obtain ⟨a, vs, ns, rfl, rfl, hobj, hints, hlen⟩ := script_of hn hpre hwl
  refine enter_call (codeAny_mono (call w s₀ s₁ mg mb fa o pm cd doc a vs ns G Y ho (fd_plain hd) hcd hmg hobj hints hlen hg) fun r s' hq => ?_)
  obtain ⟨rfl, h2, h3, h4⟩ := hq
  exact ⟨.inl ⟨.bool true, .bool true, [], rfl, fun _ => rfl, .bool true, post_true l _, fun _ => ⟨List.Pairwise.nil, fun _ hm => (nomatch hm)⟩⟩, h2, h3, h4⟩
section
variable {prog : Program} {w : World} {A : Around} {E : Value → Shared → Prop} {s : Shared} {K : Frag}
end
end Att
namespace L2
open PySem PySem.Spec PyProof.Rows
theorem vals_ints : ∀ {vs : List Value} {ns : List Int}, IntsAre vs ns → Vals (ns.map V.int) vs
  | _, _, .nil => .nil
  | _, _, .cons n t h => .cons ⟨t, rfl⟩ (vals_ints h)
def Only (H : Hp) : Prop := ∀ b, H b = none ∨ ∃ o xs, H b = some (.frz o (.lst xs))
theorem law_call {P : Program} {w : World} {K : PySem.W.Frag} {mg mb : Str → Option Value} {CX : CXT} {k : Nat} {fa a : Addr} {fd : FuncData} {x : Str} {sp : Sp} {s₁ : Shared} {vs : List Value} {ns : List Int}
    (KX : K.In s₁.heap) (hns : s₁.heap.Ns mainGlobals mg) (hb : s₁.heap.Ns builtinsNs mb) (hbb : ∀ x : Str, x ≠ "__name__" → mb x = bootBuiltins x) (hlim : s₁.heap.NoLimit) (hg : s₁.gens = #[])
    (ha : s₁.heap.get? a = some { cls := .type "list", data := .seq vs.toArray }) (hi : IntsAre vs ns) (hl : ns.length ≤ sizeLine) (hr : Room k callerA)
    (F : ∀ base : Heap, K.In base → base.Ns mainGlobals mg → FnOk P w K mg base CX k fa fd [x] sp) (hbind : ∀ (s : Shared) (u : Value), BindsTo s fd ⟨[u], []⟩ [(x, u)])
    (hsp : ∀ H : Hp, Only H → SqL K H a (ns.map V.int) → sp [.ref a] H (fun v _ => v = .bl true) fun _ _ _ => False)
    (hCX : ∀ H e s', CX [] H s₁ (fun _ _ _ => False) e s' → False) :
    codeAny (model P w) callerA (.call (.ref fa) ⟨[.ref a], []⟩) (fun r s' => r = .ok (.ret (.bool true)) ∧ OldK s₁.heap s'.heap ∧ s'.os = s₁.os ∧ AllBare s'.gens) s₁ := by
  have rv := vals_ints hi
  have lenV := hi.length
  have core : ∀ H : Hp, Only H → SqL K H a (ns.map V.int) → HOk P w H s₁.heap → (∀ b, H b ≠ none → b = a) → (H a ≠ none → K.lookup a = none) →
      codeAny (model P w) callerA (.call (.ref fa) ⟨[.ref a], []⟩) (fun r s' => r = .ok (.ret (.bool true)) ∧ OldK s₁.heap s'.heap ∧ s'.os = s₁.os ∧ AllBare s'.gens) s₁ := by
    intro H hO hS hok hA hK
    have base_of : ∀ {b : Addr} {o : Obj}, s₁.heap.get? b = some o → H b = none → (hidT s₁.heap H).get? b = some o := fun e n => hidT_get e n
    have noA : ∀ {b : Addr} {o : Obj} {es : Array DictEntry} {ep : Nat}, s₁.heap.get? b = some o → o.data = .dict es ep → H b = none := fun {b o es ep} e d => by
      cases q : H b with
      | none => rfl
      | some u =>
        have e' : b = a := hA b (by rw [q]; simp)
        subst e'
        rw [ha] at e; cases e
        have d' : Data.seq vs.toArray _ = Data.dict es ep := d
        cases d'
    have nsK : ∀ {b : Addr} {m : Str → Option Value}, s₁.heap.Ns b m → (hidT s₁.heap H).Ns b m := fun {b m} ⟨o, es, ep, e, d, r⟩ => ⟨o, es, ep, base_of e (noA e d), d, r⟩
    have hKb : K.In (hidT s₁.heap H) := fun b o e => base_of (KX b o e) (by
      cases q : H b with
      | none => rfl
      | some u =>
        have e' : b = a := hA b (by rw [q]; simp)
        subst e'
        rw [hK (by rw [q]; simp)] at e; cases e)
    have hM : Mod K mg (hidT s₁.heap H) := ⟨hKb, nsK hns, ⟨mb, nsK hb, hbb⟩, let ⟨mc, h1, h2⟩ := hlim; ⟨mc, nsK h1, h2⟩⟩
    have e0 : Env0 P w K mg (hidT s₁.heap H) callerA [] s₁ H := ⟨rfl, hM, fun b o e => of_hidT e, Nat.le_of_eq (hidT_size _ _), trivial, fun b hb => absurd (show b ∈ ([] : List Addr) from hb) (by simp), hok, .of_eq hg⟩
    refine codeAny_mono ((F _ hKb (nsK hns)).run callerA [] s₁ H ⟨[.ref a], []⟩ [.ref a] [.ref a] _ _ hr e0 (hbind s₁ (.ref a)) (.cons rfl .nil) (hsp H hO hS)) fun r s' h => ?_
    cases r with
    | error e => exact (hCX H e s' h).elim
    | ok fl =>
      cases fl with
      | next => exact False.elim h
      | brk => exact False.elim h
      | cont => exact False.elim h
      | ret u =>
        obtain ⟨v, H', os, bare, un, hok', r', q⟩ := h
        have q' : v = .bl true := q
        subst q'
        obtain rfl : u = Value.bool true := r'
        refine ⟨rfl, OldK.of_keep fun b o e => ?_, os, bare⟩
        cases q : H b with
        | none => exact un.keep b o e q (by intro z; exact absurd (show b ∈ ([] : List Addr) from z) (by simp)) (by simp)
        | some u =>
          rcases hO b with z | ⟨ob, xs, z⟩
          · rw [q] at z; cases z
          · have z2 := un.frzs b ob _ z
            obtain ⟨e1, _⟩ := hok b _ z
            obtain ⟨e2, _⟩ := hok' b _ z2
            rw [e] at e1; cases e1
            exact e2
  cases hk : K.lookup a with
  | some o =>
    have e := KX a o hk
    rw [ha] at e
    cases e
    refine core (fun _ => none) (fun _ => .inl rfl) (.inr ⟨_, vs.toArray, _, hk, rfl, rfl, rfl, by rw [List.size_toArray, lenV]; exact hl, by simpa using rv⟩) (fun b u z => by have z' : (none : Option HO) = some u := z; cases z') (fun b z => absurd rfl z) fun z => absurd rfl z
  | none =>
    refine core (fun b => if b = a then some (.frz { cls := .type "list", data := .seq vs.toArray } (.lst (ns.map V.int))) else none) (fun b => ?_) (.inl (.inr ⟨{ cls := .type "list", data := .seq vs.toArray }, if_pos rfl⟩)) (fun b u z => ?_) (fun b z => ?_) fun _ => hk
    · by_cases hb : b = a
      · exact .inr ⟨_, _, if_pos hb⟩
      · exact .inl (if_neg hb)
    · by_cases hb : b = a
      · have z' := (if_pos hb).symm.trans z
        cases z'
        subst hb
        exact ⟨ha, by rw [List.length_map]; exact hl, vs, _, rv, ha⟩
      · have z' := (if_neg hb).symm.trans z
        cases z'
    · by_cases hb : b = a
      · exact hb
      · exact absurd (if_neg hb) z
end L2
namespace L2
open PySem PySem.Spec PyProof.Rows
theorem walk_of {l : PySem.W.OpenLaw} {n k : Nat} {q : Program} {loose : List Str} {XP : (Str → Option Value) → Heap → Prop} {YP : World → Heap → Prop} {d : DefRec} {K : Params → PySem.W.Frag} {CX : World → CXT} {sp : World → Sp} {x : Str}
    (hn : l.most = some n) (hn2 : n ≤ sizeLine) (hdf : d.params.defaults = []) (hr : Room k callerA)
    (hY : ∀ (w : World) (h : Heap), YP w h → (K w.params).In h)
    (F : ∀ (w : World) (mg : Str → Option Value) (fa : Addr) (h : Heap), (K w.params).In h → h.Ns mainGlobals mg → mg d.name = some (.ref fa) →
      ∃ fd : FuncData, (∀ (s : Shared) (u : Value), BindsTo s fd ⟨[u], []⟩ [(x, u)]) ∧
        ∀ base : Heap, (K w.params).In base → base.Ns mainGlobals mg → FnOk l.prog w (K w.params) mg base (CX w) k fa fd [x] (sp w))
    (hsp : ∀ (w : World) (H : Hp) (a : Addr) (ns : List Int), ns.length ≤ n → Only H → SqL (K w.params) H a (ns.map V.int) → sp w [.ref a] H (fun v _ => v = .bl true) fun _ _ _ => False)
    (hCX : ∀ (w : World) (H : Hp) (s : Shared) (e : Value) (s' : Shared), CX w [] H s (fun _ _ _ => False) e s' → False) :
    PySem.W.WalkO q loose XP YP l.row.toRowW d [] (fun f vs => PySem.call f vs) := by
  refine Att.attach_call hn hdf fun w s₀ s₁ mg mb fa o pm cd doc a vs ns G Y ho hd hcd hmg hobj hints hlen hg => ?_
  have KX := hY w _ Y
  obtain ⟨fd, hb, hF⟩ := F w mg fa _ KX G.T.g hmg
  exact law_call KX G.T.g G.T.b G.T.builtins G.T.nolimit hg hobj hints (Nat.le_trans hlen hn2) hr hF hb (fun H hO hS => hsp w H a ns hlen hO hS) fun H e s' => hCX w H s₁ e s'
end L2
namespace L2
open PySem PySem.Spec PyProof.Rows
def defArgs (s : Stmt) : Arguments := match s with
  | .FunctionDef _ a _ _ _ _ _ _ _ _ => a
  | _ => { posonlyargs := [], args := [], vararg := none, kwonlyargs := [], kw_defaults := [], kwarg := none, defaults := [] }
def defBody (s : Stmt) : List Stmt := match s with
  | .FunctionDef _ _ b _ _ _ _ _ _ _ => b
  | _ => []
def defScope (s : Stmt) : Scope := match s with
  | .FunctionDef _ _ _ _ _ _ sc _ _ _ => sc
  | _ => { kind := .function, names := [], isGenerator := false, isCoroutine := false }
abbrev CX0 : CXT := fun _ _ _ _ _ _ => False
abbrev E0 : XK := fun _ _ _ => False
structure Fun (K : PySem.W.Frag) (x qual : Str) (st : Stmt) (f : Addr) (fd : FuncData) : Prop where
  ex : ∃ (oc : Value) (od : Option Addr) (kV doc pm : Value) (an : Option Addr) (cdv ct : Value) (osl : Array (Option Value)),
    fd = PySem.W.fnOf x qual (defArgs st) (defBody st) (defScope st) .none kV doc pm an cdv ct ∧ K.lookup f = some ⟨oc, od, .func fd, osl⟩ ∧ PySem.W.codeIn K cdv qual = true
  kp : PySem.W.keepIn K (.ref f) = true
section
variable {P : Program} {w : World} {K : PySem.W.Frag} {mg : Str → Option Value} {base : Heap}
theorem Fun.ok {x qual : Str} {st : Stmt} {f : Addr} {fd : FuncData} {N ps : List Str} {k : Nat} {sp : Sp} (F : Fun K x qual st f fd) (S : FnScope N ps (defScope st)) (len : ∀ vs H Q E, sp vs H Q E → vs.length = ps.length)
    (hbody : ∀ (cdv : Value) (A : Around) (outer : List Env) (s : Shared) (H : Hp) (vs : List V) (Q : VK) (E : XK), Room k (A.deeper (envOfC qual (defScope st) s.heap.objs.size f cdv)) → sp vs H Q E →
      ∃ t, PSs (cxOf CX0 P w K mg base N qual (defScope st) f cdv A outer s H E).nox (defBody st) t ∧ t { nx := fun _ H' => Q .non H', rt := Q } (start N vs) H) : FnOk P w K mg base CX0 (k + 1) f fd ps sp := by
  obtain ⟨oc, od, kV, doc, pm, an, cdv, ct, osl, rfl, lk, hcd⟩ := F.ex
  refine fn_of lk hcd S len fun A outer s H vs Q E hr hsp => ?_
  obtain ⟨t, h, q⟩ := hbody cdv A outer s H vs Q E hr hsp
  exact ⟨t, h.nox, q⟩
theorem Fun.binds {x qual : Str} {st : Stmt} {f : Addr} {fd : FuncData} {ps : List Str} (F : Fun K x qual st f fd)
    (h : ∀ (kV doc pm : Value) (an : Option Addr) (cdv ct : Value) (us : List Value), us.length = ps.length → bindArgs (PySem.W.fnOf x qual (defArgs st) (defBody st) (defScope st) .none kV doc pm an cdv ct) ⟨us, []⟩ = pure (ps.zip us)) : Binds K fd ps [] := by
  obtain ⟨oc, od, kV, doc, pm, an, cdv, ct, osl, rfl, lk, hcd⟩ := F.ex
  exact .all (h kV doc pm an cdv ct)
theorem fun_mk {x qual : Str} {st : Stmt} {f : Addr} {oc : Value} {od an : Option Addr} {osl : Array (Option Value)} {kV doc pm cdv ct : Value} (l : K.lookup f = some ⟨oc, od, .func (PySem.W.fnOf x qual (defArgs st) (defBody st) (defScope st) .none kV doc pm an cdv ct), osl⟩)
    (c : PySem.W.codeIn K cdv qual = true) (k : PySem.W.keepIn K (.ref f) = true) : Fun K x qual st f (PySem.W.fnOf x qual (defArgs st) (defBody st) (defScope st) .none kV doc pm an cdv ct) := ⟨⟨oc, od, kV, doc, pm, an, cdv, ct, osl, rfl, l, c⟩, k⟩
end
theorem small1000 {n : Nat} (h : n ≤ 1000) : n < sizeLine := Nat.lt_of_le_of_lt h (by decide)
section
variable {X : Cx}
theorem pv (i : Nat) {x : Str} {pos : Pos} (hN : X.N[i]? = some x := by rfl) (hv : Vis X.env.scope x := by first | exact Or.inl rfl | exact Or.inr (Or.inl rfl) | exact Or.inr (Or.inr rfl)) (hd : (x == ("__debug__" : Str)) = false := by decide)
    (hcd : (x == ("__classdict__" : Str)) = false := by decide) : PE X (.Name x pos) (tVar i) := pe_var hN hv hd hcd
end
theorem iteF {A B : Prop} (h : B) : if false = true then A else B := by
  rw [if_neg Bool.false_ne_true]
  exact h
theorem iteT {A B : Prop} (h : A) : if true = true then A else B := by
  rw [if_pos rfl]
  exact h
theorem ite2 {c A B : Prop} [Decidable c] (h1 : c → A) (h2 : ¬ c → B) : if c then A else B := by
  by_cases h : c
  · rw [if_pos h]
    exact h1 h
  · rw [if_neg h]
    exact h2 h
def Same (H H' : Hp) : Prop := ∀ b o, H b = some o → H' b = some o
theorem Same.refl (H : Hp) : Same H H := fun _ _ h => h
theorem Same.trans {H H1 H2 : Hp} (a : Same H H1) (b : Same H1 H2) : Same H H2 := fun c o h => b c o (a c o h)
theorem Same.free {H H' : Hp} (e : Same H H') {l : Addr} (h : H' l = Option.none) : H l = Option.none := by
  cases q : H l with
  | none => rfl
  | some o =>
    rw [e l o q] at h
    cases h
theorem Same.seq {K : PySem.W.Frag} {H H' : Hp} {a : Addr} {xs : List V} (e : Same H H') (h : SqL K H a xs) : SqL K H' a xs := by
  rcases h with (h | ⟨o, h⟩) | h
  · exact .inl (.inl (e _ _ h))
  · exact .inl (.inr ⟨o, e _ _ h⟩)
  · exact .inr h
end L2
namespace L2
open PySem PySem.Spec PyProof.Rows
section
variable {X : Cx}
end
section
variable {κ : Type} [DecidableEq κ]
theorem nd_snoc : ∀ {l : List κ} {k : κ}, l.Nodup → ¬ k ∈ l → (l ++ [k]).Nodup
  | [], k, _, _ => by simp
  | a :: r, k, h, hk => by
    obtain ⟨h1, h2⟩ := List.nodup_cons.mp h
    show (a :: (r ++ [k])).Nodup
    refine List.nodup_cons.mpr ⟨fun m => ?_, nd_snoc h2 fun m => hk (List.mem_cons.mpr (Or.inr m))⟩
    rcases List.mem_append.mp m with q | q
    · exact h1 q
    · exact hk (List.mem_cons.mpr (Or.inl (List.mem_singleton.mp q).symm))
end
end L2
set_option maxHeartbeats 4000000
namespace L2
open PySem PySem.Spec PyProof.Rows
section
variable {X : Cx}
def CDivW (_ j : Int) : Prop := 0 < j ∧ j.natAbs.log2 < 9000
theorem op_fdivW : OpR X (binaryOp .FloorDiv) (rI CDivW fun i j => .int (i / j)) := opI fun i j _ _ _ _ _ hc q => by
  have h1 : (0 : Int) < j := hc.1
  exact floordiv_int (by omega) (by rw [Int.fdiv_eq_ediv_of_nonneg i (by omega)]; exact q) (.inl (PyProof.noPylong_of_log2 hc.2))
theorem cdivW_lit {i j : Int} (h : (decide (0 < j) && decide (j.natAbs.log2 < 9000)) = true) : CDivW i j := by
  obtain ⟨a, b⟩ := Bool.and_eq_true_iff.mp h
  exact ⟨of_decide_eq_true a, of_decide_eq_true b⟩
theorem cdivW_of {i j : Int} {n : Nat} (h0 : 0 < j) (h : j < 2 ^ n) (hn : n ≤ 9000) : CDivW i j := by
  refine ⟨h0, ?_⟩
  have e : (j.natAbs : Int) = j := by omega
  have h2 : j.natAbs < 2 ^ n := by
    have : (j.natAbs : Int) < ((2 ^ n : Nat) : Int) := by rw [e]; simpa using h
    exact Int.ofNat_lt.mp this
  have := (Nat.log2_lt (n := j.natAbs) (k := n) (by omega)).mpr h2
  omega
def CMulW (i j : Int) : Prop := ∃ m n : Nat, i.natAbs < 2 ^ m ∧ j.natAbs < 2 ^ n ∧ m + n ≤ 134217728
theorem op_mulW : OpR X (binaryOp .Mult) (rI CMulW fun i j => .int (i * j)) := opI fun _ _ _ _ _ _ _ hc q => by
  obtain ⟨m, n, h1, h2, h3⟩ := hc
  exact mul_int q (IntMulOk.of_le (PySem.intBits_le_iff.mpr h1) (PySem.intBits_le_iff.mpr h2) h3)
theorem call_isinst : CallR X (.builtin "isinstance") (fun xs H Q => ∃ x n t b, xs = [x, .ty n] ∧ TyOf X.K H x t ∧ PySem.W.kitOne X.K t (.type n) = some b ∧ Q (.bl b) H) := by
  intro pins s σ H xs us Q I r h
  obtain ⟨x, n, t, b, rfl, ty, e, q⟩ := h
  obtain ⟨u, w', rfl, ru, rw'⟩ := vals2 r
  have rw2 : w' = Value.type n := rw'
  subst rw2
  exact isinst_ok I ru ty e fun tk => ⟨.bl b, H, I.tok _, rfl, q⟩
theorem pe_ty {x : Str} {n : String} {pos : Pos} (hv : bootBuiltins x = some (.type n)) (hg : Gl X x) (hm : X.mg x = none) (hn : x ≠ "__name__" := by decide) (hd : (x == ("__debug__" : Str)) = false := by decide) : PE X (.Name x pos) (tC (.ty n)) := pe_bltn hg hm hv rfl hn hd
theorem isi_same {K : PySem.W.Frag} {n : String} : PySem.W.kitOne K (.type n) (.type n) = some true := by
  unfold PySem.W.kitOne
  rw [if_pos (beq_self_eq_true _)]
mutual
inductive Dt (K : PySem.W.Frag) (H : Hp) : V → PyData → Prop
  | non : Dt K H .non .none
  | bl (b : Bool) : Dt K H (.bl b) (.bool b)
  | int (i : Int) : Dt K H (.int i) (.int i)
  | str (x : Str) : Dt K H (.str x) (.str x)
  | lst {a : Addr} {xs : List V} {ds : List PyData} : SqL K H a xs → DtA K H xs ds → Dt K H (.ref a) (.list ds)
  | tup {a : Addr} {xs : List V} {ds : List PyData} : SqT K H a xs → DtA K H xs ds → Dt K H (.ref a) (.tuple ds)
inductive DtA (K : PySem.W.Frag) (H : Hp) : List V → List PyData → Prop
  | nil : DtA K H [] []
  | cons {x : V} {xs : List V} {d : PyData} {ds : List PyData} : Dt K H x d → DtA K H xs ds → DtA K H (x :: xs) (d :: ds)
end
section
variable {pins : List (Addr × Obj)} {σ : St} {H : Hp} {s : Shared}
mutual
theorem Dt.reads (I : Inv X pins σ H s) : ∀ {x : V} {d : PyData} {u : Value}, Dt X.K H x d → RelV x u → ∃ as, Reads s.heap u d as
  | _, _, u, .non, r => by cases (show u = Value.none from r); exact ⟨_, .none⟩
  | _, _, u, .bl b, r => by cases (show u = Value.bool b from r); exact ⟨_, .bool b⟩
  | _, _, u, .int i, r => by obtain ⟨t, rfl⟩ := (show ∃ t, u = Value.int i t from r); exact ⟨_, .int i t⟩
  | _, _, u, .str x, r => by obtain ⟨t, rfl⟩ := (show ∃ t, u = Value.str x t from r); exact ⟨_, .str x t⟩
  | _, _, u, @Dt.lst _ _ a xs ds h hd, r => by
    cases (show u = Value.ref a from r)
    obtain ⟨its, rv, ⟨o, n, e, c, _, d⟩, hz⟩ := I.list h
    obtain ⟨as, ra⟩ := DtA.reads I hd rv
    exact ⟨_, .list e c d (by simpa using ra)⟩
  | _, _, u, @Dt.tup _ _ a xs ds h hd, r => by
    cases (show u = Value.ref a from r)
    obtain ⟨its, rv, ⟨o, e, c, n, d⟩, hz⟩ := I.tuple h
    obtain ⟨as, ra⟩ := DtA.reads I hd rv
    exact ⟨_, .tuple e c d (by simpa using ra)⟩
theorem DtA.reads (I : Inv X pins σ H s) : ∀ {xs : List V} {ds : List PyData} {us : List Value}, DtA X.K H xs ds → Vals xs us → ∃ as, ReadsAll s.heap us ds as
  | _, _, _, .nil, .nil => ⟨_, .nil⟩
  | _, _, _, .cons h t, .cons r rs => by
    obtain ⟨as, ra⟩ := Dt.reads I h r
    obtain ⟨bs, rb⟩ := DtA.reads I t rs
    exact ⟨_, .cons ra rb⟩
end
end
def rEqD (K : PySem.W.Frag) : R2 := fun x y H Q => ∃ d e, Dt K H x d ∧ Dt K H y e ∧ SeqAt.shaped d = true ∧ SeqAt.shaped e = true ∧ Q (.bl (PyData.eqv d e)) H
theorem op_eqD (hu : X.A.units + 64 < cLine) : OpR X (compareOp .Eq) (rEqD X.K) := by
  intro pins s σ H x y v u Q I rx ry h
  obtain ⟨d, e, hd, he, sd, se, q⟩ := h
  obtain ⟨as, ra⟩ := hd.reads I rx
  obtain ⟨bs, rb⟩ := he.reads I ry
  exact eq_dataH ra rb sd se hu ⟨.bl _, H, I, rfl, q⟩
structure Dn (P : Program) (w : World) (K : PySem.W.Frag) (mg : Str → Option Value) (base : Heap) (k : Nat) (x : Str) (ps : List Str) (sp : Sp) : Prop where
  ex : ∃ f fd, FnOk P w K mg base CX0 k f fd ps sp ∧ Binds K fd ps [] ∧ PySem.W.keepIn K (.ref f) = true ∧ mg x = some (.ref f)
theorem pe_fn {j k : Nat} {x : Str} {ps : List Str} {sp : Sp} {e : Expr} {es : List Expr} {t : TA} {p pos : Pos} (D : Dn X.prog X.w X.K X.mg X.base j x ps sp) (hr : Room k X.A) (ha : PA X (e :: es) t) (hj : j ≤ k := by decide) (hg : Gl X x := by rfl)
    (hdb : (x == ("__debug__" : Str)) = false := by decide) (he : starEach (e :: es) X.env = (false, eval e X.env) :: starEach es X.env := by rfl) (hpl : (backTo pos (starEach es X.env)).any (·.1) = false := by rfl) :
    PE X (.Call (.Name x p) (e :: es) [] pos) (tCall sp [] E0 t) := by
  obtain ⟨f, fd, F, b, kp, m⟩ := D.ex
  exact pe_call F (hr.mono hj) hg m kp b .nil (fun _ _ _ _ _ _ _ h => h.elim) ha hdb he hpl
end
structure At (K : PySem.W.Frag) (mg : Str → Option Value) (x : Str) (st : Stmt) (f : Addr) (fd : FuncData) : Prop where
  fn : Fun K x x st f fd
  name : mg x = some (.ref f)
theorem At.ok {P : Program} {w : World} {K : PySem.W.Frag} {mg : Str → Option Value} {base : Heap} {x : Str} {st : Stmt} {f : Addr} {fd : FuncData} {N ps : List Str} {k : Nat} {sp : Sp} (F : At K mg x st f fd) (S : FnScope N ps (defScope st)) (len : ∀ vs H Q E, sp vs H Q E → vs.length = ps.length)
    (hbody : ∀ (cdv : Value) (A : Around) (outer : List Env) (s : Shared) (H : Hp) (vs : List V) (Q : VK) (E : XK), Room k (A.deeper (envOfC x (defScope st) s.heap.objs.size f cdv)) → sp vs H Q E →
      ∃ t, PSs (cxOf CX0 P w K mg base N x (defScope st) f cdv A outer s H E).nox (defBody st) t ∧ t { nx := fun _ H' => Q .non H', rt := Q } (start N vs) H)
    (h : ∀ (kV doc pm : Value) (an : Option Addr) (cdv ct : Value) (us : List Value), us.length = ps.length → bindArgs (PySem.W.fnOf x x (defArgs st) (defBody st) (defScope st) .none kV doc pm an cdv ct) ⟨us, []⟩ = pure (ps.zip us)) :
    Dn P w K mg base (k + 1) x ps sp := ⟨f, fd, F.fn.ok S len hbody, F.fn.binds h, F.fn.kp, F.name⟩
theorem at_mk {K : PySem.W.Frag} {mg : Str → Option Value} {h : Heap} {x : Str} {st : Stmt} {f : Addr} {oc : Value} {od an : Option Addr} {osl : Array (Option Value)} {kV doc pm cdv ct : Value} (X : K.In h) (G : h.Ns mainGlobals mg)
    (a : PySem.W.nsIn K mainGlobals x = some (some (.ref f))) (l : K.lookup f = some ⟨oc, od, .func (PySem.W.fnOf x x (defArgs st) (defBody st) (defScope st) .none kV doc pm an cdv ct), osl⟩)
    (c : PySem.W.codeIn K cdv x = true) (k : PySem.W.keepIn K (.ref f) = true) : At K mg x st f (PySem.W.fnOf x x (defArgs st) (defBody st) (defScope st) .none kV doc pm an cdv ct) := ⟨fun_mk l c k, PySem.W.mg_of X G a⟩
theorem Same.tup {H H' : Hp} {K : PySem.W.Frag} {a : Addr} {xs : List V} (e : Same H H') (h : SqT K H a xs) : SqT K H' a xs := by
  rcases h with (h | ⟨o, h⟩) | h
  · exact .inl (.inl (e _ _ h))
  · exact .inl (.inr ⟨o, e _ _ h⟩)
  · exact .inr h
theorem same_new {H : Hp} {p : Addr} (h : H p = none) (o : HO) : Same H (upd H p o) := fun b u q => by rw [upd_ne (ne_of_none q h)]; exact q
end L2
namespace Jm
def cf (a b : Int) : Int := (Int.gcd a b : Int)
theorem cf_zero (a : Int) (h : 0 ≤ a) : cf a 0 = a := by
  unfold cf; rw [Int.gcd_zero_right]; omega
theorem cf_step (a b : Int) (h : 0 < b) : cf b (a % b) = cf a b := by
  unfold cf
  rw [Int.emod_def, Int.gcd_sub_mul_left_right, Int.gcd_comm]
theorem cf_pos (a b : Int) (h : 0 < a ∨ 0 < b) : 0 < cf a b := by
  unfold cf
  have : 0 < Int.gcd a b := by
    rcases h with h | h
    · exact Int.gcd_pos_of_ne_zero_left _ (by omega)
    · exact Int.gcd_pos_of_ne_zero_right _ (by omega)
  omega
theorem cf_comm (a b : Int) : cf a b = cf b a := by unfold cf; rw [Int.gcd_comm]
theorem cf_abs (a b : Int) : cf a (if b < 0 then -b else b) = cf a b := by
  unfold cf; split
  · rw [Int.gcd_neg]
  · rfl
abbrev fr (t b : Int) : Rat := Rat.divInt t b
theorem fr_num (t b : Int) (h : 0 < b) : (fr t b).num = t / cf b t := by
  unfold fr cf
  rw [Rat.num_divInt, Int.sign_eq_one_of_pos h, Int.one_mul]
theorem fr_den (t b : Int) (h : 0 < b) : ((fr t b).den : Int) = b / cf b t := by
  unfold fr cf
  rw [Rat.den_divInt, if_neg (by omega)]
  rw [Int.natCast_ediv]; congr 1; omega
theorem dvd_cf_left (a b : Int) : cf a b ∣ a := Int.gcd_dvd_left ..
end Jm
namespace Jm
theorem fr_den_le (t b : Int) (h : 0 < b) : ((fr t b).den : Int) ≤ b := by
  rw [fr_den t b h]
  exact Int.ediv_le_self _ (Int.le_of_lt h)
theorem fr_bounds (t b B : Int) (h : 0 < b) (h0 : -B ≤ t) (h1 : t ≤ B) : -B ≤ (fr t b).num ∧ (fr t b).num ≤ B := by
  have g := cf_pos b t (.inl h)
  rw [fr_num t b h]
  generalize cf b t = c at *
  have e := Int.emod_add_mul_ediv t c
  have m0 := Int.emod_nonneg t (b := c) (by omega)
  have m1 := Int.emod_lt_of_pos t g
  refine ⟨?_, ?_⟩
  · rcases Int.lt_or_le (t / c) (-B) with z | z
    · exfalso
      have z2 : c * (t / c) ≤ c * (-B - 1) := Int.mul_le_mul_of_nonneg_left (by omega) (by omega)
      have z3 : 1 * (B + 1) ≤ c * (B + 1) := Int.mul_le_mul_of_nonneg_right (by omega) (by omega)
      have z4 : c * (-B - 1) = -(c * (B + 1)) := by grind
      have z5 : c * (B + 1) = c * B + c := by grind
      have z6 : 1 * B ≤ c * B := Int.mul_le_mul_of_nonneg_right (by omega) (by omega)
      omega
    · exact z
  · rcases Int.lt_or_le B (t / c) with z | z
    · exfalso
      have z2 : c * (B + 1) ≤ c * (t / c) := Int.mul_le_mul_of_nonneg_left (by omega) (by omega)
      have z3 : 1 * (B + 1) ≤ c * (B + 1) := Int.mul_le_mul_of_nonneg_right (by omega) (by omega)
      omega
    · exact z
end Jm
namespace Jm
def Sz (n : Nat) (x : Int) : Prop := x.natAbs < 2 ^ n
theorem Sz.of_le {n : Nat} {x y : Int} (h : Sz n y) (hx : x.natAbs ≤ y.natAbs) : Sz n x := Nat.lt_of_le_of_lt hx h
theorem Sz.dvd {n : Nat} {x y : Int} (h : Sz n y) (hy : 0 < y) (hx : 0 ≤ x) (d : x ∣ y) : Sz n x := h.of_le (by have := Int.le_of_dvd hy d; omega)
end Jm
namespace Jm
end Jm
namespace Jm
end Jm
namespace Jm
end Jm
namespace Jm
def restN (c : Int) : Nat → Int
  | 0 => c
  | i + 1 => restN c i / 10000000000
def cellOf (ns : List Int) (k : Int) : Int := if 0 < (ns.length : Int) then ns.getD (k % ns.length).toNat 0 else 0
def turnOf (ns : List Int) (k : Int) : Int := if 0 < (ns.length : Int) then k / ns.length else 1
def mixed (c k j many : Int) : Int :=
  let one := (c * 7919 + k * 104729 + j * 1299709 + 31) % 1000000007
  let two := (one * 48271 + c / 1009) % 998244353
  let three := (two * (one % 9973 + 1) + j) % 1000000009
  (one * 69621 + three * 40692 + three / 1013) % 2147483647 % many
def draw (ns : List Int) (k j many : Int) : Int :=
  if turnOf ns k = 0 ∧ 1000000000000000000 ≤ cellOf ns k ∧ 0 < restN (cellOf ns k) j.toNat then restN (cellOf ns k) j.toNat % 10000000000 % many
  else mixed (cellOf ns k) k j many
theorem draw_lo (ns : List Int) (k j many : Int) (h : 0 < many) : 0 ≤ draw ns k j many := by
  unfold draw; split
  · exact Int.emod_nonneg _ (by omega)
  · exact Int.emod_nonneg _ (by omega)
theorem draw_hi (ns : List Int) (k j many : Int) (h : 0 < many) : draw ns k j many < many := by
  unfold draw; split
  · exact Int.emod_lt_of_pos _ h
  · exact Int.emod_lt_of_pos _ h
end Jm
namespace L2
open PySem PySem.Spec PyProof.Rows
structure spDraw (K : PySem.W.Frag) (vs : List V) (H : Hp) (Q : VK) (E : XK) : Prop where
  ex : ∃ (a : Addr) (ns : List Int) (k j many : Int), vs = [.ref a, .int k, .int j, .int many] ∧ SqL K H a (ns.map V.int) ∧ ns.length ≤ 63 ∧ 0 ≤ k ∧ 0 ≤ j ∧ j < 2 ^ 62 ∧ 0 < many ∧ Q (.int (Jm.draw ns k j many)) H
theorem use_draw {K : PySem.W.Frag} {H : Hp} {Q : VK} {E : XK} {a : Addr} {ns : List Int} {k j many : Int} (hS : SqL K H a (ns.map V.int)) (h63 : ns.length ≤ 63) (h1 : 0 ≤ k) (h2 : 0 ≤ j) (h3 : j < 2 ^ 62) (h4 : 0 < many)
    (h : ∀ d : Int, d = Jm.draw ns k j many → 0 ≤ d → d < many → Q (.int d) H) : spDraw K [.ref a, .int k, .int j, .int many] H Q E :=
  ⟨a, ns, k, j, many, rfl, hS, h63, h1, h2, h3, h4, h _ rfl (Jm.draw_lo ns k j many h4) (Jm.draw_hi ns k j many h4)⟩
abbrev ratO (q : Rat) : HO := .tup [.int q.num, .int (q.den : Int)]
def spLaw (K : PySem.W.Frag) : Sp := fun vs H Q _ => ∃ (a : Addr) (ns : List Int), vs = [.ref a] ∧ SqL K H a (ns.map V.int) ∧ ns.length ≤ 63 ∧ ∀ H', Q (.bl true) H'
section
variable {X : Cx} {pos : Pos}
def tIfJ (c : TT) (t u : TS) : TS := fun D σ H => ∃ J : St → Hp → Prop, (c σ H fun b H1 => if b = true then t { D with nx := J } σ H1 else u { D with nx := J } σ H1) ∧ ∀ σ' H', J σ' H' → D.nx σ' H'
theorem ps_ifJ {c : Expr} {a b : List Stmt} {tc : TT} {t u : TS} (hc : PT X c tc) (ha : PSs X a t) (hb : PSs X b u) : PS X (.If c a b pos) (tIfJ tc t u) := by
  intro pins s σ H D I h
  obtain ⟨J, h, hJ⟩ := h
  refine thn (ps_if hc ha hb pins s σ H { D with nx := J } I h) fun f s' q => ?_
  cases f with
  | next => obtain ⟨σ', H', I', q⟩ := q; exact ⟨σ', H', I', hJ _ _ q⟩
  | cont => exact q
  | brk => exact q
  | ret v => exact q
end
theorem pt_pure {X : Cx} {e : Expr} {t : TT} (h : PT X e t) : PT X e (fun σ H Q => ∃ b : Bool, t σ H (fun b' H' => b' = b ∧ H' = H) ∧ Q b H) := by
  intro pins s σ H Q I hw
  obtain ⟨b, hb, q⟩ := hw
  refine thn (h pins s σ H _ I hb) fun b' s' ⟨H', I', e1, e2⟩ => ?_
  subst e1 e2
  exact ⟨_, I', q⟩
theorem cdivW_sz {i j : Int} (h0 : 0 < j) (h : Jm.Sz 9000 j) : CDivW i j := by
  refine ⟨h0, ?_⟩
  exact (Nat.log2_lt (by omega)).mpr h
theorem cmul_sz {m n : Nat} {i j : Int} (hi : Jm.Sz m i) (hj : Jm.Sz n j) (h : m + n ≤ 134217728 := by decide) : CMulW i j := ⟨m, n, hi, hj, h⟩
theorem sz_lit {n : Nat} {x : Int} (h : decide (x.natAbs < 2 ^ n) = true) : Jm.Sz n x := by
  unfold Jm.Sz
  exact of_decide_eq_true h
theorem atI_map {ns : List Int} {k : Int} (h0 : 0 ≤ k) (h : k < (ns.length : Int)) : atI (ns.map V.int) k = some (.int (ns.getD k.toNat 0)) := by
  have hk : k.toNat < ns.length := by omega
  have ek : k = ((k.toNat : Nat) : Int) := by omega
  have q : atI (ns.map V.int) ((k.toNat : Nat) : Int) = some (.int (ns.getD k.toNat 0)) := atI_nat (by rw [List.getElem?_map, List.getD_eq_getElem?_getD, List.getElem?_eq_getElem hk] <;> rfl)
  rw [← ek] at q
  exact q
end L2
namespace L2
open PySem PySem.Spec PyProof.Rows
section
variable {prog : Program} {w : World} {A : Around} {R : Result → Shared → Prop} {s : Shared}
theorem compLoop_any {elt target iter : Expr} {scope : Scope} {pos : Pos} {it acc : Value} {env : Env} (J : Nat → Shared → Prop)
    (turn : ∀ n s, J n s → wpAny (model prog w) A (pyNext it) (fun r s₁ => match r with
      | none => R (.ok .next) s₁
      | some v => wpAny (model prog w) A (letOwnedTupleGo target it v) (fun _ s₂ => wpAny (model prog w) A (assign target env v) (fun _ s₃ => wpAny (model prog w) A (eval elt env) (fun x s₄ =>
              wpAny (model prog w) A (call (.builtin "list.append") [acc, x]) (fun _ s₅ => ∃ m, m < n ∧ J m s₅) (fun _ _ => False) s₄) (fun _ _ => False) s₃) (fun _ _ => False) s₂) (fun _ _ => False) s₁) (fun _ _ => False) s)
    (n : Nat) (h : J n s) : codeAny (model prog w) A (.compLoop (.ListComp elt [⟨target, iter, [], 0⟩] scope pos) 0 it acc env) R s := by
  refine codeAny_loop rfl J (fun n s hI => ?_) n h
  show wpAny _ A ((compTurn (.ListComp elt [⟨target, iter, [], 0⟩] scope pos) 0 it acc env).onRaise (fun x => do noteFrame x env; theTreesLotGoes x)) _ _ s
  refine wpAny_noted ?_
  rw [compTurn_list1]
  refine wpAny_bind (wpAny_standAt (wpAny_bind (wpAny_mono (turn n s hI) (fun r s₁ h₁ => ?_) fun _ _ h' => h'.elim)))
  cases r with
  | none => exact wpAny_pure h₁
  | some v =>
    refine wpAny_bind (wpAny_mono h₁ (fun _ s₂ h₂ => wpAny_bind (wpAny_mono h₂ (fun _ s₃ h₃ => ?_) fun _ _ h' => h'.elim)) fun _ _ h' => h'.elim)
    exact wpAny_bind (wpAny_bind (wpAny_mono h₃ (fun x s₄ h₄ => wpAny_bind (wpAny_mono h₄ (fun _ s₅ h₅ => wpAny_pure (wpAny_pure ⟨rfl, h₅⟩)) fun _ _ h' => h'.elim)) fun _ _ h' => h'.elim))
end
theorem closure_ok {scope : Scope} {env : Env} (h : ∀ y ∈ scope.names, y.2 = .free → ∃ c, env.cells.lookup y.1 = some c) :
    ∃ cl, closureFor scope env = pure cl ∧ (∀ y c, (y, c) ∈ cl → env.cells.lookup y = some c ∧ (y, NameKind.free) ∈ scope.names) ∧ ∀ y, (y, NameKind.free) ∈ scope.names → ∃ c, (y, c) ∈ cl := by
  have gen : ∀ (names : List (Str × NameKind)) (acc : List (Str × Addr)), (∀ y ∈ names, y.2 = .free → ∃ c, env.cells.lookup y.1 = some c) →
      ∃ cl, (forIn names acc fun (x : Str × NameKind) (cs : List (Str × Addr)) => (if (x.2 == NameKind.free) = true then do let a ← cellOf env x.1; pure (ForInStep.yield ((x.1, a) :: cs)) else pure (ForInStep.yield cs) : Sem _)) = pure cl ∧
        (∀ y c, (y, c) ∈ cl → (env.cells.lookup y = some c ∧ (y, NameKind.free) ∈ names) ∨ (y, c) ∈ acc) ∧ (∀ p ∈ acc, p ∈ cl) ∧ ∀ y, (y, NameKind.free) ∈ names → ∃ c, (y, c) ∈ cl := by
    intro names
    induction names with
    | nil => intro acc _; exact ⟨acc, by rw [List.forIn_nil], fun y c m => .inr m, fun p hp => hp, fun y m => nomatch m⟩
    | cons x r ih =>
      intro acc hc
      obtain ⟨n, k⟩ := x
      by_cases hk : k = .free
      · subst hk
        obtain ⟨c, ec⟩ := hc (n, .free) List.mem_cons_self rfl
        obtain ⟨cl, e, h1, h2, h3⟩ := ih ((n, c) :: acc) fun y hy => hc y (List.mem_cons_of_mem _ hy)
        refine ⟨cl, ?_, fun y d m => ?_, fun p hp => h2 p (List.mem_cons_of_mem _ hp), fun y m => ?_⟩
        · rw [List.forIn_cons, ← e]
          have ecell : cellOf env n = pure c := by unfold cellOf; rw [ec]
          simp only [beq_self_eq_true, if_true, ecell, pure_bind]
        · rcases h1 y d m with ⟨a, b⟩ | b
          · exact .inl ⟨a, List.mem_cons_of_mem _ b⟩
          · rcases List.mem_cons.mp b with z | z
            · cases z; exact .inl ⟨ec, List.mem_cons_self⟩
            · exact .inr z
        · rcases List.mem_cons.mp m with z | z
          · cases z; exact ⟨c, h2 _ List.mem_cons_self⟩
          · exact h3 y z
      · obtain ⟨cl, e, h1, h2, h3⟩ := ih acc fun y hy => hc y (List.mem_cons_of_mem _ hy)
        have hb : (k == NameKind.free) = false := by simpa using hk
        refine ⟨cl, ?_, fun y d m => ?_, h2, fun y m => ?_⟩
        · rw [List.forIn_cons, ← e]
          simp only [hb, Bool.false_eq_true, if_false, pure_bind]
        · rcases h1 y d m with ⟨a, b⟩ | b
          · exact .inl ⟨a, List.mem_cons_of_mem _ b⟩
          · exact .inr b
        · rcases List.mem_cons.mp m with z | z
          · cases z; exact absurd rfl hk
          · exact h3 y z
  obtain ⟨cl, e, h1, _, h3⟩ := gen scope.names [] h
  refine ⟨cl, ?_, fun y c m => (h1 y c m).elim id (fun z => nomatch z), h3⟩
  have e2 : closureFor scope env = ((forIn scope.names ([] : List (Str × Addr)) fun (x : Str × NameKind) (cs : List (Str × Addr)) => (if (x.2 == NameKind.free) = true then do let a ← cellOf env x.1; pure (ForInStep.yield ((x.1, a) :: cs)) else pure (ForInStep.yield cs) : Sem _)) >>= fun r => pure r) := rfl
  rw [e2, e]
  rfl
theorem lookup_mem {α : Type} {l : List (Str × α)} {y : Str} {c : α} (h : (y, c) ∈ l) : ∃ d, l.lookup y = some d := by
  induction l with
  | nil => cases h
  | cons p r ih =>
    obtain ⟨k, v⟩ := p
    rw [List.lookup_cons]
    cases hb : y == k with
    | true => exact ⟨v, rfl⟩
    | false =>
      rcases List.mem_cons.mp h with z | z
      · cases z; simp at hb
      · exact ih z
theorem cellsFrom_look : ∀ (names : List (Str × NameKind)) (n : Nat) (acc : List (Str × Addr)) {x : Str} {c : Addr}, (cellsFrom n names acc).lookup x = some c → n ≤ c ∨ acc.lookup x = some c
  | [], _, _, _, _, h => .inr h
  | (name, kind) :: r, n, acc, x, c, h => by
    unfold cellsFrom at h
    split at h
    · rcases cellsFrom_look r (n + 1) _ h with z | z
      · exact .inl (by omega)
      · rw [List.lookup_cons] at z
        cases hb : x == name with
        | true => rw [hb] at z; cases z; exact .inl (Nat.le_refl _)
        | false => rw [hb] at z; exact .inr z
    · exact cellsFrom_look r n acc h
theorem cellsFrom_low : ∀ (names : List (Str × NameKind)) (n n0 : Nat) (acc : List (Str × Addr)) {x : Str} {c : Addr}, n0 ≤ n → (∀ d, acc.lookup x = some d → n0 ≤ d) → (cellsFrom n names acc).lookup x = some c → n0 ≤ c := by
  intro names n n0 acc x c hn ha h
  rcases cellsFrom_look names n acc h with z | z
  · omega
  · exact ha c z
theorem cellsFrom_own : ∀ (names : List (Str × NameKind)) (n : Nat) (acc : List (Str × Addr)) {x : Str} {c : Addr}, (x, NameKind.cell) ∈ names → (cellsFrom n names acc).lookup x = some c → n ≤ c
  | [], _, _, _, _, m, _ => nomatch m
  | (name, kind) :: r, n, acc, x, c, m, h => by
    unfold cellsFrom at h
    rcases List.mem_cons.mp m with z | z
    · cases z
      rw [if_pos (by rfl)] at h
      refine cellsFrom_low r (n + 1) n _ (by omega) (fun d hd => ?_) h
      rw [List.lookup_cons, beq_self_eq_true] at hd
      cases hd
      exact Nat.le_refl _
    · split at h
      · exact Nat.le_trans (Nat.le_succ _) (cellsFrom_own r (n + 1) _ z h)
      · exact cellsFrom_own r n acc z h
theorem cellsFrom_keep : ∀ (names : List (Str × NameKind)) (n : Nat) (acc : List (Str × Addr)) {x : Str}, (∃ c, acc.lookup x = some c) → ∃ c, (cellsFrom n names acc).lookup x = some c
  | [], _, _, _, h => h
  | (name, kind) :: r, n, acc, x, h => by
    unfold cellsFrom
    split
    · refine cellsFrom_keep r (n + 1) _ ?_
      rw [List.lookup_cons]
      cases x == name with
      | true => exact ⟨_, rfl⟩
      | false => exact h
    · exact cellsFrom_keep r n acc h
theorem cellsFrom_has : ∀ (names : List (Str × NameKind)) (n : Nat) (acc : List (Str × Addr)) {x : Str}, (x, NameKind.cell) ∈ names → ∃ c, (cellsFrom n names acc).lookup x = some c
  | [], _, _, _, m => nomatch m
  | (name, kind) :: r, n, acc, x, m => by
    unfold cellsFrom
    rcases List.mem_cons.mp m with z | z
    · cases z
      rw [if_pos (by rfl)]
      refine cellsFrom_keep r (n + 1) _ ⟨n, ?_⟩
      rw [List.lookup_cons, beq_self_eq_true]
    · split
      · exact cellsFrom_has r (n + 1) _ z
      · exact cellsFrom_has r n acc z
theorem cellsFrom_old : ∀ (names : List (Str × NameKind)) (n : Nat) (acc : List (Str × Addr)) {x : Str}, (x, NameKind.cell) ∉ names → (cellsFrom n names acc).lookup x = acc.lookup x
  | [], _, _, _, _ => rfl
  | (name, kind) :: r, n, acc, x, m => by
    have m2 : (x, NameKind.cell) ∉ r := fun z => m (List.mem_cons_of_mem _ z)
    unfold cellsFrom
    split
    · rename_i hk
      rw [cellsFrom_old r (n + 1) _ m2, List.lookup_cons]
      cases hb : x == name with
      | true =>
        have e1 := beq_iff_eq.mp hb
        have e2 : kind = NameKind.cell := by simpa using hk
        subst e1 e2
        exact absurd List.mem_cons_self m
      | false => rfl
    · exact cellsFrom_old r n acc m2
theorem cellsFrom_inj : ∀ (names : List (Str × NameKind)) (n : Nat) (acc : List (Str × Addr)), (∀ x y c, acc.lookup x = some c → acc.lookup y = some c → x = y) → (∀ x c, acc.lookup x = some c → c < n) →
    ∀ x y c, (cellsFrom n names acc).lookup x = some c → (cellsFrom n names acc).lookup y = some c → x = y
  | [], _, _, h, _ => h
  | (name, kind) :: r, n, acc, h, hlt => by
    intro x y c hx hy
    unfold cellsFrom at hx hy
    split at hx
    · rename_i hk
      rw [if_pos hk] at hy
      refine cellsFrom_inj r (n + 1) _ (fun x y c hx hy => ?_) (fun x c hx => ?_) x y c hx hy
      · rw [List.lookup_cons] at hx hy
        cases hb : x == name with
        | true =>
          cases hb2 : y == name with
          | true => rw [beq_iff_eq.mp hb, beq_iff_eq.mp hb2]
          | false =>
            rw [hb] at hx; rw [hb2] at hy
            cases hx
            exact absurd (hlt _ _ hy) (Nat.lt_irrefl _)
        | false =>
          cases hb2 : y == name with
          | true =>
            rw [hb] at hx; rw [hb2] at hy
            cases hy
            exact absurd (hlt _ _ hx) (Nat.lt_irrefl _)
          | false =>
            rw [hb] at hx; rw [hb2] at hy
            exact h x y c hx hy
      · rw [List.lookup_cons] at hx
        cases hb : x == name with
        | true => rw [hb] at hx; cases hx; exact Nat.lt_succ_self _
        | false => rw [hb] at hx; exact Nat.lt_succ_of_lt (hlt _ _ hx)
    · rename_i hk
      rw [if_neg hk] at hy
      exact cellsFrom_inj r n acc h hlt x y c hx hy
theorem cells_there : ∀ (names : List (Str × NameKind)) (h : Heap) (acc : List (Str × Addr)), (∀ x c, acc.lookup x = some c → ∃ v, h.IsCell c v) → ∀ x c, (cellsFrom h.objs.size names acc).lookup x = some c → ∃ v, (pushCells h names).IsCell c v
  | [], _, _, ha => ha
  | (name, kind) :: r, h, acc, ha => by
    intro x c hx
    unfold cellsFrom at hx
    unfold pushCells
    split at hx
    · rename_i hk
      rw [if_pos hk]
      have q := cells_there r (h.push { cls := .type "cell", data := .cell none }) ((name, h.objs.size) :: acc) (fun x c hx => by
        rw [List.lookup_cons] at hx
        cases hb : x == name with
        | true => rw [hb] at hx; cases hx; exact ⟨none, _, Heap.get?_push_size _ rfl, rfl⟩
        | false =>
          rw [hb] at hx
          obtain ⟨v, z⟩ := ha x c hx
          exact ⟨v, z.keeps fun b o e => Heap.get?_push_of_some _ e⟩) x c
      rw [Heap.size_push] at q
      exact q hx
    · rename_i hk
      rw [if_neg hk]
      exact cells_there r h acc ha x c hx
def cxComp (X : Cx) (N2 : List Str) (scope : Scope) (cl : List (Str × Addr)) (s₂ : Shared) (H₂ : Hp) (fp : List Addr) : Cx where
  prog := X.prog
  w := X.w
  K := X.K
  mg := X.mg
  base := X.base
  A := X.A
  N := N2
  s₀ := s₂
  H₀ := H₂
  env := { scope := relabel scope X.env, locals := s₂.heap.objs.size, globals := X.env.globals, cells := cellsFrom (s₂.heap.objs.size + 1) scope.names cl, qual := X.env.qual, func := none, code := X.env.code, frame := X.env.frame, builtins := X.env.builtins }
  outer := X.stack
  stack := X.stack
  ex := fp
  fn := fun x => decide (scope.names.lookup x = some .cell)
  calm := X.calm
  pn := []
  xe := fun _ _ => False
def compOk (XN : List Str) (xn sn : List (Str × NameKind)) (N2 : List Str) (ix : List (Option Nat)) : Bool :=
  (ix.length == N2.length) &&
  ((ix.zip N2).all fun p => match p.1 with
    | none => true
    | some j => XN[j]? == some p.2 && sn.lookup p.2 == some .free && (xn.lookup p.2 == some .cell || xn.lookup p.2 == some .free)) &&
  (sn.all fun y => y.2 != .free || (xn.lookup y.1 == some .cell || xn.lookup y.1 == some .free)) &&
  (sn.all fun y => y.2 != .local || sn.lookup y.1 == some .local) &&
  (sn.all fun y => y.2 != .free || sn.all fun z => z.2 != .cell || z.1 != y.1)
theorem relabel_mem {scope : Scope} {env : Env} {x : Str} {k : NameKind} (h : (relabel scope env).names.lookup x = some k) (hk : k = .cell ∨ k = .free) : (x, NameKind.cell) ∈ scope.names ∨ (x, NameKind.free) ∈ scope.names := by
  have m := PySem.mem_of_lookup h
  obtain ⟨y, hy, e⟩ := List.mem_map.mp m
  obtain ⟨n, k0⟩ := y
  dsimp only at e
  split at e
  · rename_i hc
    cases e
    have h1 : k0 = NameKind.free := by
      have := (Bool.and_eq_true_iff.mp (Bool.and_eq_true_iff.mp hc).1).1
      simpa using this
    subst h1
    exact .inr hy
  · cases e
    rcases hk with rfl | rfl
    · exact .inl hy
    · exact .inr hy
theorem relabel_free {scope : Scope} {env : Env} : ∀ {x : Str}, scope.names.lookup x = some .free → (relabel scope env).names.lookup x = some .cell ∨ (relabel scope env).names.lookup x = some .free := by
  intro x h
  have gen : ∀ (l : List (Str × NameKind)), l.lookup x = some .free → (l.map fun (n, k) => if (k == NameKind.free && env.scope.kind == .function && env.kindOf n == some .cell) then (n, NameKind.cell) else (n, k)).lookup x = some .cell ∨
      (l.map fun (n, k) => if (k == NameKind.free && env.scope.kind == .function && env.kindOf n == some .cell) then (n, NameKind.cell) else (n, k)).lookup x = some .free := by
    intro l
    induction l with
    | nil => intro h; cases h
    | cons p r ih =>
      intro h
      obtain ⟨n, k⟩ := p
      rw [List.lookup_cons] at h
      rw [List.map_cons]
      dsimp only
      cases hb : x == n with
      | true =>
        rw [hb] at h
        cases h
        split
        · rw [List.lookup_cons, hb]; exact .inl rfl
        · rw [List.lookup_cons, hb]; exact .inr rfl
      | false =>
        rw [hb] at h
        split
        · rw [List.lookup_cons, hb]; exact ih h
        · rw [List.lookup_cons, hb]; exact ih h
  exact gen scope.names h
theorem comp_enter {X : Cx} {pins : List (Addr × Obj)} {σ σ2 : St} {H : Hp} {s : Shared} {N2 : List Str} {scope : Scope} {cl : List (Str × Addr)} {fp : List Addr} (I : Inv X pins σ H s) (hk : scope.kind = .function)
    (hcl1 : ∀ y c, (y, c) ∈ cl → X.env.cells.lookup y = some c) (hcl2 : ∀ y, (y, NameKind.free) ∈ scope.names → ∃ c, (y, c) ∈ cl) (hfp : ∀ b ∈ fp, FpOk X pins H b) (hfo : ∀ b ∈ fp, b < s.heap.objs.size) (hl : σ2.length = N2.length)
    (hσ : ∀ (i : Nat) (x : Str) (v : V), N2[i]? = some x → σ2[i]? = some (some v) → scope.names.lookup x = some .free ∧ (X.env.kindOf x = some .cell ∨ X.env.kindOf x = some .free) ∧ ∃ j : Nat, X.N[j]? = some x ∧ σ[j]? = some (some v))
    (hd : ∀ x, (x, NameKind.free) ∈ scope.names → (x, NameKind.cell) ∉ scope.names) :
    Inv (cxComp X N2 scope cl s H fp) [] σ2 H { s with heap := pushCells (s.heap.push { cls := .type "dict", data := .dict #[] }) scope.names } := by
  have keeps : ∀ b o, s.heap.get? b = some o → (pushCells (s.heap.push { cls := .type "dict", data := .dict #[] }) scope.names).get? b = some o := fun b o e => pushCells_keeps _ _ b o (Heap.get?_push_of_some _ e)
  have hsz : (s.heap.push { cls := .type "dict", data := .dict #[] }).objs.size = s.heap.objs.size + 1 := Heap.size_push ..
  have clook : ∀ x c, cl.lookup x = some c → X.env.cells.lookup x = some c := fun x c e => hcl1 x c (PySem.mem_of_lookup e)
  have clt : ∀ x c, cl.lookup x = some c → c < s.heap.objs.size := fun x c e => by
    obtain ⟨v, z⟩ := I.cell x c (clook x c e)
    exact z.lt
  have there := cells_there scope.names (s.heap.push { cls := .type "dict", data := .dict #[] }) cl (fun x c e => by
    obtain ⟨v, z⟩ := I.cell x c (clook x c e)
    exact ⟨v, z.keeps fun b o e => Heap.get?_push_of_some _ e⟩)
  rw [hsz] at there
  have cells : ∀ x c, (cellsFrom (s.heap.objs.size + 1) scope.names cl).lookup x = some c → s.heap.objs.size + 1 ≤ c ∨ X.env.cells.lookup x = some c := fun x c e => by
    rcases cellsFrom_look _ _ _ e with z | z
    · exact .inl z
    · exact .inr (clook x c z)
  have okY : (cxComp X N2 scope cl s H fp).Ok := by
    refine ⟨I.ok.mod, hk, I.ok.glob, I.ok.blt, Nat.le_refl _, ?_, ?_, ?_, I.ok.hd, I.ok.frames, .inl rfl, ?_, I.bs, Nat.le_trans I.ok.bsz I.sz, ?_, ?_, I.stack, I.stkFree⟩
    · exact cellsFrom_inj _ _ _ (fun x y c hx hy => I.ok.inj x y c (clook x c hx) (clook y c hy)) fun x c e => Nat.lt_succ_of_lt (clt x c e)
    · intro x hx
      have m : (x, NameKind.cell) ∈ scope.names ∨ (x, NameKind.free) ∈ scope.names := by
        rcases hx with z | z
        · exact relabel_mem z (.inl rfl)
        · exact relabel_mem z (.inr rfl)
      rcases m with m | m
      · exact cellsFrom_has _ _ _ m
      · obtain ⟨c, mc⟩ := hcl2 x m
        exact cellsFrom_keep _ _ _ (lookup_mem mc)
    · intro x c hf e
      have hf' : scope.names.lookup x = some .cell := of_decide_eq_true hf
      exact Nat.le_trans (Nat.le_succ _) (cellsFrom_own _ _ _ (PySem.mem_of_lookup hf') e)
    · intro b hb
      refine ⟨Nat.ne_of_lt (hfo b hb), fun x c e z => ?_⟩
      have hlt := hfo b hb
      rcases cells x c e with k | k
      · exact absurd (Nat.lt_of_lt_of_le hlt (Nat.le_trans (Nat.le_succ _) (z ▸ k))) (Nat.lt_irrefl _)
      · exact (hfp b hb).2.2.2.2.1 x c k z
    · intro b o e hb
      rcases (hfp b hb).2.2.2.1 with z | z
      · exact I.ok.noex b o e z
      · exact absurd (Nat.lt_of_lt_of_le (Heap.lt_size (I.ok.bs b o e).1) z) (Nat.lt_irrefl _)
    · intro b hb hbs
      rcases List.mem_cons.mp (I.stkSub b hbs) with z | z
      · exact (hfp b hb).2.1 z
      · exact (hfp b hb).2.2.1 z
  refine ⟨okY, rfl, I.bare, Un.kept keeps, ?_, there, I.hok.fresh (Nat.le_refl _), ?_, (fun p hp => nomatch hp), I.hok.kept keeps, hl⟩
  · refine ⟨fun _ => none, (Heap.Ns.new s.heap (.type "dict")).keeps (pushCells_keeps _ _), fun i x v e1 e2 _ => ?_⟩
    obtain ⟨hf, hx, j, j1, j2⟩ := hσ i x v e1 e2
    obtain ⟨m, _, hloc⟩ := I.loc
    have hv : Vis X.env.scope x := hx.elim (fun z => .inr (.inl z)) fun z => .inr (.inr z)
    obtain ⟨u, r, lk⟩ := hloc j x v j1 j2 hv
    refine ⟨u, r, .inr ⟨relabel_free hf, ?_⟩⟩
    rcases lk with ⟨k, _⟩ | ⟨_, c, ec, ic⟩
    · rcases hx with z | z <;> rw [z] at k <;> cases k
    · refine ⟨c, ?_, ic.keeps keeps⟩
      have mf := PySem.mem_of_lookup hf
      show (cellsFrom (s.heap.objs.size + 1) scope.names cl).lookup x = some c
      rw [cellsFrom_old _ _ _ (hd x mf)]
      obtain ⟨c', mc⟩ := hcl2 x mf
      obtain ⟨d, ed⟩ := lookup_mem mc
      rw [ed]
      have := clook x d ed
      rw [ec] at this
      exact this.symm
  · intro x c e
    rcases cells x c e with k | k
    · exact I.hok.fresh (by omega)
    · exact I.freeC x c k
section
variable {X : Cx}
def CompG (J : It) (g : TG) (te : TE) (acc : Addr) (σ₀ : St) (H : Hp) (Q : VK) : Prop := ∃ W : Nat → Nat → St → Hp → Prop,
  (∃ m, W 0 m σ₀ (upd H acc (.lst []))) ∧ ∀ i m σ2 H2, W i m σ2 H2 →
    (J.stop i H2 ∧ Q (.ref acc) H2) ∨ (J.go i H2 ∧ ∃ (S : St → Prop) (N : V → Hp → Prop), (∀ σ3 v H4, S σ3 → N v H4 → ∃ xs, H4 acc = some (.lst xs) ∧ xs.length < sizeLine ∧ ∃ m', m' < m ∧ W (i + 1) m' σ3 (upd H4 acc (.lst (xs ++ [v])))) ∧ ∀ x H', J.yld i H2 x H' → g x σ2 H' fun σ3 H3 => S σ3 ∧ te σ3 H3 N)
def tComp (wi : TI) (ix : List (Option Nat)) (g : TG) (te : TE) : TE := fun σ H Q => wi σ H fun J H1 => ∀ acc, H1 acc = none → CompG J g te acc (ix.map fun o => o.bind fun j => (σ[j]?).join) H1 Q
theorem compOk_use {XN : List Str} {xn sn : List (Str × NameKind)} {N2 : List Str} {ix : List (Option Nat)} (h : compOk XN xn sn N2 ix = true) :
    ix.length = N2.length ∧ (∀ (i : Nat) (x : Str) (j : Nat), N2[i]? = some x → ix[i]? = some (some j) → XN[j]? = some x ∧ sn.lookup x = some .free ∧ (xn.lookup x = some .cell ∨ xn.lookup x = some .free)) ∧
    (∀ y ∈ sn, y.2 = .free → xn.lookup y.1 = some .cell ∨ xn.lookup y.1 = some .free) ∧ (∀ y ∈ sn, y.2 = .local → sn.lookup y.1 = some .local) ∧ ∀ x, (x, NameKind.free) ∈ sn → (x, NameKind.cell) ∉ sn := by
  unfold compOk at h
  obtain ⟨h, h5⟩ := Bool.and_eq_true_iff.mp h
  obtain ⟨h, h4⟩ := Bool.and_eq_true_iff.mp h
  obtain ⟨h, h3⟩ := Bool.and_eq_true_iff.mp h
  obtain ⟨h1, h2⟩ := Bool.and_eq_true_iff.mp h
  have e1 : ix.length = N2.length := by simpa using h1
  refine ⟨e1, fun i x j a b => ?_, fun y hy e => ?_, fun y hy e => ?_, fun x m1 m2 => ?_⟩
  · have m : (some j, x) ∈ ix.zip N2 := by
      refine List.mem_of_getElem? (i := i) ?_
      rw [List.getElem?_zip_eq_some]
      exact ⟨b, a⟩
    have q := List.all_eq_true.mp h2 _ m
    dsimp only at q
    obtain ⟨q, q3⟩ := Bool.and_eq_true_iff.mp q
    obtain ⟨q1, q2⟩ := Bool.and_eq_true_iff.mp q
    exact ⟨by simpa using q1, by simpa using q2, (Bool.or_eq_true_iff.mp q3).imp (fun z => by simpa using z) fun z => by simpa using z⟩
  · have q := List.all_eq_true.mp h3 y hy
    rcases Bool.or_eq_true_iff.mp q with z | z
    · rw [e] at z; simp at z
    · exact (Bool.or_eq_true_iff.mp z).imp (fun z => by simpa using z) fun z => by simpa using z
  · have q := List.all_eq_true.mp h4 y hy
    rcases Bool.or_eq_true_iff.mp q with z | z
    · rw [e] at z; simp at z
    · simpa using z
  · have q := List.all_eq_true.mp h5 _ m1
    rcases Bool.or_eq_true_iff.mp q with z | z
    · simp at z
    · have q2 := List.all_eq_true.mp z _ m2
      simp at q2
theorem comp_block {tg iter elt : Expr} {scope : Scope} {pos : Pos} {N2 : List Str} {ix : List (Option Nat)} {g : TG} {te : TE} {cl : List (Str × Addr)} {pins : List (Addr × Obj)} {σ : St} {H : Hp} {s : Shared} {E : Value → Shared → Prop} {Q : VK}
    {RR : Value → Addr → Result → Shared → Prop} (hc : X.calm = true) (hg : ∀ cl s₂ H₂ fp, PG (cxComp X N2 scope cl s₂ H₂ fp) tg g) (he : ∀ cl s₂ H₂ fp, PE (cxComp X N2 scope cl s₂ H₂ fp) elt te)
    (hk : scope.kind = .function) (hn : compOk X.N X.env.scope.names scope.names N2 ix = true)
    (hcl1 : ∀ y c, (y, c) ∈ cl → X.env.cells.lookup y = some c) (hcl2 : ∀ y, (y, NameKind.free) ∈ scope.names → ∃ c, (y, c) ∈ cl)
    {it : Addr} {fp : List Addr} {tn : Nat → Heap → Prop} {J : It} (I : Inv X pins σ H s) (T : Turn X.prog X.w X.K tg J fp it tn) (st : tn 0 s.heap) (f : ∀ b ∈ fp, FpOk X pins H b)
    (h : ∀ acc, H acc = none → CompG J g te acc (ix.map fun o => o.bind fun j => (σ[j]?).join) H Q)
    (hR : ∀ acc C H' s' m, Inv X pins σ H' s' → s'.heap.Ns C m → H' C = none → C ≠ X.env.locals → X.s₀.heap.objs.size ≤ C → (∀ x c, X.env.cells.lookup x = some c → c ≠ C) → (∀ p ∈ X.pn ++ pins, p.1 ≠ C) → Q (.ref acc) H' → RR (.ref acc) C (.ok .next) s') :
    wpAny (model X.prog X.w) X.A (newList []) (fun acc s₃ => wpAny (model X.prog X.w) X.A (newFunctionEnv scope X.env.globals cl [] X.env.qual none .none (some X.env)) (fun cenv s₄ =>
      codeAny (model X.prog X.w) X.A (.compStart (.ListComp elt [⟨tg, iter, [], 0⟩] scope pos) 0 (.ref it) acc { cenv with scope := relabel scope X.env }) (RR acc cenv.locals) s₄) E s₃) E s := by
  obtain ⟨k1, k2, k3, k4, k5⟩ := compOk_use hn
  refine wpAny_newObj_type ?_
  have I3 : Inv X pins σ (upd H s.heap.objs.size (.lst [])) { s with heap := s.heap.push { cls := .type "list", data := .seq ([] : List Value).toArray } } :=
    I.laid (a := s.heap.objs.size) (o := .lst []) (t' := s.toks) (fun _ _ q => Heap.get?_push_of_some _ q) (Nat.le_refl _) ⟨Nat.zero_le _, [], _, .nil, Heap.get?_push_size _ rfl⟩
  obtain ⟨W, ⟨m0, w0⟩, turn⟩ := h s.heap.objs.size I.fresh
  have fo : ∀ b ∈ fp, b < s.heap.objs.size := fun b hb => by
    obtain ⟨o, e, _⟩ := T.obj 0 _ st b hb
    exact Heap.lt_size e
  have st3 : tn 0 (s.heap.push { cls := .type "list", data := .seq ([] : List Value).toArray }) := T.keep _ _ _ st fun b _ o e => Heap.get?_push_of_some _ e
  have f3 : ∀ b ∈ fp, FpOk X pins (upd H s.heap.objs.size (.lst [])) b := fun b hb => ⟨by rw [upd_ne (Nat.ne_of_lt (fo b hb))]; exact (f b hb).1, (f b hb).2⟩
  have fo3 : ∀ b ∈ fp, b < (s.heap.push { cls := .type "list", data := .seq ([] : List Value).toArray }).objs.size := fun b hb => by rw [Heap.size_push]; exact Nat.lt_succ_of_lt (fo b hb)
  generalize es3 : ({ s with heap := s.heap.push { cls := .type "list", data := .seq ([] : List Value).toArray } } : Shared) = s3 at *
  have eh3 : s3.heap = s.heap.push { cls := .type "list", data := .seq ([] : List Value).toArray } := by rw [← es3]
  rw [← eh3] at st3 fo3
  generalize s.heap.objs.size = acc at *
  generalize eH3 : upd H acc (.lst []) = H3 at *
  have IY := comp_enter (N2 := N2) (scope := scope) (cl := cl) (fp := fp) (σ2 := ix.map fun o => o.bind fun j => (σ[j]?).join) I3 hk hcl1 hcl2 f3 fo3 (by rw [List.length_map]; exact k1) (fun i x v e1 e2 => by
    rw [List.getElem?_map] at e2
    cases ei : ix[i]? with
    | none => rw [ei] at e2; cases e2
    | some o =>
      rw [ei] at e2
      cases o with
      | none => cases e2
      | some j =>
        obtain ⟨a1, a2, a3⟩ := k2 i x j e1 ei
        refine ⟨a2, a3, j, a1, ?_⟩
        have e3 : (σ[j]?).join = some v := Option.some.inj e2
        cases ej : σ[j]? with
        | none => rw [ej] at e3; cases e3
        | some z => rw [ej] at e3; exact congrArg some e3) k5
  have ne : wpAny (model X.prog X.w) X.A (newFunctionEnv scope X.env.globals cl [] X.env.qual none .none (some X.env)) (fun cenv s₄ =>
      cenv = { scope := scope, locals := s3.heap.objs.size, globals := X.env.globals, cells := cellsFrom (s3.heap.objs.size + 1) scope.names cl, qual := X.env.qual, func := none, code := X.env.code, frame := X.env.frame, builtins := X.env.builtins } ∧
      s₄ = { s3 with heap := pushCells (s3.heap.push { cls := .type "dict", data := .dict #[] }) scope.names }) E s3 := by
    simp only [newFunctionEnv, Option.isSome_some, if_true]
    refine wpAny_bind (wpAny_alloc ?_)
    refine wpAny_bind (wpAny_layCells _ (fun name kind cells => by cases hkc : kind == NameKind.cell <;> simp [hkc]) _ _ _ _ ?_)
    rw [List.forIn_nil]
    refine wpAny_bind (wpAny_pure (wpAny_pure ⟨?_, rfl⟩))
    rw [show ({ s3 with heap := s3.heap.push { cls := .type "dict", data := .dict #[] } } : Shared).heap.objs.size = s3.heap.objs.size + 1 from Heap.size_push ..]
  refine thn ne fun cenv s4 ⟨e1, e2⟩ => ?_
  subst e1 e2
  have stY : tn 0 (pushCells (s3.heap.push { cls := .type "dict", data := .dict #[] }) scope.names) := T.keep _ _ _ st3 fun b _ o e => pushCells_keeps _ _ b o (Heap.get?_push_of_some _ e)
  have hHC : s3.heap.objs.size ≠ X.env.locals := Nat.ne_of_gt I3.lt
  have stat : ∀ {H' : Hp}, (∀ b ∈ fp, H' b = none) → ∀ b ∈ fp, FpOk (cxComp X N2 scope cl s3 H3 fp) [] H' b := fun {H'} hn b hb =>
    ⟨hn b hb, (IY.ok.exf b hb).1, IY.ok.exfs b hb, .inl hb, (IY.ok.exf b hb).2, fun p hp => nomatch hp⟩
  have loop : codeAny (model X.prog X.w) X.A (.compLoop (.ListComp elt [⟨tg, iter, [], 0⟩] scope pos) 0 (.ref it) (.ref acc) (cxComp X N2 scope cl s3 H3 fp).env) (RR (.ref acc) s3.heap.objs.size)
      { s3 with heap := pushCells (s3.heap.push { cls := .type "dict", data := .dict #[] }) scope.names } := by
    refine compLoop_any (fun n s' => ∃ i σ' H', Inv (cxComp X N2 scope cl s3 H3 fp) [] σ' H' s' ∧ tn i s'.heap ∧ (∀ b ∈ fp, H' b = none) ∧ W i n σ' H') ?_ m0 ⟨0, _, H3, IY, stY, fun b hb => (f3 b hb).1, w0⟩
    rintro n s5 ⟨i, σ5, H5, I5, st5, fr5, w5⟩
    rcases turn i n σ5 H5 w5 with ⟨stop, qn⟩ | ⟨go, S, N, hSN, step⟩
    · refine thn (T.done (cxComp X N2 scope cl s3 H3 fp) rfl rfl rfl hc i [] s5 σ5 H5 (fun _ _ => False) I5 (stat fr5) st5 stop) fun r s6 ⟨hr, I6⟩ => ?_
      subst hr
      obtain ⟨m6, ns6, _⟩ := id I6.loc
      have IX : Inv X pins σ H5 s6 := I3.call' (ch := fp) I6.os I6.base I6.hok I6.bare fun b hb => ⟨(f3 b hb).2.2.2.1, (f3 b hb).2.1, (f3 b hb).2.2.2.2.1, (f3 b hb).2.2.2.2.2⟩
      refine hR acc s3.heap.objs.size H5 s6 m6 IX ns6 I6.free hHC I3.sz (fun x c e z => ?_) (fun p hp z => ?_) qn
      · obtain ⟨v, q⟩ := I3.cell x c e
        exact absurd q.lt (by rw [z]; exact Nat.lt_irrefl _)
      · exact absurd (Heap.lt_size (I3.pin p hp).1) (by rw [z]; exact Nat.lt_irrefl _)
    · refine thn (T.item (cxComp X N2 scope cl s3 H3 fp) rfl rfl rfl hc i [] s5 σ5 H5 (fun _ _ => False) I5 (stat fr5) st5 go) fun r s6 ⟨u, hr, h6⟩ => ?_
      subst hr
      refine thn h6 fun _ s7 ⟨x, H7, I7, r7, y7, st7, fr7⟩ => ?_
      have I7' := I7.pinned (stat fr7) (T.obj _ _ st7)
      refine thn (hg cl s3 H3 fp _ s7 σ5 H7 x u _ I7' r7 (step x H7 y7)) fun _ s8 ⟨σ8, H8, I8, hS8, q8⟩ => ?_
      refine thn (he cl s3 H3 fp _ s8 σ8 H8 _ I8 q8) fun y s9 ⟨v, H9, I9, r9, q9⟩ => ?_
      obtain ⟨xs, hxs, hxl, m', hm, w9⟩ := hSN σ8 v H9 hS8 q9
      refine thn (mt_append _ s9 σ8 H9 (.ref acc) [v] (.ref acc) [y] (fun z H10 => z = .non ∧ H10 = upd H9 acc (.lst (xs ++ [v]))) I9 rfl (.cons r9 .nil) ⟨acc, xs, v, rfl, rfl, hxs, hxl, rfl, rfl⟩) fun z s10 ⟨zv, H10, I10, r10, ez, eH⟩ => ?_
      subst eH
      refine ⟨m', hm, i + 1, σ8, _, I10.unpinned, T.keep _ _ _ st7 fun b hb o e => (I10.pin (b, o) (List.mem_append_right _ (List.mem_append_right _ (mem_pinsAt hb e)))).1, fun b hb => ?_, w9⟩
      obtain ⟨o, e, d⟩ := T.obj _ _ st7 b hb
      exact (I10.pin (b, o) (List.mem_append_right _ (List.mem_append_right _ (mem_pinsAt hb e)))).2.1
  exact codeAny_compStart_list loop (T.self _ 0 _ _ _ stY loop)
theorem pe_comp {tg iter elt : Expr} {scope : Scope} {pos : Pos} (N2 : List Str) (ix : List (Option Nat)) {wi : TI} {g : TG} {te : TE} (hc : X.calm = true) (hi : PI X tg iter wi)
    (hg : ∀ cl s₂ H₂ fp, PG (cxComp X N2 scope cl s₂ H₂ fp) tg g) (he : ∀ cl s₂ H₂ fp, PE (cxComp X N2 scope cl s₂ H₂ fp) elt te)
    (hk : scope.kind = .function) (hn : compOk X.N X.env.scope.names scope.names N2 ix = true) (hs : ∀ x, foldedSetIterable iter X.env x = pure x := by intro _; rfl) :
    PE X (.ListComp elt [⟨tg, iter, [], 0⟩] scope pos) (tComp wi ix g te) := by
  intro pins s σ H Q I h
  obtain ⟨k1, k2, k3, k4, k5⟩ := compOk_use hn
  obtain ⟨cl, ecl, c1, c2⟩ := closure_ok (scope := scope) (env := X.env) fun y hy e => I.ok.has y.1 (k3 y hy e)
  rw [eval_ListComp]
  refine wpAny_comprehension_free (use := none) rfl hs ecl hk k4 (thn (hi pins s σ H _ I h) fun v s1 h1 => thn h1 fun itv s2 h2 => ?_)
  obtain ⟨it, fp, tn, J, H2, e, I2, T, st2, f2, h2⟩ := h2
  subst e
  refine comp_block (RR := fun acc C => compPost (model X.prog X.w) X.A X.xe none (EP X pins σ Q) acc C) (Q := Q) hc hg he hk hn (fun y c m => (c1 y c m).1) c2 I2 T st2 f2 h2 ?_
  intro acc C H' s' m I' ns hHC hL hsz hcells hpins q
  exact ⟨m, ns, fun h' hs' => ⟨.ref acc, H', I'.turned (it := C) (t' := s'.toks) (fun b o hb e => (hs'.2 b hb).trans e) hHC hL (.inr hsz) hcells hpins, rfl, q⟩⟩
end
theorem comp_list {K : PySem.W.Frag} {a : Addr} {xs : List V} {k : Nat} {te : TE} {σ2 : St} {H : Hp} {acc : Addr} {Q : VK} (Pv : Nat → List V → Hp → Prop) (hn : xs.length ≤ 100000) (h0 : Pv 0 [] (upd H acc (.lst [])))
    (hl : ∀ (i : Nat) (out : List V) (H1 : Hp), i ≤ xs.length → H1 acc = some (.lst out) → Pv i out H1 → SqL K H1 a xs)
    (hs : ∀ (i : Nat) (x : V) (out : List V) (H1 : Hp), xs[i]? = some x → out.length = i → H1 acc = some (.lst out) → Pv i out H1 → te (σ2.set k (some x)) H1 fun v H4 => H4 acc = some (.lst out) ∧ Pv (i + 1) (out ++ [v]) (upd H4 acc (.lst (out ++ [v]))))
    (hd : ∀ (out : List V) (H1 : Hp), out.length = xs.length → H1 acc = some (.lst out) → Pv xs.length out H1 → Q (.ref acc) H1) :
    CompG (Itl K a) (gName k) te acc σ2 H Q := by
  refine ⟨fun i m σ' H' => m = xs.length - i ∧ i ≤ xs.length ∧ (∀ v, σ'.set k (some v) = σ2.set k (some v)) ∧ ∃ out, out.length = i ∧ H' acc = some (.lst out) ∧ Pv i out H', ⟨xs.length, by simp, Nat.zero_le _, fun _ => rfl, [], rfl, upd_same, h0⟩, ?_⟩
  rintro i m σ' H' ⟨rfl, hi, hσ, out, ho, ha, p⟩
  have q := hl i out H' hi ha p
  by_cases hlt : i < xs.length
  · refine .inr ⟨⟨xs, xs[i], q, by simp [hlt]⟩, fun σ3 => ∀ v, σ3.set k (some v) = σ2.set k (some v), fun v H4 => H4 acc = some (.lst out) ∧ Pv (i + 1) (out ++ [v]) (upd H4 acc (.lst (out ++ [v]))), fun σ3 v H4 hS ⟨a, b⟩ => ?_, fun x H1 y => ?_⟩
    · refine ⟨out, a, ?_, xs.length - (i + 1), by omega, rfl, hlt, hS, out ++ [v], by rw [List.length_append, ho]; rfl, upd_same, b⟩
      have : sizeLine = 16777216 := sizeLine_eq
      omega
    · obtain ⟨e, y⟩ := y
      subst e
      refine ⟨fun v => by rw [List.set_set]; exact hσ v, ?_⟩
      have q2 := hs i x out _ (y xs q) ho ha p
      rw [← hσ] at q2
      exact q2
  · have e : i = xs.length := by omega
    subst e
    exact .inl ⟨⟨xs, q, Nat.le_refl _⟩, hd out H' ho ha p⟩
theorem Same.upd_new {H H' : Hp} {p : Addr} (e : Same H H') (h : H p = none) (o : HO) : Same H (upd H' p o) := fun b u q => by rw [upd_ne (ne_of_none q h)]; exact e b u q
end L2
namespace L2
open PySem PySem.Spec PyProof.Rows
structure spLeast (vs : List V) (H : Hp) (Q : VK) (E : XK) : Prop where
  ex : ∃ t b : Int, vs = [.int t, .int b] ∧ 0 < b ∧ Jm.Sz 9000 b ∧ ∀ (r : Addr) (H' : Hp), Same H H' → H' r = some (ratO (Jm.fr t b)) → Q (.ref r) H'
theorem use_least {H : Hp} {Q : VK} {E : XK} {t b : Int} (h0 : 0 < b) (h1 : Jm.Sz 9000 b) (h : ∀ (r : Addr) (H' : Hp), Same H H' → H' r = some (ratO (Jm.fr t b)) → Q (.ref r) H') : spLeast [.int t, .int b] H Q E := ⟨t, b, rfl, h0, h1, h⟩
end L2
namespace L2
open PySem PySem.Spec PyProof.Rows
end L2
namespace L2
open PySem PySem.Spec PyProof.Rows
section
variable {X : Cx}
end
section
variable {X : Cx} (K : PySem.W.Frag)
theorem ix_tupK (hK : X.K = K := by rfl) : IxR X (rIxT K) := hK ▸ ix_tup
theorem ix_listK (hK : X.K = K := by rfl) : IxR X (rIxL K) := hK ▸ ix_list
theorem pi_listK {tg l : Expr} {tl : TE} (hl : PE X l tl) (hK : X.K = K := by rfl) : PI X tg l (iList K tl) := hK ▸ pi_list hl
theorem pi_tupK {tg l : Expr} {tl : TE} (hl : PE X l tl) (hK : X.K = K := by rfl) : PI X tg l (iTup K tl) := hK ▸ pi_tup hl
theorem op_eqDK (hu : X.A.units + 64 < cLine) (hK : X.K = K := by rfl) : OpR X (compareOp .Eq) (rEqD K) := hK ▸ op_eqD hu
theorem call_lenK (hK : X.K = K := by rfl) : CallR X (.builtin "len") (fun xs H Q => ∃ p ys, xs = [.ref p] ∧ (SqL K H p ys ∨ SqT K H p ys) ∧ Q (.int ys.length) H) := hK ▸ call_len_seq
theorem call_list_ofK (hK : X.K = K := by rfl) : CallR X (.type "list") (fun xs H Q => ∃ p ys, xs = [.ref p] ∧ (SqL K H p ys ∨ SqT K H p ys) ∧ ∀ l, H l = none → Q (.ref l) (upd H l (.lst ys))) := hK ▸ call_list_of
theorem call_isinstK (hK : X.K = K := by rfl) : CallR X (.builtin "isinstance") (fun xs H Q => ∃ x n t b, xs = [x, .ty n] ∧ TyOf K H x t ∧ PySem.W.kitOne K t (.type n) = some b ∧ Q (.bl b) H) := hK ▸ call_isinst
end
end L2
namespace L2
end L2
namespace L2
open PySem PySem.Spec PyProof.Rows
section
variable {X : Cx} {elts : List Expr} {kk : Nat} {tpos : Pos}
end
end L2
namespace L2
open PySem PySem.Spec PyProof.Rows
theorem pg_tupK (K : PySem.W.Frag) {X : Cx} {es : List Expr} {k : Nat} {t : TGs} {n : Nat} {pos : Pos} (hc : X.calm = true) (h : PGs X es t) (hK : X.K = K := by rfl)
    (hn : (assignEach es X.env).length = n := by rfl) (hst : (assignEach es X.env).findIdx? (·.1) = none := by rfl) : PG X (.Tuple es k pos) (gTup K n t) := hK ▸ pg_tup hc h hn hst
end L2
namespace L2
open PySem PySem.Spec PyProof.Rows
end L2
namespace L2
open PySem PySem.Spec PyProof.Rows
end L2
namespace L2
open PySem PySem.Spec PyProof.Rows
section
variable {X : Cx}
def tRev (K : PySem.W.Frag) (te ts : TE) : TE := fun σ H Q => te σ H fun x H1 => ts σ H1 fun y H2 => y = .int (-1) ∧ ∃ a xs, x = .ref a ∧ SqL K H2 a xs ∧ ∀ p, H2 p = none → Q (.ref p) (upd H2 p (.lst xs.reverse))
theorem pe_rev (K : PySem.W.Frag) {e st : Expr} {te ts : TE} {pos p2 : Pos} (he : PE X e te) (hst : PE X st ts) (hK : X.K = K := by rfl) : PE X (.Subscript e (.Slice none none (some st) p2) pos) (tRev K te ts) := by
  subst hK
  intro pins s σ H Q I h
  refine Subscript_ (thn (he pins s σ H _ I h) fun v s1 ⟨x, H1, I1, r1, q1⟩ => ?_)
  refine wpAny_Slice ?_
  rw [evalPart_none]
  refine wpAny_pure (wpAny_pure ?_)
  rw [evalPart_some]
  refine thn (hst pins s1 σ H1 _ I1 q1) fun w3 s3 ⟨y, H3, I3, r3, q3⟩ => ?_
  obtain ⟨ey, a, xs, rfl, hx, q⟩ := q3
  subst ey
  obtain ⟨t, rfl⟩ := r3
  cases r1
  have I4 : Inv X pins σ H3 { s3 with heap := s3.heap.push { cls := .type "slice", data := .fields #[.none, .none, .int (-1) t] } } := I3.kept (t' := s3.toks) fun b ob q => Heap.get?_push_of_some _ q
  obtain ⟨its, r, ht, hz⟩ := I4.list hx
  have hlen := r.length
  refine tail_any (ops := [.ref a, .ref s3.heap.objs.size]) ht.isList.typeIs slot_list_getitem.lookup ?_ (by with_unfolding_all rfl)
  refine wpAny_getItem_list_slice ht.isList (Heap.IsSliceOf.new ..) .none .none (.int (-1) t) (by decide) ?_ (by rw [List.size_toArray] <;> omega)
  rw [PySem.W.krv_pick]
  refine ⟨.ref _, _, I4.laid (t' := s3.toks) (o := .lst xs.reverse) (fun b ob q => Heap.get?_push_of_some _ q) (Nat.le_refl _) ?_, rfl, q _ I4.fresh⟩
  exact ⟨by rw [List.length_reverse]; exact hz, its.reverse, 0, r.reverse, Heap.get?_push_size _ rfl⟩
end
end L2
namespace L2
open PySem PySem.Spec PyProof.Rows
end L2
namespace L2
open PySem PySem.Spec PyProof.Rows
end L2
namespace L2
open PySem PySem.Spec PyProof.Rows
end L2
namespace L2
open PySem PySem.Spec PyProof.Rows
end L2
namespace L2
open PySem PySem.Spec PyProof.Rows
end L2
namespace L2
open PySem PySem.Spec PyProof.Rows
end L2
namespace L2
open PySem PySem.Spec PyProof.Rows
end L2
namespace L2
open PySem PySem.Spec PyProof.Rows
abbrev tx (cs : List Nat) : Str := ⟨cs.toArray⟩
theorem tx_eta (x : Str) : tx x.cps.toList = x := by cases x; rfl
theorem tx_length (cs : List Nat) : (tx cs).length = cs.length := by show cs.toArray.size = _; rw [List.size_toArray]
theorem tx_cat (a b : List Nat) : (tx a ++ tx b : Str) = tx (a ++ b) := by
  show (⟨a.toArray ++ b.toArray⟩ : Str) = _
  simp [tx]
section
variable {X : Cx} {tg : Expr}
end
def inS (signs : Str) (c : Nat) : Bool := !(Builtin.Str.occurrences signs (tx [c]) 0 signs.length 1).isEmpty
def nmL (c : Int) (n : Nat) : List Nat := (List.range n).map fun i => 97 + ((c / 26 ^ i) % 26).toNat
theorem nmL_length (c : Int) (n : Nat) : (nmL c n).length = n := by unfold nmL; rw [List.length_map, List.length_range]
theorem nmL_succ (c : Int) (n : Nat) : nmL c (n + 1) = nmL c n ++ [97 + ((c / 26 ^ n) % 26).toNat] := by
  unfold nmL
  rw [List.range_succ, List.map_append]
  rfl
theorem letter_at {k : Int} (h0 : 0 ≤ k) (h1 : k < 26) : atI (("abcdefghijklmnopqrstuvwxyz" : Str).cps.toList) k = some (97 + k.toNat) := by
  have h : ∀ n : Nat, n < 26 → ("abcdefghijklmnopqrstuvwxyz" : Str).cps.toList[n]? = some (97 + n) := by decide +kernel
  have e : k = ((k.toNat : Nat) : Int) := by omega
  have := atI_nat (h k.toNat (by omega))
  rw [← e] at this
  exact this
structure spName' (vs : List V) (H : Hp) (Q : VK) (E : XK) : Prop where
  ex : ∃ (c : Int) (n : Nat), vs = [.int c, .int (n : Int)] ∧ 0 ≤ c ∧ n ≤ 1000 ∧ Q (.str (tx (nmL c n))) H
theorem use_name {H : Hp} {Q : VK} {E : XK} {c ni : Int} {n : Nat} (e : ni = (n : Int)) (hc : 0 ≤ c) (hn : n ≤ 1000) (q : Q (.str (tx (nmL c n))) H) : spName' [.int c, .int ni] H Q E := by
  subst e
  exact ⟨c, n, rfl, hc, hn, q⟩
def isName (cs : List Nat) : Bool := decide (1 ≤ (cs.length : Int)) && decide ((cs.length : Int) ≤ 8) && cs.all (inS "abcdefghijklmnopqrstuvwxyz")
end L2
namespace L2
open PySem PySem.Spec PyProof.Rows
section
variable {prog : Program} {w : World} {A : Around} {R : Result → Shared → Prop} {s : Shared}
end
section
variable {X : Cx}
end
end L2
namespace L2
open PySem PySem.Spec PyProof.Rows
theorem nodup_le {α : Type} [DecidableEq α] : ∀ {l m : List α}, l.Nodup → (∀ x ∈ l, x ∈ m) → l.length ≤ m.length
  | [], _, _, _ => Nat.zero_le _
  | x :: r, m, h, hs => by
    have hn := List.nodup_cons.mp h
    have hx := hs x List.mem_cons_self
    have := nodup_le (l := r) (m := m.erase x) hn.2 fun y hy => by
      have hne : y ≠ x := fun e => hn.1 (e ▸ hy)
      exact (List.mem_erase_of_ne hne).mpr (hs y (List.mem_cons_of_mem _ hy))
    rw [List.length_erase_of_mem hx] at this
    have hp : 0 < m.length := List.length_pos_of_mem hx
    rw [List.length_cons]
    omega
theorem nmL_at (c : Int) {n i : Nat} (h : i < n) : (nmL c n)[i]? = some (97 + ((c / 26 ^ i) % 26).toNat) := by
  unfold nmL
  rw [List.getElem?_map, List.getElem?_range h]
  rfl
theorem nmL_fig {c c' : Int} {n d : Nat} (h : d < n) (e : nmL c n = nmL c' n) : (c / 26 ^ d) % 26 = (c' / 26 ^ d) % 26 := by
  have h1 := nmL_at c h
  rw [e, nmL_at c' h] at h1
  have h2 := Option.some.inj h1
  have a0 : 0 ≤ (c / 26 ^ d) % 26 := Int.emod_nonneg _ (by decide)
  have b0 : 0 ≤ (c' / 26 ^ d) % 26 := Int.emod_nonneg _ (by decide)
  omega
structure NameOk (x : List Nat) : Prop where
  lo : 1 ≤ x.length
  hi : x.length ≤ 8
  letters : ∀ c ∈ x, 97 ≤ c ∧ c < 123
theorem nmL_ok (c : Int) {n : Nat} (h1 : 1 ≤ n) (h2 : n ≤ 8) : NameOk (nmL c n) := by
  refine ⟨by rw [nmL_length]; exact h1, by rw [nmL_length]; exact h2, fun x hx => ?_⟩
  obtain ⟨i, _, rfl⟩ := List.mem_map.mp hx
  have a0 : 0 ≤ (c / 26 ^ i) % 26 := Int.emod_nonneg _ (by decide)
  have a1 : (c / 26 ^ i) % 26 < 26 := Int.emod_lt_of_pos _ (by decide)
  omega
def txs (nss : List (List Nat)) : List V := nss.map fun x => V.str (tx x)
theorem txs_flat (nss : List (List Nat)) : (txs nss).all flatV = true := by
  unfold txs
  rw [List.all_map, List.all_eq_true]
  exact fun _ _ => rfl
theorem tx_inj {a b : List Nat} (h : tx a = tx b) : a = b := by
  have : a.toArray = b.toArray := by injection h
  simpa using this
theorem inV_txs (x : List Nat) (nss : List (List Nat)) : inV (.str (tx x)) (txs nss) = decide (x ∈ nss) := by
  unfold inV txs
  rw [List.any_map, Bool.eq_iff_iff, List.any_eq_true, decide_eq_true_eq]
  constructor
  · rintro ⟨y, hy, e⟩
    have e2 : eqV (.str (tx y)) (.str (tx x)) = true := e
    have e3 : tx y = tx x := by
      unfold eqV at e2
      simpa using e2
    rw [← tx_inj e3]
    exact hy
  · intro h
    refine ⟨x, h, ?_⟩
    show eqV (.str (tx x)) (.str (tx x)) = true
    unfold eqV
    simp
end L2
namespace L2
open PySem PySem.Spec PyProof.Rows
abbrev Pr := List Nat × Int
abbrev prO (p : Pr) : HO := .tup [.str (tx p.1), .int p.2]
inductive Prs (H : Hp) : List V → List Pr → Prop
  | nil : Prs H [] []
  | cons {r : Addr} {p : Pr} {vs : List V} {ps : List Pr} : H r = some (prO p) → Prs H vs ps → Prs H (.ref r :: vs) (p :: ps)
theorem Prs.mono {H H' : Hp} {vs : List V} {ps : List Pr} (h : Prs H vs ps) (g : Same H H') : Prs H' vs ps := by
  induction h with
  | nil => exact .nil
  | cons e _ ih => exact .cons (g _ _ e) ih
theorem Prs.upd_lst {H : Hp} {vs : List V} {ps : List Pr} {a : Addr} {xs ys : List V} (h : Prs H vs ps) (ha : H a = some (.lst xs)) : Prs (upd H a (.lst ys)) vs ps := by
  induction h with
  | nil => exact .nil
  | cons e _ ih => exact .cons (by rw [upd_ne (ne_of e ha (by intro z; cases z))]; exact e) ih
theorem Prs.length {H : Hp} {vs : List V} {ps : List Pr} (h : Prs H vs ps) : vs.length = ps.length := by
  induction h with
  | nil => rfl
  | cons _ _ ih => simp [ih]
theorem Prs.snoc {H : Hp} {vs : List V} {ps : List Pr} {r : Addr} {p : Pr} (h : Prs H vs ps) (e : H r = some (prO p)) : Prs H (vs ++ [.ref r]) (ps ++ [p]) := by
  induction h with
  | nil => exact .cons e .nil
  | cons e2 _ ih => exact .cons e2 ih
theorem Prs.get {H : Hp} {vs : List V} {ps : List Pr} (h : Prs H vs ps) : ∀ {i : Nat} {v : V}, vs[i]? = some v → ∃ r p, v = .ref r ∧ ps[i]? = some p ∧ H r = some (prO p) := by
  induction h with
  | nil => intro i v e; simp at e
  | @cons r p vs ps e _ ih =>
    intro i v ev
    cases i with
    | zero => simp at ev; subst ev; exact ⟨r, p, rfl, rfl, e⟩
    | succ i => simp at ev; obtain ⟨r', p', a, b, c⟩ := ih ev; exact ⟨r', p', a, by simpa using b, c⟩
theorem Prs.getQ {H : Hp} {vs : List V} {ps : List Pr} (h : Prs H vs ps) : ∀ {i : Nat} {p : Pr}, ps[i]? = some p → ∃ r, vs[i]? = some (.ref r) ∧ H r = some (prO p) := by
  induction h with
  | nil => intro i v e; simp at e
  | @cons r p vs ps e _ ih =>
    intro i v ev
    cases i with
    | zero => simp at ev; subst ev; exact ⟨r, rfl, e⟩
    | succ i => simp at ev; obtain ⟨r', a, c⟩ := ih ev; exact ⟨r', by simpa using a, c⟩
theorem eqv_str (x : Str) : PyData.eqv (.str x) (.str x) = true := by unfold PyData.eqv; exact beq_self_eq_true x
theorem eqv_int (i : Int) : PyData.eqv (.int i) (.int i) = true := by unfold PyData.eqv; exact beq_self_eq_true i
end L2
namespace L2
open PySem PySem.Spec PyProof.Rows
end L2
namespace L2
open PySem PySem.Spec PyProof.Rows PySem.NumText
def keysOk (es : Array DictEntry) : Bool := es.toList.all (fun e => match e.key with | .str _ _ => true | _ => false) && (nsFind es "sys.int_max_str_digits").isNone
def digOk (K : PySem.W.Frag) : Bool := match K.lookup cStatics with
  | some ⟨_, _, .dict es _, _⟩ => keysOk es
  | _ => false
theorem digOk_of {K : PySem.W.Frag} {oc : Value} {od : Option Addr} {es : Array DictEntry} {n : Nat} {sl : Array (Option Value)} (e : K.lookup cStatics = some ⟨oc, od, .dict es n, sl⟩) (h : keysOk es = true) : digOk K = true := by
  unfold digOk
  rw [e]
  exact h
theorem noDigits_of {K : PySem.W.Frag} {h : Heap} (X : K.In h) (e : digOk K = true) : h.NoDigits := by
  unfold digOk at e
  split at e
  · rename_i c d es n sl q
    have ho := X _ _ q
    unfold keysOk at e
    obtain ⟨e1, e2⟩ := Bool.and_eq_true_iff.mp e
    refine ⟨nsFind es, ⟨_, es, n, ho, rfl, fun x hx => ?_, fun _ => rfl⟩, by simpa using e2⟩
    have := List.all_eq_true.mp e1 x (by simpa using hx)
    split at this
    · exact ⟨_, _, by assumption⟩
    · cases this
  · cases e
section
variable {X : Cx}
theorem call_str_big (hc : X.calm = true) (hz : digOk X.K = true) : CallR X (.type "str") (fun xs H Q => ∃ i : Int, xs = [.int i] ∧ i.natAbs < 10 ^ 4300 ∧ Q (.str (toString i)) H) := by
  intro pins s σ H xs us Q I r h
  obtain ⟨i, rfl, hl, q⟩ := h
  obtain ⟨u, rfl, t, rfl⟩ := vals1 r
  refine str_of_int_or (I.ok.hd hc) (noDigits_of I.kIn hz) (fun _ => ⟨.str _, H, I.tok _, ⟨_, rfl⟩, q⟩) (fun h2 => absurd hl (Nat.not_lt.mpr h2))
end
end L2
namespace L2
open PySem PySem.Spec PyProof.Rows PySem.NumText
section
variable {X : Cx} {tg : Expr}
end
theorem fold_acc : ∀ (b : List Nat) (acc : Nat), b.foldl (fun acc c => acc * 10 + (c - 48)) acc = acc * 10 ^ b.length + b.foldl (fun acc c => acc * 10 + (c - 48)) 0
  | [], acc => by show acc = acc * 1 + 0; omega
  | c :: r, acc => by
    show r.foldl (fun acc c => acc * 10 + (c - 48)) (acc * 10 + (c - 48)) = acc * 10 ^ (r.length + 1) + r.foldl (fun acc c => acc * 10 + (c - 48)) (0 * 10 + (c - 48))
    rw [fold_acc r (acc * 10 + (c - 48)), fold_acc r (0 * 10 + (c - 48)), Nat.pow_succ, Nat.add_mul, Nat.zero_mul, Nat.zero_add]
    have : acc * 10 * 10 ^ r.length = acc * (10 ^ r.length * 10) := by rw [Nat.mul_assoc, Nat.mul_comm 10]
    omega
theorem digitsVal_append (a b : List Nat) : digitsVal (a ++ b) = digitsVal a * 10 ^ b.length + digitsVal b := by
  unfold digitsVal
  rw [List.foldl_append, fold_acc]
end L2
namespace L2
open PySem PySem.Spec PyProof.Rows PySem.NumText
end L2
namespace L2
open PySem PySem.Spec PyProof.Rows PySem.NumText
structure spBig (vs : List V) (H : Hp) (Q : VK) (E : XK) : Prop where
  ex : ∃ n : Nat, vs = [.int (n : Int)] ∧ n ≤ 100 ∧ Q (.int (((10 ^ (60 * n) : Nat)) : Int)) H
theorem use_big {H : Hp} {Q : VK} {E : XK} {n : Nat} {ni : Int} (e : ni = (n : Int)) (hn : n ≤ 100) (q : Q (.int (((10 ^ (60 * n) : Nat)) : Int)) H) : spBig [.int ni] H Q E := by
  subst e
  exact ⟨n, rfl, hn, q⟩
theorem toDigits_len : ∀ (k n : Nat), n < 10 ^ (k + 1) → (Nat.toDigits 10 n).length ≤ k + 1
  | 0, n, h => by rw [Nat.toDigits_of_lt_base (by simpa using h)]; exact Nat.le_refl _
  | k + 1, n, h => by
    by_cases hb : n < 10
    · rw [Nat.toDigits_of_lt_base hb]; show 1 ≤ _; omega
    · have hm : n % 10 < 10 := Nat.mod_lt n (by decide)
      have t : Nat.toDigits 10 (n / 10) ++ Nat.toDigits 10 (n % 10) = Nat.toDigits 10 (10 * (n / 10) + n % 10) := Nat.toDigits_append_toDigits (by decide) (by omega) hm
      rw [Nat.div_add_mod] at t
      rw [← t, List.length_append, Nat.toDigits_of_lt_base hm]
      have := toDigits_len k (n / 10) (by rw [Nat.pow_succ] at h; exact Nat.div_lt_of_lt_mul (by rw [Nat.mul_comm]; exact h))
      show _ + 1 ≤ _
      omega
end L2
namespace L2
open PySem PySem.Spec PyProof.Rows PySem.NumText Builtin Builtin.Str
section
variable {X : Cx}
theorem call_divmodW : CallR X (.builtin "divmod") (fun xs H Q => ∃ i j, xs = [.int i, .int j] ∧ CDivW i j ∧ ∀ p, H p = none → Q (.ref p) (upd H p (.tup [.int (i / j), .int (i % j)]))) := by
  intro pins s σ H xs us Q I r h
  obtain ⟨i, j, rfl, hc, q⟩ := h
  obtain ⟨u, w', rfl, ⟨t, rfl⟩, ⟨t', rfl⟩⟩ := vals2 r
  have h1 : (0 : Int) < j := hc.1
  refine divmod_int (by omega) ?_ (.inl (PyProof.noPylong_of_log2 hc.2))
  rw [Int.fdiv_eq_ediv_of_nonneg i (by omega), Int.fmod_eq_emod_of_nonneg i (by omega)]
  have hn : H s.heap.objs.size = none := I.hok.fresh (Nat.le_refl _)
  refine ⟨.ref s.heap.objs.size, _, ?_, rfl, q _ hn⟩
  refine I.laid (fun b o e => Heap.get?_push_of_some _ e) (Nat.le_refl _) ⟨by simp only [List.length_cons, List.length_nil]; rw [sizeLine_eq]; decide, [.int (i / j) s.toks, .int (i % j) (s.toks + 1)], .cons ⟨_, rfl⟩ (.cons ⟨_, rfl⟩ .nil), ?_⟩
  exact ⟨_, Heap.get?_push_size s.heap rfl, rfl, 0, rfl⟩
def zf (cs : List Nat) (n : Nat) : List Nat := List.replicate (n - cs.length) 48 ++ cs
theorem mt_zfill : MtR X "str.zfill" (fun x vs H Q => ∃ (cs : List Nat) (n : Nat), x = .str (tx cs) ∧ vs = [.int (n : Int)] ∧ n ≤ 1000 ∧ cs.length ≤ 1000 ∧ AllDigits cs ∧ Q (.str (tx (zf cs n))) H) := by
  intro pins s σ H x vs v us Q I rx rv h
  obtain ⟨cs, n, rfl, rfl, hn, hl, hd, q⟩ := h
  obtain ⟨t, rfl⟩ := rx
  obtain ⟨u, rfl, t', rfl⟩ := vals1 rv
  have hr : (decide ((n : Int) < -(2 ^ 63 : Int)) || decide ((n : Int) ≥ 2 ^ 63)) = false := by
    rw [decide_eq_false (by omega), decide_eq_false (by omega)]; rfl
  have hlong : tooLong ((n : Int)).toNat = false := by
    unfold tooLong
    exact decide_eq_false (by rw [Int.toNat_natCast, sizeLine_eq] <;> omega)
  refine call_meets F.slot_str_zfill (typeIs_str _ _ _) F.entry_str_zfill (F.args_str_zfill_2 _ _) (gives_str_zfill (tx cs) (n : Int) t t' hr hlong).meets ?_
  by_cases hc : (n : Int) ≤ ((tx cs).length : Int)
  · rw [if_pos hc]
    have e : zf cs n = cs := by
      unfold zf
      rw [tx_length] at hc
      rw [show n - cs.length = 0 from by omega]
      rfl
    rw [e] at q
    exact ⟨.str (tx cs), H, I, ⟨t, rfl⟩, q⟩
  · rw [if_neg hc]
    have ez : zfilled (tx cs) (((n : Int)).toNat - (tx cs).length) = tx (zf cs n) := by
      rw [Int.toNat_natCast, tx_length]
      unfold zfilled zf
      have hp : padded (tx cs) (n - cs.length) 0 48 = tx (List.replicate (n - cs.length) 48 ++ cs) := by
        unfold padded
        simp [tx]
      split
      · rename_i e
        have : 43 ∈ cs := List.mem_of_getElem? (i := 0) (by simpa using e)
        have := hd 43 this
        omega
      · rename_i e
        have : 45 ∈ cs := List.mem_of_getElem? (i := 0) (by simpa using e)
        have := hd 45 this
        omega
      · exact hp
    rw [ez]
    refine ⟨?_, .str (tx (zf cs n)), H, I.tok _, ⟨_, rfl⟩, q⟩
    rw [tx_length, sizeLine_eq]
    unfold zf
    rw [List.length_append, List.length_replicate]
    omega
theorem glued_empty : ∀ (l : List Str) (acc : Array Nat), (l.foldl (fun acc p => acc ++ (Str.empty).cps ++ p.cps) acc).toList = acc.toList ++ (l.map (·.cps.toList)).flatten
  | [], acc => by simp
  | p :: r, acc => by
    rw [List.foldl_cons, glued_empty r]
    simp [Str.empty]
theorem glued_flat (l : List Str) : glued Str.empty l = tx (l.map (·.cps.toList)).flatten := by
  unfold glued
  have h := glued_empty (l.drop 1) (l.headD Str.empty).cps
  have e : (l.map (·.cps.toList)).flatten = (l.headD Str.empty).cps.toList ++ ((l.drop 1).map (·.cps.toList)).flatten := by
    cases l with
    | nil => rfl
    | cons x r => rfl
  rw [e, ← h]
theorem vals_strs : ∀ {css : List (List Nat)} {its : List Value}, Vals (txs css) its → ∃ l : List (Str × Tok), its = strValues l ∧ l.map (·.1) = css.map tx
  | [], its, r => by cases r; exact ⟨[], rfl, rfl⟩
  | c :: cs, its, r => by
    cases r with
    | cons r1 r2 =>
      obtain ⟨t, rfl⟩ := r1
      obtain ⟨l, rfl, e⟩ := vals_strs r2
      exact ⟨(tx c, t) :: l, rfl, by rw [List.map_cons, List.map_cons, e]⟩
theorem flat_tx (css : List (List Nat)) : ((css.map tx).map (·.cps.toList)) = css := by
  rw [List.map_map]
  conv => rhs; rw [← List.map_id css]
  exact List.map_congr_left fun c _ => by simp [tx]
theorem fold_len : ∀ (l : List Str) (n : Nat), l.foldl (fun a p => a + p.length + (Str.empty).length) n = n + (l.map (·.cps.toList)).flatten.length
  | [], n => by simp
  | p :: r, n => by
    rw [List.foldl_cons, fold_len r]
    have : p.length = p.cps.toList.length := by show p.cps.size = _; simp
    rw [List.map_cons, List.flatten_cons, List.length_append, this]
    show n + _ + 0 + _ = _
    omega
theorem mt_join0 : MtR X "str.join" (fun x vs H Q => ∃ (a : Addr) (css : List (List Nat)), x = .str Str.empty ∧ vs = [.ref a] ∧ SqL X.K H a (txs css) ∧ css.flatten.length ≤ 100000 ∧ Q (.str (tx css.flatten)) H) := by
  intro pins s σ H x vs v us Q I rx rv h
  obtain ⟨a, css, rfl, rfl, hS, hl, q⟩ := h
  obtain ⟨t, rfl⟩ := rx
  obtain ⟨u, rfl, ru⟩ := vals1 rv
  cases ru
  obtain ⟨its, r, pl, hz⟩ := I.list hS
  obtain ⟨l, rfl, el⟩ := vals_strs r
  have hlen : (l.map (·.1)).toArray.foldl (· + ·.length + (Str.empty).length) 0 = css.flatten.length := by
    rw [List.foldl_toArray, fold_len, el, flat_tx]
    omega
  have hlong : tooLong ((l.map (·.1)).toArray.foldl (· + ·.length + (Str.empty).length) 0) = false := by
    rw [hlen]
    unfold tooLong
    exact decide_eq_false (by rw [sizeLine_eq]; omega)
  refine call_meets F.slot_str_join (typeIs_str _ _ _) F.entry_str_join (F.args_str_join_2 _ _) (meets_str_join_list Str.empty t a l hlong) ⟨pl.isList, ?_⟩
  have hg : glued Str.empty (l.map (·.1)) = tx css.flatten := by rw [glued_flat, el, flat_tx]
  have hfin : (tx css.flatten).length ≤ sizeLine := by rw [tx_length, sizeLine_eq]; omega
  have hst : Vals [V.str (tx css.flatten)] [Value.str (tx css.flatten) t] := .cons ⟨t, rfl⟩ .nil
  cases l with
  | nil => exact ⟨by rw [hg]; exact hfin, .str (tx css.flatten), H, I.tok _, ⟨_, by rw [hg]⟩, q⟩
  | cons p r' =>
    cases r' with
    | nil =>
      have e : p.1 = tx css.flatten := hg
      exact ⟨.str (tx css.flatten), H, I, ⟨p.2, by rw [← e]⟩, q⟩
    | cons p' r'' => exact ⟨by rw [hg]; exact hfin, .str (tx css.flatten), H, I.tok _, ⟨_, by rw [hg]⟩, q⟩
def tF2 (ta tb : TE) (mid : Str) : TE := fun σ H Q => ta σ H fun x H1 => ∃ cs : List Nat, x = .str (tx cs) ∧ cs.length ≤ 100000 ∧ tb σ H1 fun y H2 => ∃ ds : List Nat, y = .str (tx ds) ∧ ds.length ≤ 100000 ∧ Q (.str (tx (cs ++ mid.cps.toList ++ ds))) H2
theorem pe_f2 {a b : Expr} {ta tb : TE} {mid : Str} {k : Nat} {p1 p2 p3 pos : Pos} (ha : PE X a ta) (hb : PE X b tb) (hm : mid.length ≤ 1000) : PE X (.JoinedStr [.FormattedValue a (-1) none p1, .Constant (.str mid) k p2, .FormattedValue b (-1) none p3] pos) (tF2 ta tb mid) := by
  intro pins s σ H Q I h
  have e0 : ∀ cs : List Nat, (Str.empty ++ tx cs : Str) = tx cs := fun cs => by
    have : (Str.empty : Str) = tx [] := rfl
    rw [this, tx_cat]
    rfl
  have hmt : mid = tx mid.cps.toList := (tx_eta mid).symm
  have hml : mid.cps.toList.length = mid.length := by show _ = mid.cps.size; simp
  refine JoinedStr_many (joinParts_cons (wpAny_FormattedValue_plain (thn (ha pins s σ H _ I h) fun v s1 ⟨x, H1, I1, r1, q1⟩ => ?_)))
  obtain ⟨cs, rfl, hcl, q1⟩ := q1
  obtain ⟨t, rfl⟩ := r1
  refine SB.field_str (fun t' k => ?_) (by rw [tx_length, sizeLine_eq]; omega)
  show (Str.empty ++ tx cs : Str).length ≤ sizeLine ∧ wpAny _ _ (joinParts (Str.empty ++ tx cs) _) _ _ _
  rw [e0]
  refine ⟨by rw [tx_length, sizeLine_eq]; omega, ?_⟩
  refine joinParts_cons (Calls.Constant_str ?_)
  have hc2 : (tx cs ++ mid : Str) = tx (cs ++ mid.cps.toList) := by
    conv => lhs; rw [hmt]
    exact tx_cat _ _
  show (tx cs ++ mid : Str).length ≤ sizeLine ∧ wpAny _ _ (joinParts (tx cs ++ mid) _) _ _ _
  rw [hc2]
  refine ⟨by rw [tx_length, List.length_append, sizeLine_eq]; omega, ?_⟩
  refine joinParts_cons (wpAny_FormattedValue_plain (thn (hb pins _ σ H1 _ (I1.tok _) q1) fun v s2 ⟨y, H2, I2, r2, q2⟩ => ?_))
  obtain ⟨ds, rfl, hdl, q2⟩ := q2
  obtain ⟨t2, rfl⟩ := r2
  refine SB.field_str (fun t' k => ?_) (by rw [tx_length, sizeLine_eq]; omega)
  show (tx (cs ++ mid.cps.toList) ++ tx ds : Str).length ≤ sizeLine ∧ wpAny _ _ (joinParts (tx (cs ++ mid.cps.toList) ++ tx ds) _) _ _ _
  rw [tx_cat]
  have hlen : (tx (cs ++ mid.cps.toList ++ ds)).length ≤ sizeLine := by rw [tx_length, List.length_append, List.length_append, sizeLine_eq]; omega
  refine ⟨hlen, joinParts_nil ?_ hlen⟩
  exact ⟨.str (tx (cs ++ mid.cps.toList ++ ds)), H2, I2.tok _, ⟨_, rfl⟩, q2⟩
end
end L2
namespace L2
open PySem PySem.Spec PyProof.Rows PySem.NumText
def digs (n : Nat) : List Nat := (Nat.toDigits 10 n).map Char.toNat
theorem str_digs (n : Nat) : (toString ((n : Nat) : Int) : Str) = tx (digs n) := by
  have e := PySem.W.KIN.signs_num n
  unfold digs
  rw [← e, tx_eta]
theorem digs_val (n : Nat) : digitsVal (digs n) = n := PySem.W.KIN.val_back n
theorem digs_all (n : Nat) : AllDigits (digs n) := fun c hc => by
  obtain ⟨ch, hch, e⟩ := List.mem_map.mp hc
  have r := digit_range (Nat.isDigit_of_mem_toDigits (by decide) (by decide) hch)
  rw [← e]
  exact r
theorem digs_len {n k : Nat} (h : n < 10 ^ (k + 1)) : (digs n).length ≤ k + 1 := by unfold digs; rw [List.length_map]; exact toDigits_len k n h
theorem digs_split {n : Nat} (h : 10 ≤ n) : digs n = digs (n / 10) ++ digs (n % 10) := by
  have hm : n % 10 < 10 := Nat.mod_lt n (by decide)
  have t : Nat.toDigits 10 (n / 10) ++ Nat.toDigits 10 (n % 10) = Nat.toDigits 10 (10 * (n / 10) + n % 10) := Nat.toDigits_append_toDigits (by decide) (by omega) hm
  rw [Nat.div_add_mod] at t
  unfold digs
  rw [← t, List.map_append]
theorem digs_one {n : Nat} (h : n < 10) : digs n = [48 + n] := by
  unfold digs
  rw [Nat.toDigits_of_lt_base h, digitChar_of n h]
  show [(Char.ofNat (48 + n)).toNat] = [48 + n]
  have : ∀ n : Nat, n < 10 → (Char.ofNat (48 + n)).toNat = 48 + n := by decide
  rw [this n h]
theorem digs_head : ∀ (n : Nat), 0 < n → ∃ c r, digs n = c :: r ∧ 49 ≤ c := by
  intro n
  induction n using Nat.strongRecOn with
  | _ n ih =>
    intro h
    by_cases hb : n < 10
    · exact ⟨48 + n, [], digs_one hb, by omega⟩
    · obtain ⟨c, r, e, hc⟩ := ih (n / 10) (by omega) (by omega)
      exact ⟨c, r ++ digs (n % 10), by rw [digs_split (by omega), e]; rfl, hc⟩
theorem map_back {cs : List Nat} (h : AllDigits cs) : (cs.map Char.ofNat).map Char.toNat = cs := by
  rw [List.map_map]
  conv => rhs; rw [← List.map_id cs]
  refine List.map_congr_left fun c hc => ?_
  have := h c hc
  have hh : ∀ n : Nat, n < 10 → (Char.ofNat (48 + n)).toNat = 48 + n := by decide
  have e : c = 48 + (c - 48) := by omega
  show (Char.ofNat c).toNat = c
  rw [e]
  exact hh (c - 48) (by omega)
theorem digs_back {cs : List Nat} (h : AllDigits cs) (hh : ∃ c r, cs = c :: r ∧ 49 ≤ c) : digs (digitsVal cs) = cs := by
  obtain ⟨c, r, e, hc⟩ := hh
  have := toDigits_digitsVal r.length cs (by rw [e]; rfl) h (Or.inr ⟨c, r, e, hc⟩)
  unfold digs
  rw [this]
  exact map_back h
theorem zeros_val : ∀ (k : Nat) (cs : List Nat), digitsVal (List.replicate k 48 ++ cs) = digitsVal cs
  | 0, _ => rfl
  | k + 1, cs => by rw [List.replicate_succ, List.cons_append, digitsVal_zero, zeros_val k cs]
theorem zf_len {cs : List Nat} {n : Nat} (h : cs.length ≤ n) : (zf cs n).length = n := by
  unfold zf
  rw [List.length_append, List.length_replicate]
  omega
theorem zf_all {cs : List Nat} {n : Nat} (h : AllDigits cs) : AllDigits (zf cs n) := fun c hc => by
  unfold zf at hc
  rcases List.mem_append.mp hc with z | z
  · rw [List.eq_of_mem_replicate z]; exact ⟨by decide, by decide⟩
  · exact h c z
theorem digs_group {q r k : Nat} (hq : 0 < q) (hr : r < 10 ^ (k + 1)) : digs (q * 10 ^ (k + 1) + r) = digs q ++ zf (digs r) (k + 1) := by
  have hl : (zf (digs r) (k + 1)).length = k + 1 := zf_len (digs_len hr)
  have hv : digitsVal (digs q ++ zf (digs r) (k + 1)) = q * 10 ^ (k + 1) + r := by
    rw [digitsVal_append, digs_val, hl]
    congr 1
    unfold zf
    rw [zeros_val, digs_val]
  rw [← hv]
  refine digs_back (fun c hc => ?_) ?_
  · rcases List.mem_append.mp hc with z | z
    · exact digs_all q c z
    · exact zf_all (digs_all r) c z
  · obtain ⟨c, r', e, hc⟩ := digs_head q hq
    exact ⟨c, r' ++ zf (digs r) (k + 1), by rw [e]; rfl, hc⟩
structure spFigs (vs : List V) (H : Hp) (Q : VK) (E : XK) : Prop where
  ex : ∃ n : Nat, vs = [.int (n : Int)] ∧ n < 10 ^ 2000 ∧ ∀ H', Same H H' → Q (.str (tx (digs n))) H'
theorem use_figs {H : Hp} {Q : VK} {E : XK} {n : Nat} (hn : n < 10 ^ 2000) (h : ∀ H', Same H H' → Q (.str (tx (digs n))) H') : spFigs [.int (n : Int)] H Q E := ⟨n, rfl, hn, h⟩
structure spRatText (K : PySem.W.Frag) (vs : List V) (H : Hp) (Q : VK) (E : XK) : Prop where
  ex : ∃ (a : Addr) (t b : Nat), vs = [.ref a] ∧ H a = some (.tup [.int (t : Int), .int (b : Int)]) ∧ t < 10 ^ 2000 ∧ b < 10 ^ 2000 ∧ ∀ H', Same H H' → Q (.str (tx (digs t ++ [47] ++ digs b))) H'
theorem use_rattext {K : PySem.W.Frag} {H : Hp} {Q : VK} {E : XK} {a : Addr} {t b : Nat} (ha : H a = some (.tup [.int (t : Int), .int (b : Int)])) (ht : t < 10 ^ 2000) (hb : b < 10 ^ 2000) (h : ∀ H', Same H H' → Q (.str (tx (digs t ++ [47] ++ digs b))) H') : spRatText K [.ref a] H Q E := ⟨a, t, b, rfl, ha, ht, hb, h⟩
end L2
namespace L2
theorem flat64 : ∀ {gs : List (List Nat)}, (∀ x ∈ gs, x.length = 64) → gs.flatten.length = 64 * gs.length
  | [], _ => rfl
  | x :: r, h => by
    rw [List.flatten_cons, List.length_append, flat64 fun y hy => h y (List.mem_cons_of_mem _ hy), h x List.mem_cons_self, List.length_cons]
    omega
end L2
namespace L2
open PySem PySem.Spec PyProof.Rows
theorem fig_add (c : Int) (j d : Nat) : (c + (j : Int) * 26 ^ d) / 26 ^ d = c / 26 ^ d + (j : Int) := by
  have hp : (26 : Int) ^ d ≠ 0 := Int.ne_of_gt (Int.pow_pos (by decide))
  rw [Int.add_mul_ediv_right _ _ hp]
theorem tries_leD {nss : List (List Nat)} {c : Int} {n d t : Nat} (h2 : d < n) (ht : t ≤ 26) (h : ∀ j : Nat, j < t → nmL (c + (j : Int) * 26 ^ d) n ∈ nss) : t ≤ nss.length := by
  have hn : ((List.range t).map fun j => nmL (c + ((j : Nat) : Int) * 26 ^ d) n).Nodup := by
    have : (List.range t).Pairwise (fun a b => a < b) := List.pairwise_lt_range
    refine List.Pairwise.map _ ?_ (List.Pairwise.and_mem.mp this)
    rintro a b ⟨ha, hb, hab⟩ e
    have ha' := List.mem_range.mp ha
    have hb' := List.mem_range.mp hb
    have := nmL_fig h2 e
    rw [fig_add, fig_add] at this
    omega
  have := nodup_le hn fun x hx => by
    obtain ⟨j, hj, rfl⟩ := List.mem_map.mp hx
    exact h j (List.mem_range.mp hj)
  rw [List.length_map, List.length_range] at this
  exact this
structure spNames (K : PySem.W.Frag) (vs : List V) (H : Hp) (Q : VK) (E : XK) : Prop where
  ex : ∃ (a : Addr) (ms : List Int) (k : Int) (many : Nat), vs = [.ref a, .int k, .int (many : Int)] ∧ SqL K H a (ms.map V.int) ∧ ms.length ≤ 63 ∧ 0 ≤ k ∧ many ≤ 25 ∧
    ∀ (z : Addr) (nss : List (List Nat)) (H' : Hp), Same H H' → H' z = some (.lst (txs nss)) → H z = none → nss.length = many → nss.Nodup → (∀ x ∈ nss, NameOk x) → Q (.ref z) H'
theorem use_names {K : PySem.W.Frag} {H : Hp} {Q : VK} {E : XK} {a : Addr} {ms : List Int} {k mi : Int} {many : Nat} (hmi : mi = (many : Int)) (hS : SqL K H a (ms.map V.int)) (h63 : ms.length ≤ 63) (h1 : 0 ≤ k) (h2 : many ≤ 25)
    (h : ∀ (z : Addr) (nss : List (List Nat)) (H' : Hp), Same H H' → H' z = some (.lst (txs nss)) → H z = none → nss.length = many → nss.Nodup → (∀ x ∈ nss, NameOk x) → Q (.ref z) H') : spNames K [.ref a, .int k, .int mi] H Q E := by
  subst hmi
  exact ⟨a, ms, k, many, rfl, hS, h63, h1, h2, h⟩
end L2
namespace L2
open PySem PySem.Spec PyProof.Rows
section
variable {X : Cx} {pins : List (Addr × Obj)} {σ σ' : St} {H H' : Hp} {s s' : Shared} {d : Addr} {kvs : List (Key × V)} {o : Obj}
end
section
variable {X : Cx} {tg : Expr}
end
end L2
namespace L2
open PySem PySem.Spec PyProof.Rows
section
variable {prog : Program} {w : World} {K : Type} [DecidableEq K] {knd : KeyKind prog w K} {A : Around} {E : Value → Shared → Prop} {s : Shared}
end
end L2
namespace L2
open PySem PySem.Spec PyProof.Rows
section
variable {P : Program} {w : World} {A : Around} {E : Value → Shared → Prop} {s : Shared} {K : PySem.W.Frag} {S1 S2 : Hp → Prop} {xs ys : List V} {z TI TO i1 i2 l1 l2 : Addr} {t1 t2 : Nat → Heap → Prop} {c1 c2 : Heap → Prop} {i : Nat}
end
end L2
namespace L2
open PySem PySem.Spec PyProof.Rows
section
variable {prog : Program} {w : World} {A : Around} {E : Value → Shared → Prop} {s : Shared} {it t : Addr} {i : Nat} {items : Array Value} {Q : Value → Shared → Prop}
end
end L2
namespace L2
open PySem PySem.Spec PyProof.Rows
section
variable {prog : Program} {w : World} {A : Around} {E : Value → Shared → Prop} {s : Shared} {K : Type} [DecidableEq K] {knd : KeyKind prog w K}
end
end L2
namespace L2
open PySem PySem.Spec PyProof.Rows
section
variable {X : Cx}
variable {elts : List Expr} {kk : Nat} {tpos : Pos}
end
end L2
namespace L2
open PySem PySem.Spec PyProof.Rows
theorem comp_1 {J : It} {n : Nat} (k : Nat) {te : TE} {σ2 : St} {H : Hp} {acc : Addr} {Q : VK} (Pv : Nat → List V → Hp → Prop) (hn : n ≤ 100000) (h0 : Pv 0 [] (upd H acc (.lst [])))
    (hgo : ∀ i out H1, i < n → H1 acc = some (.lst out) → Pv i out H1 → J.go i H1) (hst : ∀ out H1, H1 acc = some (.lst out) → Pv n out H1 → J.stop n H1)
    (hs : ∀ (i : Nat) (x : V) (out : List V) (H1 H2 : Hp), i < n → out.length = i → H1 acc = some (.lst out) → Pv i out H1 → J.yld i H1 x H2 →
      te (σ2.set k (some x)) H2 fun v H4 => H4 acc = some (.lst out) ∧ Pv (i + 1) (out ++ [v]) (upd H4 acc (.lst (out ++ [v]))))
    (hd : ∀ (out : List V) (H1 : Hp), out.length = n → H1 acc = some (.lst out) → Pv n out H1 → Q (.ref acc) H1) :
    CompG J (gName k) te acc σ2 H Q := by
  refine ⟨fun i m σ' H' => m = n - i ∧ i ≤ n ∧ (∀ w : Option V, σ'.set k w = σ2.set k w) ∧ ∃ out, out.length = i ∧ H' acc = some (.lst out) ∧ Pv i out H', ⟨n, by simp, Nat.zero_le _, fun _ => rfl, [], rfl, upd_same, h0⟩, ?_⟩
  rintro i m σ' H' ⟨rfl, hi, hσ, out, ho, ha, p⟩
  by_cases hlt : i < n
  · refine .inr ⟨hgo i out H' hlt ha p, fun σ3 => ∀ w : Option V, σ3.set k w = σ2.set k w, fun v H4 => H4 acc = some (.lst out) ∧ Pv (i + 1) (out ++ [v]) (upd H4 acc (.lst (out ++ [v]))), fun σ3 v H4 hS ⟨a, b⟩ => ?_, fun x H1 y => ?_⟩
    · refine ⟨out, a, ?_, n - (i + 1), by omega, rfl, hlt, hS, out ++ [v], by rw [List.length_append, ho]; rfl, upd_same, b⟩
      have : sizeLine = 16777216 := sizeLine_eq
      omega
    · refine ⟨fun w => by rw [List.set_set]; exact hσ w, ?_⟩
      rw [hσ]
      exact hs i x out H' H1 hlt ho ha p y
  · have e : i = n := by omega
    subst e
    exact .inl ⟨hst out H' ha p, hd out H' ho ha p⟩
end L2
namespace L2
open PySem PySem.Spec PyProof.Rows
section
variable {X : Cx}
def rCatG (K : PySem.W.Frag) : R2 := fun x y H Q => ∃ a b xs ys, x = .ref a ∧ y = .ref b ∧ SqT K H a xs ∧ SqT K H b ys ∧ xs.length + ys.length ≤ sizeLine ∧
  (xs = [] → Q (.ref b) H) ∧ (xs ≠ [] → ys = [] → Q (.ref a) H) ∧ (xs ≠ [] → ys ≠ [] → ∀ p, H p = none → Q (.ref p) (upd H p (.tup (xs ++ ys))))
theorem op_catG (K : PySem.W.Frag) (hK : X.K = K := by rfl) : OpR X (binaryOp .Add) (rCatG K) := by
  subst hK
  intro pins s σ H x y v u Q I rx ry h
  obtain ⟨a, b, xs, ys, rfl, rfl, ha, hb, hz, q0, q1, q2⟩ := h
  by_cases hx : xs = []
  · cases rx
    cases ry
    obtain ⟨its, r1, ht, _⟩ := I.tuple ha
    obtain ⟨its2, r2, hb', _⟩ := I.tuple hb
    obtain ⟨⟨cls, dd, data, sl⟩, ho, hc, n, hd⟩ := id ht
    obtain ⟨⟨cls2, dd2, data2, sl2⟩, ho2, hc2, n2, hd2⟩ := id hb'
    simp only at hc hd hc2 hd2
    subst hc hd hc2 hd2
    exact concat_meets ⟨_, ho, rfl⟩ ⟨_, ho2, rfl⟩ noFill_tuple_add seq_tuple_add PySem.F.slot_tuple_add PySem.F.entry_tuple_add (PySem.F.args_tuple_add_2 _ _)
      (tuple_addW0 a b its.toArray its2.toArray n n2 dd dd2 sl sl2 (by rw [r1.nil_iff.mpr hx]; rfl)) ⟨ho, ho2, ⟨.ref b, H, I, rfl, q0 hx⟩⟩
  · exact op_catT pins s σ H _ _ v u Q I rx ry ⟨a, b, xs, ys, rfl, rfl, ha, hb, hx, hz, q1 hx, q2 hx⟩
variable {o i : Expr} {pos : Pos} {td ty : TE}
end
end L2
namespace L2
open PySem PySem.Spec PyProof.Rows
inductive Th where | s (cs : List Nat) | n (i : Int)
def Th.v : Th → V
  | .s cs => .str (tx cs)
  | .n i => .int i
def Th.ok : Th → Prop
  | .s cs => cs.length ≤ 1000
  | .n _ => True
inductive Kd where | nm | am | we
def fitsT : Th → Kd → Bool
  | .s cs, .nm => isName cs
  | .n i, .am => decide (1 ≤ i) && decide (i ≤ 1000000000)
  | .n i, .we => decide (0 ≤ i) && decide (i ≤ 1000000000)
  | _, _ => false
def formsL : List (Str × List Kd) := [("load", [.nm, .nm, .am, .we]), ("award", [.nm, .am]), ("mishap", [.nm, .am]), ("rise", [.nm, .am]), ("hand", [.nm, .nm]), ("land", [.nm]), ("sever", [.nm, .nm, .am, .we]), ("still", [])]
def formsOf (fs : List (Str × List Kd)) (x : Str) : Option (List Kd) := (fs.find? fun p => decide (p.1 = x)).map fun p => p.2
def pairsK (n : Nat) : List Kd := (List.replicate n [Kd.nm, Kd.am]).flatten
def formOf (x : Str) (n : Nat) : Option (List Kd) := if x = "cast" then some (pairsK (max 1 (n / 2))) else formsOf formsL x
def allFit (th : List Th) (ks : List Kd) : Bool := decide (th.length = ks.length) && (List.zipWith fitsT th ks).all id
def soundT (x : List Nat) (th : List Th) : Bool := match formOf (tx x) (th.length + 1) with
  | some ks => allFit th ks
  | none => false
theorem sl_tupK {X : Cx} (K : PySem.W.Frag) (hK : X.K = K := by rfl) : SlR X (rSlT K) := hK ▸ sl_tup
theorem cutV_to (xs : List V) (k : Nat) : cutV xs none (some (k : Int)) = xs.take k := by
  unfold cutV
  rw [HT.sIx_none, HT.sIx_nat, List.drop_zero, Nat.sub_zero]
  rcases Nat.le_total k xs.length with h | h
  · rw [Nat.min_eq_left h]
  · rw [Nat.min_eq_right h, List.take_length, List.take_of_length_le h]
theorem map_at {α β : Type} {g : α → β} {xs : List α} {i : Nat} {v : β} (h : (xs.map g)[i]? = some v) : ∃ x, v = g x ∧ xs[i]? = some x := by
  rw [List.getElem?_map] at h
  obtain ⟨x, h1, h2⟩ := Option.map_eq_some_iff.mp h
  exact ⟨x, h2.symm, h1⟩
def thV (ds : List Th) : List V := ds.map Th.v
end L2
namespace L2
open PySem PySem.Spec PyProof.Rows
theorem inS_letter {c : Nat} (h1 : 97 ≤ c) (h2 : c < 123) : inS "abcdefghijklmnopqrstuvwxyz" c = true := by
  have h : ∀ n : Nat, n < 26 → inS "abcdefghijklmnopqrstuvwxyz" (97 + n) = true := by decide +kernel
  have := h (c - 97) (by omega)
  rw [show 97 + (c - 97) = c by omega] at this
  exact this
theorem NameOk.is {x : List Nat} (h : NameOk x) : isName x = true := by
  unfold isName
  rw [decide_eq_true (by have := h.lo; omega), decide_eq_true (by have := h.hi; omega), Bool.true_and, Bool.true_and, List.all_eq_true]
  exact fun c hc => inS_letter (h.letters c hc).1 (h.letters c hc).2
def wd (y : Str) : List Nat := y.cps.toList
theorem wd_tx (y : Str) : tx (wd y) = y := tx_eta y
theorem wd_v (y : Str) : (Th.s (wd y)).v = .str y := by show V.str (tx (wd y)) = _; rw [wd_tx]
def GoodT : Th → Prop
  | .s cs => NameOk cs
  | .n i => 0 ≤ i ∧ i ≤ 1000000000
theorem GoodT.ok {t : Th} (h : GoodT t) : t.ok := by
  cases t with
  | s cs => have := NameOk.hi (show NameOk cs from h); show cs.length ≤ 1000; omega
  | n i => exact True.intro
def words9 : List Str := ["load", "award", "mishap", "rise", "hand", "land", "sever", "still", "cast"]
structure AnyD (x : List Nat) (th : List Th) : Prop where
  word : ∃ y ∈ words9, x = wd y
  snd : soundT x th = true
  len : th.length ≤ 200
  good : ∀ t ∈ th, GoodT t
theorem soundT_of {y : Str} {ks : List Kd} {th : List Th} (hy : formOf y (th.length + 1) = some ks) (hf : allFit th ks = true) : soundT (wd y) th = true := by
  unfold soundT
  rw [wd_tx, hy]
  exact hf
theorem formOf_at {y : Str} {ks : List Kd} {n : Nat} (h : decide (y = "cast") = false) (e : formsOf formsL y = some ks) : formOf y n = some ks := by
  unfold formOf
  rw [if_neg (of_decide_eq_false h), e]
theorem fit_nm {a : List Nat} (h : NameOk a) : fitsT (.s a) .nm = true := h.is
theorem fit_am {i : Int} (h : 1 ≤ i) (h2 : i ≤ 1000000000) : fitsT (.n i) .am = true := by
  show (decide (1 ≤ i) && decide (i ≤ 1000000000)) = true
  rw [decide_eq_true h, decide_eq_true h2]; rfl
theorem fit_we {i : Int} (h : 0 ≤ i) (h2 : i ≤ 1000000000) : fitsT (.n i) .we = true := by
  show (decide (0 ≤ i) && decide (i ≤ 1000000000)) = true
  rw [decide_eq_true h, decide_eq_true h2]; rfl
section
variable {a b : List Nat} {m v : Int} (ha : NameOk a) (hb : NameOk b) (hm : 1 ≤ m) (hm2 : m ≤ 1000000000) (hv : 0 ≤ v) (hv2 : v ≤ 1000000000)
include ha hb hm hm2 hv hv2 in
theorem any4 {y : Str} (hy : y ∈ words9) (h : decide (y = "cast") = false) (e : formsOf formsL y = some [.nm, .nm, .am, .we]) : AnyD (wd y) [.s a, .s b, .n m, .n v] := by
  refine ⟨⟨y, hy, rfl⟩, soundT_of (formOf_at h e) ?_, (by simp), fun t ht => ?_⟩
  · unfold allFit
    simp [fit_nm ha, fit_nm hb, fit_am hm hm2, fit_we hv hv2]
  · simp at ht
    rcases ht with rfl | rfl | rfl | rfl
    · exact ha
    · exact hb
    · exact ⟨by omega, hm2⟩
    · exact ⟨hv, hv2⟩
include ha hm hm2 in
theorem any2 {y : Str} (hy : y ∈ words9) (h : decide (y = "cast") = false) (e : formsOf formsL y = some [.nm, .am]) : AnyD (wd y) [.s a, .n m] := by
  refine ⟨⟨y, hy, rfl⟩, soundT_of (formOf_at h e) ?_, (by simp), fun t ht => ?_⟩
  · unfold allFit
    simp [fit_nm ha, fit_am hm hm2]
  · simp at ht
    rcases ht with rfl | rfl
    · exact ha
    · exact ⟨by omega, hm2⟩
include ha hb in
theorem anyH : AnyD (wd "hand") [.s a, .s b] := by
  refine ⟨⟨_, by decide +kernel, rfl⟩, soundT_of (formOf_at (by decide +kernel) (ks := [.nm, .nm]) rfl) ?_, (by simp), fun t ht => ?_⟩
  · unfold allFit
    simp [fit_nm ha, fit_nm hb]
  · simp at ht
    rcases ht with rfl | rfl
    · exact ha
    · exact hb
include ha in
theorem anyL : AnyD (wd "land") [.s a] := by
  refine ⟨⟨_, by decide +kernel, rfl⟩, soundT_of (formOf_at (by decide +kernel) (ks := [.nm]) rfl) ?_, (by simp), fun t ht => ?_⟩
  · unfold allFit
    simp [fit_nm ha]
  · simp at ht
    subst ht
    exact ha
end
theorem anyS : AnyD (wd "still") [] := ⟨⟨_, by decide +kernel, rfl⟩, soundT_of (formOf_at (by decide +kernel) (ks := []) rfl) rfl, (by decide), fun t ht => nomatch ht⟩
def flatP (ps : List Pr) : List Th := ps.flatMap fun p => [.s p.1, .n p.2]
theorem flatP_len (ps : List Pr) : (flatP ps).length = 2 * ps.length := by
  induction ps with
  | nil => rfl
  | cons p ps ih => show (flatP ps).length + 1 + 1 = 2 * (ps.length + 1); omega
theorem flatP_snoc (ps : List Pr) (p : Pr) : flatP (ps ++ [p]) = flatP ps ++ [.s p.1, .n p.2] := by
  unfold flatP
  rw [List.flatMap_append]
  rfl
theorem allFit_flat {ps : List Pr} (h : ∀ p ∈ ps, NameOk p.1 ∧ 1 ≤ p.2 ∧ p.2 ≤ 1000000000) : (List.zipWith fitsT (flatP ps) (pairsK ps.length)).all id = true := by
  induction ps with
  | nil => rfl
  | cons p ps ih =>
    have h1 := h p List.mem_cons_self
    show (fitsT (.s p.1) .nm && (fitsT (.n p.2) .am && (List.zipWith fitsT (flatP ps) (pairsK ps.length)).all id)) = true
    rw [fit_nm h1.1, fit_am h1.2.1 h1.2.2, ih fun q hq => h q (List.mem_cons_of_mem _ hq)]
    rfl
theorem pairsK_len (n : Nat) : (pairsK n).length = 2 * n := by
  unfold pairsK
  rw [len_rep]
  show n * 2 = _
  omega
theorem anyC {ps : List Pr} (h : ∀ p ∈ ps, NameOk p.1 ∧ 1 ≤ p.2 ∧ p.2 ≤ 1000000000) (h0 : 1 ≤ ps.length) (h1 : ps.length ≤ 100) : AnyD (wd "cast") (flatP ps) := by
  have e : max 1 (((flatP ps).length + 1) / 2) = ps.length := by rw [flatP_len]; omega
  refine ⟨⟨_, by decide +kernel, rfl⟩, soundT_of (ks := pairsK ps.length) (by unfold formOf; rw [if_pos rfl, e]) ?_, by rw [flatP_len]; omega, fun t ht => ?_⟩
  · unfold allFit
    rw [decide_eq_true (by rw [flatP_len, pairsK_len]), allFit_flat h]
    rfl
  · obtain ⟨p, hp, hm⟩ := List.mem_flatMap.mp ht
    simp at hm
    have h1 := h p hp
    rcases hm with rfl | rfl
    · exact h1.1
    · exact ⟨by omega, h1.2.2⟩
theorem thV_wd (y : Str) (th : List Th) : thV (.s (wd y) :: th) = .str y :: th.map Th.v := by show (Th.s (wd y)).v :: _ = _; rw [wd_v]
theorem Prs.take {H : Hp} {vs : List V} {ps : List Pr} (h : Prs H vs ps) (n : Nat) : Prs H (vs.take n) (ps.take n) := by
  induction h generalizing n with
  | nil => rw [List.take_nil, List.take_nil]; exact .nil
  | cons e _ ih =>
    cases n with
    | zero => exact .nil
    | succ n => exact .cons e (ih n)
structure spAnyDeed (K : PySem.W.Frag) (vs : List V) (H : Hp) (Q : VK) (E : XK) : Prop where
  ex : ∃ (a : Addr) (ms : List Int) (k : Int), vs = [.ref a, .int k] ∧ SqL K H a (ms.map V.int) ∧ ms.length ≤ 63 ∧ 0 ≤ k ∧
    ∀ (z : Addr) (x : List Nat) (th : List Th) (H' : Hp), Same H H' → H' z = some (.tup (thV (.s x :: th))) → H z = none → AnyD x th → Q (.ref z) H'
theorem use_any {K : PySem.W.Frag} {H : Hp} {Q : VK} {E : XK} {a : Addr} {ms : List Int} {k : Int} (hS : SqL K H a (ms.map V.int)) (h63 : ms.length ≤ 63) (h1 : 0 ≤ k)
    (h : ∀ (z : Addr) (x : List Nat) (th : List Th) (H' : Hp), Same H H' → H' z = some (.tup (thV (.s x :: th))) → H z = none → AnyD x th → Q (.ref z) H') : spAnyDeed K [.ref a, .int k] H Q E := ⟨a, ms, k, rfl, hS, h63, h1, h⟩
structure DeedOk (ds : List Th) (n : Nat) : Prop where
  hd : ∃ x th, ds = .s x :: th
  ok : ∀ t ∈ ds, t.ok
  len : ds.length ≤ n
theorem AnyD.deed {x : List Nat} {th : List Th} (h : AnyD x th) : DeedOk (.s x :: th) 201 := by
  refine ⟨⟨x, th, rfl⟩, fun t ht => ?_, by have := h.len; show th.length + 1 ≤ _; omega⟩
  rcases List.mem_cons.mp ht with z | z
  · subst z
    obtain ⟨y, hy, rfl⟩ := h.word
    have : ∀ y ∈ words9, (wd y).length ≤ 1000 := by decide +kernel
    exact this y hy
  · exact (h.good t z).ok
theorem thV_len (ds : List Th) : (thV ds).length = ds.length := List.length_map _
end L2
namespace L2
open PySem PySem.Spec PyProof.Rows
end L2
namespace L2
open PySem PySem.Spec PyProof.Rows
open Builtin Builtin.Str
def joinL (s : List Nat) : List (List Nat) → List Nat
  | [] => []
  | [a] => a
  | a :: b :: r => a ++ s ++ joinL s (b :: r)
theorem joinL_cons (s a : List Nat) (r : List (List Nat)) : joinL s (a :: r) = a ++ (r.map (s ++ ·)).flatten := by
  induction r generalizing a with
  | nil => simp [joinL]
  | cons b r ih =>
    show a ++ s ++ joinL s (b :: r) = _
    rw [ih b]
    simp
theorem joinL_snoc (s : List Nat) {l : List (List Nat)} (h : l ≠ []) (b : List Nat) : joinL s (l ++ [b]) = joinL s l ++ s ++ b := by
  cases l with
  | nil => exact absurd rfl h
  | cons a r =>
    rw [List.cons_append, joinL_cons, joinL_cons, List.map_append, List.flatten_append]
    simp
theorem glued_sep (s : List Nat) : ∀ (l : List Str) (acc : Array Nat), (l.foldl (fun acc p => acc ++ (tx s).cps ++ p.cps) acc).toList = acc.toList ++ (l.map fun p => s ++ p.cps.toList).flatten
  | [], acc => by simp
  | p :: r, acc => by
    rw [List.foldl_cons, glued_sep s r]
    simp
theorem glued_join (s : List Nat) (css : List (List Nat)) : glued (tx s) (css.map tx) = tx (joinL s css) := by
  cases css with
  | nil => rfl
  | cons a r =>
    unfold glued
    have h := glued_sep s (r.map tx) a.toArray
    rw [joinL_cons]
    have e : ((r.map tx).map fun p : Str => s ++ p.cps.toList) = r.map (s ++ ·) := by
      rw [List.map_map]
      exact List.map_congr_left fun c _ => by simp [tx]
    rw [e] at h
    have h2 : (List.foldl (fun acc p => acc ++ (tx s).cps ++ p.cps) a.toArray (r.map tx)).toList = a ++ (r.map (s ++ ·)).flatten := by
      rw [h]
    show (⟨List.foldl (fun acc p => acc ++ (tx s).cps ++ p.cps) a.toArray (r.map tx)⟩ : Str) = _
    rw [← h2]
def joinSz (s : List Nat) (css : List (List Nat)) : Nat := (css.map fun c => c.length + s.length).sum
theorem fold_lenS (s : List Nat) : ∀ (css : List (List Nat)) (n : Nat), (css.map tx).foldl (fun a p => a + p.length + (tx s).length) n = n + joinSz s css
  | [], n => by show n = n + 0; omega
  | c :: r, n => by
    rw [List.map_cons, List.foldl_cons, fold_lenS s r, tx_length, tx_length]
    show n + c.length + s.length + joinSz s r = n + (c.length + s.length + joinSz s r)
    omega
theorem joinL_len (s : List Nat) : ∀ css : List (List Nat), (joinL s css).length ≤ joinSz s css
  | [] => Nat.zero_le _
  | [a] => by show a.length ≤ (a.length + s.length) + 0; omega
  | a :: b :: r => by
    have ih := joinL_len s (b :: r)
    show (a ++ s ++ joinL s (b :: r)).length ≤ (a.length + s.length) + joinSz s (b :: r)
    rw [List.length_append, List.length_append]
    omega
section
variable {X : Cx}
theorem mt_join1 (K : PySem.W.Frag) (hK : X.K = K := by rfl) : MtR X "str.join" (fun x vs H Q => ∃ (a : Addr) (s : List Nat) (css : List (List Nat)), x = .str (tx s) ∧ vs = [.ref a] ∧ SqL K H a (txs css) ∧ joinSz s css ≤ 1000000 ∧ Q (.str (tx (joinL s css))) H) := by
  subst hK
  intro pins st σ H x vs v us Q I rx rv h
  obtain ⟨a, s, css, rfl, rfl, hS, hl, q⟩ := h
  obtain ⟨t, rfl⟩ := rx
  obtain ⟨u, rfl, ru⟩ := vals1 rv
  cases ru
  obtain ⟨its, r, pl, hz⟩ := I.list hS
  obtain ⟨l, rfl, el⟩ := vals_strs r
  have hlen : (l.map (·.1)).toArray.foldl (· + ·.length + (tx s).length) 0 = joinSz s css := by
    rw [List.foldl_toArray, el, fold_lenS]
    omega
  have hlong : tooLong ((l.map (·.1)).toArray.foldl (· + ·.length + (tx s).length) 0) = false := by
    rw [hlen]
    unfold tooLong
    exact decide_eq_false (by rw [sizeLine_eq]; omega)
  refine call_meets F.slot_str_join (typeIs_str _ _ _) F.entry_str_join (F.args_str_join_2 _ _) (meets_str_join_list (tx s) t a l hlong) ⟨pl.isList, ?_⟩
  have hg : glued (tx s) (l.map (·.1)) = tx (joinL s css) := by rw [el, glued_join]
  have hfin : (tx (joinL s css)).length ≤ sizeLine := by rw [tx_length, sizeLine_eq]; have := joinL_len s css; omega
  cases l with
  | nil => exact ⟨by rw [hg]; exact hfin, .str (tx (joinL s css)), H, I.tok _, ⟨_, by rw [hg]⟩, q⟩
  | cons p r' =>
    cases r' with
    | nil =>
      have e : p.1 = tx (joinL s css) := hg
      exact ⟨.str (tx (joinL s css)), H, I, ⟨p.2, by rw [← e]⟩, q⟩
    | cons p' r'' => exact ⟨by rw [hg]; exact hfin, .str (tx (joinL s css)), H, I.tok _, ⟨_, by rw [hg]⟩, q⟩
def shT : Th → List Nat
  | .s cs => cs
  | .n i => digs i.toNat
def smT : Th → Prop
  | .s _ => True
  | .n i => 0 ≤ i ∧ i < 10 ^ 60
theorem call_strT : CallR X (.type "str") (fun xs H Q => ∃ t : Th, xs = [t.v] ∧ smT t ∧ Q (.str (tx (shT t))) H) := by
  intro pins s σ H xs us Q I r h
  obtain ⟨t, rfl, hs, q⟩ := h
  cases t with
  | s cs =>
    obtain ⟨u, rfl, tk, rfl⟩ := vals1 r
    exact PySem.P.str_of_str ⟨.str (tx cs), H, I, ⟨tk, rfl⟩, q⟩
  | n i =>
    have hs' : 0 ≤ i ∧ i < 10 ^ 60 := hs
    refine call_str_int pins s σ H _ us Q I r ⟨i, rfl, ?_, ?_⟩
    · have h1 : i.natAbs < 2 ^ 200 := by
        have : (10 : Int) ^ 60 ≤ 2 ^ 200 := by decide +kernel
        omega
      by_cases h0 : i.natAbs = 0
      · rw [h0]; decide
      · exact Nat.lt_trans ((Nat.log2_lt h0).mpr h1) (by decide)
    · rw [show (toString i : Str) = tx (digs i.toNat) from by
        have := str_digs i.toNat
        rw [show ((i.toNat : Nat) : Int) = i by omega] at this
        exact this]
      exact q
end
end L2
namespace L2
open PySem PySem.Spec PyProof.Rows PySem.NumText
theorem comp_tupl {K : PySem.W.Frag} {a : Addr} {xs : List V} {k : Nat} {te : TE} {σ2 : St} {H : Hp} {acc : Addr} {Q : VK} (Pv : Nat → List V → Hp → Prop) (hn : xs.length ≤ 100000) (h0 : Pv 0 [] (upd H acc (.lst [])))
    (hl : ∀ (i : Nat) (out : List V) (H1 : Hp), i ≤ xs.length → H1 acc = some (.lst out) → Pv i out H1 → SqT K H1 a xs)
    (hs : ∀ (i : Nat) (x : V) (out : List V) (H1 : Hp), xs[i]? = some x → out.length = i → H1 acc = some (.lst out) → Pv i out H1 → te (σ2.set k (some x)) H1 fun v H4 => H4 acc = some (.lst out) ∧ Pv (i + 1) (out ++ [v]) (upd H4 acc (.lst (out ++ [v]))))
    (hd : ∀ (out : List V) (H1 : Hp), out.length = xs.length → H1 acc = some (.lst out) → Pv xs.length out H1 → Q (.ref acc) H1) :
    CompG (Itt K a) (gName k) te acc σ2 H Q := by
  refine comp_1 (n := xs.length) k Pv hn h0 (fun i out H1 hi ha p => ⟨xs, xs[i], hl i out H1 (Nat.le_of_lt hi) ha p, List.getElem?_eq_getElem hi⟩) (fun out H1 ha p => ⟨xs, hl _ out H1 (Nat.le_refl _) ha p, Nat.le_refl _⟩) ?_ hd
  rintro i x out H1 H2 hi ho ha p ⟨rfl, y⟩
  exact hs i x out _ (y xs (hl i out _ (Nat.le_of_lt hi) ha p)) ho ha p
structure ShOk (ds : List Th) : Prop where
  sm : ∀ t ∈ ds, smT t
  ok : ∀ t ∈ ds, t.ok
  len : ds.length ≤ 300
theorem shT_len {t : Th} (h : t.ok) (h2 : smT t) : (shT t).length ≤ 1000 := by
  cases t with
  | s cs => exact h
  | n i =>
    have h2' : 0 ≤ i ∧ i < 10 ^ 60 := h2
    have e : (10 : Int) ^ 60 = ((10 ^ 60 : Nat) : Int) := by decide +kernel
    have : i.toNat < 10 ^ (59 + 1) := by rw [e] at h2'; omega
    exact Nat.le_trans (digs_len this) (by decide)
theorem ShOk.sz {ds : List Th} (h : ShOk ds) : joinSz [32] (ds.map shT) ≤ 1000000 := by
  have h1 : ∀ (l : List Th), (∀ t ∈ l, (shT t).length ≤ 1000) → joinSz [32] (l.map shT) ≤ l.length * 1001 := fun l => by
    induction l with
    | nil => intro _; exact Nat.zero_le _
    | cons t l ih =>
      intro hl
      have a := hl t List.mem_cons_self
      have b := ih fun t ht => hl t (List.mem_cons_of_mem _ ht)
      show ((shT t).length + 1) + joinSz [32] (l.map shT) ≤ (l.length + 1) * 1001
      omega
  have := h1 ds fun t ht => shT_len (h.ok t ht) (h.sm t ht)
  have := h.len
  omega
structure spShown (K : PySem.W.Frag) (vs : List V) (H : Hp) (Q : VK) (E : XK) : Prop where
  ex : ∃ (d : Addr) (ds : List Th), vs = [.ref d] ∧ SqT K H d (thV ds) ∧ ShOk ds ∧ ∀ H', Same H H' → Q (.str (tx (joinL [32] (ds.map shT)))) H'
theorem use_shown {K : PySem.W.Frag} {H : Hp} {Q : VK} {E : XK} {d : Addr} {ds : List Th} (h : SqT K H d (thV ds)) (ok : ShOk ds) (q : ∀ H', Same H H' → Q (.str (tx (joinL [32] (ds.map shT)))) H') : spShown K [.ref d] H Q E := ⟨d, ds, rfl, h, ok, q⟩
theorem GoodT.sm {t : Th} (h : GoodT t) : smT t := by
  cases t with
  | s cs => exact True.intro
  | n i =>
    have h' : 0 ≤ i ∧ i ≤ 1000000000 := h
    exact ⟨h'.1, Int.lt_of_le_of_lt h'.2 (by decide +kernel)⟩
theorem AnyD.sh {x : List Nat} {th : List Th} (h : AnyD x th) : ShOk (.s x :: th) := by
  have d := h.deed
  refine ⟨fun t ht => ?_, d.ok, Nat.le_trans d.len (by decide)⟩
  rcases List.mem_cons.mp ht with z | z
  · subst z; exact True.intro
  · exact (h.good t z).sm
theorem AnyD.short {x : List Nat} {th : List Th} (h : AnyD x th) : (joinL [32] (x :: th.map shT)).length ≤ 100000 ∧ ∀ t ∈ th, (shT t).length ≤ 10 := by
  have ht : ∀ t ∈ th, (shT t).length ≤ 10 := fun t ht => by
    have := h.good t ht
    cases t with
    | s cs => have := NameOk.hi (show NameOk cs from this); show cs.length ≤ 10; omega
    | n i =>
      have h' : 0 ≤ i ∧ i ≤ 1000000000 := this
      exact digs_len (k := 9) (n := i.toNat) (by omega)
  refine ⟨?_, ht⟩
  have hx : x.length ≤ 10 := by
    obtain ⟨y, hy, rfl⟩ := h.word
    have : ∀ y ∈ words9, (wd y).length ≤ 10 := by decide +kernel
    exact this y hy
  have h1 : ∀ (l : List Th), (∀ t ∈ l, (shT t).length ≤ 10) → joinSz [32] (l.map shT) ≤ l.length * 11 := fun l => by
    induction l with
    | nil => intro _; exact Nat.zero_le _
    | cons t l ih =>
      intro hl
      have a := hl t List.mem_cons_self
      have b := ih fun t ht => hl t (List.mem_cons_of_mem _ ht)
      show ((shT t).length + 1) + joinSz [32] (l.map shT) ≤ (l.length + 1) * 11
      omega
  have h2 := h1 th ht
  have h3 := joinL_len [32] (x :: th.map shT)
  have h4 : joinSz [32] (x :: th.map shT) = (x.length + 1) + joinSz [32] (th.map shT) := rfl
  have := h.len
  omega
end L2
namespace L2
open PySem PySem.Spec PyProof.Rows PySem.NumText
inductive Pl : PyData → Nat → Prop
  | str {x : Str} {n : Nat} : PyData.strOk x = true → Pl (.str x) n
  | int {i : Int} {n : Nat} : Pl (.int i) n
  | list {ds : List PyData} {n : Nat} : (∀ d ∈ ds, Pl d n) → Pl (.list ds) (n + 1)
  | tuple {ds : List PyData} {n : Nat} : (∀ d ∈ ds, Pl d n) → Pl (.tuple ds) (n + 1)
theorem lay_all : ∀ {ds : List PyData}, (∀ d ∈ ds, PyData.canLay0 d = true) → PyData.canLayAll0 ds = true
  | [], _ => rfl
  | d :: r, h => by
    unfold PyData.canLayAll0
    rw [h d List.mem_cons_self, lay_all fun d hd => h d (List.mem_cons_of_mem _ hd)]
    rfl
theorem depth_all {n : Nat} : ∀ {ds : List PyData}, (∀ d ∈ ds, PyData.depth d ≤ n) → PyData.depthAll ds ≤ n
  | [], _ => Nat.zero_le _
  | d :: r, h => by
    unfold PyData.depthAll
    have h1 := h d List.mem_cons_self
    have h2 := depth_all fun d hd => h d (List.mem_cons_of_mem _ hd)
    omega
theorem eqv_all : ∀ {ds : List PyData}, (∀ d ∈ ds, PyData.eqv d d = true) → PyData.eqvAll ds ds = true
  | [], _ => rfl
  | d :: r, h => by
    unfold PyData.eqvAll
    rw [h d List.mem_cons_self, eqv_all fun d hd => h d (List.mem_cons_of_mem _ hd)]
    rfl
theorem Pl.facts {d : PyData} {n : Nat} (h : Pl d n) : PyData.canLay0 d = true ∧ PyData.depth d ≤ n ∧ PyData.eqv d d = true := by
  induction h with
  | str e => exact ⟨by unfold PyData.canLay0; exact e, Nat.zero_le _, eqv_str _⟩
  | int => exact ⟨rfl, Nat.zero_le _, eqv_int _⟩
  | list _ ih =>
    refine ⟨?_, ?_, ?_⟩
    · unfold PyData.canLay0; exact lay_all fun d hd => (ih d hd).1
    · unfold PyData.depth
      have := depth_all fun d hd => (ih d hd).2.1
      omega
    · unfold PyData.eqv; exact eqv_all fun d hd => (ih d hd).2.2
  | tuple _ ih =>
    refine ⟨?_, ?_, ?_⟩
    · unfold PyData.canLay0; exact lay_all fun d hd => (ih d hd).1
    · unfold PyData.depth
      have := depth_all fun d hd => (ih d hd).2.1
      omega
    · unfold PyData.eqv; exact eqv_all fun d hd => (ih d hd).2.2
theorem Pl.shaped {d : PyData} {n : Nat} (h : Pl d n) (hn : n ≤ 64) : SeqAt.shaped d = true := by
  unfold SeqAt.shaped
  rw [h.facts.1]
  exact decide_eq_true (Nat.le_trans h.facts.2.1 hn)
theorem Pl.eqv {d : PyData} {n : Nat} (h : Pl d n) : PyData.eqv d d = true := h.facts.2.2
def thD : Th → PyData
  | .s cs => .str (tx cs)
  | .n i => .int i
theorem thD_dt {K : PySem.W.Frag} {H : Hp} : ∀ (ds : List Th), DtA K H (thV ds) (ds.map thD)
  | [] => .nil
  | .s cs :: r => .cons (.str _) (thD_dt r)
  | .n i :: r => .cons (.int _) (thD_dt r)
theorem strOk_low {cs : List Nat} (h : ∀ c ∈ cs, c < 1000) : PyData.strOk (tx cs) = true := by
  unfold PyData.strOk
  rw [Array.all_eq_true']
  intro c hc
  have := h c (by simpa using hc)
  exact decide_eq_true (by omega)
theorem NameOk.str {x : List Nat} (h : NameOk x) : PyData.strOk (tx x) = true := strOk_low fun c hc => by have := h.letters c hc; omega
theorem AnyD.strw {x : List Nat} {th : List Th} (h : AnyD x th) : PyData.strOk (tx x) = true := by
  obtain ⟨y, hy, rfl⟩ := h.word
  have : ∀ y ∈ words9, ∀ c ∈ wd y, c < 1000 := by decide +kernel
  exact strOk_low (this y hy)
theorem AnyD.pl {x : List Nat} {th : List Th} (h : AnyD x th) : Pl (.tuple ((Th.s x :: th).map thD)) 1 := by
  refine .tuple fun d hd => ?_
  obtain ⟨t, ht, rfl⟩ := List.mem_map.mp hd
  rcases List.mem_cons.mp ht with z | z
  · subst z; exact .str h.strw
  · have := h.good t z
    cases t with
    | s cs => exact .str (NameOk.str this)
    | n i => exact .int
end L2
namespace L2
open PySem PySem.Spec PyProof.Rows PySem.NumText
abbrev Sh := List Nat × Nat × Nat
structure PP where
  nm : List Nat
  ow : List Nat
  wo : Nat
  we : Nat
  sh : List Sh
structure EE where
  x : List Nat
  th : List Th
  wh : Nat
  pts : List PP
def ShAt (H : Hp) (v : V) (s : Sh) : Prop := ∃ t r, v = .ref t ∧ H t = some (.tup [.str (tx s.1), .ref r]) ∧ H r = some (.tup [.int (s.2.1 : Int), .int (s.2.2 : Int)])
def PAt (H : Hp) (v : V) (p : PP) : Prop := ∃ t ls vs, v = .ref t ∧ H t = some (.tup [.str (tx p.nm), .str (tx p.ow), .int (p.wo : Int), .int (p.we : Int), .ref ls]) ∧ H ls = some (.lst vs) ∧ Paired (ShAt H) vs p.sh
def EAt (H : Hp) (v : V) (e : EE) : Prop := ∃ t dt ls vs, v = .ref t ∧ H t = some (.tup [.ref dt, .int (e.wh : Int), .ref ls]) ∧ H dt = some (.tup (thV (.s e.x :: e.th))) ∧ H ls = some (.lst vs) ∧ Paired (PAt H) vs e.pts
theorem ShAt.mono {H H' : Hp} {v : V} {s : Sh} (h : ShAt H v s) (g : Same H H') : ShAt H' v s := let ⟨t, r, a, b, c⟩ := h; ⟨t, r, a, g _ _ b, g _ _ c⟩
theorem PAt.mono {H H' : Hp} {v : V} {p : PP} (h : PAt H v p) (g : Same H H') : PAt H' v p := let ⟨t, ls, vs, a, b, c, d⟩ := h; ⟨t, ls, vs, a, g _ _ b, g _ _ c, Paired.mapP d fun _ _ z => z.mono g⟩
theorem EAt.mono {H H' : Hp} {v : V} {e : EE} (h : EAt H v e) (g : Same H H') : EAt H' v e := let ⟨t, dt, ls, vs, a, b, c, d, k⟩ := h; ⟨t, dt, ls, vs, a, g _ _ b, g _ _ c, g _ _ d, Paired.mapP k fun _ _ z => z.mono g⟩
theorem pr_len {α : Type} {R : V → α → Prop} : ∀ {vs : List V} {l : List α}, Paired R vs l → vs.length = l.length
  | _, _, .nil => rfl
  | _, _, .cons _ t => by rw [List.length_cons, List.length_cons, pr_len t]
theorem pr_at {α : Type} {R : V → α → Prop} : ∀ {vs : List V} {l : List α} {i : Nat} {v : V}, Paired R vs l → vs[i]? = some v → ∃ a, l[i]? = some a ∧ R v a
  | _, _, 0, _, .cons h _, e => ⟨_, rfl, by cases e; exact h⟩
  | _, _, i + 1, _, .cons _ t, e => pr_at (i := i) t e
structure ShOkP (s : Sh) : Prop where
  nm : NameOk s.1
  t : s.2.1 < 10 ^ 10
  b : s.2.2 < 10 ^ 10
structure PPok (p : PP) : Prop where
  nm : NameOk p.nm
  ow : NameOk p.ow
  wo : p.wo < 10 ^ 1000
  we : p.we < 10 ^ 10
  shl : p.sh.length ≤ 4
  sh : ∀ s ∈ p.sh, ShOkP s
structure EEok (e : EE) : Prop where
  any : AnyD e.x e.th
  wh : e.wh < 10 ^ 1000
  pl : e.pts.length ≤ 4
  pts : ∀ p ∈ e.pts, PPok p
def shW (s : Sh) : List (List Nat) := [s.1, digs s.2.1 ++ [47] ++ digs s.2.2]
def partW (p : PP) (l : List Sh) : List (List Nat) := [wd "part", p.nm, p.ow, digs p.wo, digs p.we] ++ l.flatMap shW
def partT (p : PP) : List Nat := joinL [32] (partW p p.sh)
def entR (e : EE) : List (List Nat) := [wd "deed " ++ joinL [32] ((Th.s e.x :: e.th).map shT), wd "whole " ++ digs e.wh] ++ e.pts.map partT
def papT (ros : List (List Nat)) (es : List EE) : List Nat := joinL [10] ([joinL [32] (wd "roster" :: ros)] ++ es.flatMap entR)
theorem digs_le {n k : Nat} (h : n < 10 ^ k) (hk : 1 ≤ k) : (digs n).length ≤ k := by
  have := digs_len (n := n) (k := k - 1) (by rw [show k - 1 + 1 = k by omega]; exact h)
  omega
theorem joinSz_le {s : List Nat} {m : Nat} : ∀ {l : List (List Nat)}, (∀ c ∈ l, c.length ≤ m) → joinSz s l ≤ l.length * (m + s.length)
  | [], _ => Nat.zero_le _
  | c :: l, h => by
    have a := h c List.mem_cons_self
    have b := joinSz_le (s := s) fun c hc => h c (List.mem_cons_of_mem _ hc)
    show (c.length + s.length) + joinSz s l ≤ (l.length + 1) * (m + s.length)
    rw [Nat.add_mul]
    omega
theorem shW_len : ∀ (l : List Sh), (l.flatMap shW).length = 2 * l.length
  | [] => rfl
  | s :: l => by show (l.flatMap shW).length + 1 + 1 = 2 * (l.length + 1); rw [shW_len l]; omega
theorem PPok.words {p : PP} (h : PPok p) {l : List Sh} (hl : ∀ s ∈ l, s ∈ p.sh) : ∀ c ∈ partW p l, c.length ≤ 1000 := by
  intro c hc
  rcases List.mem_append.mp hc with z | z
  · simp at z
    rcases z with rfl | rfl | rfl | rfl | rfl
    · decide +kernel
    · have := h.nm.hi; omega
    · have := h.ow.hi; omega
    · exact digs_le h.wo (by decide)
    · exact Nat.le_trans (digs_le h.we (by decide)) (by decide)
  · obtain ⟨s, hs, hm⟩ := List.mem_flatMap.mp z
    have hk := h.sh s (hl s hs)
    simp [shW] at hm
    rcases hm with rfl | rfl
    · have := hk.nm.hi; omega
    · have a := digs_le hk.t (by decide)
      have b := digs_le hk.b (by decide)
      rw [List.length_append, List.length_cons]
      omega
theorem partW_len (p : PP) (l : List Sh) : (partW p l).length = 5 + 2 * l.length := by
  unfold partW
  rw [List.length_append, shW_len]
  rfl
theorem PPok.size {p : PP} (h : PPok p) {l : List Sh} (hl : ∀ s ∈ l, s ∈ p.sh) (hn : l.length ≤ 4) : joinSz [32] (partW p l) ≤ 20000 ∧ (joinL [32] (partW p l)).length ≤ 20000 := by
  have h1 := joinSz_le (s := [32]) (h.words hl)
  rw [partW_len] at h1
  have h2 := joinL_len [32] (partW p l)
  have h3 : (5 + 2 * l.length) * (1000 + [32].length) ≤ 13 * 1001 := Nat.mul_le_mul (by omega) (by decide)
  omega
theorem PPok.text {p : PP} (h : PPok p) : (partT p).length ≤ 20000 := (h.size (fun _ z => z) h.shl).2
theorem partW_snoc (p : PP) (l : List Sh) (s : Sh) : partW p (l ++ [s]) = partW p l ++ [s.1] ++ [digs s.2.1 ++ [47] ++ digs s.2.2] := by
  unfold partW
  rw [List.flatMap_append]
  simp [shW]
theorem AnyD.short3 {x : List Nat} {th : List Th} (h : AnyD x th) : (joinL [32] ((Th.s x :: th).map shT)).length ≤ 3000 := by
  have hc : ∀ c ∈ (Th.s x :: th).map shT, c.length ≤ 10 := fun c hc => by
    obtain ⟨t, ht, rfl⟩ := List.mem_map.mp hc
    rcases List.mem_cons.mp ht with z | z
    · subst z
      obtain ⟨y, hy, rfl⟩ := h.word
      have : ∀ y ∈ words9, (wd y).length ≤ 10 := by decide +kernel
      exact this y hy
    · exact h.short.2 t z
  have h1 := joinSz_le (s := [32]) hc
  have h2 := joinL_len [32] ((Th.s x :: th).map shT)
  have h3 := h.len
  have h4 : ((Th.s x :: th).map shT).length * (10 + [32].length) = (th.length + 1) * 11 := by rw [List.length_map]; rfl
  omega
theorem EEok.rows {e : EE} (h : EEok e) : ∀ c ∈ entR e, c.length ≤ 21000 := by
  intro c hc
  rcases List.mem_append.mp hc with z | z
  · simp only [List.mem_cons, List.not_mem_nil, or_false] at z
    rcases z with rfl | rfl
    · rw [List.length_append]
      have := h.any.short3
      have e5 : (wd "deed ").length = 5 := by decide +kernel
      omega
    · rw [List.length_append]
      have a := digs_le h.wh (by decide)
      have e5 : (wd "whole ").length = 6 := by decide +kernel
      omega
  · obtain ⟨p, hp, rfl⟩ := List.mem_map.mp z
    have := (h.pts p hp).text
    omega
def shD (s : Sh) : PyData := .tuple [.str (tx s.1), .tuple [.int (s.2.1 : Int), .int (s.2.2 : Int)]]
def ppD (p : PP) : PyData := .tuple [.str (tx p.nm), .str (tx p.ow), .int (p.wo : Int), .int (p.we : Int), .list (p.sh.map shD)]
def eeD (e : EE) : PyData := .tuple [.tuple ((Th.s e.x :: e.th).map thD), .int (e.wh : Int), .list (e.pts.map ppD)]
theorem pr_dt {α : Type} {K : PySem.W.Frag} {H : Hp} {R : V → α → Prop} {D : α → PyData} (f : ∀ v a, R v a → Dt K H v (D a)) : ∀ {vs : List V} {l : List α}, Paired R vs l → DtA K H vs (l.map D)
  | _, _, .nil => .nil
  | _, _, .cons h t => .cons (f _ _ h) (pr_dt f t)
theorem ShAt.dt {K : PySem.W.Frag} {H : Hp} {v : V} {s : Sh} (h : ShAt H v s) : Dt K H v (shD s) := by
  obtain ⟨t, r, rfl, a, b⟩ := h
  exact .tup (SqT.of a) (.cons (.str _) (.cons (.tup (SqT.of b) (.cons (.int _) (.cons (.int _) .nil))) .nil))
theorem PAt.dt {K : PySem.W.Frag} {H : Hp} {v : V} {p : PP} (h : PAt H v p) : Dt K H v (ppD p) := by
  obtain ⟨t, ls, vs, rfl, a, b, c⟩ := h
  exact .tup (SqT.of a) (.cons (.str _) (.cons (.str _) (.cons (.int _) (.cons (.int _) (.cons (.lst (SqL.of b) (pr_dt (fun _ _ z => ShAt.dt z) c)) .nil)))))
theorem EAt.dt {K : PySem.W.Frag} {H : Hp} {v : V} {e : EE} (h : EAt H v e) : Dt K H v (eeD e) := by
  obtain ⟨t, dt, ls, vs, rfl, a, b, c, d⟩ := h
  exact .tup (SqT.of a) (.cons (.tup (SqT.of b) (thD_dt _)) (.cons (.int _) (.cons (.lst (SqL.of c) (pr_dt (fun _ _ z => PAt.dt z) d)) .nil)))
theorem ShOkP.pl {s : Sh} (h : ShOkP s) : Pl (shD s) 2 := by
  refine .tuple fun d hd => ?_
  simp at hd
  rcases hd with rfl | rfl
  · exact .str h.nm.str
  · refine .tuple fun d hd => ?_
    simp at hd
    rcases hd with rfl | rfl <;> exact .int
theorem PPok.pl' {p : PP} (h : PPok p) : Pl (ppD p) 4 := by
  refine .tuple fun d hd => ?_
  simp only [List.mem_cons, List.not_mem_nil, or_false] at hd
  rcases hd with rfl | rfl | rfl | rfl | rfl
  · exact .str h.nm.str
  · exact .str h.ow.str
  · exact .int
  · exact .int
  · refine .list fun d hd => ?_
    obtain ⟨s, hs, rfl⟩ := List.mem_map.mp hd
    exact (h.sh s hs).pl
theorem Pl.up {d : PyData} {n m : Nat} (h : Pl d n) (hm : n ≤ m) : Pl d m := by
  induction h generalizing m with
  | str e => exact .str e
  | int => exact .int
  | list _ ih =>
    cases m with
    | zero => omega
    | succ m => exact .list fun d hd => ih d hd (by omega)
  | tuple _ ih =>
    cases m with
    | zero => omega
    | succ m => exact .tuple fun d hd => ih d hd (by omega)
theorem EEok.pl' {e : EE} (h : EEok e) : Pl (eeD e) 6 := by
  refine .tuple fun d hd => ?_
  simp only [List.mem_cons, List.not_mem_nil, or_false] at hd
  rcases hd with rfl | rfl | rfl
  · exact h.any.pl.up (by decide)
  · exact .int
  · refine .list fun d hd => ?_
    obtain ⟨p, hp, rfl⟩ := List.mem_map.mp hd
    exact (h.pts p hp).pl'
end L2
namespace L2
open PySem PySem.Spec PyProof.Rows PySem.NumText Builtin Builtin.Str
section
variable {X : Cx}
def tF1 (pre : Str) (ta : TE) : TE := fun σ H Q => ta σ H fun x H1 => ∃ cs : List Nat, x = .str (tx cs) ∧ cs.length ≤ 1000000 ∧ Q (.str (tx (wd pre ++ cs))) H1
theorem pe_f1 {a : Expr} {ta : TE} {pre : Str} {k : Nat} {p1 p2 pos : Pos} (ha : PE X a ta) (hm : pre.length ≤ 1000) : PE X (.JoinedStr [.Constant (.str pre) k p1, .FormattedValue a (-1) none p2] pos) (tF1 pre ta) := by
  intro pins s σ H Q I h
  have e0 : ∀ cs : List Nat, (Str.empty ++ tx cs : Str) = tx cs := fun cs => by
    show (tx [] ++ tx cs : Str) = _
    rw [tx_cat]; rfl
  have hpl : (wd pre).length ≤ 1000 := by have e := tx_length (wd pre); rw [wd_tx] at e; omega
  refine JoinedStr_many (joinParts_cons (Calls.Constant_str ?_))
  have hpre : (Str.empty ++ pre : Str) = tx (wd pre) := by
    conv => lhs; rw [← wd_tx pre]
    exact e0 _
  show (Str.empty ++ pre : Str).length ≤ sizeLine ∧ wpAny _ _ (joinParts (Str.empty ++ pre) _) _ _ _
  rw [hpre]
  refine ⟨by rw [tx_length, sizeLine_eq]; omega, ?_⟩
  refine joinParts_cons (wpAny_FormattedValue_plain (thn (ha pins _ σ H _ (I.tok _) h) fun v s1 ⟨x, H1, I1, r1, q1⟩ => ?_))
  obtain ⟨cs, rfl, hcl, q1⟩ := q1
  obtain ⟨t, rfl⟩ := r1
  refine SB.field_str (fun t' k => ?_) (by rw [tx_length, sizeLine_eq]; omega)
  show (tx (wd pre) ++ tx cs : Str).length ≤ sizeLine ∧ wpAny _ _ (joinParts (tx (wd pre) ++ tx cs) _) _ _ _
  rw [tx_cat]
  have hlen : (tx (wd pre ++ cs)).length ≤ sizeLine := by rw [tx_length, List.length_append, sizeLine_eq]; omega
  exact ⟨hlen, joinParts_nil ⟨.str (tx (wd pre ++ cs)), H1, I1.tok _, ⟨_, rfl⟩, q1⟩ hlen⟩
end
structure spPartRow (vs : List V) (H : Hp) (Q : VK) (E : XK) : Prop where
  ex : ∃ (v : V) (p : PP), vs = [v] ∧ PAt H v p ∧ PPok p ∧ ∀ H', Same H H' → Q (.str (tx (partT p))) H'
theorem use_partrow {H : Hp} {Q : VK} {E : XK} {v : V} {p : PP} (h : PAt H v p) (ok : PPok p) (q : ∀ H', Same H H' → Q (.str (tx (partT p))) H') : spPartRow [v] H Q E := ⟨v, p, rfl, h, ok, q⟩
structure PapOk (ros : List (List Nat)) (l : List EE) : Prop where
  rl : ros.length ≤ 10
  rn : ∀ x ∈ ros, NameOk x
  el : l.length ≤ 4
  ok : ∀ e ∈ l, EEok e
structure PapAt (H : Hp) (r es : Addr) (ros : List (List Nat)) (l : List EE) : Prop where
  r : H r = some (.lst (txs ros))
  es : ∃ vs, H es = some (.lst vs) ∧ Paired (EAt H) vs l
theorem PapAt.mono {H H' : Hp} {r es : Addr} {ros : List (List Nat)} {l : List EE} (h : PapAt H r es ros l) (g : Same H H') : PapAt H' r es ros l := by
  obtain ⟨vs, a, b⟩ := h.es
  exact ⟨g _ _ h.r, vs, g _ _ a, Paired.mapP b fun _ _ z => z.mono g⟩
structure spWritten (vs : List V) (H : Hp) (Q : VK) (E : XK) : Prop where
  ex : ∃ (r es : Addr) (ros : List (List Nat)) (l : List EE), vs = [.ref r, .ref es] ∧ PapAt H r es ros l ∧ PapOk ros l ∧ ∀ H', Same H H' → Q (.str (tx (papT ros l))) H'
theorem use_written {H : Hp} {Q : VK} {E : XK} {r es : Addr} {ros : List (List Nat)} {l : List EE} (h : PapAt H r es ros l) (ok : PapOk ros l) (q : ∀ H', Same H H' → Q (.str (tx (papT ros l))) H') : spWritten [.ref r, .ref es] H Q E := ⟨r, es, ros, l, rfl, h, ok, q⟩
structure spPaper (K : PySem.W.Frag) (vs : List V) (H : Hp) (Q : VK) (E : XK) : Prop where
  ex : ∃ (a : Addr) (ms : List Int) (k : Int), vs = [.ref a, .int k] ∧ SqL K H a (ms.map V.int) ∧ ms.length ≤ 63 ∧ 0 ≤ k ∧ ∀ (t r es : Addr) (ros : List (List Nat)) (l : List EE) (H' : Hp), Same H H' → H' t = some (.tup [.ref r, .ref es]) → PapAt H' r es ros l → PapOk ros l → Q (.ref t) H'
theorem use_paper {K : PySem.W.Frag} {H : Hp} {Q : VK} {E : XK} {a : Addr} {ms : List Int} {k : Int} (hS : SqL K H a (ms.map V.int)) (h63 : ms.length ≤ 63) (h1 : 0 ≤ k) (h : ∀ (t r es : Addr) (ros : List (List Nat)) (l : List EE) (H' : Hp), Same H H' → H' t = some (.tup [.ref r, .ref es]) → PapAt H' r es ros l → PapOk ros l → Q (.ref t) H') : spPaper K [.ref a, .int k] H Q E := ⟨a, ms, k, rfl, hS, h63, h1, h⟩
structure spPaperCopy (vs : List V) (H : Hp) (Q : VK) (E : XK) : Prop where
  ex : ∃ (es : Addr) (xs : List V) (l : List EE), vs = [.ref es] ∧ H es = some (.lst xs) ∧ Paired (EAt H) xs l ∧ l.length ≤ 4 ∧ (∀ e ∈ l, e.pts.length ≤ 4 ∧ ∀ p ∈ e.pts, p.sh.length ≤ 4) ∧ ∀ (z : Addr) (ys : List V) (H' : Hp), Same H H' → H' z = some (.lst ys) → Paired (EAt H') ys l → Q (.ref z) H'
theorem use_papercopy {H : Hp} {Q : VK} {E : XK} {es : Addr} {xs : List V} {l : List EE} (h : H es = some (.lst xs)) (hp : Paired (EAt H) xs l) (hl : l.length ≤ 4) (hb : ∀ e ∈ l, e.pts.length ≤ 4 ∧ ∀ p ∈ e.pts, p.sh.length ≤ 4) (q : ∀ (z : Addr) (ys : List V) (H' : Hp), Same H H' → H' z = some (.lst ys) → Paired (EAt H') ys l → Q (.ref z) H') : spPaperCopy [.ref es] H Q E := ⟨es, xs, l, rfl, h, hp, hl, hb, q⟩
end L2
namespace L2
open PySem PySem.Spec PyProof.Rows PySem.NumText
theorem ShAt.upd {H : Hp} {v : V} {s : Sh} {x : Addr} {xs : List V} {o : HO} (h : ShAt H v s) (hx : H x = some (.lst xs)) : ShAt (upd H x o) v s := by
  obtain ⟨t, r, a, b, c⟩ := h
  exact ⟨t, r, a, by rw [upd_ne (ne_of b hx (fun z => nomatch z))]; exact b, by rw [upd_ne (ne_of c hx (fun z => nomatch z))]; exact c⟩
def PAv (N : List Addr) (H : Hp) (v : V) (p : PP) : Prop := ∃ t ls vs, v = .ref t ∧ H t = some (.tup [.str (tx p.nm), .str (tx p.ow), .int (p.wo : Int), .int (p.we : Int), .ref ls]) ∧ H ls = some (.lst vs) ∧ Paired (ShAt H) vs p.sh ∧ ls ∉ N
def EAv (N : List Addr) (H : Hp) (v : V) (e : EE) : Prop := ∃ t dt ls vs, v = .ref t ∧ H t = some (.tup [.ref dt, .int (e.wh : Int), .ref ls]) ∧ H dt = some (.tup (thV (.s e.x :: e.th))) ∧ H ls = some (.lst vs) ∧ Paired (PAv N H) vs e.pts ∧ ls ∉ N
theorem PAv.mono {N : List Addr} {H H' : Hp} {v : V} {p : PP} (h : PAv N H v p) (g : Same H H') : PAv N H' v p := let ⟨t, ls, vs, a, b, c, d, n⟩ := h; ⟨t, ls, vs, a, g _ _ b, g _ _ c, Paired.mapP d fun _ _ z => z.mono g, n⟩
theorem EAv.mono {N : List Addr} {H H' : Hp} {v : V} {e : EE} (h : EAv N H v e) (g : Same H H') : EAv N H' v e := let ⟨t, dt, ls, vs, a, b, c, d, k, n⟩ := h; ⟨t, dt, ls, vs, a, g _ _ b, g _ _ c, g _ _ d, Paired.mapP k fun _ _ z => z.mono g, n⟩
theorem PAv.at {N : List Addr} {H : Hp} {v : V} {p : PP} (h : PAv N H v p) : PAt H v p := let ⟨t, ls, vs, a, b, c, d, _⟩ := h; ⟨t, ls, vs, a, b, c, d⟩
theorem EAv.at {N : List Addr} {H : Hp} {v : V} {e : EE} (h : EAv N H v e) : EAt H v e := let ⟨t, dt, ls, vs, a, b, c, d, k, _⟩ := h; ⟨t, dt, ls, vs, a, b, c, d, Paired.mapP k fun _ _ z => z.at⟩
theorem PAv.less {N M : List Addr} {H : Hp} {v : V} {p : PP} (h : PAv N H v p) (g : ∀ x ∈ M, x ∈ N) : PAv M H v p := let ⟨t, ls, vs, a, b, c, d, n⟩ := h; ⟨t, ls, vs, a, b, c, d, fun z => n (g _ z)⟩
theorem PAv.upd {N : List Addr} {H : Hp} {v : V} {p : PP} {x : Addr} {xs : List V} {o : HO} (h : PAv N H v p) (hx : H x = some (.lst xs)) (hn : x ∈ N) : PAv N (upd H x o) v p := by
  obtain ⟨t, ls, vs, a, b, c, d, n⟩ := h
  have hl : ls ≠ x := fun z => n (z ▸ hn)
  exact ⟨t, ls, vs, a, by rw [upd_ne (ne_of b hx (fun z => nomatch z))]; exact b, by rw [upd_ne hl]; exact c, Paired.mapP d fun _ _ z => z.upd hx, n⟩
theorem EAv.upd {N : List Addr} {H : Hp} {v : V} {e : EE} {x : Addr} {xs : List V} {o : HO} (h : EAv N H v e) (hx : H x = some (.lst xs)) (hn : x ∈ N) : EAv N (upd H x o) v e := by
  obtain ⟨t, dt, ls, vs, a, b, c, d, k, n⟩ := h
  have hl : ls ≠ x := fun z => n (z ▸ hn)
  exact ⟨t, dt, ls, vs, a, by rw [upd_ne (ne_of b hx (fun z => nomatch z))]; exact b, by rw [upd_ne (ne_of c hx (fun z => nomatch z))]; exact c, by rw [upd_ne hl]; exact d, Paired.mapP k fun _ _ z => z.upd hx hn, n⟩
structure spPaperPartN (K : PySem.W.Frag) (vs : List V) (H : Hp) (Q : VK) (E : XK) : Prop where
  ex : ∃ (a : Addr) (ms : List Int) (k : Int), vs = [.ref a, .int k] ∧ SqL K H a (ms.map V.int) ∧ ms.length ≤ 63 ∧ 0 ≤ k ∧ ∀ (v : V) (p : PP) (H' : Hp), Same H H' → (∀ N : List Addr, (∀ x ∈ N, H x ≠ none) → PAv N H' v p) → PPok p → Q v H'
theorem use_paperpartN {K : PySem.W.Frag} {H : Hp} {Q : VK} {E : XK} {a : Addr} {ms : List Int} {k : Int} (hS : SqL K H a (ms.map V.int)) (h63 : ms.length ≤ 63) (h1 : 0 ≤ k) (h : ∀ (v : V) (p : PP) (H' : Hp), Same H H' → (∀ N : List Addr, (∀ x ∈ N, H x ≠ none) → PAv N H' v p) → PPok p → Q v H') : spPaperPartN K [.ref a, .int k] H Q E := ⟨a, ms, k, rfl, hS, h63, h1, h⟩
theorem sz_small {b : Int} (h0 : 0 < b) (h1 : b < 2 ^ 60) : Jm.Sz 9000 b := by
  have h : b.natAbs < 2 ^ 60 := by omega
  exact Nat.lt_of_lt_of_le h (Nat.pow_le_pow_right (by decide) (by decide))
theorem fr_small {t b : Int} (ht : 0 ≤ t) (ht2 : t ≤ 1000000000) (hb : 0 < b) (hb2 : b ≤ 1000000000) : ∃ n d : Nat, (Jm.fr t b).num = (n : Int) ∧ ((Jm.fr t b).den : Int) = (d : Int) ∧ n < 10 ^ 10 ∧ d < 10 ^ 10 := by
  have h1 := Jm.fr_bounds t b 1000000000 hb (by omega) ht2
  have h2 := Jm.fr_den_le t b hb
  have h3 : 0 ≤ (Jm.fr t b).num := by
    rw [Jm.fr_num t b hb]
    exact Int.ediv_nonneg ht (Int.le_of_lt (Jm.cf_pos _ _ (.inl hb)))
  exact ⟨(Jm.fr t b).num.toNat, (Jm.fr t b).den, by omega, rfl, by omega, by omega⟩
def rAddT : R2 := fun x y H Q => ∃ a b : List Nat, x = .str (tx a) ∧ y = .str (tx b) ∧ a.length + b.length ≤ 10000000 ∧ Q (.str (tx (a ++ b))) H
theorem op_addT {X : Cx} : OpR X (binaryOp .Add) rAddT := by
  intro pins s σ H x y v u Q I rx ry h
  obtain ⟨a, b, rfl, rfl, hz, q⟩ := h
  exact op_add_str pins s σ H _ _ v u Q I rx ry ⟨tx a, tx b, rfl, rfl, by rw [tx_length, tx_length, sizeLine_eq]; omega, by rw [tx_cat]; exact q⟩
theorem wd_part : wd "part " = wd "part" ++ [32] := by decide +kernel
theorem wd_deed : wd "deed " = wd "deed" ++ [32] := by decide +kernel
theorem row0 (p : PP) : wd "part " ++ p.nm ++ wd " " ++ p.ow ++ wd " " ++ digs p.wo ++ wd " " ++ digs p.we = joinL [32] (partW p []) := by
  rw [wd_part, show wd " " = [32] by decide +kernel]
  show _ = wd "part" ++ [32] ++ (p.nm ++ [32] ++ (p.ow ++ [32] ++ (digs p.wo ++ [32] ++ digs p.we)))
  simp only [List.append_assoc]
theorem row1 (p : PP) (l : List Sh) (s : Sh) : joinL [32] (partW p l) ++ wd " " ++ s.1 ++ wd " " ++ digs s.2.1 ++ wd "/" ++ digs s.2.2 = joinL [32] (partW p (l ++ [s])) := by
  have hne : partW p l ≠ [] := fun z => by have := partW_len p l; rw [z] at this; simp at this; omega
  rw [partW_snoc, joinL_snoc [32] (by simp), joinL_snoc [32] hne, show wd " " = [32] by decide +kernel, show wd "/" = [47] by decide +kernel]
  simp only [List.append_assoc]
theorem deedRow (x : List Nat) (th : List Th) : joinL [32] (wd "deed" :: (Th.s x :: th).map shT) = wd "deed " ++ joinL [32] ((Th.s x :: th).map shT) := by
  rw [wd_deed]
  rfl
theorem txs_dt {K : PySem.W.Frag} {H : Hp} : ∀ (l : List (List Nat)), DtA K H (txs l) (l.map fun x => .str (tx x))
  | [] => .nil
  | _ :: r => .cons (.str _) (txs_dt r)
theorem txs_pl {l : List (List Nat)} (h : ∀ x ∈ l, NameOk x) : Pl (.list (l.map fun x => .str (tx x))) 1 := by
  refine .list fun d hd => ?_
  obtain ⟨x, hx, rfl⟩ := List.mem_map.mp hd
  exact .str (h x hx).str
theorem ee_pl {l : List EE} (h : ∀ e ∈ l, EEok e) : Pl (.list (l.map eeD)) 7 := by
  refine .list fun d hd => ?_
  obtain ⟨e, he, rfl⟩ := List.mem_map.mp hd
  exact (h e he).pl'
end L2
namespace Law
open PySem L2
def top (i : Nat) : Stmt := PySem.Challenge.pw_jettison_k56_papers_written.main.body.getD i (.Pass ⟨0, 0, 0, 0⟩)
section
variable {P : Program} {w : World} {K : PySem.W.Frag} {mg : Str → Option Value} {base : Heap} {f : Addr} {fd : FuncData}
abbrev sd_figures_of : Stmt := top 4
abbrev N_figures_of : List Str := ["value", "groups", "low"]
abbrev P_figures_of : List Str := ["value"]
theorem sc_figures_of : FnScope N_figures_of P_figures_of (defScope sd_figures_of) := ⟨rfl, rfl, rfl, by decide +kernel, rfl, by decide +kernel, by decide +kernel⟩
theorem ok_figures_of {tkW tkG : Tok} (F : At K mg "figures_of" sd_figures_of f fd) (z_dig : digOk K = true) (m_str : mg "str" = none) (m_divmod : mg "divmod" = none) (m_WIDTH : mg "WIDTH" = some (.int 64 tkW)) (m_GROUP : mg "GROUP" = some (.int (10 ^ 64) tkG)) : Dn P w K mg base 1 "figures_of" P_figures_of spFigs := by
  refine F.ok sc_figures_of (fun vs H Q E h => ?_) (fun cdv A outer s H vs Q E hr h => ?_) (fun _ _ _ _ _ _ us hl => match us, hl with | [_], _ => rfl)
  · obtain ⟨n, rfl, _⟩ := h.ex
    rfl
  obtain ⟨n, rfl, hn, q⟩ := h.ex
  refine ⟨_, (pss_cons (ps_set (i := 1) sc_figures_of.nd rfl (Or.inl rfl) (pe_lst pa_nil))
    (pss_cons (ps_while PassesOwn.never (pt_cmpR op_ge (pv 0) (pe_glob (v := .int (10 ^ 64)) (by rfl) m_GROUP ⟨_, rfl⟩) (nomark _)) (pss_cons (ps_asg (pe_callB call_divmodW (by rfl) m_divmod PyProof.Rows.boot_divmod (pa_cons (pv 0) (pa_cons (pe_glob (v := .int (10 ^ 64)) (by rfl) m_GROUP ⟨_, rfl⟩) pa_nil))) (pg_tupK K (n := 2) rfl (pgs_cons (pg_name (i := 0) sc_figures_of.nd rfl (Or.inl rfl)) (pgs_cons (pg_name (i := 2) sc_figures_of.nd rfl (Or.inl rfl)) pgs_nil))))
    (pss_one (ps_expr (pe_bm PySem.F.plainAttrs_list PySem.F.slot_list_append PySem.F.type_list_append mt_append (pv 1) (pa_cons (pe_bm PySem.F.plainAttrs_str PySem.F.slot_str_zfill PySem.F.type_str_zfill mt_zfill (pe_callTy (call_str_big rfl z_dig) (by rfl) m_str PyProof.Rows.boot_str (pa_cons (pv 2) pa_nil)) (pa_cons (pe_glob (v := .int 64) (by rfl) m_WIDTH ⟨_, rfl⟩) pa_nil)) pa_nil))))))
    (pss_cons (ps_expr (pe_bm PySem.F.plainAttrs_list PySem.F.slot_list_append PySem.F.type_list_append mt_append (pv 1) (pa_cons (pe_callTy (call_str_big rfl z_dig) (by rfl) m_str PyProof.Rows.boot_str (pa_cons (pv 0) pa_nil)) pa_nil)))
    (pss_one (ps_ret (pe_bm PySem.F.plainAttrs_str PySem.F.slot_str_join PySem.F.type_str_join mt_join0 pe_str (pa_cons (pe_rev K (pv 1) (pe_un un_neg pe_int)) pa_nil))))))), ?_⟩
  have e64 : (10 ^ 64 : Int) = ((10 ^ 64 : Nat) : Int) := by decide +kernel
  have hbig : ∀ v : Nat, v ≤ n → ((v : Nat) : Int).natAbs < 10 ^ 4300 := fun v hv => by
    rw [Int.natAbs_natCast]
    exact Nat.lt_of_le_of_lt hv (Nat.lt_of_lt_of_le hn (Nat.pow_le_pow_right (by decide) (by decide)))
  refine ⟨(by show 0 ≤ sizeLine; decide), fun pg hpg => ?_⟩
  have g0 := same_new hpg (.lst [])
  refine ⟨fun m σ H' => Same H H' ∧ ∃ (v : Nat) (gs : List (List Nat)) (s1 : Option V), m = v ∧ v ≤ n ∧ σ = [some (.int (v : Int)), some (.ref pg), s1] ∧ H' pg = some (.lst (txs gs)) ∧ digs n = digs v ++ gs.reverse.flatten ∧ (∀ x ∈ gs, x.length = 64),
    ⟨_, g0, n, [], none, rfl, Nat.le_refl _, rfl, upd_same, by simp, fun _ m => nomatch m⟩, ?_⟩
  have hdl : (digs n).length ≤ 2000 := digs_len (k := 1999) hn
  rintro m σ H' ⟨g, v, gs, s1, rfl, hv, rfl, hg, hd, hgl⟩
  have hgs : 64 * gs.length ≤ 2000 := by
    have h1 := congrArg List.length hd
    rw [List.length_append, flat64 (gs := gs.reverse) (fun x hx => hgl x (List.mem_reverse.mp hx)), List.length_reverse] at h1
    omega
  have hgn : (txs gs).length = gs.length := by unfold txs; rw [List.length_map]
  refine ⟨_, rfl, _, _, rfl, rfl, _, rfl, ite2 (fun c => ?_) (fun c => ?_)⟩
  · have c' : (10 ^ 64 : Int) ≤ (m : Int) := of_decide_eq_true c
    have hm : 10 ^ 64 ≤ m := by rw [e64] at c'; exact Int.ofNat_le.mp c'
    have hq0 : 0 < m / 10 ^ 64 := Nat.div_pos hm (Nat.pow_pos (by decide))
    have hr0 : m % 10 ^ 64 < 10 ^ 64 := Nat.mod_lt _ (Nat.pow_pos (by decide))
    have hlt : m / 10 ^ 64 < m := Nat.div_lt_self (Nat.lt_of_lt_of_le (Nat.pow_pos (by decide)) hm) (by decide +kernel)
    have ediv : (m : Int) / (10 ^ 64 : Int) = ((m / 10 ^ 64 : Nat) : Int) := by rw [e64]; exact (Int.natCast_ediv m (10 ^ 64)).symm
    have emod : (m : Int) % (10 ^ 64 : Int) = ((m % 10 ^ 64 : Nat) : Int) := by rw [e64]; exact (Int.natCast_emod m (10 ^ 64)).symm
    refine ⟨_, fun _ _ z => z, ?_⟩
    refine ⟨_, rfl, _, _, rfl, cdivW_sz (by decide +kernel) (sz_lit (by decide +kernel)), fun p hp => ?_⟩
    rw [ediv, emod]
    have g1 := same_new hp (.tup [.int ((m / 10 ^ 64 : Nat) : Int), .int ((m % 10 ^ 64 : Nat) : Int)])
    have hp1 : upd H' p (.tup [.int ((m / 10 ^ 64 : Nat) : Int), .int ((m % 10 ^ 64 : Nat) : Int)]) p = some (.tup [.int ((m / 10 ^ 64 : Nat) : Int), .int ((m % 10 ^ 64 : Nat) : Int)]) := upd_same
    generalize upd H' p (.tup [.int ((m / 10 ^ 64 : Nat) : Int), .int ((m % 10 ^ 64 : Nat) : Int)]) = H1 at *
    have hg1 := g1 _ _ hg
    refine ⟨p, _, rfl, SqT.of hp1, rfl, _, _, rfl, _, _, rfl, rfl, ?_⟩
    refine ⟨_, rfl, .inl ⟨rfl, _, SqL.of hg1⟩, ?_⟩
    refine ⟨_, rfl, ((m % 10 ^ 64 : Nat) : Int), rfl, hbig _ (by omega), ?_⟩
    have hdr : (digs (m % 10 ^ 64)).length ≤ 64 := digs_len (k := 63) hr0
    refine ⟨rfl, digs (m % 10 ^ 64), 64, congrArg V.str (str_digs _), rfl, by decide, by omega, digs_all _, ?_⟩
    have hgrp : digs m = digs (m / 10 ^ 64) ++ zf (digs (m % 10 ^ 64)) 64 := by
      have := digs_group (q := m / 10 ^ 64) (r := m % 10 ^ 64) (k := 63) hq0 hr0
      rw [show m / 10 ^ 64 * 10 ^ (63 + 1) + m % 10 ^ 64 = m from by rw [Nat.mul_comm]; exact Nat.div_add_mod m (10 ^ 64)] at this
      exact this
    refine ⟨pg, txs gs, _, rfl, rfl, hg1, small1000 (by omega), ?_⟩
    refine ⟨m / 10 ^ 64, hlt, (g.trans g1).upd_new hpg _, m / 10 ^ 64, gs ++ [zf (digs (m % 10 ^ 64)) 64], _, rfl, by omega, rfl, ?_, ?_, fun x hx => ?_⟩
    · rw [upd_same]
      unfold txs
      rw [List.map_append]
      rfl
    · rw [hd, hgrp, List.reverse_append]
      simp
    · rcases List.mem_append.mp hx with z | z
      · exact hgl x z
      · rw [List.mem_singleton.mp z]
        exact zf_len hdr
  · refine ⟨_, rfl, .inl ⟨rfl, _, SqL.of hg⟩, _, rfl, (m : Int), rfl, hbig _ hv, ?_⟩
    refine ⟨pg, txs gs, _, rfl, rfl, hg, small1000 (by omega), ?_⟩
    have e1 : txs gs ++ [V.str (toString ((m : Nat) : Int))] = txs (gs ++ [digs m]) := by
      rw [str_digs]
      unfold txs
      rw [List.map_append]
      rfl
    rw [e1]
    have g1 : Same H (upd H' pg (.lst (txs (gs ++ [digs m])))) := g.upd_new hpg _
    have hg1 : upd H' pg (.lst (txs (gs ++ [digs m]))) pg = some (.lst (txs (gs ++ [digs m]))) := upd_same
    generalize upd H' pg (.lst (txs (gs ++ [digs m]))) = H1 at *
    refine ⟨rfl, _, rfl, _, rfl, rfl, pg, _, rfl, SqL.of hg1, fun p2 hp2 => ?_⟩
    have g2 := same_new hp2 (.lst (txs (gs ++ [digs m])).reverse)
    have er : (txs (gs ++ [digs m])).reverse = txs (gs ++ [digs m]).reverse := by unfold txs; rw [List.map_reverse]
    have ef : (gs ++ [digs m]).reverse.flatten = digs n := by rw [hd, List.reverse_append]; simp
    refine ⟨p2, (gs ++ [digs m]).reverse, rfl, rfl, SqL.of (by rw [upd_same, er]), by rw [ef]; omega, ?_⟩
    rw [ef]
    exact q _ (g1.trans g2)
abbrev sd_ratio_text : Stmt := top 3
abbrev N_ratio_text : List Str := ["a"]
abbrev P_ratio_text : List Str := ["a"]
theorem sc_ratio_text : FnScope N_ratio_text P_ratio_text (defScope sd_ratio_text) := ⟨rfl, rfl, rfl, by decide +kernel, rfl, by decide +kernel, by decide +kernel⟩
theorem ok_ratio_text (F : At K mg "ratio_text" sd_ratio_text f fd) (D_figures_of : Dn P w K mg base 1 "figures_of" ["value"] spFigs) : Dn P w K mg base 2 "ratio_text" P_ratio_text (spRatText K) := by
  refine F.ok sc_ratio_text (fun vs H Q E h => ?_) (fun cdv A outer s H vs Q E hr h => ?_) (fun _ _ _ _ _ _ us hl => match us, hl with | [_], _ => rfl)
  · obtain ⟨a, t, b, rfl, _⟩ := h.ex
    rfl
  obtain ⟨a, t, b, rfl, ha, ht, hb, q⟩ := h.ex
  refine ⟨_, (pss_one (ps_ret (pe_f2 (pe_fn D_figures_of hr (pa_cons (pe_ix (ix_tupK K) (pv 0) pe_int (fun _ _ => rfl)) pa_nil)) (pe_fn D_figures_of hr (pa_cons (pe_ix (ix_tupK K) (pv 0) pe_int (fun _ _ => rfl)) pa_nil)) (by decide +kernel)))), ?_⟩
  have h1 : (digs t).length ≤ 2000 := digs_len (k := 1999) ht
  have h2 : (digs b).length ≤ 2000 := digs_len (k := 1999) hb
  refine ⟨_, rfl, a, _, ((0 : Nat) : Int), _, rfl, rfl, SqT.of ha, rfl, use_figs ht fun H1 g1 => ⟨digs t, rfl, by omega, ?_⟩⟩
  refine ⟨_, rfl, a, _, ((1 : Nat) : Int), _, rfl, rfl, SqT.of (g1 _ _ ha), rfl, use_figs hb fun H2 g2 => ⟨digs b, rfl, by omega, ?_⟩⟩
  exact q _ (g1.trans g2)
abbrev sd_shown : Stmt := top 6
abbrev N_shown : List Str := ["deed"]
abbrev P_shown : List Str := ["deed"]
theorem sc_shown : FnScope N_shown P_shown (defScope sd_shown) := ⟨rfl, rfl, rfl, by decide +kernel, rfl, by decide +kernel, by decide +kernel⟩
theorem ok_shown (F : At K mg "shown" sd_shown f fd) (m_str : mg "str" = none) : Dn P w K mg base 1 "shown" P_shown (spShown K) := by
  refine F.ok sc_shown (fun vs H Q E h => ?_) (fun cdv A outer s H vs Q E hr h => ?_) (fun _ _ _ _ _ _ us hl => match us, hl with | [_], _ => rfl)
  · obtain ⟨d, ds, rfl, _⟩ := h.ex
    rfl
  obtain ⟨d, ds, rfl, hd, ok, q⟩ := h.ex
  refine ⟨_, (pss_one (ps_ret (pe_bm PySem.F.plainAttrs_str PySem.F.slot_str_join PySem.F.type_str_join (mt_join1 K) pe_str (pa_cons (pe_comp ["thing"] [none] rfl (pi_tupK K (pv 0)) (fun _ _ _ _ => (pg_name (i := 0) (show List.Nodup (["thing"] : List Str) from by decide +kernel) rfl (Or.inl rfl))) (fun _ _ _ _ => (pe_callTy call_strT (by rfl) m_str PyProof.Rows.boot_str (pa_cons (pv 0) pa_nil))) rfl (by rfl)) pa_nil)))), ?_⟩
  have hl := ok.len
  refine ⟨rfl, _, rfl, d, rfl, ⟨_, hd⟩, fun acc hacc => ?_⟩
  refine comp_tupl (K := K) (xs := thV ds) (fun i out H1 => Same H H1 ∧ out = txs ((ds.take i).map shT)) (by rw [thV_len]; omega) ⟨same_new hacc _, rfl⟩ (fun i out H1 _ _ hp => hp.1.tup hd) ?_ ?_
  · rintro i x out H1 hx hol ha ⟨g, e⟩
    obtain ⟨t, rfl, et⟩ := map_at (g := Th.v) hx
    refine ⟨_, rfl, t, rfl, ok.sm t (List.mem_of_getElem? et), ha, g.upd_new hacc _, ?_⟩
    rw [List.take_add_one, et, e, List.map_append]
    unfold txs
    rw [List.map_append]
    rfl
  rintro out H1 hol ha ⟨g, e⟩
  rw [thV_len, List.take_length] at e
  refine ⟨acc, [32], ds.map shT, rfl, rfl, SqL.of (by rw [ha, e]), ok.sz, q H1 g⟩
abbrev sd_part_row : Stmt := top 9
abbrev N_part_row : List Str := ["part", "name", "owner", "worth", "weight", "shares", "words", "holder", "share"]
abbrev P_part_row : List Str := ["part"]
theorem sc_part_row : FnScope N_part_row P_part_row (defScope sd_part_row) := ⟨rfl, rfl, rfl, by decide +kernel, rfl, by decide +kernel, by decide +kernel⟩
theorem ok_part_row (F : At K mg "part_row" sd_part_row f fd) (D_figures_of : Dn P w K mg base 1 "figures_of" ["value"] spFigs) (D_ratio_text : Dn P w K mg base 2 "ratio_text" ["a"] (spRatText K)) : Dn P w K mg base 3 "part_row" P_part_row spPartRow := by
  refine F.ok sc_part_row (fun vs H Q E h => ?_) (fun cdv A outer s H vs Q E hr h => ?_) (fun _ _ _ _ _ _ us hl => match us, hl with | [_], _ => rfl)
  · obtain ⟨v, p, rfl, _⟩ := h.ex
    rfl
  obtain ⟨v, p, rfl, hp, ok, q⟩ := h.ex
  refine ⟨_, (pss_cons (ps_asg (pv 0) (pg_tupK K (n := 5) rfl (pgs_cons (pg_name (i := 1) sc_part_row.nd rfl (Or.inl rfl)) (pgs_cons (pg_name (i := 2) sc_part_row.nd rfl (Or.inl rfl)) (pgs_cons (pg_name (i := 3) sc_part_row.nd rfl (Or.inl rfl)) (pgs_cons (pg_name (i := 4) sc_part_row.nd rfl (Or.inl rfl)) (pgs_cons (pg_name (i := 5) sc_part_row.nd rfl (Or.inl rfl)) pgs_nil)))))))
    (pss_cons (ps_set (i := 6) sc_part_row.nd rfl (Or.inl rfl) (pe_lst (pa_cons pe_str (pa_cons (pv 1) (pa_cons (pv 2) (pa_cons (pe_fn D_figures_of hr (pa_cons (pv 3) pa_nil)) (pa_cons (pe_fn D_figures_of hr (pa_cons (pv 4) pa_nil)) pa_nil)))))))
    (pss_cons (ps_for PassesOwn.never rfl (pi_listK K (pv 5)) (pg_tupK K (n := 2) rfl (pgs_cons (pg_name (i := 7) sc_part_row.nd rfl (Or.inl rfl)) (pgs_cons (pg_name (i := 8) sc_part_row.nd rfl (Or.inl rfl)) pgs_nil))) (pss_cons (ps_expr (pe_bm PySem.F.plainAttrs_list PySem.F.slot_list_append PySem.F.type_list_append mt_append (pv 6) (pa_cons (pv 7) pa_nil)))
    (pss_one (ps_expr (pe_bm PySem.F.plainAttrs_list PySem.F.slot_list_append PySem.F.type_list_append mt_append (pv 6) (pa_cons (pe_fn D_ratio_text hr (pa_cons (pv 8) pa_nil)) pa_nil))))))
    (pss_one (ps_ret (pe_bm PySem.F.plainAttrs_str PySem.F.slot_str_join PySem.F.type_str_join (mt_join1 K) pe_str (pa_cons (pv 6) pa_nil))))))), ?_⟩
  obtain ⟨t, ls, vs, rfl, ht, hls, hsh⟩ := hp
  have e0 : txs (partW p []) = [.str "part", .str (tx p.nm), .str (tx p.ow), .str (tx (digs p.wo)), .str (tx (digs p.we))] := by
    show [V.str (tx (wd "part")), _, _, _, _] = _
    rw [wd_tx]
  have hwo : p.wo < 10 ^ 2000 := Nat.lt_of_lt_of_le ok.wo (Nat.pow_le_pow_right (by decide) (by decide))
  have hwe : p.we < 10 ^ 2000 := Nat.lt_of_lt_of_le ok.we (Nat.pow_le_pow_right (by decide) (by decide))
  have hshl := ok.shl
  refine ⟨_, rfl, t, _, rfl, SqT.of ht, rfl, _, _, rfl, _, _, rfl, _, _, rfl, _, _, rfl, _, _, rfl, rfl, ?_⟩
  refine ⟨_, rfl, _, rfl, _, rfl, use_figs hwo fun H1 g1 => ⟨_, rfl, use_figs hwe fun H2 g2 => ⟨(by show 5 ≤ sizeLine; decide), fun pw hpw => ?_⟩⟩⟩
  generalize hH3 : upd H2 pw (HO.lst _) = H3
  have hH3' : upd H2 pw (.lst (txs (partW p []))) = H3 := by rw [e0]; exact hH3
  have g3 : Same H2 H3 := hH3' ▸ same_new hpw _
  have hw3 : H3 pw = some (.lst (txs (partW p []))) := by rw [← hH3', upd_same]
  clear hH3 hH3'
  have g02 := g1.trans g2
  have hls2 := g02 _ _ hls
  have hsh2 : Paired (ShAt H2) vs p.sh := Paired.mapP hsh fun _ _ z => z.mono g02
  have hvl := pr_len hsh
  have htl : ∀ l : List Sh, (txs (partW p l)).length = 5 + 2 * l.length := fun l => by unfold txs; rw [List.length_map, partW_len]
  refine ⟨_, rfl, ls, rfl, ⟨_, SqL.of (g3 _ _ hls2)⟩, ?_⟩
  refine for_list (K := K) (xs := vs) (fun i σ H' => Same H2 H' ∧ ∃ (s7 s8 : Option V), σ = [some (.ref t), some (.str (tx p.nm)), some (.str (tx p.ow)), some (.int (p.wo : Int)), some (.int (p.we : Int)), some (.ref ls), some (.ref pw), s7, s8] ∧ H' pw = some (.lst (txs (partW p (p.sh.take i)))))
    ⟨g3, none, none, rfl, hw3⟩ (fun i σ H' _ hp => SqL.of (hp.1 _ _ hls2)) ?_ ?_
  · rintro i x σ H' hx ⟨g, s7, s8, rfl, hw⟩
    obtain ⟨s, es, hs⟩ := pr_at hsh2 hx
    obtain ⟨t2, r, rfl, ha, hb⟩ := hs.mono g
    have hsok := ok.sh s (List.mem_of_getElem? es)
    have hil : (p.sh.take i).length ≤ 4 := by rw [List.length_take]; omega
    have hlw := htl (p.sh.take i)
    refine ⟨t2, _, rfl, SqT.of ha, rfl, _, _, rfl, _, _, rfl, rfl, ?_⟩
    refine ⟨_, rfl, .inl ⟨rfl, _, SqL.of hw⟩, _, rfl, pw, _, _, rfl, rfl, hw, small1000 (by omega), ?_⟩
    have hl5 : (txs (partW p (p.sh.take i)) ++ [V.str (tx s.1)]).length = 5 + 2 * (p.sh.take i).length + 1 := by rw [List.length_append, hlw]; rfl
    have hr5 : upd H' pw (.lst (txs (partW p (p.sh.take i)) ++ [.str (tx s.1)])) r = some (.tup [.int (s.2.1 : Int), .int (s.2.2 : Int)]) := by rw [upd_ne (ne_of hb hw (fun z => nomatch z))]; exact hb
    have g5 := g.upd_new hpw (.lst (txs (partW p (p.sh.take i)) ++ [.str (tx s.1)]))
    have hw5 : upd H' pw (.lst (txs (partW p (p.sh.take i)) ++ [.str (tx s.1)])) pw = some (.lst (txs (partW p (p.sh.take i)) ++ [.str (tx s.1)])) := upd_same
    generalize upd H' pw (.lst (txs (partW p (p.sh.take i)) ++ [.str (tx s.1)])) = H5 at *
    refine ⟨_, rfl, .inl ⟨rfl, _, SqL.of hw5⟩, _, rfl, use_rattext hr5 (Nat.lt_of_lt_of_le hsok.t (Nat.pow_le_pow_right (by decide) (by decide))) (Nat.lt_of_lt_of_le hsok.b (Nat.pow_le_pow_right (by decide) (by decide))) fun H6 g6 => ⟨pw, _, _, rfl, rfl, g6 _ _ hw5, small1000 (by rw [hl5]; omega), (g5.trans g6).upd_new hpw _, _, _, rfl, ?_⟩⟩
    rw [upd_same, List.take_add_one, es]
    show _ = some (HO.lst (txs (partW p (p.sh.take i ++ [s]))))
    rw [partW_snoc]
    unfold txs
    rw [List.map_append, List.map_append]
    rfl
  rintro σ H' ⟨g, s7, s8, rfl, hw⟩
  rw [hvl, List.take_length] at hw
  exact ⟨rfl, _, rfl, pw, [32], partW p p.sh, rfl, rfl, SqL.of hw, Nat.le_trans (ok.size (fun _ z => z) hshl).1 (by decide), q H' (g02.trans g)⟩
abbrev sd_written : Stmt := top 8
abbrev N_written : List Str := ["roster", "entries", "rows", "deed", "whole", "parts"]
abbrev P_written : List Str := ["roster", "entries"]
theorem sc_written : FnScope N_written P_written (defScope sd_written) := ⟨rfl, rfl, rfl, by decide +kernel, rfl, by decide +kernel, by decide +kernel⟩
theorem ok_written (F : At K mg "written" sd_written f fd) (D_figures_of : Dn P w K mg base 1 "figures_of" ["value"] spFigs) (D_shown : Dn P w K mg base 1 "shown" ["deed"] (spShown K)) (D_part_row : Dn P w K mg base 3 "part_row" ["part"] spPartRow) : Dn P w K mg base 4 "written" P_written spWritten := by
  refine F.ok sc_written (fun vs H Q E h => ?_) (fun cdv A outer s H vs Q E hr h => ?_) (fun _ _ _ _ _ _ us hl => match us, hl with | [_, _], _ => rfl)
  · obtain ⟨r, es, ros, l, rfl, _⟩ := h.ex
    rfl
  obtain ⟨r, es, ros, l, rfl, hp, ok, q⟩ := h.ex
  refine ⟨_, (pss_cons (ps_set (i := 2) sc_written.nd rfl (Or.inl rfl) (pe_lst (pa_cons (pe_bm PySem.F.plainAttrs_str PySem.F.slot_str_join PySem.F.type_str_join (mt_join1 K) pe_str (pa_cons (pe_op op_cat (pe_lst (pa_cons pe_str pa_nil)) (pv 0)) pa_nil)) pa_nil)))
    (pss_cons (ps_for PassesOwn.never rfl (pi_listK K (pv 1)) (pg_tupK K (n := 3) rfl (pgs_cons (pg_name (i := 3) sc_written.nd rfl (Or.inl rfl)) (pgs_cons (pg_name (i := 4) sc_written.nd rfl (Or.inl rfl)) (pgs_cons (pg_name (i := 5) sc_written.nd rfl (Or.inl rfl)) pgs_nil)))) (pss_cons (ps_expr (pe_bm PySem.F.plainAttrs_list PySem.F.slot_list_append PySem.F.type_list_append mt_append (pv 2) (pa_cons (pe_f1 (pe_fn D_shown hr (pa_cons (pv 3) pa_nil)) (by decide +kernel)) pa_nil)))
    (pss_cons (ps_expr (pe_bm PySem.F.plainAttrs_list PySem.F.slot_list_append PySem.F.type_list_append mt_append (pv 2) (pa_cons (pe_f1 (pe_fn D_figures_of hr (pa_cons (pv 4) pa_nil)) (by decide +kernel)) pa_nil)))
    (pss_one (ps_expr (pe_bm PySem.F.plainAttrs_list PySem.F.slot_list_extend PySem.F.type_list_extend mt_extend (pv 2) (pa_cons (pe_comp ["part"] [none] rfl (pi_listK K (pv 5)) (fun _ _ _ _ => (pg_name (i := 0) (show List.Nodup (["part"] : List Str) from by decide +kernel) rfl (Or.inl rfl))) (fun _ _ _ _ => (pe_fn D_part_row hr (pa_cons (pv 0) pa_nil))) rfl (by rfl)) pa_nil)))))))
    (pss_one (ps_ret (pe_bm PySem.F.plainAttrs_str PySem.F.slot_str_join PySem.F.type_str_join (mt_join1 K) pe_str (pa_cons (pv 2) pa_nil)))))), ?_⟩
  obtain ⟨vs, hes, hE⟩ := hp.es
  have hrl := ok.rl
  have hel := ok.el
  have hvl := pr_len hE
  refine ⟨rfl, (by show 1 ≤ sizeLine; decide), fun p1 hp1 => ?_⟩
  generalize hH1 : upd H p1 (HO.lst _) = H1
  have hH1' : upd H p1 (.lst (txs [wd "roster"])) = H1 := by rw [show txs [wd "roster"] = [.str "roster"] from by show [V.str (tx (wd "roster"))] = _; rw [wd_tx]]; exact hH1
  have g1 : Same H H1 := hH1' ▸ same_new hp1 _
  have hp11 : H1 p1 = some (.lst (txs [wd "roster"])) := by rw [← hH1', upd_same]
  clear hH1 hH1'
  have hrtl : (txs ros).length = ros.length := by unfold txs; rw [List.length_map]
  refine ⟨_, rfl, p1, r, _, _, rfl, rfl, hp11, g1 _ _ hp.r, (by rw [hrtl, sizeLine_eq]; show 1 + _ ≤ _; omega), fun p2 hp2 => ?_⟩
  have g2 := same_new hp2 (.lst (txs [wd "roster"] ++ txs ros))
  have hp22 : upd H1 p2 (.lst (txs [wd "roster"] ++ txs ros)) p2 = some (.lst (txs (wd "roster" :: ros))) := by rw [upd_same]; rfl
  generalize upd H1 p2 (.lst (txs [wd "roster"] ++ txs ros)) = H2 at *
  have hrow : ∀ c ∈ wd "roster" :: ros, c.length ≤ 8 := fun c hc => by
    rcases List.mem_cons.mp hc with z | z
    · rw [z]; decide +kernel
    · exact (ok.rn c z).hi
  have hrsz := joinSz_le (s := [32]) hrow
  have hrsz2 : joinSz [32] (wd "roster" :: ros) ≤ 200 := Nat.le_trans hrsz (by show (ros.length + 1) * 9 ≤ 200; omega)
  have hr0 : (joinL [32] (wd "roster" :: ros)).length ≤ 200 := Nat.le_trans (joinL_len _ _) hrsz2
  refine ⟨p2, [32], wd "roster" :: ros, rfl, rfl, SqL.of hp22, Nat.le_trans hrsz2 (by decide), (by show 1 ≤ sizeLine; decide), fun pw hpw => ?_⟩
  generalize hH3 : upd H2 pw (HO.lst _) = H3
  have hH3' : upd H2 pw (.lst (txs ([joinL [32] (wd "roster" :: ros)] ++ ([] : List EE).flatMap entR))) = H3 := hH3
  have g3 : Same H2 H3 := hH3' ▸ same_new hpw _
  have hw3 : H3 pw = some (.lst (txs ([joinL [32] (wd "roster" :: ros)] ++ ([] : List EE).flatMap entR))) := by rw [← hH3', upd_same]
  clear hH3 hH3'
  have g02 := g1.trans g2
  have hes2 := g02 _ _ hes
  have hE2 : Paired (EAt H2) vs l := Paired.mapP hE fun _ _ z => z.mono g02
  refine ⟨_, rfl, es, rfl, ⟨_, SqL.of (g3 _ _ hes2)⟩, ?_⟩
  have hfl : ∀ k : Nat, ((l.take k).flatMap entR).length ≤ 24 := fun k => by
    have : ∀ (m : List EE), (∀ e ∈ m, EEok e) → (m.flatMap entR).length ≤ m.length * 6 := fun m => by
      induction m with
      | nil => intro _; exact Nat.zero_le _
      | cons e m ih =>
        intro hm
        have a := (hm e List.mem_cons_self).pl
        have b := ih fun e he => hm e (List.mem_cons_of_mem _ he)
        rw [List.flatMap_cons, List.length_append]
        have c : (entR e).length = 2 + e.pts.length := by unfold entR; rw [List.length_append, List.length_map]; rfl
        rw [c, List.length_cons]
        omega
    have h1 := this (l.take k) fun e he => ok.ok e (List.mem_of_mem_take he)
    have h2 : (l.take k).length ≤ 4 := by rw [List.length_take]; omega
    omega
  have htl : ∀ k : Nat, (txs ([joinL [32] (wd "roster" :: ros)] ++ (l.take k).flatMap entR)).length ≤ 25 := fun k => by
    unfold txs
    rw [List.length_map, List.length_append]
    have := hfl k
    show 1 + _ ≤ 25
    omega
  refine for_list (K := K) (xs := vs) (fun i σ H' => Same H2 H' ∧ ∃ (s3 s4 s5 : Option V), σ = [some (.ref r), some (.ref es), some (.ref pw), s3, s4, s5] ∧ H' pw = some (.lst (txs ([joinL [32] (wd "roster" :: ros)] ++ (l.take i).flatMap entR))))
    ⟨g3, none, none, none, rfl, hw3⟩ (fun i σ H' _ hp => SqL.of (hp.1 _ _ hes2)) ?_ ?_
  · rintro i x σ H' hx ⟨g, s3, s4, s5, rfl, hw⟩
    obtain ⟨e, ee, he⟩ := pr_at hE2 hx
    obtain ⟨t, dt, ls, vp, rfl, ha2, hb2, hc2, hd2⟩ := he
    have ha := g _ _ ha2
    have hb := g _ _ hb2
    have hok := ok.ok e (List.mem_of_getElem? ee)
    have hlw := htl i
    generalize hW : [joinL [32] (wd "roster" :: ros)] ++ (l.take i).flatMap entR = W at *
    refine ⟨t, _, rfl, SqT.of ha, rfl, _, _, rfl, _, _, rfl, _, _, rfl, rfl, ?_⟩
    refine ⟨_, rfl, .inl ⟨rfl, _, SqL.of hw⟩, _, rfl, use_shown (SqT.of hb) hok.any.sh fun H5 g5 => ⟨_, rfl, Nat.le_trans hok.any.short.1 (by decide), pw, _, _, rfl, rfl, g5 _ _ hw, small1000 (by omega), ?_⟩⟩
    have g6 := (g.trans g5).upd_new hpw (.lst (txs W ++ [.str (tx (wd "deed " ++ joinL [32] ((Th.s e.x :: e.th).map shT)))]))
    have hw6 : upd H5 pw (.lst (txs W ++ [.str (tx (wd "deed " ++ joinL [32] ((Th.s e.x :: e.th).map shT)))])) pw = some (.lst (txs (W ++ [wd "deed " ++ joinL [32] ((Th.s e.x :: e.th).map shT)]))) := by
      rw [upd_same]
      unfold txs
      rw [List.map_append]
      rfl
    generalize upd H5 pw (.lst (txs W ++ [.str (tx (wd "deed " ++ joinL [32] ((Th.s e.x :: e.th).map shT)))])) = H6 at *
    have hl6 : (txs (W ++ [wd "deed " ++ joinL [32] ((Th.s e.x :: e.th).map shT)])).length = (txs W).length + 1 := by unfold txs; rw [List.length_map, List.length_map, List.length_append]; rfl
    generalize hW6 : W ++ [wd "deed " ++ joinL [32] ((Th.s e.x :: e.th).map shT)] = W6 at *
    refine ⟨_, rfl, .inl ⟨rfl, _, SqL.of hw6⟩, _, rfl, use_figs (Nat.lt_of_lt_of_le hok.wh (Nat.pow_le_pow_right (by decide) (by decide))) fun H7 g7 => ⟨_, rfl, Nat.le_trans (digs_le hok.wh (by decide)) (by decide), pw, _, _, rfl, rfl, g7 _ _ hw6, small1000 (by rw [hl6]; omega), ?_⟩⟩
    have g8 := (g6.trans g7).upd_new hpw (.lst (txs W6 ++ [.str (tx (wd "whole " ++ digs e.wh))]))
    have hw8 : upd H7 pw (.lst (txs W6 ++ [.str (tx (wd "whole " ++ digs e.wh))])) pw = some (.lst (txs (W6 ++ [wd "whole " ++ digs e.wh]))) := by
      rw [upd_same]
      unfold txs
      rw [List.map_append]
      rfl
    generalize upd H7 pw (.lst (txs W6 ++ [.str (tx (wd "whole " ++ digs e.wh))])) = H8 at *
    have hl8 : (txs (W6 ++ [wd "whole " ++ digs e.wh])).length = (txs W6).length + 1 := by unfold txs; rw [List.length_map, List.length_map, List.length_append]; rfl
    have hpl := hok.pl
    have hvpl := pr_len hd2
    refine ⟨_, rfl, .inl ⟨rfl, _, SqL.of hw8⟩, _, rfl, ls, rfl, ⟨_, SqL.of (g8 _ _ hc2)⟩, fun acc hacc => ?_⟩
    refine comp_list (K := K) (xs := vp) (fun j out H9 => Same H8 H9 ∧ out = txs ((e.pts.take j).map partT)) (by omega) ⟨same_new hacc _, rfl⟩ (fun j out H9 _ _ hp => SqL.of (hp.1 _ _ (g8 _ _ hc2))) ?_ ?_
    · rintro j y out H9 hy hol h9 ⟨g9, e9⟩
      obtain ⟨p, ep, hpp⟩ := pr_at hd2 hy
      refine ⟨_, rfl, use_partrow (hpp.mono (g8.trans g9)) (hok.pts p (List.mem_of_getElem? ep)) fun H10 g10 => ⟨g10 _ _ h9, (g9.trans g10).upd_new hacc _, ?_⟩⟩
      rw [List.take_add_one, ep, e9, List.map_append]
      unfold txs
      rw [List.map_append]
      rfl
    rintro out H9 hol h9 ⟨g9, e9⟩
    rw [hvpl, List.take_length] at e9
    refine ⟨pw, acc, _, _, rfl, rfl, g9 _ _ hw8, h9, ?_, (g8.trans g9).upd_new hpw _, _, _, _, rfl, ?_⟩
    · rw [hl8, hl6, hol, sizeLine_eq]; omega
    · rw [upd_same, e9, List.take_add_one, ee]
      show _ = some (HO.lst (txs ([joinL [32] (wd "roster" :: ros)] ++ (l.take i ++ [e]).flatMap entR)))
      rw [List.flatMap_append, ← List.append_assoc, hW, show [e].flatMap entR = entR e from by simp, ← hW6]
      unfold txs entR
      simp only [List.map_append, List.append_assoc]
      rfl
  rintro σ H' ⟨g, s3, s4, s5, rfl, hw⟩
  rw [hvl, List.take_length] at hw
  refine ⟨rfl, _, rfl, pw, [10], [joinL [32] (wd "roster" :: ros)] ++ l.flatMap entR, rfl, rfl, SqL.of hw, ?_, q H' (g02.trans g)⟩
  have hrows : ∀ c ∈ [joinL [32] (wd "roster" :: ros)] ++ l.flatMap entR, c.length ≤ 21000 := fun c hc => by
    rcases List.mem_append.mp hc with z | z
    · rw [List.mem_singleton.mp z]; omega
    · obtain ⟨e, he, hm⟩ := List.mem_flatMap.mp z
      exact (ok.ok e he).rows c hm
  have h1 := joinSz_le (s := [10]) hrows
  have h2 := hfl l.length
  rw [List.take_length] at h2
  have h3 : ([joinL [32] (wd "roster" :: ros)] ++ l.flatMap entR).length * (21000 + [10].length) ≤ 25 * 21001 := Nat.mul_le_mul (by rw [List.length_append]; show 1 + _ ≤ 25; omega) (Nat.le_refl _)
  omega
abbrev sd__law_draw : Stmt := top 11
abbrev N__law_draw : List Str := ["_law_script", "_law_k", "_law_j", "_law_many", "_law_cell", "_law_turn", "_law_rest", "_law_step", "_law_one", "_law_two"]
abbrev P__law_draw : List Str := ["_law_script", "_law_k", "_law_j", "_law_many"]
theorem sc__law_draw : FnScope N__law_draw P__law_draw (defScope sd__law_draw) := ⟨rfl, rfl, rfl, by decide +kernel, rfl, by decide +kernel, by decide +kernel⟩
theorem ok__law_draw (F : At K mg "_law_draw" sd__law_draw f fd) (m_len : mg "len" = none) (m_range : mg "range" = none) : Dn P w K mg base 1 "_law_draw" P__law_draw (spDraw K) := by
  refine F.ok sc__law_draw (fun vs H Q E h => ?_) (fun cdv A outer s H vs Q E hr h => ?_) (fun _ _ _ _ _ _ us hl => match us, hl with | [_, _, _, _], _ => rfl)
  · obtain ⟨a, ns, k, j, many, rfl, _⟩ := h.ex
    rfl
  obtain ⟨a, ns, k, j, many, rfl, hS, h63, hk, hj, hj2, hm, q⟩ := h.ex
  refine ⟨_, (pss_cons (ps_set (i := 4) sc__law_draw.nd rfl (Or.inl rfl) pe_int)
    (pss_cons (ps_set (i := 5) sc__law_draw.nd rfl (Or.inl rfl) pe_int)
    (pss_cons (ps_ifJ (pt_cmpR op_gt (pe_callB (call_lenK K) (by rfl) m_len PySem.boot_len (pa_cons (pv 0) pa_nil)) pe_int (nomark _)) (pss_cons (ps_set (i := 4) sc__law_draw.nd rfl (Or.inl rfl) (pe_ix (ix_listK K) (pv 0) (pe_op op_mod (pv 1) (pe_callB (call_lenK K) (by rfl) m_len PySem.boot_len (pa_cons (pv 0) pa_nil))) (fun _ _ => rfl)))
    (pss_one (ps_set (i := 5) sc__law_draw.nd rfl (Or.inl rfl) (pe_op op_fdivW (pv 1) (pe_callB (call_lenK K) (by rfl) m_len PySem.boot_len (pa_cons (pv 0) pa_nil)))))) pss_nil)
    (pss_cons (ps_set (i := 6) sc__law_draw.nd rfl (Or.inl rfl) (pv 4))
    (pss_cons (ps_for PassesOwn.never rfl (pi_range1 (by rfl) m_range (pa_cons (pv 2) pa_nil)) (pg_name (i := 7) sc__law_draw.nd rfl (Or.inl rfl)) (pss_one (ps_set (i := 6) sc__law_draw.nd rfl (Or.inl rfl) (pe_op op_fdivW (pv 6) (pe_op op_pow pe_int pe_int)))))
    (pss_cons (ps_if (pt_pure (PW.pt (pw_and (pt_cmpR op_eq (pv 5) pe_int (nomark _)) (pw_and (pt_cmpR op_ge (pv 4) (pe_op op_pow pe_int pe_int) (nomark _)) (pw_and1 (pt_cmpR op_gt (pv 6) pe_int (nomark _))))))) (pss_one (ps_ret (pe_op op_mod (pe_op op_mod (pv 6) (pe_op op_pow pe_int pe_int)) (pv 3)))) pss_nil)
    (pss_cons (ps_set (i := 8) sc__law_draw.nd rfl (Or.inl rfl) (pe_op op_mod (pe_op op_add (pe_op op_add (pe_op op_add (pe_op op_mul (pv 4) pe_int) (pe_op op_mul (pv 1) pe_int)) (pe_op op_mul (pv 2) pe_int)) pe_int) pe_int))
    (pss_cons (ps_set (i := 9) sc__law_draw.nd rfl (Or.inl rfl) (pe_op op_mod (pe_op op_add (pe_op op_mul (pv 8) pe_int) (pe_op op_fdivW (pv 4) pe_int)) pe_int))
    (pss_cons (ps_set (i := 9) sc__law_draw.nd rfl (Or.inl rfl) (pe_op op_mod (pe_op op_add (pe_op op_mul (pv 9) (pe_op op_add (pe_op op_mod (pv 8) pe_int) pe_int)) (pv 2)) pe_int))
    (pss_one (ps_ret (pe_op op_mod (pe_op op_mod (pe_op op_add (pe_op op_add (pe_op op_mul (pv 8) pe_int) (pe_op op_mul (pv 9) pe_int)) (pe_op op_fdivW (pv 9) pe_int)) pe_int) (pv 3))))))))))))), ?_⟩
  have hl : (ns.map V.int).length = ns.length := List.length_map _
  refine ⟨fun σ H' => H' = H ∧ σ = [some (.ref a), some (.int k), some (.int j), some (.int many), some (.int (Jm.cellOf ns k)), some (.int (Jm.turnOf ns k)), none, none, none, none], ?_, ?_⟩
  · refine ⟨_, rfl, a, _, rfl, .inl hS, _, _, rfl, rfl, _, rfl, ?_⟩
    refine ite2 (fun c => ?_) (fun c => ?_)
    · have c' : 0 < (((ns.map V.int).length : Nat) : Int) := of_decide_eq_true c
      rw [hl] at c'
      have i0 : 0 ≤ k % (ns.length : Int) := Int.emod_nonneg _ (by omega)
      have i1 : k % (ns.length : Int) < (ns.length : Int) := Int.emod_lt_of_pos _ c'
      refine ⟨_, rfl, _, rfl, _, rfl, a, _, rfl, .inl hS, _, _, rfl, rfl, (by show (0 : Int) < _; rw [hl]; exact c'), a, _, _, .int (ns.getD (k % ns.length).toNat 0), rfl, rfl, hS, ?_, ?_⟩
      · rw [hl]
        exact atI_map i0 i1
      refine ⟨_, rfl, _, rfl, a, _, rfl, .inl hS, _, _, rfl, rfl, cdivW_of (n := 10) (by rw [hl]; exact c') (by rw [hl]; omega) (by decide), rfl, ?_⟩
      unfold Jm.cellOf Jm.turnOf
      rw [if_pos c', if_pos c', hl]
      rfl
    · have c' : ¬ 0 < (((ns.map V.int).length : Nat) : Int) := of_decide_eq_false (Bool.eq_false_iff.mpr c)
      rw [hl] at c'
      refine ⟨rfl, ?_⟩
      unfold Jm.cellOf Jm.turnOf
      rw [if_neg c', if_neg c']
      rfl
  rintro σ H' ⟨rfl, rfl⟩
  generalize ec : Jm.cellOf ns k = cell at *
  generalize et : Jm.turnOf ns k = turn at *
  refine ⟨_, rfl, _, rfl, j, rfl, by omega, hj2, ?_⟩
  refine for_range (lo := 0) (n := j.toNat) (fun i σ H'' => H'' = H' ∧ ∃ st : Option V, σ = [some (.ref a), some (.int k), some (.int j), some (.int many), some (.int cell), some (.int turn), some (.int (Jm.restN cell i)), st, none, none]) ⟨rfl, none, rfl⟩ ?_ ?_
  · rintro i σ H'' hi ⟨rfl, st, rfl⟩
    refine ⟨_, rfl, _, _, rfl, rfl, ⟨by decide, by decide, by decide⟩, _, _, rfl, rfl, cdivW_lit (by decide +kernel), rfl, ?_⟩
    exact ⟨_, rfl⟩
  rintro σ H'' ⟨rfl, st, rfl⟩
  have full : Q (.int (Jm.draw ns k j many)) H'' := q
  unfold Jm.draw at full
  rw [ec, et] at full
  generalize er : Jm.restN cell j.toNat = rest at *
  refine ⟨decide (turn = 0 ∧ 1000000000000000000 ≤ cell ∧ 0 < rest), ?_, ?_⟩
  · refine ⟨_, rfl, rfl, _, rfl, ?_⟩
    by_cases h1 : turn = 0
    · rw [decide_eq_true (by rw [h1] : V.int turn = V.int 0)]
      refine iteT ⟨_, rfl, _, _, rfl, rfl, ⟨by decide, by decide, by decide⟩, _, _, rfl, rfl, _, rfl, ?_⟩
      by_cases h2 : 1000000000000000000 ≤ cell
      · rw [decide_eq_true (show (10 : Int) ^ (18 : Int).toNat ≤ cell from h2)]
        refine iteT ⟨_, rfl, _, _, rfl, rfl, _, rfl, ?_, rfl⟩
        by_cases h3 : 0 < rest
        · rw [decide_eq_true h3, decide_eq_true ⟨h1, h2, h3⟩]
        · rw [decide_eq_false h3, decide_eq_false fun z => h3 z.2.2]
      · rw [decide_eq_false (show ¬ (10 : Int) ^ (18 : Int).toNat ≤ cell from h2)]
        exact iteF ⟨(decide_eq_false fun z => h2 z.2.1).symm, rfl⟩
    · rw [decide_eq_false (fun z => h1 (V.int.inj z))]
      exact iteF ⟨(decide_eq_false fun z => h1 z.1).symm, rfl⟩
  by_cases h : turn = 0 ∧ 1000000000000000000 ≤ cell ∧ 0 < rest
  · rw [decide_eq_true h]
    rw [if_pos h] at full
    refine iteT ⟨_, rfl, _, _, rfl, rfl, ⟨by decide, by decide, by decide⟩, _, _, rfl, rfl, (by show (0 : Int) < _; decide), _, rfl, _, _, rfl, rfl, hm, ?_⟩
    exact full
  · rw [decide_eq_false h]
    rw [if_neg h] at full
    refine iteF ?_
    refine ⟨_, rfl, _, _, rfl, rfl, .inr ⟨by decide, by decide⟩, _, rfl, _, _, rfl, rfl, .inr ⟨by decide, by decide⟩, _, _, rfl, rfl, _, rfl, _, _, rfl, rfl, .inr ⟨by decide, by decide⟩, _, _, rfl, rfl, _, _, rfl, rfl, _, _, rfl, rfl, (by show (0 : Int) < _; decide), ?_⟩
    refine ⟨_, rfl, _, _, rfl, rfl, .inr ⟨by decide, by decide⟩, _, rfl, _, _, rfl, rfl, cdivW_lit (by decide +kernel), _, _, rfl, rfl, _, _, rfl, rfl, (by show (0 : Int) < _; decide), ?_⟩
    unfold Jm.mixed at full
    dsimp only at full ⊢
    generalize e1 : (cell * 7919 + k * 104729 + j * 1299709 + 31) % 1000000007 = one at *
    generalize e2 : (one * 48271 + cell / 1009) % 998244353 = two at *
    have b1 : 0 ≤ one % 9973 := Int.emod_nonneg _ (by decide)
    have b2 : one % 9973 < 9973 := Int.emod_lt_of_pos _ (by decide)
    refine ⟨_, rfl, _, rfl, _, _, rfl, rfl, (by show (0 : Int) < _; decide), _, _, rfl, rfl, _, _, rfl, rfl, .inr ⟨by omega, by omega⟩, _, rfl, _, _, rfl, rfl, _, _, rfl, rfl, (by show (0 : Int) < _; decide), ?_⟩
    refine ⟨_, rfl, _, _, rfl, rfl, .inr ⟨by decide, by decide⟩, _, rfl, _, _, rfl, rfl, .inr ⟨by decide, by decide⟩, _, _, rfl, rfl, _, rfl, _, _, rfl, rfl, cdivW_lit (by decide +kernel), _, _, rfl, rfl, _, _, rfl, rfl, (by show (0 : Int) < _; decide), _, rfl, _, _, rfl, rfl, hm, ?_⟩
    exact full
abbrev sd__law_name : Stmt := top 12
abbrev N__law_name : List Str := ["_law_code", "_law_size", "_law_word", "_law_at"]
abbrev P__law_name : List Str := ["_law_code", "_law_size"]
theorem sc__law_name : FnScope N__law_name P__law_name (defScope sd__law_name) := ⟨rfl, rfl, rfl, by decide +kernel, rfl, by decide +kernel, by decide +kernel⟩
theorem ok__law_name (F : At K mg "_law_name" sd__law_name f fd) (m_range : mg "range" = none) : Dn P w K mg base 1 "_law_name" P__law_name spName' := by
  refine F.ok sc__law_name (fun vs H Q E h => ?_) (fun cdv A outer s H vs Q E hr h => ?_) (fun _ _ _ _ _ _ us hl => match us, hl with | [_, _], _ => rfl)
  · obtain ⟨c, n, rfl, _⟩ := h.ex
    rfl
  obtain ⟨c, n, rfl, hc, hn, q⟩ := h.ex
  refine ⟨_, (pss_cons (ps_set (i := 2) sc__law_name.nd rfl (Or.inl rfl) pe_str)
    (pss_cons (ps_for PassesOwn.never rfl (pi_range1 (by rfl) m_range (pa_cons (pv 1) pa_nil)) (pg_name (i := 3) sc__law_name.nd rfl (Or.inl rfl)) (pss_cons (ps_set (i := 2) sc__law_name.nd rfl (Or.inl rfl) (pe_op op_add_str (pv 2) (pe_ix ix_str pe_str (pe_op op_mod (pv 0) pe_int) (fun _ _ => rfl))))
    (pss_one (ps_set (i := 0) sc__law_name.nd rfl (Or.inl rfl) (pe_op op_fdivW (pv 0) pe_int)))))
    (pss_one (ps_ret (pv 2))))), ?_⟩
  refine ⟨_, rfl, _, rfl, by omega, by omega, ?_⟩
  refine for_range (lo := 0) (n := (n : Int).toNat) (fun i σ H' => H' = H ∧ ∃ (s1 : Option V), σ = [some (.int (c / 26 ^ i)), some (.int n), some (.str (tx (nmL c i))), s1]) ⟨rfl, none, by rw [Int.pow_zero, Int.ediv_one]; rfl⟩ ?_ ?_
  · rintro i σ H' hi ⟨rfl, s1, rfl⟩
    have hp : (0 : Int) < 26 ^ i := Int.pow_pos (by decide)
    have hd0 : 0 ≤ c / 26 ^ i := Int.ediv_nonneg hc (Int.le_of_lt hp)
    have hm0 : 0 ≤ c / 26 ^ i % 26 := Int.emod_nonneg _ (by decide)
    have hm1 : c / 26 ^ i % 26 < 26 := Int.emod_lt_of_pos _ (by decide)
    refine ⟨_, rfl, _, rfl, _, _, rfl, rfl, (by show (0 : Int) < 26; decide), _, _, _, rfl, rfl, (by decide +kernel), letter_at hm0 hm1, ?_⟩
    refine ⟨_, _, rfl, rfl, ?_, ?_⟩
    · rw [tx_length, nmL_length]
      show i + 1 ≤ sizeLine
      exact Nat.le_of_lt (small1000 (by omega))
    refine ⟨_, rfl, _, _, rfl, rfl, cdivW_sz (by decide) (sz_lit (by decide +kernel)), rfl, some (.int ((0 : Int) + (i : Int))), ?_⟩
    have e1 : c / 26 ^ i / 26 = c / 26 ^ (i + 1) := by rw [Int.ediv_ediv_of_nonneg (Int.le_of_lt hp), Int.pow_succ]
    have e2 : (tx (nmL c i) ++ tx [97 + (c / 26 ^ i % 26).toNat] : Str) = tx (nmL c (i + 1)) := by rw [tx_cat, nmL_succ]
    rw [← e1, ← e2]
    rfl
  rintro σ H' ⟨rfl, s1, rfl⟩
  refine ⟨_, rfl, ?_⟩
  rw [Int.toNat_natCast]
  exact q
abbrev sd__law_names : Stmt := top 13
abbrev N__law_names : List Str := ["_law_script", "_law_k", "_law_many", "_law_alike", "_law_size", "_law_first", "_law_shift", "_law_at", "_law_names_here", "_law_code"]
abbrev P__law_names : List Str := ["_law_script", "_law_k", "_law_many"]
theorem sc__law_names : FnScope N__law_names P__law_names (defScope sd__law_names) := ⟨rfl, rfl, rfl, by decide +kernel, rfl, by decide +kernel, by decide +kernel⟩
theorem ok__law_names (F : At K mg "_law_names" sd__law_names f fd) (D__law_draw : Dn P w K mg base 1 "_law_draw" ["_law_script", "_law_k", "_law_j", "_law_many"] (spDraw K)) (D__law_name : Dn P w K mg base 1 "_law_name" ["_law_code", "_law_size"] spName') (m_range : mg "range" = none) : Dn P w K mg base 2 "_law_names" P__law_names (spNames K) := by
  refine F.ok sc__law_names (fun vs H Q E h => ?_) (fun cdv A outer s H vs Q E hr h => ?_) (fun _ _ _ _ _ _ us hl => match us, hl with | [_, _, _], _ => rfl)
  · obtain ⟨a, ms, k, many, rfl, _⟩ := h.ex
    rfl
  obtain ⟨a, ms, k, many, rfl, hS, h63, hk, hm, q⟩ := h.ex
  refine ⟨_, (pss_cons (ps_set (i := 3) sc__law_names.nd rfl (Or.inl rfl) (pe_cmpR op_eq (pe_fn D__law_draw hr (pa_cons (pv 0) (pa_cons (pv 1) (pa_cons pe_int (pa_cons pe_int pa_nil))))) pe_int (nomark _)))
    (pss_cons (ps_set (i := 4) sc__law_names.nd rfl (Or.inl rfl) (pe_op op_add pe_int (pe_fn D__law_draw hr (pa_cons (pv 0) (pa_cons (pv 1) (pa_cons pe_int (pa_cons pe_int pa_nil)))))))
    (pss_cons (ps_set (i := 5) sc__law_names.nd rfl (Or.inl rfl) (pe_fn D__law_draw hr (pa_cons (pv 0) (pa_cons (pv 1) (pa_cons pe_int (pa_cons (pe_op op_pow pe_int pe_int) pa_nil))))))
    (pss_cons (ps_set (i := 6) sc__law_names.nd rfl (Or.inl rfl) pe_int)
    (pss_cons (ps_ifJ (pt_val (pv 3)) (pss_one (ps_for PassesOwn.never rfl (pi_range1 (by rfl) m_range (pa_cons (pe_fn D__law_draw hr (pa_cons (pv 0) (pa_cons (pv 1) (pa_cons pe_int (pa_cons (pv 4) pa_nil))))) pa_nil)) (pg_name (i := 7) sc__law_names.nd rfl (Or.inl rfl)) (pss_one (ps_set (i := 6) sc__law_names.nd rfl (Or.inl rfl) (pe_op op_mul (pv 6) pe_int))))) pss_nil)
    (pss_cons (ps_set (i := 8) sc__law_names.nd rfl (Or.inl rfl) (pe_lst pa_nil))
    (pss_cons (ps_for PassesOwn.never rfl (pi_range1 (by rfl) m_range (pa_cons (pv 2) pa_nil)) (pg_name (i := 7) sc__law_names.nd rfl (Or.inl rfl)) (pss_cons (ps_set (i := 9) sc__law_names.nd rfl (Or.inl rfl) (pe_op op_add (pv 5) (pe_op op_mul (pv 6) (pe_fn D__law_draw hr (pa_cons (pv 0) (pa_cons (pv 1) (pa_cons (pe_op op_add pe_int (pe_op op_mul pe_int (pv 7))) (pa_cons pe_int pa_nil))))))))
    (pss_cons (ps_ifJ (pt_not (pt_val (pv 3))) (pss_cons (ps_set (i := 4) sc__law_names.nd rfl (Or.inl rfl) (pe_op op_add pe_int (pe_fn D__law_draw hr (pa_cons (pv 0) (pa_cons (pv 1) (pa_cons (pe_op op_add pe_int (pe_op op_mul pe_int (pv 7))) (pa_cons pe_int pa_nil)))))))
    (pss_one (ps_set (i := 9) sc__law_names.nd rfl (Or.inl rfl) (pe_fn D__law_draw hr (pa_cons (pv 0) (pa_cons (pv 1) (pa_cons (pe_op op_add pe_int (pe_op op_mul pe_int (pv 7))) (pa_cons (pe_op op_pow pe_int pe_int) pa_nil)))))))) pss_nil)
    (pss_cons (ps_while PassesOwn.never (pt_cmpR op_in_seq (pe_fn D__law_name hr (pa_cons (pv 9) (pa_cons (pv 4) pa_nil))) (pv 8) (by with_unfolding_all rfl)) (pss_one (ps_set (i := 9) sc__law_names.nd rfl (Or.inl rfl) (pe_op op_add (pv 9) (pv 6)))))
    (pss_one (ps_expr (pe_bm PySem.F.plainAttrs_list PySem.F.slot_list_append PySem.F.type_list_append mt_append (pv 8) (pa_cons (pe_fn D__law_name hr (pa_cons (pv 9) (pa_cons (pv 4) pa_nil))) pa_nil))))))))
    (pss_one (ps_ret (pv 8)))))))))), ?_⟩
  have P10 : CPow 10 10 := ⟨by decide, by decide, by decide +kernel⟩
  refine ⟨_, rfl, _, rfl, use_draw hS h63 hk (by decide) (by decide) (by decide) fun al _ _ _ => ⟨rfl, ?_⟩⟩
  refine ⟨_, rfl, _, rfl, use_draw hS h63 hk (by decide) (by decide) (by decide) fun sd _ s0 s1 => ⟨_, _, rfl, rfl, ?_⟩⟩
  refine ⟨_, rfl, _, rfl, _, _, rfl, rfl, P10, use_draw hS h63 hk (by decide) (by decide) (by decide +kernel) fun fc _ f0 f1 => ?_⟩
  generalize hal : decide (V.int al = V.int 0) = alike
  obtain ⟨n0, en0⟩ : ∃ n : Nat, 1 + sd = (n : Int) := ⟨(1 + sd).toNat, by omega⟩
  refine ⟨fun σ H' => H' = H ∧ ∃ (d : Nat) (s7 : Option V), (alike = true → d < n0) ∧ (alike = false → d = 0) ∧ d < 8 ∧ σ = [some (.ref a), some (.int k), some (.int many), some (.bl alike), some (.int (1 + sd)), some (.int fc), some (.int ((26 : Int) ^ d)), s7, none, none], ?_, ?_⟩
  · refine ⟨_, rfl, _, rfl, ite2 (fun c => ?_) (fun c => ?_)⟩
    · refine ⟨_, rfl, _, rfl, _, rfl, use_draw hS h63 hk (by decide) (by decide) (by omega) fun dd _ d0 d1 => ⟨dd, rfl, by omega, by omega, ?_⟩⟩
      refine for_range (lo := 0) (n := dd.toNat) (fun i σ H' => H' = H ∧ ∃ s7 : Option V, σ = [some (.ref a), some (.int k), some (.int many), some (.bl alike), some (.int (1 + sd)), some (.int fc), some (.int ((26 : Int) ^ i)), s7, none, none]) ⟨rfl, none, rfl⟩ ?_ ?_
      · rintro i σ H' hi ⟨rfl, s7, rfl⟩
        refine ⟨_, rfl, _, _, rfl, rfl, .inr ⟨by decide, by decide⟩, rfl, some (.int ((0 : Int) + (i : Int))), ?_⟩
        rw [Int.pow_succ]
        rfl
      · rintro σ H' ⟨rfl, s7, rfl⟩
        exact ⟨rfl, dd.toNat, s7, fun _ => by omega, fun z => absurd c (by rw [z]; exact Bool.false_ne_true), by omega, rfl⟩
    · exact ⟨rfl, 0, none, fun z => absurd z c, fun _ => rfl, by decide, rfl⟩
  rintro σ H' ⟨rfl, d, s7, hd1, hd2, hd8, rfl⟩
  refine ⟨(by show 0 ≤ sizeLine; decide), fun pn hpn => ?_⟩
  have g0 := same_new hpn (.lst [])
  refine ⟨_, rfl, (many : Int), rfl, by omega, by omega, ?_⟩
  refine for_range (lo := 0) (n := (many : Int).toNat) (fun i σ H2 => Same H' H2 ∧ ∃ (nss : List (List Nat)) (n : Nat) (s1 s2 : Option V), d < n ∧ n ≤ 8 ∧ σ = [some (.ref a), some (.int k), some (.int many), some (.bl alike), some (.int (n : Int)), some (.int fc), some (.int ((26 : Int) ^ d)), s1, some (.ref pn), s2] ∧ H2 pn = some (.lst (txs nss)) ∧ nss.length = i ∧ nss.Nodup ∧ ∀ x ∈ nss, NameOk x)
    ⟨g0, [], n0, s7, none, ?_, by omega, by rw [← en0]; rfl, upd_same, rfl, List.nodup_nil, fun _ m => nomatch m⟩ ?_ ?_
  · cases alike with
    | true => exact hd1 rfl
    | false => rw [hd2 rfl]; omega
  · rintro i σ H2 hi ⟨g, nss, n, s1, s2, hdn, hn8, rfl, hn, hnl, hnd, hok⟩
    have hsl : (txs nss).length = i := by unfold txs; rw [List.length_map]; exact hnl
    have hSg := g.seq hS
    have hp : (0 : Int) < 26 ^ d := Int.pow_pos (by decide)
    have hp8 : (26 : Int) ^ d < 2 ^ 64 := by
      rcases (by omega : d = 0 ∨ d = 1 ∨ d = 2 ∨ d = 3 ∨ d = 4 ∨ d = 5 ∨ d = 6 ∨ d = 7) with e | e | e | e | e | e | e | e <;> (rw [e]; decide +kernel)
    refine ⟨_, rfl, _, rfl, _, rfl, _, rfl, _, rfl, _, _, rfl, rfl, .inl ⟨by decide, by decide⟩, _, _, rfl, rfl, use_draw hSg h63 hk (by omega) (by omega) (by decide) fun cd _ c0 c1 => ⟨_, _, rfl, rfl, .inl ⟨by omega, hp8⟩, _, _, rfl, rfl, ?_⟩⟩
    have hcode : 0 ≤ fc + 26 ^ d * cd := Int.add_nonneg f0 (Int.mul_nonneg (Int.le_of_lt hp) c0)
    refine ⟨fun σ H3 => H3 = H2 ∧ ∃ (n : Nat) (c : Int), 0 ≤ c ∧ d < n ∧ n ≤ 8 ∧ σ = [some (.ref a), some (.int k), some (.int many), some (.bl alike), some (.int (n : Int)), some (.int fc), some (.int ((26 : Int) ^ d)), some (.int ((0 : Int) + (i : Int))), some (.ref pn), some (.int c)], ?_, ?_⟩
    · refine ⟨_, rfl, _, rfl, ?_⟩
      cases hb : alike with
      | true => exact iteF ⟨rfl, n, _, hcode, hdn, hn8, rfl⟩
      | false =>
        refine iteT ?_
        have hd0 := hd2 hb
        refine ⟨_, rfl, _, rfl, _, rfl, _, _, rfl, rfl, .inl ⟨by decide, by decide⟩, _, _, rfl, rfl, use_draw hSg h63 hk (by omega) (by omega) (by decide) fun zd _ z0 z1 => ⟨_, _, rfl, rfl, ?_⟩⟩
        refine ⟨_, rfl, _, rfl, _, rfl, _, _, rfl, rfl, .inl ⟨by decide, by decide⟩, _, _, rfl, rfl, _, _, rfl, rfl, P10, use_draw hSg h63 hk (by omega) (by omega) (by decide +kernel) fun cd2 _ e0 _ => ?_⟩
        refine ⟨rfl, (1 + zd).toNat, cd2, e0, by omega, by omega, ?_⟩
        rw [show (((1 + zd).toNat : Nat) : Int) = 1 + zd from by omega]
        rfl
    clear hdn hn8 hcode
    rintro σ H3 ⟨rfl, n, c0', cc0, hdn, hn8, rfl⟩
    refine ⟨fun m σ H4 => H4 = H3 ∧ ∃ t : Nat, m = nss.length + 1 - t ∧ t ≤ nss.length ∧ σ = [some (.ref a), some (.int k), some (.int many), some (.bl alike), some (.int (n : Int)), some (.int fc), some (.int ((26 : Int) ^ d)), some (.int ((0 : Int) + (i : Int))), some (.ref pn), some (.int (c0' + (t : Int) * 26 ^ d))] ∧ ∀ j : Nat, j < t → nmL (c0' + (j : Int) * 26 ^ d) n ∈ nss,
      ⟨_, rfl, 0, rfl, Nat.zero_le _, by rw [show c0' + ((0 : Nat) : Int) * 26 ^ d = c0' from by simp], fun j hj => absurd hj (Nat.not_lt_zero _)⟩, ?_⟩
    rintro m σ H4 ⟨rfl, t, rfl, ht, rfl, htr⟩
    have hct : 0 ≤ c0' + (t : Int) * 26 ^ d := Int.add_nonneg cc0 (Int.mul_nonneg (by omega) (Int.le_of_lt hp))
    refine ⟨_, rfl, _, rfl, use_name rfl hct (by omega) ?_⟩
    refine ⟨_, rfl, pn, _, rfl, .inl (SqL.of hn), rfl, txs_flat nss, ?_⟩
    show ∃ b, V.bl (if false = true then !inV (.str (tx (nmL (c0' + (t : Int) * 26 ^ d) n))) (txs nss) else inV (.str (tx (nmL (c0' + (t : Int) * 26 ^ d) n))) (txs nss)) = .bl b ∧ _
    rw [if_neg Bool.false_ne_true, inV_txs]
    refine ⟨_, rfl, ite2 (fun c => ?_) (fun c => ?_)⟩
    · have hmem : nmL (c0' + (t : Int) * 26 ^ d) n ∈ nss := of_decide_eq_true c
      have htr' : ∀ j : Nat, j < t + 1 → nmL (c0' + (j : Int) * 26 ^ d) n ∈ nss := fun j hj => by
        rcases Nat.lt_succ_iff_lt_or_eq.mp hj with z | z
        · exact htr j z
        · rw [z]; exact hmem
      have hle := tries_leD (c := c0') (n := n) (t := t + 1) hdn (by omega) htr'
      refine ⟨_, fun _ _ z => z, ?_⟩
      refine ⟨_, rfl, _, rfl, _, _, rfl, rfl, ?_⟩
      refine ⟨_, (by omega : nss.length + 1 - (t + 1) < nss.length + 1 - t), rfl, t + 1, rfl, hle, ?_, htr'⟩
      rw [show c0' + ((t + 1 : Nat) : Int) * 26 ^ d = c0' + (t : Int) * 26 ^ d + 26 ^ d from by rw [Int.natCast_add, Int.add_mul]; show _ + (_ + 1 * _) = _; rw [Int.one_mul, Int.add_assoc]]
      rfl
    · have hnm : nmL (c0' + (t : Int) * 26 ^ d) n ∉ nss := of_decide_eq_false (Bool.eq_false_iff.mpr c)
      refine ⟨_, rfl, .inl ⟨rfl, _, SqL.of hn⟩, ?_⟩
      refine ⟨_, rfl, _, rfl, use_name rfl hct (by omega) ?_⟩
      refine ⟨pn, txs nss, _, rfl, rfl, hn, small1000 (by omega), g.upd_new hpn _, nss ++ [nmL (c0' + (t : Int) * 26 ^ d) n], n, _, _, hdn, hn8, rfl, ?_, ?_, nd_snoc hnd hnm, fun x hx => ?_⟩
      · rw [upd_same]
        unfold txs
        rw [List.map_append]
        rfl
      · rw [List.length_append, hnl]
        rfl
      · rcases List.mem_append.mp hx with z | z
        · exact hok x z
        · rw [List.mem_singleton.mp z]
          exact nmL_ok _ (by omega) hn8
  rintro σ H2 ⟨g, nss, n, s1, s2, hdn, hn8, rfl, hn, hnl, hnd, hok⟩
  exact ⟨_, rfl, q pn nss H2 g hn hpn (by omega) hnd hok⟩
abbrev sd__law_least : Stmt := top 14
abbrev N__law_least : List Str := ["_law_top", "_law_bottom", "_law_one", "_law_other"]
abbrev P__law_least : List Str := ["_law_top", "_law_bottom"]
theorem sc__law_least : FnScope N__law_least P__law_least (defScope sd__law_least) := ⟨rfl, rfl, rfl, by decide +kernel, rfl, by decide +kernel, by decide +kernel⟩
theorem ok__law_least (F : At K mg "_law_least" sd__law_least f fd) (m_abs : mg "abs" = none) : Dn P w K mg base 1 "_law_least" P__law_least spLeast := by
  refine F.ok sc__law_least (fun vs H Q E h => ?_) (fun cdv A outer s H vs Q E hr h => ?_) (fun _ _ _ _ _ _ us hl => match us, hl with | [_, _], _ => rfl)
  · obtain ⟨a, b, rfl, _⟩ := h.ex
    rfl
  obtain ⟨t, b, rfl, hb, hb2, q⟩ := h.ex
  refine ⟨_, (pss_cons (ps_set (i := 2) sc__law_least.nd rfl (Or.inl rfl) (pe_callB call_abs (by rfl) m_abs PyProof.Rows.boot_abs (pa_cons (pv 0) pa_nil)))
    (pss_cons (ps_set (i := 3) sc__law_least.nd rfl (Or.inl rfl) (pv 1))
    (pss_cons (ps_while PassesOwn.never (pt_cmpR op_ne (pv 3) pe_int (nomark _)) (pss_one (ps_par (i := 2) (j := 3) rfl sc__law_least.nd rfl rfl (by decide) rfl rfl (pa_cons (pv 3) (pa_cons (pe_op op_mod (pv 2) (pv 3)) pa_nil)) (by rfl))))
    (pss_one (ps_ret (pe_tup (pa_cons (pe_op op_fdivW (pv 0) (pv 2)) (pa_cons (pe_op op_fdivW (pv 1) (pv 2)) pa_nil)))))))), ?_⟩
  refine ⟨_, rfl, _, rfl, _, rfl, ?_⟩
  refine ⟨fun m σ H' => ∃ x y : Int, m = y.toNat ∧ σ = [some (.int t), some (.int b), some (.int x), some (.int y)] ∧ H' = H ∧ 0 ≤ x ∧ 0 ≤ y ∧ Jm.cf x y = Jm.cf b t,
    ⟨_, (if t < 0 then -t else t), b, rfl, rfl, rfl, (by split <;> omega), Int.le_of_lt hb, (by rw [Jm.cf_comm, Jm.cf_abs])⟩, ?_⟩
  rintro m σ H' ⟨x, y, rfl, rfl, rfl, hx, hy, e⟩
  refine ⟨_, rfl, rfl, _, rfl, ite2 (fun c => ?_) (fun c => ?_)⟩
  · have c1 : ¬ V.int y = V.int 0 := of_decide_eq_false (by simpa using c)
    have c' : 0 < y := by
      have : y ≠ 0 := fun z => c1 (by rw [z])
      omega
    refine ⟨_, fun _ _ z => z, ?_⟩
    refine ⟨_, rfl, _, rfl, _, rfl, _, _, rfl, rfl, c', _, _, rfl, ?_⟩
    have h1 : 0 ≤ x % y := Int.emod_nonneg _ (by omega)
    have h2 : x % y < y := Int.emod_lt_of_pos _ c'
    exact ⟨_, (by omega : (x % y).toNat < y.toNat), y, x % y, rfl, rfl, rfl, hy, h1, (Jm.cf_step x y c').trans e⟩
  · have c1 : V.int y = V.int 0 := by simpa using c
    have ey : y = 0 := V.int.inj c1
    subst ey
    rw [Jm.cf_zero x hx] at e
    subst e
    have g0 : 0 < Jm.cf b t := Jm.cf_pos _ _ (.inl hb)
    have g1 : Jm.Sz 9000 (Jm.cf b t) := hb2.dvd hb (Int.le_of_lt g0) (Jm.dvd_cf_left b t)
    have gd : ∀ i, CDivW i (Jm.cf b t) := fun i => cdivW_sz g0 g1
    refine ⟨_, rfl, _, rfl, _, _, rfl, rfl, gd _, _, rfl, _, rfl, _, _, rfl, rfl, gd _, (by show 2 ≤ sizeLine; decide), fun p hp => ?_⟩
    refine q p _ (same_new hp _) ?_
    rw [upd_same]
    show some (HO.tup [V.int (t / Jm.cf b t), V.int (b / Jm.cf b t)]) = some (HO.tup [V.int (Jm.fr t b).num, V.int ((Jm.fr t b).den : Int)])
    rw [Jm.fr_num t b hb, Jm.fr_den t b hb]
abbrev sd__law_any_deed : Stmt := top 15
abbrev N__law_any_deed : List Str := ["_law_script", "_law_k", "_law_names_here", "_law_some", "_law_at", "_law_much", "_law_way", "_law_weight", "_law_things", "_law_name_here"]
abbrev P__law_any_deed : List Str := ["_law_script", "_law_k"]
theorem sc__law_any_deed : FnScope N__law_any_deed P__law_any_deed (defScope sd__law_any_deed) := ⟨rfl, rfl, rfl, by decide +kernel, rfl, by decide +kernel, by decide +kernel⟩
theorem ok__law_any_deed (F : At K mg "_law_any_deed" sd__law_any_deed f fd) (D__law_draw : Dn P w K mg base 1 "_law_draw" ["_law_script", "_law_k", "_law_j", "_law_many"] (spDraw K)) (D__law_names : Dn P w K mg base 2 "_law_names" ["_law_script", "_law_k", "_law_many"] (spNames K)) (m_range : mg "range" = none) (m_tuple : mg "tuple" = none) : Dn P w K mg base 3 "_law_any_deed" P__law_any_deed (spAnyDeed K) := by
  refine F.ok sc__law_any_deed (fun vs H Q E h => ?_) (fun cdv A outer s H vs Q E hr h => ?_) (fun _ _ _ _ _ _ us hl => match us, hl with | [_, _], _ => rfl)
  · obtain ⟨a, ms, k, rfl, _⟩ := h.ex
    rfl
  obtain ⟨a, ms, k, rfl, hS, h63, hk, q⟩ := h.ex
  refine ⟨_, (pss_cons (ps_set (i := 2) sc__law_any_deed.nd rfl (Or.inl rfl) (pe_fn D__law_names hr (pa_cons (pv 0) (pa_cons (pv 1) (pa_cons pe_int pa_nil)))))
    (pss_cons (ps_set (i := 3) sc__law_any_deed.nd rfl (Or.inl rfl) (pe_lst pa_nil))
    (pss_cons (ps_for PassesOwn.never rfl (pi_range1 (by rfl) m_range (pa_cons pe_int pa_nil)) (pg_name (i := 4) sc__law_any_deed.nd rfl (Or.inl rfl)) (pss_cons (ps_set (i := 5) sc__law_any_deed.nd rfl (Or.inl rfl) (pe_ix (ix_listK K) (pe_lst (pa_cons pe_int (pa_cons pe_int (pa_cons (pe_op op_pow pe_int pe_int) (pa_cons (pe_op op_add pe_int (pe_fn D__law_draw hr (pa_cons (pv 0) (pa_cons (pe_op op_add (pv 1) pe_int) (pa_cons (pe_op op_mul pe_int (pv 4)) (pa_cons (pe_op op_pow pe_int pe_int) pa_nil)))))) pa_nil))))) (pe_fn D__law_draw hr (pa_cons (pv 0) (pa_cons (pe_op op_add (pv 1) pe_int) (pa_cons (pe_op op_add (pe_op op_mul pe_int (pv 4)) pe_int) (pa_cons pe_int pa_nil))))) (fun _ _ => rfl)))
    (pss_one (ps_expr (pe_bm PySem.F.plainAttrs_list PySem.F.slot_list_append PySem.F.type_list_append mt_append (pv 3) (pa_cons (pe_tup (pa_cons (pe_ix (ix_listK K) (pv 2) (pv 4) (fun _ _ => rfl)) (pa_cons (pv 5) pa_nil))) pa_nil))))))
    (pss_cons (ps_set (i := 6) sc__law_any_deed.nd rfl (Or.inl rfl) (pe_fn D__law_draw hr (pa_cons (pv 0) (pa_cons (pe_op op_add (pv 1) pe_int) (pa_cons pe_int (pa_cons pe_int pa_nil))))))
    (pss_cons (ps_set (i := 7) sc__law_any_deed.nd rfl (Or.inl rfl) (pe_op op_sub (pe_ix (ix_tupK K) (pe_ix (ix_listK K) (pv 3) pe_int (fun _ _ => rfl)) pe_int (fun _ _ => rfl)) (pe_fn D__law_draw hr (pa_cons (pv 0) (pa_cons (pe_op op_add (pv 1) pe_int) (pa_cons pe_int (pa_cons pe_int pa_nil)))))))
    (pss_cons (ps_if (pt_cmpR op_eq (pv 6) pe_int (nomark _)) (pss_one (ps_ret (pe_tup (pa_cons pe_str (pa_cons (pe_ix (ix_listK K) (pv 2) pe_int (fun _ _ => rfl)) (pa_cons (pe_ix (ix_listK K) (pv 2) pe_int (fun _ _ => rfl)) (pa_cons (pe_ix (ix_tupK K) (pe_ix (ix_listK K) (pv 3) pe_int (fun _ _ => rfl)) pe_int (fun _ _ => rfl)) (pa_cons (pv 7) pa_nil)))))))) pss_nil)
    (pss_cons (ps_if (pt_cmpR op_eq (pv 6) pe_int (nomark _)) (pss_one (ps_ret (pe_tup (pa_cons pe_str (pa_cons (pe_ix (ix_listK K) (pv 2) pe_int (fun _ _ => rfl)) (pa_cons (pe_ix (ix_tupK K) (pe_ix (ix_listK K) (pv 3) pe_int (fun _ _ => rfl)) pe_int (fun _ _ => rfl)) pa_nil)))))) pss_nil)
    (pss_cons (ps_if (pt_cmpR op_eq (pv 6) pe_int (nomark _)) (pss_one (ps_ret (pe_tup (pa_cons pe_str (pa_cons (pe_ix (ix_listK K) (pv 2) pe_int (fun _ _ => rfl)) (pa_cons (pe_ix (ix_tupK K) (pe_ix (ix_listK K) (pv 3) pe_int (fun _ _ => rfl)) pe_int (fun _ _ => rfl)) pa_nil)))))) pss_nil)
    (pss_cons (ps_if (pt_cmpR op_eq (pv 6) pe_int (nomark _)) (pss_one (ps_ret (pe_tup (pa_cons pe_str (pa_cons (pe_ix (ix_listK K) (pv 2) pe_int (fun _ _ => rfl)) (pa_cons (pe_ix (ix_tupK K) (pe_ix (ix_listK K) (pv 3) pe_int (fun _ _ => rfl)) pe_int (fun _ _ => rfl)) pa_nil)))))) pss_nil)
    (pss_cons (ps_if (pt_cmpR op_eq (pv 6) pe_int (nomark _)) (pss_one (ps_ret (pe_tup (pa_cons pe_str (pa_cons (pe_ix (ix_listK K) (pv 2) pe_int (fun _ _ => rfl)) (pa_cons (pe_ix (ix_listK K) (pv 2) pe_int (fun _ _ => rfl)) pa_nil)))))) pss_nil)
    (pss_cons (ps_if (pt_cmpR op_eq (pv 6) pe_int (nomark _)) (pss_one (ps_ret (pe_tup (pa_cons pe_str (pa_cons (pe_ix (ix_listK K) (pv 2) pe_int (fun _ _ => rfl)) pa_nil))))) pss_nil)
    (pss_cons (ps_if (pt_cmpR op_eq (pv 6) pe_int (nomark _)) (pss_one (ps_ret (pe_tup (pa_cons pe_str (pa_cons (pe_ix (ix_listK K) (pv 2) pe_int (fun _ _ => rfl)) (pa_cons (pe_ix (ix_listK K) (pv 2) pe_int (fun _ _ => rfl)) (pa_cons (pe_ix (ix_tupK K) (pe_ix (ix_listK K) (pv 3) pe_int (fun _ _ => rfl)) pe_int (fun _ _ => rfl)) (pa_cons (pv 7) pa_nil)))))))) pss_nil)
    (pss_cons (ps_if (pt_cmpR op_eq (pv 6) pe_int (nomark _)) (pss_one (ps_ret (pe_tup (pa_cons pe_str pa_nil)))) pss_nil)
    (pss_cons (ps_set (i := 8) sc__law_any_deed.nd rfl (Or.inl rfl) (pe_lst (pa_cons pe_str pa_nil)))
    (pss_cons (ps_for PassesOwn.never rfl (pi_listK K (pe_slice sl_list (pv 3) po_none (po_some (pe_op op_add pe_int (pe_fn D__law_draw hr (pa_cons (pv 0) (pa_cons (pe_op op_add (pv 1) pe_int) (pa_cons pe_int (pa_cons pe_int pa_nil))))))))) (pg_tupK K (n := 2) rfl (pgs_cons (pg_name (i := 9) sc__law_any_deed.nd rfl (Or.inl rfl)) (pgs_cons (pg_name (i := 5) sc__law_any_deed.nd rfl (Or.inl rfl)) pgs_nil))) (pss_one (ps_set (i := 8) sc__law_any_deed.nd rfl (Or.inl rfl) (pe_op op_cat (pv 8) (pe_lst (pa_cons (pv 9) (pa_cons (pv 5) pa_nil)))))))
    (pss_one (ps_ret (pe_callTy call_tuple_of (by rfl) m_tuple PyProof.Rows.boot_tuple (pa_cons (pv 8) pa_nil))))))))))))))))))), ?_⟩
  have P9 : CPow 10 9 := ⟨by decide, by decide, by decide +kernel⟩
  refine ⟨_, rfl, _, rfl, use_names (many := 9) rfl hS h63 hk (by decide) fun pn nss H1 g1 hpn hpn0 hnl hnd hnok => ?_⟩
  refine ⟨(by show 0 ≤ sizeLine; decide), fun pc hpc => ?_⟩
  have g2 := same_new hpc (.lst [])
  have e10 : (10 : Int) ^ (9 : Int).toNat = 1000000000 := by decide +kernel
  refine ⟨9, rfl, by decide, by decide, ?_⟩
  refine for_range (lo := 0) (n := (9 : Int).toNat) (fun i σ H' => Same H1 H' ∧ ∃ (s4 s5 : Option V) (cv : List V) (cs : List Pr), σ = [some (.ref a), some (.int k), some (.ref pn), some (.ref pc), s4, s5, none, none, none, none] ∧ H' pc = some (.lst cv) ∧ cs.length = i ∧ Prs H' cv cs ∧ ∀ p ∈ cs, NameOk p.1 ∧ 1 ≤ p.2 ∧ p.2 ≤ 1000000000)
    ⟨g2, none, none, [], [], rfl, upd_same, rfl, .nil, fun _ m => nomatch m⟩ ?_ ?_
  · rintro i σ H' hi ⟨g, s4, s5, cv, cs, rfl, hc, hcl, hP, hok⟩
    have hi9 : i < 9 := hi
    have e0 : (0 : Int) + (i : Int) = ((i : Nat) : Int) := by omega
    rw [e0]
    have hSg := (g1.trans g).seq hS
    have hcvl := hP.length
    refine ⟨_, _, rfl, rfl, P9, _, rfl, _, rfl, _, _, rfl, rfl, _, rfl, _, _, rfl, rfl, .inl ⟨by decide, by decide⟩, _, _, rfl, rfl, P9, use_draw hSg h63 (by omega) (by omega) (by omega) (by decide +kernel) fun dd _ d0 d1 => ⟨_, _, rfl, rfl, (by show 4 ≤ sizeLine; decide), fun p1 hp1 => ?_⟩⟩
    rw [e10] at d1
    have hH' : upd H' p1 (.lst [.int 1, .int 30, .int ((10 : Int) ^ (9 : Int).toNat), .int (1 + dd)]) = upd H' p1 (.lst [.int 1, .int 30, .int 1000000000, .int (1 + dd)]) := by rw [e10]
    generalize hH3 : upd H' p1 (HO.lst _) = H3
    have hH3' : upd H' p1 (.lst [.int 1, .int 30, .int 1000000000, .int (1 + dd)]) = H3 := by rw [← hH', ← hH3]
    have g3 : Same H' H3 := hH3' ▸ same_new hp1 (.lst [.int 1, .int 30, .int 1000000000, .int (1 + dd)])
    have hp13 : H3 p1 = some (.lst [.int 1, .int 30, .int 1000000000, .int (1 + dd)]) := by rw [← hH3', upd_same]
    refine ⟨_, rfl, _, rfl, _, _, rfl, rfl, _, rfl, _, _, rfl, rfl, .inl ⟨by decide, by decide⟩, _, _, rfl, rfl, use_draw (g3.seq hSg) h63 (by omega) (by omega) (by omega) (by decide) fun bd _ b0 b1 => ?_⟩
    obtain ⟨B, hB, hB0, hB1⟩ : ∃ B : Int, atI [V.int 1, V.int 30, V.int 1000000000, V.int (1 + dd)] bd = some (.int B) ∧ 1 ≤ B ∧ B ≤ 1000000000 := by
      rcases (by omega : bd = 0 ∨ bd = 1 ∨ bd = 2 ∨ bd = 3) with e | e | e | e
      · exact ⟨1, by rw [e]; rfl, by decide, by decide⟩
      · exact ⟨30, by rw [e]; rfl, by decide, by decide⟩
      · exact ⟨1000000000, by rw [e]; rfl, by decide, by decide⟩
      · exact ⟨1 + dd, by rw [e]; rfl, by omega, by omega⟩
    refine ⟨p1, _, _, _, rfl, rfl, SqL.of hp13, hB, ?_⟩
    have g03 := g.trans g3
    have hi' : i < nss.length := by omega
    have hx : (txs nss)[i]? = some (.str (tx nss[i])) := by unfold txs; rw [List.getElem?_map, List.getElem?_eq_getElem hi']; rfl
    have hc3 := g3 _ _ hc
    refine ⟨_, rfl, .inl ⟨rfl, _, SqL.of hc3⟩, _, rfl, _, rfl, pn, _, (i : Int), _, rfl, rfl, SqL.of (g03 _ _ hpn), atI_nat hx, _, rfl, (by show 2 ≤ sizeLine; decide), fun p2 hp2 => ?_⟩
    have g5 := same_new hp2 (.tup [.str (tx nss[i]), .int B])
    have hp25 : upd H3 p2 (.tup [.str (tx nss[i]), .int B]) p2 = some (prO (nss[i], B)) := upd_same
    generalize upd H3 p2 (.tup [.str (tx nss[i]), .int B]) = H5 at *
    have hc5 := g5 _ _ hc3
    refine ⟨pc, cv, _, rfl, rfl, hc5, small1000 (by omega), (g03.trans g5).upd_new hpc _, _, _, cv ++ [.ref p2], cs ++ [(nss[i], B)], rfl, upd_same, by rw [List.length_append, hcl]; rfl, ((hP.mono (g3.trans g5)).snoc hp25).upd_lst hc5, fun p hp => ?_⟩
    rcases List.mem_append.mp hp with z | z
    · exact hok p z
    · rw [List.mem_singleton.mp z]
      exact ⟨hnok _ (List.getElem_mem hi'), hB0, hB1⟩
  rintro σ H2 ⟨g, s4, s5, cv, cs, rfl, hc, hcl, hP, hok⟩
  have hSg := (g1.trans g).seq hS
  have hcvl := hP.length
  have hpn2 := g _ _ hpn
  have hcs : cs.length = 9 := hcl
  have nm : ∀ j : Nat, j < 9 → ∃ x, NameOk x ∧ atI (txs nss) (j : Int) = some (.str (tx x)) := fun j hj => by
    have hj' : j < nss.length := by omega
    exact ⟨nss[j], hnok _ (List.getElem_mem hj'), atI_nat (by unfold txs; rw [List.getElem?_map, List.getElem?_eq_getElem hj']; rfl)⟩
  have am : ∀ j : Nat, j < 9 → ∃ (r : Addr) (x : List Nat) (m : Int), 1 ≤ m ∧ m ≤ 1000000000 ∧ atI cv (j : Int) = some (.ref r) ∧ H2 r = some (.tup [.str (tx x), .int m]) := fun j hj => by
    have hj' : j < cs.length := by omega
    obtain ⟨r, h1, h2⟩ := hP.getQ (List.getElem?_eq_getElem hj')
    have := hok _ (List.getElem_mem hj')
    exact ⟨r, _, _, this.2.1, this.2.2, atI_nat h1, h2⟩
  obtain ⟨n0, hn0, en0⟩ := nm 0 (by decide)
  obtain ⟨n1, hn1, en1⟩ := nm 1 (by decide)
  obtain ⟨r0, x0, m0, m00, m01, em0, hr0⟩ := am 0 (by decide)
  obtain ⟨r1, x1, m1, m10, m11, em1, hr1⟩ := am 1 (by decide)
  have gH := g1.trans g
  refine ⟨_, rfl, _, rfl, _, _, rfl, rfl, use_draw hSg h63 (by omega) (by decide) (by decide) (by decide) fun way _ w0 w1 => ?_⟩
  refine ⟨_, rfl, pc, _, 1, _, rfl, rfl, SqL.of hc, em1, r1, _, 1, _, rfl, rfl, SqT.of hr1, rfl, _, rfl, _, rfl, _, _, rfl, rfl, use_draw hSg h63 (by omega) (by decide) (by decide) (by decide) fun wd' _ v0 v1 => ⟨_, _, rfl, rfl, ?_⟩⟩
  refine ⟨_, rfl, rfl, _, rfl, ite2 (fun _ => ?_) (fun _ => ?_)⟩
  · exact ⟨_, rfl, pn, _, 0, _, rfl, rfl, SqL.of hpn2, en0, _, rfl, pn, _, 1, _, rfl, rfl, SqL.of hpn2, en1, _, rfl, pc, _, 0, _, rfl, rfl, SqL.of hc, em0, r0, _, 1, _, rfl, rfl, SqT.of hr0, rfl, _, rfl, (by show 5 ≤ sizeLine; decide), fun z hz => q z (wd "load") [.s n0, .s n1, .n m0, .n (m1 - wd')] _ (gH.trans (same_new hz _)) (by rw [thV_wd]; exact upd_same) (gH.free hz) (any4 hn0 hn1 m00 m01 (by omega) (by omega) (by decide +kernel) (by decide +kernel) rfl)⟩
  refine ⟨_, rfl, rfl, _, rfl, ite2 (fun _ => ?_) (fun _ => ?_)⟩
  · exact ⟨_, rfl, pn, _, 0, _, rfl, rfl, SqL.of hpn2, en0, _, rfl, pc, _, 0, _, rfl, rfl, SqL.of hc, em0, r0, _, 1, _, rfl, rfl, SqT.of hr0, rfl, (by show 3 ≤ sizeLine; decide), fun z hz => q z (wd "award") [.s n0, .n m0] _ (gH.trans (same_new hz _)) (by rw [thV_wd]; exact upd_same) (gH.free hz) (any2 hn0 m00 m01 (by decide +kernel) (by decide +kernel) rfl)⟩
  refine ⟨_, rfl, rfl, _, rfl, ite2 (fun _ => ?_) (fun _ => ?_)⟩
  · exact ⟨_, rfl, pn, _, 0, _, rfl, rfl, SqL.of hpn2, en0, _, rfl, pc, _, 0, _, rfl, rfl, SqL.of hc, em0, r0, _, 1, _, rfl, rfl, SqT.of hr0, rfl, (by show 3 ≤ sizeLine; decide), fun z hz => q z (wd "mishap") [.s n0, .n m0] _ (gH.trans (same_new hz _)) (by rw [thV_wd]; exact upd_same) (gH.free hz) (any2 hn0 m00 m01 (by decide +kernel) (by decide +kernel) rfl)⟩
  refine ⟨_, rfl, rfl, _, rfl, ite2 (fun _ => ?_) (fun _ => ?_)⟩
  · exact ⟨_, rfl, pn, _, 0, _, rfl, rfl, SqL.of hpn2, en0, _, rfl, pc, _, 0, _, rfl, rfl, SqL.of hc, em0, r0, _, 1, _, rfl, rfl, SqT.of hr0, rfl, (by show 3 ≤ sizeLine; decide), fun z hz => q z (wd "rise") [.s n0, .n m0] _ (gH.trans (same_new hz _)) (by rw [thV_wd]; exact upd_same) (gH.free hz) (any2 hn0 m00 m01 (by decide +kernel) (by decide +kernel) rfl)⟩
  refine ⟨_, rfl, rfl, _, rfl, ite2 (fun _ => ?_) (fun _ => ?_)⟩
  · exact ⟨_, rfl, pn, _, 0, _, rfl, rfl, SqL.of hpn2, en0, _, rfl, pn, _, 1, _, rfl, rfl, SqL.of hpn2, en1, (by show 3 ≤ sizeLine; decide), fun z hz => q z (wd "hand") [.s n0, .s n1] _ (gH.trans (same_new hz _)) (by rw [thV_wd]; exact upd_same) (gH.free hz) (anyH hn0 hn1)⟩
  refine ⟨_, rfl, rfl, _, rfl, ite2 (fun _ => ?_) (fun _ => ?_)⟩
  · exact ⟨_, rfl, pn, _, 0, _, rfl, rfl, SqL.of hpn2, en0, (by show 2 ≤ sizeLine; decide), fun z hz => q z (wd "land") [.s n0] _ (gH.trans (same_new hz _)) (by rw [thV_wd]; exact upd_same) (gH.free hz) (anyL hn0)⟩
  refine ⟨_, rfl, rfl, _, rfl, ite2 (fun _ => ?_) (fun _ => ?_)⟩
  · exact ⟨_, rfl, pn, _, 0, _, rfl, rfl, SqL.of hpn2, en0, _, rfl, pn, _, 1, _, rfl, rfl, SqL.of hpn2, en1, _, rfl, pc, _, 0, _, rfl, rfl, SqL.of hc, em0, r0, _, 1, _, rfl, rfl, SqT.of hr0, rfl, _, rfl, (by show 5 ≤ sizeLine; decide), fun z hz => q z (wd "sever") [.s n0, .s n1, .n m0, .n (m1 - wd')] _ (gH.trans (same_new hz _)) (by rw [thV_wd]; exact upd_same) (gH.free hz) (any4 hn0 hn1 m00 m01 (by omega) (by omega) (by decide +kernel) (by decide +kernel) rfl)⟩
  refine ⟨_, rfl, rfl, _, rfl, ite2 (fun _ => ?_) (fun _ => ?_)⟩
  · exact ⟨(by show 1 ≤ sizeLine; decide), fun z hz => q z (wd "still") [] _ (gH.trans (same_new hz _)) (by rw [thV_wd]; exact upd_same) (gH.free hz) (anyS)⟩
  refine ⟨(by show 1 ≤ sizeLine; decide), fun pt hpt => ?_⟩
  generalize hH3 : upd H2 pt (HO.lst _) = H3
  have hH3' : upd H2 pt (.lst [.str "cast"]) = H3 := hH3
  have g3 : Same H2 H3 := hH3' ▸ same_new hpt (.lst [.str "cast"])
  have hpt3 : H3 pt = some (.lst [.str "cast"]) := by rw [← hH3', upd_same]
  refine ⟨_, rfl, _, rfl, _, rfl, _, _, rfl, rfl, use_draw (g3.seq hSg) h63 (by omega) (by decide) (by decide) (by decide) fun nd _ nd0 nd1 => ⟨_, _, rfl, rfl, _, rfl, pc, _, rfl, SqL.of (g3 _ _ hc), fun ps hps => ?_⟩⟩
  obtain ⟨n, en⟩ : ∃ n : Nat, 1 + nd = (n : Int) := ⟨(1 + nd).toNat, by omega⟩
  have hcut : cutV cv none (some (1 + nd)) = cv.take n := by rw [en, cutV_to]
  generalize hH4 : upd H3 ps (HO.lst _) = H4
  have hH4' : upd H3 ps (.lst (cutV cv none (some (1 + nd)))) = H4 := hH4
  have g4 : Same H3 H4 := hH4' ▸ same_new hps _
  have hps4 : H4 ps = some (.lst (cv.take n)) := by rw [← hH4', upd_same, hcut]
  have hPn := (hP.mono (g3.trans g4)).take n
  have hlen : (cv.take n).length = n := by rw [List.length_take]; omega
  have hfree : ∀ {z : Addr} {Hz : Hp}, Same H4 Hz → Hz z = none → H z = none := fun gz hz => (gH.trans (g3.trans (g4.trans gz))).free hz
  refine ⟨ps, rfl, ⟨_, SqL.of hps4⟩, ?_⟩
  refine for_list (K := K) (xs := cv.take n) (fun i σ H' => Same H4 H' ∧ ∃ (t : Addr) (s5 s9 : Option V), σ = [some (.ref a), some (.int k), some (.ref pn), some (.ref pc), s4, s5, some (.int way), some (.int (m1 - wd')), some (.ref t), s9] ∧ H' t = some (.lst (.str "cast" :: (flatP (cs.take i)).map Th.v)))
    ⟨Same.refl _, pt, s5, none, rfl, by rw [g4 _ _ hpt3]; rfl⟩ (fun i σ H' _ hp => SqL.of (hp.1 _ _ hps4)) ?_ ?_
  · rintro i x σ H' hx ⟨g', t, s5', s9, rfl, ht⟩
    obtain ⟨r, p, rfl, hq, hr⟩ := (hPn.mono g').get hx
    have hil : i < n := by have := (List.getElem?_eq_some_iff.mp hx).1; omega
    have hq2 : cs[i]? = some p := by rw [List.getElem?_take, if_pos hil] at hq; exact hq
    refine ⟨r, _, rfl, SqT.of hr, rfl, _, _, rfl, _, _, rfl, rfl, ?_⟩
    refine ⟨_, rfl, _, rfl, _, rfl, (by show 2 ≤ sizeLine; decide), fun u hu => ?_⟩
    generalize hH5 : upd H' u (HO.lst _) = H5
    have hH5' : upd H' u (.lst [.str (tx p.1), .int p.2]) = H5 := hH5
    have g5 : Same H' H5 := hH5' ▸ same_new hu _
    have hu5 : H5 u = some (.lst [.str (tx p.1), .int p.2]) := by rw [← hH5', upd_same]
    refine ⟨t, u, _, _, rfl, rfl, g5 _ _ ht, hu5, ?_, fun v hv => ⟨(g'.trans g5).trans (same_new hv _), v, _, _, rfl, ?_⟩⟩
    · rw [List.length_cons, List.length_map, flatP_len, List.length_take, sizeLine_eq]
      show _ + 2 ≤ _
      omega
    · rw [upd_same, List.take_add_one, hq2]
      show _ = some (HO.lst (_ :: List.map Th.v (flatP (cs.take i ++ [p]))))
      rw [flatP_snoc, List.map_append]
      rfl
  rintro σ H' ⟨g', t, s5', s9, rfl, ht⟩
  rw [hlen] at ht
  refine ⟨_, rfl, t, _, rfl, .inl ⟨SqL.of ht, fun l hl => q l (wd "cast") (flatP (cs.take n)) _ (gH.trans (g3.trans (g4.trans (g'.trans (same_new hl _))))) (by rw [thV_wd]; exact upd_same) (hfree g' hl) (anyC (fun p hp => hok p (List.mem_of_mem_take hp)) ?_ ?_)⟩⟩
  · rw [List.length_take]; omega
  · rw [List.length_take]; omega
abbrev sd__law_big : Stmt := top 16
abbrev N__law_big : List Str := ["_law_many", "_law_found", "_law_step"]
abbrev P__law_big : List Str := ["_law_many"]
theorem sc__law_big : FnScope N__law_big P__law_big (defScope sd__law_big) := ⟨rfl, rfl, rfl, by decide +kernel, rfl, by decide +kernel, by decide +kernel⟩
theorem ok__law_big (F : At K mg "_law_big" sd__law_big f fd) (m_range : mg "range" = none) : Dn P w K mg base 1 "_law_big" P__law_big spBig := by
  refine F.ok sc__law_big (fun vs H Q E h => ?_) (fun cdv A outer s H vs Q E hr h => ?_) (fun _ _ _ _ _ _ us hl => match us, hl with | [_], _ => rfl)
  · obtain ⟨n, rfl, _⟩ := h.ex
    rfl
  obtain ⟨n, rfl, hn, q⟩ := h.ex
  refine ⟨_, (pss_cons (ps_set (i := 1) sc__law_big.nd rfl (Or.inl rfl) pe_int)
    (pss_cons (ps_for PassesOwn.never rfl (pi_range1 (by rfl) m_range (pa_cons (pv 0) pa_nil)) (pg_name (i := 2) sc__law_big.nd rfl (Or.inl rfl)) (pss_one (ps_set (i := 1) sc__law_big.nd rfl (Or.inl rfl) (pe_op op_mulW (pv 1) (pe_op op_pow pe_int pe_int)))))
    (pss_one (ps_ret (pv 1))))), ?_⟩
  have P60 : CPow 10 60 := ⟨by decide, by decide, by decide +kernel⟩
  refine ⟨_, rfl, (n : Int), rfl, by omega, by omega, ?_⟩
  refine for_range (lo := 0) (n := (n : Int).toNat) (fun i σ H' => H' = H ∧ ∃ s1 : Option V, σ = [some (.int n), some (.int (((10 ^ (60 * i) : Nat)) : Int)), s1]) ⟨rfl, none, rfl⟩ ?_ ?_
  · rintro i σ H' hi ⟨rfl, s1, rfl⟩
    have e60 : ((10 : Int) ^ (60 : Int).toNat) = ((10 ^ 60 : Nat) : Int) := by decide +kernel
    have hsz : Jm.Sz (4 * (60 * i) + 1) (((10 ^ (60 * i) : Nat)) : Int) := by
      show (((10 ^ (60 * i) : Nat)) : Int).natAbs < _
      have e2 : 2 ^ (4 * (60 * i)) = (2 ^ 4) ^ (60 * i) := Nat.pow_mul ..
      rw [Int.natAbs_natCast, Nat.pow_succ, e2]
      have : 10 ^ (60 * i) ≤ (2 ^ 4) ^ (60 * i) := Nat.pow_le_pow_left (by decide) _
      have h1 : 0 < 10 ^ (60 * i) := Nat.pow_pos (by decide)
      generalize (2 ^ 4) ^ (60 * i) = X2 at *
      generalize 10 ^ (60 * i) = X1 at *
      omega
    refine ⟨_, rfl, _, _, rfl, rfl, P60, _, _, rfl, rfl, cmul_sz hsz (sz_lit (n := 200) (by decide +kernel)) (by omega), rfl, some (.int ((0 : Int) + (i : Int))), ?_⟩
    have ev : (((10 ^ (60 * i) : Nat)) : Int) * ((10 : Int) ^ (60 : Int).toNat) = (((10 ^ (60 * (i + 1)) : Nat)) : Int) := by
      rw [e60, ← Int.natCast_mul, ← Nat.pow_add]
      rfl
    rw [← ev]
    rfl
  rintro σ H' ⟨rfl, s1, rfl⟩
  rw [Int.toNat_natCast]
  exact ⟨_, rfl, q⟩
abbrev sd__law_paper_part : Stmt := top 17
abbrev N__law_paper_part : List Str := ["_law_script", "_law_k", "_law_names_here", "_law_shares", "_law_at", "_law_top", "_law_big_here", "_law_worth"]
abbrev P__law_paper_part : List Str := ["_law_script", "_law_k"]
theorem sc__law_paper_part : FnScope N__law_paper_part P__law_paper_part (defScope sd__law_paper_part) := ⟨rfl, rfl, rfl, by decide +kernel, rfl, by decide +kernel, by decide +kernel⟩
theorem ok__law_paper_part (F : At K mg "_law_paper_part" sd__law_paper_part f fd) (D__law_draw : Dn P w K mg base 1 "_law_draw" ["_law_script", "_law_k", "_law_j", "_law_many"] (spDraw K)) (D__law_names : Dn P w K mg base 2 "_law_names" ["_law_script", "_law_k", "_law_many"] (spNames K)) (D__law_least : Dn P w K mg base 1 "_law_least" ["_law_top", "_law_bottom"] spLeast) (D__law_big : Dn P w K mg base 1 "_law_big" ["_law_many"] spBig) (m_range : mg "range" = none) : Dn P w K mg base 3 "_law_paper_part" P__law_paper_part (spPaperPartN K) := by
  refine F.ok sc__law_paper_part (fun vs H Q E h => ?_) (fun cdv A outer s H vs Q E hr h => ?_) (fun _ _ _ _ _ _ us hl => match us, hl with | [_, _], _ => rfl)
  · obtain ⟨a, ms, k, rfl, _⟩ := h.ex
    rfl
  obtain ⟨a, ms, k, rfl, hS, h63, hk, q⟩ := h.ex
  refine ⟨_, (pss_cons (ps_set (i := 2) sc__law_paper_part.nd rfl (Or.inl rfl) (pe_fn D__law_names hr (pa_cons (pv 0) (pa_cons (pv 1) (pa_cons pe_int pa_nil)))))
    (pss_cons (ps_set (i := 3) sc__law_paper_part.nd rfl (Or.inl rfl) (pe_lst pa_nil))
    (pss_cons (ps_for PassesOwn.never rfl (pi_range1 (by rfl) m_range (pa_cons (pe_fn D__law_draw hr (pa_cons (pv 0) (pa_cons (pe_op op_add (pv 1) pe_int) (pa_cons pe_int (pa_cons pe_int pa_nil))))) pa_nil)) (pg_name (i := 4) sc__law_paper_part.nd rfl (Or.inl rfl)) (pss_cons (ps_set (i := 5) sc__law_paper_part.nd rfl (Or.inl rfl) (pe_fn D__law_draw hr (pa_cons (pv 0) (pa_cons (pe_op op_add (pv 1) pe_int) (pa_cons (pe_op op_add (pe_op op_mul pe_int (pv 4)) pe_int) (pa_cons (pe_ix (ix_listK K) (pe_lst (pa_cons pe_int (pa_cons (pe_op op_pow pe_int pe_int) pa_nil))) (pe_fn D__law_draw hr (pa_cons (pv 0) (pa_cons (pe_op op_add (pv 1) pe_int) (pa_cons (pe_op op_add (pe_op op_mul pe_int (pv 4)) pe_int) (pa_cons pe_int pa_nil))))) (fun _ _ => rfl)) pa_nil))))))
    (pss_one (ps_expr (pe_bm PySem.F.plainAttrs_list PySem.F.slot_list_append PySem.F.type_list_append mt_append (pv 3) (pa_cons (pe_tup (pa_cons (pe_ix (ix_listK K) (pv 2) (pv 4) (fun _ _ => rfl)) (pa_cons (pe_fn D__law_least hr (pa_cons (pv 5) (pa_cons (pe_op op_add pe_int (pe_fn D__law_draw hr (pa_cons (pv 0) (pa_cons (pe_op op_add (pv 1) pe_int) (pa_cons (pe_op op_add (pe_op op_mul pe_int (pv 4)) pe_int) (pa_cons pe_int pa_nil)))))) pa_nil))) pa_nil))) pa_nil))))))
    (pss_cons (ps_set (i := 6) sc__law_paper_part.nd rfl (Or.inl rfl) (pe_ix (ix_listK K) (pe_lst (pa_cons pe_int (pa_cons (pe_op op_pow pe_int pe_int) (pa_cons (pe_fn D__law_big hr (pa_cons pe_int pa_nil)) pa_nil)))) (pe_op op_fdivW (pe_fn D__law_draw hr (pa_cons (pv 0) (pa_cons (pe_op op_add (pv 1) pe_int) (pa_cons pe_int (pa_cons pe_int pa_nil))))) pe_int) (fun _ _ => rfl)))
    (pss_cons (ps_set (i := 7) sc__law_paper_part.nd rfl (Or.inl rfl) (pe_op op_mulW (pe_fn D__law_draw hr (pa_cons (pv 0) (pa_cons (pe_op op_add (pv 1) pe_int) (pa_cons pe_int (pa_cons (pe_op op_pow pe_int pe_int) pa_nil))))) (pv 6)))
    (pss_one (ps_ret (pe_tup (pa_cons (pe_ix (ix_listK K) (pv 2) pe_int (fun _ _ => rfl)) (pa_cons (pe_ix (ix_listK K) (pv 2) (pe_fn D__law_draw hr (pa_cons (pv 0) (pa_cons (pe_op op_add (pv 1) pe_int) (pa_cons pe_int (pa_cons pe_int pa_nil))))) (fun _ _ => rfl)) (pa_cons (pv 7) (pa_cons (pe_fn D__law_draw hr (pa_cons (pv 0) (pa_cons (pe_op op_add (pv 1) pe_int) (pa_cons pe_int (pa_cons pe_int pa_nil))))) (pa_cons (pv 3) pa_nil))))))))))))), ?_⟩
  have P9 : CPow 10 9 := ⟨by decide, by decide, by decide +kernel⟩
  have P30 : CPow 10 30 := ⟨by decide, by decide, by decide +kernel⟩
  have e10 : (10 : Int) ^ (9 : Int).toNat = 1000000000 := by decide +kernel
  refine ⟨_, rfl, _, rfl, use_names (many := 4) rfl hS h63 hk (by decide) fun pn nss H1 g1 hpn _ hnl _ hnok => ?_⟩
  have hS1 := g1.seq hS
  refine ⟨(by show 0 ≤ sizeLine; decide), fun pc hpc => ?_⟩
  have g2 := same_new hpc (.lst [])
  have hpc2 : upd H1 pc (.lst []) pc = some (.lst []) := upd_same
  generalize upd H1 pc (.lst []) = H2 at *
  have hS2 := g2.seq hS1
  refine ⟨_, rfl, _, rfl, _, _, rfl, rfl, use_draw hS2 h63 (by omega) (by decide) (by decide) (by decide) fun nsh _ n0 n1 => ⟨nsh, rfl, by omega, by omega, ?_⟩⟩
  refine for_range (lo := 0) (n := nsh.toNat) (fun i σ H' => Same H1 H' ∧ ∃ (s4 s5 : Option V) (sv : List V) (sl : List Sh), σ = [some (.ref a), some (.int k), some (.ref pn), some (.ref pc), s4, s5, none, none] ∧ H' pc = some (.lst sv) ∧ Paired (ShAt H') sv sl ∧ sl.length = i ∧ ∀ s ∈ sl, ShOkP s)
    ⟨g2, none, none, [], [], rfl, hpc2, .nil, rfl, fun _ m => nomatch m⟩ ?_ ?_
  · rintro i σ H' hi ⟨g, s4, s5, sv, sl, rfl, hc, hP, hsl, hok⟩
    have hi4 : i < 4 := by omega
    have e0 : (0 : Int) + (i : Int) = ((i : Nat) : Int) := by omega
    rw [e0]
    have hSg := g.seq hS1
    have hvl := pr_len hP
    refine ⟨_, rfl, _, rfl, _, _, rfl, rfl, _, rfl, _, _, rfl, rfl, .inl ⟨by decide, by decide⟩, _, _, rfl, rfl, _, _, rfl, rfl, P9, (by show 2 ≤ sizeLine; decide), fun p1 hp1 => ?_⟩
    generalize hH3 : upd H' p1 (HO.lst _) = H3
    have hH3' : upd H' p1 (.lst [.int 4, .int 1000000000]) = H3 := by rw [← e10]; exact hH3
    have g3 : Same H' H3 := hH3' ▸ same_new hp1 _
    have hp13 : H3 p1 = some (.lst [.int 4, .int 1000000000]) := by rw [← hH3', upd_same]
    clear hH3 hH3'
    have hS3 := g3.seq hSg
    refine ⟨_, rfl, _, rfl, _, _, rfl, rfl, _, rfl, _, _, rfl, rfl, .inl ⟨by decide, by decide⟩, _, _, rfl, rfl, use_draw hS3 h63 (by omega) (by omega) (by omega) (by decide) fun bd _ b0 b1 => ?_⟩
    obtain ⟨B, hB, hB0, hB1⟩ : ∃ B : Int, atI [V.int 4, V.int 1000000000] bd = some (.int B) ∧ 0 < B ∧ B ≤ 1000000000 := by
      rcases (by omega : bd = 0 ∨ bd = 1) with e | e
      · exact ⟨4, by rw [e]; rfl, by decide, by decide⟩
      · exact ⟨1000000000, by rw [e]; rfl, by decide, by decide⟩
    refine ⟨p1, _, _, _, rfl, rfl, SqL.of hp13, hB, use_draw hS3 h63 (by omega) (by omega) (by omega) hB0 fun tp _ t0 t1 => ?_⟩
    have hi' : i < nss.length := by omega
    have hx : (txs nss)[i]? = some (.str (tx nss[i])) := by unfold txs; rw [List.getElem?_map, List.getElem?_eq_getElem hi']; rfl
    have g13 := g.trans g3
    have hc3 := g3 _ _ hc
    refine ⟨_, rfl, .inl ⟨rfl, _, SqL.of hc3⟩, _, rfl, _, rfl, pn, _, _, _, rfl, rfl, SqL.of (g13 _ _ hpn), atI_nat hx, _, rfl, _, rfl, _, rfl, _, _, rfl, rfl, _, rfl, _, _, rfl, rfl, .inl ⟨by decide, by decide⟩, _, _, rfl, rfl, use_draw hS3 h63 (by omega) (by omega) (by omega) (by decide) fun bt _ bt0 bt1 => ⟨_, _, rfl, rfl, ?_⟩⟩
    refine use_least (by omega) (sz_small (by omega) (by omega)) fun rt H5 g5 hrt => ⟨(by show 2 ≤ sizeLine; decide), fun p2 hp2 => ?_⟩
    obtain ⟨n, d, en, ed, hn, hd⟩ := fr_small t0 (show tp ≤ 1000000000 by omega) (show 0 < 1 + bt by omega) (by omega)
    have hrt' : H5 rt = some (.tup [.int (n : Int), .int (d : Int)]) := by rw [← en, ← ed]; exact hrt
    generalize hH6 : upd H5 p2 (HO.tup _) = H6
    have hH6' : upd H5 p2 (.tup [.str (tx nss[i]), .ref rt]) = H6 := hH6
    have g6 : Same H5 H6 := hH6' ▸ same_new hp2 _
    have hp26 : H6 p2 = some (.tup [.str (tx nss[i]), .ref rt]) := by rw [← hH6', upd_same]
    clear hH6 hH6'
    have hc6 := g6 _ _ (g5 _ _ hc3)
    have hsh : ShAt H6 (.ref p2) (nss[i], n, d) := ⟨p2, rt, rfl, hp26, g6 _ _ hrt'⟩
    refine ⟨pc, sv, _, rfl, rfl, hc6, small1000 (by omega), ((g13.trans g5).trans g6).upd_new hpc _, _, _, sv ++ [.ref p2], sl ++ [(nss[i], n, d)], rfl, upd_same, Paired.snoc (Paired.mapP hP fun _ _ z => (z.mono (g3.trans (g5.trans g6))).upd hc6) (hsh.upd hc6), by rw [List.length_append, hsl]; rfl, fun s hs => ?_⟩
    rcases List.mem_append.mp hs with z | z
    · exact hok s z
    · rw [List.mem_singleton.mp z]
      exact ⟨hnok _ (List.getElem_mem hi'), hn, hd⟩
  rintro σ H' ⟨g, s4, s5, sv, sl, rfl, hc, hP, hsl, hok⟩
  have hS' := g.seq hS1
  have nm : ∀ j : Int, 0 ≤ j → j < 4 → ∃ x, NameOk x ∧ atI (txs nss) j = some (.str (tx x)) := fun j h0 h1 => by
    have hj' : j.toNat < nss.length := by omega
    refine ⟨nss[j.toNat], hnok _ (List.getElem_mem hj'), ?_⟩
    have := atI_nat (xs := txs nss) (j := j.toNat) (v := .str (tx nss[j.toNat])) (by unfold txs; rw [List.getElem?_map, List.getElem?_eq_getElem hj']; rfl)
    rw [show ((j.toNat : Nat) : Int) = j by omega] at this
    exact this
  refine ⟨_, _, rfl, rfl, P30, use_big (n := 15) rfl (by decide) ⟨(by show 3 ≤ sizeLine; decide), fun p1 hp1 => ?_⟩⟩
  generalize hH3 : upd H' p1 (HO.lst _) = H3
  have hH3' : upd H' p1 (.lst [.int 1, .int ((10 : Int) ^ (30 : Int).toNat), .int ((10 ^ (60 * 15) : Nat) : Int)]) = H3 := hH3
  have g3 : Same H' H3 := hH3' ▸ same_new hp1 _
  have hp13 : H3 p1 = some (.lst [.int 1, .int ((10 : Int) ^ (30 : Int).toNat), .int ((10 ^ (60 * 15) : Nat) : Int)]) := by rw [← hH3', upd_same]
  clear hH3 hH3'
  have hS3 := g3.seq hS'
  refine ⟨_, rfl, _, rfl, _, _, rfl, rfl, use_draw hS3 h63 (by omega) (by decide) (by decide) (by decide) fun bd _ b0 b1 => ⟨_, _, rfl, rfl, cdivW_lit (by decide +kernel), ?_⟩⟩
  obtain ⟨B, hB, hB1⟩ : ∃ B : Nat, atI [V.int 1, V.int ((10 : Int) ^ (30 : Int).toNat), V.int ((10 ^ (60 * 15) : Nat) : Int)] (bd / 2) = some (.int (B : Int)) ∧ B ≤ 10 ^ 900 := by
    rcases (by omega : bd / 2 = 0 ∨ bd / 2 = 1 ∨ bd / 2 = 2) with e | e | e
    · exact ⟨1, by rw [e]; rfl, Nat.one_le_pow _ _ (by decide)⟩
    · exact ⟨10 ^ 30, by rw [e]; rfl, Nat.pow_le_pow_right (by decide) (by decide)⟩
    · exact ⟨10 ^ (60 * 15), by rw [e]; rfl, Nat.le_refl _⟩
  refine ⟨p1, _, _, _, rfl, rfl, SqL.of hp13, hB, ?_⟩
  refine ⟨_, rfl, _, rfl, _, _, rfl, rfl, _, _, rfl, rfl, P9, use_draw hS3 h63 (by omega) (by decide) (by decide) (by decide +kernel) fun wd0 _ w0 w1 => ⟨_, rfl, _, _, rfl, rfl, ?_, ?_⟩⟩
  · rw [e10] at w1
    exact ⟨30, 3000, by show _ < 2 ^ 30; omega, Nat.lt_of_le_of_lt (by rw [Int.natAbs_natCast]; exact hB1) (by decide +kernel), by decide⟩
  rw [e10] at w1
  obtain ⟨W, eW⟩ : ∃ W : Nat, wd0 = (W : Int) := ⟨wd0.toNat, by omega⟩
  subst eW
  have hworth : W * B < 10 ^ 1000 := by
    have h1 : W * B ≤ 10 ^ 9 * 10 ^ 900 := Nat.mul_le_mul (by omega) hB1
    exact Nat.lt_of_le_of_lt h1 (by rw [← Nat.pow_add]; exact Nat.pow_lt_pow_right (by decide) (by decide))
  have g13 := g.trans g3
  obtain ⟨n3, hn3, en3⟩ := nm 3 (by decide) (by decide)
  refine ⟨_, rfl, pn, _, 3, _, rfl, rfl, SqL.of (g13 _ _ hpn), en3, ?_⟩
  refine ⟨_, rfl, _, rfl, _, rfl, _, _, rfl, rfl, use_draw hS3 h63 (by omega) (by decide) (by decide) (by decide) fun oi _ o0 o1 => ?_⟩
  obtain ⟨no, hno, eno⟩ := nm oi o0 o1
  refine ⟨pn, _, _, _, rfl, rfl, SqL.of (g13 _ _ hpn), eno, _, rfl, _, rfl, _, rfl, _, _, rfl, rfl, use_draw hS3 h63 (by omega) (by decide) (by decide) (by decide) fun wt _ t0 t1 => ⟨_, rfl, (by show 5 ≤ sizeLine; decide), fun z hz => ?_⟩⟩
  obtain ⟨T, eT⟩ : ∃ T : Nat, wt = (T : Int) := ⟨wt.toNat, by omega⟩
  subst eT
  have hT : T < 10 ^ 10 := by omega
  generalize hH4 : upd H3 z (HO.tup _) = H4
  have hH4' : upd H3 z (.tup [.str (tx n3), .str (tx no), .int ((W * B : Nat) : Int), .int (T : Int), .ref pc]) = H4 := by rw [Int.natCast_mul]; exact hH4
  have g4 : Same H3 H4 := hH4' ▸ same_new hz _
  have hz4 : H4 z = some (.tup [.str (tx n3), .str (tx no), .int ((W * B : Nat) : Int), .int (T : Int), .ref pc]) := by rw [← hH4', upd_same]
  clear hH4 hH4'
  have g34 := g3.trans g4
  refine q (.ref z) ⟨n3, no, W * B, T, sl⟩ H4 (g1.trans (g.trans g34)) (fun N hN => ⟨z, pc, sv, rfl, hz4, g34 _ _ hc, Paired.mapP hP fun _ _ z => z.mono g34, fun m => ?_⟩) ⟨hn3, hno, hworth, hT, by show sl.length ≤ 4; omega, hok⟩
  have := hN pc m
  exact this (g1.free hpc)
abbrev sd__law_paper : Stmt := top 18
abbrev N__law_paper : List Str := ["_law_script", "_law_k", "_law_roster", "_law_entries", "_law_at", "_law_deed", "_law_parts", "_law_part", "_law_big_here", "_law_whole"]
abbrev P__law_paper : List Str := ["_law_script", "_law_k"]
theorem sc__law_paper : FnScope N__law_paper P__law_paper (defScope sd__law_paper) := ⟨rfl, rfl, rfl, by decide +kernel, rfl, by decide +kernel, by decide +kernel⟩
theorem ok__law_paper (F : At K mg "_law_paper" sd__law_paper f fd) (D__law_draw : Dn P w K mg base 1 "_law_draw" ["_law_script", "_law_k", "_law_j", "_law_many"] (spDraw K)) (D__law_names : Dn P w K mg base 2 "_law_names" ["_law_script", "_law_k", "_law_many"] (spNames K)) (D__law_any_deed : Dn P w K mg base 3 "_law_any_deed" ["_law_script", "_law_k"] (spAnyDeed K)) (D__law_paper_part : Dn P w K mg base 3 "_law_paper_part" ["_law_script", "_law_k"] (spPaperPartN K)) (D__law_big : Dn P w K mg base 1 "_law_big" ["_law_many"] spBig) (m_range : mg "range" = none) : Dn P w K mg base 4 "_law_paper" P__law_paper (spPaper K) := by
  refine F.ok sc__law_paper (fun vs H Q E h => ?_) (fun cdv A outer s H vs Q E hr h => ?_) (fun _ _ _ _ _ _ us hl => match us, hl with | [_, _], _ => rfl)
  · obtain ⟨a, ms, k, rfl, _⟩ := h.ex
    rfl
  obtain ⟨a, ms, k, rfl, hS, h63, hk, q⟩ := h.ex
  refine ⟨_, (pss_cons (ps_set (i := 2) sc__law_paper.nd rfl (Or.inl rfl) (pe_fn D__law_names hr (pa_cons (pv 0) (pa_cons (pv 1) (pa_cons (pe_fn D__law_draw hr (pa_cons (pv 0) (pa_cons pe_int (pa_cons pe_int (pa_cons pe_int pa_nil))))) pa_nil)))))
    (pss_cons (ps_set (i := 3) sc__law_paper.nd rfl (Or.inl rfl) (pe_lst pa_nil))
    (pss_cons (ps_for PassesOwn.never rfl (pi_range1 (by rfl) m_range (pa_cons (pe_fn D__law_draw hr (pa_cons (pv 0) (pa_cons pe_int (pa_cons pe_int (pa_cons pe_int pa_nil))))) pa_nil)) (pg_name (i := 4) sc__law_paper.nd rfl (Or.inl rfl)) (pss_cons (ps_set (i := 5) sc__law_paper.nd rfl (Or.inl rfl) (pe_fn D__law_any_deed hr (pa_cons (pv 0) (pa_cons (pe_op op_add (pe_op op_add (pv 1) pe_int) (pe_op op_mul pe_int (pv 4))) pa_nil))))
    (pss_cons (ps_set (i := 6) sc__law_paper.nd rfl (Or.inl rfl) (pe_lst pa_nil))
    (pss_cons (ps_for PassesOwn.never rfl (pi_range1 (by rfl) m_range (pa_cons (pe_fn D__law_draw hr (pa_cons (pv 0) (pa_cons (pe_op op_add (pe_op op_add (pv 1) pe_int) (pe_op op_mul pe_int (pv 4))) (pa_cons pe_int (pa_cons pe_int pa_nil))))) pa_nil)) (pg_name (i := 7) sc__law_paper.nd rfl (Or.inl rfl)) (pss_one (ps_expr (pe_bm PySem.F.plainAttrs_list PySem.F.slot_list_append PySem.F.type_list_append mt_append (pv 6) (pa_cons (pe_fn D__law_paper_part hr (pa_cons (pv 0) (pa_cons (pe_op op_add (pe_op op_add (pe_op op_add (pv 1) pe_int) (pe_op op_mul pe_int (pv 4))) (pe_op op_mul pe_int (pv 7))) pa_nil))) pa_nil)))))
    (pss_cons (ps_set (i := 8) sc__law_paper.nd rfl (Or.inl rfl) (pe_ix (ix_listK K) (pe_lst (pa_cons pe_int (pa_cons pe_int (pa_cons (pe_op op_pow pe_int pe_int) (pa_cons (pe_fn D__law_big hr (pa_cons pe_int pa_nil)) pa_nil))))) (pe_fn D__law_draw hr (pa_cons (pv 0) (pa_cons (pe_op op_add (pe_op op_add (pv 1) pe_int) (pe_op op_mul pe_int (pv 4))) (pa_cons pe_int (pa_cons pe_int pa_nil))))) (fun _ _ => rfl)))
    (pss_cons (ps_set (i := 9) sc__law_paper.nd rfl (Or.inl rfl) (pe_op op_mulW (pe_fn D__law_draw hr (pa_cons (pv 0) (pa_cons (pe_op op_add (pe_op op_add (pv 1) pe_int) (pe_op op_mul pe_int (pv 4))) (pa_cons pe_int (pa_cons (pe_op op_pow pe_int pe_int) pa_nil))))) (pv 8)))
    (pss_one (ps_expr (pe_bm PySem.F.plainAttrs_list PySem.F.slot_list_append PySem.F.type_list_append mt_append (pv 3) (pa_cons (pe_tup (pa_cons (pv 5) (pa_cons (pv 9) (pa_cons (pv 6) pa_nil)))) pa_nil))))))))))
    (pss_one (ps_ret (pe_tup (pa_cons (pv 2) (pa_cons (pv 3) pa_nil)))))))), ?_⟩
  have P9 : CPow 10 9 := ⟨by decide, by decide, by decide +kernel⟩
  have P30 : CPow 10 30 := ⟨by decide, by decide, by decide +kernel⟩
  have e10 : (10 : Int) ^ (9 : Int).toNat = 1000000000 := by decide +kernel
  refine ⟨_, rfl, _, rfl, _, rfl, use_draw hS h63 (by decide) (by decide) (by decide) (by decide) fun nr _ r0 r1 => ?_⟩
  refine use_names (many := nr.toNat) (by omega) hS h63 hk (by omega) fun pr nss H1 g1 hpr _ hnl _ hnok => ?_
  have hS1 := g1.seq hS
  refine ⟨(by show 0 ≤ sizeLine; decide), fun pe hpe => ?_⟩
  have g2 := same_new hpe (.lst [])
  have hpe2 : upd H1 pe (.lst []) pe = some (.lst []) := upd_same
  generalize upd H1 pe (.lst []) = H2 at *
  have hS2 := g2.seq hS1
  refine ⟨_, rfl, use_draw hS2 h63 (by decide) (by decide) (by decide) (by decide) fun ne _ n0 n1 => ⟨ne, rfl, by omega, by omega, ?_⟩⟩
  refine for_range (lo := 0) (n := ne.toNat) (fun i σ H' => Same H1 H' ∧ ∃ (s4 s5 s6 s7 s8 s9 : Option V) (ev : List V) (el : List EE), σ = [some (.ref a), some (.int k), some (.ref pr), some (.ref pe), s4, s5, s6, s7, s8, s9] ∧ H' pe = some (.lst ev) ∧ Paired (EAv [pe] H') ev el ∧ el.length = i ∧ ∀ e ∈ el, EEok e)
    ⟨g2, none, none, none, none, none, none, [], [], rfl, hpe2, .nil, rfl, fun _ m => nomatch m⟩ ?_ ?_
  · rintro i σ H' hi ⟨g, s4, s5, s6, s7, s8, s9, ev, el, rfl, hev, hE, hel, hok⟩
    have hi4 : i < 4 := by omega
    have e0 : (0 : Int) + (i : Int) = ((i : Nat) : Int) := by omega
    rw [e0]
    have hSg := g.seq hS1
    have hvl := pr_len hE
    refine ⟨_, rfl, _, rfl, _, _, rfl, rfl, _, rfl, _, _, rfl, rfl, .inl ⟨by decide, by decide⟩, _, _, rfl, rfl, use_any hSg h63 (by omega) fun z x th H3 g3 hz hz0 any => ?_⟩
    have hS3 := g3.seq hSg
    have hev3 := g3 _ _ hev
    refine ⟨(by show 0 ≤ sizeLine; decide), fun pp hpp => ?_⟩
    have g4 := same_new hpp (.lst [])
    have hpp4 : upd H3 pp (.lst []) pp = some (.lst []) := upd_same
    generalize upd H3 pp (.lst []) = H4 at *
    have hS4 := g4.seq hS3
    have hne : pp ≠ pe := fun z => by rw [z, hev3] at hpp; cases hpp
    refine ⟨_, rfl, _, rfl, _, _, rfl, rfl, _, rfl, _, _, rfl, rfl, .inl ⟨by decide, by decide⟩, _, _, rfl, rfl, use_draw hS4 h63 (by omega) (by decide) (by decide) (by decide) fun np _ p0 p1 => ⟨np, rfl, by omega, by omega, ?_⟩⟩
    refine for_range (lo := 0) (n := np.toNat) (fun j σ H' => Same H3 H' ∧ ∃ (s7 : Option V) (pv : List V) (pl : List PP), σ = [some (.ref a), some (.int k), some (.ref pr), some (.ref pe), some (.int (i : Int)), some (.ref z), some (.ref pp), s7, s8, s9] ∧ H' pp = some (.lst pv) ∧ Paired (PAv [pp, pe] H') pv pl ∧ pl.length = j ∧ ∀ p ∈ pl, PPok p)
      ⟨g4, s7, [], [], rfl, hpp4, .nil, rfl, fun _ m => nomatch m⟩ ?_ ?_
    · rintro j σ H5 hj ⟨g5, s7', pv, pl, rfl, hpv, hP, hpl, hpok⟩
      have ej : (0 : Int) + (j : Int) = ((j : Nat) : Int) := by omega
      rw [ej]
      have hS5 := g5.seq hS3
      have hpvl := pr_len hP
      refine ⟨_, rfl, .inl ⟨rfl, _, SqL.of hpv⟩, _, rfl, _, rfl, _, _, rfl, rfl, _, rfl, _, _, rfl, rfl, .inl ⟨by decide, by decide⟩, _, _, rfl, rfl, _, rfl, _, _, rfl, rfl, .inl ⟨by decide, by decide⟩, _, _, rfl, rfl, use_paperpartN hS5 h63 (by omega) fun v p H6 g6 hp hpk => ?_⟩
      have hv := hp [pp, pe] fun x hx => by
        rcases List.mem_cons.mp hx with z | z
        · rw [z, hpv]; exact fun c => nomatch c
        · rw [List.mem_singleton.mp z, g5 _ _ hev3]; exact fun c => nomatch c
      have hpv6 := g6 _ _ hpv
      refine ⟨pp, pv, _, rfl, rfl, hpv6, small1000 (by omega), (g5.trans g6).upd_new hpp _, _, pv ++ [v], pl ++ [p], rfl, upd_same, Paired.snoc (Paired.mapP hP fun _ _ z => (z.mono g6).upd hpv6 List.mem_cons_self) (hv.upd hpv6 List.mem_cons_self), by rw [List.length_append, hpl]; rfl, fun p' hp' => ?_⟩
      rcases List.mem_append.mp hp' with z | z
      · exact hpok p' z
      · rw [List.mem_singleton.mp z]; exact hpk
    rintro σ H5 ⟨g5, s7', pv, pl, rfl, hpv, hP, hpl, hpok⟩
    have hS5 := g5.seq hS3
    refine ⟨_, _, rfl, rfl, P30, use_big (n := 15) rfl (by decide) ⟨(by show 4 ≤ sizeLine; decide), fun pb hpb => ?_⟩⟩
    generalize hH6 : upd H5 pb (HO.lst _) = H6
    have hH6' : upd H5 pb (.lst [.int 0, .int 1, .int ((10 : Int) ^ (30 : Int).toNat), .int ((10 ^ (60 * 15) : Nat) : Int)]) = H6 := hH6
    have g6 : Same H5 H6 := hH6' ▸ same_new hpb _
    have hpb6 : H6 pb = some (.lst [.int 0, .int 1, .int ((10 : Int) ^ (30 : Int).toNat), .int ((10 ^ (60 * 15) : Nat) : Int)]) := by rw [← hH6', upd_same]
    clear hH6 hH6'
    have hS6 := g6.seq hS5
    refine ⟨_, rfl, _, rfl, _, _, rfl, rfl, _, rfl, _, _, rfl, rfl, .inl ⟨by decide, by decide⟩, _, _, rfl, rfl, use_draw hS6 h63 (by omega) (by decide) (by decide) (by decide) fun bd _ b0 b1 => ?_⟩
    obtain ⟨B, hB, hB1⟩ : ∃ B : Nat, atI [V.int 0, V.int 1, V.int ((10 : Int) ^ (30 : Int).toNat), V.int ((10 ^ (60 * 15) : Nat) : Int)] bd = some (.int (B : Int)) ∧ B ≤ 10 ^ 900 := by
      rcases (by omega : bd = 0 ∨ bd = 1 ∨ bd = 2 ∨ bd = 3) with e | e | e | e
      · exact ⟨0, by rw [e]; rfl, Nat.zero_le _⟩
      · exact ⟨1, by rw [e]; rfl, Nat.one_le_pow _ _ (by decide)⟩
      · exact ⟨10 ^ 30, by rw [e]; rfl, Nat.pow_le_pow_right (by decide) (by decide)⟩
      · exact ⟨10 ^ (60 * 15), by rw [e]; rfl, Nat.le_refl _⟩
    refine ⟨pb, _, _, _, rfl, rfl, SqL.of hpb6, hB, ?_⟩
    refine ⟨_, rfl, _, rfl, _, _, rfl, rfl, _, rfl, _, _, rfl, rfl, .inl ⟨by decide, by decide⟩, _, _, rfl, rfl, _, _, rfl, rfl, P9, use_draw hS6 h63 (by omega) (by decide) (by decide) (by decide +kernel) fun wd0 _ w0 w1 => ⟨_, rfl, _, _, rfl, rfl, ?_, ?_⟩⟩
    · rw [e10] at w1
      exact ⟨30, 3000, by show _ < 2 ^ 30; omega, Nat.lt_of_le_of_lt (by rw [Int.natAbs_natCast]; exact hB1) (by decide +kernel), by decide⟩
    rw [e10] at w1
    obtain ⟨W, eW⟩ : ∃ W : Nat, wd0 = (W : Int) := ⟨wd0.toNat, by omega⟩
    subst eW
    have hworth : W * B < 10 ^ 1000 := by
      have h1 : W * B ≤ 10 ^ 9 * 10 ^ 900 := Nat.mul_le_mul (by omega) hB1
      exact Nat.lt_of_le_of_lt h1 (by rw [← Nat.pow_add]; exact Nat.pow_lt_pow_right (by decide) (by decide))
    have hev6 := g6 _ _ (g5 _ _ hev3)
    refine ⟨_, rfl, .inl ⟨rfl, _, SqL.of hev6⟩, _, rfl, _, rfl, _, rfl, (by show 3 ≤ sizeLine; decide), fun pt hpt => ?_⟩
    generalize hH7 : upd H6 pt (HO.tup _) = H7
    have hH7' : upd H6 pt (.tup [.ref z, .int ((W * B : Nat) : Int), .ref pp]) = H7 := by rw [Int.natCast_mul]; exact hH7
    have g7 : Same H6 H7 := hH7' ▸ same_new hpt _
    have hpt7 : H7 pt = some (.tup [.ref z, .int ((W * B : Nat) : Int), .ref pp]) := by rw [← hH7', upd_same]
    clear hH7 hH7'
    have hev7 := g7 _ _ hev6
    have g57 := g6.trans g7
    have g37 := g5.trans g57
    have hEn : EAv [pe] H7 (.ref pt) ⟨x, th, W * B, pl⟩ := ⟨pt, z, pp, pv, rfl, hpt7, g37 _ _ hz, g57 _ _ hpv, Paired.mapP hP fun _ _ z => (z.mono g57).less fun y hy => List.mem_cons_of_mem _ hy, fun m => hne (List.mem_singleton.mp m)⟩
    refine ⟨pe, ev, _, rfl, rfl, hev7, small1000 (by omega), (g.trans (g3.trans g37)).upd_new hpe _, _, _, _, _, _, _, ev ++ [.ref pt], el ++ [⟨x, th, W * B, pl⟩], rfl, upd_same, Paired.snoc (Paired.mapP hE fun _ _ z => (z.mono (g3.trans g37)).upd hev7 List.mem_cons_self) (hEn.upd hev7 List.mem_cons_self), by rw [List.length_append, hel]; rfl, fun e he => ?_⟩
    rcases List.mem_append.mp he with z | z
    · exact hok e z
    · rw [List.mem_singleton.mp z]
      exact ⟨any, hworth, by show pl.length ≤ 4; omega, hpok⟩
  rintro σ H' ⟨g, s4, s5, s6, s7, s8, s9, ev, el, rfl, hev, hE, hel, hok⟩
  refine ⟨_, rfl, _, rfl, (by show 2 ≤ sizeLine; decide), fun t ht => ?_⟩
  have g5 := same_new ht (.tup [.ref pr, .ref pe])
  refine q t pr pe nss el _ (g1.trans (g.trans g5)) upd_same ⟨g5 _ _ (g _ _ hpr), ev, g5 _ _ hev, Paired.mapP hE fun _ _ z => (z.mono g5).at⟩ ⟨by omega, hnok, by omega, hok⟩
abbrev sd__law_paper_text : Stmt := top 19
abbrev N__law_paper_text : List Str := ["_law_roster", "_law_entries", "_law_rows", "_law_deed", "_law_whole", "_law_parts", "_law_name_here", "_law_owner", "_law_worth", "_law_weight", "_law_shares", "_law_row", "_law_holder", "_law_one"]
abbrev P__law_paper_text : List Str := ["_law_roster", "_law_entries"]
theorem sc__law_paper_text : FnScope N__law_paper_text P__law_paper_text (defScope sd__law_paper_text) := ⟨rfl, rfl, rfl, by decide +kernel, rfl, by decide +kernel, by decide +kernel⟩
theorem ok__law_paper_text (F : At K mg "_law_paper_text" sd__law_paper_text f fd) (z_dig : digOk K = true) (m_str : mg "str" = none) : Dn P w K mg base 1 "_law_paper_text" P__law_paper_text spWritten := by
  refine F.ok sc__law_paper_text (fun vs H Q E h => ?_) (fun cdv A outer s H vs Q E hr h => ?_) (fun _ _ _ _ _ _ us hl => match us, hl with | [_, _], _ => rfl)
  · obtain ⟨r, es, ros, l, rfl, _⟩ := h.ex
    rfl
  obtain ⟨r, es, ros, l, rfl, hp, ok, q⟩ := h.ex
  refine ⟨_, (pss_cons (ps_set (i := 2) sc__law_paper_text.nd rfl (Or.inl rfl) (pe_lst (pa_cons (pe_bm PySem.F.plainAttrs_str PySem.F.slot_str_join PySem.F.type_str_join (mt_join1 K) pe_str (pa_cons (pe_op op_cat (pe_lst (pa_cons pe_str pa_nil)) (pv 0)) pa_nil)) pa_nil)))
    (pss_cons (ps_for PassesOwn.never rfl (pi_listK K (pv 1)) (pg_tupK K (n := 3) rfl (pgs_cons (pg_name (i := 3) sc__law_paper_text.nd rfl (Or.inl rfl)) (pgs_cons (pg_name (i := 4) sc__law_paper_text.nd rfl (Or.inl rfl)) (pgs_cons (pg_name (i := 5) sc__law_paper_text.nd rfl (Or.inl rfl)) pgs_nil)))) (pss_cons (ps_expr (pe_bm PySem.F.plainAttrs_list PySem.F.slot_list_append PySem.F.type_list_append mt_append (pv 2) (pa_cons (pe_bm PySem.F.plainAttrs_str PySem.F.slot_str_join PySem.F.type_str_join (mt_join1 K) pe_str (pa_cons (pe_op op_cat (pe_lst (pa_cons pe_str pa_nil)) (pe_comp ["_law_thing"] [none] rfl (pi_tupK K (pv 3)) (fun _ _ _ _ => (pg_name (i := 0) (show List.Nodup (["_law_thing"] : List Str) from by decide +kernel) rfl (Or.inl rfl))) (fun _ _ _ _ => (pe_callTy call_strT (by rfl) m_str PyProof.Rows.boot_str (pa_cons (pv 0) pa_nil))) rfl (by rfl))) pa_nil)) pa_nil)))
    (pss_cons (ps_expr (pe_bm PySem.F.plainAttrs_list PySem.F.slot_list_append PySem.F.type_list_append mt_append (pv 2) (pa_cons (pe_op op_addT pe_str (pe_callTy (call_str_big rfl z_dig) (by rfl) m_str PyProof.Rows.boot_str (pa_cons (pv 4) pa_nil))) pa_nil)))
    (pss_one (ps_for PassesOwn.never rfl (pi_listK K (pv 5)) (pg_tupK K (n := 5) rfl (pgs_cons (pg_name (i := 6) sc__law_paper_text.nd rfl (Or.inl rfl)) (pgs_cons (pg_name (i := 7) sc__law_paper_text.nd rfl (Or.inl rfl)) (pgs_cons (pg_name (i := 8) sc__law_paper_text.nd rfl (Or.inl rfl)) (pgs_cons (pg_name (i := 9) sc__law_paper_text.nd rfl (Or.inl rfl)) (pgs_cons (pg_name (i := 10) sc__law_paper_text.nd rfl (Or.inl rfl)) pgs_nil)))))) (pss_cons (ps_set (i := 11) sc__law_paper_text.nd rfl (Or.inl rfl) (pe_op op_addT (pe_op op_addT (pe_op op_addT (pe_op op_addT (pe_op op_addT (pe_op op_addT (pe_op op_addT pe_str (pv 6)) pe_str) (pv 7)) pe_str) (pe_callTy (call_str_big rfl z_dig) (by rfl) m_str PyProof.Rows.boot_str (pa_cons (pv 8) pa_nil))) pe_str) (pe_callTy (call_str_big rfl z_dig) (by rfl) m_str PyProof.Rows.boot_str (pa_cons (pv 9) pa_nil))))
    (pss_cons (ps_for PassesOwn.never rfl (pi_listK K (pv 10)) (pg_tupK K (n := 2) rfl (pgs_cons (pg_name (i := 12) sc__law_paper_text.nd rfl (Or.inl rfl)) (pgs_cons (pg_name (i := 13) sc__law_paper_text.nd rfl (Or.inl rfl)) pgs_nil))) (pss_one (ps_set (i := 11) sc__law_paper_text.nd rfl (Or.inl rfl) (pe_op op_addT (pe_op op_addT (pe_op op_addT (pe_op op_addT (pe_op op_addT (pe_op op_addT (pv 11) pe_str) (pv 12)) pe_str) (pe_callTy (call_str_big rfl z_dig) (by rfl) m_str PyProof.Rows.boot_str (pa_cons (pe_ix (ix_tupK K) (pv 13) pe_int (fun _ _ => rfl)) pa_nil))) pe_str) (pe_callTy (call_str_big rfl z_dig) (by rfl) m_str PyProof.Rows.boot_str (pa_cons (pe_ix (ix_tupK K) (pv 13) pe_int (fun _ _ => rfl)) pa_nil))))))
    (pss_one (ps_expr (pe_bm PySem.F.plainAttrs_list PySem.F.slot_list_append PySem.F.type_list_append mt_append (pv 2) (pa_cons (pv 11) pa_nil)))))))))))
    (pss_one (ps_ret (pe_bm PySem.F.plainAttrs_str PySem.F.slot_str_join PySem.F.type_str_join (mt_join1 K) pe_str (pa_cons (pv 2) pa_nil)))))), ?_⟩
  obtain ⟨vs, hes, hE⟩ := hp.es
  have hrl := ok.rl
  have hel := ok.el
  have hvl := pr_len hE
  refine ⟨rfl, (by show 1 ≤ sizeLine; decide), fun p1 hp1 => ?_⟩
  generalize hH1 : upd H p1 (HO.lst _) = H1
  have hH1' : upd H p1 (.lst (txs [wd "roster"])) = H1 := by rw [show txs [wd "roster"] = [.str "roster"] from by show [V.str (tx (wd "roster"))] = _; rw [wd_tx]]; exact hH1
  have g1 : Same H H1 := hH1' ▸ same_new hp1 _
  have hp11 : H1 p1 = some (.lst (txs [wd "roster"])) := by rw [← hH1', upd_same]
  clear hH1 hH1'
  have hrtl : (txs ros).length = ros.length := by unfold txs; rw [List.length_map]
  refine ⟨_, rfl, p1, r, _, _, rfl, rfl, hp11, g1 _ _ hp.r, (by rw [hrtl, sizeLine_eq]; show 1 + _ ≤ _; omega), fun p2 hp2 => ?_⟩
  have g2 := same_new hp2 (.lst (txs [wd "roster"] ++ txs ros))
  have hp22 : upd H1 p2 (.lst (txs [wd "roster"] ++ txs ros)) p2 = some (.lst (txs (wd "roster" :: ros))) := by rw [upd_same]; rfl
  generalize upd H1 p2 (.lst (txs [wd "roster"] ++ txs ros)) = H2 at *
  have hrow : ∀ c ∈ wd "roster" :: ros, c.length ≤ 8 := fun c hc => by
    rcases List.mem_cons.mp hc with z | z
    · rw [z]; decide +kernel
    · exact (ok.rn c z).hi
  have hrsz := joinSz_le (s := [32]) hrow
  have hrsz2 : joinSz [32] (wd "roster" :: ros) ≤ 200 := Nat.le_trans hrsz (by show (ros.length + 1) * 9 ≤ 200; omega)
  have hr0 : (joinL [32] (wd "roster" :: ros)).length ≤ 200 := Nat.le_trans (joinL_len _ _) hrsz2
  refine ⟨p2, [32], wd "roster" :: ros, rfl, rfl, SqL.of hp22, Nat.le_trans hrsz2 (by decide), (by show 1 ≤ sizeLine; decide), fun pw hpw => ?_⟩
  generalize hH3 : upd H2 pw (HO.lst _) = H3
  have hH3' : upd H2 pw (.lst (txs ([joinL [32] (wd "roster" :: ros)] ++ ([] : List EE).flatMap entR))) = H3 := hH3
  have g3 : Same H2 H3 := hH3' ▸ same_new hpw _
  have hw3 : H3 pw = some (.lst (txs ([joinL [32] (wd "roster" :: ros)] ++ ([] : List EE).flatMap entR))) := by rw [← hH3', upd_same]
  clear hH3 hH3'
  have g02 := g1.trans g2
  have hes2 := g02 _ _ hes
  have hE2 : Paired (EAt H2) vs l := Paired.mapP hE fun _ _ z => z.mono g02
  refine ⟨_, rfl, es, rfl, ⟨_, SqL.of (g3 _ _ hes2)⟩, ?_⟩
  have hfl : ∀ k : Nat, ((l.take k).flatMap entR).length ≤ 24 := fun k => by
    have : ∀ (m : List EE), (∀ e ∈ m, EEok e) → (m.flatMap entR).length ≤ m.length * 6 := fun m => by
      induction m with
      | nil => intro _; exact Nat.zero_le _
      | cons e m ih =>
        intro hm
        have a := (hm e List.mem_cons_self).pl
        have b := ih fun e he => hm e (List.mem_cons_of_mem _ he)
        rw [List.flatMap_cons, List.length_append]
        have c : (entR e).length = 2 + e.pts.length := by unfold entR; rw [List.length_append, List.length_map]; rfl
        rw [c, List.length_cons]
        omega
    have h1 := this (l.take k) fun e he => ok.ok e (List.mem_of_mem_take he)
    have h2 : (l.take k).length ≤ 4 := by rw [List.length_take]; omega
    omega
  have htl : ∀ k : Nat, (txs ([joinL [32] (wd "roster" :: ros)] ++ (l.take k).flatMap entR)).length ≤ 25 := fun k => by
    unfold txs
    rw [List.length_map, List.length_append]
    have := hfl k
    show 1 + _ ≤ 25
    omega
  refine for_list (K := K) (xs := vs) (fun i σ H' => Same H2 H' ∧ ∃ (s3 s4 s5 s6 s7 s8 s9 s10 s11 s12 s13 : Option V), σ = [some (.ref r), some (.ref es), some (.ref pw), s3, s4, s5, s6, s7, s8, s9, s10, s11, s12, s13] ∧ H' pw = some (.lst (txs ([joinL [32] (wd "roster" :: ros)] ++ (l.take i).flatMap entR))))
    ⟨g3, none, none, none, none, none, none, none, none, none, none, none, rfl, hw3⟩ (fun i σ H' _ hp => SqL.of (hp.1 _ _ hes2)) ?_ ?_
  · rintro i x σ H' hx ⟨g, s3, s4, s5, s6, s7, s8, s9, s10, s11, s12, s13, rfl, hw⟩
    obtain ⟨e, ee, he⟩ := pr_at hE2 hx
    obtain ⟨t, dt, ls, vp, rfl, ha2, hb2, hc2, hd2⟩ := he
    have ha := g _ _ ha2
    have hb := g _ _ hb2
    have hok := ok.ok e (List.mem_of_getElem? ee)
    have hlw := htl i
    have hthl := hok.any.len
    have hdl : (thV (.s e.x :: e.th)).length = e.th.length + 1 := thV_len _
    generalize hW : [joinL [32] (wd "roster" :: ros)] ++ (l.take i).flatMap entR = W at *
    refine ⟨t, _, rfl, SqT.of ha, rfl, _, _, rfl, _, _, rfl, _, _, rfl, rfl, ?_⟩
    refine ⟨_, rfl, .inl ⟨rfl, _, SqL.of hw⟩, rfl, (by show 1 ≤ sizeLine; decide), fun q1 hq1 => ?_⟩
    generalize hHa : upd H' q1 (HO.lst _) = Ha
    have hHa' : upd H' q1 (.lst (txs [wd "deed"])) = Ha := by rw [show txs [wd "deed"] = [.str "deed"] from by show [V.str (tx (wd "deed"))] = _; rw [wd_tx]]; exact hHa
    have ga : Same H' Ha := hHa' ▸ same_new hq1 _
    have hq1a : Ha q1 = some (.lst (txs [wd "deed"])) := by rw [← hHa', upd_same]
    clear hHa hHa'
    refine ⟨_, rfl, dt, rfl, ⟨_, SqT.of (ga _ _ hb)⟩, fun acc hacc => ?_⟩
    refine comp_tupl (K := K) (xs := thV (.s e.x :: e.th)) (fun j out Hb => Same Ha Hb ∧ out = txs (((Th.s e.x :: e.th).take j).map shT)) (by rw [hdl]; omega) ⟨same_new hacc _, rfl⟩ (fun j out Hb _ _ hp => SqT.of (hp.1 _ _ (ga _ _ hb))) ?_ ?_
    · rintro j y out Hb hy hol hacb ⟨gb, eb⟩
      obtain ⟨tt, rfl, et⟩ := map_at (g := Th.v) hy
      refine ⟨_, rfl, tt, rfl, hok.any.sh.sm tt (List.mem_of_getElem? et), hacb, gb.upd_new hacc _, ?_⟩
      rw [List.take_add_one, et, eb, List.map_append]
      unfold txs
      rw [List.map_append]
      rfl
    rintro out Hb hol hacb ⟨gb, eb⟩
    rw [thV_len, List.take_length] at eb
    have hsz : joinSz [32] (wd "deed" :: (Th.s e.x :: e.th).map shT) ≤ 1000000 := by
      have := hok.any.sh.sz
      have e4 : (wd "deed").length = 4 := by decide +kernel
      have hc : ∀ c ∈ (Th.s e.x :: e.th).map shT, c.length ≤ 1000 := fun c hc => by
        obtain ⟨tt, ht, rfl⟩ := List.mem_map.mp hc
        exact shT_len (hok.any.sh.ok tt ht) (hok.any.sh.sm tt ht)
      have h1 := joinSz_le (s := [32]) hc
      have h2 : ((Th.s e.x :: e.th).map shT).length * (1000 + [32].length) = (e.th.length + 1) * 1001 := by rw [List.length_map]; rfl
      show ((wd "deed").length + 1) + joinSz [32] ((Th.s e.x :: e.th).map shT) ≤ 1000000
      omega
    refine ⟨q1, acc, _, _, rfl, rfl, gb _ _ hq1a, hacb, (by rw [hol, hdl, sizeLine_eq]; show 1 + _ ≤ _; omega), fun q2 hq2 => ?_⟩
    rw [eb]
    generalize hHc : upd Hb q2 (HO.lst _) = Hc
    have hHc' : upd Hb q2 (.lst (txs (wd "deed" :: (Th.s e.x :: e.th).map shT))) = Hc := hHc
    have gc : Same Hb Hc := hHc' ▸ same_new hq2 _
    have hq2c : Hc q2 = some (.lst (txs (wd "deed" :: (Th.s e.x :: e.th).map shT))) := by rw [← hHc', upd_same]
    clear hHc hHc'
    have gac := ga.trans (gb.trans gc)
    have hwc := gac _ _ hw
    refine ⟨q2, [32], _, rfl, rfl, SqL.of hq2c, hsz, pw, _, _, rfl, rfl, hwc, small1000 (by omega), ?_⟩
    rw [deedRow]
    have g6 := (g.trans gac).upd_new hpw (.lst (txs W ++ [.str (tx (wd "deed " ++ joinL [32] ((Th.s e.x :: e.th).map shT)))]))
    have hw6 : upd Hc pw (.lst (txs W ++ [.str (tx (wd "deed " ++ joinL [32] ((Th.s e.x :: e.th).map shT)))])) pw = some (.lst (txs (W ++ [wd "deed " ++ joinL [32] ((Th.s e.x :: e.th).map shT)]))) := by
      rw [upd_same]
      unfold txs
      rw [List.map_append]
      rfl
    generalize upd Hc pw (.lst (txs W ++ [.str (tx (wd "deed " ++ joinL [32] ((Th.s e.x :: e.th).map shT)))])) = H6 at *
    have hl6 : (txs (W ++ [wd "deed " ++ joinL [32] ((Th.s e.x :: e.th).map shT)])).length = (txs W).length + 1 := by unfold txs; rw [List.length_map, List.length_map, List.length_append]; rfl
    generalize hW6 : W ++ [wd "deed " ++ joinL [32] ((Th.s e.x :: e.th).map shT)] = W6 at *
    have hbg : ∀ {n : Nat}, n < 10 ^ 1000 → ((n : Nat) : Int).natAbs < 10 ^ 4300 := fun h => by rw [Int.natAbs_natCast]; exact Nat.lt_of_lt_of_le h (Nat.pow_le_pow_right (by decide) (by decide))
    have hwhl := digs_le hok.wh (by decide)
    refine ⟨_, rfl, .inl ⟨rfl, _, SqL.of hw6⟩, _, rfl, (e.wh : Int), rfl, hbg hok.wh, wd "whole ", digs e.wh, (by rw [wd_tx]), congrArg V.str (str_digs _), ?_, pw, _, _, rfl, rfl, hw6, small1000 (by rw [hl6]; omega), ?_⟩
    · have e6 : (wd "whole ").length = 6 := by decide +kernel
      omega
    have g8 := g6.upd_new hpw (.lst (txs W6 ++ [.str (tx (wd "whole " ++ digs e.wh))]))
    have hw8 : upd H6 pw (.lst (txs W6 ++ [.str (tx (wd "whole " ++ digs e.wh))])) pw = some (.lst (txs (W6 ++ [wd "whole " ++ digs e.wh]))) := by
      rw [upd_same]
      unfold txs
      rw [List.map_append]
      rfl
    generalize upd H6 pw (.lst (txs W6 ++ [.str (tx (wd "whole " ++ digs e.wh))])) = H8 at *
    have hl8 : (txs (W6 ++ [wd "whole " ++ digs e.wh])).length = (txs W6).length + 1 := by unfold txs; rw [List.length_map, List.length_map, List.length_append]; rfl
    generalize hW8 : W6 ++ [wd "whole " ++ digs e.wh] = W8 at *
    have hpl := hok.pl
    have hvpl := pr_len hd2
    have e5 : (wd "part ").length = 5 := by decide +kernel
    have e1 : (wd " ").length = 1 := by decide +kernel
    have eS : (wd "/").length = 1 := by decide +kernel
    refine ⟨_, rfl, ls, rfl, ⟨_, SqL.of (g8 _ _ hc2)⟩, ?_⟩
    refine for_list (K := K) (xs := vp) (fun j σ H9 => Same H2 H9 ∧ ∃ (s6 s7 s8 s9 s10 s11 s12 s13 : Option V), σ = [some (.ref r), some (.ref es), some (.ref pw), some (.ref dt), some (.int (e.wh : Int)), some (.ref ls), s6, s7, s8, s9, s10, s11, s12, s13] ∧ H9 pw = some (.lst (txs (W8 ++ (e.pts.take j).map partT))))
      ⟨g8, s6, s7, s8, s9, s10, s11, s12, s13, rfl, by rw [hw8]; show _ = some (HO.lst (txs (W8 ++ []))); rw [List.append_nil]⟩ (fun j σ H9 _ hp => SqL.of (hp.1 _ _ hc2)) ?_ ?_
    · rintro j y σ H9 hy ⟨g9, s6, s7, s8, s9, s10, s11, s12, s13, rfl, hw9⟩
      obtain ⟨p, ep, hpp⟩ := pr_at hd2 hy
      obtain ⟨t2, ls2, vs2, rfl, hA, hB, hC⟩ := hpp
      have ok2 := hok.pts p (List.mem_of_getElem? ep)
      have hwe : p.we < 10 ^ 1000 := Nat.lt_of_lt_of_le ok2.we (Nat.pow_le_pow_right (by decide) (by decide))
      have b1 := ok2.nm.hi
      have b2 := ok2.ow.hi
      have b3 := digs_le ok2.wo (by decide)
      have b4 := digs_le ok2.we (by decide)
      have hshl := ok2.shl
      have hjl : j < vp.length := (List.getElem?_eq_some_iff.mp hy).1
      refine ⟨t2, _, rfl, SqT.of (g9 _ _ hA), rfl, _, _, rfl, _, _, rfl, _, _, rfl, _, _, rfl, _, _, rfl, rfl, ?_⟩
      refine ⟨_, rfl, wd "part ", p.nm, (by rw [wd_tx]), rfl, (by (try simp only [List.length_append]); omega), _, wd " ", rfl, (by rw [wd_tx]), (by (try simp only [List.length_append]); omega), _, rfl, _, p.ow, rfl, rfl, (by (try simp only [List.length_append]); omega), _, wd " ", rfl, (by rw [wd_tx]), (by (try simp only [List.length_append]); omega), _, rfl, (p.wo : Int), rfl, hbg ok2.wo, _, digs p.wo, rfl, congrArg V.str (str_digs _), (by (try simp only [List.length_append]); omega), _, wd " ", rfl, (by rw [wd_tx]), (by (try simp only [List.length_append]); omega), _, rfl, (p.we : Int), rfl, hbg hwe, _, digs p.we, rfl, congrArg V.str (str_digs _), (by (try simp only [List.length_append]); omega), ?_⟩
      rw [row0]
      refine ⟨_, rfl, ls2, rfl, ⟨_, SqL.of (g9 _ _ hB)⟩, ?_⟩
      refine for_list (K := K) (xs := vs2) (fun m σ Hx => Hx = H9 ∧ ∃ (s12 s13 : Option V), σ = [some (.ref r), some (.ref es), some (.ref pw), some (.ref dt), some (.int (e.wh : Int)), some (.ref ls), some (.str (tx p.nm)), some (.str (tx p.ow)), some (.int (p.wo : Int)), some (.int (p.we : Int)), some (.ref ls2), some (.str (tx (joinL [32] (partW p (p.sh.take m))))), s12, s13])
        ⟨rfl, s12, s13, rfl⟩ (fun m σ Hx _ hp => by rw [hp.1]; exact SqL.of (g9 _ _ hB)) ?_ ?_
      · rintro m y2 σ Hx hy2 ⟨rfl, s12', s13', rfl⟩
        obtain ⟨s, es2, hs⟩ := pr_at hC hy2
        obtain ⟨t3, r3, rfl, hs1, hs2⟩ := hs
        have hsk := ok2.sh s (List.mem_of_getElem? es2)
        have ht1 : s.2.1 < 10 ^ 1000 := Nat.lt_of_lt_of_le hsk.t (Nat.pow_le_pow_right (by decide) (by decide))
        have ht2 : s.2.2 < 10 ^ 1000 := Nat.lt_of_lt_of_le hsk.b (Nat.pow_le_pow_right (by decide) (by decide))
        have c1 := hsk.nm.hi
        have c2 := digs_le hsk.t (by decide)
        have c3 := digs_le hsk.b (by decide)
        have c4 := (ok2.size (l := p.sh.take m) (fun z hz => List.mem_of_mem_take hz) (by rw [List.length_take]; omega)).2
        refine ⟨t3, _, rfl, SqT.of (g9 _ _ hs1), rfl, _, _, rfl, _, _, rfl, rfl, ?_⟩
        refine ⟨_, rfl, _, wd " ", rfl, (by rw [wd_tx]), (by (try simp only [List.length_append]); omega), _, rfl, _, s.1, rfl, rfl, (by (try simp only [List.length_append]); omega), _, wd " ", rfl, (by rw [wd_tx]), (by (try simp only [List.length_append]); omega), _, rfl, r3, _, 0, _, rfl, rfl, SqT.of (g9 _ _ hs2), rfl, (s.2.1 : Int), rfl, hbg ht1, _, digs s.2.1, rfl, congrArg V.str (str_digs _), (by (try simp only [List.length_append]); omega), _, wd "/", rfl, (by rw [wd_tx]), (by (try simp only [List.length_append]); omega), _, rfl, r3, _, 1, _, rfl, rfl, SqT.of (g9 _ _ hs2), rfl, (s.2.2 : Int), rfl, hbg ht2, _, digs s.2.2, rfl, congrArg V.str (str_digs _), (by (try simp only [List.length_append]); omega), rfl, some (.str (tx s.1)), some (.ref r3), ?_⟩
        rw [row1, List.take_add_one, es2]
        rfl
      rintro σ Hx ⟨rfl, s12', s13', rfl⟩
      rw [pr_len hC, List.take_length]
      have hl9 : (txs (W8 ++ (e.pts.take j).map partT)).length ≤ (txs W8).length + 4 := by
        unfold txs
        rw [List.length_map, List.length_map, List.length_append, List.length_map, List.length_take]
        omega
      refine ⟨_, rfl, .inl ⟨rfl, _, SqL.of hw9⟩, _, rfl, pw, _, _, rfl, rfl, hw9, small1000 (by omega), g9.upd_new hpw _, _, _, _, _, _, _, _, _, rfl, ?_⟩
      rw [upd_same, List.take_add_one, ep]
      show _ = some (HO.lst (txs (W8 ++ (e.pts.take j ++ [p]).map partT)))
      rw [List.map_append, ← List.append_assoc]
      unfold txs
      rw [List.map_append (l₂ := [p].map partT)]
      rfl
    rintro σ H9 ⟨g9, s6, s7, s8, s9, s10, s11, s12, s13, rfl, hw9⟩
    rw [hvpl, List.take_length] at hw9
    refine ⟨g9, _, _, _, _, _, _, _, _, _, _, _, rfl, ?_⟩
    rw [hw9, List.take_add_one, ee]
    show _ = some (HO.lst (txs ([joinL [32] (wd "roster" :: ros)] ++ (l.take i ++ [e]).flatMap entR)))
    rw [List.flatMap_append, ← List.append_assoc, hW, show [e].flatMap entR = entR e from by simp, ← hW8, ← hW6]
    unfold entR
    simp only [List.append_assoc]
    rfl
  rintro σ H' ⟨g, s3, s4, s5, s6, s7, s8, s9, s10, s11, s12, s13, rfl, hw⟩
  rw [hvl, List.take_length] at hw
  refine ⟨rfl, _, rfl, pw, [10], [joinL [32] (wd "roster" :: ros)] ++ l.flatMap entR, rfl, rfl, SqL.of hw, ?_, q H' (g02.trans g)⟩
  have hrows : ∀ c ∈ [joinL [32] (wd "roster" :: ros)] ++ l.flatMap entR, c.length ≤ 21000 := fun c hc => by
    rcases List.mem_append.mp hc with z | z
    · rw [List.mem_singleton.mp z]; omega
    · obtain ⟨e, he, hm⟩ := List.mem_flatMap.mp z
      exact (ok.ok e he).rows c hm
  have h1 := joinSz_le (s := [10]) hrows
  have h2 := hfl l.length
  rw [List.take_length] at h2
  have h3 : ([joinL [32] (wd "roster" :: ros)] ++ l.flatMap entR).length * (21000 + [10].length) ≤ 25 * 21001 := Nat.mul_le_mul (by rw [List.length_append]; show 1 + _ ≤ 25; omega) (Nat.le_refl _)
  omega
abbrev sd__law_paper_copy : Stmt := top 20
abbrev N__law_paper_copy : List Str := ["_law_entries"]
abbrev P__law_paper_copy : List Str := ["_law_entries"]
theorem sc__law_paper_copy : FnScope N__law_paper_copy P__law_paper_copy (defScope sd__law_paper_copy) := ⟨rfl, rfl, rfl, by decide +kernel, rfl, by decide +kernel, by decide +kernel⟩
theorem ok__law_paper_copy (F : At K mg "_law_paper_copy" sd__law_paper_copy f fd) (m_list : mg "list" = none) : Dn P w K mg base 1 "_law_paper_copy" P__law_paper_copy spPaperCopy := by
  refine F.ok sc__law_paper_copy (fun vs H Q E h => ?_) (fun cdv A outer s H vs Q E hr h => ?_) (fun _ _ _ _ _ _ us hl => match us, hl with | [_], _ => rfl)
  · obtain ⟨es, xs, l, rfl, _⟩ := h.ex
    rfl
  obtain ⟨es, xs, l, rfl, hes, hE, hl, hb, q⟩ := h.ex
  refine ⟨_, (pss_one (ps_ret (pe_comp ["_law_entry"] [none] rfl (pi_listK K (pv 0)) (fun _ _ _ _ => (pg_name (i := 0) (show List.Nodup (["_law_entry"] : List Str) from by decide +kernel) rfl (Or.inl rfl))) (fun _ _ _ _ => (pe_tup (pa_cons (pe_ix (ix_tupK K) (pv 0) pe_int (fun _ _ => rfl)) (pa_cons (pe_ix (ix_tupK K) (pv 0) pe_int (fun _ _ => rfl)) (pa_cons (pe_comp ["_law_part"] [none] rfl (pi_listK K (pe_ix (ix_tupK K) (pv 0) pe_int (fun _ _ => rfl))) (fun _ _ _ _ => (pg_name (i := 0) (show List.Nodup (["_law_part"] : List Str) from by decide +kernel) rfl (Or.inl rfl))) (fun _ _ _ _ => (pe_op (op_catG K) (pe_slice (sl_tupK K) (pv 0) po_none (po_some pe_int)) (pe_tup (pa_cons (pe_callTy (call_list_ofK K) (by rfl) m_list PyProof.Rows.boot_list (pa_cons (pe_ix (ix_tupK K) (pv 0) pe_int (fun _ _ => rfl)) pa_nil)) pa_nil)))) rfl (by rfl)) pa_nil))))) rfl (by rfl)))), ?_⟩
  have hxl := pr_len hE
  refine ⟨_, rfl, es, rfl, ⟨_, SqL.of hes⟩, fun acc hacc => ?_⟩
  refine comp_list (K := K) (xs := xs) (fun i out H1 => Same H H1 ∧ Paired (EAv [acc] H1) out (l.take i)) (by omega) ⟨same_new hacc _, .nil⟩ (fun i out H1 _ _ hp => SqL.of (hp.1 _ _ hes)) ?_ ?_
  · rintro i v out H1 hx hol ha ⟨g, hO⟩
    obtain ⟨e, ee, he⟩ := pr_at hE hx
    obtain ⟨t, dt, ls, vp, rfl, h1, h2, h3, h4⟩ := he
    have hel := (hb e (List.mem_of_getElem? ee)).1
    have hvl := pr_len h4
    have h11 := g _ _ h1
    refine ⟨_, rfl, t, _, 0, _, rfl, rfl, SqT.of h11, rfl, _, rfl, t, _, 1, _, rfl, rfl, SqT.of h11, rfl, _, rfl, t, _, 2, _, rfl, rfl, SqT.of h11, rfl, ls, rfl, ⟨_, SqL.of (g _ _ h3)⟩, fun acc2 hacc2 => ?_⟩
    have hne : acc2 ≠ acc := fun z => by rw [z, ha] at hacc2; cases hacc2
    refine comp_list (K := K) (xs := vp) (fun j out2 H2 => Same H1 H2 ∧ Paired (PAv [acc2, acc] H2) out2 (e.pts.take j)) (by omega) ⟨same_new hacc2 _, .nil⟩ (fun j out2 H2 _ _ hp => SqL.of (hp.1 _ _ (g _ _ h3))) ?_ ?_
    · rintro j y out2 H2 hy hol2 ha2 ⟨g2, hO2⟩
      obtain ⟨p, ep, hpp⟩ := pr_at h4 hy
      obtain ⟨t2, ls2, vs2, rfl, hA, hB, hC⟩ := hpp
      have gG := g.trans g2
      have hA2 := gG _ _ hA
      refine ⟨_, rfl, _, rfl, t2, _, rfl, SqT.of hA2, ?_, fun p1 hp1 => ?_⟩
      · rintro ⟨_, z⟩
        exact absurd z (show ¬ HT.sIx 5 5 (some 4) = 5 by decide)
      generalize hH3 : upd H2 p1 (HO.tup _) = H3
      have hH3' : upd H2 p1 (.tup [.str (tx p.nm), .str (tx p.ow), .int (p.wo : Int), .int (p.we : Int)]) = H3 := hH3
      have g3 : Same H2 H3 := hH3' ▸ same_new hp1 _
      have hp13 : H3 p1 = some (.tup [.str (tx p.nm), .str (tx p.ow), .int (p.wo : Int), .int (p.we : Int)]) := by rw [← hH3', upd_same]
      clear hH3 hH3'
      refine ⟨_, rfl, t2, _, 4, _, rfl, rfl, SqT.of (g3 _ _ hA2), rfl, ls2, _, rfl, .inl (SqL.of (g3 _ _ (gG _ _ hB))), fun p2 hp2 => ⟨(by show 1 ≤ sizeLine; decide), fun p3 hp3 => ?_⟩⟩
      have g4 := same_new hp2 (.lst vs2)
      have hp24 : upd H3 p2 (.lst vs2) p2 = some (.lst vs2) := upd_same
      generalize upd H3 p2 (.lst vs2) = H4 at *
      have g5 := same_new hp3 (.tup [.ref p2])
      have hp35 : upd H4 p3 (.tup [.ref p2]) p3 = some (.tup [.ref p2]) := upd_same
      generalize upd H4 p3 (.tup [.ref p2]) = H5 at *
      have g35 := g4.trans g5
      refine ⟨p1, p3, _, [.ref p2], rfl, rfl, SqT.of (g35 _ _ hp13), SqT.of hp35, (by show 4 + 1 ≤ sizeLine; decide), (fun z => nomatch z), (fun _ z => nomatch z), fun _ _ p4 hp4 => ?_⟩
      generalize hH6 : upd H5 p4 (HO.tup _) = H6
      have hH6' : upd H5 p4 (.tup [.str (tx p.nm), .str (tx p.ow), .int (p.wo : Int), .int (p.we : Int), .ref p2]) = H6 := hH6
      have g6 : Same H5 H6 := hH6' ▸ same_new hp4 _
      have hp46 : H6 p4 = some (.tup [.str (tx p.nm), .str (tx p.ow), .int (p.wo : Int), .int (p.we : Int), .ref p2]) := by rw [← hH6', upd_same]
      clear hH6 hH6'
      have g26 := g3.trans (g35.trans g6)
      have ha6 := g26 _ _ ha2
      have hacc3 : H3 acc2 = some (.lst out2) := g3 _ _ ha2
      have hacc3' : H3 acc = some (.lst out) := g3 _ _ (g2 _ _ ha)
      have hn2 : p2 ∉ [acc2, acc] := fun m => by
        rcases List.mem_cons.mp m with z | z
        · rw [z, hacc3] at hp2; cases hp2
        · rw [List.mem_singleton.mp z, hacc3'] at hp2; cases hp2
      have hnew : PAv [acc2, acc] H6 (.ref p4) p := ⟨p4, p2, vs2, rfl, hp46, g6 _ _ (g5 _ _ hp24), Paired.mapP hC fun _ _ z => z.mono (gG.trans g26), hn2⟩
      refine ⟨ha6, (g2.trans g26).upd_new hacc2 _, ?_⟩
      rw [List.take_add_one, ep]
      exact Paired.snoc (Paired.mapP hO2 fun _ _ z => (z.mono g26).upd ha6 List.mem_cons_self) (hnew.upd ha6 List.mem_cons_self)
    rintro out2 H2 hol2 ha2 ⟨g2, hO2⟩
    rw [hvl, List.take_length] at hO2
    refine ⟨(by show 3 ≤ sizeLine; decide), fun z hz => ?_⟩
    generalize hH3 : upd H2 z (HO.tup _) = H3
    have hH3' : upd H2 z (.tup [.ref dt, .int (e.wh : Int), .ref acc2]) = H3 := hH3
    have g3 : Same H2 H3 := hH3' ▸ same_new hz _
    have hz3 : H3 z = some (.tup [.ref dt, .int (e.wh : Int), .ref acc2]) := by rw [← hH3', upd_same]
    clear hH3 hH3'
    have g13 := g2.trans g3
    have ha3 := g13 _ _ ha
    have hnew : EAv [acc] H3 (.ref z) e := ⟨z, dt, acc2, out2, rfl, hz3, g13 _ _ (g _ _ h2), g3 _ _ ha2, Paired.mapP hO2 fun _ _ z => (z.mono g3).less fun y hy => List.mem_cons_of_mem _ hy, fun m => hne (List.mem_singleton.mp m)⟩
    refine ⟨ha3, (g.trans g13).upd_new hacc _, ?_⟩
    rw [List.take_add_one, ee]
    exact Paired.snoc (Paired.mapP hO fun _ _ z => (z.mono g13).upd ha3 List.mem_cons_self) (hnew.upd ha3 List.mem_cons_self)
  rintro out H1 hol ha ⟨g, hO⟩
  rw [hxl, List.take_length] at hO
  exact q acc out H1 g ha (Paired.mapP hO fun _ _ z => z.at)
abbrev sd_law : Stmt := top 21
abbrev N_law : List Str := ["_law_script", "_law_roster", "_law_entries", "_law_handed", "_law_names_here", "_law_found"]
abbrev P_law : List Str := ["_law_script"]
theorem sc_law : FnScope N_law P_law (defScope sd_law) := ⟨rfl, rfl, rfl, by decide +kernel, rfl, by decide +kernel, by decide +kernel⟩
theorem ok_law (F : At K mg "law" sd_law f fd) (D__law_paper : Dn P w K mg base 4 "_law_paper" ["_law_script", "_law_k"] (spPaper K)) (D__law_paper_copy : Dn P w K mg base 1 "_law_paper_copy" ["_law_entries"] spPaperCopy) (D_written : Dn P w K mg base 4 "written" ["roster", "entries"] spWritten) (D__law_paper_text : Dn P w K mg base 1 "_law_paper_text" ["_law_roster", "_law_entries"] spWritten) (m_list : mg "list" = none) (m_isinstance : mg "isinstance" = none) (m_str : mg "str" = none) : FnOk P w K mg base CX0 5 f fd P_law (spLaw K) := by
  refine F.fn.ok sc_law (fun vs H Q E h => ?_) (fun cdv A outer s H vs Q E hr h => ?_)
  · obtain ⟨a, ns, rfl, _⟩ := h
    rfl
  obtain ⟨a, ns, rfl, hS, h63, q⟩ := h
  refine ⟨_, (pss_cons (ps_asg (pe_fn D__law_paper hr (pa_cons (pv 0) (pa_cons pe_int pa_nil))) (pg_tupK K (n := 2) rfl (pgs_cons (pg_name (i := 1) sc_law.nd rfl (Or.inl rfl)) (pgs_cons (pg_name (i := 2) sc_law.nd rfl (Or.inl rfl)) pgs_nil))))
    (pss_cons (ps_set (i := 3) sc_law.nd rfl (Or.inl rfl) (pe_fn D__law_paper_copy hr (pa_cons (pv 2) pa_nil)))
    (pss_cons (ps_set (i := 4) sc_law.nd rfl (Or.inl rfl) (pe_callTy (call_list_ofK K) (by rfl) m_list PyProof.Rows.boot_list (pa_cons (pv 1) pa_nil)))
    (pss_cons (ps_set (i := 5) sc_law.nd rfl (Or.inl rfl) (pe_fn D_written hr (pa_cons (pv 4) (pa_cons (pv 3) pa_nil))))
    (pss_cons (ps_if (PW.pt (pw_or (pt_not (pt_val (pe_callB (call_isinstK K) (by rfl) m_isinstance PyProof.Rows.boot_isinstance (pa_cons (pv 5) (pa_cons (pe_ty PyProof.Rows.boot_str rfl m_str) pa_nil))))) (pw_or1 (pt_cmpR op_ne (pv 5) (pe_fn D__law_paper_text hr (pa_cons (pv 1) (pa_cons (pv 2) pa_nil))) (nomark _))))) (pss_one (ps_ret pe_bl)) pss_nil)
    (pss_one (ps_ret (pe_and (pe_cmpR (op_eqDK K hr.units) (pv 3) (pv 2) (nomark _)) (pe_one (pe_cmpR (op_eqDK K hr.units) (pv 4) (pv 1) (nomark _))))))))))), ?_⟩
  refine ⟨_, rfl, use_paper hS h63 (by decide) fun t r es ros l H1 g1 ht hp ok => ?_⟩
  refine ⟨t, _, rfl, SqT.of ht, rfl, _, _, rfl, _, _, rfl, rfl, ?_⟩
  obtain ⟨vs, hes, hE⟩ := hp.es
  refine ⟨_, rfl, use_papercopy hes hE ok.el (fun e he => ⟨(ok.ok e he).pl, fun p hp => ((ok.ok e he).pts p hp).shl⟩) fun z ys H2 g2 hz hZ => ?_⟩
  have hr2 := g2 _ _ hp.r
  refine ⟨_, rfl, r, _, rfl, .inl (SqL.of hr2), fun pn hpn => ?_⟩
  have g3 := same_new hpn (.lst (txs ros))
  have hpn3 : upd H2 pn (.lst (txs ros)) pn = some (.lst (txs ros)) := upd_same
  generalize upd H2 pn (.lst (txs ros)) = H3 at *
  refine ⟨_, rfl, _, rfl, use_written ⟨hpn3, ys, g3 _ _ hz, Paired.mapP hZ fun _ _ z => z.mono g3⟩ ok fun H4 g4 => ?_⟩
  have gA := g2.trans (g3.trans g4)
  refine ⟨_, rfl, _, _, _, _, rfl, TyOf.str _, isi_same, _, rfl, iteF ⟨_, rfl, _, rfl, _, rfl, use_written (hp.mono gA) ok fun H5 g5 => ⟨rfl, _, rfl, ?_⟩⟩⟩
  rw [decide_eq_true rfl]
  refine iteF ?_
  have g25 := g3.trans (g4.trans g5)
  have gB := g2.trans g25
  have pl := ee_pl ok.ok
  have pr := txs_pl ok.rn
  refine ⟨_, rfl, _, rfl, _, _, .lst (SqL.of (g25 _ _ hz)) (pr_dt (fun _ _ z => EAt.dt z) (Paired.mapP hZ fun _ _ z => z.mono g25)), .lst (SqL.of (gB _ _ hes)) (pr_dt (fun _ _ z => EAt.dt z) (Paired.mapP hE fun _ _ z => z.mono gB)), pl.shaped (by decide), pl.shaped (by decide), _, rfl, ?_⟩
  rw [pl.eqv]
  refine iteT ?_
  refine ⟨_, rfl, _, rfl, _, _, .lst (SqL.of (g5 _ _ (g4 _ _ hpn3))) (txs_dt _), .lst (SqL.of (gB _ _ hp.r)) (txs_dt _), pr.shaped (by decide), pr.shaped (by decide), ?_⟩
  rw [pr.eqv]
  exact q _
end
theorem all_mk {l : PySem.W.OpenLaw} {w : World} {K : PySem.W.Frag} {h : Heap} {mg : Str → Option Value} {fa : Addr} (X : K.In h) (G : h.Ns mainGlobals mg) (hfa : mg "law" = some (.ref fa))
    {f0 : Addr} {od0 an0 : Option Addr} {sl0 : Array (Option Value)} {oc0 kV0 dc0 pm0 cd0 ct0 : Value}
    {f1 : Addr} {od1 an1 : Option Addr} {sl1 : Array (Option Value)} {oc1 kV1 dc1 pm1 cd1 ct1 : Value}
    {f2 : Addr} {od2 an2 : Option Addr} {sl2 : Array (Option Value)} {oc2 kV2 dc2 pm2 cd2 ct2 : Value}
    {f3 : Addr} {od3 an3 : Option Addr} {sl3 : Array (Option Value)} {oc3 kV3 dc3 pm3 cd3 ct3 : Value}
    {f4 : Addr} {od4 an4 : Option Addr} {sl4 : Array (Option Value)} {oc4 kV4 dc4 pm4 cd4 ct4 : Value}
    {f5 : Addr} {od5 an5 : Option Addr} {sl5 : Array (Option Value)} {oc5 kV5 dc5 pm5 cd5 ct5 : Value}
    {f6 : Addr} {od6 an6 : Option Addr} {sl6 : Array (Option Value)} {oc6 kV6 dc6 pm6 cd6 ct6 : Value}
    {f7 : Addr} {od7 an7 : Option Addr} {sl7 : Array (Option Value)} {oc7 kV7 dc7 pm7 cd7 ct7 : Value}
    {f8 : Addr} {od8 an8 : Option Addr} {sl8 : Array (Option Value)} {oc8 kV8 dc8 pm8 cd8 ct8 : Value}
    {f9 : Addr} {od9 an9 : Option Addr} {sl9 : Array (Option Value)} {oc9 kV9 dc9 pm9 cd9 ct9 : Value}
    {f10 : Addr} {od10 an10 : Option Addr} {sl10 : Array (Option Value)} {oc10 kV10 dc10 pm10 cd10 ct10 : Value}
    {f11 : Addr} {od11 an11 : Option Addr} {sl11 : Array (Option Value)} {oc11 kV11 dc11 pm11 cd11 ct11 : Value}
    {f12 : Addr} {od12 an12 : Option Addr} {sl12 : Array (Option Value)} {oc12 kV12 dc12 pm12 cd12 ct12 : Value}
    {f13 : Addr} {od13 an13 : Option Addr} {sl13 : Array (Option Value)} {oc13 kV13 dc13 pm13 cd13 ct13 : Value}
    {f14 : Addr} {od14 an14 : Option Addr} {sl14 : Array (Option Value)} {oc14 kV14 dc14 pm14 cd14 ct14 : Value}
    {f15 : Addr} {od15 an15 : Option Addr} {sl15 : Array (Option Value)} {oc15 kV15 dc15 pm15 cd15 ct15 : Value}
    (a0 : PySem.W.nsIn K mainGlobals "ratio_text" = some (some (.ref f0))) (l0 : K.lookup f0 = some ⟨oc0, od0, .func (PySem.W.fnOf "ratio_text" "ratio_text" (defArgs sd_ratio_text) (defBody sd_ratio_text) (defScope sd_ratio_text) .none kV0 dc0 pm0 an0 cd0 ct0), sl0⟩) (c0 : PySem.W.codeIn K cd0 "ratio_text" = true) (k0 : PySem.W.keepIn K (.ref f0) = true)
    (a1 : PySem.W.nsIn K mainGlobals "figures_of" = some (some (.ref f1))) (l1 : K.lookup f1 = some ⟨oc1, od1, .func (PySem.W.fnOf "figures_of" "figures_of" (defArgs sd_figures_of) (defBody sd_figures_of) (defScope sd_figures_of) .none kV1 dc1 pm1 an1 cd1 ct1), sl1⟩) (c1 : PySem.W.codeIn K cd1 "figures_of" = true) (k1 : PySem.W.keepIn K (.ref f1) = true)
    (a2 : PySem.W.nsIn K mainGlobals "shown" = some (some (.ref f2))) (l2 : K.lookup f2 = some ⟨oc2, od2, .func (PySem.W.fnOf "shown" "shown" (defArgs sd_shown) (defBody sd_shown) (defScope sd_shown) .none kV2 dc2 pm2 an2 cd2 ct2), sl2⟩) (c2 : PySem.W.codeIn K cd2 "shown" = true) (k2 : PySem.W.keepIn K (.ref f2) = true)
    (a3 : PySem.W.nsIn K mainGlobals "written" = some (some (.ref f3))) (l3 : K.lookup f3 = some ⟨oc3, od3, .func (PySem.W.fnOf "written" "written" (defArgs sd_written) (defBody sd_written) (defScope sd_written) .none kV3 dc3 pm3 an3 cd3 ct3), sl3⟩) (c3 : PySem.W.codeIn K cd3 "written" = true) (k3 : PySem.W.keepIn K (.ref f3) = true)
    (a4 : PySem.W.nsIn K mainGlobals "part_row" = some (some (.ref f4))) (l4 : K.lookup f4 = some ⟨oc4, od4, .func (PySem.W.fnOf "part_row" "part_row" (defArgs sd_part_row) (defBody sd_part_row) (defScope sd_part_row) .none kV4 dc4 pm4 an4 cd4 ct4), sl4⟩) (c4 : PySem.W.codeIn K cd4 "part_row" = true) (k4 : PySem.W.keepIn K (.ref f4) = true)
    (a5 : PySem.W.nsIn K mainGlobals "_law_draw" = some (some (.ref f5))) (l5 : K.lookup f5 = some ⟨oc5, od5, .func (PySem.W.fnOf "_law_draw" "_law_draw" (defArgs sd__law_draw) (defBody sd__law_draw) (defScope sd__law_draw) .none kV5 dc5 pm5 an5 cd5 ct5), sl5⟩) (c5 : PySem.W.codeIn K cd5 "_law_draw" = true) (k5 : PySem.W.keepIn K (.ref f5) = true)
    (a6 : PySem.W.nsIn K mainGlobals "_law_name" = some (some (.ref f6))) (l6 : K.lookup f6 = some ⟨oc6, od6, .func (PySem.W.fnOf "_law_name" "_law_name" (defArgs sd__law_name) (defBody sd__law_name) (defScope sd__law_name) .none kV6 dc6 pm6 an6 cd6 ct6), sl6⟩) (c6 : PySem.W.codeIn K cd6 "_law_name" = true) (k6 : PySem.W.keepIn K (.ref f6) = true)
    (a7 : PySem.W.nsIn K mainGlobals "_law_names" = some (some (.ref f7))) (l7 : K.lookup f7 = some ⟨oc7, od7, .func (PySem.W.fnOf "_law_names" "_law_names" (defArgs sd__law_names) (defBody sd__law_names) (defScope sd__law_names) .none kV7 dc7 pm7 an7 cd7 ct7), sl7⟩) (c7 : PySem.W.codeIn K cd7 "_law_names" = true) (k7 : PySem.W.keepIn K (.ref f7) = true)
    (a8 : PySem.W.nsIn K mainGlobals "_law_least" = some (some (.ref f8))) (l8 : K.lookup f8 = some ⟨oc8, od8, .func (PySem.W.fnOf "_law_least" "_law_least" (defArgs sd__law_least) (defBody sd__law_least) (defScope sd__law_least) .none kV8 dc8 pm8 an8 cd8 ct8), sl8⟩) (c8 : PySem.W.codeIn K cd8 "_law_least" = true) (k8 : PySem.W.keepIn K (.ref f8) = true)
    (a9 : PySem.W.nsIn K mainGlobals "_law_any_deed" = some (some (.ref f9))) (l9 : K.lookup f9 = some ⟨oc9, od9, .func (PySem.W.fnOf "_law_any_deed" "_law_any_deed" (defArgs sd__law_any_deed) (defBody sd__law_any_deed) (defScope sd__law_any_deed) .none kV9 dc9 pm9 an9 cd9 ct9), sl9⟩) (c9 : PySem.W.codeIn K cd9 "_law_any_deed" = true) (k9 : PySem.W.keepIn K (.ref f9) = true)
    (a10 : PySem.W.nsIn K mainGlobals "_law_big" = some (some (.ref f10))) (l10 : K.lookup f10 = some ⟨oc10, od10, .func (PySem.W.fnOf "_law_big" "_law_big" (defArgs sd__law_big) (defBody sd__law_big) (defScope sd__law_big) .none kV10 dc10 pm10 an10 cd10 ct10), sl10⟩) (c10 : PySem.W.codeIn K cd10 "_law_big" = true) (k10 : PySem.W.keepIn K (.ref f10) = true)
    (a11 : PySem.W.nsIn K mainGlobals "_law_paper_part" = some (some (.ref f11))) (l11 : K.lookup f11 = some ⟨oc11, od11, .func (PySem.W.fnOf "_law_paper_part" "_law_paper_part" (defArgs sd__law_paper_part) (defBody sd__law_paper_part) (defScope sd__law_paper_part) .none kV11 dc11 pm11 an11 cd11 ct11), sl11⟩) (c11 : PySem.W.codeIn K cd11 "_law_paper_part" = true) (k11 : PySem.W.keepIn K (.ref f11) = true)
    (a12 : PySem.W.nsIn K mainGlobals "_law_paper" = some (some (.ref f12))) (l12 : K.lookup f12 = some ⟨oc12, od12, .func (PySem.W.fnOf "_law_paper" "_law_paper" (defArgs sd__law_paper) (defBody sd__law_paper) (defScope sd__law_paper) .none kV12 dc12 pm12 an12 cd12 ct12), sl12⟩) (c12 : PySem.W.codeIn K cd12 "_law_paper" = true) (k12 : PySem.W.keepIn K (.ref f12) = true)
    (a13 : PySem.W.nsIn K mainGlobals "_law_paper_text" = some (some (.ref f13))) (l13 : K.lookup f13 = some ⟨oc13, od13, .func (PySem.W.fnOf "_law_paper_text" "_law_paper_text" (defArgs sd__law_paper_text) (defBody sd__law_paper_text) (defScope sd__law_paper_text) .none kV13 dc13 pm13 an13 cd13 ct13), sl13⟩) (c13 : PySem.W.codeIn K cd13 "_law_paper_text" = true) (k13 : PySem.W.keepIn K (.ref f13) = true)
    (a14 : PySem.W.nsIn K mainGlobals "_law_paper_copy" = some (some (.ref f14))) (l14 : K.lookup f14 = some ⟨oc14, od14, .func (PySem.W.fnOf "_law_paper_copy" "_law_paper_copy" (defArgs sd__law_paper_copy) (defBody sd__law_paper_copy) (defScope sd__law_paper_copy) .none kV14 dc14 pm14 an14 cd14 ct14), sl14⟩) (c14 : PySem.W.codeIn K cd14 "_law_paper_copy" = true) (k14 : PySem.W.keepIn K (.ref f14) = true)
    (a15 : PySem.W.nsIn K mainGlobals "law" = some (some (.ref f15))) (l15 : K.lookup f15 = some ⟨oc15, od15, .func (PySem.W.fnOf "law" "law" (defArgs sd_law) (defBody sd_law) (defScope sd_law) .none kV15 dc15 pm15 an15 cd15 ct15), sl15⟩) (c15 : PySem.W.codeIn K cd15 "law" = true) (k15 : PySem.W.keepIn K (.ref f15) = true)
    (z_len : PySem.W.nsIn K mainGlobals "len" = some none)
    (z_range : PySem.W.nsIn K mainGlobals "range" = some none)
    (z_abs : PySem.W.nsIn K mainGlobals "abs" = some none)
    (z_isinstance : PySem.W.nsIn K mainGlobals "isinstance" = some none)
    (z_str : PySem.W.nsIn K mainGlobals "str" = some none)
    (z_tuple : PySem.W.nsIn K mainGlobals "tuple" = some none)
    (z_list : PySem.W.nsIn K mainGlobals "list" = some none)
    (z_divmod : PySem.W.nsIn K mainGlobals "divmod" = some none)
    {tk_WIDTH : Tok} (b_WIDTH : PySem.W.nsIn K mainGlobals "WIDTH" = some (some (.int 64 tk_WIDTH)))
    {tk_GROUP : Tok} (b_GROUP : PySem.W.nsIn K mainGlobals "GROUP" = some (some (.int (10 ^ 64) tk_GROUP)))
    {ocD : Value} {odD : Option Addr} {esD : Array DictEntry} {nD : Nat} {slD : Array (Option Value)} (l_dig : K.lookup cStatics = some ⟨ocD, odD, .dict esD nD, slD⟩) (h_dig : keysOk esD = true)
    : ∃ fd : FuncData, (∀ (s : Shared) (v : Value), BindsTo s fd ⟨[v], []⟩ [("_law_script", v)]) ∧ ∀ base : Heap, K.In base → base.Ns mainGlobals mg → FnOk l.prog w K mg base CX0 5 fa fd ["_law_script"] (spLaw K) := by
  have e := hfa.symm.trans (PySem.W.mg_of X G a15)
  cases e
  have F_ratio_text := at_mk (st := sd_ratio_text) X G a0 l0 c0 k0
  have F_figures_of := at_mk (st := sd_figures_of) X G a1 l1 c1 k1
  have F_shown := at_mk (st := sd_shown) X G a2 l2 c2 k2
  have F_written := at_mk (st := sd_written) X G a3 l3 c3 k3
  have F_part_row := at_mk (st := sd_part_row) X G a4 l4 c4 k4
  have F__law_draw := at_mk (st := sd__law_draw) X G a5 l5 c5 k5
  have F__law_name := at_mk (st := sd__law_name) X G a6 l6 c6 k6
  have F__law_names := at_mk (st := sd__law_names) X G a7 l7 c7 k7
  have F__law_least := at_mk (st := sd__law_least) X G a8 l8 c8 k8
  have F__law_any_deed := at_mk (st := sd__law_any_deed) X G a9 l9 c9 k9
  have F__law_big := at_mk (st := sd__law_big) X G a10 l10 c10 k10
  have F__law_paper_part := at_mk (st := sd__law_paper_part) X G a11 l11 c11 k11
  have F__law_paper := at_mk (st := sd__law_paper) X G a12 l12 c12 k12
  have F__law_paper_text := at_mk (st := sd__law_paper_text) X G a13 l13 c13 k13
  have F__law_paper_copy := at_mk (st := sd__law_paper_copy) X G a14 l14 c14 k14
  have F_law := at_mk (st := sd_law) X G a15 l15 c15 k15
  have m_len := PySem.W.mg_none_of X G z_len
  have m_range := PySem.W.mg_none_of X G z_range
  have m_abs := PySem.W.mg_none_of X G z_abs
  have m_isinstance := PySem.W.mg_none_of X G z_isinstance
  have m_str := PySem.W.mg_none_of X G z_str
  have m_tuple := PySem.W.mg_none_of X G z_tuple
  have m_list := PySem.W.mg_none_of X G z_list
  have m_divmod := PySem.W.mg_none_of X G z_divmod
  have m_WIDTH := PySem.W.mg_of X G b_WIDTH
  have m_GROUP := PySem.W.mg_of X G b_GROUP
  have z_dig : digOk K = true := digOk_of l_dig h_dig
  refine ⟨PySem.W.fnOf "law" "law" (defArgs sd_law) (defBody sd_law) (defScope sd_law) .none kV15 dc15 pm15 an15 cd15 ct15, fun s v => .of_eq rfl, fun base _ _ => ?_⟩
  have D1 := ok_figures_of (P := l.prog) (w := w) (base := base) (mg := mg) F_figures_of z_dig m_str m_divmod m_WIDTH m_GROUP
  have D2 := ok_ratio_text F_ratio_text D1
  have D3 := ok_shown (P := l.prog) (w := w) (base := base) (mg := mg) F_shown m_str
  have D4 := ok_part_row F_part_row D1 D2
  have D5 := ok_written F_written D1 D3 D4
  have E1 := ok__law_draw (P := l.prog) (w := w) (base := base) (mg := mg) F__law_draw m_len m_range
  have E2 := ok__law_name (P := l.prog) (w := w) (base := base) (mg := mg) F__law_name m_range
  have E3 := ok__law_names F__law_names E1 E2 m_range
  have E4 := ok__law_any_deed F__law_any_deed E1 E3 m_range m_tuple
  have E5 := ok__law_least (P := l.prog) (w := w) (base := base) (mg := mg) F__law_least m_abs
  have E6 := ok__law_big (P := l.prog) (w := w) (base := base) (mg := mg) F__law_big m_range
  have E7 := ok__law_paper_part F__law_paper_part E1 E3 E5 E6 m_range
  have E8 := ok__law_paper F__law_paper E1 E3 E4 E7 E6 m_range
  have E9 := ok__law_paper_text (P := l.prog) (w := w) (base := base) (mg := mg) F__law_paper_text z_dig m_str
  have EC := ok__law_paper_copy (P := l.prog) (w := w) (base := base) (mg := mg) F__law_paper_copy m_list
  exact ok_law F_law E8 EC D5 E9 m_list m_isinstance m_str
theorem walk {l : PySem.W.OpenLaw} {q : Program} {loose : List Str} {XP : (Str → Option Value) → Heap → Prop} {YP : World → Heap → Prop} {d : DefRec} {K : Params → PySem.W.Frag} (hn : l.most = some 63) (hdf : d.params.defaults = [])
    (hY : ∀ (w : World) (h : Heap), YP w h → (K w.params).In h)
    (F : ∀ (w : World) (mg : Str → Option Value) (fa : Addr) (h : Heap), (K w.params).In h → h.Ns mainGlobals mg → mg d.name = some (.ref fa) →
      ∃ fd : FuncData, (∀ (s : Shared) (u : Value), BindsTo s fd ⟨[u], []⟩ [("_law_script", u)]) ∧ ∀ base : Heap, (K w.params).In base → base.Ns mainGlobals mg → FnOk l.prog w (K w.params) mg base CX0 5 fa fd ["_law_script"] (spLaw (K w.params))) :
    PySem.W.WalkO q loose XP YP l.row.toRowW d [] (fun f vs => PySem.call f vs) :=
  L2.walk_of (n := 63) (k := 5) (x := "_law_script") (CX := fun _ => CX0) (sp := fun w => spLaw (K w.params)) hn (by decide) hdf ⟨rfl, by decide, by decide⟩ hY F (fun _ _ a ns hl _ hS => ⟨a, ns, rfl, hS, hl, fun _ => rfl⟩) fun _ _ _ _ _ z => z
end Law
open PySem PySem.W PyProof.Rows
set_option maxRecDepth 100000 in
set_option maxHeartbeats 0 in
theorem PySem.Challenge.cw_jettison_k56_papers_written_holds : PySem.Challenge.rw_jettison_k56_papers_written.Holds := by
  w_on; o_law; k_head; (case hw => w_witness2)
  k_fill
  refine Law.walk (l := PySem.Challenge.rw_jettison_k56_papers_written) rfl rfl (fun w h Y => PySem.W.kIn_of Y) ?F
  case F =>
    intro w mg fa h KX G hmg
    refine' Law.all_mk KX G hmg ?a0 ?l0 ?c0 ?k0 ?a1 ?l1 ?c1 ?k1 ?a2 ?l2 ?c2 ?k2 ?a3 ?l3 ?c3 ?k3 ?a4 ?l4 ?c4 ?k4 ?a5 ?l5 ?c5 ?k5 ?a6 ?l6 ?c6 ?k6 ?a7 ?l7 ?c7 ?k7 ?a8 ?l8 ?c8 ?k8 ?a9 ?l9 ?c9 ?k9 ?a10 ?l10 ?c10 ?k10 ?a11 ?l11 ?c11 ?k11 ?a12 ?l12 ?c12 ?k12 ?a13 ?l13 ?c13 ?k13 ?a14 ?l14 ?c14 ?k14 ?a15 ?l15 ?c15 ?k15 ?z_len ?z_range ?z_abs ?z_isinstance ?z_str ?z_tuple ?z_list ?z_divmod ?b_WIDTH ?b_GROUP ?l_dig ?h_dig
    (case a0 => k_is); (case l0 => k_is); (case c0 => k_is); (case k0 => k_is)
    (case a1 => k_is); (case l1 => k_is); (case c1 => k_is); (case k1 => k_is)
    (case a2 => k_is); (case l2 => k_is); (case c2 => k_is); (case k2 => k_is)
    (case a3 => k_is); (case l3 => k_is); (case c3 => k_is); (case k3 => k_is)
    (case a4 => k_is); (case l4 => k_is); (case c4 => k_is); (case k4 => k_is)
    (case a5 => k_is); (case l5 => k_is); (case c5 => k_is); (case k5 => k_is)
    (case a6 => k_is); (case l6 => k_is); (case c6 => k_is); (case k6 => k_is)
    (case a7 => k_is); (case l7 => k_is); (case c7 => k_is); (case k7 => k_is)
    (case a8 => k_is); (case l8 => k_is); (case c8 => k_is); (case k8 => k_is)
    (case a9 => k_is); (case l9 => k_is); (case c9 => k_is); (case k9 => k_is)
    (case a10 => k_is); (case l10 => k_is); (case c10 => k_is); (case k10 => k_is)
    (case a11 => k_is); (case l11 => k_is); (case c11 => k_is); (case k11 => k_is)
    (case a12 => k_is); (case l12 => k_is); (case c12 => k_is); (case k12 => k_is)
    (case a13 => k_is); (case l13 => k_is); (case c13 => k_is); (case k13 => k_is)
    (case a14 => k_is); (case l14 => k_is); (case c14 => k_is); (case k14 => k_is)
    (case a15 => k_is); (case l15 => k_is); (case c15 => k_is); (case k15 => k_is)
    (case z_len => k_is)
    (case z_range => k_is)
    (case z_abs => k_is)
    (case z_isinstance => k_is)
    (case z_str => k_is)
    (case z_tuple => k_is)
    (case z_list => k_is)
    (case z_divmod => k_is)
    (case b_WIDTH => k_is)
    (case b_GROUP => k_is)
    (case l_dig => k_is); (case h_dig => rfl)
