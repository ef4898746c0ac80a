import PyProof.Rows.All
import Wide.All
import OpenK.AllK
import Wide.FinOn
import Lean
import PyProof.EqAt
import PyProof.EqKinds
import PyProof.TupleCall
import PySem.Challenge.RW_jettison_k19_casts_mix_shares
set_option Elab.async false
set_option linter.all false
set_option maxRecDepth 100000
set_option Elab.async false
set_option linter.all false
set_option maxRecDepth 100000
namespace L2
open PySem PySem.Spec PyProof.Rows
abbrev Key:=Sum Int Str
def o9:Key→Value→Bool
 | .inl k,v=>Value.isInt k v
 | .inr x,v=>Value.isStrOf x v
def QA (w:World):Key→Int
 | .inl k=>hashInt k
 | .inr x=>hashStr w x
theorem dg:∀{k:Key} {v:Value},o9 k v = true→(∃i t,k = Sum.inl i∧v = Value.int i t)∨(∃x t,k = Sum.inr x∧v = Value.str x t)
 | .inl i,v,h=>by
   obtain ⟨t,e⟩:=Value.isInt_shape (k:=i) (v:=v) h
   exact .inl ⟨i,t,rfl,e⟩
 | .inr x,v,h=>by
   obtain ⟨t,e⟩:=Value.isStrOf_shape (x:=x) (v:=v) h
   exact .inr ⟨x,t,rfl,e⟩
theorem EX (i:Int) (t:Tok):o9 (.inl i) (.int i t) = true:=by simp [o9,Value.isInt]
theorem EY (x:Str) (t:Tok):o9 (.inr x) (.str x t) = true:=by simp [o9,Value.isStrOf]
theorem K8 (a b:Int):decide ((Sum.inl a:Key) = Sum.inl b) = (a == b):=by
 by_cases e:a = b
 · subst e;simp
 · have h:¬ (Sum.inl a:Key) = Sum.inl b:=fun q=>e (Sum.inl.inj q)
   rw [decide_eq_false h]
   exact (beq_eq_false_iff_ne.mpr e).symm
theorem K9 (a b:Str):decide ((Sum.inr a:Key) = Sum.inr b) = decide (a = b):=by
 by_cases e:a = b
 · subst e;simp
 · have h:¬ (Sum.inr a:Key) = Sum.inr b:=fun q=>e (Sum.inr.inj q)
   rw [decide_eq_false h,decide_eq_false e]
theorem K_ (a:Int) (b:Str):decide ((Sum.inl a:Key) = Sum.inr b) = false:=decide_eq_false (fun q=>nomatch q)
theorem La (a:Str) (b:Int):decide ((Sum.inr a:Key) = Sum.inl b) = false:=decide_eq_false (fun q=>nomatch q)
def bK (prog:Program) (w:World):PySem.KeyKind prog w Key where
 is:=o9
 hash:=QA w
 inj:=fun v a b ha hb=>by
  rcases dg ha with ⟨i,t,rfl,rfl⟩ | ⟨x,t,rfl,rfl⟩
  · rcases dg hb with ⟨j,u,rfl,e⟩ | ⟨y,u,rfl,e⟩
    · injection e with e1 _;rw [e1]
    · exact nomatch e
  · rcases dg hb with ⟨j,u,rfl,e⟩ | ⟨y,u,rfl,e⟩
    · exact nomatch e
    · injection e with e1 _;rw [e1]
 byValue:=fun k v h=>by
  rcases dg h with ⟨i,t,rfl,rfl⟩ | ⟨x,t,rfl,rfl⟩ <;> rfl
 pyHash:=fun hv h=>by
  rcases dg hv with ⟨i,t,rfl,rfl⟩ | ⟨x,t,rfl,rfl⟩
  · exact wpAny_pyHash_int h
  · exact wpAny_pyHash_str h
 eqBool:=fun hu hv h=>by
  rcases dg hu with ⟨i,t,rfl,rfl⟩ | ⟨x,t,rfl,rfl⟩
  · rcases dg hv with ⟨j,u,rfl,rfl⟩ | ⟨y,u,rfl,rfl⟩
    · rw [K8] at h;exact wpAny_eqBool_int h
    · rw [K_] at h;exact SeqAt.EqAt.int_str i t y u _ _ _ _ h
  · rcases dg hv with ⟨j,u,rfl,rfl⟩ | ⟨y,u,rfl,rfl⟩
    · rw [La] at h;exact SeqAt.EqAt.str_int x t j u _ _ _ _ h
    · rw [K9] at h;exact wpAny_eqBool_str h
 «strs»:=fun k x t v h=>by
  rcases dg h with ⟨i,u,rfl,e⟩ | ⟨y,u,rfl,e⟩
  · exact nomatch e
  · injection e with e1 _
    subst e1
    cases v <;> rfl
theorem D9 (prog:Program) (w:World) (k:Key) (v:Value):(bK prog w).is k v = o9 k v:=rfl
theorem Cs (prog:Program) (w:World) (i:Int) (t:Tok):(bK prog w).is (.inl i) (.int i t) = true:=EX i t
theorem Ct (prog:Program) (w:World) (x:Str) (t:Tok):(bK prog w).is (.inr x) (.str x t) = true:=EY x t
end L2
namespace L2
open PySem PySem.Spec PyProof.Rows
inductive V where
 | bE | bl (b:Bool) | int (i:Int) | str (x:Str) | pZ (b:Array UInt8) | Ac (b:UInt64) | ref (a:Addr) | ty (n:String)
 deriving DecidableEq
def RelV:V→Value→Prop
 | .bE,u=>u = Value.none
 | .bl b,u=>u = Value.bool b
 | .int i,u=>∃t,u = Value.int i t
 | .str x,u=>∃t,u = Value.str x t
 | .pZ b,u=>∃t,u = Value.bytes b t
 | .Ac b,u=>∃t,u = Value.float b t
 | .ref a,u=>u = Value.ref a
 | .ty n,u=>u = Value.type n
abbrev Vals:List V→List Value→Prop:=Paired RelV
theorem Vals.length {xs:List V} {us:List Value} (r:Vals xs us):xs.length = us.length:=Paired.length r
theorem Vals.get:∀{xs:List V} {us:List Value} {i:Nat} {x:V},Vals xs us→xs[i]? = some x→∃u,us[i]? = some u∧RelV x u
 | _,_,_,_, .nil,e=>by simp at e
 | _,_,0,_, .cons r _,e=>by simp at e;subst e;exact ⟨_,rfl,r⟩
 | _,_,i + 1,x, .cons _ t,e=>by
   obtain ⟨u,h1,h2⟩:=Vals.get (i:=i) (x:=x) t (by simpa using e)
   exact ⟨u,by simpa using h1,h2⟩
theorem Vals.set {x:V} {u:Value} (r:RelV x u):∀{xs:List V} {us:List Value} (i:Nat),Vals xs us→Vals (xs.set i x) (us.set i u)
 | _,_,_, .nil=> .nil
 | _,_,0, .cons _ t=> .cons r t
 | _,_,i + 1, .cons q t=> .cons q (Vals.set r i t)
theorem Vals.append:∀{xs ys:List V} {us ws:List Value},Vals xs us→Vals ys ws→Vals (xs ++ ys) (us ++ ws)
 | _,_,_,_, .nil,s=>s
 | _,_,_,_, .cons r t,s=> .cons r (Vals.append t s)
def ie:Option V→Option Value→Prop
 | some v,some u=>RelV v u
 | none,none=>True
 | _,_=>False
def KV {κ:Type}:List (κ × V)→List (κ × Value)→Prop:=Paired fun (p:κ × V) (q:κ × Value)=>p.1 = q.1∧RelV p.2 q.2
def kV:Key→V
 | .inl i=> .int i
 | .inr x=> .str x
inductive HO where
 | lst (xs:List V)
 | tup (xs:List V)
 | dK (kvs:List (Key × V)) | dT (kvs:List (List Key × V))
 | set (S:Int→Bool) (n:Nat)
 | ins (C dx:Addr) (fs:List (Str × V))
 | own (x:Addr)
 | xd (fs:List (Str × V))
 | met (f x:Addr)
 | oq (lo hi:Int)
 | cW (o:Obj) (u:HO)
 | Ad (ps:Array Value)
 | ext (φ:Heap→Prop)
abbrev Hp:=Addr→Option HO
def upd (H:Hp) (a:Addr) (o:HO):Hp:=fun b=>if b = a then some o else H b
theorem af {H:Hp} {a:Addr} {o:HO}:upd H a o a = some o:=by unfold upd;rw [if_pos rfl]
theorem ao {H:Hp} {a b:Addr} {o:HO} (h:b ≠ a):upd H a o b = H b:=by unfold upd;rw [if_neg h]
theorem lM {H:Hp} {a:Addr} {o u:HO}:upd (upd H a o) a u = upd H a u:=by
 funext b;unfold upd;split <;> rfl
theorem eL {H:Hp} {a b:Addr} {o u:HO} (h:H a = some o) (h':H b = some u) (d:o ≠ u):a ≠ b:=by
 intro e;subst e;rw [h] at h';exact d (Option.some.inj h')
theorem ay {H:Hp} {a b:Addr} {o:HO} (h:H a = some o) (h':H b = none):a ≠ b:=by
 intro e;subst e;rw [h] at h';cases h'
section
variable (P:Program) (w:World)
def cy (H:Hp) (h:Heap) (a:Addr):HO→Prop
 | .lst xs=>xs.length≤sizeLine∧∃(its:List Value) (n:Nat),Vals xs its∧h.get? a = some { cls:= .type "list",data:= .seq its.toArray n }
 | .tup xs=>xs.length≤sizeLine∧∃its:List Value,Vals xs its∧IsTup h a its.toArray
 | .dK kvs=>kvs.length≤sizeLine∧(a == sysModules) = false∧∃vs,KV kvs vs∧h.DictOf (bK P w) a vs
 | .dT kvs=>kvs.length≤sizeLine∧(a == sysModules) = false∧∃xs:List (List Key × Addr × Value),
     Paired (fun (p:List Key × V) (q:List Key × Addr × Value)=>p.1 = q.1∧H q.2.1 = some (.tup (p.1.map kV))∧RelV p.2 q.2.2) kvs xs∧
     ∃o es ep,h.get? a = some o∧o.ExactDict∧o.data = .dict es ep∧es.toList = xs.map (entryOfKey (tupleKind (bK P w)))∧(xs.map (·.1)).Nodup
 | .set S n=>h.SetOf (intKind P w) a S n
 | .ins C dx fs=>H dx = some (.own a)∧fs.length≤1000∧dx ≠ a∧h.get? a = some (PySem.W.instObj C dx)∧
     ∃mA,h.Ns1 dx mA∧(∀f,ie (fs.lookup f) (mA f))∧PySem.Within mA (fs.map (·.1))
 | .own _=>∃o,h.get? a = some o
 | .xd fs=>∃mA,h.Ns1 a mA∧∀f,ie (fs.lookup f) (mA f)
 | .oq lo hi=>∃t u v,h.get? a = some { cls:= .type "range",data:= .fields #[.int lo t, .int hi u, .int 1 v] }
 | .cW o u=>h.get? a = some o∧cy H h a u
 | .Ad ps=>h.get? a = some { cls:= .none,data:= .fields ps }
 | .met f x=>h.get? a = some (PySem.W.methodObj (.ref f) (.ref x))
 | .ext φ=>φ h∧(∃o,h.get? a = some o)∧∀h1 h2:Heap,φ h1→(∀o,h1.get? a = some o→h2.get? a = some o)→φ h2
def ee (H:Hp) (h:Heap):Prop:=∀a o,H a = some o→cy P w H h a o
end
section
variable {P:Program} {w:World} {H H':Hp} {h h':Heap} {a:Addr} {o:HO}
theorem cy.lt (x:cy P w H h a o):a < h.objs.size:=by
 cases o with
 | lst xs=>obtain ⟨_,_,_,_,e⟩:=x;exact Heap.lt_size e
 | tup xs=>obtain ⟨_,_,_,p⟩:=x;exact p.lt
 | dK kvs=>obtain ⟨_,_,_,_,o,_,_,e,_⟩:=x;exact Heap.lt_size e
 | dT kvs=>obtain ⟨_,_,_,_,o,_,_,e,_⟩:=x;exact Heap.lt_size e
 | set S n=>obtain ⟨o,_,_,_,e,_⟩:=x;exact Heap.lt_size e
 | ins C dx fs=>obtain ⟨_,_,_,e,_⟩:=x;exact Heap.lt_size e
 | own y=>obtain ⟨_,e⟩:=x;exact Heap.lt_size e
 | xd fs=>obtain ⟨_,⟨_,_,_,e,_⟩,_⟩:=x;exact Heap.lt_size e
 | oq lo hi=>obtain ⟨_,_,_,e⟩:=x;exact Heap.lt_size e
 | cW ob u=>obtain ⟨e,_⟩:=x;exact Heap.lt_size e
 | Ad ps=>exact Heap.lt_size (show h.get? a = some _ from x)
 | met f y=>exact Heap.lt_size (show h.get? a = some _ from x)
 | ext φ=>obtain ⟨_,⟨_,e⟩,_⟩:=x;exact Heap.lt_size e
theorem Paired.Hu {α β:Type} {F G:α→β→Prop}:∀{l₁:List α} {l₂:List β},Paired F l₁ l₂→(∀a b,F a b→G a b)→Paired G l₁ l₂
 | _,_, .nil,_=> .nil
 | _,_, .cons r t,f=> .cons (f _ _ r) (Paired.Hu t f)
theorem cy.stay (x:cy P w H h a o) (k:∀b u,(b = a∨H b = some (.own a))→h.get? b = some u→h'.get? b = some u)
  (ho:∀b,H b = some (.own a)→H' b = some (.own a)) (ht:∀b xs,H b = some (.tup xs)→H' b = some (.tup xs)):cy P w H' h' a o:=by
 induction o with
 | lst xs=>obtain ⟨z,its,n,r,e⟩:=x;exact ⟨z,its,n,r,k _ _ (.inl rfl) e⟩
 | tup xs=>obtain ⟨z,its,r,ob,e,c⟩:=x;exact ⟨z,its,r,ob,k _ _ (.inl rfl) e,c⟩
 | dK kvs=>obtain ⟨z,y,vs,r,ob,es,ep,e,c⟩:=x;exact ⟨z,y,vs,r,ob,es,ep,k _ _ (.inl rfl) e,c⟩
 | dT kvs=>
   obtain ⟨z,y,xs,r,ob,es,ep,e,c⟩:=x
   exact ⟨z,y,xs,Paired.Hu r fun p q z=>⟨z.1,ht _ _ z.2.1,z.2.2⟩,ob,es,ep,k _ _ (.inl rfl) e,c⟩
 | set S n=>obtain ⟨ob,es,ep,t,e,c⟩:=x;exact ⟨ob,es,ep,t,k _ _ (.inl rfl) e,c⟩
 | ins C dx fs=>
   obtain ⟨d,z,ne,e,mA,⟨od,es,ep,e2,c⟩,r⟩:=x
   exact ⟨ho _ d,z,ne,k _ _ (.inl rfl) e,mA,⟨od,es,ep,k _ _ (.inr d) e2,c⟩,r⟩
 | own y=>obtain ⟨ob,e⟩:=x;exact ⟨ob,k _ _ (.inl rfl) e⟩
 | xd fs=>obtain ⟨mA,⟨od,es,ep,e,c⟩,r⟩:=x;exact ⟨mA,⟨od,es,ep,k _ _ (.inl rfl) e,c⟩,r⟩
 | oq lo hi=>obtain ⟨t,u,v,e⟩:=x;exact ⟨t,u,v,k _ _ (.inl rfl) e⟩
 | cW ob u ih=>obtain ⟨e,q⟩:=x;exact ⟨k _ _ (.inl rfl) e,ih q⟩
 | Ad ps=>
   have e:h.get? a = some { cls:= .none,data:= .fields ps }:=x
   show h'.get? a = some { cls:= .none,data:= .fields ps }
   exact k a _ (.inl rfl) e
 | met f y=>
   have e:h.get? a = some (PySem.W.methodObj (.ref f) (.ref y)):=x
   show h'.get? a = some (PySem.W.methodObj (.ref f) (.ref y))
   exact k a _ (.inl rfl) e
 | ext φ=>obtain ⟨p,⟨o,e⟩,st⟩:=x;exact ⟨st _ _ p fun o q=>k _ _ (.inl rfl) q,⟨o,k _ _ (.inl rfl) e⟩,st⟩
theorem ee.lt (x:ee P w H h) (e:H a = some o):a < h.objs.size:=(x a o e).lt
theorem ee.fresh (x:ee P w H h) (e:h.objs.size≤a):H a = none:=by
 cases q:H a with
 | none=>rfl
 | some u=>exact absurd (Nat.lt_of_lt_of_le (x.lt q) e) (Nat.lt_irrefl _)
theorem ee.kept (x:ee P w H h) (k:∀b u,h.get? b = some u→h'.get? b = some u):ee P w H h':=fun a o e=>
 (x a o e).stay (fun b u _ q=>k b u q) (fun _ q=>q) fun _ _ q=>q
theorem ee.laid (x:ee P w H h) (k:∀b u,h.get? b = some u→h'.get? b = some u) (hp:h.objs.size≤a) (new:cy P w (upd H a o) h' a o):ee P w (upd H a o) h':=fun b u e=>by
 have hn:=x.fresh hp
 by_cases hb:b = a
 · subst hb;rw [af] at e;cases e;exact new
 · rw [ao hb] at e
   exact (x b u e).stay (fun c v _ q=>k c v q) (fun c q=>by rw [ao (ay q hn)];exact q) fun c xs q=>by rw [ao (ay q hn)];exact q
end
def Rd (H:Hp) (a:Addr) (u:HO):Prop:=H a = some u∨∃o,H a = some (.cW o u)
theorem Rd.ok {P:Program} {w:World} {H:Hp} {h:Heap} {a:Addr} {u:HO} (r:Rd H a u) (x:ee P w H h):cy P w H h a u:=by
 rcases r with r | ⟨o,r⟩
 · exact x a u r
 · obtain ⟨_,q⟩:=x a _ r
   exact q
def EZ:Option HO→Prop
 | some (.lst _)=>True
 | some (.dK _)=>True
 | some (.dT _)=>True
 | some (.set _ _)=>True
 | some (.ins _ _ _)=>True
 | some (.ext _)=>True
 | _=>False
section
variable {P:Program} {w:World} {H:Hp} {h h':Heap} {x e:Addr} {o':HO}
theorem ee.write (ok:ee P w H h) (mu:EZ (H x)) (he:e = x∨H e = some (.own x)) (k:∀b u,b ≠ e→h.get? b = some u→h'.get? b = some u) (C8:∃u,h'.get? e = some u)
  (new:cy P w (upd H x o') h' x o'):ee P w (upd H x o') h':=fun b u q=>by
 have Lb:∀c y,H c = some (.own y)→c ≠ x:=fun c y r z=>by subst z;rw [r] at mu;exact mu
 have QB:∀c xs,H c = some (.tup xs)→c ≠ x:=fun c xs r z=>by subst z;rw [r] at mu;exact mu
 by_cases hb:b = x
 · subst hb;rw [af] at q;cases q;exact new
 · rw [ao hb] at q
   by_cases Ae:b = e
   · have q':H b = some (.own x):=by
      rcases he with z | z
      · exact absurd (Ae.trans z) hb
      · rw [Ae];exact z
     rw [q] at q';cases q'
     obtain ⟨v,hv⟩:=C8
     exact ⟨v,by rw [Ae];exact hv⟩
   · refine (ok b u q).stay (fun c v hc r=>k c v ?_ r) (fun c r=>by rw [ao (Lb c b r)];exact r) fun c xs r=>by rw [ao (QB c xs r)];exact r
     rcases hc with rfl | hc
     · exact Ae
     · rintro rfl
       rcases he with z | z
       · exact Lb c b hc z
       · rw [hc] at z;cases z;exact hb rfl
end
structure Un (fs ex:List Addr) (H H':Hp) (h h':Heap):Prop where
 keep:∀b o,h.get? b = some o→H b = none→b ∉ fs→b ∉ ex→h'.get? b = some o
 slot:∀b o,h.get? b = some o→H b = none→b∈fs→b ∉ ex→∃sl,h'.get? b = some { o with slots:=sl }
 free:∀b o,h.get? b = some o→H b = none→b ∉ ex→H' b = none
 there:∀b o,h.get? b = some o→b ∉ ex→∃o',h'.get? b = some o'
 tups:∀b xs,H b = some (.tup xs)→H' b = some (.tup xs)
 kF:∀b o u,H b = some (.cW o u)→H' b = some (.cW o u)
 nO:∀b ps,H b = some (.Ad ps)→∃more,H' b = some (.Ad (ps ++ more))
section
variable {fs fs' ex ex':List Addr} {H H1 H2:Hp} {h h1 h2 h':Heap} {a x e:Addr} {o:HO}
theorem Un.any (u:Un fs ex H H1 h h1) {b:Addr} {ob:Obj} (q:h.get? b = some ob) (n:H b = none) (hx:b ∉ ex):∃sl,h1.get? b = some { ob with slots:=sl }:=by
 by_cases hb:b∈fs
 · exact u.slot b ob q n hb hx
 · exact ⟨ob.slots,u.keep b ob q n hb hx⟩
theorem Un.kept (k:∀b u,h.get? b = some u→h'.get? b = some u):Un fs ex H H h h':=
 ⟨fun b ob q _ _ _=>k b ob q,fun b ob q _ _ _=>⟨ob.slots,k b ob q⟩,fun _ _ _ n _=>n,fun b ob q _=>⟨ob,k b ob q⟩,fun _ _ q=>q,fun _ _ _ q=>q,fun _ ps q=>⟨#[],by rw [q];simp⟩⟩
theorem Un.refl:Un fs ex H H h h:=Un.kept fun _ _ q=>q
theorem Un.laid (k:∀b u,h.get? b = some u→h'.get? b = some u) (hp:h.objs.size≤a) (hn:H a = none):Un fs ex H (upd H a o) h h' where
 keep:=fun b u q _ _ _=>k b u q
 slot:=fun b u q _ _ _=>⟨u.slots,k b u q⟩
 free:=fun b u q n _=>by rw [ao (Nat.ne_of_lt (Nat.lt_of_lt_of_le (Heap.lt_size q) hp))];exact n
 there:=fun b u q _=>⟨u,k b u q⟩
 tups:=fun b xs q=>by rw [ao (ay q hn)];exact q
 kF:=fun b u xs q=>by rw [ao (ay q hn)];exact q
 nO:=fun b ps q=>⟨#[],by rw [ao (ay q hn),q];simp⟩
theorem Un.write (mu:EZ (H x)) (he:e = x∨H e = some (.own x)) (k:∀b u,b ≠ e→h.get? b = some u→h'.get? b = some u) (C8:∃u,h'.get? e = some u):Un fs ex H (upd H x o) h h':=by
 have hx:∀b,H b = none→b ≠ x:=fun b n z=>by subst z;rw [n] at mu;exact mu
 have hb:∀b,H b = none→b ≠ e:=fun b n z=>by
  subst z
  rcases he with r | r
  · exact hx b n r
  · rw [n] at r;cases r
 have hm:∀b u,H b = some u→¬ EZ (some u)→b ≠ x:=fun b u q nm z=>by subst z;rw [q] at mu;exact nm mu
 refine ⟨fun b u q n _ _=>k b u (hb b n) q,fun b u q n _ _=>⟨u.slots,k b u (hb b n) q⟩,fun b u q n _=>by rw [ao (hx b n)];exact n,fun b u q _=>?_,
  fun b xs q=>by rw [ao (hm b _ q fun z=>z)];exact q,fun b u xs q=>by rw [ao (hm b _ q fun z=>z)];exact q,fun b ps q=>⟨#[],by rw [ao (hm b _ q fun z=>z),q];simp⟩⟩
 by_cases Ae:b = e
 · subst Ae;exact C8
 · exact ⟨u,k b u Ae q⟩
end
def IW (h:Heap) (H:Hp):List Addr:=(List.range h.objs.size).filter fun a=>(H a).isSome
def o_ (h:Heap) (H:Hp):Heap:=PySem.W.hideAll h (IW h H)
theorem E1 (h:Heap) (H:Hp):(o_ h H).objs.size = h.objs.size:=PySem.W.hideAll_size _ _
theorem Hv {h:Heap} {H:Hp} {b:Addr} {o:Obj} (e:h.get? b = some o) (n:H b = none):(o_ h H).get? b = some o:=
 PySem.W.hideAll_get _ e fun hm=>by
  have q:(H b).isSome = true:=(List.mem_filter.mp hm).2
  rw [n] at q;simp at q
theorem J6 {h:Heap} {H:Hp} {b:Addr} {o:Obj} (e:(o_ h H).get? b = some o):h.get? b = some o∧H b = none:=by
 have e':h.get? b = some o:=PySem.W.of_hideAll (IW h H) e
 refine ⟨e',?_⟩
 cases q:H b with
 | none=>rfl
 | some x=>
   have hm:b∈IW h H:=List.mem_filter.mpr ⟨List.mem_range.mpr (Heap.lt_size e'),by simp [q]⟩
   have z:(o_ h H).get? b = none:=PySem.W.hideAll_none (IW h H) hm
   rw [z] at e;cases e
end L2
namespace L2
open PySem PySem.Spec PyProof.Rows
structure Mod (K:PySem.W.Frag) (mg:Str→Option Value) (base:Heap):Prop where
 E2:K.In base
 glob:base.Ns mainGlobals mg
 blt:∃mb,base.Ns builtinsNs mb∧∀x:Str,x ≠ "__name__"→mb x = bootBuiltins x
 nolimit:base.NoLimit
structure Cx where
 prog:Program
 w:World
 K:PySem.W.Frag
 mg:Str→Option Value
 base:Heap
 A:Around
 N:List Str
 s₀:Shared
 H₀:Hp
 env:Env
 outer:List Env
 stack:List Env
 ex:List Addr
 fn:Str→Bool
 calm:Bool
 pn:List (Addr × Obj)
 xe:Value→Shared→Prop
def frs (l:List Env):List Addr:=l.filterMap (·.frame)
abbrev Cx.fs (X:Cx):List Addr:=frs X.outer
def IZ (sc:Scope) (x:Str):Prop:=sc.names.lookup x = some .local∨sc.names.lookup x = some .cell∨sc.names.lookup x = some .free
def Loc (sc:Scope) (x:Str):Prop:=sc.names.lookup x = some .local∨sc.names.lookup x = some .cell
def Look (env:Env) (h:Heap) (m:Str→Option Value) (x:Str) (u:Value):Prop:=
 (env.kindOf x = some .local∧m x = some u)∨((env.kindOf x = some .cell∨env.kindOf x = some .free)∧∃c,env.cells.lookup x = some c∧h.IsCell c (some u))
structure Cx.Ok (X:Cx):Prop where
 mod:Mod X.K X.mg X.base
 kind:X.env.scope.kind = .function
 glob:X.env.globals = mainGlobals
 blt:X.env.builtins = builtinsNs
 above:X.s₀.heap.objs.size≤X.env.locals
 inj:∀x y c,X.env.cells.lookup x = some c→X.env.cells.lookup y = some c→x = y
 has:∀x,(X.env.kindOf x = some .cell∨X.env.kindOf x = some .free)→∃c,X.env.cells.lookup x = some c
 dN:∀x c,X.fn x = true→X.env.cells.lookup x = some c→X.s₀.heap.objs.size≤c
 hd:X.calm = true→X.A.handled = none
 frames:X.A.frames = some X.stack
 stk:X.stack = X.outer∨(X.stack = X.env :: X.outer∧X.env.frame = some X.env.locals)
 C9:∀b∈X.ex,b ≠ X.env.locals∧∀x c,X.env.cells.lookup x = some c→c ≠ b
 bs:∀b o,X.base.get? b = some o→X.s₀.heap.get? b = some o∧X.H₀ b = none
 yd:X.base.objs.size≤X.s₀.heap.objs.size
 Af:∀b o,X.base.get? b = some o→b ∉ X.ex
 w_:∀b∈X.ex,b ∉ X.fs
 kG:X.s₀.heap.FunFrames X.base X.outer
 Ag:∀b∈X.fs,X.H₀ b = none
structure Inv (X:Cx) (pins:List (Addr × Obj)) (σ:List (Option V)) (H:Hp) (s:Shared):Prop where
 ok:X.Ok
 os:s.os = X.s₀.os
 bare:AllBare s.gens
 base:Un X.fs X.ex X.H₀ H X.s₀.heap s.heap
 loc:∃m,s.heap.Ns X.env.locals m∧∀(i:Nat) (x:Str) (v:V),X.N[i]? = some x→σ[i]? = some (some v)→IZ X.env.scope x→∃u,RelV v u∧Look X.env s.heap m x u
 cell:∀x c,X.env.cells.lookup x = some c→∃v,s.heap.IsCell c v
 free:H X.env.locals = none
 iD:∀x c,X.env.cells.lookup x = some c→H c = none
 pin:∀p∈X.pn ++ pins,s.heap.get? p.1 = some p.2∧H p.1 = none∧p.1 ≠ X.env.locals∧p.1 ∉ X.fs∧∀v,p.2.data ≠ .cell v
 hok:ee X.prog X.w H s.heap
 len:σ.length = X.N.length
section
variable {X:Cx} {pins:List (Addr × Obj)} {σ:List (Option V)} {H H':Hp} {s:Shared} {h':Heap}
theorem Cx.Ok.QC (ok:X.Ok) {b:Addr} {o:Obj} (e:X.base.get? b = some o):b ∉ X.fs:=fun hb=>by
 have:=(ok.kG.mem hb).1
 rw [e] at this;cases this
theorem Inv.bs (I:Inv X pins σ H s):∀b o,X.base.get? b = some o→s.heap.get? b = some o∧H b = none:=fun b o e=>
 ⟨I.base.keep b o (I.ok.bs b o e).1 (I.ok.bs b o e).2 (I.ok.QC e) (I.ok.Af b o e),I.base.free b o (I.ok.bs b o e).1 (I.ok.bs b o e).2 (I.ok.Af b o e)⟩
theorem Inv.bk (I:Inv X pins σ H s):∀b o,X.base.get? b = some o→s.heap.get? b = some o:=fun b o e=>(I.bs b o e).1
theorem Inv.mod (I:Inv X pins σ H s):Mod X.K X.mg X.base:=I.ok.mod
theorem Inv.f7 (I:Inv X pins σ H s):X.K.In s.heap:=I.ok.mod.E2.keeps I.bk
theorem Inv.lt (I:Inv X pins σ H s):X.env.locals < s.heap.objs.size:=let ⟨_,hn,_⟩:=I.loc;hn.lt
theorem Inv.sz (I:Inv X pins σ H s):X.s₀.heap.objs.size≤s.heap.objs.size:=Nat.le_trans I.ok.above (Nat.le_of_lt I.lt)
theorem Inv.QD (I:Inv X pins σ H s) {a:Addr} (h:s.heap.objs.size≤a):a ∉ X.fs:=fun hb=>by
 obtain ⟨_,o,ho,_⟩:=I.ok.kG.mem hb
 exact absurd (Nat.lt_of_lt_of_le (Heap.lt_size ho) (Nat.le_trans I.sz h)) (Nat.lt_irrefl _)
theorem Inv.Ah (I:Inv X pins σ H s):∀x c,X.env.cells.lookup x = some c→c ≠ X.env.locals:=fun x c e z=>by
 obtain ⟨v,o,ho,hd⟩:=I.cell x c e
 obtain ⟨m,⟨o',es,ep,ho',hd',_⟩,_⟩:=I.loc
 rw [z,ho'] at ho;cases ho;rw [hd'] at hd;cases hd
theorem Inv.kG (I:Inv X pins σ H s):s.heap.FunFrames X.base X.outer:=by
 have all:∀(l:List Env),(∀b∈frs l,b∈X.fs)→X.s₀.heap.FunFrames X.base l→s.heap.FunFrames X.base l:=by
  intro l
  induction l with
  | nil=>intro _ _;trivial
  | cons env r ih=>
    intro hs hl
    obtain ⟨hk,⟨L,o,hf,hn,ho,hd⟩,hr⟩:=hl
    have hL:L∈X.fs:=hs L (by unfold frs;rw [List.filterMap_cons,hf];exact List.mem_cons_self)
    obtain ⟨sl,e⟩:=I.base.slot L o ho (I.ok.Ag L hL) hL fun z=>I.ok.w_ L z hL
    exact ⟨hk,⟨L,_,hf,hn,e,hd⟩,ih (fun b hb=>hs b (by unfold frs;rw [List.filterMap_cons,hf];exact List.mem_cons_of_mem _ hb)) hr⟩
 exact all X.outer (fun _ hb=>hb) I.ok.kG
theorem Inv.stack (I:Inv X pins σ H s):s.heap.FunFrames X.base X.stack:=by
 rcases I.ok.stk with e | ⟨e,hf⟩
 · rw [e];exact I.kG
 · rw [e]
   obtain ⟨m,hn,_⟩:=I.loc
   refine .cons (by rw [I.ok.kind];decide) hf hn ?_ I.kG
   exact Heap.get?_none_of_le (Nat.le_trans I.ok.yd I.ok.above)
theorem Inv.Ai (I:Inv X pins σ H s):∀b∈frs X.stack,b∈X.env.locals :: X.fs:=fun b hb=>by
 rcases I.ok.stk with e | ⟨e,hf⟩
 · rw [e] at hb;exact List.mem_cons_of_mem _ hb
 · rw [e] at hb
   unfold frs at hb
   rw [List.filterMap_cons,hf] at hb
   exact hb
theorem Inv.C_ (I:Inv X pins σ H s):∀b∈frs X.stack,H b = none:=fun b hb=>by
 rcases List.mem_cons.mp (I.Ai b hb) with e | hb
 · rw [e];exact I.free
 · obtain ⟨_,o,ho,_⟩:=I.ok.kG.mem hb
   exact I.base.free b o ho (I.ok.Ag b hb) fun z=>I.ok.w_ b z hb
theorem Inv.step {g':Array GenState} {t':Nat} {d':Drawn} {ch:List Addr} (I:Inv X pins σ H s)
  (hch:∀b∈ch,(b∈X.ex∨X.s₀.heap.objs.size≤b)∧b ≠ X.env.locals∧(∀x c,X.env.cells.lookup x = some c→c ≠ b)∧∀p∈X.pn ++ pins,p.1 ≠ b)
  (keep:∀b o,b ≠ X.env.locals→b ∉ X.fs→b ∉ ch→s.heap.get? b = some o→H b = none→h'.get? b = some o)
  (slot:∀b o,b ≠ X.env.locals→b∈X.fs→b ∉ ch→s.heap.get? b = some o→H b = none→∃sl,h'.get? b = some { o with slots:=sl }) (free:∀b o,b ∉ ch→s.heap.get? b = some o→H b = none→H' b = none)
  (there:∀b o,b ∉ ch→s.heap.get? b = some o→∃o',h'.get? b = some o')
  (tups:∀b xs,H b = some (.tup xs)→H' b = some (.tup xs)) (kF:∀b o u,H b = some (.cW o u)→H' b = some (.cW o u)) (nO:∀b ps,H b = some (.Ad ps)→∃more,H' b = some (.Ad (ps ++ more)))
  (ns:∀m,s.heap.Ns X.env.locals m→h'.Ns X.env.locals m) (hok:ee X.prog X.w H' h') (hg:AllBare g'):
  Inv X pins σ H' { s with heap:=h',gens:=g',drawn:=d',toks:=t' }:=by
 have Oc:∀b o,X.s₀.heap.get? b = some o→b ≠ X.env.locals:=fun b o e=>Nat.ne_of_lt (Nat.lt_of_lt_of_le (Heap.lt_size e) I.ok.above)
 have I0:∀b o,X.s₀.heap.get? b = some o→b ∉ X.ex→b ∉ ch:=fun b o e hx hb=>by
  rcases (hch b hb).1 with z | z
  · exact hx z
  · exact absurd (Nat.lt_of_lt_of_le (Heap.lt_size e) z) (Nat.lt_irrefl _)
 have cellK:∀x c,X.env.cells.lookup x = some c→∀v,s.heap.IsCell c v→h'.IsCell c v:=fun x c e v ⟨o,ho,hd⟩=>by
  have ou:c ∉ ch:=fun z=>(hch c z).2.2.1 x c e rfl
  by_cases hc:c∈X.fs
  · obtain ⟨sl,q⟩:=slot c o (I.Ah x c e) hc ou ho (I.iD x c e)
    exact ⟨_,q,hd⟩
  · exact ⟨o,keep c o (I.Ah x c e) hc ou ho (I.iD x c e),hd⟩
 refine ⟨I.ok,I.os,hg,⟨fun b o e n hb hx=>?_,fun b o e n hb hx=>?_,fun b o e n hx=>?_,fun b o e hx=>?_,fun b xs e=>tups b xs (I.base.tups b xs e),fun b o xs e=>kF b o xs (I.base.kF b o xs e),fun b ps e=>?_⟩,?_,fun x c e=>?_,?_,fun x c e=>?_,fun p hp=>?_,hok,I.len⟩
 · exact keep b o (Oc b o e) hb (I0 b o e hx) (I.base.keep b o e n hb hx) (I.base.free b o e n hx)
 · obtain ⟨sl,e1⟩:=I.base.slot b o e n hb hx
   obtain ⟨Rr,e2⟩:=slot b _ (Oc b o e) hb (I0 b o e hx) e1 (I.base.free b o e n hx)
   exact ⟨Rr,e2⟩
 · obtain ⟨o',e1⟩:=I.base.there b o e hx
   exact free b o' (I0 b o e hx) e1 (I.base.free b o e n hx)
 · obtain ⟨o',e1⟩:=I.base.there b o e hx
   exact there b o' (I0 b o e hx) e1
 · obtain ⟨m1,e1⟩:=I.base.nO b ps e
   obtain ⟨m2,e2⟩:=nO b _ e1
   exact ⟨m1 ++ m2,by rw [e2,Array.append_assoc]⟩
 · obtain ⟨m,hn,hl⟩:=I.loc
   refine ⟨m,ns m hn,fun i x v e1 e2 e3=>?_⟩
   obtain ⟨u,r,l⟩:=hl i x v e1 e2 e3
   refine ⟨u,r,?_⟩
   rcases l with l | ⟨k,c,e,z⟩
   · exact .inl l
   · exact .inr ⟨k,c,e,cellK x c e _ z⟩
 · obtain ⟨v,z⟩:=I.cell x c e
   exact ⟨v,cellK x c e v z⟩
 · obtain ⟨m,⟨o,_,_,ho,_⟩,_⟩:=I.loc
   exact free _ o (fun z=>(hch _ z).2.1 rfl) ho I.free
 · obtain ⟨v,o,ho,hd⟩:=I.cell x c e
   exact free c o (fun z=>(hch c z).2.2.1 x c e rfl) ho (I.iD x c e)
 · obtain ⟨e,n,ne,nf,d⟩:=I.pin p hp
   have ou:p.1 ∉ ch:=fun z=>(hch p.1 z).2.2.2 p hp rfl
   exact ⟨keep p.1 p.2 ne nf ou e n,free p.1 p.2 ou e n,ne,nf,d⟩
theorem Inv.un {t':Nat} (I:Inv X pins σ H s) (u:Un X.fs [] H H' s.heap h') (hok:ee X.prog X.w H' h'):Inv X pins σ H' { s with heap:=h',toks:=t' }:=by
 obtain ⟨m,⟨o,es,ep,ho,r⟩,_⟩:=id I.loc
 obtain ⟨sl,hL⟩:=u.any ho I.free (by simp)
 exact I.step (g':=s.gens) (d':=s.drawn) (ch:=[]) (fun _ z=>nomatch z) (fun b o _ hb _ e n=>u.keep b o e n hb (by simp)) (fun b o _ hb _ e n=>u.slot b o e n hb (by simp)) (fun b o _ e n=>u.free b o e n (by simp)) (fun b o _ e=>u.there b o e (by simp)) u.tups u.kF u.nO (fun m' hm=>by
  obtain ⟨o',es',u_,ho',r'⟩:=hm
  rw [ho] at ho';cases ho'
  exact ⟨_,es',u_,hL,r'⟩) hok I.bare
theorem Inv.call {g':Array GenState} {t':Nat} {d':Drawn} {ch:List Addr} (I:Inv X pins σ H s) (u:Un (frs X.stack) ch H H' s.heap h') (hok:ee X.prog X.w H' h') (hg:AllBare g')
  (hch:∀b∈ch,(b∈X.ex∨X.s₀.heap.objs.size≤b)∧b ≠ X.env.locals∧(∀x c,X.env.cells.lookup x = some c→c ≠ b)∧∀p∈X.pn ++ pins,p.1 ≠ b):
  Inv X pins σ H' { s with heap:=h',gens:=g',drawn:=d',toks:=t' }:=by
 obtain ⟨m,⟨o,es,ep,ho,r⟩,_⟩:=id I.loc
 obtain ⟨sl,hL⟩:=u.any ho I.free fun z=>(hch _ z).2.1 rfl
 exact I.step (ch:=ch) hch (fun b o hL hb hc e n=>u.keep b o e n (fun z=>(List.mem_cons.mp (I.Ai b z)).elim hL hb) hc) (fun b o _ _ hc e n=>u.any e n hc) (fun b o hc e n=>u.free b o e n hc) (fun b o hc e=>u.there b o e hc) u.tups u.kF u.nO (fun m' hm=>by
  obtain ⟨o',es',u_,ho',r'⟩:=hm
  rw [ho] at ho';cases ho'
  exact ⟨_,es',u_,hL,r'⟩) hok hg
theorem Inv.turned {t':Nat} {it:Addr} (I:Inv X pins σ H s) (k:∀b o,b ≠ it→s.heap.get? b = some o→h'.get? b = some o) (hn:H it = none) (hL:it ≠ X.env.locals)
  (h1:it∈X.ex∨X.s₀.heap.objs.size≤it) (h2:∀x c,X.env.cells.lookup x = some c→c ≠ it) (h3:∀p∈X.pn ++ pins,p.1 ≠ it):Inv X pins σ H { s with heap:=h',toks:=t' }:=by
 have Od:∀b u,H b = some u→b ≠ it:=fun b u e z=>by rw [z,hn] at e;cases e
 refine I.step (g':=s.gens) (d':=s.drawn) (ch:=[it]) (fun b hb=>?_) (fun b o _ _ hc e _=>k b o (fun z=>hc (by simp [z])) e) (fun b o _ _ hc e _=>⟨o.slots,k b o (fun z=>hc (by simp [z])) e⟩) (fun _ _ _ _ n=>n)
  (fun b o hc e=>⟨o,k b o (fun z=>hc (by simp [z])) e⟩) (fun _ _ e=>e) (fun _ _ _ e=>e) (fun b ps e=>⟨#[],by rw [e];simp⟩) (fun m hm=>?_) (fun b u e=>?_) I.bare
 · have e:b = it:=by simpa using hb
   subst e
   exact ⟨h1,hL,h2,h3⟩
 · obtain ⟨o,es,ep,ho,r⟩:=hm
   exact ⟨o,es,ep,k _ o (Ne.symm hL) ho,r⟩
 · refine (I.hok b u e).stay (fun c v hc q=>k c v ?_ q) (fun _ q=>q) fun _ _ q=>q
   rcases hc with z | z
   · rw [z];exact Od b u e
   · exact Od c _ z
theorem Inv.tok (I:Inv X pins σ H s) (t:Nat):Inv X pins σ H { s with toks:=t }:=I.un (h':=s.heap) (t':=t) Un.refl I.hok
theorem Inv.kept {t':Nat} (I:Inv X pins σ H s) (k:∀b u,s.heap.get? b = some u→h'.get? b = some u):Inv X pins σ H { s with heap:=h',toks:=t' }:=I.un (Un.kept k) (I.hok.kept k)
theorem Inv.laid {a:Addr} {o:HO} {t':Nat} (I:Inv X pins σ H s) (k:∀b u,s.heap.get? b = some u→h'.get? b = some u) (hp:s.heap.objs.size≤a) (new:cy X.prog X.w (upd H a o) h' a o):
  Inv X pins σ (upd H a o) { s with heap:=h',toks:=t' }:=I.un (Un.laid k hp (I.hok.fresh hp)) (I.hok.laid k hp new)
theorem Inv.write {x e:Addr} {o:HO} {t':Nat} (I:Inv X pins σ H s) (mu:EZ (H x)) (he:e = x∨H e = some (.own x)) (k:∀b u,b ≠ e→s.heap.get? b = some u→h'.get? b = some u) (C8:∃u,h'.get? e = some u)
  (new:cy X.prog X.w (upd H x o) h' x o):Inv X pins σ (upd H x o) { s with heap:=h',toks:=t' }:=I.un (Un.write mu he k C8) (I.hok.write mu he k C8 new)
theorem Inv.Dc {I_:List (Addr × Obj)} (I:Inv X pins σ H s) (h:∀p∈I_,s.heap.get? p.1 = some p.2∧H p.1 = none∧p.1 ≠ X.env.locals∧p.1 ∉ X.fs∧∀v,p.2.data ≠ .cell v):Inv X I_ σ H s:=
 ⟨I.ok,I.os,I.bare,I.base,I.loc,I.cell,I.free,I.iD,fun p hp=>(List.mem_append.mp hp).elim (fun z=>I.pin p (List.mem_append_left _ z)) (h p),I.hok,I.len⟩
theorem ur {N:List Str} (hN:N.Nodup) {i j:Nat} {x:Str} (a:N[i]? = some x) (b:N[j]? = some x):i = j:=by
 obtain ⟨h1,e1⟩:=List.getElem?_eq_some_iff.mp a
 obtain ⟨h2,e2⟩:=List.getElem?_eq_some_iff.mp b
 exact (List.getElem_inj hN).mp (e1.trans e2.symm)
theorem qw {M:Model} {A:Around} {E:Value→Shared→Prop} {i:Nat} {x:Str} {v:V} {u:Value} {Q:Unit→Shared→Prop} (I:Inv X pins σ H s) (hN:X.N.Nodup) (hi:X.N[i]? = some x) (hx:Loc X.env.scope x) (r:RelV v u)
  (h:∀s',Inv X pins (σ.set i (some v)) H s'→(∃a,Heap.SameBut a s.heap s'.heap∧(a = X.env.locals∨X.env.cells.lookup x = some a))→Q () s') (hf:X.fn x = true∨X.env.scope.names.lookup x = some .local:=by first | exact .inl rfl | exact .inr rfl | assumption):wpAny M A (storeName X.env x u) Q E s:=by
 obtain ⟨m,hn,hl⟩:=id I.loc
 have hcls:(X.env.scope.kind == .class || (X.env.scope.kind == .module && X.env.locals != X.env.globals)) = false:=by rw [I.ok.kind];rfl
 have Oe:i < σ.length:=by rw [I.len];exact (List.getElem?_eq_some_iff.mp hi).1
 have Ah:=I.Ah
 have tracked:∀{a:Addr} {h':Heap},(∃o,s.heap.get? a = some o∧H a = none)→Heap.SameBut a s.heap h'→ee X.prog X.w H h':=fun {a h'} ha hs b ob e=>by
  obtain ⟨_,_,hfree⟩:=ha
  refine (I.hok b ob e).stay (fun c w' hc q=>(hs.2 c ?_).trans q) (fun _ q=>q) fun _ _ q=>q
  rintro rfl
  rcases hc with rfl | hc
  · rw [hfree] at e;cases e
  · rw [hfree] at hc;cases hc
 rcases hx with hk | hk
 · refine wpAny_storeName_local hk hn (fun h' hn' hs=>?_) hcls
   obtain ⟨oL,_,_,Rt,_⟩:=id hn
   refine h _ ⟨I.ok,I.os,I.bare,⟨fun b o e n hb hx=>?_,fun b o e n hb hx=>?_,I.base.free,fun b o e hx=>?_,I.base.tups,I.base.kF,I.base.nO⟩,⟨_,hn',fun j y v' e1 e2 e3=>?_⟩,fun y c e=>?_,I.free,I.iD,fun p hp=>?_,tracked ⟨oL,Rt,I.free⟩ hs,by simpa using I.len⟩ ⟨_,hs, .inl rfl⟩
   · exact (hs.2 b (Nat.ne_of_lt (Nat.lt_of_lt_of_le (Heap.lt_size e) I.ok.above))).trans (I.base.keep b o e n hb hx)
   · obtain ⟨sl,e1⟩:=I.base.slot b o e n hb hx
     exact ⟨sl,(hs.2 b (Nat.ne_of_lt (Nat.lt_of_lt_of_le (Heap.lt_size e) I.ok.above))).trans e1⟩
   · obtain ⟨o',e1⟩:=I.base.there b o e hx
     exact ⟨o',(hs.2 b (Nat.ne_of_lt (Nat.lt_of_lt_of_le (Heap.lt_size e) I.ok.above))).trans e1⟩
   · by_cases hj:j = i
     · subst hj
       rw [hi] at e1;cases e1
       rw [List.getElem?_set_self Oe] at e2
       cases e2
       exact ⟨u,r, .inl ⟨hk,by simp⟩⟩
     · rw [List.getElem?_set_ne (Ne.symm hj)] at e2
       obtain ⟨u',r',q⟩:=hl j y v' e1 e2 e3
       refine ⟨u',r',?_⟩
       rcases q with ⟨k,e⟩ | ⟨k,c,e,z⟩
       · refine .inl ⟨k,?_⟩
         have:y ≠ x:=fun e=>hj (ur hN e1 (e ▸ hi))
         simp [this,e]
       · exact .inr ⟨k,c,e,z.sameBut hs (Ah y c e)⟩
   · obtain ⟨w',z⟩:=I.cell y c e
     exact ⟨w',z.sameBut hs (Ah y c e)⟩
   · obtain ⟨e,n,ne,nf,d⟩:=I.pin p hp
     exact ⟨(hs.2 p.1 ne).trans e,n,ne,nf,d⟩
 · have hfn:X.fn x = true:=by
    rcases hf with z | z
    · exact z
    · rw [z] at hk;cases hk
   obtain ⟨c,hc⟩:=I.ok.has x (.inl hk)
   obtain ⟨w',z⟩:=I.cell x c hc
   refine wpAny_storeName_cell I.ok.kind hk hc z (fun h' hc' hs=>?_)
   obtain ⟨oc,hoc,QE⟩:=id z
   refine h { s with heap:=h' } ⟨I.ok,I.os,I.bare,⟨fun b o e n hb hx=>?_,fun b o e n hb hx=>?_,I.base.free,fun b o e hx=>?_,I.base.tups,I.base.kF,I.base.nO⟩,⟨m,hn.sameBut hs (Ne.symm (Ah x c hc)),fun j y v' e1 e2 e3=>?_⟩,fun y c' e=>?_,I.free,I.iD,fun p hp=>?_,tracked ⟨oc,hoc,I.iD x c hc⟩ hs,by simpa using I.len⟩ ⟨c,hs, .inr hc⟩
   · exact (hs.2 b (Nat.ne_of_lt (Nat.lt_of_lt_of_le (Heap.lt_size e) (I.ok.dN x c hfn hc)))).trans (I.base.keep b o e n hb hx)
   · obtain ⟨sl,e1⟩:=I.base.slot b o e n hb hx
     exact ⟨sl,(hs.2 b (Nat.ne_of_lt (Nat.lt_of_lt_of_le (Heap.lt_size e) (I.ok.dN x c hfn hc)))).trans e1⟩
   · obtain ⟨o',e1⟩:=I.base.there b o e hx
     exact ⟨o',(hs.2 b (Nat.ne_of_lt (Nat.lt_of_lt_of_le (Heap.lt_size e) (I.ok.dN x c hfn hc)))).trans e1⟩
   · by_cases hj:j = i
     · subst hj
       rw [hi] at e1;cases e1
       rw [List.getElem?_set_self Oe] at e2
       cases e2
       exact ⟨u,r, .inr ⟨.inl hk,c,hc,hc'⟩⟩
     · rw [List.getElem?_set_ne (Ne.symm hj)] at e2
       obtain ⟨u',r',q⟩:=hl j y v' e1 e2 e3
       refine ⟨u',r',?_⟩
       rcases q with q | ⟨k,c',e,z'⟩
       · exact .inl q
       · refine .inr ⟨k,c',e,z'.sameBut hs ?_⟩
         rintro rfl
         exact hj (ur hN e1 (I.ok.inj _ _ _ e hc ▸ hi))
   · by_cases hcc:c' = c
     · subst hcc;exact ⟨_,hc'⟩
     · obtain ⟨w2,z2⟩:=I.cell y c' e
       exact ⟨w2,z2.sameBut hs hcc⟩
   · obtain ⟨e,n,ne,nf,d⟩:=I.pin p hp
     refine ⟨(hs.2 p.1 ?_).trans e,n,ne,nf,d⟩
     intro q
     rw [q,hoc] at e
     have q':oc = p.2:=Option.some.inj e
     exact d w' (by rw [← q'];exact QE)
theorem pe {M:Model} {A:Around} {E:Value→Shared→Prop} {i:Nat} {x:Str} {v:V} {u:Value} {Q:Unit→Shared→Prop} (I:Inv X pins σ H s) (hN:X.N.Nodup) (hi:X.N[i]? = some x) (hx:Loc X.env.scope x) (r:RelV v u)
  (h:∀s',Inv X pins (σ.set i (some v)) H s'→Q () s') (hf:X.fn x = true∨X.env.scope.names.lookup x = some .local:=by first | exact .inl rfl | exact .inr rfl | assumption):wpAny M A (storeName X.env x u) Q E s:=
 qw I hN hi hx r (fun s' I' _=>h s' I') hf
theorem Inv.Ja {s':Shared} {ch:List Addr} (I:Inv X pins σ H s) (ho:s'.os = s.os) (u:Un (frs X.stack) ch H H' s.heap s'.heap) (hok:ee X.prog X.w H' s'.heap) (hg:AllBare s'.gens)
  (hch:∀b∈ch,(b∈X.ex∨X.s₀.heap.objs.size≤b)∧b ≠ X.env.locals∧(∀x c,X.env.cells.lookup x = some c→c ≠ b)∧∀p∈X.pn ++ pins,p.1 ≠ b):Inv X pins σ H' s':=by
 obtain ⟨h',g',d',t',o'⟩:=s'
 have e:o' = s.os:=ho
 subst e
 exact I.call (g':=g') (t':=t') (d':=d') u hok hg hch
end
abbrev XK:=Value→Option Addr→Hp→Prop
abbrev St:=List (Option V)
abbrev VK:=V→Hp→Prop
abbrev TE:=St→Hp→VK→Prop
abbrev TT:=St→Hp→(Bool→Hp→Prop)→Prop
abbrev TA:=St→Hp→(List V→Hp→Prop)→Prop
structure Ends where
 nx:St→Hp→Prop
 rt:VK
 bk:St→Hp→Prop:=fun _ _=>False
 ct:St→Hp→Prop:=fun _ _=>False
abbrev TS:=Ends→St→Hp→Prop
def EP (X:Cx) (pins:List (Addr × Obj)) (σ:St) (Q:VK) (u:Value) (s':Shared):Prop:=∃v H',Inv X pins σ H' s'∧RelV v u∧Q v H'
def TP (X:Cx) (pins:List (Addr × Obj)) (σ:St) (Q:Bool→Hp→Prop) (b:Bool) (s':Shared):Prop:=∃H',Inv X pins σ H' s'∧Q b H'
def AP (X:Cx) (pins:List (Addr × Obj)) (σ:St) (Q:List V→Hp→Prop) (us:List Value) (s':Shared):Prop:=∃vs H',Inv X pins σ H' s'∧Vals vs us∧Q vs H'
def SP (X:Cx) (pins:List (Addr × Obj)) (D:Ends) (f:Flow) (s':Shared):Prop:=
 match f with
 | .next=>∃σ' H',Inv X pins σ' H' s'∧D.nx σ' H'
 | .brk=>∃σ' H',Inv X pins σ' H' s'∧D.bk σ' H'
 | .cont=>∃σ' H',Inv X pins σ' H' s'∧D.ct σ' H'
 | .ret u=>∃v σ' H',Inv X pins σ' H' s'∧RelV v u∧D.rt v H'
def PE (X:Cx) (e:Expr) (t:TE):Prop:=
 ∀(pins:List (Addr × Obj)) (s:Shared) (σ:St) (H:Hp) (Q:VK),Inv X pins σ H s→t σ H Q→wpAny (model X.prog X.w) X.A (eval e X.env) (EP X pins σ Q) X.xe s
def PT (X:Cx) (e:Expr) (t:TT):Prop:=
 ∀(pins:List (Addr × Obj)) (s:Shared) (σ:St) (H:Hp) (Q:Bool→Hp→Prop),Inv X pins σ H s→t σ H Q→wpAny (model X.prog X.w) X.A (isTrue e X.env (eval e X.env)) (TP X pins σ Q) X.xe s
def PW (X:Cx) (e:Expr) (t:TT):Prop:=
 ∀(whole:Sem Value) (pins:List (Addr × Obj)) (s:Shared) (σ:St) (H:Hp) (Q:Bool→Hp→Prop),Inv X pins σ H s→t σ H Q→wpAny (model X.prog X.w) X.A (isTrue e X.env whole) (TP X pins σ Q) X.xe s
theorem PW.pt {X:Cx} {e:Expr} {t:TT} (h:PW X e t):PT X e t:=h _
def PA (X:Cx) (es:List Expr) (t:TA):Prop:=
 ∀(pos:Pos) (pins:List (Addr × Obj)) (s:Shared) (σ:St) (H:Hp) (Q:List V→Hp→Prop),Inv X pins σ H s→t σ H Q→wpAny (model X.prog X.w) X.A (spliced (backTo pos (starEach es X.env))) (AP X pins σ Q) X.xe s
def PS (X:Cx) (st:Stmt) (t:TS):Prop:=
 ∀(pins:List (Addr × Obj)) (s:Shared) (σ:St) (H:Hp) (D:Ends),Inv X pins σ H s→t D σ H→wpAny (model X.prog X.w) X.A (exec st X.env) (SP X pins D) X.xe s
def jK (X:Cx) (st:List Stmt) (t:TS):Prop:=
 ∀(pins:List (Addr × Obj)) (s:Shared) (σ:St) (H:Hp) (D:Ends),Inv X pins σ H s→t D σ H→wpAny (model X.prog X.w) X.A (execs st X.env) (SP X pins D) X.xe s
theorem aP {α:Type} {t:Sem α} {Q Q':α→Shared→Prop} {M:Model} {A:Around} {E:Value→Shared→Prop} {s:Shared} (h:wpAny M A t Q E s) (hQ:∀a s,Q a s→Q' a s):wpAny M A t Q' E s:=wpAny_mono h hQ fun _ _ x=>x
end L2
namespace L2
open PySem PySem.Spec PyProof.Rows
section
variable {X:Cx}
def Lc (i:Nat):TE:=fun σ H Q=>∃v,σ[i]? = some (some v)∧Q v H
def tC (v:V):TE:=fun _ H Q=>Q v H
theorem Ld {i:Nat} {x:Str} {pos:Pos} (hN:X.N[i]? = some x) (hv:IZ X.env.scope x) (hd:(x == ("__debug__":Str)) = false:=by decide) (hcd:(x == ("__classdict__":Str)) = false:=by decide):PE X (.Name x pos) (Lc i):=by
 intro pins s σ H Q I h
 obtain ⟨v,e,h⟩:=h
 obtain ⟨m,hn,hl⟩:=I.loc
 obtain ⟨u,r,l⟩:=hl i x v hN e hv
 have fin:EP X pins σ Q u s:=⟨v,H,I,r,h⟩
 rcases l with ⟨hk,hm⟩ | ⟨hk,c,hc,hcell⟩
 · exact wpAny_Name (wpAny_loadName_local I.ok.kind hk hn hm fin) hd
 · rcases hk with hk | hk
   · exact wpAny_Name (wpAny_loadName_cell I.ok.kind hk hc hcell fin) hd
   · exact wpAny_Name (wpAny_loadName_free I.ok.kind hk hc hcell fin hcd) hd
theorem ak {i j pos}:PE X (.Constant (.int i) j pos) (tC (.int i)):=fun _ _ _ H _ I h=>wpAny_Constant_int ⟨.int i,H,I.tok _,⟨_,rfl⟩,h⟩
theorem cL {b j pos}:PE X (.Constant (.bool b) j pos) (tC (.bl b)):=fun _ _ _ H _ I h=>Constant_bool ⟨.bl b,H,I,rfl,h⟩
theorem bO {x j pos}:PE X (.Constant (.str x) j pos) (tC (.str x)):=fun _ _ _ H _ I h=>Calls.Constant_str ⟨.str x,H,I.tok _,⟨_,rfl⟩,h⟩
def Gl (X:Cx) (x:Str):Prop:=X.env.kindOf x = some .globalImplicit
theorem sf {E:Value→Shared→Prop} {pins:List (Addr × Obj)} {s:Shared} {σ:St} {H:Hp} {x:Str} {u:Value} {pos:Pos} {Q:Value→Shared→Prop} (I:Inv X pins σ H s) (hg:Gl X x) (hm:X.mg x = some u) (h:Q u s)
  (hd:(x == ("__debug__":Str)) = false:=by decide):wpAny (model X.prog X.w) X.A (eval (.Name x pos) X.env) Q E s:=
 Calls.Name_function_global I.ok.kind hg (Calls.loadGlobal_global (by rw [I.ok.glob];exact I.mod.glob.keeps I.bk) hm h) hd
theorem oz {E:Value→Shared→Prop} {pins:List (Addr × Obj)} {s:Shared} {σ:St} {H:Hp} {x:Str} {u:Value} {pos:Pos} {Q:Value→Shared→Prop} (I:Inv X pins σ H s) (hg:Gl X x) (hm:X.mg x = none) (hv:bootBuiltins x = some u) (h:Q u s)
  (hn:x ≠ "__name__":=by decide) (hd:(x == ("__debug__":Str)) = false:=by decide):wpAny (model X.prog X.w) X.A (eval (.Name x pos) X.env) Q E s:=by
 obtain ⟨mb,h1,h2⟩:=I.mod.blt
 exact Calls.Name_function_global I.ok.kind hg (Calls.loadGlobal_builtin (by rw [I.ok.glob];exact I.mod.glob.keeps I.bk) hm (by rw [I.ok.blt];exact h1.keeps I.bk) ((h2 x hn).trans hv) h) hd
theorem J7 {x:Str} {v:V} {u:Value} {pos:Pos} (hg:Gl X x) (hm:X.mg x = some u) (r:RelV v u) (hd:(x == ("__debug__":Str)) = false:=by decide):PE X (.Name x pos) (tC v):=
 fun _ _ _ H _ I h=>sf I hg hm ⟨v,H,I,r,h⟩ hd
theorem J8 {x:Str} {v:V} {u:Value} {pos:Pos} (hg:Gl X x) (hm:X.mg x = none) (hv:bootBuiltins x = some u) (r:RelV v u) (hn:x ≠ "__name__":=by decide) (hd:(x == ("__debug__":Str)) = false:=by decide):PE X (.Name x pos) (tC v):=
 fun _ _ _ H _ I h=>oz I hg hm hv ⟨v,H,I,r,h⟩ hn hd
variable {a b:Expr} {ta tb:TE} {pos:Pos}
def PC (X:Cx) (op:CmpOp) (a b:Expr) (t:TE):Prop:=
 ∀(pins:List (Addr × Obj)) (s:Shared) (σ:St) (H:Hp) (Q:VK),Inv X pins σ H s→t σ H Q→
  wpAny (model X.prog X.w) X.A (eval a X.env) (fun v s₁=>wpAny (model X.prog X.w) X.A (eval b X.env) (fun u s₂=>wpAny (model X.prog X.w) X.A (compareOp op v u) (EP X pins σ Q) X.xe s₂) X.xe s₁) X.xe s
def tB (t:TE):TT:=fun σ H Q=>t σ H fun x H1=>∃c,x = .bl c∧Q c H1
theorem oA {op:CmpOp} {t:TE} (h:PC X op a b t) (h1:behindInMarks op b = false:=by first | exact QF _ (by decide) (by decide) | rfl):PT X (.Compare a [op] [b] pos) (tB t):=by
 intro pins s σ H Q I hw
 refine wpAny_isTrue_Compare1 (aP (h pins s σ H _ I hw) fun v s1 h1=>aP h1 fun u s2 h2=>aP h2 fun c s3 ⟨x,H1,I1,r1,q1⟩=>?_) h1
 obtain ⟨d,rfl,q⟩:=q1
 cases r1
 exact wpAny_truthy_bool ⟨H1,I1,q⟩
theorem bU {e:Expr} {t:TE} (h:PE X e t) (he:∀whole,isTrue e X.env whole = (do let v ← whole;standAt e.pos;holding [v] (truthy v)):=by intro _;rfl):PT X e (tB t):=by
 intro pins s σ H Q I hw
 refine isTrue_plain (aP (h pins s σ H _ I hw) fun v s1 ⟨x,H1,I1,r1,q1⟩=>?_) (he _)
 obtain ⟨d,rfl,q⟩:=q1
 cases r1
 exact wpAny_truthy_bool ⟨H1,I1,q⟩
variable {tA Jb:TT} {rest:List Expr}
def QG (t u:TT):TT:=fun σ H Q=>t σ H fun c H1=>if c = true then u σ H1 Q else Q false H1
def Ru (t u:TT):TT:=fun σ H Q=>t σ H fun c H1=>if c = true then Q true H1 else u σ H1 Q
def QH (t:TT):TT:=fun σ H Q=>t σ H fun c H1=>Q (!c) H1
theorem sj (ha:PT X a tA):PW X (.BoolOp .And [a] pos) tA:=by
 intro wh pins s σ H Q I h
 refine isTrue_and (aP (ha pins s σ H Q I h) fun c s1 e=>?_)
 cases c with
 | true=>exact isTrue_and_nil e
 | false=>exact e
theorem ef (ha:PT X a tA):PW X (.BoolOp .Or [a] pos) tA:=by
 intro wh pins s σ H Q I h
 refine isTrue_or (aP (ha pins s σ H Q I h) fun c s1 e=>?_)
 cases c with
 | false=>exact isTrue_or_nil e
 | true=>exact e
theorem qx (ha:PT X a tA) (hb:PW X (.BoolOp .And (b :: rest) pos) Jb):PW X (.BoolOp .And (a :: b :: rest) pos) (QG tA Jb):=by
 intro wh pins s σ H Q I h
 refine isTrue_and (aP (ha pins s σ H _ I h) fun c s1 ⟨H1,I1,q1⟩=>?_)
 cases c with
 | true=>exact hb wh pins s1 σ H1 Q I1 q1
 | false=>exact ⟨H1,I1,q1⟩
theorem fj (ha:PT X a tA) (hb:PW X (.BoolOp .Or (b :: rest) pos) Jb):PW X (.BoolOp .Or (a :: b :: rest) pos) (Ru tA Jb):=by
 intro wh pins s σ H Q I h
 refine isTrue_or (aP (ha pins s σ H _ I h) fun c s1 ⟨H1,I1,q1⟩=>?_)
 cases c with
 | true=>exact ⟨H1,I1,q1⟩
 | false=>exact hb wh pins s1 σ H1 Q I1 q1
theorem b8 (ha:PT X a tA):PT X (.UnaryOp .Not a pos) (QH tA):=by
 intro pins s σ H Q I h
 exact isTrue_not (ha pins s σ H (fun c H1=>Q (!c) H1) I h)
def NG (ta tb:TE):TE:=fun σ H Q=>ta σ H fun x H1=>∃c,x = .bl c∧if c = true then tb σ H1 Q else Q (.bl false) H1
def NH (ta:TE):TE:=fun σ H Q=>ta σ H fun x H1=>∃c,x = .bl c∧Q (.bl (!c)) H1
theorem Aj {op} {t:TE} (h:PE X a t):PE X (.BoolOp op [a] pos) t:=fun pins s σ H Q I hw=>BoolOp_one (h pins s σ H Q I hw)
theorem Ak (ha:PE X a ta) (hb:PE X (.BoolOp .And (b :: rest) pos) tb):PE X (.BoolOp .And (a :: b :: rest) pos) (NG ta tb):=by
 intro pins s σ H Q I h
 refine BoolOp_and (aP (ha pins s σ H _ I h) fun v s1 ⟨x,H1,I1,r1,q1⟩=>?_)
 obtain ⟨c,rfl,q1⟩:=q1
 cases r1
 refine wpAny_truthy_bool ?_
 cases c with
 | true=>exact hb pins s1 σ H1 Q I1 q1
 | false=>exact ⟨.bl false,H1,I1,rfl,q1⟩
theorem Le (ha:PE X a ta):PE X (.UnaryOp .Not a pos) (NH ta):=by
 intro pins s σ H Q I h
 refine UnaryOp_ (aP (ha pins s σ H _ I h) fun v s1 ⟨x,H1,I1,r1,q1⟩=>?_)
 obtain ⟨c,rfl,q1⟩:=q1
 cases r1
 exact not_of (wpAny_truthy_bool ⟨.bl (!c),H1,I1,rfl,q1⟩)
end
end L2
namespace L2
open PySem PySem.Spec PyProof.Rows
def av (K:PySem.W.Frag) (H:Hp) (a:Addr) (xs:List V):Prop:=
 Rd H a (.lst xs)∨
  ∃(o:Obj) (its:Array Value) (n:Nat),K.lookup a = some o∧o.cls = .type "list"∧o.dict = none∧o.data = .seq its n∧its.size≤sizeLine∧Vals xs its.toList
def cA (K:PySem.W.Frag) (H:Hp) (a:Addr) (xs:List V):Prop:=
 Rd H a (.tup xs)∨
  ∃(o:Obj) (its:Array Value) (n:Nat),K.lookup a = some o∧o.cls = .type "tuple"∧o.data = .seq its n∧its.size≤sizeLine∧Vals xs its.toList
def QI:Value→Option V
 | .none=>some .bE
 | .bool b=>some (.bl b)
 | .int i _=>some (.int i)
 | .str x _=>some (.str x)
 | .bytes b _=>some (.pZ b)
 | .float b _=>some (.Ac b)
 | .ref a=>some (.ref a)
 | .type n=>some (.ty n)
 | _=>none
theorem RelV.abs {x:V} {u:Value} (r:RelV x u):QI u = some x:=by
 cases x with
 | bE=>cases r;rfl
 | bl _=>cases r;rfl
 | int _=>obtain ⟨t,rfl⟩:=r;rfl
 | str _=>obtain ⟨t,rfl⟩:=r;rfl
 | pZ _=>obtain ⟨t,rfl⟩:=r;rfl
 | Ac _=>obtain ⟨t,rfl⟩:=r;rfl
 | ref _=>cases r;rfl
 | ty _=>cases r;rfl
theorem RelV.inj {x y:V} {u:Value} (r:RelV x u) (q:RelV y u):x = y:=Option.some.inj (r.abs.symm.trans q.abs)
theorem Vals.inj:∀{xs ys:List V} {us:List Value},Vals xs us→Vals ys us→xs = ys
 | _,_,_, .nil, .nil=>rfl
 | _,_,_, .cons r t, .cons r' t'=>by rw [r.inj r',Vals.inj t t']
section
variable {X:Cx} {pins:List (Addr × Obj)} {σ:St} {H:Hp} {s:Shared} {a:Addr} {xs ys:List V}
theorem av.of {K:PySem.W.Frag} (h:H a = some (.lst xs)):av K H a xs:= .inl (.inl h)
theorem cA.of {K:PySem.W.Frag} (h:H a = some (.tup xs)):cA K H a xs:= .inl (.inl h)
theorem Inv.list (I:Inv X pins σ H s) (h:av X.K H a xs):∃its:List Value,Vals xs its∧PlainL s.heap a its.toArray∧xs.length≤sizeLine:=by
 rcases h with h | ⟨o,its,n,hk,hc,hd,hs,hz,r⟩
 · obtain ⟨z,its,n,r,e⟩:=h.ok I.hok
   exact ⟨its,r,⟨_,n,e,rfl,rfl,rfl⟩,z⟩
 · refine ⟨its.toList,r,⟨o,n,I.f7 a o hk,hc,hd,by simpa using hs⟩,?_⟩
   have e:=r.length
   simp only [Array.length_toList] at e
   omega
theorem Inv.tuple (I:Inv X pins σ H s) (h:cA X.K H a xs):∃its:List Value,Vals xs its∧IsTup s.heap a its.toArray∧xs.length≤sizeLine:=by
 rcases h with h | ⟨o,its,n,hk,hc,hs,hz,r⟩
 · obtain ⟨z,its,r,p⟩:=h.ok I.hok
   exact ⟨its,r,p,z⟩
 · refine ⟨its.toList,r,⟨o,I.f7 a o hk,hc,n,by simpa using hs⟩,?_⟩
   have e:=r.length
   simp only [Array.length_toList] at e
   omega
theorem Inv.Hw (I:Inv X pins σ H s) (h:av X.K H a xs) (h':av X.K H a ys):xs = ys:=by
 obtain ⟨its,r,⟨o,n,e,_,_,d⟩,_⟩:=I.list h
 obtain ⟨its',r',⟨o',n',e',_,_,d'⟩,_⟩:=I.list h'
 rw [e] at e';cases e'
 rw [d] at d'
 injection d' with d1 _
 have:its = its':=by simpa using congrArg Array.toList d1
 subst this
 exact r.inj r'
end
abbrev Cx.nP (X:Cx) (E:Value→Shared→Prop):Cx:={ X with xe:=E }
abbrev Cx.Al (X:Cx):Cx:=X.nP fun _ _=>False
theorem Cx.Ok.nP {X:Cx} (ok:X.Ok) (E:Value→Shared→Prop):(X.nP E).Ok:=
 ⟨ok.mod,ok.kind,ok.glob,ok.blt,ok.above,ok.inj,ok.has,ok.dN,ok.hd,ok.frames,ok.stk,ok.C9,ok.bs,ok.yd,ok.Af,ok.w_,ok.kG,ok.Ag⟩
theorem Cx.Ok.kq {X:Cx} {E:Value→Shared→Prop} (ok:(X.nP E).Ok):X.Ok:=
 ⟨ok.mod,ok.kind,ok.glob,ok.blt,ok.above,ok.inj,ok.has,ok.dN,ok.hd,ok.frames,ok.stk,ok.C9,ok.bs,ok.yd,ok.Af,ok.w_,ok.kG,ok.Ag⟩
section
variable {X:Cx} {pins:List (Addr × Obj)} {σ:St} {H:Hp} {s:Shared} {E:Value→Shared→Prop}
theorem Inv.nP (I:Inv X pins σ H s) (E:Value→Shared→Prop):Inv (X.nP E) pins σ H s:=⟨I.ok.nP E,I.os,I.bare,I.base,I.loc,I.cell,I.free,I.iD,I.pin,I.hok,I.len⟩
theorem Inv.kq (I:Inv (X.nP E) pins σ H s):Inv X pins σ H s:=⟨I.ok.kq,I.os,I.bare,I.base,I.loc,I.cell,I.free,I.iD,I.pin,I.hok,I.len⟩
theorem SP.kq {D:Ends} {f:Flow} {s':Shared} (h:SP (X.nP E) pins D f s'):SP X pins D f s':=by
 cases f with
 | next=>obtain ⟨σ',H',I,q⟩:=h;exact ⟨σ',H',I.kq,q⟩
 | brk=>obtain ⟨σ',H',I,q⟩:=h;exact ⟨σ',H',I.kq,q⟩
 | cont=>obtain ⟨σ',H',I,q⟩:=h;exact ⟨σ',H',I.kq,q⟩
 | ret u=>obtain ⟨v,σ',H',I,r,q⟩:=h;exact ⟨v,σ',H',I.kq,r,q⟩
theorem jK.Al {st:List Stmt} {t:TS} (h:jK X.Al st t):jK X st t:=fun pins s σ H D I hw=>
 wpAny_mono (h pins s σ H D (I.nP _) hw) (fun _ _ q=>q.kq) fun _ _ z=>False.elim z
end
section
variable {X:Cx} {st:Stmt} {rest:List Stmt} {t u:TS} {e:Expr} {te:TE} {pos:Pos}
def NI:TS:=fun D σ H=>D.nx σ H
def xg (t u:TS):TS:=fun D σ H=>t { D with nx:=u D } σ H
theorem aQ:jK X [] NI:=fun _ _ σ H _ I h=>wpAny_execs_nil ⟨σ,H,I,h⟩
theorem ah (h1:PS X st t) (h2:jK X rest u):jK X (st :: rest) (xg t u):=by
 intro pins s σ H D I h
 refine wpAny_execs_cons (aP (h1 pins s σ H { D with nx:=u D } I h) fun f s1 q=>?_)
 cases f with
 | next=>
   obtain ⟨σ',H',I',q⟩:=q
   exact h2 pins s1 σ' H' D I' q
 | ret v=>exact q
 | brk=>exact q
 | cont=>exact q
theorem aq (h1:PS X st t):jK X [st] t:=by
 intro pins s σ H D I h
 refine wpAny_execs_cons (aP (h1 pins s σ H D I h) fun f s1 q=>?_)
 cases f with
 | next=>exact wpAny_execs_nil q
 | ret v=>exact q
 | brk=>exact q
 | cont=>exact q
theorem Inv.quiet {pins:List (Addr × Obj)} {σ:St} {H:Hp} {s:Shared} (I:Inv X pins σ H s):interactive X.env = false:=by simp [interactive,I.ok.kind]
def NJ (te:TE):TS:=fun D σ H=>te σ H fun _ H1=>D.nx σ H1
theorem bZ (he:PE X e te) (hs:swapsWith e none pos.line X.env = pure false:=by rfl):PS X (.Expr e pos) (NJ te):=by
 intro pins s σ H D I h
 exact wpAny_Expr_any (aP (he pins s σ H _ I h) fun v s1 ⟨x,H1,I1,r1,q1⟩=>⟨σ,H1,I1,q1⟩) I.quiet hs
def QJ (te:TE):TS:=fun D σ H=>te σ H D.rt
theorem aN (he:PE X e te):PS X (.Return (some e) pos) (QJ te):=by
 intro pins s σ H D I h
 exact wpAny_Return_some (aP (he pins s σ H _ I h) fun v s1 ⟨x,H1,I1,r1,q1⟩=>⟨x,σ,H1,I1,r1,q1⟩)
def QK (c:TT) (t u:TS):TS:=fun D σ H=>c σ H fun b H1=>if b = true then t D σ H1 else u D σ H1
theorem bM {c:Expr} {a b:List Stmt} {tc:TT} (hc:PT X c tc) (ha:jK X a t) (hb:jK X b u):PS X (.If c a b pos) (QK tc t u):=by
 intro pins s σ H D I h
 refine wpAny_If (aP (hc pins s σ H _ I h) fun d s1 ⟨H1,I1,q1⟩=>?_)
 cases d with
 | true=>exact ha pins s1 σ H1 D I1 q1
 | false=>exact hb pins s1 σ H1 D I1 q1
def Lf:TS:=fun _ _ _=>False
theorem dX:PS X st Lf:=fun _ _ _ _ _ _ h=>h.elim
end
abbrev TG:=V→St→Hp→(St→Hp→Prop)→Prop
abbrev vc:=List V→St→Hp→(St→Hp→Prop)→Prop
def PG (X:Cx) (target:Expr) (t:TG):Prop:=
 ∀(pins:List (Addr × Obj)) (s:Shared) (σ:St) (H:Hp) (v:V) (u:Value) (Q:St→Hp→Prop),Inv X pins σ H s→RelV v u→t v σ H Q→
  wpAny (model X.prog X.w) X.A (assign target X.env u) (fun _ s'=>∃σ' H',Inv X pins σ' H' s'∧Q σ' H') X.xe s
def E3 (X:Cx) (ts:List Expr) (t:vc):Prop:=
 ∀(pins:List (Addr × Obj)) (s:Shared) (σ:St) (H:Hp) (vs:List V) (us:List Value) (Q:St→Hp→Prop),Inv X pins σ H s→Vals vs us→t vs σ H Q→
  wpAny (model X.prog X.w) X.A (assignInOrder ((assignEach ts X.env).map (·.2)) us) (fun _ s'=>∃σ' H',Inv X pins σ' H' s'∧Q σ' H') X.xe s
abbrev Hx:=V→V→V→Hp→(Hp→Prop)→Prop
def Lg (X:Cx) (t:Hx):Prop:=
 ∀(pins:List (Addr × Obj)) (s:Shared) (σ:St) (H:Hp) (o i v:V) (ov iv u:Value) (Q:Hp→Prop),Inv X pins σ H s→RelV o ov→RelV i iv→RelV v u→t o i v H Q→
  wpAny (model X.prog X.w) X.A (setItem ov iv u) (fun _ s'=>∃H',Inv X pins σ H' s'∧Q H') X.xe s
section
variable {X:Cx} {pos:Pos}
def iE (i:Nat):TG:=fun v σ H Q=>Q (σ.set i (some v)) H
theorem aG {i:Nat} {x:Str} (hN:X.N.Nodup) (hi:X.N[i]? = some x) (hx:Loc X.env.scope x) (hf:X.fn x = true∨X.env.scope.names.lookup x = some .local:=by first | exact .inl rfl | exact .inr rfl | assumption):PG X (.Name x pos) (iE i):=by
 intro pins s σ H v u Q I r h
 exact wpAny_assign_Name (pe I hN hi hx r (fun s' I'=>⟨_,H,I',h⟩) hf)
def Lh:vc:=fun vs σ H Q=>vs = []∧Q σ H
def Jc (t:TG) (u:vc):vc:=fun vs σ H Q=>∃v r,vs = v :: r∧t v σ H fun σ' H'=>u r σ' H' Q
theorem eX:E3 X [] Lh:=by
 intro pins s σ H vs us Q I r h
 obtain ⟨e,h⟩:=h
 subst e
 cases r
 exact assignInOrder_nil ⟨σ,H,I,h⟩
theorem bG {e:Expr} {es:List Expr} {t:TG} {u:vc} (h1:PG X e t) (h2:E3 X es u)
  (hs:(assignEach (e :: es) X.env).map (·.2) = assign e X.env :: (assignEach es X.env).map (·.2):=by rfl):E3 X (e :: es) (Jc t u):=by
 intro pins s σ H vs us Q I r h
 obtain ⟨v,vr,e1,h⟩:=h
 subst e1
 cases r with
 | cons r rr=>
   rw [hs]
   refine assignInOrder_cons (aP (h1 pins s σ H _ _ _ I r h) fun _ s1 ⟨σ1,H1,I1,q1⟩=>?_)
   exact h2 pins s1 σ1 H1 _ _ Q I1 rr q1
def uu (K:PySem.W.Frag) (n:Nat) (t:vc):TG:=fun v σ H Q=>∃a xs,v = .ref a∧cA K H a xs∧xs.length = n∧t xs σ H Q
theorem Li {es:List Expr} {k:Nat} {t:vc} {n:Nat} (hc:X.calm = true) (h:E3 X es t)
  (hn:(assignEach es X.env).length = n:=by rfl) (hst:(assignEach es X.env).findIdx? (·.1) = none:=by rfl):PG X (.Tuple es k pos) (uu X.K n t):=by
 intro pins s σ H v u Q I r hw
 obtain ⟨a,xs,e1,hq,hl,hw⟩:=hw
 subst e1
 cases r
 obtain ⟨its,rv,ht,hz⟩:=I.tuple hq
 refine assign_Tuple_tuple (I.ok.hd hc) ht (by simp [hn,← hl,rv.length]) hst fun h' hx=>?_
 have I1:Inv X pins σ H { s with heap:=h' }:=I.kept (t':=s.toks) fun b o e=>hx b o (Nat.ne_of_lt (Heap.lt_size e)) e
 exact h pins _ σ H xs _ Q I1 (by simpa using rv) hw
def QL (to ti:TE) (t:Hx):TG:=fun v σ H Q=>to σ H fun o H1=>ti σ H1 fun i H2=>t o i v H2 fun H3=>Q σ H3
theorem oB {o i:Expr} {to ti:TE} {t:Hx} (ho:PE X o to) (hi:PE X i ti) (hs:Lg X t)
  (ha:∀v,assign (.Subscript o i pos) X.env v = (do
    let ov ← holding [v] (eval o X.env)
    let iv ← holding [v,ov] (eval i X.env)
    standAt pos
    holding [v,ov,iv] (setItem ov iv v)
    release [v,ov,iv] []):=by intro _;rfl):PG X (.Subscript o i pos) (QL to ti t):=by
 intro pins s σ H v u Q I r h
 rw [ha]
 refine wpAny_bind (wpAny_holding (aP (ho pins s σ H _ I h) fun ov s1 ⟨x,H1,I1,r1,q1⟩=>?_))
 refine wpAny_bind (wpAny_holding (aP (hi pins s1 σ H1 _ I1 q1) fun iv s2 ⟨y,H2,I2,r2,q2⟩=>?_))
 refine wpAny_bind (wpAny_standAt (wpAny_bind (wpAny_holding (aP (hs pins s2 σ H2 x y v ov iv u _ I2 r1 r2 r q2) fun _ s3 ⟨H3,I3,q3⟩=>?_))))
 exact wpAny_release ⟨σ,H3,I3,q3⟩
def D_ (te:TE) (g:TG):TS:=fun D σ H=>te σ H fun x H1=>g x σ H1 D.nx
theorem oE {tg e:Expr} {te:TE} {g:TG} (he:PE X e te) (hg:PG X tg g) (hs:swapsWithSole [tg] e pos.line X.env = pure false:=by rfl) (hw:swappedStores [tg] e X.env = pure none:=by rfl)
  (h1:(assignEach [tg] X.env).map (·.2) = [assign tg X.env] :=by rfl):PS X (.Assign [tg] e pos) (D_ te g):=by
 intro pins s σ H D I h
 refine wpAny_Assign_stores (aP (he pins s σ H _ I h) fun v s1 ⟨x,H1,I1,r1,q1⟩=>?_) hs hw
 rw [h1]
 exact aP (hg pins s1 σ H1 x v _ I1 r1 q1) fun _ s2 q=>q
theorem aF {i:Nat} {x:Str} {e:Expr} {te:TE} {pos':Pos} (hN:X.N.Nodup) (hi:X.N[i]? = some x) (hx:Loc X.env.scope x) (he:PE X e te) (hs:swapsWith e (some (.Name x pos')) pos.line X.env = pure false:=by rfl) (hf:X.fn x = true∨X.env.scope.names.lookup x = some .local:=by first | exact .inl rfl | exact .inr rfl | assumption):
  PS X (.Assign [.Name x pos'] e pos) (D_ te (iE i)):=by
 intro pins s σ H D I h
 refine wpAny_Assign_Name (aP (he pins s σ H _ I h) fun v s1 ⟨y,H1,I1,r1,q1⟩=>?_) hs
 exact pe I1 hN hi hx r1 (fun s2 I2=>⟨_,H1,I2,q1⟩) hf
def QM (i j:Nat) (ta:TA):TS:=fun D σ H=>ta σ H fun vs H1=>∃v w,vs = [v,w]∧D.nx ((σ.set i (some v)).set j (some w)) H1
theorem E4 {i j:Nat} {x y:Str} {a b:Expr} {ta:TA} {px py pt:Pos} {kt k2 Lj} (hc:X.calm = true) (hN:X.N.Nodup) (hi:X.N[i]? = some x) (hj:X.N[j]? = some y) (hij:i ≠ j)
  (hx:X.env.scope.names.lookup x = some .local) (hy:X.env.scope.names.lookup y = some .local) (ha:PA X [a,b] ta)
  (hw:swappedStores [.Tuple [.Name x px, .Name y py] kt pt] (.Tuple [a,b] k2 Lj) X.env = pure (some [x,y]))
  (hs:swapsWithSole [.Tuple [.Name x px, .Name y py] kt pt] (.Tuple [a,b] k2 Lj) pos.line X.env = pure false:=by rfl):
  PS X (.Assign [.Tuple [.Name x px, .Name y py] kt pt] (.Tuple [a,b] k2 Lj) pos) (QM i j ta):=by
 intro pins s σ H D I h
 rw [exec_Assign_arm]
 refine wpAny_bind (wpAny_standAt ?_)
 rw [hs]
 refine wpAny_bind (wpAny_pure ?_)
 rw [if_neg (by decide)]
 refine wpAny_bind (Tuple_ (aP (ha _ pins s σ H _ I h) fun us s1 ⟨vs,H1,I1,r1,q1⟩=>?_))
 obtain ⟨v,w,e1,q1⟩:=q1
 subst e1
 obtain ⟨u1,u2,rfl,rv,rw'⟩:∃u1 u2,us = [u1,u2]∧RelV v u1∧RelV w u2:=by
  cases r1 with
  | cons p q=>
    cases q with
    | cons p' q'=>
      cases q'
      exact ⟨_,_,rfl,p,p'⟩
 refine wpAny_newObj_type ?_ (by show 2≤sizeLine;decide)
 have I2:Inv X pins σ H1 { s1 with heap:=s1.heap.push { cls:= .type "tuple",data:= .seq [u1,u2].toArray } }:=I1.kept (t':=s1.toks) fun b o e=>Heap.get?_push_of_some _ e
 rw [hw]
 refine wpAny_bind (wpAny_pure ?_)
 show wpAny (model X.prog X.w) X.A (do rule "assign.swapped-stores";let items ← unpackItems (.ref s1.heap.objs.size) 2 none;assignInOrder [fun v=>bindName X.env y v,fun v=>bindName X.env x v] items.reverse;pure Flow.next) _ _ _
 refine wpAny_bind (wpAny_rule (wpAny_bind (unpackItems_tuple (items:=#[u1,u2]) (I.ok.hd hc) (IsTup.new s1.heap _) fun h' hx'=>?_)))
 have I3:=I2.kept (h':=h') (t':=s1.toks) fun b o e=>hx' b o (Nat.ne_of_lt (Heap.lt_size e)) e
 show wpAny _ _ (assignInOrder [fun v=>bindName X.env y v,fun v=>bindName X.env x v] [u2,u1] >>= fun _=>pure Flow.next) _ _ _
 refine wpAny_bind (assignInOrder_cons (wpAny_bindName (pe I3 hN hj (.inl hy) rw' (fun s2 I4=>?_) (.inr hy))))
 refine assignInOrder_cons (wpAny_bindName (pe I4 hN hi (.inl hx) rv (fun s3 I5=>assignInOrder_nil (wpAny_pure ?_)) (.inr hx)))
 rw [List.set_comm _ _ (Ne.symm hij)] at I5
 exact ⟨_,H1,I5,q1⟩
end
section
variable {X:Cx} {pos:Pos}
def Lk (c:TT) (tb:TS):TS:=fun D σ H=>∃W:Nat→St→Hp→Prop,(∃m,W m σ H)∧∀m σ H,W m σ H→
 c σ H fun b H1=>if b = true then ∃N:St→Hp→Prop,(∀σ' H',N σ' H'→∃m',m' < m∧W m' σ' H')∧tb { D with nx:=N,ct:=N,bk:=D.nx } σ H1 else D.nx σ H1
theorem uw {c:Expr} {body:List Stmt} {tc:TT} {tb:TS} (hp:PassesOwn (model X.prog X.w) X.A X.env X.xe) (hc:PT X c tc) (hb:jK X body tb):PS X (.While c body [] pos) (Lk tc tb):=by
 intro pins s σ H D I h
 obtain ⟨W,⟨m0,w0⟩,turn⟩:=h
 refine wpAny_While (codeAny_whileLoop (fun n s'=>∃σ' H',Inv X pins σ' H' s'∧W n σ' H') ?_ m0 ⟨σ,H,I,w0⟩)
 rintro n s1 ⟨σ1,H1,I1,w1⟩
 refine wpAny_passesOwn hp (aP (hc pins s1 σ1 H1 _ I1 (turn n σ1 H1 w1)) fun b s2 ⟨H2,I2,q2⟩=>?_)
 cases b with
 | true=>
   obtain ⟨N,hN,q2⟩:=q2
   rw [if_pos rfl]
   refine wpAny_passesOwn hp (aP (hb pins s2 σ1 H2 _ I2 q2) fun f s3 q3=>?_)
   cases f with
   | next=>
     obtain ⟨σ3,H3,I3,n3⟩:=q3
     obtain ⟨m',hm,w3⟩:=hN σ3 H3 n3
     exact ⟨m',hm,σ3,H3,I3,w3⟩
   | cont=>
     obtain ⟨σ3,H3,I3,n3⟩:=q3
     obtain ⟨m',hm,w3⟩:=hN σ3 H3 n3
     exact ⟨m',hm,σ3,H3,I3,w3⟩
   | brk=>exact q3
   | ret v=>exact q3
 | false=>
   rw [if_neg Bool.false_ne_true]
   exact wpAny_execs_nil ⟨σ1,H2,I2,q2⟩
end
structure It where
 go:Nat→Hp→Prop
 p5:Nat→Hp→V→Hp→Prop
 stop:Nat→Hp→Prop
def jf (X:Cx) (pins:List (Addr × Obj)) (H:Hp) (b:Addr):Prop:=
 H b = none∧b ≠ X.env.locals∧b ∉ X.fs∧(b∈X.ex∨X.s₀.heap.objs.size≤b)∧(∀x c,X.env.cells.lookup x = some c→c ≠ b)∧∀p∈X.pn ++ pins,p.1 ≠ b
theorem Inv.xh {X:Cx} {pins:List (Addr × Obj)} {σ:St} {H H':Hp} {s:Shared} {b:Addr} (I:Inv X pins σ H s) (hb:s.heap.objs.size≤b) (hn:H' b = none):jf X pins H' b:=by
 refine ⟨hn,Nat.ne_of_gt (Nat.lt_of_lt_of_le I.lt hb),I.QD hb, .inr (Nat.le_trans I.sz hb),fun x c e z=>?_,fun p hp z=>?_⟩
 · obtain ⟨v,q⟩:=I.cell x c e
   exact absurd (Nat.lt_of_lt_of_le q.lt (by rw [z];exact hb)) (Nat.lt_irrefl _)
 · exact absurd (Nat.lt_of_lt_of_le (Heap.lt_size (I.pin p hp).1) (by rw [z];exact hb)) (Nat.lt_irrefl _)
structure Turn (P:Program) (w:World) (K:PySem.W.Frag) (tg:Expr) (J:It) (fp:List Addr) (it:Addr) (tn:Nat→Heap→Prop):Prop where
 mem:it∈fp
 obj:∀i h,tn i h→∀b∈fp,∃o,h.get? b = some o∧∀v,o.data ≠ .cell v
 keep:∀i h h',tn i h→(∀b∈fp,∀o,h.get? b = some o→h'.get? b = some o)→tn i h'
 item:∀(X:Cx),X.prog = P→X.w = w→X.K = K→X.calm = true→∀(i:Nat) (pins:List (Addr × Obj)) (s:Shared) (σ:St) (H:Hp) (E:Value→Shared→Prop),Inv X pins σ H s→(∀b∈fp,jf X pins H b)→tn i s.heap→J.go i H→
  wpAny (model P w) X.A (pyNext (.ref it)) (fun r s1=>∃u,r = some u∧
   wpAny (model P w) X.A (letOwnedTupleGo tg (.ref it) u) (fun _ s2=>∃x H',Inv X pins σ H' s2∧RelV x u∧J.p5 i H x H'∧tn (i + 1) s2.heap∧∀b∈fp,H' b = none) E s1) E s
 done:∀(X:Cx),X.prog = P→X.w = w→X.K = K→X.calm = true→∀(i:Nat) (pins:List (Addr × Obj)) (s:Shared) (σ:St) (H:Hp) (E:Value→Shared→Prop),Inv X pins σ H s→(∀b∈fp,jf X pins H b)→tn i s.heap→J.stop i H→
  wpAny (model P w) X.A (pyNext (.ref it)) (fun r s1=>r = none∧Inv X pins σ H s1) E s
 self:∀(A:Around) (i:Nat) (s:Shared) (Q:Value→Shared→Prop) (E:Value→Shared→Prop),tn i s.heap→Q (.ref it) s→wpAny (model P w) A (pyIter (.ref it)) Q E s
abbrev TI:=St→Hp→(It→Hp→Prop)→Prop
def Of (X:Cx) (pins:List (Addr × Obj)) (σ:St) (tg:Expr) (R:It→Hp→Prop) (itv:Value) (s2:Shared):Prop:=
 ∃(it:Addr) (fp:List Addr) (tn:Nat→Heap→Prop) (J:It) (H':Hp),itv = .ref it∧Inv X pins σ H' s2∧Turn X.prog X.w X.K tg J fp it tn∧tn 0 s2.heap∧(∀b∈fp,jf X pins H' b)∧R J H'
def PI (X:Cx) (tg iter:Expr) (wi:TI):Prop:=
 ∀(pins:List (Addr × Obj)) (s:Shared) (σ:St) (H:Hp) (R:It→Hp→Prop),Inv X pins σ H s→wi σ H R→
  wpAny (model X.prog X.w) X.A (eval iter X.env) (fun v s1=>wpAny (model X.prog X.w) X.A (pyIter v) (Of X pins σ tg R) X.xe s1) X.xe s
theorem vd {M:Model} {A:Around} {E:Value→Shared→Prop} {s:Shared} {tg:Expr} {it:Addr} {u:Value} {o:Obj} {n:String} {vs:Array Value} {Q:Unit→Shared→Prop} (ho:s.heap.get? it = some o) (hc:o.cls = .type n) (hd:o.data = .fields vs)
  (hn:["enumerate","zip","dict_itemiterator","dict_reverseitemiterator","odict_iterator","itertools.zip_longest","itertools.pairwise"].contains n = false) (hQ:Q () s):wpAny M A (letOwnedTupleGo tg (.ref it) u) Q E s:=by
 unfold letOwnedTupleGo
 cases tg <;> first
  | exact wpAny_pure hQ
  | (cases u <;> first
      | exact wpAny_pure hQ
      | (refine wpAny_bind (wpAny_load ho ?_)
         rw [hc,hd]
         show wpAny M A (if (["enumerate","zip","dict_itemiterator","dict_reverseitemiterator","odict_iterator","itertools.zip_longest","itertools.pairwise"].contains n && vs[0]? == some (rawInt _)) = true then _ else _) Q E s
         rw [if_neg (by intro h;rw [hn,Bool.false_and] at h;cases h)]
         exact wpAny_pure hQ))
def nj (K:PySem.W.Frag) (a:Addr):It:=
 ⟨fun i H=>∃xs x,av K H a xs∧xs[i]? = some x,fun i H x H'=>H' = H∧∀xs,av K H a xs→xs[i]? = some x,fun i H=>∃xs,av K H a xs∧xs.length≤i⟩
def ve (lo:Int) (n:Nat):It:=⟨fun i _=>i < n,fun i H x H'=>H' = H∧x = .int (lo + i),fun i _=>n≤i⟩
theorem E5 {P:Program} {w:World} {K:PySem.W.Frag} {tg:Expr} (a it:Addr):Turn P w K tg (nj K a) [it] it (fun i h=>h.IsListIter it a i) where
 mem:=by simp
 obj:=fun i h st b hb=>by
  have e:b = it:=by simpa using hb
  subst e
  obtain ⟨o,e,c,d⟩:=st
  exact ⟨o,e,fun v z=>by rw [d] at z;cases z⟩
 keep:=fun i h h' st k=>st.at fun o e=>k it (by simp) o e
 item:=by
  intro X hP hw hK hc i pins s σ H E I hf st hg
  subst hP hw hK
  obtain ⟨xs,x,hq,hx⟩:=hg
  obtain ⟨its,rv,p,hz⟩:=I.list hq
  obtain ⟨u,hu,ru⟩:=rv.get hx
  obtain ⟨f0,f1,f2,f3,f4,f5⟩:=hf it (by simp)
  refine wpAny_pyNext_list_item st p.isList (x:=u) (by simpa using hu) fun h' st' sb=>?_
  have I1:Inv X pins σ H { s with heap:=h' }:=I.turned (t':=s.toks) (fun b o hb e=>(sb.2 b hb).trans e) f0 f1 f3 f4 f5
  obtain ⟨o,e,c,d⟩:=id st'
  exact ⟨u,rfl,vd (s:={ s with heap:=h' }) e c d (by decide) ⟨x,H,I1,ru,⟨rfl,fun ys hy=>by rw [I.Hw hy hq];exact hx⟩,st',fun b hb=>(hf b hb).1⟩⟩
 done:=by
  intro X hP hw hK hc i pins s σ H E I hf st hg
  subst hP hw hK
  obtain ⟨xs,hq,hx⟩:=hg
  obtain ⟨its,rv,p,hz⟩:=I.list hq
  obtain ⟨f0,f1,f2,f3,f4,f5⟩:=hf it (by simp)
  have hl:=rv.length
  exact wpAny_pyNext_list_end (I.ok.hd hc) st p.isList (by simp;omega) fun h' eb=>⟨rfl,I.turned (t':=s.toks) (fun b o hb e=>eb b o hb e) f0 f1 f3 f4 f5⟩
 self:=fun _ _ _ _ _ st h=>wpAny_pyIter_listiter st h
theorem Ea {P:Program} {w:World} {K:PySem.W.Frag} {tg:Expr} (it:Addr) (lo:Int) (n:Nat):Turn P w K tg (ve lo n) [it] it (fun i h=>IsRangeIter h it (lo + (i:Nat) * 1) ((n:Int) - (i:Nat)) 1) where
 mem:=by simp
 obj:=fun i h st b hb=>by
  have e:b = it:=by simpa using hb
  subst e
  exact ⟨_,st,fun v z=>by
   have z':Data.fields _ = Data.cell v:=z
   cases z'⟩
 keep:=fun i h h' st k=>k it (by simp) _ st
 item:=by
  intro X hP hw hK hc i pins s σ H E I hf st hg
  subst hP hw hK
  obtain ⟨f0,f1,f2,f3,f4,f5⟩:=hf it (by simp)
  have W:=Walks.range (prog:=X.prog) (w:=X.w) (I.ok.hd hc) it lo 1 n
  refine W.item i s _ _ hg st fun v h' tk hv st' kk=>?_
  obtain ⟨t,rfl⟩:=hv
  have I1:Inv X pins σ H { s with heap:=h',toks:=tk }:=I.turned (fun b o hb e=>kk b o (by simpa using hb) e) f0 f1 f3 f4 f5
  refine ⟨_,rfl,vd (s:={ s with heap:=h',toks:=tk }) (n:="range_iterator") st' rfl rfl (by decide) ⟨.int (lo + i),H,I1,⟨t,?_⟩,⟨rfl,rfl⟩,st',fun b hb=>(hf b hb).1⟩⟩
  rw [Int.mul_one]
 done:=by
  intro X hP hw hK hc i pins s σ H E I hf st hg
  subst hP hw hK
  obtain ⟨f0,f1,f2,f3,f4,f5⟩:=hf it (by simp)
  exact wpAny_pyNext_range_end (I.ok.hd hc) st (by have:n≤i:=hg;omega) fun h' eb=>⟨rfl,I.turned (t':=s.toks) (fun b o hb e=>eb b o hb e) f0 f1 f3 f4 f5⟩
 self:=fun _ _ _ _ _ st h=>wpAny_pyIter_rangeiter st h
end L2
namespace L2
open PySem PySem.Spec PyProof.Rows
section
variable {X:Cx} {tg:Expr}
def Jd (K:PySem.W.Frag) (tl:TE):TI:=fun σ H R=>tl σ H fun x H1=>∃a,x = .ref a∧(∃xs,av K H1 a xs)∧R (nj K a) H1
theorem J9 {l:Expr} {tl:TE} (hl:PE X l tl):PI X tg l (Jd X.K tl):=by
 intro pins s σ H R I h
 refine aP (hl pins s σ H _ I h) fun v s1 ⟨x,H1,I1,r1,q1⟩=>?_
 obtain ⟨a,e,⟨xs,hq⟩,q⟩:=q1
 subst e
 cases r1
 obtain ⟨its,rv,p,hz⟩:=I1.list hq
 refine wpAny_pyIter_list p.isList ?_
 refine ⟨s1.heap.objs.size,[s1.heap.objs.size],_,_,H1,rfl,I1.kept (t':=s1.toks) fun b o e=>Heap.get?_push_of_some _ e,E5 a _,⟨_,Heap.get?_push_size _ rfl,rfl,rfl⟩,fun b hb=>?_,q⟩
 have e:b = s1.heap.objs.size:=by simpa using hb
 subst e
 exact I1.xh (Nat.le_refl _) (I1.hok.fresh (Nat.le_refl _))
theorem Hy {pins:List (Addr × Obj)} {σ:St} {H:Hp} {s:Shared} {R:It→Hp→Prop} {E:Value→Shared→Prop} {lo hi:Int} {t u v:Tok} {tk:Nat} (I:Inv X pins σ H s) (h1:-(2 ^ 62)≤lo) (h2:lo < 2 ^ 62) (h3:-(2 ^ 62)≤hi) (h4:hi < 2 ^ 62)
  (q:R (ve lo (hi - lo).toNat) H):wpAny (model X.prog X.w) X.A (pyIter (.ref s.heap.objs.size)) (Of X pins σ tg R) E { s with heap:=s.heap.push { cls:= .type "range",data:= .fields #[.int lo t, .int hi u, .int 1 v] },toks:=tk }:=by
 refine wpAny_pyIter_range (IsRange.new ..) (small_one h1 h2 h3 h4) ?_
 have I1:Inv X pins σ H { s with heap:=s.heap.push { cls:= .type "range",data:= .fields #[.int lo t, .int hi u, .int 1 v] },toks:=tk }:=I.kept fun b o e=>Heap.get?_push_of_some _ e
 refine ⟨(s.heap.push { cls:= .type "range",data:= .fields #[.int lo t, .int hi u, .int 1 v] }).objs.size,[(s.heap.push { cls:= .type "range",data:= .fields #[.int lo t, .int hi u, .int 1 v] }).objs.size],_,_,H,rfl,
  I1.kept (t':=tk) fun b o e=>Heap.get?_push_of_some _ e,Ea _ lo (hi - lo).toNat,?_,fun b hb=>?_,q⟩
 · have e1:lo + ((0:Nat):Int) * 1 = lo:=by simp
   have e2:(((hi - lo).toNat:Nat):Int) - ((0:Nat):Int) = Builtin.Range.rangeSize lo hi 1:=by rw [rangeSize_one];split <;> omega
   show IsRangeIter _ _ (lo + ((0:Nat):Int) * 1) ((((hi - lo).toNat:Nat):Int) - ((0:Nat):Int)) 1
   rw [e1,e2]
   exact Heap.get?_push_size _ rfl
 · have e:b = (s.heap.push { cls:= .type "range",data:= .fields #[.int lo t, .int hi u, .int 1 v] }).objs.size:=by simpa using hb
   subst e
   exact I1.xh (Nat.le_refl _) (I1.hok.fresh (Nat.le_refl _))
def NK (ta:TA):TI:=fun σ H R=>ta σ H fun vs H1=>∃j:Int,vs = [.int j]∧-(2 ^ 62)≤j∧j < 2 ^ 62∧R (ve 0 j.toNat) H1
theorem cE {a:Expr} {ta:TA} {p pos:Pos} (hg:Gl X "range") (hm:X.mg "range" = none) (ha:PA X [a] ta) (hs:starEach [a] X.env = [(false,eval a X.env)] :=by rfl):PI X tg (.Call (.Name "range" p) [a] [] pos) (NK ta):=by
 intro pins s σ H R I h
 refine Call_ (oz I hg hm boot_range (PyProof.Rows.callWith_type1 (aP (ha pos pins s σ H _ I h) fun us s1 ⟨vs,H1,I1,r1,q1⟩=>?_) hs rfl))
 obtain ⟨j,e,q1,q2,q⟩:=q1
 subst e
 cases r1 with
 | cons r rr=>
   cases rr
   obtain ⟨t,rfl⟩:=r
   exact call_range_1 (Hy I1 (by omega) (by omega) q1 q2 (by simpa using q))
def QN (wi:TI) (g:TG) (tb:TS):TS:=fun D σ H=>wi σ H fun J H1=>∃W:Nat→Nat→St→Hp→Prop,(∃m,W 0 m σ H1)∧∀i m σ H,W i m σ H→
 (J.stop i H∧D.nx σ H)∨(J.go i H∧∃N:St→Hp→Prop,(∀σ' H',N σ' H'→∃m',m' < m∧W (i + 1) m' σ' H')∧∀x H',J.p5 i H x H'→g x σ H' fun σ2 H2=>tb { D with nx:=N,ct:=N,bk:=D.nx } σ2 H2)
def vf (fp:List Addr) (h:Heap):List (Addr × Obj):=fp.filterMap fun b=>(h.get? b).map fun o=>(b,o)
theorem fk {fp:List Addr} {h:Heap} {b:Addr} {o:Obj} (hb:b∈fp) (e:h.get? b = some o):(b,o)∈vf fp h:=List.mem_filterMap.mpr ⟨b,hb,by rw [e];rfl⟩
theorem E6 {fp:List Addr} {h:Heap} {p:Addr × Obj} (hp:p∈vf fp h):p.1∈fp∧h.get? p.1 = some p.2:=by
 obtain ⟨b,hb,e⟩:=List.mem_filterMap.mp hp
 cases q:h.get? b with
 | none=>rw [q] at e;cases e
 | some o=>
   rw [q] at e
   have e':(b,o) = p:=Option.some.inj e
   subst e'
   exact ⟨hb,q⟩
theorem Inv.pinned {pins:List (Addr × Obj)} {σ:St} {H:Hp} {s:Shared} {fp:List Addr} (I:Inv X pins σ H s) (hf:∀b∈fp,jf X pins H b) (ho:∀b∈fp,∃o,s.heap.get? b = some o∧∀v,o.data ≠ .cell v):Inv X (pins ++ vf fp s.heap) σ H s:=
 I.Dc fun p hp=>(List.mem_append.mp hp).elim (fun z=>I.pin p (List.mem_append_right _ z)) fun z=>by
   obtain ⟨hb,e⟩:=E6 z
   obtain ⟨f0,f1,f2,_⟩:=hf p.1 hb
   obtain ⟨o,e',d⟩:=ho p.1 hb
   rw [e] at e';cases e'
   exact ⟨e,f0,f1,f2,d⟩
theorem Inv.jQ {pins pl:List (Addr × Obj)} {σ:St} {H:Hp} {s:Shared} (I:Inv X (pins ++ pl) σ H s):Inv X pins σ H s:=I.Dc fun p hp=>I.pin p (List.mem_append_right _ (List.mem_append_left _ hp))
theorem cC {iter:Expr} {body:List Stmt} {wi:TI} {g:TG} {tb:TS} {pos:Pos} (hp:PassesOwn (model X.prog X.w) X.A X.env X.xe) (hc:X.calm = true) (hi:PI X tg iter wi) (hg:PG X tg g) (hb:jK X body tb)
  (hs:∀x,foldedSetIterable iter X.env x = pure x:=by intro _;rfl):PS X (.For tg iter body [] pos) (QN wi g tb):=by
 intro pins s σ H D I h
 refine wpAny_For (aP (hi pins s σ H _ I h) fun v s1 h1=>aP h1 fun itv s2 h2=>?_) hs
 obtain ⟨it,fp,tn,J,H2,e,I2,T,st2,f2,W,⟨m0,w0⟩,turn⟩:=h2
 subst e
 have lQ:∀{H':Hp},(∀b∈fp,H' b = none)→∀b∈fp,jf X pins H' b:=fun hn b hb=>⟨hn b hb,(f2 b hb).2⟩
 refine codeAny_forLoop_any (fun n s'=>∃i σ' H',Inv X pins σ' H' s'∧tn i s'.heap∧(∀b∈fp,H' b = none)∧W i n σ' H') ?_ m0 ⟨0,σ,H2,I2,st2,fun b hb=>(f2 b hb).1,w0⟩
 rintro n s3 ⟨i,σ3,H3,I3,st3,Og,w3⟩
 rcases turn i n σ3 H3 w3 with ⟨stop,qn⟩ | ⟨go,N,hN,step⟩
 · refine wpAny_passesOwn hp (aP (T.done X rfl rfl rfl hc i pins s3 σ3 H3 X.xe I3 (lQ Og) st3 stop) fun r s4 ⟨hr,I4⟩=>?_)
   subst hr
   exact wpAny_execs_nil ⟨σ3,H3,I4,qn⟩
 · refine wpAny_passesOwn hp (aP (T.item X rfl rfl rfl hc i pins s3 σ3 H3 X.xe I3 (lQ Og) st3 go) fun r s4 ⟨u,hr,h4⟩=>?_)
   subst hr
   refine wpAny_passesOwn hp (aP h4 fun _ s5 ⟨x,H5,I5,r5,y5,qy,Am⟩=>?_)
   have Rv:=I5.pinned (lQ Am) (T.obj _ _ qy)
   refine wpAny_passesOwn hp (aP (hg _ s5 σ3 H5 x u _ Rv r5 (step x H5 y5)) fun _ s6 ⟨σ6,H6,I6,q6⟩=>?_)
   refine wpAny_passesOwn hp (aP (hb _ s6 σ6 H6 _ I6 q6) fun f s7 q7=>?_)
   have again:∀{σ7:St} {H7:Hp},Inv X (pins ++ vf fp s5.heap) σ7 H7 s7→N σ7 H7→∃m,m < n∧∃i σ' H',Inv X pins σ' H' s7∧tn i s7.heap∧(∀b∈fp,H' b = none)∧W i m σ' H':=fun {σ7 H7} I7 n7=>by
    obtain ⟨m',hm,w7⟩:=hN σ7 H7 n7
    refine ⟨m',hm,i + 1,σ7,H7,I7.jQ,T.keep _ _ _ qy fun b hb o e=>(I7.pin (b,o) (List.mem_append_right _ (List.mem_append_right _ (fk hb e)))).1,fun b hb=>?_,w7⟩
    obtain ⟨o,e,d⟩:=T.obj _ _ qy b hb
    exact (I7.pin (b,o) (List.mem_append_right _ (List.mem_append_right _ (fk hb e)))).2.1
   cases f with
   | next=>obtain ⟨σ7,H7,I7,n7⟩:=q7;exact again I7 n7
   | cont=>obtain ⟨σ7,H7,I7,n7⟩:=q7;exact again I7 n7
   | brk=>obtain ⟨σ7,H7,I7,q7⟩:=q7;exact ⟨σ7,H7,I7.jQ,q7⟩
   | ret v=>obtain ⟨x7,σ7,H7,I7,r7,q7⟩:=q7;exact ⟨x7,σ7,H7,I7.jQ,r7,q7⟩
end
theorem iK {K:PySem.W.Frag} {a:Addr} {xs:List V} {g:TG} {tb:TS} {D:Ends} {σ:St} {H:Hp} (Pv:Nat→St→Hp→Prop) (h0:Pv 0 σ H) (hl:∀i σ H,i≤xs.length→Pv i σ H→av K H a xs)
  (hs:∀i x σ H,xs[i]? = some x→Pv i σ H→g x σ H fun σ2 H2=>tb { D with nx:=Pv (i + 1),ct:=Pv (i + 1),bk:=D.nx } σ2 H2) (hd:∀σ H,Pv xs.length σ H→D.nx σ H):
  ∃W:Nat→Nat→St→Hp→Prop,(∃m,W 0 m σ H)∧∀i m σ H,W i m σ H→
   ((nj K a).stop i H∧D.nx σ H)∨((nj K a).go i H∧∃N:St→Hp→Prop,(∀σ' H',N σ' H'→∃m',m' < m∧W (i + 1) m' σ' H')∧∀x H',(nj K a).p5 i H x H'→g x σ H' fun σ2 H2=>tb { D with nx:=N,ct:=N,bk:=D.nx } σ2 H2):=by
 refine ⟨fun i m σ H=>m = xs.length - i∧i≤xs.length∧Pv i σ H,⟨xs.length,by simp,Nat.zero_le _,h0⟩,?_⟩
 rintro i m σ H ⟨rfl,hi,p⟩
 have q:=hl i σ H hi p
 by_cases hlt:i < xs.length
 · refine .inr ⟨⟨xs,xs[i],q,by simp [hlt]⟩,Pv (i + 1),fun σ' H' p'=>⟨xs.length - (i + 1),by omega,rfl,hlt,p'⟩,fun x H' y=>?_⟩
   obtain ⟨e,y⟩:=y
   subst e
   exact hs i x σ _ (y xs q) p
 · have e:i = xs.length:=by omega
   subst e
   exact .inl ⟨⟨xs,q,Nat.le_refl _⟩,hd σ H p⟩
theorem c9 {lo:Int} {n:Nat} {g:TG} {tb:TS} {D:Ends} {σ:St} {H:Hp} (Pv:Nat→St→Hp→Prop) (h0:Pv 0 σ H)
  (hs:∀i σ H,i < n→Pv i σ H→g (.int (lo + i)) σ H fun σ2 H2=>tb { D with nx:=Pv (i + 1),ct:=Pv (i + 1),bk:=D.nx } σ2 H2) (hd:∀σ H,Pv n σ H→D.nx σ H):
  ∃W:Nat→Nat→St→Hp→Prop,(∃m,W 0 m σ H)∧∀i m σ H,W i m σ H→
   ((ve lo n).stop i H∧D.nx σ H)∨((ve lo n).go i H∧∃N:St→Hp→Prop,(∀σ' H',N σ' H'→∃m',m' < m∧W (i + 1) m' σ' H')∧∀x H',(ve lo n).p5 i H x H'→g x σ H' fun σ2 H2=>tb { D with nx:=N,ct:=N,bk:=D.nx } σ2 H2):=by
 refine ⟨fun i m σ H=>m = n - i∧i≤n∧Pv i σ H,⟨n,by simp,Nat.zero_le _,h0⟩,?_⟩
 rintro i m σ H ⟨rfl,hi,p⟩
 by_cases hlt:i < n
 · refine .inr ⟨hlt,Pv (i + 1),fun σ' H' p'=>⟨n - (i + 1),by omega,rfl,hlt,p'⟩,fun x H' y=>?_⟩
   obtain ⟨e,y⟩:=y
   subst e y
   exact hs i σ _ hlt p
 · have e:i = n:=by omega
   subst e
   exact .inl ⟨Nat.le_refl _,hd σ H p⟩
end L2
namespace L2
open PySem PySem.Spec PyProof.Rows
abbrev R2:=V→V→Hp→VK→Prop
def eO (X:Cx) (f:Value→Value→Sem Value) (r:R2):Prop:=
 ∀(pins:List (Addr × Obj)) (s:Shared) (σ:St) (H:Hp) (x y:V) (v u:Value) (Q:VK),Inv X pins σ H s→RelV x v→RelV y u→r x y H Q→
  wpAny (model X.prog X.w) X.A (f v u) (EP X pins σ Q) X.xe s
def Ll (X:Cx) (f:Value→Sem Value) (r:V→Hp→VK→Prop):Prop:=
 ∀(pins:List (Addr × Obj)) (s:Shared) (σ:St) (H:Hp) (x:V) (v:Value) (Q:VK),Inv X pins σ H s→RelV x v→r x H Q→
  wpAny (model X.prog X.w) X.A (f v) (EP X pins σ Q) X.xe s
def dZ (X:Cx) (f:Value) (r:List V→Hp→VK→Prop):Prop:=
 ∀(pins:List (Addr × Obj)) (s:Shared) (σ:St) (H:Hp) (xs:List V) (us:List Value) (Q:VK),Inv X pins σ H s→Vals xs us→r xs H Q→
  wpAny (model X.prog X.w) X.A (call f us) (EP X pins σ Q) X.xe s
def Je (r:R2) (ta tb:TE):TE:=fun σ H Q=>ta σ H fun x H1=>tb σ H1 fun y H2=>r x y H2 Q
def Rw (r:V→Hp→VK→Prop) (ta:TE):TE:=fun σ H Q=>ta σ H fun x H1=>r x H1 Q
def rI (C:Int→Int→Prop) (g:Int→Int→V):R2:=fun x y H Q=>∃i j,x = .int i∧y = .int j∧C i j∧Q (g i j) H
def ye (g:Int→Int→V):R2:=fun x y H Q=>∃i j,x = .int i∧y = .int j∧Q (g i j) H
def rU (g:Int→V):V→Hp→VK→Prop:=fun x H Q=>∃i,x = .int i∧Q (g i) H
section
variable {X:Cx} {a b c:Expr} {ta tb tc:TE} {pos:Pos}
theorem Hz (ha:PE X a ta) (hb:PE X b tb) {pins:List (Addr × Obj)} {s:Shared} {σ:St} {H:Hp} {R:V→V→Hp→Prop} (I:Inv X pins σ H s)
  (h:ta σ H fun x H1=>tb σ H1 fun y H2=>R x y H2) {Q:Value→Shared→Prop} {f:Value→Value→Sem Value}
  (hf:∀v u s2 x y H2,Inv X pins σ H2 s2→RelV x v→RelV y u→R x y H2→wpAny (model X.prog X.w) X.A (f v u) Q X.xe s2):
  wpAny (model X.prog X.w) X.A (eval a X.env) (fun v s₁=>wpAny (model X.prog X.w) X.A (eval b X.env) (fun u s₂=>wpAny (model X.prog X.w) X.A (f v u) Q X.xe s₂) X.xe s₁) X.xe s:=by
 refine aP (ha pins s σ H _ I h) fun v s1 ⟨x,H1,I1,r1,q1⟩=>?_
 refine aP (hb pins s1 σ H1 _ I1 q1) fun u s2 ⟨y,H2,I2,r2,q2⟩=>?_
 exact hf v u s2 x y H2 I2 r1 r2 q2
theorem aB {op:Operator} {r:R2} (ho:eO X (binaryOp op) r) (ha:PE X a ta) (hb:PE X b tb):PE X (.BinOp a op b pos) (Je r ta tb):=by
 intro pins s σ H Q I h
 exact wpAny_BinOp (Hz ha hb I h fun v u s2 x y H2 I2 rx ry q=>ho pins s2 σ H2 x y v u Q I2 rx ry q)
theorem Eb {op:UnaryOp} {r:V→Hp→VK→Prop} (ho:Ll X (unaryOp op) r) (ha:PE X a ta):PE X (.UnaryOp op a pos) (Rw r ta):=by
 intro pins s σ H Q I h
 exact UnaryOp_ (aP (ha pins s σ H _ I h) fun v s1 ⟨x,H1,I1,r1,q1⟩=>ho pins s1 σ H1 x v Q I1 r1 q1)
theorem E7 {f:Value→Value→Sem Value} {C:Int→Int→Prop} {g:Int→Int→Int}
  (rule:∀(i j:Int) (t u:Tok) (s:Shared) (Q:Value→Shared→Prop) (E:Value→Shared→Prop),C i j→Q (.int (g i j) s.toks) { s with toks:=s.toks + 1 }→wpAny (model X.prog X.w) X.A (f (.int i t) (.int j u)) Q E s):
  eO X f (rI C fun i j=> .int (g i j)):=by
 intro pins s σ H x y v u Q I rx ry h
 obtain ⟨i,j,rfl,rfl,hc,q⟩:=h
 obtain ⟨t,rfl⟩:=rx
 obtain ⟨t',rfl⟩:=ry
 exact rule i j t t' s _ _ hc ⟨.int (g i j),H,I.tok _,⟨_,rfl⟩,q⟩
theorem Lm {f:Value→Value→Sem Value} {g:Int→Int→Int}
  (rule:∀(i j:Int) (t u:Tok) (s:Shared) (Q:Value→Shared→Prop) (E:Value→Shared→Prop),Q (.int (g i j) s.toks) { s with toks:=s.toks + 1 }→wpAny (model X.prog X.w) X.A (f (.int i t) (.int j u)) Q E s):
  eO X f (ye fun i j=> .int (g i j)):=by
 intro pins s σ H x y v u Q I rx ry h
 obtain ⟨i,j,rfl,rfl,q⟩:=h
 obtain ⟨t,rfl⟩:=rx
 obtain ⟨t',rfl⟩:=ry
 exact rule i j t t' s _ _ ⟨.int (g i j),H,I.tok _,⟨_,rfl⟩,q⟩
theorem Ec {f:Value→Value→Sem Value} {g:Int→Int→Bool}
  (rule:∀(i j:Int) (t u:Tok) (s:Shared) (Q:Value→Shared→Prop) (E:Value→Shared→Prop),Q (.bool (g i j)) s→wpAny (model X.prog X.w) X.A (f (.int i t) (.int j u)) Q E s):
  eO X f (ye fun i j=> .bl (g i j)):=by
 intro pins s σ H x y v u Q I rx ry h
 obtain ⟨i,j,rfl,rfl,q⟩:=h
 obtain ⟨t,rfl⟩:=rx
 obtain ⟨t',rfl⟩:=ry
 exact rule i j t t' s _ _ ⟨.bl (g i j),H,I,rfl,q⟩
def Ln (i j:Int):Prop:=0≤j∧j≤1000000∧i.natAbs < 2 ^ 64
def HB (i j:Int):Prop:=(-(2 ^ 64) < i∧i < 2 ^ 64)∨(-(2 ^ 64) < j∧j < 2 ^ 64)
theorem HB.ok {i j:Int} (h:HB i j):IntMulOk i j:=by
 rcases h with ⟨h1,h2⟩ | ⟨h1,h2⟩
 · exact .of_left (intBits_le_64 h1 h2)
 · exact .of_right (intBits_le_64 h1 h2)
theorem bP:eO X (binaryOp .Add) (ye fun i j=> .int (i + j)):=Lm fun _ _ _ _ _ _ _ q=>add_int q
theorem lR:eO X (binaryOp .Sub) (ye fun i j=> .int (i - j)):=Lm fun _ _ _ _ _ _ _ q=>sub_int q
theorem fm:eO X (binaryOp .Mult) (rI HB fun i j=> .int (i * j)):=E7 fun _ _ _ _ _ _ _ hc q=>mul_int q hc.ok
theorem fJ:eO X (binaryOp .Mod) (rI (fun _ j=>0 < j) fun i j=> .int (i % j)):=E7 fun i j _ _ _ _ _ hc q=>by
 have h1:(0:Int) < j:=hc
 exact mod_int' (by omega) (by rw [Int.fmod_eq_emod_of_nonneg i (by omega)];exact q)
theorem lS:eO X (binaryOp .Pow) (rI Ln fun i j=> .int (i ^ j.toNat)):=E7 fun _ _ _ _ _ _ _ hc q=>pow_int_small hc.1 hc.2.1 hc.2.2 q
theorem Rx {f:Value→Sem Value} {g:Int→Int}
  (rule:∀(i:Int) (t:Tok) (s:Shared) (Q:Value→Shared→Prop) (E:Value→Shared→Prop),Q (.int (g i) s.toks) { s with toks:=s.toks + 1 }→wpAny (model X.prog X.w) X.A (f (.int i t)) Q E s):
  Ll X f (rU fun i=> .int (g i)):=by
 intro pins s σ H x v Q I rx h
 obtain ⟨i,rfl,q⟩:=h
 obtain ⟨t,rfl⟩:=rx
 exact rule i t s _ _ ⟨.int (g i),H,I.tok _,⟨_,rfl⟩,q⟩
theorem An:Ll X (unaryOp .USub) (rU fun i=> .int (-i)):=Rx fun _ _ _ _ _ q=>neg_int q
end
def Lo:V→V→Bool
 | .bE, .bE=>true | .bE, .int _=>true | .int _, .bE=>true | .bE, .bl _=>true | .bl _, .bE=>true | .bE, .str _=>true | .str _, .bE=>true
 | .int _, .int _=>true | .bl _, .bl _=>true | .str _, .str _=>true | .pZ _, .pZ _=>true
 | .int _, .str _=>true | .str _, .int _=>true | .bl _, .str _=>true | .str _, .bl _=>true
 | _,_=>false
def Ry:R2:=fun x y H Q=>Lo x y = true∧Q (.bl (decide (x = y))) H
def Rz:R2:=fun x y H Q=>Lo x y = true∧Q (.bl (!decide (x = y))) H
theorem Dd {i j:Int}:decide (V.int i = V.int j) = (i == j):=by
 rw [Bool.eq_iff_iff]
 simp
theorem E8 {i j:Bool}:decide (V.bl i = V.bl j) = (i == j):=by
 rw [Bool.eq_iff_iff]
 simp
theorem De {i j:Str}:decide (V.str i = V.str j) = (i == j):=by
 rw [Bool.eq_iff_iff]
 simp
theorem Df {i j:Array UInt8}:decide (V.pZ i = V.pZ j) = (i.toList == j.toList):=by
 rw [Bool.eq_iff_iff]
 cases i
 cases j
 simp
section
variable {X:Cx} {a b c:Expr} {ta tb tc:TE} {pos:Pos}
theorem bR {pins:List (Addr × Obj)} {σ:St} {H:Hp} {s:Shared} {Q:VK} {k k':Bool} (I:Inv X pins σ H s) (q:Q (.bl k) H) (e:k = k'):EP X pins σ Q (.bool k') s:=by
 subst e
 exact ⟨.bl k,H,I,rfl,q⟩
theorem lD:eO X (compareOp .Eq) Ry:=by
 intro pins s σ H x y v u Q I rx ry h
 obtain ⟨hs,q⟩:=h
 cases x with
 | bE=>
   cases rx
   cases y with
   | bE=>cases ry;exact PySem.EqNone.eq_none_none (bR I q (by simp))
   | bl j=>cases ry;exact PySem.EqNone.eq_none_bool (bR I q (by simp))
   | int j=>obtain ⟨t',rfl⟩:=ry;exact PySem.EqNone.eq_none_int (bR I q (by simp))
   | str j=>obtain ⟨t',rfl⟩:=ry;exact PySem.EqNone.eq_none_str (bR I q (by simp))
   | _=>exact absurd (show false = true from hs) Bool.false_ne_true
 | bl i=>
   cases rx
   cases y with
   | bE=>cases ry;exact PySem.EqNone.eq_bool_none (bR I q (by simp))
   | bl j=>cases ry;exact eq_bool (bR I q E8)
   | str j=>obtain ⟨t',rfl⟩:=ry;exact PySem.EqMixed.eq_bool_str (bR I q (by simp))
   | _=>exact absurd (show false = true from hs) Bool.false_ne_true
 | int i=>
   obtain ⟨t,rfl⟩:=rx
   cases y with
   | bE=>cases ry;exact PySem.EqNone.eq_int_none (bR I q (by simp))
   | int j=>obtain ⟨t',rfl⟩:=ry;exact eq_int (bR I q Dd)
   | str j=>obtain ⟨t',rfl⟩:=ry;exact PySem.EqMixed.eq_int_str (bR I q (by simp))
   | _=>exact absurd (show false = true from hs) Bool.false_ne_true
 | str i=>
   obtain ⟨t,rfl⟩:=rx
   cases y with
   | bE=>cases ry;exact PySem.EqNone.eq_str_none (bR I q (by simp))
   | bl j=>cases ry;exact PySem.EqMixed.eq_str_bool (bR I q (by simp))
   | int j=>obtain ⟨t',rfl⟩:=ry;exact PySem.EqMixed.eq_str_int (bR I q (by simp))
   | str j=>obtain ⟨t',rfl⟩:=ry;exact eq_str (bR I q De)
   | _=>exact absurd (show false = true from hs) Bool.false_ne_true
 | pZ i=>
   obtain ⟨t,rfl⟩:=rx
   cases y with
   | pZ j=>obtain ⟨t',rfl⟩:=ry;exact PySem.W.eq_bytes (bR I q Df)
   | _=>exact absurd (show false = true from hs) Bool.false_ne_true
 | _=>cases y <;> exact absurd (show false = true from hs) Bool.false_ne_true
theorem jg:eO X (compareOp .NotEq) Rz:=by
 intro pins s σ H x y v u Q I rx ry h
 obtain ⟨hs,q⟩:=h
 cases x with
 | bE=>
   cases rx
   cases y with
   | bE=>cases ry;exact PySem.EqNone.ne_none_none (bR I q (by simp))
   | bl j=>cases ry;exact PySem.EqNone.ne_none_bool (bR I q (by simp))
   | int j=>obtain ⟨t',rfl⟩:=ry;exact PySem.EqNone.ne_none_int (bR I q (by simp))
   | str j=>obtain ⟨t',rfl⟩:=ry;exact PySem.EqNone.ne_none_str (bR I q (by simp))
   | _=>exact absurd (show false = true from hs) Bool.false_ne_true
 | bl i=>
   cases rx
   cases y with
   | bE=>cases ry;exact PySem.EqNone.ne_bool_none (bR I q (by simp))
   | bl j=>cases ry;exact ne_bool (bR I q (congrArg not E8))
   | str j=>obtain ⟨t',rfl⟩:=ry;exact PySem.EqMixed.ne_bool_str (bR I q (by simp))
   | _=>exact absurd (show false = true from hs) Bool.false_ne_true
 | int i=>
   obtain ⟨t,rfl⟩:=rx
   cases y with
   | bE=>cases ry;exact PySem.EqNone.ne_int_none (bR I q (by simp))
   | int j=>obtain ⟨t',rfl⟩:=ry;exact ne_int (bR I q (congrArg not Dd))
   | str j=>obtain ⟨t',rfl⟩:=ry;exact PySem.EqMixed.ne_int_str (bR I q (by simp))
   | _=>exact absurd (show false = true from hs) Bool.false_ne_true
 | str i=>
   obtain ⟨t,rfl⟩:=rx
   cases y with
   | bE=>cases ry;exact PySem.EqNone.ne_str_none (bR I q (by simp))
   | bl j=>cases ry;exact PySem.EqMixed.ne_str_bool (bR I q (by simp))
   | int j=>obtain ⟨t',rfl⟩:=ry;exact PySem.EqMixed.ne_str_int (bR I q (by simp))
   | str j=>obtain ⟨t',rfl⟩:=ry;exact ne_str (bR I q (congrArg not De))
   | _=>exact absurd (show false = true from hs) Bool.false_ne_true
 | pZ i=>
   obtain ⟨t,rfl⟩:=rx
   cases y with
   | pZ j=>obtain ⟨t',rfl⟩:=ry;exact PySem.W.ne_bytes (bR I q (congrArg not Df))
   | _=>exact absurd (show false = true from hs) Bool.false_ne_true
 | _=>cases y <;> exact absurd (show false = true from hs) Bool.false_ne_true
theorem Ed:eO X (compareOp .Lt) (ye fun i j=> .bl (decide (i < j))):=Ec fun _ _ _ _ _ _ _ q=>lt_int q
theorem Jf:eO X (compareOp .LtE) (ye fun i j=> .bl (decide (i≤j))):=Ec fun _ _ _ _ _ _ _ q=>le_int q
theorem gD:eO X (compareOp .Gt) (ye fun i j=> .bl (decide (j < i))):=Ec fun _ _ _ _ _ _ _ q=>gt_int q
theorem Jg:eO X (compareOp .GtE) (ye fun i j=> .bl (decide (j≤i))):=Ec fun _ _ _ _ _ _ _ q=>ge_int q
theorem E9:eO X (compareOp .In) (fun x y H Q=>∃i j,x = .str i∧y = .str j∧Q (.bl (!(Builtin.Str.occurrences j i 0 j.length 1).isEmpty)) H):=by
 intro pins s σ H x y v u Q I rx ry h
 obtain ⟨i,j,rfl,rfl,q⟩:=h
 obtain ⟨t,rfl⟩:=rx
 obtain ⟨t',rfl⟩:=ry
 exact in_str (bR I q rfl)
theorem br (b:Expr) {op:CmpOp} (h:op ≠ .In:=by decide) (h2:op ≠ .NotIn:=by decide):behindInMarks op b = false:=by
 have e1:(op == CmpOp.In) = false:=by cases op <;> first | rfl | exact absurd rfl h
 have e2:(op == CmpOp.NotIn) = false:=by cases op <;> first | rfl | exact absurd rfl h2
 cases b <;> simp [behindInMarks,e1,e2]
theorem sr {op:CmpOp} {r:R2} (ho:eO X (compareOp op) r) (ha:PE X a ta) (hb:PE X b tb) (hm:behindInMarks op b = false):PE X (.Compare a [op] [b] pos) (Je r ta tb):=by
 intro pins s σ H Q I h
 exact wpAny_Compare1 (Hz ha hb I h fun v u s2 x y H2 I2 rx ry q=>ho pins s2 σ H2 x y v u Q I2 rx ry q) hm
def NL (t:TE):TT:=fun σ H Q=>t σ H fun x H'=>∃k,x = .bl k∧Q k H'
theorem bf {op:CmpOp} {r:R2} (ho:eO X (compareOp op) r) (ha:PE X a ta) (hb:PE X b tb) (hm:behindInMarks op b = false):PT X (.Compare a [op] [b] pos) (NL (Je r ta tb)):=by
 intro pins s σ H Q I h
 refine wpAny_isTrue_Compare1 (aP (ha pins s σ H _ I h) fun v s1 ⟨x,H1,I1,r1,q1⟩=>aP (hb pins s1 σ H1 _ I1 q1) fun u s2 ⟨y,H2,I2,r2,q2⟩=>
  aP (ho pins s2 σ H2 x y v u _ I2 r1 r2 q2) fun c s3 ⟨z,H3,I3,r3,k,e,q3⟩=>?_) hm
 subst e
 cases r3
 exact wpAny_truthy_bool ⟨H3,I3,q3⟩
def Lp (r r':R2) (ta tb tc:TE):TE:=fun σ H Q=>ta σ H fun x H1=>tb σ H1 fun y H2=>r x y H2 fun z H3=>∃k,z = .bl k∧
 (if k = true then tc σ H3 fun w' H4=>r' y w' H4 Q else Q (.bl false) H3)
theorem HC {op op':CmpOp} {r r':R2} (ho:eO X (compareOp op) r) (ho':eO X (compareOp op') r') (ha:PE X a ta) (hb:PE X b tb) (hc:PE X c tc)
  (hm:lastMarks [op,op'] [b,c] = false:=by with_unfolding_all rfl):PE X (.Compare a [op,op'] [b,c] pos) (Lp r r' ta tb tc):=by
 intro pins s σ H Q I h
 refine Compare_chain (aP (ha pins s σ H _ I h) fun v s1 ⟨x,H1,I1,r1,q1⟩=>chain_link (aP (hb pins s1 σ H1 _ I1 q1) fun u s2 ⟨y,H2,I2,r2,q2⟩=>
  aP (ho pins s2 σ H2 x y v u _ I2 r1 r2 q2) fun d s3 ⟨z,H3,I3,r3,k,e,q3⟩=>?_)) hm
 subst e
 cases r3
 refine wpAny_truthy_bool ?_
 cases k with
 | false=>exact ite_ff ⟨.bl false,H3,I3,rfl,q3⟩
 | true=>exact ite_tt (chain_last (aP (hc pins s3 σ H3 _ I3 q3) fun w' s4 ⟨z',H4,I4,r4,q4⟩=>ho' pins s4 σ H4 y z' u w' Q I4 r2 r4 q4))
theorem oF:(sizeLine:Nat) < 2 ^ 63:=by rw [sizeLine_eq];decide
theorem Ef:eO X (binaryOp .Add) (fun x y H Q=>∃i j,x = .str i∧y = .str j∧i.length + j.length≤sizeLine∧Q (.str (i ++ j)) H):=by
 intro pins s σ H x y v u Q I rx ry h
 obtain ⟨i,j,rfl,rfl,hz,q⟩:=h
 obtain ⟨t,rfl⟩:=rx
 obtain ⟨t',rfl⟩:=ry
 exact add_str (fun t' tk=>⟨.str (i ++ j),H,I.tok _,⟨_,rfl⟩,q⟩) hz
theorem vals1 {x:V} {us:List Value} (r:Vals [x] us):∃u,us = [u]∧RelV x u:=by
 cases r with
 | cons r1 r2=>cases r2;exact ⟨_,rfl,r1⟩
theorem vals2 {x y:V} {us:List Value} (r:Vals [x,y] us):∃u w',us = [u,w']∧RelV x u∧RelV y w':=by
 cases r with
 | cons r1 r2=>
   cases r2 with
   | cons r3 r4=>cases r4;exact ⟨_,_,rfl,r1,r3⟩
theorem HD:dZ X (.builtin "abs") (fun xs H Q=>∃i,xs = [.int i]∧Q (.int (if i < 0 then -i else i)) H):=by
 intro pins s σ H xs us Q I r h
 obtain ⟨i,rfl,q⟩:=h
 obtain ⟨u,rfl,t,rfl⟩:=vals1 r
 exact call_abs_int fun u tk=>⟨.int (if i < 0 then -i else i),H,I.tok _,⟨_,rfl⟩,q⟩
end
end L2
namespace L2
open PySem PySem.Spec PyProof.Rows
structure ux (h:Heap) (x dx C:Addr) (mA:Str→Option Value):Prop where
 obj:h.get? x = some (PySem.W.instObj C dx)
 ns:h.Ns1 dx mA
 ne:dx ≠ x
theorem E_ {h:Heap} {dx:Addr} {mA:Str→Option Value} (n:h.Ns1 dx mA):∃od,h.get? dx = some od∧∀name,PySem.W.lookIn name od = some (mA name):=by
 obtain ⟨o,es,ep,ho,hd,hk,_,hm⟩:=n
 refine ⟨o,ho,fun name=>?_⟩
 have e:=hm name
 unfold nsFind findBy at e
 rw [← Array.find?_toList] at e
 unfold PySem.W.lookIn
 rw [hd]
 dsimp only
 split
 · rename_i y q
   rw [q] at e
   exact congrArg some e
 · rename_i q
   rw [q] at e
   have a:es.toList.any (·.refKey) = false:=by
    rw [List.any_eq_false]
    intro y hy
    obtain ⟨z,t,hkey⟩:=hk y (Array.mem_toList_iff.mp hy)
    simp [DictEntry.refKey,hkey]
   have a':¬ es.toList.any (·.refKey) = true:=by rw [a];exact Bool.false_ne_true
   rw [if_neg a']
   exact congrArg some e
theorem ux.look {h:Heap} {x dx C:Addr} {mA:Str→Option Value} (I:ux h x dx C mA):∃od,PySem.W.InstAt h x (PySem.W.instObj C dx) C (some od)∧∀name,PySem.W.lookIn name od = some (mA name):=
 let ⟨od,ho,hl⟩:=E_ I.ns
 ⟨od,⟨I.obj,rfl,rfl,ho⟩,hl⟩
section
variable {prog:Program} {w:World} {A:Around} {E:Value→Shared→Prop} {s:Shared} {K:PySem.W.Frag} {x dx C f:Addr} {mA:Str→Option Value} {name:Str} {v:Value}
theorem get_map {expr:Bool} {Q:Value→Shared→Prop} (X:K.In s.heap) (I:ux s.heap x dx C mA) (hg:PySem.W.plainGet K C name = true) (hh:PySem.W.hasDictIn K C = true)
  (ha:PySem.W.findIn K (.ref C) name = some none) (hv:mA name = some v) (hv':PySem.W.handedIn v = true) (h:Q v { s with toks:=s.toks + 1 }):
  wpAny (model prog w) A (getAttr (.ref x) name expr) Q E s:=by
 obtain ⟨od,J,hl⟩:=I.look
 exact PySem.W.get_value X J (PySem.W.plainGet_of hg).1 (PySem.W.findObj_own hh ha rfl (by rw [hl,hv])) hv' h
theorem HE {pl:Sem Bool} {Q:Value × List Value→Shared→Prop} (X:K.In s.heap) (I:ux s.heap x dx C mA) (hg:PySem.W.plainGet K C name = true)
  (hf:PySem.W.findIn K (.ref C) name = some (some (.ref f))) (ht:PySem.W.isFn K (.ref f) = true) (hv:mA name = none) (h:Q (.ref f,[.ref x]) s):
  wpAny (model prog w) A (getMethod (.ref x) name pl) Q E s:=by
 obtain ⟨od,J,hl⟩:=I.look
 exact PySem.W.method_fn X J (PySem.W.plainGet_of hg).1 (PySem.W.plainGet_of hg).2 hf (beq_iff_eq.mp ht) (by show (PySem.W.lookIn name od).map (·.isSome) = some false;rw [hl,hv];rfl) h
theorem J_ {ns:List Str} {Q:Unit→Shared→Prop} (X:K.In s.heap) (I:ux s.heap x dx C mA)
  (hs:PySem.W.findIn K (.ref C) "__setattr__" = some (some (.builtin "object.__setattr__"))) (hp:PySem.W.plainOver K C = true) (ht:PySem.W.takerIn K C name = some none) (hh:PySem.W.hasDictIn K C = true)
  (hw:PySem.Within mA ns) (hsz:ns.length≤sizeLine)
  (h:∀h',ux h' x dx C (fun y=>if y = name then some v else mA y)→Heap.SameBut dx s.heap h'→Q () { s with heap:=h',toks:=s.toks + 2 }):
  wpAny (model prog w) A (setAttr (.ref x) name v) Q E s:=by
 obtain ⟨od,J,hl⟩:=I.look
 refine PySem.W.set_plain X J hs (PySem.W.osa_open (s:={ s with toks:=s.toks + 1 }) (r:=none) X J hp ht fun b=>?_)
 obtain ⟨cd,hc,hd'⟩:=PySem.W.any_some hh
 have hx:s.heap.get? x = some ⟨.ref C,some dx, .plain,#[]⟩:=I.obj
 refine wpAny_bind (wpAny_pure (wpAny_bind (wpAny_bind (wpAny_loadPart hx (wpAny_bind (PySem.W.Looks.here (s:={ s with toks:=s.toks + 1 }) (PySem.W.looks_clsIn X hc) ?_))))))
 rw [hd']
 refine wpAny_pure (a:=some dx) (wpAny_bind (wpAny_pure (wpAny_bind ?_)))
 refine wpAny_nsSet1 (s:={ s with toks:=s.toks + 1 }) I.ns fun h' hn2 hs2=>?_
 obtain ⟨oD,esD,UD,RA,RB,RC⟩:=hn2.count (PySem.Within.cons name v hw)
 refine wpAny_bind (wpAny_lookBehind RA (by rw [RB];exact pastItsLine_dict (Nat.le_trans RC (by rw [List.length_cons];omega))) ?_)
 exact wpAny_pure (h _ ⟨(hs2.2 _ (Ne.symm I.ne)).trans I.obj,hn2,I.ne⟩ hs2)
theorem HF {R:Result→Shared→Prop} {vs:List Value} {kw:List (Str × Value)} (X:K.In s.heap) (hm:PySem.W.makesIn K C = true)
  (hi:PySem.W.findIn K (.ref C) "__init__" = some (some (.ref f))) (hf:PySem.W.typeIn K (.ref f) = some (.type "function"))
  (h:codeAny (model prog w) (A.under (.builtin "type.__call__" ⟨.ref C :: vs,kw⟩)) (.call (.ref f) ⟨.ref (s.heap.objs.size + 1) :: vs,kw⟩) (PySem.W.InitBack (s.heap.objs.size + 1) R)
    { s with heap:=(s.heap.push PySem.W.emptyDict).push (PySem.W.instObj C s.heap.objs.size) }):
  codeAny (model prog w) A (.call (.ref C) ⟨vs,kw⟩) R s:=by
 obtain ⟨hh,g,d,t,os⟩:=s
 exact PySem.W.make_core (PySem.W.makes_of X hm) (PySem.W.looks_findIn X hi) (fun self=>PySem.W.bind_fn X self hf) (.inl rfl) h
end
def aH (f:Str) (v:V):List (Str × V)→List (Str × V)
 | []=>[(f,v)]
 | (g,x) :: r=>if g = f then (g,v) :: r else (g,x) :: aH f v r
theorem tF (f g:Str) (v:V):∀fs:List (Str × V),(aH f v fs).lookup g = if g = f then some v else fs.lookup g
 | []=>by
   show List.lookup g [(f,v)] = _
   by_cases h:g = f
   · have hb:(g == f) = true:=beq_iff_eq.mpr h
     simp only [List.lookup,hb,if_pos h]
   · have hb:(g == f) = false:=beq_eq_false_iff_ne.mpr h
     simp only [List.lookup,hb,if_neg h]
 | (k,x) :: r=>by
   have ih:=tF f g v r
   rw [show aH f v ((k,x) :: r) = (if k = f then (k,v) :: r else (k,x) :: aH f v r) from rfl]
   by_cases hk:k = f
   · rw [if_pos hk]
     by_cases h:g = k
     · have hb:(g == k) = true:=beq_iff_eq.mpr h
       simp only [List.lookup,hb,if_pos (h.trans hk)]
     · have hb:(g == k) = false:=beq_eq_false_iff_ne.mpr h
       simp only [List.lookup,hb,if_neg (fun e:g = f=>h (e.trans hk.symm))]
   · rw [if_neg hk]
     by_cases h:g = k
     · have hb:(g == k) = true:=beq_iff_eq.mpr h
       simp only [List.lookup,hb,if_neg (fun e:g = f=>hk (h.symm.trans e))]
     · have hb:(g == k) = false:=beq_eq_false_iff_ne.mpr h
       simp only [List.lookup,hb]
       exact ih
theorem qz (f:Str) (v:V):∀fs:List (Str × V),f∈(aH f v fs).map (·.1)∧∀g,g∈fs.map (·.1)→g∈(aH f v fs).map (·.1)
 | []=>⟨by simp [aH],fun g h=>by simp at h⟩
 | (k,x) :: r=>by
   obtain ⟨i1,i2⟩:=qz f v r
   rw [show aH f v ((k,x) :: r) = (if k = f then (k,v) :: r else (k,x) :: aH f v r) from rfl]
   by_cases hk:k = f
   · rw [if_pos hk]
     subst hk
     exact ⟨by simp,fun g h=>by simpa using h⟩
   · rw [if_neg hk]
     refine ⟨?_,fun g h=>?_⟩
     · rw [List.map_cons]
       exact List.mem_cons_of_mem _ i1
     · rw [List.map_cons] at h ⊢
       rcases List.mem_cons.mp h with e | e
       · exact List.mem_cons.mpr (.inl e)
       · exact List.mem_cons_of_mem _ (i2 g e)
theorem tG (f:Str) (v:V):∀fs:List (Str × V),(aH f v fs).length≤fs.length + 1
 | []=>by simp [aH]
 | (k,x) :: r=>by
   have ih:=tG f v r
   rw [show aH f v ((k,x) :: r) = (if k = f then (k,v) :: r else (k,x) :: aH f v r) from rfl]
   by_cases hk:k = f
   · rw [if_pos hk,List.length_cons,List.length_cons];omega
   · rw [if_neg hk,List.length_cons,List.length_cons];omega
theorem ie.some_of {v:V} {o:Option Value} (r:ie (some v) o):∃u,o = some u∧RelV v u:=by
 cases o with
 | none=>exact (show False from r).elim
 | some u=>exact ⟨u,rfl,r⟩
theorem ie.none_of {o:Option Value} (r:ie none o):o = none:=by
 cases o with
 | none=>rfl
 | some u=>exact (show False from r).elim
theorem Fb {v:V} {u:Value} (r:RelV v u):PySem.W.handedIn u = true:=by
 cases v with
 | bE=>cases (show u = Value.none from r);rfl
 | bl b=>cases (show u = Value.bool b from r);rfl
 | int i=>obtain ⟨t,e⟩:=(show ∃t,u = Value.int i t from r);cases e;rfl
 | str x=>obtain ⟨t,e⟩:=(show ∃t,u = Value.str x t from r);cases e;rfl
 | pZ b=>obtain ⟨t,e⟩:=(show ∃t,u = Value.bytes b t from r);cases e;rfl
 | Ac b=>obtain ⟨t,e⟩:=(show ∃t,u = Value.float b t from r);cases e;rfl
 | ref a=>cases (show u = Value.ref a from r);rfl
 | ty n=>cases (show u = Value.type n from r);rfl
section
variable {P:Program} {w:World} {H H':Hp} {h h':Heap} {a C dx:Addr} {fs fs':List (Str × V)}
theorem su (hok:ee P w H h) (e:H a = some (.ins C dx fs)):∃mA,ux h a dx C mA∧(∀f,ie (fs.lookup f) (mA f))∧PySem.Within mA (fs.map (·.1))∧fs.length≤1000∧H dx = some (.own a):=by
 obtain ⟨d,z,ne,ob,mA,n,r,q⟩:=(show cy P w H h a (.ins C dx fs) from hok a _ e)
 exact ⟨mA,⟨ob,n,ne⟩,r,q,z,d⟩
end
structure kr (K:PySem.W.Frag) (C:Addr):Prop where
 pg:PySem.W.plainGet K C Str.empty = true
 hd:PySem.W.hasDictIn K C = true
 po:PySem.W.plainOver K C = true
 sa:PySem.W.findIn K (.ref C) "__setattr__" = some (some (.builtin "object.__setattr__"))
theorem kr.get {K:PySem.W.Frag} {C:Addr} (c:kr K C) (f:Str):PySem.W.plainGet K C f = true:=c.pg
def cM (K:PySem.W.Frag) (C:Addr) (f:Str):Prop:=PySem.W.findIn K (.ref C) f = some none
theorem cM.NN {K:PySem.W.Frag} {C:Addr} {f:Str} (n:cM K C f):PySem.W.takerIn K C f = some none:=by
 unfold PySem.W.takerIn
 rw [show PySem.W.findIn K (.ref C) f = some none from n]
 rfl
structure Meth (K:PySem.W.Frag) (C:Addr) (m:Str) (f:Addr):Prop where
 at_:PySem.W.findIn K (.ref C) m = some (some (.ref f))
 fn:PySem.W.isFn K (.ref f) = true
 kp:PySem.W.keepIn K (.ref f) = true
section
variable {X:Cx} {pins:List (Addr × Obj)} {σ:St} {H:Hp} {s:Shared} {a C dx:Addr} {fs:List (Str × V)} {f:Str} {v:V} {A:Around} {E:Value→Shared→Prop}
theorem vg {b:Bool} {Q:Value→Shared→Prop} (I:Inv X pins σ H s) (e:H a = some (.ins C dx fs)) (c:kr X.K C) (n:cM X.K C f) (l:fs.lookup f = some v)
  (h:∀u s',Inv X pins σ H s'→RelV v u→Q u s'):wpAny (model X.prog X.w) A (getAttr (.ref a) f b) Q E s:=by
 obtain ⟨mA,O,r,_,_,_⟩:=su I.hok e
 obtain ⟨u,hu,ru⟩:=ie.some_of (v:=v) (o:=mA f) (by rw [← l];exact r f)
 exact get_map I.f7 O (c.get f) c.hd n hu (Fb ru) (h u _ (I.tok _) ru)
theorem vh {m:Str} {g:Addr} {pl:Sem Bool} {Q:Value × List Value→Shared→Prop} (I:Inv X pins σ H s) (e:H a = some (.ins C dx fs)) (c:kr X.K C) (k:Meth X.K C m g) (l:fs.lookup m = none)
  (h:Q (.ref g,[.ref a]) s):wpAny (model X.prog X.w) A (getMethod (.ref a) m pl) Q E s:=by
 obtain ⟨mA,O,r,_,_,_⟩:=su I.hok e
 have hn:mA m = none:=ie.none_of (by rw [← l];exact r m)
 exact HE I.f7 O (c.get m) k.at_ k.fn hn h
theorem vj {y:V} {u:Value} {Q:Unit→Shared→Prop} (I:Inv X pins σ H s) (e:H a = some (.ins C dx fs)) (c:kr X.K C) (n:cM X.K C f) (hl:fs.length < 1000) (ry:RelV y u)
  (h:∀s',Inv X pins σ (upd H a (.ins C dx (aH f y fs))) s'→Q () s'):wpAny (model X.prog X.w) A (setAttr (.ref a) f u) Q E s:=by
 obtain ⟨mA,O,r,wi,_,ho⟩:=su I.hok e
 have hz:(fs.map (·.1)).length≤sizeLine:=by rw [List.length_map,sizeLine_eq];omega
 refine J_ I.f7 O c.sa c.po n.NN c.hd wi hz fun h' O' sb=>h _ ?_
 have hd:∃o,h'.get? dx = some o:=let ⟨o,_,_,e',_⟩:=O'.ns;⟨o,e'⟩
 refine I.write (x:=a) (e:=dx) (by rw [e];exact True.intro) (.inr ho) (fun b q hb z=>(sb.2 b hb).trans z) hd ?_
 refine ⟨by rw [ao O.ne];exact ho,?_,O.ne,O'.obj,_,O'.ns,fun g=>?_,fun g hg=>?_⟩
 · have:=tG f y fs;omega
 · show ie ((aH f y fs).lookup g) (if g = f then some u else mA g)
   rw [tF]
   by_cases q:g = f
   · rw [if_pos q,if_pos q];exact ry
   · rw [if_neg q,if_neg q];exact r g
 · by_cases q:g = f
   · rw [q];exact (qz f y fs).1
   · refine (qz f y fs).2 g (wi g fun z=>hg ?_)
     show (if g = f then some u else mA g) = none
     rw [if_neg q];exact z
theorem Inv.made (I:Inv X pins σ H s):Inv X pins σ (upd (upd H s.heap.objs.size (.own (s.heap.objs.size + 1))) (s.heap.objs.size + 1) (.ins C s.heap.objs.size []))
  { s with heap:=(s.heap.push PySem.W.emptyDict).push (PySem.W.instObj C s.heap.objs.size) }:=by
 have e1:(s.heap.push PySem.W.emptyDict).get? s.heap.objs.size = some PySem.W.emptyDict:=Heap.get?_push_size s.heap rfl
 have e2:((s.heap.push PySem.W.emptyDict).push (PySem.W.instObj C s.heap.objs.size)).get? (s.heap.objs.size + 1) = some (PySem.W.instObj C s.heap.objs.size):=by
  have:=Heap.get?_push_size (s.heap.push PySem.W.emptyDict) (o:=PySem.W.instObj C s.heap.objs.size) rfl
  rwa [Heap.size_push] at this
 have e3:(s.heap.push PySem.W.emptyDict).Ns s.heap.objs.size (fun _=>none):=⟨PySem.W.emptyDict,#[],_,e1,rfl,(fun e he=>absurd he (by simp)),fun _=>rfl⟩
 have I1:=I.laid (a:=s.heap.objs.size) (o:= .own (s.heap.objs.size + 1)) (h':=s.heap.push PySem.W.emptyDict) (t':=s.toks) (fun b u q=>Heap.get?_push_of_some _ q) (Nat.le_refl _) ⟨_,e1⟩
 refine I1.laid (a:=s.heap.objs.size + 1) (o:= .ins C s.heap.objs.size []) (t':=s.toks) (fun b u q=>Heap.get?_push_of_some _ q) (Nat.le_of_eq (Heap.size_push _ _)) ?_
 have ne:s.heap.objs.size ≠ s.heap.objs.size + 1:=Nat.ne_of_lt (Nat.lt_succ_self _)
 refine ⟨by rw [ao ne,af],Nat.zero_le _,ne,e2,fun _=>none,(Heap.Ns1.of_empty e3).at fun o q=>Heap.get?_push_of_some _ q,fun _=>True.intro,fun y hy=>absurd rfl hy⟩
theorem Ka {prog:Program} {w:World} {env:Env} {e:Expr} {f:Str} {pos:Pos} {s:Shared} {Q:Value→Shared→Prop} (hb:attributeBase e f env (eval e env) = eval e env)
  (h:wpAny (model prog w) A (eval e env) (fun o s₁=>wpAny (model prog w) A (getAttr o f true) Q E s₁) E s):wpAny (model prog w) A (eval (.Attribute e f pos) env) Q E s:=
 Attribute_any_ h (by rw [arm_eval_Attribute,hb])
end
def Lq (K:PySem.W.Frag) (ta:TE) (f:Str):TE:=fun σ H Q=>ta σ H fun x H1=>∃a C dx fs v,x = .ref a∧H1 a = some (.ins C dx fs)∧kr K C∧cM K C f∧fs.lookup f = some v∧Q v H1
def Lr (K:PySem.W.Frag) (ta tv:TE) (f:Str):TS:=fun D σ H=>tv σ H fun y H1=>ta σ H1 fun x H2=>∃a C dx fs,x = .ref a∧H2 a = some (.ins C dx fs)∧kr K C∧cM K C f∧fs.length < 1000∧
 D.nx σ (upd H2 a (.ins C dx (aH f y fs)))
def Eg (X:Cx) (op:Operator) (rd:V→V→Hp→VK→Prop):Prop:=
 ∀(pins:List (Addr × Obj)) (s:Shared) (σ:St) (H:Hp) (x y:V) (u v:Value) (Q:VK),Inv X pins σ H s→RelV x u→RelV y v→rd x y H Q→wpAny (model X.prog X.w) X.A (inplaceOp op u v) (EP X pins σ Q) X.xe s
def Dg (K:PySem.W.Frag) (ta tv:TE) (rd:V→V→Hp→VK→Prop) (f:Str):TS:=fun D σ H=>ta σ H fun x H1=>∃a C dx fs v,x = .ref a∧H1 a = some (.ins C dx fs)∧kr K C∧cM K C f∧fs.lookup f = some v∧
 tv σ H1 fun y H2=>rd v y H2 fun z H3=>∃Lu fs',H3 a = some (.ins C Lu fs')∧fs'.length < 1000∧D.nx σ (upd H3 a (.ins C Lu (aH f z fs')))
section
variable {X:Cx} {o e value:Expr} {f:Str} {pos pos' tpos:Pos} {ta tv:TE}
theorem Lv (he:PE X e ta) (hb:attributeBase e f X.env (eval e X.env) = eval e X.env):PE X (.Attribute e f pos) (Lq X.K ta f):=by
 intro pins s σ H Q I h
 refine Ka hb (aP (he pins s σ H _ I h) fun u s1 ⟨x,H1,I1,rx,a,C,dx,fs,v,ex,ea,c,n,l,q⟩=>?_)
 subst ex
 obtain rfl:u = Value.ref a:=rx
 exact vg I1 ea c n l fun u' s2 I2 ru=>⟨v,H1,I2,ru,q⟩
theorem Lw (ha:PE X o ta) (hv:PE X value tv) (hs:swapsWith value (some (.Attribute o f pos')) pos.line X.env = pure false):PS X (.Assign [.Attribute o f pos'] value pos) (Lr X.K ta tv f):=by
 intro pins s σ H D I h
 refine plainObj_wpAny_Assign_Attribute (aP (hv pins s σ H _ I h) fun u s1 ⟨y,H1,I1,ry,q⟩=>aP (ha pins s1 σ H1 _ I1 q) fun ov s2 ⟨x,H2,I2,rx,a,C,dx,fs,ex,ea,c,n,l,q2⟩=>?_) hs
 subst ex
 obtain rfl:ov = Value.ref a:=rx
 exact vj I2 ea c n l ry fun s3 I3=>⟨σ,_,I3,q2⟩
theorem Fc {op:Operator} {rd:V→V→Hp→VK→Prop} (ha:PE X o ta) (hv:PE X value tv) (hop:Eg X op rd):PS X (.AugAssign (.Attribute o f tpos) op value pos) (Dg X.K ta tv rd f):=by
 intro pins s σ H D I h
 refine wpAny_AugAssign_AttributeAny (aP (ha pins s σ H _ I h) fun ov s1 ⟨x,H1,I1,rx,a,C,dx,fs,v,ex,ea,c,n,l,q⟩=>?_)
 subst ex
 obtain rfl:ov = Value.ref a:=rx
 refine vg I1 ea c n l fun u s2 I2 ru=>aP (hv pins s2 σ H1 _ I2 q) fun w3 s3 ⟨y,H2,I3,ry,q3⟩=>aP (hop pins s3 σ H2 v y u w3 _ I3 ru ry q3) fun w4 s4 ⟨z,H3,I4,rz,Lu,fs',ea',l',q4⟩=>?_
 exact vj I4 ea' c n l' rz fun s5 I5=>⟨σ,_,I5,q4⟩
def QO:V→V→Hp→VK→Prop:=fun x y H Q=>∃i j,x = .int i∧y = .int j∧Q (.int (i - j)) H
theorem Lx:Eg X .Sub QO:=by
 rintro pins s σ H x y u v Q I rx ry ⟨i,j,rfl,rfl,q⟩
 obtain ⟨t,rfl⟩:=(show ∃t,u = Value.int i t from rx)
 obtain ⟨t',rfl⟩:=(show ∃t',v = Value.int j t' from ry)
 exact PyProof.Rows.isub_int ⟨.int (i - j),H,I.tok _,⟨_,rfl⟩,q⟩
end
section
variable {X:Cx} {pins:List (Addr × Obj)} {σ:St} {H:Hp} {s:Shared} {A:Around} {E:Value→Shared→Prop} {Q:Value→Shared→Prop} {c:Value} {b:Bool}
inductive dO (K:PySem.W.Frag) (H:Hp):V→Value→Prop where
 | bE:dO K H .bE (.type "NoneType")
 | bl (x:Bool):dO K H (.bl x) (.type "bool")
 | int (i:Int):dO K H (.int i) (.type "int")
 | str (x:Str):dO K H (.str x) (.type "str")
 | Ac (x:UInt64):dO K H (.Ac x) (.type "float")
 | lst {a:Addr} {xs:List V} (e:H a = some (.lst xs)):dO K H (.ref a) (.type "list")
 | cW {a:Addr} {o:Obj} {xs:List V} (e:H a = some (.cW o (.lst xs))):dO K H (.ref a) (.type "list")
 | tup {a:Addr} {xs:List V} (e:H a = some (.tup xs)):dO K H (.ref a) (.type "tuple")
 | dK {a:Addr} {kvs:List (Key × V)} (e:H a = some (.dK kvs)):dO K H (.ref a) (.type "dict")
 | dT {a:Addr} {kvs:List (List Key × V)} (e:H a = some (.dT kvs)):dO K H (.ref a) (.type "dict")
 | ins {a C dx:Addr} {fs:List (Str × V)} (e:H a = some (.ins C dx fs)) (cl:kr K C) (ha:PySem.W.findIn K (.ref C) "__class__" = some (some (.builtin "object.__class__")))
    (hn:PySem.W.specialIn K (.builtin "object.__class__") "__get__" = some (some (.builtin "getset_descriptor.__get__"))) (htk:PySem.W.takesIn K (.builtin "object.__class__") = some true)
    (hm:PySem.W.mroIn K C (.type "object") = some true):dO K H (.ref a) (.ref C)
theorem Fd {x:V} {u t:Value} (I:Inv X pins σ H s) (rx:RelV x u) (ty:dO X.K H x t) (e:PySem.W.kitOne X.K t c = some b) (h:∀tk,Q (.bool b) { s with toks:=tk }):
  wpAny (model X.prog X.w) A (call (.builtin "isinstance") [u,c]) Q E s:=by
 cases ty with
 | bE=>cases (show u = Value.none from rx);exact PySem.W.kia_one PySem.W.kitx_none I.f7 True.intro e (fun z=>nomatch z) h
 | bl y=>cases (show u = Value.bool y from rx);exact PySem.W.kia_one PySem.W.kitx_bool I.f7 True.intro e (fun z=>nomatch z) h
 | int i=>obtain ⟨t,q⟩:=(show ∃t,u = Value.int i t from rx);cases q;exact PySem.W.kia_one PySem.W.kitx_int I.f7 True.intro e (fun z=>nomatch z) h
 | str y=>obtain ⟨t,q⟩:=(show ∃t,u = Value.str y t from rx);cases q;exact PySem.W.kia_one PySem.W.kitx_str I.f7 True.intro e (fun z=>nomatch z) h
 | Ac y=>obtain ⟨t,q⟩:=(show ∃t,u = Value.float y t from rx);cases q;exact PySem.W.kia_one PySem.W.kitx_float I.f7 True.intro e (fun z=>nomatch z) h
 | @lst a xs ea=>
   cases (show u = Value.ref a from rx)
   obtain ⟨_,_,n,_,h1⟩:=(show cy X.prog X.w H s.heap a (.lst xs) from I.hok a _ ea)
   exact PySem.W.kia_one PySem.W.kitx_list I.f7 ⟨_,h1,rfl⟩ e (fun z=>nomatch z) h
 | @cW a ob xs ea=>
   cases (show u = Value.ref a from rx)
   obtain ⟨_,_,_,n,_,h1⟩:=(show cy X.prog X.w H s.heap a (.cW ob (.lst xs)) from I.hok a _ ea)
   exact PySem.W.kia_one PySem.W.kitx_list I.f7 ⟨_,h1,rfl⟩ e (fun z=>nomatch z) h
 | @tup a xs ea=>
   cases (show u = Value.ref a from rx)
   obtain ⟨_,_,_,p⟩:=(show cy X.prog X.w H s.heap a (.tup xs) from I.hok a _ ea)
   obtain ⟨o,h1,h2,_⟩:=p
   exact PySem.W.kia_one PySem.W.kitx_tuple I.f7 ⟨o,h1,h2⟩ e (fun z=>nomatch z) h
 | @dK a kvs ea=>
   cases (show u = Value.ref a from rx)
   obtain ⟨_,_,vs,_,p⟩:=(show cy X.prog X.w H s.heap a (.dK kvs) from I.hok a _ ea)
   obtain ⟨o,es,ep,h1,h2,_⟩:=p
   exact PySem.W.kia_one PySem.W.kitx_dict I.f7 ⟨o,h1,h2.1⟩ e (fun z=>nomatch z) h
 | @dT a kvs ea=>
   cases (show u = Value.ref a from rx)
   obtain ⟨_,_,xs,_,o,es,ep,h1,h2,_⟩:=(show cy X.prog X.w H s.heap a (.dT kvs) from I.hok a _ ea)
   exact PySem.W.kia_one PySem.W.kitx_dict I.f7 ⟨o,h1,h2.1⟩ e (fun z=>nomatch z) h
 | @ins a C dx fs ea cl ha hn htk hm=>
   cases (show u = Value.ref a from rx)
   obtain ⟨mA,O,_⟩:=su I.hok ea
   obtain ⟨od,J,_⟩:=O.look
   exact PySem.W.kia_one (PySem.W.kitx_own (cl.get _) cl.hd ha hn htk hm) I.f7 J e (fun z=>nomatch z) h
end
end L2
namespace L2
open PySem PySem.Spec PyProof.Rows
structure cU (k:Nat) (A:Around):Prop where
 hd:A.handled = none
 dp:A.depth + 3 * k + 5 < recursionLimit
 un:A.units + 16 * k + 200 < cLine
theorem cU.mono {j k:Nat} {A:Around} (r:cU k A) (h:j≤k):cU j A:=⟨r.hd,by have:=r.dp;omega,by have:=r.un;omega⟩
theorem cU.deeper {k:Nat} {A:Around} (r:cU (k + 1) A) (env:Env):cU k (A.deeper env):=
 ⟨r.hd,by have:=r.dp;show A.depth + 1 + 3 * k + 5 < _;omega,by have:=r.un;show A.units + 3 + 16 * k + 200 < _;omega⟩
theorem Eh {A:Around} {C:Addr} {us:List Value} {kw:List (Str × Value)}:(A.under (.builtin "type.__call__" ⟨.ref C :: us,kw⟩)).depth = A.depth + 1:=by
 first | rfl | simp [Around.under,Code.weight,Code.isCreation,Code.isGuard,Code.isCaller,Code.frames,Code.isFrame,guardIds]
theorem Ei {A:Around} {C:Addr} {us:List Value} {kw:List (Str × Value)}:(A.under (.builtin "type.__call__" ⟨.ref C :: us,kw⟩)).units = A.units + 1:=by
 first | rfl | simp [Around.under,Code.cUnits,Code.frames,Code.isFrame]
theorem cU.make {k:Nat} {A:Around} (r:cU (k + 1) A) (C:Addr) (us:List Value) (kw:List (Str × Value)):cU k (A.under (.builtin "type.__call__" ⟨.ref C :: us,kw⟩)):=
 ⟨r.hd,by have:=r.dp;rw [Eh];omega,by have:=r.un;rw [Ei];omega⟩
theorem cU.depth {k:Nat} {A:Around} (r:cU k A):A.depth < recursionLimit:=by have:=r.dp;omega
theorem cU.units {k:Nat} {A:Around} (r:cU k A):A.units + 64 < cLine:=by have:=r.un;omega
def uy:TA:=fun _ H Q=>Q [] H
def NO (ta:TE) (tr:TA):TA:=fun σ H Q=>ta σ H fun x H1=>tr σ H1 fun xs H2=>Q (x :: xs) H2
section
variable {X:Cx} {e:Expr} {es:List Expr} {te:TE} {t:TA} {pos:Pos}
theorem aj:PA X [] uy:=fun _ _ _ _ H Q I h=>Calls.spliced_nil ⟨[],H,I, .nil,h⟩
theorem aa (ha:PE X e te) (hr:PA X es t) (hs:starEach (e :: es) X.env = (false,eval e X.env) :: starEach es X.env:=by rfl):PA X (e :: es) (NO te t):=by
 intro pos pins s σ H Q I h
 rw [hs]
 show wpAny _ _ (spliced ((false,eval e X.env) :: backTo pos (starEach es X.env))) _ _ s
 refine Calls.spliced_cons (aP (ha pins s σ H _ I h) fun u s1 ⟨x,H1,I1,r1,q1⟩=>?_)
 exact aP (hr pos pins s1 σ H1 _ I1 q1) fun us s2 ⟨xs,H2,I2,r2,q2⟩=>⟨x :: xs,H2,I2, .cons r1 r2,q2⟩
def QS (t:TA):TE:=fun σ H Q=>t σ H fun xs H1=>xs.length≤sizeLine∧∀p,H1 p = none→Q (.ref p) (upd H1 p (.tup xs))
def QT (t:TA):TE:=fun σ H Q=>t σ H fun xs H1=>xs.length≤sizeLine∧∀p,H1 p = none→Q (.ref p) (upd H1 p (.lst xs))
theorem iz {x1} (h:PA X es t):PE X (.Tuple es x1 pos) (QS t):=by
 intro pins s σ H Q I hq
 refine wpAny_Tuple_spliced (aP (h pos pins s σ H _ I hq) fun us s1 ⟨xs,H1,I1,r,z,q⟩=>⟨by rw [← r.length];exact z,?_⟩)
 have hf:H1 s1.heap.objs.size = none:=I1.hok.fresh (Nat.le_refl _)
 refine ⟨.ref s1.heap.objs.size,upd H1 s1.heap.objs.size (.tup xs),I1.laid (t':=s1.toks) (fun b u e=>Heap.get?_push_of_some _ e) (Nat.le_refl _) ?_,rfl,q _ hf⟩
 exact ⟨z,us,r,⟨_,Heap.get?_push_size _ rfl,rfl,_,rfl⟩⟩
theorem fK (h:PA X es t):PE X (.List es pos) (QT t):=by
 intro pins s σ H Q I hq
 refine wpAny_List_spliced (aP (h pos pins s σ H _ I hq) fun us s1 ⟨xs,H1,I1,r,z,q⟩=>⟨by rw [← r.length];exact z,?_⟩)
 have hf:H1 s1.heap.objs.size = none:=I1.hok.fresh (Nat.le_refl _)
 refine ⟨.ref s1.heap.objs.size,upd H1 s1.heap.objs.size (.lst xs),I1.laid (t':=s1.toks) (fun b u e=>Heap.get?_push_of_some _ e) (Nat.le_refl _) ?_,rfl,q _ hf⟩
 exact ⟨z,us,0,r,Heap.get?_push_size _ rfl⟩
end
abbrev Sp:=List V→Hp→VK→XK→Prop
abbrev qA:=List Env→Hp→Shared→XK→Value→Shared→Prop
structure uz (P:Program) (w:World) (K:PySem.W.Frag) (mg:Str→Option Value) (base:Heap) (A:Around) (outer:List Env) (s:Shared) (H:Hp):Prop where
 frames:A.frames = some outer
 mod:Mod K mg base
 bs:∀b o,base.get? b = some o→s.heap.get? b = some o∧H b = none
 yd:base.objs.size≤s.heap.objs.size
 kG:s.heap.FunFrames base outer
 Ag:∀b∈frs outer,H b = none
 hok:ee P w H s.heap
 bare:AllBare s.gens
def CE (outer:List Env) (P:Program) (w:World) (H:Hp) (s:Shared) (Q:VK) (u:Value) (s':Shared):Prop:=
 ∃v H',s'.os = s.os∧AllBare s'.gens∧Un (frs outer) [] H H' s.heap s'.heap∧ee P w H' s'.heap∧RelV v u∧Q v H'
def CR (CX:qA) (outer:List Env) (P:Program) (w:World) (H:Hp) (s:Shared) (Q:VK) (E:XK) (r:Result) (s':Shared):Prop:=
 match r with
 | .ok (.ret u)=>CE outer P w H s Q u s'
 | .ok _=>False
 | .error e=>CX outer H s E e s'
structure gG (P:Program) (w:World) (K:PySem.W.Frag) (mg:Str→Option Value) (base:Heap) (CX:qA) (k:Nat) (f:Addr) (fd:FuncData) (ps:List Str) (sp:Sp):Prop where
 len:∀vs H Q E,sp vs H Q E→vs.length = ps.length
 run:∀(A:Around) (outer:List Env) (s:Shared) (H:Hp) (args:Args) (us:List Value) (vs:List V) (Q:VK) (E:XK),cU k A→uz P w K mg base A outer s H→BindsTo s fd args (ps.zip us)→Vals vs us→sp vs H Q E→
  codeAny (model P w) A (.call (.ref f) args) (CR CX outer P w H s Q E) s
theorem uz.make {P:Program} {w:World} {K:PySem.W.Frag} {mg:Str→Option Value} {base:Heap} {A:Around} {outer:List Env} {s:Shared} {H:Hp} (e:uz P w K mg base A outer s H) (C:Addr) (us:List Value) (kw:List (Str × Value)):
  uz P w K mg base (A.under (.builtin "type.__call__" ⟨.ref C :: us,kw⟩)) outer s H:=⟨by first | exact e.frames | (simpa [Around.under,Code.envs,Code.isFrame,pushEnvs] using e.frames),e.mod,e.bs,e.yd,e.kG,e.Ag,e.hok,e.bare⟩
section
variable {X:Cx} {pins:List (Addr × Obj)} {σ:St} {H:Hp} {s s':Shared}
theorem Inv.Ly (I:Inv X pins σ H s):uz X.prog X.w X.K X.mg X.base X.A X.stack s H:=
 ⟨I.ok.frames,I.ok.mod,I.bs,Nat.le_trans I.ok.yd I.sz,I.stack,I.C_,I.hok,I.bare⟩
theorem Inv.after {Q:VK} {u:Value} (I:Inv X pins σ H s) (h:CE X.stack X.prog X.w H s Q u s'):EP X pins σ Q u s':=by
 obtain ⟨v,H',os,bare,un,hok,r,q⟩:=h
 obtain ⟨hh,g,d,t,os'⟩:=s'
 obtain rfl:os' = s.os:=os
 exact ⟨v,H',I.call (h':=hh) (g':=g) (d':=d) (t':=t) (ch:=[]) un hok bare (fun b z=>absurd z (by simp)),r,q⟩
end
def Jh (sp:Sp) (gH:List V) (E:XK) (t:TA):TE:=fun σ H Q=>t σ H fun vs H1=>sp (vs ++ gH) H1 Q E
def z_ (C:Addr) (m:Str) (sp:Sp) (gH:List V) (E:XK) (ta:TE) (t:TA):TE:=fun σ H Q=>ta σ H fun x H1=>∃a dx fs,x = .ref a∧H1 a = some (.ins C dx fs)∧fs.lookup m = none∧
 t σ H1 fun vs H2=>sp (x :: (vs ++ gH)) H2 Q E
def Aa (C:Addr) (sp:Sp) (gH:List V) (E:XK) (t:TA):TE:=fun σ H Q=>t σ H fun vs H1=>∀x dx,H1 x = none→H1 dx = none→dx ≠ x→
 sp (.ref x :: (vs ++ gH)) (upd (upd H1 dx (.own x)) x (.ins C dx [])) (fun v H2=>v = .bE∧Q (.ref x) H2) E
def Binds (K:PySem.W.Frag) (fd:FuncData) (ps:List Str) (ds:List Value):Prop:=
 ∀(s:Shared) (us:List Value),K.In s.heap→(us ++ ds).length = ps.length→BindsTo s fd ⟨us,[]⟩ (ps.zip (us ++ ds))
theorem Binds.all {K:PySem.W.Frag} {fd:FuncData} {ps:List Str} (h:∀us:List Value,us.length = ps.length→bindArgs fd ⟨us,[]⟩ = pure (ps.zip us)):Binds K fd ps [] :=fun s us _ hl=>by
 rw [List.append_nil] at hl ⊢
 exact .of_eq (h us hl)
def Passes (CX:qA) (X:Cx) (E:XK):Prop:=∀(pins:List (Addr × Obj)) (σ:St) (H:Hp) (s:Shared) (e:Value) (s':Shared),Inv X pins σ H s→CX X.stack H s E e s'→X.xe e s'
section
variable {X:Cx} {CX:qA} {k:Nat} {f C:Addr} {fd:FuncData} {ps:List Str} {sp:Sp} {gH:List V} {ds:List Value} {E:XK} {x m:Str} {p pos apos:Pos} {e o:Expr} {es:List Expr} {ta:TE} {t:TA}
theorem Ao {pins:List (Addr × Obj)} {σ:St} {H:Hp} {s:Shared} {Q:VK} {us:List Value} {vs:List V} (F:gG X.prog X.w X.K X.mg X.base CX k f fd ps sp) (hr:cU k X.A) (hb:Binds X.K fd ps ds) (hd:Vals gH ds) (hx:Passes CX X E)
  (I:Inv X pins σ H s) (r:Vals vs us) (h:sp (vs ++ gH) H Q E):wpAny (model X.prog X.w) X.A (call (.ref f) us) (EP X pins σ Q) X.xe s:=by
 have r2:Vals (vs ++ gH) (us ++ ds):=r.append hd
 have hl:(us ++ ds).length = ps.length:=by rw [← r2.length];exact F.len _ _ _ _ h
 refine wpAny_call (codeAny_mono (F.run X.A X.stack s H ⟨us,[]⟩ (us ++ ds) (vs ++ gH) Q E hr I.Ly (hb s us I.f7 hl) r2 h) fun r s' hq=>?_)
 cases r with
 | error e=>exact hx pins σ H s e s' I hq
 | ok fl=>
   cases fl with
   | ret u=>exact I.after hq
   | next=>exact False.elim hq
   | brk=>exact False.elim hq
   | cont=>exact False.elim hq
theorem Kc (F:gG X.prog X.w X.K X.mg X.base CX k f fd ps sp) (hr:cU k X.A) (hg:Gl X x) (hm:X.mg x = some (.ref f)) (hk:PySem.W.keepIn X.K (.ref f) = true) (hb:Binds X.K fd ps ds) (hd:Vals gH ds) (hx:Passes CX X E)
  (ha:PA X (e :: es) t) (hdb:(x == ("__debug__":Str)) = false:=by decide) (he:starEach (e :: es) X.env = (false,eval e X.env) :: starEach es X.env:=by rfl) (hpl:(backTo pos (starEach es X.env)).any (·.1) = false:=by rfl):
  PE X (.Call (.Name x p) (e :: es) [] pos) (Jh sp gH E t):=by
 intro pins s σ H Q I h
 refine wpAny_Call_Name_kw (sf I hg hm ?_ hdb)
 refine PySem.W.callWith_K (h₀:=X.base) I.ok.mod.E2 hk (aP (ha pos pins s σ H _ I h) fun us s1 ⟨vs,H1,I1,r,q⟩=>⟨I1.f7,?_⟩) he hpl
 exact Ao F hr hb hd hx I1 r q
theorem Kd {pl:Sem Bool} (he:PE X o ta) (c:kr X.K C) (hm:Meth X.K C m f) (F:gG X.prog X.w X.K X.mg X.base CX k f fd ps sp) (hr:cU k X.A) (hb:Binds X.K fd ps ds) (hd:Vals gH ds) (hx:Passes CX X E) (ha:PA X (e :: es) t)
  (hst:starEach (e :: es) X.env = (false,eval e X.env) :: starEach es X.env:=by rfl) (hpl:(backTo pos (starEach es X.env)).any (·.1) = false:=by rfl)
  (ht:eval (.Call (.Attribute o m apos) (e :: es) [] pos) X.env = (do
    let ov ← eval o X.env
    standAt apos.atName
    let (f,first) ← holding [ov] (getMethod ov m pl)
    callWith pos f first (backTo pos (starEach (e :: es) X.env)) (backToKw pos (keywordEach [] X.env))):=by rfl):
  PE X (.Call (.Attribute o m apos) (e :: es) [] pos) (z_ C m sp gH E ta t):=by
 intro pins s σ H Q I h
 refine PySem.W.methodCall_KW (pl:=pl) (aP (he pins s σ H _ I h) fun u s1 ⟨x,H1,I1,rx,a,dx,fs,ex,ea,l,q⟩=>?_) ht
 subst ex
 obtain rfl:u = Value.ref a:=rx
 refine vh I1 ea c hm l ?_
 refine PySem.W.callWith_K (first:=[.ref a]) (h₀:=X.base) I.ok.mod.E2 hm.kp (aP (ha pos pins s1 σ H1 _ I1 q) fun us s2 ⟨vs,H2,I2,r,q2⟩=>⟨I2.f7,?_⟩) hst hpl
 exact Ao (us:= .ref a :: us) (vs:= .ref a :: vs) F hr hb hd hx I2 (.cons rfl r) q2
theorem HG {pl:Sem Bool} (he:PE X o ta) (c:kr X.K C) (hm:Meth X.K C m f) (F:gG X.prog X.w X.K X.mg X.base CX k f fd ps sp) (hr:cU k X.A) (hb:Binds X.K fd ps ds) (hd:Vals gH ds) (hx:Passes CX X E)
  (ht:eval (.Call (.Attribute o m apos) [] [] pos) X.env = (do
    let ov ← eval o X.env
    standAt apos.atName
    let (f,first) ← holding [ov] (getMethod ov m pl)
    callWith pos f first (backTo pos (starEach [] X.env)) (backToKw pos (keywordEach [] X.env))):=by rfl):
  PE X (.Call (.Attribute o m apos) [] [] pos) (z_ C m sp gH E ta uy):=by
 intro pins s σ H Q I h
 refine PySem.W.methodCall_KW (pl:=pl) (aP (he pins s σ H _ I h) fun u s1 ⟨x,H1,I1,rx,a,dx,fs,ex,ea,l,q⟩=>?_) ht
 subst ex
 obtain rfl:u = Value.ref a:=rx
 refine vh I1 ea c hm l ?_
 exact PySem.W.callWith_K0 (first:=[.ref a]) I1.f7 hm.kp (Ao (us:=[.ref a]) (vs:=[.ref a]) F hr hb hd hx I1 (.cons rfl .nil) q)
structure Mk (K:PySem.W.Frag) (C f:Addr):Prop where
 makes:PySem.W.makesIn K C = true
 init:PySem.W.findIn K (.ref C) "__init__" = some (some (.ref f))
 fn:PySem.W.isFn K (.ref f) = true
 kp:PySem.W.keepIn K (.ref C) = true
theorem Aq {pins:List (Addr × Obj)} {σ:St} {H:Hp} {s:Shared} {Q:VK} {us:List Value} {vs:List V} (M:Mk X.K C f) (F:gG X.prog X.w X.K X.mg X.base CX k f fd ps sp) (hr:cU (k + 1) X.A) (hb:Binds X.K fd ps ds) (hd:Vals gH ds)
  (hx:Passes CX X E) (I:Inv X pins σ H s) (r:Vals vs us)
  (h:∀x dx,H x = none→H dx = none→dx ≠ x→sp (.ref x :: (vs ++ gH)) (upd (upd H dx (.own x)) x (.ins C dx [])) (fun v H2=>v = .bE∧Q (.ref x) H2) E):
  wpAny (model X.prog X.w) X.A (call (.ref C) us) (EP X pins σ Q) X.xe s:=by
 have hq:=h (s.heap.objs.size + 1) s.heap.objs.size (I.hok.fresh (Nat.le_succ _)) (I.hok.fresh (Nat.le_refl _)) (Nat.ne_of_lt (Nat.lt_succ_self _))
 have I2:=Inv.made (C:=C) I
 have r2:Vals (V.ref (s.heap.objs.size + 1) :: (vs ++ gH)) (Value.ref (s.heap.objs.size + 1) :: (us ++ ds)):= .cons rfl (r.append hd)
 have hl:(Value.ref (s.heap.objs.size + 1) :: us ++ ds).length = ps.length:=by
  have e:=r2.length
  rw [F.len _ _ _ _ hq] at e
  exact e.symm
 refine wpAny_call (HF (f:=f) I.f7 M.makes M.init (beq_iff_eq.mp M.fn) (codeAny_mono (F.run _ X.stack _ _ ⟨Value.ref (s.heap.objs.size + 1) :: us,[]⟩ (Value.ref (s.heap.objs.size + 1) :: (us ++ ds)) _ _ E (hr.make C us [])
  (I2.Ly.make C us []) (hb _ (Value.ref (s.heap.objs.size + 1) :: us) I2.f7 hl) r2 hq) fun r s' hq'=>?_))
 cases r with
 | error e=>exact hx pins σ _ _ e s' I2 hq'
 | ok fl=>
   cases fl with
   | ret u=>
     obtain ⟨v,H',I3,rv,ev,q3⟩:=I2.after hq'
     subst ev
     exact ⟨rv,⟨V.ref (s.heap.objs.size + 1),H',I3,rfl,q3⟩⟩
   | next=>exact False.elim hq'
   | brk=>exact False.elim hq'
   | cont=>exact False.elim hq'
theorem Ke (M:Mk X.K C f) (F:gG X.prog X.w X.K X.mg X.base CX k f fd ps sp) (hr:cU (k + 1) X.A) (hg:Gl X x) (hm:X.mg x = some (.ref C)) (hb:Binds X.K fd ps ds) (hd:Vals gH ds) (hx:Passes CX X E)
  (ha:PA X (e :: es) t) (hdb:(x == ("__debug__":Str)) = false:=by decide) (he:starEach (e :: es) X.env = (false,eval e X.env) :: starEach es X.env:=by rfl) (hpl:(backTo pos (starEach es X.env)).any (·.1) = false:=by rfl):
  PE X (.Call (.Name x p) (e :: es) [] pos) (Aa C sp gH E t):=by
 intro pins s σ H Q I h
 refine wpAny_Call_Name_kw (sf I hg hm ?_ hdb)
 refine PySem.W.callWith_K (h₀:=X.base) I.ok.mod.E2 M.kp (aP (ha pos pins s σ H _ I h) fun us s1 ⟨vs,H1,I1,r,q⟩=>⟨I1.f7,?_⟩) he hpl
 exact Aq M F hr hb hd hx I1 r q
theorem HJ (M:Mk X.K C f) (F:gG X.prog X.w X.K X.mg X.base CX k f fd ps sp) (hr:cU (k + 1) X.A) (hg:Gl X x) (hm:X.mg x = some (.ref C)) (hb:Binds X.K fd ps ds) (hd:Vals gH ds) (hx:Passes CX X E)
  (hdb:(x == ("__debug__":Str)) = false:=by decide):PE X (.Call (.Name x p) [] [] pos) (Aa C sp gH E uy):=by
 intro pins s σ H Q I h
 refine wpAny_Call_Name_kw (sf I hg hm ?_ hdb)
 exact PySem.W.callWith_K0 I.f7 M.kp (Aq (us:=[]) M F hr hb hd hx I .nil h)
end
section
variable {X:Cx} {CX:qA} {k:Nat} {f C:Addr} {fd:FuncData} {ps ks:List Str} {sp:Sp} {E:XK} {x m:Str} {p pos apos kpos:Pos} {e o:Expr} {es:List Expr} {kws:List Keyword} {te ta:TE} {t tk:TA} {nm:Option Str}
variable {g:List Value→List Value→List Value} {gV:List V→List V→List V}
end
structure aI (N P:List Str) (sc:Scope):Prop where
 kind:sc.kind = .function
 co:sc.isCoroutine = false
 gen:sc.isGenerator = false
 nd:N.Nodup
 pre:N.take P.length = P
 par:∀x∈P,sc.names.lookup x = some .local∨sc.names.lookup x = some .cell
 Lz:∀y∈sc.names,y.2 ≠ .free
theorem yf {kindOf:Str→Option NameKind} {x:Str}:∀{binds:List (Str × Value)} {m:Str→Option Value},(∀v,(x,v) ∉ binds)→bindL kindOf binds m x = m x
 | [],_,_=>rfl
 | (n,v) :: r,m,h=>by
   unfold bindL
   rw [yf fun w hw=>h w (List.mem_cons_of_mem _ hw)]
   split
   · have:x ≠ n:=by rintro rfl;exact h v List.mem_cons_self
     simp [this]
   · rfl
theorem yg {kindOf:Str→Option NameKind} {x:Str}:∀{binds:List (Str × Value)} {m:Str→Option Value},(∀v,(x,v) ∉ binds)→bindC kindOf binds m x = m x
 | [],_,_=>rfl
 | (n,v) :: r,m,h=>by
   unfold bindC
   rw [yg fun w hw=>h w (List.mem_cons_of_mem _ hw)]
   split
   · rfl
   · have:x ≠ n:=by rintro rfl;exact h v List.mem_cons_self
     simp [this]
theorem yh {kindOf:Str→Option NameKind} {x:Str} {v:Value}:∀{P:List Str} {vs:List Value} {i:Nat} {m:Str→Option Value},P.Nodup→P[i]? = some x→vs[i]? = some v→kindOf x = some .local→
  bindL kindOf (P.zip vs) m x = some v
 | [],_,_,_,_,h,_,_=>by simp at h
 | _ :: _,[],_,_,_,_,h,_=>by simp at h
 | p :: P,w :: vs,0,m,nd,h1,h2,hk=>by
   simp at h1 h2;subst h1;subst h2
   show bindL kindOf ((p,w) :: P.zip vs) m p = _
   unfold bindL
   rw [yf fun v hv=>(List.nodup_cons.mp nd).1 (List.of_mem_zip hv).1,if_pos hk]
   simp
 | p :: P,w :: vs,i + 1,m,nd,h1,h2,hk=>by
   show bindL kindOf ((p,w) :: P.zip vs) m x = _
   unfold bindL
   exact yh (i:=i) (List.nodup_cons.mp nd).2 (by simpa using h1) (by simpa using h2) hk
theorem yi {kindOf:Str→Option NameKind} {x:Str} {v:Value}:∀{P:List Str} {vs:List Value} {i:Nat} {m:Str→Option Value},P.Nodup→P[i]? = some x→vs[i]? = some v→kindOf x ≠ some .local→
  bindC kindOf (P.zip vs) m x = some v
 | [],_,_,_,_,h,_,_=>by simp at h
 | _ :: _,[],_,_,_,_,h,_=>by simp at h
 | p :: P,w :: vs,0,m,nd,h1,h2,hk=>by
   simp at h1 h2;subst h1;subst h2
   show bindC kindOf ((p,w) :: P.zip vs) m p = _
   unfold bindC
   rw [yg fun v hv=>(List.nodup_cons.mp nd).1 (List.of_mem_zip hv).1,if_neg hk]
   simp
 | p :: P,w :: vs,i + 1,m,nd,h1,h2,hk=>by
   show bindC kindOf ((p,w) :: P.zip vs) m x = _
   unfold bindC
   exact yi (i:=i) (List.nodup_cons.mp nd).2 (by simpa using h1) (by simpa using h2) hk
def start (N:List Str) (vs:List V):St:=vs.map some ++ List.replicate (N.length - vs.length) none
def pA (CX:qA) (P:Program) (w:World) (K:PySem.W.Frag) (mg:Str→Option Value) (base:Heap) (N:List Str) (qual:Str) (scope:Scope) (f:Addr) (cd:Value) (A:Around) (outer:List Env) (s:Shared) (H:Hp) (E:XK):Cx where
 prog:=P
 w:=w
 K:=K
 mg:=mg
 base:=base
 A:=A.deeper (envOfC qual scope s.heap.objs.size f cd)
 N:=N
 s₀:=s
 H₀:=H
 env:=envOfC qual scope s.heap.objs.size f cd
 outer:=outer
 stack:=envOfC qual scope s.heap.objs.size f cd :: outer
 ex:=[]
 calm:=true
 fn:=fun _=>true
 pn:=[]
 xe:=fun e s'=>wpAny (model P w) (A.deeper (envOfC qual scope s.heap.objs.size f cd)) (leaving (envOfC qual scope s.heap.objs.size f cd) e) (fun _ s''=>CX outer H s E e s'') (fun e' s''=>CX outer H s E e' s'') s'
theorem Ar {sc:Scope} {n:Nat} {x:Str} (h:sc.names.lookup x = some .cell):∃c,(cellsFrom n sc.names []).lookup x = some c:=by
 have q:=PySem.W.cellsFrom_some sc.names n [] (.inl h)
 exact Option.isSome_iff_exists.mp q
theorem Fe {CX:qA} {P:Program} {w:World} {K:PySem.W.Frag} {mg:Str→Option Value} {base:Heap} {N ps:List Str} {qual:Str} {scope:Scope} {f:Addr} {cd:Value} {A:Around} {outer:List Env} {s s1:Shared} {H:Hp} {E:XK} {us:List Value} {vs:List V}
  (S:aI N ps scope) (hd:A.handled = none) (e0:uz P w K mg base A outer s H) (hl:vs.length = ps.length) (r:Vals vs us)
  (x:InCallC s s.heap.objs.size (bindL (envOfC qual scope s.heap.objs.size f cd).kindOf (ps.zip us) fun _=>none) (cellsFrom (s.heap.objs.size + 1) scope.names []) (bindC (envOfC qual scope s.heap.objs.size f cd).kindOf (ps.zip us) fun _=>none) s1):
  Inv (pA CX P w K mg base N qual scope f cd A outer s H E) [] (start N vs) H s1:=by
 have hpl:ps.length≤N.length:=by have:=congrArg List.length S.pre;rw [List.length_take] at this;omega
 obtain ⟨h1,tk,rfl,hk⟩:=x.done
 have Ff:∀b:Addr,b ∉ (pA CX P w K mg base N qual scope f cd A outer s H E).ex:=fun b z=>absurd (show b∈([] :List Addr) from z) (by simp)
 refine ⟨⟨e0.mod,S.kind,rfl,rfl,Nat.le_refl _,fun y z c h1 h2=>?_,fun y hy=>?_,fun y c _ h=>?_,fun _=>hd,Around.frames_deeper e0.frames, .inr ⟨rfl,rfl⟩,fun b z=>absurd z (Ff b),e0.bs,e0.yd,fun b _ _=>Ff b,fun b z=>absurd z (Ff b),e0.kG,e0.Ag⟩,
  rfl,e0.bare,Un.kept hk,⟨_,x.toInCall.ns,fun i y v h1 h2 h3=>?_⟩,fun y c h=>⟨_,x.cell y c h⟩,e0.hok.fresh (Nat.le_refl _),fun y c h=>?_,fun p hp=>absurd (show p∈([] :List (Addr × Obj)) from hp) (by simp),e0.hok.kept hk,?_⟩
 · exact name_of_addr x.apart (PySem.mem_of_lookup h1) (PySem.mem_of_lookup h2)
 · have hy:scope.names.lookup y = some .cell∨scope.names.lookup y = some .free:=hy
   rcases hy with hy | hy
   · exact Ar hy
   · exact absurd rfl (S.Lz _ (PySem.mem_of_lookup hy))
 · exact Nat.le_of_lt (x.above y c (PySem.mem_of_lookup h))
 · have hi:i < vs.length:=by
    unfold start at h2
    by_cases hi:i < vs.length
    · exact hi
    · rw [List.getElem?_append_right (by simpa using hi)] at h2
      rw [List.getElem?_replicate] at h2
      split at h2 <;> cases h2
   have ha:vs[i]? = some v:=by
    unfold start at h2
    rw [List.getElem?_append_left (by simpa using hi),List.getElem?_map] at h2
    cases e:vs[i]? with
    | none=>rw [e] at h2;cases h2
    | some a=>rw [e] at h2;cases h2;rfl
   obtain ⟨u,hu,rv⟩:=r.get ha
   have hp:ps[i]? = some y:=by
    rw [← S.pre,List.getElem?_take_of_lt (by omega)];exact h1
   have Oh:ps.Nodup:=by rw [← S.pre];exact S.nd.sublist (List.take_sublist _ _)
   refine ⟨u,rv,?_⟩
   rcases S.par y (List.mem_of_getElem? hp) with k | k
   · exact .inl ⟨k,yh Oh hp hu k⟩
   · obtain ⟨c,e⟩:=Ar (n:=s.heap.objs.size + 1) k
     refine .inr ⟨.inl k,c,e,?_⟩
     have q:=x.cell y c e
     rw [yi Oh hp hu (by show scope.names.lookup y ≠ _;rw [k];decide)] at q
     exact q
 · exact e0.hok.fresh (Nat.le_of_lt (x.above y c (PySem.mem_of_lookup h)))
 · unfold start
   show _ = N.length
   rw [List.length_append,List.length_map,List.length_replicate]
   omega
theorem NP {CX:qA} {P:Program} {w:World} {K:PySem.W.Frag} {mg:Str→Option Value} {base:Heap} {k:Nat} {f:Addr} {name qual:Str} {params:Arguments} {body:List Stmt} {scope:Scope} {dV kV doc pm cdv ct oc:Value} {an od:Option Addr}
  {osl:Array (Option Value)} {N ps:List Str} {sp:Sp} (lk:K.lookup f = some ⟨oc,od, .func (PySem.W.fnOf name qual params body scope dV kV doc pm an cdv ct),osl⟩) (hcd:PySem.W.codeIn K cdv qual = true) (S:aI N ps scope)
  (len:∀vs H Q E,sp vs H Q E→vs.length = ps.length)
  (hbody:∀(A:Around) (outer:List Env) (s:Shared) (H:Hp) (vs:List V) (Q:VK) (E:XK),cU k (A.deeper (envOfC qual scope s.heap.objs.size f cdv))→sp vs H Q E→
    ∃t,jK (pA CX P w K mg base N qual scope f cdv A outer s H E) body t∧t { nx:=fun _ H'=>Q .bE H',rt:=Q } (start N vs) H):
  gG P w K mg base CX (k + 1) f (PySem.W.fnOf name qual params body scope dV kV doc pm an cdv ct) ps sp:=by
 refine ⟨len,fun A outer s H args us vs Q E hr e0 hb r lT=>?_⟩
 have hl:=len _ _ _ _ lT
 have KX:K.In s.heap:=e0.mod.E2.keeps fun b o e=>(e0.bs b o e).1
 have lim:s.heap.NoLimit:=e0.mod.nolimit.keeps fun b o e=>(e0.bs b o e).1
 have hkind:∀y∈ps.zip us,scope.names.lookup y.1 = some .local∨(scope.names.lookup y.1 = some .cell∧((cellsFrom (s.heap.objs.size + 1) scope.names []).lookup y.1).isSome = true):=fun ⟨n,v⟩ hy=>by
  rcases S.par n (List.of_mem_zip hy).1 with q | q
  · exact .inl q
  · exact .inr ⟨q,PySem.W.cellsFrom_some _ _ _ (.inl q)⟩
 refine codeAny_call_function hr.depth (KX _ _ lk) rfl S.co S.gen rfl (PySem.W.codeRec_of KX hcd) (hb _ _ _ _ ?_)
 refine wpAny_newFunctionEnv_cells S.kind hkind fun env he s1 x=>?_
 subst he
 refine ⟨lim.keeps x.toInCall.keep,codeAny_func ?_⟩
 obtain ⟨t,ht,hq⟩:=hbody A outer s H vs Q E (hr.deeper _) lT
 have I:Inv (pA CX P w K mg base N qual scope f cdv A outer s H E) [] (start N vs) H s1:=Fe S hr.hd e0 hl r x
 refine wpAny_mono (ht [] s1 (start N vs) H _ I hq) (fun fl s' hs=>?_) fun e s' hs=>hs
 have fin:∀{σ':St} {H':Hp} {v:V} {u:Value},Inv (pA CX P w K mg base N qual scope f cdv A outer s H E) [] σ' H' s'→RelV v u→Q v H'→CE outer P w H s Q u s':=
  fun {σ' H' v u} J rv q=>⟨v,H',J.os,J.bare,J.base,J.hok,rv,q⟩
 cases fl with
 | ret u=>
   obtain ⟨v,σ',H',J,rv,q⟩:=hs
   exact fin J rv q
 | next=>
   obtain ⟨σ',H',J,q⟩:=hs
   exact fin (v:=V.bE) (u:=Value.none) J rfl q
 | brk=>
   obtain ⟨_,_,_,q⟩:=hs
   exact False.elim q
 | cont=>
   obtain ⟨_,_,_,q⟩:=hs
   exact False.elim q
end L2
namespace L2
open PySem PySem.Spec PyProof.Rows
section
variable {X:Cx} {x:Str} {p pos:Pos} {e:Expr} {es:List Expr} {t:TA} {id T:String} {r:List V→Hp→VK→Prop}
def Oi (r:List V→Hp→VK→Prop) (t:TA):TE:=fun σ H Q=>t σ H fun vs H1=>r vs H1 Q
theorem aE (hc:dZ X (.builtin id) r) (hg:Gl X x) (hm:X.mg x = none) (hv:bootBuiltins x = some (.builtin id)) (ha:PA X (e :: es) t) (hn:x ≠ "__name__":=by decide) (hdb:(x == ("__debug__":Str)) = false:=by decide)
  (he:starEach (e :: es) X.env = (false,eval e X.env) :: starEach es X.env:=by rfl) (hpl:(backTo pos (starEach es X.env)).any (·.1) = false:=by rfl):PE X (.Call (.Name x p) (e :: es) [] pos) (Oi r t):=by
 intro pins s σ H Q I h
 refine wpAny_Call_Name_kw (oz I hg hm hv ?_ hn hdb)
 exact PyProof.Rows.callWith_builtin1 (aP (ha pos pins s σ H _ I h) fun us s1 ⟨vs,H1,I1,r1,q1⟩=>hc pins s1 σ H1 vs us Q I1 r1 q1) he hpl
theorem iZ (hc:dZ X (.type T) r) (hg:Gl X x) (hm:X.mg x = none) (hv:bootBuiltins x = some (.type T)) (ha:PA X (e :: es) t) (hn:x ≠ "__name__":=by decide) (hdb:(x == ("__debug__":Str)) = false:=by decide)
  (he:starEach (e :: es) X.env = (false,eval e X.env) :: starEach es X.env:=by rfl) (hpl:(backTo pos (starEach es X.env)).any (·.1) = false:=by rfl):PE X (.Call (.Name x p) (e :: es) [] pos) (Oi r t):=by
 intro pins s σ H Q I h
 refine wpAny_Call_Name_kw (oz I hg hm hv ?_ hn hdb)
 exact PyProof.Rows.callWith_type1 (aP (ha pos pins s σ H _ I h) fun us s1 ⟨vs,H1,I1,r1,q1⟩=>hc pins s1 σ H1 vs us Q I1 r1 q1) he hpl
end
end L2
namespace HT
open PySem PyProof.Rows
section
open PySem.SeqAt
open PySem.AutoSeq1 (wpAny_loadPart')
open PySem.MeetsSeq PySem.MeetsSeq2 PySem.MeetsSeq3
end
section
variable {prog:Program} {w:World} {A:Around} {E:Value→Shared→Prop} {s:Shared}
end
end HT
namespace L2
open PySem PySem.Spec PyProof.Rows
theorem intsAre_of {ns:List Int}:∀{us:List Value},Vals (ns.map V.int) us→IntsAre us ns:=by
 induction ns with
 | nil=>intro us r;rw [List.map_nil] at r;cases r;exact .nil
 | cons n ns ih=>
   intro us r
   rw [List.map_cons] at r
   cases r with
   | cons r1 r2=>
     obtain ⟨t,e⟩:=r1
     subst e
     exact .cons n t (ih r2)
section
variable {X:Cx} {e:Expr} {te:TE} {lo hi:Option Expr} {tl th:TO} {pos p2:Pos}
end
end L2
namespace L2
open PySem PySem.Spec PyProof.Rows
def vm (n:Nat) (i:Int):Option Nat:=if 0≤i then (if i < n then some i.toNat else none) else if -(n:Int)≤i then some (i + n).toNat else none
def oG {α:Type} (xs:List α) (i:Int):Option α:=(vm xs.length i).bind fun j=>xs[j]?
theorem Dh {n:Nat} {i:Int} {j:Nat} (h:vm n i = some j):seqIndex? i n = some j∧j < n∧-(n:Int)≤i∧i < n:=by
 unfold vm at h
 by_cases h0:0≤i
 · rw [if_pos h0] at h
   by_cases h1:i < n
   · rw [if_pos h1] at h
     have e:i.toNat = j:=Option.some.inj h
     exact ⟨by rw [seqIndex_of h0 h1,e],by omega,by omega,h1⟩
   · rw [if_neg h1] at h;cases h
 · rw [if_neg h0] at h
   by_cases h1:-(n:Int)≤i
   · rw [if_pos h1] at h
     have e:(i + n).toNat = j:=Option.some.inj h
     exact ⟨by rw [seqIndex_neg (by omega) h1,e],by omega,h1,by omega⟩
   · rw [if_neg h1] at h;cases h
theorem xj {α:Type} {xs:List α} {i:Int} {v:α} (h:oG xs i = some v):∃j,seqIndex? i xs.length = some j∧xs[j]? = some v∧j < xs.length∧-(xs.length:Int)≤i∧i < xs.length:=by
 unfold oG at h
 cases e:vm xs.length i with
 | none=>rw [e] at h;cases h
 | some j=>
   rw [e] at h
   obtain ⟨h1,h2,h3,h4⟩:=Dh e
   exact ⟨j,h1,h,h2,h3,h4⟩
theorem bB {α:Type} {xs:List α} {j:Nat} {v:α} (h:xs[j]? = some v):oG xs (j:Int) = some v:=by
 have hj:j < xs.length:=(List.getElem?_eq_some_iff.mp h).1
 have e:vm xs.length (j:Int) = some j:=by
  unfold vm
  rw [if_pos (by omega),if_pos (by omega)];simp
 unfold oG;rw [e];exact h
def Kf (b:Expr):Prop:=∀o i,subscripted b false o i = operate [o,i] (getItem o i)
def p6 (X:Cx) (r:R2):Prop:=
 ∀(value slice:Expr) (pins:List (Addr × Obj)) (s:Shared) (σ:St) (H:Hp) (x y:V) (v u:Value) (Q:VK),Inv X pins σ H s→RelV x v→RelV y u→r x y H Q→
  subscripted slice false v u = operate [v,u] (getItem v u)→wpAny (model X.prog X.w) X.A (subscriptTail value slice v u) (EP X pins σ Q) X.xe s
def Oj (X:Cx) (id:String) (r:V→List V→Hp→VK→Prop):Prop:=
 ∀(pins:List (Addr × Obj)) (s:Shared) (σ:St) (H:Hp) (x:V) (xs:List V) (v:Value) (us:List Value) (Q:VK),Inv X pins σ H s→RelV x v→Vals xs us→r x xs H Q→
  wpAny (model X.prog X.w) X.A (call (.builtin id) (v :: us)) (EP X pins σ Q) X.xe s
section
variable {X:Cx} {a b:Expr} {ta tb:TE} {pos:Pos}
theorem p6.or {r r':R2} (h:p6 X r) (h':p6 X r'):p6 X (fun x y H Q=>r x y H Q∨r' x y H Q):=by
 intro value slice pins s σ H x y v u Q I rx ry q hs
 rcases q with q | q
 · exact h value slice pins s σ H x y v u Q I rx ry q hs
 · exact h' value slice pins s σ H x y v u Q I rx ry q hs
theorem aK {r:R2} (hr:p6 X r) (ha:PE X a ta) (hb:PE X b tb) (hs:Kf b):PE X (.Subscript a b pos) (Je r ta tb):=by
 intro pins s σ H Q I h
 exact Subscript_ (Hz ha hb I h fun v u s2 x y H2 I2 rx ry q=>hr a b pins s2 σ H2 x y v u Q I2 rx ry q (hs _ _))
def HK (K:PySem.W.Frag):R2:=fun x y H Q=>∃p xs i v,x = .ref p∧y = .int i∧av K H p xs∧oG xs i = some v∧Q v H
def HL (K:PySem.W.Frag):R2:=fun x y H Q=>∃p xs i v,x = .ref p∧y = .int i∧cA K H p xs∧oG xs i = some v∧Q v H
def LA:R2:=fun x y H Q=>∃z i c,x = .str z∧y = .int i∧z.length≤sizeLine∧oG z.cps.toList i = some c∧Q (.str ⟨#[c]⟩) H
theorem Di:p6 X (HK X.K):=by
 intro value slice pins s σ H x y v u Q I rx ry h hs
 obtain ⟨p,xs,i,z,rfl,rfl,hq,he,q⟩:=h
 cases rx
 obtain ⟨t,rfl⟩:=ry
 obtain ⟨its,r,pl,hz⟩:=I.list hq
 obtain ⟨j,h1,h2,h3,h4,h5⟩:=xj he
 obtain ⟨w,ew,rw'⟩:=r.get h2
 have hl:=r.length
 have hn:=oF
 have fin:EP X pins σ Q w s:=⟨z,H,I,rw',q⟩
 by_cases h0:0≤i
 · have hj:i.toNat = j:=by
    rw [seqIndex_of h0 h5] at h1
    exact Option.some.inj h1
   exact item_listR pl.isList h0 (by omega) (by rw [hj];simpa using ew) fin hs
 · have hj:(i + (its.toArray.size:Int)).toNat = j:=by
    rw [seqIndex_neg (by omega) h4] at h1
    rw [List.size_toArray,← hl]
    exact Option.some.inj h1
   exact subscriptTail_builtinR (x:=w) pl.isList.typeIs slot_list_getitem.lookup
    (wpAny_getItem_list_neg (Q:=fun r s'=>r = w∧EP X pins σ Q r s') pl.isList (by omega) (by rw [List.size_toArray] <;> omega) (by omega) (by rw [hj];simpa using ew) ⟨rfl,fin⟩) hs
theorem Fg:p6 X (HL X.K):=by
 intro value slice pins s σ H x y v u Q I rx ry h hs
 obtain ⟨p,xs,i,z,rfl,rfl,hq,he,q⟩:=h
 cases rx
 obtain ⟨t,rfl⟩:=ry
 obtain ⟨its,r,pl,hz⟩:=I.tuple hq
 obtain ⟨j,h1,h2,h3,h4,h5⟩:=xj he
 obtain ⟨w,ew,rw'⟩:=r.get h2
 have hl:=r.length
 have hn:=oF
 have fin:EP X pins σ Q w s:=⟨z,H,I,rw',q⟩
 exact subscriptTail_builtinR (x:=w) pl.typeIs slot_tuple_getitem.lookup
  (getItem_tuple (j:=j) (Q:=fun r s'=>r = w∧EP X pins σ Q r s') pl (by omega) (by omega) (by rw [List.size_toArray,← hl];exact h1) (by simpa using ew) ⟨rfl,fin⟩) hs
theorem Fi:p6 X LA:=by
 intro value slice pins s σ H x y v u Q I rx ry h hs
 obtain ⟨z,i,c,rfl,rfl,hz,he,q⟩:=h
 obtain ⟨t,rfl⟩:=rx
 obtain ⟨t',rfl⟩:=ry
 obtain ⟨j,h1,h2,h3,h4,h5⟩:=xj he
 have hl:z.cps.toList.length = z.length:=by simp [Str.length]
 rw [hl] at h1 h4 h5
 have hn:=oF
 exact tail_any (typeIs_str s z t) slot_str_getitem.lookup (getItem_str (c:=c) (by
  have e1:decide (i < -(2 ^ 63:Int)) = false:=decide_eq_false (by omega)
  have e2:decide (i ≥ 2 ^ 63) = false:=decide_eq_false (by omega)
  rw [e1,e2,Bool.or_false]) (by rw [h1];simpa using h2) ⟨.str ⟨#[c]⟩,H,I.tok _,⟨_,rfl⟩,q⟩) hs
def LB (K:PySem.W.Frag):R2:=fun x y H Q=>HK K x y H Q∨HL K x y H Q∨LA x y H Q
theorem LC:p6 X (LB X.K):=Di.or (Fg.or Fi)
theorem Ej (its:List Value) (n j:Nat) (u:Value):Obj.mapSeq (·.setIfInBounds j u) { cls:= .type "list",data:= .seq its.toArray n } = { cls:= .type "list",data:= .seq (its.set j u).toArray n }:=by
 simp [Obj.mapSeq]
theorem Inv.lst {pins:List (Addr × Obj)} {σ:St} {H:Hp} {s:Shared} {p:Addr} {xs:List V} (I:Inv X pins σ H s) (h:H p = some (.lst xs)):
  ∃(its:List Value) (n:Nat),Vals xs its∧s.heap.get? p = some { cls:= .type "list",data:= .seq its.toArray n }∧xs.length≤sizeLine:=by
 obtain ⟨z,its,n,r,e⟩:=I.hok p _ h
 exact ⟨its,n,r,e,z⟩
theorem Inv.LD {pins:List (Addr × Obj)} {σ:St} {H:Hp} {s:Shared} {p:Addr} {xs ys:List V} {its its':List Value} {n n':Nat} {f:Obj→Obj} (I:Inv X pins σ H s) (h:H p = some (.lst xs))
  (ho:s.heap.get? p = some { cls:= .type "list",data:= .seq its.toArray n }) (hf:f { cls:= .type "list",data:= .seq its.toArray n } = { cls:= .type "list",data:= .seq its'.toArray n' }) (r:Vals ys its') (hz:ys.length≤sizeLine) (t:Nat):
  Inv X pins σ (upd H p (.lst ys)) { s with heap:=s.heap.update p f,toks:=t }:=by
 have e:(s.heap.update p f).get? p = some { cls:= .type "list",data:= .seq its'.toArray n' }:=by
  rw [Heap.get?_update_self f ho (by rw [hf] <;> rfl),hf]
 refine I.write (x:=p) (e:=p) (by rw [h];trivial) (.inl rfl) (fun b u hb q=>(Heap.get?_update_other _ _ (Ne.symm hb)).trans q) ⟨_,e⟩ ?_
 exact ⟨hz,its',n',r,e⟩
def NQ:V→V→V→Hp→(Hp→Prop)→Prop:=fun o i v H Q=>∃p xs k j,o = .ref p∧i = .int k∧H p = some (.lst xs)∧vm xs.length k = some j∧Q (upd H p (.lst (xs.set j v)))
theorem set_list:Lg X NQ:=by
 intro pins s σ H o i v ov iv u Q I ro ri rv h
 obtain ⟨p,xs,k,j,rfl,rfl,hp,hj,q⟩:=h
 cases ro
 obtain ⟨t,rfl⟩:=ri
 obtain ⟨its,n,r,ho,hz⟩:=I.lst hp
 obtain ⟨h1,h2,h3,h4⟩:=Dh hj
 have hl:=r.length
 have hn:=oF
 have I':Inv X pins σ (upd H p (.lst (xs.set j v))) { s with heap:=s.heap.update p (Obj.mapSeq (·.setIfInBounds j u)) }:=
  I.LD hp ho (Ej its n j u) (r.set rv j) (by rw [List.length_set];exact hz) s.toks
 by_cases h0:0≤k
 · have hk:k.toNat = j:=by
    rw [seqIndex_of h0 h4] at h1
    exact Option.some.inj h1
   exact PySem.W.ki_setAt ho h0 (by omega) (by rw [List.size_toArray,← hl];exact h4) (by rw [hk];exact ⟨_,I',q⟩)
 · have hk:(k + (its.toArray.size:Int)).toNat = j:=by
    rw [seqIndex_neg (by omega) h3] at h1
    rw [List.size_toArray,← hl]
    exact Option.some.inj h1
   exact PySem.W.ki_setBack ho (by omega) (by rw [List.size_toArray,← hl];exact h3) (by omega) (by rw [hk];exact ⟨_,I',q⟩)
def lE:V→Bool
 | .bE=>true
 | .bl _=>true
 | .int _=>true
 | .str _=>true
 | _=>false
def p7:V→V→Bool
 | .bE, .bE=>true
 | .bl a, .bl b=>a == b
 | .bl a, .int b=>(if a then 1 else 0) == b
 | .int a, .bl b=>a == (if b then 1 else 0)
 | .int a, .int b=>a == b
 | .str a, .str b=>a == b
 | _,_=>false
theorem LF {A:Around} {s:Shared} {y x:V} {u v:Value} (ry:RelV y u) (rx:RelV x v) (fy:lE y = true) (fx:lE x = true):SeqAt.EqAt A s u v (p7 y x):=by
 cases y with
 | bE=>
   cases ry
   cases x with
   | bE=>cases rx;exact SeqAt.EqAt.same _
   | bl b=>cases rx;exact SeqAt.EqAt.none_bool b
   | int b=>obtain ⟨t,rfl⟩:=rx;exact SeqAt.EqAt.none_int b t
   | str b=>obtain ⟨t,rfl⟩:=rx;exact SeqAt.EqAt.none_str b t
   | _=>exact absurd (show false = true from fx) Bool.false_ne_true
 | bl a=>
   cases ry
   cases x with
   | bE=>cases rx;exact SeqAt.EqAt.bool_none a
   | bl b=>cases rx;exact SeqAt.EqAt.bool_bool a b
   | int b=>obtain ⟨t,rfl⟩:=rx;exact SeqAt.EqAt.bool_int a b t
   | str b=>obtain ⟨t,rfl⟩:=rx;exact SeqAt.EqAt.bool_str a b t
   | _=>exact absurd (show false = true from fx) Bool.false_ne_true
 | int a=>
   obtain ⟨t',rfl⟩:=ry
   cases x with
   | bE=>cases rx;exact SeqAt.EqAt.int_none a t'
   | bl b=>cases rx;exact SeqAt.EqAt.int_bool a t' b
   | int b=>obtain ⟨t,rfl⟩:=rx;exact SeqAt.EqAt.int_int a t' b t
   | str b=>obtain ⟨t,rfl⟩:=rx;exact SeqAt.EqAt.int_str a t' b t
   | _=>exact absurd (show false = true from fx) Bool.false_ne_true
 | str a=>
   obtain ⟨t',rfl⟩:=ry
   cases x with
   | bE=>cases rx;exact SeqAt.EqAt.str_none a t'
   | bl b=>cases rx;exact SeqAt.EqAt.str_bool a t' b
   | int b=>obtain ⟨t,rfl⟩:=rx;exact SeqAt.EqAt.str_int a t' b t
   | str b=>obtain ⟨t,rfl⟩:=rx;exact SeqAt.EqAt.str_str a t' b t
   | _=>exact absurd (show false = true from fx) Bool.false_ne_true
 | _=>exact absurd (show false = true from fy) Bool.false_ne_true
def vn (x:V) (u:Value):Bool:=match u with
 | .none=>p7 .bE x
 | .bool b=>p7 (.bl b) x
 | .int i _=>p7 (.int i) x
 | .str z _=>p7 (.str z) x
 | _=>false
theorem Fj {x y:V} {u:Value} (r:RelV y u) (f:lE y = true):vn x u = p7 y x:=by
 cases y with
 | bE=>cases r;rfl
 | bl b=>cases r;rfl
 | int i=>obtain ⟨t,rfl⟩:=r;rfl
 | str z=>obtain ⟨t,rfl⟩:=r;rfl
 | _=>exact absurd (show false = true from f) Bool.false_ne_true
theorem xm {x:V}:∀{xs:List V} {us:List Value},Vals xs us→xs.all lE = true→us.any (vn x) = xs.any fun y=>p7 y x
 | _,_, .nil,_=>rfl
 | y :: xs,u :: us, .cons r t,f=>by
   rw [List.all_cons,Bool.and_eq_true] at f
   rw [List.any_cons,List.any_cons,Fj r f.1,xm t f.2]
theorem uA {A:Around} {s:Shared} {x:V} {v:Value} (rx:RelV x v) (fx:lE x = true):∀{xs:List V} {us:List Value},Vals xs us→xs.all lE = true→∀u∈us,SeqAt.EqAt A s u v (vn x u)
 | _,_, .nil,_=>fun u hu=>by cases hu
 | y :: xs,u :: us, .cons r t,f=>fun u' hu=>by
   rw [List.all_cons,Bool.and_eq_true] at f
   rcases List.mem_cons.mp hu with rfl | hu
   · rw [Fj r f.1];exact LF r rx f.1 fx
   · exact uA rx fx t f.2 u' hu
def Dj (x:V) (xs:List V):Bool:=xs.any fun y=>p7 y x
def RD (K:PySem.W.Frag) (neg:Bool):R2:=fun x y H Q=>∃p xs,y = .ref p∧(av K H p xs∨cA K H p xs)∧lE x = true∧xs.all lE = true∧Q (.bl (if neg then !Dj x xs else Dj x xs)) H
theorem Fl:eO X (compareOp .In) (RD X.K false):=by
 intro pins s σ H x y v u Q I rx ry h
 obtain ⟨p,xs,rfl,hq,fx,fs,q⟩:=h
 cases ry
 rcases hq with hq | hq
 · obtain ⟨its,r,pl,hz⟩:=I.list hq
   refine SeqAt.in_listAt (vn x) pl.isList (fun w hw=>uA rx fx r fs w (by simpa using hw)) ⟨.bl _,H,I,rfl,?_⟩
   rw [show its.toArray.any (vn x) = its.any (vn x) by simp,xm r fs]
   exact q
 · obtain ⟨its,r,pl,hz⟩:=I.tuple hq
   refine SeqAt.in_tupleAt (vn x) pl (fun w hw=>uA rx fx r fs w (by simpa using hw)) ⟨.bl _,H,I,rfl,?_⟩
   rw [show its.toArray.any (vn x) = its.any (vn x) by simp,xm r fs]
   exact q
theorem As:dZ X (.builtin "len") (fun xs H Q=>∃p ys,xs = [.ref p]∧(av X.K H p ys∨cA X.K H p ys)∧Q (.int ys.length) H):=by
 intro pins s σ H xs us Q I r h
 obtain ⟨p,ys,rfl,hq,q⟩:=h
 obtain ⟨u,rfl,rx⟩:=vals1 r
 cases rx
 have hn:=oF
 rcases hq with hq | hq
 · obtain ⟨its,r',pl,hz⟩:=I.list hq
   have hlen:=r'.length
   exact Calls.call_len_list pl.isList (by simp only [List.size_toArray] <;> omega) ⟨.int ys.length,H,I.tok _,⟨s.toks + 1,by rw [List.size_toArray,hlen]⟩,q⟩
 · obtain ⟨its,r',pl,hz⟩:=I.tuple hq
   have hlen:=r'.length
   exact len_tuple pl (by simp only [List.size_toArray] <;> omega) ⟨.int ys.length,H,I.tok _,⟨s.toks + 1,by rw [List.size_toArray,hlen]⟩,q⟩
theorem Au:dZ X (.builtin "len") (fun xs H Q=>∃z,xs = [.str z]∧z.length≤sizeLine∧Q (.int z.length) H):=by
 intro pins s σ H xs us Q I r h
 obtain ⟨z,rfl,hz,q⟩:=h
 obtain ⟨u,rfl,t,rfl⟩:=vals1 r
 have hn:=oF
 exact len_str (by omega) ⟨.int z.length,H,I.tok _,⟨_,rfl⟩,q⟩
theorem Av:dZ X (.type "list") (fun xs H Q=>∃p ys,xs = [.ref p]∧(av X.K H p ys∨cA X.K H p ys)∧∀l,H l = none→Q (.ref l) (upd H l (.lst ys))):=by
 intro pins s σ H xs us Q I r h
 obtain ⟨p,ys,rfl,hq,q⟩:=h
 obtain ⟨u,rfl,rx⟩:=vals1 r
 cases rx
 have fin:∀(its:List Value),Vals ys its→ys.length≤sizeLine→∀(h':Heap) (c':Nat),(∀b o',s.heap.get? b = some o'→h'.get? b = some o')→
   h'.get? s.heap.objs.size = some { cls:= .type "list",dict:=none,data:= .seq its.toArray c',slots:=#[] }→EP X pins σ Q (.ref s.heap.objs.size) { s with heap:=h' }:=fun its r' hz h' c' kp e=>
  ⟨.ref s.heap.objs.size,_,I.laid (t':=s.toks) kp (Nat.le_refl _) (show cy X.prog X.w _ h' _ (.lst ys) from ⟨hz,its,c',r',e⟩),rfl,q _ (I.hok.fresh (Nat.le_refl _))⟩
 rcases hq with hq | hq
 · obtain ⟨its,r',pl,hz⟩:=I.list hq
   have hlen:=r'.length
   obtain ⟨o,ho,hc,n,hd⟩:=pl.isList
   exact call_list_seq p (.inl rfl) ho hc hd (fun h' c' kp e=>fin its r' hz h' c' kp e) (by simp only [List.size_toArray] <;> omega)
 · obtain ⟨its,r',pl,hz⟩:=I.tuple hq
   have hlen:=r'.length
   obtain ⟨o,ho,hc,n,hd⟩:=pl
   exact call_list_seq p (.inr rfl) ho hc hd (fun h' c' kp e=>fin its r' hz h' c' kp e) (by simp only [List.size_toArray] <;> omega)
def LG (K:PySem.W.Frag) (T:String) (x:V) (H:Hp):Prop:=match x with
 | .str _=>T = "str"
 | .int _=>T = "int"
 | .ref p=>(T = "list"∧∃xs,av K H p xs)∨(T = "tuple"∧∃o,K.lookup p = some o∧o.cls = .type "tuple"∧o.dict = none)∨
     (T = "dict"∧((∃kvs,H p = some (.dK kvs))∨∃kvs,H p = some (.dT kvs)))∨(T = "set"∧∃S n,H p = some (.set S n))
 | _=>False
theorem Fo {pins:List (Addr × Obj)} {σ:St} {H:Hp} {s:Shared} {T:String} {x:V} {v:Value} (I:Inv X pins σ H s) (r:RelV x v) (ty:LG X.K T x H):
  s.TypeIs v T∧∀a,v = .ref a→∃ob,s.heap.get? a = some ob∧ob.dict = none:=by
 cases x with
 | str z=>
   obtain ⟨t,rfl⟩:=r
   cases (show T = "str" from ty)
   exact ⟨typeIs_str s z t,fun _ e=>nomatch e⟩
 | int i=>
   obtain ⟨t,rfl⟩:=r
   cases (show T = "int" from ty)
   exact ⟨typeIs_int s i t,fun _ e=>nomatch e⟩
 | ref p=>
   cases r
   rcases ty with ⟨rfl,xs,hq⟩ | ⟨rfl,o,hk,hc,hd⟩ | ⟨rfl,hk⟩ | ⟨rfl,S,n,hk⟩
   · obtain ⟨its,_,pl,_⟩:=I.list hq
     refine ⟨pl.isList.typeIs,fun a e=>?_⟩
     cases e
     obtain ⟨o,n,e,c,hd,_⟩:=pl
     exact ⟨o,e,hd⟩
   · refine ⟨⟨o,I.f7 p o hk,hc⟩,fun a e=>?_⟩
     cases e
     exact ⟨o,I.f7 _ o hk,hd⟩
   · have z:∃o,s.heap.get? p = some o∧o.ExactDict:=by
      rcases hk with ⟨kvs,hk⟩ | ⟨kvs,hk⟩
      · obtain ⟨_,_,_,_,o,_,_,e,ex,_⟩:=I.hok p _ hk
        exact ⟨o,e,ex⟩
      · obtain ⟨_,_,_,_,o,_,_,e,ex,_⟩:=I.hok p _ hk
        exact ⟨o,e,ex⟩
     obtain ⟨o,e,ex⟩:=z
     refine ⟨⟨o,e,ex.1⟩,fun a e2=>?_⟩
     cases e2
     exact ⟨o,e,ex.2.1⟩
   · obtain ⟨o,_,_,_,e,ex,_⟩:=I.hok p _ hk
     refine ⟨⟨o,e,ex.1⟩,fun a e2=>?_⟩
     cases e2
     exact ⟨o,e,ex.2.1⟩
 | _=>exact False.elim ty
def QU (K:PySem.W.Frag) (T:String) (r:V→List V→Hp→VK→Prop) (to:TE):TE:=fun σ H Q=>to σ H fun x H1=>LG K T x H1∧r x [] H1 Q
def RE (K:PySem.W.Frag) (T:String) (r:V→List V→Hp→VK→Prop) (to:TE) (t:TA):TE:=fun σ H Q=>to σ H fun x H1=>LG K T x H1∧t σ H1 fun xs H2=>r x xs H2 Q
variable {o e:Expr} {es:List Expr} {to:TE} {t:TA} {name:Str} {apos cpos:Pos} {T id:String} {r:V→List V→Hp→VK→Prop}
theorem LH (pa:PlainAttrs T) (slot:Slot T name id) (hty:typeOf (.builtin id) = pure (.type "method_descriptor")) (hm:Oj X id r) (ho:PE X o to)
  (hbase:attributeBase o name X.env (eval o X.env) = eval o X.env:=by rfl) (hline:(apos.endLine == cpos.line) = true:=by rfl):PE X (.Call (.Attribute o name apos) [] [] cpos) (QU X.K T r to):=by
 intro pins s σ H Q I h
 refine wpAny_Call_method0_late hbase hline (aP (ho pins s σ H _ I h) fun v s1 ⟨x,H1,I1,r1,ty,q1⟩=>?_)
 obtain ⟨h1,h2⟩:=Fo I1 r1 ty
 exact ⟨T,id,pa,slot,hty,h1,h2,Calls.callWith_builtin rfl (PySem.evalArgs_none (hm pins s1 σ H1 x [] v [] Q I1 r1 .nil q1))⟩
theorem lF (pa:PlainAttrs T) (slot:Slot T name id) (hty:typeOf (.builtin id) = pure (.type "method_descriptor")) (hm:Oj X id r) (ho:PE X o to) (ha:PA X (e :: es) t)
  (hbase:attributeBase o name X.env (eval o X.env) = eval o X.env:=by rfl)
  (hfew:((backTo cpos (starEach (e :: es) X.env)).all (fun x=>!x.1) && (backToKw cpos (keywordEach [] X.env)).all (fun x=>x.1.isSome)
    && decide ((e :: es).length + ([] :List Keyword).length + (if ([] :List Keyword).isEmpty then 0 else 1) < 30)) = true:=by rfl)
  (hline:(apos.endLine == cpos.line) = true:=by rfl) (hs:starEach (e :: es) X.env = (false,eval e X.env) :: starEach es X.env:=by rfl) (hplain:(backTo cpos (starEach es X.env)).any (·.1) = false:=by rfl):
  PE X (.Call (.Attribute o name apos) (e :: es) [] cpos) (RE X.K T r to t):=by
 intro pins s σ H Q I h
 refine wpAny_Call_method_late hbase hfew hline rfl (aP (ho pins s σ H _ I h) fun v s1 ⟨x,H1,I1,r1,ty,q1⟩=>?_)
 obtain ⟨h1,h2⟩:=Fo I1 r1 ty
 refine ⟨T,id,pa,slot,hty,h1,h2,?_⟩
 have hA:=ha cpos pins s1 σ H1 _ I1 q1
 rw [hs] at hA ⊢
 refine Calls.callWith_builtin (by show (false || (backTo cpos (starEach es X.env)).any (·.1)) = false;rw [hplain] <;> rfl) (Calls.evalArgs_plain ?_)
 exact aP hA fun us s2 ⟨vs,H2,I2,r2,q2⟩=>hm pins s2 σ H2 x vs v us Q I2 r1 r2 q2
end
end L2
namespace L2
open PySem PySem.Spec PyProof.Rows
def Ol (X:Cx) (id:String) (r:V→List V→Hp→VK→Prop):Prop:=
 ∀(pins:List (Addr × Obj)) (s:Shared) (σ:St) (H:Hp) (x:V) (xs:List V) (v:Value) (us:List Value) (Q:VK),Inv X pins σ H s→RelV x v→Vals xs us→r x xs H Q→
  wpAny (model X.prog X.w) X.A (call (.builtin id) (v :: us)) (EP X pins σ Q) X.xe s
theorem Vals.one:∀{x:V} {us:List Value},Vals [x] us→∃u,us = [u]∧RelV x u
 | _,_, .cons r .nil=>⟨_,rfl,r⟩
theorem Vals.zero:∀{us:List Value},Vals [] us→us = []
 | _, .nil=>rfl
theorem Vals.reverse {xs:List V} {us:List Value} (h:Vals xs us):Vals xs.reverse us.reverse:=by
 induction h with
 | nil=>exact .nil
 | cons r t ih=>rw [List.reverse_cons,List.reverse_cons];exact Vals.append ih (.cons r .nil)
theorem Vals.rep {xs:List V} {us:List Value} (h:Vals xs us):∀k:Nat,Vals (List.replicate k xs).flatten (List.replicate k us).flatten
 | 0=> .nil
 | k + 1=>by
   rw [List.replicate_succ,List.replicate_succ,List.flatten_cons,List.flatten_cons]
   exact Vals.append h (Vals.rep h k)
theorem foldl_rep (its:List Value):∀(k:Nat) (acc:List Value),
  List.foldl (fun x1 x2=>x1 ++ x2) acc.toArray (List.replicate k its.toArray) = (acc ++ (List.replicate k its).flatten).toArray
 | 0,acc=>by simp
 | k + 1,acc=>by
   have e:acc.toArray ++ its.toArray = (acc ++ its).toArray:=by simp
   have e2:(acc ++ its) ++ (List.replicate k its).flatten = acc ++ (List.replicate (k + 1) its).flatten:=by
    rw [List.replicate_succ,List.flatten_cons,List.append_assoc]
   rw [← e2,← foldl_rep its k (acc ++ its),← e,List.replicate_succ,List.foldl_cons]
section
variable {X:Cx} {pins:List (Addr × Obj)} {σ:St} {H:Hp} {s:Shared} {l b:Addr} {xs ys zs:List V}
theorem Inv.LI {its its':List Value} {n:Nat} {f:Array Value→Array Value} {t':Nat} (I:Inv X pins σ H s) (hH:H l = some (.lst xs))
  (e:s.heap.get? l = some { cls:= .type "list",data:= .seq its.toArray n }) (hf:f its.toArray = its'.toArray) (hv:Vals ys its') (hz:ys.length≤sizeLine):
  Inv X pins σ (upd H l (.lst ys)) { s with heap:=s.heap.update l (Obj.mapSeq f),toks:=t' }:=by
 have q:=PySem.IsL.update e f
 rw [hf] at q
 refine I.write (x:=l) (e:=l) (by rw [hH];exact trivial) (.inl rfl) (fun b' u hb hu=>(Heap.get?_update_other s.heap (Obj.mapSeq f) (Ne.symm hb)).trans hu) ⟨_,q⟩ ?_
 exact ⟨hz,its',_,hv,q⟩
theorem Inv.LJ {its:List Value} {t':Nat} (I:Inv X pins σ H s) (hv:Vals ys its) (hz:ys.length≤sizeLine):
  Inv X pins σ (upd H s.heap.objs.size (.lst ys)) { s with heap:=s.heap.push { cls:= .type "list",data:= .seq its.toArray },toks:=t' }:=
 I.laid (fun _ _ q=>Heap.get?_push_of_some _ q) (Nat.le_refl _) ⟨hz,its,0,hv,Heap.get?_push_size _ rfl⟩
theorem Inv.fresh (I:Inv X pins σ H s):H s.heap.objs.size = none:=I.hok.fresh (Nat.le_refl _)
theorem Inv.Aw (I:Inv X pins σ H s) (hH:H l = some (.lst xs)):xs.length≤sizeLine∧∃(its:List Value) (n:Nat),Vals xs its∧xs.length = its.length∧s.heap.get? l = some { cls:= .type "list",data:= .seq its.toArray n }:=by
 obtain ⟨z,its,n,r,e⟩:=I.hok l _ hH
 exact ⟨z,its,n,r,r.length,e⟩
theorem HM {n:Nat} (h:n≤sizeLine):Builtin.List.listTooLong n = false:=by
 unfold Builtin.List.listTooLong
 exact decide_eq_false (by omega)
end
section
variable {X:Cx}
def Kg:V→List V→Hp→VK→Prop:=fun x vs H Q=>∃l xs y,x = .ref l∧vs = [y]∧H l = some (.lst xs)∧xs.length < sizeLine∧Q .bE (upd H l (.lst (xs ++ [y])))
theorem dP:Ol X "list.append" Kg:=by
 intro pins s σ H x vs v us Q I rx rv h
 obtain ⟨l,xs,y,rfl,rfl,hH,hz,q⟩:=h
 cases rx
 obtain ⟨u,rfl,ru⟩:=rv.one
 obtain ⟨z,its,n,r,hl,e⟩:=I.Aw hH
 refine call_meets F.slot_list_append ⟨_,e,rfl⟩ F.entry_list_append (F.args_list_append_2 _ _) (PySem.list_append l its.toArray n u (by rw [List.size_toArray];omega)) ⟨e,?_⟩
 refine ⟨.bE,_,I.LI (its':=its ++ [u]) hH e (by simp) (r.append (.cons ru .nil)) ?_,rfl,q⟩
 rw [List.length_append,List.length_singleton]
 omega
def LK:V→List V→Hp→VK→Prop:=fun x vs H Q=>∃l xs,x = .ref l∧vs = []∧H l = some (.lst xs)∧Q .bE (upd H l (.lst []))
theorem HN:Ol X "list.clear" LK:=by
 intro pins s σ H x vs v us Q I rx rv h
 obtain ⟨l,xs,rfl,rfl,hH,q⟩:=h
 cases rx
 have RG:=rv.zero
 subst RG
 obtain ⟨z,its,n,r,hl,e⟩:=I.Aw hH
 refine call_meets F.slot_list_clear ⟨_,e,rfl⟩ F.entry_list_clear (F.args_list_clear_1 _) (AutoSeq1.list_clear_list_0 l its.toArray n (by rw [List.size_toArray];omega)) ⟨e,?_⟩
 exact ⟨.bE,_,I.LI (its':=[]) (ys:=[]) hH e rfl .nil (Nat.zero_le _),rfl,q⟩
def QV:R2:=fun x y H Q=>∃l b xs zs,x = .ref l∧y = .ref b∧H l = some (.lst xs)∧H b = some (.lst zs)∧xs.length + zs.length≤sizeLine∧∀p,H p = none→Q (.ref p) (upd H p (.lst (xs ++ zs)))
theorem LL:eO X (binaryOp .Add) QV:=by
 intro pins s σ H x y v u Q I rx ry h
 obtain ⟨l,b,xs,zs,rfl,rfl,hH,hB,hz,q⟩:=h
 cases rx
 cases ry
 obtain ⟨z,its,n,r,hl,e⟩:=I.Aw hH
 obtain ⟨z2,its2,n2,r2,hl2,e2⟩:=I.Aw hB
 refine PySem.P.add_list e e2 ?_ (by rw [List.size_toArray,List.size_toArray];omega)
 have ea:its.toArray ++ its2.toArray = (its ++ its2).toArray:=by simp
 rw [ea]
 exact ⟨.ref _,_,I.LJ (t':=s.toks) (r.append r2) (by rw [List.length_append];omega),rfl,q _ I.fresh⟩
def QW:R2:=fun x y H Q=>∃l k xs,x = .ref l∧y = .int k∧H l = some (.lst xs)∧-(2 ^ 63)≤k∧k < 2 ^ 63∧xs.length * k.toNat≤sizeLine∧
 ∀p,H p = none→Q (.ref p) (upd H p (.lst (List.replicate k.toNat xs).flatten))
theorem len_rep {α:Type} (xs:List α) (k:Nat):(List.replicate k xs).flatten.length = k * xs.length:=by
 induction k with
 | zero=>simp
 | succ k ih=>rw [List.replicate_succ,List.flatten_cons,List.length_append,ih,Nat.succ_mul,Nat.add_comm]
theorem LM:eO X (binaryOp .Mult) QW:=by
 intro pins s σ H x y v u Q I rx ry h
 obtain ⟨l,k,xs,rfl,rfl,hH,h1,h2,hz,q⟩:=h
 cases rx
 obtain ⟨t,rfl⟩:=ry
 obtain ⟨z,its,n,r,hl,e⟩:=I.Aw hH
 have hlen:its.toArray.size * k.toNat≤sizeLine:=by rw [List.size_toArray,← hl];exact hz
 have hcap:¬ its.toArray.size * k.toNat > (2 ^ 63 - 1) / 8:=by
  have:(sizeLine:Nat)≤(2 ^ 63 - 1) / 8:=by decide
  omega
 have hfit:¬ (!Builtin.List.listFitsIndex k) = true:=by
  rw [fitsIndex_both h1 h2]
  exact Bool.false_ne_true
 have NR:¬ Builtin.List.listTooLong (its.toArray.size * k.toNat) = true:=by
  rw [HM hlen]
  exact Bool.false_ne_true
 have hnew:List.foldl (fun x1 x2=>x1 ++ x2) #[] (List.replicate (if its.toArray.isEmpty = true then 0 else k.toNat) its.toArray) = (List.replicate k.toNat its).flatten.toArray:=by
  have f0:∀m:Nat,List.foldl (fun x1 x2=>x1 ++ x2) #[] (List.replicate m its.toArray) = (List.replicate m its).flatten.toArray:=fun m=>by
   have:=foldl_rep its m []
   rw [List.nil_append] at this
   exact this
  rw [f0]
  cases its with
  | nil=>simp
  | cons a r'=>rw [if_neg (by simp)]
 refine wpAny_binaryOp_repeat_ref (T:="list") (U:="int") (by decide) ⟨_,e,rfl⟩ (fun s'=>typeIs_int s' k t) noFill_list_mul F.fills_int_mul F.slot_int_rmul repeat_list F.slot_int_index.lookup
  (call_meets F.slot_int_rmul (typeIs_int s k t) F.entry_int_rmul (F.args_int_rmul_2 _ _) (int___rmul___int_list k t l its.toArray n)
    ⟨e,rfl,⟨_,e,rfl⟩,call_meets F.slot_list_mul ⟨_,e,rfl⟩ F.entry_list_mul (F.args_list_mul_2 _ _) (AutoListH.list___mul___list_int_3 l its.toArray n k t hfit hcap NR) ⟨e,?_⟩⟩)
 rw [hnew]
 exact ⟨.ref _,_,I.LJ (t':=s.toks) (r.rep k.toNat) (by rw [len_rep,Nat.mul_comm];exact hz),rfl,q _ I.fresh⟩
end
section
variable {prog:Program} {w:World} {A:Around} {E:Value→Shared→Prop} {s:Shared}
set_option maxRecDepth 100000 in
end
section
variable {X:Cx}
end
end L2
namespace L2
open PySem PySem.Spec PyProof.Rows
section
variable {κ:Type} [DecidableEq κ]
def cF (kvs:List (κ × V)) (k:κ):Option V:=(kvs.find? fun kv=>decide (kv.1 = k)).map (·.2)
def putK (kvs:List (κ × V)) (k:κ) (v:V):List (κ × V):=
 if (kvs.any fun kv=>decide (kv.1 = k)) = true then kvs.map (fun kv=>if kv.1 = k then (kv.1,v) else kv) else kvs ++ [(k,v)]
def iF (kvs:List (κ × V)) (k:κ):List (κ × V):=kvs.filter fun kv=>decide (kv.1 ≠ k)
theorem dB {p:κ × V} {r:List (κ × V)} {k:κ} (e:p.1 = k):cF (p :: r) k = some p.2:=by simp [cF,List.find?_cons,e]
theorem cN {p:κ × V} {r:List (κ × V)} {k:κ} (e:¬ p.1 = k):cF (p :: r) k = cF r k:=by simp [cF,List.find?_cons,e]
theorem jR (k:κ):∀kvs:List (κ × V),(kvs.any fun kv=>decide (kv.1 = k)) = (cF kvs k).isSome
 | []=>rfl
 | p :: r=>by
   rw [List.any_cons]
   by_cases e:p.1 = k
   · simp only [dB e,decide_eq_true e,Bool.true_or,Option.isSome_some]
   · rw [cN e,decide_eq_false e,Bool.false_or];exact jR k r
theorem Ax (k j:κ) (y:V):∀kvs:List (κ × V),cF (kvs.map fun kv=>if kv.1 = k then (kv.1,y) else kv) j = (cF kvs j).map fun x=>if j = k then y else x
 | []=>rfl
 | p :: r=>by
   have ih:=Ax k j y r
   rw [List.map_cons]
   by_cases h:p.1 = k
   · rw [if_pos h]
     by_cases e:p.1 = j
     · rw [dB (p:=(p.1,y)) e,dB e,Option.map_some,if_pos (e.symm.trans h)]
     · rw [cN (p:=(p.1,y)) e,cN e,ih]
   · rw [if_neg h]
     by_cases e:p.1 = j
     · rw [dB (p:=p) e,dB e,Option.map_some,if_neg (fun z=>h (e.trans z))]
     · rw [cN (p:=p) e,cN e,ih]
theorem yj (k j:κ) (y:V):∀kvs:List (κ × V),cF kvs k = none→cF (kvs ++ [(k,y)]) j = if j = k then some y else cF kvs j
 | [],_=>by
   by_cases e:k = j
   · rw [if_pos e.symm];exact dB (p:=(k,y)) e
   · rw [if_neg (fun z=>e z.symm)];exact cN (p:=(k,y)) e
 | p :: r,hn=>by
   rw [List.cons_append]
   have hk:¬ p.1 = k:=fun z=>by rw [dB z] at hn;cases hn
   rw [cN hk] at hn
   have ih:=yj k j y r hn
   by_cases e:p.1 = j
   · rw [dB e,dB e,if_neg (fun z=>hk (e.trans z))]
   · rw [cN e,cN e,ih]
theorem HP (kvs:List (κ × V)) (k j:κ) (y:V):cF (putK kvs k y) j = if j = k then some y else cF kvs j:=by
 unfold putK
 by_cases a:(kvs.any fun kv=>decide (kv.1 = k)) = true
 · rw [if_pos a,Ax]
   rw [jR] at a
   by_cases e:j = k
   · obtain ⟨x,hx⟩:=Option.isSome_iff_exists.mp a
     rw [if_pos e,e,hx,Option.map_some,if_pos rfl]
   · rw [if_neg e]
     cases cF kvs j with
     | none=>rfl
     | some x=>rw [Option.map_some,if_neg e]
 · rw [if_neg a]
   refine yj k j y kvs ?_
   rw [jR] at a
   cases q:cF kvs k with
   | none=>rfl
   | some x=>rw [q] at a;exact (a rfl).elim
theorem nQ (kvs:List (κ × V)) (k:κ) (v:V):(putK kvs k v).length≤kvs.length + 1:=by
 unfold putK
 split
 · rw [List.length_map];omega
 · rw [List.length_append,List.length_cons,List.length_nil];omega
theorem iL {kvs:List (κ × V)} {k:κ} (v:V) (h:cF kvs k = none):putK kvs k v = kvs ++ [(k,v)] :=by
 unfold putK
 rw [jR,h]
 exact if_neg (by decide)
theorem ie.i6 {o:Option V} {u:Option Value} (r:ie o u):o.isSome = u.isSome:=by
 cases o with
 | none=>cases u with
   | none=>rfl
   | some _=>exact (show False from r).elim
 | some _=>cases u with
   | none=>exact (show False from r).elim
   | some _=>rfl
theorem KV.val {kvs:List (κ × V)} {vs:List (κ × Value)} (r:KV kvs vs) (k:κ):ie (cF kvs k) (valueAt vs k):=by
 unfold KV at r
 induction r with
 | nil=>exact True.intro
 | @cons p q ps qs h t ih=>
   obtain ⟨h1,h2⟩:=h
   by_cases e:p.1 = k
   · have e':q.1 = k:=h1.symm.trans e
     have b:valueAt (q :: qs) k = some q.2:=by simp [valueAt,List.find?_cons,e']
     rw [dB e,b];exact h2
   · have e':¬ q.1 = k:=fun z=>e (h1.trans z)
     have b:valueAt (q :: qs) k = valueAt qs k:=by simp [valueAt,List.find?_cons,e']
     rw [cN e,b];exact ih
theorem KV.any {kvs:List (κ × V)} {vs:List (κ × Value)} (r:KV kvs vs) (k:κ):(kvs.any fun kv=>decide (kv.1 = k)) = vs.any fun kv=>decide (kv.1 = k):=by
 unfold KV at r
 induction r with
 | nil=>rfl
 | cons h t ih=>rw [List.any_cons,List.any_cons,ih,h.1]
theorem KV.repl {kvs:List (κ × V)} {vs:List (κ × Value)} (r:KV kvs vs) (k:κ) {y:V} {u:Value} (ry:RelV y u):
  KV (kvs.map fun kv=>if kv.1 = k then (kv.1,y) else kv) (vs.map fun kv=>if kv.1 = k then (kv.1,u) else kv):=by
 unfold KV at r ⊢
 induction r with
 | nil=>exact .nil
 | @cons p q ps qs h t ih=>
   rw [List.map_cons,List.map_cons]
   refine .cons ?_ ih
   obtain ⟨h1,h2⟩:=h
   by_cases e:p.1 = k
   · rw [if_pos e,if_pos (h1.symm.trans e)];exact ⟨h1,ry⟩
   · rw [if_neg e,if_neg (fun z=>e (h1.trans z))];exact ⟨h1,h2⟩
theorem KV.put {kvs:List (κ × V)} {vs:List (κ × Value)} (r:KV kvs vs) (k:κ) {y:V} {u:Value} (ry:RelV y u):KV (putK kvs k y) (stored vs k u):=by
 unfold putK stored
 rw [r.any k]
 by_cases e:(vs.any fun kv=>decide (kv.1 = k)) = true
 · rw [if_pos e,if_pos e];exact r.repl k ry
 · rw [if_neg e,if_neg e];exact Paired.snoc r ⟨rfl,ry⟩
theorem KV.drop {kvs:List (κ × V)} {vs:List (κ × Value)} (r:KV kvs vs) (k:κ):KV (iF kvs k) (without vs k):=by
 unfold KV at r ⊢
 unfold iF without
 induction r with
 | nil=>exact .nil
 | @cons p q ps qs h t ih=>
   obtain ⟨h1,h2⟩:=h
   rw [List.filter_cons,List.filter_cons]
   by_cases e:p.1 = k
   · have a:¬ decide (p.1 ≠ k) = true:=by simp [e]
     have b:¬ decide (q.1 ≠ k) = true:=by simp [h1.symm.trans e]
     rw [if_neg a,if_neg b];exact ih
   · have e':¬ q.1 = k:=fun z=>e (h1.trans z)
     have a:decide (p.1 ≠ k) = true:=by simp [e]
     have b:decide (q.1 ≠ k) = true:=by simp [e']
     rw [if_pos a,if_pos b];exact .cons ⟨h1,h2⟩ ih
theorem KV.length {kvs:List (κ × V)} {vs:List (κ × Value)} (r:KV kvs vs):kvs.length = vs.length:=Paired.length r
theorem HQ (kvs:List (κ × V)) (k:κ):(iF kvs k).length≤kvs.length:=List.length_filter_le _ _
end
theorem pB {P:Program} {w:World} {k:Key} {u:Value} (r:RelV (kV k) u):(bK P w).is k u = true:=by
 cases k with
 | inl i=>obtain ⟨t,e⟩:=(show ∃t,u = Value.int i t from r);subst e;exact Cs P w i t
 | inr x=>obtain ⟨t,e⟩:=(show ∃t,u = Value.str x t from r);subst e;exact Ct P w x t
theorem yk {P:Program} {w:World}:∀{ks:List Key} {us:List Value},Vals (ks.map kV) us→ItemsAre (bK P w) ks us
 | [],_,r=>by rw [List.map_nil] at r;cases r;exact .nil
 | k :: ks,_,r=>by
   rw [List.map_cons] at r
   cases r with
   | cons h t=>exact .cons (pB h) (yk t)
abbrev KT (H:Hp):List (List Key × V)→List (List Key × Addr × Value)→Prop:=Paired fun p q=>p.1 = q.1∧H q.2.1 = some (.tup (p.1.map kV))∧RelV p.2 q.2.2
theorem KT.val {H:Hp} {kvs:List (List Key × V)} {xs:List (List Key × Addr × Value)} (r:KT H kvs xs) (k:List Key):ie (cF kvs k) ((atKey xs k).map (·.2)):=by
 induction r with
 | nil=>exact True.intro
 | @cons p q ps qs h t ih=>
   obtain ⟨h1,_,h2⟩:=h
   by_cases e:p.1 = k
   · have e':q.1 = k:=h1.symm.trans e
     have b:atKey (q :: qs) k = some q.2:=by simp [atKey,List.find?_cons,e']
     rw [dB e,b];exact h2
   · have e':¬ q.1 = k:=fun z=>e (h1.trans z)
     have b:atKey (q :: qs) k = atKey qs k:=by simp [atKey,List.find?_cons,e']
     rw [cN e,b];exact ih
theorem KT.repl {H:Hp} {kvs:List (List Key × V)} {xs:List (List Key × Addr × Value)} (r:KT H kvs xs) (k:List Key) {y:V} {u:Value} (ry:RelV y u):
  KT H (kvs.map fun kv=>if kv.1 = k then (kv.1,y) else kv) (xs.map (putAt k u)):=by
 induction r with
 | nil=>exact .nil
 | @cons p q ps qs h t ih=>
   rw [List.map_cons,List.map_cons]
   refine .cons ?_ ih
   obtain ⟨h1,h2,h3⟩:=h
   unfold putAt
   by_cases e:p.1 = k
   · rw [if_pos e,if_pos (h1.symm.trans e)];exact ⟨h1,h2,ry⟩
   · rw [if_neg e,if_neg (fun z=>e (h1.trans z))];exact ⟨h1,h2,h3⟩
theorem KT.put {H:Hp} {kvs:List (List Key × V)} {xs:List (List Key × Addr × Value)} (r:KT H kvs xs) (k:List Key) {b:Addr} {y:V} {u:Value} (hb:H b = some (.tup (k.map kV))) (ry:RelV y u):
  KT H (putK kvs k y) (storedH xs k b u):=by
 have e:(kvs.any fun kv=>decide (kv.1 = k)) = (atKey xs k).isSome:=by
  rw [jR,(r.val k).i6,Option.isSome_map]
 unfold putK storedH
 rw [e]
 by_cases q:(atKey xs k).isSome = true
 · rw [if_pos q,if_pos q];exact r.repl k ry
 · rw [if_neg q,if_neg q];exact Paired.snoc r ⟨rfl,hb,ry⟩
theorem KT.keeps {H H':Hp} {kvs:List (List Key × V)} {xs:List (List Key × Addr × Value)} (r:KT H kvs xs) (ht:∀b ys,H b = some (.tup ys)→H' b = some (.tup ys)):KT H' kvs xs:=
 Paired.Hu r fun _ _ z=>⟨z.1,ht _ _ z.2.1,z.2.2⟩
section
variable {P:Program} {w:World} {H:Hp} {h:Heap} {a:Addr}
theorem Ji {u:HO} (ok:ee P w H h) (e:Rd H a u):cy P w H h a u:=e.ok ok
theorem kg {kvs:List (Key × V)} (ok:ee P w H h) (e:Rd H a (.dK kvs)):kvs.length≤sizeLine∧(a == sysModules) = false∧∃vs,KV kvs vs∧h.DictOf (bK P w) a vs:=
 show cy P w H h a (.dK kvs) from Ji ok e
theorem vo {kvs:List (Key × V)} (ok:ee P w H h) (e:H a = some (.dK kvs)):kvs.length≤sizeLine∧(a == sysModules) = false∧∃vs,KV kvs vs∧h.DictOf (bK P w) a vs:=kg ok (.inl e)
theorem qB {ks:List Key} (ok:ee P w H h) (e:H a = some (.tup (ks.map kV))):(tupleKind (bK P w)).is h ks a:=by
 obtain ⟨_,its,r,o,h1,h2,n,h3⟩:=(show cy P w H h a (.tup (ks.map kV)) from ok a _ e)
 exact ⟨o,its.toArray,n,h1,h2,h3,by simpa using yk r⟩
theorem sy {kvs:List (List Key × V)} (ok:ee P w H h) (e:Rd H a (.dT kvs)):kvs.length≤sizeLine∧(a == sysModules) = false∧
  ∃xs,KT H kvs xs∧h.DictOfH (tupleKind (bK P w)) a xs:=by
 obtain ⟨z,y,xs,r,o,es,ep,h1,h2,h3,h4,h5⟩:=(show cy P w H h a (.dT kvs) from Ji ok e)
 refine ⟨z,y,xs,r,o,es,ep,h1,h2,h3,h4,fun x hx=>?_,h5⟩
 have all:∀{l:List (List Key × V)} {m:List (List Key × Addr × Value)},KT H l m→∀x∈m,(tupleKind (bK P w)).is h x.1 x.2.1:=by
  intro l m q
  induction q with
  | nil=>intro x hx;exact nomatch hx
  | @cons p q ps qs hq t ih=>
    intro x hx
    rcases List.mem_cons.mp hx with e | hx
    · subst e
      exact qB ok (by rw [← hq.1];exact hq.2.1)
    · exact ih x hx
 exact all r x hx
theorem NS {kvs:List (List Key × V)} (ok:ee P w H h) (e:H a = some (.dT kvs)):kvs.length≤sizeLine∧(a == sysModules) = false∧
  ∃xs,KT H kvs xs∧h.DictOfH (tupleKind (bK P w)) a xs:=sy ok (.inl e)
end
def b9 (H:Hp) (a:Addr) (y:V) (r:Option V):Prop:=
 (∃kvs k,Rd H a (.dK kvs)∧y = kV k∧r = cF kvs k)∨∃kvs k b,Rd H a (.dT kvs)∧y = .ref b∧H b = some (.tup (k.map kV))∧r = cF kvs k
def lU (H:Hp) (a:Addr) (y v:V) (H':Hp):Prop:=
 (∃kvs k,H a = some (.dK kvs)∧y = kV k∧kvs.length < sizeLine∧H' = upd H a (.dK (putK kvs k v)))∨
 ∃kvs k b,H a = some (.dT kvs)∧y = .ref b∧H b = some (.tup (k.map kV))∧kvs.length < sizeLine∧H' = upd H a (.dT (putK kvs k v))
theorem b9.k {H:Hp} {a:Addr} {kvs:List (Key × V)} {k:Key} (e:H a = some (.dK kvs)):b9 H a (kV k) (cF kvs k):= .inl ⟨kvs,k, .inl e,rfl,rfl⟩
theorem lU.k {H:Hp} {a:Addr} {kvs:List (Key × V)} {k:Key} {v:V} (e:H a = some (.dK kvs)) (hl:kvs.length < sizeLine):lU H a (kV k) v (upd H a (.dK (putK kvs k v))):= .inl ⟨kvs,k,e,rfl,hl,rfl⟩
section
variable {X:Cx} {pins:List (Addr × Obj)} {σ:St} {H:Hp} {s:Shared} {a:Addr} {y v:V} {u r:Value} {o:Option V} {A:Around} {E:Value→Shared→Prop}
theorem Inv.big (I:Inv X pins σ H s):sysModules < s.heap.objs.size:=by
 have h:mainGlobals < s.heap.objs.size:=(I.mod.glob.keeps I.bk).lt
 exact Nat.lt_trans (by decide) h
theorem Fp {Q:Value→Shared→Prop} (hu:A.units + 1 < cLine) (I:Inv X pins σ H s) (g:b9 H a y (some v)) (ry:RelV y u) (h:∀w' s',Inv X pins σ H s'→RelV v w'→Q w' s'):
  wpAny (model X.prog X.w) A (getItem (.ref a) u) Q E s:=by
 rcases g with ⟨kvs,k,e,ey,l⟩ | ⟨kvs,k,b,e,ey,eb,l⟩
 · subst ey
   obtain ⟨z,hd,vs,rel,dd⟩:=kg I.hok e
   obtain ⟨w',hw,rw'⟩:=ie.some_of (v:=v) (o:=valueAt vs k) (by rw [l];exact rel.val k)
   exact wpAny_getItem_of (pB ry) dd.mapOf hw (h w' _ (I.tok _) rw')
 · subst ey
   cases (show u = Value.ref b from ry)
   obtain ⟨z,hd,xs,rel,dd⟩:=sy I.hok e
   obtain ⟨w',hw,rw'⟩:=ie.some_of (v:=v) (o:=(atKey xs k).map (·.2)) (by rw [l];exact rel.val k)
   obtain ⟨p,hp,hp2⟩:=Option.map_eq_some_iff.mp hw
   refine wpAny_getItem_heap (tupleKind_room_in1 hu) (qB I.hok eb) dd hp ?_
   rw [hp2]
   exact h w' _ (I.tok _) rw'
theorem QX {Q:Value→Shared→Prop} (hu:A.units + 1 < cLine) (I:Inv X pins σ H s) (g:b9 H a y o) (ry:RelV y u) (h:∀s',Inv X pins σ H s'→Q (.bool o.isSome) s'):
  wpAny (model X.prog X.w) A (compareOp .In u (.ref a)) Q E s:=by
 rcases g with ⟨kvs,k,e,ey,l⟩ | ⟨kvs,k,b,e,ey,eb,l⟩
 · subst ey
   obtain ⟨z,hd,vs,rel,dd⟩:=kg I.hok e
   refine wpAny_in_of (pB ry) hd dd.mapOf ?_
   rw [← (rel.val k).i6,← l]
   exact h _ (I.tok _)
 · subst ey
   cases (show u = Value.ref b from ry)
   obtain ⟨z,hd,xs,rel,dd⟩:=sy I.hok e
   refine wpAny_in_heap (tupleKind_room_in1 hu) (qB I.hok eb) hd dd ?_
   have q:=(rel.val k).i6
   rw [Option.isSome_map] at q
   rw [← q,← l]
   exact h _ (I.tok _)
theorem Kh {Q:Value→Shared→Prop} (hu:A.units + 1 < cLine) (I:Inv X pins σ H s) (g:b9 H a y o) (ry:RelV y u) (h:∀s',Inv X pins σ H s'→Q (.bool (!o.isSome)) s'):
  wpAny (model X.prog X.w) A (compareOp .NotIn u (.ref a)) Q E s:=by
 rcases g with ⟨kvs,k,e,ey,l⟩ | ⟨kvs,k,b,e,ey,eb,l⟩
 · subst ey
   obtain ⟨z,hd,vs,rel,dd⟩:=kg I.hok e
   refine wpAny_notIn_of (pB ry) hd dd.mapOf ?_
   rw [← (rel.val k).i6,← l]
   exact h _ (I.tok _)
 · subst ey
   cases (show u = Value.ref b from ry)
   obtain ⟨z,hd,xs,rel,dd⟩:=sy I.hok e
   refine wpAny_notIn_heap (tupleKind_room_in1 hu) (qB I.hok eb) hd dd ?_
   have q:=(rel.val k).i6
   rw [Option.isSome_map] at q
   rw [← q,← l]
   exact h _ (I.tok _)
theorem sH {h':Heap} {t':Nat} {ob:HO} (I:Inv X pins σ H s) (mu:EZ (H a)) (hs:Heap.SameBut a s.heap h') (he:∃q,h'.get? a = some q) (new:cy X.prog X.w (upd H a ob) h' a ob):
  Inv X pins σ (upd H a ob) { s with heap:=h',toks:=t' }:=
 I.write (x:=a) (e:=a) mu (.inl rfl) (fun b q hb z=>(hs.2 b hb).trans z) he new
theorem Ay {P:Program} {w:World} {H':Hp} {h':Heap} {kvs:List (Key × V)} {vs:List (Key × Value)} (z:kvs.length≤sizeLine) (hd:(a == sysModules) = false) (rel:KV kvs vs) (dd:h'.DictOf (bK P w) a vs):
  cy P w H' h' a (.dK kvs):=⟨z,hd,vs,rel,dd⟩
theorem Fq {H':Hp} {Q:Unit→Shared→Prop} (hu:A.units + 1 < cLine) (I:Inv X pins σ H s) (g:lU H a y v H') (ry:RelV y u) (rv:RelV v r) (h:∀s',Inv X pins σ H' s'→Q () s'):
  wpAny (model X.prog X.w) A (setItem (.ref a) u r) Q E s:=by
 rcases g with ⟨kvs,k,e,ey,l,eH⟩ | ⟨kvs,k,b,e,ey,eb,l,eH⟩
 · subst ey eH
   obtain ⟨z,hd,vs,rel,dd⟩:=vo I.hok e
   have hz:vs.length≤sizeLine:=by rw [← rel.length];exact z
   have hl:(putK kvs k v).length≤sizeLine:=by have:=nQ kvs k v;omega
   refine wpAny_setItem_pairs (hsz:=hz) (pB ry) dd fun h' tH hs=>h _ ?_
   have he:∃q,h'.get? a = some q:=let ⟨q,_,_,hq,_⟩:=tH;⟨q,hq⟩
   exact sH I (by rw [e];exact True.intro) hs he (Ay hl hd (rel.put k rv) tH)
 · subst ey eH
   cases (show u = Value.ref b from ry)
   obtain ⟨z,hd,xs,rel,dd⟩:=NS I.hok e
   have hz:xs.length≤sizeLine:=by rw [← Paired.length rel];exact z
   have hl:(putK kvs k v).length≤sizeLine:=by have:=nQ kvs k v;omega
   refine wpAny_setItem_heap (hsz:=hz) (tupleKind_room_in1 hu) (qB I.hok eb) dd fun h' tH hs=>h _ ?_
   obtain ⟨q,es,ep,hq,h2,h3,h4,_,h5⟩:=tH
   refine sH I (by rw [e];exact True.intro) hs ⟨q,hq⟩ ⟨hl,hd,_,(rel.put k eb rv).keeps fun c ys ec=>?_,q,es,ep,hq,h2,h3,h4,h5⟩
   rw [ao (eL ec e (fun z=>nomatch z))]
   exact ec
end
section
variable {X:Cx} {pins:List (Addr × Obj)} {σ:St} {H:Hp} {s:Shared} {a:Addr} {kvs:List (Key × V)} {k:Key} {u:Value} {A:Around} {E:Value→Shared→Prop}
theorem Ft {Q:Unit→Shared→Prop} (I:Inv X pins σ H s) (e:H a = some (.dK kvs)) (ry:RelV (kV k) u) (l:(cF kvs k).isSome = true) (h:∀s',Inv X pins σ (upd H a (.dK (iF kvs k))) s'→Q () s'):
  wpAny (model X.prog X.w) A (delItem (.ref a) u) Q E s:=by
 obtain ⟨z,hd,vs,rel,dd⟩:=vo I.hok e
 refine wpAny_delItem_slot dd.typeIs (by decide) PySem.F.slot_dict_delitem
  (call_meetsIn PySem.F.slot_dict_delitem dd.typeIs PySem.F.entry_dict_delitem (PySem.F.args_dict_delitem_2 _ _) (meets_dict_delitem_pairs (bK X.prog X.w) a (pB ry)) ⟨vs,dd,by rw [← rel.length];exact z,by rw [← (rel.val k).i6];exact l,fun h' tH hs=>h _ ?_⟩)
 have he:∃q,h'.get? a = some q:=let ⟨q,_,_,hq,_⟩:=tH;⟨q,hq⟩
 exact sH I (by rw [e];exact True.intro) hs he (Ay (Nat.le_trans (HQ kvs k) z) hd (rel.drop k) tH)
theorem NT {Q:Value→Shared→Prop} (I:Inv X pins σ H s) (e:Rd H a (.dK kvs)) (h:∀t s',Inv X pins σ H s'→Q (.int kvs.length t) s'):wpAny (model X.prog X.w) A (call (.builtin "len") [.ref a]) Q E s:=by
 obtain ⟨z,hd,vs,rel,dd⟩:=kg I.hok e
 refine call_len_dict hd dd (by rw [← rel.length];rw [sizeLine_eq] at z;omega) ?_
 rw [← rel.length]
 exact h _ _ (I.tok _)
end
def LN (i:Expr):Prop:=∀ov iv,subscripted i false ov iv = operate [ov,iv] (getItem ov iv)
theorem Kl {prog:Program} {w:World} {A:Around} {E:Value→Shared→Prop} {s:Shared} {env:Env} {value slice:Expr} {pos:Pos} {T id:String} {Q:Value→Shared→Prop}
  (hl:typeLookup (.type T) "__getitem__" = pure (some (.builtin id))) (hs:LN slice)
  (h:wpAny (model prog w) A (eval value env) (fun o s₁=>wpAny (model prog w) A (eval slice env) (fun i s₂=>s₂.TypeIs o T∧wpAny (model prog w) A (getItem o i) Q E s₂) E s₁) E s):
  wpAny (model prog w) A (eval (.Subscript value slice pos) env) Q E s:=by
 refine Subscript_ (wpAny_mono h (fun o s₁ h₁=>wpAny_mono h₁ (fun i s₂ h₂=>?_) fun _ _ x=>x) fun _ _ x=>x)
 obtain ⟨hT,h₂⟩:=h₂
 unfold subscriptTail
 refine wpAny_bind ?_
 rw [getitemInPython_of_ne hT.not_modules]
 refine wpAny_bind (wpAny_specialOf hT hl ?_)
 have fin:wpAny (model prog w) A (subscripted slice false o i) (fun r s₃=>wpAny (model prog w) A (letTemporaryGo value o r >>= fun _=>pure r) Q E s₃) E s₂:=by
  rw [hs o i]
  exact wpAny_operating (wpAny_mono h₂ (fun r s₃ h₃=>wpAny_bind (wpAny_letTemporaryGo (wpAny_pure h₃))) fun _ _ x=>x)
 first
  | exact wpAny_pure (wpAny_bind fin)
  | exact wpAny_bind (wpAny_pure (wpAny_bind fin))
  | exact wpAny_bind fin
theorem Cu {X:Cx} {pins:List (Addr × Obj)} {σ:St} {H:Hp} {s:Shared} {a:Addr} {y:V} {o:Option V} (I:Inv X pins σ H s) (g:b9 H a y o):s.TypeIs (.ref a) "dict":=by
 rcases g with ⟨kvs,k,e,_,_⟩ | ⟨kvs,k,b,e,_,_,_⟩
 · obtain ⟨_,_,vs,_,dd⟩:=kg I.hok e
   exact dd.typeIs
 · obtain ⟨_,_,xs,_,dd⟩:=sy I.hok e
   exact dd.typeIs
def NU (td ty:TE):TE:=fun σ H Q=>td σ H fun x H1=>ty σ H1 fun y H2=>∃a v,x = .ref a∧b9 H2 a y (some v)∧Q v H2
def QY (ty td:TE):TE:=fun σ H Q=>ty σ H fun y H1=>td σ H1 fun x H2=>∃a o,x = .ref a∧b9 H2 a y o∧Q (.bl o.isSome) H2
def Km (ty td:TE):TE:=fun σ H Q=>ty σ H fun y H1=>td σ H1 fun x H2=>∃a o,x = .ref a∧b9 H2 a y o∧Q (.bl (!o.isSome)) H2
def NV (td ty tv:TE):TS:=fun D σ H=>tv σ H fun v H1=>td σ H1 fun x H2=>ty σ H2 fun y H3=>∃a H4,x = .ref a∧lU H3 a y v H4∧D.nx σ H4
def NW (td ty:TE):TS:=fun D σ H=>td σ H fun x H1=>ty σ H1 fun y H2=>∃a kvs k,x = .ref a∧H2 a = some (.dK kvs)∧y = kV k∧(cF kvs k).isSome = true∧D.nx σ (upd H2 a (.dK (iF kvs k)))
section
variable {X:Cx} {o i e value:Expr} {pos pos' tpos:Pos} {td ty tv:TE}
theorem bL (hu:X.A.units + 1 < cLine) (ho:PE X o td) (hi:PE X i ty) (hs:LN i):PE X (.Subscript o i pos) (NU td ty):=by
 intro pins s σ H Q I h
 refine Kl PySem.F.slot_dict_getitem.lookup hs (aP (ho pins s σ H _ I h) fun u s1 ⟨x,H1,I1,rx,q1⟩=>aP (hi pins s1 σ H1 _ I1 q1) fun iv s2 ⟨y,H2,I2,ry,a,v,ex,g,q2⟩=>?_)
 subst ex
 obtain rfl:u = Value.ref a:=rx
 exact ⟨Cu I2 g,Fp hu I2 g ry fun w' s3 I3 rw'=>⟨v,H2,I3,rw',q2⟩⟩
theorem Az (hu:X.A.units + 1 < cLine) (hi:PE X i ty) (ho:PE X o td):PC X .In i o (QY ty td):=by
 intro pins s σ H Q I h
 refine aP (hi pins s σ H _ I h) fun iv s1 ⟨y,H1,I1,ry,q1⟩=>aP (ho pins s1 σ H1 _ I1 q1) fun u s2 ⟨x,H2,I2,rx,a,ov,ex,g,q2⟩=>?_
 subst ex
 obtain rfl:u = Value.ref a:=rx
 exact QX hu I2 g ry fun s3 I3=>⟨.bl ov.isSome,H2,I3,rfl,q2⟩
theorem qC (hu:X.A.units + 1 < cLine) (hi:PE X i ty) (ho:PE X o td):PC X .NotIn i o (Km ty td):=by
 intro pins s σ H Q I h
 refine aP (hi pins s σ H _ I h) fun iv s1 ⟨y,H1,I1,ry,q1⟩=>aP (ho pins s1 σ H1 _ I1 q1) fun u s2 ⟨x,H2,I2,rx,a,ov,ex,g,q2⟩=>?_
 subst ex
 obtain rfl:u = Value.ref a:=rx
 exact Kh hu I2 g ry fun s3 I3=>⟨.bl (!ov.isSome),H2,I3,rfl,q2⟩
theorem jS (hu:X.A.units + 1 < cLine) (ho:PE X o td) (hi:PE X i ty) (hv:PE X value tv) (hs:swapsWith value (some (.Subscript o i pos')) pos.line X.env = pure false):
  PS X (.Assign [.Subscript o i pos'] value pos) (NV td ty tv):=by
 intro pins s σ H D I h
 refine wpAny_Assign_Subscript (aP (hv pins s σ H _ I h) fun r s1 ⟨v,H1,I1,rv,q1⟩=>aP (ho pins s1 σ H1 _ I1 q1) fun u s2 ⟨x,H2,I2,rx,q2⟩=>aP (hi pins s2 σ H2 _ I2 q2) fun iv s3 ⟨y,H3,I3,ry,a,H4,ex,g,q3⟩=>?_) hs
 subst ex
 obtain rfl:u = Value.ref a:=rx
 exact Fq hu I3 g ry rv fun s4 I4=>⟨σ,H4,I4,q3⟩
theorem Kn (ho:PE X o td) (hi:PE X i ty):PS X (.Delete [.Subscript o i tpos] pos) (NW td ty):=by
 intro pins s σ H D I h
 refine wpAny_Delete (wpAny_deleteEach_cons (wpAny_delete_Subscript (aP (ho pins s σ H _ I h) fun u s1 ⟨x,H1,I1,rx,q1⟩=>aP (hi pins s1 σ H1 _ I1 q1) fun iv s2 ⟨y,H2,I2,ry,a,kvs,k,ex,e,ey,l,q2⟩=>?_)))
 subst ex ey
 obtain rfl:u = Value.ref a:=rx
 exact Ft I2 e ry l fun s3 I3=>wpAny_deleteEach_nil ⟨σ,_,I3,q2⟩
end
theorem AA {P:Program} {w:World} {H:Hp} (h:Heap) (hb:sysModules < h.objs.size):cy P w H (h.push { cls:= .type "dict",data:= .dict #[] }) h.objs.size (.dK []):=
 ⟨Nat.zero_le _,beq_eq_false_iff_ne.mpr (Ne.symm (Nat.ne_of_lt hb)),[], .nil,Heap.DictOf.new h⟩
def LO:TE:=fun _ H Q=>∀p,H p = none→Q (.ref p) (upd H p (.dK []))
section
variable {X:Cx} {pos:Pos}
theorem jT:PE X (.Dict [] [] pos) LO:=fun pins s σ H Q I h=>
 wpAny_Dict_empty ⟨.ref s.heap.objs.size,_,I.laid (a:=s.heap.objs.size) (o:= .dK []) (t':=s.toks) (fun _ _ q=>Heap.get?_push_of_some _ q) (Nat.le_refl _) (AA s.heap I.big),rfl,h _ (I.hok.fresh (Nat.le_refl _))⟩
end
def qD:List (TE × TE)→St→Hp→(List (V × V)→Hp→Prop)→Prop
 | [],_,H,Q=>Q [] H
 | (tk,tv) :: r,σ,H,Q=>tk σ H fun x H1=>tv σ H1 fun y H2=>qD r σ H2 fun ps H3=>Q ((x,y) :: ps) H3
abbrev VV:List (V × V)→List (Value × Value)→Prop:=Paired fun p q=>RelV p.1 q.1∧RelV p.2 q.2
def Jj (X:Cx) (pos:Pos) (keys:List (Option Expr)) (values:List Expr) (vq:List (TE × TE)):Prop:=
 ∀(pins:List (Addr × Obj)) (s:Shared) (σ:St) (H:Hp) (Q:List (V × V)→Hp→Prop),Inv X pins σ H s→qD vq σ H Q→
  wpAny (model X.prog X.w) X.A (evalPairs (pairTrees keys values X.env pos)) (fun vs s'=>∃ps H',Inv X pins σ H' s'∧VV ps vs∧Q ps H') X.xe s
theorem Ko {X:Cx} {pos:Pos}:Jj X pos [] [] [] :=fun pins s σ H Q I h=>pairTrees_nil_walk ⟨[],H,I, .nil,h⟩
theorem lV {X:Cx} {pos:Pos} {k v:Expr} {ks:List (Option Expr)} {vs:List Expr} {tk tv:TE} {vq:List (TE × TE)} (hk:PE X k tk) (hv:PE X v tv) (hr:Jj X pos ks vs vq):
  Jj X pos (some k :: ks) (v :: vs) ((tk,tv) :: vq):=fun pins s σ H Q I h=>
 pairTrees_cons_walk (aP (hk pins s σ H _ I h) fun u s1 ⟨x,H1,I1,rx,q1⟩=>aP (hv pins s1 σ H1 _ I1 q1) fun w2 s2 ⟨y,H2,I2,ry,q2⟩=>
  aP (hr pins s2 σ H2 _ I2 q2) fun ws s3 ⟨ps,H3,I3,rel,q3⟩=>⟨(x,y) :: ps,H3,I3, .cons ⟨rx,ry⟩ rel,q3⟩)
def oH (kvs more:List (Key × V)):List (Key × V):=more.foldl (fun acc kv=>putK acc kv.1 kv.2) kvs
theorem KV.merge:∀{more:List (Key × V)} {rs:List (Key × Value)} {kvs:List (Key × V)} {vs:List (Key × Value)},KV more rs→KV kvs vs→KV (oH kvs more) (merged vs rs):=by
 intro more rs kvs vs r
 unfold KV at r
 induction r generalizing kvs vs with
 | nil=>intro q;exact q
 | @cons p q ps qs h t ih=>
   intro r0
   have e:KV (putK kvs p.1 p.2) (stored vs q.1 q.2):=by
    have:=r0.put p.1 h.2
    rw [← h.1];exact this
   exact ih e
theorem p8:∀(more kvs:List (Key × V)),(oH kvs more).length≤kvs.length + more.length
 | [],kvs=>by show kvs.length≤kvs.length + 0;omega
 | p :: r,kvs=>by
   have h1:=p8 r (putK kvs p.1 p.2)
   have h2:=nQ kvs p.1 p.2
   show (oH (putK kvs p.1 p.2) r).length≤_
   rw [List.length_cons];omega
theorem vt {P:Program} {w:World}:∀{kvs:List (Key × V)} {ws:List (Value × Value)},VV (kvs.map fun kv=>(kV kv.1,kv.2)) ws→∃rs,Carries (bK P w) ws rs∧KV kvs rs
 | [],_,r=>by rw [List.map_nil] at r;cases r;exact ⟨[],True.intro, .nil⟩
 | p :: kvs,_,r=>by
   rw [List.map_cons] at r
   cases r with
   | @cons a b as bs h t=>
     obtain ⟨rs,c,q⟩:=vt (P:=P) (w:=w) t
     obtain ⟨b1,b2⟩:=b
     exact ⟨(p.1,b2) :: rs,⟨pB h.1,rfl,c⟩, .cons ⟨rfl,h.2⟩ q⟩
def NX (vq:List (TE × TE)):TE:=fun σ H Q=>∀p,H p = none→qD vq σ (upd H p (.dK [])) fun ps H2=>H2 p = some (.dK [])∧∃kvs:List (Key × V),ps = kvs.map (fun kv=>(kV kv.1,kv.2))∧kvs.length≤15∧Q (.ref p) (upd H2 p (.dK (oH [] kvs)))
theorem Kq {X:Cx} {pos:Pos} {keys:List (Option Expr)} {values:List Expr} {vq:List (TE × TE)} (h:Jj X pos keys values vq) (hall:keys.all (·.isSome) = true) (hl:keys.length = values.length) (h0:keys ≠ [])
  (RH:keys.length≤15):PE X (.Dict keys values pos) (NX vq):=by
 intro pins s σ H Q I q
 have hn:=I.hok.fresh (Nat.le_refl s.heap.objs.size)
 have I1:=I.laid (a:=s.heap.objs.size) (o:= .dK []) (h':=s.heap.push { cls:= .type "dict",data:= .dict #[] }) (t':=s.toks) (fun _ _ q=>Heap.get?_push_of_some _ q) (Nat.le_refl _) (AA s.heap I.big)
 refine wpAny_Dict_walk (knd:=bK X.prog X.w) hall hl h0 RH (aP (h pins _ σ _ _ I1 (q _ hn)) fun ws s2 ⟨ps,H2,I2,rel,e,kvs,ep,lk,q2⟩=>?_)
 subst ep
 obtain ⟨rs,c,rk⟩:=vt (P:=X.prog) (w:=X.w) rel
 obtain ⟨z,hd,UE,r0,dd⟩:=vo I2.hok e
 cases r0
 refine ⟨rs,c,dd,fun h' tH hs=>⟨.ref s.heap.objs.size,_,?_,rfl,q2⟩⟩
 have hz:(oH [] kvs).length≤sizeLine:=by
  have h1:=p8 kvs []
  rw [List.length_nil] at h1
  rw [sizeLine_eq];omega
 have he:∃q,h'.get? s.heap.objs.size = some q:=let ⟨q,_,_,hq,_⟩:=tH;⟨q,hq⟩
 exact sH I2 (by rw [e];exact True.intro) hs he (Ay hz hd (rk.merge .nil) tH)
def RI (H:Hp) (a:Addr):Prop:=(∃kvs,Rd H a (.dK kvs))∨∃kvs,Rd H a (.dT kvs)
theorem AB {X:Cx} {pins:List (Addr × Obj)} {σ:St} {H:Hp} {s:Shared} {a:Addr} (I:Inv X pins σ H s) (d:RI H a):
  s.TypeIs (.ref a) "dict"∧(∀b,Value.ref a = .ref b→∃ob,s.heap.get? b = some ob∧ob.dict = none)∧(a == sysModules) = false:=by
 rcases d with ⟨kvs,e⟩ | ⟨kvs,e⟩
 · obtain ⟨_,hd,vs,_,dd⟩:=kg I.hok e
   refine ⟨dd.typeIs,fun b q=>?_,hd⟩
   cases q
   obtain ⟨ob,_,_,h1,h2,_⟩:=dd
   exact ⟨ob,h1,h2.2.1⟩
 · obtain ⟨_,hd,xs,_,dd⟩:=sy I.hok e
   refine ⟨dd.typeIs,fun b q=>?_,hd⟩
   cases q
   obtain ⟨ob,_,_,h1,h2,_⟩:=dd
   exact ⟨ob,h1,h2.2.1⟩
section
variable {X:Cx} {pins:List (Addr × Obj)} {σ:St} {H:Hp} {s:Shared} {a:Addr} {y d:V} {u r:Value} {o:Option V} {A:Around} {E:Value→Shared→Prop}
end
section
variable {X:Cx} {o e f:Expr} {apos cpos:Pos} {td ty tx:TE}
end
section
variable {X:Cx} {pins:List (Addr × Obj)} {σ:St} {H:Hp} {s:Shared} {a:Addr} {kvs:List (Key × V)} {A:Around} {E:Value→Shared→Prop}
end
section
variable {X:Cx} {pins:List (Addr × Obj)} {σ:St} {H:Hp} {s:Shared} {a:Addr} {y:V} {u:Value} {A:Around} {E:Value→Shared→Prop}
end
end L2
namespace Om
open PySem PySem.W PySem.Calls PyProof.Rows
theorem vv {P:Params} {h:Heap}:∀(ns:List Int) (vs:List Value),WellAll P h vs (ns.map WData.int)→IntsAre vs ns:=by
 intro ns
 induction ns with
 | nil=>
   intro vs w
   rw [List.map_nil] at w
   cases w
   exact .nil
 | cons n ns ih=>
   intro vs w
   rw [List.map_cons] at w
   cases w with
   | cons a b=>
     cases a
     exact .cons _ _ (ih _ b)
theorem Fv {l:OpenLaw} {n:Nat} (hn:l.most = some n) {P:Params} {h:Heap} {args:List WData} {vals:List Value}
  (hpre:l.row.toRowW.claim.pre args = true) (hwl:WellAll P h vals args):
  ∃a vs ns,vals = [Value.ref a]∧args = [WData.list (ns.map WData.int)]∧h.get? a = some { cls:= .type "list",data:= .seq vs.toArray }∧IntsAre vs ns∧ns.length≤n:=by
 have hsh:WShape.hasAll [] args [.list .int] = true:=(pre_splitW hpre).1
 have hc:l.pre.holds [] { args:=args } = true:=(pre_splitW hpre).2
 obtain ⟨d,r,rfl,h1,h2⟩:=hasAllW_cons hsh
 obtain rfl:=hasAllW_nil h2
 obtain ⟨xs,rfl,h3⟩:=hasW_list h1
 obtain ⟨ns,rfl⟩:=items_int h3
 have hlen:ns.length≤n:=by
  unfold OpenLaw.pre at hc
  have h4:(WTm.not (.lt (.lit (.int (n:Int))) (.len (.arg 0)))).holds [] { args:=[.list (ns.map .int)] } = true:=by
   have h4:=(holds_andW hc).1
   rw [hn] at h4
   exact h4
  have h5:=condW_of h4 (w_not (w_lt w_lit (w_len_list (w_arg rfl))))
  rw [List.length_map] at h5
  refine Nat.le_of_not_lt fun q=>?_
  have q':(n:Int) < ((ns.length:Nat):Int):=by omega
  first
   | (rw [decide_eq_true q'] at h5;exact absurd h5 (by decide))
   | (simp at h5;omega)
 cases hwl with
 | cons w1 w2=>
   cases w2
   cases w1 with
   | list ho hall=>exact ⟨_,_,ns,rfl,rfl,ho,vv ns _ hall,hlen⟩
theorem Fw (l:OpenLaw) (args:List WData):l.row.toRowW.claim.post args (.bool true) args = true:=
 postW_of (r:=l.row.toRowW) (X:=(true == true))
  (show WShape.has [] (.bool true) .bool = true by first | rfl | decide | simp [WShape.has,WShape.arms,WShape.armsAll])
  (show (WTm.eq .res (.lit (.bool true))).value [] { args:=args,res:=some (.bool true),after:=args } = some (.bool (true == true)) from w_eq_bool (w_res rfl) w_lit) rfl
theorem Cv {l:OpenLaw} {n:Nat} {q:Program} {loose:List Str} {XP:(Str→Option Value)→Heap→Prop} {YP:World→Heap→Prop} {d:DefRec}
  (hn:l.most = some n) (hdf:d.params.defaults = [])
  (call:∀(w:World) (s₀ s₁:Shared) (mg mb:Str→Option Value) (fa:Addr) (o:Obj) (pm cd doc:Value) (a:Addr) (vs:List Value) (ns:List Int),
    Ground q loose [] XP w s₀ mg mb s₁.heap→YP w s₁.heap→
    s₁.heap.get? fa = some o→o.data = .func (docDef d.name d.params d.body d.scope pm cd doc)→s₁.heap.CodeRec cd d.name→mg d.name = some (.ref fa)→
    s₁.heap.get? a = some { cls:= .type "list",data:= .seq vs.toArray }→IntsAre vs ns→ns.length≤n→s₁.gens = #[]→
    codeAny (model l.prog w) callerA (.call (.ref fa) ⟨[.ref a],[]⟩) (fun r s'=>r = .ok (.ret (.bool true))∧OldK s₁.heap s'.heap∧s'.os = s₁.os∧AllBare s'.gens) s₁):
  WalkO q loose XP YP l.row.toRowW d [] (fun f vs=>PySem.call f vs):=by
 intro w s₀ s₁ mg mb G Y fa o pm cd doc dV kV ho hd hcd hD hmg hg args vals as hpre hlay hrd hwl hlo
 obtain rfl:dV = .none:=Dflts.none hD hdf
 obtain rfl:kV = .none:=Dflts.noKw hD
 obtain ⟨a,vs,ns,rfl,rfl,hobj,hints,hlen⟩:=Fv hn hpre hwl
 refine enter_call (codeAny_mono (call w s₀ s₁ mg mb fa o pm cd doc a vs ns G Y ho (fd_plain hd) hcd hmg hobj hints hlen hg) fun r s' hq=>?_)
 obtain ⟨rfl,h2,h3,h4⟩:=hq
 exact ⟨.inl ⟨.bool true, .bool true,[],rfl,fun _=>rfl, .bool true,Fw l _,fun _=>⟨List.Pairwise.nil,fun _ hm=>(nomatch hm)⟩⟩,h2,h3,h4⟩
section
variable {prog:Program} {w:World} {A:Around} {E:Value→Shared→Prop} {s:Shared} {K:Frag}
end
end Om
namespace L2
open PySem PySem.Spec PyProof.Rows
theorem yl:∀{vs:List Value} {ns:List Int},IntsAre vs ns→Vals (ns.map V.int) vs
 | _,_, .nil=> .nil
 | _,_, .cons n t h=> .cons ⟨t,rfl⟩ (yl h)
def HR (H:Hp):Prop:=∀b,H b = none∨∃o xs,H b = some (.cW o (.lst xs))
theorem HU {P:Program} {w:World} {K:PySem.W.Frag} {mg mb:Str→Option Value} {CX:qA} {k:Nat} {fa a:Addr} {fd:FuncData} {x:Str} {sp:Sp} {s₁:Shared} {vs:List Value} {ns:List Int}
  (KX:K.In s₁.heap) (hns:s₁.heap.Ns mainGlobals mg) (hb:s₁.heap.Ns builtinsNs mb) (RJ:∀x:Str,x ≠ "__name__"→mb x = bootBuiltins x) (hlim:s₁.heap.NoLimit) (hg:s₁.gens = #[])
  (ha:s₁.heap.get? a = some { cls:= .type "list",data:= .seq vs.toArray }) (hi:IntsAre vs ns) (hl:ns.length≤sizeLine) (hr:cU k callerA)
  (F:∀base:Heap,K.In base→base.Ns mainGlobals mg→gG P w K mg base CX k fa fd [x] sp) (hbind:∀(s:Shared) (u:Value),BindsTo s fd ⟨[u],[]⟩ [(x,u)])
  (lT:∀H:Hp,HR H→av K H a (ns.map V.int)→sp [.ref a] H (fun v _=>v = .bl true) fun _ _ _=>False)
  (LP:∀H e s',CX [] H s₁ (fun _ _ _=>False) e s'→False):
  codeAny (model P w) callerA (.call (.ref fa) ⟨[.ref a],[]⟩) (fun r s'=>r = .ok (.ret (.bool true))∧OldK s₁.heap s'.heap∧s'.os = s₁.os∧AllBare s'.gens) s₁:=by
 have rv:=yl hi
 have QZ:=hi.length
 have core:∀H:Hp,HR H→av K H a (ns.map V.int)→ee P w H s₁.heap→(∀b,H b ≠ none→b = a)→(H a ≠ none→K.lookup a = none)→
   codeAny (model P w) callerA (.call (.ref fa) ⟨[.ref a],[]⟩) (fun r s'=>r = .ok (.ret (.bool true))∧OldK s₁.heap s'.heap∧s'.os = s₁.os∧AllBare s'.gens) s₁:=by
  intro H hO hS hok hA hK
  have Dk:∀{b:Addr} {o:Obj},s₁.heap.get? b = some o→H b = none→(o_ s₁.heap H).get? b = some o:=fun e n=>Hv e n
  have Ff:∀{b:Addr} {o:Obj} {es:Array DictEntry} {ep:Nat},s₁.heap.get? b = some o→o.data = .dict es ep→H b = none:=fun {b o es ep} e d=>by
   cases q:H b with
   | none=>rfl
   | some u=>
     have e':b = a:=hA b (by rw [q];simp)
     subst e'
     rw [ha] at e;cases e
     have d':Data.seq vs.toArray _ = Data.dict es ep:=d
     cases d'
  have Jk:∀{b:Addr} {m:Str→Option Value},s₁.heap.Ns b m→(o_ s₁.heap H).Ns b m:=fun {b m} ⟨o,es,ep,e,d,r⟩=>⟨o,es,ep,Dk e (Ff e d),d,r⟩
  have Oo:K.In (o_ s₁.heap H):=fun b o e=>Dk (KX b o e) (by
   cases q:H b with
   | none=>rfl
   | some u=>
     have e':b = a:=hA b (by rw [q];simp)
     subst e'
     rw [hK (by rw [q];simp)] at e;cases e)
  have hM:Mod K mg (o_ s₁.heap H):=⟨Oo,Jk hns,⟨mb,Jk hb,RJ⟩,let ⟨mc,h1,h2⟩:=hlim;⟨mc,Jk h1,h2⟩⟩
  have e0:uz P w K mg (o_ s₁.heap H) callerA [] s₁ H:=⟨rfl,hM,fun b o e=>J6 e,Nat.le_of_eq (E1 _ _),trivial,fun b hb=>absurd (show b∈([] :List Addr) from hb) (by simp),hok, .of_eq hg⟩
  refine codeAny_mono ((F _ Oo (Jk hns)).run callerA [] s₁ H ⟨[.ref a],[]⟩ [.ref a] [.ref a] _ _ hr e0 (hbind s₁ (.ref a)) (.cons rfl .nil) (lT H hO hS)) fun r s' h=>?_
  cases r with
  | error e=>exact (LP H e s' h).elim
  | ok fl=>
    cases fl with
    | next=>exact False.elim h
    | brk=>exact False.elim h
    | cont=>exact False.elim h
    | ret u=>
      obtain ⟨v,H',os,bare,un,Q0,r',q⟩:=h
      have q':v = .bl true:=q
      subst q'
      obtain rfl:u = Value.bool true:=r'
      refine ⟨rfl,OldK.of_keep fun b o e=>?_,os,bare⟩
      cases q:H b with
      | none=>exact un.keep b o e q (by intro z;exact absurd (show b∈([] :List Addr) from z) (by simp)) (by simp)
      | some u=>
        rcases hO b with z | ⟨ob,xs,z⟩
        · rw [q] at z;cases z
        · have z2:=un.kF b ob _ z
          obtain ⟨e1,_⟩:=hok b _ z
          obtain ⟨e2,_⟩:=Q0 b _ z2
          rw [e] at e1;cases e1
          exact e2
 cases hk:K.lookup a with
 | some o=>
   have e:=KX a o hk
   rw [ha] at e
   cases e
   refine core (fun _=>none) (fun _=> .inl rfl) (.inr ⟨_,vs.toArray,_,hk,rfl,rfl,rfl,by rw [List.size_toArray,QZ];exact hl,by simpa using rv⟩) (fun b u z=>by have z':(none:Option HO) = some u:=z;cases z') (fun b z=>absurd rfl z) fun z=>absurd rfl z
 | none=>
   refine core (fun b=>if b = a then some (.cW { cls:= .type "list",data:= .seq vs.toArray } (.lst (ns.map V.int))) else none) (fun b=>?_) (.inl (.inr ⟨{ cls:= .type "list",data:= .seq vs.toArray },if_pos rfl⟩)) (fun b u z=>?_) (fun b z=>?_) fun _=>hk
   · by_cases hb:b = a
     · exact .inr ⟨_,_,if_pos hb⟩
     · exact .inl (if_neg hb)
   · by_cases hb:b = a
     · have z':=(if_pos hb).symm.trans z
       cases z'
       subst hb
       exact ⟨ha,by rw [List.length_map];exact hl,vs,_,rv,ha⟩
     · have z':=(if_neg hb).symm.trans z
       cases z'
   · by_cases hb:b = a
     · exact hb
     · exact absurd (if_neg hb) z
end L2
namespace L2
open PySem PySem.Spec PyProof.Rows
theorem Kr {l:PySem.W.OpenLaw} {n k:Nat} {q:Program} {loose:List Str} {XP:(Str→Option Value)→Heap→Prop} {YP:World→Heap→Prop} {d:DefRec} {K:Params→PySem.W.Frag} {CX:World→qA} {sp:World→Sp} {x:Str}
  (hn:l.most = some n) (hn2:n≤sizeLine) (hdf:d.params.defaults = []) (hr:cU k callerA)
  (hY:∀(w:World) (h:Heap),YP w h→(K w.params).In h)
  (F:∀(w:World) (mg:Str→Option Value) (fa:Addr) (h:Heap),(K w.params).In h→h.Ns mainGlobals mg→mg d.name = some (.ref fa)→
    ∃fd:FuncData,(∀(s:Shared) (u:Value),BindsTo s fd ⟨[u],[]⟩ [(x,u)])∧
     ∀base:Heap,(K w.params).In base→base.Ns mainGlobals mg→gG l.prog w (K w.params) mg base (CX w) k fa fd [x] (sp w))
  (lT:∀(w:World) (H:Hp) (a:Addr) (ns:List Int),ns.length≤n→HR H→av (K w.params) H a (ns.map V.int)→sp w [.ref a] H (fun v _=>v = .bl true) fun _ _ _=>False)
  (LP:∀(w:World) (H:Hp) (s:Shared) (e:Value) (s':Shared),CX w [] H s (fun _ _ _=>False) e s'→False):
  PySem.W.WalkO q loose XP YP l.row.toRowW d [] (fun f vs=>PySem.call f vs):=by
 refine Om.Cv hn hdf fun w s₀ s₁ mg mb fa o pm cd doc a vs ns G Y ho hd hcd hmg hobj hints hlen hg=>?_
 have KX:=hY w _ Y
 obtain ⟨fd,hb,hF⟩:=F w mg fa _ KX G.T.g hmg
 exact HU KX G.T.g G.T.b G.T.builtins G.T.nolimit hg hobj hints (Nat.le_trans hlen hn2) hr hF hb (fun H hO hS=>lT w H a ns hlen hO hS) fun H e s'=>LP w H s₁ e s'
end L2
namespace L2
open PySem PySem.Spec PyProof.Rows
def inClass (s:Stmt) (j:Nat):Stmt:=match s with
 | .ClassDef _ _ _ body _ _ _ _ _ _ _=>body.getD j (.Pass ⟨0,0,0,0⟩)
 | _=> .Pass ⟨0,0,0,0⟩
def dD (s:Stmt):Arguments:=match s with
 | .FunctionDef _ a _ _ _ _ _ _ _ _=>a
 | _=>{ posonlyargs:=[],args:=[],vararg:=none,kwonlyargs:=[],kw_defaults:=[],kwarg:=none,defaults:=[] }
def cV (s:Stmt):List Stmt:=match s with
 | .FunctionDef _ _ b _ _ _ _ _ _ _=>b
 | _=>[]
def au (s:Stmt):Scope:=match s with
 | .FunctionDef _ _ _ _ _ _ sc _ _ _=>sc
 | _=>{ kind:= .function,names:=[],isGenerator:=false,isCoroutine:=false }
abbrev p9:qA:=fun _ _ _ _ _ _=>False
abbrev E0:XK:=fun _ _ _=>False
structure ym (K:PySem.W.Frag) (x qual:Str) (st:Stmt) (f:Addr) (fd:FuncData):Prop where
 ex:∃(oc:Value) (od:Option Addr) (kV doc pm:Value) (an:Option Addr) (cdv ct:Value) (osl:Array (Option Value)),
  fd = PySem.W.fnOf x qual (dD st) (cV st) (au st) .none kV doc pm an cdv ct∧K.lookup f = some ⟨oc,od, .func fd,osl⟩∧PySem.W.codeIn K cdv qual = true
 kp:PySem.W.keepIn K (.ref f) = true
section
variable {P:Program} {w:World} {K:PySem.W.Frag} {mg:Str→Option Value} {base:Heap}
theorem ym.ok {x qual:Str} {st:Stmt} {f:Addr} {fd:FuncData} {N ps:List Str} {k:Nat} {sp:Sp} (F:ym K x qual st f fd) (S:aI N ps (au st)) (len:∀vs H Q E,sp vs H Q E→vs.length = ps.length)
  (hbody:∀(cdv:Value) (A:Around) (outer:List Env) (s:Shared) (H:Hp) (vs:List V) (Q:VK) (E:XK),cU k (A.deeper (envOfC qual (au st) s.heap.objs.size f cdv))→sp vs H Q E→
    ∃t,jK (pA p9 P w K mg base N qual (au st) f cdv A outer s H E).Al (cV st) t∧t { nx:=fun _ H'=>Q .bE H',rt:=Q } (start N vs) H):gG P w K mg base p9 (k + 1) f fd ps sp:=by
 obtain ⟨oc,od,kV,doc,pm,an,cdv,ct,osl,rfl,lk,hcd⟩:=F.ex
 refine NP lk hcd S len fun A outer s H vs Q E hr lT=>?_
 obtain ⟨t,h,q⟩:=hbody cdv A outer s H vs Q E hr lT
 exact ⟨t,h.Al,q⟩
theorem ym.binds {x qual:Str} {st:Stmt} {f:Addr} {fd:FuncData} {ps:List Str} (F:ym K x qual st f fd)
  (h:∀(kV doc pm:Value) (an:Option Addr) (cdv ct:Value) (us:List Value),us.length = ps.length→bindArgs (PySem.W.fnOf x qual (dD st) (cV st) (au st) .none kV doc pm an cdv ct) ⟨us,[]⟩ = pure (ps.zip us)):Binds K fd ps [] :=by
 obtain ⟨oc,od,kV,doc,pm,an,cdv,ct,osl,rfl,lk,hcd⟩:=F.ex
 exact .all (h kV doc pm an cdv ct)
theorem AD {x qual:Str} {st:Stmt} {f:Addr} {oc:Value} {od an:Option Addr} {osl:Array (Option Value)} {kV doc pm cdv ct:Value} (l:K.lookup f = some ⟨oc,od, .func (PySem.W.fnOf x qual (dD st) (cV st) (au st) .none kV doc pm an cdv ct),osl⟩)
  (c:PySem.W.codeIn K cdv qual = true) (k:PySem.W.keepIn K (.ref f) = true):ym K x qual st f (PySem.W.fnOf x qual (dD st) (cV st) (au st) .none kV doc pm an cdv ct):=⟨⟨oc,od,kV,doc,pm,an,cdv,ct,osl,rfl,l,c⟩,k⟩
end
theorem bH {A:Around} {k:Nat} (hr:cU k A):A.units + 1 < cLine:=Nat.lt_of_le_of_lt (Nat.add_le_add_left (by decide:1≤64) _) hr.units
theorem cO {n:Nat} (h:n≤1000):n < sizeLine:=Nat.lt_of_le_of_lt h (by decide)
section
variable {X:Cx}
theorem pv (i:Nat) {x:Str} {pos:Pos} (hN:X.N[i]? = some x:=by rfl) (hv:IZ X.env.scope x:=by first | exact Or.inl rfl | exact Or.inr (Or.inl rfl) | exact Or.inr (Or.inr rfl)) (hd:(x == ("__debug__":Str)) = false:=by decide)
  (hcd:(x == ("__classdict__":Str)) = false:=by decide):PE X (.Name x pos) (Lc i):=Ld hN hv hd hcd
end
theorem bN {A B:Prop} (h:B):if false = true then A else B:=by
 rw [if_neg Bool.false_ne_true]
 exact h
theorem pC {A B:Prop} (h:A):if true = true then A else B:=by
 rw [if_pos rfl]
 exact h
theorem dY {c A B:Prop} [Decidable c] (h1:c→A) (h2:¬ c→B):if c then A else B:=by
 by_cases h:c
 · rw [if_pos h]
   exact h1 h
 · rw [if_neg h]
   exact h2 h
def aD (H H':Hp):Prop:=∀b o,H b = some o→H' b = some o
theorem aD.refl (H:Hp):aD H H:=fun _ _ h=>h
theorem aD.trans {H H1 H2:Hp} (a:aD H H1) (b:aD H1 H2):aD H H2:=fun c o h=>b c o (a c o h)
theorem aD.free {H H':Hp} (e:aD H H') {l:Addr} (h:H' l = Option.none):H l = Option.none:=by
 cases q:H l with
 | none=>rfl
 | some o=>
   rw [e l o q] at h
   cases h
theorem aD.seq {K:PySem.W.Frag} {H H':Hp} {a:Addr} {xs:List V} (e:aD H H') (h:av K H a xs):av K H' a xs:=by
 rcases h with (h | ⟨o,h⟩) | h
 · exact .inl (.inl (e _ _ h))
 · exact .inl (.inr ⟨o,e _ _ h⟩)
 · exact .inr h
end L2
namespace L2
open PySem PySem.Spec PyProof.Rows
section
variable {X:Cx}
theorem qE:dZ X (.builtin "len") (fun xs H Q=>∃a kvs,xs = [V.ref a]∧H a = some (.dK kvs)∧Q (.int kvs.length) H):=by
 intro pins s σ H xs us Q I r h
 obtain ⟨a,kvs,rfl,ha,q⟩:=h
 obtain ⟨u,rfl,ru⟩:=vals1 r
 cases ru
 exact NT I (.inl ha) fun t s' I'=>⟨.int kvs.length,H,I',⟨t,rfl⟩,q⟩
end
section
variable {κ:Type} [DecidableEq κ]
theorem HV {kvs:List (κ × V)} {k:κ} (h:cF kvs k = none):¬ k∈kvs.map (·.1):=by
 intro m
 obtain ⟨p,hp,e⟩:=List.mem_map.mp m
 have q:(kvs.any fun kv=>decide (kv.1 = k)) = true:=List.any_eq_true.mpr ⟨p,hp,decide_eq_true e⟩
 rw [jR,h] at q
 exact absurd q (by simp)
theorem i7:∀{l:List κ} {k:κ},l.Nodup→¬ k∈l→(l ++ [k]).Nodup
 | [],k,_,_=>by simp
 | a :: r,k,h,hk=>by
   obtain ⟨h1,h2⟩:=List.nodup_cons.mp h
   show (a :: (r ++ [k])).Nodup
   refine List.nodup_cons.mpr ⟨fun m=>?_,i7 h2 fun m=>hk (List.mem_cons.mpr (Or.inr m))⟩
   rcases List.mem_append.mp m with q | q
   · exact h1 q
   · exact hk (List.mem_cons.mpr (Or.inl (List.mem_singleton.mp q).symm))
theorem Ks {kvs:List (κ × V)} {k:κ} (v:V) (hn:(kvs.map (·.1)).Nodup) (h:cF kvs k = none):((putK kvs k v).map (·.1)).Nodup:=by
 rw [iL v h,List.map_append]
 exact i7 hn (HV h)
end
end L2
set_option maxHeartbeats 4000000
namespace L2
open PySem PySem.Spec PyProof.Rows
section
variable {X:Cx}
def sJ (_ j:Int):Prop:=0 < j∧j.natAbs.log2 < 9000
theorem dF:eO X (binaryOp .FloorDiv) (rI sJ fun i j=> .int (i / j)):=E7 fun i j _ _ _ _ _ hc q=>by
 have h1:(0:Int) < j:=hc.1
 exact floordiv_int (by omega) (by rw [Int.fdiv_eq_ediv_of_nonneg i (by omega)];exact q) (.inl (PyProof.noPylong_of_log2 hc.2))
theorem qF {i j:Int} (h:(decide (0 < j) && decide (j.natAbs.log2 < 9000)) = true):sJ i j:=by
 obtain ⟨a,b⟩:=Bool.and_eq_true_iff.mp h
 exact ⟨of_decide_eq_true a,of_decide_eq_true b⟩
theorem HW {i j:Int} {n:Nat} (h0:0 < j) (h:j < 2 ^ n) (hn:n≤9000):sJ i j:=by
 refine ⟨h0,?_⟩
 have e:(j.natAbs:Int) = j:=by omega
 have h2:j.natAbs < 2 ^ n:=by
  have:(j.natAbs:Int) < ((2 ^ n:Nat):Int):=by rw [e];simpa using h
  exact Int.ofNat_lt.mp this
 have:=(Nat.log2_lt (n:=j.natAbs) (k:=n) (by omega)).mpr h2
 omega
def Ek (i j:Int):Prop:=∃m n:Nat,i.natAbs < 2 ^ m∧j.natAbs < 2 ^ n∧m + n≤134217728
theorem fL:eO X (binaryOp .Mult) (rI Ek fun i j=> .int (i * j)):=E7 fun _ _ _ _ _ _ _ hc q=>by
 obtain ⟨m,n,h1,h2,h3⟩:=hc
 exact mul_int q (IntMulOk.of_le (PySem.intBits_le_iff.mpr h1) (PySem.intBits_le_iff.mpr h2) h3)
theorem Cw:dZ X (.builtin "isinstance") (fun xs H Q=>∃x n t b,xs = [x, .ty n]∧dO X.K H x t∧PySem.W.kitOne X.K t (.type n) = some b∧Q (.bl b) H):=by
 intro pins s σ H xs us Q I r h
 obtain ⟨x,n,t,b,rfl,ty,e,q⟩:=h
 obtain ⟨u,w',rfl,ru,rw'⟩:=vals2 r
 have RK:w' = Value.type n:=rw'
 subst RK
 exact Fd I ru ty e fun tk=>⟨.bl b,H,I.tok _,rfl,q⟩
theorem gf {x:Str} {n:String} {pos:Pos} (hv:bootBuiltins x = some (.type n)) (hg:Gl X x) (hm:X.mg x = none) (hn:x ≠ "__name__":=by decide) (hd:(x == ("__debug__":Str)) = false:=by decide):PE X (.Name x pos) (tC (.ty n)):=J8 hg hm hv rfl hn hd
theorem eE {K:PySem.W.Frag} {n:String}:PySem.W.kitOne K (.type n) (.type n) = some true:=by
 unfold PySem.W.kitOne
 rw [if_pos (beq_self_eq_true _)]
theorem AE {K:PySem.W.Frag}:PySem.W.kitOne K (.type "int") (.type "bool") = some false:=by rfl
mutual
inductive Dt (K:PySem.W.Frag) (H:Hp):V→PyData→Prop
 | bE:Dt K H .bE .none
 | bl (b:Bool):Dt K H (.bl b) (.bool b)
 | int (i:Int):Dt K H (.int i) (.int i)
 | str (x:Str):Dt K H (.str x) (.str x)
 | lst {a:Addr} {xs:List V} {ds:List PyData}:av K H a xs→p_ K H xs ds→Dt K H (.ref a) (.list ds)
 | tup {a:Addr} {xs:List V} {ds:List PyData}:cA K H a xs→p_ K H xs ds→Dt K H (.ref a) (.tuple ds)
inductive p_ (K:PySem.W.Frag) (H:Hp):List V→List PyData→Prop
 | nil:p_ K H [] []
 | cons {x:V} {xs:List V} {d:PyData} {ds:List PyData}:Dt K H x d→p_ K H xs ds→p_ K H (x :: xs) (d :: ds)
end
section
variable {pins:List (Addr × Obj)} {σ:St} {H:Hp} {s:Shared}
mutual
theorem Dt.reads (I:Inv X pins σ H s):∀{x:V} {d:PyData} {u:Value},Dt X.K H x d→RelV x u→∃as,Reads s.heap u d as
 | _,_,u, .bE,r=>by cases (show u = Value.none from r);exact ⟨_, .none⟩
 | _,_,u, .bl b,r=>by cases (show u = Value.bool b from r);exact ⟨_, .bool b⟩
 | _,_,u, .int i,r=>by obtain ⟨t,rfl⟩:=(show ∃t,u = Value.int i t from r);exact ⟨_, .int i t⟩
 | _,_,u, .str x,r=>by obtain ⟨t,rfl⟩:=(show ∃t,u = Value.str x t from r);exact ⟨_, .str x t⟩
 | _,_,u,@Dt.lst _ _ a xs ds h hd,r=>by
   cases (show u = Value.ref a from r)
   obtain ⟨its,rv,⟨o,n,e,c,_,d⟩,hz⟩:=I.list h
   obtain ⟨as,ra⟩:=p_.reads I hd rv
   exact ⟨_, .list e c d (by simpa using ra)⟩
 | _,_,u,@Dt.tup _ _ a xs ds h hd,r=>by
   cases (show u = Value.ref a from r)
   obtain ⟨its,rv,⟨o,e,c,n,d⟩,hz⟩:=I.tuple h
   obtain ⟨as,ra⟩:=p_.reads I hd rv
   exact ⟨_, .tuple e c d (by simpa using ra)⟩
theorem p_.reads (I:Inv X pins σ H s):∀{xs:List V} {ds:List PyData} {us:List Value},p_ X.K H xs ds→Vals xs us→∃as,ReadsAll s.heap us ds as
 | _,_,_, .nil, .nil=>⟨_, .nil⟩
 | _,_,_, .cons h t, .cons r rs=>by
   obtain ⟨as,ra⟩:=Dt.reads I h r
   obtain ⟨bs,rb⟩:=p_.reads I t rs
   exact ⟨_, .cons ra rb⟩
end
end
def LQ (K:PySem.W.Frag):R2:=fun x y H Q=>∃d e,Dt K H x d∧Dt K H y e∧SeqAt.shaped d = true∧SeqAt.shaped e = true∧Q (.bl (PyData.eqv d e)) H
def LR (K:PySem.W.Frag):R2:=fun x y H Q=>∃d e,Dt K H x d∧Dt K H y e∧SeqAt.shaped d = true∧SeqAt.shaped e = true∧Q (.bl (!PyData.eqv d e)) H
theorem LS (hu:X.A.units + 64 < cLine):eO X (compareOp .Eq) (LQ X.K):=by
 intro pins s σ H x y v u Q I rx ry h
 obtain ⟨d,e,hd,he,sd,se,q⟩:=h
 obtain ⟨as,ra⟩:=hd.reads I rx
 obtain ⟨bs,rb⟩:=he.reads I ry
 exact eq_dataH ra rb sd se hu ⟨.bl _,H,I,rfl,q⟩
theorem LU (hu:X.A.units + 64 < cLine):eO X (compareOp .NotEq) (LR X.K):=by
 intro pins s σ H x y v u Q I rx ry h
 obtain ⟨d,e,hd,he,sd,se,q⟩:=h
 obtain ⟨as,ra⟩:=hd.reads I rx
 obtain ⟨bs,rb⟩:=he.reads I ry
 exact ne_dataH ra rb sd se hu ⟨.bl _,H,I,rfl,q⟩
structure Dn (P:Program) (w:World) (K:PySem.W.Frag) (mg:Str→Option Value) (base:Heap) (k:Nat) (x:Str) (ps:List Str) (sp:Sp):Prop where
 ex:∃f fd,gG P w K mg base p9 k f fd ps sp∧Binds K fd ps []∧PySem.W.keepIn K (.ref f) = true∧mg x = some (.ref f)
theorem a_ {j k:Nat} {x:Str} {ps:List Str} {sp:Sp} {e:Expr} {es:List Expr} {t:TA} {p pos:Pos} (D:Dn X.prog X.w X.K X.mg X.base j x ps sp) (hr:cU k X.A) (ha:PA X (e :: es) t) (hj:j≤k:=by decide) (hg:Gl X x:=by rfl)
  (hdb:(x == ("__debug__":Str)) = false:=by decide) (he:starEach (e :: es) X.env = (false,eval e X.env) :: starEach es X.env:=by rfl) (hpl:(backTo pos (starEach es X.env)).any (·.1) = false:=by rfl):
  PE X (.Call (.Name x p) (e :: es) [] pos) (Jh sp [] E0 t):=by
 obtain ⟨f,fd,F,b,kp,m⟩:=D.ex
 exact Kc F (hr.mono hj) hg m kp b .nil (fun _ _ _ _ _ _ _ h=>h.elim) ha hdb he hpl
end
structure At (K:PySem.W.Frag) (mg:Str→Option Value) (x:Str) (st:Stmt) (f:Addr) (fd:FuncData):Prop where
 fn:ym K x x st f fd
 name:mg x = some (.ref f)
theorem At.ok {P:Program} {w:World} {K:PySem.W.Frag} {mg:Str→Option Value} {base:Heap} {x:Str} {st:Stmt} {f:Addr} {fd:FuncData} {N ps:List Str} {k:Nat} {sp:Sp} (F:At K mg x st f fd) (S:aI N ps (au st)) (len:∀vs H Q E,sp vs H Q E→vs.length = ps.length)
  (hbody:∀(cdv:Value) (A:Around) (outer:List Env) (s:Shared) (H:Hp) (vs:List V) (Q:VK) (E:XK),cU k (A.deeper (envOfC x (au st) s.heap.objs.size f cdv))→sp vs H Q E→
    ∃t,jK (pA p9 P w K mg base N x (au st) f cdv A outer s H E).Al (cV st) t∧t { nx:=fun _ H'=>Q .bE H',rt:=Q } (start N vs) H)
  (h:∀(kV doc pm:Value) (an:Option Addr) (cdv ct:Value) (us:List Value),us.length = ps.length→bindArgs (PySem.W.fnOf x x (dD st) (cV st) (au st) .none kV doc pm an cdv ct) ⟨us,[]⟩ = pure (ps.zip us)):
  Dn P w K mg base (k + 1) x ps sp:=⟨f,fd,F.fn.ok S len hbody,F.fn.binds h,F.fn.kp,F.name⟩
theorem Jl {K:PySem.W.Frag} {mg:Str→Option Value} {h:Heap} {x:Str} {st:Stmt} {f:Addr} {oc:Value} {od an:Option Addr} {osl:Array (Option Value)} {kV doc pm cdv ct:Value} (X:K.In h) (G:h.Ns mainGlobals mg)
  (a:PySem.W.nsIn K mainGlobals x = some (some (.ref f))) (l:K.lookup f = some ⟨oc,od, .func (PySem.W.fnOf x x (dD st) (cV st) (au st) .none kV doc pm an cdv ct),osl⟩)
  (c:PySem.W.codeIn K cdv x = true) (k:PySem.W.keepIn K (.ref f) = true):At K mg x st f (PySem.W.fnOf x x (dD st) (cV st) (au st) .none kV doc pm an cdv ct):=⟨AD l c k,PySem.W.mg_of X G a⟩
theorem aD.tup {H H':Hp} {K:PySem.W.Frag} {a:Addr} {xs:List V} (e:aD H H') (h:cA K H a xs):cA K H' a xs:=by
 rcases h with (h | ⟨o,h⟩) | h
 · exact .inl (.inl (e _ _ h))
 · exact .inl (.inr ⟨o,e _ _ h⟩)
 · exact .inr h
theorem aA {H:Hp} {p:Addr} (h:H p = none) (o:HO):aD H (upd H p o):=fun b u q=>by rw [ao (ay q h)];exact q
theorem small {n:Nat} (h:n≤1000):n≤sizeLine:=Nat.le_of_lt (cO h)
end L2
namespace Jm
def cf (a b:Int):Int:=(Int.gcd a b:Int)
theorem Dl (a:Int) (h:0≤a):cf a 0 = a:=by
 unfold cf;rw [Int.gcd_zero_right];omega
theorem xo (a b:Int) (h:0 < b):cf b (a % b) = cf a b:=by
 unfold cf
 rw [Int.emod_def,Int.gcd_sub_mul_left_right,Int.gcd_comm]
theorem vz (a b:Int) (h:0 < a∨0 < b):0 < cf a b:=by
 unfold cf
 have:0 < Int.gcd a b:=by
  rcases h with h | h
  · exact Int.gcd_pos_of_ne_zero_left _ (by omega)
  · exact Int.gcd_pos_of_ne_zero_right _ (by omega)
 omega
theorem Dm (a b:Int):cf a b = cf b a:=by unfold cf;rw [Int.gcd_comm]
theorem LV (a b:Int):cf a (if b < 0 then -b else b) = cf a b:=by
 unfold cf;split
 · rw [Int.gcd_neg]
 · rfl
abbrev fr (t b:Int):Rat:=Rat.divInt t b
theorem Fx (t b:Int) (h:0 < b):(fr t b).num = t / cf b t:=by
 unfold fr cf
 rw [Rat.num_divInt,Int.sign_eq_one_of_pos h,Int.one_mul]
theorem AF (t b:Int) (h:0 < b):((fr t b).den:Int) = b / cf b t:=by
 unfold fr cf
 rw [Rat.den_divInt,if_neg (by omega)]
 rw [Int.natCast_ediv];congr 1;omega
theorem kh (a b:Int):cf a b ∣ a:=Int.gcd_dvd_left ..
theorem jh (a b:Int):cf a b ∣ b:=Int.gcd_dvd_right ..
theorem den_pos (q:Rat):(0:Int) < q.den:=by have:=q.den_pos;omega
theorem Ku (q:Rat):fr q.num q.den = q:=Rat.num_divInt_den q
theorem Jo {t b t' b':Int} (h:0 < b) (h':0 < b') (e:t * b' = t' * b):fr t b = fr t' b':=
 (Rat.divInt_eq_divInt_iff (by omega) (by omega)).mpr e
theorem Fy {n d:Int} (h:0 < d) (c:cf n d = 1):(fr n d).num = n∧((fr n d).den:Int) = d:=by
 rw [Fx n d h,AF n d h,Dm,c,Int.ediv_one,Int.ediv_one];exact ⟨rfl,rfl⟩
end Jm
namespace Jm
theorem Fz (t b:Int) (h:0 < b):((fr t b).den:Int)≤b:=by
 rw [AF t b h]
 exact Int.ediv_le_self _ (Int.le_of_lt h)
end Jm
namespace Jm
def Sz (n:Nat) (x:Int):Prop:=x.natAbs < 2 ^ n
theorem Sz.mono {m n:Nat} {x:Int} (h:Sz m x) (hn:m≤n):Sz n x:=Nat.lt_of_lt_of_le h (Nat.pow_le_pow_right (by decide) hn)
theorem Sz.of_le {n:Nat} {x y:Int} (h:Sz n y) (hx:x.natAbs≤y.natAbs):Sz n x:=Nat.lt_of_le_of_lt hx h
theorem Sz.mul {m n:Nat} {x y:Int} (hx:Sz m x) (hy:Sz n y):Sz (m + n) (x * y):=by
 unfold Sz at *
 rw [Int.natAbs_mul,Nat.pow_add]
 exact Nat.mul_lt_mul'' hx hy
theorem Sz.add {m n:Nat} {x y:Int} (hx:Sz m x) (hy:Sz n y):Sz (max m n + 1) (x + y):=by
 have h1:=hx.mono (Nat.le_max_left m n)
 have h2:=hy.mono (Nat.le_max_right m n)
 unfold Sz at *
 rw [Nat.pow_succ]
 omega
theorem Sz.Q2 {n:Nat} {x y:Int} (hx:Sz n x) (hy:Sz n y):Sz (n + 1) (x + y):=by
 have:=hx.add hy
 rwa [Nat.max_self] at this
theorem Sz.ji {n:Nat} {x B:Int} (h0:-B≤x) (h1:x≤B) (hB:Sz n B):Sz n x:=hB.of_le (by omega)
theorem Sz.ediv {n:Nat} {x y:Int} (h:Sz n x) (hy:0 < y):Sz n (x / y):=by
 refine h.of_le ?_
 have e:=Int.emod_add_mul_ediv x y
 have m0:=Int.emod_nonneg x (b:=y) (by omega)
 have m1:=Int.emod_lt_of_pos x hy
 rcases Int.lt_or_le x 0 with hx | hx
 · have q0:x / y < 0:=Int.ediv_neg_of_neg_of_pos hx hy
   have z:y * (x / y)≤1 * (x / y):=Int.mul_le_mul_of_nonpos_right (by omega) (by omega)
   rcases Int.lt_or_le (x / y) x with k | k
   · exfalso
     have z2:y * (x / y)≤y * (x - 1):=Int.mul_le_mul_of_nonneg_left (by omega) (by omega)
     have z3:y * (x - 1)≤1 * (x - 1) - (y - 1):=by
      have z4:(y - 1) * (x - 1)≤(y - 1) * (-2):=Int.mul_le_mul_of_nonneg_left (by omega) (by omega)
      have z5:y * (x - 1) = (y - 1) * (x - 1) + (x - 1):=by grind
      omega
     omega
   · omega
 · have q0:0≤x / y:=Int.ediv_nonneg hx (by omega)
   have:=Int.ediv_le_self y hx
   omega
theorem Sz.dvd {n:Nat} {x y:Int} (h:Sz n y) (hy:0 < y) (hx:0≤x) (d:x ∣ y):Sz n x:=h.of_le (by have:=Int.le_of_dvd hy d;omega)
end Jm
namespace Jm
end Jm
namespace Jm
end Jm
namespace Jm
theorem FA {n:Nat}:∀{ws:List Int},(∀m∈ws,Sz n m)→Sz (n + ws.length) ws.sum
 | [],_=>by unfold Sz;show 0 < _;exact Nat.two_pow_pos _
 | x :: r,h=>by
   have h1:=FA (ws:=r) fun m hm=>h m (List.mem_cons_of_mem _ hm)
   have h2:=((h x List.mem_cons_self).mono (Nat.le_add_right n r.length)).Q2 h1
   rw [List.sum_cons]
   exact h2.mono (by rw [List.length_cons];omega)
end Jm
namespace Jm
def vA (c:Int):Nat→Int
 | 0=>c
 | i + 1=>vA c i / 10000000000
def cellOf (ns:List Int) (k:Int):Int:=if 0 < (ns.length:Int) then ns.getD (k % ns.length).toNat 0 else 0
def qG (ns:List Int) (k:Int):Int:=if 0 < (ns.length:Int) then k / ns.length else 1
def mixed (c k j many:Int):Int:=
 let one:=(c * 7919 + k * 104729 + j * 1299709 + 31) % 1000000007
 let two:=(one * 48271 + c / 1009) % 998244353
 let three:=(two * (one % 9973 + 1) + j) % 1000000009
 (one * 69621 + three * 40692 + three / 1013) % 2147483647 % many
def draw (ns:List Int) (k j many:Int):Int:=
 if qG ns k = 0∧1000000000000000000≤cellOf ns k∧0 < vA (cellOf ns k) j.toNat then vA (cellOf ns k) j.toNat % 10000000000 % many
 else mixed (cellOf ns k) k j many
theorem Kv (ns:List Int) (k j many:Int) (h:0 < many):0≤draw ns k j many:=by
 unfold draw;split
 · exact Int.emod_nonneg _ (by omega)
 · exact Int.emod_nonneg _ (by omega)
theorem Kw (ns:List Int) (k j many:Int) (h:0 < many):draw ns k j many < many:=by
 unfold draw;split
 · exact Int.emod_lt_of_pos _ h
 · exact Int.emod_lt_of_pos _ h
end Jm
namespace L2
open PySem PySem.Spec PyProof.Rows
structure lW (K:PySem.W.Frag) (vs:List V) (H:Hp) (Q:VK) (E:XK):Prop where
 ex:∃(a:Addr) (ns:List Int) (k j many:Int),vs = [.ref a, .int k, .int j, .int many]∧av K H a (ns.map V.int)∧ns.length≤63∧0≤k∧0≤j∧j < 2 ^ 62∧0 < many∧Q (.int (Jm.draw ns k j many)) H
theorem cG {K:PySem.W.Frag} {H:Hp} {Q:VK} {E:XK} {a:Addr} {ns:List Int} {k j many:Int} (hS:av K H a (ns.map V.int)) (h63:ns.length≤63) (h1:0≤k) (h2:0≤j) (h3:j < 2 ^ 62) (h4:0 < many)
  (h:∀d:Int,d = Jm.draw ns k j many→0≤d→d < many→Q (.int d) H):lW K [.ref a, .int k, .int j, .int many] H Q E:=
 ⟨a,ns,k,j,many,rfl,hS,h63,h1,h2,h3,h4,h _ rfl (Jm.Kv ns k j many h4) (Jm.Kw ns k j many h4)⟩
def HX:Sp:=fun vs H Q _=>∃a b:Int,vs = [.int a, .int b]∧0≤a∧0≤b∧Q (.int (Jm.cf a b)) H
abbrev jj (q:Rat):HO:= .tup [.int q.num, .int (q.den:Int)]
def vB:Sp:=fun vs H Q _=>∃i:Int,vs = [.int i]∧Q (.bl true) H
def Ab (K:PySem.W.Frag):Sp:=fun vs H Q _=>∃(a:Addr) (ns:List Int),vs = [.ref a]∧av K H a (ns.map V.int)∧ns.length≤63∧∀H',Q (.bl true) H'
section
variable {X:Cx} {pos:Pos}
def LW (c:TT) (t u:TS):TS:=fun D σ H=>∃J:St→Hp→Prop,(c σ H fun b H1=>if b = true then t { D with nx:=J } σ H1 else u { D with nx:=J } σ H1)∧∀σ' H',J σ' H'→D.nx σ' H'
theorem gI {c:Expr} {a b:List Stmt} {tc:TT} {t u:TS} (hc:PT X c tc) (ha:jK X a t) (hb:jK X b u):PS X (.If c a b pos) (LW tc t u):=by
 intro pins s σ H D I h
 obtain ⟨J,h,hJ⟩:=h
 refine aP (bM hc ha hb pins s σ H { D with nx:=J } I h) fun f s' q=>?_
 cases f with
 | next=>obtain ⟨σ',H',I',q⟩:=q;exact ⟨σ',H',I',hJ _ _ q⟩
 | cont=>exact q
 | brk=>exact q
 | ret v=>exact q
end
theorem dw {X:Cx} {e:Expr} {t:TT} (h:PT X e t):PT X e (fun σ H Q=>∃b:Bool,t σ H (fun b' H'=>b' = b∧H' = H)∧Q b H):=by
 intro pins s σ H Q I hw
 obtain ⟨b,hb,q⟩:=hw
 refine aP (h pins s σ H _ I hb) fun b' s' ⟨H',I',e1,e2⟩=>?_
 subst e1 e2
 exact ⟨_,I',q⟩
theorem lX {i j:Int} (h0:0 < j) (h:Jm.Sz 9000 j):sJ i j:=by
 refine ⟨h0,?_⟩
 exact (Nat.log2_lt (by omega)).mpr h
theorem eY {m n:Nat} {i j:Int} (hi:Jm.Sz m i) (hj:Jm.Sz n j) (h:m + n≤134217728:=by decide):Ek i j:=⟨m,n,hi,hj,h⟩
theorem jk {n:Nat} {x:Int} (h:decide (x.natAbs < 2 ^ n) = true):Jm.Sz n x:=by
 unfold Jm.Sz
 exact of_decide_eq_true h
theorem Ky {ns:List Int} {k:Int} (h0:0≤k) (h:k < (ns.length:Int)):oG (ns.map V.int) k = some (.int (ns.getD k.toNat 0)):=by
 have hk:k.toNat < ns.length:=by omega
 have ek:k = ((k.toNat:Nat):Int):=by omega
 have q:oG (ns.map V.int) ((k.toNat:Nat):Int) = some (.int (ns.getD k.toNat 0)):=bB (by rw [List.getElem?_map,List.getD_eq_getElem?_getD,List.getElem?_eq_getElem hk] <;> rfl)
 rw [← ek] at q
 exact q
end L2
namespace L2
open PySem PySem.Spec PyProof.Rows
section
variable {prog:Program} {w:World} {A:Around} {R:Result→Shared→Prop} {s:Shared}
theorem AG {elt target iter:Expr} {scope:Scope} {pos:Pos} {it acc:Value} {env:Env} (J:Nat→Shared→Prop)
  (turn:∀n s,J n s→wpAny (model prog w) A (pyNext it) (fun r s₁=>match r with
    | none=>R (.ok .next) s₁
    | some v=>wpAny (model prog w) A (letOwnedTupleGo target it v) (fun _ s₂=>wpAny (model prog w) A (assign target env v) (fun _ s₃=>wpAny (model prog w) A (eval elt env) (fun x s₄=>
            wpAny (model prog w) A (call (.builtin "list.append") [acc,x]) (fun _ s₅=>∃m,m < n∧J m s₅) (fun _ _=>False) s₄) (fun _ _=>False) s₃) (fun _ _=>False) s₂) (fun _ _=>False) s₁) (fun _ _=>False) s)
  (n:Nat) (h:J n s):codeAny (model prog w) A (.compLoop (.ListComp elt [⟨target,iter,[],0⟩] scope pos) 0 it acc env) R s:=by
 refine codeAny_loop rfl J (fun n s hI=>?_) n h
 show wpAny _ A ((compTurn (.ListComp elt [⟨target,iter,[],0⟩] scope pos) 0 it acc env).onRaise (fun x=>do noteFrame x env;theTreesLotGoes x)) _ _ s
 refine wpAny_noted ?_
 rw [compTurn_list1]
 refine wpAny_bind (wpAny_standAt (wpAny_bind (wpAny_mono (turn n s hI) (fun r s₁ h₁=>?_) fun _ _ h'=>h'.elim)))
 cases r with
 | none=>exact wpAny_pure h₁
 | some v=>
   refine wpAny_bind (wpAny_mono h₁ (fun _ s₂ h₂=>wpAny_bind (wpAny_mono h₂ (fun _ s₃ h₃=>?_) fun _ _ h'=>h'.elim)) fun _ _ h'=>h'.elim)
   exact wpAny_bind (wpAny_bind (wpAny_mono h₃ (fun x s₄ h₄=>wpAny_bind (wpAny_mono h₄ (fun _ s₅ h₅=>wpAny_pure (wpAny_pure ⟨rfl,h₅⟩)) fun _ _ h'=>h'.elim)) fun _ _ h'=>h'.elim))
end
theorem lG {scope:Scope} {env:Env} (h:∀y∈scope.names,y.2 = .free→∃c,env.cells.lookup y.1 = some c):
  ∃cl,closureFor scope env = pure cl∧(∀y c,(y,c)∈cl→env.cells.lookup y = some c∧(y,NameKind.free)∈scope.names)∧∀y,(y,NameKind.free)∈scope.names→∃c,(y,c)∈cl:=by
 have gen:∀(names:List (Str × NameKind)) (acc:List (Str × Addr)),(∀y∈names,y.2 = .free→∃c,env.cells.lookup y.1 = some c)→
   ∃cl,(forIn names acc fun (x:Str × NameKind) (cs:List (Str × Addr))=>(if (x.2 == NameKind.free) = true then do let a ← cellOf env x.1;pure (ForInStep.yield ((x.1,a) :: cs)) else pure (ForInStep.yield cs):Sem _)) = pure cl∧
    (∀y c,(y,c)∈cl→(env.cells.lookup y = some c∧(y,NameKind.free)∈names)∨(y,c)∈acc)∧(∀p∈acc,p∈cl)∧∀y,(y,NameKind.free)∈names→∃c,(y,c)∈cl:=by
  intro names
  induction names with
  | nil=>intro acc _;exact ⟨acc,by rw [List.forIn_nil],fun y c m=> .inr m,fun p hp=>hp,fun y m=>nomatch m⟩
  | cons x r ih=>
    intro acc hc
    obtain ⟨n,k⟩:=x
    by_cases hk:k = .free
    · subst hk
      obtain ⟨c,ec⟩:=hc (n, .free) List.mem_cons_self rfl
      obtain ⟨cl,e,h1,h2,h3⟩:=ih ((n,c) :: acc) fun y hy=>hc y (List.mem_cons_of_mem _ hy)
      refine ⟨cl,?_,fun y d m=>?_,fun p hp=>h2 p (List.mem_cons_of_mem _ hp),fun y m=>?_⟩
      · rw [List.forIn_cons,← e]
        have NY:cellOf env n = pure c:=by unfold cellOf;rw [ec]
        simp only [beq_self_eq_true,if_true,NY,pure_bind]
      · rcases h1 y d m with ⟨a,b⟩ | b
        · exact .inl ⟨a,List.mem_cons_of_mem _ b⟩
        · rcases List.mem_cons.mp b with z | z
          · cases z;exact .inl ⟨ec,List.mem_cons_self⟩
          · exact .inr z
      · rcases List.mem_cons.mp m with z | z
        · cases z;exact ⟨c,h2 _ List.mem_cons_self⟩
        · exact h3 y z
    · obtain ⟨cl,e,h1,h2,h3⟩:=ih acc fun y hy=>hc y (List.mem_cons_of_mem _ hy)
      have hb:(k == NameKind.free) = false:=by simpa using hk
      refine ⟨cl,?_,fun y d m=>?_,h2,fun y m=>?_⟩
      · rw [List.forIn_cons,← e]
        simp only [hb,Bool.false_eq_true,if_false,pure_bind]
      · rcases h1 y d m with ⟨a,b⟩ | b
        · exact .inl ⟨a,List.mem_cons_of_mem _ b⟩
        · exact .inr b
      · rcases List.mem_cons.mp m with z | z
        · cases z;exact absurd rfl hk
        · exact h3 y z
 obtain ⟨cl,e,h1,_,h3⟩:=gen scope.names [] h
 refine ⟨cl,?_,fun y c m=>(h1 y c m).elim id (fun z=>nomatch z),h3⟩
 have e2:closureFor scope env = ((forIn scope.names ([] :List (Str × Addr)) fun (x:Str × NameKind) (cs:List (Str × Addr))=>(if (x.2 == NameKind.free) = true then do let a ← cellOf env x.1;pure (ForInStep.yield ((x.1,a) :: cs)) else pure (ForInStep.yield cs):Sem _)) >>= fun r=>pure r):=rfl
 rw [e2,e]
 rfl
theorem lookup_mem {α:Type} {l:List (Str × α)} {y:Str} {c:α} (h:(y,c)∈l):∃d,l.lookup y = some d:=by
 induction l with
 | nil=>cases h
 | cons p r ih=>
   obtain ⟨k,v⟩:=p
   rw [List.lookup_cons]
   cases hb:y == k with
   | true=>exact ⟨v,rfl⟩
   | false=>
     rcases List.mem_cons.mp h with z | z
     · cases z;simp at hb
     · exact ih z
theorem gU:∀(names:List (Str × NameKind)) (n:Nat) (acc:List (Str × Addr)) {x:Str} {c:Addr},(cellsFrom n names acc).lookup x = some c→n≤c∨acc.lookup x = some c
 | [],_,_,_,_,h=> .inr h
 | (name,kind) :: r,n,acc,x,c,h=>by
   unfold cellsFrom at h
   split at h
   · rcases gU r (n + 1) _ h with z | z
     · exact .inl (by omega)
     · rw [List.lookup_cons] at z
       cases hb:x == name with
       | true=>rw [hb] at z;cases z;exact .inl (Nat.le_refl _)
       | false=>rw [hb] at z;exact .inr z
   · exact gU r n acc h
theorem zf:∀(names:List (Str × NameKind)) (n n0:Nat) (acc:List (Str × Addr)) {x:Str} {c:Addr},n0≤n→(∀d,acc.lookup x = some d→n0≤d)→(cellsFrom n names acc).lookup x = some c→n0≤c:=by
 intro names n n0 acc x c hn ha h
 rcases gU names n acc h with z | z
 · omega
 · exact ha c z
theorem kH:∀(names:List (Str × NameKind)) (n:Nat) (acc:List (Str × Addr)) {x:Str} {c:Addr},(x,NameKind.cell)∈names→(cellsFrom n names acc).lookup x = some c→n≤c
 | [],_,_,_,_,m,_=>nomatch m
 | (name,kind) :: r,n,acc,x,c,m,h=>by
   unfold cellsFrom at h
   rcases List.mem_cons.mp m with z | z
   · cases z
     rw [if_pos (by rfl)] at h
     refine zf r (n + 1) n _ (by omega) (fun d hd=>?_) h
     rw [List.lookup_cons,beq_self_eq_true] at hd
     cases hd
     exact Nat.le_refl _
   · split at h
     · exact Nat.le_trans (Nat.le_succ _) (kH r (n + 1) _ z h)
     · exact kH r n acc z h
theorem gW:∀(names:List (Str × NameKind)) (n:Nat) (acc:List (Str × Addr)) {x:Str},(∃c,acc.lookup x = some c)→∃c,(cellsFrom n names acc).lookup x = some c
 | [],_,_,_,h=>h
 | (name,kind) :: r,n,acc,x,h=>by
   unfold cellsFrom
   split
   · refine gW r (n + 1) _ ?_
     rw [List.lookup_cons]
     cases x == name with
     | true=>exact ⟨_,rfl⟩
     | false=>exact h
   · exact gW r n acc h
theorem kI:∀(names:List (Str × NameKind)) (n:Nat) (acc:List (Str × Addr)) {x:Str},(x,NameKind.cell)∈names→∃c,(cellsFrom n names acc).lookup x = some c
 | [],_,_,_,m=>nomatch m
 | (name,kind) :: r,n,acc,x,m=>by
   unfold cellsFrom
   rcases List.mem_cons.mp m with z | z
   · cases z
     rw [if_pos (by rfl)]
     refine gW r (n + 1) _ ⟨n,?_⟩
     rw [List.lookup_cons,beq_self_eq_true]
   · split
     · exact kI r (n + 1) _ z
     · exact kI r n acc z
theorem kJ:∀(names:List (Str × NameKind)) (n:Nat) (acc:List (Str × Addr)) {x:Str},(x,NameKind.cell) ∉ names→(cellsFrom n names acc).lookup x = acc.lookup x
 | [],_,_,_,_=>rfl
 | (name,kind) :: r,n,acc,x,m=>by
   have m2:(x,NameKind.cell) ∉ r:=fun z=>m (List.mem_cons_of_mem _ z)
   unfold cellsFrom
   split
   · rename_i hk
     rw [kJ r (n + 1) _ m2,List.lookup_cons]
     cases hb:x == name with
     | true=>
       have e1:=beq_iff_eq.mp hb
       have e2:kind = NameKind.cell:=by simpa using hk
       subst e1 e2
       exact absurd List.mem_cons_self m
     | false=>rfl
   · exact kJ r n acc m2
theorem kK:∀(names:List (Str × NameKind)) (n:Nat) (acc:List (Str × Addr)),(∀x y c,acc.lookup x = some c→acc.lookup y = some c→x = y)→(∀x c,acc.lookup x = some c→c < n)→
  ∀x y c,(cellsFrom n names acc).lookup x = some c→(cellsFrom n names acc).lookup y = some c→x = y
 | [],_,_,h,_=>h
 | (name,kind) :: r,n,acc,h,hlt=>by
   intro x y c hx hy
   unfold cellsFrom at hx hy
   split at hx
   · rename_i hk
     rw [if_pos hk] at hy
     refine kK r (n + 1) _ (fun x y c hx hy=>?_) (fun x c hx=>?_) x y c hx hy
     · rw [List.lookup_cons] at hx hy
       cases hb:x == name with
       | true=>
         cases hb2:y == name with
         | true=>rw [beq_iff_eq.mp hb,beq_iff_eq.mp hb2]
         | false=>
           rw [hb] at hx;rw [hb2] at hy
           cases hx
           exact absurd (hlt _ _ hy) (Nat.lt_irrefl _)
       | false=>
         cases hb2:y == name with
         | true=>
           rw [hb] at hx;rw [hb2] at hy
           cases hy
           exact absurd (hlt _ _ hx) (Nat.lt_irrefl _)
         | false=>
           rw [hb] at hx;rw [hb2] at hy
           exact h x y c hx hy
     · rw [List.lookup_cons] at hx
       cases hb:x == name with
       | true=>rw [hb] at hx;cases hx;exact Nat.lt_succ_self _
       | false=>rw [hb] at hx;exact Nat.lt_succ_of_lt (hlt _ _ hx)
   · rename_i hk
     rw [if_neg hk] at hy
     exact kK r n acc h hlt x y c hx hy
theorem nR:∀(names:List (Str × NameKind)) (h:Heap) (acc:List (Str × Addr)),(∀x c,acc.lookup x = some c→∃v,h.IsCell c v)→∀x c,(cellsFrom h.objs.size names acc).lookup x = some c→∃v,(pushCells h names).IsCell c v
 | [],_,_,ha=>ha
 | (name,kind) :: r,h,acc,ha=>by
   intro x c hx
   unfold cellsFrom at hx
   unfold pushCells
   split at hx
   · rename_i hk
     rw [if_pos hk]
     have q:=nR r (h.push { cls:= .type "cell",data:= .cell none }) ((name,h.objs.size) :: acc) (fun x c hx=>by
      rw [List.lookup_cons] at hx
      cases hb:x == name with
      | true=>rw [hb] at hx;cases hx;exact ⟨none,_,Heap.get?_push_size _ rfl,rfl⟩
      | false=>
        rw [hb] at hx
        obtain ⟨v,z⟩:=ha x c hx
        exact ⟨v,z.keeps fun b o e=>Heap.get?_push_of_some _ e⟩) x c
     rw [Heap.size_push] at q
     exact q hx
   · rename_i hk
     rw [if_neg hk]
     exact nR r h acc ha x c hx
def b_ (X:Cx) (N2:List Str) (scope:Scope) (cl:List (Str × Addr)) (s₂:Shared) (H₂:Hp) (fp:List Addr):Cx where
 prog:=X.prog
 w:=X.w
 K:=X.K
 mg:=X.mg
 base:=X.base
 A:=X.A
 N:=N2
 s₀:=s₂
 H₀:=H₂
 env:={ scope:=relabel scope X.env,locals:=s₂.heap.objs.size,globals:=X.env.globals,cells:=cellsFrom (s₂.heap.objs.size + 1) scope.names cl,qual:=X.env.qual,func:=none,code:=X.env.code,frame:=X.env.frame,builtins:=X.env.builtins }
 outer:=X.stack
 stack:=X.stack
 ex:=fp
 fn:=fun x=>decide (scope.names.lookup x = some .cell)
 calm:=X.calm
 pn:=[]
 xe:=fun _ _=>False
def ku (XN:List Str) (xn sn:List (Str × NameKind)) (N2:List Str) (ix:List (Option Nat)):Bool:=
 (ix.length == N2.length) &&
 ((ix.zip N2).all fun p=>match p.1 with
   | none=>true
   | some j=>XN[j]? == some p.2 && sn.lookup p.2 == some .free && (xn.lookup p.2 == some .cell || xn.lookup p.2 == some .free)) &&
 (sn.all fun y=>y.2 != .free || (xn.lookup y.1 == some .cell || xn.lookup y.1 == some .free)) &&
 (sn.all fun y=>y.2 != .local || sn.lookup y.1 == some .local) &&
 (sn.all fun y=>y.2 != .free || sn.all fun z=>z.2 != .cell || z.1 != y.1)
theorem tK {scope:Scope} {env:Env} {x:Str} {k:NameKind} (h:(relabel scope env).names.lookup x = some k) (hk:k = .cell∨k = .free):(x,NameKind.cell)∈scope.names∨(x,NameKind.free)∈scope.names:=by
 have m:=PySem.mem_of_lookup h
 obtain ⟨y,hy,e⟩:=List.mem_map.mp m
 obtain ⟨n,k0⟩:=y
 dsimp only at e
 split at e
 · rename_i hc
   cases e
   have h1:k0 = NameKind.free:=by
    have:=(Bool.and_eq_true_iff.mp (Bool.and_eq_true_iff.mp hc).1).1
    simpa using this
   subst h1
   exact .inr hy
 · cases e
   rcases hk with rfl | rfl
   · exact .inl hy
   · exact .inr hy
theorem AH {scope:Scope} {env:Env}:∀{x:Str},scope.names.lookup x = some .free→(relabel scope env).names.lookup x = some .cell∨(relabel scope env).names.lookup x = some .free:=by
 intro x h
 have gen:∀(l:List (Str × NameKind)),l.lookup x = some .free→(l.map fun (n,k)=>if (k == NameKind.free && env.scope.kind == .function && env.kindOf n == some .cell) then (n,NameKind.cell) else (n,k)).lookup x = some .cell∨
   (l.map fun (n,k)=>if (k == NameKind.free && env.scope.kind == .function && env.kindOf n == some .cell) then (n,NameKind.cell) else (n,k)).lookup x = some .free:=by
  intro l
  induction l with
  | nil=>intro h;cases h
  | cons p r ih=>
    intro h
    obtain ⟨n,k⟩:=p
    rw [List.lookup_cons] at h
    rw [List.map_cons]
    dsimp only
    cases hb:x == n with
    | true=>
      rw [hb] at h
      cases h
      split
      · rw [List.lookup_cons,hb];exact .inl rfl
      · rw [List.lookup_cons,hb];exact .inr rfl
    | false=>
      rw [hb] at h
      split
      · rw [List.lookup_cons,hb];exact ih h
      · rw [List.lookup_cons,hb];exact ih h
 exact gen scope.names h
theorem vC {X:Cx} {pins:List (Addr × Obj)} {σ σ2:St} {H:Hp} {s:Shared} {N2:List Str} {scope:Scope} {cl:List (Str × Addr)} {fp:List Addr} (I:Inv X pins σ H s) (hk:scope.kind = .function)
  (AI:∀y c,(y,c)∈cl→X.env.cells.lookup y = some c) (xr:∀y,(y,NameKind.free)∈scope.names→∃c,(y,c)∈cl) (hfp:∀b∈fp,jf X pins H b) (hfo:∀b∈fp,b < s.heap.objs.size) (hl:σ2.length = N2.length)
  (hσ:∀(i:Nat) (x:Str) (v:V),N2[i]? = some x→σ2[i]? = some (some v)→scope.names.lookup x = some .free∧(X.env.kindOf x = some .cell∨X.env.kindOf x = some .free)∧∃j:Nat,X.N[j]? = some x∧σ[j]? = some (some v))
  (hd:∀x,(x,NameKind.free)∈scope.names→(x,NameKind.cell) ∉ scope.names):
  Inv (b_ X N2 scope cl s H fp) [] σ2 H { s with heap:=pushCells (s.heap.push { cls:= .type "dict",data:= .dict #[] }) scope.names }:=by
 have keeps:∀b o,s.heap.get? b = some o→(pushCells (s.heap.push { cls:= .type "dict",data:= .dict #[] }) scope.names).get? b = some o:=fun b o e=>pushCells_keeps _ _ b o (Heap.get?_push_of_some _ e)
 have hsz:(s.heap.push { cls:= .type "dict",data:= .dict #[] }).objs.size = s.heap.objs.size + 1:=Heap.size_push ..
 have sL:∀x c,cl.lookup x = some c→X.env.cells.lookup x = some c:=fun x c e=>AI x c (PySem.mem_of_lookup e)
 have RL:∀x c,cl.lookup x = some c→c < s.heap.objs.size:=fun x c e=>by
  obtain ⟨v,z⟩:=I.cell x c (sL x c e)
  exact z.lt
 have there:=nR scope.names (s.heap.push { cls:= .type "dict",data:= .dict #[] }) cl (fun x c e=>by
  obtain ⟨v,z⟩:=I.cell x c (sL x c e)
  exact ⟨v,z.keeps fun b o e=>Heap.get?_push_of_some _ e⟩)
 rw [hsz] at there
 have cells:∀x c,(cellsFrom (s.heap.objs.size + 1) scope.names cl).lookup x = some c→s.heap.objs.size + 1≤c∨X.env.cells.lookup x = some c:=fun x c e=>by
  rcases gU _ _ _ e with z | z
  · exact .inl z
  · exact .inr (sL x c z)
 have RM:(b_ X N2 scope cl s H fp).Ok:=by
  refine ⟨I.ok.mod,hk,I.ok.glob,I.ok.blt,Nat.le_refl _,?_,?_,?_,I.ok.hd,I.ok.frames, .inl rfl,?_,I.bs,Nat.le_trans I.ok.yd I.sz,?_,?_,I.stack,I.C_⟩
  · exact kK _ _ _ (fun x y c hx hy=>I.ok.inj x y c (sL x c hx) (sL y c hy)) fun x c e=>Nat.lt_succ_of_lt (RL x c e)
  · intro x hx
    have m:(x,NameKind.cell)∈scope.names∨(x,NameKind.free)∈scope.names:=by
     rcases hx with z | z
     · exact tK z (.inl rfl)
     · exact tK z (.inr rfl)
    rcases m with m | m
    · exact kI _ _ _ m
    · obtain ⟨c,mc⟩:=xr x m
      exact gW _ _ _ (lookup_mem mc)
  · intro x c hf e
    have hf':scope.names.lookup x = some .cell:=of_decide_eq_true hf
    exact Nat.le_trans (Nat.le_succ _) (kH _ _ _ (PySem.mem_of_lookup hf') e)
  · intro b hb
    refine ⟨Nat.ne_of_lt (hfo b hb),fun x c e z=>?_⟩
    have hlt:=hfo b hb
    rcases cells x c e with k | k
    · exact absurd (Nat.lt_of_lt_of_le hlt (Nat.le_trans (Nat.le_succ _) (z ▸ k))) (Nat.lt_irrefl _)
    · exact (hfp b hb).2.2.2.2.1 x c k z
  · intro b o e hb
    rcases (hfp b hb).2.2.2.1 with z | z
    · exact I.ok.Af b o e z
    · exact absurd (Nat.lt_of_lt_of_le (Heap.lt_size (I.ok.bs b o e).1) z) (Nat.lt_irrefl _)
  · intro b hb RN
    rcases List.mem_cons.mp (I.Ai b RN) with z | z
    · exact (hfp b hb).2.1 z
    · exact (hfp b hb).2.2.1 z
 refine ⟨RM,rfl,I.bare,Un.kept keeps,?_,there,I.hok.fresh (Nat.le_refl _),?_,(fun p hp=>nomatch hp),I.hok.kept keeps,hl⟩
 · refine ⟨fun _=>none,(Heap.Ns.new s.heap (.type "dict")).keeps (pushCells_keeps _ _),fun i x v e1 e2 _=>?_⟩
   obtain ⟨hf,hx,j,j1,j2⟩:=hσ i x v e1 e2
   obtain ⟨m,_,hloc⟩:=I.loc
   have hv:IZ X.env.scope x:=hx.elim (fun z=> .inr (.inl z)) fun z=> .inr (.inr z)
   obtain ⟨u,r,lk⟩:=hloc j x v j1 j2 hv
   refine ⟨u,r, .inr ⟨AH hf,?_⟩⟩
   rcases lk with ⟨k,_⟩ | ⟨_,c,ec,ic⟩
   · rcases hx with z | z <;> rw [z] at k <;> cases k
   · refine ⟨c,?_,ic.keeps keeps⟩
     have mf:=PySem.mem_of_lookup hf
     show (cellsFrom (s.heap.objs.size + 1) scope.names cl).lookup x = some c
     rw [kJ _ _ _ (hd x mf)]
     obtain ⟨c',mc⟩:=xr x mf
     obtain ⟨d,ed⟩:=lookup_mem mc
     rw [ed]
     have:=sL x d ed
     rw [ec] at this
     exact this.symm
 · intro x c e
   rcases cells x c e with k | k
   · exact I.hok.fresh (by omega)
   · exact I.iD x c k
section
variable {X:Cx}
def vD (J:It) (g:TG) (te:TE) (acc:Addr) (σ₀:St) (H:Hp) (Q:VK):Prop:=∃W:Nat→Nat→St→Hp→Prop,
 (∃m,W 0 m σ₀ (upd H acc (.lst [])))∧∀i m σ2 H2,W i m σ2 H2→
   (J.stop i H2∧Q (.ref acc) H2)∨(J.go i H2∧∃(S:St→Prop) (N:V→Hp→Prop),(∀σ3 v H4,S σ3→N v H4→∃xs,H4 acc = some (.lst xs)∧xs.length < sizeLine∧∃m',m' < m∧W (i + 1) m' σ3 (upd H4 acc (.lst (xs ++ [v]))))∧∀x H',J.p5 i H2 x H'→g x σ2 H' fun σ3 H3=>S σ3∧te σ3 H3 N)
def Jp (wi:TI) (ix:List (Option Nat)) (g:TG) (te:TE):TE:=fun σ H Q=>wi σ H fun J H1=>∀acc,H1 acc = none→vD J g te acc (ix.map fun o=>o.bind fun j=>(σ[j]?).join) H1 Q
theorem gX {XN:List Str} {xn sn:List (Str × NameKind)} {N2:List Str} {ix:List (Option Nat)} (h:ku XN xn sn N2 ix = true):
  ix.length = N2.length∧(∀(i:Nat) (x:Str) (j:Nat),N2[i]? = some x→ix[i]? = some (some j)→XN[j]? = some x∧sn.lookup x = some .free∧(xn.lookup x = some .cell∨xn.lookup x = some .free))∧
  (∀y∈sn,y.2 = .free→xn.lookup y.1 = some .cell∨xn.lookup y.1 = some .free)∧(∀y∈sn,y.2 = .local→sn.lookup y.1 = some .local)∧∀x,(x,NameKind.free)∈sn→(x,NameKind.cell) ∉ sn:=by
 unfold ku at h
 obtain ⟨h,h5⟩:=Bool.and_eq_true_iff.mp h
 obtain ⟨h,h4⟩:=Bool.and_eq_true_iff.mp h
 obtain ⟨h,h3⟩:=Bool.and_eq_true_iff.mp h
 obtain ⟨h1,h2⟩:=Bool.and_eq_true_iff.mp h
 have e1:ix.length = N2.length:=by simpa using h1
 refine ⟨e1,fun i x j a b=>?_,fun y hy e=>?_,fun y hy e=>?_,fun x m1 m2=>?_⟩
 · have m:(some j,x)∈ix.zip N2:=by
    refine List.mem_of_getElem? (i:=i) ?_
    rw [List.getElem?_zip_eq_some]
    exact ⟨b,a⟩
   have q:=List.all_eq_true.mp h2 _ m
   dsimp only at q
   obtain ⟨q,q3⟩:=Bool.and_eq_true_iff.mp q
   obtain ⟨q1,q2⟩:=Bool.and_eq_true_iff.mp q
   exact ⟨by simpa using q1,by simpa using q2,(Bool.or_eq_true_iff.mp q3).imp (fun z=>by simpa using z) fun z=>by simpa using z⟩
 · have q:=List.all_eq_true.mp h3 y hy
   rcases Bool.or_eq_true_iff.mp q with z | z
   · rw [e] at z;simp at z
   · exact (Bool.or_eq_true_iff.mp z).imp (fun z=>by simpa using z) fun z=>by simpa using z
 · have q:=List.all_eq_true.mp h4 y hy
   rcases Bool.or_eq_true_iff.mp q with z | z
   · rw [e] at z;simp at z
   · simpa using z
 · have q:=List.all_eq_true.mp h5 _ m1
   rcases Bool.or_eq_true_iff.mp q with z | z
   · simp at z
   · have q2:=List.all_eq_true.mp z _ m2
     simp at q2
theorem vE {tg iter elt:Expr} {scope:Scope} {pos:Pos} {N2:List Str} {ix:List (Option Nat)} {g:TG} {te:TE} {cl:List (Str × Addr)} {pins:List (Addr × Obj)} {σ:St} {H:Hp} {s:Shared} {E:Value→Shared→Prop} {Q:VK}
  {RR:Value→Addr→Result→Shared→Prop} (hc:X.calm = true) (hg:∀cl s₂ H₂ fp,PG (b_ X N2 scope cl s₂ H₂ fp) tg g) (he:∀cl s₂ H₂ fp,PE (b_ X N2 scope cl s₂ H₂ fp) elt te)
  (hk:scope.kind = .function) (hn:ku X.N X.env.scope.names scope.names N2 ix = true)
  (AI:∀y c,(y,c)∈cl→X.env.cells.lookup y = some c) (xr:∀y,(y,NameKind.free)∈scope.names→∃c,(y,c)∈cl)
  {it:Addr} {fp:List Addr} {tn:Nat→Heap→Prop} {J:It} (I:Inv X pins σ H s) (T:Turn X.prog X.w X.K tg J fp it tn) (st:tn 0 s.heap) (f:∀b∈fp,jf X pins H b)
  (h:∀acc,H acc = none→vD J g te acc (ix.map fun o=>o.bind fun j=>(σ[j]?).join) H Q)
  (hR:∀acc C H' s' m,Inv X pins σ H' s'→s'.heap.Ns C m→H' C = none→C ≠ X.env.locals→X.s₀.heap.objs.size≤C→(∀x c,X.env.cells.lookup x = some c→c ≠ C)→(∀p∈X.pn ++ pins,p.1 ≠ C)→Q (.ref acc) H'→RR (.ref acc) C (.ok .next) s'):
  wpAny (model X.prog X.w) X.A (newList []) (fun acc s₃=>wpAny (model X.prog X.w) X.A (newFunctionEnv scope X.env.globals cl [] X.env.qual none .none (some X.env)) (fun cenv s₄=>
   codeAny (model X.prog X.w) X.A (.compStart (.ListComp elt [⟨tg,iter,[],0⟩] scope pos) 0 (.ref it) acc { cenv with scope:=relabel scope X.env }) (RR acc cenv.locals) s₄) E s₃) E s:=by
 obtain ⟨k1,k2,k3,k4,k5⟩:=gX hn
 refine wpAny_newObj_type ?_
 have I3:Inv X pins σ (upd H s.heap.objs.size (.lst [])) { s with heap:=s.heap.push { cls:= .type "list",data:= .seq ([] :List Value).toArray } }:=
  I.laid (a:=s.heap.objs.size) (o:= .lst []) (t':=s.toks) (fun _ _ q=>Heap.get?_push_of_some _ q) (Nat.le_refl _) ⟨Nat.zero_le _,[],_, .nil,Heap.get?_push_size _ rfl⟩
 obtain ⟨W,⟨m0,w0⟩,turn⟩:=h s.heap.objs.size I.fresh
 have fo:∀b∈fp,b < s.heap.objs.size:=fun b hb=>by
  obtain ⟨o,e,_⟩:=T.obj 0 _ st b hb
  exact Heap.lt_size e
 have st3:tn 0 (s.heap.push { cls:= .type "list",data:= .seq ([] :List Value).toArray }):=T.keep _ _ _ st fun b _ o e=>Heap.get?_push_of_some _ e
 have f3:∀b∈fp,jf X pins (upd H s.heap.objs.size (.lst [])) b:=fun b hb=>⟨by rw [ao (Nat.ne_of_lt (fo b hb))];exact (f b hb).1,(f b hb).2⟩
 have FD:∀b∈fp,b < (s.heap.push { cls:= .type "list",data:= .seq ([] :List Value).toArray }).objs.size:=fun b hb=>by rw [Heap.size_push];exact Nat.lt_succ_of_lt (fo b hb)
 generalize LX:({ s with heap:=s.heap.push { cls:= .type "list",data:= .seq ([] :List Value).toArray } }:Shared) = s3 at *
 have LY:s3.heap = s.heap.push { cls:= .type "list",data:= .seq ([] :List Value).toArray }:=by rw [← LX]
 rw [← LY] at st3 FD
 generalize s.heap.objs.size = acc at *
 generalize RO:upd H acc (.lst []) = H3 at *
 have IY:=vC (N2:=N2) (scope:=scope) (cl:=cl) (fp:=fp) (σ2:=ix.map fun o=>o.bind fun j=>(σ[j]?).join) I3 hk AI xr f3 FD (by rw [List.length_map];exact k1) (fun i x v e1 e2=>by
  rw [List.getElem?_map] at e2
  cases ei:ix[i]? with
  | none=>rw [ei] at e2;cases e2
  | some o=>
    rw [ei] at e2
    cases o with
    | none=>cases e2
    | some j=>
      obtain ⟨a1,a2,a3⟩:=k2 i x j e1 ei
      refine ⟨a2,a3,j,a1,?_⟩
      have e3:(σ[j]?).join = some v:=Option.some.inj e2
      cases ej:σ[j]? with
      | none=>rw [ej] at e3;cases e3
      | some z=>rw [ej] at e3;exact congrArg some e3) k5
 have ne:wpAny (model X.prog X.w) X.A (newFunctionEnv scope X.env.globals cl [] X.env.qual none .none (some X.env)) (fun cenv s₄=>
   cenv = { scope:=scope,locals:=s3.heap.objs.size,globals:=X.env.globals,cells:=cellsFrom (s3.heap.objs.size + 1) scope.names cl,qual:=X.env.qual,func:=none,code:=X.env.code,frame:=X.env.frame,builtins:=X.env.builtins }∧
   s₄ = { s3 with heap:=pushCells (s3.heap.push { cls:= .type "dict",data:= .dict #[] }) scope.names }) E s3:=by
  simp only [newFunctionEnv,Option.isSome_some,if_true]
  refine wpAny_bind (wpAny_alloc ?_)
  refine wpAny_bind (wpAny_layCells _ (fun name kind cells=>by cases hkc:kind == NameKind.cell <;> simp [hkc]) _ _ _ _ ?_)
  rw [List.forIn_nil]
  refine wpAny_bind (wpAny_pure (wpAny_pure ⟨?_,rfl⟩))
  rw [show ({ s3 with heap:=s3.heap.push { cls:= .type "dict",data:= .dict #[] } }:Shared).heap.objs.size = s3.heap.objs.size + 1 from Heap.size_push ..]
 refine aP ne fun cenv s4 ⟨e1,e2⟩=>?_
 subst e1 e2
 have FE:tn 0 (pushCells (s3.heap.push { cls:= .type "dict",data:= .dict #[] }) scope.names):=T.keep _ _ _ st3 fun b _ o e=>pushCells_keeps _ _ b o (Heap.get?_push_of_some _ e)
 have qH:s3.heap.objs.size ≠ X.env.locals:=Nat.ne_of_gt I3.lt
 have lQ:∀{H':Hp},(∀b∈fp,H' b = none)→∀b∈fp,jf (b_ X N2 scope cl s3 H3 fp) [] H' b:=fun {H'} hn b hb=>
  ⟨hn b hb,(IY.ok.C9 b hb).1,IY.ok.w_ b hb, .inl hb,(IY.ok.C9 b hb).2,fun p hp=>nomatch hp⟩
 have loop:codeAny (model X.prog X.w) X.A (.compLoop (.ListComp elt [⟨tg,iter,[],0⟩] scope pos) 0 (.ref it) (.ref acc) (b_ X N2 scope cl s3 H3 fp).env) (RR (.ref acc) s3.heap.objs.size)
   { s3 with heap:=pushCells (s3.heap.push { cls:= .type "dict",data:= .dict #[] }) scope.names }:=by
  refine AG (fun n s'=>∃i σ' H',Inv (b_ X N2 scope cl s3 H3 fp) [] σ' H' s'∧tn i s'.heap∧(∀b∈fp,H' b = none)∧W i n σ' H') ?_ m0 ⟨0,_,H3,IY,FE,fun b hb=>(f3 b hb).1,w0⟩
  rintro n s5 ⟨i,σ5,H5,I5,qy,Am,w5⟩
  rcases turn i n σ5 H5 w5 with ⟨stop,qn⟩ | ⟨go,S,N,LZ,step⟩
  · refine aP (T.done (b_ X N2 scope cl s3 H3 fp) rfl rfl rfl hc i [] s5 σ5 H5 (fun _ _=>False) I5 (lQ Am) qy stop) fun r s6 ⟨hr,I6⟩=>?_
    subst hr
    obtain ⟨m6,L0,_⟩:=id I6.loc
    have IX:Inv X pins σ H5 s6:=I3.Ja (ch:=fp) I6.os I6.base I6.hok I6.bare fun b hb=>⟨(f3 b hb).2.2.2.1,(f3 b hb).2.1,(f3 b hb).2.2.2.2.1,(f3 b hb).2.2.2.2.2⟩
    refine hR acc s3.heap.objs.size H5 s6 m6 IX L0 I6.free qH I3.sz (fun x c e z=>?_) (fun p hp z=>?_) qn
    · obtain ⟨v,q⟩:=I3.cell x c e
      exact absurd q.lt (by rw [z];exact Nat.lt_irrefl _)
    · exact absurd (Heap.lt_size (I3.pin p hp).1) (by rw [z];exact Nat.lt_irrefl _)
  · refine aP (T.item (b_ X N2 scope cl s3 H3 fp) rfl rfl rfl hc i [] s5 σ5 H5 (fun _ _=>False) I5 (lQ Am) qy go) fun r s6 ⟨u,hr,h6⟩=>?_
    subst hr
    refine aP h6 fun _ s7 ⟨x,H7,I7,r7,y7,oJ,FF⟩=>?_
    have L1:=I7.pinned (lQ FF) (T.obj _ _ oJ)
    refine aP (hg cl s3 H3 fp _ s7 σ5 H7 x u _ L1 r7 (step x H7 y7)) fun _ s8 ⟨σ8,H8,I8,Jq,q8⟩=>?_
    refine aP (he cl s3 H3 fp _ s8 σ8 H8 _ I8 q8) fun y s9 ⟨v,H9,I9,r9,q9⟩=>?_
    obtain ⟨xs,hxs,L3,m',hm,w9⟩:=LZ σ8 v H9 Jq q9
    refine aP (dP _ s9 σ8 H9 (.ref acc) [v] (.ref acc) [y] (fun z AJ=>z = .bE∧AJ = upd H9 acc (.lst (xs ++ [v]))) I9 rfl (.cons r9 .nil) ⟨acc,xs,v,rfl,rfl,hxs,L3,rfl,rfl⟩) fun z RP ⟨zv,AJ,AK,RQ,ez,eH⟩=>?_
    subst eH
    refine ⟨m',hm,i + 1,σ8,_,AK.jQ,T.keep _ _ _ oJ fun b hb o e=>(AK.pin (b,o) (List.mem_append_right _ (List.mem_append_right _ (fk hb e)))).1,fun b hb=>?_,w9⟩
    obtain ⟨o,e,d⟩:=T.obj _ _ oJ b hb
    exact (AK.pin (b,o) (List.mem_append_right _ (List.mem_append_right _ (fk hb e)))).2.1
 exact codeAny_compStart_list loop (T.self _ 0 _ _ _ FE loop)
theorem d7 {tg iter elt:Expr} {scope:Scope} {pos:Pos} (N2:List Str) (ix:List (Option Nat)) {wi:TI} {g:TG} {te:TE} (hc:X.calm = true) (hi:PI X tg iter wi)
  (hg:∀cl s₂ H₂ fp,PG (b_ X N2 scope cl s₂ H₂ fp) tg g) (he:∀cl s₂ H₂ fp,PE (b_ X N2 scope cl s₂ H₂ fp) elt te)
  (hk:scope.kind = .function) (hn:ku X.N X.env.scope.names scope.names N2 ix = true) (hs:∀x,foldedSetIterable iter X.env x = pure x:=by intro _;rfl):
  PE X (.ListComp elt [⟨tg,iter,[],0⟩] scope pos) (Jp wi ix g te):=by
 intro pins s σ H Q I h
 obtain ⟨k1,k2,k3,k4,k5⟩:=gX hn
 obtain ⟨cl,AL,c1,c2⟩:=lG (scope:=scope) (env:=X.env) fun y hy e=>I.ok.has y.1 (k3 y hy e)
 rw [eval_ListComp]
 refine wpAny_comprehension_free (use:=none) rfl hs AL hk k4 (aP (hi pins s σ H _ I h) fun v s1 h1=>aP h1 fun itv s2 h2=>?_)
 obtain ⟨it,fp,tn,J,H2,e,I2,T,st2,f2,h2⟩:=h2
 subst e
 refine vE (RR:=fun acc C=>compPost (model X.prog X.w) X.A X.xe none (EP X pins σ Q) acc C) (Q:=Q) hc hg he hk hn (fun y c m=>(c1 y c m).1) c2 I2 T st2 f2 h2 ?_
 intro acc C H' s' m I' ns qH hL hsz jl pD q
 exact ⟨m,ns,fun h' hs'=>⟨.ref acc,H',I'.turned (it:=C) (t':=s'.toks) (fun b o hb e=>(hs'.2 b hb).trans e) qH hL (.inr hsz) jl pD,rfl,q⟩⟩
theorem lN {i:Nat} {x:Str} {px pos':Pos} {tg iter elt:Expr} {scope:Scope} {pos:Pos} (N2:List Str) (ix:List (Option Nat)) {wi:TI} {g:TG} {te:TE} (hN:X.N.Nodup) (hi:X.N[i]? = some x) (hx:X.env.scope.names.lookup x = some .local) (hc:X.calm = true) (hit:PI X tg iter wi)
  (hg:∀cl s₂ H₂ fp,PG (b_ X N2 scope cl s₂ H₂ fp) tg g) (he:∀cl s₂ H₂ fp,PE (b_ X N2 scope cl s₂ H₂ fp) elt te)
  (hk:scope.kind = .function) (hn:ku X.N X.env.scope.names scope.names N2 ix = true) (hw:swapsWith (.ListComp elt [⟨tg,iter,[],0⟩] scope pos) (some (.Name x px)) pos'.line X.env = pure true) (hs:∀x,foldedSetIterable iter X.env x = pure x:=by intro _;rfl):
  PS X (.Assign [.Name x px] (.ListComp elt [⟨tg,iter,[],0⟩] scope pos) pos') (D_ (Jp wi ix g te) (iE i)):=by
 intro pins s σ H D I h
 obtain ⟨k1,k2,k3,k4,k5⟩:=gX hn
 obtain ⟨cl,AL,c1,c2⟩:=lG (scope:=scope) (env:=X.env) fun y hy e=>I.ok.has y.1 (k3 y hy e)
 rw [exec_Assign_Name_used _ _ _ _ hw]
 refine wpAny_bind (wpAny_standAt (wpAny_bind ?_))
 show wpAny _ X.A (do let _ ← comprehension (.ListComp elt [⟨tg,iter,[],0⟩] scope pos) scope X.env _ (newList []) false (eval iter X.env) (some (assign (.Name x px) X.env))) _ _ s
 refine wpAny_bind (aP (wpAny_comprehension_free (use:=some (assign (.Name x px) X.env)) (Q:=fun _ s'=>SP X pins D .next s') rfl hs AL hk k4 (aP (hit pins s σ H _ I h) fun v s1 h1=>aP h1 fun itv s2 h2=>?_)) fun _ s' hq=>wpAny_pure (wpAny_pure hq))
 obtain ⟨it,fp,tn,J,H2,e,I2,T,st2,f2,h2⟩:=h2
 subst e
 refine vE (RR:=fun acc C=>compPost (model X.prog X.w) X.A X.xe (some (assign (.Name x px) X.env)) (fun _ s'=>SP X pins D .next s') acc C) (Q:=fun v H'=>D.nx (σ.set i (some v)) H') hc hg he hk hn (fun y c m=>(c1 y c m).1) c2 I2 T st2 f2 h2 ?_
 intro acc C H' s' m I' ns qH hL hsz jl pD q
 show wpAny _ X.A (assign (.Name x px) X.env (.ref acc)) _ _ _
 refine wpAny_assign_Name (qw I' hN hi (.inl hx) (v:= .ref acc) rfl (fun s3 I3 ⟨a,sb,ha⟩=>?_) (.inr hx))
 have ca:C ≠ a:=by
  rcases ha with z | z
  · rw [z];exact hL
  · exact fun e=>jl x a z e.symm
 exact ⟨m,ns.sameBut sb ca,fun h' hs'=>⟨_,H',I3.turned (it:=C) (t':=s3.toks) (fun b o hb e=>(hs'.2 b hb).trans e) qH hL (.inr hsz) jl pD,q⟩⟩
end
theorem aD.bI {H H':Hp} {p:Addr} (e:aD H H') (h:H p = none) (o:HO):aD H (upd H' p o):=fun b u q=>by rw [ao (ay q h)];exact e b u q
end L2
namespace L2
open PySem PySem.Spec PyProof.Rows
theorem tL (n d:Int):SeqAt.shaped (.tuple [.int n, .int d]) = true:=rfl
theorem HY (n d:Int):PyData.eqv (.tuple [.int n, .int d]) (.tuple [.int n, .int d]) = true:=by simp [PyData.eqv,PyData.eqvAll]
theorem FG {K:PySem.W.Frag} {H:Hp} {p:Addr} {q:Rat} (h:H p = some (jj q)):Dt K H (.ref p) (.tuple [.int q.num, .int (q.den:Int)]):= .tup (cA.of h) (.cons (.int _) (.cons (.int _) .nil))
structure sM (vs:List V) (H:Hp) (Q:VK) (E:XK):Prop where
 ex:∃t b:Int,vs = [.int t, .int b]∧0 < b∧Jm.Sz 9000 b∧∀(r:Addr) (H':Hp),aD H H'→H' r = some (jj (Jm.fr t b))→Q (.ref r) H'
theorem yo {H:Hp} {Q:VK} {E:XK} {t b:Int} (h0:0 < b) (h1:Jm.Sz 9000 b) (h:∀(r:Addr) (H':Hp),aD H H'→H' r = some (jj (Jm.fr t b))→Q (.ref r) H'):sM [.int t, .int b] H Q E:=⟨t,b,rfl,h0,h1,h⟩
structure HZ (vs:List V) (H:Hp) (Q:VK) (E:XK):Prop where
 ex:∃(p:Addr) (q:Rat) (t b:Int),vs = [.ref p, .int t, .int b]∧H p = some (jj q)∧0 < b∧Jm.Sz 9000 b∧q = Jm.fr t b∧∀H',aD H H'→Q (.bl true) H'
theorem L4 {H:Hp} {Q:VK} {E:XK} {p:Addr} {q:Rat} {t b:Int} (hp:H p = some (jj q)) (h0:0 < b) (h1:Jm.Sz 9000 b) (e:q = Jm.fr t b) (h:∀H',aD H H'→Q (.bl true) H'):HZ [.ref p, .int t, .int b] H Q E:=⟨p,q,t,b,rfl,hp,h0,h1,e,h⟩
end L2
namespace L2
open PySem PySem.Spec PyProof.Rows
end L2
namespace L2
open PySem PySem.Spec PyProof.Rows
section
variable {X:Cx}
theorem H_ (hc:X.calm = true):dZ X (.builtin "sum") (fun xs H Q=>∃(a:Addr) (ns:List Int),xs = [.ref a]∧av X.K H a (ns.map V.int)∧Q (.int ns.sum) H):=by
 intro pins s σ H xs us Q I r h
 obtain ⟨a,ns,rfl,hS,q⟩:=h
 obtain ⟨u,rfl,ru⟩:=vals1 r
 cases ru
 obtain ⟨its,rv,p,hz⟩:=I.list hS
 have hi:=intsAre_of rv
 have hl:=p.isList
 obtain ⟨o,ho,_⟩:=id hl
 have hne:a ≠ s.heap.objs.size:=Nat.ne_of_lt (Heap.lt_size ho)
 have W:=(Walks.list (prog:=X.prog) (w:=X.w) (A:=X.A.in1) (I.ok.hd hc) s.heap.objs.size a hne its.toArray).toS
 have vF:its.length = ns.length:=by rw [← rv.length,List.length_map]
 refine call_sum_walkAnyS (wpAny_pyIter_list hl ?_)
 refine ⟨s.heap.objs.size,_,_,_,_,_,_,fun i=>ns.getD i 0,rfl,W,⟨⟨_,Heap.get?_push_size _ rfl,rfl,rfl⟩,hl.at fun o e=>Heap.get?_push_of_some _ e⟩,fun b hb=>?_,fun i v hP=>?_,fun s' t' hm=>?_⟩
 · rcases List.mem_cons.mp hb with rfl | hb
   · exact Heap.lt_size (Heap.get?_push_size _ rfl)
   · obtain rfl:=List.mem_singleton.mp hb
     exact Heap.lt_size (Heap.get?_push_of_some _ ho)
 · have FH:its[i]? = some v:=by simpa using hP
   have hil:i < ns.length:=by
    have:=(List.getElem?_eq_some_iff.mp FH).1
    omega
   obtain ⟨u,hu,ru⟩:=rv.get (i:=i) (x:=V.int ns[i]) (by rw [List.getElem?_map,List.getElem?_eq_getElem hil];rfl)
   rw [FH] at hu
   cases hu
   obtain ⟨t,e⟩:=ru
   refine ⟨t,?_⟩
   rw [e]
   show Value.int ns[i] t = Value.int (ns.getD i 0) t
   rw [List.getD_eq_getElem?_getD,List.getElem?_eq_getElem hil]
   rfl
 · obtain ⟨h',g',d',tk',os'⟩:=s'
   have e1:g' = s.gens:=hm.gens
   have e2:d' = s.drawn:=hm.drawn
   have e3:os' = s.os:=hm.os
   subst e1 e2 e3
   have hsz:its.toArray.size = ns.length:=by rw [List.size_toArray,vF]
   rw [hsz,preSum_getD,List.take_of_length_le (Nat.le_refl _)]
   exact ⟨.int ns.sum,H,I.kept (h':=h') (t':=tk') fun b o e=>hm.heap b o (fun hb=>absurd (Heap.lt_size e) ((List.mem_singleton.mp hb) ▸ Nat.lt_irrefl _)) (Heap.get?_push_of_some _ e),⟨t',rfl⟩,q⟩
theorem Ia (hc:X.calm = true):dZ X (.builtin "all") (fun xs H Q=>∃(a:Addr) (bs:List Bool),xs = [.ref a]∧av X.K H a (bs.map V.bl)∧Q (.bl (bs.all id)) H):=by
 intro pins s σ H xs us Q I r h
 obtain ⟨a,bs,rfl,hS,q⟩:=h
 obtain ⟨u,rfl,ru⟩:=vals1 r
 cases ru
 obtain ⟨its,rv,p,hz⟩:=I.list hS
 have hl:=p.isList
 obtain ⟨o,ho,_⟩:=id hl
 have hne:a ≠ s.heap.objs.size:=Nat.ne_of_lt (Heap.lt_size ho)
 have vF:its.length = bs.length:=by rw [← rv.length,List.length_map]
 refine call_all_walk (wpAny_pyIter_list hl ?_)
 refine ⟨s.heap.objs.size,_,_,_,_,_,fun i=>bs.getD i false,rfl,Walks.list (prog:=X.prog) (w:=X.w) (A:=X.A.in1) (I.ok.hd hc) s.heap.objs.size a hne its.toArray,⟨⟨_,Heap.get?_push_size _ rfl,rfl,rfl⟩,hl.at fun o e=>Heap.get?_push_of_some _ e⟩,fun i v s' Q' E' hP hQ=>?_,fun h' tk hk=>?_⟩
 · have FH:its[i]? = some v:=by simpa using hP
   have hil:i < bs.length:=by
    have:=(List.getElem?_eq_some_iff.mp FH).1
    omega
   obtain ⟨u,hu,ru⟩:=rv.get (i:=i) (x:=V.bl bs[i]) (by rw [List.getElem?_map,List.getElem?_eq_getElem hil];rfl)
   rw [FH] at hu
   cases hu
   have e:v = Value.bool bs[i] :=ru
   subst e
   refine wpAny_truthy_bool ?_
   have Oq:Q' (bs.getD i false) s':=hQ
   rw [List.getD_eq_getElem?_getD,List.getElem?_eq_getElem hil] at Oq
   exact Oq
 · have hsz:its.toArray.size = bs.length:=by rw [List.size_toArray,vF]
   have e:(List.range its.toArray.size).all (fun i=>bs.getD i false) = bs.all id:=by
    rw [hsz,Bool.eq_iff_iff,List.all_eq_true,List.all_eq_true]
    refine ⟨fun z x hx=>?_,fun z i hi=>?_⟩
    · obtain ⟨i,hi,e⟩:=List.mem_iff_getElem.mp hx
      have:=z i (List.mem_range.mpr hi)
      rw [List.getD_eq_getElem?_getD,List.getElem?_eq_getElem hi] at this
      rw [← e]
      exact this
    · have hi':=List.mem_range.mp hi
      rw [List.getD_eq_getElem?_getD,List.getElem?_eq_getElem hi']
      exact z _ (List.getElem_mem hi')
   rw [e]
   exact ⟨.bl (bs.all id),H,I.kept (h':=h') (t':=tk) fun b o e=>hk b o (fun hb=>absurd (Heap.lt_size e) ((List.mem_singleton.mp hb) ▸ Nat.lt_irrefl _)) (Heap.get?_push_of_some _ e),rfl,q⟩
end
section
variable {X:Cx} (K:PySem.W.Frag)
theorem cu (hK:X.K = K:=by rfl):p6 X (HL K):=hK ▸ Fg
theorem aM (hK:X.K = K:=by rfl):p6 X (HK K):=hK ▸ Di
theorem cQ {tg l:Expr} {tl:TE} (hl:PE X l tl) (hK:X.K = K:=by rfl):PI X tg l (Jd K tl):=hK ▸ J9 hl
theorem Kz (hu:X.A.units + 64 < cLine) (hK:X.K = K:=by rfl):eO X (compareOp .Eq) (LQ K):=hK ▸ LS hu
theorem xu (hu:X.A.units + 64 < cLine) (hK:X.K = K:=by rfl):eO X (compareOp .NotEq) (LR K):=hK ▸ LU hu
theorem i8 (hc:X.calm = true) (hK:X.K = K:=by rfl):dZ X (.builtin "sum") (fun xs H Q=>∃(a:Addr) (ns:List Int),xs = [.ref a]∧av K H a (ns.map V.int)∧Q (.int ns.sum) H):=hK ▸ H_ hc
theorem FI (hc:X.calm = true) (hK:X.K = K:=by rfl):dZ X (.builtin "all") (fun xs H Q=>∃(a:Addr) (bs:List Bool),xs = [.ref a]∧av K H a (bs.map V.bl)∧Q (.bl (bs.all id)) H):=hK ▸ Ia hc
theorem bA (hK:X.K = K:=by rfl):dZ X (.builtin "len") (fun xs H Q=>∃p ys,xs = [.ref p]∧(av K H p ys∨cA K H p ys)∧Q (.int ys.length) H):=hK ▸ As
theorem iG (hK:X.K = K:=by rfl):dZ X (.type "list") (fun xs H Q=>∃p ys,xs = [.ref p]∧(av K H p ys∨cA K H p ys)∧∀l,H l = none→Q (.ref l) (upd H l (.lst ys))):=hK ▸ Av
theorem bS (hK:X.K = K:=by rfl):dZ X (.builtin "isinstance") (fun xs H Q=>∃x n t b,xs = [x, .ty n]∧dO K H x t∧PySem.W.kitOne K t (.type n) = some b∧Q (.bl b) H):=hK ▸ Cw
end
end L2
namespace L2
end L2
namespace L2
open PySem PySem.Spec PyProof.Rows
theorem Cy {n l1 l2:Nat} (h1:l1 < n) (h2:l2 < n):ZipApart (n + 4) (n + 2) (n + 3) n (n + 1) l1 l2:=by
 have nn:∀i j:Nat,i ≠ j→n + i ≠ n + j:=fun i j h e=>h (Nat.add_left_cancel e)
 have ne:∀(c k:Nat),c < n→c ≠ n + k:=fun c k h=>by omega
 exact ⟨nn 2 4 (by decide),nn 3 4 (by decide),nn 0 4 (by decide),nn 1 4 (by decide),nn 2 3 (by decide),nn 2 0 (by decide),nn 2 1 (by decide),nn 3 0 (by decide),nn 3 1 (by decide),nn 0 1 (by decide),ne _ 4 h1,ne _ 3 h1,ne _ 0 h1,ne _ 1 h1,ne _ 4 h2,ne _ 3 h2,ne _ 0 h2,ne _ 1 h2⟩
section
variable {X:Cx} {elts:List Expr} {kk:Nat} {tpos:Pos}
end
end L2
namespace L2
open PySem PySem.Spec PyProof.Rows
theorem eZ (K:PySem.W.Frag) {X:Cx} {es:List Expr} {k:Nat} {t:vc} {n:Nat} {pos:Pos} (hc:X.calm = true) (h:E3 X es t) (hK:X.K = K:=by rfl)
  (hn:(assignEach es X.env).length = n:=by rfl) (hst:(assignEach es X.env).findIdx? (·.1) = none:=by rfl):PG X (.Tuple es k pos) (uu K n t):=hK ▸ Li hc h hn hst
end L2
namespace L2
open PySem PySem.Spec PyProof.Rows
structure AM (K:PySem.W.Frag) (vs:List V) (H:Hp) (Q:VK) (E:XK):Prop where
 ex:∃(a:Addr) (ns:List Int) (k j:Int),vs = [.ref a, .int k, .int j]∧av K H a (ns.map V.int)∧ns.length≤63∧0≤k∧0≤j∧j < 2 ^ 61∧∀(m:Int) (H':Hp),1≤m→m≤1000000000→aD H H'→Q (.int m) H'
theorem Ib {K:PySem.W.Frag} {H:Hp} {Q:VK} {E:XK} {a:Addr} {ns:List Int} {k j:Int} (hS:av K H a (ns.map V.int)) (h63:ns.length≤63) (h1:0≤k) (h2:0≤j) (h3:j < 2 ^ 61)
  (h:∀(m:Int) (H':Hp),1≤m→m≤1000000000→aD H H'→Q (.int m) H'):AM K [.ref a, .int k, .int j] H Q E:=⟨a,ns,k,j,rfl,hS,h63,h1,h2,h3,h⟩
theorem e_ {xs:List V} {i:Nat} {v:V} (h:xs[i]? = some v):oG xs (i:Int) = some v:=bB h
end L2
namespace L2
open PySem PySem.Spec PyProof.Rows
end L2
namespace L2
open PySem PySem.Spec PyProof.Rows
section
variable {X:Cx}
def Q3 (ta:TA):TE:=fun σ H Q=>ta σ H fun vs H1=>∃j:Int,vs = [.int j]∧∀p,H1 p = none→Q (.ref p) (upd H1 p (.oq 0 j))
theorem FJ {a:Expr} {ta:TA} {p pos:Pos} (hg:Gl X "range") (hm:X.mg "range" = none) (ha:PA X [a] ta) (hs:starEach [a] X.env = [(false,eval a X.env)] :=by rfl):PE X (.Call (.Name "range" p) [a] [] pos) (Q3 ta):=by
 intro pins s σ H Q I h
 refine Call_ (oz I hg hm boot_range (PyProof.Rows.callWith_type1 (aP (ha pos pins s σ H _ I h) fun us s1 ⟨vs,H1,I1,r1,q1⟩=>?_) hs rfl))
 obtain ⟨j,e,q⟩:=q1
 subst e
 obtain ⟨u,rfl,ru⟩:=vals1 r1
 obtain ⟨t,rfl⟩:=ru
 exact call_range_1 ⟨.ref s1.heap.objs.size,_,I1.laid (a:=s1.heap.objs.size) (o:= .oq 0 j) (fun b o e=>Heap.get?_push_of_some _ e) (Nat.le_refl _) ⟨_,_,_,Heap.get?_push_size _ rfl⟩,rfl,q _ I1.fresh⟩
def upTo (n:Nat):List Int:=(List.range n).map fun i=>((i:Nat):Int)
theorem zg (hc:X.calm = true):dZ X (.type "list") (fun xs H Q=>∃(r:Addr) (n:Nat),xs = [.ref r]∧H r = some (.oq 0 (n:Int))∧n≤1000∧∀l,H l = none→Q (.ref l) (upd H l (.lst ((upTo n).map V.int)))):=by
 intro pins s σ H xs us Q I r h
 obtain ⟨a,n,rfl,hr,hn,q⟩:=h
 obtain ⟨u,rfl,ru⟩:=vals1 r
 cases ru
 obtain ⟨t,t2,t3,e⟩:=(show cy X.prog X.w H s.heap a (.oq 0 (n:Int)) from I.hok a _ hr)
 refine call_list_range (n:=n) (I.ok.hd hc) e (small_one (by decide) (by decide) (by omega) (by omega)) (by rw [rangeSize_one];split <;> omega) (by omega) fun h' tk acc' c' hk hS hI=>?_
 obtain ⟨hsz,hit⟩:=hI
 have hv:Vals ((upTo n).map V.int) acc'.toList:=by
  have gen:∀(m:Nat) (us:List Value) (k:Nat),us.length = m→(∀(j:Nat) (v:Value),us[j]? = some v→∃t,v = .int ((0:Int) + ((k + j:Nat):Int) * 1) t)→Vals (((List.range' k m).map fun i=>((i:Nat):Int)).map V.int) us:=by
   intro m
   induction m with
   | zero=>intro us k hl _;rw [List.length_eq_zero_iff.mp hl];exact .nil
   | succ m ih=>
     intro us k hl hu
     cases us with
     | nil=>cases hl
     | cons v r=>
       obtain ⟨t,e⟩:=hu 0 v rfl
       refine .cons ⟨t,?_⟩ (ih r (k + 1) (by simpa using hl) fun j v' hj=>?_)
       · rw [e]
         show Value.int _ t = Value.int ((k:Nat):Int) t
         congr 1
         omega
       · obtain ⟨t,e⟩:=hu (j + 1) v' (by simpa using hj)
         exact ⟨t,by rw [e];congr 1;omega⟩
  have:=gen n acc'.toList 0 (by simpa using hsz) fun j v hj=>by
   obtain ⟨t,e⟩:=hit j v (by simpa using hj)
   exact ⟨t,by rw [e];congr 1;omega⟩
  unfold upTo
  rw [List.range_eq_range']
  exact this
 have hlen:((upTo n).map V.int).length≤sizeLine:=by unfold upTo;simp;exact small (by omega)
 exact ⟨.ref s.heap.objs.size,_,I.laid (a:=s.heap.objs.size) (o:= .lst ((upTo n).map V.int)) (h':=h') (t':=tk) hk (Nat.le_refl _) ⟨hlen,acc'.toList,c',hv,by simpa using hS⟩,rfl,q _ I.fresh⟩
def Q5 (K:PySem.W.Frag) (te ts:TE):TE:=fun σ H Q=>te σ H fun x H1=>ts σ H1 fun y H2=>y = .int (-1)∧∃a xs,x = .ref a∧av K H2 a xs∧∀p,H2 p = none→Q (.ref p) (upd H2 p (.lst xs.reverse))
theorem L5 (K:PySem.W.Frag) {e st:Expr} {te ts:TE} {pos p2:Pos} (he:PE X e te) (hst:PE X st ts) (hK:X.K = K:=by rfl):PE X (.Subscript e (.Slice none none (some st) p2) pos) (Q5 K te ts):=by
 subst hK
 intro pins s σ H Q I h
 refine Subscript_ (aP (he pins s σ H _ I h) fun v s1 ⟨x,H1,I1,r1,q1⟩=>?_)
 refine wpAny_Slice ?_
 rw [evalPart_none]
 refine wpAny_pure (wpAny_pure ?_)
 rw [evalPart_some]
 refine aP (hst pins s1 σ H1 _ I1 q1) fun w3 s3 ⟨y,H3,I3,r3,q3⟩=>?_
 obtain ⟨ey,a,xs,rfl,hx,q⟩:=q3
 subst ey
 obtain ⟨t,rfl⟩:=r3
 cases r1
 have I4:Inv X pins σ H3 { s3 with heap:=s3.heap.push { cls:= .type "slice",data:= .fields #[.none, .none, .int (-1) t] } }:=I3.kept (t':=s3.toks) fun b ob q=>Heap.get?_push_of_some _ q
 obtain ⟨its,r,ht,hz⟩:=I4.list hx
 have hlen:=r.length
 refine tail_any (ops:=[.ref a, .ref s3.heap.objs.size]) ht.isList.typeIs slot_list_getitem.lookup ?_ (by with_unfolding_all rfl)
 refine wpAny_getItem_list_slice ht.isList (Heap.IsSliceOf.new ..) .none .none (.int (-1) t) (by decide) ?_ (by rw [List.size_toArray] <;> omega)
 rw [PySem.W.krv_pick]
 refine ⟨.ref _,_,I4.laid (t':=s3.toks) (o:= .lst xs.reverse) (fun b ob q=>Heap.get?_push_of_some _ q) (Nat.le_refl _) ?_,rfl,q _ I4.fresh⟩
 exact ⟨by rw [List.length_reverse];exact hz,its.reverse,0,r.reverse,Heap.get?_push_size _ rfl⟩
end
end L2
namespace L2
open PySem PySem.Spec PyProof.Rows
end L2
namespace L2
open PySem PySem.Spec PyProof.Rows
end L2
namespace L2
open PySem PySem.Spec PyProof.Rows
end L2
namespace L2
open PySem PySem.Spec PyProof.Rows
end L2
namespace L2
open PySem PySem.Spec PyProof.Rows
end L2
namespace L2
open PySem PySem.Spec PyProof.Rows
end L2
namespace L2
open PySem PySem.Spec PyProof.Rows
theorem sN {n k:Nat} (h:k < n):vm n (k:Int) = some k:=by
 unfold vm
 rw [if_pos (by omega),if_pos (by omega)]
 rfl
end L2
namespace L2
open PySem PySem.Spec PyProof.Rows
abbrev tx (cs:List Nat):Str:=⟨cs.toArray⟩
theorem qI (cs:List Nat):(tx cs).length = cs.length:=by show cs.toArray.size = _;rw [List.size_toArray]
theorem L6 (a b:List Nat):(tx a ++ tx b:Str) = tx (a ++ b):=by
 show (⟨a.toArray ++ b.toArray⟩:Str) = _
 simp [tx]
def Jr (cs:List Nat):It:=⟨fun i _=>i < cs.length,fun i H v H'=>H' = H∧∃c,cs[i]? = some c∧v = .str (tx [c]),fun i _=>cs.length≤i⟩
theorem El {P:Program} {w:World} {K:PySem.W.Frag} {tg:Expr} (x:Str) (t:Tok) (it:Addr):Turn P w K tg (Jr x.cps.toList) [it] it (fun i h=>h.IsStrIter it "str_ascii_iterator" x t i) where
 mem:=by simp
 obj:=fun i h st b hb=>by
  have e:b = it:=by simpa using hb
  subst e
  obtain ⟨o,e,c,d⟩:=st
  exact ⟨o,e,fun v z=>by rw [d] at z;cases z⟩
 keep:=fun i h h' st k=>let ⟨o,ho,r⟩:=st;⟨o,k it (by simp) o ho,r⟩
 item:=by
  intro X hP hw hK hc i pins s σ H E I hf st hg
  subst hP hw hK
  have hi:i < x.cps.size:=by have hg':i < x.cps.toList.length:=hg;simpa using hg'
  obtain ⟨f0,f1,f2,f3,f4,f5⟩:=hf it (by simp)
  refine wpAny_pyNext_ascii_item st (c:=x.cps[i]) (by simp [hi]) fun h' st' sb=>?_
  have I1:Inv X pins σ H { s with heap:=h',toks:=s.toks + 1 }:=I.turned (t':=s.toks + 1) (fun b o hb e=>sb.extBut b o hb e) f0 f1 f3 f4 f5
  obtain ⟨o,e,c,d⟩:=id st'
  exact ⟨_,rfl,vd (s:={ s with heap:=h',toks:=s.toks + 1 }) e c d (by decide) ⟨.str (tx [x.cps[i]]),H,I1,⟨_,rfl⟩,⟨rfl,x.cps[i],by simp [hi],rfl⟩,st',fun b hb=>(hf b hb).1⟩⟩
 done:=by
  intro X hP hw hK hc i pins s σ H E I hf st hg
  subst hP hw hK
  have hi:x.cps.size≤i:=by have hg':x.cps.toList.length≤i:=hg;simpa using hg'
  obtain ⟨f0,f1,f2,f3,f4,f5⟩:=hf it (by simp)
  exact wpAny_pyNext_ascii_end (I.ok.hd hc) st (by simp;omega) fun h' eb=>⟨rfl,I.turned (t':=s.toks) (fun b o hb e=>eb b o hb e) f0 f1 f3 f4 f5⟩
 self:=fun _ _ _ _ _ st h=>wpAny_pyIter_striter_ascii st h
theorem FL {P:Program} {w:World} {K:PySem.W.Frag} {tg:Expr} (x:Str) (t:Tok) (it:Addr):Turn P w K tg (Jr x.cps.toList) [it] it (fun i h=>h.IsStrIter it "str_iterator" x t i) where
 mem:=by simp
 obj:=fun i h st b hb=>by
  have e:b = it:=by simpa using hb
  subst e
  obtain ⟨o,e,c,d⟩:=st
  exact ⟨o,e,fun v z=>by rw [d] at z;cases z⟩
 keep:=fun i h h' st k=>let ⟨o,ho,r⟩:=st;⟨o,k it (by simp) o ho,r⟩
 item:=by
  intro X hP hw hK hc i pins s σ H E I hf st hg
  subst hP hw hK
  have hi:i < x.cps.size:=by have hg':i < x.cps.toList.length:=hg;simpa using hg'
  obtain ⟨f0,f1,f2,f3,f4,f5⟩:=hf it (by simp)
  refine wpAny_pyNext_wide_item st (c:=x.cps[i]) (by simp [hi]) fun h' st' sb=>?_
  have I1:Inv X pins σ H { s with heap:=h',toks:=s.toks + 1 }:=I.turned (t':=s.toks + 1) (fun b o hb e=>sb.extBut b o hb e) f0 f1 f3 f4 f5
  obtain ⟨o,e,c,d⟩:=id st'
  exact ⟨_,rfl,vd (s:={ s with heap:=h',toks:=s.toks + 1 }) e c d (by decide) ⟨.str (tx [x.cps[i]]),H,I1,⟨_,rfl⟩,⟨rfl,x.cps[i],by simp [hi],rfl⟩,st',fun b hb=>(hf b hb).1⟩⟩
 done:=by
  intro X hP hw hK hc i pins s σ H E I hf st hg
  subst hP hw hK
  have hi:x.cps.size≤i:=by have hg':x.cps.toList.length≤i:=hg;simpa using hg'
  obtain ⟨f0,f1,f2,f3,f4,f5⟩:=hf it (by simp)
  exact wpAny_pyNext_wide_end (I.ok.hd hc) st (by simp;omega) fun h' eb=>⟨rfl,I.turned (t':=s.toks) (fun b o hb e=>eb b o hb e) f0 f1 f3 f4 f5⟩
 self:=fun _ _ _ _ _ st h=>wpAny_pyIter_striter_wide st h
section
variable {X:Cx} {tg:Expr}
def Q6 (te:TE):TI:=fun σ H R=>te σ H fun x H1=>∃cs:List Nat,x = .str (tx cs)∧R (Jr cs) H1
theorem L7 {l:Expr} {tl:TE} (hl:PE X l tl):PI X tg l (Q6 tl):=by
 intro pins s σ H R I h
 refine aP (hl pins s σ H _ I h) fun v s1 ⟨x,H1,I1,r1,q1⟩=>?_
 obtain ⟨cs,e,q⟩:=q1
 subst e
 obtain ⟨t,rfl⟩:=r1
 have fp:∀b∈[s1.heap.objs.size],jf X pins H1 b:=fun b hb=>by
  have e:b = s1.heap.objs.size:=by simpa using hb
  subst e
  exact I1.xh (Nat.le_refl _) (I1.hok.fresh (Nat.le_refl _))
 have tw:=@FL X.prog X.w X.K tg (tx cs) t s1.heap.objs.size
 have ta:=@El X.prog X.w X.K tg (tx cs) t s1.heap.objs.size
 cases ha:(tx cs).cps.all (· < 128)
 · exact wpAny_pyIter_wide ha ⟨s1.heap.objs.size,[s1.heap.objs.size],_,_,H1,rfl,I1.kept (t':=s1.toks) fun b o e=>Heap.get?_push_of_some _ e,tw,⟨_,Heap.get?_push_size _ rfl,rfl,rfl⟩,fp,q⟩
 · exact wpAny_pyIter_ascii ha ⟨s1.heap.objs.size,[s1.heap.objs.size],_,_,H1,rfl,I1.kept (t':=s1.toks) fun b o e=>Heap.get?_push_of_some _ e,ta,⟨_,Heap.get?_push_size _ rfl,rfl,rfl⟩,fp,q⟩
theorem Ic {cs:List Nat} {k:Nat} {te:TE} {σ2:St} {H:Hp} {acc:Addr} {Q:VK} (Pv:Nat→List V→Hp→Prop) (hn:cs.length≤100000) (h0:Pv 0 [] (upd H acc (.lst [])))
  (hs:∀(i:Nat) (c:Nat) (out:List V) (H1:Hp),cs[i]? = some c→out.length = i→H1 acc = some (.lst out)→Pv i out H1→te (σ2.set k (some (.str (tx [c])))) H1 fun v H4=>H4 acc = some (.lst out)∧Pv (i + 1) (out ++ [v]) (upd H4 acc (.lst (out ++ [v]))))
  (hd:∀(out:List V) (H1:Hp),out.length = cs.length→H1 acc = some (.lst out)→Pv cs.length out H1→Q (.ref acc) H1):
  vD (Jr cs) (iE k) te acc σ2 H Q:=by
 refine ⟨fun i m σ' H'=>m = cs.length - i∧i≤cs.length∧(∀v,σ'.set k (some v) = σ2.set k (some v))∧∃out,out.length = i∧H' acc = some (.lst out)∧Pv i out H',⟨cs.length,by simp,Nat.zero_le _,fun _=>rfl,[],rfl,af,h0⟩,?_⟩
 rintro i m σ' H' ⟨rfl,hi,hσ,out,ho,ha,p⟩
 by_cases hlt:i < cs.length
 · refine .inr ⟨hlt,fun σ3=>∀v,σ3.set k (some v) = σ2.set k (some v),fun v H4=>H4 acc = some (.lst out)∧Pv (i + 1) (out ++ [v]) (upd H4 acc (.lst (out ++ [v]))),fun σ3 v H4 hS ⟨a,b⟩=>?_,fun x H1 y=>?_⟩
   · refine ⟨out,a,?_,cs.length - (i + 1),by omega,rfl,hlt,hS,out ++ [v],by rw [List.length_append,ho];rfl,af,b⟩
     have:sizeLine = 16777216:=sizeLine_eq
     omega
   · obtain ⟨e,c,hc,ex⟩:=y
     subst e ex
     refine ⟨fun v=>by rw [List.set_set];exact hσ v,?_⟩
     have q2:=hs i c out _ hc ho ha p
     rw [← hσ] at q2
     exact q2
 · have e:i = cs.length:=by omega
   subst e
   exact .inl ⟨Nat.le_refl _,hd out H' ho ha p⟩
end
def yp (signs:Str) (c:Nat):Bool:=!(Builtin.Str.occurrences signs (tx [c]) 0 signs.length 1).isEmpty
def gE (c:Int) (n:Nat):List Nat:=(List.range n).map fun i=>97 + ((c / 26 ^ i) % 26).toNat
theorem pF (c:Int) (n:Nat):(gE c n).length = n:=by unfold gE;rw [List.length_map,List.length_range]
theorem Ie (c:Int) (n:Nat):gE c (n + 1) = gE c n ++ [97 + ((c / 26 ^ n) % 26).toNat] :=by
 unfold gE
 rw [List.range_succ,List.map_append]
 rfl
theorem FN {k:Int} (h0:0≤k) (h1:k < 26):oG (("abcdefghijklmnopqrstuvwxyz":Str).cps.toList) k = some (97 + k.toNat):=by
 have h:∀n:Nat,n < 26→("abcdefghijklmnopqrstuvwxyz":Str).cps.toList[n]? = some (97 + n):=by decide +kernel
 have e:k = ((k.toNat:Nat):Int):=by omega
 have:=bB (h k.toNat (by omega))
 rw [← e] at this
 exact this
structure xw (vs:List V) (H:Hp) (Q:VK) (E:XK):Prop where
 ex:∃(c:Int) (n:Nat),vs = [.int c, .int (n:Int)]∧0≤c∧n≤1000∧Q (.str (tx (gE c n))) H
theorem AN {H:Hp} {Q:VK} {E:XK} {c ni:Int} {n:Nat} (e:ni = (n:Int)) (hc:0≤c) (hn:n≤1000) (q:Q (.str (tx (gE c n))) H):xw [.int c, .int ni] H Q E:=by
 subst e
 exact ⟨c,n,rfl,hc,hn,q⟩
structure uB (vs:List V) (H:Hp) (Q:VK) (E:XK):Prop where
 ex:∃(cs:List Nat) (signs:Str),vs = [.str (tx cs), .str signs]∧cs.length≤100000∧∀H',aD H H'→Q (.bl (cs.all (yp signs))) H'
theorem Em {H:Hp} {Q:VK} {E:XK} {cs:List Nat} {signs:Str} (hl:cs.length≤100000) (q:∀H',aD H H'→Q (.bl (cs.all (yp signs))) H'):uB [.str (tx cs), .str signs] H Q E:=⟨cs,signs,rfl,hl,q⟩
def isName (cs:List Nat):Bool:=decide (1≤(cs.length:Int)) && decide ((cs.length:Int)≤8) && cs.all (yp "abcdefghijklmnopqrstuvwxyz")
structure pG (vs:List V) (H:Hp) (Q:VK) (E:XK):Prop where
 ex:∃(cs:List Nat),vs = [.str (tx cs)]∧cs.length≤100000∧∀H',aD H H'→Q (.bl (isName cs)) H'
theorem vG {H:Hp} {Q:VK} {E:XK} {cs:List Nat} (hl:cs.length≤100000) (q:∀H',aD H H'→Q (.bl (isName cs)) H'):pG [.str (tx cs)] H Q E:=⟨cs,rfl,hl,q⟩
end L2
namespace L2
open PySem PySem.Spec PyProof.Rows
theorem vH {p q:Prop} (h:if true = true then p else q):p:=by rwa [if_pos rfl] at h
theorem vI {p q:Prop} (h:if false = true then p else q):q:=by rwa [if_neg Bool.false_ne_true] at h
section
variable {prog:Program} {w:World} {A:Around} {R:Result→Shared→Prop} {s:Shared}
theorem zh {elt target iter cond:Expr} {scope:Scope} {pos:Pos} {it acc:Value} {env:Env} (J:Nat→Shared→Prop)
  (turn:∀n s,J n s→wpAny (model prog w) A (pyNext it) (fun r s₁=>match r with
    | none=>R (.ok .next) s₁
    | some v=>wpAny (model prog w) A (letOwnedTupleGo target it v) (fun _ s₂=>wpAny (model prog w) A (assign target env v) (fun _ s₃=>wpAny (model prog w) A (isTrue cond env (eval cond env)) (fun ok L8=>if ok = true then
       wpAny (model prog w) A (eval elt env) (fun x s₄=>wpAny (model prog w) A (call (.builtin "list.append") [acc,x]) (fun _ s₅=>∃m,m < n∧J m s₅) (fun _ _=>False) s₄) (fun _ _=>False) L8
       else ∃m,m < n∧J m L8) (fun _ _=>False) s₃) (fun _ _=>False) s₂) (fun _ _=>False) s₁) (fun _ _=>False) s)
  (n:Nat) (h:J n s):codeAny (model prog w) A (.compLoop (.ListComp elt [⟨target,iter,[cond],0⟩] scope pos) 0 it acc env) R s:=by
 refine codeAny_loop rfl J (fun n s hI=>?_) n h
 show wpAny _ A ((compTurn (.ListComp elt [⟨target,iter,[cond],0⟩] scope pos) 0 it acc env).onRaise (fun x=>do noteFrame x env;theTreesLotGoes x)) _ _ s
 refine wpAny_noted ?_
 rw [compTurn_list]
 refine wpAny_bind (wpAny_standAt (wpAny_bind (wpAny_mono (turn n s hI) (fun r s₁ h₁=>?_) fun _ _ h'=>h'.elim)))
 cases r with
 | none=>exact wpAny_pure h₁
 | some v=>
   refine wpAny_bind (wpAny_mono h₁ (fun _ s₂ h₂=>wpAny_bind (wpAny_mono h₂ (fun _ s₃ h₃=>?_) fun _ _ h'=>h'.elim)) fun _ _ h'=>h'.elim)
   refine wpAny_bind (wpAny_tests_one (wpAny_mono h₃ (fun ok L8 Ot=>?_) fun _ _ h'=>h'.elim))
   cases ok with
   | false=>exact wpAny_pure ⟨rfl,vI Ot⟩
   | true=>exact wpAny_bind (wpAny_bind (wpAny_mono (vH Ot) (fun x s₄ h₄=>wpAny_bind (wpAny_mono h₄ (fun _ s₅ h₅=>wpAny_pure (wpAny_pure ⟨rfl,h₅⟩)) fun _ _ h'=>h'.elim)) fun _ _ h'=>h'.elim))
end
section
variable {X:Cx}
def vJ (J:It) (g:TG) (tc:TT) (te:TE) (acc:Addr) (σ₀:St) (H:Hp) (Q:VK):Prop:=∃W:Nat→Nat→St→Hp→Prop,
 (∃m,W 0 m σ₀ (upd H acc (.lst [])))∧∀i m σ2 H2,W i m σ2 H2→
   (J.stop i H2∧Q (.ref acc) H2)∨(J.go i H2∧∃(S:St→Prop) (N:V→Hp→Prop) (N0:Hp→Prop),(∀σ3 v H4,S σ3→N v H4→∃xs,H4 acc = some (.lst xs)∧xs.length < sizeLine∧∃m',m' < m∧W (i + 1) m' σ3 (upd H4 acc (.lst (xs ++ [v]))))∧
     (∀σ3 H4,S σ3→N0 H4→∃m',m' < m∧W (i + 1) m' σ3 H4)∧∀x H',J.p5 i H2 x H'→g x σ2 H' fun σ3 H3=>S σ3∧tc σ3 H3 fun b H4=>if b = true then te σ3 H4 N else N0 H4)
def FO (wi:TI) (ix:List (Option Nat)) (g:TG) (tc:TT) (te:TE):TE:=fun σ H Q=>wi σ H fun J H1=>∀acc,H1 acc = none→vJ J g tc te acc (ix.map fun o=>o.bind fun j=>(σ[j]?).join) H1 Q
theorem tM {tg iter elt cond:Expr} {scope:Scope} {pos:Pos} {N2:List Str} {ix:List (Option Nat)} {g:TG} {tc:TT} {te:TE} {cl:List (Str × Addr)} {pins:List (Addr × Obj)} {σ:St} {H:Hp} {s:Shared} {E:Value→Shared→Prop} {Q:VK}
  {RR:Value→Addr→Result→Shared→Prop} (hc:X.calm = true) (hg:∀cl s₂ H₂ fp,PG (b_ X N2 scope cl s₂ H₂ fp) tg g) (he:∀cl s₂ H₂ fp,PE (b_ X N2 scope cl s₂ H₂ fp) elt te)
  (ht:∀cl s₂ H₂ fp,PT (b_ X N2 scope cl s₂ H₂ fp) cond tc) (hk:scope.kind = .function) (hn:ku X.N X.env.scope.names scope.names N2 ix = true)
  (AI:∀y c,(y,c)∈cl→X.env.cells.lookup y = some c) (xr:∀y,(y,NameKind.free)∈scope.names→∃c,(y,c)∈cl)
  {it:Addr} {fp:List Addr} {tn:Nat→Heap→Prop} {J:It} (I:Inv X pins σ H s) (T:Turn X.prog X.w X.K tg J fp it tn) (st:tn 0 s.heap) (f:∀b∈fp,jf X pins H b)
  (h:∀acc,H acc = none→vJ J g tc te acc (ix.map fun o=>o.bind fun j=>(σ[j]?).join) H Q)
  (hR:∀acc C H' s' m,Inv X pins σ H' s'→s'.heap.Ns C m→H' C = none→C ≠ X.env.locals→X.s₀.heap.objs.size≤C→(∀x c,X.env.cells.lookup x = some c→c ≠ C)→(∀p∈X.pn ++ pins,p.1 ≠ C)→Q (.ref acc) H'→RR (.ref acc) C (.ok .next) s'):
  wpAny (model X.prog X.w) X.A (newList []) (fun acc s₃=>wpAny (model X.prog X.w) X.A (newFunctionEnv scope X.env.globals cl [] X.env.qual none .none (some X.env)) (fun cenv s₄=>
   codeAny (model X.prog X.w) X.A (.compStart (.ListComp elt [⟨tg,iter,[cond],0⟩] scope pos) 0 (.ref it) acc { cenv with scope:=relabel scope X.env }) (RR acc cenv.locals) s₄) E s₃) E s:=by
 obtain ⟨k1,k2,k3,k4,k5⟩:=gX hn
 refine wpAny_newObj_type ?_
 have I3:Inv X pins σ (upd H s.heap.objs.size (.lst [])) { s with heap:=s.heap.push { cls:= .type "list",data:= .seq ([] :List Value).toArray } }:=
  I.laid (a:=s.heap.objs.size) (o:= .lst []) (t':=s.toks) (fun _ _ q=>Heap.get?_push_of_some _ q) (Nat.le_refl _) ⟨Nat.zero_le _,[],_, .nil,Heap.get?_push_size _ rfl⟩
 obtain ⟨W,⟨m0,w0⟩,turn⟩:=h s.heap.objs.size I.fresh
 have fo:∀b∈fp,b < s.heap.objs.size:=fun b hb=>by
  obtain ⟨o,e,_⟩:=T.obj 0 _ st b hb
  exact Heap.lt_size e
 have st3:tn 0 (s.heap.push { cls:= .type "list",data:= .seq ([] :List Value).toArray }):=T.keep _ _ _ st fun b _ o e=>Heap.get?_push_of_some _ e
 have f3:∀b∈fp,jf X pins (upd H s.heap.objs.size (.lst [])) b:=fun b hb=>⟨by rw [ao (Nat.ne_of_lt (fo b hb))];exact (f b hb).1,(f b hb).2⟩
 have FD:∀b∈fp,b < (s.heap.push { cls:= .type "list",data:= .seq ([] :List Value).toArray }).objs.size:=fun b hb=>by rw [Heap.size_push];exact Nat.lt_succ_of_lt (fo b hb)
 generalize LX:({ s with heap:=s.heap.push { cls:= .type "list",data:= .seq ([] :List Value).toArray } }:Shared) = s3 at *
 have LY:s3.heap = s.heap.push { cls:= .type "list",data:= .seq ([] :List Value).toArray }:=by rw [← LX]
 rw [← LY] at st3 FD
 generalize s.heap.objs.size = acc at *
 generalize RO:upd H acc (.lst []) = H3 at *
 have IY:=vC (N2:=N2) (scope:=scope) (cl:=cl) (fp:=fp) (σ2:=ix.map fun o=>o.bind fun j=>(σ[j]?).join) I3 hk AI xr f3 FD (by rw [List.length_map];exact k1) (fun i x v e1 e2=>by
  rw [List.getElem?_map] at e2
  cases ei:ix[i]? with
  | none=>rw [ei] at e2;cases e2
  | some o=>
    rw [ei] at e2
    cases o with
    | none=>cases e2
    | some j=>
      obtain ⟨a1,a2,a3⟩:=k2 i x j e1 ei
      refine ⟨a2,a3,j,a1,?_⟩
      have e3:(σ[j]?).join = some v:=Option.some.inj e2
      cases ej:σ[j]? with
      | none=>rw [ej] at e3;cases e3
      | some z=>rw [ej] at e3;exact congrArg some e3) k5
 have ne:wpAny (model X.prog X.w) X.A (newFunctionEnv scope X.env.globals cl [] X.env.qual none .none (some X.env)) (fun cenv s₄=>
   cenv = { scope:=scope,locals:=s3.heap.objs.size,globals:=X.env.globals,cells:=cellsFrom (s3.heap.objs.size + 1) scope.names cl,qual:=X.env.qual,func:=none,code:=X.env.code,frame:=X.env.frame,builtins:=X.env.builtins }∧
   s₄ = { s3 with heap:=pushCells (s3.heap.push { cls:= .type "dict",data:= .dict #[] }) scope.names }) E s3:=by
  simp only [newFunctionEnv,Option.isSome_some,if_true]
  refine wpAny_bind (wpAny_alloc ?_)
  refine wpAny_bind (wpAny_layCells _ (fun name kind cells=>by cases hkc:kind == NameKind.cell <;> simp [hkc]) _ _ _ _ ?_)
  rw [List.forIn_nil]
  refine wpAny_bind (wpAny_pure (wpAny_pure ⟨?_,rfl⟩))
  rw [show ({ s3 with heap:=s3.heap.push { cls:= .type "dict",data:= .dict #[] } }:Shared).heap.objs.size = s3.heap.objs.size + 1 from Heap.size_push ..]
 refine aP ne fun cenv s4 ⟨e1,e2⟩=>?_
 subst e1 e2
 have FE:tn 0 (pushCells (s3.heap.push { cls:= .type "dict",data:= .dict #[] }) scope.names):=T.keep _ _ _ st3 fun b _ o e=>pushCells_keeps _ _ b o (Heap.get?_push_of_some _ e)
 have qH:s3.heap.objs.size ≠ X.env.locals:=Nat.ne_of_gt I3.lt
 have lQ:∀{H':Hp},(∀b∈fp,H' b = none)→∀b∈fp,jf (b_ X N2 scope cl s3 H3 fp) [] H' b:=fun {H'} hn b hb=>
  ⟨hn b hb,(IY.ok.C9 b hb).1,IY.ok.w_ b hb, .inl hb,(IY.ok.C9 b hb).2,fun p hp=>nomatch hp⟩
 have loop:codeAny (model X.prog X.w) X.A (.compLoop (.ListComp elt [⟨tg,iter,[cond],0⟩] scope pos) 0 (.ref it) (.ref acc) (b_ X N2 scope cl s3 H3 fp).env) (RR (.ref acc) s3.heap.objs.size)
   { s3 with heap:=pushCells (s3.heap.push { cls:= .type "dict",data:= .dict #[] }) scope.names }:=by
  refine zh (fun n s'=>∃i σ' H',Inv (b_ X N2 scope cl s3 H3 fp) [] σ' H' s'∧tn i s'.heap∧(∀b∈fp,H' b = none)∧W i n σ' H') ?_ m0 ⟨0,_,H3,IY,FE,fun b hb=>(f3 b hb).1,w0⟩
  rintro n s5 ⟨i,σ5,H5,I5,qy,Am,w5⟩
  rcases turn i n σ5 H5 w5 with ⟨stop,qn⟩ | ⟨go,S,N,N0,LZ,RS,step⟩
  · refine aP (T.done (b_ X N2 scope cl s3 H3 fp) rfl rfl rfl hc i [] s5 σ5 H5 (fun _ _=>False) I5 (lQ Am) qy stop) fun r s6 ⟨hr,I6⟩=>?_
    subst hr
    obtain ⟨m6,L0,_⟩:=id I6.loc
    have IX:Inv X pins σ H5 s6:=I3.Ja (ch:=fp) I6.os I6.base I6.hok I6.bare fun b hb=>⟨(f3 b hb).2.2.2.1,(f3 b hb).2.1,(f3 b hb).2.2.2.2.1,(f3 b hb).2.2.2.2.2⟩
    refine hR acc s3.heap.objs.size H5 s6 m6 IX L0 I6.free qH I3.sz (fun x c e z=>?_) (fun p hp z=>?_) qn
    · obtain ⟨v,q⟩:=I3.cell x c e
      exact absurd q.lt (by rw [z];exact Nat.lt_irrefl _)
    · exact absurd (Heap.lt_size (I3.pin p hp).1) (by rw [z];exact Nat.lt_irrefl _)
  · refine aP (T.item (b_ X N2 scope cl s3 H3 fp) rfl rfl rfl hc i [] s5 σ5 H5 (fun _ _=>False) I5 (lQ Am) qy go) fun r s6 ⟨u,hr,h6⟩=>?_
    subst hr
    refine aP h6 fun _ s7 ⟨x,H7,I7,r7,y7,oJ,FF⟩=>?_
    have L1:=I7.pinned (lQ FF) (T.obj _ _ oJ)
    refine aP (hg cl s3 H3 fp _ s7 σ5 H7 x u _ L1 r7 (step x H7 y7)) fun _ s8 ⟨σ8,H8,I8,Jq,q8⟩=>?_
    refine aP (ht cl s3 H3 fp _ s8 σ8 H8 _ I8 q8) fun ok RT ⟨Ou,Js,Ov⟩=>?_
    cases ok with
    | false=>
      obtain ⟨m',hm,w9⟩:=RS σ8 Ou Jq (vI Ov)
      refine ite_ff ⟨m',hm,i + 1,σ8,_,Js.jQ,T.keep _ _ _ oJ fun b hb o e=>(Js.pin (b,o) (List.mem_append_right _ (List.mem_append_right _ (fk hb e)))).1,fun b hb=>?_,w9⟩
      obtain ⟨o,e,d⟩:=T.obj _ _ oJ b hb
      exact (Js.pin (b,o) (List.mem_append_right _ (List.mem_append_right _ (fk hb e)))).2.1
    | true=>
      refine ite_tt ?_
      refine aP (he cl s3 H3 fp _ RT σ8 Ou _ Js (vH Ov)) fun y s9 ⟨v,H9,I9,r9,q9⟩=>?_
      obtain ⟨xs,hxs,L3,m',hm,w9⟩:=LZ σ8 v H9 Jq q9
      refine aP (dP _ s9 σ8 H9 (.ref acc) [v] (.ref acc) [y] (fun z AJ=>z = .bE∧AJ = upd H9 acc (.lst (xs ++ [v]))) I9 rfl (.cons r9 .nil) ⟨acc,xs,v,rfl,rfl,hxs,L3,rfl,rfl⟩) fun z RP ⟨zv,AJ,AK,RQ,ez,eH⟩=>?_
      subst eH
      refine ⟨m',hm,i + 1,σ8,_,AK.jQ,T.keep _ _ _ oJ fun b hb o e=>(AK.pin (b,o) (List.mem_append_right _ (List.mem_append_right _ (fk hb e)))).1,fun b hb=>?_,w9⟩
      obtain ⟨o,e,d⟩:=T.obj _ _ oJ b hb
      exact (AK.pin (b,o) (List.mem_append_right _ (List.mem_append_right _ (fk hb e)))).2.1
 exact codeAny_compStart_list loop (T.self _ 0 _ _ _ FE loop)
theorem AO {tg iter elt cond:Expr} {scope:Scope} {pos:Pos} (N2:List Str) (ix:List (Option Nat)) {wi:TI} {g:TG} {tc:TT} {te:TE} (hc:X.calm = true) (hi:PI X tg iter wi)
  (hg:∀cl s₂ H₂ fp,PG (b_ X N2 scope cl s₂ H₂ fp) tg g) (he:∀cl s₂ H₂ fp,PE (b_ X N2 scope cl s₂ H₂ fp) elt te)
  (ht:∀cl s₂ H₂ fp,PT (b_ X N2 scope cl s₂ H₂ fp) cond tc) (hk:scope.kind = .function) (hn:ku X.N X.env.scope.names scope.names N2 ix = true) (hs:∀x,foldedSetIterable iter X.env x = pure x:=by intro _;rfl):
  PE X (.ListComp elt [⟨tg,iter,[cond],0⟩] scope pos) (FO wi ix g tc te):=by
 intro pins s σ H Q I h
 obtain ⟨k1,k2,k3,k4,k5⟩:=gX hn
 obtain ⟨cl,AL,c1,c2⟩:=lG (scope:=scope) (env:=X.env) fun y hy e=>I.ok.has y.1 (k3 y hy e)
 rw [eval_ListComp]
 refine wpAny_comprehension_free (use:=none) rfl hs AL hk k4 (aP (hi pins s σ H _ I h) fun v s1 h1=>aP h1 fun itv s2 h2=>?_)
 obtain ⟨it,fp,tn,J,H2,e,I2,T,st2,f2,h2⟩:=h2
 subst e
 refine tM (RR:=fun acc C=>compPost (model X.prog X.w) X.A X.xe none (EP X pins σ Q) acc C) (Q:=Q) hc hg he ht hk hn (fun y c m=>(c1 y c m).1) c2 I2 T st2 f2 h2 ?_
 intro acc C H' s' m I' ns qH hL hsz jl pD q
 exact ⟨m,ns,fun h' hs'=>⟨.ref acc,H',I'.turned (it:=C) (t':=s'.toks) (fun b o hb e=>(hs'.2 b hb).trans e) qH hL (.inr hsz) jl pD,rfl,q⟩⟩
theorem Ig {i:Nat} {x:Str} {px pos':Pos} {tg iter elt cond:Expr} {scope:Scope} {pos:Pos} (N2:List Str) (ix:List (Option Nat)) {wi:TI} {g:TG} {tc:TT} {te:TE} (hN:X.N.Nodup) (hi:X.N[i]? = some x) (hx:X.env.scope.names.lookup x = some .local) (hc:X.calm = true) (hit:PI X tg iter wi)
  (hg:∀cl s₂ H₂ fp,PG (b_ X N2 scope cl s₂ H₂ fp) tg g) (he:∀cl s₂ H₂ fp,PE (b_ X N2 scope cl s₂ H₂ fp) elt te)
  (ht:∀cl s₂ H₂ fp,PT (b_ X N2 scope cl s₂ H₂ fp) cond tc) (hk:scope.kind = .function) (hn:ku X.N X.env.scope.names scope.names N2 ix = true) (hw:swapsWith (.ListComp elt [⟨tg,iter,[cond],0⟩] scope pos) (some (.Name x px)) pos'.line X.env = pure true) (hs:∀x,foldedSetIterable iter X.env x = pure x:=by intro _;rfl):
  PS X (.Assign [.Name x px] (.ListComp elt [⟨tg,iter,[cond],0⟩] scope pos) pos') (D_ (FO wi ix g tc te) (iE i)):=by
 intro pins s σ H D I h
 obtain ⟨k1,k2,k3,k4,k5⟩:=gX hn
 obtain ⟨cl,AL,c1,c2⟩:=lG (scope:=scope) (env:=X.env) fun y hy e=>I.ok.has y.1 (k3 y hy e)
 rw [exec_Assign_Name_used _ _ _ _ hw]
 refine wpAny_bind (wpAny_standAt (wpAny_bind ?_))
 show wpAny _ X.A (do let _ ← comprehension (.ListComp elt [⟨tg,iter,[cond],0⟩] scope pos) scope X.env _ (newList []) false (eval iter X.env) (some (assign (.Name x px) X.env))) _ _ s
 refine wpAny_bind (aP (wpAny_comprehension_free (use:=some (assign (.Name x px) X.env)) (Q:=fun _ s'=>SP X pins D .next s') rfl hs AL hk k4 (aP (hit pins s σ H _ I h) fun v s1 h1=>aP h1 fun itv s2 h2=>?_)) fun _ s' hq=>wpAny_pure (wpAny_pure hq))
 obtain ⟨it,fp,tn,J,H2,e,I2,T,st2,f2,h2⟩:=h2
 subst e
 refine tM (RR:=fun acc C=>compPost (model X.prog X.w) X.A X.xe (some (assign (.Name x px) X.env)) (fun _ s'=>SP X pins D .next s') acc C) (Q:=fun v H'=>D.nx (σ.set i (some v)) H') hc hg he ht hk hn (fun y c m=>(c1 y c m).1) c2 I2 T st2 f2 h2 ?_
 intro acc C H' s' m I' ns qH hL hsz jl pD q
 show wpAny _ X.A (assign (.Name x px) X.env (.ref acc)) _ _ _
 refine wpAny_assign_Name (qw I' hN hi (.inl hx) (v:= .ref acc) rfl (fun s3 I3 ⟨a,sb,ha⟩=>?_) (.inr hx))
 have ca:C ≠ a:=by
  rcases ha with z | z
  · rw [z];exact hL
  · exact fun e=>jl x a z e.symm
 exact ⟨m,ns.sameBut sb ca,fun h' hs'=>⟨_,H',I3.turned (it:=C) (t':=s3.toks) (fun b o hb e=>(hs'.2 b hb).trans e) qH hL (.inr hsz) jl pD,q⟩⟩
end
end L2
namespace L2
open PySem PySem.Spec PyProof.Rows
theorem AQ {α:Type} [DecidableEq α] :∀{l m:List α},l.Nodup→(∀x∈l,x∈m)→l.length≤m.length
 | [],_,_,_=>Nat.zero_le _
 | x :: r,m,h,hs=>by
   have hn:=List.nodup_cons.mp h
   have hx:=hs x List.mem_cons_self
   have:=AQ (l:=r) (m:=m.erase x) hn.2 fun y hy=>by
    have hne:y ≠ x:=fun e=>hn.1 (e ▸ hy)
    exact (List.mem_erase_of_ne hne).mpr (hs y (List.mem_cons_of_mem _ hy))
   rw [List.length_erase_of_mem hx] at this
   have hp:0 < m.length:=List.length_pos_of_mem hx
   rw [List.length_cons]
   omega
theorem FP (c:Int) {n i:Nat} (h:i < n):(gE c n)[i]? = some (97 + ((c / 26 ^ i) % 26).toNat):=by
 unfold gE
 rw [List.getElem?_map,List.getElem?_range h]
 rfl
theorem KA {c c':Int} {n d:Nat} (h:d < n) (e:gE c n = gE c' n):(c / 26 ^ d) % 26 = (c' / 26 ^ d) % 26:=by
 have h1:=FP c h
 rw [e,FP c' h] at h1
 have h2:=Option.some.inj h1
 have a0:0≤(c / 26 ^ d) % 26:=Int.emod_nonneg _ (by decide)
 have b0:0≤(c' / 26 ^ d) % 26:=Int.emod_nonneg _ (by decide)
 omega
structure lY (x:List Nat):Prop where
 lo:1≤x.length
 hi:x.length≤8
 Dp:∀c∈x,97≤c∧c < 123
theorem L_ (c:Int) {n:Nat} (h1:1≤n) (h2:n≤8):lY (gE c n):=by
 refine ⟨by rw [pF];exact h1,by rw [pF];exact h2,fun x hx=>?_⟩
 obtain ⟨i,_,rfl⟩:=List.mem_map.mp hx
 have a0:0≤(c / 26 ^ i) % 26:=Int.emod_nonneg _ (by decide)
 have a1:(c / 26 ^ i) % 26 < 26:=Int.emod_lt_of_pos _ (by decide)
 omega
def lZ (nss:List (List Nat)):List V:=nss.map fun x=>V.str (tx x)
theorem Ih (nss:List (List Nat)):(lZ nss).all lE = true:=by
 unfold lZ
 rw [List.all_map,List.all_eq_true]
 exact fun _ _=>rfl
theorem FQ {a b:List Nat} (h:tx a = tx b):a = b:=by
 have:a.toArray = b.toArray:=by injection h
 simpa using this
theorem KC (x:List Nat) (nss:List (List Nat)):Dj (.str (tx x)) (lZ nss) = decide (x∈nss):=by
 unfold Dj lZ
 rw [List.any_map,Bool.eq_iff_iff,List.any_eq_true,decide_eq_true_eq]
 constructor
 · rintro ⟨y,hy,e⟩
   have e2:p7 (.str (tx y)) (.str (tx x)) = true:=e
   have e3:tx y = tx x:=by
    unfold p7 at e2
    simpa using e2
   rw [← FQ e3]
   exact hy
 · intro h
   refine ⟨x,h,?_⟩
   show p7 (.str (tx x)) (.str (tx x)) = true
   unfold p7
   simp
end L2
namespace L2
open PySem PySem.Spec PyProof.Rows
theorem Dq (x:Str):PyData.eqv (.str x) (.str x) = true:=by unfold PyData.eqv;exact beq_self_eq_true x
theorem KD (i:Int):PyData.eqv (.int i) (.int i) = true:=by unfold PyData.eqv;exact beq_self_eq_true i
end L2
namespace L2
open PySem PySem.Spec PyProof.Rows
end L2
namespace L2
open PySem PySem.Spec PyProof.Rows PySem.NumText
section
variable {X:Cx}
end
end L2
namespace L2
open PySem PySem.Spec PyProof.Rows PySem.NumText
section
variable {X:Cx} {tg:Expr}
end
end L2
namespace L2
open PySem PySem.Spec PyProof.Rows PySem.NumText
end L2
namespace L2
open PySem PySem.Spec PyProof.Rows PySem.NumText
end L2
namespace L2
open PySem PySem.Spec PyProof.Rows PySem.NumText Builtin Builtin.Str
section
variable {X:Cx}
end
end L2
namespace L2
open PySem PySem.Spec PyProof.Rows PySem.NumText
end L2
namespace L2
end L2
namespace L2
open PySem PySem.Spec PyProof.Rows
theorem Dr (c:Int) (j d:Nat):(c + (j:Int) * 26 ^ d) / 26 ^ d = c / 26 ^ d + (j:Int):=by
 have hp:(26:Int) ^ d ≠ 0:=Int.ne_of_gt (Int.pow_pos (by decide))
 rw [Int.add_mul_ediv_right _ _ hp]
theorem FT {nss:List (List Nat)} {c:Int} {n d t:Nat} (h2:d < n) (ht:t≤26) (h:∀j:Nat,j < t→gE (c + (j:Int) * 26 ^ d) n∈nss):t≤nss.length:=by
 have hn:((List.range t).map fun j=>gE (c + ((j:Nat):Int) * 26 ^ d) n).Nodup:=by
  have:(List.range t).Pairwise (fun a b=>a < b):=List.pairwise_lt_range
  refine List.Pairwise.map _ ?_ (List.Pairwise.and_mem.mp this)
  rintro a b ⟨ha,hb,hab⟩ e
  have ha':=List.mem_range.mp ha
  have hb':=List.mem_range.mp hb
  have:=KA h2 e
  rw [Dr,Dr] at this
  omega
 have:=AQ hn fun x hx=>by
  obtain ⟨j,hj,rfl⟩:=List.mem_map.mp hx
  exact h j (List.mem_range.mp hj)
 rw [List.length_map,List.length_range] at this
 exact this
structure xx (K:PySem.W.Frag) (vs:List V) (H:Hp) (Q:VK) (E:XK):Prop where
 ex:∃(a:Addr) (ms:List Int) (k:Int) (many:Nat),vs = [.ref a, .int k, .int (many:Int)]∧av K H a (ms.map V.int)∧ms.length≤63∧0≤k∧many≤25∧
  ∀(z:Addr) (nss:List (List Nat)) (H':Hp),aD H H'→H' z = some (.lst (lZ nss))→H z = none→nss.length = many→nss.Nodup→(∀x∈nss,lY x)→Q (.ref z) H'
theorem yq {K:PySem.W.Frag} {H:Hp} {Q:VK} {E:XK} {a:Addr} {ms:List Int} {k mi:Int} {many:Nat} (hmi:mi = (many:Int)) (hS:av K H a (ms.map V.int)) (h63:ms.length≤63) (h1:0≤k) (h2:many≤25)
  (h:∀(z:Addr) (nss:List (List Nat)) (H':Hp),aD H H'→H' z = some (.lst (lZ nss))→H z = none→nss.length = many→nss.Nodup→(∀x∈nss,lY x)→Q (.ref z) H'):xx K [.ref a, .int k, .int mi] H Q E:=by
 subst hmi
 exact ⟨a,ms,k,many,rfl,hS,h63,h1,h2,h⟩
end L2
namespace L2
open PySem PySem.Spec PyProof.Rows
theorem oK {a:List (Key × V)} {b:List (Key × Value)} (r:KV a b):∀{j:Nat} {p:Key × V},a[j]? = some p→∃q,b[j]? = some q∧p.1 = q.1∧RelV p.2 q.2:=by
 induction r with
 | nil=>intro j p z;simp at z
 | cons r1 _ ih=>
   intro j p z
   cases j with
   | zero=>simp at z;subst z;exact ⟨_,rfl,r1⟩
   | succ j=>simp at z;obtain ⟨q,a1,a2⟩:=ih z;exact ⟨q,by simpa using a1,a2⟩
abbrev i9 (H:Hp) (d:Addr) (o:Obj) (kvs:List (Key × V)):Prop:=H d = some (.cW o (.dK kvs))
section
variable {X:Cx} {pins:List (Addr × Obj)} {σ σ':St} {H H':Hp} {s s':Shared} {d:Addr} {kvs:List (Key × V)} {o:Obj}
theorem Inv.freeze (I:Inv X pins σ H s) (e:H d = some (.dK kvs)) (ho:s.heap.get? d = some o):Inv X pins σ (upd H d (.cW o (.dK kvs))) s:=by
 have nd:∀{b:Addr},H b = none→b ≠ d:=fun h z=>by rw [z,e] at h;cases h
 have dn:∀{b:Addr},H b = none→upd H d (.cW o (.dK kvs)) b = none:=fun h=>by rw [ao (nd h)];exact h
 have un:∀{b:Addr} {u:HO},H b = some u→(∀k,u ≠ .dK k)→b ≠ d:=fun h k z=>by rw [z,e] at h;cases h;exact k _ rfl
 refine ⟨I.ok,I.os,I.bare,⟨I.base.keep,I.base.slot,fun b ob q n x=>dn (I.base.free b ob q n x),I.base.there,fun b xs q=>?_,fun b ob u q=>?_,fun b ps q=>?_⟩,I.loc,I.cell,dn I.free,fun x c q=>dn (I.iD x c q),fun p hp=>?_,fun b ob q=>?_,I.len⟩
 · have:=I.base.tups b xs q
   rw [ao (un this fun k z=>by cases z)];exact this
 · have:=I.base.kF b ob u q
   rw [ao (un this fun k z=>by cases z)];exact this
 · obtain ⟨more,this⟩:=I.base.nO b ps q
   exact ⟨more,by rw [ao (un this fun k z=>by cases z)];exact this⟩
 · obtain ⟨h1,h2,h3⟩:=I.pin p hp
   exact ⟨h1,dn h2,h3⟩
 · by_cases hb:b = d
   · subst hb
     rw [af] at q;cases q
     have:=I.hok b _ e
     exact ⟨ho,this⟩
   · rw [ao hb] at q
     refine (I.hok b ob q).stay (fun c u _ z=>z) (fun c z=>?_) fun c xs z=>?_
     · rw [ao (un z fun k z=>by cases z)];exact z
     · rw [ao (un z fun k z=>by cases z)];exact z
theorem Inv.uC (I:Inv X pins σ H s) (e:i9 H d o kvs) (h0:∀o u,X.H₀ d ≠ some (.cW o u)):Inv X pins σ (upd H d (.dK kvs)) s:=by
 have nd:∀{b:Addr},H b = none→b ≠ d:=fun h z=>by rw [z] at h;exact absurd (h.symm.trans e) (by simp)
 have dn:∀{b:Addr},H b = none→upd H d (.dK kvs) b = none:=fun h=>by rw [ao (nd h)];exact h
 have un:∀{b:Addr} {u:HO},H b = some u→(∀o k,u ≠ .cW o k)→b ≠ d:=fun h k z=>by rw [z] at h;have:=h.symm.trans e;cases this;exact k _ _ rfl
 refine ⟨I.ok,I.os,I.bare,⟨I.base.keep,I.base.slot,fun b ob q n x=>dn (I.base.free b ob q n x),I.base.there,fun b xs q=>?_,fun b ob u q=>?_,fun b ps q=>?_⟩,I.loc,I.cell,dn I.free,fun x c q=>dn (I.iD x c q),fun p hp=>?_,fun b ob q=>?_,I.len⟩
 · have:=I.base.tups b xs q
   rw [ao (un this fun _ k z=>by cases z)];exact this
 · have:=I.base.kF b ob u q
   rw [ao (fun (z:b = d)=>h0 ob u (by rw [← z];exact q))];exact this
 · obtain ⟨more,this⟩:=I.base.nO b ps q
   exact ⟨more,by rw [ao (un this fun _ k z=>by cases z)];exact this⟩
 · obtain ⟨h1,h2,h3⟩:=I.pin p hp
   exact ⟨h1,dn h2,h3⟩
 · by_cases hb:b = d
   · subst hb
     rw [af] at q;cases q
     exact (I.hok b _ e).2
   · rw [ao hb] at q
     refine (I.hok b ob q).stay (fun c u _ z=>z) (fun c z=>?_) fun c xs z=>?_
     · rw [ao (un z fun _ k z=>by cases z)];exact z
     · rw [ao (un z fun _ k z=>by cases z)];exact z
theorem Inv.FU (I:Inv X pins σ H s) (e:H d = some (.dK kvs)):∀o u,X.H₀ d ≠ some (.cW o u):=fun o u z=>by
 have:=I.base.kF d o u z
 rw [e] at this;cases this
theorem Inv.ki (I:Inv X pins σ H s) (e:i9 H d o kvs):s.heap.get? d = some o∧kvs.length≤sizeLine∧(d == sysModules) = false∧∃vs ep,KV kvs vs∧s.heap.DictAt (bK X.prog X.w) d vs ep:=by
 obtain ⟨ho,hz,hs,vs,r,dd⟩:=(show cy X.prog X.w H s.heap d (.cW o (.dK kvs)) from I.hok d _ e)
 obtain ⟨ep,da⟩:=dd.dictAt
 exact ⟨ho,hz,hs,vs,ep,r,da⟩
end
def Ends.uC (D:Ends) (d:Addr) (o:Obj) (kvs:List (Key × V)):Ends where
 nx:=fun σ H=>i9 H d o kvs∧D.nx σ (upd H d (.dK kvs))
 rt:=fun v H=>i9 H d o kvs∧D.rt v (upd H d (.dK kvs))
 bk:=fun σ H=>i9 H d o kvs∧D.bk σ (upd H d (.dK kvs))
 ct:=fun σ H=>i9 H d o kvs∧D.ct σ (upd H d (.dK kvs))
def Q7 (t:TS):TS:=fun D σ H=>∃d kvs,H d = some (.dK kvs)∧∀o,t (D.uC d o kvs) σ (upd H d (.cW o (.dK kvs)))
theorem oM {X:Cx} {st:Stmt} {t:TS} (h:PS X st t):PS X st (Q7 t):=by
 intro pins s σ H D I hw
 obtain ⟨d,kvs,e,hw⟩:=hw
 obtain ⟨ho,es,ep,h1,_⟩:=(vo I.hok e).2.2.choose_spec.2
 have h0:=I.FU e
 refine aP (h pins s σ _ _ (I.freeze e h1) (hw ho)) fun f s' q=>?_
 cases f with
 | next=>obtain ⟨σ',H',I',q1,q2⟩:=q;exact ⟨σ',_,I'.uC q1 h0,q2⟩
 | brk=>obtain ⟨σ',H',I',q1,q2⟩:=q;exact ⟨σ',_,I'.uC q1 h0,q2⟩
 | cont=>obtain ⟨σ',H',I',q1,q2⟩:=q;exact ⟨σ',_,I'.uC q1 h0,q2⟩
 | ret u=>obtain ⟨v,σ',H',I',r,q1,q2⟩:=q;exact ⟨v,σ',_,I'.uC q1 h0,r,q2⟩
def Q8 (t:TE):TE:=fun σ H Q=>∃d kvs,H d = some (.dK kvs)∧∀o,t σ (upd H d (.cW o (.dK kvs))) fun v H'=>i9 H' d o kvs∧Q v (upd H' d (.dK kvs))
theorem AR {X:Cx} {e:Expr} {t:TE} (h:PE X e t):PE X e (Q8 t):=by
 intro pins s σ H Q I hw
 obtain ⟨d,kvs,e,hw⟩:=hw
 obtain ⟨ho,es,ep,h1,_⟩:=(vo I.hok e).2.2.choose_spec.2
 have h0:=I.FU e
 exact aP (h pins s σ _ _ (I.freeze e h1) (hw ho)) fun u s' ⟨v,H',I',r,q1,q2⟩=>⟨v,_,I'.uC q1 h0,r,q2⟩
def Ow (d:Addr) (o:Obj) (kvs:List (Key × V)):It:=⟨fun i H=>i9 H d o kvs∧i < kvs.length,fun i H x H'=>H' = H∧∃p,kvs[i]? = some p∧x = p.2,fun i H=>i9 H d o kvs∧kvs.length≤i⟩
def Ox (d:Addr) (o:Obj) (kvs:List (Key × V)):It:=⟨fun i H=>i9 H d o kvs∧i < kvs.length,fun i H x H'=>∃a p,H a = none∧kvs[i]? = some p∧x = .ref a∧H' = upd H a (.tup [kV p.1,p.2]),fun i H=>i9 H d o kvs∧kvs.length≤i⟩
theorem sO {h:Heap} {P:Program} {w:World} {d:Addr} {vs:List (Key × Value)} {e1 e2:Nat} {o:Obj} {es:Array DictEntry} (da:h.DictAt (bK P w) d vs e1) (ho:h.get? d = some o) (hd:o.data = .dict es e2):e1 = e2:=by
 obtain ⟨o',es',h1,_,h2,_⟩:=da
 rw [ho] at h1;cases h1
 rw [hd] at h2;cases h2;rfl
theorem AS {P:Program} {w:World} {k:Key} {v:Value} (h:(bK P w).is k v = true):RelV (kV k) v:=by
 rw [D9] at h
 rcases dg h with ⟨i,t,rfl,rfl⟩ | ⟨x,t,rfl,rfl⟩
 · exact ⟨t,rfl⟩
 · exact ⟨t,rfl⟩
theorem FW {P:Program} {w:World} {K:PySem.W.Frag} {tg:Expr} {d it:Addr} {o:Obj} {kvs:List (Key × V)} {es:Array DictEntry} {ep:Nat} (hd:o.data = .dict es ep):
  Turn P w K tg (Ow d o kvs) [it] it (fun i h=>h.IsValIter it d i kvs.length ep) where
 mem:=by simp
 obj:=fun i h st b hb=>by
  have e:b = it:=by simpa using hb
  subst e
  obtain ⟨o,e,c,d⟩:=st
  exact ⟨o,e,fun v z=>by rw [d] at z;cases z⟩
 keep:=fun i h h' st k=>st.at fun o e=>k it (by simp) o e
 item:=by
  intro X hP hw hK hc i pins s σ H E I hf st hg
  subst hP hw hK
  obtain ⟨hz,hlt⟩:=hg
  obtain ⟨ho,_,_,vs,u_,r,da⟩:=I.ki hz
  cases sO da ho hd
  have hl:kvs.length = vs.length:=r.length
  obtain ⟨q,hq,_,rq⟩:=oK r (List.getElem?_eq_getElem hlt)
  obtain ⟨qk,qv⟩:=q
  rw [hl] at st
  obtain ⟨f0,f1,f2,f3,f4,f5⟩:=hf it (by simp)
  refine wpAny_pyNext_values_item st da hq fun h' st' sb=>?_
  have I1:Inv X pins σ H { s with heap:=h' }:=I.turned (t':=s.toks) (fun b o hb e=>(sb.2 b hb).trans e) f0 f1 f3 f4 f5
  obtain ⟨oi,e,c,dd⟩:=id st'
  exact ⟨_,rfl,vd (s:={ s with heap:=h' }) e c dd (by decide) ⟨kvs[i].2,H,I1,rq,⟨rfl,kvs[i],List.getElem?_eq_getElem hlt,rfl⟩,by rw [hl];exact st',fun b hb=>(hf b hb).1⟩⟩
 done:=by
  intro X hP hw hK hc i pins s σ H E I hf st hg
  subst hP hw hK
  obtain ⟨hz,hle⟩:=hg
  obtain ⟨ho,_,_,vs,u_,r,da⟩:=I.ki hz
  cases sO da ho hd
  have hl:kvs.length = vs.length:=r.length
  rw [hl] at st
  obtain ⟨f0,f1,f2,f3,f4,f5⟩:=hf it (by simp)
  exact wpAny_pyNext_values_end (I.ok.hd hc) st da (by rw [List.getElem?_eq_none];omega) fun h' eb=>⟨rfl,I.turned (t':=s.toks) (fun b o hb e=>eb b o hb e) f0 f1 f3 f4 f5⟩
 self:=fun _ _ _ _ _ st h=>wpAny_pyIter_valiter st h
theorem En {P:Program} {w:World} {K:PySem.W.Frag} {elts:List Expr} {kk:Nat} {pos:Pos} {d it:Addr} {o:Obj} {kvs:List (Key × V)} {es:Array DictEntry} {ep:Nat} (hd:o.data = .dict es ep):
  Turn P w K (.Tuple elts kk pos) (Ox d o kvs) [it] it (fun i h=>∃ok ov,IsItemIter h it d i kvs.length ep ok ov) where
 mem:=by simp
 obj:=fun i h st b hb=>by
  have e:b = it:=by simpa using hb
  subst e
  obtain ⟨ok,ov,e⟩:=st
  exact ⟨_,e,fun v z=>by cases z⟩
 keep:=fun i h h' ⟨ok,ov,st⟩ k=>⟨ok,ov,k it (by simp) _ st⟩
 item:=by
  intro X hP hw hK hc i pins s σ H E I hf st hg
  subst hP hw hK
  obtain ⟨hz,hlt⟩:=hg
  obtain ⟨ok,ov,st⟩:=st
  obtain ⟨ho,_,_,vs,u_,r,da⟩:=I.ki hz
  cases sO da ho hd
  have hl:kvs.length = vs.length:=r.length
  obtain ⟨q,hq,ek,rq⟩:=oK r (List.getElem?_eq_getElem hlt)
  obtain ⟨qk,qv⟩:=q
  rw [hl] at st
  obtain ⟨f0,f1,f2,f3,f4,f5⟩:=hf it (by simp)
  refine wpAny_pyNext_items_item st da hq fun key h1 hk st1 ht hsz hkeep=>?_
  refine ⟨_,rfl,wpAny_letOwnedTupleGo_items (s:={ s with heap:=h1 }) st1 fun h2 st2 sb=>?_⟩
  have rk:RelV (kV kvs[i].1) key:=by rw [ek];exact AS hk
  have hil:it ≠ s.heap.objs.size:=Nat.ne_of_lt (Heap.lt_size st)
  have nq:∀b o,b ≠ it→s.heap.get? b = some o→h2.get? b = some o:=fun b o hb e=>sb.extBut b o hb (hkeep b o hb e)
  have I1:Inv X pins σ (upd H s.heap.objs.size (.tup [kV kvs[i].1,kvs[i].2])) { s with heap:=h2 }:=by
   have J:Inv X pins σ H { s with heap:=h2 }:=I.turned (t':=s.toks) nq f0 f1 f3 f4 f5
   have hn:=I.fresh
   have J2:Inv X pins σ (upd H s.heap.objs.size (.tup [kV kvs[i].1,kvs[i].2])) { s with heap:=h2,gens:=s.gens,drawn:=s.drawn,toks:=s.toks }:=by
    refine I.step (ch:=[it]) (fun b hb=>⟨(hf b hb).2.2.2.1,(hf b hb).2.1,(hf b hb).2.2.2.2.1,(hf b hb).2.2.2.2.2⟩) (fun b o _ _ hc' e _=>nq b o (by simpa using hc') e) (fun b o _ _ hc' e _=>⟨o.slots,nq b o (by simpa using hc') e⟩) (fun b o _ e n=>by rw [ao (Nat.ne_of_lt (Heap.lt_size e))];exact n) (fun b o hc' e=>⟨o,nq b o (by simpa using hc') e⟩)
     (fun b zs q=>by rw [ao (ay q hn)];exact q) (fun b o zs q=>by rw [ao (ay q hn)];exact q) (fun b ps q=>⟨#[],by rw [ao (ay q hn),q];simp⟩) (fun m hm=>?_) (fun b ob e=>?_) I.bare
    · obtain ⟨o,es,ep,ho,r⟩:=hm
      exact ⟨o,es,ep,nq _ o (fun q=>f1 q.symm) ho,r⟩
    · by_cases hb:b = s.heap.objs.size
      · subst hb
        rw [af] at e;cases e
        exact ⟨by show 2≤sizeLine;decide,[key,qv], .cons rk (.cons rq .nil),_,sb.extBut _ _ hil.symm ht,rfl,0,rfl⟩
      · rw [ao hb] at e
        refine (I.hok b ob e).stay (fun c v FY q=>?_) (fun c q=>by rw [ao (ay q hn)];exact q) fun c zs q=>by rw [ao (ay q hn)];exact q
        refine nq c v (fun z=>?_) q
        rcases FY with r | r
        · rw [r] at z;rw [z,f0] at e;cases e
        · rw [z,f0] at r;cases r
   exact J2
  refine ⟨.ref s.heap.objs.size,_,I1,rfl,⟨_,kvs[i],I.fresh,List.getElem?_eq_getElem hlt,rfl,rfl⟩,⟨key,qv,by rw [hl];exact st2⟩,fun b hb=>?_⟩
  have eb:b = it:=by simpa using hb
  subst eb
  rw [ao hil]
  exact f0
 done:=by
  intro X hP hw hK hc i pins s σ H E I hf st hg
  subst hP hw hK
  obtain ⟨hz,hle⟩:=hg
  obtain ⟨ok,ov,st⟩:=st
  obtain ⟨ho,_,_,vs,u_,r,da⟩:=I.ki hz
  cases sO da ho hd
  have hl:kvs.length = vs.length:=r.length
  rw [hl] at st
  obtain ⟨f0,f1,f2,f3,f4,f5⟩:=hf it (by simp)
  exact wpAny_pyNext_items_end (I.ok.hd hc) st da (by rw [List.getElem?_eq_none];omega) fun h' eb=>⟨rfl,I.turned (t':=s.toks) (fun b o hb e=>eb b o hb e) f0 f1 f3 f4 f5⟩
 self:=fun A i s Q E ⟨ok,ov,st⟩ h=>PySem.W.kcp_self st h
section
variable {X:Cx} {tg:Expr}
def NZ (td:TE):TI:=fun σ H R=>td σ H fun x H1=>∃d o kvs,x = .ref d∧i9 H1 d o kvs∧R (Ow d o kvs) H1
def Ma (td:TE):TI:=fun σ H R=>td σ H fun x H1=>∃d o kvs,x = .ref d∧i9 H1 d o kvs∧R (Ox d o kvs) H1
theorem sP {ob:Expr} {td:TE} {apos cpos:Pos} (hob:PE X ob td) (hbase:attributeBase ob "values" X.env (eval ob X.env) = eval ob X.env:=by rfl) (hline:(apos.endLine == cpos.line) = true:=by rfl):
  PI X tg (.Call (.Attribute ob "values" apos) [] [] cpos) (NZ td):=by
 intro pins s σ H R I h
 refine wpAny_Call_method0_late hbase hline (aP (hob pins s σ H _ I h) fun v s1 ⟨x,H1,I1,r1,q1⟩=>?_)
 obtain ⟨d,o,kvs,rfl,e,fin⟩:=q1
 cases r1
 obtain ⟨ho,hz,hsys,vs,ep,rel,da⟩:=I1.ki e
 obtain ⟨t1,t2,_⟩:=AB I1 (.inl ⟨kvs, .inr ⟨o,e⟩⟩)
 have dd:=da.dictOf
 refine ⟨"dict",_,F.plainAttrs_dict,F.slot_dict_values,F.type_dict_values,t1,t2,Calls.callWith_builtin rfl (PySem.evalArgs_none ?_)⟩
 refine call_meetsIn F.slot_dict_values dd.typeIs F.entry_dict_values (F.args_dict_values_1 _) (meets_dict_values (bK X.prog X.w) d hsys) ⟨⟨vs,dd⟩,?_⟩
 refine wpAny_pyIter_values (s:={ s1 with heap:=s1.heap.push { cls:= .type "dict_values",data:= .fields #[.ref d] } }) ⟨_,Heap.get?_push_size _ rfl,rfl,rfl⟩ (da.push _) ?_
 have Iv:Inv X pins σ H1 { s1 with heap:=s1.heap.push { cls:= .type "dict_values",data:= .fields #[.ref d] } }:=I1.kept (t':=s1.toks) fun b o e=>Heap.get?_push_of_some _ e
 generalize ({ s1 with heap:=s1.heap.push { cls:= .type "dict_values",data:= .fields #[.ref d] } }:Shared) = sv at *
 have I2:Inv X pins σ H1 { sv with heap:=sv.heap.push { cls:= .type "dict_valueiterator",data:= .fields #[.ref d, .int 0 0, .int vs.length 0, .int ep 0] } }:=Iv.kept (t':=sv.toks) fun b o e=>Heap.get?_push_of_some _ e
 have hl:kvs.length = vs.length:=rel.length
 obtain ⟨o',es,h1,_,h2,_⟩:=id da
 rw [ho] at h1;cases h1
 refine ⟨sv.heap.objs.size,[sv.heap.objs.size],_,_,H1,rfl,I2,FW h2,?_,fun b hb=>?_,fin⟩
 · rw [hl];exact ⟨_,Heap.get?_push_size _ rfl,rfl,rfl⟩
 · have eb:b = sv.heap.objs.size:=by simpa using hb
   subst eb
   exact Iv.xh (Nat.le_refl _) (Iv.hok.fresh (Nat.le_refl _))
theorem uD {elts:List Expr} {kk:Nat} {tpos:Pos} {ob:Expr} {td:TE} {apos cpos:Pos} (hob:PE X ob td) (hbase:attributeBase ob "items" X.env (eval ob X.env) = eval ob X.env:=by rfl) (hline:(apos.endLine == cpos.line) = true:=by rfl):
  PI X (.Tuple elts kk tpos) (.Call (.Attribute ob "items" apos) [] [] cpos) (Ma td):=by
 intro pins s σ H R I h
 refine wpAny_Call_method0_late hbase hline (aP (hob pins s σ H _ I h) fun v s1 ⟨x,H1,I1,r1,q1⟩=>?_)
 obtain ⟨d,o,kvs,rfl,e,fin⟩:=q1
 cases r1
 obtain ⟨ho,hz,hsys,vs,ep,rel,da⟩:=I1.ki e
 obtain ⟨t1,t2,_⟩:=AB I1 (.inl ⟨kvs, .inr ⟨o,e⟩⟩)
 have dd:=da.dictOf
 refine ⟨"dict",_,F.plainAttrs_dict,F.slot_dict_items,F.type_dict_items,t1,t2,Calls.callWith_builtin rfl (PySem.evalArgs_none ?_)⟩
 refine call_meetsIn F.slot_dict_items dd.typeIs F.entry_dict_items (F.args_dict_items_1 _) (meets_dict_items (bK X.prog X.w) d hsys) ⟨⟨vs,dd⟩,?_⟩
 refine wpAny_pyIter_items (s:={ s1 with heap:=s1.heap.push { cls:= .type "dict_items",data:= .fields #[.ref d] } }) ⟨_,Heap.get?_push_size _ rfl,rfl,rfl⟩ (da.push _) ?_
 have Iv:Inv X pins σ H1 { s1 with heap:=s1.heap.push { cls:= .type "dict_items",data:= .fields #[.ref d] } }:=I1.kept (t':=s1.toks) fun b o e=>Heap.get?_push_of_some _ e
 generalize ({ s1 with heap:=s1.heap.push { cls:= .type "dict_items",data:= .fields #[.ref d] } }:Shared) = sv at *
 have I2:Inv X pins σ H1 { sv with heap:=sv.heap.push { cls:= .type "dict_itemiterator",data:= .fields #[.none, .bool false, .ref d, .int 0 0, .int vs.length 0, .int ep 0, .none, .none] } }:=Iv.kept (t':=sv.toks) fun b o e=>Heap.get?_push_of_some _ e
 have hl:kvs.length = vs.length:=rel.length
 obtain ⟨o',es,h1,_,h2,_⟩:=id da
 rw [ho] at h1;cases h1
 refine ⟨sv.heap.objs.size,[sv.heap.objs.size],_,_,H1,rfl,I2,En h2,?_,fun b hb=>?_,fin⟩
 · rw [hl];exact ⟨_,_,Heap.get?_push_size _ rfl⟩
 · have eb:b = sv.heap.objs.size:=by simpa using hb
   subst eb
   exact Iv.xh (Nat.le_refl _) (Iv.hok.fresh (Nat.le_refl _))
end
theorem l7 {J:It} {n:Nat} {g:TG} {tb:TS} {D:Ends} {σ:St} {H:Hp} (Pv:Nat→St→Hp→Prop) (h0:Pv 0 σ H) (hgo:∀i σ H,i < n→Pv i σ H→J.go i H) (hst:∀σ H,Pv n σ H→J.stop n H)
  (hs:∀i x σ H H',i < n→Pv i σ H→J.p5 i H x H'→g x σ H' fun σ2 H2=>tb { D with nx:=Pv (i + 1),ct:=Pv (i + 1),bk:=D.nx } σ2 H2) (hd:∀σ H,Pv n σ H→D.nx σ H):
  ∃W:Nat→Nat→St→Hp→Prop,(∃m,W 0 m σ H)∧∀i m σ H,W i m σ H→
   (J.stop i H∧D.nx σ H)∨(J.go i H∧∃N:St→Hp→Prop,(∀σ' H',N σ' H'→∃m',m' < m∧W (i + 1) m' σ' H')∧∀x H',J.p5 i H x H'→g x σ H' fun σ2 H2=>tb { D with nx:=N,ct:=N,bk:=D.nx } σ2 H2):=by
 refine ⟨fun i m σ H=>m = n - i∧i≤n∧Pv i σ H,⟨n,by simp,Nat.zero_le _,h0⟩,?_⟩
 rintro i m σ H ⟨rfl,hi,p⟩
 by_cases hlt:i < n
 · exact .inr ⟨hgo i σ H hlt p,Pv (i + 1),fun σ' H' p'=>⟨n - (i + 1),by omega,rfl,hlt,p'⟩,fun x H' y=>hs i x σ H H' hlt p y⟩
 · have e:i = n:=by omega
   subst e
   exact .inl ⟨hst σ H p,hd σ H p⟩
end L2
namespace L2
open PySem PySem.Spec PyProof.Rows
section
variable {prog:Program} {w:World} {K:Type} [DecidableEq K] {knd:KeyKind prog w K} {A:Around} {E:Value→Shared→Prop} {s:Shared}
theorem Cz {it d:Addr} {i ep:Nat} {kvs:List (K × Value)} {k:K} {v:Value} {Q:Value→Shared→Prop} (hit:s.heap.IsKeyIter it d i kvs.length ep)
  (hm:s.heap.DictAt knd d kvs ep) (hx:kvs[i]? = some (k,v)) (hQ:∀key h',knd.is k key = true→h'.IsKeyIter it d (i + 1) kvs.length ep→Heap.SameBut it s.heap h'→Q key { s with heap:=h' }):
  wpAny (model prog w) A (Builtin.SmallTypes.nextOf (.ref it)) Q E s:=by
 obtain ⟨o,ho,hc,hd⟩:=id hit;obtain ⟨od,es,hod,hcd,qJ,hk,hp,hn⟩:=id hm
 unfold Builtin.SmallTypes.nextOf
 refine wpAny_bind (wpAny_callSpecial?_slot (name:=Str.ofString "__next__") hit.typeIs F.slot_dict_keyiterator_next (wpAny_call_entry F.slot_dict_keyiterator_next hit.typeIs F.entry_dict_keyiterator_next ?_ (F.args_dict_keyiterator_next_1 _)))
 refine wpAny_bind (wpAny_pure ?_);refine wpAny_bind (wpAny_bind ?_)
 first | (refine wpAny_bind (wpAny_typeNameOfWhole_keyiter hit.typeIs (wpAny_pure ?_));refine wpAny_bind (wpAny_fieldsOf ho hd ?_)) | (refine wpAny_bind (wpAny_typeNameOf_keyiter hit.typeIs (wpAny_pure ?_));refine wpAny_bind (wpAny_fieldsOf ho hd ?_))
 have own:Builtin.Dict_items.ownsTuple "dict_keyiterator" = false:=by decide
 simp only [own,Bool.false_eq_true,if_false]
 show wpAny _ _ (if (Value.ref d == Value.none) = true then _ else _) _ _ _
 rw [if_neg (fun z=>Bool.false_ne_true z:¬ ((Value.ref d == Value.none) = true))];refine wpAny_bind (wpAny_pure ?_)
 have sz:es.size = kvs.length:=by have:=hp.length;simpa using this
 refine wpAny_bind (wpAny_dictEntries hod qJ ?_);rw [if_neg (by rw [sz];simp)]
 refine wpAny_bind (wpAny_pure ?_);refine wpAny_bind (wpAny_dictEpoch hod qJ ?_)
 rw [if_neg (by simp)];refine wpAny_pure ?_
 have lt:i < kvs.length:=(List.getElem?_eq_some_iff.mp hx).1
 have lt':i < es.size:=by omega
 have kv:=hp.get? (e:=es[i]) (by simp [lt']) hx
 simp only [show ¬ ((i:Int) < 0) from by omega,if_false,Int.toNat_natCast,Array.getElem?_eq_getElem lt'];refine wpAny_bind ?_
 first | (refine wpAny_bind (wpAny_typeNameOfWhole_keyiter hit.typeIs (wpAny_pure ?_));refine wpAny_bind (wpAny_isOneOf_keyiter hit.typeIs ?_)) | (refine wpAny_bind (wpAny_typeNameOf_keyiter hit.typeIs (wpAny_pure ?_));refine wpAny_bind (wpAny_isOneOf_keyiter hit.typeIs ?_))
 show wpAny _ _ (setField (.ref it) 1 (rawInt ((i:Int) + 1)) >>= _) _ _ _
 refine wpAny_bind (wpAny_setField ho hd (by simp) ?_)
 have xy:(s.heap.update it (Obj.mapFields (·.setIfInBounds 1 (rawInt ((i:Int) + 1))))).IsKeyIter it d (i + 1) kvs.length ep:=⟨_,Heap.get?_update_self _ ho (Obj.isFreed_of_fields (Obj.data_mapFields hd _)),(Obj.cls_mapFields ..).trans hc,by rw [Obj.data_mapFields hd];simp [rawInt]⟩
 refine wpAny_bind (wpAny_holding (wpAny_bind (wpAny_isOneOf_keyiter (s:={ s with heap:=s.heap.update it (Obj.mapFields (·.setIfInBounds 1 (rawInt ((i:Int) + 1)))) }) xy.typeIs ?_)))
 exact wpAny_pure (wpAny_pure ⟨_,rfl,wpAny_pure (hQ _ _ kv.1 xy (Heap.SameBut.update ..))⟩)
theorem Eo {it d:Addr} {i ep:Nat} {kvs:List (K × Value)} {Q:Value→Shared→Prop} (hh:A.handled = none) (hit:s.heap.IsKeyIter it d i kvs.length ep)
  (hm:s.heap.DictAt knd d kvs ep) (hx:kvs[i]? = none) (hE:∀h' e,Heap.ExtBut it s.heap h'→(∃o,h'.get? e = some o∧o.cls = .type "StopIteration")→E (.ref e) { s with heap:=h' }):
  wpAny (model prog w) A (Builtin.SmallTypes.nextOf (.ref it)) Q E s:=by
 obtain ⟨o,ho,hc,hd⟩:=id hit;obtain ⟨od,es,hod,hcd,qJ,hk,hp,hn⟩:=id hm
 unfold Builtin.SmallTypes.nextOf
 refine wpAny_bind (wpAny_callSpecial?_slot (name:=Str.ofString "__next__") hit.typeIs F.slot_dict_keyiterator_next (wpAny_call_entry F.slot_dict_keyiterator_next hit.typeIs F.entry_dict_keyiterator_next ?_ (F.args_dict_keyiterator_next_1 _)))
 refine wpAny_bind (wpAny_pure ?_);refine wpAny_bind (wpAny_bind ?_)
 first | (refine wpAny_bind (wpAny_typeNameOfWhole_keyiter hit.typeIs (wpAny_pure ?_));refine wpAny_bind (wpAny_fieldsOf ho hd ?_)) | (refine wpAny_bind (wpAny_typeNameOf_keyiter hit.typeIs (wpAny_pure ?_));refine wpAny_bind (wpAny_fieldsOf ho hd ?_))
 have own:Builtin.Dict_items.ownsTuple "dict_keyiterator" = false:=by decide
 simp only [own,Bool.false_eq_true,if_false]
 show wpAny _ _ (if (Value.ref d == Value.none) = true then _ else _) _ _ _
 rw [if_neg (fun z=>Bool.false_ne_true z:¬ ((Value.ref d == Value.none) = true))];refine wpAny_bind (wpAny_pure ?_)
 have sz:es.size = kvs.length:=by have:=hp.length;simpa using this
 refine wpAny_bind (wpAny_dictEntries hod qJ ?_);rw [if_neg (by rw [sz];simp)]
 refine wpAny_bind (wpAny_pure ?_);refine wpAny_bind (wpAny_dictEpoch hod qJ ?_)
 rw [if_neg (by simp)];refine wpAny_pure ?_
 have ge:es.size≤i:=by rw [sz];simpa using hx
 simp only [show ¬ ((i:Int) < 0) from by omega,if_false,Int.toNat_natCast,Array.getElem?_eq_none ge];refine wpAny_bind ?_
 first | (refine wpAny_bind (wpAny_typeNameOfWhole_keyiter hit.typeIs (wpAny_pure ?_));show wpAny _ _ (setField (.ref it) 0 .none >>= _) _ _ _) | (refine wpAny_bind (wpAny_typeNameOf_keyiter hit.typeIs (wpAny_pure ?_));show wpAny _ _ (setField (.ref it) 0 .none >>= _) _ _ _)
 refine wpAny_bind (wpAny_setField ho hd (by simp) ?_);show wpAny _ _ (newExc (.type "StopIteration") [] >>= _) _ _ _
 refine wpAny_bind ?_;simp only [newExc,newTuple]
 refine wpAny_bind (wpAny_newObj_type ?_ (by size_fits));refine wpAny_bind (m:=firstArgMember _ _) (wpAny_of_eq (a:=Value.none) (by first | rfl | (simp only [firstArgMember];rfl)) ?_)
 refine wpAny_newObj_type ?_ (by size_fits);simp only [raiseNew]
 refine wpAny_bind (wpAny_handled ?_);rw [show A.in1.handled = none from hh]
 exact wpAny_bind (wpAny_pure (wpAny_throw (hE _ _ (((Heap.SameBut.update ..).extBut.push _).push _) ⟨_,Heap.get?_push_size _ rfl,rfl⟩)))
theorem CA {it d:Addr} {i ep:Nat} {kvs:List (K × Value)} {k:K} {v:Value} {Q:Value→Shared→Prop} (hit:s.heap.IsValIter it d i kvs.length ep)
  (hm:s.heap.DictAt knd d kvs ep) (hx:kvs[i]? = some (k,v)) (hQ:∀h',h'.IsValIter it d (i + 1) kvs.length ep→Heap.SameBut it s.heap h'→Q v { s with heap:=h' }):
  wpAny (model prog w) A (Builtin.SmallTypes.nextOf (.ref it)) Q E s:=by
 obtain ⟨o,ho,hc,hd⟩:=id hit;obtain ⟨od,es,hod,hcd,qJ,hk,hp,hn⟩:=id hm
 unfold Builtin.SmallTypes.nextOf
 refine wpAny_bind (wpAny_callSpecial?_slot (name:=Str.ofString "__next__") hit.typeIs F.slot_dict_valueiterator_next (wpAny_call_entry F.slot_dict_valueiterator_next hit.typeIs F.entry_dict_valueiterator_next ?_ (F.args_dict_valueiterator_next_1 _)))
 refine wpAny_bind (wpAny_pure ?_);refine wpAny_bind (wpAny_bind ?_)
 first | (refine wpAny_bind (wpAny_typeNameOfWhole_valiter hit.typeIs (wpAny_pure ?_));refine wpAny_bind (wpAny_fieldsOf ho hd ?_)) | (refine wpAny_bind (wpAny_typeNameOf_valiter hit.typeIs (wpAny_pure ?_));refine wpAny_bind (wpAny_fieldsOf ho hd ?_))
 have own:Builtin.Dict_items.ownsTuple "dict_valueiterator" = false:=by decide
 simp only [own,Bool.false_eq_true,if_false]
 show wpAny _ _ (if (Value.ref d == Value.none) = true then _ else _) _ _ _
 rw [if_neg (fun z=>Bool.false_ne_true z:¬ ((Value.ref d == Value.none) = true))];refine wpAny_bind (wpAny_pure ?_)
 have sz:es.size = kvs.length:=by have:=hp.length;simpa using this
 refine wpAny_bind (wpAny_dictEntries hod qJ ?_);rw [if_neg (by rw [sz];simp)]
 refine wpAny_bind (wpAny_pure ?_);refine wpAny_bind (wpAny_dictEpoch hod qJ ?_)
 rw [if_neg (by simp)];refine wpAny_pure ?_
 have lt:i < kvs.length:=(List.getElem?_eq_some_iff.mp hx).1
 have lt':i < es.size:=by omega
 have kv:=hp.get? (e:=es[i]) (by simp [lt']) hx
 simp only [show ¬ ((i:Int) < 0) from by omega,if_false,Int.toNat_natCast,Array.getElem?_eq_getElem lt'];refine wpAny_bind ?_
 first | (refine wpAny_bind (wpAny_typeNameOfWhole_valiter hit.typeIs (wpAny_pure ?_));refine wpAny_bind (wpAny_isOneOf_valiter hit.typeIs ?_)) | (refine wpAny_bind (wpAny_typeNameOf_valiter hit.typeIs (wpAny_pure ?_));refine wpAny_bind (wpAny_isOneOf_valiter hit.typeIs ?_))
 show wpAny _ _ (setField (.ref it) 1 (rawInt ((i:Int) + 1)) >>= _) _ _ _
 refine wpAny_bind (wpAny_setField ho hd (by simp) ?_)
 have xy:(s.heap.update it (Obj.mapFields (·.setIfInBounds 1 (rawInt ((i:Int) + 1))))).IsValIter it d (i + 1) kvs.length ep:=⟨_,Heap.get?_update_self _ ho (Obj.isFreed_of_fields (Obj.data_mapFields hd _)),(Obj.cls_mapFields ..).trans hc,by rw [Obj.data_mapFields hd];simp [rawInt]⟩
 refine wpAny_bind (wpAny_holding (wpAny_bind (wpAny_isOneOf_valiter (s:={ s with heap:=s.heap.update it (Obj.mapFields (·.setIfInBounds 1 (rawInt ((i:Int) + 1)))) }) xy.typeIs ?_)))
 refine wpAny_bind (wpAny_isOneOf_valiter (s:={ s with heap:=s.heap.update it (Obj.mapFields (·.setIfInBounds 1 (rawInt ((i:Int) + 1)))) }) xy.typeIs ?_)
 exact wpAny_pure (wpAny_pure ⟨_,rfl,wpAny_pure (kv.2 ▸ hQ _ xy (Heap.SameBut.update ..))⟩)
theorem Ep {it d:Addr} {i ep:Nat} {kvs:List (K × Value)} {Q:Value→Shared→Prop} (hh:A.handled = none) (hit:s.heap.IsValIter it d i kvs.length ep)
  (hm:s.heap.DictAt knd d kvs ep) (hx:kvs[i]? = none) (hE:∀h' e,Heap.ExtBut it s.heap h'→(∃o,h'.get? e = some o∧o.cls = .type "StopIteration")→E (.ref e) { s with heap:=h' }):
  wpAny (model prog w) A (Builtin.SmallTypes.nextOf (.ref it)) Q E s:=by
 obtain ⟨o,ho,hc,hd⟩:=id hit;obtain ⟨od,es,hod,hcd,qJ,hk,hp,hn⟩:=id hm
 unfold Builtin.SmallTypes.nextOf
 refine wpAny_bind (wpAny_callSpecial?_slot (name:=Str.ofString "__next__") hit.typeIs F.slot_dict_valueiterator_next (wpAny_call_entry F.slot_dict_valueiterator_next hit.typeIs F.entry_dict_valueiterator_next ?_ (F.args_dict_valueiterator_next_1 _)))
 refine wpAny_bind (wpAny_pure ?_);refine wpAny_bind (wpAny_bind ?_)
 first | (refine wpAny_bind (wpAny_typeNameOfWhole_valiter hit.typeIs (wpAny_pure ?_));refine wpAny_bind (wpAny_fieldsOf ho hd ?_)) | (refine wpAny_bind (wpAny_typeNameOf_valiter hit.typeIs (wpAny_pure ?_));refine wpAny_bind (wpAny_fieldsOf ho hd ?_))
 have own:Builtin.Dict_items.ownsTuple "dict_valueiterator" = false:=by decide
 simp only [own,Bool.false_eq_true,if_false]
 show wpAny _ _ (if (Value.ref d == Value.none) = true then _ else _) _ _ _
 rw [if_neg (fun z=>Bool.false_ne_true z:¬ ((Value.ref d == Value.none) = true))];refine wpAny_bind (wpAny_pure ?_)
 have sz:es.size = kvs.length:=by have:=hp.length;simpa using this
 refine wpAny_bind (wpAny_dictEntries hod qJ ?_);rw [if_neg (by rw [sz];simp)]
 refine wpAny_bind (wpAny_pure ?_);refine wpAny_bind (wpAny_dictEpoch hod qJ ?_)
 rw [if_neg (by simp)];refine wpAny_pure ?_
 have ge:es.size≤i:=by rw [sz];simpa using hx
 simp only [show ¬ ((i:Int) < 0) from by omega,if_false,Int.toNat_natCast,Array.getElem?_eq_none ge];refine wpAny_bind ?_
 first | (refine wpAny_bind (wpAny_typeNameOfWhole_valiter hit.typeIs (wpAny_pure ?_));show wpAny _ _ (setField (.ref it) 0 .none >>= _) _ _ _) | (refine wpAny_bind (wpAny_typeNameOf_valiter hit.typeIs (wpAny_pure ?_));show wpAny _ _ (setField (.ref it) 0 .none >>= _) _ _ _)
 refine wpAny_bind (wpAny_setField ho hd (by simp) ?_);show wpAny _ _ (newExc (.type "StopIteration") [] >>= _) _ _ _
 refine wpAny_bind ?_;simp only [newExc,newTuple]
 refine wpAny_bind (wpAny_newObj_type ?_ (by size_fits));refine wpAny_bind (m:=firstArgMember _ _) (wpAny_of_eq (a:=Value.none) (by first | rfl | (simp only [firstArgMember];rfl)) ?_)
 refine wpAny_newObj_type ?_ (by size_fits);simp only [raiseNew]
 refine wpAny_bind (wpAny_handled ?_);rw [show A.in1.handled = none from hh]
 exact wpAny_bind (wpAny_pure (wpAny_throw (hE _ _ (((Heap.SameBut.update ..).extBut.push _).push _) ⟨_,Heap.get?_push_size _ rfl,rfl⟩)))
end
end L2
namespace L2
open PySem PySem.Spec PyProof.Rows
structure qK (P:Program) (w:World) (K:PySem.W.Frag) (S:Hp→Prop) (xs:List V) (it l:Addr) (tn:Nat→Heap→Prop) (src:Heap→Prop):Prop where
 obj:∀i h,tn i h→∃o,h.get? it = some o∧∀v,o.data ≠ .cell v
 keep:∀i h h',tn i h→(∀o,h.get? it = some o→h'.get? it = some o)→tn i h'
 nt:∀h h',src h→(∀o,h.get? l = some o→h'.get? l = some o)→src h'
 yr:∀(X:Cx),X.prog = P→X.w = w→X.K = K→∀(pins:List (Addr × Obj)) (σ:St) (H:Hp) (s:Shared),Inv X pins σ H s→S H→src s.heap
 item:∀(A:Around) (i:Nat) (x:V) (s:Shared) (Q:Value→Shared→Prop) (E:Value→Shared→Prop),tn i s.heap→src s.heap→xs[i]? = some x→(∀u h',RelV x u→tn (i + 1) h'→Heap.SameBut it s.heap h'→Q u { s with heap:=h' })→wpAny (model P w) A (Builtin.SmallTypes.nextOf (.ref it)) Q E s
 done:∀(A:Around) (i:Nat) (s:Shared) (Q:Value→Shared→Prop) (E:Value→Shared→Prop),A.handled = none→tn i s.heap→src s.heap→xs.length≤i→(∀h' e,Heap.ExtBut it s.heap h'→(∃o,h'.get? e = some o∧o.cls = .type "StopIteration")→E (.ref e) { s with heap:=h' })→wpAny (model P w) A (Builtin.SmallTypes.nextOf (.ref it)) Q E s
theorem Ii {P:Program} {w:World} {K:PySem.W.Frag} {xs:List V} {it l:Addr}:qK P w K (fun H=>av K H l xs) xs it l (fun i h=>h.IsListIter it l i) (fun h=>∃its:List Value,Vals xs its∧h.IsList l its.toArray) where
 obj:=fun i h ⟨o,e,c,d⟩=>⟨o,e,fun v z=>by rw [d] at z;cases z⟩
 keep:=fun i h h' st k=>st.at k
 nt:=fun h h' ⟨its,r,hl⟩ k=>⟨its,r,hl.at k⟩
 yr:=fun X hP hw hK pins σ H s I h=>by
  subst hP hw hK
  obtain ⟨its,rv,p,_⟩:=I.list h
  exact ⟨its,rv,p.isList⟩
 item:=fun A i x s Q E st ⟨its,r,hl⟩ hx hQ=>by
  obtain ⟨u,hu,ru⟩:=r.get hx
  exact wpAny_nextOf_list_item st hl (by simpa using hu) fun h' st' sb=>hQ u h' ru st' sb
 done:=fun A i s Q E hh st ⟨its,r,hl⟩ hx hE=>wpAny_nextOf_list_end hh st hl (by have:=r.length;simp;omega) hE
theorem Ij {P:Program} {w:World} {K:PySem.W.Frag} {kvs:List (Key × V)} {it d:Addr} {o:Obj} {es:Array DictEntry} {ep:Nat} (hd:o.data = .dict es ep):
  qK P w K (fun H=>i9 H d o kvs) (kvs.map fun p=>kV p.1) it d (fun i h=>h.IsKeyIter it d i kvs.length ep) (fun h=>∃vs,KV kvs vs∧h.DictAt (bK P w) d vs ep) where
 obj:=fun i h ⟨o,e,c,d⟩=>⟨o,e,fun v z=>by rw [d] at z;cases z⟩
 keep:=fun i h h' st k=>st.at k
 nt:=fun h h' ⟨vs,r,hl⟩ k=>⟨vs,r,hl.at' k⟩
 yr:=fun X hP hw hK pins σ H s I h=>by
  subst hP hw hK
  obtain ⟨ho,_,_,vs,u_,r,da⟩:=I.ki h
  cases sO da ho hd
  exact ⟨vs,r,da⟩
 item:=fun A i x s Q E st ⟨vs,r,da⟩ hx hQ=>by
  rw [List.getElem?_map] at hx
  obtain ⟨p,hp,rfl⟩:=Option.map_eq_some_iff.mp hx
  obtain ⟨q,hq,ek,rq⟩:=oK r hp
  obtain ⟨qk,qv⟩:=q
  have hl:kvs.length = vs.length:=r.length
  rw [hl] at st
  exact Cz st da hq fun key h' hk st' sb=>hQ key h' (by rw [ek];exact AS hk) (by rw [hl];exact st') sb
 done:=fun A i s Q E hh st ⟨vs,r,da⟩ hx hE=>by
  have hl:kvs.length = vs.length:=r.length
  rw [List.length_map] at hx
  rw [hl] at st
  exact Eo hh st da (by rw [List.getElem?_eq_none];omega) hE
theorem Ik {P:Program} {w:World} {K:PySem.W.Frag} {kvs:List (Key × V)} {it d:Addr} {o:Obj} {es:Array DictEntry} {ep:Nat} (hd:o.data = .dict es ep):
  qK P w K (fun H=>i9 H d o kvs) (kvs.map fun p=>p.2) it d (fun i h=>h.IsValIter it d i kvs.length ep) (fun h=>∃vs,KV kvs vs∧h.DictAt (bK P w) d vs ep) where
 obj:=fun i h ⟨o,e,c,d⟩=>⟨o,e,fun v z=>by rw [d] at z;cases z⟩
 keep:=fun i h h' st k=>st.at k
 nt:=fun h h' ⟨vs,r,hl⟩ k=>⟨vs,r,hl.at' k⟩
 yr:=fun X hP hw hK pins σ H s I h=>by
  subst hP hw hK
  obtain ⟨ho,_,_,vs,u_,r,da⟩:=I.ki h
  cases sO da ho hd
  exact ⟨vs,r,da⟩
 item:=fun A i x s Q E st ⟨vs,r,da⟩ hx hQ=>by
  rw [List.getElem?_map] at hx
  obtain ⟨p,hp,rfl⟩:=Option.map_eq_some_iff.mp hx
  obtain ⟨q,hq,ek,rq⟩:=oK r hp
  obtain ⟨qk,qv⟩:=q
  have hl:kvs.length = vs.length:=r.length
  rw [hl] at st
  exact CA st da hq fun h' st' sb=>hQ qv h' rq (by rw [hl];exact st') sb
 done:=fun A i s Q E hh st ⟨vs,r,da⟩ hx hE=>by
  have hl:kvs.length = vs.length:=r.length
  rw [List.length_map] at hx
  rw [hl] at st
  exact Ep hh st da (by rw [List.getElem?_eq_none];omega) hE
section
variable {P:Program} {w:World} {A:Around} {E:Value→Shared→Prop} {s:Shared} {K:PySem.W.Frag} {S1 S2:Hp→Prop} {xs ys:List V} {z TI TO i1 i2 l1 l2:Addr} {t1 t2:Nat→Heap→Prop} {c1 c2:Heap→Prop} {i:Nat}
theorem FZ {x y:V} {a b:Value} {Q:Value→Shared→Prop} (D:ZipApart z TI TO i1 i2 l1 l2) (C1:qK P w K S1 xs i1 l1 t1 c1) (C2:qK P w K S2 ys i2 l2 t2 c2)
  (hz:IsZip s.heap z TI TO .none) (hTI:IsPair s.heap TI (.ref i1) (.ref i2)) (hTO:IsPair s.heap TO a b) (h1:t1 i s.heap) (h2:t2 i s.heap) (hc1:c1 s.heap) (hc2:c2 s.heap) (hx:xs[i]? = some x) (hy:ys[i]? = some y)
  (hQ:∀u v h',RelV x u→RelV y v→IsZip h' z TI TO (rawInt s.heap.objs.size)→IsPair h' TO u v→t1 (i + 1) h'→t2 (i + 1) h'→IsPair h' s.heap.objs.size u v→h'.objs.size = s.heap.objs.size + 1→
    (∀c o,c ≠ z→c ≠ TO→c ≠ i1→c ≠ i2→s.heap.get? c = some o→h'.get? c = some o)→Q (.ref s.heap.objs.size) { s with heap:=h' }):
  wpAny (model P w) A (Builtin.«zip.__next__» ⟨[.ref z],[]⟩) (fun fin s'=>∃v,fin = .done (.ret v)∧Q v s') E s:=by
 show wpAny _ _ (field (.ref z) 2 >>= _) _ _ _
 refine wpAny_bind (wpAny_field hz rfl (x:= .bool false) rfl ?_);show wpAny _ _ (field (.ref z) 3 >>= _) _ _ _
 refine wpAny_bind (wpAny_field hz rfl (x:= .ref TI) rfl ?_);refine wpAny_bind (wpAny_seqItems hTI rfl ?_)
 show wpAny _ _ (Builtin.SmallTypes.ownedTupleIsFree (.ref z) >>= _) _ _ _
 refine wpAny_bind ?_;unfold Builtin.SmallTypes.ownedTupleIsFree
 refine wpAny_bind (wpAny_field hz rfl (x:= .none) rfl (wpAny_pure ?_));simp only [if_true]
 refine wpAny_bind (wpAny_rule ?_);refine wpAny_bind (wpAny_field hz rfl (x:= .ref TO) rfl ?_)
 refine wpAny_bind (wpAny_setField_rec hz (by simp) fun hA yt sA=>?_)
 replace yt:IsZip hA z TI TO .ellipsis:=yt
 refine wpAny_bind ?_;simp only [List.zipIdx_cons,List.zipIdx_nil,List.forIn_cons,List.forIn_nil]
 refine wpAny_bind (wpAny_bind (wpAny_onRaise ?_));show wpAny _ _ (Builtin.SmallTypes.nextOf (.ref i1) >>= _) _ _ _
 refine wpAny_bind (C1.item _ i x { s with heap:=hA } _ _ (C1.keep _ _ _ h1 fun o e=>sA.extBut _ _ D.i1z e) (C1.nt _ _ hc1 fun o e=>sA.extBut _ _ D.l1z e) hx fun u hB ru Oz sB=>wpAny_pure ?_)
 have F0:IsPair hB TO a b:=sB.extBut _ _ D.TOi1 (sA.extBut _ _ D.TOz hTO)
 refine wpAny_bind (wpAny_seqItems F0 rfl ?_);refine wpAny_bind (wpAny_updateSeq_pair F0 fun hC Jt sC=>?_)
 replace Jt:IsPair hC TO u b:=Jt
 refine wpAny_bind (wpAny_letGo (wpAny_pure ?_));refine wpAny_bind (wpAny_bind (wpAny_onRaise ?_))
 show wpAny _ _ (Builtin.SmallTypes.nextOf (.ref i2) >>= _) _ _ _
 refine wpAny_bind (C2.item _ i y { s with heap:=hC } _ _ (C2.keep _ _ _ h2 fun o e=>sC.extBut _ _ D.TOi2.symm (sB.extBut _ _ D.i12.symm (sA.extBut _ _ D.i2z e))) (C2.nt _ _ hc2 fun o e=>sC.extBut _ _ D.l2TO (sB.extBut _ _ D.l2i1 (sA.extBut _ _ D.l2z e))) hy fun v hD rv RU sD=>wpAny_pure ?_)
 have OA:IsPair hD TO u b:=sD.extBut _ _ D.TOi2 Jt
 refine wpAny_bind (wpAny_seqItems OA rfl ?_);refine wpAny_bind (wpAny_updateSeq_pair OA fun hE Ju sE=>?_)
 replace Ju:IsPair hE TO u v:=Ju
 refine wpAny_bind (wpAny_letGo (wpAny_pure (wpAny_pure ?_)));refine wpAny_bind (wpAny_seqItems Ju rfl ?_)
 refine wpAny_bind (wpAny_newTuple ?_)
 have sz:hE.objs.size = s.heap.objs.size:=by rw [sE.1,sD.1,sC.1,sB.1,sA.1]
 have zE:IsZip hE z TI TO .ellipsis:=sE.extBut _ _ D.TOz.symm (sD.extBut _ _ D.i2z.symm (sC.extBut _ _ D.TOz.symm (sB.extBut _ _ D.i1z.symm yt)))
 have kE:∀c o,c ≠ z→c ≠ TO→c ≠ i1→c ≠ i2→s.heap.get? c = some o→hE.get? c = some o:=fun c o c1 c2 c3 c4 e=>sE.extBut _ _ c2 (sD.extBut _ _ c4 (sC.extBut _ _ c2 (sB.extBut _ _ c3 (sA.extBut _ _ c1 e))))
 have RV:t1 (i + 1) hE:=C1.keep _ _ _ Oz fun o e=>sE.extBut _ _ D.TOi1.symm (sD.extBut _ _ D.i12 (sC.extBut _ _ D.TOi1.symm e))
 have RW:t2 (i + 1) hE:=C2.keep _ _ _ RU fun o e=>sE.extBut _ _ D.TOi2.symm e
 have OB:z < hE.objs.size:=Heap.lt_size zE
 show wpAny _ _ (Builtin.SmallTypes.ownedTupleHandOut (.ref z) (.ref hE.objs.size) >>= _) _ _ _
 refine wpAny_bind ?_;unfold Builtin.SmallTypes.ownedTupleHandOut
 have zF:IsZip (hE.push { cls:= .type "tuple",data:= .seq #[u,v] }) z TI TO .ellipsis:=Heap.get?_push_of_some _ zE
 refine wpAny_bind (wpAny_setField_rec zF (by simp) fun hG zG sG=>?_)
 replace zG:IsZip hG z TI TO (rawInt hE.objs.size):=zG
 refine wpAny_setField_rec zG (by simp) fun hI zI sI=>?_
 replace zI:IsZip hI z TI TO (rawInt hE.objs.size):=zI
 have up:∀c o,c ≠ z→hE.get? c = some o→hI.get? c = some o:=fun c o c1 e=>sI.extBut _ _ c1 (sG.extBut _ _ c1 (Heap.get?_push_of_some _ e))
 have OC:IsPair hI hE.objs.size u v:=sI.extBut _ _ (Nat.ne_of_gt OB) (sG.extBut _ _ (Nat.ne_of_gt OB) (Heap.get?_push_size _ rfl))
 have OD:hI.objs.size = hE.objs.size + 1:=by rw [sI.1,sG.1,Heap.size_push]
 rw [sz] at zI OC OD
 refine wpAny_pure ⟨_,rfl,?_⟩
 show Q (.ref hE.objs.size) _
 rw [sz]
 exact hQ u v hI ru rv zI (up _ _ D.TOz Ju) (C1.keep _ _ _ RV fun o e=>up _ o D.i1z e) (C2.keep _ _ _ RW fun o e=>up _ o D.i2z e) OC OD fun c o c1 c2 c3 c4 e=>up c o c1 (kE c o c1 c2 c3 c4 e)
theorem Il {a b:Value} {Q:Fin→Shared→Prop} (hh:A.handled = none) (D:ZipApart z TI TO i1 i2 l1 l2) (C1:qK P w K S1 xs i1 l1 t1 c1) (C2:qK P w K S2 ys i2 l2 t2 c2)
  (hz:IsZip s.heap z TI TO .none) (hTI:IsPair s.heap TI (.ref i1) (.ref i2)) (hTO:IsPair s.heap TO a b) (h1:t1 i s.heap) (h2:t2 i s.heap) (hc1:c1 s.heap) (hc2:c2 s.heap) (hend:xs.length≤i∨ys.length≤i)
  (hE:∀h' e,(∀c o,c ≠ z→c ≠ TO→c ≠ i1→c ≠ i2→s.heap.get? c = some o→h'.get? c = some o)→(∃o,h'.get? e = some o∧o.cls = .type "StopIteration")→E (.ref e) { s with heap:=h' }):
  wpAny (model P w) A (Builtin.«zip.__next__» ⟨[.ref z],[]⟩) Q E s:=by
 show wpAny _ _ (field (.ref z) 2 >>= _) _ _ _
 refine wpAny_bind (wpAny_field hz rfl (x:= .bool false) rfl ?_);show wpAny _ _ (field (.ref z) 3 >>= _) _ _ _
 refine wpAny_bind (wpAny_field hz rfl (x:= .ref TI) rfl ?_);refine wpAny_bind (wpAny_seqItems hTI rfl ?_)
 show wpAny _ _ (Builtin.SmallTypes.ownedTupleIsFree (.ref z) >>= _) _ _ _
 refine wpAny_bind ?_;unfold Builtin.SmallTypes.ownedTupleIsFree
 refine wpAny_bind (wpAny_field hz rfl (x:= .none) rfl (wpAny_pure ?_));simp only [if_true]
 refine wpAny_bind (wpAny_rule ?_);refine wpAny_bind (wpAny_field hz rfl (x:= .ref TO) rfl ?_)
 refine wpAny_bind (wpAny_setField_rec hz (by simp) fun hA yt sA=>?_)
 replace yt:IsZip hA z TI TO .ellipsis:=yt
 refine wpAny_bind ?_;simp only [List.zipIdx_cons,List.zipIdx_nil,List.forIn_cons,List.forIn_nil]
 refine wpAny_bind (wpAny_bind (wpAny_onRaise ?_));show wpAny _ _ (Builtin.SmallTypes.nextOf (.ref i1) >>= _) _ _ _
 have k1:=C1.keep _ _ _ h1 fun o e=>sA.extBut _ _ D.i1z e
 have k2:=C1.nt _ _ hc1 fun o e=>sA.extBut _ _ D.l1z e
 by_cases hx:xs.length≤i
 · refine wpAny_bind (C1.done _ i { s with heap:=hA } _ _ hh k1 k2 hx fun hB e sB he=>?_)
   obtain ⟨oe,vK,hce⟩:=he
   have zB:IsZip hB z TI TO .ellipsis:=sB _ _ D.i1z.symm yt
   have ez:e ≠ z:=fun x=>by subst x;rw [zB] at vK;cases vK;simp at hce
   exact wpAny_setField_rec zB (by simp) fun hC _ sC=>hE hC e (fun c o c1 _ c3 _ x=>sC.extBut _ _ c1 (sB _ _ c3 (sA.extBut _ _ c1 x))) ⟨oe,sC.extBut _ _ ez vK,hce⟩
 · have hy:ys.length≤i:=hend.resolve_left hx
   refine wpAny_bind (C1.item _ i xs[i] { s with heap:=hA } _ _ k1 k2 (List.getElem?_eq_getElem (by omega)) fun u hB ru Oz sB=>wpAny_pure ?_)
   have F0:IsPair hB TO a b:=sB.extBut _ _ D.TOi1 (sA.extBut _ _ D.TOz hTO)
   refine wpAny_bind (wpAny_seqItems F0 rfl ?_);refine wpAny_bind (wpAny_updateSeq_pair F0 fun hC Jt sC=>?_)
   refine wpAny_bind (wpAny_letGo (wpAny_pure ?_));refine wpAny_bind (wpAny_bind (wpAny_onRaise ?_))
   show wpAny _ _ (Builtin.SmallTypes.nextOf (.ref i2) >>= _) _ _ _
   refine wpAny_bind (C2.done _ i { s with heap:=hC } _ _ hh (C2.keep _ _ _ h2 fun o e=>sC.extBut _ _ D.TOi2.symm (sB.extBut _ _ D.i12.symm (sA.extBut _ _ D.i2z e))) (C2.nt _ _ hc2 fun o e=>sC.extBut _ _ D.l2TO (sB.extBut _ _ D.l2i1 (sA.extBut _ _ D.l2z e))) hy fun hD e sD he=>?_)
   obtain ⟨oe,vK,hce⟩:=he
   have zD:IsZip hD z TI TO .ellipsis:=sD _ _ D.i2z.symm (sC.extBut _ _ D.TOz.symm (sB.extBut _ _ D.i1z.symm yt))
   have ez:e ≠ z:=fun x=>by subst x;rw [zD] at vK;cases vK;simp at hce
   exact wpAny_setField_rec zD (by simp) fun hF _ sF=>hE hF e (fun c o c1 c2 c3 c4 x=>sF.extBut _ _ c1 (sD _ _ c4 (sC.extBut _ _ c2 (sB.extBut _ _ c3 (sA.extBut _ _ c1 x))))) ⟨oe,sF.extBut _ _ ez vK,hce⟩
end
def Mb (S1 S2:Hp→Prop) (xs ys:List V):It:=
 ⟨fun i H=>S1 H∧S2 H∧i < xs.length∧i < ys.length,fun i H v H'=>∃p x y,H p = none∧v = .ref p∧H' = upd H p (.tup [x,y])∧xs[i]? = some x∧ys[i]? = some y,fun i H=>S1 H∧S2 H∧(xs.length≤i∨ys.length≤i)⟩
theorem F_ {P:Program} {w:World} {K:PySem.W.Frag} {elts:List Expr} {kk:Nat} {pos:Pos} {S1 S2:Hp→Prop} {xs ys:List V} {z TI TO i1 i2 l1 l2:Addr} {t1 t2:Nat→Heap→Prop} {c1 c2:Heap→Prop} (D:ZipApart z TI TO i1 i2 l1 l2)
  (C1:qK P w K S1 xs i1 l1 t1 c1) (C2:qK P w K S2 ys i2 l2 t2 c2):
  Turn P w K (.Tuple elts kk pos) (Mb S1 S2 xs ys) [z,TI,TO,i1,i2] z (fun i h=>IsZip h z TI TO .none∧IsPair h TI (.ref i1) (.ref i2)∧(∃a b,IsPair h TO a b)∧t1 i h∧t2 i h) where
 mem:=by simp
 obj:=fun i h st b hb=>by
  obtain ⟨hz,hTI,⟨a,b',hTO⟩,h1,h2⟩:=st
  have hb':b = z∨b = TI∨b = TO∨b = i1∨b = i2:=by simpa using hb
  rcases hb' with rfl | rfl | rfl | rfl | rfl
  · exact ⟨_,hz,fun v q=>by cases q⟩
  · exact ⟨_,hTI,fun v q=>by cases q⟩
  · exact ⟨_,hTO,fun v q=>by cases q⟩
  · exact C1.obj i h h1
  · exact C2.obj i h h2
 keep:=fun i h h' st k=>by
  obtain ⟨hz,hTI,⟨a,b',hTO⟩,h1,h2⟩:=st
  exact ⟨k z (by simp) _ hz,k TI (by simp) _ hTI,⟨a,b',k TO (by simp) _ hTO⟩,C1.keep _ _ _ h1 fun o e=>k i1 (by simp) o e,C2.keep _ _ _ h2 fun o e=>k i2 (by simp) o e⟩
 item:=by
  intro X hP hw hK hc i pins s σ H E I hf st hg
  subst hP hw hK
  obtain ⟨hz,hTI,⟨a,b,hTO⟩,h1,h2⟩:=st
  obtain ⟨g1,g2,lx,ly⟩:=hg
  have hT:s.TypeIs (.ref z) "zip":=⟨_,hz,rfl⟩
  unfold pyNext
  refine wpAny_bind (wpAny_attempt (wpAny_callSpecial?_slot (name:=Str.ofString "__next__") hT F.slot_zip_next (wpAny_call_entry F.slot_zip_next hT F.entry_zip_next
   (FZ D C1 C2 hz hTI hTO h1 h2 (C1.yr X rfl rfl rfl pins σ H s I g1) (C2.yr X rfl rfl rfl pins σ H s I g2) (List.getElem?_eq_getElem lx) (List.getElem?_eq_getElem ly) fun u u2 h' ru RX a1 a2 a3 a4 a5 a6 hk=>wpAny_pure ?_) (F.args_zip_next_1 _))))
  refine ⟨_,rfl,wpAny_letOwnedTupleGo_zip (s:={ s with heap:=h' }) a1 fun h'' b1 hs=>?_⟩
  have RY:s.heap.objs.size ≠ z:=Nat.ne_of_gt (Heap.lt_size hz)
  have nq:∀c o,c ≠ z→c ≠ TO→c ≠ i1→c ≠ i2→s.heap.get? c = some o→h''.get? c = some o:=fun c o c1 c2 c3 c4 e=>hs.extBut _ _ c1 (hk c o c1 c2 c3 c4 e)
  have hn:=I.fresh
  have nf:∀b u,H b = some u→b ≠ z∧b ≠ TO∧b ≠ i1∧b ≠ i2:=fun b u e=>by
   have g:∀c∈[z,TI,TO,i1,i2],b ≠ c:=fun c hc q=>by
    have:=(hf c hc).1
    rw [← q,e] at this
    cases this
   exact ⟨g z (by simp),g TO (by simp),g i1 (by simp),g i2 (by simp)⟩
  have ou:∀c,c ∉ [z,TI,TO,i1,i2]→c ≠ z∧c ≠ TO∧c ≠ i1∧c ≠ i2:=fun c hc=>⟨fun q=>hc (by simp [q]),fun q=>hc (by simp [q]),fun q=>hc (by simp [q]),fun q=>hc (by simp [q])⟩
  have Q9:IsPair h'' s.heap.objs.size u u2:=hs.extBut _ _ RY a5
  have hok:ee X.prog X.w (upd H s.heap.objs.size (.tup [xs[i],ys[i]])) h'':=fun b ob e=>by
   by_cases hb:b = s.heap.objs.size
   · subst hb
     rw [af] at e
     cases e
     exact ⟨by show 2≤sizeLine;decide,[u,u2], .cons ru (.cons RX .nil),_,Q9,rfl,0,rfl⟩
   · rw [ao hb] at e
     refine (I.hok b ob e).stay (fun c v FY q=>?_) (fun c q=>by rw [ao (ay q hn)];exact q) fun c zs q=>by rw [ao (ay q hn)];exact q
     rcases FY with r | r
     · obtain ⟨n1,n2,n3,n4⟩:=nf b ob e
       rw [r]
       rw [r] at q
       exact nq b v n1 n2 n3 n4 q
     · obtain ⟨n1,n2,n3,n4⟩:=nf c _ r
       exact nq c v n1 n2 n3 n4 q
  have I2:Inv X pins σ (upd H s.heap.objs.size (.tup [xs[i],ys[i]])) { s with heap:=h'',gens:=s.gens,drawn:=s.drawn,toks:=s.toks }:=by
   refine I.step (ch:=[z,TI,TO,i1,i2]) (fun b hb=>⟨(hf b hb).2.2.2.1,(hf b hb).2.1,(hf b hb).2.2.2.2.1,(hf b hb).2.2.2.2.2⟩) (fun b o _ _ hc' e _=>?_) (fun b o _ _ hc' e _=>?_) (fun b o _ e n=>?_) (fun b o hc' e=>?_)
    (fun b zs q=>by rw [ao (ay q hn)];exact q) (fun b o zs q=>by rw [ao (ay q hn)];exact q) (fun b ps q=>⟨#[],by rw [ao (ay q hn),q];simp⟩) (fun m hm=>?_) hok I.bare
   · obtain ⟨n1,n2,n3,n4⟩:=ou b hc'
     exact nq b o n1 n2 n3 n4 e
   · obtain ⟨n1,n2,n3,n4⟩:=ou b hc'
     exact ⟨o.slots,nq b o n1 n2 n3 n4 e⟩
   · rw [ao (Nat.ne_of_lt (Heap.lt_size e))]
     exact n
   · obtain ⟨n1,n2,n3,n4⟩:=ou b hc'
     exact ⟨o,nq b o n1 n2 n3 n4 e⟩
   · obtain ⟨o,es,ep,ho,r⟩:=hm
     have nl:∀c∈[z,TI,TO,i1,i2],X.env.locals ≠ c:=fun c hc' q=>(hf c hc').2.1 q.symm
     exact ⟨o,es,ep,nq _ o (nl z (by simp)) (nl TO (by simp)) (nl i1 (by simp)) (nl i2 (by simp)) ho,r⟩
  refine ⟨.ref s.heap.objs.size,_,I2,rfl,⟨s.heap.objs.size,xs[i],ys[i],hn,rfl,rfl,List.getElem?_eq_getElem lx,List.getElem?_eq_getElem ly⟩,⟨b1,?_,⟨u,u2,?_⟩,?_,?_⟩,fun b hb=>?_⟩
  · exact nq _ _ D.TIz D.TITO D.TIi1 D.TIi2 hTI
  · exact hs.extBut _ _ D.TOz a2
  · exact C1.keep _ _ _ a3 fun o e=>hs.extBut _ _ D.i1z e
  · exact C2.keep _ _ _ a4 fun o e=>hs.extBut _ _ D.i2z e
  · have hlt:b ≠ s.heap.objs.size:=by
     have hb':b = z∨b = TI∨b = TO∨b = i1∨b = i2:=by simpa using hb
     obtain ⟨_,e1,_⟩:=C1.obj _ _ h1
     obtain ⟨_,e2,_⟩:=C2.obj _ _ h2
     rcases hb' with rfl | rfl | rfl | rfl | rfl
     · exact Nat.ne_of_lt (Heap.lt_size hz)
     · exact Nat.ne_of_lt (Heap.lt_size hTI)
     · exact Nat.ne_of_lt (Heap.lt_size hTO)
     · exact Nat.ne_of_lt (Heap.lt_size e1)
     · exact Nat.ne_of_lt (Heap.lt_size e2)
    rw [ao hlt]
    exact (hf b hb).1
 done:=by
  intro X hP hw hK hc i pins s σ H E I hf st hg
  subst hP hw hK
  obtain ⟨hz,hTI,⟨a,b,hTO⟩,h1,h2⟩:=st
  obtain ⟨g1,g2,hend⟩:=hg
  have hT:s.TypeIs (.ref z) "zip":=⟨_,hz,rfl⟩
  unfold pyNext
  refine wpAny_bind (wpAny_attempt (wpAny_callSpecial?_slot (name:=Str.ofString "__next__") hT F.slot_zip_next (wpAny_call_entry F.slot_zip_next hT F.entry_zip_next
   (Il (I.ok.hd hc) D C1 C2 hz hTI hTO h1 h2 (C1.yr X rfl rfl rfl pins σ H s I g1) (C2.yr X rfl rfl rfl pins σ H s I g2) hend fun h' e hk he=>?_) (F.args_zip_next_1 _))))
  obtain ⟨oe,vK,hce⟩:=he
  refine wpAny_bind (wpAny_isInstance (T:="StopIteration") (b:=true) ⟨oe,vK,hce⟩ isSubtype_stop (wpAny_pure ⟨rfl,?_⟩))
  have ou:∀c,c ∉ [z,TI,TO,i1,i2]→c ≠ z∧c ≠ TO∧c ≠ i1∧c ≠ i2:=fun c hc=>⟨fun q=>hc (by simp [q]),fun q=>hc (by simp [q]),fun q=>hc (by simp [q]),fun q=>hc (by simp [q])⟩
  have nf:∀b u,H b = some u→b ≠ z∧b ≠ TO∧b ≠ i1∧b ≠ i2:=fun b u e=>by
   have g:∀c∈[z,TI,TO,i1,i2],b ≠ c:=fun c hc q=>by
    have:=(hf c hc).1
    rw [← q,e] at this
    cases this
   exact ⟨g z (by simp),g TO (by simp),g i1 (by simp),g i2 (by simp)⟩
  have I2:Inv X pins σ H { s with heap:=h',gens:=s.gens,drawn:=s.drawn,toks:=s.toks }:=by
   refine I.step (ch:=[z,TI,TO,i1,i2]) (fun b hb=>⟨(hf b hb).2.2.2.1,(hf b hb).2.1,(hf b hb).2.2.2.2.1,(hf b hb).2.2.2.2.2⟩) (fun b o _ _ hc' e _=>?_) (fun b o _ _ hc' e _=>?_) (fun b o _ e n=>n) (fun b o hc' e=>?_)
    (fun b zs q=>q) (fun b o zs q=>q) (fun b ps q=>⟨#[],by rw [q];simp⟩) (fun m hm=>?_) (fun b ob e=>?_) I.bare
   · obtain ⟨n1,n2,n3,n4⟩:=ou b hc'
     exact hk b o n1 n2 n3 n4 e
   · obtain ⟨n1,n2,n3,n4⟩:=ou b hc'
     exact ⟨o.slots,hk b o n1 n2 n3 n4 e⟩
   · obtain ⟨n1,n2,n3,n4⟩:=ou b hc'
     exact ⟨o,hk b o n1 n2 n3 n4 e⟩
   · obtain ⟨o,es,ep,ho,r⟩:=hm
     have nl:∀c∈[z,TI,TO,i1,i2],X.env.locals ≠ c:=fun c hc' q=>(hf c hc').2.1 q.symm
     exact ⟨o,es,ep,hk _ o (nl z (by simp)) (nl TO (by simp)) (nl i1 (by simp)) (nl i2 (by simp)) ho,r⟩
   · refine (I.hok b ob e).stay (fun c v FY q=>?_) (fun c q=>q) fun c zs q=>q
     rcases FY with r | r
     · obtain ⟨n1,n2,n3,n4⟩:=nf b ob e
       rw [r]
       rw [r] at q
       exact hk b v n1 n2 n3 n4 q
     · obtain ⟨n1,n2,n3,n4⟩:=nf c _ r
       exact hk c v n1 n2 n3 n4 q
  exact I2
 self:=fun _ _ _ _ _ st h=>wpAny_pyIter_zip st.1 h
def AU (P:Program) (w:World) (u:Value) (o:Obj) (pre:Heap→Prop):Prop:=∀(A:Around) (E:Value→Shared→Prop) (s:Shared) (Q:Value→Shared→Prop),pre s.heap→Q (.ref s.heap.objs.size) { s with heap:=s.heap.push o }→wpAny (model P w) A (pyIter u) Q E s
theorem Er {P:Program} {w:World} {u1 u2:Value} {o1 o2:Obj} {p1 p2:Heap→Prop} (s1:AU P w u1 o1 p1) (s2:AU P w u2 o2 p2):
  MeetsIn P w (Builtin.«zip.__new__» ⟨[.type "zip",u1,u2],[]⟩) (fun _ R s=>p1 s.heap∧p2 (s.heap.push o1)∧
   R (.ok (.ret (.ref ((((s.heap.push o1).push o2).push { cls:= .type "tuple",data:= .seq #[.ref s.heap.objs.size, .ref (s.heap.push o1).objs.size] }).push { cls:= .type "tuple",data:= .seq #[.none, .none] }).objs.size)))
     { s with heap:=((((s.heap.push o1).push o2).push { cls:= .type "tuple",data:= .seq #[.ref s.heap.objs.size, .ref (s.heap.push o1).objs.size] }).push { cls:= .type "tuple",data:= .seq #[.none, .none] }).push { cls:= .type "zip",data:= .fields #[.none, .bool false, .bool false, .ref ((s.heap.push o1).push o2).objs.size, .ref (((s.heap.push o1).push o2).push { cls:= .type "tuple",data:= .seq #[.ref s.heap.objs.size, .ref (s.heap.push o1).objs.size] }).objs.size] } }):=
 .of_wp fun A R s h=>by
   obtain ⟨hp,g,d,tk,os⟩:=s;obtain ⟨q1,q2,h⟩:=h
   have hsub:=sub_zip
   have i1:=fun (A:Around) (E:Value→Shared→Prop) (Q:Value→Shared→Prop)=>s1 A E ⟨hp,g,d,tk,os⟩ Q q1
   have i2:=fun (A:Around) (E:Value→Shared→Prop) (Q:Value→Shared→Prop)=>s2 A E ⟨hp.push o1,g,d,tk,os⟩ Q q2
   wp_walk using i1 _ _ _,i2 _ _ _
   exact ⟨_,rfl,h⟩
end L2
namespace L2
open PySem PySem.Spec PyProof.Rows
section
variable {prog:Program} {w:World} {A:Around} {E:Value→Shared→Prop} {s:Shared} {it t:Addr} {i:Nat} {items:Array Value} {Q:Value→Shared→Prop}
theorem CB {x:Value} (hit:s.heap.IsTupleIter it t i) (ht:s.heap.IsTuple t items) (hx:items[i]? = some x) (hQ:∀h',h'.IsTupleIter it t (i + 1)→Heap.SameBut it s.heap h'→Q x { s with heap:=h' }):wpAny (model prog w) A (Builtin.SmallTypes.nextOf (.ref it)) Q E s:=by
 obtain ⟨o,ho,hc,hd⟩:=id hit;obtain ⟨ol,c7,_,nl,hdl⟩:=ht;unfold Builtin.SmallTypes.nextOf
 refine wpAny_bind (wpAny_callSpecial?_slot (name:=Str.ofString "__next__") hit.typeIs F.slot_tuple_iterator_next (wpAny_call_entry F.slot_tuple_iterator_next hit.typeIs F.entry_tuple_iterator_next ?_ (F.args_tuple_iterator_next_1 _)))
 show wpAny _ _ (field (.ref it) 0 >>= _) _ _ s;refine wpAny_bind (wpAny_field ho hd (x:= .ref t) rfl ?_);show wpAny _ _ (if (Value.ref t == Value.none) = true then _ else _) _ _ s
 rw [if_neg (fun z=>Bool.false_ne_true z:¬ ((Value.ref t == Value.none) = true))];show wpAny _ _ (field (.ref it) 1 >>= _) _ _ s
 refine wpAny_bind (wpAny_field ho hd (x:= .int i 0) rfl ?_);show wpAny _ _ (seqItems? (.ref t) >>= _) _ _ s;refine wpAny_bind (wpAny_seqItems c7 hdl ?_);simp only [Int.toNat_natCast,hx]
 refine wpAny_bind (wpAny_setField ho hd (by simp) (wpAny_pure ⟨x,rfl,wpAny_pure (hQ _ ?_ (Heap.SameBut.update ..))⟩));refine ⟨_,Heap.get?_update_self _ ho (Obj.isFreed_of_fields (Obj.data_mapFields hd _)),(Obj.cls_mapFields ..).trans hc,?_⟩;rw [Obj.data_mapFields hd];simp [rawInt]
theorem Es (hh:A.handled = none) (hit:s.heap.IsTupleIter it t i) (ht:s.heap.IsTuple t items) (hx:items[i]? = none) (hE:∀h' e,Heap.ExtBut it s.heap h'→(∃o,h'.get? e = some o∧o.cls = .type "StopIteration")→E (.ref e) { s with heap:=h' }):wpAny (model prog w) A (Builtin.SmallTypes.nextOf (.ref it)) Q E s:=by
 obtain ⟨o,ho,hc,hd⟩:=id hit;obtain ⟨ol,c7,_,nl,hdl⟩:=ht;unfold Builtin.SmallTypes.nextOf
 refine wpAny_bind (wpAny_callSpecial?_slot (name:=Str.ofString "__next__") hit.typeIs F.slot_tuple_iterator_next (wpAny_call_entry F.slot_tuple_iterator_next hit.typeIs F.entry_tuple_iterator_next ?_ (F.args_tuple_iterator_next_1 _)))
 show wpAny _ _ (field (.ref it) 0 >>= _) _ _ s;refine wpAny_bind (wpAny_field ho hd (x:= .ref t) rfl ?_);show wpAny _ _ (if (Value.ref t == Value.none) = true then _ else _) _ _ s
 rw [if_neg (fun z=>Bool.false_ne_true z:¬ ((Value.ref t == Value.none) = true))];show wpAny _ _ (field (.ref it) 1 >>= _) _ _ s
 refine wpAny_bind (wpAny_field ho hd (x:= .int i 0) rfl ?_);show wpAny _ _ (seqItems? (.ref t) >>= _) _ _ s;refine wpAny_bind (wpAny_seqItems c7 hdl ?_);simp only [Int.toNat_natCast,hx]
 refine wpAny_bind (wpAny_rule (wpAny_bind (wpAny_setField ho hd (by simp) ?_)));show wpAny _ _ (newExc (.type "StopIteration") [] >>= _) _ _ _;refine wpAny_bind ?_;simp only [newExc,newTuple]
 refine wpAny_bind (wpAny_newObj_type ?_ (by size_fits));refine wpAny_bind (m:=firstArgMember _ _) (wpAny_of_eq (a:=Value.none) (by first | rfl | (simp only [firstArgMember];rfl)) ?_);refine wpAny_newObj_type ?_ (by size_fits);simp only [raiseNew]
 refine wpAny_bind (wpAny_handled ?_);first | rw [show A.in1.handled = none from hh] | rw [hh]
 refine wpAny_bind (wpAny_pure (wpAny_throw ?_));exact hE _ _ (((Heap.SameBut.update ..).extBut.push _).push _) ⟨_,Heap.get?_push_size _ rfl,rfl⟩
end
theorem KG {P:Program} {w:World} {K:PySem.W.Frag} {xs:List V} {it l:Addr}:qK P w K (fun H=>cA K H l xs) xs it l (fun i h=>h.IsTupleIter it l i) (fun h=>∃its:List Value,Vals xs its∧h.IsTuple l its.toArray) where
 obj:=fun i h ⟨o,e,c,d⟩=>⟨o,e,fun v z=>by rw [d] at z;cases z⟩
 keep:=fun i h h' st k=>st.at k
 nt:=fun h h' ⟨its,r,o,e,q⟩ k=>⟨its,r,o,k o e,q⟩
 yr:=fun X hP hw hK pins σ H s I h=>by
  subst hP hw hK
  obtain ⟨its,rv,p,_⟩:=I.tuple h
  exact ⟨its,rv,p⟩
 item:=fun A i x s Q E st ⟨its,r,hl⟩ hx hQ=>by
  obtain ⟨u,hu,ru⟩:=r.get hx
  exact CB st hl (by simpa using hu) fun h' st' sb=>hQ u h' ru st' sb
 done:=fun A i s Q E hh st ⟨its,r,hl⟩ hx hE=>Es hh st hl (by have:=r.length;simp;omega) hE
end L2
namespace L2
open PySem PySem.Spec PyProof.Rows
theorem Im:typeLookup (.type "dict") "__len__" = pure (some (.builtin "dict.__len__")):=by rw [typeLookup_type,builtinLookup_eq_fast];kernel_rfl
section
variable {prog:Program} {w:World} {A:Around} {E:Value→Shared→Prop} {s:Shared} {K:Type} [DecidableEq K] {knd:KeyKind prog w K}
theorem sV {R:Result→Shared→Prop} (hh:A.handled = none) {d:Addr} {kvs:List (K × Value)} {ep:Nat} (hd:(d == sysModules) = false) (hm:s.heap.DictAt knd d kvs ep) (S:Addr) (hSd:S ≠ d) (res:Value) (c₀:Nat) (hS:s.heap.get? S = some { cls:= .type "list",data:= .seq #[] c₀ })
  (hR:∀h' tk acc' c',(∀b o,b ≠ S→s.heap.get? b = some o→h'.get? b = some o)→h'.get? S = some { cls:= .type "list",dict:=none,data:= .seq acc' c',slots:=#[] }→
    ItemsOf (fun i v=>∃k x,kvs[i]? = some (k,x)∧knd.is k v = true) acc' kvs.length→R (.ok (.ret res)) { s with heap:=h',toks:=tk }) (hn:kvs.length≤sizeLine):
  wpAny (model prog w) A.in1 (Builtin.List.listExtendWith (.ref S) (.ref d) res)
   (fun fin s'=>match fin with | .done f=>R (.ok f) s' | .again c'=>c'.quiet = true∧codeAny (model prog w) A c' R s') (fun e s'=>R (.error e) s') s:=by
 have hSI:S ≠ s.heap.objs.size:=Nat.ne_of_lt (Heap.lt_size hS)
 have hT:s.TypeIs (.ref d) "dict":=hm.dictOf.typeIs
 unfold Builtin.List.listExtendWith
 refine wpAny_bind (wpAny_typeOf (T:="dict") (v:= .ref d) hT ?_)
 have h1:Builtin.List.listSameRef (.ref S) (.ref d) = false:=by
  show (S == d) = false
  simpa using hSd
 have h2:(Value.type "dict" == Value.type "list") = false:=by decide
 have h3:(Value.type "dict" == Value.type "tuple") = false:=by decide
 simp only [h1,h2,h3,Bool.or_false,Bool.false_eq_true,if_false]
 refine wpAny_bind (wpAny_pyIter_dict hd hm ?_)
 refine wpAny_bind (wpAny_holding ?_)
 unfold Builtin.List.listLengthHint
 have hT2:({ s with heap:=s.heap.push { cls:= .type "dict_keyiterator",data:= .fields #[.ref d, .int 0 0, .int kvs.length 0, .int ep 0] } }:Shared).TypeIs (.ref d) "dict":=(hm.push _).dictOf.typeIs
 refine wpAny_bind (wpAny_specialOf (T:="dict") (v:= .ref d) hT2 Im ?_)
 wp_delta
 refine wpAny_bind (wpAny_isInstance (T:="dict") (v:= .ref d) (b:=true) hT2 (by rw [isSubtype_type];kernel_rfl) ?_)
 show wpAny _ _ (typeOf (Value.ref d) >>= _) _ _ _
 refine wpAny_bind (wpAny_typeOf (T:="dict") (v:= .ref d) hT2 ?_)
 refine wpAny_pure ?_
 have hne:d ≠ s.heap.objs.size:=Nat.ne_of_lt hm.lt_size
 have hSf:S ∉ [s.heap.objs.size,d] :=fun hm'=>by
  rcases List.mem_cons.mp hm' with z | z
  · exact hSI z
  · exact hSd (List.mem_singleton.mp z)
 show wpAny _ A.in1 (rule "list.extend.makes-room" >>= fun _=>Builtin.List.listTouch (.ref S) >>= fun _=>
  again (.builtin "list.extend.loop" ⟨[.ref S, .ref s.heap.objs.size,res],[]⟩)) _ _ _
 refine wpAny_bind (wpAny_rule ?_)
 refine wpAny_bind ?_
 show wpAny _ A.in1 (updateSeq S (·.push .none) >>= fun _=>updateSeq S (·.pop)) _ _ _
 have OE:=Heap.get?_push_of_some { cls:= .type "dict_keyiterator",data:= .fields #[.ref d, .int 0 0, .int kvs.length 0, .int ep 0] } hS
 refine wpAny_bind (wpAny_updateSeq OE rfl ?_)
 have Jv:=Heap.get?_update_self (Obj.mapSeq (·.push Value.none)) OE rfl
 refine wpAny_updateSeq (hz:=by seq_fits) Jv rfl ?_
 have RZ:=Heap.get?_update_self (Obj.mapSeq (·.pop)) Jv rfl
 have Ds:∀b o,b ≠ S→(s.heap.push { cls:= .type "dict_keyiterator",data:= .fields #[.ref d, .int 0 0, .int kvs.length 0, .int ep 0] }).get? b = some o→(((s.heap.push { cls:= .type "dict_keyiterator",data:= .fields #[.ref d, .int 0 0, .int kvs.length 0, .int ep 0] }).update S (Obj.mapSeq (·.push Value.none))).update S (Obj.mapSeq (·.pop))).get? b = some o:=
  fun b o hb e=>(Heap.get?_update_other _ _ (Ne.symm hb)).trans ((Heap.get?_update_other _ _ (Ne.symm hb)).trans e)
 refine wpAny_pure ⟨plainId_quiet F.plain_extend_loop _,codeAny_extend_loopS (Walks.dictKeys (prog:=prog) (w:=w) (A:=A.in1) (knd:=knd) hh s.heap.objs.size d hne kvs ep).toS hn _ hSf _ kvs.length 0 _ _ _ rfl (Nat.zero_le _) ⟨⟨_,Ds _ _ (Ne.symm hSI) (Heap.get?_push_size _ rfl),rfl,rfl⟩,(hm.push _).at' fun o e=>Ds d o (Ne.symm hSd) e⟩ RZ (ItemsOf.nil _) fun s' acc' c' hm2 hS' hacc=>?_⟩
 rw [Moved.eq_with hm2]
 refine hR s'.heap s'.toks acc' c' (fun b ob hb e=>hm2.heap b ob (fun hmem=>?_) (Ds b ob hb (Heap.get?_push_of_some _ e))) hS' hacc
 rcases List.mem_cons.mp hmem with e' | hmem
 · exact hb e'
 · exact absurd (Heap.lt_size e) (by rw [List.mem_singleton.mp hmem];exact Nat.lt_irrefl _)
theorem xA {Q:Value→Shared→Prop} (hh:A.handled = none) {d:Addr} {kvs:List (K × Value)} {ep:Nat} (hd:(d == sysModules) = false) (hm:s.heap.DictAt knd d kvs ep) (hn:kvs.length≤sizeLine)
  (hQ:∀h' tk acc' c',(∀b o,s.heap.get? b = some o→h'.get? b = some o)→
    h'.get? s.heap.objs.size = some { cls:= .type "list",dict:=none,data:= .seq acc' c',slots:=#[] }→ItemsOf (fun i v=>∃k x,kvs[i]? = some (k,x)∧knd.is k v = true) acc' kvs.length→Q (.ref s.heap.objs.size) { s with heap:=h',toks:=tk }):
  wpAny (model prog w) A (call (.type "list") [.ref d]) Q E s:=by
 refine callType_codes (Q₁:=fun obj s₁=>obj = .ref s.heap.objs.size∧s₁ = { s with heap:=s.heap.push { cls:= .type "list",data:= .seq #[] } }) F.called_list (F.typeCall_list_1 _) F.entry_list_init
  (code_list_new _ ⟨rfl,rfl⟩) fun obj s₁ h₁=>?_
 obtain ⟨rfl,rfl⟩:=h₁
 have hS:(s.heap.push { cls:= .type "list",data:= .seq #[] }).get? s.heap.objs.size = some { cls:= .type "list",data:= .seq #[] }:=Heap.get?_push_size _ rfl
 have hne:s.heap.objs.size ≠ d:=Nat.ne_of_gt hm.lt_size
 refine ⟨⟨_,hS,rfl⟩,F.args_list_init_2 _ _,?_⟩
 show wpAny _ _ (do let old ← Builtin.List.listItems (.ref s.heap.objs.size);Builtin.List.listUpdate (.ref s.heap.objs.size) (fun _=>#[]);letGo old.toList.reverse;Builtin.List.listExtendWith (.ref s.heap.objs.size) (.ref d) .none) _ _ _
 refine wpAny_bind ?_
 unfold Builtin.List.listItems
 refine wpAny_bind (wpAny_seqItems hS rfl (wpAny_pure ?_))
 show wpAny _ _ (updateSeq s.heap.objs.size (fun _=>#[]) >>= fun _=>letGo (#[] :Array Value).toList.reverse >>= fun _=>Builtin.List.listExtendWith (.ref s.heap.objs.size) (.ref d) .none) _ _ _
 refine wpAny_bind (wpAny_updateSeq hS rfl ?_)
 have Jv:=Heap.get?_update_self (Obj.mapSeq (fun _=>(#[] :Array Value))) hS rfl
 have Ds:∀b o,b ≠ s.heap.objs.size→(s.heap.push { cls:= .type "list",data:= .seq #[] }).get? b = some o→((s.heap.push { cls:= .type "list",data:= .seq #[] }).update s.heap.objs.size (Obj.mapSeq (fun _=>(#[] :Array Value)))).get? b = some o:=
  fun b o hb e=>(Heap.get?_update_other _ _ (Ne.symm hb)).trans e
 refine wpAny_bind (wpAny_letGo ?_)
 refine sV (A:=A.in1) hh hd (hm.push _ |>.at' fun o e=>Ds d o hne.symm e) s.heap.objs.size hne .none _ Jv (fun h' tk acc' c' hk hS' hacc=>?_) hn
 exact ⟨rfl,hQ h' tk acc' c' (fun b o e=>hk b o (Nat.ne_of_lt (Heap.lt_size e)) (Ds b o (Nat.ne_of_lt (Heap.lt_size e)) (Heap.get?_push_of_some _ e))) hS' hacc⟩
end
end L2
namespace L2
open PySem PySem.Spec PyProof.Rows
theorem yu {α β:Type} {F:α→β→Prop}:∀{l₁:List α} {l₂:List β},l₁.length = l₂.length→(∀(i:Nat) (x:α) (y:β),l₁[i]? = some x→l₂[i]? = some y→F x y)→Paired F l₁ l₂
 | [],[],_,_=> .nil
 | x :: xs,y :: ys,h,f=> .cons (f 0 x y rfl rfl) (yu (by simpa using h) fun i a b ha hb=>f (i + 1) a b (by simpa using ha) (by simpa using hb))
def gF (v d:Addr):HO:= .ext fun h=>h.IsValuesView v d
section
variable {X:Cx}
def N1 (td:TE):TE:=fun σ H Q=>td σ H fun x H1=>∃d kvs,x = .ref d∧Rd H1 d (.dK kvs)∧∀v,H1 v = none→Q (.ref v) (upd H1 v (gF v d))
theorem xB {ob:Expr} {td:TE} {apos cpos:Pos} (hob:PE X ob td) (hbase:attributeBase ob "values" X.env (eval ob X.env) = eval ob X.env:=by rfl) (hline:(apos.endLine == cpos.line) = true:=by rfl):
  PE X (.Call (.Attribute ob "values" apos) [] [] cpos) (N1 td):=by
 intro pins s σ H Q I h
 refine wpAny_Call_method0_late hbase hline (aP (hob pins s σ H _ I h) fun v s1 ⟨x,H1,I1,r1,q1⟩=>?_)
 obtain ⟨d,kvs,rfl,e,fin⟩:=q1
 cases r1
 obtain ⟨t1,t2,hsys⟩:=AB I1 (.inl ⟨kvs,e⟩)
 obtain ⟨hz,_,vs,rel,dd⟩:=kg I1.hok e
 refine ⟨"dict",_,F.plainAttrs_dict,F.slot_dict_values,F.type_dict_values,t1,t2,Calls.callWith_builtin rfl (PySem.evalArgs_none ?_)⟩
 refine call_meetsIn F.slot_dict_values dd.typeIs F.entry_dict_values (F.args_dict_values_1 _) (meets_dict_values (bK X.prog X.w) d hsys) ⟨⟨vs,dd⟩,?_⟩
 refine ⟨.ref s1.heap.objs.size,_,I1.laid (t':=s1.toks) (o:=gF s1.heap.objs.size d) (fun b u e=>Heap.get?_push_of_some _ e) (Nat.le_refl _) ?_,rfl,fin _ I1.fresh⟩
 refine ⟨⟨_,Heap.get?_push_size _ rfl,rfl,rfl⟩,⟨_,Heap.get?_push_size _ rfl⟩,fun h1 h2 ⟨o,a,b⟩ k=>⟨o,k o a,b⟩⟩
inductive Wk (K:PySem.W.Frag) (H:Hp):V→(Hp→Prop)→List V→Prop
 | lst {l:Addr} {xs:List V}:av K H l xs→Wk K H (.ref l) (fun H=>av K H l xs) xs
 | tup {l:Addr} {xs:List V}:cA K H l xs→Wk K H (.ref l) (fun H=>cA K H l xs) xs
 | keys {d:Addr} {o:Obj} {kvs:List (Key × V)}:i9 H d o kvs→Wk K H (.ref d) (fun H=>i9 H d o kvs) (kvs.map fun p=>kV p.1)
 | vals {v d:Addr} {o:Obj} {kvs:List (Key × V)}:H v = some (gF v d)→i9 H d o kvs→Wk K H (.ref v) (fun H=>i9 H d o kvs) (kvs.map fun p=>p.2)
theorem Wk.ok {pins:List (Addr × Obj)} {σ:St} {H:Hp} {s:Shared} {u:V} {uv:Value} {S:Hp→Prop} {xs:List V} (k:Wk X.K H u S xs) (I:Inv X pins σ H s) (r:RelV u uv):
  S H∧∃(l:Addr) (o:Obj) (p:Heap→Prop),l < s.heap.objs.size∧p s.heap∧(∀h (ob:Obj),p h→p (h.push ob))∧(∀h:Heap,(h.push o).get? h.objs.size = some o)∧AU X.prog X.w uv o p∧∀it:Addr,∃tn src,qK X.prog X.w X.K S xs it l tn src∧∀h:Heap,h.get? it = some o→tn 0 h:=by
 cases k with
 | @lst l xs hS=>
   cases r
   obtain ⟨its,rv,p,_⟩:=I.list hS
   obtain ⟨ol,c7,_⟩:=id p.isList
   refine ⟨hS,l,_,fun h=>h.IsList l its.toArray,Heap.lt_size c7,p.isList,fun h ob q=>q.push ob,fun h=>Heap.get?_push_size _ rfl,fun A E s Q q h=>wpAny_pyIter_list q h,fun it=>⟨_,_,Ii,fun h e=>⟨_,e,rfl,rfl⟩⟩⟩
 | @tup l xs hS=>
   cases r
   obtain ⟨its,rv,p,_⟩:=I.tuple hS
   obtain ⟨ol,c7,q0⟩:=id p
   refine ⟨hS,l,_,fun h=>h.IsTuple l its.toArray,Heap.lt_size c7,p,fun h ob ⟨o1,a,b⟩=>⟨o1,Heap.get?_push_of_some _ a,b⟩,fun h=>Heap.get?_push_size _ rfl,fun A E s Q q h=>wpAny_pyIter_tuple q h,fun it=>⟨_,_,KG,fun h e=>⟨_,e,rfl,rfl⟩⟩⟩
 | @keys d o kvs hz=>
   cases r
   obtain ⟨ho,hl,hsys,vs,ep,rel,da⟩:=I.ki hz
   obtain ⟨o',es,h1,_,h2,_⟩:=id da
   rw [ho] at h1;cases h1
   have el:kvs.length = vs.length:=rel.length
   refine ⟨hz,d,_,fun h=>h.DictAt (bK X.prog X.w) d vs ep,Heap.lt_size ho,da,fun h ob q=>q.push ob,fun h=>Heap.get?_push_size _ rfl,fun A E s Q q h=>wpAny_pyIter_dict hsys q h,fun it=>⟨_,_,Ij h2,fun h e=>?_⟩⟩
   rw [el]
   exact ⟨_,e,rfl,rfl⟩
 | @vals v d o kvs hv hz=>
   cases r
   obtain ⟨ho,hl,hsys,vs,ep,rel,da⟩:=I.ki hz
   obtain ⟨o',es,h1,_,h2,_⟩:=id da
   rw [ho] at h1;cases h1
   have el:kvs.length = vs.length:=rel.length
   obtain ⟨hv',_⟩:=(show cy X.prog X.w H s.heap v (gF v d) from I.hok v _ hv)
   refine ⟨hz,d,_,fun h=>h.IsValuesView v d∧h.DictAt (bK X.prog X.w) d vs ep,Heap.lt_size ho,⟨hv',da⟩,fun h ob ⟨⟨o1,a,b⟩,q⟩=>⟨⟨o1,Heap.get?_push_of_some _ a,b⟩,q.push ob⟩,fun h=>Heap.get?_push_size _ rfl,fun A E s Q q h=>wpAny_pyIter_values q.1 q.2 h,fun it=>⟨_,_,Ik h2,fun h e=>?_⟩⟩
   rw [el]
   exact ⟨_,e,rfl,rfl⟩
variable {elts:List Expr} {kk:Nat} {tpos:Pos}
def N3 (K:PySem.W.Frag) (ta:TA):TI:=fun σ H R=>ta σ H fun vs H1=>∃u1 u2 S1 S2 xs ys,vs = [u1,u2]∧Wk K H1 u1 S1 xs∧Wk K H1 u2 S2 ys∧R (Mb S1 S2 xs ys) H1
theorem lO (K:PySem.W.Frag) {a b:Expr} {ta:TA} {p pos:Pos} (hg:Gl X "zip") (hm:X.mg "zip" = none) (ha:PA X [a,b] ta) (hK:X.K = K:=by rfl)
  (hs:starEach [a,b] X.env = [(false,eval a X.env),(false,eval b X.env)] :=by rfl) (hs2:starEach [b] X.env = [(false,eval b X.env)] :=by rfl):
  PI X (.Tuple elts kk tpos) (.Call (.Name "zip" p) [a,b] [] pos) (N3 K ta):=by
 subst hK
 intro pins s σ H R I h
 refine Call_ (oz I hg hm boot_zip (PyProof.Rows.callWith_type1 (aP (ha pos pins s σ H _ I h) fun us s1 ⟨vs,H1,I1,r1,q1⟩=>?_) (by rw [hs,hs2]) (by rw [hs2];rfl)))
 obtain ⟨u1,u2,S1,S2,xs,ys,e,k1,k2,q⟩:=q1
 subst e
 obtain ⟨u,w',rfl,ru,rw'⟩:=vals2 r1
 obtain ⟨g1,l1,o1,p1,R0,b1,Uq,R1,st1,c1⟩:=k1.ok I1 ru
 obtain ⟨g2,l2,o2,p2,R3,b2,N4,at2,st2,c2⟩:=k2.ok I1 rw'
 refine callType_newIn F.called_zip (by decide) (F.typeCall_zip_2 _ _) (F.newCall_zip_2 _ _) (fun obj=>F.args_object_init_3 obj _ _) F.entry_zip_new (Er st1 st2) ⟨b1,N4 _ _ b2,?_⟩
 have z1:(s1.heap.push o1).objs.size = s1.heap.objs.size + 1:=Heap.size_push ..
 have z2:((s1.heap.push o1).push o2).objs.size = s1.heap.objs.size + 2:=by rw [Heap.size_push,z1]
 generalize e3:({ cls:= .type "tuple",data:= .seq #[.ref s1.heap.objs.size, .ref (s1.heap.push o1).objs.size] }:Obj) = o3
 have z3:(((s1.heap.push o1).push o2).push o3).objs.size = s1.heap.objs.size + 3:=by rw [Heap.size_push,z2]
 generalize e4:({ cls:= .type "tuple",data:= .seq #[.none, .none] }:Obj) = o4
 have z4:((((s1.heap.push o1).push o2).push o3).push o4).objs.size = s1.heap.objs.size + 4:=by rw [Heap.size_push,z3]
 generalize e5:({ cls:= .type "zip",data:= .fields #[.none, .bool false, .bool false, .ref ((s1.heap.push o1).push o2).objs.size, .ref (((s1.heap.push o1).push o2).push o3).objs.size] }:Obj) = o5
 have g5:(((((s1.heap.push o1).push o2).push o3).push o4).push o5).get? ((((s1.heap.push o1).push o2).push o3).push o4).objs.size = some o5:=Heap.get?_push_size _ (by rw [← e5];rfl)
 have g4:(((((s1.heap.push o1).push o2).push o3).push o4).push o5).get? (((s1.heap.push o1).push o2).push o3).objs.size = some o4:=Heap.get?_push_of_some _ (Heap.get?_push_size _ (by rw [← e4];rfl))
 have g3:(((((s1.heap.push o1).push o2).push o3).push o4).push o5).get? ((s1.heap.push o1).push o2).objs.size = some o3:=Heap.get?_push_of_some _ (Heap.get?_push_of_some _ (Heap.get?_push_size _ (by rw [← e3];rfl)))
 have OF:(((((s1.heap.push o1).push o2).push o3).push o4).push o5).get? (s1.heap.push o1).objs.size = some o2:=Heap.get?_push_of_some _ (Heap.get?_push_of_some _ (Heap.get?_push_of_some _ (at2 _)))
 have R4:(((((s1.heap.push o1).push o2).push o3).push o4).push o5).get? s1.heap.objs.size = some o1:=Heap.get?_push_of_some _ (Heap.get?_push_of_some _ (Heap.get?_push_of_some _ (Heap.get?_push_of_some _ (R1 _))))
 have kp:∀c o,s1.heap.get? c = some o→(((((s1.heap.push o1).push o2).push o3).push o4).push o5).get? c = some o:=fun c o x=>Heap.get?_push_of_some _ (Heap.get?_push_of_some _ (Heap.get?_push_of_some _ (Heap.get?_push_of_some _ (Heap.get?_push_of_some _ x))))
 rw [z4] at g5 ⊢
 rw [z3] at g4 e5
 rw [z2] at g3 e5
 rw [z1] at OF e3
 generalize (((((s1.heap.push o1).push o2).push o3).push o4).push o5) = hN at *
 show _∧_
 subst e3 e4 e5
 refine ⟨⟨_,g5,rfl⟩,wpAny_pyIter_zip (s:={ s1 with heap:=hN }) g5 ?_⟩
 have I2:Inv X pins σ H1 { s1 with heap:=hN }:=I1.kept (t':=s1.toks) kp
 obtain ⟨t1,Ur,C1,n1⟩:=c1 s1.heap.objs.size
 obtain ⟨t2,Us,C2,n2⟩:=c2 (s1.heap.objs.size + 1)
 refine ⟨s1.heap.objs.size + 4,[s1.heap.objs.size + 4,s1.heap.objs.size + 2,s1.heap.objs.size + 3,s1.heap.objs.size,s1.heap.objs.size + 1],_,_,H1,rfl,I2,F_ (Cy R0 R3) C1 C2,⟨g5,g3,⟨_,_,g4⟩,n1 _ R4,n2 _ OF⟩,fun b hb=>?_,q⟩
 have hb':b = s1.heap.objs.size + 4∨b = s1.heap.objs.size + 2∨b = s1.heap.objs.size + 3∨b = s1.heap.objs.size∨b = s1.heap.objs.size + 1:=by simpa using hb
 have le:s1.heap.objs.size≤b:=by
  rcases hb' with r | r | r | r | r
  · rw [r];exact Nat.le_add_right _ _
  · rw [r];exact Nat.le_add_right _ _
  · rw [r];exact Nat.le_add_right _ _
  · rw [r];exact Nat.le_refl _
  · rw [r];exact Nat.le_add_right _ _
 exact I1.xh le (I1.hok.fresh le)
theorem yv (hc:X.calm = true):dZ X (.builtin "sum") (fun xs H Q=>∃(v d:Addr) (kvs:List (Key × V)) (ns:List Int),xs = [.ref v]∧H v = some (gF v d)∧Rd H d (.dK kvs)∧kvs.map (·.2) = ns.map V.int∧Q (.int ns.sum) H):=by
 intro pins s σ H xs us Q I r h
 obtain ⟨v,d,kvs,ns,rfl,hv,hz,en,q⟩:=h
 obtain ⟨u,rfl,ru⟩:=vals1 r
 cases ru
 obtain ⟨_,hsys,vs,rel,dd⟩:=kg I.hok hz
 obtain ⟨ep,da⟩:=dd.dictAt
 obtain ⟨hv',_⟩:=(show cy X.prog X.w H s.heap v (gF v d) from I.hok v _ hv)
 have hl:kvs.length = vs.length:=rel.length
 have hlt:=da.lt_size
 have hne:d ≠ s.heap.objs.size:=Nat.ne_of_lt hlt
 have W:=(Walks.dictValues (prog:=X.prog) (w:=X.w) (A:=X.A.in1) (knd:=bK X.prog X.w) (I.ok.hd hc) s.heap.objs.size d hne vs ep).toS
 have vF:kvs.length = ns.length:=by have:=congrArg List.length en;simpa using this
 refine call_sum_walkAnyS (wpAny_pyIter_values hv' da ?_)
 refine ⟨s.heap.objs.size,_,_,_,_,_,_,fun i=>ns.getD i 0,rfl,W,⟨⟨_,Heap.get?_push_size _ rfl,rfl,rfl⟩,da.push _⟩,fun b hb=>?_,fun i x hP=>?_,fun s' t' hm=>?_⟩
 · rcases List.mem_cons.mp hb with rfl | hb
   · exact Heap.lt_size (Heap.get?_push_size _ rfl)
   · obtain rfl:=List.mem_singleton.mp hb
     exact (da.push _).lt_size
 · obtain ⟨k,hk⟩:=hP
   have hil:i < ns.length:=by
    have:=(List.getElem?_eq_some_iff.mp hk).1
    omega
   have hik:i < kvs.length:=by omega
   obtain ⟨q',hq',_,rq⟩:=oK rel (List.getElem?_eq_getElem hik)
   rw [hk] at hq'
   cases hq'
   have e1:kvs[i].2 = V.int (ns.getD i 0):=by
    have:=congrArg (fun l=>l[i]?) en
    simp only [List.getElem?_map,List.getElem?_eq_getElem hik,List.getElem?_eq_getElem hil] at this
    rw [List.getD_eq_getElem?_getD,List.getElem?_eq_getElem hil]
    exact Option.some.inj this
   rw [e1] at rq
   exact rq
 · obtain ⟨h',g',d',tk',os'⟩:=s'
   have e1:g' = s.gens:=hm.gens
   have e2:d' = s.drawn:=hm.drawn
   have e3:os' = s.os:=hm.os
   subst e1 e2 e3
   have hsz:vs.length = ns.length:=by omega
   rw [hsz,preSum_getD,List.take_of_length_le (Nat.le_refl _)]
   exact ⟨.int ns.sum,H,I.kept (h':=h') (t':=tk') fun b o e=>hm.heap b o (fun hb=>absurd (Heap.lt_size e) ((List.mem_singleton.mp hb) ▸ Nat.lt_irrefl _)) (Heap.get?_push_of_some _ e),⟨t',rfl⟩,q⟩
theorem Et (hc:X.calm = true):dZ X (.type "list") (fun xs H Q=>∃(d:Addr) (kvs:List (Key × V)),xs = [.ref d]∧Rd H d (.dK kvs)∧∀l,H l = none→Q (.ref l) (upd H l (.lst (kvs.map fun p=>kV p.1)))):=by
 intro pins s σ H xs us Q I r h
 obtain ⟨d,kvs,rfl,hz,q⟩:=h
 obtain ⟨u,rfl,ru⟩:=vals1 r
 cases ru
 obtain ⟨hsz,hsys,vs,rel,dd⟩:=kg I.hok hz
 obtain ⟨ep,da⟩:=dd.dictAt
 have hl:kvs.length = vs.length:=rel.length
 refine xA (I.ok.hd hc) hsys da (by omega) fun h' tk acc' c' kp e it=>?_
 refine ⟨.ref s.heap.objs.size,_,I.laid (t':=tk) kp (Nat.le_refl _) (show cy X.prog X.w _ h' _ (.lst (kvs.map fun p=>kV p.1)) from ⟨by rw [List.length_map];exact hsz,acc'.toList,c',?_,by rw [e]⟩),rfl,q _ I.fresh⟩
 obtain ⟨sz,hit⟩:=it
 have hA:acc'.toList.length = acc'.size:=by simp
 have hB:(kvs.map fun p=>kV p.1).length = acc'.toList.length:=by rw [List.length_map];omega
 refine yu hB fun i x y hx hy=>?_
 rw [List.getElem?_map] at hx
 obtain ⟨p,hp,rfl⟩:=Option.map_eq_some_iff.mp hx
 obtain ⟨k,v,hk,hkk⟩:=hit i y (by simpa using hy)
 obtain ⟨q',hq',ek,_⟩:=oK rel hp
 rw [hk] at hq'
 cases hq'
 rw [ek]
 exact AS hkk
end
end L2
namespace L2
open PySem PySem.Spec PyProof.Rows
def cD:St→List Nat→List V→St
 | σ,k :: ks,v :: vs=>cD (σ.set k (some v)) ks vs
 | σ,_,_=>σ
theorem vL {k:Nat} {v:Option V}:∀{ks:List Nat} {vs:List V} {σ:St},k ∉ ks→(cD σ ks vs).set k v = cD (σ.set k v) ks vs
 | [],_,_,_=>by unfold cD;rfl
 | _ :: _,[],_,_=>by unfold cD;rfl
 | j :: ks,w :: vs,σ,h=>by
   have hj:k ≠ j:=fun e=>h (by rw [e];exact List.mem_cons_self)
   show (cD (σ.set j (some w)) ks vs).set k v = cD ((σ.set k v).set j (some w)) ks vs
   rw [vL (fun m=>h (List.mem_cons_of_mem _ m)),List.set_comm _ _ hj]
theorem l9:∀{ks:List Nat} {vs ws:List V} {σ:St},ks.Nodup→vs.length = ks.length→ws.length = ks.length→cD (cD σ ks vs) ks ws = cD σ ks ws
 | [],[],[],_,_,_,_=>rfl
 | k :: ks,v :: vs,w :: ws,σ,nd,h1,h2=>by
   have nk:=(List.nodup_cons.mp nd).1
   show cD ((cD (σ.set k (some v)) ks vs).set k (some w)) ks ws = cD (σ.set k (some w)) ks ws
   rw [vL nk,List.set_set,l9 (List.nodup_cons.mp nd).2 (by simpa using h1) (by simpa using h2)]
def Jw:List Nat→vc
 | []=>Lh
 | k :: ks=>Jc (iE k) (Jw ks)
theorem AV {Q:St→Hp→Prop} {H:Hp}:∀{ks:List Nat} {vs:List V} {σ:St},vs.length = ks.length→Q (cD σ ks vs) H→Jw ks vs σ H Q
 | [],[],_,_,q=>⟨rfl,q⟩
 | k :: ks,v :: vs,σ,h,q=>⟨v,vs,rfl,AV (by simpa using h) q⟩
theorem qL {K:PySem.W.Frag} {J:It} {n:Nat} (ks:List Nat) {te:TE} {σ2:St} {H:Hp} {acc:Addr} {Q:VK} (Pv:Nat→List V→Hp→Prop) (nd:ks.Nodup) (hn:n≤100000) (h0:Pv 0 [] (upd H acc (.lst [])))
  (hgo:∀i out H1,i < n→H1 acc = some (.lst out)→Pv i out H1→J.go i H1) (hst:∀out H1,H1 acc = some (.lst out)→Pv n out H1→J.stop n H1)
  (hs:∀(i:Nat) (x:V) (out:List V) (H1 H2:Hp),i < n→out.length = i→H1 acc = some (.lst out)→Pv i out H1→J.p5 i H1 x H2→
    ∃t vs,x = .ref t∧cA K H2 t vs∧vs.length = ks.length∧te (cD σ2 ks vs) H2 fun v H4=>H4 acc = some (.lst out)∧Pv (i + 1) (out ++ [v]) (upd H4 acc (.lst (out ++ [v]))))
  (hd:∀(out:List V) (H1:Hp),out.length = n→H1 acc = some (.lst out)→Pv n out H1→Q (.ref acc) H1):
  vD J (uu K ks.length (Jw ks)) te acc σ2 H Q:=by
 refine ⟨fun i m σ' H'=>m = n - i∧i≤n∧(∀ws,ws.length = ks.length→cD σ' ks ws = cD σ2 ks ws)∧∃out,out.length = i∧H' acc = some (.lst out)∧Pv i out H',⟨n,by simp,Nat.zero_le _,fun _ _=>rfl,[],rfl,af,h0⟩,?_⟩
 rintro i m σ' H' ⟨rfl,hi,hσ,out,ho,ha,p⟩
 by_cases hlt:i < n
 · refine .inr ⟨hgo i out H' hlt ha p,fun σ3=>∀ws,ws.length = ks.length→cD σ3 ks ws = cD σ2 ks ws,fun v H4=>H4 acc = some (.lst out)∧Pv (i + 1) (out ++ [v]) (upd H4 acc (.lst (out ++ [v]))),fun σ3 v H4 hS ⟨a,b⟩=>?_,fun x H1 y=>?_⟩
   · refine ⟨out,a,?_,n - (i + 1),by omega,rfl,hlt,hS,out ++ [v],by rw [List.length_append,ho];rfl,af,b⟩
     have:sizeLine = 16777216:=sizeLine_eq
     omega
   · obtain ⟨t,vs,rfl,sq,hl,q⟩:=hs i x out H' H1 hlt ho ha p y
     refine ⟨t,vs,rfl,sq,hl,AV hl ⟨fun ws hw=>?_,?_⟩⟩
     · rw [l9 nd hl hw];exact hσ ws hw
     · rw [hσ vs hl];exact q
 · have e:i = n:=by omega
   subst e
   exact .inl ⟨hst out H' ha p,hd out H' ho ha p⟩
theorem KH {K:PySem.W.Frag} {J:It} {n:Nat} (ks:List Nat) {tc:TT} {te:TE} {σ2:St} {H:Hp} {acc:Addr} {Q:VK} (Pv:Nat→List V→Hp→Prop) (nd:ks.Nodup) (hn:n≤100000) (h0:Pv 0 [] (upd H acc (.lst [])))
  (hgo:∀i out H1,i < n→H1 acc = some (.lst out)→Pv i out H1→J.go i H1) (hst:∀out H1,H1 acc = some (.lst out)→Pv n out H1→J.stop n H1)
  (hs:∀(i:Nat) (x:V) (out:List V) (H1 H2:Hp),i < n→out.length≤i→H1 acc = some (.lst out)→Pv i out H1→J.p5 i H1 x H2→
    ∃t vs,x = .ref t∧cA K H2 t vs∧vs.length = ks.length∧tc (cD σ2 ks vs) H2 fun b H3=>if b = true then te (cD σ2 ks vs) H3 (fun v H4=>H4 acc = some (.lst out)∧Pv (i + 1) (out ++ [v]) (upd H4 acc (.lst (out ++ [v])))) else H3 acc = some (.lst out)∧Pv (i + 1) out H3)
  (hd:∀(out:List V) (H1:Hp),out.length≤n→H1 acc = some (.lst out)→Pv n out H1→Q (.ref acc) H1):
  vJ J (uu K ks.length (Jw ks)) tc te acc σ2 H Q:=by
 refine ⟨fun i m σ' H'=>m = n - i∧i≤n∧(∀ws,ws.length = ks.length→cD σ' ks ws = cD σ2 ks ws)∧∃out,out.length≤i∧H' acc = some (.lst out)∧Pv i out H',⟨n,by simp,Nat.zero_le _,fun _ _=>rfl,[],Nat.le_refl _,af,h0⟩,?_⟩
 rintro i m σ' H' ⟨rfl,hi,hσ,out,ho,ha,p⟩
 by_cases hlt:i < n
 · refine .inr ⟨hgo i out H' hlt ha p,fun σ3=>∀ws,ws.length = ks.length→cD σ3 ks ws = cD σ2 ks ws,fun v H4=>H4 acc = some (.lst out)∧Pv (i + 1) (out ++ [v]) (upd H4 acc (.lst (out ++ [v]))),fun H3=>H3 acc = some (.lst out)∧Pv (i + 1) out H3,fun σ3 v H4 hS ⟨a,b⟩=>?_,fun σ3 H4 hS ⟨a,b⟩=>?_,fun x H1 y=>?_⟩
   · refine ⟨out,a,?_,n - (i + 1),by omega,rfl,hlt,hS,out ++ [v],by rw [List.length_append];exact Nat.succ_le_succ ho,af,b⟩
     have:sizeLine = 16777216:=sizeLine_eq
     omega
   · exact ⟨n - (i + 1),by omega,rfl,hlt,hS,out,by omega,a,b⟩
   · obtain ⟨t,vs,rfl,sq,hl,q⟩:=hs i x out H' H1 hlt ho ha p y
     refine ⟨t,vs,rfl,sq,hl,AV hl ⟨fun ws hw=>?_,?_⟩⟩
     · rw [l9 nd hl hw];exact hσ ws hw
     · rw [hσ vs hl];exact q
 · have e:i = n:=by omega
   subst e
   exact .inl ⟨hst out H' ha p,hd out H' ho ha p⟩
theorem fM {J:It} {n:Nat} (k:Nat) {te:TE} {σ2:St} {H:Hp} {acc:Addr} {Q:VK} (Pv:Nat→List V→Hp→Prop) (hn:n≤100000) (h0:Pv 0 [] (upd H acc (.lst [])))
  (hgo:∀i out H1,i < n→H1 acc = some (.lst out)→Pv i out H1→J.go i H1) (hst:∀out H1,H1 acc = some (.lst out)→Pv n out H1→J.stop n H1)
  (hs:∀(i:Nat) (x:V) (out:List V) (H1 H2:Hp),i < n→out.length = i→H1 acc = some (.lst out)→Pv i out H1→J.p5 i H1 x H2→
    te (σ2.set k (some x)) H2 fun v H4=>H4 acc = some (.lst out)∧Pv (i + 1) (out ++ [v]) (upd H4 acc (.lst (out ++ [v]))))
  (hd:∀(out:List V) (H1:Hp),out.length = n→H1 acc = some (.lst out)→Pv n out H1→Q (.ref acc) H1):
  vD J (iE k) te acc σ2 H Q:=by
 refine ⟨fun i m σ' H'=>m = n - i∧i≤n∧(∀w:Option V,σ'.set k w = σ2.set k w)∧∃out,out.length = i∧H' acc = some (.lst out)∧Pv i out H',⟨n,by simp,Nat.zero_le _,fun _=>rfl,[],rfl,af,h0⟩,?_⟩
 rintro i m σ' H' ⟨rfl,hi,hσ,out,ho,ha,p⟩
 by_cases hlt:i < n
 · refine .inr ⟨hgo i out H' hlt ha p,fun σ3=>∀w:Option V,σ3.set k w = σ2.set k w,fun v H4=>H4 acc = some (.lst out)∧Pv (i + 1) (out ++ [v]) (upd H4 acc (.lst (out ++ [v]))),fun σ3 v H4 hS ⟨a,b⟩=>?_,fun x H1 y=>?_⟩
   · refine ⟨out,a,?_,n - (i + 1),by omega,rfl,hlt,hS,out ++ [v],by rw [List.length_append,ho];rfl,af,b⟩
     have:sizeLine = 16777216:=sizeLine_eq
     omega
   · refine ⟨fun w=>by rw [List.set_set];exact hσ w,?_⟩
     rw [hσ]
     exact hs i x out H' H1 hlt ho ha p y
 · have e:i = n:=by omega
   subst e
   exact .inl ⟨hst out H' ha p,hd out H' ho ha p⟩
theorem Du {J:It} {n:Nat} (k:Nat) {tc:TT} {te:TE} {σ2:St} {H:Hp} {acc:Addr} {Q:VK} (Pv:Nat→List V→Hp→Prop) (hn:n≤100000) (h0:Pv 0 [] (upd H acc (.lst [])))
  (hgo:∀i out H1,i < n→H1 acc = some (.lst out)→Pv i out H1→J.go i H1) (hst:∀out H1,H1 acc = some (.lst out)→Pv n out H1→J.stop n H1)
  (hs:∀(i:Nat) (x:V) (out:List V) (H1 H2:Hp),i < n→out.length≤i→H1 acc = some (.lst out)→Pv i out H1→J.p5 i H1 x H2→
    tc (σ2.set k (some x)) H2 fun b H3=>if b = true then te (σ2.set k (some x)) H3 (fun v H4=>H4 acc = some (.lst out)∧Pv (i + 1) (out ++ [v]) (upd H4 acc (.lst (out ++ [v])))) else H3 acc = some (.lst out)∧Pv (i + 1) out H3)
  (hd:∀(out:List V) (H1:Hp),out.length≤n→H1 acc = some (.lst out)→Pv n out H1→Q (.ref acc) H1):
  vJ J (iE k) tc te acc σ2 H Q:=by
 refine ⟨fun i m σ' H'=>m = n - i∧i≤n∧(∀w:Option V,σ'.set k w = σ2.set k w)∧∃out,out.length≤i∧H' acc = some (.lst out)∧Pv i out H',⟨n,by simp,Nat.zero_le _,fun _=>rfl,[],Nat.le_refl _,af,h0⟩,?_⟩
 rintro i m σ' H' ⟨rfl,hi,hσ,out,ho,ha,p⟩
 by_cases hlt:i < n
 · refine .inr ⟨hgo i out H' hlt ha p,fun σ3=>∀w:Option V,σ3.set k w = σ2.set k w,fun v H4=>H4 acc = some (.lst out)∧Pv (i + 1) (out ++ [v]) (upd H4 acc (.lst (out ++ [v]))),fun H3=>H3 acc = some (.lst out)∧Pv (i + 1) out H3,fun σ3 v H4 hS ⟨a,b⟩=>?_,fun σ3 H4 hS ⟨a,b⟩=>?_,fun x H1 y=>?_⟩
   · refine ⟨out,a,?_,n - (i + 1),by omega,rfl,hlt,hS,out ++ [v],by rw [List.length_append];exact Nat.succ_le_succ ho,af,b⟩
     have:sizeLine = 16777216:=sizeLine_eq
     omega
   · exact ⟨n - (i + 1),by omega,rfl,hlt,hS,out,by omega,a,b⟩
   · refine ⟨fun w=>by rw [List.set_set];exact hσ w,?_⟩
     rw [hσ]
     exact hs i x out H' H1 hlt ho ha p y
 · have e:i = n:=by omega
   subst e
   exact .inl ⟨hst out H' ha p,hd out H' ho ha p⟩
end L2
namespace L2
open PySem PySem.Spec PyProof.Rows
structure Mn (P:Program) (w:World) (K:PySem.W.Frag) (mg:Str→Option Value) (base:Heap) (k:Nat) (C:Addr) (m:Str) (ps:List Str) (sp:Sp):Prop where
 ex:∃f fd,gG P w K mg base p9 k f fd ps sp∧Binds K fd ps []∧Meth K C m f∧kr K C
structure Cn (P:Program) (w:World) (K:PySem.W.Frag) (mg:Str→Option Value) (base:Heap) (k:Nat) (x:Str) (C:Addr) (ps:List Str) (sp:Sp):Prop where
 ex:∃f fd,gG P w K mg base p9 k f fd ps sp∧Binds K fd ps []∧Mk K C f∧mg x = some (.ref C)
section
variable {X:Cx}
theorem dQ {pl:Sem Bool} {j k:Nat} {C:Addr} {m:Str} {ps:List Str} {sp:Sp} {o e:Expr} {es:List Expr} {ta:TE} {t:TA} {apos pos:Pos} (D:Mn X.prog X.w X.K X.mg X.base j C m ps sp) (hr:cU k X.A) (ho:PE X o ta) (ha:PA X (e :: es) t) (hj:j≤k:=by decide)
  (hst:starEach (e :: es) X.env = (false,eval e X.env) :: starEach es X.env:=by rfl) (hpl:(backTo pos (starEach es X.env)).any (·.1) = false:=by rfl)
  (ht:eval (.Call (.Attribute o m apos) (e :: es) [] pos) X.env = (do
    let ov ← eval o X.env
    standAt apos.atName
    let (f,first) ← holding [ov] (getMethod ov m pl)
    callWith pos f first (backTo pos (starEach (e :: es) X.env)) (backToKw pos (keywordEach [] X.env))):=by rfl):
  PE X (.Call (.Attribute o m apos) (e :: es) [] pos) (z_ C m sp [] E0 ta t):=by
 obtain ⟨f,fd,F,b,hm,c⟩:=D.ex
 exact Kd (pl:=pl) ho c hm F (hr.mono hj) b .nil (fun _ _ _ _ _ _ _ h=>h.elim) ha hst hpl ht
theorem oN {pl:Sem Bool} {j k:Nat} {C:Addr} {m:Str} {ps:List Str} {sp:Sp} {o:Expr} {ta:TE} {apos pos:Pos} (D:Mn X.prog X.w X.K X.mg X.base j C m ps sp) (hr:cU k X.A) (ho:PE X o ta) (hj:j≤k:=by decide)
  (ht:eval (.Call (.Attribute o m apos) [] [] pos) X.env = (do
    let ov ← eval o X.env
    standAt apos.atName
    let (f,first) ← holding [ov] (getMethod ov m pl)
    callWith pos f first (backTo pos (starEach [] X.env)) (backToKw pos (keywordEach [] X.env))):=by rfl):
  PE X (.Call (.Attribute o m apos) [] [] pos) (z_ C m sp [] E0 ta uy):=by
 obtain ⟨f,fd,F,b,hm,c⟩:=D.ex
 exact HG (pl:=pl) ho c hm F (hr.mono hj) b .nil (fun _ _ _ _ _ _ _ h=>h.elim) ht
theorem N5 {j k:Nat} {x:Str} {C:Addr} {ps:List Str} {sp:Sp} {e:Expr} {es:List Expr} {t:TA} {p pos:Pos} (D:Cn X.prog X.w X.K X.mg X.base j x C ps sp) (hr:cU k X.A) (ha:PA X (e :: es) t) (hj:j + 1≤k:=by decide) (hg:Gl X x:=by rfl)
  (hdb:(x == ("__debug__":Str)) = false:=by decide) (he:starEach (e :: es) X.env = (false,eval e X.env) :: starEach es X.env:=by rfl) (hpl:(backTo pos (starEach es X.env)).any (·.1) = false:=by rfl):
  PE X (.Call (.Name x p) (e :: es) [] pos) (Aa C sp [] E0 t):=by
 obtain ⟨f,fd,F,b,M,m⟩:=D.ex
 exact Ke M F (hr.mono hj) hg m b .nil (fun _ _ _ _ _ _ _ h=>h.elim) ha hdb he hpl
theorem Ga {j k:Nat} {x:Str} {C:Addr} {ps:List Str} {sp:Sp} {p pos:Pos} (D:Cn X.prog X.w X.K X.mg X.base j x C ps sp) (hr:cU k X.A) (hj:j + 1≤k:=by decide) (hg:Gl X x:=by rfl)
  (hdb:(x == ("__debug__":Str)) = false:=by decide):PE X (.Call (.Name x p) [] [] pos) (Aa C sp [] E0 uy):=by
 obtain ⟨f,fd,F,b,M,m⟩:=D.ex
 exact HJ M F (hr.mono hj) hg m b .nil (fun _ _ _ _ _ _ _ h=>h.elim) hdb
def N6:V→V→Hp→VK→Prop:=fun x y H Q=>∃i j,x = .int i∧y = .int j∧Ek i j∧Q (.int (i * j)) H
theorem KI:Eg X .Mult N6:=by
 rintro pins s σ H x y u v Q I rx ry ⟨i,j,rfl,rfl,⟨m,n,h1,h2,h3⟩,q⟩
 obtain ⟨t,rfl⟩:=(show ∃t,u = Value.int i t from rx)
 obtain ⟨t',rfl⟩:=(show ∃t',v = Value.int j t' from ry)
 exact PyProof.Rows.imul_int ⟨.int (i * j),H,I.tok _,⟨_,rfl⟩,q⟩ (IntMulOk.of_le (PySem.intBits_le_iff.mpr h1) (PySem.intBits_le_iff.mpr h2) h3)
theorem aL (K:PySem.W.Frag) {e:Expr} {f:Str} {ta:TE} {pos:Pos} (he:PE X e ta) (hb:attributeBase e f X.env (eval e X.env) = eval e X.env:=by rfl) (hK:X.K = K:=by rfl):PE X (.Attribute e f pos) (Lq K ta f):=hK ▸ Lv he hb
theorem cK (K:PySem.W.Frag) {o value:Expr} {f:Str} {ta tv:TE} {pos pos':Pos} (ha:PE X o ta) (hv:PE X value tv) (hs:swapsWith value (some (.Attribute o f pos')) pos.line X.env = pure false:=by rfl) (hK:X.K = K:=by rfl):PS X (.Assign [.Attribute o f pos'] value pos) (Lr K ta tv f):=hK ▸ Lw ha hv hs
theorem vM (K:PySem.W.Frag) {o value:Expr} {f:Str} {ta tv:TE} {pos tpos:Pos} {op:Operator} {rd:V→V→Hp→VK→Prop} (ha:PE X o ta) (hv:PE X value tv) (hop:Eg X op rd) (hK:X.K = K:=by rfl):PS X (.AugAssign (.Attribute o f tpos) op value pos) (Dg K ta tv rd f):=hK ▸ Fc ha hv hop
end
structure gJ (K:PySem.W.Frag) (C:Addr) (m qual:Str) (st:Stmt) (f:Addr) (fd:FuncData):Prop where
 fn:ym K m qual st f fd
 me:Meth K C m f
 cl:kr K C
theorem gJ.ok {P:Program} {w:World} {K:PySem.W.Frag} {mg:Str→Option Value} {base:Heap} {C:Addr} {m qual:Str} {st:Stmt} {f:Addr} {fd:FuncData} {N ps:List Str} {k:Nat} {sp:Sp} (F:gJ K C m qual st f fd) (S:aI N ps (au st)) (len:∀vs H Q E,sp vs H Q E→vs.length = ps.length)
  (hbody:∀(cdv:Value) (A:Around) (outer:List Env) (s:Shared) (H:Hp) (vs:List V) (Q:VK) (E:XK),cU k (A.deeper (envOfC qual (au st) s.heap.objs.size f cdv))→sp vs H Q E→
    ∃t,jK (pA p9 P w K mg base N qual (au st) f cdv A outer s H E).Al (cV st) t∧t { nx:=fun _ H'=>Q .bE H',rt:=Q } (start N vs) H)
  (h:∀(kV doc pm:Value) (an:Option Addr) (cdv ct:Value) (us:List Value),us.length = ps.length→bindArgs (PySem.W.fnOf m qual (dD st) (cV st) (au st) .none kV doc pm an cdv ct) ⟨us,[]⟩ = pure (ps.zip us)):
  Mn P w K mg base (k + 1) C m ps sp:=⟨f,fd,F.fn.ok S len hbody,F.fn.binds h,F.me,F.cl⟩
structure Dv (K:PySem.W.Frag) (mg:Str→Option Value) (x:Str) (C:Addr) (qual:Str) (st:Stmt) (f:Addr) (fd:FuncData):Prop where
 fn:ym K "__init__" qual st f fd
 R5:Mk K C f
 name:mg x = some (.ref C)
theorem Dv.ok {P:Program} {w:World} {K:PySem.W.Frag} {mg:Str→Option Value} {base:Heap} {C:Addr} {x qual:Str} {st:Stmt} {f:Addr} {fd:FuncData} {N ps:List Str} {k:Nat} {sp:Sp} (F:Dv K mg x C qual st f fd) (S:aI N ps (au st)) (len:∀vs H Q E,sp vs H Q E→vs.length = ps.length)
  (hbody:∀(cdv:Value) (A:Around) (outer:List Env) (s:Shared) (H:Hp) (vs:List V) (Q:VK) (E:XK),cU k (A.deeper (envOfC qual (au st) s.heap.objs.size f cdv))→sp vs H Q E→
    ∃t,jK (pA p9 P w K mg base N qual (au st) f cdv A outer s H E).Al (cV st) t∧t { nx:=fun _ H'=>Q .bE H',rt:=Q } (start N vs) H)
  (h:∀(kV doc pm:Value) (an:Option Addr) (cdv ct:Value) (us:List Value),us.length = ps.length→bindArgs (PySem.W.fnOf "__init__" qual (dD st) (cV st) (au st) .none kV doc pm an cdv ct) ⟨us,[]⟩ = pure (ps.zip us)):
  Cn P w K mg base (k + 1) x C ps sp:=⟨f,fd,F.fn.ok S len hbody,F.fn.binds h,F.R5,F.name⟩
end L2
namespace L2
open PySem PySem.Spec PyProof.Rows
abbrev jL:=Nat × Nat × Str
abbrev aW:=Addr→Option jL
abbrev col (n t:Nat):Option jL:=some (n,t,(⟨#[]⟩:Str))
def isTup:HO→Bool
 | .tup _=>true
 | _=>false
def Gh (ρ:aW) (H:Hp):Prop:=∀b c,ρ b = some c→∃o,H b = some o∧isTup o = false
def Fr (n:Nat) (ρ:aW) (H:Hp) (ρ':aW) (H':Hp):Prop:=∀b o,H b = some o→(∀t x,ρ b ≠ some (n,t,x))→H' b = some o∧ρ' b = ρ b
def bC (ρ:aW) (a:Addr) (c:jL):aW:=fun b=>if b = a then some c else ρ b
theorem cg {ρ:aW} {a:Addr} {c:jL}:bC ρ a c a = some c:=if_pos rfl
theorem bu {ρ:aW} {a b:Addr} {c:jL} (h:b ≠ a):bC ρ a c b = ρ b:=if_neg h
def out (ρ:aW) (H:Hp):Hp:=fun b=>if ρ b = none then H b else none
theorem qM {ρ:aW} {H:Hp} {b:Addr} {o:HO} (h:H b = some o) (c:ρ b = none):out ρ H b = some o:=by
 unfold out;rw [if_pos c];exact h
theorem jU {ρ:aW} {H:Hp} {b:Addr} {o:HO} (h:out ρ H b = some o):H b = some o∧ρ b = none:=by
 unfold out at h
 split at h
 · next c=>exact ⟨h,c⟩
 · cases h
theorem Gh.none {ρ:aW} {H:Hp} (g:Gh ρ H) {b:Addr} (h:H b = Option.none):ρ b = Option.none:=by
 cases e:ρ b with
 | none=>rfl
 | some c=>obtain ⟨o,q,_⟩:=g b c e;rw [h] at q;cases q
theorem Gh.tup {ρ:aW} {H:Hp} (g:Gh ρ H) {b:Addr} {xs:List V} (h:H b = some (.tup xs)):ρ b = Option.none:=by
 cases e:ρ b with
 | none=>rfl
 | some c=>obtain ⟨o,q,t⟩:=g b c e;rw [h] at q;cases q;cases t
theorem Gh.same {ρ:aW} {H H':Hp} (g:Gh ρ H) (s:aD H H'):Gh ρ H':=fun b c e=>let ⟨o,h,t⟩:=g b c e;⟨o,s b o h,t⟩
theorem Gh.wr {ρ:aW} {H:Hp} (g:Gh ρ H) {a:Addr} {o:HO} (t:isTup o = false):Gh ρ (upd H a o):=fun b c e=>by
 by_cases h:b = a
 · rw [h,af];exact ⟨o,rfl,t⟩
 · rw [ao h];exact g b c e
theorem Gh.alloc {ρ:aW} {H:Hp} (g:Gh ρ H) {a:Addr} {o:HO} (h:H a = Option.none):Gh ρ (upd H a o):=g.same (aA h o)
theorem Gh.color {ρ:aW} {H:Hp} (g:Gh ρ H) {a:Addr} {c:jL} {o:HO} (h:H a = some o) (t:isTup o = false):Gh (bC ρ a c) H:=fun b d e=>by
 by_cases z:b = a
 · rw [z];exact ⟨o,h,t⟩
 · rw [bu z] at e;exact g b d e
theorem Fr.refl {n:Nat} {ρ:aW} {H:Hp}:Fr n ρ H ρ H:=fun _ _ h _=>⟨h,rfl⟩
theorem Fr.trans {n:Nat} {ρ ρ1 ρ2:aW} {H H1 H2:Hp} (a:Fr n ρ H ρ1 H1) (b:Fr n ρ1 H1 ρ2 H2):Fr n ρ H ρ2 H2:=fun c o h k=>by
 obtain ⟨h1,e1⟩:=a c o h k
 obtain ⟨h2,e2⟩:=b c o h1 (by rw [e1];exact k)
 exact ⟨h2,e2.trans e1⟩
theorem Fr.of_same {n:Nat} {ρ:aW} {H H':Hp} (s:aD H H'):Fr n ρ H ρ H':=fun b o h _=>⟨s b o h,rfl⟩
theorem Fr.write {n:Nat} {ρ:aW} {H:Hp} {a:Addr} {o:HO} {t:Nat} {x:Str} (c:ρ a = some (n,t,x)):Fr n ρ H ρ (upd H a o):=fun b u h k=>by
 have:b ≠ a:=fun e=>k t x (by rw [e];exact c)
 rw [ao this];exact ⟨h,rfl⟩
theorem Fr.color {n:Nat} {ρ:aW} {H:Hp} {a:Addr} {c:jL} (h:H a = none) {H':Hp} (s:aD H H'):Fr n ρ H (bC ρ a c) H':=fun b u e k=>by
 rw [bu (ay e h)];exact ⟨s b u e,rfl⟩
theorem Fr.out {n:Nat} {ρ ρ':aW} {H H':Hp} (f:Fr n ρ H ρ' H'):aD (out ρ H) (out ρ' H'):=fun b o h=>by
 obtain ⟨h1,c⟩:=jU h
 obtain ⟨h2,e⟩:=f b o h1 (fun t x=>by rw [c];intro z;cases z)
 exact qM h2 (e.trans c)
theorem iM {ρ:aW} {H H':Hp} (s:aD H H'):aD (out ρ H) (out ρ H'):=fun b o h=>by
 obtain ⟨h1,c⟩:=jU h
 exact qM (s b o h1) c
structure Pt where
 nm:Str
 ow:Str
 wo:Int
 we:Int
 sc:Int
 row:List Int
structure jM where
 nm:Str
 ow:Str
 wo:Int
 sh:List (Str × Rat)
structure HS where
 own:List Str
 ai:List Pt
 iA:List jM
 nms:List Str
 stp:List Int
 prod:Int
 kn:Nat
 bh:List Int
 bV:List Int
structure HA where
 a:Addr
 dx:Addr
 pl:Addr
 ab:Addr
 as:Addr
 nm:Addr
 bt:Addr
 db:Addr
 cm:Addr
 pu:Addr
 sp:Addr
 kn:Addr
 qs:List (Addr × Addr × Addr)
structure TC where
 hold:Addr
 part:Addr
 bot:Addr
def cZ:Nat→List Str→List (Key × V)
 | _,[]=>[]
 | i,o :: r=>(Sum.inr o, .int i) :: cZ (i + 1) r
def bJ (ps:List Pt) (qs:List (Addr × Addr × Addr)):List (Key × V):=List.zipWith (fun p q=>((Sum.inr p.nm:Key),V.ref q.1)) ps qs
def qN (l:List Str):List (Key × V):=l.map fun x=>(Sum.inr x, .bl true)
def ig (A:HA):List (Str × V):=[("places", .ref A.pl),("aboard", .ref A.ab),("ashore", .ref A.as),("names", .ref A.nm),("bottom", .ref A.bt),("common", .ref A.cm),("purses", .ref A.pu)]
def gK (p:Pt) (r:Addr):List (Str × V):=[("name", .str p.nm),("owner", .str p.ow),("worth", .int p.wo),("weight", .int p.we),("scale", .int p.sc),("row", .ref r)]
def pH (sp:Addr) (prod:Int) (kn:Addr):List (Str × V):=[("steps", .ref sp),("product", .int prod),("known", .ref kn)]
def AW (H:Hp) (kvs:List (Key × V)) (prod:Int):Prop:=∀p∈kvs,∃(t:Int) (r:Addr),p = (Sum.inl t,V.ref r)∧H r = some (jj (Jm.fr t prod))
inductive eV (H:Hp):List V→List (Str × Rat)→Prop
 | nil:eV H [] []
 | cons {r f:Addr} {x:Str} {q:Rat} {vs:List V} {l:List (Str × Rat)}:H r = some (.tup [.str x, .ref f])→H f = some (jj q)→eV H vs l→eV H (.ref r :: vs) ((x,q) :: l)
inductive jm (n:Nat) (ρ:aW) (H:Hp):List V→List jM→Prop
 | nil:jm n ρ H [] []
 | cons {r l:Addr} {x:jM} {ss:List V} {vs:List V} {as:List jM}:H r = some (.tup [.str x.nm, .str x.ow, .int x.wo, .ref l])→H l = some (.lst ss)→ρ l = some (n,30,x.nm)→eV H ss x.sh→jm n ρ H vs as→jm n ρ H (.ref r :: vs) (x :: as)
structure aJ (T:TC) (n:Nat) (ρ:aW) (A:HA) (H:Hp) (st:HS):Prop where
 oa:H A.a = some (.ins T.hold A.dx (ig A))
 ca:ρ A.a = col n 0
 eU:H A.pl = some (.dK (cZ 0 st.own))
 fF:ρ A.pl = col n 1
 cI:H A.ab = some (.dK (bJ st.ai A.qs))
 dN:ρ A.ab = col n 2
 nu:∃vs,H A.as = some (.lst vs)∧jm n ρ H vs st.iA
 f_:ρ A.as = col n 3
 l_:H A.nm = some (.dK (qN st.nms))
 fO:ρ A.nm = col n 4
 i_:H A.bt = some (.ins T.bot A.db (pH A.sp st.prod A.kn))
 fP:ρ A.bt = col n 5
 fQ:H A.cm = some (.lst (st.bh.map V.int))
 gr:ρ A.cm = col n 6
 jN:H A.pu = some (.lst (st.bV.map V.int))
 cpu:ρ A.pu = col n 7
 lz:H A.sp = some (.lst (st.stp.map V.int))
 fR:ρ A.sp = col n 8
 okn:∃kvs,H A.kn = some (.dK kvs)∧AW H kvs st.prod∧kvs.length≤st.kn∧(kvs.map (·.1)).Nodup
 fT:ρ A.kn = col n 9
 ql:A.qs.length = st.ai.length
 opt:∀(i:Nat) (p:Pt) (q:Addr × Addr × Addr),st.ai[i]? = some p→A.qs[i]? = some q→H q.1 = some (.ins T.part q.2.1 (gK p q.2.2))∧H q.2.2 = some (.lst (p.row.map V.int))∧ρ q.1 = some (n,20,p.nm)∧ρ q.2.2 = some (n,21,p.nm)
theorem vN {ρ:aW} {a b:Addr} {c d:jL} (ha:ρ a = some c) (hb:ρ b = some d) (h:c ≠ d):a ≠ b:=fun e=>by
 rw [e,hb] at ha;cases ha;exact h rfl
theorem tN {ρ:aW} {a b:Addr} {c:jL} (ha:ρ a = none) (hb:ρ b = some c):a ≠ b:=fun e=>by rw [e,hb] at ha;cases ha
theorem eV.mono {H H':Hp} {vs:List V} {l:List (Str × Rat)} (h:eV H vs l) (g:∀b xs,H b = some (.tup xs)→H' b = some (.tup xs)):eV H' vs l:=by
 induction h with
 | nil=>exact .nil
 | cons a b _ ih=>exact .cons (g _ _ a) (g _ _ b) ih
def Kp (n:Nat) (ρ ρ':aW) (H H':Hp) (ts:Nat→Bool):Prop:=(∀b xs,H b = some (.tup xs)→H' b = some (.tup xs))∧∀b t x o,ts t = true→ρ b = some (n,t,x)→H b = some o→H' b = some o∧ρ' b = some (n,t,x)
theorem jm.keep {n:Nat} {ρ ρ':aW} {H H':Hp} {vs:List V} {l:List jM} (h:jm n ρ H vs l) {ts:Nat→Bool} (k:Kp n ρ ρ' H H' ts) (e:ts 30 = true):jm n ρ' H' vs l:=by
 induction h with
 | nil=>exact .nil
 | cons a b c d _ ih=>exact .cons (k.1 _ _ a) (k.2 _ _ _ _ e c b).1 (k.2 _ _ _ _ e c b).2 (d.mono k.1) ih
theorem cX {n t:Nat} {x:Str} {ρ:aW} {H:Hp} {a:Addr} {o:HO} (g:Gh ρ H) (c:ρ a = some (n,t,x)):Kp n ρ ρ H (upd H a o) (fun u=>decide (u ≠ t)):=by
 refine ⟨fun b xs h=>?_,fun b u y w hu hc h=>⟨?_,hc⟩⟩
 · rw [ao (tN (g.tup h) c)];exact h
 · rw [ao (vN hc c (fun e=>by cases e;exact absurd hu (by simp)))];exact h
theorem Dw {n:Nat} {ρ:aW} {H H':Hp} {ts:Nat→Bool} (s:aD H H'):Kp n ρ ρ H H' ts:=⟨fun b xs h=>s _ _ h,fun b u y w _ hc h=>⟨s _ _ h,hc⟩⟩
theorem aJ.same {T:TC} {n:Nat} {ρ ρ':aW} {A:HA} {H H':Hp} {st:HS} (h:aJ T n ρ A H st) (k:Kp n ρ ρ' H H' fun _=>true):aJ T n ρ' A H' st:=by
 have z:=fun {b:Addr} {t:Nat} {x:Str} {o:HO} (c:ρ b = some (n,t,x)) (e:H b = some o)=>k.2 b t x o rfl c e
 obtain ⟨vs,h1,h2⟩:=h.nu
 obtain ⟨kvs,k1,k2,k3⟩:=h.okn
 exact ⟨(z h.ca h.oa).1,(z h.ca h.oa).2,(z h.fF h.eU).1,(z h.fF h.eU).2,(z h.dN h.cI).1,(z h.dN h.cI).2,⟨vs,(z h.f_ h1).1,h2.keep k rfl⟩,(z h.f_ h1).2,(z h.fO h.l_).1,(z h.fO h.l_).2,(z h.fP h.i_).1,(z h.fP h.i_).2,
  (z h.gr h.fQ).1,(z h.gr h.fQ).2,(z h.cpu h.jN).1,(z h.cpu h.jN).2,(z h.fR h.lz).1,(z h.fR h.lz).2,⟨kvs,(z h.fT k1).1,fun p hp=>let ⟨t,r,e,q⟩:=k2 p hp;⟨t,r,e,k.1 _ _ q⟩,k3⟩,(z h.fT k1).2,h.ql,
  fun i p q e1 e2=>let ⟨a,b,c,d⟩:=h.opt i p q e1 e2;⟨(z c a).1,(z d b).1,(z c a).2,(z d b).2⟩⟩
theorem aJ.mono {T:TC} {n:Nat} {ρ:aW} {A:HA} {H H':Hp} {st:HS} (h:aJ T n ρ A H st) (s:aD H H'):aJ T n ρ A H' st:=h.same (Dw s)
theorem aJ.other {T:TC} {n m:Nat} {ρ ρ':aW} {A:HA} {H H':Hp} {st:HS} (h:aJ T m ρ A H st) (f:Fr n ρ H ρ' H') (g:Gh ρ H) (e:m ≠ n):aJ T m ρ' A H' st:=
 h.same ⟨fun b xs q=>(f b _ q fun t x=>by rw [g.tup q];intro z;cases z).1,fun b t x o _ c q=>by
   obtain ⟨a,b'⟩:=f b o q fun t' x'=>by rw [c];intro z;cases z;exact e rfl
   exact ⟨a,b'.trans c⟩⟩
theorem xC {p0 p1:Pt}:∀{ps:List Pt} {qs:List (Addr × Addr × Addr)} {i:Nat},ps[i]? = some p0→p1.nm = p0.nm→bJ (ps.set i p1) qs = bJ ps qs
 | [],_,_,h,_=>by simp at h
 | _ :: _,[],_,_,_=>by simp [bJ]
 | p :: ps,q :: qs,0,h,e=>by
   have:p = p0:=by simpa using h
   simp [bJ,e,this]
 | p :: ps,q :: qs,i + 1,h,e=>by
   have:=xC (qs:=qs) (by simpa using h:ps[i]? = some p0) e
   simp only [bJ,List.set_cons_succ,List.zipWith_cons_cons] at this ⊢
   rw [this]
theorem Gb {ps:List Pt} (nd:(ps.map (·.nm)).Nodup) {i j:Nat} {p q:Pt} (h1:ps[i]? = some p) (h2:ps[j]? = some q) (e:p.nm = q.nm):i = j:=by
 have a:(ps.map (·.nm))[i]? = some p.nm:=by rw [List.getElem?_map,h1];rfl
 have b:(ps.map (·.nm))[j]? = some p.nm:=by rw [List.getElem?_map,h2,e];rfl
 exact ur nd a b
theorem KJ {T:TC} {n:Nat} {ρ:aW} {A:HA} {H H':Hp} {st:HS} (h:aJ T n ρ A H st) {ts:Nat→Bool} (k:Kp n ρ ρ H H' ts) (nd:(st.ai.map (·.nm)).Nodup) {i:Nat} {p0 p1:Pt} {q0:Addr × Addr × Addr} (ep:st.ai[i]? = some p0) (eq:A.qs[i]? = some q0) (e1:p1.nm = p0.nm)
  (hw:H' q0.1 = some (.ins T.part q0.2.1 (gK p1 q0.2.2))) (hs:∀{b:Addr} {t:Nat} {x:Str} {o:HO},ρ b = some (n,t,x)→t ≠ 20∨x ≠ p0.nm→H b = some o→H' b = some o) (er:(.lst (p0.row.map V.int):HO) = .lst (p1.row.map V.int)):
  ∀(j:Nat) (p:Pt) (q:Addr × Addr × Addr),(st.ai.set i p1)[j]? = some p→A.qs[j]? = some q→H' q.1 = some (.ins T.part q.2.1 (gK p q.2.2))∧H' q.2.2 = some (.lst (p.row.map V.int))∧ρ q.1 = some (n,20,p.nm)∧ρ q.2.2 = some (n,21,p.nm):=by
 intro j p q ej eq'
 by_cases hj:i = j
 · subst hj
   rw [eq] at eq';cases eq'
   rw [List.getElem?_set_self (List.getElem?_eq_some_iff.mp ep).1] at ej
   cases ej
   obtain ⟨a,b,c,d⟩:=h.opt i p0 q0 ep eq
   exact ⟨hw,by rw [← er];exact hs d (.inl (by decide)) b,by rw [e1];exact c,by rw [e1];exact d⟩
 · rw [List.getElem?_set_ne hj] at ej
   obtain ⟨a,b,c,d⟩:=h.opt j p q ej eq'
   exact ⟨hs c (.inr fun e=>hj (Gb nd ep ej e.symm)) a,hs d (.inl (by decide)) b,c,d⟩
theorem Io {T:TC} {n:Nat} {ρ:aW} {A:HA} {H H':Hp} {st:HS} (h:aJ T n ρ A H st) (nd:(st.ai.map (·.nm)).Nodup) {i:Nat} {p0:Pt} {l:List Int} {q0:Addr × Addr × Addr} (ep:st.ai[i]? = some p0) (eq:A.qs[i]? = some q0)
  (hw:H' q0.2.2 = some (.lst (l.map V.int))) (hs:∀{b:Addr} {t:Nat} {x:Str} {o:HO},ρ b = some (n,t,x)→t ≠ 21∨x ≠ p0.nm→H b = some o→H' b = some o):
  ∀(j:Nat) (p:Pt) (q:Addr × Addr × Addr),(st.ai.set i { p0 with row:=l })[j]? = some p→A.qs[j]? = some q→H' q.1 = some (.ins T.part q.2.1 (gK p q.2.2))∧H' q.2.2 = some (.lst (p.row.map V.int))∧ρ q.1 = some (n,20,p.nm)∧ρ q.2.2 = some (n,21,p.nm):=by
 intro j p q ej eq'
 by_cases hj:i = j
 · subst hj
   rw [eq] at eq';cases eq'
   rw [List.getElem?_set_self (List.getElem?_eq_some_iff.mp ep).1] at ej
   cases ej
   obtain ⟨a,b,c,d⟩:=h.opt i p0 q0 ep eq
   exact ⟨hs c (.inl (by decide)) a,hw,c,d⟩
 · rw [List.getElem?_set_ne hj] at ej
   obtain ⟨a,b,c,d⟩:=h.opt j p q ej eq'
   exact ⟨hs c (.inl (by decide)) a,hs d (.inr fun e=>hj (Gb nd ep ej e.symm)) b,c,d⟩
theorem yw {n t:Nat} {x:Str} {ρ:aW} {H:Hp} {a:Addr} {o:HO} (c:ρ a = some (n,t,x)):∀{b:Addr} {u:Nat} {y:Str} {w:HO},ρ b = some (n,u,y)→u ≠ t∨y ≠ x→H b = some w→upd H a o b = some w:=fun {b u y w} hc hu h=>by
 rw [ao (vN hc c (fun e=>by cases e;rcases hu with z | z <;> exact z rfl))];exact h
theorem aJ.Mc {T:TC} {n:Nat} {ρ:aW} {A:HA} {H:Hp} {st:HS} (h:aJ T n ρ A H st) (g:Gh ρ H) (l:List Str):aJ T n ρ A (upd H A.pl (.dK (cZ 0 l))) { st with own:=l }:=by
 have k:=cX (o:= .dK (cZ 0 l)) g h.fF
 have z:=fun {b:Addr} {t:Nat} {x:Str} {o:HO} (u:decide (t ≠ 1) = true) (c:ρ b = some (n,t,x)) (e:H b = some o)=>(k.2 b t x o u c e).1
 obtain ⟨vs,h1,h2⟩:=h.nu
 obtain ⟨kvs,k1,k2,k3⟩:=h.okn
 exact ⟨z (by decide) h.ca h.oa,h.ca,af,h.fF,z (by decide) h.dN h.cI,h.dN,⟨vs,z (by decide) h.f_ h1,h2.keep k (by decide)⟩,h.f_,z (by decide) h.fO h.l_,h.fO,z (by decide) h.fP h.i_,h.fP,z (by decide) h.gr h.fQ,h.gr,z (by decide) h.cpu h.jN,h.cpu,z (by decide) h.fR h.lz,h.fR,⟨kvs,z (by decide) h.fT k1,fun p hp=>let ⟨t,r,e,q⟩:=k2 p hp;⟨t,r,e,k.1 _ _ q⟩,k3⟩,h.fT,h.ql,fun i p q e1 e2=>let ⟨a,b,c,d⟩:=h.opt i p q e1 e2;⟨z (by decide) c a,z (by decide) d b,c,d⟩⟩
theorem aJ.Gd {T:TC} {n:Nat} {ρ:aW} {A:HA} {H:Hp} {st:HS} (h:aJ T n ρ A H st) (g:Gh ρ H) (ps:List Pt) (qs:List (Addr × Addr × Addr)) (el:qs.length = ps.length) (hp:∀(i:Nat) (p:Pt) (q:Addr × Addr × Addr),ps[i]? = some p→qs[i]? = some q→H q.1 = some (.ins T.part q.2.1 (gK p q.2.2))∧H q.2.2 = some (.lst (p.row.map V.int))∧ρ q.1 = some (n,20,p.nm)∧ρ q.2.2 = some (n,21,p.nm)):aJ T n ρ { A with qs:=qs } (upd H A.ab (.dK (bJ ps qs))) { st with ai:=ps }:=by
 have k:=cX (o:= .dK (bJ ps qs)) g h.dN
 have z:=fun {b:Addr} {t:Nat} {x:Str} {o:HO} (u:decide (t ≠ 2) = true) (c:ρ b = some (n,t,x)) (e:H b = some o)=>(k.2 b t x o u c e).1
 obtain ⟨vs,h1,h2⟩:=h.nu
 obtain ⟨kvs,k1,k2,k3⟩:=h.okn
 exact ⟨z (by decide) h.ca h.oa,h.ca,z (by decide) h.fF h.eU,h.fF,af,h.dN,⟨vs,z (by decide) h.f_ h1,h2.keep k (by decide)⟩,h.f_,z (by decide) h.fO h.l_,h.fO,z (by decide) h.fP h.i_,h.fP,z (by decide) h.gr h.fQ,h.gr,z (by decide) h.cpu h.jN,h.cpu,z (by decide) h.fR h.lz,h.fR,⟨kvs,z (by decide) h.fT k1,fun p hp=>let ⟨t,r,e,q⟩:=k2 p hp;⟨t,r,e,k.1 _ _ q⟩,k3⟩,h.fT,el,fun i p q e1 e2=>let ⟨a,b,c,d⟩:=hp i p q e1 e2;⟨z (by decide) c a,z (by decide) d b,c,d⟩⟩
theorem aJ.Me {T:TC} {n:Nat} {ρ:aW} {A:HA} {H:Hp} {st:HS} (h:aJ T n ρ A H st) (g:Gh ρ H) (l:List Str):aJ T n ρ A (upd H A.nm (.dK (qN l))) { st with nms:=l }:=by
 have k:=cX (o:= .dK (qN l)) g h.fO
 have z:=fun {b:Addr} {t:Nat} {x:Str} {o:HO} (u:decide (t ≠ 4) = true) (c:ρ b = some (n,t,x)) (e:H b = some o)=>(k.2 b t x o u c e).1
 obtain ⟨vs,h1,h2⟩:=h.nu
 obtain ⟨kvs,k1,k2,k3⟩:=h.okn
 exact ⟨z (by decide) h.ca h.oa,h.ca,z (by decide) h.fF h.eU,h.fF,z (by decide) h.dN h.cI,h.dN,⟨vs,z (by decide) h.f_ h1,h2.keep k (by decide)⟩,h.f_,af,h.fO,z (by decide) h.fP h.i_,h.fP,z (by decide) h.gr h.fQ,h.gr,z (by decide) h.cpu h.jN,h.cpu,z (by decide) h.fR h.lz,h.fR,⟨kvs,z (by decide) h.fT k1,fun p hp=>let ⟨t,r,e,q⟩:=k2 p hp;⟨t,r,e,k.1 _ _ q⟩,k3⟩,h.fT,h.ql,fun i p q e1 e2=>let ⟨a,b,c,d⟩:=h.opt i p q e1 e2;⟨z (by decide) c a,z (by decide) d b,c,d⟩⟩
theorem aJ.Mf {T:TC} {n:Nat} {ρ:aW} {A:HA} {H:Hp} {st:HS} (h:aJ T n ρ A H st) (g:Gh ρ H) (l:List Int):aJ T n ρ A (upd H A.cm (.lst (l.map V.int))) { st with bh:=l }:=by
 have k:=cX (o:= .lst (l.map V.int)) g h.gr
 have z:=fun {b:Addr} {t:Nat} {x:Str} {o:HO} (u:decide (t ≠ 6) = true) (c:ρ b = some (n,t,x)) (e:H b = some o)=>(k.2 b t x o u c e).1
 obtain ⟨vs,h1,h2⟩:=h.nu
 obtain ⟨kvs,k1,k2,k3⟩:=h.okn
 exact ⟨z (by decide) h.ca h.oa,h.ca,z (by decide) h.fF h.eU,h.fF,z (by decide) h.dN h.cI,h.dN,⟨vs,z (by decide) h.f_ h1,h2.keep k (by decide)⟩,h.f_,z (by decide) h.fO h.l_,h.fO,z (by decide) h.fP h.i_,h.fP,af,h.gr,z (by decide) h.cpu h.jN,h.cpu,z (by decide) h.fR h.lz,h.fR,⟨kvs,z (by decide) h.fT k1,fun p hp=>let ⟨t,r,e,q⟩:=k2 p hp;⟨t,r,e,k.1 _ _ q⟩,k3⟩,h.fT,h.ql,fun i p q e1 e2=>let ⟨a,b,c,d⟩:=h.opt i p q e1 e2;⟨z (by decide) c a,z (by decide) d b,c,d⟩⟩
theorem aJ.Mg {T:TC} {n:Nat} {ρ:aW} {A:HA} {H:Hp} {st:HS} (h:aJ T n ρ A H st) (g:Gh ρ H) (l:List Int):aJ T n ρ A (upd H A.pu (.lst (l.map V.int))) { st with bV:=l }:=by
 have k:=cX (o:= .lst (l.map V.int)) g h.cpu
 have z:=fun {b:Addr} {t:Nat} {x:Str} {o:HO} (u:decide (t ≠ 7) = true) (c:ρ b = some (n,t,x)) (e:H b = some o)=>(k.2 b t x o u c e).1
 obtain ⟨vs,h1,h2⟩:=h.nu
 obtain ⟨kvs,k1,k2,k3⟩:=h.okn
 exact ⟨z (by decide) h.ca h.oa,h.ca,z (by decide) h.fF h.eU,h.fF,z (by decide) h.dN h.cI,h.dN,⟨vs,z (by decide) h.f_ h1,h2.keep k (by decide)⟩,h.f_,z (by decide) h.fO h.l_,h.fO,z (by decide) h.fP h.i_,h.fP,z (by decide) h.gr h.fQ,h.gr,af,h.cpu,z (by decide) h.fR h.lz,h.fR,⟨kvs,z (by decide) h.fT k1,fun p hp=>let ⟨t,r,e,q⟩:=k2 p hp;⟨t,r,e,k.1 _ _ q⟩,k3⟩,h.fT,h.ql,fun i p q e1 e2=>let ⟨a,b,c,d⟩:=h.opt i p q e1 e2;⟨z (by decide) c a,z (by decide) d b,c,d⟩⟩
theorem aJ.Mh {T:TC} {n:Nat} {ρ:aW} {A:HA} {H:Hp} {st:HS} (h:aJ T n ρ A H st) (g:Gh ρ H) (l:List Int):aJ T n ρ A (upd H A.sp (.lst (l.map V.int))) { st with stp:=l }:=by
 have k:=cX (o:= .lst (l.map V.int)) g h.fR
 have z:=fun {b:Addr} {t:Nat} {x:Str} {o:HO} (u:decide (t ≠ 8) = true) (c:ρ b = some (n,t,x)) (e:H b = some o)=>(k.2 b t x o u c e).1
 obtain ⟨vs,h1,h2⟩:=h.nu
 obtain ⟨kvs,k1,k2,k3⟩:=h.okn
 exact ⟨z (by decide) h.ca h.oa,h.ca,z (by decide) h.fF h.eU,h.fF,z (by decide) h.dN h.cI,h.dN,⟨vs,z (by decide) h.f_ h1,h2.keep k (by decide)⟩,h.f_,z (by decide) h.fO h.l_,h.fO,z (by decide) h.fP h.i_,h.fP,z (by decide) h.gr h.fQ,h.gr,z (by decide) h.cpu h.jN,h.cpu,af,h.fR,⟨kvs,z (by decide) h.fT k1,fun p hp=>let ⟨t,r,e,q⟩:=k2 p hp;⟨t,r,e,k.1 _ _ q⟩,k3⟩,h.fT,h.ql,fun i p q e1 e2=>let ⟨a,b,c,d⟩:=h.opt i p q e1 e2;⟨z (by decide) c a,z (by decide) d b,c,d⟩⟩
theorem aJ.Mi {T:TC} {n:Nat} {ρ:aW} {A:HA} {H:Hp} {st:HS} (h:aJ T n ρ A H st) (g:Gh ρ H) (q:Addr) (l:List Int) (e:H q = some (.lst (l.map V.int))) (c:ρ q = col n 6):aJ T n ρ { A with cm:=q } (upd H A.a (.ins T.hold A.dx (ig { A with cm:=q }))) { st with bh:=l }:=by
 have k:=cX (o:= .ins T.hold A.dx (ig { A with cm:=q })) g h.ca
 have z:=fun {b:Addr} {t:Nat} {x:Str} {o:HO} (u:decide (t ≠ 0) = true) (c:ρ b = some (n,t,x)) (e:H b = some o)=>(k.2 b t x o u c e).1
 obtain ⟨vs,h1,h2⟩:=h.nu
 obtain ⟨kvs,k1,k2,k3⟩:=h.okn
 exact ⟨af,h.ca,z (by decide) h.fF h.eU,h.fF,z (by decide) h.dN h.cI,h.dN,⟨vs,z (by decide) h.f_ h1,h2.keep k (by decide)⟩,h.f_,z (by decide) h.fO h.l_,h.fO,z (by decide) h.fP h.i_,h.fP,z (by decide) c e,c,z (by decide) h.cpu h.jN,h.cpu,z (by decide) h.fR h.lz,h.fR,⟨kvs,z (by decide) h.fT k1,fun p hp=>let ⟨t,r,e,q⟩:=k2 p hp;⟨t,r,e,k.1 _ _ q⟩,k3⟩,h.fT,h.ql,fun i p q e1 e2=>let ⟨a,b,c,d⟩:=h.opt i p q e1 e2;⟨z (by decide) c a,z (by decide) d b,c,d⟩⟩
theorem aJ.Mj {T:TC} {n:Nat} {ρ:aW} {A:HA} {H:Hp} {st:HS} (h:aJ T n ρ A H st) (g:Gh ρ H) (q:Addr) (l:List Int) (e:H q = some (.lst (l.map V.int))) (c:ρ q = col n 7):aJ T n ρ { A with pu:=q } (upd H A.a (.ins T.hold A.dx (ig { A with pu:=q }))) { st with bV:=l }:=by
 have k:=cX (o:= .ins T.hold A.dx (ig { A with pu:=q })) g h.ca
 have z:=fun {b:Addr} {t:Nat} {x:Str} {o:HO} (u:decide (t ≠ 0) = true) (c:ρ b = some (n,t,x)) (e:H b = some o)=>(k.2 b t x o u c e).1
 obtain ⟨vs,h1,h2⟩:=h.nu
 obtain ⟨kvs,k1,k2,k3⟩:=h.okn
 exact ⟨af,h.ca,z (by decide) h.fF h.eU,h.fF,z (by decide) h.dN h.cI,h.dN,⟨vs,z (by decide) h.f_ h1,h2.keep k (by decide)⟩,h.f_,z (by decide) h.fO h.l_,h.fO,z (by decide) h.fP h.i_,h.fP,z (by decide) h.gr h.fQ,h.gr,z (by decide) c e,c,z (by decide) h.fR h.lz,h.fR,⟨kvs,z (by decide) h.fT k1,fun p hp=>let ⟨t,r,e,q⟩:=k2 p hp;⟨t,r,e,k.1 _ _ q⟩,k3⟩,h.fT,h.ql,fun i p q e1 e2=>let ⟨a,b,c,d⟩:=h.opt i p q e1 e2;⟨z (by decide) c a,z (by decide) d b,c,d⟩⟩
theorem aJ.Ml {T:TC} {n:Nat} {ρ:aW} {A:HA} {H:Hp} {st:HS} (h:aJ T n ρ A H st) (g:Gh ρ H) (m:Int) (q:Addr) (e:H q = some (.dK [])) (c:ρ q = col n 9):aJ T n ρ { A with kn:=q } (upd H A.bt (.ins T.bot A.db (pH A.sp m q))) { st with prod:=m,kn:=0 }:=by
 have k:=cX (o:= .ins T.bot A.db (pH A.sp m q)) g h.fP
 have z:=fun {b:Addr} {t:Nat} {x:Str} {o:HO} (u:decide (t ≠ 5) = true) (c:ρ b = some (n,t,x)) (e:H b = some o)=>(k.2 b t x o u c e).1
 obtain ⟨vs,h1,h2⟩:=h.nu
 obtain ⟨kvs,k1,k2,k3⟩:=h.okn
 exact ⟨z (by decide) h.ca h.oa,h.ca,z (by decide) h.fF h.eU,h.fF,z (by decide) h.dN h.cI,h.dN,⟨vs,z (by decide) h.f_ h1,h2.keep k (by decide)⟩,h.f_,z (by decide) h.fO h.l_,h.fO,af,h.fP,z (by decide) h.gr h.fQ,h.gr,z (by decide) h.cpu h.jN,h.cpu,z (by decide) h.fR h.lz,h.fR,⟨[],z (by decide) c e,(fun p hp=>absurd hp (by simp)),Nat.le_refl _,List.nodup_nil⟩,c,h.ql,fun i p q e1 e2=>let ⟨a,b,c,d⟩:=h.opt i p q e1 e2;⟨z (by decide) c a,z (by decide) d b,c,d⟩⟩
theorem aJ.qO {T:TC} {n:Nat} {ρ:aW} {A:HA} {H:Hp} {st:HS} (h:aJ T n ρ A H st) (g:Gh ρ H) {i:Nat} {p0 p1:Pt} {q0:Addr × Addr × Addr} (ep:st.ai[i]? = some p0) (eq:A.qs[i]? = some q0) (e1:p1.nm = p0.nm) (e2:p1.row = p0.row) (nd:(st.ai.map (·.nm)).Nodup):aJ T n ρ A (upd H q0.1 (.ins T.part q0.2.1 (gK p1 q0.2.2))) { st with ai:=st.ai.set i p1 }:=by
 have k:=cX (o:= .ins T.part q0.2.1 (gK p1 q0.2.2)) g (h.opt i p0 q0 ep eq).2.2.1
 have z:=fun {b:Addr} {t:Nat} {x:Str} {o:HO} (u:decide (t ≠ 20) = true) (c:ρ b = some (n,t,x)) (e:H b = some o)=>(k.2 b t x o u c e).1
 obtain ⟨vs,h1,h2⟩:=h.nu
 obtain ⟨kvs,k1,k2,k3⟩:=h.okn
 exact ⟨z (by decide) h.ca h.oa,h.ca,z (by decide) h.fF h.eU,h.fF,by rw [xC ep e1];exact z (by decide) h.dN h.cI,h.dN,⟨vs,z (by decide) h.f_ h1,h2.keep k (by decide)⟩,h.f_,z (by decide) h.fO h.l_,h.fO,z (by decide) h.fP h.i_,h.fP,z (by decide) h.gr h.fQ,h.gr,z (by decide) h.cpu h.jN,h.cpu,z (by decide) h.fR h.lz,h.fR,⟨kvs,z (by decide) h.fT k1,fun p hp=>let ⟨t,r,e,q⟩:=k2 p hp;⟨t,r,e,k.1 _ _ q⟩,k3⟩,h.fT,by rw [List.length_set];exact h.ql,KJ h k nd ep eq e1 af (yw (h.opt i p0 q0 ep eq).2.2.1) (by rw [e2])⟩
theorem aJ.KL {T:TC} {n:Nat} {ρ:aW} {A:HA} {H:Hp} {st:HS} (h:aJ T n ρ A H st) (g:Gh ρ H) {i:Nat} {p0:Pt} {q0:Addr × Addr × Addr} (l:List Int) (ep:st.ai[i]? = some p0) (eq:A.qs[i]? = some q0) (nd:(st.ai.map (·.nm)).Nodup):aJ T n ρ A (upd H q0.2.2 (.lst (l.map V.int))) { st with ai:=st.ai.set i { p0 with row:=l } }:=by
 have k:=cX (o:= .lst (l.map V.int)) g (h.opt i p0 q0 ep eq).2.2.2
 have z:=fun {b:Addr} {t:Nat} {x:Str} {o:HO} (u:decide (t ≠ 21) = true) (c:ρ b = some (n,t,x)) (e:H b = some o)=>(k.2 b t x o u c e).1
 obtain ⟨vs,h1,h2⟩:=h.nu
 obtain ⟨kvs,k1,k2,k3⟩:=h.okn
 exact ⟨z (by decide) h.ca h.oa,h.ca,z (by decide) h.fF h.eU,h.fF,by show _ = some (HO.dK (bJ (st.ai.set i { p0 with row:=l }) A.qs));rw [xC (p1:={ p0 with row:=l }) ep rfl];exact z (by decide) h.dN h.cI,h.dN,⟨vs,z (by decide) h.f_ h1,h2.keep k (by decide)⟩,h.f_,z (by decide) h.fO h.l_,h.fO,z (by decide) h.fP h.i_,h.fP,z (by decide) h.gr h.fQ,h.gr,z (by decide) h.cpu h.jN,h.cpu,z (by decide) h.fR h.lz,h.fR,⟨kvs,z (by decide) h.fT k1,fun p hp=>let ⟨t,r,e,q⟩:=k2 p hp;⟨t,r,e,k.1 _ _ q⟩,k3⟩,h.fT,by rw [List.length_set];exact h.ql,Io h nd ep eq af (yw (h.opt i p0 q0 ep eq).2.2.2)⟩
end L2
namespace L2
open PySem PySem.Spec PyProof.Rows
structure Txt (K:PySem.W.Frag) (T:TC):Prop where
 cH:kr K T.hold
 cP:kr K T.part
 cB:kr K T.bot
 hpl:cM K T.hold "places"
 hab:cM K T.hold "aboard"
 has:cM K T.hold "ashore"
 hnm:cM K T.hold "names"
 vO:cM K T.hold "bottom"
 tO:cM K T.hold "common"
 AX:cM K T.hold "purses"
 Jx:cM K T.part "name"
 pow:cM K T.part "owner"
 Dy:cM K T.part "worth"
 OG:cM K T.part "weight"
 Ge:cM K T.part "scale"
 Jy:cM K T.part "row"
 Mm:cM K T.bot "steps"
 Jz:cM K T.bot "product"
 Gf:cM K T.bot "known"
structure Wf (st:HS):Prop where
 qP:st.own.Nodup
 xD:st.nms.Nodup
 jn:(st.ai.map (·.nm)).Nodup
 sub:∀p∈st.ai,p.nm∈st.nms
 rows:∀p∈st.ai,p.row.length = st.own.length
 ow:∀p∈st.ai,p.ow∈st.own
 fU:st.bh.length = st.own.length
 qQ:st.bV.length = st.own.length
 fq:1≤st.prod
 pI:st.prod = st.stp.foldl (· * ·) 1
 uE:∀s∈st.stp,2≤s
 mh:st.own.length≤100
 xE:st.nms.length≤1000
 pJ:st.ai.length≤1000
 AY:st.stp.length≤100
 uF:st.iA.length≤1000
 JA:st.kn≤1000000
 big:Jm.Sz 8000 st.prod
 mj:∀c∈st.bh,0≤c∧c≤st.prod
 qa:∀p∈st.ai,1≤p.sc∧p.sc≤st.prod
 nS:∀p∈st.ai,∀r∈p.row,-st.prod≤r∧r≤st.prod
 xF:∀p∈st.ai,∀t∈List.zipWith (fun r c=>p.sc * r + c) p.row st.bh,0≤t∧t≤st.prod
 vP:∀p∈st.ai,1≤p.wo∧0≤p.we
 Eu:∀u∈st.bV,Jm.Sz 9000 u
structure HH (T:TC) (n:Nat) (ρ:aW) (A:HA) (H:Hp) (st:HS):Prop where
 g:Gh ρ H
 h:aJ T n ρ A H st
 wf:Wf st
def vQ (T:TC) (n:Nat) (ρ:aW) (A:HA) (H:Hp) (st:HS) (Q:Hp→Prop):Prop:=∀ρ' A' H',HH T n ρ' A' H' st→A'.a = A.a→Fr n ρ H ρ' H'→Q H'
def hs0:HS:=⟨[],[],[],[],[],1,0,[],[]⟩
theorem R6:Wf hs0:=by
 refine ⟨List.nodup_nil,List.nodup_nil,List.nodup_nil,?_,?_,?_,rfl,rfl,?_,rfl,?_,?_,?_,?_,?_,?_,?_,?_,?_,?_,?_,?_,?_,?_⟩ <;> first | (intro _ h;exact absurd h (by simp [hs0])) | decide | (show Jm.Sz 8000 1;exact jk (by decide +kernel))
theorem Dz:∀{l:List Str} {i:Nat} {o:Str},o∈l→cF (cZ i l) (Sum.inr o) = some (.int ((i + l.idxOf o:Nat):Int))
 | [],_,_,h=>by simp at h
 | x :: l,i,o,h=>by
   by_cases e:x = o
   · subst e
     rw [show cZ i (x :: l) = (Sum.inr x, .int i) :: cZ (i + 1) l from rfl,dB rfl]
     simp
   · rw [show cZ i (x :: l) = (Sum.inr x, .int i) :: cZ (i + 1) l from rfl,cN (by intro z;exact e (Sum.inr.inj z))]
     have hm:o∈l:=by
      rcases List.mem_cons.mp h with z | z
      · exact absurd z.symm e
      · exact z
     rw [Dz hm]
     have eb:(x == o) = false:=by simpa using e
     have:(x :: l).idxOf o = l.idxOf o + 1:=by rw [List.idxOf_cons,eb];rfl
     rw [this]
     show some (V.int ((i + 1 + l.idxOf o:Nat):Int)) = some (V.int ((i + (l.idxOf o + 1):Nat):Int))
     rw [show i + 1 + l.idxOf o = i + (l.idxOf o + 1) from by omega]
theorem mq:∀{l:List Str} {i:Nat} {o:Str},o ∉ l→cF (cZ i l) (Sum.inr o) = none
 | [],_,_,_=>rfl
 | x :: l,i,o,h=>by
   rw [show cZ i (x :: l) = (Sum.inr x, .int i) :: cZ (i + 1) l from rfl,cN (fun z=>h (by rw [← Sum.inr.inj z];exact List.mem_cons_self))]
   exact mq fun m=>h (List.mem_cons_of_mem _ m)
theorem lH:∀(l:List Str) (i:Nat),(cZ i l).length = l.length
 | [],_=>rfl
 | _ :: l,i=>by rw [show ∀x,cZ i (x :: l) = (Sum.inr x, .int i) :: cZ (i + 1) l from fun _=>rfl,List.length_cons,List.length_cons,lH l]
theorem AZ:∀(l:List Str) (i:Nat) (o:Str),cZ i (l ++ [o]) = cZ i l ++ [(Sum.inr o, .int ((i + l.length:Nat):Int))]
 | [],i,o=>rfl
 | x :: l,i,o=>by
   show (Sum.inr x,V.int i) :: cZ (i + 1) (l ++ [o]) = _
   rw [AZ l (i + 1) o]
   show _ = (Sum.inr x,V.int i) :: (cZ (i + 1) l ++ _)
   rw [List.length_cons,show i + 1 + l.length = i + (l.length + 1) from by omega]
theorem uG:∀(l:List Str) (i:Nat),(cZ i l).map (fun p=>kV p.1) = l.map V.str
 | [],_=>rfl
 | x :: l,i=>by
   show kV (Sum.inr x) :: (cZ (i + 1) l).map _ = V.str x :: l.map V.str
   rw [uG l]
   rfl
theorem oO {ps:List Pt} {qs:List (Addr × Addr × Addr)} {i:Nat} {p:Pt} {q:Addr × Addr × Addr} (h1:ps[i]? = some p) (h2:qs[i]? = some q):(bJ ps qs)[i]? = some (Sum.inr p.nm, .ref q.1):=by
 unfold bJ
 rw [List.getElem?_zipWith,h1,h2]
theorem oQ {ps:List Pt} {qs:List (Addr × Addr × Addr)} (h:qs.length = ps.length):(bJ ps qs).length = ps.length:=by
 unfold bJ
 rw [List.length_zipWith,h,Nat.min_self]
theorem oR:∀{ps:List Pt} {qs:List (Addr × Addr × Addr)} {i:Nat} {p:Pt} {q:Addr × Addr × Addr},(ps.map (·.nm)).Nodup→ps[i]? = some p→qs[i]? = some q→cF (bJ ps qs) (Sum.inr p.nm) = some (.ref q.1)
 | [],_,_,_,_,_,h,_=>by simp at h
 | _ :: _,[],_,_,_,_,_,h=>by simp at h
 | a :: ps,b :: qs,0,p,q,_,h1,h2=>by
   have e1:a = p:=by simpa using h1
   have e2:b = q:=by simpa using h2
   subst e1 e2
   exact dB rfl
 | a :: ps,b :: qs,i + 1,p,q,nd,h1,h2=>by
   have OH:=List.nodup_cons.mp (show (a.nm :: ps.map (·.nm)).Nodup from nd)
   have JB:ps[i]? = some p:=by simpa using h1
   rw [show bJ (a :: ps) (b :: qs) = (Sum.inr a.nm, .ref b.1) :: bJ ps qs from rfl,cN (fun z=>OH.1 (List.mem_map.mpr ⟨p,List.mem_of_getElem? JB,(Sum.inr.inj z).symm⟩))]
   exact oR OH.2 JB (by simpa using h2)
theorem qR:∀{ps:List Pt} {qs:List (Addr × Addr × Addr)} {x:Str},(∀p∈ps,p.nm ≠ x)→cF (bJ ps qs) (Sum.inr x) = none
 | [],_,_,_=>rfl
 | _ :: _,[],_,_=>rfl
 | a :: ps,b :: qs,x,h=>by
   rw [show bJ (a :: ps) (b :: qs) = (Sum.inr a.nm, .ref b.1) :: bJ ps qs from rfl,cN (fun z=>h a List.mem_cons_self (Sum.inr.inj z))]
   exact qR fun p hp=>h p (List.mem_cons_of_mem _ hp)
theorem Ip {ps:List Pt} {qs:List (Addr × Addr × Addr)} (h:qs.length = ps.length) (p:Pt) (q:Addr × Addr × Addr):bJ (ps ++ [p]) (qs ++ [q]) = bJ ps qs ++ [(Sum.inr p.nm, .ref q.1)] :=by
 unfold bJ
 rw [List.zipWith_append h.symm]
 rfl
theorem qS {l:List Str} {x:Str} (h:x ∉ l):cF (qN l) (Sum.inr x) = none:=by
 unfold qN
 induction l with
 | nil=>rfl
 | cons a l ih=>
   rw [List.map_cons,cN (fun z=>h (by rw [← Sum.inr.inj z];exact List.mem_cons_self))]
   exact ih fun m=>h (List.mem_cons_of_mem _ m)
theorem aJ.find {T:TC} {n:Nat} {ρ:aW} {A:HA} {H:Hp} {st:HS} (h:aJ T n ρ A H st) {i:Nat} {p:Pt} (e:st.ai[i]? = some p):∃q,A.qs[i]? = some q∧H q.1 = some (.ins T.part q.2.1 (gK p q.2.2))∧H q.2.2 = some (.lst (p.row.map V.int))∧ρ q.1 = some (n,20,p.nm)∧ρ q.2.2 = some (n,21,p.nm):=by
 have hi:i < A.qs.length:=by rw [h.ql];exact (List.getElem?_eq_some_iff.mp e).1
 exact ⟨A.qs[i],List.getElem?_eq_getElem hi,h.opt i p _ e (List.getElem?_eq_getElem hi)⟩
def dJ (st:HS) (o:Str):HS:={ st with own:=st.own ++ [o],bh:=st.bh ++ [0],bV:=st.bV ++ [0],ai:=st.ai.map fun p=>{ p with row:=p.row ++ [0] } }
def bF (st:HS) (p:Pt):List Int:=List.zipWith (fun r c=>p.sc * r + c) p.row st.bh
def uH (st:HS) (tops:List Int):List Int:=List.zipWith (fun t c=>t - c) tops st.bh
def vR (st:HS) (p:Pt):HS:={ st with ai:=st.ai ++ [p],nms:=st.nms ++ [p.nm] }
def sQ (st:HS) (x o:Str) (wo we:Int):HS:=vR st ⟨x,o,wo,we,1,uH st ((List.replicate st.own.length 0).set (st.own.idxOf o) st.prod)⟩
def az (st:HS):Int:=(st.ai.map (·.wo)).sum
def vS (st:HS) (p:Pt):List (Str × Rat):=(List.zip st.own (bF st p)).filterMap fun x=>if 0 < x.2 then some (x.1,Jm.fr x.2 st.prod) else none
def sR (p:Pt):HO:= .tup [.str p.nm, .str p.ow, .int p.wo, .int p.we]
inductive fG (H:Hp):List V→List Pt→Prop
 | nil:fG H [] []
 | cons {r:Addr} {p:Pt} {vs:List V} {ps:List Pt}:H r = some (sR p)→fG H vs ps→fG H (.ref r :: vs) (p :: ps)
end L2
namespace L2
open PySem PySem.Spec PyProof.Rows
def A0 (n:Nat) (q1 q2:Addr) (ρ:aW) (H:Hp) (ρ':aW) (H':Hp):Prop:=∀b o,H b = some o→(∀t x,ρ b ≠ some (n,t,x))→b ≠ q1→b ≠ q2→H' b = some o∧ρ' b = ρ b
theorem A0.trans {n:Nat} {q1 q2:Addr} {ρ ρ1 ρ2:aW} {H H1 H2:Hp} (a:A0 n q1 q2 ρ H ρ1 H1) (b:Fr n ρ1 H1 ρ2 H2):A0 n q1 q2 ρ H ρ2 H2:=fun c o h k x y=>by
 obtain ⟨h1,e1⟩:=a c o h k x y
 obtain ⟨h2,e2⟩:=b c o h1 (by rw [e1];exact k)
 exact ⟨h2,e2.trans e1⟩
theorem A0.fr {n:Nat} {q1 q2:Addr} {ρ ρ1 ρ2:aW} {H H1 H2:Hp} (b:A0 n q1 q2 ρ1 H1 ρ2 H2) (a:Fr n ρ H ρ1 H1) (h1:H q1 = none) (h2:H q2 = none):Fr n ρ H ρ2 H2:=fun c o h k=>by
 obtain ⟨e1,e2⟩:=a c o h k
 obtain ⟨e3,e4⟩:=b c o e1 (by rw [e2];exact k) (ay h h1) (ay h h2)
 exact ⟨e3,e4.trans e2⟩
def isNm (o:Str):Bool:=isName o.cps.toList
structure DA (T:TC) (vs:List V) (H:Hp) (Q:VK) (E:XK):Prop where
 ex:∃p dx,vs = [.ref p]∧H p = some (.ins T.bot dx [])∧∀sp kn H',H sp = none→H kn = none→sp ≠ kn→(∀b o,H b = some o→b ≠ p→H' b = some o)→H' p = some (.ins T.bot dx (pH sp 1 kn))→H' sp = some (.lst [])→H' kn = some (.dK [])→Q .bE H'
structure DB (T:TC) (K:PySem.W.Frag) (vs:List V) (H:Hp) (Q:VK) (E:XK):Prop where
 ex:∃(p dx l:Addr) (pt:Pt),vs = [.ref p, .str pt.nm, .str pt.ow, .int pt.wo, .int pt.we, .int pt.sc, .ref l]∧H p = some (.ins T.part dx [])∧av K H l (pt.row.map V.int)∧∀r H',H r = none→(∀b o,H b = some o→b ≠ p→H' b = some o)→H' p = some (.ins T.part dx (gK pt r))→H' r = some (.lst (pt.row.map V.int))→Q .bE H'
structure DC (T:TC) (vs:List V) (H:Hp) (Q:VK) (E:XK):Prop where
 ex:∃p dx ρ n,vs = [.ref p]∧H p = some (.ins T.hold dx [])∧Gh ρ H∧ρ p = none∧∀ρ' A H',A.a = p→HH T n ρ' A H' hs0→(∀b o,H b = some o→b ≠ p→H' b = some o∧ρ' b = ρ b)→Q .bE H'
structure DE (T:TC) (vs:List V) (H:Hp) (Q:VK) (E:XK):Prop where
 ex:∃n ρ A st o,vs = [.ref A.a, .str o]∧aJ T n ρ A H st∧o∈st.own∧Q (.int (st.own.idxOf o:Int)) H
structure uI (T:TC) (vs:List V) (H:Hp) (Q:VK) (E:XK):Prop where
 ex:∃n ρ A st,∃(i:Nat) (p:Pt) (q:Addr × Addr × Addr),vs = [.ref A.a, .str p.nm]∧aJ T n ρ A H st∧(st.ai.map (·.nm)).Nodup∧st.ai[i]? = some p∧A.qs[i]? = some q∧Q (.ref q.1) H
structure vU (T:TC) (vs:List V) (H:Hp) (Q:VK) (E:XK):Prop where
 ex:∃n ρ A st x,vs = [.ref A.a, .str x]∧aJ T n ρ A H st∧isNm x = true∧x ∉ st.nms∧∀H',aD H H'→Q .bE H'
structure JC (T:TC) (K:PySem.W.Frag) (vs:List V) (H:Hp) (Q:VK) (E:XK):Prop where
 ex:∃n ρ A st l,∃tops:List Int,vs = [.ref A.a, .ref l]∧aJ T n ρ A H st∧av K H l (tops.map V.int)∧tops.length = st.bh.length∧tops.length≤1000∧∀r H',aD H H'→H r = none→H' r = some (.lst ((uH st tops).map V.int))→Q (.ref r) H'
structure DF (T:TC) (vs:List V) (H:Hp) (Q:VK) (E:XK):Prop where
 ex:∃n ρ A st,∃(i:Nat) (p:Pt) (q:Addr × Addr × Addr),vs = [.ref A.a, .ref q.1]∧aJ T n ρ A H st∧Wf st∧st.ai[i]? = some p∧A.qs[i]? = some q∧∀r H',aD H H'→H r = none→H' r = some (.lst ((bF st p).map V.int))→Q (.ref r) H'
structure Gg (T:TC) (vs:List V) (H:Hp) (Q:VK) (E:XK):Prop where
 ex:∃n ρ A st,∃(q:Addr × Addr × Addr) (p:Pt),vs = [.ref A.a, .ref q.1]∧HH T n ρ A H st∧H q.1 = some (.ins T.part q.2.1 (gK p q.2.2))∧H q.2.2 = some (.lst (p.row.map V.int))∧ρ q.1 = none∧ρ q.2.2 = none∧p.nm ∉ st.nms∧Wf (vR st p)∧∀ρ' A' H',HH T n ρ' A' H' (vR st p)→A'.a = A.a→A0 n q.1 q.2.2 ρ H ρ' H'→Q .bE H'
structure DG (T:TC) (vs:List V) (H:Hp) (Q:VK) (E:XK):Prop where
 ex:∃n ρ A st o,vs = [.ref A.a, .str o]∧HH T n ρ A H st∧isNm o = true∧o ∉ st.own∧st.own.length < 100∧vQ T n ρ A H (dJ st o) fun H'=>Q .bE H'
structure Gi (T:TC) (vs:List V) (H:Hp) (Q:VK) (E:XK):Prop where
 ex:∃n ρ A st x o wo we,vs = [.ref A.a, .str x, .str o, .int wo, .int we]∧HH T n ρ A H st∧isNm x = true∧x ∉ st.nms∧o∈st.own∧1≤wo∧0≤we∧st.nms.length < 1000∧st.ai.length < 1000∧vQ T n ρ A H (sQ st x o wo we) fun H'=>Q .bE H'
structure DH (T:TC) (vs:List V) (H:Hp) (Q:VK) (E:XK):Prop where
 ex:∃n ρ A st,vs = [.ref A.a]∧aJ T n ρ A H st∧st.ai.length≤1000∧∀r ws H',aD H H'→H r = none→H' r = some (.lst ws)→fG H' ws st.ai→Q (.ref r) H'
structure xG (T:TC) (vs:List V) (H:Hp) (Q:VK) (E:XK):Prop where
 ex:∃n ρ A st,vs = [.ref A.a]∧aJ T n ρ A H st∧st.ai.length≤1000∧∀H',aD H H'→Q (.int (az st)) H'
structure A4 (T:TC) (vs:List V) (H:Hp) (Q:VK) (E:XK):Prop where
 ex:∃n ρ A st,vs = [.ref A.a]∧aJ T n ρ A H st∧∀r,H r = none→Q (.ref r) (upd H r (.lst (st.own.map V.str)))
structure DI (T:TC) (vs:List V) (H:Hp) (Q:VK) (E:XK):Prop where
 ex:∃(bt db sp kn:Addr) (stp:List Int) (prod top:Int),vs = [.ref bt, .int top]∧H bt = some (.ins T.bot db (pH sp prod kn))∧H sp = some (.lst (stp.map V.int))∧prod = stp.foldl (· * ·) 1∧(∀s∈stp,2≤s)∧Jm.Sz 8000 prod∧∀r H',aD H H'→H' r = some (jj (Jm.fr top prod))→Q (.ref r) H'
structure A_ (T:TC) (vs:List V) (H:Hp) (Q:VK) (E:XK):Prop where
 ex:∃(bt db sp kn:Addr) (stp:List Int) (prod top:Int) (kvs:List (Key × V)),vs = [.ref bt, .int top]∧H bt = some (.ins T.bot db (pH sp prod kn))∧H sp = some (.lst (stp.map V.int))∧prod = stp.foldl (· * ·) 1∧(∀s∈stp,2≤s)∧Jm.Sz 8000 prod∧
  H kn = some (.dK kvs)∧AW H kvs prod∧kvs.length < 10000000∧(kvs.map (·.1)).Nodup∧∀r H' kvs',(∀b o,H b = some o→b ≠ kn→H' b = some o)→H' kn = some (.dK kvs')→AW H' kvs' prod→kvs'.length≤kvs.length + 1→(kvs'.map (·.1)).Nodup→H' r = some (jj (Jm.fr top prod))→Q (.ref r) H'
structure yx (T:TC) (vs:List V) (H:Hp) (Q:VK) (E:XK):Prop where
 ex:∃n ρ A st,∃(i:Nat) (p:Pt),vs = [.ref A.a, .str p.nm]∧HH T n ρ A H st∧st.ai[i]? = some p∧st.kn + 100≤1000000∧∀r ws ρ' A' H',HH T n ρ' A' H' { st with kn:=st.kn + 100 }→A'.a = A.a→Fr n ρ H ρ' H'→H r = none→H' r = some (.lst ws)→ρ' r = none→eV H' ws (vS st p)→Q (.ref r) H'
inductive qT (ρ:aW) (H:Hp):List V→List jM→Prop
 | nil:qT ρ H [] []
 | cons {r l:Addr} {x:jM} {ss:List V} {vs:List V} {as:List jM}:H r = some (.tup [.str x.nm, .str x.ow, .int x.wo, .ref l])→H l = some (.lst ss)→ρ l = none→eV H ss x.sh→qT ρ H vs as→qT ρ H (.ref r :: vs) (x :: as)
structure Ba (T:TC) (vs:List V) (H:Hp) (Q:VK) (E:XK):Prop where
 ex:∃n ρ A st,vs = [.ref A.a]∧HH T n ρ A H st∧∀r ws H',aD H H'→H r = none→H' r = some (.lst ws)→qT ρ H' ws st.iA→Q (.ref r) H'
theorem fG.mono {H H':Hp} {vs:List V} {l:List Pt} (h:fG H vs l) (g:∀b xs,H b = some (.tup xs)→H' b = some (.tup xs)):fG H' vs l:=by
 induction h with
 | nil=>exact .nil
 | cons a _ ih=>exact .cons (g _ _ a) ih
theorem fG.snoc {H:Hp} {vs:List V} {l:List Pt} {r:Addr} {p:Pt} (h:fG H vs l) (e:H r = some (sR p)):fG H (vs ++ [.ref r]) (l ++ [p]):=by
 induction h with
 | nil=>exact .cons e .nil
 | cons a _ ih=>exact .cons a ih
theorem eV.snoc {H:Hp} {vs:List V} {l:List (Str × Rat)} {r f:Addr} {x:Str} {q:Rat} (h:eV H vs l) (e:H r = some (.tup [.str x, .ref f])) (e2:H f = some (jj q)):eV H (vs ++ [.ref r]) (l ++ [(x,q)]):=by
 induction h with
 | nil=>exact .cons e e2 .nil
 | cons a b _ ih=>exact .cons a b ih
theorem fV {H:Hp} {p:Addr} {o:HO} (h:H p = none∨∃u,H p = some u∧isTup u = false):∀b xs,H b = some (.tup xs)→upd H p o b = some (.tup xs):=fun b xs e=>by
 rw [ao (fun z=>?_)]
 · exact e
 · rw [z] at e
   rcases h with h | ⟨u,h,t⟩
   · rw [h] at e;cases e
   · rw [h] at e;cases e;cases t
theorem Bb {x:Str} (h:isNm x = true):x.cps.toList.length≤100000:=by
 unfold isNm isName at h
 have:=of_decide_eq_true (Bool.and_eq_true_iff.mp (Bool.and_eq_true_iff.mp h).1).2
 omega
theorem mw {H H1:Hp} {d:Addr} {o:Obj} {kvs:List (Key × V)} (e:H d = some (.dK kvs)) (s:aD (upd H d (.cW o (.dK kvs))) H1):aD H (upd H1 d (.dK kvs)):=fun b u q=>by
 by_cases h:b = d
 · rw [h,e] at q;cases q;rw [h];exact af
 · rw [ao h];exact s b u (by rw [ao h];exact q)
theorem cR {H:Hp} {d b:Addr} {o:Obj} {u:HO} {kvs:List (Key × V)} (e:H d = some (.dK kvs)) (q:H b = some u) (h:∀k,u ≠ .dK k):upd H d (.cW o (.dK kvs)) b = some u:=by
 rw [ao (fun z=>by rw [z,e] at q;cases q;exact h _ rfl)];exact q
theorem iN {H:Hp} {d b:Addr} {o:Obj} {kvs:List (Key × V)} (e:H d = some (.dK kvs)) (q:upd H d (.cW o (.dK kvs)) b = none):H b = none:=by
 by_cases h:b = d
 · rw [h,af] at q;cases q
 · rw [ao h] at q;exact q
theorem aD.tups {H H':Hp} (s:aD H H'):∀b xs,H b = some (.tup xs)→H' b = some (.tup xs):=fun b xs h=>s b _ h
theorem take_snoc {α:Type} {l:List α} {i:Nat} {x:α} (h:l[i]? = some x):l.take (i + 1) = l.take i ++ [x] :=by rw [List.take_add_one,h];rfl
theorem ja {α β γ:Type} (f:α→β→γ) {xs:List α} {ys:List β} {i:Nat} {x:α} {y:β} (h1:xs[i]? = some x) (h2:ys[i]? = some y):List.zipWith f (xs.take (i + 1)) (ys.take (i + 1)) = List.zipWith f (xs.take i) (ys.take i) ++ [f x y] :=by
 have l1:=(List.getElem?_eq_some_iff.mp h1).1
 have l2:=(List.getElem?_eq_some_iff.mp h2).1
 rw [take_snoc h1,take_snoc h2,List.zipWith_append (by rw [List.length_take,List.length_take];omega)]
 rfl
theorem dG {l:List Int} {i:Nat} {v:V} (h:(l.map V.int)[i]? = some v):∃z,v = .int z∧l[i]? = some z:=by
 rw [List.getElem?_map] at h
 obtain ⟨z,hz,rfl⟩:=Option.map_eq_some_iff.mp h
 exact ⟨z,rfl,hz⟩
end L2
namespace L2
open PySem PySem.Spec PyProof.Rows
theorem HH.mono {T:TC} {n:Nat} {ρ:aW} {A:HA} {H H':Hp} {st:HS} (h:HH T n ρ A H st) (s:aD H H'):HH T n ρ A H' st:=⟨h.g.same s,h.h.mono s,h.wf⟩
theorem Bc {n:Nat} {ρ:aW} {H:Hp} {a:Addr} {o u:HO} {ts:Nat→Bool} (c:ρ a = none) (h:H a = some u) (t:isTup u = false):Kp n ρ ρ H (upd H a o) ts:=
 ⟨fV (.inr ⟨u,h,t⟩),fun b x y w _ hc e=>⟨by rw [ao (fun z=>by rw [z,c] at hc;cases hc)];exact e,hc⟩⟩
theorem HH.vV {T:TC} {n:Nat} {ρ:aW} {A:HA} {H:Hp} {st:HS} {a:Addr} {o u:HO} (h:HH T n ρ A H st) (c:ρ a = none) (e:H a = some u) (t:isTup u = false) (t2:isTup o = false):HH T n ρ A (upd H a o) st:=⟨h.g.wr t2,h.h.same (Bc c e t),h.wf⟩
theorem Fr.new {n:Nat} {ρ ρ':aW} {H H':Hp} {a:Addr} {o:HO} (f:Fr n ρ H ρ' H') (h:H a = none):Fr n ρ H ρ' (upd H' a o):=fun b u e k=>by
 rw [ao (ay e h)];exact f b u e k
theorem Gj {α β γ:Type} (f:α→β→γ) {xs:List α} {ys:List β} (h:xs.length = ys.length) (x:α) (y:β):List.zipWith f (xs ++ [x]) (ys ++ [y]) = List.zipWith f xs ys ++ [f x y] :=by
 rw [List.zipWith_append h];rfl
theorem KN {st:HS} (w:Wf st) {o:Str} (h:o ∉ st.own) (hl:st.own.length < 100):Wf (dJ st o):=by
 have P:∀p∈(dJ st o).ai,∃p0∈st.ai,p = { p0 with row:=p0.row ++ [0] }:=fun p hp=>by
  obtain ⟨p0,h0,rfl⟩:=List.mem_map.mp (show p∈st.ai.map _ from hp)
  exact ⟨p0,h0,rfl⟩
 have p1:=w.fq
 refine ⟨?_,w.xD,?_,fun p hp=>?_,fun p hp=>?_,fun p hp=>?_,?_,?_,w.fq,w.pI,w.uE,?_,w.xE,?_,w.AY,w.uF,w.JA,w.big,fun c hc=>?_,fun p hp=>?_,fun p hp r hr=>?_,fun p hp t ht=>?_,fun p hp=>?_,fun u hu=>?_⟩
 · exact i7 w.qP h
 · show ((st.ai.map fun p=>{ p with row:=p.row ++ [0] }).map (·.nm)).Nodup
   rw [List.map_map]
   exact w.jn
 · obtain ⟨p0,h0,rfl⟩:=P p hp
   exact w.sub p0 h0
 · obtain ⟨p0,h0,rfl⟩:=P p hp
   show (p0.row ++ [0]).length = (st.own ++ [o]).length
   rw [List.length_append,List.length_append,w.rows p0 h0]
   rfl
 · obtain ⟨p0,h0,rfl⟩:=P p hp
   exact List.mem_append_left _ (w.ow p0 h0)
 · show (st.bh ++ [0]).length = (st.own ++ [o]).length
   rw [List.length_append,List.length_append,w.fU]
   rfl
 · show (st.bV ++ [0]).length = (st.own ++ [o]).length
   rw [List.length_append,List.length_append,w.qQ]
   rfl
 · show (st.own ++ [o]).length≤100
   rw [List.length_append]
   exact hl
 · show (st.ai.map _).length≤1000
   rw [List.length_map]
   exact w.pJ
 · rcases List.mem_append.mp (show c∈st.bh ++ [0] from hc) with z | z
   · exact w.mj c z
   · rw [List.mem_singleton.mp z];exact ⟨Int.le_refl _,by show (0:Int)≤st.prod;omega⟩
 · obtain ⟨p0,h0,rfl⟩:=P p hp
   exact w.qa p0 h0
 · obtain ⟨p0,h0,rfl⟩:=P p hp
   rcases List.mem_append.mp (show r∈p0.row ++ [0] from hr) with z | z
   · exact w.nS p0 h0 r z
   · rw [List.mem_singleton.mp z];show -st.prod≤0∧0≤st.prod;omega
 · obtain ⟨p0,h0,rfl⟩:=P p hp
   have el:p0.row.length = st.bh.length:=by rw [w.rows p0 h0,w.fU]
   have ht:t∈List.zipWith (fun r c=>p0.sc * r + c) (p0.row ++ [0]) (st.bh ++ [0]):=ht
   rw [Gj _ el _ _] at ht
   rcases List.mem_append.mp ht with z | z
   · exact w.xF p0 h0 t z
   · rw [List.mem_singleton.mp z];show 0≤p0.sc * 0 + 0∧p0.sc * 0 + 0≤st.prod;omega
 · obtain ⟨p0,h0,rfl⟩:=P p hp
   exact w.vP p0 h0
 · rcases List.mem_append.mp (show u∈st.bV ++ [0] from hu) with z | z
   · exact w.Eu u z
   · rw [List.mem_singleton.mp z];exact jk (by decide +kernel)
theorem KO {st:HS} (w:Wf st) {p:Pt} (h1:p.nm ∉ st.nms) (h2:st.nms.length < 1000) (h3:st.ai.length < 1000) (h4:p.row.length = st.own.length) (h5:p.ow∈st.own) (h6:1≤p.sc∧p.sc≤st.prod) (h7:∀r∈p.row,-st.prod≤r∧r≤st.prod)
  (h8:∀t∈List.zipWith (fun r c=>p.sc * r + c) p.row st.bh,0≤t∧t≤st.prod) (h9:1≤p.wo∧0≤p.we):Wf (vR st p):=by
 have P:∀{M:Pt→Prop},(∀x∈st.ai,M x)→M p→∀x∈st.ai ++ [p],M x:=fun a b x hx=>by
  rcases List.mem_append.mp hx with z | z
  · exact a x z
  · rw [List.mem_singleton.mp z];exact b
 refine ⟨w.qP,i7 w.xD h1,?_,P (fun x hx=>List.mem_append_left _ (w.sub x hx)) (List.mem_append_right _ (List.mem_singleton.mpr rfl)),P w.rows h4,P w.ow h5,w.fU,w.qQ,w.fq,w.pI,w.uE,w.mh,?_,?_,w.AY,w.uF,w.JA,w.big,w.mj,P w.qa h6,P w.nS h7,P w.xF h8,P w.vP h9,w.Eu⟩
 · show ((st.ai ++ [p]).map (·.nm)).Nodup
   rw [List.map_append]
   refine i7 w.jn fun m=>?_
   obtain ⟨x,hx,e⟩:=List.mem_map.mp m
   have e:x.nm = p.nm:=e
   exact h1 (by rw [← e];exact w.sub x hx)
 · show (st.nms ++ [p.nm]).length≤1000
   rw [List.length_append];exact h2
 · show (st.ai ++ [p]).length≤1000
   rw [List.length_append];exact h3
theorem pK {α β γ:Type} {f:α→β→γ} {t:γ}:∀{xs:List α} {ys:List β},t∈List.zipWith f xs ys→∃x∈xs,∃y∈ys,t = f x y
 | [],_,h=>by simp at h
 | _ :: _,[],h=>by simp at h
 | x :: xs,y :: ys,h=>by
   rcases List.mem_cons.mp (show t∈f x y :: List.zipWith f xs ys from h) with e | m
   · exact ⟨x,List.mem_cons_self,y,List.mem_cons_self,e⟩
   · obtain ⟨a,ha,b,hb,e⟩:=pK m
     exact ⟨a,List.mem_cons_of_mem _ ha,b,List.mem_cons_of_mem _ hb,e⟩
theorem uJ:∀{ts cs:List Int},List.zipWith (fun r c=>1 * r + c) (List.zipWith (fun t c=>t - c) ts cs) cs = ts.take cs.length
 | [],_=>by simp
 | _ :: _,[]=>by simp
 | t :: ts,c :: cs=>by
   show (1 * (t - c) + c) :: List.zipWith _ (List.zipWith _ ts cs) cs = t :: ts.take cs.length
   rw [uJ]
   congr 1
   omega
theorem pL {n i:Nat} {b t:Int} (h:t∈(List.replicate n 0).set i b):t = 0∨t = b:=by
 rcases List.mem_or_eq_of_mem_set h with z | z
 · exact .inl (List.eq_of_mem_replicate z)
 · exact .inr z
theorem KP {st:HS} (w:Wf st) {x o:Str} {wo we:Int} (h1:x ∉ st.nms) (h2:st.nms.length < 1000) (h3:st.ai.length < 1000) (ho:o∈st.own) (h4:1≤wo) (h5:0≤we):Wf (sQ st x o wo we):=by
 have p1:=w.fq
 refine KO w h1 h2 h3 ?_ ho ⟨Int.le_refl 1,w.fq⟩ (fun r hr=>?_) (fun t ht=>?_) ⟨h4,h5⟩
 · show (List.zipWith _ ((List.replicate st.own.length 0).set _ _) st.bh).length = _
   rw [List.length_zipWith,List.length_set,List.length_replicate,w.fU,Nat.min_self]
 · obtain ⟨t,ht,c,hc,rfl⟩:=pK (show r∈List.zipWith _ _ st.bh from hr)
   have:=w.mj c hc
   rcases pL ht with rfl | rfl <;> omega
 · have e:List.zipWith (fun r c=>1 * r + c) (uH st ((List.replicate st.own.length 0).set (st.own.idxOf o) st.prod)) st.bh = _:=uJ
   have ht:t∈List.zipWith (fun r c=>1 * r + c) (uH st ((List.replicate st.own.length 0).set (st.own.idxOf o) st.prod)) st.bh:=ht
   rw [e] at ht
   rcases pL (List.mem_of_mem_take ht) with rfl | rfl <;> omega
theorem gh {H:Hp} {a b:Addr} {o u:HO} (h:a ≠ b):upd (upd H a o) b u = upd (upd H b u) a o:=by
 funext c
 unfold upd
 by_cases e1:c = b
 · rw [if_pos e1,if_neg (fun z=>h (z.symm.trans e1)),if_pos e1]
 · rw [if_neg e1]
   by_cases e2:c = a
   · rw [if_pos e2,if_pos e2]
   · rw [if_neg e2,if_neg e2,if_neg e1]
theorem pM {H:Hp} {a:Addr} {o:HO} (h:H a = some o):upd H a o = H:=by
 funext c
 unfold upd
 by_cases e:c = a
 · rw [if_pos e,e,h]
 · rw [if_neg e]
theorem Bd {α:Type} (g:α→α) {l:List α} {i:Nat} {p:α} (h:l[i]? = some p):((l.take i).map g ++ l.drop i)[i]? = some p:=by
 have hi:=(List.getElem?_eq_some_iff.mp h).1
 have e:((l.take i).map g).length = i:=by rw [List.length_map,List.length_take];omega
 rw [List.getElem?_append_right (by omega),e,Nat.sub_self,List.getElem?_drop]
 exact h
theorem Be {α:Type} (g:α→α) {l:List α} {i:Nat} {p:α} (h:l[i]? = some p):((l.take i).map g ++ l.drop i).set i (g p) = (l.take (i + 1)).map g ++ l.drop (i + 1):=by
 have hi:=(List.getElem?_eq_some_iff.mp h).1
 have e:((l.take i).map g).length = i:=by rw [List.length_map,List.length_take];omega
 have ep:l[i] = p:=by rw [List.getElem?_eq_getElem hi] at h;exact Option.some.inj h
 rw [List.set_append_right _ _ (by omega),e,Nat.sub_self,List.drop_eq_getElem_cons hi,List.set_cons_zero,take_snoc h,List.map_append,List.append_assoc]
 rfl
theorem jV {α β:Type} (g:α→α) (f:α→β) (hf:∀x,f (g x) = f x) (l:List α) (i:Nat):((l.take i).map g ++ l.drop i).map f = l.map f:=by
 rw [List.map_append,List.map_map,show f ∘ g = f from funext hf,← List.map_append,List.take_append_drop]
theorem jb {ps ps':List Pt} {qs:List (Addr × Addr × Addr)} (h:ps.map (·.nm) = ps'.map (·.nm)):bJ ps qs = bJ ps' qs:=by
 have:∀{ps:List Pt},bJ ps qs = List.zipWith (fun (x:Str) q=>((Sum.inr x:Key),V.ref q.1)) (ps.map (·.nm)) qs:=fun {ps}=>by unfold bJ;rw [List.zipWith_map_left]
 rw [this,this,h]
structure fu (p:Addr) (H:Hp) (ρ:aW) (H':Hp) (ρ':aW) (l:List (Addr × HO × jL)):Prop where
 m:∀e∈l,H' e.1 = some e.2.1∧ρ' e.1 = some e.2.2∧e.1 ≠ p
 k:∀b o,H b = some o→b ≠ p→H' b = some o∧ρ' b = ρ b
 g:Gh ρ' H'
 pp:∃u,H' p = some u
theorem fu.new {p a:Addr} {H H':Hp} {ρ ρ':aW} {l:List (Addr × HO × jL)} {o:HO} {c:jL} (h:fu p H ρ H' ρ' l) (ha:H' a = none) (t:isTup o = false):fu p H ρ (upd H' a o) (bC ρ' a c) ((a,o,c) :: l):=by
 obtain ⟨u,hu⟩:=h.pp
 refine ⟨fun e he=>?_,fun b w hb hp=>?_,(h.g.alloc ha).color af t,u,by rw [ao (ay hu ha)];exact hu⟩
 · rcases List.mem_cons.mp he with rfl | he
   · exact ⟨af,cg,fun z=>by rw [show a = p from z,hu] at ha;cases ha⟩
   · obtain ⟨x,y,z⟩:=h.m e he
     have:e.1 ≠ a:=ay x ha
     rw [ao this,bu this]
     exact ⟨x,y,z⟩
 · obtain ⟨x,y⟩:=h.k b w hb hp
   have:b ≠ a:=ay x ha
   rw [ao this,bu this]
   exact ⟨x,y⟩
theorem fu.wr {p:Addr} {H H':Hp} {ρ ρ':aW} {l:List (Addr × HO × jL)} {u:HO} (h:fu p H ρ H' ρ' l) (t:isTup u = false):fu p H ρ (upd H' p u) ρ' l:=by
 refine ⟨fun e he=>?_,fun b w hb hp=>?_,h.g.wr t,u,af⟩
 · obtain ⟨x,y,z⟩:=h.m e he
   rw [ao z];exact ⟨x,y,z⟩
 · obtain ⟨x,y⟩:=h.k b w hb hp
   rw [ao hp];exact ⟨x,y⟩
theorem fu.same {p:Addr} {H H' vW:Hp} {ρ ρ':aW} {l:List (Addr × HO × jL)} (h:fu p H ρ H' ρ' l) (s:aD H' vW):fu p H ρ vW ρ' l:=by
 obtain ⟨u,hu⟩:=h.pp
 exact ⟨fun e he=>let ⟨x,y,z⟩:=h.m e he;⟨s _ _ x,y,z⟩,fun b w hb hp=>let ⟨x,y⟩:=h.k b w hb hp;⟨s _ _ x,y⟩,h.g.same s,u,s _ _ hu⟩
theorem fu.add {p a:Addr} {H H' H0:Hp} {ρ ρ' ρ0:aW} {l l0:List (Addr × HO × jL)} {o:HO} {c:jL} (h:fu p H ρ H' ρ' l) (ha:H' a = some o) (t:isTup o = false) (h0:fu p H ρ H0 ρ0 l0) (hn:H0 a = none) (hl:∀e∈l,e.1 ≠ a):fu p H ρ H' (bC ρ' a c) ((a,o,c) :: l):=by
 refine ⟨fun e he=>?_,fun b w hb hp=>?_,h.g.color ha t,h.pp⟩
 · rcases List.mem_cons.mp he with rfl | he
   · obtain ⟨u,hu⟩:=h0.pp
     exact ⟨ha,cg,fun z=>by rw [show a = p from z,hu] at hn;cases hn⟩
   · obtain ⟨x,y,z⟩:=h.m e he
     rw [bu (hl e he)]
     exact ⟨x,y,z⟩
 · obtain ⟨x,y⟩:=h.k b w hb hp
   obtain ⟨x0,_⟩:=h0.k b w hb hp
   rw [bu (ay x0 hn)]
   exact ⟨x,y⟩
theorem Bf:∀(l:List Int) (a:Int),l.foldl (· * ·) a = a * l.foldl (· * ·) 1
 | [],a=>by simp
 | s :: l,a=>by
   rw [List.foldl_cons,Bf l (a * s),List.foldl_cons,Bf l (1 * s),Int.one_mul,Int.mul_assoc]
theorem xH (s:Int) (l:List Int):(s :: l).foldl (· * ·) 1 = s * l.foldl (· * ·) 1:=by rw [List.foldl_cons,Bf,Int.one_mul]
theorem KQ (s:Int) (l:List Int):(l ++ [s]).foldl (· * ·) 1 = l.foldl (· * ·) 1 * s:=by rw [List.foldl_append];rfl
theorem Bg:∀{l:List Int},(∀s∈l,2≤s)→1≤l.foldl (· * ·) 1
 | [],_=>by decide
 | s :: l,h=>by
   rw [xH]
   have h1:=h s List.mem_cons_self
   have h2:=Bg (l:=l) fun x hx=>h x (List.mem_cons_of_mem _ hx)
   have:=Int.mul_le_mul (a:=1) (b:=1) (c:=s) (d:=l.foldl (· * ·) 1) (by omega) h2 (by decide) (by omega)
   omega
theorem JD:∀{l:List Int} {s:Int},(∀s∈l,2≤s)→s∈l→s≤l.foldl (· * ·) 1
 | [],_,_,h=>by simp at h
 | a :: l,s,h,m=>by
   rw [xH]
   have h1:=h a List.mem_cons_self
   have h2:=Bg (l:=l) fun x hx=>h x (List.mem_cons_of_mem _ hx)
   rcases List.mem_cons.mp m with rfl | m
   · have:=Int.mul_le_mul_of_nonneg_left h2 (by omega:0≤s)
     omega
   · have h3:=JD (fun x hx=>h x (List.mem_cons_of_mem _ hx)) m
     have:=Int.mul_le_mul_of_nonneg_right (by omega:1≤a) (by omega:0≤l.foldl (· * ·) 1)
     omega
theorem Gk {t d s:Int} (hd:0 < d) (hs:0 < s) (c:Jm.cf t d = 1):Jm.cf (t / Jm.cf t s) (d * (s / Jm.cf t s)) = 1∧0 < d * (s / Jm.cf t s):=by
 have gp:0 < Jm.cf t s:=Jm.vz t s (.inr hs)
 obtain ⟨u,hu⟩:=Jm.kh t s
 obtain ⟨v,hv⟩:=Jm.jh t s
 generalize eg:Jm.cf t s = g at *
 have e1:t / g = u:=by rw [hu,Int.mul_ediv_cancel_left _ (by omega)]
 have e2:s / g = v:=by rw [hv,Int.mul_ediv_cancel_left _ (by omega)]
 have vp:0 < v:=by
  rcases Int.lt_or_le 0 v with z | z
  · exact z
  · have:=Int.mul_le_mul_of_nonneg_left z (by omega:0≤g)
    omega
 rw [e1,e2]
 have c0:Nat.Coprime t.natAbs d.natAbs:=by unfold Jm.cf at c;exact_mod_cast c
 have c1:Nat.Coprime u.natAbs d.natAbs:=Nat.Coprime.coprime_dvd_left ⟨g.natAbs,by rw [hu,Int.natAbs_mul,Nat.mul_comm]⟩ c0
 have c2:Nat.Coprime u.natAbs v.natAbs:=by
  have hg:Int.gcd t s = g.natAbs:=by unfold Jm.cf at eg;omega
  have JE:Nat.gcd t.natAbs s.natAbs = g.natAbs:=hg
  have:=Nat.coprime_div_gcd_div_gcd (m:=t.natAbs) (n:=s.natAbs) (by rw [JE];omega)
  rw [JE] at this
  have gn:0 < g.natAbs:=by omega
  rw [hu,hv,Int.natAbs_mul,Int.natAbs_mul,Nat.mul_div_cancel_left _ gn,Nat.mul_div_cancel_left _ gn] at this
  exact this
 refine ⟨?_,Int.mul_pos hd vp⟩
 have:=Nat.Coprime.mul_right c1 c2
 rw [← Int.natAbs_mul] at this
 unfold Jm.cf
 exact_mod_cast this
theorem Iq {κ:Type} [DecidableEq κ] {kvs:List (κ × V)} {k:κ} {v:V} (h:cF kvs k = some v):(k,v)∈kvs:=by
 unfold cF at h
 obtain ⟨p,hp,rfl⟩:=Option.map_eq_some_iff.mp h
 have:=List.find?_some hp
 have e:p.1 = k:=of_decide_eq_true this
 rw [← e]
 exact List.mem_of_find?_eq_some hp
theorem aJ.Ir {T:TC} {n:Nat} {ρ:aW} {A:HA} {H H':Hp} {st:HS} (h:aJ T n ρ A H st) (k:∀b o,H b = some o→b ≠ A.kn→H' b = some o) {kvs:List (Key × V)} {m:Nat} (e1:H' A.kn = some (.dK kvs)) (e2:AW H' kvs st.prod) (e3:kvs.length≤m) (e4:(kvs.map (·.1)).Nodup):aJ T n ρ A H' { st with kn:=m }:=by
 obtain ⟨UG,k0,_⟩:=h.okn
 have z:=fun {b:Addr} {t:Nat} {x:Str} {o:HO} (u:t ≠ 9) (c:ρ b = some (n,t,x)) (e:H b = some o)=>k b o e (vN c h.fT (fun w=>by cases w;exact u rfl))
 have tp:∀b xs,H b = some (.tup xs)→H' b = some (.tup xs):=fun b xs e=>k b _ e (eL e k0 (by intro w;cases w))
 obtain ⟨vs,h1,h2⟩:=h.nu
 have kp:Kp n ρ ρ H H' fun t=>decide (t ≠ 9):=⟨tp,fun b t x o u c e=>⟨z (of_decide_eq_true u) c e,c⟩⟩
 exact ⟨z (by decide) h.ca h.oa,h.ca,z (by decide) h.fF h.eU,h.fF,z (by decide) h.dN h.cI,h.dN,⟨vs,z (by decide) h.f_ h1,h2.keep kp (by decide)⟩,h.f_,z (by decide) h.fO h.l_,h.fO,z (by decide) h.fP h.i_,h.fP,z (by decide) h.gr h.fQ,h.gr,z (by decide) h.cpu h.jN,h.cpu,z (by decide) h.fR h.lz,h.fR,⟨kvs,e1,e2,e3,e4⟩,h.fT,h.ql,
  fun i p q a b=>let ⟨x,y,c,d⟩:=h.opt i p q a b;⟨z (by decide) c x,z (by decide) d y,c,d⟩⟩
theorem N7 {st:HS} (w:Wf st) {m:Nat} (h:m≤1000000):Wf { st with kn:=m }:=⟨w.qP,w.xD,w.jn,w.sub,w.rows,w.ow,w.fU,w.qQ,w.fq,w.pI,w.uE,w.mh,w.xE,w.pJ,w.AY,w.uF,h,w.big,w.mj,w.qa,w.nS,w.xF,w.vP,w.Eu⟩
theorem jm.length {n:Nat} {ρ:aW} {H:Hp} {vs:List V} {l:List jM} (h:jm n ρ H vs l):vs.length = l.length:=by
 induction h with
 | nil=>rfl
 | cons _ _ _ _ _ ih=>simp [ih]
theorem jm.get {n:Nat} {ρ:aW} {H:Hp} {vs:List V} {l:List jM} (h:jm n ρ H vs l):∀{i:Nat} {x:V},vs[i]? = some x→∃r q y ss,x = .ref r∧l[i]? = some y∧H r = some (.tup [.str y.nm, .str y.ow, .int y.wo, .ref q])∧H q = some (.lst ss)∧ρ q = some (n,30,y.nm)∧eV H ss y.sh:=by
 induction h with
 | nil=>intro i x e;simp at e
 | @cons r q y ss vs as a b c d _ ih=>
   intro i x e
   cases i with
   | zero=>simp at e;subst e;exact ⟨r,q,y,ss,rfl,rfl,a,b,c,d⟩
   | succ i=>simp at e;obtain ⟨r',q',y',ss',e1,e2,e3⟩:=ih e;exact ⟨r',q',y',ss',e1,by simpa using e2,e3⟩
inductive gi (a:Addr) (ρ:aW) (H:Hp):List V→List jM→Prop
 | nil:gi a ρ H [] []
 | cons {r l:Addr} {x:jM} {ss:List V} {vs:List V} {as:List jM}:H r = some (.tup [.str x.nm, .str x.ow, .int x.wo, .ref l])→H l = some (.lst ss)→ρ l = none→l ≠ a→eV H ss x.sh→gi a ρ H vs as→gi a ρ H (.ref r :: vs) (x :: as)
theorem gi.to {a:Addr} {ρ:aW} {H:Hp} {vs:List V} {l:List jM} (h:gi a ρ H vs l):qT ρ H vs l:=by
 induction h with
 | nil=>exact .nil
 | cons x y z _ w _ ih=>exact .cons x y z w ih
theorem gi.mono {a:Addr} {ρ:aW} {H H':Hp} {vs:List V} {l:List jM} (h:gi a ρ H vs l) (g:aD H H'):gi a ρ H' vs l:=by
 induction h with
 | nil=>exact .nil
 | cons x y z n w _ ih=>exact .cons (g _ _ x) (g _ _ y) z n (w.mono g.tups) ih
theorem gi.upd {a:Addr} {ρ:aW} {H:Hp} {vs:List V} {l:List jM} {xs ys:List V} (h:gi a ρ H vs l) (ha:H a = some (.lst xs)):gi a ρ (L2.upd H a (.lst ys)) vs l:=by
 induction h with
 | nil=>exact .nil
 | cons x y z n w _ ih=>exact .cons (fV (.inr ⟨_,ha,rfl⟩) _ _ x) (by rw [ao n];exact y) z n (w.mono (fV (.inr ⟨_,ha,rfl⟩))) ih
theorem gi.snoc {a:Addr} {ρ:aW} {H:Hp} {vs:List V} {as:List jM} {r l:Addr} {x:jM} {ss:List V} (h:gi a ρ H vs as) (e1:H r = some (.tup [.str x.nm, .str x.ow, .int x.wo, .ref l])) (e2:H l = some (.lst ss)) (e3:ρ l = none) (e5:l ≠ a) (e4:eV H ss x.sh):gi a ρ H (vs ++ [.ref r]) (as ++ [x]):=by
 induction h with
 | nil=>exact .cons e1 e2 e3 e5 e4 .nil
 | cons x y z n w _ ih=>exact .cons x y z n w ih
end L2
namespace L2
open PySem PySem.Spec PyProof.Rows
def Sq (K:PySem.W.Frag) (H:Hp) (r:Addr) (xs:List V):Prop:=av K H r xs∨cA K H r xs
theorem aD.sq {K:PySem.W.Frag} {H H':Hp} {r:Addr} {xs:List V} (g:aD H H') (h:Sq K H r xs):Sq K H' r xs:=h.elim (fun z=> .inl (g.seq z)) fun z=> .inr (g.tup z)
structure qU (K:PySem.W.Frag) (H:Hp) (us:List V) (ps:List Pt):Prop where
 len:us.length = ps.length
 at_:∀(i:Nat) (p:Pt),ps[i]? = some p→∃r xs,us[i]? = some (.ref r)∧Sq K H r xs∧xs[0]? = some (.str p.nm)∧xs[1]? = some (.str p.ow)∧xs[2]? = some (.int p.wo)∧xs[3]? = some (.int p.we)
theorem qU.mono {K:PySem.W.Frag} {H H':Hp} {us:List V} {ps:List Pt} (h:qU K H us ps) (g:aD H H'):qU K H' us ps:=⟨h.len,fun i p e=>let ⟨r,xs,a,b,c⟩:=h.at_ i p e;⟨r,xs,a,g.sq b,c⟩⟩
def Mp (ps:List Pt):Prop:=∀p∈ps,PyData.strOk p.nm = true∧PyData.strOk p.ow = true
structure vX (K:PySem.W.Frag) (vs:List V) (H:Hp) (Q:VK) (E:XK):Prop where
 ex:∃(r l:Addr) (ws us:List V) (ps:List Pt),vs = [.ref r, .ref l]∧H r = some (.lst ws)∧fG H ws ps∧av K H l us∧qU K H us ps∧Mp ps∧ps.length≤1000∧∀H',aD H H'→Q (.bl true) H'
def cY (own:List Str) (tops:List Int) (b:Int):List (Str × Rat):=(List.zip own tops).filterMap fun x=>if 0 < x.2 then some (x.1,Jm.fr x.2 b) else none
structure nT (K:PySem.W.Frag) (vs:List V) (H:Hp) (Q:VK) (E:XK):Prop where
 ex:∃(r lo lt:Addr) (ws:List V) (own:List Str) (tops:List Int) (b:Int),vs = [.ref r, .ref lo, .ref lt, .int b]∧H r = some (.lst ws)∧eV H ws (cY own tops b)∧av K H lo (own.map V.str)∧av K H lt (tops.map V.int)∧own.length = tops.length∧own.length≤1000∧0 < b∧Jm.Sz 9000 b∧∀H',aD H H'→Q (.bl true) H'
theorem fG.length {H:Hp} {vs:List V} {l:List Pt} (h:fG H vs l):vs.length = l.length:=by
 induction h with
 | nil=>rfl
 | cons _ _ ih=>simp [ih]
theorem fG.get {H:Hp} {vs:List V} {l:List Pt} (h:fG H vs l):∀{i:Nat} {p:Pt},l[i]? = some p→∃r,vs[i]? = some (.ref r)∧H r = some (sR p):=by
 induction h with
 | nil=>intro i p e;simp at e
 | @cons r q vs ps a _ ih=>
   intro i p e
   cases i with
   | zero=>simp at e;subst e;exact ⟨r,rfl,a⟩
   | succ i=>simp at e;obtain ⟨r',e1,e2⟩:=ih e;exact ⟨r',by simpa using e1,e2⟩
theorem eV.length {H:Hp} {vs:List V} {l:List (Str × Rat)} (h:eV H vs l):vs.length = l.length:=by
 induction h with
 | nil=>rfl
 | cons _ _ _ ih=>simp [ih]
theorem eV.get {H:Hp} {vs:List V} {l:List (Str × Rat)} (h:eV H vs l):∀{i:Nat} {x:Str} {q:Rat},l[i]? = some (x,q)→∃r f,vs[i]? = some (.ref r)∧H r = some (.tup [.str x, .ref f])∧H f = some (jj q):=by
 induction h with
 | nil=>intro i x q e;simp at e
 | @cons r f x q vs l a b _ ih=>
   intro i y p e
   cases i with
   | zero=>simp at e;obtain ⟨rfl,rfl⟩:=e;exact ⟨r,f,rfl,a,b⟩
   | succ i=>simp at e;obtain ⟨r',f',e1,e2⟩:=ih e;exact ⟨r',f',by simpa using e1,e2⟩
def sS (p:Pt):PyData:= .tuple [.str p.nm, .str p.ow, .int p.wo, .int p.we]
theorem DJ {K:PySem.W.Frag} {H:Hp} {r:Addr} {p:Pt} (h:H r = some (sR p)):Dt K H (.ref r) (sS p):= .tup (cA.of h) (.cons (.str _) (.cons (.str _) (.cons (.int _) (.cons (.int _) .nil))))
theorem tP {p:Pt} (h1:PyData.strOk p.nm = true) (h2:PyData.strOk p.ow = true):SeqAt.shaped (sS p) = true:=by
 unfold sS SeqAt.shaped
 refine Bool.and_eq_true_iff.mpr ⟨?_,rfl⟩
 simp [PyData.canLay0,PyData.canLayAll0,h1,h2]
theorem Iu (p:Pt):PyData.eqv (sS p) (sS p) = true:=by
 unfold sS
 simp [PyData.eqv,PyData.eqvAll]
def uK (x:Str):Prop:=lY x.cps.toList
theorem Ew:∀i:Fin 26,yp "abcdefghijklmnopqrstuvwxyz" (97 + i.val) = true:=by decide +kernel
theorem uK.isNm {x:Str} (h:uK x):L2.isNm x = true:=by
 unfold L2.isNm isName
 have h1:=h.lo
 have h2:=h.hi
 refine Bool.and_eq_true_iff.mpr ⟨Bool.and_eq_true_iff.mpr ⟨decide_eq_true (by omega),decide_eq_true (by omega)⟩,List.all_eq_true.mpr fun c hc=>?_⟩
 have h3:=h.Dp c hc
 have:=Ew ⟨c - 97,by omega⟩
 rw [show 97 + (c - 97) = c from by omega] at this
 exact this
theorem uK.strOk {x:Str} (h:uK x):PyData.strOk x = true:=by
 unfold PyData.strOk
 rw [Array.all_eq_true']
 intro c hc
 have:=h.Dp c (by simpa using hc)
 exact decide_eq_true (by omega)
structure DK (T:TC) (K:PySem.W.Frag) (vs:List V) (H:Hp) (Q:VK) (E:XK):Prop where
 ex:∃(l:Addr) (own:List Str) (n:Nat) (ρ:aW),vs = [.ref l]∧av K H l (own.map V.str)∧ρ l = none∧own.Nodup∧(∀o∈own,isNm o = true)∧own.length≤100∧Gh ρ H∧∀ρ' A H',HH T n ρ' A H' (own.foldl dJ hs0)→Fr n ρ H ρ' H'→Q (.ref A.a) H'
theorem qV:∀(l:List Str) (st:HS),(l.foldl dJ st).own = st.own ++ l
 | [],st=>by simp
 | o :: l,st=>by
   rw [List.foldl_cons,qV l]
   show (st.own ++ [o]) ++ l = _
   rw [List.append_assoc]
   rfl
theorem jc (K:PySem.W.Frag) {X:Cx} (hK:X.K = K:=by rfl):p6 X (LB K):=hK ▸ LC
theorem Sq.ix {K:PySem.W.Frag} {H:Hp} {r:Addr} {xs:List V} {i:Nat} {v:V} {Q:VK} (h:Sq K H r xs) (e:xs[i]? = some v) (q:Q v H):LB K (.ref r) (.int (i:Int)) H Q:=by
 rcases h with h | h
 · exact .inl ⟨r,xs,i,v,rfl,rfl,h,bB e,q⟩
 · exact .inr (.inl ⟨r,xs,i,v,rfl,rfl,h,bB e,q⟩)
theorem zj {own:List Str} {tops:List Int} {b:Int} (hb:0 < b) {m:Nat} (hz:Jm.Sz m b) {x:Str} {q:Rat} (h:(x,q)∈cY own tops b):Jm.Sz m (q.den:Int):=by
 unfold cY at h
 obtain ⟨y,_,e⟩:=List.mem_filterMap.mp h
 by_cases c:0 < y.2
 · rw [if_pos c] at e
   cases e
   refine hz.of_le ?_
   have:=Jm.Fz y.2 b hb
   omega
 · rw [if_neg c] at e;cases e
theorem Fr.at {n:Nat} {ρ ρ':aW} {H H':Hp} (f:Fr n ρ H ρ' H') {b:Addr} {o:HO} (e:H b = some o) (c:ρ b = none):H' b = some o∧ρ' b = none:=by
 obtain ⟨a,d⟩:=f b o e (fun t x=>by rw [c];intro z;cases z)
 exact ⟨a,d.trans c⟩
theorem Fr.seq {K:PySem.W.Frag} {n:Nat} {ρ ρ':aW} {H H':Hp} (f:Fr n ρ H ρ' H') {l:Addr} {xs:List V} (h:av K H l xs) (c:ρ l = none):av K H' l xs:=by
 rcases h with (h | ⟨o,h⟩) | h
 · exact .inl (.inl (f.at h c).1)
 · exact .inl (.inr ⟨o,(f.at h c).1⟩)
 · exact .inr h
theorem Fr.tup {n:Nat} {ρ ρ':aW} {H H':Hp} (f:Fr n ρ H ρ' H') (g:Gh ρ H):∀b xs,H b = some (.tup xs)→H' b = some (.tup xs):=fun b xs e=>(f.at e (g.tup e)).1
end L2
namespace L2
open PySem PySem.Spec PyProof.Rows
def vY (nss:List (List Nat)):List Str:=nss.map tx
theorem KR (nss:List (List Nat)):lZ nss = (vY nss).map V.str:=by unfold lZ vY;rw [List.map_map];rfl
theorem yy {nss:List (List Nat)} (h:nss.Nodup):(vY nss).Nodup:=by
 unfold vY
 exact List.Pairwise.map tx (fun a b hab e=>hab (FQ e)) h
theorem Gm {nss:List (List Nat)} (h:∀x∈nss,lY x):∀o∈vY nss,uK o:=fun o ho=>by
 obtain ⟨x,hx,rfl⟩:=List.mem_map.mp ho
 show lY (tx x).cps.toList
 rw [show (tx x).cps.toList = x from by simp]
 exact h x hx
theorem DL (nss:List (List Nat)):(vY nss).length = nss.length:=by unfold vY;rw [List.length_map]
theorem Iw {l:List Str} {d:Int} (h0:0≤d) (h1:d < (l.length:Int)):∃(j:Nat) (o:Str),d = (j:Int)∧l[j]? = some o∧oG (l.map V.str) d = some (.str o):=by
 obtain ⟨j,rfl⟩:∃j:Nat,d = (j:Int):=⟨d.toNat,by omega⟩
 have hj:j < l.length:=by omega
 exact ⟨j,l[j],rfl,List.getElem?_eq_getElem hj,bB (by rw [List.getElem?_map,List.getElem?_eq_getElem hj];rfl)⟩
section
variable {T:TC} {n:Nat} {L H:Hp} {x lp:Addr} {st:HS} {ps:List Pt}
end
theorem fW {α:Type} {l:List α} (nd:l.Nodup) {i:Nat} {x:α} (h:l[i]? = some x):x ∉ l.take i:=fun m=>by
 have h2:(l.take (i + 1)).Nodup:=nd.sublist (List.take_sublist _ _)
 rw [take_snoc h] at h2
 exact (List.nodup_append.mp h2).2.2 x m x (List.mem_singleton.mpr rfl) rfl
end L2
namespace L2
open PySem PySem.Spec PyProof.Rows
abbrev Row:=Str × Int
def qW (r:Row):HO:= .tup [.str r.1, .int r.2]
inductive c5 (H:Hp):List V→List Row→Prop
 | nil:c5 H [] []
 | cons {a:Addr} {r:Row} {vs:List V} {rs:List Row}:H a = some (qW r)→c5 H vs rs→c5 H (.ref a :: vs) (r :: rs)
theorem c5.mono {H H':Hp} {vs:List V} {l:List Row} (h:c5 H vs l) (g:∀b xs,H b = some (.tup xs)→H' b = some (.tup xs)):c5 H' vs l:=by
 induction h with
 | nil=>exact .nil
 | cons a _ ih=>exact .cons (g _ _ a) ih
theorem c5.length {H:Hp} {vs:List V} {l:List Row} (h:c5 H vs l):vs.length = l.length:=by
 induction h with
 | nil=>rfl
 | cons _ _ ih=>simp [ih]
theorem c5.get {H:Hp} {vs:List V} {l:List Row} (h:c5 H vs l):∀{i:Nat} {x:V},vs[i]? = some x→∃a r,x = .ref a∧l[i]? = some r∧H a = some (qW r):=by
 induction h with
 | nil=>intro i x e;simp at e
 | @cons a r vs rs e0 _ ih=>
   intro i x e
   cases i with
   | zero=>simp at e;subst e;exact ⟨a,r,rfl,rfl,e0⟩
   | succ i=>simp at e;obtain ⟨a',r',e1,e2,e3⟩:=ih e;exact ⟨a',r',e1,by simpa using e2,e3⟩
theorem c5.snoc {H:Hp} {vs:List V} {l:List Row} {a:Addr} {r:Row} (h:c5 H vs l) (e:H a = some (qW r)):c5 H (vs ++ [.ref a]) (l ++ [r]):=by
 induction h with
 | nil=>exact .cons e .nil
 | cons a _ ih=>exact .cons a ih
def dR (rs:List Row):List (Key × V):=rs.map fun r=>((Sum.inr r.1:Key),V.int r.2)
theorem pN (rs:List Row):(dR rs).length = rs.length:=by unfold dR;rw [List.length_map]
theorem yz {rs:List Row} {x:Str} (h:x ∉ rs.map (·.1)):cF (dR rs) (Sum.inr x) = none:=by
 unfold dR
 induction rs with
 | nil=>rfl
 | cons a l ih=>
   rw [List.map_cons,cN (fun z=>h (by rw [List.map_cons,← Sum.inr.inj z];exact List.mem_cons_self))]
   exact ih fun m=>h (by rw [List.map_cons];exact List.mem_cons_of_mem _ m)
def aC (rs:List Row):Int:=(rs.map (·.2)).sum
def dH (st:HS) (x:Str):Pt:=(st.ai.find? fun p=>decide (p.nm = x)).getD ⟨x,x,0,0,1,[]⟩
theorem DM {st:HS} (nd:(st.ai.map (·.nm)).Nodup) {i:Nat} {p:Pt} (h:st.ai[i]? = some p):dH st p.nm = p:=by
 unfold dH
 have:st.ai.find? (fun q=>decide (q.nm = p.nm)) = some p:=by
  generalize st.ai = ps at *
  induction ps generalizing i with
  | nil=>simp at h
  | cons a ps ih=>
    obtain ⟨h1,h2⟩:=List.nodup_cons.mp (show (a.nm :: ps.map (·.nm)).Nodup from nd)
    cases i with
    | zero=>
      have:a = p:=by simpa using h
      subst this
      rw [List.find?_cons,decide_eq_true rfl]
    | succ i=>
      have h':ps[i]? = some p:=by simpa using h
      rw [List.find?_cons,decide_eq_false (fun e=>h1 (List.mem_map.mpr ⟨p,List.mem_of_getElem? h',e.symm⟩))]
      exact ih h2 h'
 rw [this]
 rfl
def fD (st:HS) (sums:List Int) (r:Row):List Int:=List.zipWith (fun old own=>old + (r.2 * (dH st r.1).sc) * own) sums (dH st r.1).row
def aX (st:HS) (rs:List Row):List Int:=rs.foldl (fD st) (st.bh.map fun c=>aC rs * c)
def jq (s:Int) (ts:List Int):Int:=ts.foldl (fun s t=>Jm.cf t s) s
def d8 (st:HS) (kept:Int):List Int:=st.ai.map fun p=>p.sc * kept
def c8 (st:HS) (kept:Int) (added:List Int):List Int:=List.zipWith (fun t m=>t * kept + m) st.bh added
def bD (st:HS) (kept whole:Int) (added:List Int):Int:=jq whole (d8 st kept ++ c8 st kept added)
def dh (st:HS) (s:Int):HS:=if 1 < s then { st with stp:=st.stp ++ [s],prod:=st.prod * s,kn:=0 } else st
def bQ (st:HS) (kept whole:Int) (added:List Int):HS:=
 dh { st with ai:=st.ai.map (fun p=>{ p with sc:=p.sc * kept / bD st kept whole added }),bh:=(c8 st kept added).map (· / bD st kept whole added),bV:=st.bV.map (· * (whole / bD st kept whole added)) } (whole / bD st kept whole added)
def iH (ps:List Pt) (x:Str) (a:Int):List Pt:=(ps.map fun p=>if p.nm = x then { p with wo:=p.wo - a } else p).filter fun p=>decide (p.wo ≠ 0)
def di (st:HS) (r:Row):HS:={ st with ai:=iH st.ai r.1 r.2 }
def dM (st:HS) (rs:List Row):HS:=rs.foldl di (bQ st (az st - aC rs) (az st) (aX st rs))
structure JF (vs:List V) (H:Hp) (Q:VK) (E:XK):Prop where
 ex:∃a:Int,vs = [.int a]∧1≤a∧Q .bE H
structure JG (vs:List V) (H:Hp) (Q:VK) (E:XK):Prop where
 ex:∃m a:Int,vs = [.int m, .int a]∧1≤a∧a≤m∧Q .bE H
structure Gn (K:PySem.W.Frag) (vs:List V) (H:Hp) (Q:VK) (E:XK):Prop where
 ex:∃(l:Addr) (us:List V) (rs:List Row),vs = [.ref l]∧av K H l us∧c5 H us rs∧(rs.map (·.1)).Nodup∧rs ≠ []∧rs.length≤1000∧∀d H',aD H H'→H d = none→H' d = some (.dK (dR rs))→Q (.ref d) H'
structure Gp (K:PySem.W.Frag) (vs:List V) (H:Hp) (Q:VK) (E:XK):Prop where
 ex:∃(s:Int) (l:Addr) (ts:List Int),vs = [.int s, .ref l]∧av K H l (ts.map V.int)∧0≤s∧(∀t∈ts,0≤t)∧Q (.int (jq s ts)) H
structure Gq (T:TC) (vs:List V) (H:Hp) (Q:VK) (E:XK):Prop where
 ex:∃n ρ A st s,vs = [.ref A.bt, .int s]∧Gh ρ H∧aJ T n ρ A H st∧st.stp.length≤1000∧Jm.Sz 9000 st.prod∧Jm.Sz 9000 s∧∀ρ' A' H',Gh ρ' H'→aJ T n ρ' A' H' (dh st s)→A'.a = A.a→Fr n ρ H ρ' H'→Q .bE H'
structure DN (T:TC) (vs:List V) (H:Hp) (Q:VK) (E:XK):Prop where
 ex:∃n ρ A st,∃(d:Addr) (rs:List Row),vs = [.ref A.a, .ref d]∧aJ T n ρ A H st∧Wf st∧H d = some (.dK (dR rs))∧ρ d = none∧rs.length≤1000∧(∀r∈rs,Jm.Sz 60 r.2∧∃p∈st.ai,p.nm = r.1)∧∀l H',aD H H'→H l = none→H' l = some (.lst ((aX st rs).map V.int))→Q (.ref l) H'
structure DO (T:TC) (K:PySem.W.Frag) (vs:List V) (H:Hp) (Q:VK) (E:XK):Prop where
 ex:∃n ρ A st,∃(kept whole:Int) (l:Addr) (added:List Int),vs = [.ref A.a, .int kept, .int whole, .ref l]∧HH T n ρ A H st∧av K H l (added.map V.int)∧added.length = st.bh.length∧0 < kept∧0 < whole∧Jm.Sz 60 kept∧Jm.Sz 60 whole∧(∀m∈added,0≤m∧Jm.Sz 8900 m)∧(∀u∈st.bV,Jm.Sz 8900 u)∧st.stp.length < 100∧Wf (bQ st kept whole added)∧vQ T n ρ A H (bQ st kept whole added) fun H'=>Q .bE H'
structure Gr (T:TC) (vs:List V) (H:Hp) (Q:VK) (E:XK):Prop where
 ex:∃n ρ A st,∃r:Row,vs = [.ref A.a, .str r.1, .int r.2]∧HH T n ρ A H st∧(∃p∈st.ai,p.nm = r.1∧r.2≤p.wo)∧Wf (di st r)∧vQ T n ρ A H (di st r) fun H'=>Q .bE H'
structure jr (st:HS) (rs:List Row):Prop where
 nd:(rs.map (·.1)).Nodup
 ne:rs ≠ []
 len:rs.length≤1000
 row:∀r∈rs,1≤r.2∧Jm.Sz 60 r.2∧∃p∈st.ai,p.nm = r.1∧r.2≤p.wo
 lost:aC rs < az st
 big:Jm.Sz 60 (az st)
 prod:Jm.Sz 7900 st.prod
 bV:∀u∈st.bV,Jm.Sz 8900 u
 stp:st.stp.length < 100
structure Gs (T:TC) (K:PySem.W.Frag) (vs:List V) (H:Hp) (Q:VK) (E:XK):Prop where
 ex:∃n ρ A st,∃(l:Addr) (us:List V) (rs:List Row),vs = [.ref A.a, .ref l]∧HH T n ρ A H st∧av K H l us∧c5 H us rs∧jr st rs∧vQ T n ρ A H (dM st rs) fun H'=>Q .bE H'
end L2
namespace L2
open PySem PySem.Spec PyProof.Rows
theorem Bh:∀{ps:List Pt} {qs:List (Addr × Addr × Addr)} {i:Nat} {p:Pt},(ps.map (·.nm)).Nodup→qs.length = ps.length→ps[i]? = some p→iF (bJ ps qs) (Sum.inr p.nm) = bJ (ps.eraseIdx i) (qs.eraseIdx i)
 | [],_,_,_,_,_,h=>by simp at h
 | _ :: _,[],_,_,_,hl,_=>by simp at hl
 | a :: ps,b :: qs,0,p,nd,hl,h=>by
   have e:a = p:=by simpa using h
   subst e
   obtain ⟨h1,h2⟩:=List.nodup_cons.mp (show (a.nm :: ps.map (·.nm)).Nodup from nd)
   show iF ((Sum.inr a.nm,V.ref b.1) :: bJ ps qs) (Sum.inr a.nm) = bJ ps qs
   unfold iF
   rw [List.filter_cons,if_neg (by simp)]
   refine List.filter_eq_self.mpr fun kv hkv=>?_
   unfold bJ at hkv
   obtain ⟨x,hx,y,hy,rfl⟩:=pK hkv
   exact decide_eq_true fun z=>h1 (List.mem_map.mpr ⟨x,hx,Sum.inr.inj z⟩)
 | a :: ps,b :: qs,i + 1,p,nd,hl,h=>by
   obtain ⟨h1,h2⟩:=List.nodup_cons.mp (show (a.nm :: ps.map (·.nm)).Nodup from nd)
   have h':ps[i]? = some p:=by simpa using h
   have ih:=Bh h2 (by simpa using hl) h'
   show iF ((Sum.inr a.nm,V.ref b.1) :: bJ ps qs) (Sum.inr p.nm) = (Sum.inr a.nm,V.ref b.1) :: bJ (ps.eraseIdx i) (qs.eraseIdx i)
   rw [← ih]
   unfold iF
   have hne:¬ (Sum.inr a.nm:Key) = Sum.inr p.nm:=fun z=>h1 (List.mem_map.mpr ⟨p,List.mem_of_getElem? h',(Sum.inr.inj z).symm⟩)
   rw [List.filter_cons,if_pos (by simpa using fun e:a.nm = p.nm=>hne (by rw [e]))]
theorem Bj:∀{ps:List Pt} {i:Nat} {p:Pt} {a:Int},(ps.map (·.nm)).Nodup→(∀q∈ps,q.wo ≠ 0)→ps[i]? = some p→iH ps p.nm a = if p.wo - a = 0 then ps.eraseIdx i else ps.set i { p with wo:=p.wo - a }
 | [],_,_,_,_,_,h=>by simp at h
 | x :: ps,0,p,a,nd,hw,h=>by
   have e:x = p:=by simpa using h
   subst e
   obtain ⟨h1,h2⟩:=List.nodup_cons.mp (show (x.nm :: ps.map (·.nm)).Nodup from nd)
   have rest:iH ps x.nm a = ps:=by
    unfold iH
    rw [show (ps.map fun p=>if p.nm = x.nm then { p with wo:=p.wo - a } else p) = ps from by
     conv=>rhs;rw [← List.map_id ps]
     exact List.map_congr_left fun y hy=>if_neg fun z=>h1 (List.mem_map.mpr ⟨y,hy,z⟩)]
    exact List.filter_eq_self.mpr fun y hy=>decide_eq_true (hw y (List.mem_cons_of_mem _ hy))
   show ((x :: ps).map fun p=>if p.nm = x.nm then { p with wo:=p.wo - a } else p).filter _ = _
   rw [List.map_cons,if_pos rfl,List.filter_cons]
   by_cases c:x.wo - a = 0
   · rw [if_pos c,if_neg (by simp [c])]
     exact rest
   · rw [if_neg c,if_pos (by simpa using c)]
     show _ :: iH ps x.nm a = _
     rw [rest]
     rfl
 | x :: ps,i + 1,p,a,nd,hw,h=>by
   obtain ⟨h1,h2⟩:=List.nodup_cons.mp (show (x.nm :: ps.map (·.nm)).Nodup from nd)
   have h':ps[i]? = some p:=by simpa using h
   have ih:=Bj (a:=a) h2 (fun q hq=>hw q (List.mem_cons_of_mem _ hq)) h'
   have xn:¬ x.nm = p.nm:=fun z=>h1 (List.mem_map.mpr ⟨p,List.mem_of_getElem? h',z.symm⟩)
   show ((x :: ps).map fun q=>if q.nm = p.nm then { q with wo:=q.wo - a } else q).filter _ = _
   rw [List.map_cons,if_neg xn,List.filter_cons,if_pos (decide_eq_true (hw x List.mem_cons_self))]
   show x :: iH ps p.nm a = _
   rw [ih]
   by_cases c:p.wo - a = 0
   · rw [if_pos c,if_pos c];rfl
   · rw [if_neg c,if_neg c];rfl
theorem nv {α:Type}:∀{l:List α} {i:Nat} {x:α},l[i]? = some x→l.set i x = l
 | [],_,_,h=>by simp at h
 | a :: l,0,x,h=>by have:a = x:=by simpa using h
                    rw [this];rfl
 | a :: l,i + 1,x,h=>by rw [List.set_cons_succ,nv (by simpa using h)]
theorem Bk {α β:Type} {l:List α} {m:List β} {i j:Nat} {x:α} {y:β} (h1:(l.eraseIdx i)[j]? = some x) (h2:(m.eraseIdx i)[j]? = some y):∃k:Nat,l[k]? = some x∧m[k]? = some y:=by
 rw [List.getElem?_eraseIdx] at h1 h2
 by_cases c:j < i
 · rw [if_pos c] at h1 h2;exact ⟨j,h1,h2⟩
 · rw [if_neg c] at h1 h2;exact ⟨j + 1,h1,h2⟩
theorem qX:∀(ts:List Int) (s:Int),jq s ts ∣ s∧∀t∈ts,jq s ts ∣ t
 | [],s=>⟨Int.dvd_refl _,fun _ h=>absurd h (by simp)⟩
 | t :: ts,s=>by
   obtain ⟨h1,h2⟩:=qX ts (Jm.cf t s)
   refine ⟨Int.dvd_trans h1 (Jm.jh t s),fun u hu=>?_⟩
   rcases List.mem_cons.mp hu with rfl | hu
   · exact Int.dvd_trans h1 (Jm.kh u s)
   · exact h2 u hu
theorem qY:∀(ts:List Int) (s:Int),0 < s→0 < jq s ts
 | [],_,h=>h
 | t :: ts,s,h=>qY ts _ (Jm.vz t s (.inr h))
theorem yC {T:TC} {n t:Nat} {ρ:aW} {A:HA} {H:Hp} {st:HS} {a:Addr} {o:HO} (h:aJ T n ρ A H st) (g:Gh ρ H) (c:ρ a = none) (e:H a = some o) (ht:isTup o = false):
  aJ T n (bC ρ a (n,t,⟨#[]⟩)) A H st∧Gh (bC ρ a (n,t,⟨#[]⟩)) H:=
 ⟨h.same ⟨fun _ _ e=>e,fun b u x w _ hc he=>⟨he,by rw [bu (fun z=>by rw [z,c] at hc;cases hc)];exact hc⟩⟩,g.color e ht⟩
theorem Fr.pO {n t:Nat} {ρ ρ':aW} {H H':Hp} {a:Addr} {x:Str} (f:Fr n ρ H ρ' H') (h:H a = none):Fr n ρ H (bC ρ' a (n,t,x)) H':=fun b o e k=>by
 obtain ⟨e1,e2⟩:=f b o e k
 exact ⟨e1,by rw [bu (ay e h)];exact e2⟩
end L2
namespace L2
open PySem PySem.Spec PyProof.Rows
theorem yD {d a b:Int} (hd:0 < d) (h:a≤d * b):a / d≤b:=by
 have:=Int.ediv_le_ediv hd h
 rwa [Int.mul_ediv_cancel_left _ (by omega)] at this
theorem vZ {st:HS} {s:Int} (h:1≤s):(dh st s).prod = st.prod * s:=by
 unfold dh
 by_cases c:1 < s
 · rw [if_pos c]
 · rw [if_neg c,show s = 1 by omega,Int.mul_one]
theorem qZ (st:HS) (s:Int):(dh st s).ai = st.ai:=by unfold dh;split <;> rfl
theorem Gu (st:HS) (s:Int):(dh st s).bh = st.bh:=by unfold dh;split <;> rfl
theorem Gv (st:HS) (s:Int):(dh st s).bV = st.bV:=by unfold dh;split <;> rfl
theorem Gw (st:HS) (s:Int):(dh st s).own = st.own:=by unfold dh;split <;> rfl
theorem Gx (st:HS) (s:Int):(dh st s).iA = st.iA:=by unfold dh;split <;> rfl
theorem gM {α β γ:Type} {f:α→β→γ} {t:γ}:∀{xs:List α} {ys:List β},t∈List.zipWith f xs ys→∃(i:Nat) (x:α) (y:β),xs[i]? = some x∧ys[i]? = some y∧t = f x y:=fun {xs ys} h=>by
 obtain ⟨i,hi,e⟩:=List.getElem_of_mem h
 rw [List.length_zipWith] at hi
 have h1:i < xs.length:=by omega
 have h2:i < ys.length:=by omega
 exact ⟨i,xs[i],ys[i],List.getElem?_eq_getElem h1,List.getElem?_eq_getElem h2,by rw [← e,List.getElem_zipWith]⟩
theorem DP {α β γ:Type} {f:α→β→γ} {xs:List α} {ys:List β} {i:Nat} {x:α} {y:β} (h1:xs[i]? = some x) (h2:ys[i]? = some y):(List.zipWith f xs ys)[i]? = some (f x y):=by
 rw [List.getElem?_zipWith,h1,h2]
theorem uL {a b c:Int} (h:a≤b) (hc:0≤c):a * c≤b * c:=Int.mul_le_mul_of_nonneg_right h hc
structure sU (st:HS) (kept whole lost:Int) (added:List Int):Prop where
 k:0 < kept
 l:0≤lost
 w:whole = kept + lost
 len:added.length = st.bh.length
 add:∀m∈added,0≤m∧m≤lost * st.prod
 prod:Jm.Sz 7900 st.prod
 big:Jm.Sz 60 whole
 bV:∀u∈st.bV,Jm.Sz 8900 u
 stp:st.stp.length < 100
theorem sU.dvds {st:HS} {kept whole lost:Int} {added:List Int} (b:sU st kept whole lost added):
  0 < bD st kept whole added∧bD st kept whole added ∣ whole∧(∀p∈st.ai,bD st kept whole added ∣ p.sc * kept)∧∀c∈c8 st kept added,bD st kept whole added ∣ c:=by
 have hw:0 < whole:=by have:=b.k;have:=b.l;have:=b.w;omega
 have d:=qX (d8 st kept ++ c8 st kept added) whole
 exact ⟨qY _ _ hw,d.1,fun p hp=>d.2 _ (List.mem_append_left _ (List.mem_map.mpr ⟨p,hp,rfl⟩)),fun c hc=>d.2 _ (List.mem_append_right _ hc)⟩
theorem Iz {st:HS} {kept whole lost:Int} {added:List Int} (wf:Wf st) (b:sU st kept whole lost added):Wf (bQ st kept whole added):=by
 obtain ⟨hs,hsw,lT,hsc⟩:=b.dvds
 have hk:=b.k
 have hl:=b.l
 have hw:=b.w
 have p1:=wf.fq
 have eB:bQ st kept whole added = dh { st with ai:=st.ai.map (fun p=>{ p with sc:=p.sc * kept / bD st kept whole added }),bh:=(c8 st kept added).map (· / bD st kept whole added),bV:=st.bV.map (· * (whole / bD st kept whole added)) } (whole / bD st kept whole added):=rfl
 rw [eB]
 generalize bD st kept whole added = d at *
 obtain ⟨s,es⟩:=hsw
 have hs1:1≤s:=by
  rcases Int.lt_trichotomy s 0 with z | z | z
  · have:=Int.mul_neg_of_pos_of_neg hs z;omega
  · rw [z,Int.mul_zero] at es;omega
  · omega
 have ed:whole / d = s:=by rw [es,Int.mul_ediv_cancel_left _ (by omega)]
 rw [ed]
 have Ut:s≤whole:=by rw [es];have:=Int.mul_le_mul_of_nonneg_right (show 1≤d by omega) (show 0≤s by omega);omega
 have zs:Jm.Sz 60 s:=b.big.of_le (by omega)
 have zp:Jm.Sz 8000 (st.prod * s):=(b.prod.mul zs).mono (by decide)
 have pp:st.prod≤st.prod * s:=by have:=Int.mul_le_mul_of_nonneg_left hs1 (show 0≤st.prod by omega);omega
 have IA:∀c∈(c8 st kept added).map (· / d),0≤c∧c≤st.prod * s:=fun c hc=>by
  obtain ⟨x,hx,rfl⟩:=List.mem_map.mp hc
  obtain ⟨i,t,m,et,em,rfl⟩:=gM (show x∈List.zipWith (fun t m=>t * kept + m) st.bh added from hx)
  have ht:=wf.mj t (List.mem_of_getElem? et)
  have hm:=b.add m (List.mem_of_getElem? em)
  have a1:0≤t * kept:=Int.mul_nonneg ht.1 (by omega)
  have a2:t * kept≤st.prod * kept:=uL ht.2 (by omega)
  have a3:st.prod * kept + lost * st.prod = d * (st.prod * s):=by
   rw [Int.mul_comm lost,← Int.mul_add,← hw,es,← Int.mul_assoc,← Int.mul_assoc,Int.mul_comm st.prod d]
  exact ⟨Int.ediv_nonneg (by omega) (by omega),yD hs (by omega)⟩
 have sc':∀p∈st.ai,1≤p.sc * kept / d∧p.sc * kept / d≤st.prod * s∧d * (p.sc * kept / d) = p.sc * kept:=fun p hp=>by
  have h0:=wf.qa p hp
  obtain ⟨z,ez⟩:=lT p hp
  have a1:0 < p.sc * kept:=Int.mul_pos (by omega) hk
  have OI:p.sc * kept / d = z:=by rw [ez,Int.mul_ediv_cancel_left _ (by omega)]
  have hz:1≤z:=by
   rcases Int.lt_trichotomy z 0 with y | y | y
   · have:=Int.mul_neg_of_pos_of_neg hs y;omega
   · rw [y,Int.mul_zero] at ez;omega
   · omega
  have a2:p.sc * kept≤st.prod * kept:=uL h0.2 (by omega)
  have a3:st.prod * kept≤st.prod * whole:=Int.mul_le_mul_of_nonneg_left (by omega) (by omega)
  have a4:st.prod * whole = d * (st.prod * s):=by rw [es,← Int.mul_assoc,← Int.mul_assoc,Int.mul_comm st.prod d]
  refine ⟨by rw [OI];exact hz,yD hs (by omega),by rw [OI,ez]⟩
 have P:∀{M:Pt→Prop},(∀p∈st.ai,M { p with sc:=p.sc * kept / d })→∀p∈st.ai.map (fun p=>{ p with sc:=p.sc * kept / d }),M p:=fun h p hp=>by
  obtain ⟨x,hx,rfl⟩:=List.mem_map.mp hp
  exact h x hx
 have top':∀p∈st.ai,∀t∈List.zipWith (fun r c=>(p.sc * kept / d) * r + c) p.row ((c8 st kept added).map (· / d)),0≤t∧t≤st.prod * s:=fun p hp t ht=>by
  obtain ⟨i,r,c,er,ec,rfl⟩:=gM ht
  rw [List.getElem?_map] at ec
  obtain ⟨x,ex,rfl⟩:=Option.map_eq_some_iff.mp ec
  obtain ⟨y,ey⟩:=hsc x (List.mem_of_getElem? ex)
  have R7:x / d = y:=by rw [ey,Int.mul_ediv_cancel_left _ (by omega)]
  have ex':(List.zipWith (fun t m=>t * kept + m) st.bh added)[i]? = some x:=ex
  rw [List.getElem?_zipWith] at ex'
  cases e1:st.bh[i]? with
  | none=>rw [e1] at ex';simp at ex'
  | some t0=>
    cases e2:added[i]? with
    | none=>rw [e1,e2] at ex';simp at ex'
    | some m=>
      rw [e1,e2] at ex'
      have R8:t0 * kept + m = x:=by simpa using ex'
      have hm:=b.add m (List.mem_of_getElem? e2)
      have hT:=wf.xF p hp (p.sc * r + t0) (List.mem_of_getElem? (DP (f:=fun r c=>p.sc * r + c) er e1))
      have hz:=(sc' p hp).2.2
      have key:d * ((p.sc * kept / d) * r + x / d) = (p.sc * r + t0) * kept + m:=by
       rw [Int.mul_add,← Int.mul_assoc,hz,R7,← ey,← R8]
       rw [Int.add_mul,Int.mul_assoc,Int.mul_assoc,Int.mul_comm kept r]
       omega
      have k1:0≤(p.sc * r + t0) * kept:=Int.mul_nonneg hT.1 (by omega)
      have k2:(p.sc * r + t0) * kept≤st.prod * kept:=uL hT.2 (by omega)
      have a3:st.prod * kept + lost * st.prod = d * (st.prod * s):=by
       rw [Int.mul_comm lost,← Int.mul_add,← hw,es,← Int.mul_assoc,← Int.mul_assoc,Int.mul_comm st.prod d]
      generalize (p.sc * kept / d) * r + x / d = W at *
      constructor
      · rcases Int.lt_or_le W 0 with z | z
        · have:=Int.mul_neg_of_pos_of_neg hs z;omega
        · exact z
      · have:d * W≤d * (st.prod * s):=by omega
        exact Int.le_of_mul_le_mul_left this hs
 have OJ:(st.ai.map (fun p:Pt=>{ p with sc:=p.sc * kept / d })).map (fun p:Pt=>p.nm) = st.ai.map (fun p:Pt=>p.nm):=by rw [List.map_map];rfl
 have e0:(c8 st kept added).length = st.bh.length:=by unfold c8;rw [List.length_zipWith,b.len];omega
 have pu':∀u∈st.bV.map (· * s),Jm.Sz 9000 u:=fun u hu=>by
  obtain ⟨x,hx,rfl⟩:=List.mem_map.mp hu
  exact ((b.bV x hx).mul zs).mono (by decide)
 have Mq:∀p∈st.ai,∀r∈p.row,-(st.prod * s)≤r∧r≤st.prod * s:=fun p hp r hr=>by have:=wf.nS p hp r hr;omega
 unfold dh
 by_cases c:1 < s
 · rw [if_pos c]
   refine ⟨wf.qP,wf.xD,by rw [OJ];exact wf.jn,P wf.sub,P wf.rows,P wf.ow,?_,?_,by show 1≤st.prod * s;omega,?_,fun x hx=>?_,wf.mh,wf.xE,?_,?_,wf.uF,Nat.zero_le _,zp,IA,P fun p hp=>⟨(sc' p hp).1,(sc' p hp).2.1⟩,P Mq,P top',P wf.vP,pu'⟩
   · show (List.map _ (c8 st kept added)).length = _
     rw [List.length_map,e0,wf.fU]
   · show (List.map _ st.bV).length = _
     rw [List.length_map,wf.qQ]
   · show st.prod * s = (st.stp ++ [s]).foldl (· * ·) 1
     rw [KQ,← wf.pI]
   · rcases List.mem_append.mp (show x∈st.stp ++ [s] from hx) with z | z
     · exact wf.uE x z
     · rw [List.mem_singleton.mp z];omega
   · show (List.map _ st.ai).length≤1000
     rw [List.length_map];exact wf.pJ
   · show (st.stp ++ [s]).length≤100
     rw [List.length_append];exact b.stp
 · rw [if_neg c]
   have e1:s = 1:=by omega
   subst e1
   rw [Int.mul_one] at IA sc' Mq top'
   refine ⟨wf.qP,wf.xD,by rw [OJ];exact wf.jn,P wf.sub,P wf.rows,P wf.ow,?_,?_,wf.fq,wf.pI,wf.uE,wf.mh,wf.xE,?_,wf.AY,wf.uF,wf.JA,wf.big,IA,P fun p hp=>⟨(sc' p hp).1,(sc' p hp).2.1⟩,P wf.nS,P fun p hp t ht=>?_,P wf.vP,pu'⟩
   · show (List.map _ (c8 st kept added)).length = _
     rw [List.length_map,e0,wf.fU]
   · show (List.map _ st.bV).length = _
     rw [List.length_map,wf.qQ]
   · show (List.map _ st.ai).length≤1000
     rw [List.length_map];exact wf.pJ
   · exact top' p hp t ht
def pP (st:HS) (acc:List Int) (rs:List Row):List Int:=rs.foldl (fun s r=>List.zipWith (fun x t=>x + r.2 * t) s (bF st (dH st r.1))) acc
theorem yE:∀(acc bh row:List Int) (a sc L:Int),List.zipWith (fun old own=>old + (a * sc) * own) (List.zipWith (fun s c=>s + (a + L) * c) acc bh) row = List.zipWith (fun s c=>s + L * c) (List.zipWith (fun x t=>x + a * t) acc (List.zipWith (fun r c=>sc * r + c) row bh)) bh
 | [],_,_,_,_,_=>by simp
 | _ :: _,[],_,_,_,_=>by simp
 | _ :: _,_ :: _,[],_,_,_=>by simp
 | x :: acc,c :: bh,r :: row,a,sc,L=>by
   simp only [List.zipWith_cons_cons]
   rw [yE acc bh row a sc L]
   congr 1
   grind
theorem Bl {st:HS}:∀(rs:List Row) (acc:List Int),rs.foldl (fD st) (List.zipWith (fun s c=>s + aC rs * c) acc st.bh) = List.zipWith (fun s c=>s + 0 * c) (pP st acc rs) st.bh
 | [],acc=>by show List.zipWith _ acc st.bh = _;rfl
 | r :: rs,acc=>by
   rw [List.foldl_cons]
   have e:fD st (List.zipWith (fun s c=>s + aC (r :: rs) * c) acc st.bh) r = List.zipWith (fun s c=>s + aC rs * c) (List.zipWith (fun x t=>x + r.2 * t) acc (bF st (dH st r.1))) st.bh:=by
    unfold fD
    rw [show aC (r :: rs) = r.2 + aC rs from by unfold aC;rw [List.map_cons,List.sum_cons]]
    exact yE acc st.bh (dH st r.1).row r.2 (dH st r.1).sc (aC rs)
   rw [e,Bl rs]
   rfl
theorem yF:∀(l:List Int) (L:Int),List.zipWith (fun s c=>s + L * c) (List.replicate l.length 0) l = l.map fun c=>L * c
 | [],_=>rfl
 | x :: l,L=>by
   rw [List.length_cons,List.replicate_succ,List.zipWith_cons_cons,yF l L,Int.zero_add]
   rfl
theorem Bm:∀(s l:List Int),s.length≤l.length→List.zipWith (fun s c=>s + 0 * c) s l = s
 | [],_,_=>by simp
 | _ :: _,[],h=>by simp at h
 | x :: s,c :: l,h=>by
   rw [List.zipWith_cons_cons,Bm s l (by simpa using h),Int.zero_mul,Int.add_zero]
theorem q_ {st:HS}:∀(rs:List Row) (acc:List Int),(∀r∈rs,(bF st (dH st r.1)).length = acc.length)→(pP st acc rs).length = acc.length
 | [],_,_=>rfl
 | r :: rs,acc,h=>by
   have e:(List.zipWith (fun x t=>x + r.2 * t) acc (bF st (dH st r.1))).length = acc.length:=by rw [List.length_zipWith,h r List.mem_cons_self];omega
   show (pP st (List.zipWith (fun x t=>x + r.2 * t) acc (bF st (dH st r.1))) rs).length = _
   rw [q_ rs _ (fun x hx=>by rw [e];exact h x (List.mem_cons_of_mem _ hx)),e]
theorem tQ {st:HS} (hP:0≤st.prod):∀(rs:List Row) (acc:List Int) (B:Int),(∀r∈rs,0≤r.2∧∀t∈bF st (dH st r.1),0≤t∧t≤st.prod)→(∀x∈acc,0≤x∧x≤B)→∀x∈pP st acc rs,0≤x∧x≤B + aC rs * st.prod
 | [],acc,B,_,ha,x,hx=>by
   have:=ha x hx
   show 0≤x∧x≤B + 0 * st.prod
   omega
 | r :: rs,acc,B,h,ha,x,hx=>by
   have hr:=h r List.mem_cons_self
   have:=tQ hP rs (List.zipWith (fun x t=>x + r.2 * t) acc (bF st (dH st r.1))) (B + r.2 * st.prod) (fun y hy=>h y (List.mem_cons_of_mem _ hy)) (fun y hy=>by
    obtain ⟨i,a,t,ea,et,rfl⟩:=gM hy
    have h1:=ha a (List.mem_of_getElem? ea)
    have h2:=hr.2 t (List.mem_of_getElem? et)
    have h3:0≤r.2 * t:=Int.mul_nonneg hr.1 h2.1
    have h4:r.2 * t≤r.2 * st.prod:=Int.mul_le_mul_of_nonneg_left h2.2 hr.1
    omega) x hx
   rw [show aC (r :: rs) = r.2 + aC rs from by unfold aC;rw [List.map_cons,List.sum_cons],Int.add_mul]
   omega
theorem pQ {st:HS} (wf:Wf st) {p:Pt} (h:p∈st.ai):(bF st p).length = st.bh.length:=by
 unfold bF
 rw [List.length_zipWith,wf.rows p h,wf.fU]
 omega
theorem iO {st:HS} (wf:Wf st) {x:Str} {p:Pt} (h:p∈st.ai) (e:p.nm = x):dH st x = p:=by
 obtain ⟨i,hi,ei⟩:=List.getElem_of_mem h
 rw [← e]
 exact DM wf.jn (i:=i) (by rw [List.getElem?_eq_getElem hi,ei])
theorem yG {st:HS} (wf:Wf st) {rs:List Row} (h:∀r∈rs,∃p∈st.ai,p.nm = r.1):aX st rs = pP st (List.replicate st.bh.length 0) rs:=by
 unfold aX
 rw [← yF st.bh (aC rs),Bl]
 refine Bm _ _ ?_
 rw [q_ rs _ (fun r hr=>by
  obtain ⟨p,hp,e⟩:=h r hr
  rw [iO wf hp e,List.length_replicate,pQ wf hp]),List.length_replicate]
 exact Nat.le_refl _
theorem Gy {st:HS} (wf:Wf st) {rs:List Row} (h:∀r∈rs,1≤r.2∧∃p∈st.ai,p.nm = r.1):(aX st rs).length = st.bh.length∧∀m∈aX st rs,0≤m∧m≤aC rs * st.prod:=by
 rw [yG wf (fun r hr=>(h r hr).2)]
 have p1:=wf.fq
 constructor
 · rw [q_ rs _ (fun r hr=>by
    obtain ⟨p,hp,e⟩:=(h r hr).2
    rw [iO wf hp e,List.length_replicate,pQ wf hp]),List.length_replicate]
 · intro m hm
   have:=tQ (st:=st) (by omega) rs (List.replicate st.bh.length 0) 0 (fun r hr=>by
    obtain ⟨h1,p,hp,e⟩:=h r hr
    refine ⟨by omega,?_⟩
    rw [iO wf hp e]
    exact wf.xF p hp) (fun x hx=>by rw [(List.mem_replicate.mp hx).2];omega) m hm
   omega
theorem Ex {ps:List Pt} {x:Str} {a:Int} {p:Pt} (h:p∈ps) (hn:p.nm ≠ x) (hw:p.wo ≠ 0):p∈iH ps x a:=
 List.mem_filter.mpr ⟨List.mem_map.mpr ⟨p,h,by rw [if_neg hn]⟩,decide_eq_true hw⟩
theorem uM {ps:List Pt} {x:Str} {a:Int} {p:Pt} (h:p∈iH ps x a):p.wo ≠ 0∧∃q∈ps,p = if q.nm = x then { q with wo:=q.wo - a } else q:=by
 obtain ⟨h1,h2⟩:=List.mem_filter.mp h
 obtain ⟨q,hq,e⟩:=List.mem_map.mp h1
 exact ⟨of_decide_eq_true h2,q,hq,e.symm⟩
theorem v5 {ps:List Pt} {x:Str} {a:Int}:((iH ps x a).map (fun p:Pt=>p.nm)).Sublist (ps.map (fun p:Pt=>p.nm)):=by
 unfold iH
 have e:(ps.map fun p=>if p.nm = x then { p with wo:=p.wo - a } else p).map (fun p:Pt=>p.nm) = ps.map (fun p:Pt=>p.nm):=by
  rw [List.map_map]
  exact List.map_congr_left fun p _=>by show (if p.nm = x then _ else p:Pt).nm = p.nm;split <;> rfl
 rw [← e]
 exact List.filter_sublist.map _
theorem KS {st:HS} (wf:Wf st) {r:Row} (h:∀p∈st.ai,p.nm = r.1→r.2≤p.wo):Wf (di st r):=by
 have P:∀{M:Pt→Prop},(∀p∈st.ai,M p)→(∀(p:Pt) (w:Int),M p→M { p with wo:=w })→∀p∈iH st.ai r.1 r.2,M p:=fun h1 h2 p hp=>by
  obtain ⟨_,q,hq,e⟩:=uM hp
  rw [e]
  split
  · exact h2 _ _ (h1 q hq)
  · exact h1 q hq
 refine ⟨wf.qP,wf.xD,wf.jn.sublist v5,P wf.sub (fun _ _ z=>z),P wf.rows (fun _ _ z=>z),P wf.ow (fun _ _ z=>z),wf.fU,wf.qQ,wf.fq,wf.pI,wf.uE,wf.mh,wf.xE,?_,wf.AY,wf.uF,wf.JA,wf.big,wf.mj,P wf.qa (fun _ _ z=>z),P wf.nS (fun _ _ z=>z),P wf.xF (fun _ _ z=>z),fun p hp=>?_,wf.Eu⟩
 · have:=v5 (ps:=st.ai) (x:=r.1) (a:=r.2) |>.length_le
   rw [List.length_map,List.length_map] at this
   exact Nat.le_trans this wf.pJ
 · obtain ⟨h0,q,hq,e⟩:=uM hp
   have:=wf.vP q hq
   by_cases c:q.nm = r.1
   · rw [if_pos c] at e
     subst e
     have:=h q hq c
     have h0:q.wo - r.2 ≠ 0:=h0
     exact ⟨by show 1≤q.wo - r.2;omega,by show 0≤q.we;omega⟩
   · rw [if_neg c] at e
     rw [e];exact this
def Due (st:HS) (rs:List Row):Prop:=∀r∈rs,∃p∈st.ai,p.nm = r.1∧r.2≤p.wo
theorem DQ {st:HS} (wf:Wf st) {p q:Pt} (hp:p∈st.ai) (hq:q∈st.ai) (e:p.nm = q.nm):p = q:=(iO wf hp rfl).symm.trans (by rw [e];exact iO wf hq rfl)
theorem Mr {st:HS} (wf:Wf st) {r:Row} {rs:List Row} (d:Due st (r :: rs)):Wf (di st r):=by
 obtain ⟨p,hp,e,hle⟩:=d r List.mem_cons_self
 exact KS wf fun q hq eq=>by rw [DQ wf hq hp (eq.trans e.symm)];exact hle
theorem IB {st:HS} (wf:Wf st) {r:Row} {rs:List Row} (d:Due st (r :: rs)) (nd:((r :: rs).map (fun r:Row=>r.1)).Nodup):Due (di st r) rs:=fun x hx=>by
 obtain ⟨p,hp,e,hle⟩:=d x (List.mem_cons_of_mem _ hx)
 have hn:p.nm ≠ r.1:=fun z=>(List.nodup_cons.mp nd).1 (List.mem_map.mpr ⟨x,hx,e.symm.trans z⟩)
 have:=wf.vP p hp
 exact ⟨p,Ex hp hn (by omega),e,hle⟩
theorem Gz {st:HS} {kept whole:Int} {added:List Int} {rs:List Row} (d:Due st rs):Due (bQ st kept whole added) rs:=fun r hr=>by
 obtain ⟨p,hp,e,hle⟩:=d r hr
 refine ⟨{ p with sc:=p.sc * kept / bD st kept whole added },?_,e,hle⟩
 unfold bQ
 rw [qZ]
 exact List.mem_map.mpr ⟨p,hp,rfl⟩
theorem jr.due {st:HS} {rs:List Row} (c:jr st rs):Due st rs:=fun r hr=>(c.row r hr).2.2
theorem pR:∀{rs:List Row},(∀r∈rs,1≤r.2)→0≤aC rs
 | [],_=>Int.le_refl _
 | r :: rs,h=>by
   have:=h r List.mem_cons_self
   have:=pR (rs:=rs) fun x hx=>h x (List.mem_cons_of_mem _ hx)
   rw [show aC (r :: rs) = r.2 + aC rs from by unfold aC;rw [List.map_cons,List.sum_cons]]
   omega
theorem jr.blend {st:HS} {rs:List Row} (wf:Wf st) (c:jr st rs):sU st (az st - aC rs) (az st) (aC rs) (aX st rs):=by
 have g:=Gy wf (rs:=rs) (fun r hr=>⟨(c.row r hr).1,by obtain ⟨p,hp,e,_⟩:=(c.row r hr).2.2;exact ⟨p,hp,e⟩⟩)
 have l0:=pR (rs:=rs) fun r hr=>(c.row r hr).1
 have:=c.lost
 exact ⟨by omega,l0,by omega,g.1,g.2,c.prod,c.big,c.bV,c.stp⟩
end L2
namespace L2
open PySem PySem.Spec PyProof.Rows
structure BP where
 nm:Str
 ow:Str
 wo:Int
 we:Int
 tops:List Int
structure BE where
 nm:Str
 ow:Str
 wo:Int
 tops:List Int
 bot:Int
structure BS where
 own:List Str
 ai:List BP
 bot:Int
 iA:List BE
 lA:List Str
structure BA where
 m:Addr
 lo:Addr
 lp:Addr
 la:Addr
 lk:Addr
 qs:List (Addr × Addr)
def c_ (B:BA) (bot:Int):List (Key × V):=[(Sum.inr "owners", .ref B.lo),(Sum.inr "parts", .ref B.lp),(Sum.inr "bottom", .int bot),(Sum.inr "ashore", .ref B.la),(Sum.inr "known", .ref B.lk)]
def jd (p:BP) (t:Addr):HO:= .lst [.str p.nm, .str p.ow, .int p.wo, .int p.we, .ref t]
inductive uN (n:Nat) (ρ:aW) (H:Hp):List V→List BE→Prop
 | nil:uN n ρ H [] []
 | cons {r t:Addr} {e:BE} {vs:List V} {es:List BE}:H r = some (.lst [.str e.nm, .str e.ow, .int e.wo, .ref t, .int e.bot])→ρ r = some (n,27,e.nm)→H t = some (.lst (e.tops.map V.int))→ρ t = some (n,28,e.nm)→uN n ρ H vs es→uN n ρ H (.ref r :: vs) (e :: es)
structure aS (n:Nat) (ρ:aW) (B:BA) (H:Hp) (b:BS):Prop where
 om:H B.m = some (.dK (c_ B b.bot))
 cm:ρ B.m = some (n,20,⟨#[]⟩)
 oo:H B.lo = some (.lst (b.own.map V.str))
 co:ρ B.lo = some (n,21,⟨#[]⟩)
 op:H B.lp = some (.lst (B.qs.map fun q=>V.ref q.1))
 cp:ρ B.lp = some (n,22,⟨#[]⟩)
 oa:∃vs,H B.la = some (.lst vs)∧uN n ρ H vs b.iA
 ca:ρ B.la = some (n,25,⟨#[]⟩)
 ok:H B.lk = some (.lst (b.lA.map V.str))
 ck:ρ B.lk = some (n,26,⟨#[]⟩)
 ql:B.qs.length = b.ai.length
 pt:∀(i:Nat) (p:BP) (q:Addr × Addr),b.ai[i]? = some p→B.qs[i]? = some q→H q.1 = some (jd p q.2)∧H q.2 = some (.lst (p.tops.map V.int))∧ρ q.1 = some (n,23,p.nm)∧ρ q.2 = some (n,24,p.nm)
theorem uN.keep {n:Nat} {ρ ρ':aW} {H H':Hp} {vs:List V} {l:List BE} (h:uN n ρ H vs l) {ts:Nat→Bool} (k:Kp n ρ ρ' H H' ts) (e1:ts 27 = true) (e2:ts 28 = true):uN n ρ' H' vs l:=by
 induction h with
 | nil=>exact .nil
 | cons a b c d _ ih=>exact .cons (k.2 _ _ _ _ e1 b a).1 (k.2 _ _ _ _ e1 b a).2 (k.2 _ _ _ _ e2 d c).1 (k.2 _ _ _ _ e2 d c).2 ih
theorem aS.same {n:Nat} {ρ ρ':aW} {B:BA} {H H':Hp} {b:BS} (h:aS n ρ B H b) (k:Kp n ρ ρ' H H' fun _=>true):aS n ρ' B H' b:=by
 have z:=fun {b:Addr} {t:Nat} {x:Str} {o:HO} (c:ρ b = some (n,t,x)) (e:H b = some o)=>k.2 b t x o rfl c e
 obtain ⟨vs,h1,h2⟩:=h.oa
 exact ⟨(z h.cm h.om).1,(z h.cm h.om).2,(z h.co h.oo).1,(z h.co h.oo).2,(z h.cp h.op).1,(z h.cp h.op).2,⟨vs,(z h.ca h1).1,h2.keep k rfl rfl⟩,(z h.ca h1).2,(z h.ck h.ok).1,(z h.ck h.ok).2,h.ql,
  fun i p q e1 e2=>let ⟨a,b,c,d⟩:=h.pt i p q e1 e2;⟨(z c a).1,(z d b).1,(z c a).2,(z d b).2⟩⟩
theorem aS.mono {n:Nat} {ρ:aW} {B:BA} {H H':Hp} {b:BS} (h:aS n ρ B H b) (s:aD H H'):aS n ρ B H' b:=h.same (Dw s)
theorem aS.other {n m:Nat} {ρ ρ':aW} {B:BA} {H H':Hp} {b:BS} (h:aS m ρ B H b) (f:Fr n ρ H ρ' H') (g:Gh ρ H) (e:m ≠ n):aS m ρ' B H' b:=
 h.same ⟨fun b xs q=>(f b _ q fun t x=>by rw [g.tup q];intro z;cases z).1,fun b t x o _ c q=>by
   obtain ⟨a,b'⟩:=f b o q fun t' x'=>by rw [c];intro z;cases z;exact e rfl
   exact ⟨a,b'.trans c⟩⟩
theorem aS.col {n t:Nat} {x:Str} {ρ:aW} {B:BA} {H:Hp} {b:BS} {a:Addr} (h:aS n ρ B H b) (c:ρ a = none):aS n (bC ρ a (n,t,x)) B H b:=
 h.same ⟨fun _ _ e=>e,fun b u y w _ hc he=>⟨he,by rw [bu (fun z=>by rw [z,c] at hc;cases hc)];exact hc⟩⟩
theorem aS.find {n:Nat} {ρ:aW} {B:BA} {H:Hp} {b:BS} (h:aS n ρ B H b) {i:Nat} {p:BP} (e:b.ai[i]? = some p):∃q,B.qs[i]? = some q∧H q.1 = some (jd p q.2)∧H q.2 = some (.lst (p.tops.map V.int))∧ρ q.1 = some (n,23,p.nm)∧ρ q.2 = some (n,24,p.nm):=by
 have hi:i < B.qs.length:=by rw [h.ql];exact (List.getElem?_eq_some_iff.mp e).1
 exact ⟨B.qs[i],List.getElem?_eq_getElem hi,h.pt i p _ e (List.getElem?_eq_getElem hi)⟩
theorem aS.KU {n:Nat} {ρ:aW} {B:BA} {H:Hp} {b:BS} (h:aS n ρ B H b) (g:Gh ρ H) (x:Int):aS n ρ B (upd H B.m (.dK (c_ B x))) { b with bot:=x }:=by
 have k:=cX (o:= .dK (c_ B x)) g h.cm
 have z:=fun {b:Addr} {t:Nat} {x:Str} {o:HO} (u:decide (t ≠ 20) = true) (c:ρ b = some (n,t,x)) (e:H b = some o)=>(k.2 b t x o u c e).1
 obtain ⟨vs,h1,h2⟩:=h.oa
 exact ⟨af,h.cm,z (by decide) h.co h.oo,h.co,z (by decide) h.cp h.op,h.cp,⟨vs,z (by decide) h.ca h1,h2.keep k (by decide) (by decide)⟩,h.ca,z (by decide) h.ck h.ok,h.ck,h.ql,
  fun i p q e1 e2=>let ⟨a,b,c,d⟩:=h.pt i p q e1 e2;⟨z (by decide) c a,z (by decide) d b,c,d⟩⟩
theorem aS.qO {n:Nat} {ρ:aW} {B:BA} {H:Hp} {b:BS} (h:aS n ρ B H b) (g:Gh ρ H) {i:Nat} {p0 p1:BP} {q0:Addr × Addr} {t1:Addr} (ep:b.ai[i]? = some p0) (eq:B.qs[i]? = some q0) (e1:p1.nm = p0.nm) (nd:(b.ai.map (fun p:BP=>p.nm)).Nodup)
  (ht:H t1 = some (.lst (p1.tops.map V.int))) (ct:ρ t1 = some (n,24,p1.nm)):aS n ρ { B with qs:=B.qs.set i (q0.1,t1) } (upd H q0.1 (jd p1 t1)) { b with ai:=b.ai.set i p1 }:=by
 obtain ⟨x1,x2,x3,x4⟩:=h.pt i p0 q0 ep eq
 have k:=cX (o:=jd p1 t1) g x3
 have z:=fun {b:Addr} {t:Nat} {x:Str} {o:HO} (u:decide (t ≠ 23) = true) (c:ρ b = some (n,t,x)) (e:H b = some o)=>(k.2 b t x o u c e).1
 obtain ⟨vs,h1,h2⟩:=h.oa
 have hi:i < B.qs.length:=(List.getElem?_eq_some_iff.mp eq).1
 have hi2:i < b.ai.length:=(List.getElem?_eq_some_iff.mp ep).1
 have em:(B.qs.set i (q0.1,t1)).map (fun q=>V.ref q.1) = B.qs.map fun q=>V.ref q.1:=by
  rw [List.map_set]
  exact nv (by rw [List.getElem?_map,eq];rfl)
 refine ⟨z (by decide) h.cm h.om,h.cm,z (by decide) h.co h.oo,h.co,?_,h.cp,⟨vs,z (by decide) h.ca h1,h2.keep k (by decide) (by decide)⟩,h.ca,z (by decide) h.ck h.ok,h.ck,?_,fun j p q tR DR=>?_⟩
 · show upd H q0.1 _ B.lp = some (.lst ((B.qs.set i (q0.1,t1)).map _))
   rw [em];exact z (by decide) h.cp h.op
 · show (B.qs.set i (q0.1,t1)).length = (b.ai.set i p1).length
   rw [List.length_set,List.length_set];exact h.ql
 · have tR:(b.ai.set i p1)[j]? = some p:=tR
   have DR:(B.qs.set i (q0.1,t1))[j]? = some q:=DR
   by_cases hj:i = j
   · subst hj
     rw [List.getElem?_set_self hi2] at tR
     rw [List.getElem?_set_self hi] at DR
     cases tR;cases DR
     exact ⟨af,z (by decide) ct ht,by rw [e1];exact x3,ct⟩
   · rw [List.getElem?_set_ne hj] at tR DR
     obtain ⟨a1,a2,a3,a4⟩:=h.pt j p q tR DR
     have hnm:p.nm ≠ p0.nm:=fun e=>by
      have hj2:j < b.ai.length:=(List.getElem?_eq_some_iff.mp tR).1
      have r1:(b.ai.map (fun p:BP=>p.nm))[j]? = some p.nm:=by rw [List.getElem?_map,tR];rfl
      have r2:(b.ai.map (fun p:BP=>p.nm))[i]? = some p0.nm:=by rw [List.getElem?_map,ep];rfl
      have R9:j < (b.ai.map (fun p:BP=>p.nm)).length:=by rw [List.length_map];exact hj2
      exact hj ((List.getElem?_inj R9 nd).mp (r1.trans (by rw [e];exact r2.symm))).symm
     have hq:q.1 ≠ q0.1:=fun e=>by rw [e,x3] at a3;exact hnm (congrArg (fun c:jL=>c.2.2) (Option.some.inj a3)).symm
     exact ⟨by rw [ao hq];exact a1,z (by decide) a4 a2,a3,a4⟩
theorem aS.Ms {n:Nat} {ρ:aW} {B:BA} {H:Hp} {b:BS} (h:aS n ρ B H b) (g:Gh ρ H) {lp:Addr} {qs:List (Addr × Addr)} {ps:List BP} (e:H lp = some (.lst (qs.map fun q=>V.ref q.1))) (c:ρ lp = some (n,22,⟨#[]⟩)) (hl:qs.length = ps.length)
  (hp:∀(i:Nat) (p:BP) (q:Addr × Addr),ps[i]? = some p→qs[i]? = some q→H q.1 = some (jd p q.2)∧H q.2 = some (.lst (p.tops.map V.int))∧ρ q.1 = some (n,23,p.nm)∧ρ q.2 = some (n,24,p.nm)):
  aS n ρ { { B with lp:=lp } with qs:=qs } (upd H B.m (.dK (c_ { B with lp:=lp } b.bot))) { b with ai:=ps }:=by
 have k:=cX (o:= .dK (c_ { B with lp:=lp } b.bot)) g h.cm
 have z:=fun {b:Addr} {t:Nat} {x:Str} {o:HO} (u:decide (t ≠ 20) = true) (c:ρ b = some (n,t,x)) (e:H b = some o)=>(k.2 b t x o u c e).1
 obtain ⟨vs,h1,h2⟩:=h.oa
 exact ⟨af,h.cm,z (by decide) h.co h.oo,h.co,z (by decide) c e,c,⟨vs,z (by decide) h.ca h1,h2.keep k (by decide) (by decide)⟩,h.ca,z (by decide) h.ck h.ok,h.ck,hl,
  fun i p q e1 e2=>let ⟨a,b,c,d⟩:=hp i p q e1 e2;⟨z (by decide) c a,z (by decide) d b,c,d⟩⟩
theorem aS.Mt {n:Nat} {ρ:aW} {B:BA} {H:Hp} {b:BS} (h:aS n ρ B H b) (g:Gh ρ H) {p:BP} {q:Addr × Addr} (e1:H q.1 = some (jd p q.2)) (e2:H q.2 = some (.lst (p.tops.map V.int))) (c1:ρ q.1 = some (n,23,p.nm)) (c2:ρ q.2 = some (n,24,p.nm)):
  aS n ρ { B with qs:=B.qs ++ [q] } (upd H B.lp (.lst ((B.qs ++ [q]).map fun q=>V.ref q.1))) { b with ai:=b.ai ++ [p] }:=by
 have k:=cX (o:= .lst ((B.qs ++ [q]).map fun q=>V.ref q.1)) g h.cp
 have z:=fun {b:Addr} {t:Nat} {x:Str} {o:HO} (u:decide (t ≠ 22) = true) (c:ρ b = some (n,t,x)) (e:H b = some o)=>(k.2 b t x o u c e).1
 obtain ⟨vs,h1,h2⟩:=h.oa
 refine ⟨z (by decide) h.cm h.om,h.cm,z (by decide) h.co h.oo,h.co,af,h.cp,⟨vs,z (by decide) h.ca h1,h2.keep k (by decide) (by decide)⟩,h.ca,z (by decide) h.ck h.ok,h.ck,?_,fun i x y ex ey=>?_⟩
 · show (B.qs ++ [q]).length = (b.ai ++ [p]).length
   rw [List.length_append,List.length_append,h.ql];rfl
 · have ex:(b.ai ++ [p])[i]? = some x:=ex
   have ey:(B.qs ++ [q])[i]? = some y:=ey
   by_cases c:i < b.ai.length
   · rw [List.getElem?_append_left c] at ex
     rw [List.getElem?_append_left (by rw [h.ql];exact c)] at ey
     obtain ⟨a1,a2,a3,a4⟩:=h.pt i x y ex ey
     exact ⟨z (by decide) a3 a1,z (by decide) a4 a2,a3,a4⟩
   · have hi:i = b.ai.length:=by
      have:=(List.getElem?_eq_some_iff.mp ex).1
      rw [List.length_append] at this
      have:i < b.ai.length + 1:=this
      omega
     subst hi
     rw [List.getElem?_append_right (Nat.le_refl _),Nat.sub_self] at ex
     rw [List.getElem?_append_right (by rw [h.ql];exact Nat.le_refl _),h.ql,Nat.sub_self] at ey
     cases ex;cases ey
     exact ⟨z (by decide) c1 e1,z (by decide) c2 e2,c1,c2⟩
theorem aS.KW {n:Nat} {ρ:aW} {B:BA} {H:Hp} {b:BS} (h:aS n ρ B H b) (g:Gh ρ H) (l:List Str):aS n ρ B (upd H B.lk (.lst (l.map V.str))) { b with lA:=l }:=by
 have k:=cX (o:= .lst (l.map V.str)) g h.ck
 have z:=fun {b:Addr} {t:Nat} {x:Str} {o:HO} (u:decide (t ≠ 26) = true) (c:ρ b = some (n,t,x)) (e:H b = some o)=>(k.2 b t x o u c e).1
 obtain ⟨vs,h1,h2⟩:=h.oa
 exact ⟨z (by decide) h.cm h.om,h.cm,z (by decide) h.co h.oo,h.co,z (by decide) h.cp h.op,h.cp,⟨vs,z (by decide) h.ca h1,h2.keep k (by decide) (by decide)⟩,h.ca,af,h.ck,h.ql,
  fun i p q e1 e2=>let ⟨a,b,c,d⟩:=h.pt i p q e1 e2;⟨z (by decide) c a,z (by decide) d b,c,d⟩⟩
structure IC (K:PySem.W.Frag) (H:Hp) (us:List V) (ws:List Row):Prop where
 len:us.length = ws.length
 at_:∀(i:Nat) (r:Row),ws[i]? = some r→∃a xs,us[i]? = some (.ref a)∧Sq K H a xs∧xs[0]? = some (.str r.1)∧xs[2]? = some (.int r.2)
def ny (b:BS):List Row:=b.ai.map fun p=>(p.nm,p.wo)
theorem aS.nw {K:PySem.W.Frag} {n:Nat} {ρ:aW} {B:BA} {H:Hp} {b:BS} (h:aS n ρ B H b):IC K H (B.qs.map fun q=>V.ref q.1) (ny b):=by
 refine ⟨by unfold ny;rw [List.length_map,List.length_map];exact h.ql,fun i r e=>?_⟩
 unfold ny at e
 rw [List.getElem?_map] at e
 obtain ⟨p,ep,rfl⟩:=Option.map_eq_some_iff.mp e
 obtain ⟨q,eq,a1,_⟩:=h.find ep
 exact ⟨q.1,_,by rw [List.getElem?_map,eq];rfl, .inl (av.of a1),rfl,rfl⟩
def aY (b:BS):Int:=(b.ai.map fun p=>p.wo).sum
theorem yH:∀{l:List Str} {o:Str},o∈l→l[l.idxOf o]? = some o
 | [],_,h=>by simp at h
 | x :: l,o,h=>by
   by_cases e:x = o
   · subst e;simp
   · have ho:o∈l:=by
      rcases List.mem_cons.mp h with z | z
      · exact absurd z.symm e
      · exact z
     rw [List.idxOf_cons,show (x == o) = false from beq_eq_false_iff_ne.mpr e]
     simpa using yH ho
structure DS (K:PySem.W.Frag) (vs:List V) (H:Hp) (Q:VK) (E:XK):Prop where
 ex:∃(l:Addr) (own:List Str) (n:Nat) (ρ:aW),vs = [.ref l]∧av K H l (own.map V.str)∧Gh ρ H∧own.length≤1000∧∀ρ' B H',Gh ρ' H'→aS n ρ' B H' ⟨own,[],1,[],[]⟩→(∀b o,H b = some o→H' b = some o∧ρ' b = ρ b)→Q (.ref B.m) H'
structure GA (K:PySem.W.Frag) (vs:List V) (H:Hp) (Q:VK) (E:XK):Prop where
 ex:∃(l:Addr) (own:List Str) (o:Str),vs = [.ref l, .str o]∧av K H l (own.map V.str)∧o∈own∧own.length≤1000∧Q (.int (own.idxOf o:Int)) H
def rj (b:BS) (x o:Str) (wo we:Int):BS:={ b with ai:=b.ai ++ [⟨x,o,wo,we,(List.replicate b.own.length 0).set (b.own.idxOf o) b.bot⟩],lA:=b.lA ++ [x] }
structure yI (vs:List V) (H:Hp) (Q:VK) (E:XK):Prop where
 ex:∃n ρ B b,∃(x o:Str) (wo we:Int),vs = [.ref B.m, .str x, .str o, .int wo, .int we]∧Gh ρ H∧aS n ρ B H b∧o∈b.own∧b.own.length≤1000∧b.ai.length≤1000∧b.lA.length≤1000∧∀ρ' B' H',Gh ρ' H'→aS n ρ' B' H' (rj b x o wo we)→B'.m = B.m→Fr n ρ H ρ' H'→Q .bE H'
structure JH (K:PySem.W.Frag) (vs:List V) (H:Hp) (Q:VK) (E:XK):Prop where
 ex:∃(l:Addr) (us:List V) (ws:List Row) (i:Nat) (r:Row),vs = [.ref l, .str r.1]∧av K H l us∧IC K H us ws∧(ws.map (fun r:Row=>r.1)).Nodup∧ws.length≤1000∧ws[i]? = some r∧Q (.int (i:Int)) H
structure GB (ws rs:List Row):Prop where
 nd:(rs.map (fun r:Row=>r.1)).Nodup
 row:∀r∈rs,1≤r.2∧r.2≤1000000000∧∃w∈ws,w.1 = r.1∧r.2≤w.2
 lost:aC rs < aC ws∨rs = []
 len:rs.length≤ws.length
structure DT (K:PySem.W.Frag) (vs:List V) (H:Hp) (Q:VK) (E:XK):Prop where
 ex:∃(a l:Addr) (ns:List Int) (k:Int) (us:List V) (ws:List Row),vs = [.ref a, .int k, .ref l]∧av K H a (ns.map V.int)∧ns.length≤63∧0≤k∧k≤1000000∧av K H l us∧IC K H us ws∧(ws.map (fun r:Row=>r.1)).Nodup∧ws.length≤1000∧(∀w∈ws,1≤w.2)∧
  ∀z zs rs H',aD H H'→H z = none→H' z = some (.lst zs)→c5 H' zs rs→GB ws rs→Q (.ref z) H'
end L2
namespace L2
open PySem PySem.Spec PyProof.Rows
section
variable {X:Cx}
def mz (i j k:Int):Int:=if j < i then (if k < j then k else j) else (if k < i then k else i)
theorem KY (i j k:Int):mz i j k≤i∧mz i j k≤j∧mz i j k≤k:=by unfold mz;split <;> split <;> omega
theorem KZ {i j k m:Int} (h1:m≤i) (h2:m≤j) (h3:m≤k):m≤mz i j k:=by unfold mz;split <;> split <;> omega
theorem GC (hc:X.calm = true):dZ X (.builtin "min") (fun xs H Q=>∃i j k,xs = [.int i, .int j, .int k]∧Q (.int (mz i j k)) H):=by
 intro pins s σ H xs us Q I r h
 obtain ⟨i,j,k,rfl,q⟩:=h
 obtain ⟨u,us,rfl,⟨t,rfl⟩,r2⟩:∃u us',us = u :: us'∧RelV (.int i) u∧Vals [.int j, .int k] us':=by cases r with | cons a b=>exact ⟨_,_,rfl,a,b⟩
 obtain ⟨u2,u3,rfl,⟨t',rfl⟩,⟨t'',rfl⟩⟩:=vals2 r2
 refine min_three_ints (I.ok.hd hc) fun h' tk kk=>⟨_,H,I.kept kk,?_,q⟩
 unfold mz
 by_cases hj:j < i
 · rw [if_pos hj,if_pos hj]
   by_cases hk:k < j
   · rw [if_pos hk,if_pos hk];exact ⟨_,rfl⟩
   · rw [if_neg hk,if_neg hk];exact ⟨_,rfl⟩
 · rw [if_neg hj,if_neg hj]
   by_cases hk:k < i
   · rw [if_pos hk,if_pos hk];exact ⟨_,rfl⟩
   · rw [if_neg hk,if_neg hk];exact ⟨_,rfl⟩
end
end L2
namespace L2
open PySem PySem.Spec PyProof.Rows
def ju (given:List Int) (kept:Int) (p:BP) (a:Int):BP:={ p with tops:=List.zipWith (fun t g=>t * kept + g) p.tops given,wo:=p.wo - a }
def gY (ps:List BP) (as:List Int) (i:Nat):Int:=(List.zipWith (fun (p:BP) (a:Int)=>p.tops.getD i 0 * a) ps as).sum
def dj (b:BS) (as:List Int):List Int:=(List.range b.own.length).map (gY b.ai as)
def fE (b:BS) (as:List Int) (seat:Nat) (aw:Int):List Int:=if 0 < aw then (dj b as).set seat ((dj b as).getD seat 0 + aw * b.bot) else dj b as
def bT (b:BS) (as:List Int) (seat:Nat) (aw:Int):List BP:=List.zipWith (ju (fE b as seat aw) (aY b - aw - as.sum)) b.ai as
def lI (b:BS) (as:List Int) (seat:Nat) (aw:Int):BS:={ b with bot:=b.bot * aY b,ai:=(bT b as seat aw).filter fun p=>decide (0 < p.wo) }
structure qb (b:BS):Prop where
 nd:(b.ai.map (fun p:BP=>p.nm)).Nodup
 tl:∀p∈b.ai,p.tops.length = b.own.length
 t0:∀p∈b.ai,∀t∈p.tops,0≤t∧t≤b.bot
 b1:1≤b.bot
 bz:Jm.Sz 7000 b.bot
 w1:∀p∈b.ai,1≤p.wo
 ol:b.own.length≤100
 pl:b.ai.length≤1000
 kl:b.lA.length≤1000
structure kB (b:BS) (as:List Int) (seat:Nat) (aw:Int):Prop where
 len:as.length = b.ai.length
 a0:∀a∈as,0≤a
 seat:seat < b.own.length
 yJ:0≤aw
 kept:0 < aY b - aw - as.sum
 big:Jm.Sz 60 (aY b)
structure GD (K:PySem.W.Frag) (vs:List V) (H:Hp) (Q:VK) (E:XK):Prop where
 ex:∃n ρ B b,∃(l:Addr) (as:List Int) (seat:Nat) (aw:Int),vs = [.ref B.m, .ref l, .int (seat:Int), .int aw]∧Gh ρ H∧aS n ρ B H b∧qb b∧av K H l (as.map V.int)∧ρ l = none∧kB b as seat aw∧
  ∀ρ' B' H',Gh ρ' H'→aS n ρ' B' H' (lI b as seat aw)→B'.m = B.m→Fr n ρ H ρ' H'→Q .bE H'
theorem nB {b:BS} {as:List Int} {seat:Nat} {aw:Int} (h:as.length = b.ai.length):(bT b as seat aw).length = b.ai.length:=by
 unfold bT;rw [List.length_zipWith,h];omega
theorem ID {b:BS} {as:List Int} {seat:Nat} {aw:Int} {i:Nat} {p:BP} {a:Int} (h1:b.ai[i]? = some p) (h2:as[i]? = some a):(bT b as seat aw)[i]? = some (ju (fE b as seat aw) (aY b - aw - as.sum) p a):=DP h1 h2
theorem nC {as:List Int} (h:∀a∈as,0≤a):∀{x:Int},x∈as→x≤as.sum:=by
 induction as with
 | nil=>intro x hx;simp at hx
 | cons a l ih=>
   intro x hx
   have h0:=h a List.mem_cons_self
   have hl:0≤l.sum:=by
    clear ih hx
    have:∀(l:List Int),(∀a∈l,0≤a)→0≤l.sum:=fun l=>by
     induction l with
     | nil=>intro _;exact Int.le_refl _
     | cons a l ih=>intro h;rw [List.sum_cons];have:=h a List.mem_cons_self;have:=ih fun x hx=>h x (List.mem_cons_of_mem _ hx);omega
    exact this l fun x hx=>h x (List.mem_cons_of_mem _ hx)
   rw [List.sum_cons]
   rcases List.mem_cons.mp hx with e | e
   · omega
   · have:=ih (fun y hy=>h y (List.mem_cons_of_mem _ hy)) e
     omega
theorem jv (b:BS) (as:List Int):(dj b as).length = b.own.length:=by unfold dj;rw [List.length_map,List.length_range]
theorem uO (b:BS) (as:List Int) (seat:Nat) (aw:Int):(fE b as seat aw).length = b.own.length:=by
 unfold fE;split
 · rw [List.length_set,jv]
 · exact jv b as
theorem Bo {ps:List BP} {as:List Int} {i j:Nat} {p:BP} {a:Int} (h1:ps[j]? = some p) (h2:as[j]? = some a):(List.zipWith (fun (p:BP) (a:Int)=>p.tops.getD i 0 * a) (ps.take (j + 1)) (as.take (j + 1))) = List.zipWith (fun (p:BP) (a:Int)=>p.tops.getD i 0 * a) (ps.take j) (as.take j) ++ [p.tops.getD i 0 * a] :=ja _ h1 h2
theorem K0 {α:Type} {xs ys:List α} {i:Nat} {p:α} (hx:i≤xs.length) (h:ys[i]? = some p):(xs.take i ++ ys.drop i)[i]? = some p:=by
 have hl:(xs.take i).length = i:=by rw [List.length_take];omega
 rw [List.getElem?_append_right (by omega),hl,Nat.sub_self,List.getElem?_drop]
 exact h
theorem K1 {α:Type} {xs ys:List α} {i:Nat} {x:α} (hx:xs[i]? = some x) (hy:i < ys.length):(xs.take i ++ ys.drop i).set i x = xs.take (i + 1) ++ ys.drop (i + 1):=by
 have hi:=(List.getElem?_eq_some_iff.mp hx).1
 have hl:(xs.take i).length = i:=by rw [List.length_take];omega
 rw [List.set_append_right _ _ (by omega),hl,Nat.sub_self,List.drop_eq_getElem_cons hy,List.set_cons_zero,take_snoc hx,List.append_assoc]
 rfl
theorem GF {b:BS} {as:List Int} {seat:Nat} {aw:Int} (h:as.length = b.ai.length) (i:Nat):((bT b as seat aw).take i ++ b.ai.drop i).map (fun p:BP=>p.nm) = b.ai.map (fun p:BP=>p.nm):=by
 have e:(bT b as seat aw).map (fun p:BP=>p.nm) = b.ai.map (fun p:BP=>p.nm):=by
  unfold bT
  generalize fE b as seat aw = g
  generalize aY b - aw - as.sum = k
  generalize b.ai = ps at *
  clear b
  induction ps generalizing as with
  | nil=>rfl
  | cons p ps ih=>
    cases as with
    | nil=>simp at h
    | cons a as=>
      rw [List.zipWith_cons_cons,List.map_cons,List.map_cons,ih (by simpa using h)]
      rfl
 rw [List.map_append,List.map_take,e,← List.map_take,← List.map_append,List.take_append_drop]
theorem GG (B:BA) (x y:Int):putK (c_ B x) (Sum.inr "bottom") (.int y) = c_ B y:=rfl
theorem IE (B:BA) (x:Int) (l:Addr):putK (c_ B x) (Sum.inr "parts") (.ref l) = c_ { B with lp:=l } x:=rfl
def gj:List BP→List (Addr × Addr)→List (Addr × Addr)
 | p :: ps,q :: qs=>if 0 < p.wo then q :: gj ps qs else gj ps qs
 | _,_=>[]
theorem yK:∀{ps:List BP} {qs:List (Addr × Addr)},qs.length = ps.length→(gj ps qs).length = (ps.filter fun p=>decide (0 < p.wo)).length
 | [],[],_=>rfl
 | [],_ :: _,h=>by simp at h
 | _ :: _,[],h=>by simp at h
 | p :: ps,q :: qs,h=>by
   have ih:=yK (ps:=ps) (qs:=qs) (by simpa using h)
   unfold gj
   by_cases c:0 < p.wo
   · rw [if_pos c,List.filter_cons,if_pos (decide_eq_true c),List.length_cons,List.length_cons,ih]
   · rw [if_neg c,List.filter_cons,if_neg (by simpa using c),ih]
theorem uP:∀{ps:List BP} {qs:List (Addr × Addr)} {i:Nat} {p:BP} {q:Addr × Addr},(ps.filter fun p=>decide (0 < p.wo))[i]? = some p→(gj ps qs)[i]? = some q→qs.length = ps.length→∃j:Nat,ps[j]? = some p∧qs[j]? = some q
 | [],_,_,_,_,h,_,_=>by simp at h
 | _ :: _,[],_,_,_,_,_,h=>by simp at h
 | x :: ps,y :: qs,i,p,q,h1,h2,hl=>by
   unfold gj at h2
   by_cases c:0 < x.wo
   · rw [if_pos c] at h2
     rw [List.filter_cons,if_pos (decide_eq_true c)] at h1
     cases i with
     | zero=>simp at h1 h2;exact ⟨0,by simpa using h1,by simpa using h2⟩
     | succ i=>
       obtain ⟨j,a,b⟩:=uP (ps:=ps) (qs:=qs) (i:=i) (by simpa using h1) (by simpa using h2) (by simpa using hl)
       exact ⟨j + 1,by simpa using a,by simpa using b⟩
   · rw [if_neg c] at h2
     rw [List.filter_cons,if_neg (by simpa using c)] at h1
     obtain ⟨j,a,b⟩:=uP (ps:=ps) (qs:=qs) (i:=i) h1 h2 (by simpa using hl)
     exact ⟨j + 1,by simpa using a,by simpa using b⟩
theorem v7:∀{ps:List BP} {qs:List (Addr × Addr)} {j:Nat} {p:BP} {q:Addr × Addr},ps[j]? = some p→qs[j]? = some q→gj (ps.take (j + 1)) (qs.take (j + 1)) = gj (ps.take j) (qs.take j) ++ (if 0 < p.wo then [q] else [])
 | [],_,_,_,_,h,_=>by simp at h
 | _ :: _,[],_,_,_,_,h=>by simp at h
 | x :: ps,y :: qs,0,p,q,h1,h2=>by
   have e1:x = p:=by simpa using h1
   have e2:y = q:=by simpa using h2
   subst e1 e2
   show gj (x :: ps.take 0) (y :: qs.take 0) = [] ++ _
   unfold gj
   split <;> rfl
 | x :: ps,y :: qs,j + 1,p,q,h1,h2=>by
   have ih:=v7 (ps:=ps) (qs:=qs) (j:=j) (by simpa using h1) (by simpa using h2)
   show gj (x :: ps.take (j + 1)) (y :: qs.take (j + 1)) = gj (x :: ps.take j) (y :: qs.take j) ++ _
   unfold gj
   rw [ih]
   split <;> rfl
end L2
namespace L2
open PySem PySem.Spec PyProof.Rows
def bX (rs:List Row) (x:Str):Int:=((rs.find? fun r=>decide (r.1 = x)).map (fun r:Row=>r.2)).getD 0
theorem yL (x:Str):bX [] x = 0:=rfl
theorem gZ (r:Row) (rs:List Row) (x:Str):bX (r :: rs) x = if r.1 = x then r.2 else bX rs x:=by
 unfold bX
 rw [List.find?_cons]
 by_cases c:r.1 = x
 · rw [decide_eq_true c,if_pos c];rfl
 · rw [decide_eq_false c,if_neg c]
theorem lJ:∀{rs:List Row} {x:Str},x ∉ rs.map (fun r:Row=>r.1)→bX rs x = 0
 | [],_,_=>rfl
 | r :: rs,x,h=>by
   rw [gZ,if_neg (fun e=>h (by rw [List.map_cons,e];exact List.mem_cons_self))]
   exact lJ fun m=>h (by rw [List.map_cons];exact List.mem_cons_of_mem _ m)
theorem g_:∀{rs:List Row} {r:Row} {x:Str},r.1 ∉ rs.map (fun r:Row=>r.1)→bX (rs ++ [r]) x = if r.1 = x then r.2 else bX rs x
 | [],r,x,_=>by rw [List.nil_append,gZ]
 | y :: rs,r,x,h=>by
   rw [List.map_cons] at h
   have h1:r.1 ≠ y.1:=fun e=>h (by rw [e];exact List.mem_cons_self)
   rw [List.cons_append,gZ,g_ (fun m=>h (List.mem_cons_of_mem _ m)),gZ]
   by_cases c:y.1 = x
   · rw [if_pos c,if_pos c,if_neg (fun e=>h1 (e.trans c.symm))]
   · rw [if_neg c,if_neg c]
theorem IF {rs:List Row} (h:∀r∈rs,1≤r.2) (x:Str):0≤bX rs x:=by
 induction rs with
 | nil=>exact Int.le_refl _
 | cons r rs ih=>
   rw [gZ]
   split
   · have:=h r List.mem_cons_self;omega
   · exact ih fun y hy=>h y (List.mem_cons_of_mem _ hy)
def bx (b:BS) (rs:List Row):List Int:=b.ai.map fun p=>bX rs p.nm
theorem rm (b:BS) (rs:List Row):(bx b rs).length = b.ai.length:=by unfold bx;rw [List.length_map]
theorem v8 {b:BS} (nd:(b.ai.map (fun p:BP=>p.nm)).Nodup) {rs:List Row} {r:Row} {j:Nat} {p:BP} (hp:b.ai[j]? = some p) (e:p.nm = r.1) (h:r.1 ∉ rs.map (fun r:Row=>r.1)):bx b (rs ++ [r]) = (bx b rs).set j r.2∧(bx b rs)[j]? = some 0:=by
 have hj:=(List.getElem?_eq_some_iff.mp hp).1
 constructor
 · refine List.ext_getElem? fun k=>?_
   by_cases c:j = k
   · subst c
     rw [List.getElem?_set_self (by rw [rm];exact hj)]
     unfold bx
     rw [List.getElem?_map,hp]
     show some (bX (rs ++ [r]) p.nm) = _
     rw [g_ h,if_pos e.symm]
   · rw [List.getElem?_set_ne c]
     unfold bx
     rw [List.getElem?_map,List.getElem?_map]
     cases ek:b.ai[k]? with
     | none=>rfl
     | some x=>
       show some (bX (rs ++ [r]) x.nm) = some (bX rs x.nm)
       rw [g_ h,if_neg]
       intro z
       have r1:(b.ai.map (fun p:BP=>p.nm))[k]? = some x.nm:=by rw [List.getElem?_map,ek];rfl
       have r2:(b.ai.map (fun p:BP=>p.nm))[j]? = some p.nm:=by rw [List.getElem?_map,hp];rfl
       exact c ((List.getElem?_inj (by rw [List.length_map];exact hj) nd).mp (r2.trans (by rw [e,z];exact r1.symm)))
 · unfold bx
   rw [List.getElem?_map,hp]
   show some (bX rs p.nm) = _
   rw [e,lJ h]
theorem Bp:∀{l:List Int} {j:Nat} {x:Int},l[j]? = some 0→(l.set j x).sum = l.sum + x
 | [],_,_,h=>by simp at h
 | a :: l,0,x,h=>by
   have:a = 0:=by simpa using h
   rw [List.set_cons_zero,List.sum_cons,List.sum_cons];omega
 | a :: l,j + 1,x,h=>by
   rw [List.set_cons_succ,List.sum_cons,List.sum_cons,Bp (by simpa using h)];omega
structure nD (b:BS) (rs:List Row):Prop where
 nd:(rs.map (fun r:Row=>r.1)).Nodup
 row:∀r∈rs,1≤r.2∧∃(j:Nat) (p:BP),b.ai[j]? = some p∧p.nm = r.1∧r.2≤p.wo
theorem yM {b:BS} (nd:(b.ai.map (fun p:BP=>p.nm)).Nodup) {rs:List Row} (h:nD b rs):∀i≤rs.length,(bx b (rs.take i)).sum = aC (rs.take i):=by
 intro i
 induction i with
 | zero=>
   intro _
   rw [List.take_zero]
   unfold bx
   show (b.ai.map fun p=>(0:Int)).sum = 0
   clear nd h
   generalize b.ai = ps
   induction ps with
   | nil=>rfl
   | cons p ps ih=>rw [List.map_cons,List.sum_cons,ih];rfl
 | succ i ih=>
   intro hi
   have ei:=List.getElem?_eq_getElem (show i < rs.length by omega)
   rw [take_snoc ei]
   obtain ⟨_,j,p,hp,e,_⟩:=h.row _ (List.mem_of_getElem? ei)
   have hn:(rs[i]).1 ∉ (rs.take i).map (fun r:Row=>r.1):=by
    rw [List.map_take]
    exact fW h.nd (by rw [List.getElem?_map,ei];rfl)
   obtain ⟨s1,s2⟩:=v8 nd hp e hn
   rw [s1,Bp s2,ih (by omega)]
   unfold aC
   rw [List.map_append,List.sum_append]
   simp
abbrev Q4:=Str × Str × Int × Int
def gk (st:HS):List Q4:=st.ai.map fun p=>(p.nm,p.ow,p.wo,p.we)
def lK (b:BS):List Q4:=b.ai.map fun p=>(p.nm,p.ow,p.wo,p.we)
def kj (qs:List Q4) (r:Row):List Q4:=(qs.map fun q=>if q.1 = r.1 then (q.1,q.2.1,q.2.2.1 - r.2,q.2.2.2) else q).filter fun q=>decide (q.2.2.1 ≠ 0)
def iB (rs:List Row) (qs:List Q4):List Q4:=(qs.map fun q=>(q.1,q.2.1,q.2.2.1 - bX rs q.1,q.2.2.2)).filter fun q=>decide (0 < q.2.2.1)
theorem GH (st:HS) (r:Row):gk (di st r) = kj (gk st) r:=by
 unfold gk di iH kj
 generalize st.ai = ps
 show List.map _ (List.filter _ (List.map _ ps)) = _
 induction ps with
 | nil=>rfl
 | cons p ps ih=>
   rw [List.map_cons,List.map_cons,List.map_cons]
   by_cases c:p.nm = r.1
   · rw [if_pos c,if_pos (show (p.nm,p.ow,p.wo,p.we).1 = r.1 from c),List.filter_cons,List.filter_cons]
     by_cases d:p.wo - r.2 = 0
     · rw [if_neg (by simpa using d),if_neg (by simpa using d),ih]
     · rw [if_pos (by simpa using d),if_pos (by simpa using d),List.map_cons,ih]
   · rw [if_neg c,if_neg (show ¬ (p.nm,p.ow,p.wo,p.we).1 = r.1 from c),List.filter_cons,List.filter_cons]
     by_cases d:p.wo = 0
     · rw [if_neg (by simpa using d),if_neg (by simpa using d),ih]
     · rw [if_pos (by simpa using d),if_pos (by simpa using d),List.map_cons,ih]
theorem Ey (st:HS) (kept whole:Int) (added:List Int):gk (bQ st kept whole added) = gk st:=by
 unfold gk bQ
 rw [qZ,List.map_map]
 rfl
theorem v9:∀(rs:List Row) (st:HS),gk (rs.foldl di st) = rs.foldl kj (gk st)
 | [],_=>rfl
 | r :: rs,st=>by rw [List.foldl_cons,List.foldl_cons,v9 rs,GH]
theorem v_:∀(qs:List Q4) (r:Row) (rs:List Row),r.1 ∉ rs.map (fun r:Row=>r.1)→(∀q∈qs,1≤q.2.2.1)→(∀q∈qs,q.1 = r.1→r.2≤q.2.2.1)→iB rs (kj qs r) = iB (r :: rs) qs
 | [],_,_,_,_,_=>rfl
 | q :: qs,r,rs,hn,h1,h2=>by
   have ih:=v_ qs r rs hn (fun x hx=>h1 x (List.mem_cons_of_mem _ hx)) (fun x hx=>h2 x (List.mem_cons_of_mem _ hx))
   have w1:=h1 q List.mem_cons_self
   have e1:kj (q :: qs) r = (if q.1 = r.1 then (if q.2.2.1 - r.2 = 0 then [] else [(q.1,q.2.1,q.2.2.1 - r.2,q.2.2.2)]) else [q]) ++ kj qs r:=by
    unfold kj
    rw [List.map_cons,List.filter_cons]
    by_cases c:q.1 = r.1
    · rw [if_pos c,if_pos c]
      by_cases d:q.2.2.1 - r.2 = 0
      · rw [if_pos d,if_neg (by simpa using d)];rfl
      · rw [if_neg d,if_pos (by simpa using d)];rfl
    · rw [if_neg c,if_neg c,if_pos (decide_eq_true (show q.2.2.1 ≠ 0 by omega))];rfl
   have e2:∀(us:List Row) (x:Q4) (l:List Q4),iB us (x :: l) = (if 0 < x.2.2.1 - bX us x.1 then [(x.1,x.2.1,x.2.2.1 - bX us x.1,x.2.2.2)] else []) ++ iB us l:=fun us x l=>by
    unfold iB
    rw [List.map_cons,List.filter_cons]
    by_cases c:0 < x.2.2.1 - bX us x.1
    · rw [if_pos c,if_pos (decide_eq_true c)];rfl
    · rw [if_neg c,if_neg (by simpa using c)];rfl
   rw [e1,e2 (r :: rs),gZ]
   by_cases c:q.1 = r.1
   · have am:bX rs q.1 = 0:=by rw [c];exact lJ hn
     have le:=h2 q List.mem_cons_self c
     rw [if_pos c,if_pos c.symm]
     by_cases d:q.2.2.1 - r.2 = 0
     · rw [if_pos d,if_neg (by omega),← ih];rfl
     · rw [if_neg d,if_pos (by omega),← ih,List.cons_append,List.nil_append,e2 rs]
       show (if 0 < q.2.2.1 - r.2 - bX rs q.1 then [(q.1,q.2.1,q.2.2.1 - r.2 - bX rs q.1,q.2.2.2)] else []) ++ _ = _
       rw [am,Int.sub_zero,if_pos (by omega)]
   · rw [if_neg c,show (if r.1 = q.1 then r.2 else bX rs q.1) = bX rs q.1 from if_neg (fun z=>c z.symm),← ih,List.cons_append,List.nil_append,e2 rs]
theorem yN {qs:List Q4} {r:Row} {x:Q4} (h:x∈kj qs r):x.2.2.1 ≠ 0∧∃q∈qs,x = if q.1 = r.1 then (q.1,q.2.1,q.2.2.1 - r.2,q.2.2.2) else q:=by
 obtain ⟨h1,h2⟩:=List.mem_filter.mp h
 obtain ⟨q,hq,e⟩:=List.mem_map.mp h1
 exact ⟨of_decide_eq_true h2,q,hq,e.symm⟩
theorem yO:∀(rs:List Row) (qs:List Q4),(rs.map (fun r:Row=>r.1)).Nodup→(∀q∈qs,1≤q.2.2.1)→(∀r∈rs,∀q∈qs,q.1 = r.1→r.2≤q.2.2.1)→rs.foldl kj qs = iB rs qs
 | [],qs,_,h1,_=>by
   show qs = iB [] qs
   unfold iB
   induction qs with
   | nil=>rfl
   | cons q qs ih=>
     have:=h1 q List.mem_cons_self
     rw [List.map_cons,List.filter_cons,if_pos (decide_eq_true (show 0 < q.2.2.1 - bX [] q.1 by rw [yL];omega)),← ih (fun x hx=>h1 x (List.mem_cons_of_mem _ hx)) (fun r hr=>absurd hr (by simp)),yL,Int.sub_zero]
 | r :: rs,qs,nd,h1,h2=>by
   obtain ⟨n1,n2⟩:=List.nodup_cons.mp (show (r.1 :: rs.map (fun r:Row=>r.1)).Nodup from nd)
   rw [List.foldl_cons,yO rs (kj qs r) n2 ?_ ?_]
   · exact v_ qs r rs n1 h1 (h2 r List.mem_cons_self)
   · intro x hx
     obtain ⟨a,q,hq,e⟩:=yN hx
     have:=h1 q hq
     by_cases c:q.1 = r.1
     · rw [if_pos c] at e
       have:=h2 r List.mem_cons_self q hq c
       rw [e] at a ⊢
       have a:q.2.2.1 - r.2 ≠ 0:=a
       show 1≤q.2.2.1 - r.2
       omega
     · rw [if_neg c] at e;rw [e];exact this
   · intro y hy x hx ex
     obtain ⟨_,q,hq,e⟩:=yN hx
     by_cases c:q.1 = r.1
     · rw [if_pos c] at e
       rw [e] at ex
       exact absurd (List.mem_map.mpr ⟨y,hy,ex.symm.trans c⟩) n1
     · rw [if_neg c] at e
       rw [e] at ex ⊢
       exact h2 y (List.mem_cons_of_mem _ hy) q hq ex
theorem GI (b:BS) (rs:List Row) (seat:Nat) (aw:Int):lK (lI b (bx b rs) seat aw) = iB rs (lK b):=by
 unfold lK lI bT iB
 show List.map _ (List.filter _ (List.zipWith (ju (fE b (bx b rs) seat aw) (aY b - aw - (bx b rs).sum)) b.ai (bx b rs))) = _
 generalize fE b (bx b rs) seat aw = g
 generalize aY b - aw - (bx b rs).sum = k
 unfold bx
 generalize b.ai = ps
 induction ps with
 | nil=>rfl
 | cons p ps ih=>
   rw [List.map_cons,List.zipWith_cons_cons,List.map_cons,List.map_cons,List.filter_cons,List.filter_cons]
   by_cases c:0 < p.wo - bX rs p.nm
   · rw [if_pos (decide_eq_true (show 0 < (ju g k p (bX rs p.nm)).wo from c)),if_pos (decide_eq_true (show 0 < p.wo - bX rs p.nm from c)),List.map_cons,ih]
     rfl
   · rw [if_neg (by simpa using (show ¬ 0 < (ju g k p (bX rs p.nm)).wo from c)),if_neg (by simpa using c),ih]
structure gw (st:HS) (b:BS):Prop where
 own:st.own = b.own
 qd:gk st = lK b
theorem IG (st:HS) (rs:List Row):(dM st rs).own = st.own:=by
 unfold dM
 have:∀(rs:List Row) (s:HS),(rs.foldl di s).own = s.own:=fun rs=>by
  induction rs with
  | nil=>intro s;rfl
  | cons r rs ih=>intro s;rw [List.foldl_cons,ih];rfl
 rw [this]
 unfold bQ
 rw [Gw]
theorem GJ {st:HS} {b:BS} {rs:List Row} (r:gw st b) (wf:Wf st) (c:jr st rs):gw (dM st rs) (lI b (bx b rs) 0 0):=by
 refine ⟨by rw [IG,r.own];rfl,?_⟩
 rw [GI,← r.qd]
 unfold dM
 rw [v9,Ey]
 refine yO rs (gk st) c.nd (fun q hq=>?_) (fun x hx q hq e=>?_)
 · obtain ⟨p,hp,rfl⟩:=List.mem_map.mp hq
   exact (wf.vP p hp).1
 · obtain ⟨p,hp,rfl⟩:=List.mem_map.mp hq
   obtain ⟨_,_,p',GK,e',le⟩:=c.row x hx
   have:p = p':=DQ wf hp GK (e.trans e'.symm)
   rw [this]
   exact le
theorem GL {st:HS} {b:BS} (r:gw st b) (x o:Str) (wo we:Int):gw (sQ st x o wo we) (rj b x o wo we):=by
 refine ⟨r.own,?_⟩
 unfold gk lK sQ vR rj
 show List.map _ (st.ai ++ [_]) = List.map _ (b.ai ++ [_])
 rw [List.map_append,List.map_append,show st.ai.map (fun p=>(p.nm,p.ow,p.wo,p.we)) = b.ai.map (fun p=>(p.nm,p.ow,p.wo,p.we)) from r.qd]
 rfl
theorem gw.whole {st:HS} {b:BS} (r:gw st b):az st = aY b:=by
 unfold az aY
 have:=congrArg (List.map fun q:Q4=>q.2.2.1) r.qd
 unfold gk lK at this
 rw [List.map_map,List.map_map] at this
 exact congrArg List.sum this
theorem gw.len {st:HS} {b:BS} (r:gw st b):st.ai.length = b.ai.length:=by
 have:=congrArg List.length r.qd
 unfold gk lK at this
 rw [List.length_map,List.length_map] at this
 exact this
theorem gw.at {st:HS} {b:BS} (r:gw st b) {i:Nat} {q:BP} (h:b.ai[i]? = some q):∃p,st.ai[i]? = some p∧p.nm = q.nm∧p.ow = q.ow∧p.wo = q.wo∧p.we = q.we:=by
 have e:=congrArg (fun l:List Q4=>l[i]?) r.qd
 unfold gk lK at e
 have e:(st.ai.map fun p=>(p.nm,p.ow,p.wo,p.we))[i]? = (b.ai.map fun p=>(p.nm,p.ow,p.wo,p.we))[i]?:=e
 rw [List.getElem?_map,List.getElem?_map,h] at e
 obtain ⟨p,ep,e2⟩:=Option.map_eq_some_iff.mp e
 have e2:(p.nm,p.ow,p.wo,p.we) = (q.nm,q.ow,q.wo,q.we):=e2
 simp only [Prod.mk.injEq] at e2
 exact ⟨p,ep,e2⟩
theorem gw.at' {st:HS} {b:BS} (r:gw st b) {i:Nat} {p:Pt} (h:st.ai[i]? = some p):∃q,b.ai[i]? = some q∧p.nm = q.nm∧p.ow = q.ow∧p.wo = q.wo∧p.we = q.we:=by
 have hi:i < b.ai.length:=by rw [← r.len];exact (List.getElem?_eq_some_iff.mp h).1
 have eq:=List.getElem?_eq_getElem hi
 obtain ⟨p',e',z⟩:=r.at eq
 rw [h] at e'
 cases e'
 exact ⟨_,eq,z⟩
theorem gw.rows {K:PySem.W.Frag} {n:Nat} {ρ:aW} {B:BA} {H:Hp} {st:HS} {b:BS} (r:gw st b) (h:aS n ρ B H b):qU K H (B.qs.map fun q=>V.ref q.1) st.ai:=by
 refine ⟨by rw [List.length_map,h.ql,r.len],fun i p e=>?_⟩
 obtain ⟨q,eq,e1,e2,e3,e4⟩:=r.at' e
 obtain ⟨a,ea,k1,_⟩:=h.find eq
 refine ⟨a.1,_,by rw [List.getElem?_map,ea];rfl, .inl (av.of k1),?_,?_,?_,?_⟩
 · rw [e1];rfl
 · rw [e2];rfl
 · rw [e3];rfl
 · rw [e4];rfl
end L2
namespace L2
open PySem PySem.Spec PyProof.Rows
theorem yP {B:Int} (hB:0≤B):∀{ps:List BP} {as:List Int},(∀p∈ps,∀t∈p.tops,0≤t∧t≤B)→(∀a∈as,0≤a)→∀i,0≤gY ps as i∧gY ps as i≤B * as.sum
 | [],as,_,ha,i=>by
   have:0≤as.sum:=by
    cases as with
    | nil=>exact Int.le_refl _
    | cons a l=>exact Int.le_trans (ha a List.mem_cons_self) (nC ha List.mem_cons_self)
   exact ⟨by show (0:Int)≤0;omega,Int.mul_nonneg hB this⟩
 | _ :: _,[],_,_,i=>by
   show 0≤(0:Int)∧(0:Int)≤B * 0
   omega
 | p :: ps,a :: as,h,ha,i=>by
   have ih:=yP hB (ps:=ps) (as:=as) (fun x hx=>h x (List.mem_cons_of_mem _ hx)) (fun x hx=>ha x (List.mem_cons_of_mem _ hx)) i
   have a0:=ha a List.mem_cons_self
   have ht:0≤p.tops.getD i 0∧p.tops.getD i 0≤B:=by
    rw [List.getD_eq_getElem?_getD]
    cases e:p.tops[i]? with
    | none=>exact ⟨Int.le_refl _,hB⟩
    | some t=>exact h p List.mem_cons_self t (List.mem_of_getElem? e)
   have e:gY (p :: ps) (a :: as) i = p.tops.getD i 0 * a + gY ps as i:=by unfold gY;rw [List.zipWith_cons_cons,List.sum_cons]
   have k1:0≤p.tops.getD i 0 * a:=Int.mul_nonneg ht.1 a0
   have k2:p.tops.getD i 0 * a≤B * a:=Int.mul_le_mul_of_nonneg_right ht.2 a0
   rw [e,List.sum_cons,Int.mul_add]
   omega
theorem GN {b:BS} (wf:qb b) {as:List Int} {seat:Nat} {aw:Int} (ok:kB b as seat aw):∀g∈fE b as seat aw,0≤g∧g≤b.bot * (as.sum + aw):=by
 have b1:=wf.b1
 have cb:=yP (B:=b.bot) (by omega) wf.t0 ok.a0
 have yJ:=ok.yJ
 have m0:0≤b.bot * aw:=Int.mul_nonneg (by omega) yJ
 have hg:∀g∈dj b as,0≤g∧g≤b.bot * as.sum:=fun g h=>by
  obtain ⟨i,_,rfl⟩:=List.mem_map.mp h
  exact cb i
 intro g h
 rw [Int.mul_add]
 unfold fE at h
 split at h
 · rcases List.mem_or_eq_of_mem_set h with z | z
   · have:=hg g z;omega
   · have hs:seat < (dj b as).length:=by rw [jv];exact ok.seat
     have e:(dj b as).getD seat 0 = (dj b as)[seat] :=by rw [List.getD_eq_getElem?_getD,List.getElem?_eq_getElem hs];rfl
     have:=hg _ (List.getElem_mem hs)
     rw [z,e,Int.mul_comm aw]
     omega
 · have:=hg g h;omega
theorem II {b:BS} (wf:qb b) {as:List Int} {seat:Nat} {aw:Int} (ok:kB b as seat aw) (hz:Jm.Sz 7000 (b.bot * aY b)):qb (lI b as seat aw):=by
 have b1:=wf.b1
 have gb:=GN wf ok
 have kp:=ok.kept
 have as0:0≤as.sum:=by
  cases has:as with
  | nil=>exact Int.le_refl _
  | cons a l=>exact Int.le_trans (ok.a0 a (by rw [has];exact List.mem_cons_self)) (by rw [← has];exact nC ok.a0 (by rw [has];exact List.mem_cons_self))
 have yJ:=ok.yJ
 have xJ:∀p∈(bT b as seat aw).filter (fun p=>decide (0 < p.wo)),0 < p.wo∧∃p0∈b.ai,∃a,p = ju (fE b as seat aw) (aY b - aw - as.sum) p0 a:=fun p hp=>by
  obtain ⟨h1,h2⟩:=List.mem_filter.mp hp
  obtain ⟨i,x,a,ex,_,e⟩:=gM (show p∈List.zipWith (ju (fE b as seat aw) (aY b - aw - as.sum)) b.ai as from h1)
  exact ⟨of_decide_eq_true h2,x,List.mem_of_getElem? ex,a,e⟩
 have Mu:(bT b as seat aw).map (fun p:BP=>p.nm) = b.ai.map (fun p:BP=>p.nm):=by
  have:=GF (seat:=seat) (aw:=aw) ok.len b.ai.length
  rw [List.drop_length,List.append_nil,show (bT b as seat aw).take b.ai.length = bT b as seat aw from by rw [← nB ok.len];exact List.take_length] at this
  exact this
 refine ⟨?_,fun p hp=>?_,fun p hp t ht=>?_,?_,hz,fun p hp=>?_,wf.ol,?_,wf.kl⟩
 · have:(((bT b as seat aw).filter fun p=>decide (0 < p.wo)).map (fun p:BP=>p.nm)).Sublist ((bT b as seat aw).map (fun p:BP=>p.nm)):=List.filter_sublist.map _
   rw [Mu] at this
   exact wf.nd.sublist this
 · obtain ⟨_,p0,h0,a,rfl⟩:=xJ p hp
   show (List.zipWith _ p0.tops (fE b as seat aw)).length = b.own.length
   rw [List.length_zipWith,wf.tl p0 h0,uO]
   omega
 · obtain ⟨_,p0,h0,a,rfl⟩:=xJ p hp
   obtain ⟨i,x,g,ex,eg,rfl⟩:=gM (show t∈List.zipWith (fun t g=>t * (aY b - aw - as.sum) + g) p0.tops (fE b as seat aw) from ht)
   have hx:=wf.t0 p0 h0 x (List.mem_of_getElem? ex)
   have hg:=gb g (List.mem_of_getElem? eg)
   have k1:0≤x * (aY b - aw - as.sum):=Int.mul_nonneg hx.1 (by omega)
   have k2:x * (aY b - aw - as.sum)≤b.bot * (aY b - aw - as.sum):=Int.mul_le_mul_of_nonneg_right hx.2 (by omega)
   have k3:b.bot * (aY b - aw - as.sum) + b.bot * (as.sum + aw) = b.bot * aY b:=by rw [← Int.mul_add];congr 1;omega
   exact ⟨by omega,by show _≤b.bot * aY b;omega⟩
 · show 1≤b.bot * aY b
   have:b.bot * 1≤b.bot * aY b:=Int.mul_le_mul_of_nonneg_left (by omega) (by omega)
   omega
 · exact (xJ p hp).1
 · have:=List.length_filter_le (fun p:BP=>decide (0 < p.wo)) (bT b as seat aw)
   rw [nB ok.len] at this
   exact Nat.le_trans this wf.pl
theorem K2 {b:BS} (wf:qb b) {rs:List Row} (h:nD b rs) (hl:aC rs < aY b) (ho:0 < b.own.length) (hz:Jm.Sz 60 (aY b)):kB b (bx b rs) 0 0:=by
 have hs:=yM wf.nd h rs.length (Nat.le_refl _)
 rw [List.take_length] at hs
 refine ⟨rm b rs,fun a ha=>?_,ho,Int.le_refl _,by rw [hs];omega,hz⟩
 obtain ⟨p,_,rfl⟩:=List.mem_map.mp ha
 exact IF (fun r hr=>(h.row r hr).1) p.nm
structure DU (K:PySem.W.Frag) (vs:List V) (H:Hp) (Q:VK) (E:XK):Prop where
 ex:∃n ρ B b,∃(l:Addr) (us:List V) (rs:List Row),vs = [.ref B.m, .ref l]∧Gh ρ H∧aS n ρ B H b∧qb b∧av K H l us∧c5 H us rs∧ρ l = none∧nD b rs∧rs.length≤1000∧kB b (bx b rs) 0 0∧
  ∀ρ' B' H',Gh ρ' H'→aS n ρ' B' H' (lI b (bx b rs) 0 0)→B'.m = B.m→Fr n ρ H ρ' H'→Q .bE H'
theorem K3 {b:BS} (wf:qb b) {x o:Str} {wo we:Int} (h1:x ∉ b.ai.map (fun p:BP=>p.nm)) (h2:1≤wo) (h3:b.ai.length < 1000) (h4:b.lA.length < 1000):qb (rj b x o wo we):=by
 have P:∀{M:BP→Prop},(∀p∈b.ai,M p)→M ⟨x,o,wo,we,(List.replicate b.own.length 0).set (b.own.idxOf o) b.bot⟩→∀p∈(rj b x o wo we).ai,M p:=fun a c p hp=>by
  rcases List.mem_append.mp (show p∈b.ai ++ [_] from hp) with z | z
  · exact a p z
  · rw [List.mem_singleton.mp z];exact c
 have b1:=wf.b1
 refine ⟨?_,P wf.tl (by show ((List.replicate b.own.length (0:Int)).set _ _).length = _;rw [List.length_set,List.length_replicate];rfl),P wf.t0 (fun t ht=>?_),wf.b1,wf.bz,P wf.w1 h2,wf.ol,?_,?_⟩
 · show ((b.ai ++ [_]).map (fun p:BP=>p.nm)).Nodup
   rw [List.map_append]
   exact i7 wf.nd h1
 · rcases pL ht with z | z
   · rw [z];show 0≤0∧0≤b.bot;omega
   · rw [z];show 0≤b.bot∧b.bot≤b.bot;omega
 · show (b.ai ++ [_]).length≤1000
   rw [List.length_append];show b.ai.length + 1≤1000;omega
 · show (b.lA ++ [_]).length≤1000
   rw [List.length_append];show b.lA.length + 1≤1000;omega
theorem nE:∀(rs:List Row) (s:HS),rs.foldl di s = { s with ai:=(rs.foldl di s).ai }
 | [],_=>rfl
 | r :: rs,s=>by
   rw [List.foldl_cons,nE rs (di s r)]
   rfl
end L2
namespace L2
open PySem PySem.Spec PyProof.Rows
def xK (st:HS) (b:BS):Prop:=∀p∈st.ai,∀q∈b.ai,p.nm = q.nm→∀j,q.tops.getD j 0 * st.prod = (bF st p).getD j 0 * b.bot
theorem mC {f:Int→Int→Int} (hf:f 0 0 = 0) {xs ys:List Int} (h:xs.length = ys.length) (j:Nat):(List.zipWith f xs ys).getD j 0 = f (xs.getD j 0) (ys.getD j 0):=by
 rw [List.getD_eq_getElem?_getD,List.getD_eq_getElem?_getD,List.getD_eq_getElem?_getD,List.getElem?_zipWith]
 by_cases c:j < xs.length
 · rw [List.getElem?_eq_getElem c,List.getElem?_eq_getElem (by omega)];rfl
 · rw [List.getElem?_eq_none (by omega),List.getElem?_eq_none (by omega)];exact hf.symm
def mD (rs:List Row) (f:Str→Int):Int:=(rs.map fun r=>r.2 * f r.1).sum
theorem Bq {st:HS}:∀(rs:List Row) (acc:List Int),(∀r∈rs,(bF st (dH st r.1)).length = acc.length)→∀j,(pP st acc rs).getD j 0 = acc.getD j 0 + mD rs fun x=>(bF st (dH st x)).getD j 0
 | [],acc,_,j=>by show acc.getD j 0 = _ + 0;omega
 | r :: rs,acc,h,j=>by
   have hr:=h r List.mem_cons_self
   have e:(List.zipWith (fun x t=>x + r.2 * t) acc (bF st (dH st r.1))).length = acc.length:=by rw [List.length_zipWith,hr];omega
   show (pP st (List.zipWith (fun x t=>x + r.2 * t) acc (bF st (dH st r.1))) rs).getD j 0 = _
   rw [Bq rs _ (fun x hx=>by rw [e];exact h x (List.mem_cons_of_mem _ hx)),mC (f:=fun x t=>x + r.2 * t) (by show (0:Int) + r.2 * 0 = 0;omega) hr.symm]
   unfold mD
   rw [List.map_cons,List.sum_cons]
   show acc.getD j 0 + r.2 * (bF st (dH st r.1)).getD j 0 + (rs.map fun r=>r.2 * (bF st (dH st r.1)).getD j 0).sum = acc.getD j 0 + (r.2 * (bF st (dH st r.1)).getD j 0 + (rs.map fun r=>r.2 * (bF st (dH st r.1)).getD j 0).sum)
   omega
theorem Ez {b:BS} (nd:(b.ai.map (fun p:BP=>p.nm)).Nodup) {rs:List Row} (h:nD b rs) (f:Str→Int):∀i≤rs.length,(b.ai.map fun p=>f p.nm * bX (rs.take i) p.nm).sum = mD (rs.take i) f:=by
 intro i
 induction i with
 | zero=>
   intro _
   rw [List.take_zero]
   show (b.ai.map fun p=>f p.nm * 0).sum = 0
   clear nd h
   generalize b.ai = ps
   induction ps with
   | nil=>rfl
   | cons p ps ih=>rw [List.map_cons,List.sum_cons,ih];omega
 | succ i ih=>
   intro hi
   have ei:=List.getElem?_eq_getElem (show i < rs.length by omega)
   obtain ⟨_,j,p,hp,e,_⟩:=h.row _ (List.mem_of_getElem? ei)
   have hn:(rs[i]).1 ∉ (rs.take i).map (fun r:Row=>r.1):=by
    rw [List.map_take]
    exact fW h.nd (by rw [List.getElem?_map,ei];rfl)
   rw [take_snoc ei]
   generalize rs[i] = r at *
   replace ih:=ih (by omega)
   generalize rs.take i = us at *
   have:mD (us ++ [r]) f = mD us f + r.2 * f r.1:=by unfold mD;rw [List.map_append,List.sum_append];simp
   rw [this,← ih]
   clear this ih hi ei
   have hm:=List.mem_of_getElem? hp
   clear hp
   generalize b.ai = ps at *
   clear h
   induction ps with
   | nil=>simp at hm
   | cons x ps R_=>
     obtain ⟨n1,n2⟩:=List.nodup_cons.mp (show (x.nm :: ps.map (fun p:BP=>p.nm)).Nodup from nd)
     rw [List.map_cons,List.map_cons,List.sum_cons,List.sum_cons]
     rcases List.mem_cons.mp hm with z | z
     · subst z
       have rest:(ps.map fun p=>f p.nm * bX (us ++ [r]) p.nm) = ps.map fun p=>f p.nm * bX us p.nm:=List.map_congr_left fun y hy=>by
        rw [g_ hn,if_neg (fun z=>n1 (List.mem_map.mpr ⟨y,hy,z.symm.trans e.symm⟩))]
       rw [rest,g_ hn,if_pos e.symm,e,lJ hn,Int.mul_zero,Int.mul_comm r.2]
       omega
     · have ne:x.nm ≠ r.1:=fun z'=>n1 (List.mem_map.mpr ⟨p,z,e.trans z'.symm⟩)
       rw [R_ n2 z,g_ hn,if_neg (fun z=>ne z.symm)]
       omega
theorem Br:∀(rs:List Row) {s:HS} {p':Pt},p'∈(rs.foldl di s).ai→∃p∈s.ai,p'.nm = p.nm∧p'.row = p.row∧p'.sc = p.sc
 | [],_,p',h=>⟨p',h,rfl,rfl,rfl⟩
 | r :: rs,s,p',h=>by
   obtain ⟨p,hp,e1,e2,e3⟩:=Br rs (s:=di s r) h
   obtain ⟨_,q,hq,e⟩:=uM hp
   refine ⟨q,hq,?_⟩
   rw [e1,e2,e3,e]
   split <;> exact ⟨rfl,rfl,rfl⟩
theorem K4 {ps:List BP} {rs:List Row} (j:Nat):gY ps (ps.map fun p=>bX rs p.nm) j = (ps.map fun p=>p.tops.getD j 0 * bX rs p.nm).sum:=by
 unfold gY
 induction ps with
 | nil=>rfl
 | cons p ps ih=>rw [List.map_cons,List.zipWith_cons_cons,List.sum_cons,List.map_cons,List.sum_cons,ih]
theorem yQ (k:Int) {α:Type} (l:List α) (f g:α→Int) (h:∀x∈l,f x * k = g x):(l.map f).sum * k = (l.map g).sum:=by
 induction l with
 | nil=>show (0:Int) * k = 0;omega
 | cons x l ih=>
   rw [List.map_cons,List.map_cons,List.sum_cons,List.sum_cons,Int.add_mul,ih fun y hy=>h y (List.mem_cons_of_mem _ hy),h x List.mem_cons_self]
theorem GO {st:HS} {b:BS} {rs:List Row} (t:xK st b) (rl:gw st b) (wf:Wf st) (wb:qb b) (c:jr st rs) (rb:nD b rs) (bo:kB b (bx b rs) 0 0):xK (dM st rs) (lI b (bx b rs) 0 0):=by
 intro p' GK q' hq' en j
 have bl:=c.blend wf
 obtain ⟨hd,OL,hds,hdc⟩:=bl.dvds
 have ew:=rl.whole
 have hk:=bl.k
 have wc:∀r∈rs,∃p∈st.ai,p.nm = r.1:=fun r hr=>by obtain ⟨p,hp,e,_⟩:=(c.row r hr).2.2;exact ⟨p,hp,e⟩
 have eG:=yG wf wc
 have gl:(aX st rs).length = st.bh.length:=bl.len
 obtain ⟨p1,hp1,e1,e2,e3⟩:=Br rs (s:=bQ st (az st - aC rs) (az st) (aX st rs)) GK
 have eK:=nE rs (bQ st (az st - aC rs) (az st) (aX st rs))
 have Q_:(dM st rs).bh = (c8 st (az st - aC rs) (aX st rs)).map (· / bD st (az st - aC rs) (az st) (aX st rs)):=by
  unfold dM;rw [eK]
  show (bQ st (az st - aC rs) (az st) (aX st rs)).bh = _
  unfold bQ;rw [Gu]
 have s1:1≤az st / bD st (az st - aC rs) (az st) (aX st rs):=by
  have w1:0 < az st:=by have:=bl.l;have:=bl.w;omega
  have:=Int.le_of_dvd w1 OL
  exact Int.le_ediv_of_mul_le hd (by omega)
 have N8:(dM st rs).prod = st.prod * (az st / bD st (az st - aC rs) (az st) (aX st rs)):=by
  unfold dM;rw [eK]
  show (bQ st (az st - aC rs) (az st) (aX st rs)).prod = _
  unfold bQ;rw [vZ s1]
 have Ra:p1∈st.ai.map (fun p:Pt=>{ p with sc:=p.sc * (az st - aC rs) / bD st (az st - aC rs) (az st) (aX st rs) }):=by
  have h:=hp1
  unfold bQ at h
  rw [qZ] at h
  exact h
 obtain ⟨p,hp,rfl⟩:=List.mem_map.mp Ra
 have e1:p'.nm = p.nm:=e1
 have e2:p'.row = p.row:=e2
 have e3:p'.sc = p.sc * (az st - aC rs) / bD st (az st - aC rs) (az st) (aX st rs):=e3
 have hds:=hds p hp
 have hrl:=wf.rows p hp
 have hcl:=wf.fU
 obtain ⟨h1,_⟩:=List.mem_filter.mp (show q'∈(bT b (bx b rs) 0 0).filter _ from hq')
 obtain ⟨k,q,a,eq,_,OM⟩:=gM (show q'∈List.zipWith (ju (fE b (bx b rs) 0 0) (aY b - 0 - (bx b rs).sum)) b.ai (bx b rs) from h1)
 have hq:=List.mem_of_getElem? eq
 have Sa:p.nm = q.nm:=by rw [← e1,en,OM];rfl
 have tj:=t p hp q hq Sa j
 have hs:=yM wb.nd rb rs.length (Nat.le_refl _)
 rw [List.take_length] at hs
 have Sb:q'.tops.getD j 0 = q.tops.getD j 0 * (aY b - aC rs) + (dj b (bx b rs)).getD j 0:=by
  rw [OM]
  show (List.zipWith _ q.tops (fE b (bx b rs) 0 0)).getD j 0 = _
  rw [mC (f:=fun t g=>t * (aY b - 0 - (bx b rs).sum) + g) (by show (0:Int) * _ + 0 = 0;omega) (by rw [wb.tl q hq,uO]),hs,Int.sub_zero]
  rfl
 have ON:(aX st rs).getD j 0 = mD rs fun x=>(bF st (dH st x)).getD j 0:=by
  rw [eG,Bq rs _ (fun r hr=>by
   obtain ⟨x,hx,e⟩:=wc r hr
   rw [iO wf hx e,List.length_replicate,pQ wf hx])]
  have:(List.replicate st.bh.length (0:Int)).getD j 0 = 0:=by
   rw [List.getD_eq_getElem?_getD,List.getElem?_replicate]
   split <;> rfl
  omega
 have Sd:(dj b (bx b rs)).getD j 0 * st.prod = (aX st rs).getD j 0 * b.bot:=by
  have pr:=Ez wb.nd rb (fun x=>(bF st (dH st x)).getD j 0) rs.length (Nat.le_refl _)
  rw [List.take_length] at pr
  rw [ON,← pr]
  by_cases cj:j < b.own.length
  · have e:(dj b (bx b rs)).getD j 0 = (b.ai.map fun p=>p.tops.getD j 0 * bX rs p.nm).sum:=by
     unfold dj
     rw [List.getD_eq_getElem?_getD,List.getElem?_map,List.getElem?_range cj]
     exact K4 j
    rw [e,yQ st.prod b.ai (fun p=>p.tops.getD j 0 * bX rs p.nm) (fun p=>((bF st (dH st p.nm)).getD j 0 * bX rs p.nm) * b.bot) (fun x hx=>?_)]
    · exact (yQ b.bot b.ai (fun p=>(bF st (dH st p.nm)).getD j 0 * bX rs p.nm) _ fun x _=>rfl).symm
    · obtain ⟨i,hi,ei⟩:=List.getElem_of_mem hx
      obtain ⟨y,hy,ey,_⟩:=rl.at (i:=i) (q:=x) (by rw [List.getElem?_eq_getElem hi,ei])
      have hy:=List.mem_of_getElem? hy
      have:=t y hy x hx ey j
      rw [iO wf hy ey,Int.mul_right_comm,this,Int.mul_right_comm]
  · have z1:(dj b (bx b rs)).getD j 0 = 0:=by
     rw [List.getD_eq_getElem?_getD,List.getElem?_eq_none (by rw [jv];omega)];rfl
    have z2:(aX st rs).getD j 0 = 0:=by
     rw [List.getD_eq_getElem?_getD,List.getElem?_eq_none (by rw [gl,hcl,rl.own];omega)];rfl
    rw [z1,pr,← ON,z2]
    omega
 have etop:bD st (az st - aC rs) (az st) (aX st rs) * (bF (dM st rs) p').getD j 0 = (bF st p).getD j 0 * (az st - aC rs) + (aX st rs).getD j 0:=by
  have a1:(bF (dM st rs) p').getD j 0 = p'.sc * p.row.getD j 0 + ((c8 st (az st - aC rs) (aX st rs)).map (· / bD st (az st - aC rs) (az st) (aX st rs))).getD j 0:=by
   unfold bF
   rw [Q_,e2,mC (f:=fun r c=>p'.sc * r + c) (by show p'.sc * 0 + 0 = 0;omega)]
   rw [List.length_map]
   unfold c8
   rw [List.length_zipWith,gl,hrl,hcl]
   omega
  have a2:(bF st p).getD j 0 = p.sc * p.row.getD j 0 + st.bh.getD j 0:=by
   unfold bF
   exact mC (f:=fun r c=>p.sc * r + c) (by show p.sc * 0 + 0 = 0;omega) (by rw [hrl,hcl]) j
  have a3:(c8 st (az st - aC rs) (aX st rs)).getD j 0 = st.bh.getD j 0 * (az st - aC rs) + (aX st rs).getD j 0:=by
   unfold c8
   exact mC (f:=fun t m=>t * (az st - aC rs) + m) (by show (0:Int) * _ + 0 = 0;omega) gl.symm j
  have a4:bD st (az st - aC rs) (az st) (aX st rs) * ((c8 st (az st - aC rs) (aX st rs)).map (· / bD st (az st - aC rs) (az st) (aX st rs))).getD j 0 = (c8 st (az st - aC rs) (aX st rs)).getD j 0:=by
   rw [List.getD_eq_getElem?_getD,List.getD_eq_getElem?_getD,List.getElem?_map]
   cases ec:(c8 st (az st - aC rs) (aX st rs))[j]? with
   | none=>show _ * 0 = (0:Int);omega
   | some x=>exact Int.mul_ediv_cancel' (hdc x (List.mem_of_getElem? ec))
  have a5:bD st (az st - aC rs) (az st) (aX st rs) * p'.sc = p.sc * (az st - aC rs):=by rw [e3];exact Int.mul_ediv_cancel' hds
  rw [a1,Int.mul_add,← Int.mul_assoc,a5,a4,a3,a2]
  grind
 have Se:bD st (az st - aC rs) (az st) (aX st rs) * (az st / bD st (az st - aC rs) (az st) (aX st rs)) = az st:=Int.mul_ediv_cancel' OL
 rw [Sb,N8,← ew]
 show _ = (bF (dM st rs) p').getD j 0 * (b.bot * aY b)
 rw [← ew]
 generalize bD st (az st - aC rs) (az st) (aX st rs) = d at *
 generalize az st / d = GP at *
 generalize (bF (dM st rs) p').getD j 0 = T' at *
 generalize (bF st p).getD j 0 = T at *
 generalize q.tops.getD j 0 = t0 at *
 generalize (dj b (bx b rs)).getD j 0 = gB at *
 generalize (aX st rs).getD j 0 = gS at *
 refine Int.eq_of_mul_eq_mul_left (a:=d) (by omega) ?_
 generalize az st = W at *
 generalize aC rs = Ls at *
 have l1:d * ((t0 * (W - Ls) + gB) * (st.prod * GP)) = (t0 * st.prod * (W - Ls) + gB * st.prod) * (d * GP):=by grind
 have l2:d * (T' * (b.bot * W)) = (d * T') * (b.bot * W):=by grind
 rw [l1,l2,Se,tj,Sd,etop]
 grind
end L2
namespace L2
open PySem PySem.Spec PyProof.Rows
theorem GQ {st:HS} {b:BS} (t:xK st b) (rl:gw st b) (wf:Wf st) (wb:qb b) {x o:Str} {wo we:Int} (h1:x ∉ b.ai.map (fun p:BP=>p.nm)):xK (sQ st x o wo we) (rj b x o wo we):=by
 intro p hp q hq en j
 have Mu:∀y∈st.ai,y.nm∈b.ai.map (fun p:BP=>p.nm):=fun y hy=>by
  obtain ⟨i,hi,ei⟩:=List.getElem_of_mem hy
  obtain ⟨z,hz,ez,_⟩:=rl.at' (i:=i) (p:=y) (by rw [List.getElem?_eq_getElem hi,ei])
  rw [ez]
  exact List.mem_map.mpr ⟨z,List.mem_of_getElem? hz,rfl⟩
 show q.tops.getD j 0 * st.prod = (bF st p).getD j 0 * b.bot
 rcases List.mem_append.mp (show p∈st.ai ++ [_] from hp) with zp | zp
 · rcases List.mem_append.mp (show q∈b.ai ++ [_] from hq) with zq | zq
   · exact t p zp q zq en j
   · rw [List.mem_singleton.mp zq] at en
     have en:p.nm = x:=en
     exact absurd (by rw [← en];exact Mu p zp) h1
 · rcases List.mem_append.mp (show q∈b.ai ++ [_] from hq) with zq | zq
   · rw [List.mem_singleton.mp zp] at en
     have en:x = q.nm:=en
     exact absurd (by rw [en];exact List.mem_map.mpr ⟨q,zq,rfl⟩) h1
   · rw [List.mem_singleton.mp zp,List.mem_singleton.mp zq]
     have e1:bF st ⟨x,o,wo,we,1,uH st ((List.replicate st.own.length 0).set (st.own.idxOf o) st.prod)⟩ = (List.replicate st.own.length 0).set (st.own.idxOf o) st.prod:=by
      show List.zipWith (fun r c=>1 * r + c) (List.zipWith (fun t c=>t - c) ((List.replicate st.own.length 0).set (st.own.idxOf o) st.prod) st.bh) st.bh = _
      rw [uJ,wf.fU]
      exact List.take_of_length_le (by rw [List.length_set,List.length_replicate];exact Nat.le_refl _)
     rw [e1,rl.own]
     show ((List.replicate b.own.length 0).set (b.own.idxOf o) b.bot).getD j 0 * st.prod = ((List.replicate b.own.length 0).set (b.own.idxOf o) st.prod).getD j 0 * b.bot
     have key:∀v:Int,((List.replicate b.own.length 0).set (b.own.idxOf o) v).getD j 0 = if b.own.idxOf o = j∧j < b.own.length then v else 0:=fun v=>by
      rw [List.getD_eq_getElem?_getD,List.getElem?_set]
      by_cases c:b.own.idxOf o = j
      · rw [if_pos c]
        by_cases d:b.own.idxOf o < (List.replicate b.own.length (0:Int)).length
        · rw [if_pos d,if_pos ⟨c,by rw [List.length_replicate] at d;omega⟩];rfl
        · rw [if_neg d,if_neg (fun z=>d (by rw [List.length_replicate];omega))];rfl
      · rw [if_neg c,if_neg (fun z=>c z.1),List.getElem?_replicate]
        split <;> rfl
     rw [key,key]
     split
     · exact Int.mul_comm _ _
     · omega
theorem EA {st:HS} {b:BS} (t:xK st b) (rl:gw st b) (wf:Wf st) (wb:qb b) {p:Pt} {q:BP} (hp:p∈st.ai) (hq:q∈b.ai) (e:p.nm = q.nm):vS st p = cY b.own q.tops b.bot:=by
 have p1:=wf.fq
 have b1:=wb.b1
 have l1:(bF st p).length = b.own.length:=by rw [pQ wf hp,wf.fU,rl.own]
 have l2:q.tops.length = b.own.length:=wb.tl q hq
 have tj:=t p hp q hq e
 unfold vS cY
 rw [rl.own]
 generalize bF st p = xs at *
 generalize q.tops = ys at *
 generalize b.own = own at *
 have step:∀(own:List Str) (xs ys:List Int),xs.length = own.length→ys.length = own.length→(∀j,ys.getD j 0 * st.prod = xs.getD j 0 * b.bot)→(List.zip own xs).filterMap (fun x=>if 0 < x.2 then some (x.1,Jm.fr x.2 st.prod) else none) = (List.zip own ys).filterMap fun x=>if 0 < x.2 then some (x.1,Jm.fr x.2 b.bot) else none:=by
  intro own
  induction own with
  | nil=>intro xs ys _ _ _;simp
  | cons o own ih=>
    intro xs ys h1 h2 h3
    cases xs with
    | nil=>simp at h1
    | cons x xs=>
      cases ys with
      | nil=>simp at h2
      | cons y ys=>
        have h0:y * st.prod = x * b.bot:=by simpa using h3 0
        have ih:=ih xs ys (by simpa using h1) (by simpa using h2) (fun j=>by simpa using h3 (j + 1))
        rw [List.zip_cons_cons,List.zip_cons_cons,List.filterMap_cons,List.filterMap_cons,ih]
        by_cases c:0 < x
        · have c2:0 < y:=by
           rcases Int.lt_or_le 0 y with z | z
           · exact z
           · have k1:y * st.prod≤0:=Int.mul_nonpos_of_nonpos_of_nonneg z (by omega)
             have k2:0 < x * b.bot:=Int.mul_pos c (by omega)
             omega
          simp only [if_pos c,if_pos c2]
          rw [Jm.Jo (t:=x) (b:=st.prod) (t':=y) (b':=b.bot) (by omega) (by omega) h0.symm]
        · have c2:¬ 0 < y:=fun z=>by
           have k1:0 < y * st.prod:=Int.mul_pos z (by omega)
           have k2:x * b.bot≤0:=Int.mul_nonpos_of_nonpos_of_nonneg (by omega) (by omega)
           omega
          simp only [if_neg c,if_neg c2]
 exact step own xs ys l1 l2 tj
end L2
namespace L2
open PySem PySem.Spec PyProof.Rows
structure h_ (c:Nat) (st:HS) (b:BS):Prop where
 kC:qb b
 rel:gw st b
 Bs:xK st b
 bV:∀u∈st.bV,u = 0
 stp:st.stp.length≤c
 prod:Jm.Sz (60 * c + 1) st.prod
 bot:Jm.Sz (60 * c + 1) b.bot
 wo:∀p∈b.ai,p.wo≤1000000000
 pl:b.ai.length≤50
 own:0 < b.own.length
 nm:∀p∈b.ai,PyData.strOk p.nm = true∧PyData.strOk p.ow = true
 iA:st.iA = []∧b.iA = []
theorem h_.mono {c:Nat} {st:HS} {b:BS} (g:h_ c st b):h_ (c + 1) st b:=⟨g.kC,g.rel,g.Bs,g.bV,by have:=g.stp;omega,g.prod.mono (by omega),g.bot.mono (by omega),g.wo,g.pl,g.own,g.nm,g.iA⟩
theorem h_.nms {c:Nat} {st:HS} {b:BS} (g:h_ c st b):Mp st.ai:=fun p hp=>by
 obtain ⟨i,hi,e⟩:=List.getElem_of_mem hp
 obtain ⟨q,eq,e1,e2,_⟩:=g.rel.at' (i:=i) (p:=p) (by rw [List.getElem?_eq_getElem hi,e])
 rw [e1,e2]
 exact g.nm q (List.mem_of_getElem? eq)
theorem tS:∀{ps:List BP} {m:Int},(∀p∈ps,1≤p.wo∧p.wo≤m)→0≤(ps.map fun p=>p.wo).sum∧(ps.map fun p=>p.wo).sum≤m * (ps.length:Int)
 | [],m,_=>by show 0≤(0:Int)∧(0:Int)≤m * 0;omega
 | p :: ps,m,h=>by
   have h0:=h p List.mem_cons_self
   have ih:=tS (ps:=ps) (m:=m) fun x hx=>h x (List.mem_cons_of_mem _ hx)
   rw [List.map_cons,List.sum_cons,List.length_cons,show (((ps.length + 1:Nat)):Int) = (ps.length:Int) + 1 from by omega,Int.mul_add,Int.mul_one]
   omega
theorem h_.whole {c:Nat} {st:HS} {b:BS} (g:h_ c st b):0≤aY b∧Jm.Sz 60 (aY b):=by
 have h:=tS (ps:=b.ai) (m:=1000000000) fun p hp=>⟨g.kC.w1 p hp,g.wo p hp⟩
 refine ⟨h.1,?_⟩
 have hl:=g.pl
 have h2:(1000000000:Int) * (b.ai.length:Int)≤50000000000:=by omega
 have h3:aY b≤50000000000:=Int.le_trans h.2 h2
 have h1:0≤aY b:=h.1
 have:Jm.Sz 60 (50000000000:Int):=jk (by decide +kernel)
 exact this.of_le (by omega)
theorem K5 {c:Nat} {st:HS} {b:BS} {rs:List Row} (g:h_ c st b) (wf:Wf st) (ok:jr st rs) (rb:nD b rs) (bo:kB b (bx b rs) 0 0) (hc:c≤90):h_ (c + 1) (dM st rs) (lI b (bx b rs) 0 0):=by
 have zw:=g.whole
 have ew:=g.rel.whole
 have bl:=ok.blend wf
 obtain ⟨hs,hsw,_,_⟩:=bl.dvds
 have w1:0 < az st:=by have:=ok.lost;have:=pR (rs:=rs) fun r hr=>(ok.row r hr).1;omega
 have eK:=nE rs (bQ st (az st - aC rs) (az st) (aX st rs))
 have eC:dM st rs = { bQ st (az st - aC rs) (az st) (aX st rs) with ai:=(dM st rs).ai }:=eK
 have s1:1≤az st / bD st (az st - aC rs) (az st) (aX st rs):=by
  have:=Int.le_of_dvd w1 hsw
  exact Int.le_ediv_of_mul_le hs (by omega)
 have s2:az st / bD st (az st - aC rs) (az st) (aX st rs)≤az st:=Int.ediv_le_self _ (by omega)
 have zs:Jm.Sz 60 (az st / bD st (az st - aC rs) (az st) (aX st rs)):=by
  have:=zw.2
  rw [← ew] at this
  exact this.of_le (by omega)
 have xJ:∀p∈(lI b (bx b rs) 0 0).ai,∃p0∈b.ai,∃a,a∈bx b rs∧p = ju (fE b (bx b rs) 0 0) (aY b - 0 - (bx b rs).sum) p0 a:=fun p hp=>by
  obtain ⟨h1,_⟩:=List.mem_filter.mp (show p∈(bT b (bx b rs) 0 0).filter _ from hp)
  obtain ⟨i,x,a,ex,ea,e⟩:=gM (show p∈List.zipWith (ju (fE b (bx b rs) 0 0) (aY b - 0 - (bx b rs).sum)) b.ai (bx b rs) from h1)
  exact ⟨x,List.mem_of_getElem? ex,a,List.mem_of_getElem? ea,e⟩
 have zb:Jm.Sz (60 * (c + 1) + 1) (b.bot * aY b):=(g.bot.mul zw.2).mono (by omega)
 refine ⟨II g.kC bo (zb.mono (by omega)),GJ g.rel wf ok,GO g.Bs g.rel wf g.kC ok rb bo,fun u hu=>?_,?_,?_,zb,fun p hp=>?_,?_,g.own,fun p hp=>?_,?_,g.iA.2⟩
 · rw [eC] at hu
   have hu:u∈(bQ st (az st - aC rs) (az st) (aX st rs)).bV:=hu
   unfold bQ at hu
   rw [Gv] at hu
   obtain ⟨x,hx,rfl⟩:=List.mem_map.mp hu
   rw [g.bV x hx,Int.zero_mul]
 · rw [eC]
   show (bQ st (az st - aC rs) (az st) (aX st rs)).stp.length≤c + 1
   unfold bQ dh
   split
   · show (st.stp ++ [_]).length≤c + 1
     rw [List.length_append];have:=g.stp;show st.stp.length + 1≤c + 1;omega
   · show st.stp.length≤c + 1
     have:=g.stp;omega
 · rw [eC]
   show Jm.Sz _ (bQ st (az st - aC rs) (az st) (aX st rs)).prod
   unfold bQ
   rw [vZ s1]
   exact (g.prod.mul zs).mono (by omega)
 · obtain ⟨p0,h0,a,ha,rfl⟩:=xJ p hp
   have:=g.wo p0 h0
   have:=bo.a0 a ha
   show p0.wo - a≤1000000000
   omega
 · have:=List.length_filter_le (fun p:BP=>decide (0 < p.wo)) (bT b (bx b rs) 0 0)
   rw [nB bo.len] at this
   exact Nat.le_trans this g.pl
 · obtain ⟨p0,h0,a,_,rfl⟩:=xJ p hp
   exact g.nm p0 h0
 · rw [eC]
   show (bQ st (az st - aC rs) (az st) (aX st rs)).iA = []
   unfold bQ
   rw [Gx]
   exact g.iA.1
theorem K6 (st:HS) (rs:List Row):(dM st rs).kn≤st.kn:=by
 unfold dM
 rw [nE]
 show (bQ st (az st - aC rs) (az st) (aX st rs)).kn≤st.kn
 unfold bQ dh
 split
 · exact Nat.zero_le _
 · exact Nat.le_refl _
theorem K7 {st:HS} {b:BS} (g:h_ 0 st b) (wf:Wf st) {x o:Str} {wo we:Int} (h1:x ∉ b.ai.map (fun p:BP=>p.nm)) (h2:1≤wo) (h2':wo≤1000000000) (h3:b.ai.length < 50) (h4:b.lA.length < 1000) (hx:PyData.strOk x = true) (ho:PyData.strOk o = true):h_ 0 (sQ st x o wo we) (rj b x o wo we):=by
 have P:∀{M:BP→Prop},(∀p∈b.ai,M p)→M ⟨x,o,wo,we,(List.replicate b.own.length 0).set (b.own.idxOf o) b.bot⟩→∀p∈(rj b x o wo we).ai,M p:=fun a c p hp=>by
  rcases List.mem_append.mp (show p∈b.ai ++ [_] from hp) with z | z
  · exact a p z
  · rw [List.mem_singleton.mp z];exact c
 exact ⟨K3 g.kC h1 h2 (by omega) h4,GL g.rel x o wo we,GQ g.Bs g.rel wf g.kC h1,g.bV,g.stp,g.prod,g.bot,P g.wo h2',by show (b.ai ++ [_]).length≤50;rw [List.length_append];show b.ai.length + 1≤50;omega,g.own,P g.nm ⟨hx,ho⟩,g.iA⟩
theorem wg:∀(l:List Str) (st:HS),st.ai = []→(∀u∈st.bV,u = 0)→(l.foldl dJ st).ai = []∧(l.foldl dJ st).nms = st.nms∧(l.foldl dJ st).stp = st.stp∧(l.foldl dJ st).prod = st.prod∧(l.foldl dJ st).iA = st.iA∧∀u∈(l.foldl dJ st).bV,u = 0
 | [],_,h,hp=>⟨h,rfl,rfl,rfl,rfl,hp⟩
 | o :: l,st,h,hp=>by
   rw [List.foldl_cons]
   exact wg l (dJ st o) (by show st.ai.map _ = [];rw [h];rfl) (fun u hu=>by
    rcases List.mem_append.mp (show u∈st.bV ++ [0] from hu) with z | z
    · exact hp u z
    · exact List.mem_singleton.mp z)
theorem Sf {own:List Str} (h0:0 < own.length) (h1:own.length≤100):h_ 0 (own.foldl dJ hs0) ⟨own,[],1,[],[]⟩∧(own.foldl dJ hs0).nms = [] :=by
 obtain ⟨k1,k2,k3,k4,k5,k6⟩:=wg own hs0 rfl (fun u hu=>absurd hu (by simp [hs0]))
 refine ⟨⟨⟨List.nodup_nil,fun p hp=>absurd hp (by simp),fun p hp=>absurd hp (by simp),Int.le_refl _,(by show Jm.Sz 7000 1;exact jk (by decide +kernel)),fun p hp=>absurd hp (by simp),h1,Nat.zero_le _,Nat.zero_le _⟩,⟨by rw [qV];rfl,by unfold gk lK;rw [k1];rfl⟩,(fun p hp=>by rw [k1] at hp;exact absurd hp (by simp)),k6,by rw [k3];exact Nat.le_refl _,(by rw [k4];show Jm.Sz (60 * 0 + 1) 1;exact jk (by decide +kernel)),(by show Jm.Sz (60 * 0 + 1) 1;exact jk (by decide +kernel)),fun p hp=>absurd hp (by simp),Nat.zero_le _,h0,fun p hp=>absurd hp (by simp),k5,rfl⟩,k2⟩
theorem CC {c:Nat} {st:HS} {b:BS} {rs:List Row} (g:h_ c st b) (wf:Wf st) (h:GB (ny b) rs) (hne:rs ≠ []) (hc:c≤90):jr st rs∧nD b rs∧kB b (bx b rs) 0 0:=by
 have eW:aC (ny b) = aY b:=by unfold aC ny aY;rw [List.map_map];rfl
 have hl:aC rs < aY b:=by
  rcases h.lost with z | z
  · rw [← eW];exact z
  · exact absurd z hne
 have rb:nD b rs:=⟨h.nd,fun r hr=>by
  obtain ⟨r1,_,w,hw,e,le⟩:=h.row r hr
  obtain ⟨p,hp,rfl⟩:=List.mem_map.mp hw
  obtain ⟨j,hj,ej⟩:=List.getElem_of_mem hp
  exact ⟨r1,j,p,by rw [List.getElem?_eq_getElem hj,ej],e,le⟩⟩
 have zw:=g.whole
 refine ⟨⟨h.nd,hne,?_,fun r hr=>?_,by rw [g.rel.whole];exact hl,by rw [g.rel.whole];exact zw.2,g.prod.mono (by omega),fun u hu=>by rw [g.bV u hu];exact jk (by decide +kernel),by have:=g.stp;omega⟩,rb,K2 g.kC rb hl g.own zw.2⟩
 · have:=h.len
   unfold ny at this
   rw [List.length_map] at this
   have:=g.pl
   omega
 · obtain ⟨r1,j,q,hq,e,le⟩:=rb.row r hr
   obtain ⟨p,hp,e1,_,e3,_⟩:=g.rel.at hq
   have r2:=(h.row r hr).2.1
   have:Jm.Sz 60 (1000000000:Int):=jk (by decide +kernel)
   exact ⟨r1,this.of_le (by omega),p,List.mem_of_getElem? hp,e1.trans e,by rw [e3];exact le⟩
def rA (K:PySem.W.Frag) (ρ:aW) (H:Hp) (z:Addr) (xs:List V):Prop:=∀(ρ':aW) (H':Hp),aD (out ρ H) (out ρ' H')→av K H' z xs
theorem rA.of {K:PySem.W.Frag} {H:Hp} {z:Addr} {xs:List V} (h:av K H z xs):rA K (fun _=>none) H z xs:=fun ρ' H' s=>by
 rcases h with (h | ⟨o,h⟩) | h
 · exact .inl (.inl (jU (s _ _ (qM h rfl))).1)
 · exact .inl (.inr ⟨o,(jU (s _ _ (qM h rfl))).1⟩)
 · exact .inr h
theorem rA.go {K:PySem.W.Frag} {ρ ρ':aW} {H H':Hp} {z:Addr} {xs:List V} (h:rA K ρ H z xs) (s:aD (out ρ H) (out ρ' H')):rA K ρ' H' z xs:=fun _ _ s'=>h _ _ (s.trans s')
structure DV (T:TC) (K:PySem.W.Frag) (vs:List V) (H:Hp) (Q:VK) (E:XK):Prop where
 ex:∃n m ρ A B st b,∃(a ln:Addr) (ns:List Int) (k:Int) (nms:List Str) (many:Nat),vs = [.ref a, .int k, .ref A.a, .ref B.m, .ref ln, .int (many:Int)]∧n ≠ m∧HH T n ρ A H st∧aS m ρ B H b∧h_ 0 st b∧rA K ρ H a (ns.map V.int)∧ns.length≤63∧0≤k∧k≤1000000∧rA K ρ H ln (nms.map V.str)∧
  nms.Nodup∧(∀x∈nms,uK x)∧(∀o∈b.own,uK o)∧many≤nms.length∧many≤50∧st.nms = []∧b.ai = []∧b.lA = []∧
  ∀ρ' A' B' H' st' b',HH T n ρ' A' H' st'→aS m ρ' B' H' b'→h_ 0 st' b'→A'.a = A.a→B'.m = B.m→b'.own = b.own→b'.ai.length = many→st'.kn = st.kn→aD (out ρ H) (out ρ' H')→Q .bE H'
structure yR (T:TC) (K:PySem.W.Frag) (vs:List V) (H:Hp) (Q:VK) (E:XK):Prop where
 ex:∃n m ρ A B st b,∃(a:Addr) (ns:List Int) (k:Int) (c:Nat),vs = [.ref a, .int k, .ref A.a, .ref B.m]∧n ≠ m∧HH T n ρ A H st∧aS m ρ B H b∧h_ c st b∧c≤90∧rA K ρ H a (ns.map V.int)∧ns.length≤63∧0≤k∧k≤1000000∧
  ∀ρ' A' B' H' st' b',HH T n ρ' A' H' st'→aS m ρ' B' H' b'→h_ (c + 1) st' b'→A'.a = A.a→B'.m = B.m→b'.own = b.own→st'.kn≤st.kn→aD (out ρ H) (out ρ' H')→Q (.bl true) H'
def mE (r:Row):PyData:= .tuple [.str r.1, .int r.2]
theorem c5.dt {K:PySem.W.Frag} {H:Hp} {vs:List V} {rs:List Row} (h:c5 H vs rs):p_ K H vs (rs.map mE):=by
 induction h with
 | nil=>exact .nil
 | cons e _ ih=>exact .cons (.tup (cA.of e) (.cons (.str _) (.cons (.int _) .nil))) ih
theorem IJ (ps:List Row) (hk:∀r∈ps,PyData.strOk r.1 = true):PyData.canLayAll0 (ps.map mE) = true:=by
 induction ps with
 | nil=>rfl
 | cons q r ih=>
   rw [List.map_cons]
   unfold PyData.canLayAll0
   rw [ih fun p hp=>hk p (List.mem_cons_of_mem _ hp),Bool.and_true]
   unfold mE PyData.canLay0 PyData.canLayAll0 PyData.canLayAll0 PyData.canLayAll0 PyData.canLay0
   rw [hk q List.mem_cons_self]
   rfl
theorem EB (ps:List Row):PyData.depthAll (ps.map mE)≤1:=by
 induction ps with
 | nil=>exact Nat.zero_le _
 | cons q r ih=>
   rw [List.map_cons]
   unfold PyData.depthAll
   have:PyData.depth (mE q)≤1:=Nat.le_of_ble_eq_true rfl
   omega
theorem tT (ps:List Row) (hk:∀r∈ps,PyData.strOk r.1 = true):SeqAt.shaped (.list (ps.map mE)) = true:=by
 unfold SeqAt.shaped PyData.canLay0 PyData.depth
 rw [IJ ps hk]
 have:=EB ps
 simp only [Bool.true_and,decide_eq_true_eq]
 omega
theorem IK (p:Row):PyData.eqv (mE p) (mE p) = true:=by
 unfold mE PyData.eqv PyData.eqvAll PyData.eqvAll PyData.eqvAll
 rw [Dq,KD]
 rfl
theorem IL (ps:List Row):PyData.eqv (.list (ps.map mE)) (.list (ps.map mE)) = true:=by
 unfold PyData.eqv
 induction ps with
 | nil=>rfl
 | cons q r ih=>
   rw [List.map_cons]
   unfold PyData.eqvAll
   rw [ih,Bool.and_true]
   exact IK q
theorem HH.other {T:TC} {n m:Nat} {ρ ρ':aW} {A:HA} {H H':Hp} {st:HS} (h:HH T n ρ A H st) (f:Fr m ρ H ρ' H') (g:Gh ρ' H') (e:n ≠ m):HH T n ρ' A H' st:=⟨g,h.h.other f h.g e,h.wf⟩
end L2
namespace L2
open PySem PySem.Spec PyProof.Rows
theorem JI {c:Nat} {st:HS} {b:BS} (g:h_ c st b) (k:Nat):h_ c { st with kn:=k } b:=⟨g.kC,⟨g.rel.own,g.rel.qd⟩,g.Bs,g.bV,g.stp,g.prod,g.bot,g.wo,g.pl,g.own,g.nm,g.iA⟩
theorem Bt:∀(l:List Str) (st:HS),(l.foldl dJ st).kn = st.kn
 | [],_=>rfl
 | o :: l,st=>by rw [List.foldl_cons,Bt l];rfl
theorem IM (ps:List Str) (hk:∀r∈ps,PyData.strOk r = true):PyData.canLayAll0 (ps.map PyData.str) = true:=by
 induction ps with
 | nil=>rfl
 | cons q r ih=>
   rw [List.map_cons]
   unfold PyData.canLayAll0
   rw [ih fun p hp=>hk p (List.mem_cons_of_mem _ hp),Bool.and_true]
   unfold PyData.canLay0
   exact hk q List.mem_cons_self
theorem EC (ps:List Str):PyData.depthAll (ps.map PyData.str)≤1:=by
 induction ps with
 | nil=>exact Nat.zero_le _
 | cons q r ih=>
   rw [List.map_cons]
   unfold PyData.depthAll
   have:PyData.depth (.str q)≤1:=Nat.le_of_ble_eq_true rfl
   omega
theorem tU (ps:List Str) (hk:∀r∈ps,PyData.strOk r = true):SeqAt.shaped (.list (ps.map PyData.str)) = true:=by
 unfold SeqAt.shaped PyData.canLay0 PyData.depth
 rw [IM ps hk]
 have:=EC ps
 simp only [Bool.true_and,decide_eq_true_eq]
 omega
theorem IP (ps:List Str):PyData.eqv (.list (ps.map PyData.str)) (.list (ps.map PyData.str)) = true:=by
 unfold PyData.eqv
 induction ps with
 | nil=>rfl
 | cons q r ih=>
   rw [List.map_cons]
   unfold PyData.eqvAll
   rw [ih,Bool.and_true]
   exact Dq q
theorem xM {K:PySem.W.Frag} {H:Hp}:∀(l:List Str),p_ K H (l.map V.str) (l.map PyData.str)
 | []=> .nil
 | x :: l=> .cons (.str x) (xM l)
structure lP (d:Nat) (T:TC) (K:PySem.W.Frag) (vs:List V) (H:Hp) (Q:VK) (E:XK):Prop where
 ex:∃n m ρ A B st b,∃c:Nat,vs = [.ref A.a, .ref B.m]∧n ≠ m∧HH T n ρ A H st∧aS m ρ B H b∧h_ c st b∧c≤100∧(∀o∈b.own,PyData.strOk o = true)∧st.kn + 5000 * d≤1000000∧
  ∀ρ' A' H' k,HH T n ρ' A' H' { st with kn:=k }→k≤st.kn + 5000 * d→aS m ρ' B H' b→A'.a = A.a→aD (out ρ H) (out ρ' H')→Q (.bl true) H'
end L2
namespace L2
open PySem PySem.Spec PyProof.Rows
structure aV (K:PySem.W.Frag) (x:Str) (st:Stmt):Prop where
 ex:∃(f:Addr) (oc:Value) (od an:Option Addr) (sl:Array (Option Value)) (kV dc pm cd ct:Value),PySem.W.nsIn K mainGlobals x = some (some (.ref f))∧K.lookup f = some ⟨oc,od, .func (PySem.W.fnOf x x (dD st) (cV st) (au st) .none kV dc pm an cd ct),sl⟩∧PySem.W.codeIn K cd x = true∧PySem.W.keepIn K (.ref f) = true
theorem aV.at {K:PySem.W.Frag} {mg:Str→Option Value} {h:Heap} {x:Str} {st:Stmt} (d:aV K x st) (X:K.In h) (G:h.Ns mainGlobals mg):∃f fd,At K mg x st f fd:=by
 obtain ⟨f,oc,od,an,sl,kV,dc,pm,cd,ct,a,l,c,k⟩:=d.ex
 exact ⟨f,_,Jl X G a l c k⟩
structure bq (K:PySem.W.Frag) (C:Addr) (n qual:Str) (st:Stmt):Prop where
 ex:∃(f:Addr) (oc:Value) (od an:Option Addr) (sl:Array (Option Value)) (kV dc pm cd ct:Value),PySem.W.findIn K (.ref C) n = some (some (.ref f))∧PySem.W.isFn K (.ref f) = true∧K.lookup f = some ⟨oc,od, .func (PySem.W.fnOf n qual (dD st) (cV st) (au st) .none kV dc pm an cd ct),sl⟩∧PySem.W.codeIn K cd qual = true∧PySem.W.keepIn K (.ref f) = true
theorem bq.at {K:PySem.W.Frag} {C:Addr} {n qual:Str} {st:Stmt} (d:bq K C n qual st) (cl:kr K C):∃f fd,gJ K C n qual st f fd:=by
 obtain ⟨f,oc,od,an,sl,kV,dc,pm,cd,ct,a,i,l,c,k⟩:=d.ex
 exact ⟨f,_,AD l c k,⟨a,i,k⟩,cl⟩
theorem bq.made {K:PySem.W.Frag} {mg:Str→Option Value} {h:Heap} {x:Str} {C:Addr} {qual:Str} {st:Stmt} (d:bq K C "__init__" qual st) (X:K.In h) (G:h.Ns mainGlobals mg) (a0:PySem.W.nsIn K mainGlobals x = some (some (.ref C))) (m:PySem.W.makesIn K C = true) (kc:PySem.W.keepIn K (.ref C) = true):∃f fd,Dv K mg x C qual st f fd:=by
 obtain ⟨f,oc,od,an,sl,kV,dc,pm,cd,ct,a,i,l,c,k⟩:=d.ex
 exact ⟨f,_,AD l c k,⟨m,a,i,kc⟩,PySem.W.mg_of X G a0⟩
theorem aV.of {K:PySem.W.Frag} {x:Str} {st:Stmt} {f:Addr} {oc:Value} {od an:Option Addr} {sl:Array (Option Value)} {kV dc pm cd ct:Value} (a:PySem.W.nsIn K mainGlobals x = some (some (.ref f))) (l:K.lookup f = some ⟨oc,od, .func (PySem.W.fnOf x x (dD st) (cV st) (au st) .none kV dc pm an cd ct),sl⟩) (c:PySem.W.codeIn K cd x = true) (k:PySem.W.keepIn K (.ref f) = true):aV K x st:=⟨⟨_,_,_,_,_,_,_,_,_,_,a,l,c,k⟩⟩
theorem bq.of {K:PySem.W.Frag} {C:Addr} {n qual:Str} {st:Stmt} {f:Addr} {oc:Value} {od an:Option Addr} {sl:Array (Option Value)} {kV dc pm cd ct:Value} (a:PySem.W.findIn K (.ref C) n = some (some (.ref f))) (i:PySem.W.isFn K (.ref f) = true) (l:K.lookup f = some ⟨oc,od, .func (PySem.W.fnOf n qual (dD st) (cV st) (au st) .none kV dc pm an cd ct),sl⟩) (c:PySem.W.codeIn K cd qual = true) (k:PySem.W.keepIn K (.ref f) = true):bq K C n qual st:=⟨⟨_,_,_,_,_,_,_,_,_,_,a,i,l,c,k⟩⟩
end L2
namespace Mv
open PySem L2
def top (i:Nat):Stmt:=PySem.Challenge.pw_jettison_k19_casts_mix_shares.main.body.getD i (.Pass ⟨0,0,0,0⟩)
section
variable {P:Program} {w:World} {K:PySem.W.Frag} {mg:Str→Option Value} {base:Heap} {f:Addr} {fd:FuncData}
abbrev iP:Stmt:=top 2
abbrev wk:List Str:=["one","other"]
abbrev nF:List Str:=["one","other"]
theorem mF:aI wk nF (au iP):=⟨rfl,rfl,rfl,by decide +kernel,rfl,by decide +kernel,by decide +kernel⟩
theorem uQ (F:At K mg "common_factor" iP f fd):Dn P w K mg base 1 "common_factor" nF HX:=by
 refine F.ok mF (fun vs H Q E h=>?_) (fun cdv A outer s H vs Q E hr h=>?_) (fun _ _ _ _ _ _ us hl=>match us,hl with | [_,_],_=>rfl)
 · obtain ⟨a,b,rfl,_⟩:=h
   rfl
 obtain ⟨a,b,rfl,ha,hb,q⟩:=h
 refine ⟨_,(ah (uw PassesOwn.never (bf gD (pv 1) ak (br _)) (aq (E4 (i:=0) (j:=1) rfl mF.nd rfl rfl (by decide) rfl rfl (aa (pv 1) (aa (aB fJ (pv 0) (pv 1)) aj)) (by rfl))))
  (aq (aN (pv 0)))),?_⟩
 refine ⟨fun m σ H'=>∃x y:Int,m = y.toNat∧σ = [some (.int x),some (.int y)]∧H' = H∧0≤x∧0≤y∧Jm.cf x y = Jm.cf a b,⟨_,a,b,rfl,rfl,rfl,ha,hb,rfl⟩,?_⟩
 rintro m σ H' ⟨x,y,rfl,rfl,rfl,hx,hy,e⟩
 refine ⟨_,rfl,_,_,rfl,rfl,_,rfl,?_⟩
 refine dY (fun c=>?_) (fun c=>?_)
 · have c':0 < y:=of_decide_eq_true c
   refine ⟨_,fun _ _ z=>z,?_⟩
   refine ⟨_,rfl,_,rfl,_,rfl,_,_,rfl,rfl,c',_,_,rfl,?_⟩
   have h1:0≤x % y:=Int.emod_nonneg _ (by omega)
   have h2:x % y < y:=Int.emod_lt_of_pos _ c'
   exact ⟨_,(by omega:(x % y).toNat < y.toNat),y,x % y,rfl,rfl,rfl,hy,h1,(Jm.xo x y c').trans e⟩
 · have c':¬ 0 < y:=of_decide_eq_false (Bool.eq_false_iff.mpr c)
   have ey:y = 0:=by omega
   subst ey
   rw [Jm.Dl x hx] at e
   refine ⟨_,rfl,?_⟩
   rw [e]
   exact q
abbrev pS:Stmt:=top 18
abbrev GR:List Str:=["text","signs"]
abbrev yS:List Str:=["text","signs"]
theorem ED:aI GR yS (au pS):=⟨rfl,rfl,rfl,by decide +kernel,rfl,by decide +kernel,by decide +kernel⟩
theorem EE (F:At K mg "made_of" pS f fd) (EF:mg "all" = none):Dn P w K mg base 1 "made_of" yS uB:=by
 refine F.ok ED (fun vs H Q E h=>?_) (fun cdv A outer s H vs Q E hr h=>?_) (fun _ _ _ _ _ _ us hl=>match us,hl with | [_,_],_=>rfl)
 · obtain ⟨cs,signs,rfl,_⟩:=h.ex
   rfl
 obtain ⟨cs,signs,rfl,hl,q⟩:=h.ex
 refine ⟨_,(aq (aN (aE (FI K rfl) (by rfl) EF PyProof.Rows.boot_all (aa (d7 ["sign","signs"] [none,some 1] rfl (L7 (pv 0)) (fun _ _ _ _=>(aG (i:=0) (show List.Nodup (["sign","signs"] :List Str) from by decide +kernel) rfl (Or.inl rfl))) (fun _ _ _ _=>(sr E9 (pv 0) (pv 1) (by with_unfolding_all rfl))) rfl (by rfl)) aj)))),?_⟩
 refine ⟨_,rfl,cs,rfl,fun acc hacc=>?_⟩
 refine Ic (fun i out H1=>aD H H1∧out = ((cs.take i).map (yp signs)).map V.bl) hl ⟨aA hacc _,rfl⟩ ?_ ?_
 · rintro i c out H1 hx c7 ha ⟨g,e⟩
   refine ⟨_,rfl,_,rfl,_,_,rfl,rfl,ha,g.bI hacc _,?_⟩
   rw [e,List.take_add_one,hx,List.map_append,List.map_append]
   rfl
 rintro out H1 c7 ha ⟨g,e⟩
 rw [List.take_length] at e
 refine ⟨acc,cs.map (yp signs),rfl,av.of (by rw [ha,e]),?_⟩
 have e2:(cs.map (yp signs)).all id = cs.all (yp signs):=by rw [List.all_map];rfl
 rw [e2]
 exact q H1 g
abbrev pT:Stmt:=top 17
abbrev GS:List Str:=["text"]
abbrev yT:List Str:=["text"]
theorem EG:aI GS yT (au pT):=⟨rfl,rfl,rfl,by decide +kernel,rfl,by decide +kernel,by decide +kernel⟩
theorem EH {tk:Tok} (F:At K mg "is_name" pT f fd) (rB:Dn P w K mg base 1 "made_of" ["text","signs"] uB) (aZ:mg "len" = none) (rC:mg "LETTERS" = some (.str "abcdefghijklmnopqrstuvwxyz" tk)):Dn P w K mg base 2 "is_name" yT pG:=by
 refine F.ok EG (fun vs H Q E h=>?_) (fun cdv A outer s H vs Q E hr h=>?_) (fun _ _ _ _ _ _ us hl=>match us,hl with | [_],_=>rfl)
 · obtain ⟨cs,rfl,_⟩:=h.ex
   rfl
 obtain ⟨cs,rfl,hl,q⟩:=h.ex
 refine ⟨_,(aq (aN (Ak (HC Jf Jf ak (aE Au (by rfl) aZ PySem.boot_len (aa (pv 0) aj)) ak) (Aj (a_ rB hr (aa (pv 0) (aa (J7 (v:= .str "abcdefghijklmnopqrstuvwxyz") (by rfl) rC ⟨_,rfl⟩) aj))))))),?_⟩
 have hz:(tx cs).length≤sizeLine:=by rw [qI,sizeLine_eq];omega
 refine ⟨_,rfl,_,rfl,hz,_,_,rfl,rfl,_,rfl,?_⟩
 rw [qI]
 refine dY (fun c=>?_) (fun c=>?_)
 · refine ⟨_,_,rfl,rfl,_,rfl,dY (fun c2=>?_) (fun c2=>?_)⟩
   · refine ⟨_,rfl,Em hl fun H' g=>?_⟩
     have:=q H' g
     unfold isName at this
     rw [c,c2,Bool.true_and,Bool.true_and] at this
     exact this
   · have:=q H (aD.refl _)
     unfold isName at this
     rw [c,Bool.eq_false_iff.mpr c2,Bool.true_and,Bool.false_and] at this
     exact this
 · have:=q H (aD.refl _)
   unfold isName at this
   rw [Bool.eq_false_iff.mpr c,Bool.false_and,Bool.false_and] at this
   exact ⟨_,rfl,bN this⟩
abbrev jW:Stmt:=inClass (top 4) 0
abbrev zm:List Str:=["self"]
abbrev qc:List Str:=["self"]
theorem xN:aI zm qc (au jW):=⟨rfl,rfl,rfl,by decide +kernel,rfl,by decide +kernel,by decide +kernel⟩
theorem xO {T:TC} (F:Dv K mg "Bottom" T.bot "Bottom.__init__" jW f fd) (X:Txt K T):Cn P w K mg base 1 "Bottom" T.bot qc (DA T):=by
 refine F.ok xN (fun vs H Q E h=>?_) (fun cdv A outer s H vs Q E hr h=>?_) (fun _ _ _ _ _ _ us hl=>match us,hl with | [_],_=>rfl)
 · obtain ⟨p,dx,rfl,_⟩:=h.ex
   rfl
 obtain ⟨p,dx,rfl,hp,q⟩:=h.ex
 refine ⟨_,(ah (cK K (pv 0) (fK aj))
  (ah (cK K (pv 0) ak)
  (aq (cK K (pv 0) jT)))),?_⟩
 refine ⟨(by show 0≤sizeLine;decide),fun l hl=>?_⟩
 have n1:p ≠ l:=ay hp hl
 refine ⟨_,rfl,p,T.bot,dx,_,rfl,by rw [ao n1];exact hp,X.cB,X.Mm,by show 0 < 1000;decide,?_⟩
 refine ⟨_,rfl,p,T.bot,dx,_,rfl,af,X.cB,X.Jz,by show 1 < 1000;decide,?_⟩
 intro d hd
 have n2:d ≠ p:=fun e=>by rw [e,af] at hd;cases hd
 have n3:d ≠ l:=fun e=>by rw [e,ao (Ne.symm n1),ao (Ne.symm n1),af] at hd;cases hd
 have hd0:H d = none:=by rw [ao n2,ao n2,ao n3] at hd;exact hd
 refine ⟨_,rfl,p,T.bot,dx,_,rfl,by rw [ao (Ne.symm n2)];exact af,X.cB,X.Gf,by show 2 < 1000;decide,?_⟩
 refine q l d _ hl hd0 (Ne.symm n3) (fun b o e hb=>?_) af ?_ ?_
 · rw [ao hb,ao (ay e hd0),ao hb,ao hb,ao (ay e hl)];exact e
 · rw [ao (Ne.symm n1),ao (Ne.symm n3),ao (Ne.symm n1),ao (Ne.symm n1)];exact af
 · rw [ao n2];exact af
abbrev mG:Stmt:=inClass (top 20) 0
abbrev CD:List Str:=["self","name","owner","worth","weight","scale","row"]
abbrev tV:List Str:=["self","name","owner","worth","weight","scale","row"]
theorem Bu:aI CD tV (au mG):=⟨rfl,rfl,rfl,by decide +kernel,rfl,by decide +kernel,by decide +kernel⟩
theorem Bv {T:TC} (F:Dv K mg "Part" T.part "Part.__init__" mG f fd) (X:Txt K T) (bW:mg "list" = none):Cn P w K mg base 1 "Part" T.part tV (DB T K):=by
 refine F.ok Bu (fun vs H Q E h=>?_) (fun cdv A outer s H vs Q E hr h=>?_) (fun _ _ _ _ _ _ us hl=>match us,hl with | [_,_,_,_,_,_,_],_=>rfl)
 · obtain ⟨p,dx,l,pt,rfl,_⟩:=h.ex
   rfl
 obtain ⟨p,dx,l,pt,rfl,hp,hl,q⟩:=h.ex
 refine ⟨_,(ah (cK K (pv 0) (pv 1))
  (ah (cK K (pv 0) (pv 2))
  (ah (cK K (pv 0) (pv 3))
  (ah (cK K (pv 0) (pv 4))
  (ah (cK K (pv 0) (pv 5))
  (aq (cK K (pv 0) (iZ (iG K) (by rfl) bW PyProof.Rows.boot_list (aa (pv 6) aj))))))))),?_⟩
 refine ⟨_,rfl,_,rfl,p,T.part,dx,_,rfl,hp,X.cP,X.Jx,by show 0 < 1000;decide,?_⟩
 refine ⟨_,rfl,_,rfl,p,T.part,dx,_,rfl,af,X.cP,X.pow,by show 1 < 1000;decide,?_⟩
 refine ⟨_,rfl,_,rfl,p,T.part,dx,_,rfl,af,X.cP,X.Dy,by show 2 < 1000;decide,?_⟩
 refine ⟨_,rfl,_,rfl,p,T.part,dx,_,rfl,af,X.cP,X.OG,by show 3 < 1000;decide,?_⟩
 refine ⟨_,rfl,_,rfl,p,T.part,dx,_,rfl,af,X.cP,X.Ge,by show 4 < 1000;decide,?_⟩
 simp only [lM]
 have hl1:∀o,av K (upd H p o) l (pt.row.map V.int):=fun o=>by
  rcases hl with (h | ⟨ob,h⟩) | h
  · exact .inl (.inl (by rw [ao (eL h hp (by intro z;cases z))];exact h))
  · exact .inl (.inr ⟨ob,by rw [ao (eL h hp (by intro z;cases z))];exact h⟩)
  · exact .inr h
 refine ⟨_,rfl,l,_,rfl, .inl (hl1 _),fun r hr2=>?_⟩
 have n1:r ≠ p:=fun e=>by rw [e,af] at hr2;cases hr2
 refine ⟨_,rfl,p,T.part,dx,_,rfl,by rw [ao (Ne.symm n1)];exact af,X.cP,X.Jy,by show 5 < 1000;decide,?_⟩
 have hr0:H r = none:=by rw [ao n1] at hr2;exact hr2
 refine q r _ hr0 (fun b o e hb=>?_) af ?_
 · rw [ao hb,ao (ay e hr0),ao hb];exact e
 · rw [ao n1];exact af
abbrev iQ:Stmt:=inClass (top 21) 19
abbrev wm:List Str:=["self","owner"]
abbrev nG:List Str:=["self","owner"]
theorem uR:aI wm nG (au iQ):=⟨rfl,rfl,rfl,by decide +kernel,rfl,by decide +kernel,by decide +kernel⟩
theorem uS {T:TC} (F:gJ K T.hold "place_of" "Hold.place_of" iQ f fd) (X:Txt K T):Mn P w K mg base 1 T.hold "place_of" nG (DE T):=by
 refine F.ok uR (fun vs H Q E h=>?_) (fun cdv A outer s H vs Q E hr h=>?_) (fun _ _ _ _ _ _ us hl=>match us,hl with | [_,_],_=>rfl)
 · obtain ⟨n,ρ,A,st,o,rfl,_⟩:=h.ex
   rfl
 obtain ⟨n,ρ,A,st,o,rfl,h,ho,q⟩:=h.ex
 refine ⟨_,(ah (bM (oA (qC (bH hr) (pv 1) (aL K (pv 0)))) (aq dX) aQ)
  (aq (aN (bL (bH hr) (aL K (pv 0)) (pv 1) (fun _ _=>rfl))))),?_⟩
 have hv:=Dz (i:=0) ho
 refine ⟨_,rfl,_,rfl,A.a,T.hold,A.dx,_,_,rfl,h.oa,X.cH,X.hpl,rfl,A.pl,_,rfl,b9.k (k:=Sum.inr o) h.eU,_,rfl,?_⟩
 rw [hv]
 refine bN ?_
 refine ⟨_,rfl,A.a,T.hold,A.dx,_,_,rfl,h.oa,X.cH,X.hpl,rfl,_,rfl,A.pl,_,rfl,hv ▸ b9.k (k:=Sum.inr o) h.eU,?_⟩
 rw [Nat.zero_add]
 exact q
abbrev jw:Stmt:=inClass (top 21) 20
abbrev xP:List Str:=["self","name"]
abbrev oS:List Str:=["self","name"]
theorem wu:aI xP oS (au jw):=⟨rfl,rfl,rfl,by decide +kernel,rfl,by decide +kernel,by decide +kernel⟩
theorem wA {T:TC} (F:gJ K T.hold "part_of" "Hold.part_of" jw f fd) (X:Txt K T):Mn P w K mg base 1 T.hold "part_of" oS (uI T):=by
 refine F.ok wu (fun vs H Q E h=>?_) (fun cdv A outer s H vs Q E hr h=>?_) (fun _ _ _ _ _ _ us hl=>match us,hl with | [_,_],_=>rfl)
 · obtain ⟨n,ρ,A,st,i,p,q,rfl,_⟩:=h.ex
   rfl
 obtain ⟨n,ρ,A,st,i,p,q,rfl,h,nd,ep,eq,k⟩:=h.ex
 refine ⟨_,(ah (bM (oA (qC (bH hr) (pv 1) (aL K (pv 0)))) (aq dX) aQ)
  (aq (aN (bL (bH hr) (aL K (pv 0)) (pv 1) (fun _ _=>rfl))))),?_⟩
 have hv:=oR nd ep eq
 refine ⟨_,rfl,_,rfl,A.a,T.hold,A.dx,_,_,rfl,h.oa,X.cH,X.hab,rfl,A.ab,_,rfl,b9.k (k:=Sum.inr p.nm) h.cI,_,rfl,?_⟩
 rw [hv]
 refine bN ?_
 exact ⟨_,rfl,A.a,T.hold,A.dx,_,_,rfl,h.oa,X.cH,X.hab,rfl,_,rfl,A.ab,_,rfl,hv ▸ b9.k (k:=Sum.inr p.nm) h.cI,k⟩
abbrev ir:Stmt:=inClass (top 21) 21
abbrev uT:List Str:=["self","name"]
abbrev mH:List Str:=["self","name"]
theorem sW:aI uT mH (au ir):=⟨rfl,rfl,rfl,by decide +kernel,rfl,by decide +kernel,by decide +kernel⟩
theorem sX {T:TC} (F:gJ K T.hold "check_new" "Hold.check_new" ir f fd) (X:Txt K T) (je:Dn P w K mg base 2 "is_name" ["text"] pG):Mn P w K mg base 3 T.hold "check_new" mH (vU T):=by
 refine F.ok sW (fun vs H Q E h=>?_) (fun cdv A outer s H vs Q E hr h=>?_) (fun _ _ _ _ _ _ us hl=>match us,hl with | [_,_],_=>rfl)
 · obtain ⟨n,ρ,A,st,x,rfl,_⟩:=h.ex
   rfl
 obtain ⟨n,ρ,A,st,x,rfl,h,hx,hn,q⟩:=h.ex
 refine ⟨_,(ah (bM (b8 (bU (a_ je hr (aa (pv 1) aj)))) (aq dX) aQ)
  (aq (bM (oA (Az (bH hr) (pv 1) (aL K (pv 0)))) (aq dX) aQ))),?_⟩
 refine ⟨_,rfl,vG (cs:=x.cps.toList) (Bb hx) fun H1 g1=>⟨_,rfl,?_⟩⟩
 rw [show isName x.cps.toList = true from hx]
 refine bN ?_
 have h1:=h.mono g1
 refine ⟨_,rfl,_,rfl,A.a,T.hold,A.dx,_,_,rfl,h1.oa,X.cH,X.hnm,rfl,A.nm,_,rfl,b9.k (k:=Sum.inr x) h1.l_,_,rfl,?_⟩
 rw [qS hn]
 exact bN (q H1 g1)
abbrev jX:Stmt:=inClass (top 21) 10
abbrev zu:List Str:=["self"]
abbrev qe:List Str:=["self"]
theorem xQ:aI zu qe (au jX):=⟨rfl,rfl,rfl,by decide +kernel,rfl,by decide +kernel,by decide +kernel⟩
theorem xR {T:TC} (F:gJ K T.hold "roster" "Hold.roster" jX f fd) (X:Txt K T) (bW:mg "list" = none):Mn P w K mg base 1 T.hold "roster" qe (A4 T):=by
 refine F.ok xQ (fun vs H Q E h=>?_) (fun cdv A outer s H vs Q E hr h=>?_) (fun _ _ _ _ _ _ us hl=>match us,hl with | [_],_=>rfl)
 · obtain ⟨n,ρ,A,st,rfl,_⟩:=h.ex
   rfl
 obtain ⟨n,ρ,A,st,rfl,h,q⟩:=h.ex
 refine ⟨_,(aq (aN (iZ (Et rfl) (by rfl) bW PyProof.Rows.boot_list (aa (aL K (pv 0)) aj)))),?_⟩
 refine ⟨_,rfl,A.a,T.hold,A.dx,_,_,rfl,h.oa,X.cH,X.hpl,rfl,A.pl,_,rfl, .inl h.eU,fun l hl=>?_⟩
 rw [uG]
 exact q l hl
abbrev kL:Stmt:=inClass (top 21) 11
abbrev Bw:List Str:=["self"]
abbrev rD:List Str:=["self"]
theorem zx:aI Bw rD (au kL):=⟨rfl,rfl,rfl,by decide +kernel,rfl,by decide +kernel,by decide +kernel⟩
theorem zy {T:TC} (F:gJ K T.hold "parts" "Hold.parts" kL f fd) (X:Txt K T):Mn P w K mg base 1 T.hold "parts" rD (DH T):=by
 refine F.ok zx (fun vs H Q E h=>?_) (fun cdv A outer s H vs Q E hr h=>?_) (fun _ _ _ _ _ _ us hl=>match us,hl with | [_],_=>rfl)
 · obtain ⟨n,ρ,A,st,rfl,_⟩:=h.ex
   rfl
 obtain ⟨n,ρ,A,st,rfl,h,hl,q⟩:=h.ex
 refine ⟨_,(aq (aN (AR (d7 ["part"] [none] rfl (sP (aL K (pv 0))) (fun _ _ _ _=>(aG (i:=0) (show List.Nodup (["part"] :List Str) from by decide +kernel) rfl (Or.inl rfl))) (fun _ _ _ _=>(iz (aa (aL K (pv 0)) (aa (aL K (pv 0)) (aa (aL K (pv 0)) (aa (aL K (pv 0)) aj)))))) rfl (by rfl))))),?_⟩
 refine ⟨A.ab,_,h.cI,fun o=>?_⟩
 refine ⟨_,rfl,A.a,T.hold,A.dx,_,_,rfl,cR h.cI h.oa (fun k z=>by cases z),X.cH,X.hab,rfl,A.ab,o,_,rfl,af,fun acc hacc=>?_⟩
 have el:=oQ h.ql
 refine fM (n:=st.ai.length) 0 (fun i out H1=>aD (upd H A.ab (.cW o (.dK (bJ st.ai A.qs)))) H1∧fG H1 out (st.ai.take i)) (by omega) ⟨aA hacc _, .nil⟩ (fun i out H1 hi _ hp=>⟨hp.1 _ _ af,by rw [el];exact hi⟩) (fun out H1 _ hp=>⟨hp.1 _ _ af,by rw [el];exact Nat.le_refl _⟩) ?_ ?_
 · rintro i x out H1 H2 hi c7 ha ⟨g,hP⟩ ⟨rfl,kv,hkv,rfl⟩
   have ep:=List.getElem?_eq_getElem hi
   obtain ⟨qq,eq,h1,h2,_⟩:=h.find ep
   rw [oO ep eq] at hkv
   cases hkv
   have hq:=g _ _ (cR h.cI h1 (fun k z=>by cases z))
   refine ⟨_,rfl,qq.1,T.part,qq.2.1,_,_,rfl,hq,X.cP,X.Jx,rfl,_,rfl,qq.1,T.part,qq.2.1,_,_,rfl,hq,X.cP,X.pow,rfl,_,rfl,qq.1,T.part,qq.2.1,_,_,rfl,hq,X.cP,X.Dy,rfl,_,rfl,qq.1,T.part,qq.2.1,_,_,rfl,hq,X.cP,X.OG,rfl,(by show 4≤sizeLine;decide),fun t ht=>?_⟩
   have g1:=aA ht (sR st.ai[i])
   refine ⟨g1 _ _ ha,(g.trans g1).bI hacc _,?_⟩
   rw [take_snoc ep]
   exact ((hP.mono g1.tups).snoc af).mono (fV (.inr ⟨_,g1 _ _ ha,rfl⟩))
 rintro out H1 c7 ha ⟨g,hP⟩
 rw [List.take_length] at hP
 have hz:=g _ _ (af (H:=H) (a:=A.ab) (o:= .cW o (.dK (bJ st.ai A.qs))))
 have na:acc ≠ A.ab:=fun e=>by rw [e,hz] at ha;cases ha
 exact ⟨hz,q acc out _ (mw h.cI g) (iN h.cI hacc) (by rw [ao na];exact ha) (hP.mono (fV (.inr ⟨_,hz,rfl⟩)))⟩
abbrev kM:Stmt:=inClass (top 21) 13
abbrev Bx:List Str:=["self"]
abbrev rE:List Str:=["self"]
theorem zz:aI Bx rE (au kM):=⟨rfl,rfl,rfl,by decide +kernel,rfl,by decide +kernel,by decide +kernel⟩
theorem zA {T:TC} (F:gJ K T.hold "whole" "Hold.whole" kM f fd) (X:Txt K T) (dU:mg "sum" = none):Mn P w K mg base 1 T.hold "whole" rE (xG T):=by
 refine F.ok zz (fun vs H Q E h=>?_) (fun cdv A outer s H vs Q E hr h=>?_) (fun _ _ _ _ _ _ us hl=>match us,hl with | [_],_=>rfl)
 · obtain ⟨n,ρ,A,st,rfl,_⟩:=h.ex
   rfl
 obtain ⟨n,ρ,A,st,rfl,h,hl,q⟩:=h.ex
 refine ⟨_,(aq (aN (aE (i8 K rfl) (by rfl) dU PyProof.Rows.boot_sum (aa (AR (d7 ["part"] [none] rfl (sP (aL K (pv 0))) (fun _ _ _ _=>(aG (i:=0) (show List.Nodup (["part"] :List Str) from by decide +kernel) rfl (Or.inl rfl))) (fun _ _ _ _=>(aL K (pv 0))) rfl (by rfl))) aj)))),?_⟩
 refine ⟨A.ab,_,h.cI,fun o=>?_⟩
 refine ⟨_,rfl,A.a,T.hold,A.dx,_,_,rfl,cR h.cI h.oa (fun k z=>by cases z),X.cH,X.hab,rfl,A.ab,o,_,rfl,af,fun acc hacc=>?_⟩
 have el:=oQ h.ql
 refine fM (n:=st.ai.length) 0 (fun i out H1=>aD (upd H A.ab (.cW o (.dK (bJ st.ai A.qs)))) H1∧out = ((st.ai.take i).map (·.wo)).map V.int) (by omega) ⟨aA hacc _,rfl⟩ (fun i out H1 hi _ hp=>⟨hp.1 _ _ af,by rw [el];exact hi⟩) (fun out H1 _ hp=>⟨hp.1 _ _ af,by rw [el];exact Nat.le_refl _⟩) ?_ ?_
 · rintro i x out H1 H2 hi c7 ha ⟨g,e⟩ ⟨rfl,kv,hkv,rfl⟩
   have ep:=List.getElem?_eq_getElem hi
   obtain ⟨qq,eq,h1,h2,_⟩:=h.find ep
   rw [oO ep eq] at hkv
   cases hkv
   have hq:=g _ _ (cR h.cI h1 (fun k z=>by cases z))
   refine ⟨_,rfl,qq.1,T.part,qq.2.1,_,_,rfl,hq,X.cP,X.Dy,rfl,ha,g.bI hacc _,?_⟩
   rw [take_snoc ep,e,List.map_append,List.map_append]
   rfl
 rintro out H1 c7 ha ⟨g,e⟩
 rw [List.take_length] at e
 have hz:=g _ _ (af (H:=H) (a:=A.ab) (o:= .cW o (.dK (bJ st.ai A.qs))))
 have na:acc ≠ A.ab:=fun e=>by rw [e,hz] at ha;cases ha
 exact ⟨hz,acc,st.ai.map (fun p:Pt=>p.wo),rfl,av.of (by rw [ao na,ha,e]),q _ (mw h.cI g)⟩
abbrev fX:Stmt:=inClass (top 21) 25
abbrev pU:List Str:=["self","tops"]
abbrev jx:List Str:=["self","tops"]
theorem oU:aI pU jx (au fX):=⟨rfl,rfl,rfl,by decide +kernel,rfl,by decide +kernel,by decide +kernel⟩
theorem oV {T:TC} (F:gJ K T.hold "beyond_common" "Hold.beyond_common" fX f fd) (X:Txt K T) (fH:mg "zip" = none):Mn P w K mg base 1 T.hold "beyond_common" jx (JC T K):=by
 refine F.ok oU (fun vs H Q E h=>?_) (fun cdv A outer s H vs Q E hr h=>?_) (fun _ _ _ _ _ _ us hl=>match us,hl with | [_,_],_=>rfl)
 · obtain ⟨n,ρ,A,st,l,tops,rfl,_⟩:=h.ex
   rfl
 obtain ⟨n,ρ,A,st,l,tops,rfl,h,hS,JJ,hle,q⟩:=h.ex
 refine ⟨_,(aq (aN (d7 ["top","common"] [none,none] rfl (lO K (by rfl) fH (aa (pv 1) (aa (aL K (pv 0)) aj))) (fun _ _ _ _=>(eZ K (n:=2) rfl (bG (aG (i:=0) (show List.Nodup (["top","common"] :List Str) from by decide +kernel) rfl (Or.inl rfl)) (bG (aG (i:=1) (show List.Nodup (["top","common"] :List Str) from by decide +kernel) rfl (Or.inl rfl)) eX)))) (fun _ _ _ _=>(aB lR (pv 0) (pv 1))) rfl (by rfl)))),?_⟩
 refine ⟨_,rfl,_,rfl,A.a,T.hold,A.dx,_,_,rfl,h.oa,X.cH,X.tO,rfl,_,_,_,_,_,_,rfl, .lst hS, .lst (av.of h.fQ),fun acc hacc=>?_⟩
 refine qL (K:=K) (n:=tops.length) [0,1] (fun i out H1=>aD H H1∧out = (List.zipWith (fun t c=>t - c) (tops.take i) (st.bh.take i)).map V.int) (by decide) (by omega) ⟨aA hacc _,rfl⟩ (fun i out H1 hi _ hp=>⟨hp.1.seq hS,hp.1.seq (av.of h.fQ),by rw [List.length_map];exact hi,by rw [List.length_map];omega⟩)
  (fun out H1 _ hp=>⟨hp.1.seq hS,hp.1.seq (av.of h.fQ), .inl (by rw [List.length_map];exact Nat.le_refl _)⟩) ?_ ?_
 · rintro i x out H1 H2 hi c7 ha ⟨g,e⟩ ⟨p,x1,y1,hp,rfl,rfl,e1,e2⟩
   obtain ⟨t,rfl,et⟩:=dG e1
   obtain ⟨c,rfl,ec⟩:=dG e2
   have g1:=aA hp (.tup [.int t, .int c])
   refine ⟨p,_,rfl,cA.of af,rfl,_,rfl,_,rfl,_,_,rfl,rfl,g1 _ _ ha,(g.trans g1).bI hacc _,?_⟩
   rw [ja _ et ec,e,List.map_append]
   rfl
 rintro out H1 c7 ha ⟨g,e⟩
 rw [List.take_length,JJ,List.take_length] at e
 exact q acc H1 g hacc (by rw [ha,e];rfl)
abbrev jy:Stmt:=inClass (top 21) 24
abbrev xS:List Str:=["self","part"]
abbrev oW:List Str:=["self","part"]
theorem wB:aI xS oW (au jy):=⟨rfl,rfl,rfl,by decide +kernel,rfl,by decide +kernel,by decide +kernel⟩
theorem wC {T:TC} (F:gJ K T.hold "tops_of" "Hold.tops_of" jy f fd) (X:Txt K T) (fH:mg "zip" = none):Mn P w K mg base 1 T.hold "tops_of" oW (DF T):=by
 refine F.ok wB (fun vs H Q E h=>?_) (fun cdv A outer s H vs Q E hr h=>?_) (fun _ _ _ _ _ _ us hl=>match us,hl with | [_,_],_=>rfl)
 · obtain ⟨n,ρ,A,st,i,p,qq,rfl,_⟩:=h.ex
   rfl
 obtain ⟨n,ρ,A,st,ip,pt,qq,rfl,h,wf,ep,eq,q⟩:=h.ex
 obtain ⟨h1,h2,_⟩:=h.opt ip pt qq ep eq
 have gO:=List.mem_of_getElem? ep
 refine ⟨_,(aq (aN (d7 ["own","common","part"] [none,none,some 1] rfl (lO K (by rfl) fH (aa (aL K (pv 1)) (aa (aL K (pv 0)) aj))) (fun _ _ _ _=>(eZ K (n:=2) rfl (bG (aG (i:=0) (show List.Nodup (["own","common","part"] :List Str) from by decide +kernel) rfl (Or.inl rfl)) (bG (aG (i:=1) (show List.Nodup (["own","common","part"] :List Str) from by decide +kernel) rfl (Or.inl rfl)) eX)))) (fun _ _ _ _=>(aB bP (aB fL (aL K (pv 2)) (pv 0)) (pv 1))) rfl (by rfl)))),?_⟩
 have Mw:pt.row.length = st.bh.length:=by rw [wf.rows pt gO,wf.fU]
 have hcl:st.bh.length≤100:=by rw [wf.fU];exact wf.mh
 refine ⟨_,rfl,qq.1,T.part,qq.2.1,_,_,rfl,h1,X.cP,X.Jy,rfl,_,rfl,A.a,T.hold,A.dx,_,_,rfl,h.oa,X.cH,X.tO,rfl,_,_,_,_,_,_,rfl, .lst (av.of h2), .lst (av.of h.fQ),fun acc hacc=>?_⟩
 refine qL (K:=K) (n:=pt.row.length) [0,1] (fun i out H1=>aD H H1∧out = (List.zipWith (fun r c=>pt.sc * r + c) (pt.row.take i) (st.bh.take i)).map V.int) (by decide) (by omega) ⟨aA hacc _,rfl⟩ (fun i out H1 hi _ hp=>⟨hp.1.seq (av.of h2),hp.1.seq (av.of h.fQ),by rw [List.length_map];exact hi,by rw [List.length_map];omega⟩)
  (fun out H1 _ hp=>⟨hp.1.seq (av.of h2),hp.1.seq (av.of h.fQ), .inl (by rw [List.length_map];exact Nat.le_refl _)⟩) ?_ ?_
 · rintro i x out H1 H2 hi c7 ha ⟨g,e⟩ ⟨p,x1,y1,hp,rfl,rfl,e1,e2⟩
   obtain ⟨t,rfl,et⟩:=dG e1
   obtain ⟨c,rfl,ec⟩:=dG e2
   have g1:=aA hp (.tup [.int t, .int c])
   have s1:Jm.Sz 8000 pt.sc:=Jm.Sz.ji (by have:=wf.qa pt gO;have:=wf.fq;omega) (wf.qa pt gO).2 wf.big
   have s2:Jm.Sz 8000 t:=Jm.Sz.ji (wf.nS pt gO t (List.mem_of_getElem? et)).1 (wf.nS pt gO t (List.mem_of_getElem? et)).2 wf.big
   refine ⟨p,_,rfl,cA.of af,rfl,_,rfl,qq.1,T.part,qq.2.1,_,_,rfl,(g.trans g1) _ _ h1,X.cP,X.Ge,rfl,_,rfl,_,_,rfl,rfl,eY s1 s2,_,rfl,_,_,rfl,rfl,g1 _ _ ha,(g.trans g1).bI hacc _,?_⟩
   rw [ja _ et ec,e,List.map_append]
   rfl
 rintro out H1 c7 ha ⟨g,e⟩
 rw [List.take_length,Mw,List.take_length] at e
 exact q acc H1 g hacc (by rw [ha,e];rfl)
abbrev mJ:Stmt:=inClass (top 21) 22
abbrev CF:List Str:=["self","part"]
abbrev tW:List Str:=["self","part"]
theorem By:aI CF tW (au mJ):=⟨rfl,rfl,rfl,by decide +kernel,rfl,by decide +kernel,by decide +kernel⟩
theorem BB {T:TC} (F:gJ K T.hold "stow" "Hold.stow" mJ f fd) (X:Txt K T):Mn P w K mg base 1 T.hold "stow" tW (Gg T):=by
 refine F.ok By (fun vs H Q E h=>?_) (fun cdv A outer s H vs Q E hr h=>?_) (fun _ _ _ _ _ _ us hl=>match us,hl with | [_,_],_=>rfl)
 · obtain ⟨n,ρ,A,st,qq,p,rfl,_⟩:=h.ex
   rfl
 obtain ⟨n,ρ,A,st,qq,p,rfl,hh,h1,h2,c1,c2,hn,wf',q⟩:=h.ex
 have h:=hh.h
 refine ⟨_,(ah (jS (bH hr) (aL K (pv 0)) (aL K (pv 1)) (pv 1) rfl)
  (aq (jS (bH hr) (aL K (pv 0)) (aL K (pv 1)) cL rfl))),?_⟩
 have rF:∀x∈st.ai,x.nm ≠ p.nm:=fun x hx e=>hn (by rw [← e];exact hh.wf.sub x hx)
 have Sg:(bJ st.ai A.qs).length < sizeLine:=by rw [oQ h.ql];exact cO hh.wf.pJ
 refine ⟨_,rfl,_,rfl,A.a,T.hold,A.dx,_,_,rfl,h.oa,X.cH,X.hab,rfl,_,rfl,qq.1,T.part,qq.2.1,_,_,rfl,h1,X.cP,X.Jx,rfl,A.ab,_,rfl,lU.k (k:=Sum.inr p.nm) h.cI Sg,?_⟩
 rw [iL _ (qR rF),← Ip h.ql p qq]
 have k1:qq.1 ≠ qq.2.2:=eL h1 h2 (by intro z;cases z)
 have f1:Kp n ρ (bC (bC ρ qq.1 (n,20,p.nm)) qq.2.2 (n,21,p.nm)) H H (fun _=>true):=⟨fun _ _ e=>e,fun b t x o _ c e=>⟨e,by
  rw [bu (fun z=>by rw [z,c2] at c;cases c),bu (fun z=>by rw [z,c1] at c;cases c)];exact c⟩⟩
 have hc:=h.same f1
 have g1:Gh (bC (bC ρ qq.1 (n,20,p.nm)) qq.2.2 (n,21,p.nm)) H:=(hh.g.color h1 rfl).color h2 rfl
 have Sh:A0 n qq.1 qq.2.2 ρ H (bC (bC ρ qq.1 (n,20,p.nm)) qq.2.2 (n,21,p.nm)) H:=fun b o e k n1 n2=>⟨e,by rw [bu n2,bu n1]⟩
 have hs:=hc.Gd g1 (st.ai ++ [p]) (A.qs ++ [qq]) (by rw [List.length_append,List.length_append,h.ql];rfl) (fun i x y ex ey=>by
  by_cases hi:i < st.ai.length
  · rw [List.getElem?_append_left hi] at ex
    rw [List.getElem?_append_left (by rw [h.ql];exact hi)] at ey
    exact hc.opt i x y ex ey
  · rw [List.getElem?_append_right (by omega)] at ex
    rw [List.getElem?_append_right (by rw [h.ql];omega),h.ql] at ey
    have e0:i - st.ai.length = 0:=by
     rcases Nat.eq_zero_or_pos (i - st.ai.length) with z | z
     · exact z
     · rw [List.getElem?_eq_none (by show 1≤_;exact z)] at ex;cases ex
    rw [e0] at ex ey
    cases ex;cases ey
    exact ⟨h1,h2,by rw [bu k1];exact cg,cg⟩)
 have g2:=g1.wr (a:=A.ab) (o:= .dK (bJ (st.ai ++ [p]) (A.qs ++ [qq]))) rfl
 have Si:Fr n _ H _ (upd H A.ab (.dK (bJ (st.ai ++ [p]) (A.qs ++ [qq])))):=Fr.write hc.dN
 have JB:upd H A.ab (.dK (bJ (st.ai ++ [p]) (A.qs ++ [qq]))) qq.1 = some (.ins T.part qq.2.1 (gK p qq.2.2)):=by rw [ao (eL h1 h.cI (by intro z;cases z))];exact h1
 refine ⟨_,rfl,A.a,T.hold,A.dx,_,_,rfl,hs.oa,X.cH,X.hnm,rfl,_,rfl,qq.1,T.part,qq.2.1,_,_,rfl,JB,X.cP,X.Jx,rfl,A.nm,_,rfl,lU.k (k:=Sum.inr p.nm) hs.l_ (by unfold qN;rw [List.length_map];exact cO hh.wf.xE),?_⟩
 rw [iL _ (qS hn),show qN st.nms ++ [(Sum.inr p.nm,V.bl true)] = qN (st.nms ++ [p.nm]) from by unfold qN;rw [List.map_append];rfl]
 have hs2:=hs.Me g2 (st.nms ++ [p.nm])
 exact q _ _ _ ⟨g2.wr rfl,hs2,wf'⟩ rfl (Sh.trans (Si.trans (Fr.write hs.fO)))
abbrev mK:Stmt:=inClass (top 21) 1
abbrev CG:List Str:=["self","owner","part"]
abbrev tX:List Str:=["self","owner"]
theorem rG:aI CG tX (au mK):=⟨rfl,rfl,rfl,by decide +kernel,rfl,by decide +kernel,by decide +kernel⟩
theorem BC {T:TC} (F:gJ K T.hold "sign" "Hold.sign" mK f fd) (X:Txt K T) (je:Dn P w K mg base 2 "is_name" ["text"] pG) (aZ:mg "len" = none):Mn P w K mg base 3 T.hold "sign" tX (DG T):=by
 refine F.ok rG (fun vs H Q E h=>?_) (fun cdv A outer s H vs Q E hr h=>?_) (fun _ _ _ _ _ _ us hl=>match us,hl with | [_,_],_=>rfl)
 · obtain ⟨n,ρ,A,st,o,rfl,_⟩:=h.ex
   rfl
 obtain ⟨n,ρ,A,st,o,rfl,hh,hx,hn,hl,q⟩:=h.ex
 refine ⟨_,(ah (bM (b8 (bU (a_ je hr (aa (pv 1) aj)))) (aq dX) aQ)
  (ah (bM (oA (Az (bH hr) (pv 1) (aL K (pv 0)))) (aq dX) aQ)
  (ah (jS (bH hr) (aL K (pv 0)) (pv 1) (aE qE (by rfl) aZ PySem.boot_len (aa (aL K (pv 0)) aj)) rfl)
  (ah (bZ (lF PySem.F.plainAttrs_list PySem.F.slot_list_append PySem.F.type_list_append dP (aL K (pv 0)) (aa ak aj)))
  (ah (bZ (lF PySem.F.plainAttrs_list PySem.F.slot_list_append PySem.F.type_list_append dP (aL K (pv 0)) (aa ak aj)))
  (aq (oM (cC PassesOwn.never rfl (sP (aL K (pv 0))) (aG (i:=2) rG.nd rfl (Or.inl rfl)) (aq (bZ (lF PySem.F.plainAttrs_list PySem.F.slot_list_append PySem.F.type_list_append dP (aL K (pv 2)) (aa ak aj)))))))))))),?_⟩
 refine ⟨_,rfl,vG (cs:=o.cps.toList) (Bb hx) fun H1 g1=>⟨_,rfl,?_⟩⟩
 rw [show isName o.cps.toList = true from hx]
 refine bN ?_
 have dI:=hh.mono g1
 have h1:=dI.h
 have F1:Fr n ρ H ρ H1:=Fr.of_same g1
 refine ⟨_,rfl,_,rfl,A.a,T.hold,A.dx,_,_,rfl,h1.oa,X.cH,X.hpl,rfl,A.pl,_,rfl,b9.k (k:=Sum.inr o) h1.eU,_,rfl,?_⟩
 rw [mq hn]
 refine bN ?_
 have DW:=lH st.own 0
 refine ⟨_,rfl,A.a,T.hold,A.dx,_,_,rfl,h1.oa,X.cH,X.hpl,rfl,A.pl,_,rfl,h1.eU,_,rfl,A.a,T.hold,A.dx,_,_,rfl,h1.oa,X.cH,X.hpl,rfl,_,rfl,A.pl,_,rfl,lU.k (k:=Sum.inr o) h1.eU (cO (by rw [DW];omega)),?_⟩
 rw [iL _ (mq hn),DW,show cZ 0 st.own ++ [(Sum.inr o,V.int (st.own.length:Int))] = cZ 0 (st.own ++ [o]) from by rw [AZ,Nat.zero_add]]
 have h2:=h1.Mc dI.g (st.own ++ [o])
 have G2:=dI.g.wr (a:=A.pl) (o:= .dK (cZ 0 (st.own ++ [o]))) rfl
 have F2:=F1.trans (Fr.write (o:= .dK (cZ 0 (st.own ++ [o]))) h1.fF)
 generalize upd H1 A.pl (.dK (cZ 0 (st.own ++ [o]))) = H2 at *
 have lcm:(st.bh.map V.int).length < sizeLine:=by rw [List.length_map,hh.wf.fU];exact cO (by omega)
 refine ⟨_,rfl,A.a,T.hold,A.dx,_,_,rfl,h2.oa,X.cH,X.tO,rfl, .inl ⟨rfl,_,av.of h2.fQ⟩,A.cm,_,_,rfl,rfl,h2.fQ,lcm,?_⟩
 rw [show st.bh.map V.int ++ [V.int 0] = (st.bh ++ [0]).map V.int from by rw [List.map_append];rfl]
 have h3:=h2.Mf G2 (st.bh ++ [0])
 have G3:=G2.wr (a:=A.cm) (o:= .lst ((st.bh ++ [0]).map V.int)) rfl
 have F3:=F2.trans (Fr.write (o:= .lst ((st.bh ++ [0]).map V.int)) h2.gr)
 generalize upd H2 A.cm (.lst ((st.bh ++ [0]).map V.int)) = H3 at *
 have Sj:(st.bV.map V.int).length < sizeLine:=by rw [List.length_map,hh.wf.qQ];exact cO (by omega)
 refine ⟨_,rfl,A.a,T.hold,A.dx,_,_,rfl,h3.oa,X.cH,X.AX,rfl, .inl ⟨rfl,_,av.of h3.jN⟩,A.pu,_,_,rfl,rfl,h3.jN,Sj,?_⟩
 rw [show st.bV.map V.int ++ [V.int 0] = (st.bV ++ [0]).map V.int from by rw [List.map_append];rfl]
 have h4:=h3.Mg G3 (st.bV ++ [0])
 have G4:=G3.wr (a:=A.pu) (o:= .lst ((st.bV ++ [0]).map V.int)) rfl
 have F4:=F3.trans (Fr.write (o:= .lst ((st.bV ++ [0]).map V.int)) h3.cpu)
 generalize upd H3 A.pu (.lst ((st.bV ++ [0]).map V.int)) = H4 at *
 clear h1 h2 h3 G2 G3 F2 F3 dI
 have hpl:=hh.wf.pJ
 refine ⟨A.ab,_,h4.cI,fun ob=>?_⟩
 refine ⟨_,rfl,A.a,T.hold,A.dx,_,_,rfl,cR h4.cI h4.oa (fun k z=>by cases z),X.cH,X.hab,rfl,A.ab,ob,_,rfl,af,?_⟩
 have el:=oQ h4.ql
 have OO:(bJ st.ai A.qs).length = st.ai.length:=el
 refine l7 (n:=st.ai.length) (fun i σ H'=>(∃s2,σ = [some (.ref A.a),some (.str o),s2])∧i9 H' A.ab ob (bJ st.ai A.qs)∧∃H5,H' = upd H5 A.ab (.cW ob (.dK (bJ st.ai A.qs)))∧Gh ρ H5∧Fr n ρ H ρ H5∧
   aJ T n ρ A H5 { st with own:=st.own ++ [o],bh:=st.bh ++ [0],bV:=st.bV ++ [0],ai:=(st.ai.take i).map (fun p=>{ p with row:=p.row ++ [0] }) ++ st.ai.drop i })
  ⟨⟨_,rfl⟩,af,H4,rfl,G4,F4,h4⟩ (fun i σ H' hi hp=>⟨hp.2.1,by rw [OO];exact hi⟩) (fun σ H' hp=>⟨hp.2.1,by rw [OO];exact Nat.le_refl _⟩) ?_ ?_
 · rintro i x σ H' vW hi ⟨⟨s2,rfl⟩,hz,H5,rfl,G5,F5,h5⟩ ⟨rfl,kv,hkv,rfl⟩
   have ep:=List.getElem?_eq_getElem hi
   have tY:=Bd (fun p:Pt=>{ p with row:=p.row ++ [0] }) ep
   obtain ⟨qq,eq,k1,k2,k3,k4⟩:=h5.find tY
   rw [oO ep eq] at hkv
   cases hkv
   have JK:=jV (fun p:Pt=>{ p with row:=p.row ++ [0] }) (fun p:Pt=>p.nm) (fun _=>rfl) st.ai i
   have Sk:(((st.ai.take i).map (fun p:Pt=>{ p with row:=p.row ++ [0] }) ++ st.ai.drop i).map (fun p:Pt=>p.nm)).Nodup:=by rw [JK];exact hh.wf.jn
   have z1:=cR (o:=ob) h5.cI k1 (fun k z=>by cases z)
   have z2:=cR (o:=ob) h5.cI k2 (fun k z=>by cases z)
   rw [show bJ ({ st with own:=st.own ++ [o],bh:=st.bh ++ [0],bV:=st.bV ++ [0],ai:=(st.ai.take i).map (fun p:Pt=>{ p with row:=p.row ++ [0] }) ++ st.ai.drop i }:HS).ai A.qs = bJ st.ai A.qs from jb JK] at z1 z2
   have hrl:((st.ai[i]).row.map V.int).length < sizeLine:=by rw [List.length_map,hh.wf.rows _ (List.getElem_mem hi)];exact cO (by omega)
   refine ⟨_,rfl,qq.1,T.part,qq.2.1,_,_,rfl,z1,X.cP,X.Jy,rfl, .inl ⟨rfl,_,av.of z2⟩,qq.2.2,_,_,rfl,rfl,z2,hrl,?_⟩
   have na:A.ab ≠ qq.2.2:=(eL k2 h5.cI (by intro z;cases z)).symm
   rw [show (st.ai[i]).row.map V.int ++ [V.int 0] = ((st.ai[i]).row ++ [0]).map V.int from by rw [List.map_append];rfl]
   have h6:=h5.KL G5 ((st.ai[i]).row ++ [0]) tY eq Sk
   rw [show ({ st with own:=st.own ++ [o],bh:=st.bh ++ [0],bV:=st.bV ++ [0],ai:=(st.ai.take i).map (fun p:Pt=>{ p with row:=p.row ++ [0] }) ++ st.ai.drop i }:HS).ai.set i { st.ai[i] with row:=(st.ai[i]).row ++ [0] } = _ from Be (fun p:Pt=>{ p with row:=p.row ++ [0] }) ep] at h6
   exact ⟨⟨_,rfl⟩,(ao na).trans hz,_,gh na,G5.wr rfl,F5.trans (Fr.write k4),h6⟩
 · rintro σ H' ⟨_,hz,H5,rfl,G5,F5,h5⟩
   have JK:=jV (fun p:Pt=>{ p with row:=p.row ++ [0] }) (fun p:Pt=>p.nm) (fun _=>rfl) st.ai st.ai.length
   have e5:bJ ({ st with own:=st.own ++ [o],bh:=st.bh ++ [0],bV:=st.bV ++ [0],ai:=(st.ai.take st.ai.length).map (fun p:Pt=>{ p with row:=p.row ++ [0] }) ++ st.ai.drop st.ai.length }:HS).ai A.qs = bJ st.ai A.qs:=jb JK
   have OP:=h5.cI
   rw [e5] at OP
   refine ⟨hz,?_⟩
   rw [lM,pM OP]
   have es:({ st with own:=st.own ++ [o],bh:=st.bh ++ [0],bV:=st.bV ++ [0],ai:=(st.ai.take st.ai.length).map (fun p:Pt=>{ p with row:=p.row ++ [0] }) ++ st.ai.drop st.ai.length }:HS) = dJ st o:=by
    unfold dJ
    rw [List.take_length,List.drop_length,List.append_nil]
   rw [es] at h5
   exact q ρ A H5 ⟨G5,h5,KN hh.wf hn hl⟩ rfl F5
abbrev mL:Stmt:=inClass (top 21) 2
abbrev CH:List Str:=["self","part","owner","worth","weight","place","tops"]
abbrev tZ:List Str:=["self","part","owner","worth","weight"]
theorem mO:aI CH tZ (au mL):=⟨rfl,rfl,rfl,by decide +kernel,rfl,by decide +kernel,by decide +kernel⟩
theorem BD {T:TC} (F:gJ K T.hold "load" "Hold.load" mL f fd) (X:Txt K T) (iR:Mn P w K mg base 3 T.hold "check_new" ["self","name"] (vU T)) (jz:Mn P w K mg base 1 T.hold "place_of" ["self","owner"] (DE T))
  (gm:Mn P w K mg base 1 T.hold "beyond_common" ["self","tops"] (JC T K)) (nU:Mn P w K mg base 1 T.hold "stow" ["self","part"] (Gg T)) (BF:Cn P w K mg base 1 "Part" T.part ["self","name","owner","worth","weight","scale","row"] (DB T K)) (aZ:mg "len" = none):Mn P w K mg base 4 T.hold "load" tZ (Gi T):=by
 refine F.ok mO (fun vs H Q E h=>?_) (fun cdv A outer s H vs Q E hr h=>?_) (fun _ _ _ _ _ _ us hl=>match us,hl with | [_,_,_,_,_],_=>rfl)
 · obtain ⟨n,ρ,A,st,x,o,wo,we,rfl,_⟩:=h.ex
   rfl
 obtain ⟨n,ρ,A,st,x,o,wo,we,rfl,hh,hx,hn,ho,h4,h5,h6,h7,q⟩:=h.ex
 refine ⟨_,(ah (bZ (dQ iR hr (pv 0) (aa (pv 1) aj)))
  (ah (aF (i:=5) mO.nd rfl (Or.inl rfl) (dQ jz hr (pv 0) (aa (pv 2) aj)))
  (ah (bM (dw (PW.pt (fj (bf Ed (pv 3) ak (br _)) (ef (bf Ed (pv 4) ak (br _)))))) (aq dX) aQ)
  (ah (aF (i:=6) mO.nd rfl (Or.inl rfl) (aB LM (fK (aa ak aj)) (aE qE (by rfl) aZ PySem.boot_len (aa (aL K (pv 0)) aj))))
  (ah (oE (aL K (aL K (pv 0))) (oB (pv 6) (pv 5) set_list))
  (aq (bZ (dQ nU hr (pv 0) (aa (N5 BF hr (aa (pv 1) (aa (pv 2) (aa (pv 3) (aa (pv 4) (aa ak (aa (dQ gm hr (pv 0) (aa (pv 6) aj)) aj))))))) aj))))))))),?_⟩
 refine ⟨_,rfl,A.a,A.dx,_,rfl,hh.h.oa,rfl,_,rfl,⟨⟨n,ρ,A,st,x,rfl,hh.h,hx,hn,fun H1 g1=>?_⟩⟩⟩
 have dI:=hh.mono g1
 have F1:Fr n ρ H ρ H1:=Fr.of_same g1
 clear hh
 refine ⟨_,rfl,A.a,A.dx,_,rfl,dI.h.oa,rfl,_,rfl,⟨⟨n,ρ,A,st,o,rfl,dI.h,ho,?_⟩⟩⟩
 refine ⟨false,⟨_,rfl,_,_,rfl,rfl,_,rfl,dY (fun c=>absurd (of_decide_eq_true c) (by omega)) fun _=>⟨_,rfl,_,_,rfl,rfl,_,rfl,decide_eq_false (by omega),rfl⟩⟩,bN ?_⟩
 refine ⟨(by show 1≤sizeLine;decide),fun p0 hp0=>?_⟩
 have g2:=aA hp0 (.lst [.int 0])
 have gc:=dI.mono g2
 have F2:=F1.trans (Fr.of_same (ρ:=ρ) g2)
 have Rb:upd H1 p0 (.lst [.int 0]) p0 = some (.lst [.int 0]):=af
 generalize upd H1 p0 (.lst [.int 0]) = H2 at *
 clear dI F1
 have DW:=lH st.own 0
 have c7:=gc.wf.mh
 refine ⟨_,rfl,A.a,T.hold,A.dx,_,_,rfl,gc.h.oa,X.cH,X.hpl,rfl,A.pl,_,rfl,gc.h.eU,p0,_,_,rfl,rfl,Rb,by omega,by rw [DW];omega,by rw [DW];show 1 * _≤_;rw [Int.toNat_natCast,Nat.one_mul];exact small (by omega),fun p1 hp1=>?_⟩
 rw [DW,Int.toNat_natCast,show (List.replicate st.own.length [V.int 0]).flatten = (List.replicate st.own.length (0:Int)).map V.int from by rw [List.map_replicate,List.flatten_replicate_singleton]]
 have g3:=aA hp1 (.lst ((List.replicate st.own.length (0:Int)).map V.int))
 have jO:=gc.mono g3
 have F3:=F2.trans (Fr.of_same (ρ:=ρ) g3)
 have n1:H p1 = none:=(g1.trans g2).free hp1
 have c1:ρ p1 = none:=gc.g.none hp1
 have BG:upd H2 p1 (.lst ((List.replicate st.own.length (0:Int)).map V.int)) p1 = _:=af
 generalize upd H2 p1 (.lst ((List.replicate st.own.length (0:Int)).map V.int)) = H3 at *
 have hi:=List.idxOf_lt_length_iff.mpr ho
 refine ⟨_,rfl,A.a,T.hold,A.dx,_,_,rfl,jO.h.oa,X.cH,X.vO,rfl,A.bt,T.bot,A.db,_,_,rfl,jO.h.i_,X.cB,X.Jz,rfl,_,rfl,_,rfl,p1,_,_,st.own.idxOf o,rfl,rfl,BG,by rw [List.length_map,List.length_replicate];exact sN hi,?_⟩
 rw [show ((List.replicate st.own.length (0:Int)).map V.int).set (st.own.idxOf o) (V.int st.prod) = ((List.replicate st.own.length (0:Int)).set (st.own.idxOf o) st.prod).map V.int from by rw [List.map_set]]
 have iC:=jO.vV (o:= .lst (((List.replicate st.own.length (0:Int)).set (st.own.idxOf o) st.prod).map V.int)) c1 BG rfl rfl
 have F4:=F3.new (o:= .lst (((List.replicate st.own.length (0:Int)).set (st.own.idxOf o) st.prod).map V.int)) n1
 have Rc:upd H3 p1 (.lst (((List.replicate st.own.length (0:Int)).set (st.own.idxOf o) st.prod).map V.int)) p1 = _:=af
 have s4:aD H (upd H3 p1 (.lst (((List.replicate st.own.length (0:Int)).set (st.own.idxOf o) st.prod).map V.int))):=((g1.trans g2).trans g3).bI n1 _
 generalize upd H3 p1 (.lst (((List.replicate st.own.length (0:Int)).set (st.own.idxOf o) st.prod).map V.int)) = H4 at *
 clear gc jO F2 F3
 refine ⟨_,rfl,A.a,A.dx,_,rfl,iC.h.oa,rfl,_,rfl,_,rfl,_,rfl,_,rfl,_,rfl,A.a,A.dx,_,rfl,iC.h.oa,rfl,_,rfl,⟨⟨n,ρ,A,st,p1,_,rfl,iC.h,av.of Rc,by rw [List.length_set,List.length_replicate,iC.wf.fU],by rw [List.length_set,List.length_replicate];omega,fun r H5 g5 UH IQ=>?_⟩⟩⟩
 intro y dy hy OQ Sl
 have Mx:upd (upd H5 dy (.own y)) y (.ins T.part dy []) r = some (.lst ((uH st ((List.replicate st.own.length 0).set (st.own.idxOf o) st.prod)).map V.int)):=by rw [ao (ay IQ hy),ao (ay IQ OQ)];exact IQ
 refine ⟨⟨y,dy,r,⟨x,o,wo,we,1,uH st ((List.replicate st.own.length 0).set (st.own.idxOf o) st.prod)⟩,rfl,af,av.of Mx,fun rr H6 hrr k6 Sm Rf=>⟨rfl,?_⟩⟩⟩
 have My:H5 rr = none:=by
  have e1:rr ≠ y:=fun e=>by rw [e,af] at hrr;cases hrr
  have e2:rr ≠ dy:=fun e=>by rw [e,ao Sl,af] at hrr;cases hrr
  rw [ao e1,ao e2] at hrr;exact hrr
 have g6:aD H5 H6:=fun b u e=>k6 b u (by rw [ao (ay e hy),ao (ay e OQ)];exact e) (ay e hy)
 have nH:=iC.mono g5
 have t7:=nH.mono g6
 have F6:=F4.trans (Fr.of_same (ρ:=ρ) (g5.trans g6))
 exact ⟨⟨n,ρ,A,st,(y,dy,rr),_,rfl,t7,Sm,Rf,nH.g.none hy,nH.g.none My,hn,KP iC.wf hn h6 h7 ho h4 h5,fun ρ' A' H' a1 a2 a3=>q ρ' A' H' a1 a2 (a3.fr F6 ((s4.trans g5).free hy) ((s4.trans g5).free My))⟩⟩
abbrev mP:Stmt:=inClass (top 21) 0
abbrev CI:List Str:=["self"]
abbrev t8:List Str:=["self"]
theorem BH:aI CI t8 (au mP):=⟨rfl,rfl,rfl,by decide +kernel,rfl,by decide +kernel,by decide +kernel⟩
theorem BI {T:TC} (F:Dv K mg "Hold" T.hold "Hold.__init__" mP f fd) (X:Txt K T) (uU:Cn P w K mg base 1 "Bottom" T.bot ["self"] (DA T)):Cn P w K mg base 3 "Hold" T.hold t8 (DC T):=by
 refine F.ok BH (fun vs H Q E h=>?_) (fun cdv A outer s H vs Q E hr h=>?_) (fun _ _ _ _ _ _ us hl=>match us,hl with | [_],_=>rfl)
 · obtain ⟨p,dx,ρ,n,rfl,_⟩:=h.ex
   rfl
 obtain ⟨p,dx,ρ,n,rfl,hp,g,hρ,q⟩:=h.ex
 refine ⟨_,(ah (cK K (pv 0) jT)
  (ah (cK K (pv 0) jT)
  (ah (cK K (pv 0) (fK aj))
  (ah (cK K (pv 0) jT)
  (ah (cK K (pv 0) (Ga uU hr))
  (ah (cK K (pv 0) (fK aj))
  (aq (cK K (pv 0) (fK aj))))))))),?_⟩
 have M0:fu p H ρ H ρ [] :=⟨(fun _ m=>absurd m (by simp)),fun b o e _=>⟨e,rfl⟩,g,_,hp⟩
 intro pl hpl
 have M1:=(M0.new (o:= .dK []) (c:=(n,1,⟨#[]⟩)) hpl rfl)
 refine ⟨_,rfl,p,T.hold,dx,_,rfl,by rw [ao (ay hp hpl)];exact hp,X.cH,X.hpl,by show 0 < 1000;decide,?_⟩
 have M2:=M1.wr (u:= .ins T.hold dx (aH "places" (.ref pl) [])) rfl
 have hp2:upd (upd H pl (.dK [])) p (.ins T.hold dx (aH "places" (.ref pl) [])) p = _:=af
 generalize upd (upd H pl (.dK [])) p (.ins T.hold dx (aH "places" (.ref pl) [])) = H2 at *
 clear M0 M1
 intro ab hab
 have M3:=(M2.new (o:= .dK []) (c:=(n,2,⟨#[]⟩)) hab rfl)
 refine ⟨_,rfl,p,T.hold,dx,_,rfl,by rw [ao (ay hp2 hab)];exact hp2,X.cH,X.hab,by show 1 < 1000;decide,?_⟩
 have M4:=M3.wr (u:= .ins T.hold dx (aH "aboard" (.ref ab) (aH "places" (.ref pl) []))) rfl
 have OR:upd (upd H2 ab (.dK [])) p (.ins T.hold dx (aH "aboard" (.ref ab) (aH "places" (.ref pl) []))) p = _:=af
 generalize upd (upd H2 ab (.dK [])) p (.ins T.hold dx (aH "aboard" (.ref ab) (aH "places" (.ref pl) []))) = H4 at *
 clear M2 M3
 refine ⟨(by show 0≤sizeLine;decide),fun as has=>?_⟩
 have M5:=(M4.new (o:= .lst []) (c:=(n,3,⟨#[]⟩)) has rfl)
 refine ⟨_,rfl,p,T.hold,dx,_,rfl,by rw [ao (ay OR has)];exact OR,X.cH,X.has,by show 2 < 1000;decide,?_⟩
 have M6:=M5.wr (u:= .ins T.hold dx (aH "ashore" (.ref as) (aH "aboard" (.ref ab) (aH "places" (.ref pl) [])))) rfl
 have JL:upd (upd H4 as (.lst [])) p (.ins T.hold dx (aH "ashore" (.ref as) (aH "aboard" (.ref ab) (aH "places" (.ref pl) [])))) p = _:=af
 generalize upd (upd H4 as (.lst [])) p (.ins T.hold dx (aH "ashore" (.ref as) (aH "aboard" (.ref ab) (aH "places" (.ref pl) [])))) = H6 at *
 clear M4 M5
 intro nm hnm
 have M7:=(M6.new (o:= .dK []) (c:=(n,4,⟨#[]⟩)) hnm rfl)
 refine ⟨_,rfl,p,T.hold,dx,_,rfl,by rw [ao (ay JL hnm)];exact JL,X.cH,X.hnm,by show 3 < 1000;decide,?_⟩
 have M8:=M7.wr (u:= .ins T.hold dx (aH "names" (.ref nm) (aH "ashore" (.ref as) (aH "aboard" (.ref ab) (aH "places" (.ref pl) []))))) rfl
 have Mz:upd (upd H6 nm (.dK [])) p (.ins T.hold dx (aH "names" (.ref nm) (aH "ashore" (.ref as) (aH "aboard" (.ref ab) (aH "places" (.ref pl) []))))) p = _:=af
 generalize upd (upd H6 nm (.dK [])) p (.ins T.hold dx (aH "names" (.ref nm) (aH "ashore" (.ref as) (aH "aboard" (.ref ab) (aH "places" (.ref pl) []))))) = H8 at *
 clear M6 M7
 intro bt db vO hdb hne
 refine ⟨⟨bt,db,rfl,af,fun sp kn H9 lT hkn UI k9 MA MB MC=>⟨rfl,?_⟩⟩⟩
 have s9:aD H8 H9:=fun b o e=>k9 b o (by rw [ao (ay e vO),ao (ay e hdb)];exact e) (ay e vO)
 have fr:∀{c:Addr},upd (upd H8 db (.own bt)) bt (.ins T.bot db []) c = none→H8 c = none:=fun {c} e=>by
  have e1:c ≠ bt:=fun z=>by rw [z,af] at e;cases e
  have e2:c ≠ db:=fun z=>by rw [z,ao hne,af] at e;cases e
  rw [ao e1,ao e2] at e;exact e
 have MD:=fr lT
 have ME:=fr hkn
 have M9:=M8.same s9
 have OS:=M9.add (c:=(n,5,⟨#[]⟩)) MA rfl M8 vO (fun e he=>ay (M8.m e he).1 vO)
 have OT:=OS.add (c:=(n,8,⟨#[]⟩)) MB rfl M8 MD (fun e he=>by
  rcases List.mem_cons.mp he with rfl | he
  · exact eL MA MB (by intro z;cases z)
  · exact ay (M8.m e he).1 MD)
 have OU:=OT.add (c:=(n,9,⟨#[]⟩)) MC rfl M8 ME (fun e he=>by
  rcases List.mem_cons.mp he with rfl | he
  · exact eL MB MC (by intro z;cases z)
  rcases List.mem_cons.mp he with rfl | he
  · exact eL MA MC (by intro z;cases z)
  · exact ay (M8.m e he).1 ME)
 have Sn:=s9 _ _ Mz
 refine ⟨_,rfl,p,T.hold,dx,_,rfl,Sn,X.cH,X.vO,by show 4 < 1000;decide,?_⟩
 have OV:=OU.wr (u:= .ins T.hold dx (aH "bottom" (.ref bt) (aH "names" (.ref nm) (aH "ashore" (.ref as) (aH "aboard" (.ref ab) (aH "places" (.ref pl) [])))))) rfl
 have BG:upd H9 p (.ins T.hold dx (aH "bottom" (.ref bt) (aH "names" (.ref nm) (aH "ashore" (.ref as) (aH "aboard" (.ref ab) (aH "places" (.ref pl) [])))))) p = _:=af
 generalize upd H9 p (.ins T.hold dx (aH "bottom" (.ref bt) (aH "names" (.ref nm) (aH "ashore" (.ref as) (aH "aboard" (.ref ab) (aH "places" (.ref pl) [])))))) = MF at *
 clear M8 M9 OS OT OU
 refine ⟨(by show 0≤sizeLine;decide),fun cm tO=>?_⟩
 have OW:=(OV.new (o:= .lst []) (c:=(n,6,⟨#[]⟩)) tO rfl)
 refine ⟨_,rfl,p,T.hold,dx,_,rfl,by rw [ao (ay BG tO)];exact BG,X.cH,X.tO,by show 5 < 1000;decide,?_⟩
 have OX:=OW.wr (u:= .ins T.hold dx (aH "common" (.ref cm) (aH "bottom" (.ref bt) (aH "names" (.ref nm) (aH "ashore" (.ref as) (aH "aboard" (.ref ab) (aH "places" (.ref pl) []))))))) rfl
 have MG:upd (upd MF cm (.lst [])) p (.ins T.hold dx (aH "common" (.ref cm) (aH "bottom" (.ref bt) (aH "names" (.ref nm) (aH "ashore" (.ref as) (aH "aboard" (.ref ab) (aH "places" (.ref pl) []))))))) p = _:=af
 generalize upd (upd MF cm (.lst [])) p (.ins T.hold dx (aH "common" (.ref cm) (aH "bottom" (.ref bt) (aH "names" (.ref nm) (aH "ashore" (.ref as) (aH "aboard" (.ref ab) (aH "places" (.ref pl) []))))))) = OY at *
 clear OV OW
 refine ⟨(by show 0≤sizeLine;decide),fun pu AX=>?_⟩
 have OZ:=(OX.new (o:= .lst []) (c:=(n,7,⟨#[]⟩)) AX rfl)
 refine ⟨_,rfl,p,T.hold,dx,_,rfl,by rw [ao (ay MG AX)];exact MG,X.cH,X.AX,by show 6 < 1000;decide,?_⟩
 have MH:=OZ.wr (u:= .ins T.hold dx (aH "purses" (.ref pu) (aH "common" (.ref cm) (aH "bottom" (.ref bt) (aH "names" (.ref nm) (aH "ashore" (.ref as) (aH "aboard" (.ref ab) (aH "places" (.ref pl) [])))))))) rfl
 have MI:upd (upd OY pu (.lst [])) p (.ins T.hold dx (aH "purses" (.ref pu) (aH "common" (.ref cm) (aH "bottom" (.ref bt) (aH "names" (.ref nm) (aH "ashore" (.ref as) (aH "aboard" (.ref ab) (aH "places" (.ref pl) [])))))))) p = _:=af
 generalize upd (upd OY pu (.lst [])) p (.ins T.hold dx (aH "purses" (.ref pu) (aH "common" (.ref cm) (aH "bottom" (.ref bt) (aH "names" (.ref nm) (aH "ashore" (.ref as) (aH "aboard" (.ref ab) (aH "places" (.ref pl) [])))))))) = MJ at *
 clear OX OZ
 have m:=MH.m
 have rF:∀{a:Addr} {o:HO} {c:jL} {ρ2:aW},(MJ a = some o∧ρ2 a = some c∧a ≠ p)→MJ a = some o∧bC ρ2 p (n,0,⟨#[]⟩) a = some c:=fun h=>⟨h.1,by rw [bu h.2.2];exact h.2.1⟩
 have a1:=rF (m _ (.head _))
 have a2:=rF (m _ (.tail _ (.head _)))
 have a3:=rF (m _ (.tail _ (.tail _ (.head _))))
 have a4:=rF (m _ (.tail _ (.tail _ (.tail _ (.head _)))))
 have a5:=rF (m _ (.tail _ (.tail _ (.tail _ (.tail _ (.head _))))))
 have a6:=rF (m _ (.tail _ (.tail _ (.tail _ (.tail _ (.tail _ (.head _)))))))
 have a7:=rF (m _ (.tail _ (.tail _ (.tail _ (.tail _ (.tail _ (.tail _ (.head _))))))))
 have a8:=rF (m _ (.tail _ (.tail _ (.tail _ (.tail _ (.tail _ (.tail _ (.tail _ (.head _)))))))))
 have a9:=rF (m _ (.tail _ (.tail _ (.tail _ (.tail _ (.tail _ (.tail _ (.tail _ (.tail _ (.head _))))))))))
 refine q (bC _ p (n,0,⟨#[]⟩)) ⟨p,dx,pl,ab,as,nm,bt,db,cm,pu,sp,kn,[]⟩ MJ rfl ⟨MH.g.color MI rfl,⟨MI,cg,a9.1,a9.2,a8.1,a8.2,⟨[],a7.1, .nil⟩,a7.2,a6.1,a6.2,a5.1,a5.2,a2.1,a2.2,a1.1,a1.2,a4.1,a4.2,⟨[],a3.1,(fun x hx=>absurd hx (by simp)),Nat.le_refl _,List.nodup_nil⟩,a3.2,rfl,fun i x y ex=>by simp [hs0] at ex⟩,R6⟩ (fun b o e hb=>?_)
 obtain ⟨x,y⟩:=MH.k b o e hb
 exact ⟨x,by rw [bu hb];exact y⟩
abbrev jA:Stmt:=top 23
abbrev xT:List Str:=["amount"]
abbrev oX:List Str:=["amount"]
theorem wD:aI xT oX (au jA):=⟨rfl,rfl,rfl,by decide +kernel,rfl,by decide +kernel,by decide +kernel⟩
theorem wF (F:At K mg "check_amount" jA f fd):Dn P w K mg base 1 "check_amount" oX JF:=by
 refine F.ok wD (fun vs H Q E h=>?_) (fun cdv A outer s H vs Q E hr h=>?_) (fun _ _ _ _ _ _ us hl=>match us,hl with | [_],_=>rfl)
 · obtain ⟨a,rfl,_⟩:=h.ex
   rfl
 obtain ⟨a,rfl,h1,q⟩:=h.ex
 refine ⟨_,(aq (bM (bf Ed (pv 0) ak (br _)) (aq dX) aQ)),?_⟩
 exact ⟨_,rfl,_,_,rfl,rfl,_,rfl,dY (fun c=>absurd (of_decide_eq_true c) (by omega)) fun _=>q⟩
abbrev kN:Stmt:=top 24
abbrev BJ:List Str:=["most","amount"]
abbrev rH:List Str:=["most","amount"]
theorem zC:aI BJ rH (au kN):=⟨rfl,rfl,rfl,by decide +kernel,rfl,by decide +kernel,by decide +kernel⟩
theorem zH (F:At K mg "check_loss" kN f fd) (jY:Dn P w K mg base 1 "check_amount" ["amount"] JF):Dn P w K mg base 2 "check_loss" rH JG:=by
 refine F.ok zC (fun vs H Q E h=>?_) (fun cdv A outer s H vs Q E hr h=>?_) (fun _ _ _ _ _ _ us hl=>match us,hl with | [_,_],_=>rfl)
 · obtain ⟨m,a,rfl,_⟩:=h.ex
   rfl
 obtain ⟨m,a,rfl,h1,h2,q⟩:=h.ex
 refine ⟨_,(ah (bZ (a_ jY hr (aa (pv 1) aj)))
  (aq (bM (bf gD (pv 1) (pv 0) (br _)) (aq dX) aQ))),?_⟩
 exact ⟨_,rfl,⟨⟨a,rfl,h1,_,rfl,_,rfl,_,_,rfl,rfl,_,rfl,dY (fun c=>absurd (of_decide_eq_true c) (by omega)) fun _=>q⟩⟩⟩
abbrev kO:Stmt:=top 22
abbrev BK:List Str:=["rows","amounts","name","amount"]
abbrev rJ:List Str:=["rows"]
theorem iI:aI BK rJ (au kO):=⟨rfl,rfl,rfl,by decide +kernel,rfl,by decide +kernel,by decide +kernel⟩
theorem zJ (F:At K mg "amounts_of" kO f fd) (aZ:mg "len" = none):Dn P w K mg base 1 "amounts_of" rJ (Gn K):=by
 refine F.ok iI (fun vs H Q E h=>?_) (fun cdv A outer s H vs Q E hr h=>?_) (fun _ _ _ _ _ _ us hl=>match us,hl with | [_],_=>rfl)
 · obtain ⟨l,us,rs,rfl,_⟩:=h.ex
   rfl
 obtain ⟨l,us,rs,rfl,hl,hR,nd,hne,hle,q⟩:=h.ex
 refine ⟨_,(ah (aF (i:=1) iI.nd rfl (Or.inl rfl) jT)
  (ah (cC PassesOwn.never rfl (cQ K (pv 0)) (eZ K (n:=2) rfl (bG (aG (i:=2) iI.nd rfl (Or.inl rfl)) (bG (aG (i:=3) iI.nd rfl (Or.inl rfl)) eX))) (ah (bM (oA (Az (bH hr) (pv 2) (pv 1))) (aq dX) aQ)
  (aq (jS (bH hr) (pv 1) (pv 2) (pv 3) rfl))))
  (ah (bM (bf lD (aE qE (by rfl) aZ PySem.boot_len (aa (pv 1) aj)) ak (br _)) (aq dX) aQ)
  (aq (aN (pv 1)))))),?_⟩
 intro d hd
 have g0:=aA hd (.dK [])
 have hd0:upd H d (.dK []) d = some (.dK (dR (rs.take 0))):=af
 generalize upd H d (.dK []) = H0 at *
 have GU:=hR.length
 refine ⟨_,rfl,l,rfl,⟨us,g0.seq hl⟩,?_⟩
 refine iK (K:=K) (xs:=us) (fun i σ H'=>aD H H'∧H' d = some (.dK (dR (rs.take i)))∧∃s2 s3,σ = [some (.ref l),some (.ref d),s2,s3]) ⟨g0,hd0,_,_,rfl⟩ (fun i σ H' _ hp=>hp.1.seq hl) ?_ ?_
 · rintro i x σ H' hx ⟨g,hd',s2,s3,rfl⟩
   obtain ⟨a,r,rfl,er,ha⟩:=hR.get hx
   have hnot:r.1 ∉ (rs.take i).map (·.1):=by
    rw [List.map_take]
    exact fW nd (by rw [List.getElem?_map,er];rfl)
   have hlt:(dR (rs.take i)).length < sizeLine:=by rw [pN,List.length_take];exact cO (by omega)
   refine ⟨a,_,rfl,cA.of (g _ _ ha),rfl,_,_,rfl,_,_,rfl,rfl,?_⟩
   refine ⟨_,rfl,_,rfl,d,_,rfl,b9.k (k:=Sum.inr r.1) hd',_,rfl,?_⟩
   rw [yz hnot]
   refine bN ?_
   refine ⟨_,rfl,_,rfl,_,rfl,d,_,rfl,lU.k (k:=Sum.inr r.1) hd' hlt,g.bI hd _,?_,_,_,rfl⟩
   rw [af,iL _ (yz hnot),take_snoc er]
   unfold dR
   rw [List.map_append]
   rfl
 rintro σ H' ⟨g,hd',s2,s3,rfl⟩
 rw [GU,List.take_length] at hd'
 refine ⟨_,rfl,d,_,rfl,hd',rfl,_,rfl,?_⟩
 rw [pN]
 have hpos:0 < rs.length:=List.length_pos_iff.mpr hne
 rw [decide_eq_false (fun e=>by have:=V.int.inj e;omega)]
 exact bN ⟨_,rfl,q d H' g hd hd'⟩
abbrev iS:Stmt:=top 5
abbrev wG:List Str:=["step","tops","top"]
abbrev nI:List Str:=["step","tops"]
theorem iT:aI wG nI (au iS):=⟨rfl,rfl,rfl,by decide +kernel,rfl,by decide +kernel,by decide +kernel⟩
theorem uV (F:At K mg "factor_of_all" iS f fd) (dW:Dn P w K mg base 1 "common_factor" ["one","other"] HX):Dn P w K mg base 2 "factor_of_all" nI (Gp K):=by
 refine F.ok iT (fun vs H Q E h=>?_) (fun cdv A outer s H vs Q E hr h=>?_) (fun _ _ _ _ _ _ us hl=>match us,hl with | [_,_],_=>rfl)
 · obtain ⟨s,l,ts,rfl,_⟩:=h.ex
   rfl
 obtain ⟨s,l,ts,rfl,hl,h0,h1,q⟩:=h.ex
 refine ⟨_,(ah (cC PassesOwn.never rfl (cQ K (pv 1)) (aG (i:=2) iT.nd rfl (Or.inl rfl)) (aq (aF (i:=0) iT.nd rfl (Or.inl rfl) (a_ dW hr (aa (pv 2) (aa (pv 0) aj))))))
  (aq (aN (pv 0)))),?_⟩
 refine ⟨_,rfl,l,rfl,⟨_,hl⟩,?_⟩
 refine iK (K:=K) (xs:=ts.map V.int) (fun i σ H'=>H' = H∧0≤jq s (ts.take i)∧∃s2,σ = [some (.int (jq s (ts.take i))),some (.ref l),s2]) ⟨rfl,h0,_,rfl⟩ (fun i σ H' _ hp=>by rw [hp.1];exact hl) ?_ ?_
 · rintro i x σ H' hx ⟨rfl,hf,s2,rfl⟩
   obtain ⟨t,rfl,et⟩:=dG hx
   have e1:jq s (ts.take (i + 1)) = Jm.cf t (jq s (ts.take i)):=by
    unfold jq
    rw [take_snoc et,List.foldl_append]
    rfl
   refine ⟨_,rfl,_,rfl,t,_,rfl,h1 t (List.mem_of_getElem? et),hf,rfl,?_,some (.int t),?_⟩
   · rw [e1];unfold Jm.cf;omega
   · rw [e1];rfl
 rintro σ H' ⟨rfl,hf,s2,rfl⟩
 rw [List.length_map,List.take_length]
 exact ⟨_,rfl,q⟩
abbrev jZ:Stmt:=inClass (top 4) 1
abbrev zK:List Str:=["self","step"]
abbrev qf:List Str:=["self","step"]
theorem xU:aI zK qf (au jZ):=⟨rfl,rfl,rfl,by decide +kernel,rfl,by decide +kernel,by decide +kernel⟩
theorem xV {T:TC} (F:gJ K T.bot "grow" "Bottom.grow" jZ f fd) (X:Txt K T):Mn P w K mg base 1 T.bot "grow" qf (Gq T):=by
 refine F.ok xU (fun vs H Q E h=>?_) (fun cdv A outer s H vs Q E hr h=>?_) (fun _ _ _ _ _ _ us hl=>match us,hl with | [_,_],_=>rfl)
 · obtain ⟨n,ρ,A,st,s,rfl,_⟩:=h.ex
   rfl
 obtain ⟨n,ρ,A,st,s,rfl,g,h,hl,z1,z2,q⟩:=h.ex
 refine ⟨_,(aq (gI (bf gD (pv 1) ak (br _)) (ah (bZ (lF PySem.F.plainAttrs_list PySem.F.slot_list_append PySem.F.type_list_append dP (aL K (pv 0)) (aa (pv 1) aj)))
  (ah (vM K (pv 0) (pv 1) KI)
  (aq (cK K (pv 0) jT)))) aQ)),?_⟩
 refine ⟨fun σ' H'=>Q .bE H',⟨_,rfl,_,_,rfl,rfl,_,rfl,dY (fun c=>?_) (fun c=>?_)⟩,fun _ _ z=>z⟩
 · have c':1 < s:=of_decide_eq_true c
   refine ⟨_,rfl,A.bt,T.bot,A.db,_,_,rfl,h.i_,X.cB,X.Mm,rfl, .inl ⟨rfl,_,av.of h.lz⟩,_,rfl,A.sp,_,_,rfl,rfl,h.lz,by rw [List.length_map];exact cO hl,?_⟩
   rw [show st.stp.map V.int ++ [V.int s] = (st.stp ++ [s]).map V.int from by rw [List.map_append];rfl]
   have h1:=h.Mh g (st.stp ++ [s])
   have g1:=g.wr (a:=A.sp) (o:= .lst ((st.stp ++ [s]).map V.int)) rfl
   have F1:Fr n ρ H ρ (upd H A.sp (.lst ((st.stp ++ [s]).map V.int))):=Fr.write h.fR
   generalize upd H A.sp (.lst ((st.stp ++ [s]).map V.int)) = H1 at *
   refine ⟨_,rfl,A.bt,T.bot,A.db,_,_,rfl,h1.i_,X.cB,X.Jz,rfl,_,rfl,_,_,rfl,rfl,eY z1 z2,A.db,_,h1.i_,by show 3 < 1000;decide,?_⟩
   intro kn hkn
   have nb:kn ≠ A.bt:=fun e=>by rw [e,af] at hkn;cases hkn
   have uW:H1 kn = none:=by rw [ao nb] at hkn;exact hkn
   have fT:ρ kn = none:=g1.none uW
   refine ⟨_,rfl,A.bt,T.bot,A.db,_,rfl,by rw [ao (Ne.symm nb)];exact af,X.cB,X.Gf,by show 3 < 1000;decide,?_⟩
   have eH:upd (upd (upd H1 A.bt (.ins T.bot A.db (aH "product" (.int (st.prod * s)) (pH A.sp st.prod A.kn)))) kn (.dK [])) A.bt (.ins T.bot A.db (aH "known" (.ref kn) (aH "product" (.int (st.prod * s)) (pH A.sp st.prod A.kn)))) = upd (upd H1 kn (.dK [])) A.bt (.ins T.bot A.db (pH A.sp (st.prod * s) kn)):=by
    rw [gh (Ne.symm nb),lM]
    rfl
   have k2:Kp n ρ (bC ρ kn (n,9,⟨#[]⟩)) H1 (upd H1 kn (.dK [])) (fun _=>true):=⟨(aA uW _).tups,fun b t x o _ c e=>⟨aA uW _ _ _ e,by rw [bu (ay e uW)];exact c⟩⟩
   have h2:=h1.same k2
   have g2:Gh (bC ρ kn (n,9,⟨#[]⟩)) (upd H1 kn (.dK [])):=(g1.alloc uW).color af rfl
   have F2:Fr n ρ H1 (bC ρ kn (n,9,⟨#[]⟩)) (upd H1 kn (.dK [])):=Fr.color uW (aA uW _)
   have h3:=h2.Ml g2 (st.prod * s) kn af cg
   have es:dh st s = { { st with stp:=st.stp ++ [s] } with prod:=st.prod * s,kn:=0 }:=by
    unfold dh
    rw [if_pos c']
   rw [es] at q
   show Q .bE _
   refine (show _ = _ from eH) ▸ ?_
   exact q _ _ _ (g2.wr rfl) h3 rfl (F1.trans (F2.trans (Fr.write h2.fP)))
 · have c':¬ 1 < s:=of_decide_eq_false (Bool.eq_false_iff.mpr c)
   have es:dh st s = st:=by unfold dh;rw [if_neg c']
   rw [es] at q
   exact q ρ A H g h rfl Fr.refl
abbrev iU:Stmt:=inClass (top 21) 27
abbrev wH:List Str:=["self","amounts","lost","sums","name","amount","part","many"]
abbrev nJ:List Str:=["self","amounts"]
theorem cS:aI wH nJ (au iU):=⟨rfl,rfl,rfl,by decide +kernel,rfl,by decide +kernel,by decide +kernel⟩
theorem uX {T:TC} (F:gJ K T.hold "given_up" "Hold.given_up" iU f fd) (X:Txt K T) (dU:mg "sum" = none) (fH:mg "zip" = none):Mn P w K mg base 1 T.hold "given_up" nJ (DN T):=by
 refine F.ok cS (fun vs H Q E h=>?_) (fun cdv A outer s H vs Q E hr h=>?_) (fun _ _ _ _ _ _ us hl=>match us,hl with | [_,_],_=>rfl)
 · obtain ⟨n,ρ,A,st,d,rs,rfl,_⟩:=h.ex
   rfl
 obtain ⟨n,ρ,A,st,d,rs,rfl,h,wf,hd,cd,hle,uY,q⟩:=h.ex
 refine ⟨_,(ah (aF (i:=2) cS.nd rfl (Or.inr rfl) (aE (yv rfl) (by rfl) dU PyProof.Rows.boot_sum (aa (xB (pv 1)) aj)))
  (ah (lN (i:=3) ["common","lost"] [none,some 2] cS.nd rfl rfl rfl (cQ K (aL K (pv 0))) (fun _ _ _ _=>(aG (i:=0) (show List.Nodup (["common","lost"] :List Str) from by decide +kernel) rfl (Or.inl rfl))) (fun _ _ _ _=>(aB fL (pv 1) (pv 0))) rfl (by rfl) (by rfl))
  (ah (oM (cC PassesOwn.never rfl (uD (pv 1)) (eZ K (n:=2) rfl (bG (aG (i:=4) cS.nd rfl (Or.inl rfl)) (bG (aG (i:=5) cS.nd rfl (Or.inl rfl)) eX))) (ah (aF (i:=6) cS.nd rfl (Or.inl rfl) (bL (bH hr) (aL K (pv 0)) (pv 4) (fun _ _=>rfl)))
  (ah (aF (i:=7) cS.nd rfl (Or.inr rfl) (aB fL (pv 5) (aL K (pv 6))))
  (aq (lN (i:=3) ["old","own","many"] [none,none,some 7] cS.nd rfl rfl rfl (lO K (by rfl) fH (aa (pv 3) (aa (aL K (pv 6)) aj))) (fun _ _ _ _=>(eZ K (n:=2) rfl (bG (aG (i:=0) (show List.Nodup (["old","own","many"] :List Str) from by decide +kernel) rfl (Or.inl rfl)) (bG (aG (i:=1) (show List.Nodup (["old","own","many"] :List Str) from by decide +kernel) rfl (Or.inl rfl)) eX)))) (fun _ _ _ _=>(aB bP (pv 0) (aB fL (pv 2) (pv 1)))) rfl (by rfl) (by rfl)))))))
  (aq (aN (pv 3)))))),?_⟩
 have hcl:st.bh.length≤100:=by rw [wf.fU];exact wf.mh
 have zl:Jm.Sz 1100 (aC rs):=by
  have:=Jm.FA (n:=60) (ws:=rs.map (·.2)) (fun m hm=>by obtain ⟨r,hr,rfl⟩:=List.mem_map.mp hm;exact (uY r hr).1)
  exact this.mono (by rw [List.length_map];omega)
 have zc:∀c∈st.bh,Jm.Sz 8000 c:=fun c hc=>Jm.Sz.ji (by have:=wf.mj c hc;have:=wf.fq;omega) (wf.mj c hc).2 wf.big
 refine ⟨_,rfl,d,_,rfl, .inl hd,fun v hv=>⟨v,d,_,rs.map (·.2),rfl,af, .inl (by rw [ao (ay hd hv)];exact hd),by unfold dR;rw [List.map_map,List.map_map];rfl,?_⟩⟩
 have g1:=aA hv (gF v d)
 have hd1:=g1 _ _ hd
 have h1:=h.mono g1
 generalize upd H v (gF v d) = H1 at *
 refine ⟨_,rfl,A.a,T.hold,A.dx,_,_,rfl,h1.oa,X.cH,X.tO,rfl,A.cm,rfl,⟨_,av.of h1.fQ⟩,fun l0 ia=>?_⟩
 refine fM (J:=nj K A.cm) (n:=(st.bh.map V.int).length) 0 (fun i o H'=>aD H1 H'∧o = ((st.bh.take i).map fun c=>aC rs * c).map V.int) (by rw [List.length_map];omega) ⟨aA ia _,rfl⟩ (fun i o H' hi _ hp=>⟨_,_,av.of (hp.1 _ _ h1.fQ),List.getElem?_eq_getElem hi⟩) (fun o H' _ hp=>⟨_,av.of (hp.1 _ _ h1.fQ),Nat.le_refl _⟩) ?_ ?_
 · rintro i y o H2 H3 hi c7 ha ⟨g,e⟩ ⟨rfl,hy⟩
   obtain ⟨c,rfl,ec⟩:=dG (hy _ (av.of (g _ _ h1.fQ)))
   refine ⟨_,rfl,_,rfl,_,_,rfl,rfl,eY zl (zc c (List.mem_of_getElem? ec)),ha,g.bI ia _,?_⟩
   subst e
   rw [take_snoc ec,List.map_append,List.map_append]
   rfl
 rintro o H2 c7 ha ⟨g2,e⟩
 rw [List.length_map,List.take_length] at e
 subst e
 have GV:=g1.trans g2
 have hd2:=g2 _ _ hd1
 have h2:=h1.mono g2
 have hn0:H l0 = none:=g1.free ia
 refine ⟨d,_,hd2,fun ob=>⟨_,rfl,d,ob,_,rfl,af,?_⟩⟩
 have al:=pN rs
 refine l7 (n:=(dR rs).length) (fun i σ H'=>aD (upd H2 d (.cW ob (.dK (dR rs)))) H'∧∃l s4 s5 s6 s7,σ = [some (.ref A.a),some (.ref d),some (.int (aC rs)),some (.ref l),s4,s5,s6,s7]∧H l = none∧H' l = some (.lst (((rs.take i).foldl (fD st) (st.bh.map fun c=>aC rs * c)).map V.int))∧((rs.take i).foldl (fD st) (st.bh.map fun c=>aC rs * c)).length = st.bh.length)
  ⟨aD.refl _,l0,_,_,_,_,rfl,hn0,cR hd2 ha (fun k z=>by cases z),by rw [List.take_zero,List.foldl_nil,List.length_map]⟩ (fun i σ H' hi hp=>⟨hp.1 _ _ af,hi⟩) (fun σ H' hp=>⟨hp.1 _ _ af,Nat.le_refl _⟩) ?_ ?_
 · rintro i x σ H3 H4 hi ⟨g,l,s4,s5,s6,s7,rfl,vF,hl,hsl⟩ ⟨pp,kv,hpp,hkv,rfl,rfl⟩
   unfold dR at hkv
   rw [List.getElem?_map] at hkv
   obtain ⟨r,er,rfl⟩:=Option.map_eq_some_iff.mp hkv
   have hrm:=List.mem_of_getElem? er
   obtain ⟨zr,p,gO,wI⟩:=uY r hrm
   obtain ⟨ip,qg,GW⟩:=List.getElem_of_mem gO
   have ep:st.ai[ip]? = some p:=by rw [List.getElem?_eq_getElem qg,GW]
   have epg:dH st r.1 = p:=by rw [← wI];exact DM wf.jn ep
   have g4:=aA hpp (.tup [.str r.1, .int r.2])
   have gg:=g.trans g4
   have MK:∀{b:Addr} {u:HO},H2 b = some u→(∀k,u ≠ .dK k)→upd H3 pp (.tup [.str r.1, .int r.2]) b = some u:=fun e k=>gg _ _ (cR hd2 e k)
   have nab:A.ab ≠ d:=(tN cd h.dN).symm
   obtain ⟨qq,eq,k1,k2,_,_⟩:=h2.find ep
   have hab:upd H3 pp (.tup [.str r.1, .int r.2]) A.ab = some (.dK (bJ st.ai A.qs)):=gg _ _ (by rw [ao nab];exact h2.cI)
   have hv:=oR wf.jn ep eq
   have hq1:=MK k1 (fun k z=>by cases z)
   have hq2:=MK k2 (fun k z=>by cases z)
   have BL:upd H3 pp (.tup [.str r.1, .int r.2]) pp = some (.tup [.str r.1, .int r.2]):=af
   have yU:=g4 _ _ hl
   have hno:∀{b:Addr},upd H3 pp (.tup [.str r.1, .int r.2]) b = none→H b = none:=fun {b} e=>by
    have e1:=iN hd2 (gg.free e)
    exact GV.free e1
   have GX:upd H3 pp (.tup [.str r.1, .int r.2]) A.a = some (.ins T.hold A.dx (ig A)):=MK h2.oa (fun k z=>by cases z)
   show uu K 2 _ _ _ (upd H3 pp (.tup [.str r.1, .int r.2])) _
   generalize upd H3 pp (.tup [.str r.1, .int r.2]) = H4 at *
   refine ⟨pp,_,rfl,cA.of BL,rfl,_,_,rfl,_,_,rfl,rfl,?_⟩
   refine ⟨_,rfl,A.a,T.hold,A.dx,_,_,rfl,GX,X.cH,X.hab,rfl,_,rfl,A.ab,_,rfl,by rw [← wI];exact hv ▸ b9.k (k:=Sum.inr p.nm) hab,?_⟩
   have zs:Jm.Sz 8000 p.sc:=Jm.Sz.ji (by have:=wf.qa p gO;have:=wf.fq;omega) (wf.qa p gO).2 wf.big
   refine ⟨_,rfl,_,rfl,qq.1,T.part,qq.2.1,_,_,rfl,hq1,X.cP,X.Ge,rfl,_,_,rfl,rfl,eY zr zs,?_⟩
   have Mw:p.row.length = st.bh.length:=by rw [wf.rows p gO,wf.fU]
   generalize eS:(rs.take i).foldl (fD st) (st.bh.map fun c=>aC rs * c) = S at *
   refine ⟨_,rfl,_,rfl,qq.1,T.part,qq.2.1,_,_,rfl,hq1,X.cP,X.Jy,rfl,_,_,_,_,_,_,rfl, .lst (av.of yU), .lst (av.of hq2),fun acc hacc=>?_⟩
   refine qL (K:=K) (n:=S.length) [0,1] (fun j out H5=>aD H4 H5∧out = (List.zipWith (fun old own=>old + (r.2 * p.sc) * own) (S.take j) (p.row.take j)).map V.int) (by decide) (by omega) ⟨aA hacc _,rfl⟩ (fun j out H5 hj _ hp=>⟨av.of (hp.1 _ _ yU),av.of (hp.1 _ _ hq2),by rw [List.length_map];exact hj,by rw [List.length_map];omega⟩)
    (fun out H5 _ hp=>⟨av.of (hp.1 _ _ yU),av.of (hp.1 _ _ hq2), .inl (by rw [List.length_map];exact Nat.le_refl _)⟩) ?_ ?_
   · rintro j x out H5 H6 hj xW ha2 ⟨g5,e5⟩ ⟨p2,x1,y1,hp2,rfl,rfl,e1,e2⟩
     obtain ⟨t,rfl,et⟩:=dG e1
     obtain ⟨c,rfl,ec⟩:=dG e2
     have g6:=aA hp2 (.tup [.int t, .int c])
     have zw:Jm.Sz 8000 c:=Jm.Sz.ji (wf.nS p gO c (List.mem_of_getElem? ec)).1 (wf.nS p gO c (List.mem_of_getElem? ec)).2 wf.big
     refine ⟨p2,_,rfl,cA.of af,rfl,_,rfl,_,rfl,_,rfl,_,_,rfl,rfl,eY (zr.mul zs) zw,_,_,rfl,rfl,g6 _ _ ha2,(g5.trans g6).bI hacc _,?_⟩
     rw [ja _ et ec,e5,List.map_append]
     rfl
   rintro out H5 xW ha2 ⟨g5,e5⟩
   rw [List.take_length,hsl,← Mw,List.take_length] at e5
   have eN:(rs.take (i + 1)).foldl (fD st) (st.bh.map fun c=>aC rs * c) = List.zipWith (fun old own=>old + (r.2 * p.sc) * own) S p.row:=by
    rw [take_snoc er,List.foldl_append,eS]
    show fD st S r = _
    unfold fD
    rw [epg]
   refine ⟨gg.trans g5,acc,_,_,_,_,rfl,hno hacc,?_,?_⟩
   · rw [eN,ha2,e5]
   · rw [eN,List.length_zipWith];omega
 rintro σ H3 ⟨g,l,s4,s5,s6,s7,rfl,vF,hl,hsl⟩
 rw [al,List.take_length] at hl
 refine ⟨g _ _ af,_,rfl,?_⟩
 have nl:l ≠ d:=fun e=>by rw [e,hd] at vF;cases vF
 exact q l _ (GV.trans (mw hd2 g)) vF (by rw [ao nl];exact hl)
abbrev j0:Stmt:=inClass (top 21) 23
abbrev zL:List Str:=["self","name","amount","part"]
abbrev qh:List Str:=["self","name","amount"]
theorem oY:aI zL qh (au j0):=⟨rfl,rfl,rfl,by decide +kernel,rfl,by decide +kernel,by decide +kernel⟩
theorem xX {T:TC} (F:gJ K T.hold "lessen" "Hold.lessen" j0 f fd) (X:Txt K T):Mn P w K mg base 1 T.hold "lessen" qh (Gr T):=by
 refine F.ok oY (fun vs H Q E h=>?_) (fun cdv A outer s H vs Q E hr h=>?_) (fun _ _ _ _ _ _ us hl=>match us,hl with | [_,_,_],_=>rfl)
 · obtain ⟨n,ρ,A,st,r,rfl,_⟩:=h.ex
   rfl
 obtain ⟨n,ρ,A,st,r,rfl,hh,⟨p,gO,wI,hle⟩,wf',q⟩:=h.ex
 have h:=hh.h
 have nd:=hh.wf.jn
 refine ⟨_,(ah (aF (i:=3) oY.nd rfl (Or.inl rfl) (bL (bH hr) (aL K (pv 0)) (pv 1) (fun _ _=>rfl)))
  (ah (vM K (pv 3) (pv 2) Lx)
  (aq (gI (bf lD (aL K (pv 3)) ak (br _)) (aq (Kn (aL K (pv 0)) (pv 1))) aQ)))),?_⟩
 obtain ⟨ip,qg,GW⟩:=List.getElem_of_mem gO
 have ep:st.ai[ip]? = some p:=by rw [List.getElem?_eq_getElem qg,GW]
 obtain ⟨qq,eq,k1,k2,k3,k4⟩:=h.find ep
 have hv:=oR nd ep eq
 refine ⟨_,rfl,A.a,T.hold,A.dx,_,_,rfl,h.oa,X.cH,X.hab,rfl,_,rfl,A.ab,_,rfl,by rw [← wI];exact hv ▸ b9.k (k:=Sum.inr p.nm) h.cI,?_⟩
 refine ⟨_,rfl,qq.1,T.part,qq.2.1,_,_,rfl,k1,X.cP,X.Dy,rfl,_,rfl,_,_,rfl,rfl,qq.2.1,_,k1,by show 6 < 1000;decide,?_⟩
 have h1:=h.qO (p1:={ p with wo:=p.wo - r.2 }) hh.g ep eq rfl rfl nd
 have g1:=hh.g.wr (a:=qq.1) (o:= .ins T.part qq.2.1 (gK { p with wo:=p.wo - r.2 } qq.2.2)) rfl
 have F1:Fr n ρ H ρ (upd H qq.1 (.ins T.part qq.2.1 (gK { p with wo:=p.wo - r.2 } qq.2.2))):=Fr.write k3
 show LW _ _ _ _ _ (upd H qq.1 (.ins T.part qq.2.1 (gK { p with wo:=p.wo - r.2 } qq.2.2)))
 have DX:upd H qq.1 (.ins T.part qq.2.1 (gK { p with wo:=p.wo - r.2 } qq.2.2)) qq.1 = some (.ins T.part qq.2.1 (gK { p with wo:=p.wo - r.2 } qq.2.2)):=af
 generalize upd H qq.1 (.ins T.part qq.2.1 (gK { p with wo:=p.wo - r.2 } qq.2.2)) = H1 at *
 have el:di st r = { st with ai:=if p.wo - r.2 = 0 then st.ai.eraseIdx ip else st.ai.set ip { p with wo:=p.wo - r.2 } }:=by
  unfold di
  rw [← wI,Bj nd (fun x hx=>by have:=hh.wf.vP x hx;omega) ep]
 rw [el] at wf' q
 refine ⟨fun σ' H'=>Q .bE H',?_,fun _ _ z=>z⟩
 refine ⟨_,rfl,qq.1,T.part,qq.2.1,_,_,rfl,DX,X.cP,X.Dy,rfl,rfl,_,rfl,dY (fun c=>?_) (fun c=>?_)⟩
 · have c':p.wo - r.2 = 0:=V.int.inj (of_decide_eq_true c)
   rw [if_pos c'] at wf' q
   have O0:((st.ai.set ip { p with wo:=p.wo - r.2 }).map (fun x:Pt=>x.nm)).Nodup:=by
    rw [List.map_set,show ({ p with wo:=p.wo - r.2 }:Pt).nm = p.nm from rfl,nv (by rw [List.getElem?_map,ep];rfl)]
    exact nd
   have O1:(st.ai.set ip { p with wo:=p.wo - r.2 })[ip]? = some { p with wo:=p.wo - r.2 }:=List.getElem?_set_self qg
   have dk:=Bh O0 h1.ql O1
   rw [List.eraseIdx_set_eq] at dk
   have hv1:=oR O0 O1 eq
   refine ⟨_,rfl,A.a,T.hold,A.dx,_,_,rfl,h1.oa,X.cH,X.hab,rfl,_,rfl,A.ab,_,Sum.inr r.1,rfl,h1.cI,rfl,?_,?_⟩
   · rw [← wI]
     show (cF (bJ (st.ai.set ip { p with wo:=p.wo - r.2 }) A.qs) (Sum.inr p.nm)).isSome = true
     rw [show cF (bJ (st.ai.set ip { p with wo:=p.wo - r.2 }) A.qs) (Sum.inr p.nm) = _ from hv1]
     rfl
   · show Q .bE (upd H1 A.ab (.dK (iF (bJ (st.ai.set ip { p with wo:=p.wo - r.2 }) A.qs) (Sum.inr r.1))))
     rw [← wI,show iF (bJ (st.ai.set ip { p with wo:=p.wo - r.2 }) A.qs) (Sum.inr p.nm) = _ from dk]
     have hi2:ip < A.qs.length:=by rw [h.ql];exact qg
     have h2:=h1.Gd g1 (st.ai.eraseIdx ip) (A.qs.eraseIdx ip) (by rw [List.length_eraseIdx_of_lt qg,List.length_eraseIdx_of_lt hi2,h.ql]) (fun j x y ex ey=>by
      rw [← List.eraseIdx_set_eq (l:=st.ai) (i:=ip) (a:={ p with wo:=p.wo - r.2 })] at ex
      obtain ⟨k,a1,a2⟩:=Bk ex ey
      exact h1.opt k x y a1 a2)
     exact q ρ _ _ ⟨g1.wr rfl,h2,wf'⟩ rfl (F1.trans (Fr.write h1.dN))
 · have c':¬ p.wo - r.2 = 0:=fun e=>c (decide_eq_true (by rw [e]))
   rw [if_neg c'] at wf' q
   exact q ρ A H1 ⟨g1,h1,wf'⟩ rfl F1
abbrev kP:Stmt:=inClass (top 21) 28
abbrev BN:List Str:=["self","kept","whole","added","scales","common","shared","part","scale"]
abbrev rK:List Str:=["self","kept","whole","added"]
theorem ff:aI BN rK (au kP):=⟨rfl,rfl,rfl,by decide +kernel,rfl,by decide +kernel,by decide +kernel⟩
theorem zM {T:TC} (F:gJ K T.hold "blend" "Hold.blend" kP f fd) (X:Txt K T) (jB:Dn P w K mg base 2 "factor_of_all" ["step","tops"] (Gp K)) (kQ:Mn P w K mg base 1 T.bot "grow" ["self","step"] (Gq T)) (fH:mg "zip" = none):Mn P w K mg base 3 T.hold "blend" rK (DO T K):=by
 refine F.ok ff (fun vs H Q E h=>?_) (fun cdv A outer s H vs Q E hr h=>?_) (fun _ _ _ _ _ _ us hl=>match us,hl with | [_,_,_,_],_=>rfl)
 · obtain ⟨n,ρ,A,st,kept,whole,l,added,rfl,_⟩:=h.ex
   rfl
 obtain ⟨n,ρ,A,st,kept,whole,la,added,rfl,hh,hla,hal,k0,w0,kz,wz,So,ML,hsl,wf',q⟩:=h.ex
 refine ⟨_,(ah (oM (lN (i:=4) ["part","kept"] [none,some 1] ff.nd rfl rfl rfl (sP (aL K (pv 0))) (fun _ _ _ _=>(aG (i:=0) (show List.Nodup (["part","kept"] :List Str) from by decide +kernel) rfl (Or.inl rfl))) (fun _ _ _ _=>(aB fL (aL K (pv 0)) (pv 1))) rfl (by rfl) (by rfl)))
  (ah (lN (i:=5) ["top","more","kept"] [none,none,some 1] ff.nd rfl rfl rfl (lO K (by rfl) fH (aa (aL K (pv 0)) (aa (pv 3) aj))) (fun _ _ _ _=>(eZ K (n:=2) rfl (bG (aG (i:=0) (show List.Nodup (["top","more","kept"] :List Str) from by decide +kernel) rfl (Or.inl rfl)) (bG (aG (i:=1) (show List.Nodup (["top","more","kept"] :List Str) from by decide +kernel) rfl (Or.inl rfl)) eX)))) (fun _ _ _ _=>(aB bP (aB fL (pv 0) (pv 2)) (pv 1))) rfl (by rfl) (by rfl))
  (ah (aF (i:=6) ff.nd rfl (Or.inr rfl) (a_ jB hr (aa (pv 2) (aa (aB LL (pv 4) (pv 5)) aj))))
  (ah (oM (cC PassesOwn.never rfl (lO K (by rfl) fH (aa (xB (aL K (pv 0))) (aa (pv 4) aj))) (eZ K (n:=2) rfl (bG (aG (i:=7) ff.nd rfl (Or.inl rfl)) (bG (aG (i:=8) ff.nd rfl (Or.inl rfl)) eX))) (aq (cK K (pv 7) (aB dF (pv 8) (pv 6))))))
  (ah (cK K (pv 0) (d7 ["top","shared"] [none,some 6] rfl (cQ K (pv 5)) (fun _ _ _ _=>(aG (i:=0) (show List.Nodup (["top","shared"] :List Str) from by decide +kernel) rfl (Or.inl rfl))) (fun _ _ _ _=>(aB dF (pv 0) (pv 1))) rfl (by rfl)))
  (ah (cK K (pv 0) (d7 ["purse","whole","shared"] [none,some 2,some 6] rfl (cQ K (aL K (pv 0))) (fun _ _ _ _=>(aG (i:=0) (show List.Nodup (["purse","whole","shared"] :List Str) from by decide +kernel) rfl (Or.inl rfl))) (fun _ _ _ _=>(aB fL (pv 0) (aB dF (pv 1) (pv 2)))) rfl (by rfl)))
  (aq (bZ (dQ kQ hr (aL K (pv 0)) (aa (aB dF (pv 2) (pv 6)) aj)))))))))),?_⟩
 have hpl:=hh.wf.pJ
 have nd:=hh.wf.jn
 have hcl:st.bh.length≤100:=by rw [hh.wf.fU];exact hh.wf.mh
 have Ss:∀p∈st.ai,Jm.Sz 8000 p.sc:=fun p hp=>Jm.Sz.ji (by have:=hh.wf.qa p hp;have:=hh.wf.fq;omega) (hh.wf.qa p hp).2 hh.wf.big
 have Su:∀c∈st.bh,Jm.Sz 8000 c:=fun c hc=>Jm.Sz.ji (by have:=hh.wf.mj c hc;have:=hh.wf.fq;omega) (hh.wf.mj c hc).2 hh.wf.big
 have h:=hh.h
 refine ⟨A.ab,_,h.cI,fun ob=>?_⟩
 refine ⟨_,rfl,A.a,T.hold,A.dx,_,_,rfl,cR h.cI h.oa (fun k z=>by cases z),X.cH,X.hab,rfl,A.ab,ob,_,rfl,af,fun l1 hl1=>?_⟩
 have el:=oQ h.ql
 refine fM (n:=st.ai.length) 0 (fun i out H1=>aD (upd H A.ab (.cW ob (.dK (bJ st.ai A.qs)))) H1∧out = ((st.ai.take i).map fun p:Pt=>p.sc * kept).map V.int) (by omega) ⟨aA hl1 _,rfl⟩ (fun i out H1 hi _ hp=>⟨hp.1 _ _ af,by rw [el];exact hi⟩) (fun out H1 _ hp=>⟨hp.1 _ _ af,by rw [el];exact Nat.le_refl _⟩) ?_ ?_
 · rintro i x out H1 H2 hi c7 ha ⟨g,e⟩ ⟨rfl,kv,hkv,rfl⟩
   have ep:=List.getElem?_eq_getElem hi
   obtain ⟨qq,eq,k1,k2,_⟩:=h.find ep
   rw [oO ep eq] at hkv
   cases hkv
   have hq:=g _ _ (cR h.cI k1 (fun k z=>by cases z))
   refine ⟨_,rfl,qq.1,T.part,qq.2.1,_,_,rfl,hq,X.cP,X.Ge,rfl,_,rfl,_,_,rfl,rfl,eY (Ss _ (List.getElem_mem hi)) kz,ha,g.bI hl1 _,?_⟩
   subst e
   rw [take_snoc ep,List.map_append,List.map_append]
   rfl
 rintro o1 H1 Uu ha1 ⟨g1,e1⟩
 rw [List.take_length] at e1
 have hz1:=g1 _ _ (af (H:=H) (a:=A.ab) (o:= .cW ob (.dK (bJ st.ai A.qs))))
 have Sv:l1 ≠ A.ab:=fun e=>by rw [e,hz1] at ha1;cases ha1
 refine ⟨hz1,?_⟩
 have s2:aD H (upd H1 A.ab (.dK (bJ st.ai A.qs))):=mw h.cI g1
 have Uv:H l1 = none:=iN h.cI hl1
 have ha2:upd H1 A.ab (.dK (bJ st.ai A.qs)) l1 = some (.lst ((d8 st kept).map V.int)):=by rw [ao Sv,ha1,e1];rfl
 generalize upd H1 A.ab (.dK (bJ st.ai A.qs)) = H2 at *
 clear g1 hz1 ha1 e1
 have h2:=h.mono s2
 have EI:=s2.seq hla
 refine ⟨_,rfl,A.a,T.hold,A.dx,_,_,rfl,h2.oa,X.cH,X.tO,rfl,_,rfl,_,_,_,_,_,_,rfl, .lst (av.of h2.fQ), .lst EI,fun l2 hl2=>?_⟩
 refine qL (K:=K) (n:=st.bh.length) [0,1] (fun i out H3=>aD H2 H3∧out = (List.zipWith (fun t m=>t * kept + m) (st.bh.take i) (added.take i)).map V.int) (by decide) (by omega) ⟨aA hl2 _,rfl⟩ (fun i out H3 hi _ hp=>⟨av.of (hp.1 _ _ h2.fQ),hp.1.seq EI,by rw [List.length_map];exact hi,by rw [List.length_map];omega⟩)
  (fun out H3 _ hp=>⟨av.of (hp.1 _ _ h2.fQ),hp.1.seq EI, .inl (by rw [List.length_map];exact Nat.le_refl _)⟩) ?_ ?_
 · rintro i x out H3 H4 hi c7 ha ⟨g,e⟩ ⟨p,x1,y1,hp,rfl,rfl,e1,e2⟩
   obtain ⟨t,rfl,et⟩:=dG e1
   obtain ⟨c,rfl,ec⟩:=dG e2
   have g1:=aA hp (.tup [.int t, .int c])
   refine ⟨p,_,rfl,cA.of af,rfl,_,rfl,_,rfl,_,_,rfl,rfl,eY (Su t (List.mem_of_getElem? et)) kz,_,rfl,_,_,rfl,rfl,g1 _ _ ha,(g.trans g1).bI hl2 _,?_⟩
   rw [ja _ et ec,e,List.map_append]
   rfl
 rintro o2 H3 xW GY ⟨g3,e3⟩
 rw [List.take_length,← hal,List.take_length] at e3
 have Sw:o2 = (c8 st kept added).map V.int:=e3
 subst Sw
 have s3:=s2.trans g3
 have h3:=h.mono s3
 have IS:=g3 _ _ ha2
 have Uw:H l2 = none:=s2.free hl2
 have UJ:l1 ≠ l2:=fun e=>by rw [e,hl2] at ha2;cases ha2
 clear e3 h2 EI g3 ha2 s2
 have O2:(d8 st kept).length = st.ai.length:=by unfold d8;rw [List.length_map]
 have lcm:(c8 st kept added).length = st.bh.length:=by unfold c8;rw [List.length_zipWith,hal,Nat.min_self]
 refine ⟨_,rfl,_,rfl,_,rfl,l1,l2,_,_,rfl,rfl,IS,GY,by rw [List.length_map,List.length_map,O2,lcm];exact Nat.le_trans (Nat.add_le_add hpl hcl) (by rw [sizeLine_eq];decide),fun p3 hp3=>?_⟩
 rw [← List.map_append]
 have g4:=aA hp3 (.lst ((d8 st kept ++ c8 st kept added).map V.int))
 refine ⟨⟨whole,p3,_,rfl,av.of af,by omega,?_,?_⟩⟩
 · intro t ht
   rcases List.mem_append.mp ht with z | z
   · unfold d8 at z
     obtain ⟨p,hp,rfl⟩:=List.mem_map.mp z
     exact Int.mul_nonneg (by have:=hh.wf.qa p hp;omega) (by omega)
   · obtain ⟨c,hc,m,hm,rfl⟩:=pK (show t∈List.zipWith _ st.bh added from z)
     have a1:=Int.mul_nonneg (hh.wf.mj c hc).1 (by omega:0≤kept)
     have a2:=(So m hm).1
     omega
 have s4:=s3.trans g4
 have h4:=h.mono s4
 have G4:=hh.g.same s4
 have F4:Fr n ρ H ρ (upd H3 p3 (.lst ((d8 st kept ++ c8 st kept added).map V.int))):=Fr.of_same s4
 have b1:=g4 _ _ IS
 have b2:=g4 _ _ GY
 generalize upd H3 p3 (.lst ((d8 st kept ++ c8 st kept added).map V.int)) = H4 at *
 clear IS GY s3 h3 g4
 obtain ⟨sd,JM⟩:∃sd,sd = bD st kept whole added:=⟨_,rfl⟩
 rw [show jq whole (d8 st kept ++ c8 st kept added) = sd from JM.symm]
 have sp:0 < sd:=by rw [JM];exact qY _ _ w0
 have GP:sd ∣ whole:=by rw [JM];exact (qX _ _).1
 have sz:Jm.Sz 60 sd:=wz.dvd w0 (by omega) GP
 have wq:0 < whole / sd:=Int.ediv_pos_of_pos_of_dvd w0 (by omega) GP
 have O3:Jm.Sz 60 (whole / sd):=wz.ediv sp
 have JN:∀{i:Int},sJ i sd:=fun {i}=>lX sp (sz.mono (by decide))
 refine ⟨A.ab,_,h4.cI,fun GZ=>?_⟩
 refine ⟨_,rfl,A.a,T.hold,A.dx,_,_,rfl,cR h4.cI h4.oa (fun k z=>by cases z),X.cH,X.hab,rfl,A.ab,_,rfl, .inr ⟨GZ,af⟩,fun v hv=>?_⟩
 have Sx:v ≠ A.ab:=fun e=>by rw [e,af] at hv;cases hv
 have Sy:H4 v = none:=iN h4.cI hv
 have g5:=aA Sy (gF v A.ab)
 have O4:upd H4 v (gF v A.ab) v = some (gF v A.ab):=af
 rw [gh (Ne.symm Sx)]
 have h5:=h4.mono g5
 have G5:=G4.same g5
 have F5:=F4.trans (Fr.of_same (ρ:=ρ) g5)
 have s5:=s4.trans g5
 have c1:=g5 _ _ b1
 have c2:=g5 _ _ b2
 generalize upd H4 v (gF v A.ab) = H5 at *
 clear h4 G4 F4 s4 b1 b2 g5
 refine ⟨_,rfl,_,_,_,_,_,_,rfl, .vals (cR h5.cI O4 (fun k z=>by cases z)) af, .lst (av.of (cR h5.cI c1 (fun k z=>by cases z))),?_⟩
 have O5:((bJ st.ai A.qs).map fun p=>p.2).length = st.ai.length:=by rw [List.length_map];exact el
 have SA:((d8 st kept).map V.int).length = st.ai.length:=by rw [List.length_map];exact O2
 refine l7 (n:=st.ai.length) (fun i σ H'=>(∃s7 s8,σ = [some (.ref A.a),some (.int kept),some (.int whole),some (.ref la),some (.ref l1),some (.ref l2),some (.int sd),s7,s8])∧∃H6,H' = upd H6 A.ab (.cW GZ (.dK (bJ st.ai A.qs)))∧Gh ρ H6∧Fr n ρ H ρ H6∧aJ T n ρ A H6 { st with ai:=(st.ai.take i).map (fun p=>{ p with sc:=p.sc * kept / sd }) ++ st.ai.drop i }∧H6 l1 = some (.lst ((d8 st kept).map V.int))∧H6 l2 = some (.lst ((c8 st kept added).map V.int))∧(∀b,H6 b = none→H b = none))
  ⟨⟨_,_,rfl⟩,H5,rfl,G5,F5,h5,c1,c2,fun b e=>s5.free e⟩ ?_ ?_ ?_ ?_
 · rintro i σ H' hi ⟨_,H6,rfl,G6,F6,h6,d1,d2,fr⟩
   have e6:bJ ({ st with ai:=(st.ai.take i).map (fun p:Pt=>{ p with sc:=p.sc * kept / sd }) ++ st.ai.drop i }:HS).ai A.qs = bJ st.ai A.qs:=jb (jV (fun p:Pt=>{ p with sc:=p.sc * kept / sd }) (fun p:Pt=>p.nm) (fun _=>rfl) st.ai i)
   have j5:=h6.cI
   rw [e6] at j5
   exact ⟨af,av.of (cR j5 d1 (fun k z=>by cases z)),by rw [O5];exact hi,by rw [SA];exact hi⟩
 · rintro σ H' ⟨_,H6,rfl,G6,F6,h6,d1,d2,fr⟩
   have e6:bJ ({ st with ai:=(st.ai.take st.ai.length).map (fun p:Pt=>{ p with sc:=p.sc * kept / sd }) ++ st.ai.drop st.ai.length }:HS).ai A.qs = bJ st.ai A.qs:=jb (jV (fun p:Pt=>{ p with sc:=p.sc * kept / sd }) (fun p:Pt=>p.nm) (fun _=>rfl) st.ai _)
   have j5:=h6.cI
   rw [e6] at j5
   exact ⟨af,av.of (cR j5 d1 (fun k z=>by cases z)), .inl (by rw [O5];exact Nat.le_refl _)⟩
 · rintro i x σ H' vW hi ⟨⟨s7,s8,rfl⟩,H6,rfl,G6,F6,h6,d1,d2,fr⟩ ⟨pp,x1,y1,hpp,rfl,rfl,ex,ey⟩
   have ep:=List.getElem?_eq_getElem hi
   have O6:=Bd (fun p:Pt=>{ p with sc:=p.sc * kept / sd }) ep
   obtain ⟨qq,eq,k1,k2,k3,k4⟩:=h6.find O6
   have O7:=jV (fun p:Pt=>{ p with sc:=p.sc * kept / sd }) (fun p:Pt=>p.nm) (fun _=>rfl) st.ai i
   have e6:bJ ({ st with ai:=(st.ai.take i).map (fun p:Pt=>{ p with sc:=p.sc * kept / sd }) ++ st.ai.drop i }:HS).ai A.qs = bJ st.ai A.qs:=jb O7
   have j5:=h6.cI
   rw [e6] at j5
   rw [List.getElem?_map,oO ep eq] at ex
   cases ex
   obtain ⟨sc,rfl,MM⟩:=dG ey
   have Rg:sc = (st.ai[i]).sc * kept:=by
    unfold d8 at MM
    rw [List.getElem?_map,ep] at MM
    exact (Option.some.inj MM).symm
   subst Rg
   have SD:pp ≠ A.ab:=fun e=>by rw [e,af] at hpp;cases hpp
   have Rh:H6 pp = none:=iN j5 hpp
   have g7:=aA Rh (.tup [.ref qq.1, .int ((st.ai[i]).sc * kept)])
   rw [gh (Ne.symm SD)]
   have BL:upd H6 pp (.tup [.ref qq.1, .int ((st.ai[i]).sc * kept)]) pp = some (.tup [.ref qq.1, .int ((st.ai[i]).sc * kept)]):=af
   have h7:=h6.mono g7
   have G7:=G6.same g7
   have F7:=F6.trans (Fr.of_same (ρ:=ρ) g7)
   have IT:=g7 _ _ j5
   have f1:=g7 _ _ d1
   have f2:=g7 _ _ d2
   have FF:∀b,upd H6 pp (.tup [.ref qq.1, .int ((st.ai[i]).sc * kept)]) b = none→H b = none:=fun b e=>fr b (g7.free e)
   have DX:=g7 _ _ k1
   generalize upd H6 pp (.tup [.ref qq.1, .int ((st.ai[i]).sc * kept)]) = H7 at *
   refine ⟨pp,_,rfl,cA.of (cR IT BL (fun k z=>by cases z)),rfl,_,_,rfl,_,_,rfl,rfl,?_⟩
   refine ⟨_,rfl,_,rfl,_,_,rfl,rfl,JN,_,rfl,qq.1,T.part,qq.2.1,_,rfl,cR IT DX (fun k z=>by cases z),X.cP,X.Ge,by show 6 < 1000;decide,?_⟩
   have SE:(((st.ai.take i).map (fun p:Pt=>{ p with sc:=p.sc * kept / sd }) ++ st.ai.drop i).map (fun p:Pt=>p.nm)).Nodup:=by rw [O7];exact nd
   have h8:=h7.qO (p1:={ st.ai[i] with sc:=(st.ai[i]).sc * kept / sd }) G7 O6 eq rfl rfl SE
   rw [show ({ st with ai:=(st.ai.take i).map (fun p:Pt=>{ p with sc:=p.sc * kept / sd }) ++ st.ai.drop i }:HS).ai.set i { st.ai[i] with sc:=(st.ai[i]).sc * kept / sd } = _ from Be (fun p:Pt=>{ p with sc:=p.sc * kept / sd }) ep] at h8
   have SG:A.ab ≠ qq.1:=(eL DX IT (by intro z;cases z)).symm
   have SH:l1 ≠ qq.1:=eL f1 DX (by intro z;cases z)
   have SI:l2 ≠ qq.1:=eL f2 DX (by intro z;cases z)
   refine ⟨⟨_,_,rfl⟩,_,gh SG,G7.wr rfl,F7.trans (Fr.write k3),h8,by rw [ao SH];exact f1,by rw [ao SI];exact f2,fun b e=>FF b ?_⟩
   by_cases z:b = qq.1
   · rw [z,af] at e;cases e
   · rw [ao z] at e;exact e
 rintro σ H' ⟨⟨s7,s8,rfl⟩,H6,rfl,G6,F6,h6,d1,d2,fr⟩
 have e6:bJ ({ st with ai:=(st.ai.take st.ai.length).map (fun p:Pt=>{ p with sc:=p.sc * kept / sd }) ++ st.ai.drop st.ai.length }:HS).ai A.qs = bJ st.ai A.qs:=jb (jV (fun p:Pt=>{ p with sc:=p.sc * kept / sd }) (fun p:Pt=>p.nm) (fun _=>rfl) st.ai _)
 have j5:=h6.cI
 rw [e6] at j5
 refine ⟨af,?_⟩
 rw [lM,pM j5]
 rw [show ({ st with ai:=(st.ai.take st.ai.length).map (fun p:Pt=>{ p with sc:=p.sc * kept / sd }) ++ st.ai.drop st.ai.length }:HS) = { st with ai:=st.ai.map fun p:Pt=>{ p with sc:=p.sc * kept / sd } } from by rw [List.take_length,List.drop_length,List.append_nil]] at h6
 clear e6 j5 h5 G5 F5 s5 c1 c2 O4
 refine ⟨_,rfl,l2,rfl,⟨_,av.of d2⟩,fun l3 hl3=>?_⟩
 refine fM (J:=nj K l2) (n:=((c8 st kept added).map V.int).length) 0 (fun i o H'=>aD H6 H'∧o = (((c8 st kept added).take i).map (· / sd)).map V.int) (by rw [List.length_map];omega) ⟨aA hl3 _,rfl⟩ (fun i o H' hi _ hp=>⟨_,_,av.of (hp.1 _ _ d2),List.getElem?_eq_getElem hi⟩) (fun o H' _ hp=>⟨_,av.of (hp.1 _ _ d2),Nat.le_refl _⟩) ?_ ?_
 · rintro i y o Ha Hb hi c7 ha ⟨g,e⟩ ⟨rfl,hy⟩
   obtain ⟨c,rfl,ec⟩:=dG (hy _ (av.of (g _ _ d2)))
   refine ⟨_,rfl,_,rfl,_,_,rfl,rfl,JN,ha,g.bI hl3 _,?_⟩
   subst e
   rw [take_snoc ec,List.map_append,List.map_append]
   rfl
 rintro o3 H8 Ux BO ⟨g8,e8⟩
 rw [List.length_map,List.take_length] at e8
 subst e8
 have h8:=h6.mono g8
 have G8:=G6.same g8
 have F8:=F6.trans (Fr.of_same (ρ:=ρ) g8)
 have O8:∀b,H8 b = none→H b = none:=fun b e=>fr b (g8.free e)
 have c3:ρ l3 = none:=G6.none hl3
 have n3:H l3 = none:=fr l3 hl3
 refine ⟨_,rfl,A.a,T.hold,A.dx,_,rfl,h8.oa,X.cH,X.tO,by show 7 < 1000;decide,?_⟩
 obtain ⟨h9,G9⟩:=yC (t:=6) h8 G8 c3 BO rfl
 have F9:Fr n ρ H (bC ρ l3 (n,6,⟨#[]⟩)) H8:=F8.pO n3
 have DY:=h9.Mi G9 l3 _ BO cg
 have O9:=G9.wr (a:=A.a) (o:= .ins T.hold A.dx (ig { A with cm:=l3 })) rfl
 have SJ:=F9.trans (Fr.write (o:= .ins T.hold A.dx (ig { A with cm:=l3 })) h9.ca)
 show xg _ _ _ _ (upd H8 A.a (.ins T.hold A.dx (ig { A with cm:=l3 })))
 have Ri:∀b,upd H8 A.a (.ins T.hold A.dx (ig { A with cm:=l3 })) b = none→H b = none:=fun b e=>O8 b (by
  by_cases z:b = A.a
  · rw [z,af] at e;cases e
  · rw [ao z] at e;exact e)
 generalize upd H8 A.a (.ins T.hold A.dx (ig { A with cm:=l3 })) = AJ at *
 clear h6 G6 F6 h8 G8 F8 h9 G9 F9 BO g8 O8 fr d1 d2
 refine ⟨_,rfl,A.a,T.hold,A.dx,_,_,rfl,DY.oa,X.cH,X.AX,rfl,A.pu,rfl,⟨_,av.of DY.jN⟩,fun l4 yU=>?_⟩
 have Uy:st.bV.length≤100:=by rw [hh.wf.qQ];exact hh.wf.mh
 refine fM (J:=nj K A.pu) (n:=(st.bV.map V.int).length) 0 (fun i o H'=>aD AJ H'∧o = ((st.bV.take i).map (· * (whole / sd))).map V.int) (by rw [List.length_map];omega) ⟨aA yU _,rfl⟩ (fun i o H' hi _ hp=>⟨_,_,av.of (hp.1 _ _ DY.jN),List.getElem?_eq_getElem hi⟩) (fun o H' _ hp=>⟨_,av.of (hp.1 _ _ DY.jN),Nat.le_refl _⟩) ?_ ?_
 · rintro i y o Ha Hb hi c7 ha ⟨g,e⟩ ⟨rfl,hy⟩
   obtain ⟨c,rfl,ec⟩:=dG (hy _ (av.of (g _ _ DY.jN)))
   refine ⟨_,rfl,_,rfl,_,rfl,_,_,rfl,rfl,JN,_,_,rfl,rfl,eY (ML c (List.mem_of_getElem? ec)) O3,ha,g.bI yU _,?_⟩
   subst e
   rw [take_snoc ec,List.map_append,List.map_append]
   rfl
 rintro o4 O_ Uz MN ⟨MO,Pa⟩
 rw [List.length_map,List.take_length] at Pa
 subst Pa
 have h11:=DY.mono MO
 have SK:=O9.same MO
 have SM:=SJ.trans (Fr.of_same (ρ:=bC ρ l3 (n,6,⟨#[]⟩)) MO)
 have c4:bC ρ l3 (n,6,⟨#[]⟩) l4 = none:=O9.none yU
 have n4:H l4 = none:=Ri l4 yU
 refine ⟨_,rfl,A.a,T.hold,A.dx,_,rfl,h11.oa,X.cH,X.AX,by show 7 < 1000;decide,?_⟩
 obtain ⟨h12,Pb⟩:=yC (t:=7) h11 SK c4 MN rfl
 have SN:Fr n ρ H (bC (bC ρ l3 (n,6,⟨#[]⟩)) l4 (n,7,⟨#[]⟩)) O_:=SM.pO n4
 have MP:=h12.Mj Pb l4 _ MN cg
 have SO:=Pb.wr (a:=A.a) (o:= .ins T.hold A.dx (ig { { A with cm:=l3 } with pu:=l4 })) rfl
 have SQ:=SN.trans (Fr.write (o:= .ins T.hold A.dx (ig { { A with cm:=l3 } with pu:=l4 })) h12.ca)
 rw [show aH "purses" (V.ref l4) (ig { A with cm:=l3 }) = ig { { A with cm:=l3 } with pu:=l4 } from rfl]
 generalize upd O_ A.a (.ins T.hold A.dx (ig { { A with cm:=l3 } with pu:=l4 })) = MF at *
 refine ⟨_,rfl,A.a,T.hold,A.dx,_,_,rfl,MP.oa,X.cH,X.vO,rfl,A.bt,A.db,_,rfl,MP.i_,rfl,_,rfl,_,rfl,_,_,rfl,rfl,JN,?_⟩
 refine ⟨⟨n,_,{ { A with cm:=l3 } with pu:=l4 },{ st with ai:=st.ai.map (fun p:Pt=>{ p with sc:=p.sc * kept / sd }),bh:=(c8 st kept added).map (· / sd),bV:=st.bV.map (· * (whole / sd)) },whole / sd,rfl,SO,MP,by show st.stp.length≤1000;omega,hh.wf.big.mono (by decide),O3.mono (by decide),fun ρ' A' H' a1 a2 a3 a4=>?_⟩⟩
 have eb:bQ st kept whole added = dh { st with ai:=st.ai.map (fun p:Pt=>{ p with sc:=p.sc * kept / sd }),bh:=(c8 st kept added).map (· / sd),bV:=st.bV.map (· * (whole / sd)) } (whole / sd):=by
  unfold bQ
  rw [JM]
 rw [eb] at wf' q
 exact q ρ' A' H' ⟨a1,a2,wf'⟩ a3 (SQ.trans a4)
abbrev mQ:Stmt:=inClass (top 21) 3
abbrev CJ:List Str:=["self","rows","amounts","name","amount","whole","lost"]
abbrev t9:List Str:=["self","rows"]
theorem dS:aI CJ t9 (au mQ):=⟨rfl,rfl,rfl,by decide +kernel,rfl,by decide +kernel,by decide +kernel⟩
theorem BQ {T:TC} (F:gJ K T.hold "cast" "Hold.cast" mQ f fd) (X:Txt K T) (mR:Dn P w K mg base 1 "amounts_of" ["rows"] (Gn K)) (mS:Dn P w K mg base 2 "check_loss" ["most","amount"] JG) (d9:Mn P w K mg base 1 T.hold "part_of" ["self","name"] (uI T)) (fY:Mn P w K mg base 1 T.hold "whole" ["self"] (xG T)) (mT:Mn P w K mg base 3 T.hold "blend" ["self","kept","whole","added"] (DO T K)) (jC:Mn P w K mg base 1 T.hold "given_up" ["self","amounts"] (DN T)) (kR:Mn P w K mg base 1 T.hold "lessen" ["self","name","amount"] (Gr T)) (dU:mg "sum" = none):Mn P w K mg base 4 T.hold "cast" t9 (Gs T K):=by
 refine F.ok dS (fun vs H Q E h=>?_) (fun cdv A outer s H vs Q E hr h=>?_) (fun _ _ _ _ _ _ us hl=>match us,hl with | [_,_],_=>rfl)
 · obtain ⟨n,ρ,A,st,l,us,rs,rfl,_⟩:=h.ex
   rfl
 obtain ⟨n,ρ,A,st,l,us,rs,rfl,hh,hl,hR,ok,q⟩:=h.ex
 have wf:=hh.wf
 have nd:=ok.nd
 refine ⟨_,(ah (aF (i:=2) dS.nd rfl (Or.inl rfl) (a_ mR hr (aa (pv 1) aj)))
  (ah (oM (cC PassesOwn.never rfl (uD (pv 2)) (eZ K (n:=2) rfl (bG (aG (i:=3) dS.nd rfl (Or.inl rfl)) (bG (aG (i:=4) dS.nd rfl (Or.inl rfl)) eX))) (aq (bZ (a_ mS hr (aa (aL K (dQ d9 hr (pv 0) (aa (pv 3) aj))) (aa (pv 4) aj)))))))
  (ah (aF (i:=5) dS.nd rfl (Or.inl rfl) (oN fY hr (pv 0)))
  (ah (aF (i:=6) dS.nd rfl (Or.inl rfl) (aE (yv rfl) (by rfl) dU PyProof.Rows.boot_sum (aa (xB (pv 2)) aj)))
  (ah (bM (bf Jg (pv 6) (pv 5) (br _)) (aq dX) aQ)
  (ah (bZ (dQ mT hr (pv 0) (aa (aB lR (pv 5) (pv 6)) (aa (pv 5) (aa (dQ jC hr (pv 0) (aa (pv 2) aj)) aj)))))
  (aq (oM (cC PassesOwn.never rfl (uD (pv 2)) (eZ K (n:=2) rfl (bG (aG (i:=3) dS.nd rfl (Or.inl rfl)) (bG (aG (i:=4) dS.nd rfl (Or.inl rfl)) eX))) (aq (bZ (dQ kR hr (pv 0) (aa (pv 3) (aa (pv 4) aj)))))))))))))),?_⟩
 refine ⟨_,rfl,⟨⟨l,us,rs,rfl,hl,hR,nd,ok.ne,ok.len,fun d H1 g1 hdn hd1=>?_⟩⟩⟩
 have dI:=hh.mono g1
 have F1:Fr n ρ H ρ H1:=Fr.of_same g1
 have cd:ρ d = none:=hh.g.none hdn
 have al:=pN rs
 refine ⟨d,_,hd1,fun ob=>⟨_,rfl,d,ob,_,rfl,af,?_⟩⟩
 refine l7 (n:=(dR rs).length) (fun i σ H'=>aD (upd H1 d (.cW ob (.dK (dR rs)))) H'∧∃s3 s4 s5 s6,σ = [some (.ref A.a),some (.ref l),some (.ref d),s3,s4,s5,s6])
  ⟨aD.refl _,_,_,_,_,rfl⟩ (fun i σ H' hi hp=>⟨hp.1 _ _ af,hi⟩) (fun σ H' hp=>⟨hp.1 _ _ af,Nat.le_refl _⟩) ?_ ?_
 · rintro i x σ H3 H4 hi ⟨g,s3,s4,s5,s6,rfl⟩ ⟨pp,kv,hpp,hkv,rfl,rfl⟩
   unfold dR at hkv
   rw [List.getElem?_map] at hkv
   obtain ⟨r,er,rfl⟩:=Option.map_eq_some_iff.mp hkv
   have hrm:=List.mem_of_getElem? er
   obtain ⟨r1,zr,p,gO,wI,hle⟩:=ok.row r hrm
   obtain ⟨ip,qg,GW⟩:=List.getElem_of_mem gO
   have ep:st.ai[ip]? = some p:=by rw [List.getElem?_eq_getElem qg,GW]
   have g4:=aA hpp (.tup [.str r.1, .int r.2])
   have gg:=g.trans g4
   have hf:HH T n ρ A (upd H1 d (.cW ob (.dK (dR rs)))) st:=dI.vV cd hd1 rfl rfl
   have h4:=hf.mono gg
   have BL:upd H3 pp (.tup [.str r.1, .int r.2]) pp = some (.tup [.str r.1, .int r.2]):=af
   show uu K 2 _ _ _ (upd H3 pp (.tup [.str r.1, .int r.2])) _
   generalize upd H3 pp (.tup [.str r.1, .int r.2]) = H4 at *
   obtain ⟨qq,eq,k1,k2,_,_⟩:=h4.h.find ep
   refine ⟨pp,_,rfl,cA.of BL,rfl,_,_,rfl,_,_,rfl,rfl,?_⟩
   refine ⟨_,rfl,A.a,A.dx,_,rfl,h4.h.oa,rfl,_,rfl,⟨⟨n,ρ,A,st,ip,p,qq,by rw [← wI];rfl,h4.h,wf.jn,ep,eq,?_⟩⟩⟩
   refine ⟨qq.1,T.part,qq.2.1,_,_,rfl,k1,X.cP,X.Dy,rfl,_,rfl,⟨⟨p.wo,r.2,rfl,r1,hle,?_⟩⟩⟩
   exact ⟨gg,_,_,_,_,rfl⟩
 rintro σ H2 ⟨g2,s3,s4,s5,s6,rfl⟩
 refine ⟨g2 _ _ af,?_⟩
 have gB:=mw hd1 g2
 have gc:=dI.mono gB
 have F2:Fr n ρ H ρ (upd H2 d (.dK (dR rs))):=F1.trans (Fr.of_same gB)
 have hd2:upd H2 d (.dK (dR rs)) d = some (.dK (dR rs)):=af
 generalize upd H2 d (.dK (dR rs)) = UK at *
 refine ⟨_,rfl,A.a,A.dx,_,rfl,gc.h.oa,rfl,⟨⟨n,ρ,A,st,rfl,gc.h,wf.pJ,fun H3 g3=>?_⟩⟩⟩
 have jO:=gc.mono g3
 have JO:=g3 _ _ hd2
 have F3:=F2.trans (Fr.of_same (ρ:=ρ) g3)
 refine ⟨_,rfl,d,_,rfl, .inl JO,fun v hv=>⟨v,d,_,rs.map (·.2),rfl,af, .inl (by rw [ao (ay JO hv)];exact JO),by unfold dR;rw [List.map_map,List.map_map];rfl,?_⟩⟩
 have g4:=aA hv (gF v d)
 have iC:=jO.mono g4
 have Pc:=g4 _ _ JO
 have F4:=F3.trans (Fr.of_same (ρ:=ρ) g4)
 generalize upd H3 v (gF v d) = H4 at *
 have bo:=ok.blend wf
 refine ⟨_,rfl,_,rfl,_,_,rfl,rfl,_,rfl,dY (fun c=>absurd (of_decide_eq_true c) (by have:=ok.lost;show ¬ az st≤aC rs;omega)) fun _=>?_⟩
 refine ⟨_,rfl,A.a,A.dx,_,rfl,iC.h.oa,rfl,_,rfl,_,rfl,_,_,rfl,rfl,_,rfl,_,rfl,A.a,A.dx,_,rfl,iC.h.oa,rfl,_,rfl,⟨⟨n,ρ,A,st,d,rs,rfl,iC.h,wf,Pc,cd,ok.len,fun r hr=>⟨(ok.row r hr).2.1,by obtain ⟨p,hp,e,_⟩:=(ok.row r hr).2.2;exact ⟨p,hp,e⟩⟩,fun l5 H5 g5 UL SR=>?_⟩⟩⟩
 have nH:=iC.mono g5
 have SS:=g5 _ _ Pc
 have F5:=F4.trans (Fr.of_same (ρ:=ρ) g5)
 have zk:Jm.Sz 60 (az st - aC rs):=bo.big.of_le (by have:=bo.k;have:=bo.l;omega)
 have zG:∀m∈aX st rs,0≤m∧Jm.Sz 8900 m:=fun m hm=>by
  have h1:=bo.add m hm
  have h2:=wf.fq
  have zl:Jm.Sz 60 (aC rs):=bo.big.of_le (by have:=bo.k;have:=bo.l;omega)
  exact ⟨h1.1,Jm.Sz.ji (by have:=Int.mul_nonneg bo.l (show 0≤st.prod by omega);omega) h1.2 ((zl.mul bo.prod).mono (by decide))⟩
 refine ⟨⟨n,ρ,A,st,az st - aC rs,az st,l5,aX st rs,rfl,nH,av.of SR,bo.len,bo.k,by have:=bo.k;have:=bo.l;omega,zk,bo.big,zG,ok.bV,ok.stp,Iz wf bo,fun ρ6 A6 H6 t7 e6 f6=>?_⟩⟩
 obtain ⟨Pd,MQ⟩:=f6 d _ SS (fun t x=>by rw [cd];intro z;cases z)
 rw [cd] at MQ
 have F6:=F5.trans f6
 refine ⟨d,_,Pd,fun GZ=>⟨_,rfl,d,GZ,_,rfl,af,?_⟩⟩
 generalize eB:bQ st (az st - aC rs) (az st) (aX st rs) = DZ at *
 have Rj:Due DZ rs:=by rw [← eB];exact Gz ok.due
 have N9:dM st rs = rs.foldl di DZ:=by unfold dM;rw [eB]
 refine l7 (n:=(dR rs).length) (fun i σ H'=>∃ρ' A',HH T n ρ' A' H' ((rs.take i).foldl di DZ)∧A'.a = A.a∧H' d = some (.cW GZ (.dK (dR rs)))∧ρ' d = none∧Fr n ρ H ρ' H'∧Due ((rs.take i).foldl di DZ) (rs.drop i)∧∃s3 s4 s5 s6,σ = [some (.ref A.a),some (.ref l),some (.ref d),s3,s4,s5,s6])
  ⟨ρ6,A6,t7.vV MQ Pd rfl rfl,e6,af,MQ,F6.new hdn,Rj,_,_,_,_,rfl⟩ (fun i σ H' hi hp=>by obtain ⟨_,_,_,_,e,_⟩:=hp;exact ⟨e,hi⟩) (fun σ H' hp=>by obtain ⟨_,_,_,_,e,_⟩:=hp;exact ⟨e,Nat.le_refl _⟩) ?_ ?_
 · rintro i x σ H7 H8 hi ⟨ρ7,A7,t_,e7,JP,JQ,F7,due,s3,s4,s5,s6,rfl⟩ ⟨pp,kv,hpp,hkv,rfl,rfl⟩
   unfold dR at hkv
   rw [List.getElem?_map] at hkv
   obtain ⟨r,er,rfl⟩:=Option.map_eq_some_iff.mp hkv
   have Pe:i < rs.length:=by rw [← al];exact hi
   have Pf:rs.drop i = r :: rs.drop (i + 1):=by
    rw [List.drop_eq_getElem_cons Pe]
    rw [List.getElem?_eq_getElem Pe] at er
    rw [Option.some.inj er]
   rw [Pf] at due
   have g4:=aA hpp (.tup [.str r.1, .int r.2])
   have JR:=t_.mono g4
   have Pg:=g4 _ _ JP
   have F8:=F7.trans (Fr.of_same (ρ:=ρ7) g4)
   have BL:upd H7 pp (.tup [.str r.1, .int r.2]) pp = some (.tup [.str r.1, .int r.2]):=af
   show uu K 2 _ _ _ (upd H7 pp (.tup [.str r.1, .int r.2])) _
   generalize upd H7 pp (.tup [.str r.1, .int r.2]) = H8 at *
   refine ⟨pp,_,rfl,cA.of BL,rfl,_,_,rfl,_,_,rfl,rfl,?_⟩
   have eN:(rs.take (i + 1)).foldl di DZ = di ((rs.take i).foldl di DZ) r:=by rw [take_snoc er,List.foldl_append];rfl
   have SV:((r :: rs.drop (i + 1)).map (fun r:Row=>r.1)).Nodup:=by rw [← Pf,List.map_drop];exact nd.sublist (List.drop_sublist _ _)
   refine ⟨_,rfl,A.a,A7.dx,_,rfl,by rw [← e7];exact JR.h.oa,rfl,_,rfl,_,rfl,⟨⟨n,ρ7,A7,_,r,by rw [e7];rfl,JR,due r List.mem_cons_self,Mr t_.wf due,fun ρ9 A9 H9 Ph e9 f9=>?_⟩⟩⟩
   obtain ⟨SW,Pj⟩:=f9 d _ Pg (fun t x=>by rw [JQ];intro z;cases z)
   rw [JQ] at Pj
   rw [← eN] at Ph
   exact ⟨ρ9,A9,Ph,e9.trans e7,SW,Pj,F8.trans f9,by rw [eN];exact IB t_.wf due SV,_,_,_,_,rfl⟩
 rintro σ H7 ⟨ρ7,A7,t_,e7,JP,JQ,F7,due,s3,s4,s5,s6,rfl⟩
 rw [al,List.take_length,← N9] at t_
 exact ⟨JP,q ρ7 A7 _ (t_.vV JQ JP rfl rfl) e7 (F7.new hdn)⟩
abbrev j6:Stmt:=inClass (top 4) 2
abbrev zN:List Str:=["self","top","rest","step","shared"]
abbrev qi:List Str:=["self","top"]
theorem d_:aI zN qi (au j6):=⟨rfl,rfl,rfl,by decide +kernel,rfl,by decide +kernel,by decide +kernel⟩
theorem xY {T:TC} (F:gJ K T.bot "over" "Bottom.over" j6 f fd) (X:Txt K T) (dW:Dn P w K mg base 1 "common_factor" ["one","other"] HX):Mn P w K mg base 2 T.bot "over" qi (DI T):=by
 refine F.ok d_ (fun vs H Q E h=>?_) (fun cdv A outer s H vs Q E hr h=>?_) (fun _ _ _ _ _ _ us hl=>match us,hl with | [_,_],_=>rfl)
 · obtain ⟨bt,db,sp,kn,stp,prod,top,rfl,_⟩:=h.ex
   rfl
 obtain ⟨bt,db,sp,kn,stp,prod,top,rfl,hb,hs,ep,h2,hz,q⟩:=h.ex
 refine ⟨_,(ah (aF (i:=2) d_.nd rfl (Or.inl rfl) (aL K (pv 0)))
  (ah (cC PassesOwn.never rfl (cQ K (aL K (pv 0))) (aG (i:=3) d_.nd rfl (Or.inl rfl)) (ah (aF (i:=4) d_.nd rfl (Or.inl rfl) (a_ dW hr (aa (pv 3) (aa (aB fJ (pv 1) (pv 3)) aj))))
  (aq (gI (bf gD (pv 4) ak (br _)) (ah (aF (i:=1) d_.nd rfl (Or.inl rfl) (aB dF (pv 1) (pv 4)))
  (aq (aF (i:=2) d_.nd rfl (Or.inl rfl) (aB dF (pv 2) (pv 4))))) aQ))))
  (aq (aN (iz (aa (pv 1) (aa (pv 2) aj))))))),?_⟩
 have p1:1≤prod:=by rw [ep];exact Bg h2
 refine ⟨_,rfl,bt,T.bot,db,_,_,rfl,hb,X.cB,X.Jz,rfl,?_⟩
 refine ⟨_,rfl,bt,T.bot,db,_,_,rfl,hb,X.cB,X.Mm,rfl,sp,rfl,⟨_,av.of hs⟩,?_⟩
 refine iK (K:=K) (xs:=stp.map V.int) (fun i σ H'=>H' = H∧∃(t r d:Int) (s3 s4:Option V),σ = [some (.ref bt),some (.int t),some (.int r),s3,s4]∧t * prod = top * r∧r = d * (stp.drop i).foldl (· * ·) 1∧0 < d∧Jm.cf t d = 1)
  ⟨rfl,top,prod,1,none,none,rfl,rfl,by rw [List.drop_zero,Int.one_mul];exact ep,by decide,by unfold Jm.cf;rw [Int.gcd_one];rfl⟩ (fun i σ H' _ hp=>by rw [hp.1];exact av.of hs) ?_ ?_
 · rintro i x σ H' hx ⟨rfl,t,r,d,s3,s4,rfl,e1,e2,d0,c⟩
   obtain ⟨st,rfl,es⟩:=dG hx
   have hm:=List.mem_of_getElem? es
   have s2:=h2 st hm
   have hi:=(List.getElem?_eq_some_iff.mp es).1
   have hdr:stp.drop i = st :: stp.drop (i + 1):=by
    rw [List.drop_eq_getElem_cons hi]
    congr 1
    rw [List.getElem?_eq_getElem hi] at es
    exact Option.some.inj es
   rw [hdr,xH] at e2
   have r0:0≤t % st:=Int.emod_nonneg _ (by omega)
   refine ⟨_,rfl,_,rfl,_,rfl,_,_,rfl,rfl,(by show 0 < st;omega),st,t % st,rfl,by omega,r0,?_⟩
   rw [Jm.xo t st (by omega)]
   obtain ⟨o1,o2⟩:=Gk d0 (by omega:0 < st) c
   have gp:0 < Jm.cf t st:=Jm.vz t st (.inr (by omega))
   have gz:Jm.Sz 9000 (Jm.cf t st):=((hz.of_le (by have:=JD h2 hm;rw [← ep] at this;omega)).dvd (by omega:0 < st) (by omega) (Jm.jh t st)).mono (by decide)
   obtain ⟨u,hu⟩:=Jm.kh t st
   obtain ⟨v,hv⟩:=Jm.jh t st
   have e3:t / Jm.cf t st * prod = top * (r / Jm.cf t st):=by
    have a1:t / Jm.cf t st = u:=by rw [Int.ediv_eq_of_eq_mul_right (by omega) hu]
    have a2:r = Jm.cf t st * (d * v * (stp.drop (i + 1)).foldl (· * ·) 1):=by
     rw [e2]
     conv=>lhs;rw [hv]
     rw [Int.mul_assoc (Jm.cf t st),Int.mul_left_comm,Int.mul_assoc d]
    have a3:r / Jm.cf t st = d * v * (stp.drop (i + 1)).foldl (· * ·) 1:=by rw [Int.ediv_eq_of_eq_mul_right (by omega) a2]
    rw [a1,a3]
    have tR:Jm.cf t st * (u * prod) = Jm.cf t st * (top * (d * v * (stp.drop (i + 1)).foldl (· * ·) 1)):=by
     rw [← Int.mul_assoc,← hu,e1]
     conv=>lhs;rw [a2]
     rw [Int.mul_left_comm]
    exact Int.eq_of_mul_eq_mul_left (by omega) tR
   have e4:r / Jm.cf t st = d * (st / Jm.cf t st) * (stp.drop (i + 1)).foldl (· * ·) 1:=by
    have a4:st / Jm.cf t st = v:=by rw [Int.ediv_eq_of_eq_mul_right (by omega) hv]
    have a2:r = Jm.cf t st * (d * v * (stp.drop (i + 1)).foldl (· * ·) 1):=by
     rw [e2]
     conv=>lhs;rw [hv]
     rw [Int.mul_assoc (Jm.cf t st),Int.mul_left_comm,Int.mul_assoc d]
    rw [a4,Int.ediv_eq_of_eq_mul_right (by omega) a2]
   refine ⟨fun σ' H2=>H2 = H'∧σ' = [some (.ref bt),some (.int (t / Jm.cf t st)),some (.int (r / Jm.cf t st)),some (.int st),some (.int (Jm.cf t st))],?_,?_⟩
   · refine ⟨_,rfl,_,_,rfl,rfl,_,rfl,dY (fun c=>?_) (fun c=>?_)⟩
     · exact ⟨_,rfl,_,rfl,_,_,rfl,rfl,lX gp gz,_,rfl,_,rfl,_,_,rfl,rfl,lX gp gz,rfl,rfl⟩
     · have c':¬ 1 < Jm.cf t st:=of_decide_eq_false (Bool.eq_false_iff.mpr c)
       have g1:Jm.cf t st = 1:=by omega
       refine ⟨rfl,?_⟩
       rw [g1,Int.ediv_one,Int.ediv_one]
       rfl
   rintro σ' H2 ⟨rfl,rfl⟩
   exact ⟨rfl,_,_,_,_,_,rfl,e3,e4,o2,o1⟩
 rintro σ H' ⟨rfl,t,r,d,s3,s4,rfl,e1,e2,d0,c⟩
 rw [List.drop_of_length_le (by rw [List.length_map];exact Nat.le_refl _),List.foldl_nil,Int.mul_one] at e2
 subst e2
 refine ⟨_,rfl,_,rfl,(by show 2≤sizeLine;decide),fun p hp=>?_⟩
 refine q p _ (aA hp _) ?_
 rw [af]
 obtain ⟨a1,a2⟩:=Jm.Fy d0 c
 have:Jm.fr top prod = Jm.fr t r:=Jm.Jo (by omega) d0 e1.symm
 unfold jj
 rw [this,a1,a2]
abbrev jD:Stmt:=inClass (top 4) 3
abbrev xZ:List Str:=["self","top"]
abbrev oZ:List Str:=["self","top"]
theorem wJ:aI xZ oZ (au jD):=⟨rfl,rfl,rfl,by decide +kernel,rfl,by decide +kernel,by decide +kernel⟩
theorem wK {T:TC} (F:gJ K T.bot "share" "Bottom.share" jD f fd) (X:Txt K T) (kT:Mn P w K mg base 2 T.bot "over" ["self","top"] (DI T)):Mn P w K mg base 3 T.bot "share" oZ (A_ T):=by
 refine F.ok wJ (fun vs H Q E h=>?_) (fun cdv A outer s H vs Q E hr h=>?_) (fun _ _ _ _ _ _ us hl=>match us,hl with | [_,_],_=>rfl)
 · obtain ⟨bt,db,sp,kn,stp,prod,top,kvs,rfl,_⟩:=h.ex
   rfl
 obtain ⟨bt,db,sp,kn,stp,prod,top,kvs,rfl,hb,hs,ep,h2,hz,hk,MR,kl,knd,q⟩:=h.ex
 refine ⟨_,(ah (gI (oA (qC (bH hr) (pv 1) (aL K (pv 0)))) (aq (jS (bH hr) (aL K (pv 0)) (pv 1) (dQ kT hr (pv 0) (aa (pv 1) aj)) rfl)) aQ)
  (aq (aN (bL (bH hr) (aL K (pv 0)) (pv 1) (fun _ _=>rfl))))),?_⟩
 refine ⟨fun σ' H'=>σ' = [some (.ref bt),some (.int top)]∧(∀b o,H b = some o→b ≠ kn→H' b = some o)∧∃kvs' r,H' kn = some (.dK kvs')∧AW H' kvs' prod∧kvs'.length≤kvs.length + 1∧(kvs'.map (·.1)).Nodup∧cF kvs' (Sum.inl top) = some (.ref r)∧H' r = some (jj (Jm.fr top prod)),?_,?_⟩
 · refine ⟨_,rfl,_,rfl,bt,T.bot,db,_,_,rfl,hb,X.cB,X.Gf,rfl,kn,_,rfl,b9.k (k:=Sum.inl top) hk,_,rfl,?_⟩
   cases e:cF kvs (Sum.inl top) with
   | some v=>
     refine bN ⟨rfl,fun b o e _=>e,kvs,?_⟩
     obtain ⟨t,r,e2,hr2⟩:=MR _ (Iq e)
     cases e2
     exact ⟨r,hk,MR,Nat.le_succ _,knd,e,hr2⟩
   | none=>
     refine pC ?_
     refine ⟨_,rfl,bt,db,_,rfl,hb,rfl,_,rfl,⟨⟨bt,db,sp,kn,stp,prod,top,rfl,hb,hs,ep,h2,hz,fun r H1 g1 hr1=>?_⟩⟩⟩
     have sl:kvs.length < sizeLine:=by rw [sizeLine_eq];omega
     refine ⟨_,rfl,bt,T.bot,db,_,_,rfl,g1 _ _ hb,X.cB,X.Gf,rfl,_,rfl,kn,_,rfl,lU.k (k:=Sum.inl top) (g1 _ _ hk) sl,rfl,fun b o e hb=>by rw [ao hb];exact g1 _ _ e,_,r,af,?_,?_,Ks _ knd e,by rw [HP,if_pos rfl],by rw [ao (eL hr1 (g1 _ _ hk) (by intro z;cases z))];exact hr1⟩
     · rw [iL _ e]
       intro p hp
       rcases List.mem_append.mp hp with z | z
       · obtain ⟨t,r',e2,hr2⟩:=MR p z
         exact ⟨t,r',e2,by rw [ao (eL (g1 _ _ hr2) (g1 _ _ hk) (by intro z;cases z))];exact g1 _ _ hr2⟩
       · rw [List.mem_singleton.mp z]
         exact ⟨top,r,rfl,by rw [ao (eL hr1 (g1 _ _ hk) (by intro z;cases z))];exact hr1⟩
     · rw [iL _ e,List.length_append]
       exact Nat.le_refl _
 rintro σ' H' ⟨rfl,k1,kvs',r,e1,e2,e3,e4,e5,e6⟩
 exact ⟨_,rfl,bt,T.bot,db,_,_,rfl,k1 _ _ hb (eL hb hk (by intro z;cases z)),X.cB,X.Gf,rfl,_,rfl,kn,_,rfl,e5 ▸ b9.k (k:=Sum.inl top) e1,q r H' kvs' k1 e1 e2 e3 e4 e6⟩
abbrev j7:Stmt:=inClass (top 21) 12
abbrev zO:List Str:=["self","part","tops"]
abbrev qj:List Str:=["self","part"]
theorem o6:aI zO qj (au j7):=⟨rfl,rfl,rfl,by decide +kernel,rfl,by decide +kernel,by decide +kernel⟩
theorem x6 {T:TC} (F:gJ K T.hold "shares" "Hold.shares" j7 f fd) (X:Txt K T) (d9:Mn P w K mg base 1 T.hold "part_of" ["self","name"] (uI T)) (j8:Mn P w K mg base 1 T.hold "tops_of" ["self","part"] (DF T)) (j9:Mn P w K mg base 3 T.bot "share" ["self","top"] (A_ T)) (fH:mg "zip" = none):Mn P w K mg base 4 T.hold "shares" qj (yx T):=by
 refine F.ok o6 (fun vs H Q E h=>?_) (fun cdv A outer s H vs Q E hr h=>?_) (fun _ _ _ _ _ _ us hl=>match us,hl with | [_,_],_=>rfl)
 · obtain ⟨n,ρ,A,st,i,p,rfl,_⟩:=h.ex
   rfl
 obtain ⟨n,ρ,A,st,ip,pt,rfl,hh,ep,hkn,q⟩:=h.ex
 obtain ⟨qq,eq,k1,k2,k3,k4⟩:=hh.h.find ep
 have gO:=List.mem_of_getElem? ep
 refine ⟨_,(ah (aF (i:=2) o6.nd rfl (Or.inl rfl) (dQ j8 hr (pv 0) (aa (dQ d9 hr (pv 0) (aa (pv 1) aj)) aj)))
  (aq (aN (AR (AO ["owner","top","self"] [none,none,some 0] rfl (lO K (by rfl) fH (aa (aL K (pv 0)) (aa (pv 2) aj))) (fun _ _ _ _=>(eZ K (n:=2) rfl (bG (aG (i:=0) (show List.Nodup (["owner","top","self"] :List Str) from by decide +kernel) rfl (Or.inl rfl)) (bG (aG (i:=1) (show List.Nodup (["owner","top","self"] :List Str) from by decide +kernel) rfl (Or.inl rfl)) eX)))) (fun _ _ _ _=>(iz (aa (pv 0) (aa (dQ j9 hr (aL K (pv 2)) (aa (pv 1) aj)) aj)))) (fun _ _ _ _=>(bf gD (pv 1) ak (br _))) rfl (by rfl)))))),?_⟩
 refine ⟨_,rfl,A.a,A.dx,_,rfl,hh.h.oa,rfl,_,rfl,A.a,A.dx,_,rfl,hh.h.oa,rfl,_,rfl,⟨⟨n,ρ,A,st,ip,pt,qq,rfl,hh.h,hh.wf.jn,ep,eq,?_⟩⟩⟩
 refine ⟨⟨n,ρ,A,st,ip,pt,qq,rfl,hh.h,hh.wf,ep,eq,fun l H1 g1 hl hl1=>?_⟩⟩
 have dI:=hh.mono g1
 have cl:ρ l = none:=hh.g.none hl
 have tl:(bF st pt).length = st.own.length:=by
  unfold bF
  rw [List.length_zipWith,hh.wf.rows pt gO,hh.wf.fU,Nat.min_self]
 have c7:=hh.wf.mh
 refine ⟨A.pl,_,dI.h.eU,fun ob=>?_⟩
 have hl2:upd H1 A.pl (.cW ob (.dK (cZ 0 st.own))) l = some (.lst ((bF st pt).map V.int)):=cR dI.h.eU hl1 (fun k z=>by cases z)
 refine ⟨_,rfl,A.a,T.hold,A.dx,_,_,rfl,cR dI.h.eU dI.h.oa (fun k z=>by cases z),X.cH,X.hpl,rfl,_,rfl,_,_,_,_,_,_,rfl, .keys af, .lst (av.of hl2),fun acc hacc=>?_⟩
 have nK:H1 acc = none:=iN dI.h.eU hacc
 have ca:ρ acc = none:=dI.g.none nK
 have D0:acc ≠ A.pl:=fun e=>by rw [e,af] at hacc;cases hacc
 have Pk:acc ≠ l:=fun e=>by rw [e,hl1] at nK;cases nK
 refine KH (K:=K) (n:=st.own.length) [0,1] (fun i out Hc=>∃H5,Hc = upd H5 A.pl (.cW ob (.dK (cZ 0 st.own)))∧Gh ρ H5∧Fr n ρ H ρ H5∧aJ T n ρ A H5 { st with kn:=st.kn + i }∧H5 l = some (.lst ((bF st pt).map V.int))∧eV H5 out (((List.zip st.own (bF st pt)).take i).filterMap fun x=>if 0 < x.2 then some (x.1,Jm.fr x.2 st.prod) else none))
  (by decide) (by omega) ⟨upd H1 acc (.lst []),gh (Ne.symm D0),dI.g.alloc nK,(Fr.of_same (ρ:=ρ) g1).trans (Fr.of_same (aA nK _)),dI.h.mono (aA nK _),by rw [ao (Ne.symm Pk)];exact hl1, .nil⟩ ?_ ?_ ?_ ?_
 · rintro i out Hc hi ha ⟨H5,rfl,G5,F5,h5,l5,S5⟩
   exact ⟨af,av.of (cR h5.eU l5 (fun k z=>by cases z)),by rw [List.length_map,lH];exact hi,by rw [List.length_map,tl];exact hi⟩
 · rintro out Hc ha ⟨H5,rfl,G5,F5,h5,l5,S5⟩
   exact ⟨af,av.of (cR h5.eU l5 (fun k z=>by cases z)), .inr (by rw [List.length_map,tl];exact Nat.le_refl _)⟩
 · rintro i x out Hc H2 hi xW ha ⟨H5,rfl,G5,F5,h5,l5,S5⟩ ⟨pp,x1,y1,hpp,rfl,rfl,e1,e2⟩
   obtain ⟨t,rfl,et⟩:=dG e2
   rw [uG,List.getElem?_map] at e1
   obtain ⟨o,eo,rfl⟩:=Option.map_eq_some_iff.mp e1
   have SX:pp ≠ A.pl:=fun e=>by rw [e,af] at hpp;cases hpp
   have Rk:H5 pp = none:=iN h5.eU hpp
   have ez:(List.zip st.own (bF st pt))[i]? = some (o,t):=by rw [List.getElem?_zip_eq_some];exact ⟨eo,et⟩
   have g6:=aA Rk (.tup [.str o, .int t])
   have e6:upd (upd H5 A.pl (.cW ob (.dK (cZ 0 st.own)))) pp (.tup [.str o, .int t]) = upd (upd H5 pp (.tup [.str o, .int t])) A.pl (.cW ob (.dK (cZ 0 st.own))):=gh (Ne.symm SX)
   rw [e6]
   have G6:=G5.same g6
   have F6:=F5.trans (Fr.of_same (ρ:=ρ) g6)
   have h6:=h5.mono g6
   have l6:=g6 _ _ l5
   have S6:=S5.mono g6.tups
   have t6:upd H5 pp (.tup [.str o, .int t]) pp = some (.tup [.str o, .int t]):=af
   have ua:upd H5 pp (.tup [.str o, .int t]) acc = some (.lst out):=by
    rw [ao D0] at ha
    exact g6 _ _ ha
   generalize upd H5 pp (.tup [.str o, .int t]) = H6 at *
   have fz:∀{b:Addr} {u:HO},H6 b = some u→(∀k,u ≠ .dK k)→upd H6 A.pl (.cW ob (.dK (cZ 0 st.own))) b = some u:=fun e k=>cR h6.eU e k
   refine ⟨pp,_,rfl,cA.of (fz t6 (fun k z=>by cases z)),rfl,_,rfl,_,_,rfl,rfl,_,rfl,?_⟩
   rw [take_snoc ez,List.filterMap_append]
   refine dY (fun c=>?_) (fun c=>?_)
   · have c':0 < t:=of_decide_eq_true c
     obtain ⟨kvs,j1,j2,j3,j4⟩:=h6.okn
     have JS:A.kn ≠ A.pl:=vN h6.fT h6.fF (by intro z;cases z)
     refine ⟨_,rfl,_,rfl,A.a,T.hold,A.dx,_,_,rfl,fz h6.oa (fun k z=>by cases z),X.cH,X.vO,rfl,A.bt,A.db,_,rfl,fz h6.i_ (fun k z=>by cases z),rfl,_,rfl,
      ⟨⟨A.bt,A.db,A.sp,A.kn,st.stp,st.prod,t,kvs,rfl,fz h6.i_ (fun k z=>by cases z),fz h6.lz (fun k z=>by cases z),hh.wf.pI,hh.wf.uE,hh.wf.big,by rw [ao JS];exact j1,(fun p hp=>let ⟨t,r,e,w⟩:=j2 p hp;⟨t,r,e,fz w (fun k z=>by cases z)⟩),Nat.lt_of_le_of_lt j3 (by show st.kn + i < _;omega),j4,fun r H7 kvs' b1 b2 b3 b4 b5 b6=>?_⟩⟩⟩
     have JT:H7 A.pl = some (.cW ob (.dK (cZ 0 st.own))):=b1 _ _ af (Ne.symm JS)
     refine ⟨(by show 2≤sizeLine;decide),fun tt JU=>?_⟩
     have Pn:tt ≠ A.pl:=fun e=>by rw [e,JT] at JU;cases JU
     have k8:∀b u,H6 b = some u→b ≠ A.kn→upd H7 A.pl (.dK (cZ 0 st.own)) b = some u:=fun b u e hb=>by
      by_cases z:b = A.pl
      · rw [z] at e ⊢
        rw [show H6 A.pl = some (.dK (cZ 0 st.own)) from h6.eU] at e
        cases e;exact af
      · rw [ao z];exact b1 _ _ (by rw [ao z];exact e) hb
     have h8:=h6.Ir (m:=st.kn + i + 1) k8 (by rw [ao JS];exact b2) (fun p hp=>let ⟨t,r,e,w⟩:=b3 p hp;⟨t,r,e,fV (.inr ⟨_,JT,rfl⟩) _ _ w⟩) (Nat.le_trans b4 (Nat.succ_le_succ j3)) b5
     have G8:Gh ρ (upd H7 A.pl (.dK (cZ 0 st.own))):=fun b cc e=>by
      by_cases z:b = A.pl
      · rw [z];exact ⟨_,af,rfl⟩
      by_cases z2:b = A.kn
      · rw [z2,ao JS];exact ⟨_,b2,rfl⟩
      obtain ⟨u,a1,a2⟩:=G6 b cc e
      exact ⟨u,k8 b u a1 z2,a2⟩
     have F8:Fr n ρ H6 ρ (upd H7 A.pl (.dK (cZ 0 st.own))):=fun b u e k=>⟨k8 b u e (fun z=>k 9 ⟨#[]⟩ (by rw [z];exact h6.fT)),rfl⟩
     have SY:∀b xs,H6 b = some (.tup xs)→upd H7 A.pl (.dK (cZ 0 st.own)) b = some (.tup xs):=fun b xs e=>k8 b _ e (eL e j1 (by intro z;cases z))
     have Rl:upd H7 A.pl (.dK (cZ 0 st.own)) tt = none:=by rw [ao Pn];exact JU
     have back:H7 = upd (upd H7 A.pl (.dK (cZ 0 st.own))) A.pl (.cW ob (.dK (cZ 0 st.own))):=by rw [lM,pM JT]
     have S0:upd H7 A.pl (.dK (cZ 0 st.own)) r = some (jj (Jm.fr t st.prod)):=fV (.inr ⟨_,JT,rfl⟩) _ _ b6
     have l8:=k8 _ _ l6 (fun z=>by rw [z,j1] at l6;cases l6)
     have BO:=k8 _ _ ua (fun z=>by rw [z,j1] at ua;cases ua)
     have S8:=S6.mono SY
     have S3:=F6.trans F8
     rw [back] at JU ⊢
     generalize upd H7 A.pl (.dK (cZ 0 st.own)) = H8 at *
     have g9:=aA Rl (.tup [.str o, .ref r])
     rw [gh (Ne.symm Pn)]
     refine ⟨by rw [ao D0];exact g9 _ _ BO,_,gh (Ne.symm D0),(G8.same g9).wr rfl,(S3.trans (Fr.of_same (ρ:=ρ) g9)).new (g1.free nK),?_,?_,?_⟩
     · exact (h8.mono g9).same (Bc ca (g9 _ _ BO) rfl)
     · rw [ao (Ne.symm Pk)];exact g9 _ _ l8
     · rw [List.filterMap_cons]
       simp only [c',if_true,List.filterMap_nil]
       exact ((S8.mono g9.tups).snoc af (g9 _ _ S0)).mono (fV (.inr ⟨_,g9 _ _ BO,rfl⟩))
   · have c':¬ 0 < t:=of_decide_eq_false (Bool.eq_false_iff.mpr c)
     refine ⟨by rw [ao D0];exact ua,H6,rfl,G6,F6,?_,l6,?_⟩
     · obtain ⟨kvs,j1,j2,j3,j4⟩:=h6.okn
       exact h6.Ir (m:=st.kn + i + 1) (fun b u e _=>e) j1 j2 (Nat.le_succ_of_le j3) j4
     · rw [List.filterMap_cons]
       simp only [c',if_false,List.filterMap_nil,List.append_nil]
       exact S6
 · rintro out Hc xW ha ⟨H5,rfl,G5,F5,h5,l5,S5⟩
   rw [List.take_of_length_le (by rw [List.length_zip,tl];omega)] at S5
   refine ⟨af,?_⟩
   rw [lM,pM (show H5 A.pl = some (.dK (cZ 0 st.own)) from h5.eU)]
   rw [ao D0] at ha
   obtain ⟨kvs,j1,j2,j3,j4⟩:=h5.okn
   have h9:=h5.Ir (m:=st.kn + 100) (fun b u e _=>e) j1 j2 (Nat.le_trans j3 (by show st.kn + st.own.length≤st.kn + 100;omega)) j4
   exact q acc out ρ A H5 ⟨G5,h9,N7 hh.wf hkn⟩ rfl F5 (g1.free nK) ha ca S5
abbrev j_:Stmt:=inClass (top 21) 17
abbrev zP:List Str:=["self"]
abbrev qm:List Str:=["self"]
theorem x8:aI zP qm (au j_):=⟨rfl,rfl,rfl,by decide +kernel,rfl,by decide +kernel,by decide +kernel⟩
theorem x9 {T:TC} (F:gJ K T.hold "landed" "Hold.landed" j_ f fd) (X:Txt K T) (bW:mg "list" = none):Mn P w K mg base 1 T.hold "landed" qm (Ba T):=by
 refine F.ok x8 (fun vs H Q E h=>?_) (fun cdv A outer s H vs Q E hr h=>?_) (fun _ _ _ _ _ _ us hl=>match us,hl with | [_],_=>rfl)
 · obtain ⟨n,ρ,A,st,rfl,_⟩:=h.ex
   rfl
 obtain ⟨n,ρ,A,st,rfl,hh,q⟩:=h.ex
 obtain ⟨ws,hw,hA⟩:=hh.h.nu
 have hl:=hA.length
 have hal:=hh.wf.uF
 refine ⟨_,(aq (aN (d7 ["name","owner","worth","shares"] [none,none,none,none] rfl (cQ K (aL K (pv 0))) (fun _ _ _ _=>(eZ K (n:=4) rfl (bG (aG (i:=0) (show List.Nodup (["name","owner","worth","shares"] :List Str) from by decide +kernel) rfl (Or.inl rfl)) (bG (aG (i:=1) (show List.Nodup (["name","owner","worth","shares"] :List Str) from by decide +kernel) rfl (Or.inl rfl)) (bG (aG (i:=2) (show List.Nodup (["name","owner","worth","shares"] :List Str) from by decide +kernel) rfl (Or.inl rfl)) (bG (aG (i:=3) (show List.Nodup (["name","owner","worth","shares"] :List Str) from by decide +kernel) rfl (Or.inl rfl)) eX)))))) (fun _ _ _ _=>(iz (aa (pv 0) (aa (pv 1) (aa (pv 2) (aa (iZ (iG K) (by rfl) bW PyProof.Rows.boot_list (aa (pv 3) aj)) aj)))))) rfl (by rfl)))),?_⟩
 refine ⟨_,rfl,A.a,T.hold,A.dx,_,_,rfl,hh.h.oa,X.cH,X.has,rfl,A.as,rfl,⟨_,av.of hw⟩,fun acc hacc=>?_⟩
 refine qL (K:=K) (n:=ws.length) [0,1,2,3] (fun i out H1=>aD H H1∧gi acc ρ H1 out (st.iA.take i)) (by decide) (by omega) ⟨aA hacc _, .nil⟩ (fun i out H1 hi _ hp=>⟨ws,_,av.of (hp.1 _ _ hw),List.getElem?_eq_getElem hi⟩) (fun out H1 _ hp=>⟨ws,av.of (hp.1 _ _ hw),Nat.le_refl _⟩) ?_ ?_
 · rintro i x out H1 H2 hi c7 ha ⟨g,hL⟩ ⟨rfl,hy⟩
   have ex:=hy ws (av.of (g _ _ hw))
   obtain ⟨r,l,y,ss,rfl,ey,a1,a2,a3,a4⟩:=hA.get ex
   refine ⟨r,_,rfl,cA.of (g _ _ a1),rfl,_,rfl,_,rfl,_,rfl,_,rfl,l,ss,rfl, .inl (av.of (g _ _ a2)),fun l2 hl2=>⟨(by show 4≤sizeLine;decide),fun t ht=>?_⟩⟩
   have g2:=aA hl2 (.lst ss)
   have g3:=aA ht (.tup [.str y.nm, .str y.ow, .int y.wo, .ref l2])
   have hl3:upd H2 l2 (.lst ss) l2 = some (.lst ss):=af
   have c2:ρ l2 = none:=hh.g.none (g.free hl2)
   refine ⟨(g2.trans g3) _ _ ha,((g.trans g2).trans g3).bI hacc _,?_⟩
   rw [take_snoc ey]
   have n1:l2 ≠ acc:=fun e=>by rw [e,ha] at hl2;cases hl2
   exact ((hL.mono (g2.trans g3)).snoc (x:=y) af (g3 _ _ hl3) c2 n1 (a4.mono ((g.trans g2).trans g3).tups)).upd ((g2.trans g3) _ _ ha)
 rintro out H1 c7 ha ⟨g,hL⟩
 rw [hl,List.take_length] at hL
 exact q acc out H1 g hacc ha hL.to
abbrev mU:Stmt:=top 26
abbrev CK:List Str:=["_law_script","_law_k","_law_j","_law_many","_law_cell","_law_turn","_law_rest","_law_step","_law_one","_law_two"]
abbrev uc:List Str:=["_law_script","_law_k","_law_j","_law_many"]
theorem cT:aI CK uc (au mU):=⟨rfl,rfl,rfl,by decide +kernel,rfl,by decide +kernel,by decide +kernel⟩
theorem BR (F:At K mg "_law_draw" mU f fd) (aZ:mg "len" = none) (bg:mg "range" = none):Dn P w K mg base 1 "_law_draw" uc (lW K):=by
 refine F.ok cT (fun vs H Q E h=>?_) (fun cdv A outer s H vs Q E hr h=>?_) (fun _ _ _ _ _ _ us hl=>match us,hl with | [_,_,_,_],_=>rfl)
 · obtain ⟨a,ns,k,j,many,rfl,_⟩:=h.ex
   rfl
 obtain ⟨a,ns,k,j,many,rfl,hS,h63,hk,hj,hj2,hm,q⟩:=h.ex
 refine ⟨_,(ah (aF (i:=4) cT.nd rfl (Or.inl rfl) ak)
  (ah (aF (i:=5) cT.nd rfl (Or.inl rfl) ak)
  (ah (gI (bf gD (aE (bA K) (by rfl) aZ PySem.boot_len (aa (pv 0) aj)) ak (br _)) (ah (aF (i:=4) cT.nd rfl (Or.inl rfl) (aK (aM K) (pv 0) (aB fJ (pv 1) (aE (bA K) (by rfl) aZ PySem.boot_len (aa (pv 0) aj))) (fun _ _=>rfl)))
  (aq (aF (i:=5) cT.nd rfl (Or.inl rfl) (aB dF (pv 1) (aE (bA K) (by rfl) aZ PySem.boot_len (aa (pv 0) aj)))))) aQ)
  (ah (aF (i:=6) cT.nd rfl (Or.inl rfl) (pv 4))
  (ah (cC PassesOwn.never rfl (cE (by rfl) bg (aa (pv 2) aj)) (aG (i:=7) cT.nd rfl (Or.inl rfl)) (aq (aF (i:=6) cT.nd rfl (Or.inl rfl) (aB dF (pv 6) (aB lS ak ak)))))
  (ah (bM (dw (PW.pt (qx (bf lD (pv 5) ak (br _)) (qx (bf Jg (pv 4) (aB lS ak ak) (br _)) (sj (bf gD (pv 6) ak (br _))))))) (aq (aN (aB fJ (aB fJ (pv 6) (aB lS ak ak)) (pv 3)))) aQ)
  (ah (aF (i:=8) cT.nd rfl (Or.inl rfl) (aB fJ (aB bP (aB bP (aB bP (aB fm (pv 4) ak) (aB fm (pv 1) ak)) (aB fm (pv 2) ak)) ak) ak))
  (ah (aF (i:=9) cT.nd rfl (Or.inl rfl) (aB fJ (aB bP (aB fm (pv 8) ak) (aB dF (pv 4) ak)) ak))
  (ah (aF (i:=9) cT.nd rfl (Or.inl rfl) (aB fJ (aB bP (aB fm (pv 9) (aB bP (aB fJ (pv 8) ak) ak)) (pv 2)) ak))
  (aq (aN (aB fJ (aB fJ (aB bP (aB bP (aB fm (pv 8) ak) (aB fm (pv 9) ak)) (aB dF (pv 9) ak)) ak) (pv 3))))))))))))),?_⟩
 have hl:(ns.map V.int).length = ns.length:=List.length_map _
 refine ⟨fun σ H'=>H' = H∧σ = [some (.ref a),some (.int k),some (.int j),some (.int many),some (.int (Jm.cellOf ns k)),some (.int (Jm.qG ns k)),none,none,none,none],?_,?_⟩
 · refine ⟨_,rfl,a,_,rfl, .inl hS,_,_,rfl,rfl,_,rfl,?_⟩
   refine dY (fun c=>?_) (fun c=>?_)
   · have c':0 < (((ns.map V.int).length:Nat):Int):=of_decide_eq_true c
     rw [hl] at c'
     have i0:0≤k % (ns.length:Int):=Int.emod_nonneg _ (by omega)
     have i1:k % (ns.length:Int) < (ns.length:Int):=Int.emod_lt_of_pos _ c'
     refine ⟨_,rfl,_,rfl,_,rfl,a,_,rfl, .inl hS,_,_,rfl,rfl,(by show (0:Int) < _;rw [hl];exact c'),a,_,_, .int (ns.getD (k % ns.length).toNat 0),rfl,rfl,hS,?_,?_⟩
     · rw [hl]
       exact Ky i0 i1
     refine ⟨_,rfl,_,rfl,a,_,rfl, .inl hS,_,_,rfl,rfl,HW (n:=10) (by rw [hl];exact c') (by rw [hl];omega) (by decide),rfl,?_⟩
     unfold Jm.cellOf Jm.qG
     rw [if_pos c',if_pos c',hl]
     rfl
   · have c':¬ 0 < (((ns.map V.int).length:Nat):Int):=of_decide_eq_false (Bool.eq_false_iff.mpr c)
     rw [hl] at c'
     refine ⟨rfl,?_⟩
     unfold Jm.cellOf Jm.qG
     rw [if_neg c',if_neg c']
     rfl
 rintro σ H' ⟨rfl,rfl⟩
 generalize ec:Jm.cellOf ns k = cell at *
 generalize et:Jm.qG ns k = turn at *
 refine ⟨_,rfl,_,rfl,j,rfl,by omega,hj2,?_⟩
 refine c9 (lo:=0) (n:=j.toNat) (fun i σ vW=>vW = H'∧∃st:Option V,σ = [some (.ref a),some (.int k),some (.int j),some (.int many),some (.int cell),some (.int turn),some (.int (Jm.vA cell i)),st,none,none]) ⟨rfl,none,rfl⟩ ?_ ?_
 · rintro i σ vW hi ⟨rfl,st,rfl⟩
   refine ⟨_,rfl,_,_,rfl,rfl,⟨by decide,by decide,by decide⟩,_,_,rfl,rfl,qF (by decide +kernel),rfl,?_⟩
   exact ⟨_,rfl⟩
 rintro σ vW ⟨rfl,st,rfl⟩
 have full:Q (.int (Jm.draw ns k j many)) vW:=q
 unfold Jm.draw at full
 rw [ec,et] at full
 generalize er:Jm.vA cell j.toNat = rest at *
 refine ⟨decide (turn = 0∧1000000000000000000≤cell∧0 < rest),?_,?_⟩
 · refine ⟨_,rfl,rfl,_,rfl,?_⟩
   by_cases h1:turn = 0
   · rw [decide_eq_true (by rw [h1] :V.int turn = V.int 0)]
     refine pC ⟨_,rfl,_,_,rfl,rfl,⟨by decide,by decide,by decide⟩,_,_,rfl,rfl,_,rfl,?_⟩
     by_cases h2:1000000000000000000≤cell
     · rw [decide_eq_true (show (10:Int) ^ (18:Int).toNat≤cell from h2)]
       refine pC ⟨_,rfl,_,_,rfl,rfl,_,rfl,?_,rfl⟩
       by_cases h3:0 < rest
       · rw [decide_eq_true h3,decide_eq_true ⟨h1,h2,h3⟩]
       · rw [decide_eq_false h3,decide_eq_false fun z=>h3 z.2.2]
     · rw [decide_eq_false (show ¬ (10:Int) ^ (18:Int).toNat≤cell from h2)]
       exact bN ⟨(decide_eq_false fun z=>h2 z.2.1).symm,rfl⟩
   · rw [decide_eq_false (fun z=>h1 (V.int.inj z))]
     exact bN ⟨(decide_eq_false fun z=>h1 z.1).symm,rfl⟩
 by_cases h:turn = 0∧1000000000000000000≤cell∧0 < rest
 · rw [decide_eq_true h]
   rw [if_pos h] at full
   refine pC ⟨_,rfl,_,_,rfl,rfl,⟨by decide,by decide,by decide⟩,_,_,rfl,rfl,(by show (0:Int) < _;decide),_,rfl,_,_,rfl,rfl,hm,?_⟩
   exact full
 · rw [decide_eq_false h]
   rw [if_neg h] at full
   refine bN ?_
   refine ⟨_,rfl,_,_,rfl,rfl, .inr ⟨by decide,by decide⟩,_,rfl,_,_,rfl,rfl, .inr ⟨by decide,by decide⟩,_,_,rfl,rfl,_,rfl,_,_,rfl,rfl, .inr ⟨by decide,by decide⟩,_,_,rfl,rfl,_,_,rfl,rfl,_,_,rfl,rfl,(by show (0:Int) < _;decide),?_⟩
   refine ⟨_,rfl,_,_,rfl,rfl, .inr ⟨by decide,by decide⟩,_,rfl,_,_,rfl,rfl,qF (by decide +kernel),_,_,rfl,rfl,_,_,rfl,rfl,(by show (0:Int) < _;decide),?_⟩
   unfold Jm.mixed at full
   dsimp only at full ⊢
   generalize e1:(cell * 7919 + k * 104729 + j * 1299709 + 31) % 1000000007 = one at *
   generalize e2:(one * 48271 + cell / 1009) % 998244353 = two at *
   have b1:0≤one % 9973:=Int.emod_nonneg _ (by decide)
   have b2:one % 9973 < 9973:=Int.emod_lt_of_pos _ (by decide)
   refine ⟨_,rfl,_,rfl,_,_,rfl,rfl,(by show (0:Int) < _;decide),_,_,rfl,rfl,_,_,rfl,rfl, .inr ⟨by omega,by omega⟩,_,rfl,_,_,rfl,rfl,_,_,rfl,rfl,(by show (0:Int) < _;decide),?_⟩
   refine ⟨_,rfl,_,_,rfl,rfl, .inr ⟨by decide,by decide⟩,_,rfl,_,_,rfl,rfl, .inr ⟨by decide,by decide⟩,_,_,rfl,rfl,_,rfl,_,_,rfl,rfl,qF (by decide +kernel),_,_,rfl,rfl,_,_,rfl,rfl,(by show (0:Int) < _;decide),_,rfl,_,_,rfl,rfl,hm,?_⟩
   exact full
abbrev mV:Stmt:=top 27
abbrev CL:List Str:=["_law_code","_law_size","_law_word","_law_at_here"]
abbrev ud:List Str:=["_law_code","_law_size"]
theorem gP:aI CL ud (au mV):=⟨rfl,rfl,rfl,by decide +kernel,rfl,by decide +kernel,by decide +kernel⟩
theorem BU (F:At K mg "_law_name" mV f fd) (bg:mg "range" = none):Dn P w K mg base 1 "_law_name" ud xw:=by
 refine F.ok gP (fun vs H Q E h=>?_) (fun cdv A outer s H vs Q E hr h=>?_) (fun _ _ _ _ _ _ us hl=>match us,hl with | [_,_],_=>rfl)
 · obtain ⟨c,n,rfl,_⟩:=h.ex
   rfl
 obtain ⟨c,n,rfl,hc,hn,q⟩:=h.ex
 refine ⟨_,(ah (aF (i:=2) gP.nd rfl (Or.inl rfl) bO)
  (ah (cC PassesOwn.never rfl (cE (by rfl) bg (aa (pv 1) aj)) (aG (i:=3) gP.nd rfl (Or.inl rfl)) (ah (aF (i:=2) gP.nd rfl (Or.inl rfl) (aB Ef (pv 2) (aK Fi bO (aB fJ (pv 0) ak) (fun _ _=>rfl))))
  (aq (aF (i:=0) gP.nd rfl (Or.inl rfl) (aB dF (pv 0) ak)))))
  (aq (aN (pv 2))))),?_⟩
 refine ⟨_,rfl,_,rfl,by omega,by omega,?_⟩
 refine c9 (lo:=0) (n:=(n:Int).toNat) (fun i σ H'=>H' = H∧∃(s1:Option V),σ = [some (.int (c / 26 ^ i)),some (.int n),some (.str (tx (gE c i))),s1]) ⟨rfl,none,by rw [Int.pow_zero,Int.ediv_one];rfl⟩ ?_ ?_
 · rintro i σ H' hi ⟨rfl,s1,rfl⟩
   have hp:(0:Int) < 26 ^ i:=Int.pow_pos (by decide)
   have hd0:0≤c / 26 ^ i:=Int.ediv_nonneg hc (Int.le_of_lt hp)
   have hm0:0≤c / 26 ^ i % 26:=Int.emod_nonneg _ (by decide)
   have hm1:c / 26 ^ i % 26 < 26:=Int.emod_lt_of_pos _ (by decide)
   refine ⟨_,rfl,_,rfl,_,_,rfl,rfl,(by show (0:Int) < 26;decide),_,_,_,rfl,rfl,(by decide +kernel),FN hm0 hm1,?_⟩
   refine ⟨_,_,rfl,rfl,?_,?_⟩
   · rw [qI,pF]
     show i + 1≤sizeLine
     exact Nat.le_of_lt (cO (by omega))
   refine ⟨_,rfl,_,_,rfl,rfl,lX (by decide) (jk (by decide +kernel)),rfl,some (.int ((0:Int) + (i:Int))),?_⟩
   have e1:c / 26 ^ i / 26 = c / 26 ^ (i + 1):=by rw [Int.ediv_ediv_of_nonneg (Int.le_of_lt hp),Int.pow_succ]
   have e2:(tx (gE c i) ++ tx [97 + (c / 26 ^ i % 26).toNat] :Str) = tx (gE c (i + 1)):=by rw [L6,Ie]
   rw [← e1,← e2]
   rfl
 rintro σ H' ⟨rfl,s1,rfl⟩
 refine ⟨_,rfl,?_⟩
 rw [Int.toNat_natCast]
 exact q
abbrev kU:Stmt:=top 28
abbrev BV:List Str:=["_law_script","_law_k","_law_many","_law_alike","_law_size","_law_first","_law_shift","_law_at_here","_law_names_here","_law_code"]
abbrev rL:List Str:=["_law_script","_law_k","_law_many"]
theorem bY:aI BV rL (au kU):=⟨rfl,rfl,rfl,by decide +kernel,rfl,by decide +kernel,by decide +kernel⟩
theorem zQ (F:At K mg "_law_names" kU f fd) (aU:Dn P w K mg base 1 "_law_draw" ["_law_script","_law_k","_law_j","_law_many"] (lW K)) (ko:Dn P w K mg base 1 "_law_name" ["_law_code","_law_size"] xw) (bg:mg "range" = none):Dn P w K mg base 2 "_law_names" rL (xx K):=by
 refine F.ok bY (fun vs H Q E h=>?_) (fun cdv A outer s H vs Q E hr h=>?_) (fun _ _ _ _ _ _ us hl=>match us,hl with | [_,_,_],_=>rfl)
 · obtain ⟨a,ms,k,many,rfl,_⟩:=h.ex
   rfl
 obtain ⟨a,ms,k,many,rfl,hS,h63,hk,hm,q⟩:=h.ex
 refine ⟨_,(ah (aF (i:=3) bY.nd rfl (Or.inl rfl) (sr lD (a_ aU hr (aa (pv 0) (aa (pv 1) (aa ak (aa ak aj))))) ak (br _)))
  (ah (aF (i:=4) bY.nd rfl (Or.inl rfl) (aB bP ak (a_ aU hr (aa (pv 0) (aa (pv 1) (aa ak (aa ak aj)))))))
  (ah (aF (i:=5) bY.nd rfl (Or.inl rfl) (a_ aU hr (aa (pv 0) (aa (pv 1) (aa ak (aa (aB lS ak ak) aj))))))
  (ah (aF (i:=6) bY.nd rfl (Or.inl rfl) ak)
  (ah (gI (bU (pv 3)) (aq (cC PassesOwn.never rfl (cE (by rfl) bg (aa (a_ aU hr (aa (pv 0) (aa (pv 1) (aa ak (aa (pv 4) aj))))) aj)) (aG (i:=7) bY.nd rfl (Or.inl rfl)) (aq (aF (i:=6) bY.nd rfl (Or.inl rfl) (aB fm (pv 6) ak))))) aQ)
  (ah (aF (i:=8) bY.nd rfl (Or.inl rfl) (fK aj))
  (ah (cC PassesOwn.never rfl (cE (by rfl) bg (aa (pv 2) aj)) (aG (i:=7) bY.nd rfl (Or.inl rfl)) (ah (aF (i:=9) bY.nd rfl (Or.inl rfl) (aB bP (pv 5) (aB fm (pv 6) (a_ aU hr (aa (pv 0) (aa (pv 1) (aa (aB bP ak (aB fm ak (pv 7))) (aa ak aj))))))))
  (ah (gI (b8 (bU (pv 3))) (ah (aF (i:=4) bY.nd rfl (Or.inl rfl) (aB bP ak (a_ aU hr (aa (pv 0) (aa (pv 1) (aa (aB bP ak (aB fm ak (pv 7))) (aa ak aj)))))))
  (aq (aF (i:=9) bY.nd rfl (Or.inl rfl) (a_ aU hr (aa (pv 0) (aa (pv 1) (aa (aB bP ak (aB fm ak (pv 7))) (aa (aB lS ak ak) aj)))))))) aQ)
  (ah (uw PassesOwn.never (bf Fl (a_ ko hr (aa (pv 9) (aa (pv 4) aj))) (pv 8) (by with_unfolding_all rfl)) (aq (aF (i:=9) bY.nd rfl (Or.inl rfl) (aB bP (pv 9) (pv 6)))))
  (aq (bZ (lF PySem.F.plainAttrs_list PySem.F.slot_list_append PySem.F.type_list_append dP (pv 8) (aa (a_ ko hr (aa (pv 9) (aa (pv 4) aj))) aj))))))))
  (aq (aN (pv 8)))))))))),?_⟩
 have Po:Ln 10 10:=⟨by decide,by decide,by decide +kernel⟩
 refine ⟨_,rfl,_,rfl,cG hS h63 hk (by decide) (by decide) (by decide) fun al _ _ _=>⟨rfl,?_⟩⟩
 refine ⟨_,rfl,_,rfl,cG hS h63 hk (by decide) (by decide) (by decide) fun sd _ s0 s1=>⟨_,_,rfl,rfl,?_⟩⟩
 refine ⟨_,rfl,_,rfl,_,_,rfl,rfl,Po,cG hS h63 hk (by decide) (by decide) (by decide +kernel) fun fc _ f0 f1=>?_⟩
 generalize hal:decide (V.int al = V.int 0) = alike
 obtain ⟨n0,S4⟩:∃n:Nat,1 + sd = (n:Int):=⟨(1 + sd).toNat,by omega⟩
 refine ⟨fun σ H'=>H' = H∧∃(d:Nat) (s7:Option V),(alike = true→d < n0)∧(alike = false→d = 0)∧d < 8∧σ = [some (.ref a),some (.int k),some (.int many),some (.bl alike),some (.int (1 + sd)),some (.int fc),some (.int ((26:Int) ^ d)),s7,none,none],?_,?_⟩
 · refine ⟨_,rfl,_,rfl,dY (fun c=>?_) (fun c=>?_)⟩
   · refine ⟨_,rfl,_,rfl,_,rfl,cG hS h63 hk (by decide) (by decide) (by omega) fun dd _ d0 d1=>⟨dd,rfl,by omega,by omega,?_⟩⟩
     refine c9 (lo:=0) (n:=dd.toNat) (fun i σ H'=>H' = H∧∃s7:Option V,σ = [some (.ref a),some (.int k),some (.int many),some (.bl alike),some (.int (1 + sd)),some (.int fc),some (.int ((26:Int) ^ i)),s7,none,none]) ⟨rfl,none,rfl⟩ ?_ ?_
     · rintro i σ H' hi ⟨rfl,s7,rfl⟩
       refine ⟨_,rfl,_,_,rfl,rfl, .inr ⟨by decide,by decide⟩,rfl,some (.int ((0:Int) + (i:Int))),?_⟩
       rw [Int.pow_succ]
       rfl
     · rintro σ H' ⟨rfl,s7,rfl⟩
       exact ⟨rfl,dd.toNat,s7,fun _=>by omega,fun z=>absurd c (by rw [z];exact Bool.false_ne_true),by omega,rfl⟩
   · exact ⟨rfl,0,none,fun z=>absurd z c,fun _=>rfl,by decide,rfl⟩
 rintro σ H' ⟨rfl,d,s7,hd1,hd2,Pg,rfl⟩
 refine ⟨(by show 0≤sizeLine;decide),fun pn wc=>?_⟩
 have g0:=aA wc (.lst [])
 refine ⟨_,rfl,(many:Int),rfl,by omega,by omega,?_⟩
 refine c9 (lo:=0) (n:=(many:Int).toNat) (fun i σ H2=>aD H' H2∧∃(nss:List (List Nat)) (n:Nat) (s1 s2:Option V),d < n∧n≤8∧σ = [some (.ref a),some (.int k),some (.int many),some (.bl alike),some (.int (n:Int)),some (.int fc),some (.int ((26:Int) ^ d)),s1,some (.ref pn),s2]∧H2 pn = some (.lst (lZ nss))∧nss.length = i∧nss.Nodup∧∀x∈nss,lY x)
  ⟨g0,[],n0,s7,none,?_,by omega,by rw [← S4];rfl,af,rfl,List.nodup_nil,fun _ m=>nomatch m⟩ ?_ ?_
 · cases alike with
   | true=>exact hd1 rfl
   | false=>rw [hd2 rfl];omega
 · rintro i σ H2 hi ⟨g,nss,n,s1,s2,hdn,D3,rfl,hn,hnl,hnd,hok⟩
   have hsl:(lZ nss).length = i:=by unfold lZ;rw [List.length_map];exact hnl
   have MS:=g.seq hS
   have hp:(0:Int) < 26 ^ d:=Int.pow_pos (by decide)
   have Mz:(26:Int) ^ d < 2 ^ 64:=by
    rcases (by omega:d = 0∨d = 1∨d = 2∨d = 3∨d = 4∨d = 5∨d = 6∨d = 7) with e | e | e | e | e | e | e | e <;> (rw [e];decide +kernel)
   refine ⟨_,rfl,_,rfl,_,rfl,_,rfl,_,rfl,_,_,rfl,rfl, .inl ⟨by decide,by decide⟩,_,_,rfl,rfl,cG MS h63 hk (by omega) (by omega) (by decide) fun cd _ c0 c1=>⟨_,_,rfl,rfl, .inl ⟨by omega,Mz⟩,_,_,rfl,rfl,?_⟩⟩
   have hcode:0≤fc + 26 ^ d * cd:=Int.add_nonneg f0 (Int.mul_nonneg (Int.le_of_lt hp) c0)
   refine ⟨fun σ H3=>H3 = H2∧∃(n:Nat) (c:Int),0≤c∧d < n∧n≤8∧σ = [some (.ref a),some (.int k),some (.int many),some (.bl alike),some (.int (n:Int)),some (.int fc),some (.int ((26:Int) ^ d)),some (.int ((0:Int) + (i:Int))),some (.ref pn),some (.int c)],?_,?_⟩
   · refine ⟨_,rfl,_,rfl,?_⟩
     cases hb:alike with
     | true=>exact bN ⟨rfl,n,_,hcode,hdn,D3,rfl⟩
     | false=>
       refine pC ?_
       have hd0:=hd2 hb
       refine ⟨_,rfl,_,rfl,_,rfl,_,_,rfl,rfl, .inl ⟨by decide,by decide⟩,_,_,rfl,rfl,cG MS h63 hk (by omega) (by omega) (by decide) fun zd _ z0 z1=>⟨_,_,rfl,rfl,?_⟩⟩
       refine ⟨_,rfl,_,rfl,_,rfl,_,_,rfl,rfl, .inl ⟨by decide,by decide⟩,_,_,rfl,rfl,_,_,rfl,rfl,Po,cG MS h63 hk (by omega) (by omega) (by decide +kernel) fun S7 _ e0 _=>?_⟩
       refine ⟨rfl,(1 + zd).toNat,S7,e0,by omega,by omega,?_⟩
       rw [show (((1 + zd).toNat:Nat):Int) = 1 + zd from by omega]
       rfl
   clear hdn D3 hcode
   rintro σ H3 ⟨rfl,n,nL,S9,hdn,D3,rfl⟩
   refine ⟨fun m σ H4=>H4 = H3∧∃t:Nat,m = nss.length + 1 - t∧t≤nss.length∧σ = [some (.ref a),some (.int k),some (.int many),some (.bl alike),some (.int (n:Int)),some (.int fc),some (.int ((26:Int) ^ d)),some (.int ((0:Int) + (i:Int))),some (.ref pn),some (.int (nL + (t:Int) * 26 ^ d))]∧∀j:Nat,j < t→gE (nL + (j:Int) * 26 ^ d) n∈nss,
    ⟨_,rfl,0,rfl,Nat.zero_le _,by rw [show nL + ((0:Nat):Int) * 26 ^ d = nL from by simp],fun j hj=>absurd hj (Nat.not_lt_zero _)⟩,?_⟩
   rintro m σ H4 ⟨rfl,t,rfl,ht,rfl,htr⟩
   have hct:0≤nL + (t:Int) * 26 ^ d:=Int.add_nonneg S9 (Int.mul_nonneg (by omega) (Int.le_of_lt hp))
   refine ⟨_,rfl,_,rfl,AN rfl hct (by omega) ?_⟩
   refine ⟨_,rfl,pn,_,rfl, .inl (av.of hn),rfl,Ih nss,?_⟩
   show ∃b,V.bl (if false = true then !Dj (.str (tx (gE (nL + (t:Int) * 26 ^ d) n))) (lZ nss) else Dj (.str (tx (gE (nL + (t:Int) * 26 ^ d) n))) (lZ nss)) = .bl b∧_
   rw [if_neg Bool.false_ne_true,KC]
   refine ⟨_,rfl,dY (fun c=>?_) (fun c=>?_)⟩
   · have hmem:gE (nL + (t:Int) * 26 ^ d) n∈nss:=of_decide_eq_true c
     have MT:∀j:Nat,j < t + 1→gE (nL + (j:Int) * 26 ^ d) n∈nss:=fun j hj=>by
      rcases Nat.lt_succ_iff_lt_or_eq.mp hj with z | z
      · exact htr j z
      · rw [z];exact hmem
     have hle:=FT (c:=nL) (n:=n) (t:=t + 1) hdn (by omega) MT
     refine ⟨_,fun _ _ z=>z,?_⟩
     refine ⟨_,rfl,_,rfl,_,_,rfl,rfl,?_⟩
     refine ⟨_,(by omega:nss.length + 1 - (t + 1) < nss.length + 1 - t),rfl,t + 1,rfl,hle,?_,MT⟩
     rw [show nL + ((t + 1:Nat):Int) * 26 ^ d = nL + (t:Int) * 26 ^ d + 26 ^ d from by rw [Int.natCast_add,Int.add_mul];show _ + (_ + 1 * _) = _;rw [Int.one_mul,Int.add_assoc]]
     rfl
   · have hnm:gE (nL + (t:Int) * 26 ^ d) n ∉ nss:=of_decide_eq_false (Bool.eq_false_iff.mpr c)
     refine ⟨_,rfl, .inl ⟨rfl,_,av.of hn⟩,?_⟩
     refine ⟨_,rfl,_,rfl,AN rfl hct (by omega) ?_⟩
     refine ⟨pn,lZ nss,_,rfl,rfl,hn,cO (by omega),g.bI wc _,nss ++ [gE (nL + (t:Int) * 26 ^ d) n],n,_,_,hdn,D3,rfl,?_,?_,i7 hnd hnm,fun x hx=>?_⟩
     · rw [af]
       unfold lZ
       rw [List.map_append]
       rfl
     · rw [List.length_append,hnl]
       rfl
     · rcases List.mem_append.mp hx with z | z
       · exact hok x z
       · rw [List.mem_singleton.mp z]
         exact L_ _ (by omega) D3
 rintro σ H2 ⟨g,nss,n,s1,s2,hdn,D3,rfl,hn,hnl,hnd,hok⟩
 exact ⟨_,rfl,q pn nss H2 g hn wc (by omega) hnd hok⟩
abbrev mW:Stmt:=top 30
abbrev CM:List Str:=["_law_script","_law_k","_law_j","_law_size"]
abbrev ue:List Str:=["_law_script","_law_k","_law_j"]
theorem rM:aI CM ue (au mW):=⟨rfl,rfl,rfl,by decide +kernel,rfl,by decide +kernel,by decide +kernel⟩
theorem BW (F:At K mg "_law_much" mW f fd) (aU:Dn P w K mg base 1 "_law_draw" ["_law_script","_law_k","_law_j","_law_many"] (lW K)):Dn P w K mg base 2 "_law_much" ue (AM K):=by
 refine F.ok rM (fun vs H Q E h=>?_) (fun cdv A outer s H vs Q E hr h=>?_) (fun _ _ _ _ _ _ us hl=>match us,hl with | [_,_,_],_=>rfl)
 · obtain ⟨a,ns,k,j,rfl,_⟩:=h.ex
   rfl
 obtain ⟨a,ns,k,j,rfl,hS,h63,hk,hj,hj2,q⟩:=h.ex
 refine ⟨_,(ah (aF (i:=3) rM.nd rfl (Or.inl rfl) (aK (aM K) (fK (aa ak (aa ak (aa ak (aa (aB lS ak ak) aj))))) (a_ aU hr (aa (pv 0) (aa (pv 1) (aa (pv 2) (aa ak aj))))) (fun _ _=>rfl)))
  (aq (aN (aB bP ak (a_ aU hr (aa (pv 0) (aa (pv 1) (aa (aB bP (pv 2) ak) (aa (pv 3) aj))))))))),?_⟩
 refine ⟨_,_,rfl,rfl,⟨by decide,by decide,by decide⟩,(by show 4≤sizeLine;decide),fun p1 hp1=>?_⟩
 have g1:=aA hp1 (.lst [V.int 9,V.int 40,V.int 1000,V.int (10 ^ (9:Int).toNat)])
 refine ⟨_,rfl,_,rfl,_,rfl,cG (g1.seq hS) h63 hk hj (by omega) (by decide) fun d _ d0 d1=>?_⟩
 obtain ⟨B,hB,S_,UM⟩:∃B:Int,oG [V.int 9,V.int 40,V.int 1000,V.int (10 ^ (9:Int).toNat)] d = some (.int B)∧0 < B∧B≤1000000000:=by
  rcases (by omega:d = 0∨d = 1∨d = 2∨d = 3) with e | e | e | e
  · exact ⟨9,by rw [e];rfl,by decide,by decide⟩
  · exact ⟨40,by rw [e];rfl,by decide,by decide⟩
  · exact ⟨1000,by rw [e];rfl,by decide,by decide⟩
  · exact ⟨10 ^ (9:Int).toNat,by rw [e];rfl,by decide,by decide⟩
 refine ⟨p1,_,_,_,rfl,rfl,av.of af,hB,?_⟩
 refine ⟨_,rfl,_,rfl,_,rfl,_,_,rfl,rfl,_,rfl,cG (g1.seq hS) h63 hk (by omega) (by omega) S_ fun e _ e0 e1=>⟨_,_,rfl,rfl,?_⟩⟩
 exact q (1 + e) _ (by omega) (by omega) g1
abbrev nV:Stmt:=top 39
abbrev EJ:List Str:=["_law_found"]
abbrev wL:List Str:=["_law_found"]
theorem CN:aI EJ wL (au nV):=⟨rfl,rfl,rfl,by decide +kernel,rfl,by decide +kernel,by decide +kernel⟩
theorem CO (F:At K mg "_law_int" nV f fd) (aR:mg "isinstance" = none) (EK:mg "int" = none) (BX:mg "bool" = none):Dn P w K mg base 1 "_law_int" wL vB:=by
 refine F.ok CN (fun vs H Q E h=>?_) (fun cdv A outer s H vs Q E hr h=>?_) (fun _ _ _ _ _ _ us hl=>match us,hl with | [_],_=>rfl)
 · obtain ⟨a,rfl,_⟩:=h
   rfl
 obtain ⟨i,rfl,q⟩:=h
 refine ⟨_,(aq (aN (Ak (aE (bS K) (by rfl) aR PyProof.Rows.boot_isinstance (aa (pv 0) (aa (gf PyProof.Rows.boot_int rfl EK) aj))) (Aj (Le (aE (bS K) (by rfl) aR PyProof.Rows.boot_isinstance (aa (pv 0) (aa (gf PyProof.Rows.boot_bool rfl BX) aj)))))))),?_⟩
 refine ⟨_,rfl,_,_,_,_,rfl,dO.int i,eE,_,rfl,pC ?_⟩
 refine ⟨_,rfl,_,_,_,_,rfl,dO.int i,AE,_,rfl,?_⟩
 exact q
abbrev kW:Stmt:=top 41
abbrev BY:List Str:=["_law_top","_law_bottom","_law_one","_law_other"]
abbrev rN:List Str:=["_law_top","_law_bottom"]
theorem iJ:aI BY rN (au kW):=⟨rfl,rfl,rfl,by decide +kernel,rfl,by decide +kernel,by decide +kernel⟩
theorem zR (F:At K mg "_law_least" kW f fd) (EL:mg "abs" = none):Dn P w K mg base 1 "_law_least" rN sM:=by
 refine F.ok iJ (fun vs H Q E h=>?_) (fun cdv A outer s H vs Q E hr h=>?_) (fun _ _ _ _ _ _ us hl=>match us,hl with | [_,_],_=>rfl)
 · obtain ⟨a,b,rfl,_⟩:=h.ex
   rfl
 obtain ⟨t,b,rfl,hb,hb2,q⟩:=h.ex
 refine ⟨_,(ah (aF (i:=2) iJ.nd rfl (Or.inl rfl) (aE HD (by rfl) EL PyProof.Rows.boot_abs (aa (pv 0) aj)))
  (ah (aF (i:=3) iJ.nd rfl (Or.inl rfl) (pv 1))
  (ah (uw PassesOwn.never (bf jg (pv 3) ak (br _)) (aq (E4 (i:=2) (j:=3) rfl iJ.nd rfl rfl (by decide) rfl rfl (aa (pv 3) (aa (aB fJ (pv 2) (pv 3)) aj)) (by rfl))))
  (aq (aN (iz (aa (aB dF (pv 0) (pv 2)) (aa (aB dF (pv 1) (pv 2)) aj)))))))),?_⟩
 refine ⟨_,rfl,_,rfl,_,rfl,?_⟩
 refine ⟨fun m σ H'=>∃x y:Int,m = y.toNat∧σ = [some (.int t),some (.int b),some (.int x),some (.int y)]∧H' = H∧0≤x∧0≤y∧Jm.cf x y = Jm.cf b t,
  ⟨_,(if t < 0 then -t else t),b,rfl,rfl,rfl,(by split <;> omega),Int.le_of_lt hb,(by rw [Jm.Dm,Jm.LV])⟩,?_⟩
 rintro m σ H' ⟨x,y,rfl,rfl,rfl,hx,hy,e⟩
 refine ⟨_,rfl,rfl,_,rfl,dY (fun c=>?_) (fun c=>?_)⟩
 · have c1:¬ V.int y = V.int 0:=of_decide_eq_false (by simpa using c)
   have c':0 < y:=by
    have:y ≠ 0:=fun z=>c1 (by rw [z])
    omega
   refine ⟨_,fun _ _ z=>z,?_⟩
   refine ⟨_,rfl,_,rfl,_,rfl,_,_,rfl,rfl,c',_,_,rfl,?_⟩
   have h1:0≤x % y:=Int.emod_nonneg _ (by omega)
   have h2:x % y < y:=Int.emod_lt_of_pos _ c'
   exact ⟨_,(by omega:(x % y).toNat < y.toNat),y,x % y,rfl,rfl,rfl,hy,h1,(Jm.xo x y c').trans e⟩
 · have c1:V.int y = V.int 0:=by simpa using c
   have ey:y = 0:=V.int.inj c1
   subst ey
   rw [Jm.Dl x hx] at e
   subst e
   have g0:0 < Jm.cf b t:=Jm.vz _ _ (.inl hb)
   have g1:Jm.Sz 9000 (Jm.cf b t):=hb2.dvd hb (Int.le_of_lt g0) (Jm.kh b t)
   have gd:∀i,sJ i (Jm.cf b t):=fun i=>lX g0 g1
   refine ⟨_,rfl,_,rfl,_,_,rfl,rfl,gd _,_,rfl,_,rfl,_,_,rfl,rfl,gd _,(by show 2≤sizeLine;decide),fun p hp=>?_⟩
   refine q p _ (aA hp _) ?_
   rw [af]
   show some (HO.tup [V.int (t / Jm.cf b t),V.int (b / Jm.cf b t)]) = some (HO.tup [V.int (Jm.fr t b).num,V.int ((Jm.fr t b).den:Int)])
   rw [Jm.Fx t b hb,Jm.AF t b hb]
abbrev pV:Stmt:=top 42
abbrev G0:List Str:=["_law_found","_law_top","_law_bottom"]
abbrev yV:List Str:=["_law_found","_law_top","_law_bottom"]
theorem EM:aI G0 yV (au pV):=⟨rfl,rfl,rfl,by decide +kernel,rfl,by decide +kernel,by decide +kernel⟩
theorem EN (F:At K mg "_law_is" pV f fd) (cJ:Dn P w K mg base 1 "_law_int" ["_law_found"] vB) (fZ:Dn P w K mg base 1 "_law_least" ["_law_top","_law_bottom"] sM)
  (aR:mg "isinstance" = none) (fh:mg "tuple" = none) (aZ:mg "len" = none):Dn P w K mg base 2 "_law_is" yV HZ:=by
 refine F.ok EM (fun vs H Q E h=>?_) (fun cdv A outer s H vs Q E hr h=>?_) (fun _ _ _ _ _ _ us hl=>match us,hl with | [_,_,_],_=>rfl)
 · obtain ⟨p,q,t,b,rfl,_⟩:=h.ex
   rfl
 obtain ⟨p,q,t,b,rfl,hp,h0,h1,e,hq⟩:=h.ex
 refine ⟨_,(ah (bM (dw (PW.pt (fj (b8 (bU (aE (bS K) (by rfl) aR PyProof.Rows.boot_isinstance (aa (pv 0) (aa (gf PyProof.Rows.boot_tuple rfl fh) aj))))) (ef (bf jg (aE (bA K) (by rfl) aZ PySem.boot_len (aa (pv 0) aj)) ak (br _)))))) (aq (aN cL)) aQ)
  (ah (bM (dw (PW.pt (fj (b8 (bU (a_ cJ hr (aa (aK (cu K) (pv 0) ak (fun _ _=>rfl)) aj)))) (ef (b8 (bU (a_ cJ hr (aa (aK (cu K) (pv 0) ak (fun _ _=>rfl)) aj)))))))) (aq (aN cL)) aQ)
  (aq (aN (sr (Kz K hr.units) (pv 0) (a_ fZ hr (aa (pv 1) (aa (pv 2) aj))) (br _)))))),?_⟩
 refine ⟨false,?_,bN ?_⟩
 · refine ⟨_,rfl,_,_,_,_,rfl,dO.tup hp,eE,_,rfl,bN ?_⟩
   exact ⟨_,rfl,_,_,rfl, .inr (cA.of hp),rfl,_,rfl,rfl,rfl⟩
 refine ⟨false,?_,bN ?_⟩
 · refine ⟨_,rfl,p,_,_,_,rfl,rfl,cA.of hp,rfl,_,rfl,_,rfl,bN ?_⟩
   exact ⟨_,rfl,p,_,_,_,rfl,rfl,cA.of hp,rfl,_,rfl,_,rfl,rfl,rfl⟩
 refine ⟨_,rfl,_,rfl,_,rfl,yo h0 h1 fun r H1 g1 hr1=>?_⟩
 rw [← e] at hr1
 refine ⟨_,_,FG (g1 _ _ hp),FG hr1,tL _ _,tL _ _,?_⟩
 rw [HY]
 exact hq H1 g1
abbrev iu:Stmt:=top 40
abbrev uZ:List Str:=["_law_found","_law_parts","_law_at_here","_law_one"]
abbrev mX:List Str:=["_law_found","_law_parts"]
theorem iw:aI uZ mX (au iu):=⟨rfl,rfl,rfl,by decide +kernel,rfl,by decide +kernel,by decide +kernel⟩
theorem sY (F:At K mg "_law_part_list" iu f fd) (cJ:Dn P w K mg base 1 "_law_int" ["_law_found"] vB) (aR:mg "isinstance" = none) (bW:mg "list" = none) (fh:mg "tuple" = none) (jE:mg "str" = none) (bg:mg "range" = none) (aZ:mg "len" = none):Dn P w K mg base 2 "_law_part_list" mX (vX K):=by
 refine F.ok iw (fun vs H Q E h=>?_) (fun cdv A outer s H vs Q E hr h=>?_) (fun _ _ _ _ _ _ us hl=>match us,hl with | [_,_],_=>rfl)
 · obtain ⟨r,l,ws,us,ps,rfl,_⟩:=h.ex
   rfl
 obtain ⟨r,l,ws,us,ps,rfl,hr0,hP,hl,hR,hN,hle,q⟩:=h.ex
 refine ⟨_,(ah (bM (dw (PW.pt (fj (b8 (bU (aE (bS K) (by rfl) aR PyProof.Rows.boot_isinstance (aa (pv 0) (aa (gf PyProof.Rows.boot_list rfl bW) aj))))) (ef (bf jg (aE (bA K) (by rfl) aZ PySem.boot_len (aa (pv 0) aj)) (aE (bA K) (by rfl) aZ PySem.boot_len (aa (pv 1) aj)) (br _)))))) (aq (aN cL)) aQ)
  (ah (cC PassesOwn.never rfl (cE (by rfl) bg (aa (aE (bA K) (by rfl) aZ PySem.boot_len (aa (pv 1) aj)) aj)) (aG (i:=2) iw.nd rfl (Or.inl rfl)) (ah (aF (i:=3) iw.nd rfl (Or.inl rfl) (aK (aM K) (pv 0) (pv 2) (fun _ _=>rfl)))
  (ah (bM (dw (PW.pt (fj (b8 (bU (aE (bS K) (by rfl) aR PyProof.Rows.boot_isinstance (aa (pv 3) (aa (gf PyProof.Rows.boot_tuple rfl fh) aj))))) (ef (bf jg (aE (bA K) (by rfl) aZ PySem.boot_len (aa (pv 3) aj)) ak (br _)))))) (aq (aN cL)) aQ)
  (ah (bM (dw (PW.pt (fj (b8 (bU (aE (bS K) (by rfl) aR PyProof.Rows.boot_isinstance (aa (aK (cu K) (pv 3) ak (fun _ _=>rfl)) (aa (gf PyProof.Rows.boot_str rfl jE) aj))))) (ef (b8 (bU (aE (bS K) (by rfl) aR PyProof.Rows.boot_isinstance (aa (aK (cu K) (pv 3) ak (fun _ _=>rfl)) (aa (gf PyProof.Rows.boot_str rfl jE) aj))))))))) (aq (aN cL)) aQ)
  (ah (bM (dw (PW.pt (fj (b8 (bU (a_ cJ hr (aa (aK (cu K) (pv 3) ak (fun _ _=>rfl)) aj)))) (ef (b8 (bU (a_ cJ hr (aa (aK (cu K) (pv 3) ak (fun _ _=>rfl)) aj)))))))) (aq (aN cL)) aQ)
  (aq (bM (bf (xu K hr.units) (pv 3) (iz (aa (aK (jc K) (aK (aM K) (pv 1) (pv 2) (fun _ _=>rfl)) ak (fun _ _=>rfl)) (aa (aK (jc K) (aK (aM K) (pv 1) (pv 2) (fun _ _=>rfl)) ak (fun _ _=>rfl)) (aa (aK (jc K) (aK (aM K) (pv 1) (pv 2) (fun _ _=>rfl)) ak (fun _ _=>rfl)) (aa (aK (jc K) (aK (aM K) (pv 1) (pv 2) (fun _ _=>rfl)) ak (fun _ _=>rfl)) aj))))) (br _)) (aq (aN cL)) aQ)))))))
  (aq (aN cL)))),?_⟩
 have hwl:=hP.length
 have GU:=hR.len
 refine ⟨false,?_,bN ?_⟩
 · refine ⟨_,rfl,_,_,_,_,rfl,dO.lst hr0,eE,_,rfl,bN ?_⟩
   refine ⟨_,rfl,_,_,rfl, .inl (av.of hr0),_,rfl,_,_,rfl, .inl hl,rfl,_,rfl,?_,rfl⟩
   show (!decide (V.int (ws.length:Int) = V.int (us.length:Int))) = false
   rw [decide_eq_true (by rw [hwl,GU])]
   rfl
 refine ⟨_,rfl,l,us,rfl, .inl hl,_,rfl,by omega,by omega,?_⟩
 refine c9 (lo:=0) (n:=((us.length:Nat):Int).toNat) (fun i σ H'=>aD H H'∧∃(s1 s2:Option V),σ = [some (.ref r),some (.ref l),s1,s2]) ⟨aD.refl _,none,none,rfl⟩ ?_ ?_
 · rintro i σ H' hi ⟨g,s1,s2,rfl⟩
   have e0:(0:Int) + (i:Int) = ((i:Nat):Int):=by omega
   rw [e0]
   have hi':i < ps.length:=by omega
   have ep:=List.getElem?_eq_getElem hi'
   obtain ⟨t,et,ht⟩:=hP.get ep
   obtain ⟨u,xs,eu,hu,x0,x1,x2,x3⟩:=(hR.mono g).at_ i _ ep
   have ht':=g _ _ ht
   obtain ⟨n1,n2⟩:=hN _ (List.getElem_mem hi')
   have hr1:=g _ _ hr0
   have hl1:=g.seq hl
   refine ⟨_,rfl,_,rfl,r,ws,i, .ref t,rfl,rfl,av.of hr1,e_ et,?_⟩
   refine ⟨false,⟨_,rfl,_,_,_,_,rfl,dO.tup ht',eE,_,rfl,bN ⟨_,rfl,_,_,rfl, .inr (cA.of ht'),rfl,_,rfl,rfl,rfl⟩⟩,bN ?_⟩
   refine ⟨false,⟨_,rfl,t,_,_,_,rfl,rfl,cA.of ht',rfl,_,_,_,_,rfl,dO.str _,eE,_,rfl,bN ⟨_,rfl,t,_,_,_,rfl,rfl,cA.of ht',rfl,_,_,_,_,rfl,dO.str _,eE,_,rfl,rfl,rfl⟩⟩,bN ?_⟩
   refine ⟨false,⟨_,rfl,t,_,_,_,rfl,rfl,cA.of ht',rfl,_,rfl,_,rfl,bN ⟨_,rfl,t,_,_,_,rfl,rfl,cA.of ht',rfl,_,rfl,_,rfl,rfl,rfl⟩⟩,bN ?_⟩
   refine ⟨_,rfl,_,rfl,_,rfl,l,us,i, .ref u,rfl,rfl,hl1,e_ eu,hu.ix (i:=0) x0 ?_⟩
   refine ⟨_,rfl,_,rfl,l,us,i, .ref u,rfl,rfl,hl1,e_ eu,hu.ix (i:=1) x1 ?_⟩
   refine ⟨_,rfl,_,rfl,l,us,i, .ref u,rfl,rfl,hl1,e_ eu,hu.ix (i:=2) x2 ?_⟩
   refine ⟨_,rfl,_,rfl,l,us,i, .ref u,rfl,rfl,hl1,e_ eu,hu.ix (i:=3) x3 ?_⟩
   refine ⟨(by show 4≤sizeLine;decide),fun p1 hp1=>?_⟩
   have g1:=aA hp1 (sR ps[i])
   refine ⟨_,_,DJ (g1 _ _ ht'),DJ (p:=ps[i]) af,tP n1 n2,tP n1 n2,_,rfl,?_⟩
   rw [Iu]
   exact bN ⟨g.trans g1,_,_,rfl⟩
 rintro σ H' ⟨g,s1,s2,rfl⟩
 exact q H' g
abbrev gQ:Stmt:=top 43
abbrev sZ:List Str:=["_law_found","_law_owners","_law_tops","_law_bottom","_law_due","_law_at_here","_law_pair"]
abbrev lB:List Str:=["_law_found","_law_owners","_law_tops","_law_bottom"]
theorem fB:aI sZ lB (au gQ):=⟨rfl,rfl,rfl,by decide +kernel,rfl,by decide +kernel,by decide +kernel⟩
theorem rO (F:At K mg "_law_share_list" gQ f fd) (fZ:Dn P w K mg base 1 "_law_least" ["_law_top","_law_bottom"] sM) (rP:Dn P w K mg base 2 "_law_is" ["_law_found","_law_top","_law_bottom"] HZ) (aR:mg "isinstance" = none) (bW:mg "list" = none) (fh:mg "tuple" = none) (jE:mg "str" = none) (bg:mg "range" = none) (aZ:mg "len" = none):Dn P w K mg base 3 "_law_share_list" lB (nT K):=by
 refine F.ok fB (fun vs H Q E h=>?_) (fun cdv A outer s H vs Q E hr h=>?_) (fun _ _ _ _ _ _ us hl=>match us,hl with | [_,_,_,_],_=>rfl)
 · obtain ⟨r,lo,lt,ws,own,tops,b,rfl,_⟩:=h.ex
   rfl
 obtain ⟨r,lo,lt,ws,own,tops,b,rfl,hr0,hS,ho,ht,hlen,hle,b0,bz,q⟩:=h.ex
 refine ⟨_,(ah (Ig (i:=4) ["_law_at_here","_law_tops","_law_owners","_law_bottom"] [none,some 2,some 1,some 3] fB.nd rfl rfl rfl (cE (by rfl) bg (aa (aE (bA K) (by rfl) aZ PySem.boot_len (aa (pv 2) aj)) aj)) (fun _ _ _ _=>(aG (i:=0) (show List.Nodup (["_law_at_here","_law_tops","_law_owners","_law_bottom"] :List Str) from by decide +kernel) rfl (Or.inl rfl))) (fun _ _ _ _=>(iz (aa (aK (aM K) (pv 2) (pv 0) (fun _ _=>rfl)) (aa (a_ fZ hr (aa (aK (aM K) (pv 1) (pv 0) (fun _ _=>rfl)) (aa (pv 3) aj))) aj)))) (fun _ _ _ _=>(bf gD (aK (aM K) (pv 1) (pv 0) (fun _ _=>rfl)) ak (br _))) rfl (by rfl) (by rfl))
  (ah (bM (dw (PW.pt (fj (b8 (bU (aE (bS K) (by rfl) aR PyProof.Rows.boot_isinstance (aa (pv 0) (aa (gf PyProof.Rows.boot_list rfl bW) aj))))) (ef (bf jg (aE (bA K) (by rfl) aZ PySem.boot_len (aa (pv 0) aj)) (aE (bA K) (by rfl) aZ PySem.boot_len (aa (pv 4) aj)) (br _)))))) (aq (aN cL)) aQ)
  (ah (cC PassesOwn.never rfl (cE (by rfl) bg (aa (aE (bA K) (by rfl) aZ PySem.boot_len (aa (pv 4) aj)) aj)) (aG (i:=5) fB.nd rfl (Or.inl rfl)) (ah (aF (i:=6) fB.nd rfl (Or.inl rfl) (aK (aM K) (pv 0) (pv 5) (fun _ _=>rfl)))
  (ah (bM (dw (PW.pt (fj (b8 (bU (aE (bS K) (by rfl) aR PyProof.Rows.boot_isinstance (aa (pv 6) (aa (gf PyProof.Rows.boot_tuple rfl fh) aj))))) (fj (bf jg (aE (bA K) (by rfl) aZ PySem.boot_len (aa (pv 6) aj)) ak (br _)) (ef (bf jg (aK (cu K) (pv 6) ak (fun _ _=>rfl)) (aK (cu K) (aK (aM K) (pv 4) (pv 5) (fun _ _=>rfl)) ak (fun _ _=>rfl)) (br _))))))) (aq (aN cL)) aQ)
  (aq (bM (PW.pt (fj (b8 (bU (aE (bS K) (by rfl) aR PyProof.Rows.boot_isinstance (aa (aK (cu K) (pv 6) ak (fun _ _=>rfl)) (aa (gf PyProof.Rows.boot_str rfl jE) aj))))) (ef (b8 (bU (a_ rP hr (aa (aK (cu K) (pv 6) ak (fun _ _=>rfl)) (aa (aK (cu K) (aK (cu K) (aK (aM K) (pv 4) (pv 5) (fun _ _=>rfl)) ak (fun _ _=>rfl)) ak (fun _ _=>rfl)) (aa (aK (cu K) (aK (cu K) (aK (aM K) (pv 4) (pv 5) (fun _ _=>rfl)) ak (fun _ _=>rfl)) ak (fun _ _=>rfl)) aj))))))))) (aq (aN cL)) aQ)))))
  (aq (aN cL))))),?_⟩
 have UN:(tops.map V.int).length = tops.length:=List.length_map ..
 have Tc:(own.map V.str).length = own.length:=List.length_map ..
 refine ⟨_,rfl,lt,_,rfl, .inl ht,_,rfl,by omega,by omega,fun acc hacc=>?_⟩
 refine Du (J:=ve 0 _) (n:=tops.length) 0 (fun i out H1=>aD H H1∧eV H1 out (cY (own.take i) (tops.take i) b)) (by omega) ⟨aA hacc _, .nil⟩ (fun i out H1 hi _ _=>by show i < ((tops.map V.int).length:Int).toNat;omega) (fun out H1 _ _=>by show ((tops.map V.int).length:Int).toNat≤tops.length;omega) ?_ ?_
 · rintro i x out H1 H2 hi c7 ha ⟨g,S⟩ ⟨rfl,rfl⟩
   have e0:(0:Int) + (i:Int) = ((i:Nat):Int):=by omega
   rw [e0]
   have et:=List.getElem?_eq_getElem hi
   have eo:=List.getElem?_eq_getElem (show i < own.length from by omega)
   have et':(tops.map V.int)[i]? = some (.int tops[i]):=by rw [List.getElem?_map,et];rfl
   have Td:(own.map V.str)[i]? = some (.str own[i]):=by rw [List.getElem?_map,eo];rfl
   have JV:cY (own.take (i + 1)) (tops.take (i + 1)) b = cY (own.take i) (tops.take i) b ++ (if 0 < tops[i] then [(own[i],Jm.fr tops[i] b)] else []):=by
    unfold cY
    rw [take_snoc eo,take_snoc et,List.zip_append (by rw [List.length_take,List.length_take];omega),List.filterMap_append]
    congr 1
    show List.filterMap _ [(own[i],tops[i])] = _
    rw [List.filterMap_cons]
    by_cases c:0 < tops[i]
    · simp [c]
    · simp [c]
   refine ⟨_,rfl,_,rfl,lt,_,i,_,rfl,rfl,g.seq ht,e_ et',_,_,rfl,rfl,_,rfl,dY (fun c=>?_) (fun c=>?_)⟩
   · have c':0 < tops[i] :=of_decide_eq_true c
     rw [if_pos c'] at JV
     refine ⟨_,rfl,_,rfl,lo,_,i,_,rfl,rfl,g.seq ho,e_ Td,_,rfl,_,rfl,lt,_,i,_,rfl,rfl,g.seq ht,e_ et',_,rfl,yo b0 bz fun p2 H3 g3 hp2=>⟨(by show 2≤sizeLine;decide),fun p3 hp3=>?_⟩⟩
     have g4:=aA hp3 (.tup [.str own[i], .ref p2])
     have D4:=g3.trans g4
     refine ⟨D4 _ _ ha,(g.trans D4).bI hacc _,?_⟩
     rw [JV]
     exact ((S.mono D4.tups).snoc af (g4 _ _ hp2)).mono (fV (.inr ⟨_,D4 _ _ ha,rfl⟩))
   · have c':¬ 0 < tops[i] :=of_decide_eq_false (Bool.eq_false_iff.mpr c)
     rw [if_neg c',List.append_nil] at JV
     exact ⟨ha,g,by rw [JV];exact S⟩
 rintro du H1 c7 ha ⟨g1,D1⟩
 rw [List.take_length,← hlen,List.take_length] at D1
 have hr1:=g1 _ _ hr0
 have uf:=hS.mono g1.tups
 have l1:=uf.length
 have l2:=D1.length
 have l3:(cY own tops b).length≤1000:=by
  unfold cY
  refine Nat.le_trans (List.length_filterMap_le _ _) ?_
  rw [List.length_zip]
  omega
 have Rm:∀x q,(x,q)∈cY own tops b→Jm.Sz 9000 (q.den:Int):=fun x q m=>zj b0 bz m
 generalize cY own tops b = sh at *
 refine ⟨false,?_,bN ?_⟩
 · refine ⟨_,rfl,_,_,_,_,rfl,dO.lst hr1,eE,_,rfl,bN ?_⟩
   refine ⟨_,rfl,_,_,rfl, .inl (av.of hr1),_,rfl,_,_,rfl, .inl (av.of ha),rfl,_,rfl,?_,rfl⟩
   show (!decide (V.int (ws.length:Int) = V.int (du.length:Int))) = false
   rw [decide_eq_true (by rw [l1,l2])]
   rfl
 refine ⟨_,rfl,acc,du,rfl, .inl (av.of ha),_,rfl,by omega,by omega,?_⟩
 refine c9 (lo:=0) (n:=((du.length:Nat):Int).toNat) (fun i σ H'=>aD H1 H'∧∃(s1 s2:Option V),σ = [some (.ref r),some (.ref lo),some (.ref lt),some (.int b),some (.ref acc),s1,s2]) ⟨aD.refl _,none,none,rfl⟩ ?_ ?_
 · rintro i σ H' hi ⟨g,s1,s2,rfl⟩
   have e0:(0:Int) + (i:Int) = ((i:Nat):Int):=by omega
   rw [e0]
   have hi':i < sh.length:=by omega
   obtain ⟨xq,MU⟩:∃xq,sh[i]? = some xq:=⟨_,List.getElem?_eq_getElem hi'⟩
   obtain ⟨x,qq⟩:=xq
   obtain ⟨r1,f1,a1,a2,a3⟩:=uf.get MU
   obtain ⟨r2,f2,b1,b2,b3⟩:=D1.get MU
   have a2':=g _ _ a2
   have Te:=g _ _ a3
   have MV:=g _ _ b2
   have Pp:=g _ _ b3
   have EO:=g _ _ ha
   refine ⟨_,rfl,_,rfl,r,ws,i, .ref r1,rfl,rfl,av.of (g _ _ hr1),e_ a1,?_⟩
   refine ⟨false,⟨_,rfl,_,_,_,_,rfl,dO.tup a2',eE,_,rfl,bN ⟨_,rfl,_,_,rfl, .inr (cA.of a2'),rfl,_,rfl,bN ?_⟩⟩,bN ?_⟩
   · refine ⟨_,rfl,r1,_,_,_,rfl,rfl,cA.of a2',rfl,_,rfl,_,rfl,acc,du,i, .ref r2,rfl,rfl,av.of EO,e_ b1,r2,_,_,_,rfl,rfl,cA.of MV,rfl,rfl,_,rfl,?_,rfl⟩
     show (!decide (V.str x = V.str x)) = false
     rw [decide_eq_true rfl];rfl
   refine ⟨_,rfl,r1,_,_,_,rfl,rfl,cA.of a2',rfl,_,_,_,_,rfl,dO.str _,eE,_,rfl,bN ?_⟩
   refine ⟨_,rfl,r1,_,_,_,rfl,rfl,cA.of a2',rfl,?_⟩
   refine ⟨_,rfl,_,rfl,acc,du,i, .ref r2,rfl,rfl,av.of EO,e_ b1,r2,_,_,_,rfl,rfl,cA.of MV,rfl,f2,_,_,_,rfl,rfl,cA.of Pp,rfl,?_⟩
   refine ⟨_,rfl,_,rfl,acc,du,i, .ref r2,rfl,rfl,av.of EO,e_ b1,r2,_,_,_,rfl,rfl,cA.of MV,rfl,f2,_,_,_,rfl,rfl,cA.of Pp,rfl,?_⟩
   exact L4 Te (Jm.den_pos _) (Rm _ _ (List.mem_of_getElem? MU)) (Jm.Ku _).symm fun H3 g3=>⟨_,rfl,bN ⟨g.trans g3,_,_,rfl⟩⟩
 rintro σ H' ⟨g,s1,s2,rfl⟩
 exact q H' (g1.trans g)
abbrev kX:Stmt:=top 47
abbrev BZ:List Str:=["_law_owners","_law_hold","_law_owner"]
abbrev rQ:List Str:=["_law_owners"]
theorem kY:aI BZ rQ (au kX):=⟨rfl,rfl,rfl,by decide +kernel,rfl,by decide +kernel,by decide +kernel⟩
theorem zS {T:TC} (F:At K mg "_law_begin" kX f fd) (B0:Cn P w K mg base 3 "Hold" T.hold ["self"] (DC T)) (nW:Mn P w K mg base 3 T.hold "sign" ["self","owner"] (DG T)):Dn P w K mg base 5 "_law_begin" rQ (DK T K):=by
 refine F.ok kY (fun vs H Q E h=>?_) (fun cdv A outer s H vs Q E hr h=>?_) (fun _ _ _ _ _ _ us hl=>match us,hl with | [_],_=>rfl)
 · obtain ⟨l,own,n,ρ,rfl,_⟩:=h.ex
   rfl
 obtain ⟨l,own,n,ρ,rfl,hl,cl,nd,hnm,hle,g,q⟩:=h.ex
 refine ⟨_,(ah (aF (i:=1) kY.nd rfl (Or.inl rfl) (Ga B0 hr))
  (ah (cC PassesOwn.never rfl (cQ K (pv 0)) (aG (i:=2) kY.nd rfl (Or.inl rfl)) (aq (bZ (dQ nW hr (pv 1) (aa (pv 2) aj)))))
  (aq (aN (pv 1))))),?_⟩
 intro x dx hx hdx hne
 refine ⟨⟨x,dx,ρ,n,rfl,af,(g.alloc hdx).alloc (by rw [ao (Ne.symm hne)];exact hx),g.none hx,fun ρ1 A H1 ea hh k=>⟨rfl,?_⟩⟩⟩
 have F1:Fr n ρ H ρ1 H1:=fun b o e _=>k b o (by rw [ao (ay e hx),ao (ay e hdx)];exact e) (ay e hx)
 refine ⟨_,rfl,l,rfl,⟨_,F1.seq hl cl⟩,?_⟩
 refine iK (K:=K) (xs:=own.map V.str) (fun i σ H'=>∃ρ' A' s2,σ = [some (.ref l),some (.ref x),s2]∧A'.a = x∧HH T n ρ' A' H' ((own.take i).foldl dJ hs0)∧Fr n ρ H ρ' H')
  ⟨ρ1,A,none,rfl,ea,hh,F1⟩ (fun i σ H' _ hp=>by obtain ⟨_,_,_,_,_,_,f⟩:=hp;exact f.seq hl cl) ?_ ?_
 · rintro i y σ H' hy ⟨ρ',A',s2,rfl,ea',G1,F'⟩
   rw [List.getElem?_map] at hy
   obtain ⟨o,eo,rfl⟩:=Option.map_eq_some_iff.mp hy
   have hi:=(List.getElem?_eq_some_iff.mp eo).1
   have hos:=qV (own.take i) hs0
   have MW:((own.take i).foldl dJ hs0).own = own.take i:=by rw [hos];rfl
   refine ⟨_,rfl,x,A'.dx,_,rfl,ea' ▸ G1.h.oa,rfl,_,rfl,⟨⟨n,ρ',A',_,o,by rw [ea'];rfl,G1,hnm o (List.mem_of_getElem? eo),?_,?_,fun ρ2 A2 H2 h2 e2 F2=>?_⟩⟩⟩
   · rw [MW]
     intro m
     have h2:(own.take (i + 1)).Nodup:=nd.sublist (List.take_sublist _ _)
     rw [take_snoc eo] at h2
     exact (List.nodup_append.mp h2).2.2 o m o (List.mem_singleton.mpr rfl) rfl
   · rw [MW,List.length_take]
     omega
   · rw [take_snoc eo,List.foldl_append]
     exact ⟨ρ2,A2,_,rfl,e2.trans ea',h2,F'.trans F2⟩
 rintro σ H' ⟨ρ',A',s2,rfl,ea',G1,F'⟩
 rw [List.length_map,List.take_length] at G1
 have:=q ρ' A' H' G1 F'
 rw [ea'] at this
 exact ⟨_,rfl,this⟩
abbrev kZ:Stmt:=top 29
abbrev B3:List Str:=["_law_owners"]
abbrev rR:List Str:=["_law_owners"]
theorem zT:aI B3 rR (au kZ):=⟨rfl,rfl,rfl,by decide +kernel,rfl,by decide +kernel,by decide +kernel⟩
theorem zU (F:At K mg "_law_model" kZ f fd) (bW:mg "list" = none):Dn P w K mg base 1 "_law_model" rR (DS K):=by
 refine F.ok zT (fun vs H Q E h=>?_) (fun cdv A outer s H vs Q E hr h=>?_) (fun _ _ _ _ _ _ us hl=>match us,hl with | [_],_=>rfl)
 · obtain ⟨l,own,n,ρ,rfl,_⟩:=h.ex
   rfl
 obtain ⟨l,own,n,ρ,rfl,hl,G,hle,q⟩:=h.ex
 refine ⟨_,(aq (aN (Kq (lV bO (iZ (iG K) (by rfl) bW PyProof.Rows.boot_list (aa (pv 0) aj)) (lV bO (fK aj) (lV bO ak (lV bO (fK aj) (lV bO (fK aj) Ko))))) (by rfl) (by rfl) (fun z=>nomatch z) (by with_unfolding_all decide)))),?_⟩
 intro m hm
 have g0:=aA hm (.dK [])
 have Pq:upd H m (.dK []) m = some (.dK []):=af
 have ia:=g0.seq hl
 generalize upd H m (.dK []) = H0 at *
 refine ⟨_,rfl,l,_,rfl, .inl ia,fun lo hlo=>?_⟩
 have g1:=aA hlo (.lst (own.map V.str))
 have B8:upd H0 lo (.lst (own.map V.str)) lo = some (.lst (own.map V.str)):=af
 have yW:=g1 _ _ Pq
 generalize upd H0 lo (.lst (own.map V.str)) = H1 at *
 refine ⟨(by show 0≤sizeLine;decide),fun lp rS=>?_⟩
 have g2:=aA rS (.lst [])
 have Pr:upd H1 lp (.lst []) lp = some (.lst []):=af
 have Pu:=g2 _ _ B8
 have Pw:=g2 _ _ yW
 show qD _ _ (upd H1 lp (.lst [])) _
 generalize upd H1 lp (.lst []) = H2 at *
 refine ⟨(by show 0≤sizeLine;decide),fun la hla=>?_⟩
 have g3:=aA hla (.lst [])
 have JW:upd H2 la (.lst []) la = some (.lst []):=af
 have Px:=g3 _ _ Pr
 have Py:=g3 _ _ Pu
 have Pz:=g3 _ _ Pw
 show qD _ _ (upd H2 la (.lst [])) _
 generalize upd H2 la (.lst []) = H3 at *
 refine ⟨(by show 0≤sizeLine;decide),fun lk hlk=>?_⟩
 have g4:=aA hlk (.lst [])
 have Tf:upd H3 lk (.lst []) lk = some (.lst []):=af
 have Tg:=g4 _ _ JW
 have Th:=g4 _ _ Px
 have Ti:=g4 _ _ Py
 have Tj:=g4 _ _ Pz
 show upd H3 lk (.lst []) m = _∧_
 generalize upd H3 lk (.lst []) = H4 at *
 have gA:=((g0.trans g1).trans g2).trans (g3.trans g4)
 have n1:lo ≠ m:=fun e=>by rw [e,Pq] at hlo;cases hlo
 have n2:lp ≠ m:=fun e=>by rw [e,yW] at rS;cases rS
 have n3:lp ≠ lo:=fun e=>by rw [e,B8] at rS;cases rS
 have n4:la ≠ m:=fun e=>by rw [e,Pw] at hla;cases hla
 have n5:la ≠ lo:=fun e=>by rw [e,Pu] at hla;cases hla
 have n6:la ≠ lp:=fun e=>by rw [e,Pr] at hla;cases hla
 have n7:lk ≠ m:=fun e=>by rw [e,Pz] at hlk;cases hlk
 have n8:lk ≠ lo:=fun e=>by rw [e,Py] at hlk;cases hlk
 have n9:lk ≠ lp:=fun e=>by rw [e,Px] at hlk;cases hlk
 have nA:lk ≠ la:=fun e=>by rw [e,JW] at hlk;cases hlk
 refine ⟨Tj,[(Sum.inr "owners", .ref lo),(Sum.inr "parts", .ref lp),(Sum.inr "bottom", .int 1),(Sum.inr "ashore", .ref la),(Sum.inr "known", .ref lk)],rfl,by show 5≤15;decide,?_⟩
 have eK:oH [] [(Sum.inr "owners", .ref lo),(Sum.inr "parts", .ref lp),(Sum.inr "bottom", .int 1),(Sum.inr "ashore", .ref la),(Sum.inr "known", .ref lk)] = c_ ⟨m,lo,lp,la,lk,[]⟩ 1:=rfl
 rw [eK]
 have u1:upd H4 m (.dK (c_ ⟨m,lo,lp,la,lk,[]⟩ 1)) m = some (.dK (c_ ⟨m,lo,lp,la,lk,[]⟩ 1)):=af
 have u2:upd H4 m (.dK (c_ ⟨m,lo,lp,la,lk,[]⟩ 1)) lo = some (.lst (own.map V.str)):=by rw [ao n1];exact Ti
 have u3:upd H4 m (.dK (c_ ⟨m,lo,lp,la,lk,[]⟩ 1)) lp = some (.lst []):=by rw [ao n2];exact Th
 have u4:upd H4 m (.dK (c_ ⟨m,lo,lp,la,lk,[]⟩ 1)) la = some (.lst []):=by rw [ao n4];exact Tg
 have u5:upd H4 m (.dK (c_ ⟨m,lo,lp,la,lk,[]⟩ 1)) lk = some (.lst []):=by rw [ao n7];exact Tf
 have G4:=(G.same gA).wr (a:=m) (o:= .dK (c_ ⟨m,lo,lp,la,lk,[]⟩ 1)) rfl
 have hz:∀b o,H b = some o→upd H4 m (.dK (c_ ⟨m,lo,lp,la,lk,[]⟩ 1)) b = some o:=fun b o e=>by
  rw [ao (fun z=>by rw [z,hm] at e;cases e)];exact gA _ _ e
 have y1:H lo = none:=g0.free hlo
 have y2:H lp = none:=(g0.trans g1).free rS
 have y3:H la = none:=((g0.trans g1).trans g2).free hla
 have y4:H lk = none:=(((g0.trans g1).trans g2).trans g3).free hlk
 generalize upd H4 m (.dK (c_ ⟨m,lo,lp,la,lk,[]⟩ 1)) = H5 at *
 refine q (bC (bC (bC (bC (bC ρ m (n,20,⟨#[]⟩)) lo (n,21,⟨#[]⟩)) lp (n,22,⟨#[]⟩)) la (n,25,⟨#[]⟩)) lk (n,26,⟨#[]⟩)) ⟨m,lo,lp,la,lk,[]⟩ H5 (((((G4.color u1 rfl).color u2 rfl).color u3 rfl).color u4 rfl).color u5 rfl) ⟨u1,?_,u2,?_,u3,?_,⟨[],u4, .nil⟩,?_,u5,cg,rfl,fun i p q e=>by simp at e⟩ (fun b o e=>⟨hz b o e,?_⟩)
 · show bC _ lk _ m = _
   rw [bu (Ne.symm n7),bu (Ne.symm n4),bu (Ne.symm n2),bu (Ne.symm n1),cg]
 · show bC _ lk _ lo = _
   rw [bu (Ne.symm n8),bu (Ne.symm n5),bu (Ne.symm n3),cg]
 · show bC _ lk _ lp = _
   rw [bu (Ne.symm n9),bu (Ne.symm n6),cg]
 · show bC _ lk _ la = _
   rw [bu (Ne.symm nA),cg]
 · rw [bu (ay e y4),bu (ay e y3),bu (ay e y2),bu (ay e y1),bu (ay e hm)]
abbrev mY:Stmt:=top 31
abbrev CP:List Str:=["_law_owners","_law_name_here","_law_at_here"]
abbrev ug:List Str:=["_law_owners","_law_name_here"]
theorem rT:aI CP ug (au mY):=⟨rfl,rfl,rfl,by decide +kernel,rfl,by decide +kernel,by decide +kernel⟩
theorem B9 (F:At K mg "_law_seat" mY f fd) (aZ:mg "len" = none) (bg:mg "range" = none):Dn P w K mg base 1 "_law_seat" ug (GA K):=by
 refine F.ok rT (fun vs H Q E h=>?_) (fun cdv A outer s H vs Q E hr h=>?_) (fun _ _ _ _ _ _ us hl=>match us,hl with | [_,_],_=>rfl)
 · obtain ⟨l,own,o,rfl,_⟩:=h.ex
   rfl
 obtain ⟨l,own,o,rfl,hl,ho,hle,q⟩:=h.ex
 refine ⟨_,(ah (cC PassesOwn.never rfl (cE (by rfl) bg (aa (aE (bA K) (by rfl) aZ PySem.boot_len (aa (pv 0) aj)) aj)) (aG (i:=2) rT.nd rfl (Or.inl rfl)) (aq (bM (bf lD (aK (aM K) (pv 0) (pv 2) (fun _ _=>rfl)) (pv 1) (br _)) (aq (aN (pv 2))) aQ)))
  (aq (aN (Eb An ak)))),?_⟩
 have ll:(own.map V.str).length = own.length:=List.length_map _
 refine ⟨_,rfl,l,_,rfl, .inl hl,_,rfl,by omega,by omega,?_⟩
 refine c9 (lo:=0) (n:=(((own.map V.str).length:Nat):Int).toNat) (fun i σ H'=>H' = H∧o ∉ own.take i∧∃s2,σ = [some (.ref l),some (.str o),s2]) ⟨rfl,by simp,_,rfl⟩ ?_ ?_
 · rintro i σ H' hi ⟨rfl,hn,s2,rfl⟩
   have e0:(0:Int) + (i:Int) = ((i:Nat):Int):=by omega
   rw [e0]
   have hio:i < own.length:=by omega
   have ei:=List.getElem?_eq_getElem hio
   refine ⟨_,rfl,_,rfl,l,_,_,_,rfl,rfl,hl,bB (by rw [List.getElem?_map,ei];rfl),_,rfl,rfl,_,rfl,dY (fun c=>?_) (fun c=>?_)⟩
   · have c':own[i] = o:=V.str.inj (of_decide_eq_true c)
     refine ⟨_,rfl,?_⟩
     have:own.idxOf o = i:=by
      have h1:own.idxOf o≤i:=by
       rcases Nat.lt_or_ge i (own.idxOf o) with z | z
       · exact absurd c' (by simpa using List.not_of_lt_findIdx z)
       · exact z
      rcases Nat.lt_or_ge (own.idxOf o) i with z | z
      · exact absurd (List.mem_of_getElem? (i:=own.idxOf o) (by rw [List.getElem?_take,if_pos z];exact yH ho)) hn
      · omega
     rw [← this];exact q
   · refine ⟨rfl,fun m=>?_,_,rfl⟩
     rw [take_snoc ei] at m
     rcases List.mem_append.mp m with z | z
     · exact hn z
     · exact c (decide_eq_true (by rw [List.mem_singleton.mp z]))
 rintro σ H' ⟨rfl,hn,s2,rfl⟩
 rw [show (((own.map V.str).length:Nat):Int).toNat = own.length from by omega,List.take_length] at hn
 exact absurd ho hn
abbrev iV:Stmt:=top 32
abbrev wM:List Str:=["_law_model_here","_law_name_here","_law_owner","_law_worth","_law_weight","_law_tops"]
abbrev nM:List Str:=["_law_model_here","_law_name_here","_law_owner","_law_worth","_law_weight"]
theorem mZ:aI wM nM (au iV):=⟨rfl,rfl,rfl,by decide +kernel,rfl,by decide +kernel,by decide +kernel⟩
theorem u0 (F:At K mg "_law_new_part" iV f fd) (nX:Dn P w K mg base 1 "_law_seat" ["_law_owners","_law_name_here"] (GA K)):Dn P w K mg base 2 "_law_new_part" nM yI:=by
 refine F.ok mZ (fun vs H Q E h=>?_) (fun cdv A outer s H vs Q E hr h=>?_) (fun _ _ _ _ _ _ us hl=>match us,hl with | [_,_,_,_,_],_=>rfl)
 · obtain ⟨n,ρ,B,b,x,o,wo,we,rfl,_⟩:=h.ex
   rfl
 obtain ⟨n,ρ,B,b,x,o,wo,we,rfl,G,h,ho,c7,hpl,Tn,q⟩:=h.ex
 refine ⟨_,(ah (lN (i:=5) ["_law_one"] [none] mZ.nd rfl rfl rfl (cQ K (bL (bH hr) (pv 0) bO (fun _ _=>rfl))) (fun _ _ _ _=>(aG (i:=0) (show List.Nodup (["_law_one"] :List Str) from by decide +kernel) rfl (Or.inl rfl))) (fun _ _ _ _=>ak) rfl (by rfl) (by rfl))
  (ah (oE (bL (bH hr) (pv 0) bO (fun _ _=>rfl)) (oB (pv 5) (a_ nX hr (aa (bL (bH hr) (pv 0) bO (fun _ _=>rfl)) (aa (pv 2) aj))) set_list))
  (ah (bZ (lF PySem.F.plainAttrs_list PySem.F.slot_list_append PySem.F.type_list_append dP (bL (bH hr) (pv 0) bO (fun _ _=>rfl)) (aa (fK (aa (pv 1) (aa (pv 2) (aa (pv 3) (aa (pv 4) (aa (pv 5) aj)))))) aj)))
  (aq (bZ (lF PySem.F.plainAttrs_list PySem.F.slot_list_append PySem.F.type_list_append dP (bL (bH hr) (pv 0) bO (fun _ _=>rfl)) (aa (pv 1) aj))))))),?_⟩
 refine ⟨_,rfl,B.m,_,rfl,b9.k (k:=Sum.inr "owners") h.om,B.lo,rfl,⟨_,av.of h.oo⟩,fun l0 ia=>?_⟩
 have xW:(b.own.map V.str).length = b.own.length:=List.length_map _
 refine fM (J:=nj K B.lo) (n:=(b.own.map V.str).length) 0 (fun i o H'=>aD H H'∧o = (List.replicate i (0:Int)).map V.int) (by omega) ⟨aA ia _,rfl⟩ (fun i o H' hi _ hp=>⟨_,_,av.of (hp.1 _ _ h.oo),List.getElem?_eq_getElem hi⟩) (fun o H' _ hp=>⟨_,av.of (hp.1 _ _ h.oo),Nat.le_refl _⟩) ?_ ?_
 · rintro i y o H2 H3 hi c7 ha ⟨g,e⟩ ⟨rfl,hy⟩
   refine ⟨ha,g.bI ia _,?_⟩
   subst e
   rw [List.replicate_succ',List.map_append]
   rfl
 rintro o1 H1 _ ha ⟨g1,e⟩
 subst e
 rw [xW] at ha
 have h1:=h.mono g1
 have il:b.own.idxOf o < b.own.length:=List.idxOf_lt_length_of_mem ho
 have rl:((List.replicate b.own.length (0:Int)).map V.int).length = b.own.length:=by rw [List.length_map,List.length_replicate]
 refine ⟨_,rfl,B.m,_,rfl,b9.k (k:=Sum.inr "bottom") h1.om,_,rfl,_,rfl,B.m,_,rfl,b9.k (k:=Sum.inr "owners") h1.om,_,rfl,⟨⟨B.lo,b.own,o,rfl,av.of h1.oo,ho,c7,?_⟩⟩⟩
 refine ⟨l0,_,_,_,rfl,rfl,ha,by rw [rl];exact sN il,?_⟩
 rw [← List.map_set]
 have g2:=g1.bI ia (.lst (((List.replicate b.own.length (0:Int)).set (b.own.idxOf o) b.bot).map V.int))
 have ha2:upd H1 l0 (.lst (((List.replicate b.own.length (0:Int)).set (b.own.idxOf o) b.bot).map V.int)) l0 = some (.lst (((List.replicate b.own.length (0:Int)).set (b.own.idxOf o) b.bot).map V.int)):=af
 show xg _ _ _ _ (upd H1 l0 (.lst (((List.replicate b.own.length (0:Int)).set (b.own.idxOf o) b.bot).map V.int)))
 generalize upd H1 l0 (.lst (((List.replicate b.own.length (0:Int)).set (b.own.idxOf o) b.bot).map V.int)) = H2 at *
 have h2:=h.mono g2
 refine ⟨_,rfl,B.m,_,rfl,b9.k (k:=Sum.inr "parts") h2.om, .inl ⟨rfl,_,av.of h2.op⟩,_,rfl,_,rfl,_,rfl,_,rfl,_,rfl,(by show 5≤sizeLine;decide),fun p hp=>?_⟩
 have g3:=aA hp (jd ⟨x,o,wo,we,(List.replicate b.own.length (0:Int)).set (b.own.idxOf o) b.bot⟩ l0)
 have hp3:upd H2 p (jd ⟨x,o,wo,we,(List.replicate b.own.length (0:Int)).set (b.own.idxOf o) b.bot⟩ l0) p = some (jd ⟨x,o,wo,we,(List.replicate b.own.length (0:Int)).set (b.own.idxOf o) b.bot⟩ l0):=af
 show uy _ (upd H2 p (jd ⟨x,o,wo,we,(List.replicate b.own.length (0:Int)).set (b.own.idxOf o) b.bot⟩ l0)) _
 generalize upd H2 p (jd ⟨x,o,wo,we,(List.replicate b.own.length (0:Int)).set (b.own.idxOf o) b.bot⟩ l0) = H3 at *
 have wc:H p = none:=g2.free hp
 have MX:=g2.trans g3
 have To:ρ l0 = none:=G.none ia
 have np:p ≠ l0:=fun e=>by rw [e,ha2] at hp;cases hp
 have cp:bC ρ l0 (n,24,x) p = none:=by rw [bu np];exact G.none wc
 have h3:aS n (bC (bC ρ l0 (n,24,x)) p (n,23,x)) B H3 b:=((h.mono MX).col To).col cp
 have G3:Gh (bC (bC ρ l0 (n,24,x)) p (n,23,x)) H3:=((G.same MX).color (g3 _ _ ha2) rfl).color hp3 rfl
 have F3:Fr n ρ H (bC (bC ρ l0 (n,24,x)) p (n,23,x)) H3:=((Fr.of_same MX).pO ia).pO wc
 have c1:bC (bC ρ l0 (n,24,x)) p (n,23,x) p = some (n,23,x):=cg
 have c2:bC (bC ρ l0 (n,24,x)) p (n,23,x) l0 = some (n,24,x):=by rw [bu (Ne.symm np),cg]
 have GY:=g3 _ _ ha2
 refine ⟨B.lp,_,_,rfl,rfl,h3.op,by rw [List.length_map,h.ql];exact cO hpl,?_⟩
 rw [show B.qs.map (fun q=>V.ref q.1) ++ [V.ref p] = (B.qs ++ [(p,l0)]).map (fun q=>V.ref q.1) from by rw [List.map_append];rfl]
 have h4:=h3.Mt G3 (p:=⟨x,o,wo,we,(List.replicate b.own.length (0:Int)).set (b.own.idxOf o) b.bot⟩) (q:=(p,l0)) hp3 GY c1 c2
 have G4:=G3.wr (a:=B.lp) (o:= .lst ((B.qs ++ [(p,l0)]).map fun q=>V.ref q.1)) rfl
 have F4:=F3.trans (Fr.write (o:= .lst ((B.qs ++ [(p,l0)]).map fun q=>V.ref q.1)) h3.cp)
 generalize upd H3 B.lp (.lst ((B.qs ++ [(p,l0)]).map fun q=>V.ref q.1)) = H4 at *
 refine ⟨_,rfl,B.m,_,rfl,b9.k (k:=Sum.inr "known") h4.om, .inl ⟨rfl,_,av.of h4.ok⟩,_,rfl,B.lk,_,_,rfl,rfl,h4.ok,by rw [List.length_map];exact cO Tn,?_⟩
 rw [show b.lA.map V.str ++ [V.str x] = (b.lA ++ [x]).map V.str from by rw [List.map_append];rfl]
 exact q _ _ _ (G4.wr rfl) (h4.KW G4 (b.lA ++ [x])) rfl (F4.trans (Fr.write h4.ck))
abbrev pW:Stmt:=top 35
abbrev G_:List Str:=["_law_parts","_law_name_here","_law_at_here"]
abbrev yX:List Str:=["_law_parts","_law_name_here"]
theorem wN:aI G_ yX (au pW):=⟨rfl,rfl,rfl,by decide +kernel,rfl,by decide +kernel,by decide +kernel⟩
theorem ER (F:At K mg "_law_at" pW f fd) (aZ:mg "len" = none) (bg:mg "range" = none):Dn P w K mg base 1 "_law_at" yX (JH K):=by
 refine F.ok wN (fun vs H Q E h=>?_) (fun cdv A outer s H vs Q E hr h=>?_) (fun _ _ _ _ _ _ us hl=>match us,hl with | [_,_],_=>rfl)
 · obtain ⟨l,us,ws,j,r,rfl,_⟩:=h.ex
   rfl
 obtain ⟨l,us,ws,j,r,rfl,hl,hW,nd,hle,ej,q⟩:=h.ex
 refine ⟨_,(ah (cC PassesOwn.never rfl (cE (by rfl) bg (aa (aE (bA K) (by rfl) aZ PySem.boot_len (aa (pv 0) aj)) aj)) (aG (i:=2) wN.nd rfl (Or.inl rfl)) (aq (bM (bf lD (aK (jc K) (aK (aM K) (pv 0) (pv 2) (fun _ _=>rfl)) ak (fun _ _=>rfl)) (pv 1) (br _)) (aq (aN (pv 2))) aQ)))
  (aq (aN (Eb An ak)))),?_⟩
 have ll:=hW.len
 have hj:j < ws.length:=(List.getElem?_eq_some_iff.mp ej).1
 refine ⟨_,rfl,l,_,rfl, .inl hl,_,rfl,by omega,by omega,?_⟩
 refine c9 (lo:=0) (n:=((us.length:Nat):Int).toNat) (fun i σ H'=>H' = H∧i≤j∧∃s2,σ = [some (.ref l),some (.str r.1),s2]) ⟨rfl,Nat.zero_le _,_,rfl⟩ ?_ ?_
 · rintro i σ H' hi ⟨rfl,hn,s2,rfl⟩
   have e0:(0:Int) + (i:Int) = ((i:Nat):Int):=by omega
   rw [e0]
   have hio:i < ws.length:=by omega
   have ei:=List.getElem?_eq_getElem hio
   obtain ⟨a,xs,ea,D5,x0,_⟩:=hW.at_ i _ ei
   refine ⟨_,rfl,_,rfl,l,_,_,_,rfl,rfl,hl,bB ea,D5.ix (i:=0) x0 ?_⟩
   refine ⟨_,rfl,rfl,_,rfl,dY (fun c=>?_) (fun c=>?_)⟩
   · have c':(ws[i]).1 = r.1:=V.str.inj (of_decide_eq_true c)
     have:i = j:=by
      have r1:(ws.map (fun r:Row=>r.1))[i]? = some (ws[i]).1:=by rw [List.getElem?_map,ei];rfl
      have r2:(ws.map (fun r:Row=>r.1))[j]? = some r.1:=by rw [List.getElem?_map,ej];rfl
      exact (List.getElem?_inj (by rw [List.length_map];exact hio) nd).mp (r1.trans (by rw [c'];exact r2.symm))
     subst this
     exact ⟨_,rfl,q⟩
   · refine ⟨rfl,?_,_,rfl⟩
     rcases Nat.lt_or_ge i j with z | z
     · exact z
     · have:i = j:=by omega
       subst this
       rw [ei] at ej
       cases ej
       exact absurd (decide_eq_true rfl) c
 rintro σ H' ⟨rfl,hn,s2,rfl⟩
 omega
abbrev m7:Stmt:=top 34
abbrev CQ:List Str:=["_law_script","_law_k","_law_parts","_law_spare","_law_order","_law_rows_here","_law_at_here","_law_way","_law_amount"]
abbrev uh:List Str:=["_law_script","_law_k","_law_parts"]
theorem c6:aI CQ uh (au m7):=⟨rfl,rfl,rfl,by decide +kernel,rfl,by decide +kernel,by decide +kernel⟩
theorem B_ (F:At K mg "_law_rows" m7 f fd) (aU:Dn P w K mg base 1 "_law_draw" ["_law_script","_law_k","_law_j","_law_many"] (lW K)) (aZ:mg "len" = none) (bg:mg "range" = none) (bW:mg "list" = none) (dU:mg "sum" = none) (ES:mg "min" = none):Dn P w K mg base 2 "_law_rows" uh (DT K):=by
 refine F.ok c6 (fun vs H Q E h=>?_) (fun cdv A outer s H vs Q E hr h=>?_) (fun _ _ _ _ _ _ us hl=>match us,hl with | [_,_,_],_=>rfl)
 · obtain ⟨a,l,ns,k,us,ws,rfl,_⟩:=h.ex
   rfl
 obtain ⟨a,l,ns,k,us,ws,rfl,hS,h63,hk0,hk1,hl,hW,nd,hle,hw1,q⟩:=h.ex
 refine ⟨_,(ah (aF (i:=3) c6.nd rfl (Or.inl rfl) (aB lR (aE (i8 K rfl) (by rfl) dU PyProof.Rows.boot_sum (aa (d7 ["_law_part"] [none] rfl (cQ K (pv 2)) (fun _ _ _ _=>(aG (i:=0) (show List.Nodup (["_law_part"] :List Str) from by decide +kernel) rfl (Or.inl rfl))) (fun _ _ _ _=>(aK (jc K) (pv 0) ak (fun _ _=>rfl))) rfl (by rfl)) aj)) ak))
  (ah (aF (i:=4) c6.nd rfl (Or.inl rfl) (iZ (zg rfl) (by rfl) bW PyProof.Rows.boot_list (aa (FJ (by rfl) bg (aa (aE (bA K) (by rfl) aZ PySem.boot_len (aa (pv 2) aj)) aj)) aj)))
  (ah (gI (bf lD (a_ aU hr (aa (pv 0) (aa (pv 1) (aa ak (aa ak aj))))) ak (br _)) (aq (aF (i:=4) c6.nd rfl (Or.inl rfl) (L5 K (pv 4) (Eb An ak)))) aQ)
  (ah (aF (i:=5) c6.nd rfl (Or.inl rfl) (fK aj))
  (ah (cC PassesOwn.never rfl (cQ K (pv 4)) (aG (i:=6) c6.nd rfl (Or.inl rfl)) (ah (aF (i:=7) c6.nd rfl (Or.inl rfl) (a_ aU hr (aa (pv 0) (aa (pv 1) (aa (aB bP ak (aB fm ak (pv 6))) (aa ak aj))))))
  (ah (aF (i:=8) c6.nd rfl (Or.inl rfl) (aE (GC rfl) (by rfl) ES PyProof.Rows.boot_min (aa (aK (jc K) (aK (aM K) (pv 2) (pv 6) (fun _ _=>rfl)) ak (fun _ _=>rfl)) (aa (pv 3) (aa (aB lS ak ak) aj)))))
  (ah (gI (dw (PW.pt (qx (bf lD (pv 7) ak (br _)) (sj (bf gD (pv 8) ak (br _)))))) (aq (aF (i:=8) c6.nd rfl (Or.inl rfl) (aB bP ak (a_ aU hr (aa (pv 0) (aa (pv 1) (aa (aB bP ak (aB fm ak (pv 6))) (aa (pv 8) aj)))))))) aQ)
  (aq (gI (dw (PW.pt (qx (bf gD (pv 7) ak (br _)) (sj (bf gD (pv 8) ak (br _)))))) (ah (bZ (lF PySem.F.plainAttrs_list PySem.F.slot_list_append PySem.F.type_list_append dP (pv 5) (aa (iz (aa (aK (jc K) (aK (aM K) (pv 2) (pv 6) (fun _ _=>rfl)) ak (fun _ _=>rfl)) (aa (pv 8) aj))) aj)))
  (aq (aF (i:=3) c6.nd rfl (Or.inl rfl) (aB lR (pv 3) (pv 8))))) aQ))))))
  (aq (aN (pv 5)))))))),?_⟩
 have ll:=hW.len
 refine ⟨_,rfl,l,rfl,⟨_,hl⟩,fun l0 ia=>?_⟩
 refine fM (J:=nj K l) (n:=us.length) 0 (fun i o H'=>aD H H'∧o = ((ws.take i).map (fun r:Row=>r.2)).map V.int) (by omega) ⟨aA ia _,rfl⟩ (fun i o H' hi _ hp=>⟨_,_,hp.1.seq hl,List.getElem?_eq_getElem hi⟩) (fun o H' _ hp=>⟨_,hp.1.seq hl,Nat.le_refl _⟩) ?_ ?_
 · rintro i y o H2 H3 hi c7 ha ⟨g,e⟩ ⟨rfl,hy⟩
   have Tp:i < ws.length:=by omega
   have ei:=List.getElem?_eq_getElem Tp
   obtain ⟨ar,xs,ea,D5,x0,x2⟩:=hW.at_ i _ ei
   have ey:=hy _ (g.seq hl)
   rw [ea] at ey
   cases ey
   refine ⟨_,rfl,(g.sq D5).ix (i:=2) x2 ?_⟩
   refine ⟨ha,g.bI ia _,?_⟩
   subst e
   rw [take_snoc ei,List.map_append,List.map_append]
   rfl
 rintro o1 H1 _ ha ⟨g1,e⟩
 rw [ll,List.take_length] at e
 subst e
 refine ⟨l0,ws.map (fun r:Row=>r.2),rfl,av.of ha,_,_,rfl,rfl,?_⟩
 show iE 3 (.int (aC ws - 1)) _ _ _
 refine ⟨_,rfl,l,_,rfl, .inl (g1.seq hl),_,rfl,fun pr Tq=>?_⟩
 refine ⟨pr,ws.length,rfl,?_,by omega,fun po Tr=>?_⟩
 · rw [af,ll]
 have gA:=(aA Tq (.oq 0 ((us.length:Nat):Int))).trans (aA Tr (.lst ((L2.upTo ws.length).map V.int)))
 have gB:=g1.trans gA
 have hord:upd (upd H1 pr (.oq 0 ((us.length:Nat):Int))) po (.lst ((L2.upTo ws.length).map V.int)) po = some (.lst ((L2.upTo ws.length).map V.int)):=af
 generalize upd (upd H1 pr (.oq 0 ((us.length:Nat):Int))) po (.lst ((L2.upTo ws.length).map V.int)) = H2 at *
 have PB:(L2.upTo ws.length).Nodup:=by
  unfold L2.upTo
  refine List.Pairwise.map _ (fun x y h e=>h (by omega)) List.nodup_range
 have oq:∀x∈L2.upTo ws.length,0≤x∧x < (ws.length:Int):=fun x hx=>by
  unfold L2.upTo at hx
  obtain ⟨i,hi,rfl⟩:=List.mem_map.mp hx
  have:=List.mem_range.mp hi
  omega
 have PD:(L2.upTo ws.length).length = ws.length:=by unfold L2.upTo;rw [List.length_map,List.length_range]
 refine ⟨fun σ H3=>aD H H3∧∃(pq:Addr) (os:List Int),σ = [some (.ref a),some (.int k),some (.ref l),some (.int (aC ws - 1)),some (.ref pq),none,none,none,none]∧H3 pq = some (.lst (os.map V.int))∧os.Nodup∧os.length = ws.length∧∀x∈os,0≤x∧x < (ws.length:Int),?_,?_⟩
 · refine ⟨_,rfl,_,rfl,cG (gB.seq hS) h63 hk0 (by decide) (by decide) (by decide) fun d _ d0 d1=>⟨rfl,_,rfl,dY (fun c=>?_) (fun c=>?_)⟩⟩
   · refine ⟨_,rfl,_,rfl,rfl,po,_,rfl,av.of hord,fun pz ML=>?_⟩
     have g3:=aA ML (.lst ((L2.upTo ws.length).map V.int).reverse)
     exact ⟨gB.trans g3,pz,(L2.upTo ws.length).reverse,rfl,by rw [af,List.map_reverse],List.pairwise_reverse.mpr (List.Pairwise.imp (fun h=>Ne.symm h) PB),by rw [List.length_reverse,PD],fun x hx=>oq x (List.mem_reverse.mp hx)⟩
   · exact ⟨gB,po,L2.upTo ws.length,rfl,hord,PB,PD,oq⟩
 rintro σ H3 ⟨g3,pq,os,rfl,hos,hnd,c7,Tt⟩
 refine ⟨(by show 0≤sizeLine;decide),fun z hz=>?_⟩
 have g4:=aA hz (.lst [])
 have Tu:upd H3 z (.lst []) z = some (.lst []):=af
 have MY:=g4 _ _ hos
 have nz:pq ≠ z:=fun e=>by rw [e,hz] at hos;cases hos
 have PF:H z = none:=g3.free hz
 have D4:=g3.trans g4
 show xg _ _ _ _ (upd H3 z (.lst []))
 generalize upd H3 z (.lst []) = H4 at *
 have w1:ws ≠ []→1≤aC ws:=fun hne=>by
  cases ws with
  | nil=>exact absurd rfl hne
  | cons r rs=>
    have h1:=hw1 r List.mem_cons_self
    have h2:=pR (rs:=rs) fun x hx=>hw1 x (List.mem_cons_of_mem _ hx)
    rw [show aC (r :: rs) = r.2 + aC rs from by unfold aC;rw [List.map_cons,List.sum_cons]]
    omega
 refine ⟨_,rfl,pq,rfl,⟨_,av.of MY⟩,?_⟩
 refine iK (K:=K) (xs:=os.map V.int) (fun i σ H'=>aD H H'∧H' pq = some (.lst (os.map V.int))∧∃(zs:List V) (rs:List Row) (sp:Int) (s6 s7 s8:Option V),σ = [some (.ref a),some (.int k),some (.ref l),some (.int sp),some (.ref pq),some (.ref z),s6,s7,s8]∧H' z = some (.lst zs)∧c5 H' zs rs∧rs.length≤i∧(rs.map (fun r:Row=>r.1)).Nodup∧
   sp = aC ws - 1 - aC rs∧(ws ≠ []→0≤sp)∧∀r∈rs,1≤r.2∧r.2≤1000000000∧∃j:Nat,((j:Nat):Int)∈os.take i∧∃w,ws[j]? = some w∧w.1 = r.1∧r.2≤w.2)
  ⟨D4,MY,[],[],aC ws - 1,none,none,none,rfl,Tu, .nil,Nat.le_refl _,List.nodup_nil,by show _ = aC ws - 1 - 0;omega,fun hne=>by have:=w1 hne;omega,fun r hr=>absurd hr (by simp)⟩ ?_ ?_ ?_
 · rintro i σ H' _ ⟨_,h,_⟩
   exact av.of h
 · rintro i x σ H5 hx ⟨g5,MZ,zs,rs,sp,s6,s7,s8,rfl,D6,hR,hrl,JX,lT,ET,uY⟩
   rw [List.getElem?_map] at hx
   obtain ⟨at',hat,rfl⟩:=Option.map_eq_some_iff.mp hx
   have hio:=(List.getElem?_eq_some_iff.mp hat).1
   obtain ⟨t0,t1⟩:=Tt at' (List.mem_of_getElem? hat)
   obtain ⟨jt,Tv⟩:∃jt:Nat,((jt:Nat):Int) = at':=⟨at'.toNat,by omega⟩
   subst Tv
   have hjl:jt < ws.length:=by omega
   have hne:ws ≠ [] :=fun e=>by rw [e] at hjl;simp at hjl
   have Rn:=ET hne
   have hnot:((jt:Nat):Int) ∉ os.take i:=fun m=>by
    obtain ⟨j,hj,ej⟩:=List.mem_iff_getElem.mp m
    rw [List.getElem_take] at ej
    rw [List.length_take] at hj
    have e2:=(List.getElem?_eq_some_iff.mp hat).2
    have:=(List.getElem_inj hnd).mp (ej.trans e2.symm)
    omega
   have ej:=List.getElem?_eq_getElem hjl
   have UO:=hw1 _ (List.mem_of_getElem? ej)
   generalize ws[jt] = wj at *
   obtain ⟨ar,xs,ea,D5,x0,x2⟩:=hW.at_ jt _ ej
   refine ⟨_,rfl,_,rfl,_,rfl,_,_,rfl,rfl, .inl ⟨by decide,by decide⟩,_,_,rfl,rfl,cG (g5.seq hS) h63 hk0 (by omega) (by omega) (by decide) fun way _ v0 v1=>?_⟩
   refine ⟨_,rfl,_,rfl,l,_,_,_,rfl,rfl,g5.seq hl,bB ea,(g5.sq D5).ix (i:=2) x2 ?_⟩
   refine ⟨_,rfl,_,_,rfl,rfl,⟨by decide,by decide,by decide⟩,_,_,_,rfl,?_⟩
   obtain ⟨m1,m2,m3⟩:=KY wj.2 sp ((10:Int) ^ (9:Int).toNat)
   have m0:0≤mz wj.2 sp ((10:Int) ^ (9:Int).toNat):=KZ (by omega) Rn (by decide)
   have m3:mz wj.2 sp ((10:Int) ^ (9:Int).toNat)≤1000000000:=m3
   generalize mz wj.2 sp ((10:Int) ^ (9:Int).toNat) = m at *
   refine ⟨fun σ H6=>H5 = H6∧∃m:Int,0≤m∧m≤sp∧m≤wj.2∧m≤1000000000∧σ = [some (.ref a),some (.int k),some (.ref l),some (.int sp),some (.ref pq),some (.ref z),some (.int (jt:Int)),some (.int way),some (.int m)],?_,?_⟩
   · refine ⟨decide (way = 2∧0 < m),?_,?_⟩
     · refine ⟨_,rfl,rfl,_,rfl,?_⟩
       by_cases h1:way = 2
       · rw [decide_eq_true (by rw [h1] :V.int way = V.int 2)]
         refine pC ⟨_,rfl,_,_,rfl,rfl,_,rfl,?_,rfl⟩
         by_cases h2:0 < m
         · rw [decide_eq_true h2,decide_eq_true ⟨h1,h2⟩]
         · rw [decide_eq_false h2,decide_eq_false fun z=>h2 z.2]
       · rw [decide_eq_false (fun z=>h1 (V.int.inj z))]
         exact bN ⟨(decide_eq_false fun z=>h1 z.1).symm,rfl⟩
     refine dY (fun c=>?_) (fun c=>?_)
     · obtain ⟨_,c2⟩:=of_decide_eq_true c
       refine ⟨_,rfl,_,rfl,_,rfl,_,_,rfl,rfl, .inl ⟨by decide,by decide⟩,_,_,rfl,rfl,_,rfl,cG (g5.seq hS) h63 hk0 (by omega) (by omega) c2 fun d _ d0 d1=>⟨_,_,rfl,rfl,rfl,1 + d,by omega,by omega,by omega,by omega,rfl⟩⟩
     · exact ⟨rfl,m,m0,m2,m1,m3,rfl⟩
   rintro σ H6 ⟨rfl,o,o0,o1,o2,o3,rfl⟩
   have grow:∀r∈rs,1≤r.2∧r.2≤1000000000∧∃j:Nat,((j:Nat):Int)∈os.take (i + 1)∧∃w,ws[j]? = some w∧w.1 = r.1∧r.2≤w.2:=fun r hr=>by
    obtain ⟨a1,a2,j,a3,a4⟩:=uY r hr
    exact ⟨a1,a2,j,by rw [take_snoc hat];exact List.mem_append_left _ a3,a4⟩
   refine ⟨fun σ H6=>aD H H6∧H6 pq = some (.lst (os.map V.int))∧∃(zs:List V) (rs:List Row) (sp:Int) (s6 s7 s8:Option V),σ = [some (.ref a),some (.int k),some (.ref l),some (.int sp),some (.ref pq),some (.ref z),s6,s7,s8]∧H6 z = some (.lst zs)∧c5 H6 zs rs∧rs.length≤i + 1∧(rs.map (fun r:Row=>r.1)).Nodup∧
    sp = aC ws - 1 - aC rs∧(ws ≠ []→0≤sp)∧∀r∈rs,1≤r.2∧r.2≤1000000000∧∃j:Nat,((j:Nat):Int)∈os.take (i + 1)∧∃w,ws[j]? = some w∧w.1 = r.1∧r.2≤w.2,?_,fun _ _ h=>h⟩
   refine ⟨decide (0 < way∧0 < o),?_,?_⟩
   · refine ⟨_,rfl,_,_,rfl,rfl,_,rfl,?_⟩
     by_cases h1:0 < way
     · rw [decide_eq_true h1]
       refine pC ⟨_,rfl,_,_,rfl,rfl,_,rfl,?_,rfl⟩
       by_cases h2:0 < o
       · rw [decide_eq_true h2,decide_eq_true ⟨h1,h2⟩]
       · rw [decide_eq_false h2,decide_eq_false fun z=>h2 z.2]
     · rw [decide_eq_false h1]
       exact bN ⟨(decide_eq_false fun z=>h1 z.1).symm,rfl⟩
   refine dY (fun c=>?_) (fun c=>?_)
   · obtain ⟨_,c2⟩:=of_decide_eq_true c
     refine ⟨_,rfl, .inl ⟨rfl,_,av.of D6⟩,_,rfl,_,rfl,l,_,_,_,rfl,rfl,g5.seq hl,bB ea,(g5.sq D5).ix (i:=0) x0 ?_⟩
     refine ⟨_,rfl,(by show 2≤sizeLine;decide),fun p hp=>?_⟩
     have g6:=aA hp (qW (wj.1,o))
     have PJ:=g6 _ _ D6
     have Tw:=g6 _ _ MZ
     have JL:upd H5 p (qW (wj.1,o)) p = some (qW (wj.1,o)):=af
     have Ro:=hR.length
     show uy _ (upd H5 p (qW (wj.1,o))) _
     generalize upd H5 p (qW (wj.1,o)) = H6 at *
     refine ⟨z,_,_,rfl,rfl,PJ,by rw [Ro];exact cO (by omega),?_⟩
     have np:p ≠ z:=fun e=>by rw [e,D6] at hp;cases hp
     have tu:∀b ys,H6 b = some (.tup ys)→upd H6 z (.lst (zs ++ [.ref p])) b = some (.tup ys):=fV (.inr ⟨_,PJ,rfl⟩)
     refine ⟨_,rfl,_,rfl,_,_,rfl,rfl,(g5.trans g6).bI PF _,by rw [ao nz];exact Tw,zs ++ [.ref p],rs ++ [(wj.1,o)],sp - o,_,_,_,rfl,af,((hR.mono g6.tups).snoc JL).mono tu,by rw [List.length_append];show rs.length + 1≤i + 1;omega,?_,?_,fun _=>by omega,?_⟩
     · rw [List.map_append]
       refine i7 JX fun hm=>?_
       obtain ⟨r,hr,er⟩:=List.mem_map.mp hm
       obtain ⟨_,_,j,hj,w,M_,e1,_⟩:=uY r hr
       have hj2:j < ws.length:=(List.getElem?_eq_some_iff.mp M_).1
       have r1:(ws.map (fun r:Row=>r.1))[j]? = some w.1:=by rw [List.getElem?_map,M_];rfl
       have r2:(ws.map (fun r:Row=>r.1))[jt]? = some wj.1:=by rw [List.getElem?_map,ej];rfl
       have er:r.1 = wj.1:=er
       have:j = jt:=(List.getElem?_inj (by rw [List.length_map];exact hj2) nd).mp (r1.trans (by rw [e1,er];exact r2.symm))
       rw [this] at hj
       exact hnot hj
     · rw [show aC (rs ++ [(wj.1,o)]) = aC rs + o from by unfold aC;rw [List.map_append,List.sum_append];simp]
       omega
     · intro r hr
       rcases List.mem_append.mp hr with h1 | h1
       · exact grow r h1
       · rw [List.mem_singleton.mp h1]
         exact ⟨by show 1≤o;omega,o3,jt,by rw [take_snoc hat];exact List.mem_append_right _ (List.mem_singleton.mpr rfl),wj,ej,rfl,o2⟩
   · exact ⟨g5,MZ,zs,rs,sp,_,_,_,rfl,D6,hR,by omega,JX,lT,ET,grow⟩
 rintro σ H5 ⟨g5,MZ,zs,rs,sp,s6,s7,s8,rfl,D6,hR,hrl,JX,lT,ET,uY⟩
 rw [List.length_map,c7] at hrl
 refine ⟨_,rfl,q z zs rs H5 g5 PF D6 hR ⟨JX,fun r hr=>?_,?_,hrl⟩⟩
 · obtain ⟨a1,a2,j,_,w,hw,e1,e2⟩:=uY r hr
   exact ⟨a1,a2,w,List.mem_of_getElem? hw,e1,e2⟩
 · by_cases c:ws = []
   · right
     rw [c] at hrl
     exact List.length_eq_zero_iff.mp (by simpa using hrl)
   · left
     have:=ET c
     omega
abbrev m8:Stmt:=top 36
abbrev CS:List Str:=["_law_model_here","_law_amounts","_law_seat_here","_law_award","_law_parts","_law_whole","_law_kept","_law_given","_law_at_here","_law_k"]
abbrev um:List Str:=["_law_model_here","_law_amounts","_law_seat_here","_law_award"]
theorem eF:aI CS um (au m8):=⟨rfl,rfl,rfl,by decide +kernel,rfl,by decide +kernel,by decide +kernel⟩
theorem Ca (F:At K mg "_law_bear" m8 f fd) (aZ:mg "len" = none) (bg:mg "range" = none) (dU:mg "sum" = none):Dn P w K mg base 1 "_law_bear" um (GD K):=by
 refine F.ok eF (fun vs H Q E h=>?_) (fun cdv A outer s H vs Q E hr h=>?_) (fun _ _ _ _ _ _ us hl=>match us,hl with | [_,_,_,_],_=>rfl)
 · obtain ⟨n,ρ,B,b,l,as,seat,aw,rfl,_⟩:=h.ex
   rfl
 obtain ⟨n,ρ,B,b,l,as,seat,aw,rfl,G,h,wf,hl,cl,ok,q⟩:=h.ex
 refine ⟨_,(ah (aF (i:=4) eF.nd rfl (Or.inr rfl) (bL (bH hr) (pv 0) bO (fun _ _=>rfl)))
  (ah (aF (i:=5) eF.nd rfl (Or.inl rfl) (aE (i8 K rfl) (by rfl) dU PyProof.Rows.boot_sum (aa (d7 ["_law_part"] [none] rfl (cQ K (pv 4)) (fun _ _ _ _=>(aG (i:=0) (show List.Nodup (["_law_part"] :List Str) from by decide +kernel) rfl (Or.inl rfl))) (fun _ _ _ _=>(aK (aM K) (pv 0) ak (fun _ _=>rfl))) rfl (by rfl)) aj)))
  (ah (aF (i:=6) eF.nd rfl (Or.inr rfl) (aB lR (aB lR (pv 5) (pv 3)) (aE (i8 K rfl) (by rfl) dU PyProof.Rows.boot_sum (aa (pv 1) aj))))
  (ah (aF (i:=7) eF.nd rfl (Or.inr rfl) (fK aj))
  (ah (cC PassesOwn.never rfl (cE (by rfl) bg (aa (aE (bA K) (by rfl) aZ PySem.boot_len (aa (bL (bH hr) (pv 0) bO (fun _ _=>rfl)) aj)) aj)) (aG (i:=8) eF.nd rfl (Or.inr rfl)) (aq (bZ (lF PySem.F.plainAttrs_list PySem.F.slot_list_append PySem.F.type_list_append dP (pv 7) (aa (aE (i8 K rfl) (by rfl) dU PyProof.Rows.boot_sum (aa (d7 ["_law_k","_law_parts","_law_at_here","_law_amounts"] [none,some 4,some 8,some 1] rfl (cE (by rfl) bg (aa (aE (bA K) (by rfl) aZ PySem.boot_len (aa (pv 4) aj)) aj)) (fun _ _ _ _=>(aG (i:=0) (show List.Nodup (["_law_k","_law_parts","_law_at_here","_law_amounts"] :List Str) from by decide +kernel) rfl (Or.inl rfl))) (fun _ _ _ _=>(aB fL (aK (aM K) (aK (aM K) (aK (aM K) (pv 1) (pv 0) (fun _ _=>rfl)) ak (fun _ _=>rfl)) (pv 2) (fun _ _=>rfl)) (aK (aM K) (pv 3) (pv 0) (fun _ _=>rfl)))) rfl (by rfl)) aj)) aj)))))
  (ah (gI (bf gD (pv 3) ak (br _)) (aq (oE (aB bP (aK (aM K) (pv 7) (pv 2) (fun _ _=>rfl)) (aB fL (pv 3) (bL (bH hr) (pv 0) bO (fun _ _=>rfl)))) (oB (pv 7) (pv 2) set_list))) aQ)
  (ah (cC PassesOwn.never rfl (cE (by rfl) bg (aa (aE (bA K) (by rfl) aZ PySem.boot_len (aa (pv 4) aj)) aj)) (aG (i:=9) eF.nd rfl (Or.inr rfl)) (ah (oE (d7 ["_law_at_here","_law_parts","_law_k","_law_kept","_law_given"] [none,some 4,some 9,some 6,some 7] rfl (cE (by rfl) bg (aa (aE (bA K) (by rfl) aZ PySem.boot_len (aa (pv 7) aj)) aj)) (fun _ _ _ _=>(aG (i:=0) (show List.Nodup (["_law_at_here","_law_parts","_law_k","_law_kept","_law_given"] :List Str) from by decide +kernel) rfl (Or.inl rfl))) (fun _ _ _ _=>(aB bP (aB fL (aK (aM K) (aK (aM K) (aK (aM K) (pv 1) (pv 2) (fun _ _=>rfl)) ak (fun _ _=>rfl)) (pv 0) (fun _ _=>rfl)) (pv 3)) (aK (aM K) (pv 4) (pv 0) (fun _ _=>rfl)))) rfl (by rfl)) (oB (aK (aM K) (pv 4) (pv 9) (fun _ _=>rfl)) ak set_list))
  (aq (oE (aB lR (aK (aM K) (aK (aM K) (pv 4) (pv 9) (fun _ _=>rfl)) ak (fun _ _=>rfl)) (aK (aM K) (pv 1) (pv 9) (fun _ _=>rfl))) (oB (aK (aM K) (pv 4) (pv 9) (fun _ _=>rfl)) ak set_list)))))
  (ah (jS (bH hr) (pv 0) bO (aB fL (bL (bH hr) (pv 0) bO (fun _ _=>rfl)) (pv 5)) rfl)
  (aq (jS (bH hr) (pv 0) bO (AO ["_law_part"] [none] rfl (cQ K (pv 4)) (fun _ _ _ _=>(aG (i:=0) (show List.Nodup (["_law_part"] :List Str) from by decide +kernel) rfl (Or.inl rfl))) (fun _ _ _ _=>(pv 0)) (fun _ _ _ _=>(bf gD (aK (aM K) (pv 0) ak (fun _ _=>rfl)) ak (br _))) rfl (by rfl)) rfl)))))))))),?_⟩
 have pl:=wf.pl
 have wO:(B.qs.map fun q=>V.ref q.1).length = b.ai.length:=by rw [List.length_map];exact h.ql
 refine ⟨_,rfl,B.m,_,rfl,b9.k (k:=Sum.inr "parts") h.om,?_⟩
 refine ⟨_,rfl,B.lp,rfl,⟨_,av.of h.op⟩,fun l0 ia=>?_⟩
 refine fM (J:=nj K B.lp) (n:=b.ai.length) 0 (fun i o H'=>aD H H'∧o = ((b.ai.take i).map (fun p:BP=>p.wo)).map V.int) (by omega) ⟨aA ia _,rfl⟩ (fun i o H' hi _ hp=>⟨_,_,av.of (hp.1 _ _ h.op),List.getElem?_eq_getElem (by rw [wO];exact hi)⟩) (fun o H' _ hp=>⟨_,av.of (hp.1 _ _ h.op),by rw [wO];exact Nat.le_refl _⟩) ?_ ?_
 · rintro i y o H2 H3 hi c7 ha ⟨g,e⟩ ⟨rfl,hy⟩
   have ei:=List.getElem?_eq_getElem hi
   obtain ⟨qq,eq,k1,k2,_,_⟩:=h.find ei
   have ey:=hy _ (av.of (g _ _ h.op))
   rw [List.getElem?_map,eq] at ey
   cases ey
   refine ⟨_,rfl,qq.1,_,_,_,rfl,rfl,av.of (g _ _ k1),bB (j:=2) rfl,ha,g.bI ia _,?_⟩
   subst e
   rw [take_snoc ei,List.map_append,List.map_append]
   rfl
 rintro o1 H1 _ ha ⟨g1,e⟩
 rw [List.take_length] at e
 subst e
 refine ⟨l0,b.ai.map (fun p:BP=>p.wo),rfl,av.of ha,?_⟩
 show iE 5 (.int (aY b)) _ _ _
 refine ⟨_,rfl,_,rfl,_,_,rfl,rfl,_,rfl,l,as,rfl,g1.seq hl,_,_,rfl,rfl,?_⟩
 show iE 6 (.int (aY b - aw - as.sum)) _ _ _
 generalize PK:aY b - aw - as.sum = kept at *
 have hkp:0 < kept:=by rw [← PK];exact ok.kept
 have zw:=ok.big
 have as0:0≤as.sum:=by
  cases has:as with
  | nil=>exact Int.le_refl _
  | cons a l=>exact Int.le_trans (ok.a0 a (by rw [has];exact List.mem_cons_self)) (by rw [← has];exact nC ok.a0 (by rw [has];exact List.mem_cons_self))
 have zk:Jm.Sz 60 kept:=zw.of_le (by have:=ok.yJ;omega)
 have za:∀a∈as,Jm.Sz 60 a:=fun a hm=>zw.of_le (by have:=ok.a0 a hm;have:=nC ok.a0 hm;have:=ok.yJ;omega)
 have Tz:Jm.Sz 60 aw:=zw.of_le (by have:=ok.yJ;omega)
 have zt:∀p∈b.ai,∀t∈p.tops,Jm.Sz 7000 t:=fun p hp t ht=>Jm.Sz.ji (by have:=wf.t0 p hp t ht;have:=wf.b1;omega) (wf.t0 p hp t ht).2 wf.bz
 have h1:=h.mono g1
 have hl1:=g1.seq hl
 refine ⟨(by show 0≤sizeLine;decide),fun gv PL=>?_⟩
 have g2:=aA PL (.lst [])
 have JE:upd H1 gv (.lst []) gv = some (.lst []):=af
 have IU:H gv = none:=g1.free PL
 have GV:=g1.trans g2
 show xg _ _ _ _ (upd H1 gv (.lst []))
 generalize upd H1 gv (.lst []) = H2 at *
 have h2:=h.mono GV
 have ol:=wf.ol
 have Tc:(b.own.map V.str).length = b.own.length:=List.length_map _
 refine ⟨_,rfl,B.m,_,rfl,b9.k (k:=Sum.inr "owners") h2.om,B.lo,_,rfl, .inl (av.of h2.oo),_,rfl,by omega,by omega,?_⟩
 refine c9 (lo:=0) (n:=(((b.own.map V.str).length:Nat):Int).toNat) (fun i σ H'=>aD H H'∧H' gv = some (.lst (((List.range i).map (gY b.ai as)).map V.int))∧∃s8,σ = [some (.ref B.m),some (.ref l),some (.int (seat:Int)),some (.int aw),some (.ref B.lp),some (.int (aY b)),some (.int kept),some (.ref gv),s8,none])
  ⟨GV,JE,_,rfl⟩ ?_ ?_
 · rintro i σ H3 hi ⟨g3,wQ,s8,rfl⟩
   have e0:(0:Int) + (i:Int) = ((i:Nat):Int):=by omega
   rw [e0]
   have hio:i < b.own.length:=by omega
   refine ⟨_,rfl, .inl ⟨rfl,_,av.of wQ⟩,_,rfl,B.lp,_,rfl, .inl (av.of (g3 _ _ h.op)),_,rfl,by omega,by omega,fun c hc=>?_⟩
   refine fM (J:=ve 0 _) (n:=b.ai.length) 0 (fun j o H'=>aD H3 H'∧o = (List.zipWith (fun (p:BP) (a:Int)=>p.tops.getD i 0 * a) (b.ai.take j) (as.take j)).map V.int) (by omega) ⟨aA hc _,rfl⟩ (fun j o H' hj _ _=>by show j < (((B.qs.map fun q=>V.ref q.1).length:Nat):Int).toNat;omega) (fun o H' _ _=>by show (((B.qs.map fun q=>V.ref q.1).length:Nat):Int).toNat≤b.ai.length;omega) ?_ ?_
   · rintro j x o H4 H5 hj c7 GX ⟨g4,e4⟩ ⟨rfl,rfl⟩
     have e0:(0:Int) + (j:Int) = ((j:Nat):Int):=by omega
     rw [e0]
     have ej:=List.getElem?_eq_getElem hj
     have TF:j < as.length:=by rw [ok.len];exact hj
     have ea:=List.getElem?_eq_getElem TF
     obtain ⟨qq,eq,k1,k2,_,_⟩:=h.find ej
     have gg:=g3.trans g4
     have hti:i < (b.ai[j]).tops.length:=by rw [wf.tl _ (List.mem_of_getElem? ej)];exact hio
     have et:=List.getElem?_eq_getElem hti
     have eD:(b.ai[j]).tops.getD i 0 = (b.ai[j]).tops[i] :=by rw [List.getD_eq_getElem?_getD,et];rfl
     refine ⟨_,rfl,_,rfl,B.lp,_,_,_,rfl,rfl,av.of (gg _ _ h.op),bB (by rw [List.getElem?_map,eq];rfl),qq.1,_,_,_,rfl,rfl,av.of (gg _ _ k1),bB (j:=4) rfl,_,rfl,qq.2,_,_,_,rfl,rfl,av.of (gg _ _ k2),bB (by rw [List.getElem?_map,et];rfl),?_⟩
     refine ⟨_,rfl,_,rfl,l,_,_,_,rfl,rfl,gg.seq hl,bB (by rw [List.getElem?_map,ea];rfl),_,_,rfl,rfl,eY (zt _ (List.mem_of_getElem? ej) _ (List.mem_of_getElem? et)) (za _ (List.mem_of_getElem? ea)),GX,g4.bI hc _,?_⟩
     rw [Bo ej ea,e4,List.map_append,eD]
     rfl
   rintro o H4 _ GX ⟨g4,e4⟩
   have e5:List.zipWith (fun (p:BP) (a:Int)=>p.tops.getD i 0 * a) (b.ai.take b.ai.length) (as.take b.ai.length) = List.zipWith (fun (p:BP) (a:Int)=>p.tops.getD i 0 * a) b.ai as:=by rw [List.take_length,← ok.len,List.take_length]
   rw [e5] at e4
   subst e4
   refine ⟨c,_,rfl,av.of GX,gv,_,_,rfl,rfl,g4 _ _ wQ,by rw [List.length_map,List.length_map,List.length_range];exact cO (by omega),(g3.trans g4).bI IU _,?_,_,rfl⟩
   rw [af,List.range_succ,List.map_append,List.map_append]
   rfl
 rintro σ H3 ⟨g3,wQ,s8,rfl⟩
 rw [show (((b.own.map V.str).length:Nat):Int).toNat = b.own.length from by omega] at wQ
 have wQ:H3 gv = some (.lst ((dj b as).map V.int)):=wQ
 have h3:=h.mono g3
 have gl:=jv b as
 refine ⟨fun σ H'=>aD H H'∧H' gv = some (.lst ((fE b as seat aw).map V.int))∧σ = [some (.ref B.m),some (.ref l),some (.int (seat:Int)),some (.int aw),some (.ref B.lp),some (.int (aY b)),some (.int kept),some (.ref gv),s8,none],?_,?_⟩
 · refine ⟨_,rfl,_,_,rfl,rfl,_,rfl,dY (fun c=>?_) (fun c=>?_)⟩
   · have c':0 < aw:=of_decide_eq_true c
     have hsl:seat < (dj b as).length:=by rw [gl];exact ok.seat
     have es:=List.getElem?_eq_getElem hsl
     have eD:(dj b as).getD seat 0 = (dj b as)[seat] :=by rw [List.getD_eq_getElem?_getD,es];rfl
     refine ⟨_,rfl,_,rfl,gv,_,_,_,rfl,rfl,av.of wQ,bB (by rw [List.getElem?_map,es];rfl),_,rfl,_,rfl,B.m,_,rfl,b9.k (k:=Sum.inr "bottom") h3.om,_,_,rfl,rfl,eY Tz wf.bz,_,_,rfl,rfl,_,rfl,_,rfl,gv,_,_,_,rfl,rfl,wQ,by rw [List.length_map];exact sN hsl,g3.bI IU _,?_,rfl⟩
     rw [af]
     unfold fE
     rw [if_pos c',List.map_set,eD]
   · have c':¬ 0 < aw:=of_decide_eq_false (Bool.eq_false_iff.mpr c)
     refine ⟨g3,?_,rfl⟩
     unfold fE
     rw [if_neg c']
     exact wQ
 rintro σ H4 ⟨g4,TH,rfl⟩
 have Na:=uO b as seat aw
 generalize TJ:fE b as seat aw = given at *
 have h4:=h.mono g4
 have UP:(given.map V.int).length = b.own.length:=by rw [List.length_map];exact Na
 have TL:ρ gv = none:=G.none IU
 have bl:(bT b as seat aw).length = b.ai.length:=nB ok.len
 refine ⟨_,rfl,B.lp,_,rfl, .inl (av.of h4.op),_,rfl,by omega,by omega,?_⟩
 refine c9 (lo:=0) (n:=(((B.qs.map fun q=>V.ref q.1).length:Nat):Int).toNat) (fun i σ H'=>∃ρ' B' s8 s9,σ = [some (.ref B.m),some (.ref l),some (.int (seat:Int)),some (.int aw),some (.ref B.lp),some (.int (aY b)),some (.int kept),some (.ref gv),s8,s9]∧Gh ρ' H'∧aS n ρ' B' H' { b with ai:=(bT b as seat aw).take i ++ b.ai.drop i }∧B'.m = B.m∧B'.lp = B.lp∧Fr n ρ H ρ' H'∧H' gv = some (.lst (given.map V.int))∧ρ' gv = none)
  ⟨ρ,B,_,_,rfl,G.same g4,h4,rfl,rfl,Fr.of_same g4,TH,TL⟩ ?_ ?_
 · rintro i σ H5 hi ⟨ρ5,B5,s8,s9,rfl,G5,h5,yY,tY,F5,D7,PM⟩
   have e0:(0:Int) + (i:Int) = ((i:Nat):Int):=by omega
   rw [e0]
   have qg:i < b.ai.length:=by omega
   have ei:=List.getElem?_eq_getElem qg
   have gO:=List.mem_of_getElem? ei
   have TM:i < as.length:=by rw [ok.len];exact qg
   have ea:=List.getElem?_eq_getElem TM
   have em:((bT b as seat aw).take i ++ b.ai.drop i)[i]? = some b.ai[i] :=K0 (by omega) ei
   have PN:=ID (seat:=seat) (aw:=aw) ei ea
   rw [TJ,PK] at PN
   have JJ:=wf.tl _ gO
   have TN:=zt _ gO
   generalize b.ai[i] = p at *
   have UQ:=za _ (List.mem_of_getElem? ea)
   generalize as[i] = a at *
   obtain ⟨qq,eq,k1,k2,c1,c2⟩:=h5.find em
   have PO:H5 B.lp = some (.lst (B5.qs.map fun q=>V.ref q.1)):=by rw [← tY];exact h5.op
   have JY:(B5.qs.map fun q=>V.ref q.1)[i]? = some (.ref qq.1):=by rw [List.getElem?_map,eq];rfl
   refine ⟨_,rfl,gv,_,rfl, .inl (av.of D7),_,rfl,by omega,by omega,fun t1 ht1=>?_⟩
   refine fM (J:=ve 0 _) (n:=b.own.length) 0 (fun j o H'=>aD H5 H'∧o = (List.zipWith (fun t g=>t * kept + g) (p.tops.take j) (given.take j)).map V.int) (by omega) ⟨aA ht1 _,rfl⟩ (fun j o H' hj _ _=>by show j < (((given.map V.int).length:Nat):Int).toNat;omega) (fun o H' _ _=>by show (((given.map V.int).length:Nat):Int).toNat≤b.own.length;omega) ?_ ?_
   · rintro j x o H6 H7 hj c7 ua ⟨g6,e6⟩ ⟨rfl,rfl⟩
     have e0:(0:Int) + (j:Int) = ((j:Nat):Int):=by omega
     rw [e0]
     have et:=List.getElem?_eq_getElem (show j < p.tops.length by rw [JJ];exact hj)
     have eg:=List.getElem?_eq_getElem (show j < given.length by rw [Na];exact hj)
     refine ⟨_,rfl,_,rfl,B.lp,_,_,_,rfl,rfl,av.of (g6 _ _ PO),bB JY,qq.1,_,_,_,rfl,rfl,av.of (g6 _ _ k1),bB (j:=4) rfl,_,rfl,qq.2,_,_,_,rfl,rfl,av.of (g6 _ _ k2),bB (by rw [List.getElem?_map,et];rfl),?_⟩
     refine ⟨_,rfl,_,_,rfl,rfl,eY (TN _ (List.mem_of_getElem? et)) zk,_,rfl,_,rfl,gv,_,_,_,rfl,rfl,av.of (g6 _ _ D7),bB (by rw [List.getElem?_map,eg];rfl),_,_,rfl,rfl,ua,g6.bI ht1 _,?_⟩
     rw [ja _ et eg,e6,List.map_append]
     rfl
   rintro o H6 _ ua ⟨g6,e6⟩
   rw [show p.tops.take b.own.length = p.tops from by rw [← JJ];exact List.take_length,show given.take b.own.length = given from by rw [← Na];exact List.take_length] at e6
   subst e6
   have h6:=h5.mono g6
   have G6:=G5.same g6
   have TQ:ρ5 t1 = none:=G5.none ht1
   have h7:aS n (bC ρ5 t1 (n,24,p.nm)) B5 H6 { b with ai:=(bT b as seat aw).take i ++ b.ai.drop i }:=h6.col TQ
   have G7:Gh (bC ρ5 t1 (n,24,p.nm)) H6:=G6.color ua rfl
   have F7:Fr n ρ H (bC ρ5 t1 (n,24,p.nm)) H6:=F5.trans (Fr.color ht1 g6)
   have ct:bC ρ5 t1 (n,24,p.nm) t1 = some (n,24,p.nm):=cg
   have Nb:bC ρ5 t1 (n,24,p.nm) gv = none:=by rw [bu (fun z=>by rw [z] at D7;rw [D7] at ht1;cases ht1)];exact PM
   have TR:=g6 _ _ D7
   have Cb:=g6 _ _ PO
   have Nc:=g6 _ _ k1
   have Hf:bC ρ5 t1 (n,24,p.nm) qq.1 = some (n,23,p.nm):=by rw [bu (ay k1 ht1)];exact c1
   generalize bC ρ5 t1 (n,24,p.nm) = ρ7 at *
   have PR:(((bT b as seat aw).take i ++ b.ai.drop i).map (fun p:BP=>p.nm)).Nodup:=by rw [GF ok.len];exact wf.nd
   have PU:gv ≠ qq.1:=fun z=>by rw [z,Hf] at Nb;cases Nb
   generalize eT:List.zipWith (fun t g=>t * kept + g) p.tops given = T at *
   refine ⟨_,rfl,_,rfl,B.lp,_,_,_,rfl,rfl,av.of Cb,bB JY,qq.1,_,_,4,rfl,rfl,Nc,rfl,?_⟩
   have h8:=h7.qO G7 (p1:={ p with tops:=T }) (t1:=t1) em eq rfl PR ua ct
   have G8:=G7.wr (a:=qq.1) (o:=jd { p with tops:=T } t1) rfl
   have F8:=F7.trans (Fr.write (o:=jd { p with tops:=T } t1) Hf)
   have Nd:upd H6 qq.1 (jd { p with tops:=T } t1) qq.1 = some (jd { p with tops:=T } t1):=af
   have PV:upd H6 qq.1 (jd { p with tops:=T } t1) gv = some (.lst (given.map V.int)):=by rw [ao PU];exact TR
   have TU:B.lp ≠ qq.1:=fun z=>by
    have:=h7.cp
    rw [tY,z,Hf] at this
    cases this
   have Nf:upd H6 qq.1 (jd { p with tops:=T } t1) B.lp = some (.lst (B5.qs.map fun q=>V.ref q.1)):=by rw [ao TU];exact Cb
   have TV:t1 ≠ qq.1:=fun z=>by rw [z,Hf] at ct;cases ct
   have PX:upd H6 qq.1 (jd { p with tops:=T } t1) t1 = some (.lst (T.map V.int)):=by rw [ao TV];exact ua
   generalize PY:upd H6 qq.1 (HO.lst _) = H8
   have Ng:upd H6 qq.1 (jd { p with tops:=T } t1) = H8:=PY
   rw [Ng] at h8 G8 F8 Nd PV Nf PX
   clear PY Ng
   refine ⟨_,rfl,_,rfl,B.lp,_,_,_,rfl,rfl,av.of Nf,bB JY,qq.1,_,_,_,rfl,rfl,av.of Nd,bB (j:=2) rfl,?_⟩
   refine ⟨_,rfl,_,rfl,l,_,_,_,rfl,rfl,F8.seq hl cl,bB (by rw [List.getElem?_map,ea];rfl),_,_,rfl,rfl,?_⟩
   refine ⟨_,rfl,_,rfl,B.lp,_,_,_,rfl,rfl,av.of Nf,bB JY,qq.1,_,_,2,rfl,rfl,Nd,rfl,?_⟩
   have TY:i < B5.qs.length:=(List.getElem?_eq_some_iff.mp eq).1
   have PZ:i < ((bT b as seat aw).take i ++ b.ai.drop i).length:=(List.getElem?_eq_some_iff.mp em).1
   have h9:=h8.qO G8 (i:=i) (p0:={ p with tops:=T }) (p1:=ju given kept p a) (q0:=(qq.1,t1)) (t1:=t1) (List.getElem?_set_self PZ) (List.getElem?_set_self TY) rfl (by
    show ((((bT b as seat aw).take i ++ b.ai.drop i).set i { p with tops:=T }).map (fun p:BP=>p.nm)).Nodup
    rw [List.map_set,nv (by rw [List.getElem?_map,em];rfl)]
    exact PR) (by show H8 t1 = some (.lst ((List.zipWith (fun t g=>t * kept + g) p.tops given).map V.int));rw [eT];exact PX) ct
   have e9:(((bT b as seat aw).take i ++ b.ai.drop i).set i { p with tops:=T }).set i (ju given kept p a) = (bT b as seat aw).take (i + 1) ++ b.ai.drop (i + 1):=by rw [List.set_set];exact K1 PN qg
   have P0:aS n ρ7 { B5 with qs:=(B5.qs.set i (qq.1,t1)).set i (qq.1,t1) } (upd H8 qq.1 (jd (ju given kept p a) t1)) { b with ai:=(((bT b as seat aw).take i ++ b.ai.drop i).set i { p with tops:=T }).set i (ju given kept p a) }:=h9
   rw [e9] at P0
   exact ⟨ρ7,{ B5 with qs:=(B5.qs.set i (qq.1,t1)).set i (qq.1,t1) },_,_,rfl,G8.wr rfl,P0,yY,tY,F8.trans (Fr.write Hf),by rw [ao PU];exact PV,Nb⟩
 rintro σ H5 ⟨ρ5,B5,s8,s9,rfl,G5,h5,yY,tY,F5,D7,PM⟩
 rw [show (((B.qs.map fun q=>V.ref q.1).length:Nat):Int).toNat = b.ai.length from by omega,show (bT b as seat aw).take b.ai.length = bT b as seat aw from by rw [← bl];exact List.take_length,List.drop_length,List.append_nil] at h5
 obtain ⟨m5,Hg,TZ,Hh,Hi,rV⟩:=B5
 have yY:m5 = B.m:=yY
 have tY:TZ = B.lp:=tY
 subst yY tY
 refine ⟨_,rfl,B.m,_,rfl,b9.k (k:=Sum.inr "bottom") h5.om,_,rfl,_,_,rfl,rfl,eY wf.bz zw,_,rfl,B.m,_,rfl,lU.k (k:=Sum.inr "bottom") h5.om (by show 5 < sizeLine;decide),?_⟩
 rw [GG]
 have h6:=h5.KU G5 (b.bot * aY b)
 have G6:=G5.wr (a:=B.m) (o:= .dK (c_ ⟨B.m,Hg,B.lp,Hh,Hi,rV⟩ (b.bot * aY b))) rfl
 have F6:=F5.trans (Fr.write (o:= .dK (c_ ⟨B.m,Hg,B.lp,Hh,Hi,rV⟩ (b.bot * aY b))) h5.cm)
 generalize P_:upd H5 B.m (HO.dK _) = H6
 have Nh:upd H5 B.m (.dK (c_ ⟨B.m,Hg,B.lp,Hh,Hi,rV⟩ (b.bot * aY b))) = H6:=P_
 have h6:aS n ρ5 ⟨B.m,Hg,B.lp,Hh,Hi,rV⟩ (upd H5 B.m (.dK (c_ ⟨B.m,Hg,B.lp,Hh,Hi,rV⟩ (b.bot * aY b)))) { b with ai:=bT b as seat aw,bot:=b.bot * aY b }:=h6
 rw [Nh] at h6 G6 F6
 clear P_ Nh
 have JZ:rV.length = (bT b as seat aw).length:=h5.ql
 have Qa:(rV.map fun q=>V.ref q.1).length = (bT b as seat aw).length:=by rw [List.length_map];exact JZ
 have Cb:H6 B.lp = some (.lst (rV.map fun q=>V.ref q.1)):=h6.op
 refine ⟨_,rfl,B.lp,rfl,⟨_,av.of Cb⟩,fun lp rS=>?_⟩
 refine Du (J:=nj K B.lp) (n:=(bT b as seat aw).length) 0 (fun i o H'=>aD H6 H'∧o = (gj ((bT b as seat aw).take i) (rV.take i)).map fun q=>V.ref q.1) (by omega) ⟨aA rS _,rfl⟩ (fun i o H' hi _ hp=>⟨_,_,av.of (hp.1 _ _ Cb),List.getElem?_eq_getElem (by rw [Qa];exact hi)⟩) (fun o H' _ hp=>⟨_,av.of (hp.1 _ _ Cb),by rw [Qa];exact Nat.le_refl _⟩) ?_ ?_
 · rintro i y o H7 H8 hi c7 ha ⟨g,e⟩ ⟨rfl,hy⟩
   have ei:=List.getElem?_eq_getElem hi
   obtain ⟨qq,eq,k1,k2,_,_⟩:=h6.find ei
   have eq:rV[i]? = some qq:=eq
   have ey:=hy _ (av.of (g _ _ Cb))
   rw [List.getElem?_map,eq] at ey
   cases ey
   have es:=v7 ei eq
   refine ⟨_,rfl,qq.1,_,_,_,rfl,rfl,av.of (g _ _ k1),bB (j:=2) rfl,_,_,rfl,rfl,_,rfl,dY (fun c=>?_) (fun c=>?_)⟩
   · rw [if_pos (of_decide_eq_true c)] at es
     refine ⟨_,rfl,ha,g.bI rS _,?_⟩
     rw [es,e,List.map_append]
     rfl
   · rw [if_neg (of_decide_eq_false (Bool.eq_false_iff.mpr c))] at es
     exact ⟨ha,g,by rw [es,e,List.append_nil]⟩
 rintro o H7 _ ha ⟨g7,e⟩
 rw [List.take_length,← JZ,List.take_length] at e
 subst e
 have h7:=h6.mono g7
 have G7:=G6.same g7
 have T3:ρ5 lp = none:=G6.none rS
 have h8:=h7.col (t:=22) (x:=⟨#[]⟩) T3
 have G8:Gh (bC ρ5 lp (n,22,⟨#[]⟩)) H7:=G7.color ha rfl
 have F8:Fr n ρ H (bC ρ5 lp (n,22,⟨#[]⟩)) H7:=F6.trans (Fr.color rS g7)
 have h9:=h8.Ms G8 (lp:=lp) (qs:=gj (bT b as seat aw) rV) (ps:=(bT b as seat aw).filter fun p=>decide (0 < p.wo)) ha cg (yK JZ) (fun i x y ex ey=>by
  obtain ⟨j,a1,a2⟩:=uP ex ey JZ
  exact h8.pt j x y a1 a2)
 refine ⟨_,rfl,B.m,_,rfl,lU.k (k:=Sum.inr "parts") h7.om (by show 5 < sizeLine;decide),?_⟩
 rw [IE]
 exact q _ _ _ (G8.wr rfl) h9 rfl (F8.trans (Fr.write h8.cm))
abbrev gR:Stmt:=top 37
abbrev s_:List Str:=["_law_model_here","_law_rows_here","_law_amounts","_law_name_here","_law_amount"]
abbrev lC:List Str:=["_law_model_here","_law_rows_here"]
theorem fC:aI s_ lC (au gR):=⟨rfl,rfl,rfl,by decide +kernel,rfl,by decide +kernel,by decide +kernel⟩
theorem rW (F:At K mg "_law_model_cast" gR f fd) (rX:Dn P w K mg base 1 "_law_at" ["_law_parts","_law_name_here"] (JH K)) (nY:Dn P w K mg base 1 "_law_bear" ["_law_model_here","_law_amounts","_law_seat_here","_law_award"] (GD K)):Dn P w K mg base 2 "_law_model_cast" lC (DU K):=by
 refine F.ok fC (fun vs H Q E h=>?_) (fun cdv A outer s H vs Q E hr h=>?_) (fun _ _ _ _ _ _ us hl=>match us,hl with | [_,_],_=>rfl)
 · obtain ⟨n,ρ,B,b,l,us,rs,rfl,_⟩:=h.ex
   rfl
 obtain ⟨n,ρ,B,b,l,us,rs,rfl,G,h,wf,hl,hR,cl,rb,hle,bo,q⟩:=h.ex
 refine ⟨_,(ah (lN (i:=2) ["_law_part"] [none] fC.nd rfl rfl rfl (cQ K (bL (bH hr) (pv 0) bO (fun _ _=>rfl))) (fun _ _ _ _=>(aG (i:=0) (show List.Nodup (["_law_part"] :List Str) from by decide +kernel) rfl (Or.inl rfl))) (fun _ _ _ _=>ak) rfl (by rfl) (by rfl))
  (ah (cC PassesOwn.never rfl (cQ K (pv 1)) (eZ K (n:=2) rfl (bG (aG (i:=3) fC.nd rfl (Or.inl rfl)) (bG (aG (i:=4) fC.nd rfl (Or.inl rfl)) eX))) (aq (oE (pv 4) (oB (pv 2) (a_ rX hr (aa (bL (bH hr) (pv 0) bO (fun _ _=>rfl)) (aa (pv 3) aj))) set_list))))
  (aq (bZ (a_ nY hr (aa (pv 0) (aa (pv 2) (aa ak (aa ak aj))))))))),?_⟩
 have pl:=wf.pl
 have wO:(B.qs.map fun q=>V.ref q.1).length = b.ai.length:=by rw [List.length_map];exact h.ql
 refine ⟨_,rfl,B.m,_,rfl,b9.k (k:=Sum.inr "parts") h.om,B.lp,rfl,⟨_,av.of h.op⟩,fun l0 ia=>?_⟩
 refine fM (J:=nj K B.lp) (n:=b.ai.length) 0 (fun i o H'=>aD H H'∧o = ((b.ai.take i).map fun _=>(0:Int)).map V.int) (by omega) ⟨aA ia _,rfl⟩ (fun i o H' hi _ hp=>⟨_,_,av.of (hp.1 _ _ h.op),List.getElem?_eq_getElem (by rw [wO];exact hi)⟩) (fun o H' _ hp=>⟨_,av.of (hp.1 _ _ h.op),by rw [wO];exact Nat.le_refl _⟩) ?_ ?_
 · rintro i y o H2 H3 hi c7 ha ⟨g,e⟩ ⟨rfl,hy⟩
   refine ⟨ha,g.bI ia _,?_⟩
   subst e
   rw [take_snoc (List.getElem?_eq_getElem hi),List.map_append,List.map_append]
   rfl
 rintro o1 H1 _ ha ⟨g1,e⟩
 rw [List.take_length] at e
 subst e
 have GU:=hR.length
 refine ⟨_,rfl,l,rfl,⟨us,g1.seq hl⟩,?_⟩
 refine iK (K:=K) (xs:=us) (fun i σ H'=>aD H H'∧H' l0 = some (.lst ((bx b (rs.take i)).map V.int))∧∃s3 s4,σ = [some (.ref B.m),some (.ref l),some (.ref l0),s3,s4]) ⟨g1,ha,_,_,rfl⟩ (fun i σ H' _ hp=>hp.1.seq hl) ?_ ?_
 · rintro i x σ H2 hx ⟨g2,ha2,s3,s4,rfl⟩
   obtain ⟨a,r,rfl,er,har⟩:=hR.get hx
   obtain ⟨r1,j,p,hp,e,le⟩:=rb.row r (List.mem_of_getElem? er)
   have hj:=(List.getElem?_eq_some_iff.mp hp).1
   have hn:r.1 ∉ (rs.take i).map (fun r:Row=>r.1):=by
    rw [List.map_take]
    exact fW rb.nd (by rw [List.getElem?_map,er];rfl)
   obtain ⟨s1,s2⟩:=v8 wf.nd hp e hn
   have h2:=h.mono g2
   refine ⟨a,_,rfl,cA.of (g2 _ _ har),rfl,_,_,rfl,_,_,rfl,rfl,?_⟩
   refine ⟨_,rfl,_,rfl,_,rfl,B.m,_,rfl,b9.k (k:=Sum.inr "parts") h2.om,_,rfl,⟨⟨B.lp,_,ny b,j,(p.nm,p.wo),by rw [← e];rfl,av.of h2.op,h2.nw,?_,by unfold ny;rw [List.length_map];exact pl,by unfold ny;rw [List.getElem?_map,hp];rfl,?_⟩⟩⟩
   · unfold ny;rw [List.map_map];exact wf.nd
   · refine ⟨l0,_,_,j,rfl,rfl,ha2,by rw [List.length_map,rm];exact sN hj,g2.bI ia _,?_,_,_,rfl⟩
     rw [af,take_snoc er,s1,List.map_set]
 rintro σ H2 ⟨g2,ha2,s3,s4,rfl⟩
 rw [GU,List.take_length] at ha2
 refine ⟨_,rfl,_,rfl,⟨⟨n,ρ,B,b,l0,bx b rs,0,0,rfl,G.same g2,h.mono g2,wf,av.of ha2,G.none ia,bo,fun ρ' B' H' a1 a2 a3 a4=>q ρ' B' H' a1 a2 a3 ((Fr.of_same g2).trans a4)⟩⟩⟩
abbrev k7:Stmt:=top 33
abbrev Cc:List Str:=["_law_script","_law_k","_law_hold","_law_model_here","_law_names_here","_law_many","_law_at_here","_law_owner","_law_worth","_law_weight"]
abbrev rY:List Str:=["_law_script","_law_k","_law_hold","_law_model_here","_law_names_here","_law_many"]
theorem gu:aI Cc rY (au k7):=⟨rfl,rfl,rfl,by decide +kernel,rfl,by decide +kernel,by decide +kernel⟩
theorem zV {T:TC} (F:At K mg "_law_loads" k7 f fd) (aU:Dn P w K mg base 1 "_law_draw" ["_law_script","_law_k","_law_j","_law_many"] (lW K)) (nZ:Dn P w K mg base 2 "_law_much" ["_law_script","_law_k","_law_j"] (AM K)) (jF:Dn P w K mg base 2 "_law_new_part" ["_law_model_here","_law_name_here","_law_owner","_law_worth","_law_weight"] yI)
  (n_:Mn P w K mg base 4 T.hold "load" ["self","part","owner","worth","weight"] (Gi T)) (aZ:mg "len" = none) (bg:mg "range" = none):Dn P w K mg base 5 "_law_loads" rY (DV T K):=by
 refine F.ok gu (fun vs H Q E h=>?_) (fun cdv A outer s H vs Q E hr h=>?_) (fun _ _ _ _ _ _ us hl=>match us,hl with | [_,_,_,_,_,_],_=>rfl)
 · obtain ⟨n,m,ρ,A,B,st,b,a,ln,ns,k,nms,many,rfl,_⟩:=h.ex
   rfl
 obtain ⟨n,m,ρ,A,B,st,b,a,ln,ns,k,nms,many,rfl,nm,hh,hb,gd,hS,h63,hk0,hk1,hN,Ni,qN,yZ,hml,UA,en,ep,ek,q⟩:=h.ex
 refine ⟨_,(aq (cC PassesOwn.never rfl (cE (by rfl) bg (aa (pv 5) aj)) (aG (i:=6) gu.nd rfl (Or.inl rfl)) (ah (aF (i:=7) gu.nd rfl (Or.inl rfl) (aK (aM K) (bL (bH hr) (pv 3) bO (fun _ _=>rfl)) (a_ aU hr (aa (pv 0) (aa (aB bP (pv 1) (pv 6)) (aa ak (aa (aE (bA K) (by rfl) aZ PySem.boot_len (aa (bL (bH hr) (pv 3) bO (fun _ _=>rfl)) aj)) aj))))) (fun _ _=>rfl)))
  (ah (aF (i:=8) gu.nd rfl (Or.inl rfl) (a_ nZ hr (aa (pv 0) (aa (aB bP (pv 1) (pv 6)) (aa ak aj)))))
  (ah (aF (i:=9) gu.nd rfl (Or.inl rfl) (a_ aU hr (aa (pv 0) (aa (aB bP (pv 1) (pv 6)) (aa ak (aa ak aj))))))
  (ah (bZ (dQ n_ hr (pv 2) (aa (aK (aM K) (pv 4) (pv 6) (fun _ _=>rfl)) (aa (pv 7) (aa (pv 8) (aa (pv 9) aj))))))
  (aq (bZ (a_ jF hr (aa (pv 3) (aa (aK (aM K) (pv 4) (pv 6) (fun _ _=>rfl)) (aa (pv 7) (aa (pv 8) (aa (pv 9) aj)))))))))))))),?_⟩
 refine ⟨_,rfl,_,rfl,by omega,by omega,?_⟩
 refine c9 (lo:=0) (n:=((many:Nat):Int).toNat) (fun i σ H'=>∃ρ' A' B' st' b' s6 s7 s8 s9,σ = [some (.ref a),some (.int k),some (.ref A.a),some (.ref B.m),some (.ref ln),some (.int (many:Int)),s6,s7,s8,s9]∧HH T n ρ' A' H' st'∧aS m ρ' B' H' b'∧h_ 0 st' b'∧A'.a = A.a∧B'.m = B.m∧b'.own = b.own∧b'.ai.length = i∧b'.lA.length = i∧st'.nms = nms.take i∧st'.kn = st.kn∧aD (out ρ H) (out ρ' H'))
  ⟨ρ,A,B,st,b,_,_,_,_,rfl,hh,hb,gd,rfl,rfl,rfl,by rw [ep];rfl,by rw [ek];rfl,by rw [en];rfl,rfl,aD.refl _⟩ ?_ ?_
 · rintro i σ H1 hi ⟨ρ1,A1,B1,st1,b1,s6,s7,s8,s9,rfl,dI,hb1,y9,Hj,yW,B8,Nj,Qc,J0,Nk,o1⟩
   have e0:(0:Int) + (i:Int) = ((i:Nat):Int):=by omega
   rw [e0]
   have PZ:i < many:=by omega
   have hin:i < nms.length:=by omega
   have ex:=List.getElem?_eq_getElem hin
   have T4:=List.mem_of_getElem? ex
   have Qd:=qN _ T4
   have hxn:nms[i] ∉ nms.take i:=fW Ni ex
   generalize nms[i] = x at *
   have uf:=hS _ _ o1
   have UR:=hN _ _ o1
   have Qe:H1 B.m = some (.dK (c_ B1 b1.bot)):=by rw [← yW];exact hb1.om
   have US:(b1.own.map V.str).length = b1.own.length:=List.length_map _
   have UT:=y9.own
   refine ⟨_,rfl,B.m,_,rfl,b9.k (k:=Sum.inr "owners") Qe,_,rfl,_,rfl,_,rfl,_,_,rfl,rfl,_,rfl,B.m,_,rfl,b9.k (k:=Sum.inr "owners") Qe,B1.lo,_,rfl, .inl (av.of hb1.oo),cG uf h63 (by omega) (by decide) (by decide) (by omega) fun d _ d0 d1=>?_⟩
   obtain ⟨jo,o,UU,eo,T5⟩:=Iw (l:=b1.own) d0 (by omega)
   have Nl:o∈b1.own:=List.mem_of_getElem? eo
   refine ⟨B1.lo,_,_,_,rfl,rfl,av.of hb1.oo,T5,?_⟩
   refine ⟨_,rfl,_,rfl,_,rfl,_,_,rfl,rfl,Ib uf h63 (by omega) (by decide) (by decide) fun wo H2 w1 w2 g2=>?_⟩
   refine ⟨_,rfl,_,rfl,_,rfl,_,_,rfl,rfl,cG (g2.seq uf) h63 (by omega) (by decide) (by decide) (by decide) fun we _ v0 v1=>?_⟩
   have gc:=dI.mono g2
   have o2:=o1.trans (iM (ρ:=ρ1) g2)
   have T6:=hN _ _ o2
   have Qf:(nms.map V.str)[i]? = some (.str x):=by rw [List.getElem?_map,ex];rfl
   have hxs:x ∉ st1.nms:=by rw [J0];exact hxn
   have T7:=y9.rel.own
   have hnl:st1.nms.length = i:=by rw [J0,List.length_take];omega
   refine ⟨_,rfl,A.a,A1.dx,_,rfl,by rw [← Hj];exact gc.h.oa,rfl,_,rfl,_,rfl,ln,_,_,_,rfl,rfl,T6,bB Qf,_,rfl,_,rfl,_,rfl,⟨⟨n,ρ1,A1,st1,x,o,wo,we,by rw [Hj];rfl,gc,Qd.isNm,hxs,by rw [T7];exact Nl,w1,v0,by omega,by rw [y9.rel.len];omega,fun ρ3 A3 H3 jO e3 f3=>?_⟩⟩⟩
   have rZ:=(hb1.mono g2).other f3 gc.g (Ne.symm nm)
   have o3:=o2.trans f3.out
   have T8:=hN _ _ o3
   refine ⟨_,rfl,_,rfl,_,rfl,ln,_,_,_,rfl,rfl,T8,bB Qf,_,rfl,_,rfl,_,rfl,⟨⟨m,ρ3,B1,b1,x,o,wo,we,by rw [yW];rfl,jO.g,rZ,Nl,by have:=y9.kC.ol;omega,by omega,by omega,fun ρ4 B4 H4 G4 uo e4 f4=>?_⟩⟩⟩
   have iC:=jO.other f4 G4 nm
   refine ⟨ρ4,A3,B4,_,_,_,_,_,_,rfl,iC,uo,K7 y9 dI.wf ?_ w1 w2 (by omega) (by omega) Qd.strOk (yZ o (by rw [← B8];exact Nl)).strOk,e3.trans Hj,e4.trans yW,B8,?_,?_,?_,Nk,o3.trans f4.out⟩
   · intro hm
     obtain ⟨p,hp,e⟩:=List.mem_map.mp hm
     obtain ⟨j,hj,ej⟩:=List.getElem_of_mem hp
     obtain ⟨p',GK,e1,_⟩:=y9.rel.at (i:=j) (q:=p) (by rw [List.getElem?_eq_getElem hj,ej])
     have:=dI.wf.sub p' (List.mem_of_getElem? GK)
     rw [e1] at this
     have e:p.nm = x:=e
     rw [e] at this
     exact hxs this
   · show (b1.ai ++ [_]).length = i + 1
     rw [List.length_append,Nj];rfl
   · show (b1.lA ++ [_]).length = i + 1
     rw [List.length_append,Qc];rfl
   · show st1.nms ++ [x] = nms.take (i + 1)
     rw [J0,take_snoc ex]
 rintro σ H1 ⟨ρ1,A1,B1,st1,b1,s6,s7,s8,s9,rfl,dI,hb1,y9,Hj,yW,B8,Nj,Qc,J0,Nk,o1⟩
 exact q ρ1 A1 B1 H1 st1 b1 dI hb1 y9 Hj yW B8 (by rw [Nj];omega) Nk o1
abbrev iW:Stmt:=top 38
abbrev wR:List Str:=["_law_script","_law_k","_law_hold","_law_model_here","_law_rows_here","_law_handed"]
abbrev nN:List Str:=["_law_script","_law_k","_law_hold","_law_model_here"]
theorem iX:aI wR nN (au iW):=⟨rfl,rfl,rfl,by decide +kernel,rfl,by decide +kernel,by decide +kernel⟩
theorem u6 {T:TC} (F:At K mg "_law_cast_now" iW f fd) (oh:Dn P w K mg base 2 "_law_rows" ["_law_script","_law_k","_law_parts"] (DT K)) (iy:Dn P w K mg base 2 "_law_model_cast" ["_law_model_here","_law_rows_here"] (DU K)) (oj:Mn P w K mg base 4 T.hold "cast" ["self","rows"] (Gs T K)) (aZ:mg "len" = none) (bW:mg "list" = none):Dn P w K mg base 5 "_law_cast_now" nN (yR T K):=by
 refine F.ok iX (fun vs H Q E h=>?_) (fun cdv A outer s H vs Q E hr h=>?_) (fun _ _ _ _ _ _ us hl=>match us,hl with | [_,_,_,_],_=>rfl)
 · obtain ⟨n,m,ρ,A,B,st,b,a,ns,k,c,rfl,_⟩:=h.ex
   rfl
 obtain ⟨n,m,ρ,A,B,st,b,a,ns,k,c,rfl,nm,hh,hb,gd,hc,hS,h63,hk0,hk1,q⟩:=h.ex
 refine ⟨_,(ah (aF (i:=4) iX.nd rfl (Or.inl rfl) (a_ oh hr (aa (pv 0) (aa (pv 1) (aa (bL (bH hr) (pv 3) bO (fun _ _=>rfl)) aj)))))
  (ah (bM (bf gD (aE (bA K) (by rfl) aZ PySem.boot_len (aa (pv 4) aj)) ak (br _)) (ah (aF (i:=5) iX.nd rfl (Or.inl rfl) (iZ (iG K) (by rfl) bW PyProof.Rows.boot_list (aa (pv 4) aj)))
  (ah (bZ (dQ oj hr (pv 2) (aa (pv 5) aj)))
  (ah (bM (bf (xu K hr.units) (pv 5) (pv 4) (br _)) (aq (aN cL)) aQ)
  (ah (bZ (LH PySem.F.plainAttrs_list PySem.F.slot_list_clear PySem.F.type_list_clear HN (pv 5)))
  (aq (bZ (a_ iy hr (aa (pv 3) (aa (pv 4) aj))))))))) aQ)
  (aq (aN cL)))),?_⟩
 have pl:=gd.pl
 refine ⟨_,rfl,_,rfl,_,rfl,B.m,_,rfl,b9.k (k:=Sum.inr "parts") hb.om,⟨⟨a,B.lp,ns,k,_,ny b,rfl,hS _ _ (aD.refl _),h63,hk0,hk1,av.of hb.op,hb.nw,by unfold ny;rw [List.map_map];exact gd.kC.nd,by unfold ny;rw [List.length_map];omega,fun w hw=>by obtain ⟨p,hp,rfl⟩:=List.mem_map.mp hw;exact gd.kC.w1 p hp,fun z zs rs H1 g1 hz hz1 hR T9=>?_⟩⟩⟩
 have zl:=hR.length
 have dI:=hh.mono g1
 have hb1:=hb.mono g1
 have cz:ρ z = none:=hh.g.none hz
 refine ⟨_,rfl,z,_,rfl, .inl (av.of hz1),_,_,rfl,rfl,_,rfl,dY (fun c0=>?_) (fun c0=>?_)⟩
 · have c1:0 < rs.length:=by have:(0:Int) < ((zs.length:Nat):Int):=of_decide_eq_true c0;omega
   have hne:rs ≠ [] :=fun e=>by rw [e] at c1;simp at c1
   obtain ⟨Nm,rb,bo⟩:=CC gd hh.wf T9 hne hc
   refine ⟨_,rfl,z,_,rfl, .inl (av.of hz1),fun hd Hl=>?_⟩
   have g2:=aA Hl (.lst zs)
   have hd2:upd H1 hd (.lst zs) hd = some (.lst zs):=af
   have hz2:=g2 _ _ hz1
   have Qg:=hR.mono g2.tups
   have gc:=dI.mono g2
   have hb2:=hb1.mono g2
   have T_:ρ hd = none:=dI.g.none Hl
   have o2:aD (out ρ H) (out ρ (upd H1 hd (.lst zs))):=iM (g1.trans g2)
   show xg _ _ _ _ (upd H1 hd (.lst zs))
   generalize upd H1 hd (.lst zs) = H2 at *
   refine ⟨_,rfl,A.a,A.dx,_,rfl,gc.h.oa,rfl,_,rfl,⟨⟨n,ρ,A,st,hd,zs,rs,rfl,gc,av.of hd2,Qg,Nm,fun ρ3 A3 H3 jO e3 f3=>?_⟩⟩⟩
   have rZ:=hb2.other f3 gc.g (Ne.symm nm)
   have y_:=f3.at hd2 T_
   have ez:=f3.at hz2 cz
   have Nn:=Qg.mono (f3.tup gc.g)
   have sk:∀r∈rs,PyData.strOk r.1 = true:=fun r hr=>by
    obtain ⟨_,j,p,hp,e,_⟩:=rb.row r hr
    rw [← e]
    exact (gd.nm p (List.mem_of_getElem? hp)).1
   refine ⟨_,rfl,_,rfl,_,_, .lst (av.of y_.1) Nn.dt, .lst (av.of ez.1) Nn.dt,tT rs sk,tT rs sk,_,rfl,?_⟩
   rw [IL]
   refine bN ?_
   refine ⟨_,rfl, .inl ⟨rfl,_,av.of y_.1⟩,hd,_,rfl,rfl,y_.1,?_⟩
   have iC:=jO.vV (o:= .lst []) y_.2 y_.1 rfl rfl
   have uo:aS m ρ3 B (upd H3 hd (.lst [])) b:=rZ.same (Bc y_.2 y_.1 rfl)
   have nz:z ≠ hd:=fun e=>by rw [e] at hz1;rw [hz1] at Hl;cases Hl
   have Ua:upd H3 hd (.lst []) z = some (.lst zs):=by rw [ao nz];exact ez.1
   have Ub:=Nn.mono (fV (p:=hd) (o:= .lst []) (.inr ⟨_,y_.1,rfl⟩))
   have Uc:H hd = none:=g1.free Hl
   have o4:aD (out ρ H) (out ρ3 (upd H3 hd (.lst []))):=fun x o e=>by
    obtain ⟨e1,e2⟩:=jU (f3.out _ _ (o2 _ _ e))
    have hx:x ≠ hd:=ay (jU e).1 Uc
    exact qM (by rw [ao hx];exact e1) e2
   generalize upd H3 hd (.lst []) = H4 at *
   refine ⟨_,rfl,_,rfl,⟨⟨m,ρ3,B,b,z,zs,rs,rfl,iC.g,uo,gd.kC,av.of Ua,Ub,ez.2,rb,Nm.len,bo,fun ρ5 B5 H5 G5 wU e5 f5=>?_⟩⟩⟩
   exact q ρ5 A3 B5 H5 _ _ (iC.other f5 G5 nm) wU (K5 gd hh.wf Nm rb bo hc) e3 e5 rfl (K6 st rs) (o4.trans f5.out)
 · exact q ρ A B H1 st b dI hb1 gd.mono rfl rfl rfl (Nat.le_refl _) (iM g1)
abbrev gx:Stmt:=top 44
abbrev r6:List Str:=["_law_hold","_law_model_here","_law_whole","_law_part"]
abbrev kD:List Str:=["_law_hold","_law_model_here"]
theorem gy:aI r6 kD (au gx):=⟨rfl,rfl,rfl,by decide +kernel,rfl,by decide +kernel,by decide +kernel⟩
theorem qp {T:TC} (F:At K mg "_law_tells_parts" gx f fd) (cJ:Dn P w K mg base 1 "_law_int" ["_law_found"] vB) (iY:Dn P w K mg base 2 "_law_part_list" ["_law_found","_law_parts"] (vX K)) (dz:Dn P w K mg base 3 "_law_share_list" ["_law_found","_law_owners","_law_tops","_law_bottom"] (nT K))
  (m9:Mn P w K mg base 1 T.hold "parts" ["self"] (DH T)) (fY:Mn P w K mg base 1 T.hold "whole" ["self"] (xG T)) (k_:Mn P w K mg base 4 T.hold "shares" ["self","part"] (yx T)) (dU:mg "sum" = none):Dn P w K mg base 5 "_law_tells_parts" kD (lP 1 T K):=by
 refine F.ok gy (fun vs H Q E h=>?_) (fun cdv A outer s H vs Q E hr h=>?_) (fun _ _ _ _ _ _ us hl=>match us,hl with | [_,_],_=>rfl)
 · obtain ⟨n,m,ρ,A,B,st,b,c,rfl,_⟩:=h.ex
   rfl
 obtain ⟨n,m,ρ,A,B,st,b,c,rfl,nm,hh,hb,gd,hc,yZ,hkn,q⟩:=h.ex
 refine ⟨_,(ah (aF (i:=2) gy.nd rfl (Or.inl rfl) (oN fY hr (pv 0)))
  (ah (bM (PW.pt (fj (b8 (bU (a_ cJ hr (aa (pv 2) aj)))) (ef (bf jg (pv 2) (aE (i8 K rfl) (by rfl) dU PyProof.Rows.boot_sum (aa (d7 ["_law_part"] [none] rfl (cQ K (bL (bH hr) (pv 1) bO (fun _ _=>rfl))) (fun _ _ _ _=>(aG (i:=0) (show List.Nodup (["_law_part"] :List Str) from by decide +kernel) rfl (Or.inl rfl))) (fun _ _ _ _=>(aK (aM K) (pv 0) ak (fun _ _=>rfl))) rfl (by rfl)) aj)) (br _))))) (aq (aN cL)) aQ)
  (ah (bM (b8 (bU (a_ iY hr (aa (oN m9 hr (pv 0)) (aa (bL (bH hr) (pv 1) bO (fun _ _=>rfl)) aj))))) (aq (aN cL)) aQ)
  (ah (cC PassesOwn.never rfl (cQ K (bL (bH hr) (pv 1) bO (fun _ _=>rfl))) (aG (i:=3) gy.nd rfl (Or.inl rfl)) (aq (bM (b8 (bU (a_ dz hr (aa (dQ k_ hr (pv 0) (aa (aK (aM K) (pv 3) ak (fun _ _=>rfl)) aj)) (aa (bL (bH hr) (pv 1) bO (fun _ _=>rfl)) (aa (aK (aM K) (pv 3) ak (fun _ _=>rfl)) (aa (bL (bH hr) (pv 1) bO (fun _ _=>rfl)) aj))))))) (aq (aN cL)) aQ)))
  (aq (aN cL)))))),?_⟩
 have pl:=gd.pl
 have rl:=gd.rel.len
 have wl:=gd.rel.whole
 refine ⟨_,rfl,A.a,A.dx,_,rfl,hh.h.oa,rfl,⟨⟨n,ρ,A,st,rfl,hh.h,by omega,fun H1 g1=>?_⟩⟩⟩
 have dI:=hh.mono g1
 have hb1:=hb.mono g1
 have Ho:=hb1.op
 have wO:(B.qs.map fun q=>V.ref q.1).length = b.ai.length:=by rw [List.length_map];exact hb.ql
 refine ⟨_,rfl,_,rfl,_,rfl,bN ?_⟩
 refine ⟨_,rfl,_,rfl,B.m,_,rfl,b9.k (k:=Sum.inr "parts") hb1.om,B.lp,rfl,⟨_,av.of Ho⟩,fun ac hac=>?_⟩
 refine fM (J:=nj K B.lp) (n:=b.ai.length) 0 (fun i o H'=>aD H1 H'∧o = ((b.ai.take i).map (fun p:BP=>p.wo)).map V.int) (by omega) ⟨aA hac _,rfl⟩ (fun i o H' hi _ hp=>⟨_,_,av.of (hp.1 _ _ Ho),List.getElem?_eq_getElem (by rw [wO];exact hi)⟩) (fun o H' _ hp=>⟨_,av.of (hp.1 _ _ Ho),by rw [wO];exact Nat.le_refl _⟩) ?_ ?_
 · rintro j y o H2 H3 hj c7 ha ⟨g,e⟩ ⟨rfl,hy⟩
   have ej:=List.getElem?_eq_getElem hj
   obtain ⟨qq,eq,k1,k2,_,_⟩:=hb1.find ej
   have ey:=hy _ (av.of (g _ _ Ho))
   rw [List.getElem?_map,eq] at ey
   cases ey
   refine ⟨_,rfl,qq.1,_,_,_,rfl,rfl,av.of (g _ _ k1),bB (j:=2) rfl,ha,g.bI hac _,?_⟩
   subst e
   rw [take_snoc ej,List.map_append,List.map_append]
   rfl
 rintro o H2 _ ha ⟨g2,e⟩
 rw [List.take_length] at e
 subst e
 refine ⟨ac,b.ai.map (fun p:BP=>p.wo),rfl,av.of ha,rfl,_,rfl,?_⟩
 have ew:az st = (b.ai.map (fun p:BP=>p.wo)).sum:=wl
 rw [show (!decide (V.int (az st) = V.int (b.ai.map (fun p:BP=>p.wo)).sum)) = false from by rw [decide_eq_true (by rw [ew])];rfl]
 refine bN ?_
 have gc:=dI.mono g2
 have hb2:=hb1.mono g2
 refine ⟨_,rfl,A.a,A.dx,_,rfl,gc.h.oa,rfl,⟨⟨n,ρ,A,st,rfl,gc.h,by omega,fun r ws H3 g3 hr Qh Qi=>?_⟩⟩⟩
 have rZ:=hb2.mono g3
 refine ⟨_,rfl,B.m,_,rfl,b9.k (k:=Sum.inr "parts") rZ.om,⟨⟨r,B.lp,ws,_,st.ai,rfl,Qh,Qi,av.of rZ.op,gd.rel.rows rZ,gd.nms,by omega,fun H4 g4=>⟨_,rfl,bN ?_⟩⟩⟩⟩
 have iC:=(gc.mono g3).mono g4
 have uo:=rZ.mono g4
 have o4:aD (out ρ H) (out ρ H4):=iM (((g1.trans g2).trans g3).trans g4)
 clear dI hb1 gc hb2 rZ Qh Qi ha hac hr g1 g2 g3 g4 Ho
 refine ⟨_,rfl,B.m,_,rfl,b9.k (k:=Sum.inr "parts") uo.om,B.lp,rfl,⟨_,av.of uo.op⟩,?_⟩
 refine iK (K:=K) (xs:=B.qs.map fun q=>V.ref q.1) (fun i σ H'=>∃ρ' A' s3,σ = [some (.ref A.a),some (.ref B.m),some (.int (az st)),s3]∧HH T n ρ' A' H' { st with kn:=st.kn + 100 * i }∧aS m ρ' B H' b∧A'.a = A.a∧aD (out ρ H) (out ρ' H'))
  ⟨ρ,A,_,rfl,iC,uo,rfl,o4⟩ (fun i σ H' _ hp=>by obtain ⟨_,_,_,_,_,h,_⟩:=hp;exact av.of h.op) ?_ ?_
 · rintro i y σ H5 hy ⟨ρ5,A5,s3,rfl,nH,wU,ze,o5⟩
   rw [List.getElem?_map] at hy
   obtain ⟨qq,eq,rfl⟩:=Option.map_eq_some_iff.mp hy
   have hib:i < b.ai.length:=by rw [← hb.ql];exact (List.getElem?_eq_some_iff.mp eq).1
   have ei:=List.getElem?_eq_getElem hib
   obtain ⟨p,ep,e1,e2,_⟩:=gd.rel.at ei
   have gO:=List.mem_of_getElem? ep
   have Qj:=List.mem_of_getElem? ei
   obtain ⟨k1,k2,_,_⟩:=wU.pt i _ qq ei eq
   refine ⟨_,rfl,A.a,A5.dx,_,rfl,by rw [← ze];exact nH.h.oa,rfl,_,rfl,qq.1,_,_,_,rfl,rfl,av.of k1,bB (j:=0) rfl,⟨⟨n,ρ5,A5,_,i,p,by rw [ze,e1];rfl,nH,ep,by show st.kn + 100 * i + 100≤1000000;omega,fun r ws ρ6 A6 H6 t7 D8 f6 hr Mx cr Qk=>?_⟩⟩⟩
   have uq:=wU.other f6 nH.g (Ne.symm nm)
   obtain ⟨Nc,Ud,_,_⟩:=uq.pt i _ qq ei eq
   have Ue:vS { st with kn:=st.kn + 100 * i } p = cY b.own (b.ai[i]).tops b.bot:=EA gd.Bs gd.rel hh.wf gd.kC gO Qj e1
   rw [Ue] at Qk
   have b1:=gd.kC.b1
   refine ⟨_,rfl,B.m,_,rfl,b9.k (k:=Sum.inr "owners") uq.om,_,rfl,qq.1,_,_,_,rfl,rfl,av.of Nc,bB (j:=4) rfl,_,rfl,B.m,_,rfl,b9.k (k:=Sum.inr "bottom") uq.om,⟨⟨r,B.lo,qq.2,ws,b.own,(b.ai[i]).tops,b.bot,rfl,Mx,Qk,av.of uq.oo,av.of Ud,(gd.kC.tl _ Qj).symm,by have:=gd.kC.ol;omega,by omega,gd.kC.bz.mono (by decide),fun H7 g7=>⟨_,rfl,bN ?_⟩⟩⟩⟩
   refine ⟨ρ6,A6,_,rfl,?_,uq.mono g7,D8.trans ze,(o5.trans f6.out).trans (iM g7)⟩
   have:=t7.mono g7
   rw [show st.kn + 100 * (i + 1) = st.kn + 100 * i + 100 by omega]
   exact this
 rintro σ H5 ⟨ρ5,A5,s3,rfl,nH,wU,ze,o5⟩
 refine q ρ5 A5 H5 _ nH ?_ wU ze o5
 rw [wO];omega
abbrev gq:Stmt:=top 45
abbrev qt:List Str:=["_law_hold","_law_model_here","_law_found","_law_at_here","_law_one","_law_due"]
abbrev jP:List Str:=["_law_hold","_law_model_here"]
theorem dm:aI qt jP (au gq):=⟨rfl,rfl,rfl,by decide +kernel,rfl,by decide +kernel,by decide +kernel⟩
theorem pX {T:TC} (F:At K mg "_law_tells_landed" gq f fd) (cJ:Dn P w K mg base 1 "_law_int" ["_law_found"] vB) (dz:Dn P w K mg base 3 "_law_share_list" ["_law_found","_law_owners","_law_tops","_law_bottom"] (nT K)) (lg:Mn P w K mg base 1 T.hold "landed" ["self"] (Ba T)) (aR:mg "isinstance" = none) (bW:mg "list" = none) (fh:mg "tuple" = none) (jE:mg "str" = none) (bg:mg "range" = none) (aZ:mg "len" = none):Dn P w K mg base 4 "_law_tells_landed" jP (lP 1 T K):=by
 refine F.ok dm (fun vs H Q E h=>?_) (fun cdv A outer s H vs Q E hr h=>?_) (fun _ _ _ _ _ _ us hl=>match us,hl with | [_,_],_=>rfl)
 · obtain ⟨n,m,ρ,A,B,st,b,c,rfl,_⟩:=h.ex
   rfl
 obtain ⟨n,m,ρ,A,B,st,b,c,rfl,nm,hh,hb,gd,hc,yZ,hkn,q⟩:=h.ex
 refine ⟨_,(ah (aF (i:=2) dm.nd rfl (Or.inl rfl) (oN lg hr (pv 0)))
  (ah (bM (dw (PW.pt (fj (b8 (bU (aE (bS K) (by rfl) aR PyProof.Rows.boot_isinstance (aa (pv 2) (aa (gf PyProof.Rows.boot_list rfl bW) aj))))) (ef (bf jg (aE (bA K) (by rfl) aZ PySem.boot_len (aa (pv 2) aj)) (aE (bA K) (by rfl) aZ PySem.boot_len (aa (bL (bH hr) (pv 1) bO (fun _ _=>rfl)) aj)) (br _)))))) (aq (aN cL)) aQ)
  (ah (cC PassesOwn.never rfl (cE (by rfl) bg (aa (aE (bA K) (by rfl) aZ PySem.boot_len (aa (pv 2) aj)) aj)) (aG (i:=3) dm.nd rfl (Or.inl rfl)) (ah (aF (i:=4) dm.nd rfl (Or.inl rfl) (aK (cu K) (pv 2) (pv 3) (fun _ _=>rfl)))
  (ah (aF (i:=5) dm.nd rfl (Or.inl rfl) (aK (aM K) (bL (bH hr) (pv 1) bO (fun _ _=>rfl)) (pv 3) (fun _ _=>rfl)))
  (ah (bM (dw (PW.pt (fj (b8 (bU (aE (bS K) (by rfl) aR PyProof.Rows.boot_isinstance (aa (pv 4) (aa (gf PyProof.Rows.boot_tuple rfl fh) aj))))) (fj (bf jg (aE (bA K) (by rfl) aZ PySem.boot_len (aa (pv 4) aj)) ak (br _)) (ef (b8 (bU (a_ cJ hr (aa (aK (cu K) (pv 4) ak (fun _ _=>rfl)) aj))))))))) (aq (aN cL)) aQ)
  (ah (bM (dw (PW.pt (fj (b8 (bU (aE (bS K) (by rfl) aR PyProof.Rows.boot_isinstance (aa (aK (cu K) (pv 4) ak (fun _ _=>rfl)) (aa (gf PyProof.Rows.boot_str rfl jE) aj))))) (ef (b8 (bU (aE (bS K) (by rfl) aR PyProof.Rows.boot_isinstance (aa (aK (cu K) (pv 4) ak (fun _ _=>rfl)) (aa (gf PyProof.Rows.boot_str rfl jE) aj))))))))) (aq (aN cL)) aQ)
  (ah (bM (bf jg (iz (aa (aK (cu K) (pv 4) ak (fun _ _=>rfl)) (aa (aK (cu K) (pv 4) ak (fun _ _=>rfl)) (aa (aK (cu K) (pv 4) ak (fun _ _=>rfl)) aj)))) (iz (aa (aK (aM K) (pv 5) ak (fun _ _=>rfl)) (aa (aK (aM K) (pv 5) ak (fun _ _=>rfl)) (aa (aK (aM K) (pv 5) ak (fun _ _=>rfl)) aj)))) (br _)) (aq (aN cL)) aQ)
  (aq (bM (b8 (bU (a_ dz hr (aa (aK (cu K) (pv 4) ak (fun _ _=>rfl)) (aa (bL (bH hr) (pv 1) bO (fun _ _=>rfl)) (aa (aK (aM K) (pv 5) ak (fun _ _=>rfl)) (aa (aK (aM K) (pv 5) ak (fun _ _=>rfl)) aj))))))) (aq (aN cL)) aQ))))))))
  (aq (aN cL))))),?_⟩
 refine ⟨_,rfl,A.a,A.dx,_,rfl,hh.h.oa,rfl,⟨⟨n,ρ,A,st,rfl,hh,fun r ws H1 g1 hr hr1 hL=>?_⟩⟩⟩
 rw [gd.iA.1] at hL
 cases hL
 have hb1:=hb.mono g1
 obtain ⟨vs,hv,hA⟩:=hb1.oa
 rw [gd.iA.2] at hA
 cases hA
 refine ⟨false,?_,bN ?_⟩
 · refine ⟨_,rfl,_,_,_,_,rfl,dO.lst hr1,eE,_,rfl,bN ?_⟩
   exact ⟨_,rfl,_,_,rfl, .inl (av.of hr1),_,rfl,B.m,_,rfl,b9.k (k:=Sum.inr "ashore") hb1.om,_,_,rfl, .inl (av.of hv),rfl,_,rfl,rfl,rfl⟩
 refine ⟨_,rfl,r,_,rfl, .inl (av.of hr1),_,rfl,by decide,by decide,?_⟩
 refine c9 (lo:=0) (n:=0) (fun i σ H'=>H' = H1∧σ = [some (.ref A.a),some (.ref B.m),some (.ref r),none,none,none]) ⟨rfl,rfl⟩ ?_ ?_
 · intro i σ H' hi
   omega
 rintro σ H' ⟨rfl,rfl⟩
 exact q ρ A H' st.kn (hh.mono g1) (by omega) hb1 rfl (iM g1)
abbrev lq:Stmt:=top 46
abbrev Cd:List Str:=["_law_hold","_law_model_here","_law_roster"]
abbrev r8:List Str:=["_law_hold","_law_model_here"]
theorem qo:aI Cd r8 (au lq):=⟨rfl,rfl,rfl,by decide +kernel,rfl,by decide +kernel,by decide +kernel⟩
theorem zW {T:TC} (F:At K mg "_law_tells" lq f fd) (gT:Dn P w K mg base 5 "_law_tells_parts" ["_law_hold","_law_model_here"] (lP 1 T K)) (gC:Dn P w K mg base 4 "_law_tells_landed" ["_law_hold","_law_model_here"] (lP 1 T K)) (lu:Mn P w K mg base 1 T.hold "roster" ["self"] (A4 T)) (aR:mg "isinstance" = none) (bW:mg "list" = none):Dn P w K mg base 6 "_law_tells" r8 (lP 2 T K):=by
 refine F.ok qo (fun vs H Q E h=>?_) (fun cdv A outer s H vs Q E hr h=>?_) (fun _ _ _ _ _ _ us hl=>match us,hl with | [_,_],_=>rfl)
 · obtain ⟨n,m,ρ,A,B,st,b,c,rfl,_⟩:=h.ex
   rfl
 obtain ⟨n,m,ρ,A,B,st,b,c,rfl,nm,hh,hb,gd,hc,yZ,hkn,q⟩:=h.ex
 refine ⟨_,(ah (aF (i:=2) qo.nd rfl (Or.inl rfl) (oN lu hr (pv 0)))
  (ah (bM (dw (PW.pt (fj (b8 (bU (aE (bS K) (by rfl) aR PyProof.Rows.boot_isinstance (aa (pv 2) (aa (gf PyProof.Rows.boot_list rfl bW) aj))))) (ef (bf (xu K hr.units) (pv 2) (bL (bH hr) (pv 1) bO (fun _ _=>rfl)) (br _)))))) (aq (aN cL)) aQ)
  (aq (aN (Ak (a_ gT hr (aa (pv 0) (aa (pv 1) aj))) (Aj (a_ gC hr (aa (pv 0) (aa (pv 1) aj))))))))),?_⟩
 refine ⟨_,rfl,A.a,A.dx,_,rfl,hh.h.oa,rfl,⟨⟨n,ρ,A,st,rfl,hh.h,fun r hr=>?_⟩⟩⟩
 have g1:=aA hr (.lst (st.own.map V.str))
 have hr1:upd H r (.lst (st.own.map V.str)) r = some (.lst (st.own.map V.str)):=af
 have dI:=hh.mono g1
 have hb1:=hb.mono g1
 have eo:=gd.rel.own
 show iE 2 (.ref r) _ (upd H r (.lst (st.own.map V.str))) _
 generalize upd H r (.lst (st.own.map V.str)) = H1 at *
 rw [eo] at hr1
 refine ⟨false,?_,bN ?_⟩
 · refine ⟨_,rfl,_,_,_,_,rfl,dO.lst hr1,eE,_,rfl,bN ?_⟩
   refine ⟨_,rfl,_,rfl,B.m,_,rfl,b9.k (k:=Sum.inr "owners") hb1.om,_,_, .lst (av.of hr1) (xM b.own), .lst (av.of hb1.oo) (xM b.own),tU b.own yZ,tU b.own yZ,_,rfl,?_,rfl⟩
   rw [IP]
   rfl
 refine ⟨_,rfl,_,rfl,⟨⟨n,m,ρ,A,B,st,b,c,rfl,nm,dI,hb1,gd,hc,yZ,by omega,fun ρ2 A2 H2 k gc hk hb2 Ql o2=>⟨true,rfl,pC ?_⟩⟩⟩⟩
 refine ⟨_,rfl,_,rfl,⟨⟨n,m,ρ2,A2,B,_,b,c,by rw [Ql];rfl,nm,gc,hb2,JI gd k,hc,yZ,by show k + 5000 * 1≤1000000;omega,fun ρ3 A3 H3 k3 jO Qm rZ JW o3=>?_⟩⟩⟩
 have Qm:k3≤k + 5000 * 1:=Qm
 exact q ρ3 A3 H3 k3 jO (by omega) rZ (JW.trans Ql) (((iM g1).trans o2).trans o3)
abbrev jG:Stmt:=top 48
abbrev N_:List Str:=["_law_script","_law_owners","_law_names_here","_law_hold","_law_model_here","_law_each","_law_at_here"]
abbrev J1:List Str:=["_law_script"]
theorem m_:aI N_ J1 (au jG):=⟨rfl,rfl,rfl,by decide +kernel,rfl,by decide +kernel,by decide +kernel⟩
theorem Np {T:TC} (F:At K mg "law" jG f fd) (aU:Dn P w K mg base 1 "_law_draw" ["_law_script","_law_k","_law_j","_law_many"] (lW K)) (jH:Dn P w K mg base 2 "_law_names" ["_law_script","_law_k","_law_many"] (xx K))
  (jI:Dn P w K mg base 6 "_law_tells" ["_law_hold","_law_model_here"] (lP 2 T K)) (nc:Dn P w K mg base 5 "_law_begin" ["_law_owners"] (DK T K)) (ng:Dn P w K mg base 1 "_law_model" ["_law_owners"] (DS K))
  (nh:Dn P w K mg base 5 "_law_loads" ["_law_script","_law_k","_law_hold","_law_model_here","_law_names_here","_law_many"] (DV T K)) (jJ:Dn P w K mg base 5 "_law_cast_now" ["_law_script","_law_k","_law_hold","_law_model_here"] (yR T K))
  (bg:mg "range" = none):gG P w K mg base p9 7 f fd J1 (Ab K):=by
 refine F.fn.ok m_ (fun vs H Q E h=>?_) (fun cdv A outer s H vs Q E hr h=>?_)
 · obtain ⟨a,ns,rfl,_⟩:=h
   rfl
 obtain ⟨a,ns,rfl,hS,h63,q⟩:=h
 refine ⟨_,(ah (aF (i:=1) m_.nd rfl (Or.inl rfl) (a_ jH hr (aa (pv 0) (aa ak (aa (aB bP ak (a_ aU hr (aa (pv 0) (aa ak (aa ak (aa ak aj)))))) aj)))))
  (ah (aF (i:=2) m_.nd rfl (Or.inl rfl) (a_ jH hr (aa (pv 0) (aa ak (aa ak aj)))))
  (ah (aF (i:=3) m_.nd rfl (Or.inl rfl) (a_ nc hr (aa (pv 1) aj)))
  (ah (aF (i:=4) m_.nd rfl (Or.inl rfl) (a_ ng hr (aa (pv 1) aj)))
  (ah (bZ (a_ nh hr (aa (pv 0) (aa ak (aa (pv 3) (aa (pv 4) (aa (pv 2) (aa (aB bP ak (a_ aU hr (aa (pv 0) (aa ak (aa ak (aa ak aj)))))) aj))))))))
  (ah (aF (i:=5) m_.nd rfl (Or.inl rfl) (sr lD (a_ aU hr (aa (pv 0) (aa ak (aa ak (aa ak aj))))) ak (br _)))
  (ah (cC PassesOwn.never rfl (cE (by rfl) bg (aa (aB bP ak (a_ aU hr (aa (pv 0) (aa ak (aa ak (aa ak aj)))))) aj)) (aG (i:=6) m_.nd rfl (Or.inl rfl)) (ah (bM (b8 (bU (a_ jJ hr (aa (pv 0) (aa (aB bP ak (pv 6)) (aa (pv 3) (aa (pv 4) aj))))))) (aq (aN cL)) aQ)
  (aq (bM (PW.pt (qx (bU (pv 5)) (sj (b8 (bU (a_ jI hr (aa (pv 3) (aa (pv 4) aj)))))))) (aq (aN cL)) aQ))))
  (aq (aN (a_ jI hr (aa (pv 3) (aa (pv 4) aj)))))))))))),?_⟩
 refine ⟨_,rfl,_,rfl,cG hS h63 (by decide) (by decide) (by decide) (by decide) fun od _ o0 o1=>⟨_,_,rfl,rfl,?_⟩⟩
 obtain ⟨no,hno⟩:∃no:Nat,1 + od = (no:Int):=⟨(1 + od).toNat,by omega⟩
 refine yq hno hS h63 (by decide) (by omega) fun zo Qn H1 g1 Qo _ UB Nq Nr=>?_
 have uf:=g1.seq hS
 refine ⟨_,rfl,yq (show (6:Int) = ((6:Nat):Int) from rfl) uf h63 (by decide) (by decide) fun zn Qp H2 g2 Nt _ UC Nu Nv=>?_⟩
 have Qq:=g2.seq uf
 have EU:=g2 _ _ Qo
 rw [KR] at EU Nt
 have c7:=DL Qn
 have hnl:=DL Qp
 have qP:=yy Nq
 have IV:=Gm Nr
 have Ni:=yy Nu
 have Rp:=Gm Nv
 generalize vY Qn = own at *
 generalize vY Qp = nms at *
 clear Nq Nr Nu Nv Qo
 refine ⟨_,rfl,⟨⟨zo,own,0,fun _=>none,rfl,av.of EU,rfl,qP,fun o ho=>(IV o ho).isNm,by omega,(fun b c e=>by cases e),fun ρ3 A3 H3 jO F3=>?_⟩⟩⟩
 have o3:aD (out (fun _=>none) H2) (out ρ3 H3):=F3.out
 have Ug:=jO
 refine ⟨_,rfl,⟨⟨zo,own,1,ρ3,rfl,F3.seq (av.of EU) rfl,jO.g,by omega,fun ρ4 B4 H4 G4 uo k4=>?_⟩⟩⟩
 have F4:Fr 1 ρ3 H3 ρ4 H4:=fun b o e _=>k4 b o e
 have iC:=jO.other F4 G4 (by decide)
 have o4:=o3.trans F4.out
 have fS:=(rA.of Qq).go o4
 have fN:=(rA.of (av.of (K:=K) Nt)).go o4
 have Qs:=fS _ _ (aD.refl _)
 have Rq:(own.foldl dJ hs0).kn = 0:=Bt own hs0
 obtain ⟨Qt,Uh⟩:=Sf (own:=own) (by omega) (by omega)
 generalize own.foldl dJ hs0 = Ui at *
 refine ⟨_,rfl,_,rfl,_,rfl,_,rfl,_,rfl,cG Qs h63 (by decide) (by decide) (by decide) (by decide) fun md _ m0 m1=>⟨_,_,rfl,rfl,?_⟩⟩
 obtain ⟨many,Oa⟩:∃many:Nat,2 + md = (many:Int):=⟨(2 + md).toNat,by omega⟩
 refine ⟨⟨0,1,ρ4,A3,B4,Ui,⟨own,[],1,[],[]⟩,a,zn,ns,4,nms,many,by rw [← Oa];rfl,by decide,iC,uo,Qt,fS,h63,by decide,by decide,fN,Ni,Rp,IV,by omega,by omega,Uh,rfl,rfl,fun ρ5 A5 B5 H5 qy b5 nH wU Qu ze yY Qv _ Uj o5=>?_⟩⟩
 have Nx:=fS.go o5
 have Ny:=Nx _ _ (aD.refl _)
 generalize A3.a = x at *
 generalize B4.m = mm at *
 clear iC uo Qt o4 k4 F4 F3 o3 jO Ug Nt EU Qq uf hS fN fS Qs o5 G4
 rw [Rq] at Uj
 have Qw:∀o∈own,PyData.strOk o = true:=fun o ho=>(IV o ho).strOk
 refine ⟨_,rfl,cG Ny h63 (by decide) (by decide) (by decide) (by decide) fun ed _ _ _=>⟨rfl,?_⟩⟩
 generalize decide (V.int ed = V.int 1) = each
 refine ⟨_,rfl,cG Ny h63 (by decide) (by decide) (by decide) (by decide) fun cd _ c0 c1=>⟨_,_,rfl,rfl,?_⟩⟩
 refine ⟨_,rfl,by omega,by omega,?_⟩
 refine c9 (lo:=0) (n:=(1 + cd).toNat) (fun i σ H'=>∃ρ' A' B' st' b' s6,σ = [some (.ref a),some (.ref zo),some (.ref zn),some (.ref x),some (.ref mm),some (.bl each),s6]∧HH T 0 ρ' A' H' st'∧aS 1 ρ' B' H' b'∧h_ i st' b'∧A'.a = x∧B'.m = mm∧b'.own = own∧st'.kn≤10000 * i∧rA K ρ' H' a (ns.map V.int))
  ⟨ρ5,A5,B5,qy,b5,_,rfl,nH,wU,Qu,ze,yY,Qv,by omega,Nx⟩ ?_ ?_
 · clear nH wU Qu ze yY Nx Ny Qv
   rintro i σ H6 hi ⟨ρ6,A6,B6,Nz,b6,s6,rfl,t7,uq,J3,D8,J4,NB,Qx,J5⟩
   have e0:(0:Int) + (i:Int) = ((i:Nat):Int):=by omega
   rw [e0]
   refine ⟨_,rfl,_,rfl,_,_,rfl,rfl,_,rfl,_,rfl,⟨⟨0,1,ρ6,A6,B6,Nz,b6,a,ns,10 + (i:Int),i,by rw [D8,J4];rfl,by decide,t7,uq,J3,by omega,J5,h63,by omega,by omega,fun ρ7 A7 B7 H7 oJ b7 t_ NC ND NF Qy Uk Ul o7=>⟨_,rfl,bN ?_⟩⟩⟩⟩
   have Qz:=J5.go o7
   have ea:=NF.trans D8
   have em:=Qy.trans J4
   have eo:=Uk.trans NB
   clear t7 uq J3 J5 o7 NF Qy
   have step:oJ.kn≤10000 * i:=Nat.le_trans Ul Qx
   refine ⟨_,rfl,each,rfl,dY (fun c=>?_) (fun c=>?_)⟩
   · refine ⟨_,rfl,_,rfl,⟨⟨0,1,ρ7,A7,B7,oJ,b7,_,by rw [ea,em];rfl,by decide,t_,NC,ND,by omega,fun o ho=>Qw o (by rw [← eo];exact ho),by omega,fun ρ8 A8 H8 k JR hk Um Uo o8=>⟨_,rfl,bN ?_⟩⟩⟩⟩
     exact ⟨ρ8,A8,B7,_,b7,_,rfl,JR,Um,JI ND k,Uo.trans ea,em,eo,by show k≤10000 * (i + 1);omega,Qz.go o8⟩
   · exact bN ⟨ρ7,A7,B7,oJ,b7,_,rfl,t_,NC,ND,ea,em,eo,by omega,Qz⟩
 rintro σ H6 ⟨ρ6,A6,B6,Nz,b6,s6,rfl,t7,uq,J3,D8,J4,NB,Qx,J5⟩
 refine ⟨_,rfl,_,rfl,⟨⟨0,1,ρ6,A6,B6,Nz,b6,_,by rw [D8,J4];rfl,by decide,t7,uq,J3,by omega,fun o ho=>Qw o (by rw [← NB];exact ho),by omega,fun ρ7 A7 H7 k t_ hk NC NF o7=>q H7⟩⟩⟩
end
theorem all_mk {l:PySem.W.OpenLaw} {w:World} {K:PySem.W.Frag} {h:Heap} {mg:Str→Option Value} {fa:Addr} (X:K.In h) (G:h.Ns mainGlobals mg) (Up:mg "law" = some (.ref fa))
  {f:Addr} {od an:Option Addr} {sl:Array (Option Value)} {oc kV dc pm cd ct:Value}
  (a:PySem.W.nsIn K mainGlobals "law" = some (some (.ref f))) (l1:K.lookup f = some ⟨oc,od, .func (PySem.W.fnOf "law" "law" (dD jG) (cV jG) (au jG) .none kV dc pm an cd ct),sl⟩) (c:PySem.W.codeIn K cd "law" = true) (k:PySem.W.keepIn K (.ref f) = true)
  (d_common_factor:aV K "common_factor" iP) (d_made_of:aV K "made_of" pS) (d_is_name:aV K "is_name" pT) (d_check_amount:aV K "check_amount" jA) (d_check_loss:aV K "check_loss" kN) (d_amounts_of:aV K "amounts_of" kO) (d_factor_of_all:aV K "factor_of_all" iS) (d__law_draw:aV K "_law_draw" mU) (d__law_name:aV K "_law_name" mV) (d__law_names:aV K "_law_names" kU) (d__law_model:aV K "_law_model" kZ) (d__law_much:aV K "_law_much" mW) (d__law_seat:aV K "_law_seat" mY) (d__law_new_part:aV K "_law_new_part" iV) (d__law_loads:aV K "_law_loads" k7) (d__law_rows:aV K "_law_rows" m7) (d__law_at:aV K "_law_at" pW) (d__law_bear:aV K "_law_bear" m8) (d__law_model_cast:aV K "_law_model_cast" gR) (d__law_cast_now:aV K "_law_cast_now" iW) (d__law_int:aV K "_law_int" nV) (d__law_part_list:aV K "_law_part_list" iu) (d__law_least:aV K "_law_least" kW) (d__law_is:aV K "_law_is" pV) (d__law_share_list:aV K "_law_share_list" gQ) (d__law_tells_parts:aV K "_law_tells_parts" gx) (d__law_tells_landed:aV K "_law_tells_landed" gq) (d__law_tells:aV K "_law_tells" lq) (d__law_begin:aV K "_law_begin" kX)
  (z_len:PySem.W.nsIn K mainGlobals "len" = some none)
  (z_range:PySem.W.nsIn K mainGlobals "range" = some none)
  (z_sum:PySem.W.nsIn K mainGlobals "sum" = some none)
  (z_list:PySem.W.nsIn K mainGlobals "list" = some none)
  (z_zip:PySem.W.nsIn K mainGlobals "zip" = some none)
  (z_all:PySem.W.nsIn K mainGlobals "all" = some none)
  (z_int:PySem.W.nsIn K mainGlobals "int" = some none)
  (z_bool:PySem.W.nsIn K mainGlobals "bool" = some none)
  (z_str:PySem.W.nsIn K mainGlobals "str" = some none)
  (z_tuple:PySem.W.nsIn K mainGlobals "tuple" = some none)
  (z_abs:PySem.W.nsIn K mainGlobals "abs" = some none)
  (z_isinstance:PySem.W.nsIn K mainGlobals "isinstance" = some none)
  (z_min:PySem.W.nsIn K mainGlobals "min" = some none)
  {EV:Tok} (b_LETTERS:PySem.W.nsIn K mainGlobals "LETTERS" = some (some (.str "abcdefghijklmnopqrstuvwxyz" EV)))
  {aO:Addr} (aC_Hold:PySem.W.nsIn K mainGlobals "Hold" = some (some (.ref aO))) (pg_Hold:PySem.W.plainGet K aO Str.empty = true) (hd_Hold:PySem.W.hasDictIn K aO = true) (po_Hold:PySem.W.plainOver K aO = true) (sa_Hold:PySem.W.findIn K (.ref aO) "__setattr__" = some (some (.builtin "object.__setattr__"))) (mk_Hold:PySem.W.makesIn K aO = true) (kc_Hold:PySem.W.keepIn K (.ref aO) = true)
  (d_Hold_init:bq K aO "__init__" "Hold.__init__" mP) (d_Hold_place_of:bq K aO "place_of" "Hold.place_of" iQ) (d_Hold_part_of:bq K aO "part_of" "Hold.part_of" jw) (d_Hold_check_new:bq K aO "check_new" "Hold.check_new" ir) (d_Hold_roster:bq K aO "roster" "Hold.roster" jX) (d_Hold_parts:bq K aO "parts" "Hold.parts" kL) (d_Hold_whole:bq K aO "whole" "Hold.whole" kM) (d_Hold_beyond_common:bq K aO "beyond_common" "Hold.beyond_common" fX) (d_Hold_tops_of:bq K aO "tops_of" "Hold.tops_of" jy) (d_Hold_stow:bq K aO "stow" "Hold.stow" mJ) (d_Hold_sign:bq K aO "sign" "Hold.sign" mK) (d_Hold_load:bq K aO "load" "Hold.load" mL) (d_Hold_shares:bq K aO "shares" "Hold.shares" j7) (d_Hold_landed:bq K aO "landed" "Hold.landed" j_) (d_Hold_given_up:bq K aO "given_up" "Hold.given_up" iU) (d_Hold_lessen:bq K aO "lessen" "Hold.lessen" j0) (d_Hold_blend:bq K aO "blend" "Hold.blend" kP) (d_Hold_cast:bq K aO "cast" "Hold.cast" mQ)
  (n_Hold_places:PySem.W.findIn K (.ref aO) "places" = some none)
  (n_Hold_aboard:PySem.W.findIn K (.ref aO) "aboard" = some none)
  (n_Hold_ashore:PySem.W.findIn K (.ref aO) "ashore" = some none)
  (n_Hold_names:PySem.W.findIn K (.ref aO) "names" = some none)
  (n_Hold_bottom:PySem.W.findIn K (.ref aO) "bottom" = some none)
  (n_Hold_common:PySem.W.findIn K (.ref aO) "common" = some none)
  (n_Hold_purses:PySem.W.findIn K (.ref aO) "purses" = some none)
  {bw:Addr} (aC_Part:PySem.W.nsIn K mainGlobals "Part" = some (some (.ref bw))) (pg_Part:PySem.W.plainGet K bw Str.empty = true) (hd_Part:PySem.W.hasDictIn K bw = true) (po_Part:PySem.W.plainOver K bw = true) (sa_Part:PySem.W.findIn K (.ref bw) "__setattr__" = some (some (.builtin "object.__setattr__"))) (mk_Part:PySem.W.makesIn K bw = true) (kc_Part:PySem.W.keepIn K (.ref bw) = true)
  (d_Part_init:bq K bw "__init__" "Part.__init__" mG)
  (n_Part_name:PySem.W.findIn K (.ref bw) "name" = some none)
  (n_Part_owner:PySem.W.findIn K (.ref bw) "owner" = some none)
  (n_Part_worth:PySem.W.findIn K (.ref bw) "worth" = some none)
  (n_Part_weight:PySem.W.findIn K (.ref bw) "weight" = some none)
  (n_Part_scale:PySem.W.findIn K (.ref bw) "scale" = some none)
  (n_Part_row:PySem.W.findIn K (.ref bw) "row" = some none)
  {aT:Addr} (aC_Bottom:PySem.W.nsIn K mainGlobals "Bottom" = some (some (.ref aT))) (pg_Bottom:PySem.W.plainGet K aT Str.empty = true) (hd_Bottom:PySem.W.hasDictIn K aT = true) (po_Bottom:PySem.W.plainOver K aT = true) (sa_Bottom:PySem.W.findIn K (.ref aT) "__setattr__" = some (some (.builtin "object.__setattr__"))) (mk_Bottom:PySem.W.makesIn K aT = true) (kc_Bottom:PySem.W.keepIn K (.ref aT) = true)
  (d_Bottom_init:bq K aT "__init__" "Bottom.__init__" jW) (d_Bottom_over:bq K aT "over" "Bottom.over" j6) (d_Bottom_share:bq K aT "share" "Bottom.share" jD) (d_Bottom_grow:bq K aT "grow" "Bottom.grow" jZ)
  (n_Bottom_steps:PySem.W.findIn K (.ref aT) "steps" = some none)
  (n_Bottom_product:PySem.W.findIn K (.ref aT) "product" = some none)
  (n_Bottom_known:PySem.W.findIn K (.ref aT) "known" = some none)
  :∃fd:FuncData,(∀(s:Shared) (v:Value),BindsTo s fd ⟨[v],[]⟩ [("_law_script",v)])∧∀base:Heap,K.In base→base.Ns mainGlobals mg→gG l.prog w K mg base p9 7 fa fd ["_law_script"] (Ab K):=by
 have e:=Up.symm.trans (PySem.W.mg_of X G a)
 cases e
 have Ob:=Jl (st:=jG) X G a l1 c k
 obtain ⟨_,_,wV⟩:=d_common_factor.at X G
 obtain ⟨_,_,Hq⟩:=d_made_of.at X G
 obtain ⟨_,_,Hr⟩:=d_is_name.at X G
 obtain ⟨_,_,x_⟩:=d_check_amount.at X G
 obtain ⟨_,_,Ce⟩:=d_check_loss.at X G
 obtain ⟨_,_,Cf⟩:=d_amounts_of.at X G
 obtain ⟨_,_,wW⟩:=d_factor_of_all.at X G
 obtain ⟨_,_,CT⟩:=d__law_draw.at X G
 obtain ⟨_,_,CU⟩:=d__law_name.at X G
 obtain ⟨_,_,Cg⟩:=d__law_names.at X G
 obtain ⟨_,_,Ci⟩:=d__law_model.at X G
 obtain ⟨_,_,CV⟩:=d__law_much.at X G
 obtain ⟨_,_,CW⟩:=d__law_seat.at X G
 obtain ⟨_,_,wX⟩:=d__law_new_part.at X G
 obtain ⟨_,_,Cj⟩:=d__law_loads.at X G
 obtain ⟨_,_,CY⟩:=d__law_rows.at X G
 obtain ⟨_,_,Hs⟩:=d__law_at.at X G
 obtain ⟨_,_,CZ⟩:=d__law_bear.at X G
 obtain ⟨_,_,tD⟩:=d__law_model_cast.at X G
 obtain ⟨_,_,wY⟩:=d__law_cast_now.at X G
 obtain ⟨_,_,EW⟩:=d__law_int.at X G
 obtain ⟨_,_,u7⟩:=d__law_part_list.at X G
 obtain ⟨_,_,Ck⟩:=d__law_least.at X G
 obtain ⟨_,_,Ht⟩:=d__law_is.at X G
 obtain ⟨_,_,tE⟩:=d__law_share_list.at X G
 obtain ⟨_,_,r_⟩:=d__law_tells_parts.at X G
 obtain ⟨_,_,qu⟩:=d__law_tells_landed.at X G
 obtain ⟨_,_,Cm⟩:=d__law_tells.at X G
 obtain ⟨_,_,Co⟩:=d__law_begin.at X G
 have aZ:=PySem.W.mg_none_of X G z_len
 have bg:=PySem.W.mg_none_of X G z_range
 have dU:=PySem.W.mg_none_of X G z_sum
 have bW:=PySem.W.mg_none_of X G z_list
 have fH:=PySem.W.mg_none_of X G z_zip
 have EF:=PySem.W.mg_none_of X G z_all
 have EK:=PySem.W.mg_none_of X G z_int
 have BX:=PySem.W.mg_none_of X G z_bool
 have jE:=PySem.W.mg_none_of X G z_str
 have fh:=PySem.W.mg_none_of X G z_tuple
 have EL:=PySem.W.mg_none_of X G z_abs
 have aR:=PySem.W.mg_none_of X G z_isinstance
 have ES:=PySem.W.mg_none_of X G z_min
 have rC:=PySem.W.mg_of X G b_LETTERS
 obtain ⟨_,_,C0⟩:=d_Hold_init.made X G aC_Hold mk_Hold kc_Hold
 obtain ⟨_,_,wZ⟩:=d_Hold_place_of.at ⟨pg_Hold,hd_Hold,po_Hold,sa_Hold⟩
 obtain ⟨_,_,ya⟩:=d_Hold_part_of.at ⟨pg_Hold,hd_Hold,po_Hold,sa_Hold⟩
 obtain ⟨_,_,u9⟩:=d_Hold_check_new.at ⟨pg_Hold,hd_Hold,po_Hold,sa_Hold⟩
 obtain ⟨_,_,zX⟩:=d_Hold_roster.at ⟨pg_Hold,hd_Hold,po_Hold,sa_Hold⟩
 obtain ⟨_,_,Cp⟩:=d_Hold_parts.at ⟨pg_Hold,hd_Hold,po_Hold,sa_Hold⟩
 obtain ⟨_,_,Cq⟩:=d_Hold_whole.at ⟨pg_Hold,hd_Hold,po_Hold,sa_Hold⟩
 obtain ⟨_,_,pY⟩:=d_Hold_beyond_common.at ⟨pg_Hold,hd_Hold,po_Hold,sa_Hold⟩
 obtain ⟨_,_,yb⟩:=d_Hold_tops_of.at ⟨pg_Hold,hd_Hold,po_Hold,sa_Hold⟩
 obtain ⟨_,_,C3⟩:=d_Hold_stow.at ⟨pg_Hold,hd_Hold,po_Hold,sa_Hold⟩
 obtain ⟨_,_,C4⟩:=d_Hold_sign.at ⟨pg_Hold,hd_Hold,po_Hold,sa_Hold⟩
 obtain ⟨_,_,C5⟩:=d_Hold_load.at ⟨pg_Hold,hd_Hold,po_Hold,sa_Hold⟩
 obtain ⟨_,_,zY⟩:=d_Hold_shares.at ⟨pg_Hold,hd_Hold,po_Hold,sa_Hold⟩
 obtain ⟨_,_,zZ⟩:=d_Hold_landed.at ⟨pg_Hold,hd_Hold,po_Hold,sa_Hold⟩
 obtain ⟨_,_,w6⟩:=d_Hold_given_up.at ⟨pg_Hold,hd_Hold,po_Hold,sa_Hold⟩
 obtain ⟨_,_,z6⟩:=d_Hold_lessen.at ⟨pg_Hold,hd_Hold,po_Hold,sa_Hold⟩
 obtain ⟨_,_,Cr⟩:=d_Hold_blend.at ⟨pg_Hold,hd_Hold,po_Hold,sa_Hold⟩
 obtain ⟨_,_,C6⟩:=d_Hold_cast.at ⟨pg_Hold,hd_Hold,po_Hold,sa_Hold⟩
 obtain ⟨_,_,C7⟩:=d_Part_init.made X G aC_Part mk_Part kc_Part
 obtain ⟨_,_,z7⟩:=d_Bottom_init.made X G aC_Bottom mk_Bottom kc_Bottom
 obtain ⟨_,_,z8⟩:=d_Bottom_over.at ⟨pg_Bottom,hd_Bottom,po_Bottom,sa_Bottom⟩
 obtain ⟨_,_,yc⟩:=d_Bottom_share.at ⟨pg_Bottom,hd_Bottom,po_Bottom,sa_Bottom⟩
 obtain ⟨_,_,z9⟩:=d_Bottom_grow.at ⟨pg_Bottom,hd_Bottom,po_Bottom,sa_Bottom⟩
 have TX:Txt K ⟨aO,bw,aT⟩:=⟨⟨pg_Hold,hd_Hold,po_Hold,sa_Hold⟩,⟨pg_Part,hd_Part,po_Part,sa_Part⟩,⟨pg_Bottom,hd_Bottom,po_Bottom,sa_Bottom⟩,n_Hold_places,n_Hold_aboard,n_Hold_ashore,n_Hold_names,n_Hold_bottom,n_Hold_common,n_Hold_purses,n_Part_name,n_Part_owner,n_Part_worth,n_Part_weight,n_Part_scale,n_Part_row,n_Bottom_steps,n_Bottom_product,n_Bottom_known⟩
 refine ⟨PySem.W.fnOf "law" "law" (dD jG) (cV jG) (au jG) .none kV dc pm an cd ct,fun s v=> .of_eq rfl,fun base _ _=>?_⟩
 have dW:=uQ (P:=l.prog) (w:=w) (base:=base) (mg:=mg) wV
 have rB:=EE (P:=l.prog) (w:=w) (base:=base) (mg:=mg) Hq EF
 have je:=EH Hr rB aZ rC
 have jY:=wF (P:=l.prog) (w:=w) (base:=base) (mg:=mg) x_
 have mS:=zH Ce jY
 have mR:=zJ (P:=l.prog) (w:=w) (base:=base) (mg:=mg) Cf aZ
 have jB:=uV wW dW
 have uU:=xO (P:=l.prog) (w:=w) (base:=base) (mg:=mg) (T:=⟨aO,bw,aT⟩) z7 TX
 have BF:=Bv (P:=l.prog) (w:=w) (base:=base) (mg:=mg) (T:=⟨aO,bw,aT⟩) C7 TX bW
 have B0:=BI (T:=⟨aO,bw,aT⟩) C0 TX uU
 have kQ:=xV (P:=l.prog) (w:=w) (base:=base) (mg:=mg) (T:=⟨aO,bw,aT⟩) z9 TX
 have jz:=uS (P:=l.prog) (w:=w) (base:=base) (mg:=mg) (T:=⟨aO,bw,aT⟩) wZ TX
 have d9:=wA (P:=l.prog) (w:=w) (base:=base) (mg:=mg) (T:=⟨aO,bw,aT⟩) ya TX
 have iR:=sX (T:=⟨aO,bw,aT⟩) u9 TX je
 have m9:=zy (P:=l.prog) (w:=w) (base:=base) (mg:=mg) (T:=⟨aO,bw,aT⟩) Cp TX
 have fY:=zA (P:=l.prog) (w:=w) (base:=base) (mg:=mg) (T:=⟨aO,bw,aT⟩) Cq TX dU
 have gm:=oV (P:=l.prog) (w:=w) (base:=base) (mg:=mg) (T:=⟨aO,bw,aT⟩) pY TX fH
 have nU:=BB (P:=l.prog) (w:=w) (base:=base) (mg:=mg) (T:=⟨aO,bw,aT⟩) C3 TX
 have nW:=BC (T:=⟨aO,bw,aT⟩) C4 TX je aZ
 have n_:=BD (T:=⟨aO,bw,aT⟩) C5 TX iR jz gm nU BF aZ
 have jC:=uX (P:=l.prog) (w:=w) (base:=base) (mg:=mg) (T:=⟨aO,bw,aT⟩) w6 TX dU fH
 have kR:=xX (P:=l.prog) (w:=w) (base:=base) (mg:=mg) (T:=⟨aO,bw,aT⟩) z6 TX
 have mT:=zM (T:=⟨aO,bw,aT⟩) Cr TX jB kQ fH
 have oj:=BQ (T:=⟨aO,bw,aT⟩) C6 TX mR mS d9 fY mT jC kR dU
 have kT:=xY (T:=⟨aO,bw,aT⟩) z8 TX dW
 have j9:=wK (T:=⟨aO,bw,aT⟩) yc TX kT
 have lu:=xR (P:=l.prog) (w:=w) (base:=base) (mg:=mg) (T:=⟨aO,bw,aT⟩) zX TX bW
 have j8:=wC (P:=l.prog) (w:=w) (base:=base) (mg:=mg) (T:=⟨aO,bw,aT⟩) yb TX fH
 have k_:=x6 (T:=⟨aO,bw,aT⟩) zY TX d9 j8 j9 fH
 have lg:=x9 (P:=l.prog) (w:=w) (base:=base) (mg:=mg) (T:=⟨aO,bw,aT⟩) zZ TX bW
 have aU:=BR (P:=l.prog) (w:=w) (base:=base) (mg:=mg) CT aZ bg
 have ko:=BU (P:=l.prog) (w:=w) (base:=base) (mg:=mg) CU bg
 have jH:=zQ Cg aU ko bg
 have ng:=zU (P:=l.prog) (w:=w) (base:=base) (mg:=mg) Ci bW
 have nZ:=BW CV aU
 have nX:=B9 (P:=l.prog) (w:=w) (base:=base) (mg:=mg) CW aZ bg
 have jF:=u0 wX nX
 have nh:=zV Cj aU nZ jF n_ aZ bg
 have oh:=B_ CY aU aZ bg bW dU ES
 have rX:=ER (P:=l.prog) (w:=w) (base:=base) (mg:=mg) Hs aZ bg
 have nY:=Ca (P:=l.prog) (w:=w) (base:=base) (mg:=mg) CZ aZ bg dU
 have iy:=rW tD rX nY
 have jJ:=u6 wY oh iy oj aZ bW
 have cJ:=CO (P:=l.prog) (w:=w) (base:=base) (mg:=mg) EW aR EK BX
 have iY:=sY u7 cJ aR bW fh jE bg aZ
 have fZ:=zR (P:=l.prog) (w:=w) (base:=base) (mg:=mg) Ck EL
 have rP:=EN Ht cJ fZ aR fh aZ
 have dz:=rO tE fZ rP aR bW fh jE bg aZ
 have gT:=qp r_ cJ iY dz m9 fY k_ dU
 have gC:=pX qu cJ dz lg aR bW fh jE bg aZ
 have jI:=zW Cm gT gC lu aR bW
 have nc:=zS (T:=⟨aO,bw,aT⟩) Co B0 nW
 exact Np (T:=⟨aO,bw,aT⟩) Ob aU jH jI nc ng nh jJ bg
theorem walk {l:PySem.W.OpenLaw} {q:Program} {loose:List Str} {XP:(Str→Option Value)→Heap→Prop} {YP:World→Heap→Prop} {d:DefRec} {K:Params→PySem.W.Frag} (hn:l.most = some 63) (hdf:d.params.defaults = [])
  (hY:∀(w:World) (h:Heap),YP w h→(K w.params).In h)
  (F:∀(w:World) (mg:Str→Option Value) (fa:Addr) (h:Heap),(K w.params).In h→h.Ns mainGlobals mg→mg d.name = some (.ref fa)→
    ∃fd:FuncData,(∀(s:Shared) (u:Value),BindsTo s fd ⟨[u],[]⟩ [("_law_script",u)])∧∀base:Heap,(K w.params).In base→base.Ns mainGlobals mg→gG l.prog w (K w.params) mg base p9 7 fa fd ["_law_script"] (Ab (K w.params))):
  PySem.W.WalkO q loose XP YP l.row.toRowW d [] (fun f vs=>PySem.call f vs):=
 L2.Kr (n:=63) (k:=7) (x:="_law_script") (CX:=fun _=>p9) (sp:=fun w=>Ab (K w.params)) hn (by decide) hdf ⟨rfl,by decide,by decide⟩ hY F (fun _ _ a ns hl _ hS=>⟨a,ns,rfl,hS,hl,fun _=>rfl⟩) fun _ _ _ _ _ z=>z
end Mv
namespace PySem.W.Fast
theorem tw17995187257261350577:True:=⟨⟩
theorem tw2369102080211433645:True:=⟨⟩
theorem tw3867422251383421153:True:=⟨⟩
theorem tw12171594255147078313:True:=⟨⟩
theorem tw5016429916837718359:True:=⟨⟩
theorem tw14319641307383821888:True:=⟨⟩
theorem tw10056900309254262312:True:=⟨⟩
theorem tw5509770393920367612:True:=⟨⟩
theorem tw466987660113029792:True:=⟨⟩
theorem tw1736085665230432127:True:=⟨⟩
theorem tw10172540882543226666:True:=⟨⟩
theorem tw12603097100416746846:True:=⟨⟩
theorem tw14465195671664830766:True:=⟨⟩
theorem tw13686202041715813935:True:=⟨⟩
theorem tw7985161537563203536:True:=⟨⟩
theorem tw2556707728850859454:True:=⟨⟩
theorem tw4905703786215485867:True:=⟨⟩
theorem tw1254068239997538154:True:=⟨⟩
theorem tw4321458604805648235:True:=⟨⟩
theorem tw9415464020775911824:True:=⟨⟩
theorem tw4668579466519066818:True:=⟨⟩
theorem tw3859101548869992039:True:=⟨⟩
theorem tw2884145039573987213:True:=⟨⟩
theorem tw12305447831320066968:True:=⟨⟩
theorem tw5194825249344020802:True:=⟨⟩
theorem tw10458010252581818867:True:=⟨⟩
theorem tw11372735475944286569:True:=⟨⟩
theorem tw13285293624409146250:True:=⟨⟩
theorem tw2940395244500823227:True:=⟨⟩
theorem tw1599495471004158766:True:=⟨⟩
theorem tw3868521170256148657:True:=⟨⟩
theorem tw3964921963843910585:True:=⟨⟩
theorem tw6496695278039039642:True:=⟨⟩
theorem tw614774577593460292:True:=⟨⟩
theorem tw1887107856842064379:True:=⟨⟩
theorem tw10165894361815641973:True:=⟨⟩
theorem tw12113991457875598604:True:=⟨⟩
theorem tw11080572004870504799:True:=⟨⟩
theorem tw15441967594120955440:True:=⟨⟩
theorem tw251383580248362635:True:=⟨⟩
theorem tw14098960890964290909:True:=⟨⟩
theorem tw11132827550054891400:True:=⟨⟩
theorem tw5039962710387971480:True:=⟨⟩
theorem tw13121786865987343714:True:=⟨⟩
theorem tw9112588565404256096:True:=⟨⟩
theorem tw11755318122866845582:True:=⟨⟩
theorem tw5810345321677545778:True:=⟨⟩
theorem tw14110750883834426925:True:=⟨⟩
theorem tw8407779258069685036:True:=⟨⟩
theorem tw3279673480252087790:True:=⟨⟩
theorem tw17513474414191076039:True:=⟨⟩
theorem tw12213200221342250035:True:=⟨⟩
theorem tw6909264001171352347:True:=⟨⟩
theorem tw15615376865119009304:True:=⟨⟩
theorem tw5376864703429337853:True:=⟨⟩
theorem tw8210376117586825911:True:=⟨⟩
theorem tw3197319438857667234:True:=⟨⟩
theorem tw16348119455614907940:True:=⟨⟩
theorem tw15044179019635368366:True:=⟨⟩
theorem tw17128033545937211694:True:=⟨⟩
theorem tw10363597595253673059:True:=⟨⟩
theorem tw2687964048947731117:True:=⟨⟩
theorem tw16449832706820982818:True:=⟨⟩
theorem tw8429412229554287124:True:=⟨⟩
theorem tw9689061398593011387:True:=⟨⟩
theorem tw6078506676304033917:True:=⟨⟩
theorem tw14686593881527686754:True:=⟨⟩
theorem tw72545627076401297:True:=⟨⟩
theorem tw6475052243896041585:True:=⟨⟩
theorem tw16901837131098578782:True:=⟨⟩
theorem tw14456157905959180560:True:=⟨⟩
theorem tw4725545864858747242:True:=⟨⟩
theorem tw7827432346316278147:True:=⟨⟩
theorem tw8140083785626397222:True:=⟨⟩
theorem tw16302776748601278674:True:=⟨⟩
theorem tw7574931241904182683:True:=⟨⟩
theorem tw5426242725229862378:True:=⟨⟩
theorem tw8812855404544239239:True:=⟨⟩
theorem tw6958419078442494975:True:=⟨⟩
theorem tw12804012453598384863:True:=⟨⟩
theorem tw16598276901498609127:True:=⟨⟩
theorem tw16373482167318225461:True:=⟨⟩
theorem tw9173956049062211693:True:=⟨⟩
theorem tw18176105545005819832:True:=⟨⟩
theorem tw10957082902766423786:True:=⟨⟩
theorem tw4110852270767808608:True:=⟨⟩
theorem tw12326718373942512065:True:=⟨⟩
theorem tw12669509163156860470:True:=⟨⟩
theorem tw15533206487679160560:True:=⟨⟩
theorem tw688391409251606444:True:=⟨⟩
theorem tw16488528443069020960:True:=⟨⟩
theorem tw17614271358721095884:True:=⟨⟩
theorem tw12070138984552410857:True:=⟨⟩
theorem tw7069678066417564915:True:=⟨⟩
theorem tw7020214953458916562:True:=⟨⟩
theorem tw11163336860459543704:True:=⟨⟩
theorem tw4722841405734414264:True:=⟨⟩
theorem tw13517445400118420760:True:=⟨⟩
theorem tw4805142245940347474:True:=⟨⟩
theorem tw4489303003040605196:True:=⟨⟩
theorem tw17690404962725062503:True:=⟨⟩
theorem tw7748073877333440843:True:=⟨⟩
theorem tw6475661503146602495:True:=⟨⟩
theorem tw15966608743375238813:True:=⟨⟩
theorem tw7251363197869421482:True:=⟨⟩
theorem tw15842646936050130484:True:=⟨⟩
theorem tw8547587395686895998:True:=⟨⟩
theorem tw13625034689782154988:True:=⟨⟩
theorem tw16349763750415621995:True:=⟨⟩
theorem tw2440867532131589028:True:=⟨⟩
theorem tw10615644476814425119:True:=⟨⟩
theorem tw6153226084886076625:True:=⟨⟩
theorem tw1683030307081137775:True:=⟨⟩
theorem tw15171548217996827180:True:=⟨⟩
theorem tw8723746943292863454:True:=⟨⟩
theorem tw5200917819645183674:True:=⟨⟩
theorem tw7539393587011676617:True:=⟨⟩
theorem tw15946196179632002242:True:=⟨⟩
theorem tw384354701847175065:True:=⟨⟩
theorem tw4927387261487752888:True:=⟨⟩
theorem tw4639034814074613640:True:=⟨⟩
theorem tw7646450799555990783:True:=⟨⟩
theorem tw12199521099135335816:True:=⟨⟩
theorem tw8095897969218497585:True:=⟨⟩
theorem tw252438740728564642:True:=⟨⟩
theorem tw12666157304866120448:True:=⟨⟩
theorem tw12951298445819985640:True:=⟨⟩
theorem tw4952709100353021780:True:=⟨⟩
theorem tw7423437955623261285:True:=⟨⟩
theorem tw271690178576123305:True:=⟨⟩
theorem tw15045416387472588997:True:=⟨⟩
theorem tw17726558789033493767:True:=⟨⟩
theorem tw14507146146532428576:True:=⟨⟩
theorem tw8640170177238937577:True:=⟨⟩
theorem tw10469513402558439000:True:=⟨⟩
theorem tw7819314771885936078:True:=⟨⟩
theorem tw8758946008832580826:True:=⟨⟩
theorem tw14401053602856113691:True:=⟨⟩
theorem tw7560135527487960692:True:=⟨⟩
theorem tw13002847349728171727:True:=⟨⟩
theorem tw1935195368970656073:True:=⟨⟩
theorem tw8803596711169075814:True:=⟨⟩
theorem tw14730151876430681194:True:=⟨⟩
theorem tw210410570831077553:True:=⟨⟩
theorem tw4700338356427515075:True:=⟨⟩
theorem tw13329831931663845078:True:=⟨⟩
theorem tw7679901666749483548:True:=⟨⟩
theorem tw65180794695267935:True:=⟨⟩
theorem tw4149999317591719188:True:=⟨⟩
theorem tw9872437761286809491:True:=⟨⟩
theorem tw8423558865553914792:True:=⟨⟩
theorem tw7955654945085704871:True:=⟨⟩
theorem tw17433162268090778648:True:=⟨⟩
theorem tw9218810663478571516:True:=⟨⟩
theorem tw12043050537324138693:True:=⟨⟩
theorem tw3592993607020282483:True:=⟨⟩
theorem tw2376242422984363321:True:=⟨⟩
theorem tw15141486619911619037:True:=⟨⟩
theorem tw4111248115366268632:True:=⟨⟩
theorem tw14003297513595064279:True:=⟨⟩
theorem tw12870808135599884065:True:=⟨⟩
theorem tw5626655568576586919:True:=⟨⟩
theorem tw10849740413725033337:True:=⟨⟩
theorem tw18200880527766990840:True:=⟨⟩
theorem tw15093694228232773553:True:=⟨⟩
theorem tw4887521084565085949:True:=⟨⟩
theorem tw8633419992753568320:True:=⟨⟩
theorem tw14447735899344398300:True:=⟨⟩
theorem tw15058141234497459370:True:=⟨⟩
theorem tw11872198879516610590:True:=⟨⟩
theorem tw6365014931394178073:True:=⟨⟩
theorem tw14691682652981527194:True:=⟨⟩
theorem tw3967663164925970709:True:=⟨⟩
theorem tw1027743670463724670:True:=⟨⟩
theorem tw4265098532914256429:True:=⟨⟩
theorem tw7713026395562885654:True:=⟨⟩
theorem tw1413710654733082640:True:=⟨⟩
theorem tw10909235849258880753:True:=⟨⟩
theorem tw12925106077517383994:True:=⟨⟩
theorem tw11966595117951124184:True:=⟨⟩
theorem tw15207571446046010771:True:=⟨⟩
theorem tw12052005720315826060:True:=⟨⟩
theorem tw4800570673242285830:True:=⟨⟩
theorem tw18273040254523691844:True:=⟨⟩
theorem tw5478753674733984225:True:=⟨⟩
theorem tw16778765316606883287:True:=⟨⟩
theorem tw12563732090235430454:True:=⟨⟩
theorem tw18377987945755162905:True:=⟨⟩
theorem tw2499246815075770574:True:=⟨⟩
theorem tw16491586391575217510:True:=⟨⟩
theorem tw12363751684862199853:True:=⟨⟩
theorem tw6961056474496605610:True:=⟨⟩
theorem tw15775708004665637556:True:=⟨⟩
theorem tw2724932019130661447:True:=⟨⟩
theorem tw5031274311088808107:True:=⟨⟩
theorem tw10664640847457994725:True:=⟨⟩
theorem tw17705938441826085512:True:=⟨⟩
theorem tw27563539157773491:True:=⟨⟩
theorem tw17106223381968782290:True:=⟨⟩
theorem tw11051526216317141350:True:=⟨⟩
theorem tw13803767410641123741:True:=⟨⟩
theorem tw12525630517512608438:True:=⟨⟩
theorem tw12019743723298529748:True:=⟨⟩
theorem tw14256273843787062342:True:=⟨⟩
theorem tw16203726541370592810:True:=⟨⟩
theorem tw3156229505567668495:True:=⟨⟩
theorem tw3434983484082068472:True:=⟨⟩
theorem tw12321934962000652810:True:=⟨⟩
theorem tw13237092496238072659:True:=⟨⟩
theorem tw15412734500843582270:True:=⟨⟩
theorem tw15534297030302439555:True:=⟨⟩
theorem tw2593369995836887216:True:=⟨⟩
theorem tw6111208999745225023:True:=⟨⟩
theorem tw14020043606634345055:True:=⟨⟩
theorem tw10305031174224173708:True:=⟨⟩
theorem tw975143266689239613:True:=⟨⟩
theorem tw10486891317864623248:True:=⟨⟩
theorem tw6131238454089050217:True:=⟨⟩
theorem tw43978681780678117:True:=⟨⟩
theorem tw3512738195901310123:True:=⟨⟩
theorem tw10438396074770739892:True:=⟨⟩
theorem tw1134546351389251766:True:=⟨⟩
theorem tw1943471168402562899:True:=⟨⟩
theorem tw271976802441540047:True:=⟨⟩
theorem tw7605155380155020703:True:=⟨⟩
theorem tw6846390223154118491:True:=⟨⟩
theorem tw6391975738959225172:True:=⟨⟩
theorem tw5911498265027199885:True:=⟨⟩
theorem tw13391205735553220614:True:=⟨⟩
theorem tw143309808671684659:True:=⟨⟩
theorem tw13456270828591779920:True:=⟨⟩
theorem tw2536711693401459378:True:=⟨⟩
theorem tw5462946014776534817:True:=⟨⟩
theorem tw16373409207742533097:True:=⟨⟩
theorem tw1920875518482316215:True:=⟨⟩
theorem tw14036278900329447531:True:=⟨⟩
theorem tw10123346969559651371:True:=⟨⟩
theorem tw13883494314098477891:True:=⟨⟩
theorem tw8980369685093283932:True:=⟨⟩
theorem tw18174318537267792116:True:=⟨⟩
theorem tw5260755150674976871:True:=⟨⟩
theorem tw14074731249088718361:True:=⟨⟩
theorem tw1691377829376787339:True:=⟨⟩
theorem tw17415161617928297829:True:=⟨⟩
theorem tw16416039015930466582:True:=⟨⟩
theorem tw6768565669036229560:True:=⟨⟩
theorem tw10270346680637664565:True:=⟨⟩
theorem tw16423997014871580959:True:=⟨⟩
theorem tw4971495171170590766:True:=⟨⟩
theorem tw15830126786531898904:True:=⟨⟩
theorem tw10630998240800643189:True:=⟨⟩
theorem tw2510369843075431664:True:=⟨⟩
theorem tw15625244401773251083:True:=⟨⟩
theorem tw16648089763128001052:True:=⟨⟩
theorem tw5477678115582616637:True:=⟨⟩
theorem tw17159598143057809301:True:=⟨⟩
theorem tw8444676183250807184:True:=⟨⟩
theorem tw1217308553130339051:True:=⟨⟩
theorem tw2004996803068942582:True:=⟨⟩
theorem tw1338451718701053405:True:=⟨⟩
theorem tw5517437122720423041:True:=⟨⟩
theorem tw15505245160982768383:True:=⟨⟩
theorem tw12936115427109732043:True:=⟨⟩
theorem tw15714586790973085647:True:=⟨⟩
theorem tw16128848045338226199:True:=⟨⟩
theorem tw4392690852268275257:True:=⟨⟩
theorem tw10838243492441541600:True:=⟨⟩
theorem tw4856616921933724486:True:=⟨⟩
theorem tw15004060647050480091:True:=⟨⟩
theorem tw12682593102489121673:True:=⟨⟩
theorem tw924641773021039656:True:=⟨⟩
theorem tw11617418393711764963:True:=⟨⟩
theorem tw12845101524235272889:True:=⟨⟩
theorem tw14840597246254527547:True:=⟨⟩
theorem tw12338396760610351119:True:=⟨⟩
theorem tw7597504507390258207:True:=⟨⟩
theorem tw2170269457002247832:True:=⟨⟩
theorem tw16128954335983489509:True:=⟨⟩
theorem tw3085989167550347404:True:=⟨⟩
theorem tw125750467370790151:True:=⟨⟩
theorem tw8499821914846290035:True:=⟨⟩
theorem tw8997579560020130500:True:=⟨⟩
theorem tw3347622322777740934:True:=⟨⟩
theorem tw9928755989354325142:True:=⟨⟩
theorem tw6296492168458924399:True:=⟨⟩
theorem tw15123821811902765694:True:=⟨⟩
theorem tw16518406943579443519:True:=⟨⟩
theorem tw15263400459251609405:True:=⟨⟩
theorem tw18316843696859615020:True:=⟨⟩
theorem tw2830216507152369982:True:=⟨⟩
theorem tw16387268211668562753:True:=⟨⟩
theorem tw3564599612707628438:True:=⟨⟩
theorem tw13574493935058171843:True:=⟨⟩
theorem tw10723172928605764268:True:=⟨⟩
theorem tw2680461333639156641:True:=⟨⟩
theorem tw3184021449779663400:True:=⟨⟩
theorem tw6785462940488460225:True:=⟨⟩
theorem tw11038896806918512982:True:=⟨⟩
theorem tw6561169373008453081:True:=⟨⟩
theorem tw12318601064401859663:True:=⟨⟩
theorem tw12241916897958865869:True:=⟨⟩
theorem tw18157093514819626016:True:=⟨⟩
theorem tw15996643374530895190:True:=⟨⟩
theorem tw4708470702130345782:True:=⟨⟩
theorem tw6915866651338683852:True:=⟨⟩
theorem tw18241324634158857689:True:=⟨⟩
theorem tw10270901319163024873:True:=⟨⟩
theorem tw9551657090070251083:True:=⟨⟩
theorem tw12997483563564791021:True:=⟨⟩
theorem tw664559755039143340:True:=⟨⟩
theorem tw16527489744205757327:True:=⟨⟩
theorem tw10457656395958082064:True:=⟨⟩
theorem tw5840569915530483885:True:=⟨⟩
theorem tw12814459503550666851:True:=⟨⟩
theorem tw11457728043784951141:True:=⟨⟩
theorem tw8288188575087106681:True:=⟨⟩
theorem tw2301527450043765613:True:=⟨⟩
theorem tw2188820739953667782:True:=⟨⟩
theorem tw11835050801888934343:True:=⟨⟩
theorem tw14950874632462715778:True:=⟨⟩
theorem tw2241732308352637988:True:=⟨⟩
theorem tw5019868554377902914:True:=⟨⟩
theorem tw360090271248834588:True:=⟨⟩
theorem tw2159900291668144473:True:=⟨⟩
theorem tw3480877794620344141:True:=⟨⟩
theorem tw5150632228447906919:True:=⟨⟩
theorem tw16957412805108620568:True:=⟨⟩
theorem tw15168446187574339828:True:=⟨⟩
theorem tw6182340811614158217:True:=⟨⟩
theorem tw2617969851465763854:True:=⟨⟩
theorem tw17213707314287986729:True:=⟨⟩
theorem tw5503347096155786133:True:=⟨⟩
theorem tw4361383169426998034:True:=⟨⟩
theorem tw7450193136005740696:True:=⟨⟩
theorem tw3057804082540643967:True:=⟨⟩
theorem tw14672512667818074651:True:=⟨⟩
theorem tw10006329684579341127:True:=⟨⟩
theorem tw6117534152558883650:True:=⟨⟩
theorem tw4209777886264041620:True:=⟨⟩
theorem tw11696804837930638314:True:=⟨⟩
theorem tw16113430007781845295:True:=⟨⟩
theorem tw3404121269143759664:True:=⟨⟩
theorem tw3468366424245398255:True:=⟨⟩
theorem tw1702234620970993272:True:=⟨⟩
theorem tw4625074966149834226:True:=⟨⟩
theorem tw3872563479130608601:True:=⟨⟩
theorem tw12719736689216182054:True:=⟨⟩
theorem tw8946800710136903183:True:=⟨⟩
theorem tw3168843052662282601:True:=⟨⟩
theorem tw2717160175901974808:True:=⟨⟩
theorem tw8489045316583326000:True:=⟨⟩
theorem tw15836120665126692807:True:=⟨⟩
theorem tw11121026705699861910:True:=⟨⟩
theorem tw11543813879791491508:True:=⟨⟩
theorem tw5445088729858337736:True:=⟨⟩
theorem tw9703723767394428233:True:=⟨⟩
theorem tw2103959682758191553:True:=⟨⟩
theorem tw4520725723128798999:True:=⟨⟩
theorem tw10203291002309849971:True:=⟨⟩
theorem tw16909763837747452728:True:=⟨⟩
theorem tw4848110875586324115:True:=⟨⟩
theorem tw12577548642969849546:True:=⟨⟩
theorem tw10794745400117631168:True:=⟨⟩
theorem tw13753182837558085165:True:=⟨⟩
theorem tw6446242234472249297:True:=⟨⟩
theorem tw14422647997171407854:True:=⟨⟩
theorem tw8652569775108947754:True:=⟨⟩
theorem tw6780457912908930530:True:=⟨⟩
theorem tw8308318265483978398:True:=⟨⟩
theorem tw16423520685511809028:True:=⟨⟩
theorem tw6990116135466115951:True:=⟨⟩
theorem tw13497897973225696434:True:=⟨⟩
theorem tw1805616595214205738:True:=⟨⟩
theorem tw255727104353814248:True:=⟨⟩
theorem tw539769794453679545:True:=⟨⟩
theorem tw3199861938449492242:True:=⟨⟩
theorem tw3470793884978523:True:=⟨⟩
theorem tw7923757653700614247:True:=⟨⟩
theorem tw6876195525832070349:True:=⟨⟩
theorem tw10304693695698936762:True:=⟨⟩
theorem tw3715182945570718157:True:=⟨⟩
theorem tw5817110079040157775:True:=⟨⟩
theorem tw16357626685805234016:True:=⟨⟩
theorem tw12235521563683457705:True:=⟨⟩
theorem tw6342965281007217442:True:=⟨⟩
theorem tw11093201848049081586:True:=⟨⟩
theorem tw8353168679535134475:True:=⟨⟩
theorem tw13468518626717673444:True:=⟨⟩
theorem tw3571641107400536952:True:=⟨⟩
theorem tw15457544081375469125:True:=⟨⟩
theorem tw4378724478269441866:True:=⟨⟩
theorem tw17092821023873006720:True:=⟨⟩
theorem tw5569126328460642070:True:=⟨⟩
theorem tw6280389943859265452:True:=⟨⟩
theorem tw238793680879723786:True:=⟨⟩
theorem tw12239992064492706727:True:=⟨⟩
theorem tw13446642457316658681:True:=⟨⟩
theorem tw5486243024329970291:True:=⟨⟩
theorem tw13547810517900567914:True:=⟨⟩
theorem tw3397868135054517749:True:=⟨⟩
theorem tw16831664715445575749:True:=⟨⟩
theorem tw6542526839360866786:True:=⟨⟩
theorem tw5191075600883360718:True:=⟨⟩
theorem tw9514677066022653358:True:=⟨⟩
theorem tw7444098506145895889:True:=⟨⟩
theorem tw4323808231668244475:True:=⟨⟩
theorem tw4886188199799971581:True:=⟨⟩
theorem tw1034678623408775854:True:=⟨⟩
theorem tw16523469263219511659:True:=⟨⟩
theorem tw7249827423619363183:True:=⟨⟩
theorem tw14910326002944656205:True:=⟨⟩
theorem tw15904781455708868356:True:=⟨⟩
theorem tw5150433058120251812:True:=⟨⟩
theorem tw17791546349475102395:True:=⟨⟩
theorem tw12598026146891776296:True:=⟨⟩
theorem tw199668246743265233:True:=⟨⟩
theorem tw12592795984608446577:True:=⟨⟩
theorem tw9325873542250867864:True:=⟨⟩
theorem tw15358205604373829894:True:=⟨⟩
theorem tw16329097808449545697:True:=⟨⟩
theorem tw9870955349917671658:True:=⟨⟩
theorem tw12181933008268974217:True:=⟨⟩
theorem tw87227214267507491:True:=⟨⟩
theorem tw1745363276349586610:True:=⟨⟩
theorem tw4696495293961960858:True:=⟨⟩
theorem tw14227996421081021576:True:=⟨⟩
theorem tw6305691785832771386:True:=⟨⟩
theorem tw6392304845517010198:True:=⟨⟩
theorem tw17888451102783414134:True:=⟨⟩
theorem tw7600561940290479334:True:=⟨⟩
theorem tw14636046615974132288:True:=⟨⟩
theorem tw10580903083925115325:True:=⟨⟩
theorem tw13662854356062244097:True:=⟨⟩
theorem tw15143357794633960583:True:=⟨⟩
theorem tw11580054791693779200:True:=⟨⟩
theorem tw3185406302514818127:True:=⟨⟩
theorem tw13820024952983388607:True:=⟨⟩
theorem tw17385994578971630029:True:=⟨⟩
theorem tw13955160259997747296:True:=⟨⟩
theorem tw513740040585550038:True:=⟨⟩
theorem tw5100333912786448379:True:=⟨⟩
theorem tw13869889918788322989:True:=⟨⟩
theorem tw12378038598986351867:True:=⟨⟩
theorem tw1462725015246303223:True:=⟨⟩
theorem tw13249079966426039382:True:=⟨⟩
theorem tw362106113723011329:True:=⟨⟩
theorem tw13979921188648240097:True:=⟨⟩
theorem tw14220480001929300907:True:=⟨⟩
theorem tw9791260521028331711:True:=⟨⟩
theorem tw7852036520953665308:True:=⟨⟩
theorem tw11171479105684364321:True:=⟨⟩
theorem tw12285888673014849087:True:=⟨⟩
theorem tw13562375650819810722:True:=⟨⟩
theorem tw3915034775166951513:True:=⟨⟩
theorem tw11107649634687658985:True:=⟨⟩
theorem tw10198469586599719690:True:=⟨⟩
theorem tw4368763018510903169:True:=⟨⟩
theorem tw833059386335977327:True:=⟨⟩
theorem tw17012947655481356751:True:=⟨⟩
theorem tw18073139478151216102:True:=⟨⟩
theorem tw6568384596414061595:True:=⟨⟩
theorem tw14424098158855415754:True:=⟨⟩
theorem tw18038511438261997315:True:=⟨⟩
theorem tw8104692714785998982:True:=⟨⟩
theorem tw14453759021440827813:True:=⟨⟩
theorem tw9164079846037738141:True:=⟨⟩
theorem tw960354897706395256:True:=⟨⟩
theorem tw10270384894926855404:True:=⟨⟩
theorem tw7835960458447946038:True:=⟨⟩
theorem tw745991667533585677:True:=⟨⟩
theorem tw12690888112189074471:True:=⟨⟩
theorem tw6908140740589107489:True:=⟨⟩
theorem tw9645530490785950571:True:=⟨⟩
theorem tw6925713999171103160:True:=⟨⟩
theorem tw10099837087823847645:True:=⟨⟩
theorem tw5246488858016150133:True:=⟨⟩
theorem tw7131540761041752452:True:=⟨⟩
theorem tw15083331489344810557:True:=⟨⟩
theorem tw15158120678380098865:True:=⟨⟩
theorem tw3140719568034442188:True:=⟨⟩
theorem tw12557703059361917589:True:=⟨⟩
theorem tw4635889369950572479:True:=⟨⟩
theorem tw12575800702759686192:True:=⟨⟩
theorem tw16405270460131894132:True:=⟨⟩
theorem tw11567175110104117898:True:=⟨⟩
theorem tw6172991959221860220:True:=⟨⟩
theorem tw14710740521266910714:True:=⟨⟩
theorem tw17909241673755555486:True:=⟨⟩
theorem tw14438347220686779097:True:=⟨⟩
theorem tw4723871271742882569:True:=⟨⟩
theorem tw1695878802756022545:True:=⟨⟩
theorem tw3770597675799582872:True:=⟨⟩
theorem tw1552082228571871367:True:=⟨⟩
theorem tw6365193123826997038:True:=⟨⟩
theorem tw14813754102745876664:True:=⟨⟩
theorem tw4137518571678550683:True:=⟨⟩
theorem tw15741185658109485838:True:=⟨⟩
theorem tw1382359874971016893:True:=⟨⟩
theorem tw11014824840036430718:True:=⟨⟩
theorem tw6594287399983758637:True:=⟨⟩
theorem tw17722468719764874466:True:=⟨⟩
theorem tw10330687811437224302:True:=⟨⟩
theorem tw10057433264351271909:True:=⟨⟩
theorem tw8438909717894912746:True:=⟨⟩
theorem tw7650103676850620410:True:=⟨⟩
theorem tw5251311126413749014:True:=⟨⟩
theorem tw13675756908857331458:True:=⟨⟩
theorem tw17403324507734471064:True:=⟨⟩
theorem tw916359770459409436:True:=⟨⟩
theorem tw13906437701322737204:True:=⟨⟩
theorem tw8355387699466966029:True:=⟨⟩
theorem tw7382775136747321325:True:=⟨⟩
theorem tw11423692874399694547:True:=⟨⟩
theorem tw14015518458813628749:True:=⟨⟩
theorem tw2631718942346423163:True:=⟨⟩
theorem tw6130856890916106007:True:=⟨⟩
theorem tw5647886401965619230:True:=⟨⟩
theorem tw1969897554485611795:True:=⟨⟩
theorem tw1398735672572097057:True:=⟨⟩
theorem tw16440519549750375844:True:=⟨⟩
theorem tw13898740410969381627:True:=⟨⟩
theorem tw12175700609507233223:True:=⟨⟩
theorem tw14346160437175417560:True:=⟨⟩
theorem tw4035746806409431925:True:=⟨⟩
theorem tw17102353304108974828:True:=⟨⟩
theorem tw9087436862445177021:True:=⟨⟩
theorem tw8146231799592889936:True:=⟨⟩
theorem tw11100387455096460173:True:=⟨⟩
theorem tw17113978756328927001:True:=⟨⟩
theorem tw2096257526665174987:True:=⟨⟩
theorem tw17211461706795082447:True:=⟨⟩
theorem tw10864498384346206031:True:=⟨⟩
theorem tw4382224971264369319:True:=⟨⟩
theorem tw10102974022485668382:True:=⟨⟩
theorem tw14350755603129642017:True:=⟨⟩
theorem tw428901250894462663:True:=⟨⟩
theorem tw11777633012895061549:True:=⟨⟩
theorem tw14200018780419416406:True:=⟨⟩
theorem tw9789931292989186849:True:=⟨⟩
theorem tw9127749061429715954:True:=⟨⟩
theorem tw10651628116290241427:True:=⟨⟩
theorem tw15003008511594968326:True:=⟨⟩
theorem tw13254596968913428499:True:=⟨⟩
theorem tw13091859523949887781:True:=⟨⟩
theorem tw448060824778807238:True:=⟨⟩
theorem tw3312802366481033298:True:=⟨⟩
theorem tw17352582878826863037:True:=⟨⟩
theorem tw11140421421871582736:True:=⟨⟩
theorem tw5141732390215024203:True:=⟨⟩
theorem tw12105049359220233583:True:=⟨⟩
theorem tw15526754338572995138:True:=⟨⟩
theorem tw15845002420290215436:True:=⟨⟩
theorem tw4597990011265175570:True:=⟨⟩
theorem tw8241026419279160201:True:=⟨⟩
theorem tw8346032249978816418:True:=⟨⟩
theorem tw10567753192334662944:True:=⟨⟩
theorem tw1595840827414261863:True:=⟨⟩
theorem tw14293618784572794893:True:=⟨⟩
theorem tw3584504297219130320:True:=⟨⟩
theorem tw17515812920101544148:True:=⟨⟩
theorem tw15191540709536833689:True:=⟨⟩
theorem tw4220576679909449788:True:=⟨⟩
theorem tw6550003918872141979:True:=⟨⟩
theorem tw16015856813636253886:True:=⟨⟩
theorem tw2838019759132956268:True:=⟨⟩
theorem tw3949186828792874929:True:=⟨⟩
theorem tw17969354846271583037:True:=⟨⟩
theorem tw14955952458220006997:True:=⟨⟩
theorem tw10031969871260262309:True:=⟨⟩
theorem tw8427438071335969073:True:=⟨⟩
theorem tw3200492349041123806:True:=⟨⟩
theorem tw1998220468136975816:True:=⟨⟩
theorem tw12324378018797735603:True:=⟨⟩
theorem tw17903681038298067828:True:=⟨⟩
theorem tw6057821583132037917:True:=⟨⟩
theorem tw13738129309760014544:True:=⟨⟩
theorem tw12722628850024061934:True:=⟨⟩
theorem tw13017100378804670394:True:=⟨⟩
theorem tw1168304951653863624:True:=⟨⟩
theorem tw872533456852641373:True:=⟨⟩
theorem tw7904680659164716439:True:=⟨⟩
theorem tw11969041067897115414:True:=⟨⟩
theorem tw1378924205733287423:True:=⟨⟩
theorem tw14099153857555464218:True:=⟨⟩
theorem tw1452401962716639521:True:=⟨⟩
theorem tw7947955113480874388:True:=⟨⟩
theorem tw10213882736864822381:True:=⟨⟩
theorem tw9483604673526823303:True:=⟨⟩
theorem tw10712300513695089758:True:=⟨⟩
theorem tw8493276707745642128:True:=⟨⟩
theorem tw3492621221253237148:True:=⟨⟩
theorem tw94150726881863462:True:=⟨⟩
theorem tw6400043113499210597:True:=⟨⟩
theorem tw11909978212046692242:True:=⟨⟩
theorem tw10080210697183106199:True:=⟨⟩
theorem tw8836888033619079554:True:=⟨⟩
theorem tw3019419758565873252:True:=⟨⟩
theorem tw15980737960968814685:True:=⟨⟩
theorem tw5348282007809422931:True:=⟨⟩
theorem tw15434259700033857448:True:=⟨⟩
theorem tw6046585307415685190:True:=⟨⟩
theorem tw10614613774337524246:True:=⟨⟩
theorem tw16273731855402206491:True:=⟨⟩
theorem tw12160068226678051794:True:=⟨⟩
theorem tw16640412556619499370:True:=⟨⟩
theorem tw1989579202749505324:True:=⟨⟩
theorem tw8575454712179926479:True:=⟨⟩
theorem tw8136550812070695431:True:=⟨⟩
theorem tw14593460336441331775:True:=⟨⟩
theorem tw10317520704158365648:True:=⟨⟩
theorem tw8700724503383482630:True:=⟨⟩
theorem tw1171261564976992997:True:=⟨⟩
theorem tw7744228743823714496:True:=⟨⟩
theorem tw2627593548680385921:True:=⟨⟩
theorem tw7140786049213032389:True:=⟨⟩
theorem tw4548309589235225295:True:=⟨⟩
theorem tw11294073272357060226:True:=⟨⟩
theorem tw631907045012168482:True:=⟨⟩
theorem tw14134765339809911653:True:=⟨⟩
theorem tw7091454373686816886:True:=⟨⟩
theorem tw6844318825889129888:True:=⟨⟩
theorem tw3142884054489647027:True:=⟨⟩
theorem tw10548866324916114950:True:=⟨⟩
theorem tw10323934033179684568:True:=⟨⟩
theorem tw14763449227239815876:True:=⟨⟩
theorem tw12927111110340562793:True:=⟨⟩
theorem tw5793466915634988360:True:=⟨⟩
theorem tw9083066682803932848:True:=⟨⟩
theorem tw3199400032368071826:True:=⟨⟩
theorem tw11030613766044164607:True:=⟨⟩
theorem tw16078103421929359987:True:=⟨⟩
theorem tw11008473600810413217:True:=⟨⟩
theorem tw12119098122227411470:True:=⟨⟩
theorem tw15392049864166622462:True:=⟨⟩
theorem tw16838741475391235484:True:=⟨⟩
theorem tw4246207128685157271:True:=⟨⟩
theorem tw1613570124517988811:True:=⟨⟩
theorem tw1064895407569559536:True:=⟨⟩
theorem tw3839056428392043833:True:=⟨⟩
theorem tw17234036565581815542:True:=⟨⟩
theorem tw18233512479192816516:True:=⟨⟩
theorem tw1536033460793249186:True:=⟨⟩
theorem tw10140887568720697173:True:=⟨⟩
theorem tw10345260945889398575:True:=⟨⟩
theorem tw11796665562997906746:True:=⟨⟩
theorem tw17389373525917869702:True:=⟨⟩
theorem tw16206203867992297573:True:=⟨⟩
theorem tw16637492646721328069:True:=⟨⟩
theorem tw15638606622473254362:True:=⟨⟩
theorem tw11323192142603980442:True:=⟨⟩
theorem tw5805129302954978129:True:=⟨⟩
theorem tw17886148661039144774:True:=⟨⟩
theorem tw13873461206508908160:True:=⟨⟩
theorem tw7642296890676961930:True:=⟨⟩
theorem tw13786373871381385676:True:=⟨⟩
theorem tw10195404966939586208:True:=⟨⟩
theorem tw11609014075253601265:True:=⟨⟩
theorem tw6369075456033705574:True:=⟨⟩
theorem tw7676901694945286931:True:=⟨⟩
theorem tw3023206377786586341:True:=⟨⟩
theorem tw7826304772545673586:True:=⟨⟩
theorem tw4622688237929016992:True:=⟨⟩
theorem tw8683567815088731021:True:=⟨⟩
theorem tw12953433450954611769:True:=⟨⟩
theorem tw4199343240267858777:True:=⟨⟩
theorem tw10404167128515903277:True:=⟨⟩
theorem tw18259484315710959287:True:=⟨⟩
theorem tw11006739496822314896:True:=⟨⟩
theorem tw6852282719095455988:True:=⟨⟩
theorem tw12345445515155394079:True:=⟨⟩
theorem tw15886124840453038936:True:=⟨⟩
theorem tw10436216398851825118:True:=⟨⟩
theorem tw8747873092885391518:True:=⟨⟩
theorem tw15828681229764251955:True:=⟨⟩
theorem tw4877533728182658312:True:=⟨⟩
theorem tw13909666768805238043:True:=⟨⟩
theorem tw6439170010566356920:True:=⟨⟩
theorem tw7862396027629221455:True:=⟨⟩
theorem tw9656326175485839864:True:=⟨⟩
theorem tw7453575302808297263:True:=⟨⟩
theorem tw2355226402541805117:True:=⟨⟩
theorem tw462860153590671179:True:=⟨⟩
theorem tw5747734411199385308:True:=⟨⟩
theorem tw9815734494877971380:True:=⟨⟩
theorem tw9910717198394405444:True:=⟨⟩
theorem tw10615743363327552547:True:=⟨⟩
theorem tw7971335687696295748:True:=⟨⟩
end PySem.W.Fast
open PySem PySem.W PyProof.Rows
set_option maxRecDepth 100000 in
set_option maxHeartbeats 0 in
theorem PySem.Challenge.cw_jettison_k19_casts_mix_shares_holds : PySem.Challenge.rw_jettison_k19_casts_mix_shares.Holds := by
 w_on;o_law;k_head;(case hw=>w_witness2)
 k_fill
 refine Mv.walk (l:=PySem.Challenge.rw_jettison_k19_casts_mix_shares) rfl rfl (fun w h Y=>PySem.W.kIn_of Y) ?F
 case F=>
  intro w mg fa h KX G hmg
  refine' Mv.all_mk KX G hmg ?a ?l1 ?c ?k ?d_common_factor ?d_made_of ?d_is_name ?d_check_amount ?d_check_loss ?d_amounts_of ?d_factor_of_all ?d__law_draw ?d__law_name ?d__law_names ?d__law_model ?d__law_much ?d__law_seat ?d__law_new_part ?d__law_loads ?d__law_rows ?d__law_at ?d__law_bear ?d__law_model_cast ?d__law_cast_now ?d__law_int ?d__law_part_list ?d__law_least ?d__law_is ?d__law_share_list ?d__law_tells_parts ?d__law_tells_landed ?d__law_tells ?d__law_begin ?z_len ?z_range ?z_sum ?z_list ?z_zip ?z_all ?z_int ?z_bool ?z_str ?z_tuple ?z_abs ?z_isinstance ?z_min ?b_LETTERS ?aC_Hold ?pg_Hold ?hd_Hold ?po_Hold ?sa_Hold ?mk_Hold ?kc_Hold ?d_Hold_init ?d_Hold_place_of ?d_Hold_part_of ?d_Hold_check_new ?d_Hold_roster ?d_Hold_parts ?d_Hold_whole ?d_Hold_beyond_common ?d_Hold_tops_of ?d_Hold_stow ?d_Hold_sign ?d_Hold_load ?d_Hold_shares ?d_Hold_landed ?d_Hold_given_up ?d_Hold_lessen ?d_Hold_blend ?d_Hold_cast ?n_Hold_places ?n_Hold_aboard ?n_Hold_ashore ?n_Hold_names ?n_Hold_bottom ?n_Hold_common ?n_Hold_purses ?aC_Part ?pg_Part ?hd_Part ?po_Part ?sa_Part ?mk_Part ?kc_Part ?d_Part_init ?n_Part_name ?n_Part_owner ?n_Part_worth ?n_Part_weight ?n_Part_scale ?n_Part_row ?aC_Bottom ?pg_Bottom ?hd_Bottom ?po_Bottom ?sa_Bottom ?mk_Bottom ?kc_Bottom ?d_Bottom_init ?d_Bottom_over ?d_Bottom_share ?d_Bottom_grow ?n_Bottom_steps ?n_Bottom_product ?n_Bottom_known
  (case a=>k_is)
  (case l1=>k_is)
  (case c=>k_is)
  (case k=>k_is)
  (case d_common_factor=>refine' L2.aV.of ?a ?l ?c ?k;(case a=>k_is);(case l=>k_is);(case c=>k_is);(case k=>k_is))
  (case d_made_of=>refine' L2.aV.of ?a ?l ?c ?k;(case a=>k_is);(case l=>k_is);(case c=>k_is);(case k=>k_is))
  (case d_is_name=>refine' L2.aV.of ?a ?l ?c ?k;(case a=>k_is);(case l=>k_is);(case c=>k_is);(case k=>k_is))
  (case d_check_amount=>refine' L2.aV.of ?a ?l ?c ?k;(case a=>k_is);(case l=>k_is);(case c=>k_is);(case k=>k_is))
  (case d_check_loss=>refine' L2.aV.of ?a ?l ?c ?k;(case a=>k_is);(case l=>k_is);(case c=>k_is);(case k=>k_is))
  (case d_amounts_of=>refine' L2.aV.of ?a ?l ?c ?k;(case a=>k_is);(case l=>k_is);(case c=>k_is);(case k=>k_is))
  (case d_factor_of_all=>refine' L2.aV.of ?a ?l ?c ?k;(case a=>k_is);(case l=>k_is);(case c=>k_is);(case k=>k_is))
  (case d__law_draw=>refine' L2.aV.of ?a ?l ?c ?k;(case a=>k_is);(case l=>k_is);(case c=>k_is);(case k=>k_is))
  (case d__law_name=>refine' L2.aV.of ?a ?l ?c ?k;(case a=>k_is);(case l=>k_is);(case c=>k_is);(case k=>k_is))
  (case d__law_names=>refine' L2.aV.of ?a ?l ?c ?k;(case a=>k_is);(case l=>k_is);(case c=>k_is);(case k=>k_is))
  (case d__law_model=>refine' L2.aV.of ?a ?l ?c ?k;(case a=>k_is);(case l=>k_is);(case c=>k_is);(case k=>k_is))
  (case d__law_much=>refine' L2.aV.of ?a ?l ?c ?k;(case a=>k_is);(case l=>k_is);(case c=>k_is);(case k=>k_is))
  (case d__law_seat=>refine' L2.aV.of ?a ?l ?c ?k;(case a=>k_is);(case l=>k_is);(case c=>k_is);(case k=>k_is))
  (case d__law_new_part=>refine' L2.aV.of ?a ?l ?c ?k;(case a=>k_is);(case l=>k_is);(case c=>k_is);(case k=>k_is))
  (case d__law_loads=>refine' L2.aV.of ?a ?l ?c ?k;(case a=>k_is);(case l=>k_is);(case c=>k_is);(case k=>k_is))
  (case d__law_rows=>refine' L2.aV.of ?a ?l ?c ?k;(case a=>k_is);(case l=>k_is);(case c=>k_is);(case k=>k_is))
  (case d__law_at=>refine' L2.aV.of ?a ?l ?c ?k;(case a=>k_is);(case l=>k_is);(case c=>k_is);(case k=>k_is))
  (case d__law_bear=>refine' L2.aV.of ?a ?l ?c ?k;(case a=>k_is);(case l=>k_is);(case c=>k_is);(case k=>k_is))
  (case d__law_model_cast=>refine' L2.aV.of ?a ?l ?c ?k;(case a=>k_is);(case l=>k_is);(case c=>k_is);(case k=>k_is))
  (case d__law_cast_now=>refine' L2.aV.of ?a ?l ?c ?k;(case a=>k_is);(case l=>k_is);(case c=>k_is);(case k=>k_is))
  (case d__law_int=>refine' L2.aV.of ?a ?l ?c ?k;(case a=>k_is);(case l=>k_is);(case c=>k_is);(case k=>k_is))
  (case d__law_part_list=>refine' L2.aV.of ?a ?l ?c ?k;(case a=>k_is);(case l=>k_is);(case c=>k_is);(case k=>k_is))
  (case d__law_least=>refine' L2.aV.of ?a ?l ?c ?k;(case a=>k_is);(case l=>k_is);(case c=>k_is);(case k=>k_is))
  (case d__law_is=>refine' L2.aV.of ?a ?l ?c ?k;(case a=>k_is);(case l=>k_is);(case c=>k_is);(case k=>k_is))
  (case d__law_share_list=>refine' L2.aV.of ?a ?l ?c ?k;(case a=>k_is);(case l=>k_is);(case c=>k_is);(case k=>k_is))
  (case d__law_tells_parts=>refine' L2.aV.of ?a ?l ?c ?k;(case a=>k_is);(case l=>k_is);(case c=>k_is);(case k=>k_is))
  (case d__law_tells_landed=>refine' L2.aV.of ?a ?l ?c ?k;(case a=>k_is);(case l=>k_is);(case c=>k_is);(case k=>k_is))
  (case d__law_tells=>refine' L2.aV.of ?a ?l ?c ?k;(case a=>k_is);(case l=>k_is);(case c=>k_is);(case k=>k_is))
  (case d__law_begin=>refine' L2.aV.of ?a ?l ?c ?k;(case a=>k_is);(case l=>k_is);(case c=>k_is);(case k=>k_is))
  (case z_len=>k_is)
  (case z_range=>k_is)
  (case z_sum=>k_is)
  (case z_list=>k_is)
  (case z_zip=>k_is)
  (case z_all=>k_is)
  (case z_int=>k_is)
  (case z_bool=>k_is)
  (case z_str=>k_is)
  (case z_tuple=>k_is)
  (case z_abs=>k_is)
  (case z_isinstance=>k_is)
  (case z_min=>k_is)
  (case b_LETTERS=>k_is)
  (case aC_Hold=>k_is)
  (case pg_Hold=>k_is)
  (case hd_Hold=>k_is)
  (case po_Hold=>k_is)
  (case sa_Hold=>k_is)
  (case mk_Hold=>k_is)
  (case kc_Hold=>k_is)
  (case d_Hold_init=>refine' L2.bq.of ?a ?i ?l ?c ?k;(case a=>k_is);(case i=>k_is);(case l=>k_is);(case c=>k_is);(case k=>k_is))
  (case d_Hold_place_of=>refine' L2.bq.of ?a ?i ?l ?c ?k;(case a=>k_is);(case i=>k_is);(case l=>k_is);(case c=>k_is);(case k=>k_is))
  (case d_Hold_part_of=>refine' L2.bq.of ?a ?i ?l ?c ?k;(case a=>k_is);(case i=>k_is);(case l=>k_is);(case c=>k_is);(case k=>k_is))
  (case d_Hold_check_new=>refine' L2.bq.of ?a ?i ?l ?c ?k;(case a=>k_is);(case i=>k_is);(case l=>k_is);(case c=>k_is);(case k=>k_is))
  (case d_Hold_roster=>refine' L2.bq.of ?a ?i ?l ?c ?k;(case a=>k_is);(case i=>k_is);(case l=>k_is);(case c=>k_is);(case k=>k_is))
  (case d_Hold_parts=>refine' L2.bq.of ?a ?i ?l ?c ?k;(case a=>k_is);(case i=>k_is);(case l=>k_is);(case c=>k_is);(case k=>k_is))
  (case d_Hold_whole=>refine' L2.bq.of ?a ?i ?l ?c ?k;(case a=>k_is);(case i=>k_is);(case l=>k_is);(case c=>k_is);(case k=>k_is))
  (case d_Hold_beyond_common=>refine' L2.bq.of ?a ?i ?l ?c ?k;(case a=>k_is);(case i=>k_is);(case l=>k_is);(case c=>k_is);(case k=>k_is))
  (case d_Hold_tops_of=>refine' L2.bq.of ?a ?i ?l ?c ?k;(case a=>k_is);(case i=>k_is);(case l=>k_is);(case c=>k_is);(case k=>k_is))
  (case d_Hold_stow=>refine' L2.bq.of ?a ?i ?l ?c ?k;(case a=>k_is);(case i=>k_is);(case l=>k_is);(case c=>k_is);(case k=>k_is))
  (case d_Hold_sign=>refine' L2.bq.of ?a ?i ?l ?c ?k;(case a=>k_is);(case i=>k_is);(case l=>k_is);(case c=>k_is);(case k=>k_is))
  (case d_Hold_load=>refine' L2.bq.of ?a ?i ?l ?c ?k;(case a=>k_is);(case i=>k_is);(case l=>k_is);(case c=>k_is);(case k=>k_is))
  (case d_Hold_shares=>refine' L2.bq.of ?a ?i ?l ?c ?k;(case a=>k_is);(case i=>k_is);(case l=>k_is);(case c=>k_is);(case k=>k_is))
  (case d_Hold_landed=>refine' L2.bq.of ?a ?i ?l ?c ?k;(case a=>k_is);(case i=>k_is);(case l=>k_is);(case c=>k_is);(case k=>k_is))
  (case d_Hold_given_up=>refine' L2.bq.of ?a ?i ?l ?c ?k;(case a=>k_is);(case i=>k_is);(case l=>k_is);(case c=>k_is);(case k=>k_is))
  (case d_Hold_lessen=>refine' L2.bq.of ?a ?i ?l ?c ?k;(case a=>k_is);(case i=>k_is);(case l=>k_is);(case c=>k_is);(case k=>k_is))
  (case d_Hold_blend=>refine' L2.bq.of ?a ?i ?l ?c ?k;(case a=>k_is);(case i=>k_is);(case l=>k_is);(case c=>k_is);(case k=>k_is))
  (case d_Hold_cast=>refine' L2.bq.of ?a ?i ?l ?c ?k;(case a=>k_is);(case i=>k_is);(case l=>k_is);(case c=>k_is);(case k=>k_is))
  (case n_Hold_places=>k_is)
  (case n_Hold_aboard=>k_is)
  (case n_Hold_ashore=>k_is)
  (case n_Hold_names=>k_is)
  (case n_Hold_bottom=>k_is)
  (case n_Hold_common=>k_is)
  (case n_Hold_purses=>k_is)
  (case aC_Part=>k_is)
  (case pg_Part=>k_is)
  (case hd_Part=>k_is)
  (case po_Part=>k_is)
  (case sa_Part=>k_is)
  (case mk_Part=>k_is)
  (case kc_Part=>k_is)
  (case d_Part_init=>refine' L2.bq.of ?a ?i ?l ?c ?k;(case a=>k_is);(case i=>k_is);(case l=>k_is);(case c=>k_is);(case k=>k_is))
  (case n_Part_name=>k_is)
  (case n_Part_owner=>k_is)
  (case n_Part_worth=>k_is)
  (case n_Part_weight=>k_is)
  (case n_Part_scale=>k_is)
  (case n_Part_row=>k_is)
  (case aC_Bottom=>k_is)
  (case pg_Bottom=>k_is)
  (case hd_Bottom=>k_is)
  (case po_Bottom=>k_is)
  (case sa_Bottom=>k_is)
  (case mk_Bottom=>k_is)
  (case kc_Bottom=>k_is)
  (case d_Bottom_init=>refine' L2.bq.of ?a ?i ?l ?c ?k;(case a=>k_is);(case i=>k_is);(case l=>k_is);(case c=>k_is);(case k=>k_is))
  (case d_Bottom_over=>refine' L2.bq.of ?a ?i ?l ?c ?k;(case a=>k_is);(case i=>k_is);(case l=>k_is);(case c=>k_is);(case k=>k_is))
  (case d_Bottom_share=>refine' L2.bq.of ?a ?i ?l ?c ?k;(case a=>k_is);(case i=>k_is);(case l=>k_is);(case c=>k_is);(case k=>k_is))
  (case d_Bottom_grow=>refine' L2.bq.of ?a ?i ?l ?c ?k;(case a=>k_is);(case i=>k_is);(case l=>k_is);(case c=>k_is);(case k=>k_is))
  (case n_Bottom_steps=>k_is)
  (case n_Bottom_product=>k_is)
  (case n_Bottom_known=>k_is)
