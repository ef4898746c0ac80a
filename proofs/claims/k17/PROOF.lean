import PyProof.Rows.All
import Wide.All
import OpenK.AllK
import Wide.FinOn
import Lean
import PyProof.EqAt
import PyProof.EqKinds
import PyProof.TupleCall
import PySem.Challenge.RW_jettison_k17_loads_refused
set_option Elab.async false
set_option linter.all false
set_option maxRecDepth 100000
set_option Elab.async false
set_option linter.all false
set_option maxRecDepth 100000
namespace L2
open PySem PySem.Spec PyProof.Rows
abbrev Key:=Sum Int Str
def nH:Key→Value→Bool
 | .inl k,v=>Value.isInt k v
 | .inr x,v=>Value.isStrOf x v
def Pr (w:World):Key→Int
 | .inl k=>hashInt k
 | .inr x=>hashStr w x
theorem cU:∀{k:Key} {v:Value},nH k v = true→(∃i t,k = Sum.inl i∧v = Value.int i t)∨(∃x t,k = Sum.inr x∧v = Value.str x t)
 | .inl i,v,h=>by
   obtain ⟨t,e⟩:=Value.isInt_shape (k:=i) (v:=v) h
   exact .inl ⟨i,t,rfl,e⟩
 | .inr x,v,h=>by
   obtain ⟨t,e⟩:=Value.isStrOf_shape (x:=x) (v:=v) h
   exact .inr ⟨x,t,rfl,e⟩
theorem D3 (i:Int) (t:Tok):nH (.inl i) (.int i t) = true:=by simp [nH,Value.isInt]
theorem D4 (x:Str) (t:Tok):nH (.inr x) (.str x t) = true:=by simp [nH,Value.isStrOf]
theorem J4 (a b:Int):decide ((Sum.inl a:Key) = Sum.inl b) = (a == b):=by
 by_cases e:a = b
 · subst e;simp
 · have h:¬ (Sum.inl a:Key) = Sum.inl b:=fun q=>e (Sum.inl.inj q)
   rw [decide_eq_false h]
   exact (beq_eq_false_iff_ne.mpr e).symm
theorem J5 (a b:Str):decide ((Sum.inr a:Key) = Sum.inr b) = decide (a = b):=by
 by_cases e:a = b
 · subst e;simp
 · have h:¬ (Sum.inr a:Key) = Sum.inr b:=fun q=>e (Sum.inr.inj q)
   rw [decide_eq_false h,decide_eq_false e]
theorem J6 (a:Int) (b:Str):decide ((Sum.inl a:Key) = Sum.inr b) = false:=decide_eq_false (fun q=>nomatch q)
theorem J7 (a:Str) (b:Int):decide ((Sum.inr a:Key) = Sum.inl b) = false:=decide_eq_false (fun q=>nomatch q)
def bL (prog:Program) (w:World):PySem.KeyKind prog w Key where
 is:=nH
 hash:=Pr w
 inj:=fun v a b ha hb=>by
  rcases cU ha with ⟨i,t,rfl,rfl⟩ | ⟨x,t,rfl,rfl⟩
  · rcases cU hb with ⟨j,u,rfl,e⟩ | ⟨y,u,rfl,e⟩
    · injection e with e1 _;rw [e1]
    · exact nomatch e
  · rcases cU hb with ⟨j,u,rfl,e⟩ | ⟨y,u,rfl,e⟩
    · exact nomatch e
    · injection e with e1 _;rw [e1]
 byValue:=fun k v h=>by
  rcases cU h with ⟨i,t,rfl,rfl⟩ | ⟨x,t,rfl,rfl⟩ <;> rfl
 pyHash:=fun hv h=>by
  rcases cU hv with ⟨i,t,rfl,rfl⟩ | ⟨x,t,rfl,rfl⟩
  · exact wpAny_pyHash_int h
  · exact wpAny_pyHash_str h
 eqBool:=fun hu hv h=>by
  rcases cU hu with ⟨i,t,rfl,rfl⟩ | ⟨x,t,rfl,rfl⟩
  · rcases cU hv with ⟨j,u,rfl,rfl⟩ | ⟨y,u,rfl,rfl⟩
    · rw [J4] at h;exact wpAny_eqBool_int h
    · rw [J6] at h;exact SeqAt.EqAt.int_str i t y u _ _ _ _ h
  · rcases cU hv with ⟨j,u,rfl,rfl⟩ | ⟨y,u,rfl,rfl⟩
    · rw [J7] at h;exact SeqAt.EqAt.str_int x t j u _ _ _ _ h
    · rw [J5] at h;exact wpAny_eqBool_str h
 «strs»:=fun k x t v h=>by
  rcases cU h with ⟨i,u,rfl,e⟩ | ⟨y,u,rfl,e⟩
  · exact nomatch e
  · injection e with e1 _
    subst e1
    cases v <;> rfl
theorem CL (prog:Program) (w:World) (k:Key) (v:Value):(bL prog w).is k v = nH k v:=rfl
theorem AU (prog:Program) (w:World) (i:Int) (t:Tok):(bL prog w).is (.inl i) (.int i t) = true:=D3 i t
theorem AV (prog:Program) (w:World) (x:Str) (t:Tok):(bL prog w).is (.inr x) (.str x t) = true:=D4 x t
end L2
namespace L2
open PySem PySem.Spec PyProof.Rows
inductive V where
 | bE | bl (b:Bool) | int (i:Int) | str (x:Str) | mR (b:Array UInt8) | wD (b:UInt64) | ref (a:Addr) | ty (n:String)
 deriving DecidableEq
def RelV:V→Value→Prop
 | .bE,u=>u = Value.none
 | .bl b,u=>u = Value.bool b
 | .int i,u=>∃t,u = Value.int i t
 | .str x,u=>∃t,u = Value.str x t
 | .mR b,u=>∃t,u = Value.bytes b t
 | .wD b,u=>∃t,u = Value.float b t
 | .ref a,u=>u = Value.ref a
 | .ty n,u=>u = Value.type n
abbrev Vals:List V→List Value→Prop:=Paired RelV
theorem Vals.length {xs:List V} {us:List Value} (r:Vals xs us):xs.length = us.length:=Paired.length r
theorem Vals.get:∀{xs:List V} {us:List Value} {i:Nat} {x:V},Vals xs us→xs[i]? = some x→∃u,us[i]? = some u∧RelV x u
 | _,_,_,_, .nil,e=>by simp at e
 | _,_,0,_, .cons r _,e=>by simp at e;subst e;exact ⟨_,rfl,r⟩
 | _,_,i + 1,x, .cons _ t,e=>by
   obtain ⟨u,h1,h2⟩:=Vals.get (i:=i) (x:=x) t (by simpa using e)
   exact ⟨u,by simpa using h1,h2⟩
theorem Vals.set {x:V} {u:Value} (r:RelV x u):∀{xs:List V} {us:List Value} (i:Nat),Vals xs us→Vals (xs.set i x) (us.set i u)
 | _,_,_, .nil=> .nil
 | _,_,0, .cons _ t=> .cons r t
 | _,_,i + 1, .cons q t=> .cons q (Vals.set r i t)
theorem Vals.append:∀{xs ys:List V} {us ws:List Value},Vals xs us→Vals ys ws→Vals (xs ++ ys) (us ++ ws)
 | _,_,_,_, .nil,s=>s
 | _,_,_,_, .cons r t,s=> .cons r (Vals.append t s)
theorem Vals.take:∀{xs:List V} {us:List Value} (n:Nat),Vals xs us→Vals (xs.take n) (us.take n)
 | _,_,0,_=> .nil
 | _,_,_ + 1, .nil=> .nil
 | _,_,n + 1, .cons r t=> .cons r (Vals.take n t)
theorem Vals.drop:∀{xs:List V} {us:List Value} (n:Nat),Vals xs us→Vals (xs.drop n) (us.drop n)
 | _,_,0,r=>r
 | _,_,_ + 1, .nil=> .nil
 | _,_,n + 1, .cons _ t=>Vals.drop n t
def gk:Option V→Option Value→Prop
 | some v,some u=>RelV v u
 | none,none=>True
 | _,_=>False
def KV {κ:Type}:List (κ × V)→List (κ × Value)→Prop:=Paired fun (p:κ × V) (q:κ × Value)=>p.1 = q.1∧RelV p.2 q.2
def kV:Key→V
 | .inl i=> .int i
 | .inr x=> .str x
inductive HO where
 | lst (xs:List V)
 | tup (xs:List V)
 | dK (kvs:List (Key × V)) | dT (kvs:List (List Key × V))
 | set (S:Int→Bool) (n:Nat)
 | ins (C dx:Addr) (fs:List (Str × V))
 | own (x:Addr)
 | xd (fs:List (Str × V))
 | met (f x:Addr)
 | HG (lo hi:Int)
 | cV (o:Obj) (u:HO)
 | wF (ps:Array Value)
 | ext (φ:Heap→Prop)
abbrev Hp:=Addr→Option HO
def upd (H:Hp) (a:Addr) (o:HO):Hp:=fun b=>if b = a then some o else H b
theorem ai {H:Hp} {a:Addr} {o:HO}:upd H a o a = some o:=by unfold upd;rw [if_pos rfl]
theorem ak {H:Hp} {a b:Addr} {o:HO} (h:b ≠ a):upd H a o b = H b:=by unfold upd;rw [if_neg h]
theorem qD {H:Hp} {a:Addr} {o u:HO}:upd (upd H a o) a u = upd H a u:=by
 funext b;unfold upd;split <;> rfl
theorem e8 {H:Hp} {a b:Addr} {o u:HO} (h:H a = some o) (h':H b = some u) (d:o ≠ u):a ≠ b:=by
 intro e;subst e;rw [h] at h';exact d (Option.some.inj h')
theorem aA {H:Hp} {a b:Addr} {o:HO} (h:H a = some o) (h':H b = none):a ≠ b:=by
 intro e;subst e;rw [h] at h';cases h'
section
variable (P:Program) (w:World)
def bT (H:Hp) (h:Heap) (a:Addr):HO→Prop
 | .lst xs=>xs.length≤sizeLine∧∃(its:List Value) (n:Nat),Vals xs its∧h.get? a = some { cls:= .type "list",data:= .seq its.toArray n }
 | .tup xs=>xs.length≤sizeLine∧∃its:List Value,Vals xs its∧IsTup h a its.toArray
 | .dK kvs=>kvs.length≤sizeLine∧(a == sysModules) = false∧∃vs,KV kvs vs∧h.DictOf (bL P w) a vs
 | .dT kvs=>kvs.length≤sizeLine∧(a == sysModules) = false∧∃xs:List (List Key × Addr × Value),
     Paired (fun (p:List Key × V) (q:List Key × Addr × Value)=>p.1 = q.1∧H q.2.1 = some (.tup (p.1.map kV))∧RelV p.2 q.2.2) kvs xs∧
     ∃o es ep,h.get? a = some o∧o.ExactDict∧o.data = .dict es ep∧es.toList = xs.map (entryOfKey (tupleKind (bL P w)))∧(xs.map (·.1)).Nodup
 | .set S n=>h.SetOf (intKind P w) a S n
 | .ins C dx fs=>H dx = some (.own a)∧fs.length≤1000∧dx ≠ a∧h.get? a = some (PySem.W.instObj C dx)∧
     ∃mA,h.Ns1 dx mA∧(∀f,gk (fs.lookup f) (mA f))∧PySem.Within mA (fs.map (·.1))
 | .own _=>∃o,h.get? a = some o
 | .xd fs=>∃mA,h.Ns1 a mA∧∀f,gk (fs.lookup f) (mA f)
 | .HG lo hi=>∃t u v,h.get? a = some { cls:= .type "range",data:= .fields #[.int lo t, .int hi u, .int 1 v] }
 | .cV o u=>h.get? a = some o∧bT H h a u
 | .wF ps=>h.get? a = some { cls:= .none,data:= .fields ps }
 | .met f x=>h.get? a = some (PySem.W.methodObj (.ref f) (.ref x))
 | .ext φ=>φ h∧(∃o,h.get? a = some o)∧∀h1 h2:Heap,φ h1→(∀o,h1.get? a = some o→h2.get? a = some o)→φ h2
def dj (H:Hp) (h:Heap):Prop:=∀a o,H a = some o→bT P w H h a o
end
section
variable {P:Program} {w:World} {H H':Hp} {h h':Heap} {a:Addr} {o:HO}
theorem bT.lt (x:bT P w H h a o):a < h.objs.size:=by
 cases o with
 | lst xs=>obtain ⟨_,_,_,_,e⟩:=x;exact Heap.lt_size e
 | tup xs=>obtain ⟨_,_,_,p⟩:=x;exact p.lt
 | dK kvs=>obtain ⟨_,_,_,_,o,_,_,e,_⟩:=x;exact Heap.lt_size e
 | dT kvs=>obtain ⟨_,_,_,_,o,_,_,e,_⟩:=x;exact Heap.lt_size e
 | set S n=>obtain ⟨o,_,_,_,e,_⟩:=x;exact Heap.lt_size e
 | ins C dx fs=>obtain ⟨_,_,_,e,_⟩:=x;exact Heap.lt_size e
 | own y=>obtain ⟨_,e⟩:=x;exact Heap.lt_size e
 | xd fs=>obtain ⟨_,⟨_,_,_,e,_⟩,_⟩:=x;exact Heap.lt_size e
 | HG lo hi=>obtain ⟨_,_,_,e⟩:=x;exact Heap.lt_size e
 | cV ob u=>obtain ⟨e,_⟩:=x;exact Heap.lt_size e
 | wF ps=>exact Heap.lt_size (show h.get? a = some _ from x)
 | met f y=>exact Heap.lt_size (show h.get? a = some _ from x)
 | ext φ=>obtain ⟨_,⟨_,e⟩,_⟩:=x;exact Heap.lt_size e
theorem Paired.FU {α β:Type} {F G:α→β→Prop}:∀{l₁:List α} {l₂:List β},Paired F l₁ l₂→(∀a b,F a b→G a b)→Paired G l₁ l₂
 | _,_, .nil,_=> .nil
 | _,_, .cons r t,f=> .cons (f _ _ r) (Paired.FU t f)
theorem bT.stay (x:bT P w H h a o) (k:∀b u,(b = a∨H b = some (.own a))→h.get? b = some u→h'.get? b = some u)
  (ho:∀b,H b = some (.own a)→H' b = some (.own a)) (ht:∀b xs,H b = some (.tup xs)→H' b = some (.tup xs)):bT P w H' h' a o:=by
 induction o with
 | lst xs=>obtain ⟨z,its,n,r,e⟩:=x;exact ⟨z,its,n,r,k _ _ (.inl rfl) e⟩
 | tup xs=>obtain ⟨z,its,r,ob,e,c⟩:=x;exact ⟨z,its,r,ob,k _ _ (.inl rfl) e,c⟩
 | dK kvs=>obtain ⟨z,y,vs,r,ob,es,ep,e,c⟩:=x;exact ⟨z,y,vs,r,ob,es,ep,k _ _ (.inl rfl) e,c⟩
 | dT kvs=>
   obtain ⟨z,y,xs,r,ob,es,ep,e,c⟩:=x
   exact ⟨z,y,xs,Paired.FU r fun p q z=>⟨z.1,ht _ _ z.2.1,z.2.2⟩,ob,es,ep,k _ _ (.inl rfl) e,c⟩
 | set S n=>obtain ⟨ob,es,ep,t,e,c⟩:=x;exact ⟨ob,es,ep,t,k _ _ (.inl rfl) e,c⟩
 | ins C dx fs=>
   obtain ⟨d,z,ne,e,mA,⟨od,es,ep,e2,c⟩,r⟩:=x
   exact ⟨ho _ d,z,ne,k _ _ (.inl rfl) e,mA,⟨od,es,ep,k _ _ (.inr d) e2,c⟩,r⟩
 | own y=>obtain ⟨ob,e⟩:=x;exact ⟨ob,k _ _ (.inl rfl) e⟩
 | xd fs=>obtain ⟨mA,⟨od,es,ep,e,c⟩,r⟩:=x;exact ⟨mA,⟨od,es,ep,k _ _ (.inl rfl) e,c⟩,r⟩
 | HG lo hi=>obtain ⟨t,u,v,e⟩:=x;exact ⟨t,u,v,k _ _ (.inl rfl) e⟩
 | cV ob u ih=>obtain ⟨e,q⟩:=x;exact ⟨k _ _ (.inl rfl) e,ih q⟩
 | wF ps=>
   have e:h.get? a = some { cls:= .none,data:= .fields ps }:=x
   show h'.get? a = some { cls:= .none,data:= .fields ps }
   exact k a _ (.inl rfl) e
 | met f y=>
   have e:h.get? a = some (PySem.W.methodObj (.ref f) (.ref y)):=x
   show h'.get? a = some (PySem.W.methodObj (.ref f) (.ref y))
   exact k a _ (.inl rfl) e
 | ext φ=>obtain ⟨p,⟨o,e⟩,st⟩:=x;exact ⟨st _ _ p fun o q=>k _ _ (.inl rfl) q,⟨o,k _ _ (.inl rfl) e⟩,st⟩
theorem dj.lt (x:dj P w H h) (e:H a = some o):a < h.objs.size:=(x a o e).lt
theorem dj.fresh (x:dj P w H h) (e:h.objs.size≤a):H a = none:=by
 cases q:H a with
 | none=>rfl
 | some u=>exact absurd (Nat.lt_of_lt_of_le (x.lt q) e) (Nat.lt_irrefl _)
theorem dj.kept (x:dj P w H h) (k:∀b u,h.get? b = some u→h'.get? b = some u):dj P w H h':=fun a o e=>
 (x a o e).stay (fun b u _ q=>k b u q) (fun _ q=>q) fun _ _ q=>q
theorem dj.laid (x:dj P w H h) (k:∀b u,h.get? b = some u→h'.get? b = some u) (hp:h.objs.size≤a) (new:bT P w (upd H a o) h' a o):dj P w (upd H a o) h':=fun b u e=>by
 have hn:=x.fresh hp
 by_cases hb:b = a
 · subst hb;rw [ai] at e;cases e;exact new
 · rw [ak hb] at e
   exact (x b u e).stay (fun c v _ q=>k c v q) (fun c q=>by rw [ak (aA q hn)];exact q) fun c xs q=>by rw [ak (aA q hn)];exact q
end
def Rd (H:Hp) (a:Addr) (u:HO):Prop:=H a = some u∨∃o,H a = some (.cV o u)
theorem Rd.ok {P:Program} {w:World} {H:Hp} {h:Heap} {a:Addr} {u:HO} (r:Rd H a u) (x:dj P w H h):bT P w H h a u:=by
 rcases r with r | ⟨o,r⟩
 · exact x a u r
 · obtain ⟨_,q⟩:=x a _ r
   exact q
def D5:Option HO→Prop
 | some (.lst _)=>True
 | some (.dK _)=>True
 | some (.dT _)=>True
 | some (.set _ _)=>True
 | some (.ins _ _ _)=>True
 | some (.ext _)=>True
 | _=>False
section
variable {P:Program} {w:World} {H:Hp} {h h':Heap} {x e:Addr} {o':HO}
theorem dj.write (ok:dj P w H h) (mu:D5 (H x)) (he:e = x∨H e = some (.own x)) (k:∀b u,b ≠ e→h.get? b = some u→h'.get? b = some u) (BG:∃u,h'.get? e = some u)
  (new:bT P w (upd H x o') h' x o'):dj P w (upd H x o') h':=fun b u q=>by
 have J8:∀c y,H c = some (.own y)→c ≠ x:=fun c y r z=>by subst z;rw [r] at mu;exact mu
 have Pu:∀c xs,H c = some (.tup xs)→c ≠ x:=fun c xs r z=>by subst z;rw [r] at mu;exact mu
 by_cases hb:b = x
 · subst hb;rw [ai] at q;cases q;exact new
 · rw [ak hb] at q
   by_cases yv:b = e
   · have q':H b = some (.own x):=by
      rcases he with z | z
      · exact absurd (yv.trans z) hb
      · rw [yv];exact z
     rw [q] at q';cases q'
     obtain ⟨v,hv⟩:=BG
     exact ⟨v,by rw [yv];exact hv⟩
   · refine (ok b u q).stay (fun c v hc r=>k c v ?_ r) (fun c r=>by rw [ak (J8 c b r)];exact r) fun c xs r=>by rw [ak (Pu c xs r)];exact r
     rcases hc with rfl | hc
     · exact yv
     · rintro rfl
       rcases he with z | z
       · exact J8 c b hc z
       · rw [hc] at z;cases z;exact hb rfl
end
structure Un (fs ex:List Addr) (H H':Hp) (h h':Heap):Prop where
 keep:∀b o,h.get? b = some o→H b = none→b ∉ fs→b ∉ ex→h'.get? b = some o
 slot:∀b o,h.get? b = some o→H b = none→b∈fs→b ∉ ex→∃sl,h'.get? b = some { o with slots:=sl }
 free:∀b o,h.get? b = some o→H b = none→b ∉ ex→H' b = none
 there:∀b o,h.get? b = some o→b ∉ ex→∃o',h'.get? b = some o'
 tups:∀b xs,H b = some (.tup xs)→H' b = some (.tup xs)
 gm:∀b o u,H b = some (.cV o u)→H' b = some (.cV o u)
 gT:∀b ps,H b = some (.wF ps)→∃more,H' b = some (.wF (ps ++ more))
section
variable {fs fs' ex ex':List Addr} {H H1 H2:Hp} {h h1 h2 h':Heap} {a x e:Addr} {o:HO}
theorem Un.any (u:Un fs ex H H1 h h1) {b:Addr} {ob:Obj} (q:h.get? b = some ob) (n:H b = none) (hx:b ∉ ex):∃sl,h1.get? b = some { ob with slots:=sl }:=by
 by_cases hb:b∈fs
 · exact u.slot b ob q n hb hx
 · exact ⟨ob.slots,u.keep b ob q n hb hx⟩
theorem Un.kept (k:∀b u,h.get? b = some u→h'.get? b = some u):Un fs ex H H h h':=
 ⟨fun b ob q _ _ _=>k b ob q,fun b ob q _ _ _=>⟨ob.slots,k b ob q⟩,fun _ _ _ n _=>n,fun b ob q _=>⟨ob,k b ob q⟩,fun _ _ q=>q,fun _ _ _ q=>q,fun _ ps q=>⟨#[],by rw [q];simp⟩⟩
theorem Un.refl:Un fs ex H H h h:=Un.kept fun _ _ q=>q
theorem Un.laid (k:∀b u,h.get? b = some u→h'.get? b = some u) (hp:h.objs.size≤a) (hn:H a = none):Un fs ex H (upd H a o) h h' where
 keep:=fun b u q _ _ _=>k b u q
 slot:=fun b u q _ _ _=>⟨u.slots,k b u q⟩
 free:=fun b u q n _=>by rw [ak (Nat.ne_of_lt (Nat.lt_of_lt_of_le (Heap.lt_size q) hp))];exact n
 there:=fun b u q _=>⟨u,k b u q⟩
 tups:=fun b xs q=>by rw [ak (aA q hn)];exact q
 gm:=fun b u xs q=>by rw [ak (aA q hn)];exact q
 gT:=fun b ps q=>⟨#[],by rw [ak (aA q hn),q];simp⟩
theorem Un.write (mu:D5 (H x)) (he:e = x∨H e = some (.own x)) (k:∀b u,b ≠ e→h.get? b = some u→h'.get? b = some u) (BG:∃u,h'.get? e = some u):Un fs ex H (upd H x o) h h':=by
 have hx:∀b,H b = none→b ≠ x:=fun b n z=>by subst z;rw [n] at mu;exact mu
 have hb:∀b,H b = none→b ≠ e:=fun b n z=>by
  subst z
  rcases he with r | r
  · exact hx b n r
  · rw [n] at r;cases r
 have hm:∀b u,H b = some u→¬ D5 (some u)→b ≠ x:=fun b u q nm z=>by subst z;rw [q] at mu;exact nm mu
 refine ⟨fun b u q n _ _=>k b u (hb b n) q,fun b u q n _ _=>⟨u.slots,k b u (hb b n) q⟩,fun b u q n _=>by rw [ak (hx b n)];exact n,fun b u q _=>?_,
  fun b xs q=>by rw [ak (hm b _ q fun z=>z)];exact q,fun b u xs q=>by rw [ak (hm b _ q fun z=>z)];exact q,fun b ps q=>⟨#[],by rw [ak (hm b _ q fun z=>z),q];simp⟩⟩
 by_cases yv:b = e
 · subst yv;exact BG
 · exact ⟨u,k b u yv q⟩
end
def HJ (h:Heap) (H:Hp):List Addr:=(List.range h.objs.size).filter fun a=>(H a).isSome
def nI (h:Heap) (H:Hp):Heap:=PySem.W.hideAll h (HJ h H)
theorem D6 (h:Heap) (H:Hp):(nI h H).objs.size = h.objs.size:=PySem.W.hideAll_size _ _
theorem FW {h:Heap} {H:Hp} {b:Addr} {o:Obj} (e:h.get? b = some o) (n:H b = none):(nI h H).get? b = some o:=
 PySem.W.hideAll_get _ e fun hm=>by
  have q:(H b).isSome = true:=(List.mem_filter.mp hm).2
  rw [n] at q;simp at q
theorem I_ {h:Heap} {H:Hp} {b:Addr} {o:Obj} (e:(nI h H).get? b = some o):h.get? b = some o∧H b = none:=by
 have e':h.get? b = some o:=PySem.W.of_hideAll (HJ h H) e
 refine ⟨e',?_⟩
 cases q:H b with
 | none=>rfl
 | some x=>
   have hm:b∈HJ h H:=List.mem_filter.mpr ⟨List.mem_range.mpr (Heap.lt_size e'),by simp [q]⟩
   have z:(nI h H).get? b = none:=PySem.W.hideAll_none (HJ h H) hm
   rw [z] at e;cases e
end L2
namespace L2
open PySem PySem.Spec PyProof.Rows
structure Mod (K:PySem.W.Frag) (mg:Str→Option Value) (base:Heap):Prop where
 BH:K.In base
 glob:base.Ns mainGlobals mg
 blt:∃mb,base.Ns builtinsNs mb∧∀x:Str,x ≠ "__name__"→mb x = bootBuiltins x
 nolimit:base.NoLimit
structure Cx where
 prog:Program
 w:World
 K:PySem.W.Frag
 mg:Str→Option Value
 base:Heap
 A:Around
 N:List Str
 s₀:Shared
 H₀:Hp
 env:Env
 outer:List Env
 stack:List Env
 ex:List Addr
 fn:Str→Bool
 calm:Bool
 pn:List (Addr × Obj)
 xe:Value→Shared→Prop
def frs (l:List Env):List Addr:=l.filterMap (·.frame)
abbrev Cx.fs (X:Cx):List Addr:=frs X.outer
def D7 (sc:Scope) (x:Str):Prop:=sc.names.lookup x = some .local∨sc.names.lookup x = some .cell∨sc.names.lookup x = some .free
def Loc (sc:Scope) (x:Str):Prop:=sc.names.lookup x = some .local∨sc.names.lookup x = some .cell
def Look (env:Env) (h:Heap) (m:Str→Option Value) (x:Str) (u:Value):Prop:=
 (env.kindOf x = some .local∧m x = some u)∨((env.kindOf x = some .cell∨env.kindOf x = some .free)∧∃c,env.cells.lookup x = some c∧h.IsCell c (some u))
structure Cx.Ok (X:Cx):Prop where
 mod:Mod X.K X.mg X.base
 kind:X.env.scope.kind = .function
 glob:X.env.globals = mainGlobals
 blt:X.env.builtins = builtinsNs
 above:X.s₀.heap.objs.size≤X.env.locals
 inj:∀x y c,X.env.cells.lookup x = some c→X.env.cells.lookup y = some c→x = y
 has:∀x,(X.env.kindOf x = some .cell∨X.env.kindOf x = some .free)→∃c,X.env.cells.lookup x = some c
 fL:∀x c,X.fn x = true→X.env.cells.lookup x = some c→X.s₀.heap.objs.size≤c
 hd:X.calm = true→X.A.handled = none
 frames:X.A.frames = some X.stack
 stk:X.stack = X.outer∨(X.stack = X.env :: X.outer∧X.env.frame = some X.env.locals)
 yw:∀b∈X.ex,b ≠ X.env.locals∧∀x c,X.env.cells.lookup x = some c→c ≠ b
 bs:∀b o,X.base.get? b = some o→X.s₀.heap.get? b = some o∧X.H₀ b = none
 tW:X.base.objs.size≤X.s₀.heap.objs.size
 vz:∀b o,X.base.get? b = some o→b ∉ X.ex
 sO:∀b∈X.ex,b ∉ X.fs
 gF:X.s₀.heap.FunFrames X.base X.outer
 wG:∀b∈X.fs,X.H₀ b = none
structure Inv (X:Cx) (pins:List (Addr × Obj)) (σ:List (Option V)) (H:Hp) (s:Shared):Prop where
 ok:X.Ok
 os:s.os = X.s₀.os
 bare:AllBare s.gens
 base:Un X.fs X.ex X.H₀ H X.s₀.heap s.heap
 loc:∃m,s.heap.Ns X.env.locals m∧∀(i:Nat) (x:Str) (v:V),X.N[i]? = some x→σ[i]? = some (some v)→D7 X.env.scope x→∃u,RelV v u∧Look X.env s.heap m x u
 cell:∀x c,X.env.cells.lookup x = some c→∃v,s.heap.IsCell c v
 free:H X.env.locals = none
 eO:∀x c,X.env.cells.lookup x = some c→H c = none
 pin:∀p∈X.pn ++ pins,s.heap.get? p.1 = some p.2∧H p.1 = none∧p.1 ≠ X.env.locals∧p.1 ∉ X.fs∧∀v,p.2.data ≠ .cell v
 hok:dj X.prog X.w H s.heap
 len:σ.length = X.N.length
section
variable {X:Cx} {pins:List (Addr × Obj)} {σ:List (Option V)} {H H':Hp} {s:Shared} {h':Heap}
theorem Cx.Ok.Pw (ok:X.Ok) {b:Addr} {o:Obj} (e:X.base.get? b = some o):b ∉ X.fs:=fun hb=>by
 have:=(ok.gF.mem hb).1
 rw [e] at this;cases this
theorem Inv.bs (I:Inv X pins σ H s):∀b o,X.base.get? b = some o→s.heap.get? b = some o∧H b = none:=fun b o e=>
 ⟨I.base.keep b o (I.ok.bs b o e).1 (I.ok.bs b o e).2 (I.ok.Pw e) (I.ok.vz b o e),I.base.free b o (I.ok.bs b o e).1 (I.ok.bs b o e).2 (I.ok.vz b o e)⟩
theorem Inv.bk (I:Inv X pins σ H s):∀b o,X.base.get? b = some o→s.heap.get? b = some o:=fun b o e=>(I.bs b o e).1
theorem Inv.mod (I:Inv X pins σ H s):Mod X.K X.mg X.base:=I.ok.mod
theorem Inv.dN (I:Inv X pins σ H s):X.K.In s.heap:=I.ok.mod.BH.keeps I.bk
theorem Inv.lt (I:Inv X pins σ H s):X.env.locals < s.heap.objs.size:=let ⟨_,hn,_⟩:=I.loc;hn.lt
theorem Inv.sz (I:Inv X pins σ H s):X.s₀.heap.objs.size≤s.heap.objs.size:=Nat.le_trans I.ok.above (Nat.le_of_lt I.lt)
theorem Inv.Px (I:Inv X pins σ H s) {a:Addr} (h:s.heap.objs.size≤a):a ∉ X.fs:=fun hb=>by
 obtain ⟨_,o,ho,_⟩:=I.ok.gF.mem hb
 exact absurd (Nat.lt_of_lt_of_le (Heap.lt_size ho) (Nat.le_trans I.sz h)) (Nat.lt_irrefl _)
theorem Inv.wH (I:Inv X pins σ H s):∀x c,X.env.cells.lookup x = some c→c ≠ X.env.locals:=fun x c e z=>by
 obtain ⟨v,o,ho,hd⟩:=I.cell x c e
 obtain ⟨m,⟨o',es,ep,ho',hd',_⟩,_⟩:=I.loc
 rw [z,ho'] at ho;cases ho;rw [hd'] at hd;cases hd
theorem Inv.gF (I:Inv X pins σ H s):s.heap.FunFrames X.base X.outer:=by
 have all:∀(l:List Env),(∀b∈frs l,b∈X.fs)→X.s₀.heap.FunFrames X.base l→s.heap.FunFrames X.base l:=by
  intro l
  induction l with
  | nil=>intro _ _;trivial
  | cons env r ih=>
    intro hs hl
    obtain ⟨hk,⟨L,o,hf,hn,ho,hd⟩,hr⟩:=hl
    have hL:L∈X.fs:=hs L (by unfold frs;rw [List.filterMap_cons,hf];exact List.mem_cons_self)
    obtain ⟨sl,e⟩:=I.base.slot L o ho (I.ok.wG L hL) hL fun z=>I.ok.sO L z hL
    exact ⟨hk,⟨L,_,hf,hn,e,hd⟩,ih (fun b hb=>hs b (by unfold frs;rw [List.filterMap_cons,hf];exact List.mem_cons_of_mem _ hb)) hr⟩
 exact all X.outer (fun _ hb=>hb) I.ok.gF
theorem Inv.stack (I:Inv X pins σ H s):s.heap.FunFrames X.base X.stack:=by
 rcases I.ok.stk with e | ⟨e,hf⟩
 · rw [e];exact I.gF
 · rw [e]
   obtain ⟨m,hn,_⟩:=I.loc
   refine .cons (by rw [I.ok.kind];decide) hf hn ?_ I.gF
   exact Heap.get?_none_of_le (Nat.le_trans I.ok.tW I.ok.above)
theorem Inv.yx (I:Inv X pins σ H s):∀b∈frs X.stack,b∈X.env.locals :: X.fs:=fun b hb=>by
 rcases I.ok.stk with e | ⟨e,hf⟩
 · rw [e] at hb;exact List.mem_cons_of_mem _ hb
 · rw [e] at hb
   unfold frs at hb
   rw [List.filterMap_cons,hf] at hb
   exact hb
theorem Inv.mS (I:Inv X pins σ H s):∀b∈frs X.stack,H b = none:=fun b hb=>by
 rcases List.mem_cons.mp (I.yx b hb) with e | hb
 · rw [e];exact I.free
 · obtain ⟨_,o,ho,_⟩:=I.ok.gF.mem hb
   exact I.base.free b o ho (I.ok.wG b hb) fun z=>I.ok.sO b z hb
theorem Inv.step {g':Array GenState} {t':Nat} {d':Drawn} {ch:List Addr} (I:Inv X pins σ H s)
  (hch:∀b∈ch,(b∈X.ex∨X.s₀.heap.objs.size≤b)∧b ≠ X.env.locals∧(∀x c,X.env.cells.lookup x = some c→c ≠ b)∧∀p∈X.pn ++ pins,p.1 ≠ b)
  (keep:∀b o,b ≠ X.env.locals→b ∉ X.fs→b ∉ ch→s.heap.get? b = some o→H b = none→h'.get? b = some o)
  (slot:∀b o,b ≠ X.env.locals→b∈X.fs→b ∉ ch→s.heap.get? b = some o→H b = none→∃sl,h'.get? b = some { o with slots:=sl }) (free:∀b o,b ∉ ch→s.heap.get? b = some o→H b = none→H' b = none)
  (there:∀b o,b ∉ ch→s.heap.get? b = some o→∃o',h'.get? b = some o')
  (tups:∀b xs,H b = some (.tup xs)→H' b = some (.tup xs)) (gm:∀b o u,H b = some (.cV o u)→H' b = some (.cV o u)) (gT:∀b ps,H b = some (.wF ps)→∃more,H' b = some (.wF (ps ++ more)))
  (ns:∀m,s.heap.Ns X.env.locals m→h'.Ns X.env.locals m) (hok:dj X.prog X.w H' h') (hg:AllBare g'):
  Inv X pins σ H' { s with heap:=h',gens:=g',drawn:=d',toks:=t' }:=by
 have BI:∀b o,X.s₀.heap.get? b = some o→b ≠ X.env.locals:=fun b o e=>Nat.ne_of_lt (Nat.lt_of_lt_of_le (Heap.lt_size e) I.ok.above)
 have HK:∀b o,X.s₀.heap.get? b = some o→b ∉ X.ex→b ∉ ch:=fun b o e hx hb=>by
  rcases (hch b hb).1 with z | z
  · exact hx z
  · exact absurd (Nat.lt_of_lt_of_le (Heap.lt_size e) z) (Nat.lt_irrefl _)
 have cellK:∀x c,X.env.cells.lookup x = some c→∀v,s.heap.IsCell c v→h'.IsCell c v:=fun x c e v ⟨o,ho,hd⟩=>by
  have mT:c ∉ ch:=fun z=>(hch c z).2.2.1 x c e rfl
  by_cases hc:c∈X.fs
  · obtain ⟨sl,q⟩:=slot c o (I.wH x c e) hc mT ho (I.eO x c e)
    exact ⟨_,q,hd⟩
  · exact ⟨o,keep c o (I.wH x c e) hc mT ho (I.eO x c e),hd⟩
 refine ⟨I.ok,I.os,hg,⟨fun b o e n hb hx=>?_,fun b o e n hb hx=>?_,fun b o e n hx=>?_,fun b o e hx=>?_,fun b xs e=>tups b xs (I.base.tups b xs e),fun b o xs e=>gm b o xs (I.base.gm b o xs e),fun b ps e=>?_⟩,?_,fun x c e=>?_,?_,fun x c e=>?_,fun p hp=>?_,hok,I.len⟩
 · exact keep b o (BI b o e) hb (HK b o e hx) (I.base.keep b o e n hb hx) (I.base.free b o e n hx)
 · obtain ⟨sl,e1⟩:=I.base.slot b o e n hb hx
   obtain ⟨yy,e2⟩:=slot b _ (BI b o e) hb (HK b o e hx) e1 (I.base.free b o e n hx)
   exact ⟨yy,e2⟩
 · obtain ⟨o',e1⟩:=I.base.there b o e hx
   exact free b o' (HK b o e hx) e1 (I.base.free b o e n hx)
 · obtain ⟨o',e1⟩:=I.base.there b o e hx
   exact there b o' (HK b o e hx) e1
 · obtain ⟨m1,e1⟩:=I.base.gT b ps e
   obtain ⟨m2,e2⟩:=gT b _ e1
   exact ⟨m1 ++ m2,by rw [e2,Array.append_assoc]⟩
 · obtain ⟨m,hn,hl⟩:=I.loc
   refine ⟨m,ns m hn,fun i x v e1 e2 e3=>?_⟩
   obtain ⟨u,r,l⟩:=hl i x v e1 e2 e3
   refine ⟨u,r,?_⟩
   rcases l with l | ⟨k,c,e,z⟩
   · exact .inl l
   · exact .inr ⟨k,c,e,cellK x c e _ z⟩
 · obtain ⟨v,z⟩:=I.cell x c e
   exact ⟨v,cellK x c e v z⟩
 · obtain ⟨m,⟨o,_,_,ho,_⟩,_⟩:=I.loc
   exact free _ o (fun z=>(hch _ z).2.1 rfl) ho I.free
 · obtain ⟨v,o,ho,hd⟩:=I.cell x c e
   exact free c o (fun z=>(hch c z).2.2.1 x c e rfl) ho (I.eO x c e)
 · obtain ⟨e,n,ne,nf,d⟩:=I.pin p hp
   have mT:p.1 ∉ ch:=fun z=>(hch p.1 z).2.2.2 p hp rfl
   exact ⟨keep p.1 p.2 ne nf mT e n,free p.1 p.2 mT e n,ne,nf,d⟩
theorem Inv.un {t':Nat} (I:Inv X pins σ H s) (u:Un X.fs [] H H' s.heap h') (hok:dj X.prog X.w H' h'):Inv X pins σ H' { s with heap:=h',toks:=t' }:=by
 obtain ⟨m,⟨o,es,ep,ho,r⟩,_⟩:=id I.loc
 obtain ⟨sl,hL⟩:=u.any ho I.free (by simp)
 exact I.step (g':=s.gens) (d':=s.drawn) (ch:=[]) (fun _ z=>nomatch z) (fun b o _ hb _ e n=>u.keep b o e n hb (by simp)) (fun b o _ hb _ e n=>u.slot b o e n hb (by simp)) (fun b o _ e n=>u.free b o e n (by simp)) (fun b o _ e=>u.there b o e (by simp)) u.tups u.gm u.gT (fun m' hm=>by
  obtain ⟨o',es',oZ,ho',r'⟩:=hm
  rw [ho] at ho';cases ho'
  exact ⟨_,es',oZ,hL,r'⟩) hok I.bare
theorem Inv.call {g':Array GenState} {t':Nat} {d':Drawn} {ch:List Addr} (I:Inv X pins σ H s) (u:Un (frs X.stack) ch H H' s.heap h') (hok:dj X.prog X.w H' h') (hg:AllBare g')
  (hch:∀b∈ch,(b∈X.ex∨X.s₀.heap.objs.size≤b)∧b ≠ X.env.locals∧(∀x c,X.env.cells.lookup x = some c→c ≠ b)∧∀p∈X.pn ++ pins,p.1 ≠ b):
  Inv X pins σ H' { s with heap:=h',gens:=g',drawn:=d',toks:=t' }:=by
 obtain ⟨m,⟨o,es,ep,ho,r⟩,_⟩:=id I.loc
 obtain ⟨sl,hL⟩:=u.any ho I.free fun z=>(hch _ z).2.1 rfl
 exact I.step (ch:=ch) hch (fun b o hL hb hc e n=>u.keep b o e n (fun z=>(List.mem_cons.mp (I.yx b z)).elim hL hb) hc) (fun b o _ _ hc e n=>u.any e n hc) (fun b o hc e n=>u.free b o e n hc) (fun b o hc e=>u.there b o e hc) u.tups u.gm u.gT (fun m' hm=>by
  obtain ⟨o',es',oZ,ho',r'⟩:=hm
  rw [ho] at ho';cases ho'
  exact ⟨_,es',oZ,hL,r'⟩) hok hg
theorem Inv.turned {t':Nat} {it:Addr} (I:Inv X pins σ H s) (k:∀b o,b ≠ it→s.heap.get? b = some o→h'.get? b = some o) (hn:H it = none) (hL:it ≠ X.env.locals)
  (h1:it∈X.ex∨X.s₀.heap.objs.size≤it) (h2:∀x c,X.env.cells.lookup x = some c→c ≠ it) (h3:∀p∈X.pn ++ pins,p.1 ≠ it):Inv X pins σ H { s with heap:=h',toks:=t' }:=by
 have NO:∀b u,H b = some u→b ≠ it:=fun b u e z=>by rw [z,hn] at e;cases e
 refine I.step (g':=s.gens) (d':=s.drawn) (ch:=[it]) (fun b hb=>?_) (fun b o _ _ hc e _=>k b o (fun z=>hc (by simp [z])) e) (fun b o _ _ hc e _=>⟨o.slots,k b o (fun z=>hc (by simp [z])) e⟩) (fun _ _ _ _ n=>n)
  (fun b o hc e=>⟨o,k b o (fun z=>hc (by simp [z])) e⟩) (fun _ _ e=>e) (fun _ _ _ e=>e) (fun b ps e=>⟨#[],by rw [e];simp⟩) (fun m hm=>?_) (fun b u e=>?_) I.bare
 · have e:b = it:=by simpa using hb
   subst e
   exact ⟨h1,hL,h2,h3⟩
 · obtain ⟨o,es,ep,ho,r⟩:=hm
   exact ⟨o,es,ep,k _ o (Ne.symm hL) ho,r⟩
 · refine (I.hok b u e).stay (fun c v hc q=>k c v ?_ q) (fun _ q=>q) fun _ _ q=>q
   rcases hc with z | z
   · rw [z];exact NO b u e
   · exact NO c _ z
theorem Inv.tok (I:Inv X pins σ H s) (t:Nat):Inv X pins σ H { s with toks:=t }:=I.un (h':=s.heap) (t':=t) Un.refl I.hok
theorem Inv.kept {t':Nat} (I:Inv X pins σ H s) (k:∀b u,s.heap.get? b = some u→h'.get? b = some u):Inv X pins σ H { s with heap:=h',toks:=t' }:=I.un (Un.kept k) (I.hok.kept k)
theorem Inv.laid {a:Addr} {o:HO} {t':Nat} (I:Inv X pins σ H s) (k:∀b u,s.heap.get? b = some u→h'.get? b = some u) (hp:s.heap.objs.size≤a) (new:bT X.prog X.w (upd H a o) h' a o):
  Inv X pins σ (upd H a o) { s with heap:=h',toks:=t' }:=I.un (Un.laid k hp (I.hok.fresh hp)) (I.hok.laid k hp new)
theorem Inv.write {x e:Addr} {o:HO} {t':Nat} (I:Inv X pins σ H s) (mu:D5 (H x)) (he:e = x∨H e = some (.own x)) (k:∀b u,b ≠ e→s.heap.get? b = some u→h'.get? b = some u) (BG:∃u,h'.get? e = some u)
  (new:bT X.prog X.w (upd H x o) h' x o):Inv X pins σ (upd H x o) { s with heap:=h',toks:=t' }:=I.un (Un.write mu he k BG) (I.hok.write mu he k BG new)
theorem Inv.BJ {HL:List (Addr × Obj)} (I:Inv X pins σ H s) (h:∀p∈HL,s.heap.get? p.1 = some p.2∧H p.1 = none∧p.1 ≠ X.env.locals∧p.1 ∉ X.fs∧∀v,p.2.data ≠ .cell v):Inv X HL σ H s:=
 ⟨I.ok,I.os,I.bare,I.base,I.loc,I.cell,I.free,I.eO,fun p hp=>(List.mem_append.mp hp).elim (fun z=>I.pin p (List.mem_append_left _ z)) (h p),I.hok,I.len⟩
theorem nJ {N:List Str} (hN:N.Nodup) {i j:Nat} {x:Str} (a:N[i]? = some x) (b:N[j]? = some x):i = j:=by
 obtain ⟨h1,e1⟩:=List.getElem?_eq_some_iff.mp a
 obtain ⟨h2,e2⟩:=List.getElem?_eq_some_iff.mp b
 exact (List.getElem_inj hN).mp (e1.trans e2.symm)
theorem o6 {M:Model} {A:Around} {E:Value→Shared→Prop} {i:Nat} {x:Str} {v:V} {u:Value} {Q:Unit→Shared→Prop} (I:Inv X pins σ H s) (hN:X.N.Nodup) (hi:X.N[i]? = some x) (hx:Loc X.env.scope x) (r:RelV v u)
  (h:∀s',Inv X pins (σ.set i (some v)) H s'→(∃a,Heap.SameBut a s.heap s'.heap∧(a = X.env.locals∨X.env.cells.lookup x = some a))→Q () s') (hf:X.fn x = true∨X.env.scope.names.lookup x = some .local:=by first | exact .inl rfl | exact .inr rfl | assumption):wpAny M A (storeName X.env x u) Q E s:=by
 obtain ⟨m,hn,hl⟩:=id I.loc
 have hcls:(X.env.scope.kind == .class || (X.env.scope.kind == .module && X.env.locals != X.env.globals)) = false:=by rw [I.ok.kind];rfl
 have NP:i < σ.length:=by rw [I.len];exact (List.getElem?_eq_some_iff.mp hi).1
 have wH:=I.wH
 have tracked:∀{a:Addr} {h':Heap},(∃o,s.heap.get? a = some o∧H a = none)→Heap.SameBut a s.heap h'→dj X.prog X.w H h':=fun {a h'} ha hs b ob e=>by
  obtain ⟨_,_,hfree⟩:=ha
  refine (I.hok b ob e).stay (fun c w' hc q=>(hs.2 c ?_).trans q) (fun _ q=>q) fun _ _ q=>q
  rintro rfl
  rcases hc with rfl | hc
  · rw [hfree] at e;cases e
  · rw [hfree] at hc;cases hc
 rcases hx with hk | hk
 · refine wpAny_storeName_local hk hn (fun h' hn' hs=>?_) hcls
   obtain ⟨oL,_,_,Qv,_⟩:=id hn
   refine h _ ⟨I.ok,I.os,I.bare,⟨fun b o e n hb hx=>?_,fun b o e n hb hx=>?_,I.base.free,fun b o e hx=>?_,I.base.tups,I.base.gm,I.base.gT⟩,⟨_,hn',fun j y v' e1 e2 e3=>?_⟩,fun y c e=>?_,I.free,I.eO,fun p hp=>?_,tracked ⟨oL,Qv,I.free⟩ hs,by simpa using I.len⟩ ⟨_,hs, .inl rfl⟩
   · exact (hs.2 b (Nat.ne_of_lt (Nat.lt_of_lt_of_le (Heap.lt_size e) I.ok.above))).trans (I.base.keep b o e n hb hx)
   · obtain ⟨sl,e1⟩:=I.base.slot b o e n hb hx
     exact ⟨sl,(hs.2 b (Nat.ne_of_lt (Nat.lt_of_lt_of_le (Heap.lt_size e) I.ok.above))).trans e1⟩
   · obtain ⟨o',e1⟩:=I.base.there b o e hx
     exact ⟨o',(hs.2 b (Nat.ne_of_lt (Nat.lt_of_lt_of_le (Heap.lt_size e) I.ok.above))).trans e1⟩
   · by_cases hj:j = i
     · subst hj
       rw [hi] at e1;cases e1
       rw [List.getElem?_set_self NP] at e2
       cases e2
       exact ⟨u,r, .inl ⟨hk,by simp⟩⟩
     · rw [List.getElem?_set_ne (Ne.symm hj)] at e2
       obtain ⟨u',r',q⟩:=hl j y v' e1 e2 e3
       refine ⟨u',r',?_⟩
       rcases q with ⟨k,e⟩ | ⟨k,c,e,z⟩
       · refine .inl ⟨k,?_⟩
         have:y ≠ x:=fun e=>hj (nJ hN e1 (e ▸ hi))
         simp [this,e]
       · exact .inr ⟨k,c,e,z.sameBut hs (wH y c e)⟩
   · obtain ⟨w',z⟩:=I.cell y c e
     exact ⟨w',z.sameBut hs (wH y c e)⟩
   · obtain ⟨e,n,ne,nf,d⟩:=I.pin p hp
     exact ⟨(hs.2 p.1 ne).trans e,n,ne,nf,d⟩
 · have hfn:X.fn x = true:=by
    rcases hf with z | z
    · exact z
    · rw [z] at hk;cases hk
   obtain ⟨c,hc⟩:=I.ok.has x (.inl hk)
   obtain ⟨w',z⟩:=I.cell x c hc
   refine wpAny_storeName_cell I.ok.kind hk hc z (fun h' hc' hs=>?_)
   obtain ⟨oc,hoc,Py⟩:=id z
   refine h { s with heap:=h' } ⟨I.ok,I.os,I.bare,⟨fun b o e n hb hx=>?_,fun b o e n hb hx=>?_,I.base.free,fun b o e hx=>?_,I.base.tups,I.base.gm,I.base.gT⟩,⟨m,hn.sameBut hs (Ne.symm (wH x c hc)),fun j y v' e1 e2 e3=>?_⟩,fun y c' e=>?_,I.free,I.eO,fun p hp=>?_,tracked ⟨oc,hoc,I.eO x c hc⟩ hs,by simpa using I.len⟩ ⟨c,hs, .inr hc⟩
   · exact (hs.2 b (Nat.ne_of_lt (Nat.lt_of_lt_of_le (Heap.lt_size e) (I.ok.fL x c hfn hc)))).trans (I.base.keep b o e n hb hx)
   · obtain ⟨sl,e1⟩:=I.base.slot b o e n hb hx
     exact ⟨sl,(hs.2 b (Nat.ne_of_lt (Nat.lt_of_lt_of_le (Heap.lt_size e) (I.ok.fL x c hfn hc)))).trans e1⟩
   · obtain ⟨o',e1⟩:=I.base.there b o e hx
     exact ⟨o',(hs.2 b (Nat.ne_of_lt (Nat.lt_of_lt_of_le (Heap.lt_size e) (I.ok.fL x c hfn hc)))).trans e1⟩
   · by_cases hj:j = i
     · subst hj
       rw [hi] at e1;cases e1
       rw [List.getElem?_set_self NP] at e2
       cases e2
       exact ⟨u,r, .inr ⟨.inl hk,c,hc,hc'⟩⟩
     · rw [List.getElem?_set_ne (Ne.symm hj)] at e2
       obtain ⟨u',r',q⟩:=hl j y v' e1 e2 e3
       refine ⟨u',r',?_⟩
       rcases q with q | ⟨k,c',e,z'⟩
       · exact .inl q
       · refine .inr ⟨k,c',e,z'.sameBut hs ?_⟩
         rintro rfl
         exact hj (nJ hN e1 (I.ok.inj _ _ _ e hc ▸ hi))
   · by_cases hcc:c' = c
     · subst hcc;exact ⟨_,hc'⟩
     · obtain ⟨w2,z2⟩:=I.cell y c' e
       exact ⟨w2,z2.sameBut hs hcc⟩
   · obtain ⟨e,n,ne,nf,d⟩:=I.pin p hp
     refine ⟨(hs.2 p.1 ?_).trans e,n,ne,nf,d⟩
     intro q
     rw [q,hoc] at e
     have q':oc = p.2:=Option.some.inj e
     exact d w' (by rw [← q'];exact Py)
theorem kq {M:Model} {A:Around} {E:Value→Shared→Prop} {i:Nat} {x:Str} {v:V} {u:Value} {Q:Unit→Shared→Prop} (I:Inv X pins σ H s) (hN:X.N.Nodup) (hi:X.N[i]? = some x) (hx:Loc X.env.scope x) (r:RelV v u)
  (h:∀s',Inv X pins (σ.set i (some v)) H s'→Q () s') (hf:X.fn x = true∨X.env.scope.names.lookup x = some .local:=by first | exact .inl rfl | exact .inr rfl | assumption):wpAny M A (storeName X.env x u) Q E s:=
 o6 I hN hi hx r (fun s' I' _=>h s' I') hf
theorem Inv.yg {s':Shared} {ch:List Addr} (I:Inv X pins σ H s) (ho:s'.os = s.os) (u:Un (frs X.stack) ch H H' s.heap s'.heap) (hok:dj X.prog X.w H' s'.heap) (hg:AllBare s'.gens)
  (hch:∀b∈ch,(b∈X.ex∨X.s₀.heap.objs.size≤b)∧b ≠ X.env.locals∧(∀x c,X.env.cells.lookup x = some c→c ≠ b)∧∀p∈X.pn ++ pins,p.1 ≠ b):Inv X pins σ H' s':=by
 obtain ⟨h',g',d',t',o'⟩:=s'
 have e:o' = s.os:=ho
 subst e
 exact I.call (g':=g') (t':=t') (d':=d') u hok hg hch
end
abbrev XK:=Value→Option Addr→Hp→Prop
abbrev St:=List (Option V)
abbrev VK:=V→Hp→Prop
abbrev TE:=St→Hp→VK→Prop
abbrev TT:=St→Hp→(Bool→Hp→Prop)→Prop
abbrev TA:=St→Hp→(List V→Hp→Prop)→Prop
structure Ends where
 nx:St→Hp→Prop
 rt:VK
 bk:St→Hp→Prop:=fun _ _=>False
 ct:St→Hp→Prop:=fun _ _=>False
abbrev TS:=Ends→St→Hp→Prop
def EP (X:Cx) (pins:List (Addr × Obj)) (σ:St) (Q:VK) (u:Value) (s':Shared):Prop:=∃v H',Inv X pins σ H' s'∧RelV v u∧Q v H'
def TP (X:Cx) (pins:List (Addr × Obj)) (σ:St) (Q:Bool→Hp→Prop) (b:Bool) (s':Shared):Prop:=∃H',Inv X pins σ H' s'∧Q b H'
def AP (X:Cx) (pins:List (Addr × Obj)) (σ:St) (Q:List V→Hp→Prop) (us:List Value) (s':Shared):Prop:=∃vs H',Inv X pins σ H' s'∧Vals vs us∧Q vs H'
def SP (X:Cx) (pins:List (Addr × Obj)) (D:Ends) (f:Flow) (s':Shared):Prop:=
 match f with
 | .next=>∃σ' H',Inv X pins σ' H' s'∧D.nx σ' H'
 | .brk=>∃σ' H',Inv X pins σ' H' s'∧D.bk σ' H'
 | .cont=>∃σ' H',Inv X pins σ' H' s'∧D.ct σ' H'
 | .ret u=>∃v σ' H',Inv X pins σ' H' s'∧RelV v u∧D.rt v H'
def PE (X:Cx) (e:Expr) (t:TE):Prop:=
 ∀(pins:List (Addr × Obj)) (s:Shared) (σ:St) (H:Hp) (Q:VK),Inv X pins σ H s→t σ H Q→wpAny (model X.prog X.w) X.A (eval e X.env) (EP X pins σ Q) X.xe s
def PT (X:Cx) (e:Expr) (t:TT):Prop:=
 ∀(pins:List (Addr × Obj)) (s:Shared) (σ:St) (H:Hp) (Q:Bool→Hp→Prop),Inv X pins σ H s→t σ H Q→wpAny (model X.prog X.w) X.A (isTrue e X.env (eval e X.env)) (TP X pins σ Q) X.xe s
def PW (X:Cx) (e:Expr) (t:TT):Prop:=
 ∀(whole:Sem Value) (pins:List (Addr × Obj)) (s:Shared) (σ:St) (H:Hp) (Q:Bool→Hp→Prop),Inv X pins σ H s→t σ H Q→wpAny (model X.prog X.w) X.A (isTrue e X.env whole) (TP X pins σ Q) X.xe s
theorem PW.pt {X:Cx} {e:Expr} {t:TT} (h:PW X e t):PT X e t:=h _
def PA (X:Cx) (es:List Expr) (t:TA):Prop:=
 ∀(pos:Pos) (pins:List (Addr × Obj)) (s:Shared) (σ:St) (H:Hp) (Q:List V→Hp→Prop),Inv X pins σ H s→t σ H Q→wpAny (model X.prog X.w) X.A (spliced (backTo pos (starEach es X.env))) (AP X pins σ Q) X.xe s
def PS (X:Cx) (st:Stmt) (t:TS):Prop:=
 ∀(pins:List (Addr × Obj)) (s:Shared) (σ:St) (H:Hp) (D:Ends),Inv X pins σ H s→t D σ H→wpAny (model X.prog X.w) X.A (exec st X.env) (SP X pins D) X.xe s
def gy (X:Cx) (st:List Stmt) (t:TS):Prop:=
 ∀(pins:List (Addr × Obj)) (s:Shared) (σ:St) (H:Hp) (D:Ends),Inv X pins σ H s→t D σ H→wpAny (model X.prog X.w) X.A (execs st X.env) (SP X pins D) X.xe s
theorem aL {α:Type} {t:Sem α} {Q Q':α→Shared→Prop} {M:Model} {A:Around} {E:Value→Shared→Prop} {s:Shared} (h:wpAny M A t Q E s) (hQ:∀a s,Q a s→Q' a s):wpAny M A t Q' E s:=wpAny_mono h hQ fun _ _ x=>x
end L2
namespace L2
open PySem PySem.Spec PyProof.Rows
section
variable {X:Cx}
def sP (i:Nat):TE:=fun σ H Q=>∃v,σ[i]? = some (some v)∧Q v H
def tC (v:V):TE:=fun _ H Q=>Q v H
theorem J9 {i:Nat} {x:Str} {pos:Pos} (hN:X.N[i]? = some x) (hv:D7 X.env.scope x) (hd:(x == ("__debug__":Str)) = false:=by decide) (hcd:(x == ("__classdict__":Str)) = false:=by decide):PE X (.Name x pos) (sP i):=by
 intro pins s σ H Q I h
 obtain ⟨v,e,h⟩:=h
 obtain ⟨m,hn,hl⟩:=I.loc
 obtain ⟨u,r,l⟩:=hl i x v hN e hv
 have fin:EP X pins σ Q u s:=⟨v,H,I,r,h⟩
 rcases l with ⟨hk,hm⟩ | ⟨hk,c,hc,hcell⟩
 · exact wpAny_Name (wpAny_loadName_local I.ok.kind hk hn hm fin) hd
 · rcases hk with hk | hk
   · exact wpAny_Name (wpAny_loadName_cell I.ok.kind hk hc hcell fin) hd
   · exact wpAny_Name (wpAny_loadName_free I.ok.kind hk hc hcell fin hcd) hd
theorem af {i j pos}:PE X (.Constant (.int i) j pos) (tC (.int i)):=fun _ _ _ H _ I h=>wpAny_Constant_int ⟨.int i,H,I.tok _,⟨_,rfl⟩,h⟩
theorem bW {b j pos}:PE X (.Constant (.bool b) j pos) (tC (.bl b)):=fun _ _ _ H _ I h=>Constant_bool ⟨.bl b,H,I,rfl,h⟩
theorem J_ {j pos}:PE X (.Constant .none j pos) (tC .bE):=fun _ _ _ H _ I h=>Constant_none ⟨.bE,H,I,rfl,h⟩
theorem aX {x j pos}:PE X (.Constant (.str x) j pos) (tC (.str x)):=fun _ _ _ H _ I h=>Calls.Constant_str ⟨.str x,H,I.tok _,⟨_,rfl⟩,h⟩
def Gl (X:Cx) (x:Str):Prop:=X.env.kindOf x = some .globalImplicit
theorem iQ {E:Value→Shared→Prop} {pins:List (Addr × Obj)} {s:Shared} {σ:St} {H:Hp} {x:Str} {u:Value} {pos:Pos} {Q:Value→Shared→Prop} (I:Inv X pins σ H s) (hg:Gl X x) (hm:X.mg x = some u) (h:Q u s)
  (hd:(x == ("__debug__":Str)) = false:=by decide):wpAny (model X.prog X.w) X.A (eval (.Name x pos) X.env) Q E s:=
 Calls.Name_function_global I.ok.kind hg (Calls.loadGlobal_global (by rw [I.ok.glob];exact I.mod.glob.keeps I.bk) hm h) hd
theorem o7 {E:Value→Shared→Prop} {pins:List (Addr × Obj)} {s:Shared} {σ:St} {H:Hp} {x:Str} {u:Value} {pos:Pos} {Q:Value→Shared→Prop} (I:Inv X pins σ H s) (hg:Gl X x) (hm:X.mg x = none) (hv:bootBuiltins x = some u) (h:Q u s)
  (hn:x ≠ "__name__":=by decide) (hd:(x == ("__debug__":Str)) = false:=by decide):wpAny (model X.prog X.w) X.A (eval (.Name x pos) X.env) Q E s:=by
 obtain ⟨mb,h1,h2⟩:=I.mod.blt
 exact Calls.Name_function_global I.ok.kind hg (Calls.loadGlobal_builtin (by rw [I.ok.glob];exact I.mod.glob.keeps I.bk) hm (by rw [I.ok.blt];exact h1.keeps I.bk) ((h2 x hn).trans hv) h) hd
theorem eT {x:Str} {v:V} {u:Value} {pos:Pos} (hg:Gl X x) (hm:X.mg x = some u) (r:RelV v u) (hd:(x == ("__debug__":Str)) = false:=by decide):PE X (.Name x pos) (tC v):=
 fun _ _ _ H _ I h=>iQ I hg hm ⟨v,H,I,r,h⟩ hd
theorem Jb {x:Str} {v:V} {u:Value} {pos:Pos} (hg:Gl X x) (hm:X.mg x = none) (hv:bootBuiltins x = some u) (r:RelV v u) (hn:x ≠ "__name__":=by decide) (hd:(x == ("__debug__":Str)) = false:=by decide):PE X (.Name x pos) (tC v):=
 fun _ _ _ H _ I h=>o7 I hg hm hv ⟨v,H,I,r,h⟩ hn hd
variable {a b:Expr} {ta tb:TE} {pos:Pos}
def PC (X:Cx) (op:CmpOp) (a b:Expr) (t:TE):Prop:=
 ∀(pins:List (Addr × Obj)) (s:Shared) (σ:St) (H:Hp) (Q:VK),Inv X pins σ H s→t σ H Q→
  wpAny (model X.prog X.w) X.A (eval a X.env) (fun v s₁=>wpAny (model X.prog X.w) X.A (eval b X.env) (fun u s₂=>wpAny (model X.prog X.w) X.A (compareOp op v u) (EP X pins σ Q) X.xe s₂) X.xe s₁) X.xe s
theorem gG (b:Expr) {op:CmpOp} (h:op ≠ .In) (h2:op ≠ .NotIn):behindInMarks op b = false:=by
 have e1:(op == CmpOp.In) = false:=by cases op <;> first | rfl | exact absurd rfl h
 have e2:(op == CmpOp.NotIn) = false:=by cases op <;> first | rfl | exact absurd rfl h2
 cases b <;> simp [behindInMarks,e1,e2]
def tB (t:TE):TT:=fun σ H Q=>t σ H fun x H1=>∃c,x = .bl c∧Q c H1
theorem o8 {op:CmpOp} {t:TE} (h:PC X op a b t) (h1:behindInMarks op b = false:=by first | exact gG _ (by decide) (by decide) | rfl):PT X (.Compare a [op] [b] pos) (tB t):=by
 intro pins s σ H Q I hw
 refine wpAny_isTrue_Compare1 (aL (h pins s σ H _ I hw) fun v s1 h1=>aL h1 fun u s2 h2=>aL h2 fun c s3 ⟨x,H1,I1,r1,q1⟩=>?_) h1
 obtain ⟨d,rfl,q⟩:=q1
 cases r1
 exact wpAny_truthy_bool ⟨H1,I1,q⟩
theorem bI {e:Expr} {t:TE} (h:PE X e t) (he:∀whole,isTrue e X.env whole = (do let v ← whole;standAt e.pos;holding [v] (truthy v)):=by intro _;rfl):PT X e (tB t):=by
 intro pins s σ H Q I hw
 refine isTrue_plain (aL (h pins s σ H _ I hw) fun v s1 ⟨x,H1,I1,r1,q1⟩=>?_) (he _)
 obtain ⟨d,rfl,q⟩:=q1
 cases r1
 exact wpAny_truthy_bool ⟨H1,I1,q⟩
variable {tA HM:TT} {rest:List Expr}
def Pz (t u:TT):TT:=fun σ H Q=>t σ H fun c H1=>if c = true then u σ H1 Q else Q false H1
def Qw (t u:TT):TT:=fun σ H Q=>t σ H fun c H1=>if c = true then Q true H1 else u σ H1 Q
def Ka (t:TT):TT:=fun σ H Q=>t σ H fun c H1=>Q (!c) H1
theorem qE (ha:PT X a tA):PW X (.BoolOp .And [a] pos) tA:=by
 intro wh pins s σ H Q I h
 refine isTrue_and (aL (ha pins s σ H Q I h) fun c s1 e=>?_)
 cases c with
 | true=>exact isTrue_and_nil e
 | false=>exact e
theorem dG (ha:PT X a tA):PW X (.BoolOp .Or [a] pos) tA:=by
 intro wh pins s σ H Q I h
 refine isTrue_or (aL (ha pins s σ H Q I h) fun c s1 e=>?_)
 cases c with
 | false=>exact isTrue_or_nil e
 | true=>exact e
theorem o9 (ha:PT X a tA) (hb:PW X (.BoolOp .And (b :: rest) pos) HM):PW X (.BoolOp .And (a :: b :: rest) pos) (Pz tA HM):=by
 intro wh pins s σ H Q I h
 refine isTrue_and (aL (ha pins s σ H _ I h) fun c s1 ⟨H1,I1,q1⟩=>?_)
 cases c with
 | true=>exact hb wh pins s1 σ H1 Q I1 q1
 | false=>exact ⟨H1,I1,q1⟩
theorem dR (ha:PT X a tA) (hb:PW X (.BoolOp .Or (b :: rest) pos) HM):PW X (.BoolOp .Or (a :: b :: rest) pos) (Qw tA HM):=by
 intro wh pins s σ H Q I h
 refine isTrue_or (aL (ha pins s σ H _ I h) fun c s1 ⟨H1,I1,q1⟩=>?_)
 cases c with
 | true=>exact ⟨H1,I1,q1⟩
 | false=>exact hb wh pins s1 σ H1 Q I1 q1
theorem bN (ha:PT X a tA):PT X (.UnaryOp .Not a pos) (Ka tA):=by
 intro pins s σ H Q I h
 exact isTrue_not (ha pins s σ H (fun c H1=>Q (!c) H1) I h)
def MN (ta tb:TE):TE:=fun σ H Q=>ta σ H fun x H1=>∃c,x = .bl c∧if c = true then tb σ H1 Q else Q (.bl false) H1
def MO (ta:TE):TE:=fun σ H Q=>ta σ H fun x H1=>∃c,x = .bl c∧Q (.bl (!c)) H1
theorem tX {op} {t:TE} (h:PE X a t):PE X (.BoolOp op [a] pos) t:=fun pins s σ H Q I hw=>BoolOp_one (h pins s σ H Q I hw)
theorem tY (ha:PE X a ta) (hb:PE X (.BoolOp .And (b :: rest) pos) tb):PE X (.BoolOp .And (a :: b :: rest) pos) (MN ta tb):=by
 intro pins s σ H Q I h
 refine BoolOp_and (aL (ha pins s σ H _ I h) fun v s1 ⟨x,H1,I1,r1,q1⟩=>?_)
 obtain ⟨c,rfl,q1⟩:=q1
 cases r1
 refine wpAny_truthy_bool ?_
 cases c with
 | true=>exact hb pins s1 σ H1 Q I1 q1
 | false=>exact ⟨.bl false,H1,I1,rfl,q1⟩
theorem Kc (ha:PE X a ta):PE X (.UnaryOp .Not a pos) (MO ta):=by
 intro pins s σ H Q I h
 refine UnaryOp_ (aL (ha pins s σ H _ I h) fun v s1 ⟨x,H1,I1,r1,q1⟩=>?_)
 obtain ⟨c,rfl,q1⟩:=q1
 cases r1
 exact not_of (wpAny_truthy_bool ⟨.bl (!c),H1,I1,rfl,q1⟩)
end
end L2
namespace L2
open PySem PySem.Spec PyProof.Rows
def aE (K:PySem.W.Frag) (H:Hp) (a:Addr) (xs:List V):Prop:=
 Rd H a (.lst xs)∨
  ∃(o:Obj) (its:Array Value) (n:Nat),K.lookup a = some o∧o.cls = .type "list"∧o.dict = none∧o.data = .seq its n∧its.size≤sizeLine∧Vals xs its.toList
def bF (K:PySem.W.Frag) (H:Hp) (a:Addr) (xs:List V):Prop:=
 Rd H a (.tup xs)∨
  ∃(o:Obj) (its:Array Value) (n:Nat),K.lookup a = some o∧o.cls = .type "tuple"∧o.data = .seq its n∧its.size≤sizeLine∧Vals xs its.toList
def PB:Value→Option V
 | .none=>some .bE
 | .bool b=>some (.bl b)
 | .int i _=>some (.int i)
 | .str x _=>some (.str x)
 | .bytes b _=>some (.mR b)
 | .float b _=>some (.wD b)
 | .ref a=>some (.ref a)
 | .type n=>some (.ty n)
 | _=>none
theorem RelV.abs {x:V} {u:Value} (r:RelV x u):PB u = some x:=by
 cases x with
 | bE=>cases r;rfl
 | bl _=>cases r;rfl
 | int _=>obtain ⟨t,rfl⟩:=r;rfl
 | str _=>obtain ⟨t,rfl⟩:=r;rfl
 | mR _=>obtain ⟨t,rfl⟩:=r;rfl
 | wD _=>obtain ⟨t,rfl⟩:=r;rfl
 | ref _=>cases r;rfl
 | ty _=>cases r;rfl
theorem RelV.inj {x y:V} {u:Value} (r:RelV x u) (q:RelV y u):x = y:=Option.some.inj (r.abs.symm.trans q.abs)
theorem Vals.inj:∀{xs ys:List V} {us:List Value},Vals xs us→Vals ys us→xs = ys
 | _,_,_, .nil, .nil=>rfl
 | _,_,_, .cons r t, .cons r' t'=>by rw [r.inj r',Vals.inj t t']
section
variable {X:Cx} {pins:List (Addr × Obj)} {σ:St} {H:Hp} {s:Shared} {a:Addr} {xs ys:List V}
theorem aE.of {K:PySem.W.Frag} (h:H a = some (.lst xs)):aE K H a xs:= .inl (.inl h)
theorem bF.of {K:PySem.W.Frag} (h:H a = some (.tup xs)):bF K H a xs:= .inl (.inl h)
theorem Inv.list (I:Inv X pins σ H s) (h:aE X.K H a xs):∃its:List Value,Vals xs its∧PlainL s.heap a its.toArray∧xs.length≤sizeLine:=by
 rcases h with h | ⟨o,its,n,hk,hc,hd,hs,hz,r⟩
 · obtain ⟨z,its,n,r,e⟩:=h.ok I.hok
   exact ⟨its,r,⟨_,n,e,rfl,rfl,rfl⟩,z⟩
 · refine ⟨its.toList,r,⟨o,n,I.dN a o hk,hc,hd,by simpa using hs⟩,?_⟩
   have e:=r.length
   simp only [Array.length_toList] at e
   omega
theorem Inv.tuple (I:Inv X pins σ H s) (h:bF X.K H a xs):∃its:List Value,Vals xs its∧IsTup s.heap a its.toArray∧xs.length≤sizeLine:=by
 rcases h with h | ⟨o,its,n,hk,hc,hs,hz,r⟩
 · obtain ⟨z,its,r,p⟩:=h.ok I.hok
   exact ⟨its,r,p,z⟩
 · refine ⟨its.toList,r,⟨o,I.dN a o hk,hc,n,by simpa using hs⟩,?_⟩
   have e:=r.length
   simp only [Array.length_toList] at e
   omega
theorem Inv.FY (I:Inv X pins σ H s) (h:aE X.K H a xs) (h':aE X.K H a ys):xs = ys:=by
 obtain ⟨its,r,⟨o,n,e,_,_,d⟩,_⟩:=I.list h
 obtain ⟨its',r',⟨o',n',e',_,_,d'⟩,_⟩:=I.list h'
 rw [e] at e';cases e'
 rw [d] at d'
 injection d' with d1 _
 have:its = its':=by simpa using congrArg Array.toList d1
 subst this
 exact r.inj r'
end
abbrev Cx.mq (X:Cx) (E:Value→Shared→Prop):Cx:={ X with xe:=E }
abbrev Cx.yz (X:Cx):Cx:=X.mq fun _ _=>False
theorem Cx.Ok.mq {X:Cx} (ok:X.Ok) (E:Value→Shared→Prop):(X.mq E).Ok:=
 ⟨ok.mod,ok.kind,ok.glob,ok.blt,ok.above,ok.inj,ok.has,ok.fL,ok.hd,ok.frames,ok.stk,ok.yw,ok.bs,ok.tW,ok.vz,ok.sO,ok.gF,ok.wG⟩
theorem Cx.Ok.jl {X:Cx} {E:Value→Shared→Prop} (ok:(X.mq E).Ok):X.Ok:=
 ⟨ok.mod,ok.kind,ok.glob,ok.blt,ok.above,ok.inj,ok.has,ok.fL,ok.hd,ok.frames,ok.stk,ok.yw,ok.bs,ok.tW,ok.vz,ok.sO,ok.gF,ok.wG⟩
section
variable {X:Cx} {pins:List (Addr × Obj)} {σ:St} {H:Hp} {s:Shared} {E:Value→Shared→Prop}
theorem Inv.mq (I:Inv X pins σ H s) (E:Value→Shared→Prop):Inv (X.mq E) pins σ H s:=⟨I.ok.mq E,I.os,I.bare,I.base,I.loc,I.cell,I.free,I.eO,I.pin,I.hok,I.len⟩
theorem Inv.jl (I:Inv (X.mq E) pins σ H s):Inv X pins σ H s:=⟨I.ok.jl,I.os,I.bare,I.base,I.loc,I.cell,I.free,I.eO,I.pin,I.hok,I.len⟩
theorem SP.jl {D:Ends} {f:Flow} {s':Shared} (h:SP (X.mq E) pins D f s'):SP X pins D f s':=by
 cases f with
 | next=>obtain ⟨σ',H',I,q⟩:=h;exact ⟨σ',H',I.jl,q⟩
 | brk=>obtain ⟨σ',H',I,q⟩:=h;exact ⟨σ',H',I.jl,q⟩
 | cont=>obtain ⟨σ',H',I,q⟩:=h;exact ⟨σ',H',I.jl,q⟩
 | ret u=>obtain ⟨v,σ',H',I,r,q⟩:=h;exact ⟨v,σ',H',I.jl,r,q⟩
theorem gy.yz {st:List Stmt} {t:TS} (h:gy X.yz st t):gy X st t:=fun pins s σ H D I hw=>
 wpAny_mono (h pins s σ H D (I.mq _) hw) (fun _ _ q=>q.jl) fun _ _ z=>False.elim z
end
section
variable {X:Cx} {st:Stmt} {rest:List Stmt} {t u:TS} {e:Expr} {te:TE} {pos:Pos}
def HN:TS:=fun D σ H=>D.nx σ H
def CM (t u:TS):TS:=fun D σ H=>t { D with nx:=u D } σ H
theorem aJ:gy X [] HN:=fun _ _ σ H _ I h=>wpAny_execs_nil ⟨σ,H,I,h⟩
theorem aj (h1:PS X st t) (h2:gy X rest u):gy X (st :: rest) (CM t u):=by
 intro pins s σ H D I h
 refine wpAny_execs_cons (aL (h1 pins s σ H { D with nx:=u D } I h) fun f s1 q=>?_)
 cases f with
 | next=>
   obtain ⟨σ',H',I',q⟩:=q
   exact h2 pins s1 σ' H' D I' q
 | ret v=>exact q
 | brk=>exact q
 | cont=>exact q
theorem ao (h1:PS X st t):gy X [st] t:=by
 intro pins s σ H D I h
 refine wpAny_execs_cons (aL (h1 pins s σ H D I h) fun f s1 q=>?_)
 cases f with
 | next=>exact wpAny_execs_nil q
 | ret v=>exact q
 | brk=>exact q
 | cont=>exact q
theorem Inv.quiet {pins:List (Addr × Obj)} {σ:St} {H:Hp} {s:Shared} (I:Inv X pins σ H s):interactive X.env = false:=by simp [interactive,I.ok.kind]
def MP (te:TE):TS:=fun D σ H=>te σ H fun _ H1=>D.nx σ H1
theorem fD (he:PE X e te) (hs:swapsWith e none pos.line X.env = pure false:=by rfl):PS X (.Expr e pos) (MP te):=by
 intro pins s σ H D I h
 exact wpAny_Expr_any (aL (he pins s σ H _ I h) fun v s1 ⟨x,H1,I1,r1,q1⟩=>⟨σ,H1,I1,q1⟩) I.quiet hs
def Kd (te:TE):TS:=fun D σ H=>te σ H D.rt
theorem aD (he:PE X e te):PS X (.Return (some e) pos) (Kd te):=by
 intro pins s σ H D I h
 exact wpAny_Return_some (aL (he pins s σ H _ I h) fun v s1 ⟨x,H1,I1,r1,q1⟩=>⟨x,σ,H1,I1,r1,q1⟩)
def Ke (c:TT) (t u:TS):TS:=fun D σ H=>c σ H fun b H1=>if b = true then t D σ H1 else u D σ H1
theorem bh {c:Expr} {a b:List Stmt} {tc:TT} (hc:PT X c tc) (ha:gy X a t) (hb:gy X b u):PS X (.If c a b pos) (Ke tc t u):=by
 intro pins s σ H D I h
 refine wpAny_If (aL (hc pins s σ H _ I h) fun d s1 ⟨H1,I1,q1⟩=>?_)
 cases d with
 | true=>exact ha pins s1 σ H1 D I1 q1
 | false=>exact hb pins s1 σ H1 D I1 q1
def Kf:TS:=fun _ _ _=>False
theorem FZ:PS X st Kf:=fun _ _ _ _ _ _ h=>h.elim
end
abbrev TG:=V→St→Hp→(St→Hp→Prop)→Prop
abbrev tZ:=List V→St→Hp→(St→Hp→Prop)→Prop
def PG (X:Cx) (target:Expr) (t:TG):Prop:=
 ∀(pins:List (Addr × Obj)) (s:Shared) (σ:St) (H:Hp) (v:V) (u:Value) (Q:St→Hp→Prop),Inv X pins σ H s→RelV v u→t v σ H Q→
  wpAny (model X.prog X.w) X.A (assign target X.env u) (fun _ s'=>∃σ' H',Inv X pins σ' H' s'∧Q σ' H') X.xe s
def D8 (X:Cx) (ts:List Expr) (t:tZ):Prop:=
 ∀(pins:List (Addr × Obj)) (s:Shared) (σ:St) (H:Hp) (vs:List V) (us:List Value) (Q:St→Hp→Prop),Inv X pins σ H s→Vals vs us→t vs σ H Q→
  wpAny (model X.prog X.w) X.A (assignInOrder ((assignEach ts X.env).map (·.2)) us) (fun _ s'=>∃σ' H',Inv X pins σ' H' s'∧Q σ' H') X.xe s
abbrev F0:=V→V→V→Hp→(Hp→Prop)→Prop
def Kg (X:Cx) (t:F0):Prop:=
 ∀(pins:List (Addr × Obj)) (s:Shared) (σ:St) (H:Hp) (o i v:V) (ov iv u:Value) (Q:Hp→Prop),Inv X pins σ H s→RelV o ov→RelV i iv→RelV v u→t o i v H Q→
  wpAny (model X.prog X.w) X.A (setItem ov iv u) (fun _ s'=>∃H',Inv X pins σ H' s'∧Q H') X.xe s
section
variable {X:Cx} {pos:Pos}
def dI (i:Nat):TG:=fun v σ H Q=>Q (σ.set i (some v)) H
theorem aZ {i:Nat} {x:Str} (hN:X.N.Nodup) (hi:X.N[i]? = some x) (hx:Loc X.env.scope x) (hf:X.fn x = true∨X.env.scope.names.lookup x = some .local:=by first | exact .inl rfl | exact .inr rfl | assumption):PG X (.Name x pos) (dI i):=by
 intro pins s σ H v u Q I r h
 exact wpAny_assign_Name (kq I hN hi hx r (fun s' I'=>⟨_,H,I',h⟩) hf)
def Kh:tZ:=fun vs σ H Q=>vs = []∧Q σ H
def HP (t:TG) (u:tZ):tZ:=fun vs σ H Q=>∃v r,vs = v :: r∧t v σ H fun σ' H'=>u r σ' H' Q
theorem qF:D8 X [] Kh:=by
 intro pins s σ H vs us Q I r h
 obtain ⟨e,h⟩:=h
 subst e
 cases r
 exact assignInOrder_nil ⟨σ,H,I,h⟩
theorem eN {e:Expr} {es:List Expr} {t:TG} {u:tZ} (h1:PG X e t) (h2:D8 X es u)
  (hs:(assignEach (e :: es) X.env).map (·.2) = assign e X.env :: (assignEach es X.env).map (·.2):=by rfl):D8 X (e :: es) (HP t u):=by
 intro pins s σ H vs us Q I r h
 obtain ⟨v,vr,e1,h⟩:=h
 subst e1
 cases r with
 | cons r rr=>
   rw [hs]
   refine assignInOrder_cons (aL (h1 pins s σ H _ _ _ I r h) fun _ s1 ⟨σ1,H1,I1,q1⟩=>?_)
   exact h2 pins s1 σ1 H1 _ _ Q I1 rr q1
def CN (K:PySem.W.Frag) (n:Nat) (t:tZ):TG:=fun v σ H Q=>∃a xs,v = .ref a∧bF K H a xs∧xs.length = n∧t xs σ H Q
theorem Kl {es:List Expr} {k:Nat} {t:tZ} {n:Nat} (hc:X.calm = true) (h:D8 X es t)
  (hn:(assignEach es X.env).length = n:=by rfl) (hst:(assignEach es X.env).findIdx? (·.1) = none:=by rfl):PG X (.Tuple es k pos) (CN X.K n t):=by
 intro pins s σ H v u Q I r hw
 obtain ⟨a,xs,e1,hq,hl,hw⟩:=hw
 subst e1
 cases r
 obtain ⟨its,rv,ht,hz⟩:=I.tuple hq
 refine assign_Tuple_tuple (I.ok.hd hc) ht (by simp [hn,← hl,rv.length]) hst fun h' hx=>?_
 have I1:Inv X pins σ H { s with heap:=h' }:=I.kept (t':=s.toks) fun b o e=>hx b o (Nat.ne_of_lt (Heap.lt_size e)) e
 exact h pins _ σ H xs _ Q I1 (by simpa using rv) hw
def PD (to ti:TE) (t:F0):TG:=fun v σ H Q=>to σ H fun o H1=>ti σ H1 fun i H2=>t o i v H2 fun H3=>Q σ H3
theorem D9 {o i:Expr} {to ti:TE} {t:F0} (ho:PE X o to) (hi:PE X i ti) (hs:Kg X t)
  (ha:∀v,assign (.Subscript o i pos) X.env v = (do
    let ov ← holding [v] (eval o X.env)
    let iv ← holding [v,ov] (eval i X.env)
    standAt pos
    holding [v,ov,iv] (setItem ov iv v)
    release [v,ov,iv] []):=by intro _;rfl):PG X (.Subscript o i pos) (PD to ti t):=by
 intro pins s σ H v u Q I r h
 rw [ha]
 refine wpAny_bind (wpAny_holding (aL (ho pins s σ H _ I h) fun ov s1 ⟨x,H1,I1,r1,q1⟩=>?_))
 refine wpAny_bind (wpAny_holding (aL (hi pins s1 σ H1 _ I1 q1) fun iv s2 ⟨y,H2,I2,r2,q2⟩=>?_))
 refine wpAny_bind (wpAny_standAt (wpAny_bind (wpAny_holding (aL (hs pins s2 σ H2 x y v ov iv u _ I2 r1 r2 r q2) fun _ s3 ⟨H3,I3,q3⟩=>?_))))
 exact wpAny_release ⟨σ,H3,I3,q3⟩
def sQ (te:TE) (g:TG):TS:=fun D σ H=>te σ H fun x H1=>g x σ H1 D.nx
theorem D_ {tg e:Expr} {te:TE} {g:TG} (he:PE X e te) (hg:PG X tg g) (hs:swapsWithSole [tg] e pos.line X.env = pure false:=by rfl) (hw:swappedStores [tg] e X.env = pure none:=by rfl)
  (h1:(assignEach [tg] X.env).map (·.2) = [assign tg X.env] :=by rfl):PS X (.Assign [tg] e pos) (sQ te g):=by
 intro pins s σ H D I h
 refine wpAny_Assign_stores (aL (he pins s σ H _ I h) fun v s1 ⟨x,H1,I1,r1,q1⟩=>?_) hs hw
 rw [h1]
 exact aL (hg pins s1 σ H1 x v _ I1 r1 q1) fun _ s2 q=>q
theorem aG {i:Nat} {x:Str} {e:Expr} {te:TE} {pos':Pos} (hN:X.N.Nodup) (hi:X.N[i]? = some x) (hx:Loc X.env.scope x) (he:PE X e te) (hs:swapsWith e (some (.Name x pos')) pos.line X.env = pure false:=by rfl) (hf:X.fn x = true∨X.env.scope.names.lookup x = some .local:=by first | exact .inl rfl | exact .inr rfl | assumption):
  PS X (.Assign [.Name x pos'] e pos) (sQ te (dI i)):=by
 intro pins s σ H D I h
 refine wpAny_Assign_Name (aL (he pins s σ H _ I h) fun v s1 ⟨y,H1,I1,r1,q1⟩=>?_) hs
 exact kq I1 hN hi hx r1 (fun s2 I2=>⟨_,H1,I2,q1⟩) hf
def PF (i j:Nat) (ta:TA):TS:=fun D σ H=>ta σ H fun vs H1=>∃v w,vs = [v,w]∧D.nx ((σ.set i (some v)).set j (some w)) H1
theorem Ea {i j:Nat} {x y:Str} {a b:Expr} {ta:TA} {px py pt:Pos} {kt k2 Km} (hc:X.calm = true) (hN:X.N.Nodup) (hi:X.N[i]? = some x) (hj:X.N[j]? = some y) (hij:i ≠ j)
  (hx:X.env.scope.names.lookup x = some .local) (hy:X.env.scope.names.lookup y = some .local) (ha:PA X [a,b] ta)
  (hw:swappedStores [.Tuple [.Name x px, .Name y py] kt pt] (.Tuple [a,b] k2 Km) X.env = pure (some [x,y]))
  (hs:swapsWithSole [.Tuple [.Name x px, .Name y py] kt pt] (.Tuple [a,b] k2 Km) pos.line X.env = pure false:=by rfl):
  PS X (.Assign [.Tuple [.Name x px, .Name y py] kt pt] (.Tuple [a,b] k2 Km) pos) (PF i j ta):=by
 intro pins s σ H D I h
 rw [exec_Assign_arm]
 refine wpAny_bind (wpAny_standAt ?_)
 rw [hs]
 refine wpAny_bind (wpAny_pure ?_)
 rw [if_neg (by decide)]
 refine wpAny_bind (Tuple_ (aL (ha _ pins s σ H _ I h) fun us s1 ⟨vs,H1,I1,r1,q1⟩=>?_))
 obtain ⟨v,w,e1,q1⟩:=q1
 subst e1
 obtain ⟨u1,u2,rfl,rv,rw'⟩:∃u1 u2,us = [u1,u2]∧RelV v u1∧RelV w u2:=by
  cases r1 with
  | cons p q=>
    cases q with
    | cons p' q'=>
      cases q'
      exact ⟨_,_,rfl,p,p'⟩
 refine wpAny_newObj_type ?_ (by show 2≤sizeLine;decide)
 have I2:Inv X pins σ H1 { s1 with heap:=s1.heap.push { cls:= .type "tuple",data:= .seq [u1,u2].toArray } }:=I1.kept (t':=s1.toks) fun b o e=>Heap.get?_push_of_some _ e
 rw [hw]
 refine wpAny_bind (wpAny_pure ?_)
 show wpAny (model X.prog X.w) X.A (do rule "assign.swapped-stores";let items ← unpackItems (.ref s1.heap.objs.size) 2 none;assignInOrder [fun v=>bindName X.env y v,fun v=>bindName X.env x v] items.reverse;pure Flow.next) _ _ _
 refine wpAny_bind (wpAny_rule (wpAny_bind (unpackItems_tuple (items:=#[u1,u2]) (I.ok.hd hc) (IsTup.new s1.heap _) fun h' hx'=>?_)))
 have I3:=I2.kept (h':=h') (t':=s1.toks) fun b o e=>hx' b o (Nat.ne_of_lt (Heap.lt_size e)) e
 show wpAny _ _ (assignInOrder [fun v=>bindName X.env y v,fun v=>bindName X.env x v] [u2,u1] >>= fun _=>pure Flow.next) _ _ _
 refine wpAny_bind (assignInOrder_cons (wpAny_bindName (kq I3 hN hj (.inl hy) rw' (fun s2 I4=>?_) (.inr hy))))
 refine assignInOrder_cons (wpAny_bindName (kq I4 hN hi (.inl hx) rv (fun s3 I5=>assignInOrder_nil (wpAny_pure ?_)) (.inr hx)))
 rw [List.set_comm _ _ (Ne.symm hij)] at I5
 exact ⟨_,H1,I5,q1⟩
end
section
variable {X:Cx} {pos:Pos}
def Kn (c:TT) (tb:TS):TS:=fun D σ H=>∃W:Nat→St→Hp→Prop,(∃m,W m σ H)∧∀m σ H,W m σ H→
 c σ H fun b H1=>if b = true then ∃N:St→Hp→Prop,(∀σ' H',N σ' H'→∃m',m' < m∧W m' σ' H')∧tb { D with nx:=N,ct:=N,bk:=D.nx } σ H1 else D.nx σ H1
theorem sR {c:Expr} {body:List Stmt} {tc:TT} {tb:TS} (hp:PassesOwn (model X.prog X.w) X.A X.env X.xe) (hc:PT X c tc) (hb:gy X body tb):PS X (.While c body [] pos) (Kn tc tb):=by
 intro pins s σ H D I h
 obtain ⟨W,⟨m0,w0⟩,turn⟩:=h
 refine wpAny_While (codeAny_whileLoop (fun n s'=>∃σ' H',Inv X pins σ' H' s'∧W n σ' H') ?_ m0 ⟨σ,H,I,w0⟩)
 rintro n s1 ⟨σ1,H1,I1,w1⟩
 refine wpAny_passesOwn hp (aL (hc pins s1 σ1 H1 _ I1 (turn n σ1 H1 w1)) fun b s2 ⟨H2,I2,q2⟩=>?_)
 cases b with
 | true=>
   obtain ⟨N,hN,q2⟩:=q2
   rw [if_pos rfl]
   refine wpAny_passesOwn hp (aL (hb pins s2 σ1 H2 _ I2 q2) fun f s3 q3=>?_)
   cases f with
   | next=>
     obtain ⟨σ3,H3,I3,n3⟩:=q3
     obtain ⟨m',hm,w3⟩:=hN σ3 H3 n3
     exact ⟨m',hm,σ3,H3,I3,w3⟩
   | cont=>
     obtain ⟨σ3,H3,I3,n3⟩:=q3
     obtain ⟨m',hm,w3⟩:=hN σ3 H3 n3
     exact ⟨m',hm,σ3,H3,I3,w3⟩
   | brk=>exact q3
   | ret v=>exact q3
 | false=>
   rw [if_neg Bool.false_ne_true]
   exact wpAny_execs_nil ⟨σ1,H2,I2,q2⟩
end
structure It where
 go:Nat→Hp→Prop
 mU:Nat→Hp→V→Hp→Prop
 stop:Nat→Hp→Prop
def gU (X:Cx) (pins:List (Addr × Obj)) (H:Hp) (b:Addr):Prop:=
 H b = none∧b ≠ X.env.locals∧b ∉ X.fs∧(b∈X.ex∨X.s₀.heap.objs.size≤b)∧(∀x c,X.env.cells.lookup x = some c→c ≠ b)∧∀p∈X.pn ++ pins,p.1 ≠ b
theorem Inv.yC {X:Cx} {pins:List (Addr × Obj)} {σ:St} {H H':Hp} {s:Shared} {b:Addr} (I:Inv X pins σ H s) (hb:s.heap.objs.size≤b) (hn:H' b = none):gU X pins H' b:=by
 refine ⟨hn,Nat.ne_of_gt (Nat.lt_of_lt_of_le I.lt hb),I.Px hb, .inr (Nat.le_trans I.sz hb),fun x c e z=>?_,fun p hp z=>?_⟩
 · obtain ⟨v,q⟩:=I.cell x c e
   exact absurd (Nat.lt_of_lt_of_le q.lt (by rw [z];exact hb)) (Nat.lt_irrefl _)
 · exact absurd (Nat.lt_of_lt_of_le (Heap.lt_size (I.pin p hp).1) (by rw [z];exact hb)) (Nat.lt_irrefl _)
structure Turn (P:Program) (w:World) (K:PySem.W.Frag) (tg:Expr) (J:It) (fp:List Addr) (it:Addr) (tn:Nat→Heap→Prop):Prop where
 mem:it∈fp
 obj:∀i h,tn i h→∀b∈fp,∃o,h.get? b = some o∧∀v,o.data ≠ .cell v
 keep:∀i h h',tn i h→(∀b∈fp,∀o,h.get? b = some o→h'.get? b = some o)→tn i h'
 item:∀(X:Cx),X.prog = P→X.w = w→X.K = K→X.calm = true→∀(i:Nat) (pins:List (Addr × Obj)) (s:Shared) (σ:St) (H:Hp) (E:Value→Shared→Prop),Inv X pins σ H s→(∀b∈fp,gU X pins H b)→tn i s.heap→J.go i H→
  wpAny (model P w) X.A (pyNext (.ref it)) (fun r s1=>∃u,r = some u∧
   wpAny (model P w) X.A (letOwnedTupleGo tg (.ref it) u) (fun _ s2=>∃x H',Inv X pins σ H' s2∧RelV x u∧J.mU i H x H'∧tn (i + 1) s2.heap∧∀b∈fp,H' b = none) E s1) E s
 done:∀(X:Cx),X.prog = P→X.w = w→X.K = K→X.calm = true→∀(i:Nat) (pins:List (Addr × Obj)) (s:Shared) (σ:St) (H:Hp) (E:Value→Shared→Prop),Inv X pins σ H s→(∀b∈fp,gU X pins H b)→tn i s.heap→J.stop i H→
  wpAny (model P w) X.A (pyNext (.ref it)) (fun r s1=>r = none∧Inv X pins σ H s1) E s
 self:∀(A:Around) (i:Nat) (s:Shared) (Q:Value→Shared→Prop) (E:Value→Shared→Prop),tn i s.heap→Q (.ref it) s→wpAny (model P w) A (pyIter (.ref it)) Q E s
abbrev TI:=St→Hp→(It→Hp→Prop)→Prop
def NQ (X:Cx) (pins:List (Addr × Obj)) (σ:St) (tg:Expr) (R:It→Hp→Prop) (itv:Value) (s2:Shared):Prop:=
 ∃(it:Addr) (fp:List Addr) (tn:Nat→Heap→Prop) (J:It) (H':Hp),itv = .ref it∧Inv X pins σ H' s2∧Turn X.prog X.w X.K tg J fp it tn∧tn 0 s2.heap∧(∀b∈fp,gU X pins H' b)∧R J H'
def PI (X:Cx) (tg iter:Expr) (wi:TI):Prop:=
 ∀(pins:List (Addr × Obj)) (s:Shared) (σ:St) (H:Hp) (R:It→Hp→Prop),Inv X pins σ H s→wi σ H R→
  wpAny (model X.prog X.w) X.A (eval iter X.env) (fun v s1=>wpAny (model X.prog X.w) X.A (pyIter v) (NQ X pins σ tg R) X.xe s1) X.xe s
theorem t7 {M:Model} {A:Around} {E:Value→Shared→Prop} {s:Shared} {tg:Expr} {it:Addr} {u:Value} {o:Obj} {n:String} {vs:Array Value} {Q:Unit→Shared→Prop} (ho:s.heap.get? it = some o) (hc:o.cls = .type n) (hd:o.data = .fields vs)
  (hn:["enumerate","zip","dict_itemiterator","dict_reverseitemiterator","odict_iterator","itertools.zip_longest","itertools.pairwise"].contains n = false) (hQ:Q () s):wpAny M A (letOwnedTupleGo tg (.ref it) u) Q E s:=by
 unfold letOwnedTupleGo
 cases tg <;> first
  | exact wpAny_pure hQ
  | (cases u <;> first
      | exact wpAny_pure hQ
      | (refine wpAny_bind (wpAny_load ho ?_)
         rw [hc,hd]
         show wpAny M A (if (["enumerate","zip","dict_itemiterator","dict_reverseitemiterator","odict_iterator","itertools.zip_longest","itertools.pairwise"].contains n && vs[0]? == some (rawInt _)) = true then _ else _) Q E s
         rw [if_neg (by intro h;rw [hn,Bool.false_and] at h;cases h)]
         exact wpAny_pure hQ))
def t8 (K:PySem.W.Frag) (a:Addr):It:=
 ⟨fun i H=>∃xs x,aE K H a xs∧xs[i]? = some x,fun i H x H'=>H' = H∧∀xs,aE K H a xs→xs[i]? = some x,fun i H=>∃xs,aE K H a xs∧xs.length≤i⟩
def wI (lo:Int) (n:Nat):It:=⟨fun i _=>i < n,fun i H x H'=>H' = H∧x = .int (lo + i),fun i _=>n≤i⟩
theorem Eb {P:Program} {w:World} {K:PySem.W.Frag} {tg:Expr} (a it:Addr):Turn P w K tg (t8 K a) [it] it (fun i h=>h.IsListIter it a i) where
 mem:=by simp
 obj:=fun i h st b hb=>by
  have e:b = it:=by simpa using hb
  subst e
  obtain ⟨o,e,c,d⟩:=st
  exact ⟨o,e,fun v z=>by rw [d] at z;cases z⟩
 keep:=fun i h h' st k=>st.at fun o e=>k it (by simp) o e
 item:=by
  intro X hP hw hK hc i pins s σ H E I hf st hg
  subst hP hw hK
  obtain ⟨xs,x,hq,hx⟩:=hg
  obtain ⟨its,rv,p,hz⟩:=I.list hq
  obtain ⟨u,hu,ru⟩:=rv.get hx
  obtain ⟨f0,f1,f2,f3,f4,f5⟩:=hf it (by simp)
  refine wpAny_pyNext_list_item st p.isList (x:=u) (by simpa using hu) fun h' st' sb=>?_
  have I1:Inv X pins σ H { s with heap:=h' }:=I.turned (t':=s.toks) (fun b o hb e=>(sb.2 b hb).trans e) f0 f1 f3 f4 f5
  obtain ⟨o,e,c,d⟩:=id st'
  exact ⟨u,rfl,t7 (s:={ s with heap:=h' }) e c d (by decide) ⟨x,H,I1,ru,⟨rfl,fun ys hy=>by rw [I.FY hy hq];exact hx⟩,st',fun b hb=>(hf b hb).1⟩⟩
 done:=by
  intro X hP hw hK hc i pins s σ H E I hf st hg
  subst hP hw hK
  obtain ⟨xs,hq,hx⟩:=hg
  obtain ⟨its,rv,p,hz⟩:=I.list hq
  obtain ⟨f0,f1,f2,f3,f4,f5⟩:=hf it (by simp)
  have hl:=rv.length
  exact wpAny_pyNext_list_end (I.ok.hd hc) st p.isList (by simp;omega) fun h' eb=>⟨rfl,I.turned (t':=s.toks) (fun b o hb e=>eb b o hb e) f0 f1 f3 f4 f5⟩
 self:=fun _ _ _ _ _ st h=>wpAny_pyIter_listiter st h
theorem CO {P:Program} {w:World} {K:PySem.W.Frag} {tg:Expr} (it:Addr) (lo:Int) (n:Nat):Turn P w K tg (wI lo n) [it] it (fun i h=>IsRangeIter h it (lo + (i:Nat) * 1) ((n:Int) - (i:Nat)) 1) where
 mem:=by simp
 obj:=fun i h st b hb=>by
  have e:b = it:=by simpa using hb
  subst e
  exact ⟨_,st,fun v z=>by
   have z':Data.fields _ = Data.cell v:=z
   cases z'⟩
 keep:=fun i h h' st k=>k it (by simp) _ st
 item:=by
  intro X hP hw hK hc i pins s σ H E I hf st hg
  subst hP hw hK
  obtain ⟨f0,f1,f2,f3,f4,f5⟩:=hf it (by simp)
  have W:=Walks.range (prog:=X.prog) (w:=X.w) (I.ok.hd hc) it lo 1 n
  refine W.item i s _ _ hg st fun v h' tk hv st' kk=>?_
  obtain ⟨t,rfl⟩:=hv
  have I1:Inv X pins σ H { s with heap:=h',toks:=tk }:=I.turned (fun b o hb e=>kk b o (by simpa using hb) e) f0 f1 f3 f4 f5
  refine ⟨_,rfl,t7 (s:={ s with heap:=h',toks:=tk }) (n:="range_iterator") st' rfl rfl (by decide) ⟨.int (lo + i),H,I1,⟨t,?_⟩,⟨rfl,rfl⟩,st',fun b hb=>(hf b hb).1⟩⟩
  rw [Int.mul_one]
 done:=by
  intro X hP hw hK hc i pins s σ H E I hf st hg
  subst hP hw hK
  obtain ⟨f0,f1,f2,f3,f4,f5⟩:=hf it (by simp)
  exact wpAny_pyNext_range_end (I.ok.hd hc) st (by have:n≤i:=hg;omega) fun h' eb=>⟨rfl,I.turned (t':=s.toks) (fun b o hb e=>eb b o hb e) f0 f1 f3 f4 f5⟩
 self:=fun _ _ _ _ _ st h=>wpAny_pyIter_rangeiter st h
end L2
namespace L2
open PySem PySem.Spec PyProof.Rows
section
variable {X:Cx} {tg:Expr}
def HQ (K:PySem.W.Frag) (tl:TE):TI:=fun σ H R=>tl σ H fun x H1=>∃a,x = .ref a∧(∃xs,aE K H1 a xs)∧R (t8 K a) H1
theorem Jc {l:Expr} {tl:TE} (hl:PE X l tl):PI X tg l (HQ X.K tl):=by
 intro pins s σ H R I h
 refine aL (hl pins s σ H _ I h) fun v s1 ⟨x,H1,I1,r1,q1⟩=>?_
 obtain ⟨a,e,⟨xs,hq⟩,q⟩:=q1
 subst e
 cases r1
 obtain ⟨its,rv,p,hz⟩:=I1.list hq
 refine wpAny_pyIter_list p.isList ?_
 refine ⟨s1.heap.objs.size,[s1.heap.objs.size],_,_,H1,rfl,I1.kept (t':=s1.toks) fun b o e=>Heap.get?_push_of_some _ e,Eb a _,⟨_,Heap.get?_push_size _ rfl,rfl,rfl⟩,fun b hb=>?_,q⟩
 have e:b = s1.heap.objs.size:=by simpa using hb
 subst e
 exact I1.yC (Nat.le_refl _) (I1.hok.fresh (Nat.le_refl _))
theorem F7 {pins:List (Addr × Obj)} {σ:St} {H:Hp} {s:Shared} {R:It→Hp→Prop} {E:Value→Shared→Prop} {lo hi:Int} {t u v:Tok} {tk:Nat} (I:Inv X pins σ H s) (h1:-(2 ^ 62)≤lo) (h2:lo < 2 ^ 62) (h3:-(2 ^ 62)≤hi) (h4:hi < 2 ^ 62)
  (q:R (wI lo (hi - lo).toNat) H):wpAny (model X.prog X.w) X.A (pyIter (.ref s.heap.objs.size)) (NQ X pins σ tg R) E { s with heap:=s.heap.push { cls:= .type "range",data:= .fields #[.int lo t, .int hi u, .int 1 v] },toks:=tk }:=by
 refine wpAny_pyIter_range (IsRange.new ..) (small_one h1 h2 h3 h4) ?_
 have I1:Inv X pins σ H { s with heap:=s.heap.push { cls:= .type "range",data:= .fields #[.int lo t, .int hi u, .int 1 v] },toks:=tk }:=I.kept fun b o e=>Heap.get?_push_of_some _ e
 refine ⟨(s.heap.push { cls:= .type "range",data:= .fields #[.int lo t, .int hi u, .int 1 v] }).objs.size,[(s.heap.push { cls:= .type "range",data:= .fields #[.int lo t, .int hi u, .int 1 v] }).objs.size],_,_,H,rfl,
  I1.kept (t':=tk) fun b o e=>Heap.get?_push_of_some _ e,CO _ lo (hi - lo).toNat,?_,fun b hb=>?_,q⟩
 · have e1:lo + ((0:Nat):Int) * 1 = lo:=by simp
   have e2:(((hi - lo).toNat:Nat):Int) - ((0:Nat):Int) = Builtin.Range.rangeSize lo hi 1:=by rw [rangeSize_one];split <;> omega
   show IsRangeIter _ _ (lo + ((0:Nat):Int) * 1) ((((hi - lo).toNat:Nat):Int) - ((0:Nat):Int)) 1
   rw [e1,e2]
   exact Heap.get?_push_size _ rfl
 · have e:b = (s.heap.push { cls:= .type "range",data:= .fields #[.int lo t, .int hi u, .int 1 v] }).objs.size:=by simpa using hb
   subst e
   exact I1.yC (Nat.le_refl _) (I1.hok.fresh (Nat.le_refl _))
def MQ (ta:TA):TI:=fun σ H R=>ta σ H fun vs H1=>∃j:Int,vs = [.int j]∧-(2 ^ 62)≤j∧j < 2 ^ 62∧R (wI 0 j.toNat) H1
theorem dz {a:Expr} {ta:TA} {p pos:Pos} (hg:Gl X "range") (hm:X.mg "range" = none) (ha:PA X [a] ta) (hs:starEach [a] X.env = [(false,eval a X.env)] :=by rfl):PI X tg (.Call (.Name "range" p) [a] [] pos) (MQ ta):=by
 intro pins s σ H R I h
 refine Call_ (o7 I hg hm boot_range (PyProof.Rows.callWith_type1 (aL (ha pos pins s σ H _ I h) fun us s1 ⟨vs,H1,I1,r1,q1⟩=>?_) hs rfl))
 obtain ⟨j,e,q1,q2,q⟩:=q1
 subst e
 cases r1 with
 | cons r rr=>
   cases rr
   obtain ⟨t,rfl⟩:=r
   exact call_range_1 (F7 I1 (by omega) (by omega) q1 q2 (by simpa using q))
def PJ (wi:TI) (g:TG) (tb:TS):TS:=fun D σ H=>wi σ H fun J H1=>∃W:Nat→Nat→St→Hp→Prop,(∃m,W 0 m σ H1)∧∀i m σ H,W i m σ H→
 (J.stop i H∧D.nx σ H)∨(J.go i H∧∃N:St→Hp→Prop,(∀σ' H',N σ' H'→∃m',m' < m∧W (i + 1) m' σ' H')∧∀x H',J.mU i H x H'→g x σ H' fun σ2 H2=>tb { D with nx:=N,ct:=N,bk:=D.nx } σ2 H2)
def t9 (fp:List Addr) (h:Heap):List (Addr × Obj):=fp.filterMap fun b=>(h.get? b).map fun o=>(b,o)
theorem d8 {fp:List Addr} {h:Heap} {b:Addr} {o:Obj} (hb:b∈fp) (e:h.get? b = some o):(b,o)∈t9 fp h:=List.mem_filterMap.mpr ⟨b,hb,by rw [e];rfl⟩
theorem Ed {fp:List Addr} {h:Heap} {p:Addr × Obj} (hp:p∈t9 fp h):p.1∈fp∧h.get? p.1 = some p.2:=by
 obtain ⟨b,hb,e⟩:=List.mem_filterMap.mp hp
 cases q:h.get? b with
 | none=>rw [q] at e;cases e
 | some o=>
   rw [q] at e
   have e':(b,o) = p:=Option.some.inj e
   subst e'
   exact ⟨hb,q⟩
theorem Inv.pinned {pins:List (Addr × Obj)} {σ:St} {H:Hp} {s:Shared} {fp:List Addr} (I:Inv X pins σ H s) (hf:∀b∈fp,gU X pins H b) (ho:∀b∈fp,∃o,s.heap.get? b = some o∧∀v,o.data ≠ .cell v):Inv X (pins ++ t9 fp s.heap) σ H s:=
 I.BJ fun p hp=>(List.mem_append.mp hp).elim (fun z=>I.pin p (List.mem_append_right _ z)) fun z=>by
   obtain ⟨hb,e⟩:=Ed z
   obtain ⟨f0,f1,f2,_⟩:=hf p.1 hb
   obtain ⟨o,e',d⟩:=ho p.1 hb
   rw [e] at e';cases e'
   exact ⟨e,f0,f1,f2,d⟩
theorem Inv.iR {pins pl:List (Addr × Obj)} {σ:St} {H:Hp} {s:Shared} (I:Inv X (pins ++ pl) σ H s):Inv X pins σ H s:=I.BJ fun p hp=>I.pin p (List.mem_append_right _ (List.mem_append_left _ hp))
theorem dO {iter:Expr} {body:List Stmt} {wi:TI} {g:TG} {tb:TS} {pos:Pos} (hp:PassesOwn (model X.prog X.w) X.A X.env X.xe) (hc:X.calm = true) (hi:PI X tg iter wi) (hg:PG X tg g) (hb:gy X body tb)
  (hs:∀x,foldedSetIterable iter X.env x = pure x:=by intro _;rfl):PS X (.For tg iter body [] pos) (PJ wi g tb):=by
 intro pins s σ H D I h
 refine wpAny_For (aL (hi pins s σ H _ I h) fun v s1 h1=>aL h1 fun itv s2 h2=>?_) hs
 obtain ⟨it,fp,tn,J,H2,e,I2,T,st2,f2,W,⟨m0,w0⟩,turn⟩:=h2
 subst e
 have kr:∀{H':Hp},(∀b∈fp,H' b = none)→∀b∈fp,gU X pins H' b:=fun hn b hb=>⟨hn b hb,(f2 b hb).2⟩
 refine codeAny_forLoop_any (fun n s'=>∃i σ' H',Inv X pins σ' H' s'∧tn i s'.heap∧(∀b∈fp,H' b = none)∧W i n σ' H') ?_ m0 ⟨0,σ,H2,I2,st2,fun b hb=>(f2 b hb).1,w0⟩
 rintro n s3 ⟨i,σ3,H3,I3,st3,NR,w3⟩
 rcases turn i n σ3 H3 w3 with ⟨stop,qn⟩ | ⟨go,N,hN,step⟩
 · refine wpAny_passesOwn hp (aL (T.done X rfl rfl rfl hc i pins s3 σ3 H3 X.xe I3 (kr NR) st3 stop) fun r s4 ⟨hr,I4⟩=>?_)
   subst hr
   exact wpAny_execs_nil ⟨σ3,H3,I4,qn⟩
 · refine wpAny_passesOwn hp (aL (T.item X rfl rfl rfl hc i pins s3 σ3 H3 X.xe I3 (kr NR) st3 go) fun r s4 ⟨u,hr,h4⟩=>?_)
   subst hr
   refine wpAny_passesOwn hp (aL h4 fun _ s5 ⟨x,H5,I5,r5,y5,t_,yD⟩=>?_)
   have Qx:=I5.pinned (kr yD) (T.obj _ _ t_)
   refine wpAny_passesOwn hp (aL (hg _ s5 σ3 H5 x u _ Qx r5 (step x H5 y5)) fun _ s6 ⟨σ6,H6,I6,q6⟩=>?_)
   refine wpAny_passesOwn hp (aL (hb _ s6 σ6 H6 _ I6 q6) fun f s7 q7=>?_)
   have again:∀{σ7:St} {H7:Hp},Inv X (pins ++ t9 fp s5.heap) σ7 H7 s7→N σ7 H7→∃m,m < n∧∃i σ' H',Inv X pins σ' H' s7∧tn i s7.heap∧(∀b∈fp,H' b = none)∧W i m σ' H':=fun {σ7 H7} I7 n7=>by
    obtain ⟨m',hm,w7⟩:=hN σ7 H7 n7
    refine ⟨m',hm,i + 1,σ7,H7,I7.iR,T.keep _ _ _ t_ fun b hb o e=>(I7.pin (b,o) (List.mem_append_right _ (List.mem_append_right _ (d8 hb e)))).1,fun b hb=>?_,w7⟩
    obtain ⟨o,e,d⟩:=T.obj _ _ t_ b hb
    exact (I7.pin (b,o) (List.mem_append_right _ (List.mem_append_right _ (d8 hb e)))).2.1
   cases f with
   | next=>obtain ⟨σ7,H7,I7,n7⟩:=q7;exact again I7 n7
   | cont=>obtain ⟨σ7,H7,I7,n7⟩:=q7;exact again I7 n7
   | brk=>obtain ⟨σ7,H7,I7,q7⟩:=q7;exact ⟨σ7,H7,I7.iR,q7⟩
   | ret v=>obtain ⟨x7,σ7,H7,I7,r7,q7⟩:=q7;exact ⟨x7,σ7,H7,I7.iR,r7,q7⟩
end
theorem nK {K:PySem.W.Frag} {a:Addr} {xs:List V} {g:TG} {tb:TS} {D:Ends} {σ:St} {H:Hp} (Pv:Nat→St→Hp→Prop) (h0:Pv 0 σ H) (hl:∀i σ H,i≤xs.length→Pv i σ H→aE K H a xs)
  (hs:∀i x σ H,xs[i]? = some x→Pv i σ H→g x σ H fun σ2 H2=>tb { D with nx:=Pv (i + 1),ct:=Pv (i + 1),bk:=D.nx } σ2 H2) (hd:∀σ H,Pv xs.length σ H→D.nx σ H):
  ∃W:Nat→Nat→St→Hp→Prop,(∃m,W 0 m σ H)∧∀i m σ H,W i m σ H→
   ((t8 K a).stop i H∧D.nx σ H)∨((t8 K a).go i H∧∃N:St→Hp→Prop,(∀σ' H',N σ' H'→∃m',m' < m∧W (i + 1) m' σ' H')∧∀x H',(t8 K a).mU i H x H'→g x σ H' fun σ2 H2=>tb { D with nx:=N,ct:=N,bk:=D.nx } σ2 H2):=by
 refine ⟨fun i m σ H=>m = xs.length - i∧i≤xs.length∧Pv i σ H,⟨xs.length,by simp,Nat.zero_le _,h0⟩,?_⟩
 rintro i m σ H ⟨rfl,hi,p⟩
 have q:=hl i σ H hi p
 by_cases hlt:i < xs.length
 · refine .inr ⟨⟨xs,xs[i],q,by simp [hlt]⟩,Pv (i + 1),fun σ' H' p'=>⟨xs.length - (i + 1),by omega,rfl,hlt,p'⟩,fun x H' y=>?_⟩
   obtain ⟨e,y⟩:=y
   subst e
   exact hs i x σ _ (y xs q) p
 · have e:i = xs.length:=by omega
   subst e
   exact .inl ⟨⟨xs,q,Nat.le_refl _⟩,hd σ H p⟩
theorem d9 {lo:Int} {n:Nat} {g:TG} {tb:TS} {D:Ends} {σ:St} {H:Hp} (Pv:Nat→St→Hp→Prop) (h0:Pv 0 σ H)
  (hs:∀i σ H,i < n→Pv i σ H→g (.int (lo + i)) σ H fun σ2 H2=>tb { D with nx:=Pv (i + 1),ct:=Pv (i + 1),bk:=D.nx } σ2 H2) (hd:∀σ H,Pv n σ H→D.nx σ H):
  ∃W:Nat→Nat→St→Hp→Prop,(∃m,W 0 m σ H)∧∀i m σ H,W i m σ H→
   ((wI lo n).stop i H∧D.nx σ H)∨((wI lo n).go i H∧∃N:St→Hp→Prop,(∀σ' H',N σ' H'→∃m',m' < m∧W (i + 1) m' σ' H')∧∀x H',(wI lo n).mU i H x H'→g x σ H' fun σ2 H2=>tb { D with nx:=N,ct:=N,bk:=D.nx } σ2 H2):=by
 refine ⟨fun i m σ H=>m = n - i∧i≤n∧Pv i σ H,⟨n,by simp,Nat.zero_le _,h0⟩,?_⟩
 rintro i m σ H ⟨rfl,hi,p⟩
 by_cases hlt:i < n
 · refine .inr ⟨hlt,Pv (i + 1),fun σ' H' p'=>⟨n - (i + 1),by omega,rfl,hlt,p'⟩,fun x H' y=>?_⟩
   obtain ⟨e,y⟩:=y
   subst e y
   exact hs i σ _ hlt p
 · have e:i = n:=by omega
   subst e
   exact .inl ⟨Nat.le_refl _,hd σ H p⟩
end L2
namespace L2
open PySem PySem.Spec PyProof.Rows
abbrev R2:=V→V→Hp→VK→Prop
def dm (X:Cx) (f:Value→Value→Sem Value) (r:R2):Prop:=
 ∀(pins:List (Addr × Obj)) (s:Shared) (σ:St) (H:Hp) (x y:V) (v u:Value) (Q:VK),Inv X pins σ H s→RelV x v→RelV y u→r x y H Q→
  wpAny (model X.prog X.w) X.A (f v u) (EP X pins σ Q) X.xe s
def Ko (X:Cx) (f:Value→Sem Value) (r:V→Hp→VK→Prop):Prop:=
 ∀(pins:List (Addr × Obj)) (s:Shared) (σ:St) (H:Hp) (x:V) (v:Value) (Q:VK),Inv X pins σ H s→RelV x v→r x H Q→
  wpAny (model X.prog X.w) X.A (f v) (EP X pins σ Q) X.xe s
def dS (X:Cx) (f:Value) (r:List V→Hp→VK→Prop):Prop:=
 ∀(pins:List (Addr × Obj)) (s:Shared) (σ:St) (H:Hp) (xs:List V) (us:List Value) (Q:VK),Inv X pins σ H s→Vals xs us→r xs H Q→
  wpAny (model X.prog X.w) X.A (call f us) (EP X pins σ Q) X.xe s
def BK (r:R2) (ta tb:TE):TE:=fun σ H Q=>ta σ H fun x H1=>tb σ H1 fun y H2=>r x y H2 Q
def Qy (r:V→Hp→VK→Prop) (ta:TE):TE:=fun σ H Q=>ta σ H fun x H1=>r x H1 Q
def rI (C:Int→Int→Prop) (g:Int→Int→V):R2:=fun x y H Q=>∃i j,x = .int i∧y = .int j∧C i j∧Q (g i j) H
def wJ (g:Int→Int→V):R2:=fun x y H Q=>∃i j,x = .int i∧y = .int j∧Q (g i j) H
def rU (g:Int→V):V→Hp→VK→Prop:=fun x H Q=>∃i,x = .int i∧Q (g i) H
section
variable {X:Cx} {a b c:Expr} {ta tb tc:TE} {pos:Pos}
theorem F9 (ha:PE X a ta) (hb:PE X b tb) {pins:List (Addr × Obj)} {s:Shared} {σ:St} {H:Hp} {R:V→V→Hp→Prop} (I:Inv X pins σ H s)
  (h:ta σ H fun x H1=>tb σ H1 fun y H2=>R x y H2) {Q:Value→Shared→Prop} {f:Value→Value→Sem Value}
  (hf:∀v u s2 x y H2,Inv X pins σ H2 s2→RelV x v→RelV y u→R x y H2→wpAny (model X.prog X.w) X.A (f v u) Q X.xe s2):
  wpAny (model X.prog X.w) X.A (eval a X.env) (fun v s₁=>wpAny (model X.prog X.w) X.A (eval b X.env) (fun u s₂=>wpAny (model X.prog X.w) X.A (f v u) Q X.xe s₂) X.xe s₁) X.xe s:=by
 refine aL (ha pins s σ H _ I h) fun v s1 ⟨x,H1,I1,r1,q1⟩=>?_
 refine aL (hb pins s1 σ H1 _ I1 q1) fun u s2 ⟨y,H2,I2,r2,q2⟩=>?_
 exact hf v u s2 x y H2 I2 r1 r2 q2
theorem az {op:Operator} {r:R2} (ho:dm X (binaryOp op) r) (ha:PE X a ta) (hb:PE X b tb):PE X (.BinOp a op b pos) (BK r ta tb):=by
 intro pins s σ H Q I h
 exact wpAny_BinOp (F9 ha hb I h fun v u s2 x y H2 I2 rx ry q=>ho pins s2 σ H2 x y v u Q I2 rx ry q)
theorem ua {op:UnaryOp} {r:V→Hp→VK→Prop} (ho:Ko X (unaryOp op) r) (ha:PE X a ta):PE X (.UnaryOp op a pos) (Qy r ta):=by
 intro pins s σ H Q I h
 exact UnaryOp_ (aL (ha pins s σ H _ I h) fun v s1 ⟨x,H1,I1,r1,q1⟩=>ho pins s1 σ H1 x v Q I1 r1 q1)
theorem Ef {f:Value→Value→Sem Value} {C:Int→Int→Prop} {g:Int→Int→Int}
  (rule:∀(i j:Int) (t u:Tok) (s:Shared) (Q:Value→Shared→Prop) (E:Value→Shared→Prop),C i j→Q (.int (g i j) s.toks) { s with toks:=s.toks + 1 }→wpAny (model X.prog X.w) X.A (f (.int i t) (.int j u)) Q E s):
  dm X f (rI C fun i j=> .int (g i j)):=by
 intro pins s σ H x y v u Q I rx ry h
 obtain ⟨i,j,rfl,rfl,hc,q⟩:=h
 obtain ⟨t,rfl⟩:=rx
 obtain ⟨t',rfl⟩:=ry
 exact rule i j t t' s _ _ hc ⟨.int (g i j),H,I.tok _,⟨_,rfl⟩,q⟩
theorem Kq {f:Value→Value→Sem Value} {g:Int→Int→Int}
  (rule:∀(i j:Int) (t u:Tok) (s:Shared) (Q:Value→Shared→Prop) (E:Value→Shared→Prop),Q (.int (g i j) s.toks) { s with toks:=s.toks + 1 }→wpAny (model X.prog X.w) X.A (f (.int i t) (.int j u)) Q E s):
  dm X f (wJ fun i j=> .int (g i j)):=by
 intro pins s σ H x y v u Q I rx ry h
 obtain ⟨i,j,rfl,rfl,q⟩:=h
 obtain ⟨t,rfl⟩:=rx
 obtain ⟨t',rfl⟩:=ry
 exact rule i j t t' s _ _ ⟨.int (g i j),H,I.tok _,⟨_,rfl⟩,q⟩
theorem CP {f:Value→Value→Sem Value} {g:Int→Int→Bool}
  (rule:∀(i j:Int) (t u:Tok) (s:Shared) (Q:Value→Shared→Prop) (E:Value→Shared→Prop),Q (.bool (g i j)) s→wpAny (model X.prog X.w) X.A (f (.int i t) (.int j u)) Q E s):
  dm X f (wJ fun i j=> .bl (g i j)):=by
 intro pins s σ H x y v u Q I rx ry h
 obtain ⟨i,j,rfl,rfl,q⟩:=h
 obtain ⟨t,rfl⟩:=rx
 obtain ⟨t',rfl⟩:=ry
 exact rule i j t t' s _ _ ⟨.bl (g i j),H,I,rfl,q⟩
def F_ (i j:Int):Prop:=0≤j∧j≤1000000∧i.natAbs < 2 ^ 64
def Ga (i j:Int):Prop:=(-(2 ^ 64) < i∧i < 2 ^ 64)∨(-(2 ^ 64) < j∧j < 2 ^ 64)
theorem Ga.ok {i j:Int} (h:Ga i j):IntMulOk i j:=by
 rcases h with ⟨h1,h2⟩ | ⟨h1,h2⟩
 · exact .of_left (intBits_le_64 h1 h2)
 · exact .of_right (intBits_le_64 h1 h2)
theorem bG:dm X (binaryOp .Add) (wJ fun i j=> .int (i + j)):=Kq fun _ _ _ _ _ _ _ q=>add_int q
theorem o_:dm X (binaryOp .Sub) (wJ fun i j=> .int (i - j)):=Kq fun _ _ _ _ _ _ _ q=>sub_int q
theorem fq:dm X (binaryOp .Mult) (rI Ga fun i j=> .int (i * j)):=Ef fun _ _ _ _ _ _ _ hc q=>mul_int q hc.ok
theorem d_:dm X (binaryOp .Mod) (rI (fun _ j=>0 < j) fun i j=> .int (i % j)):=Ef fun i j _ _ _ _ _ hc q=>by
 have h1:(0:Int) < j:=hc
 exact mod_int' (by omega) (by rw [Int.fmod_eq_emod_of_nonneg i (by omega)];exact q)
theorem jm:dm X (binaryOp .Pow) (rI F_ fun i j=> .int (i ^ j.toNat)):=Ef fun _ _ _ _ _ _ _ hc q=>pow_int_small hc.1 hc.2.1 hc.2.2 q
theorem Qz {f:Value→Sem Value} {g:Int→Int}
  (rule:∀(i:Int) (t:Tok) (s:Shared) (Q:Value→Shared→Prop) (E:Value→Shared→Prop),Q (.int (g i) s.toks) { s with toks:=s.toks + 1 }→wpAny (model X.prog X.w) X.A (f (.int i t)) Q E s):
  Ko X f (rU fun i=> .int (g i)):=by
 intro pins s σ H x v Q I rx h
 obtain ⟨i,rfl,q⟩:=h
 obtain ⟨t,rfl⟩:=rx
 exact rule i t s _ _ ⟨.int (g i),H,I.tok _,⟨_,rfl⟩,q⟩
theorem pe:Ko X (unaryOp .USub) (rU fun i=> .int (-i)):=Qz fun _ _ _ _ _ q=>neg_int q
end
def Kr:V→V→Bool
 | .bE, .bE=>true | .bE, .int _=>true | .int _, .bE=>true | .bE, .bl _=>true | .bl _, .bE=>true | .bE, .str _=>true | .str _, .bE=>true
 | .int _, .int _=>true | .bl _, .bl _=>true | .str _, .str _=>true | .mR _, .mR _=>true
 | .int _, .str _=>true | .str _, .int _=>true | .bl _, .str _=>true | .str _, .bl _=>true
 | _,_=>false
def QA:R2:=fun x y H Q=>Kr x y = true∧Q (.bl (decide (x = y))) H
def QB:R2:=fun x y H Q=>Kr x y = true∧Q (.bl (!decide (x = y))) H
theorem BL {i j:Int}:decide (V.int i = V.int j) = (i == j):=by
 rw [Bool.eq_iff_iff]
 simp
theorem Eg {i j:Bool}:decide (V.bl i = V.bl j) = (i == j):=by
 rw [Bool.eq_iff_iff]
 simp
theorem BN {i j:Str}:decide (V.str i = V.str j) = (i == j):=by
 rw [Bool.eq_iff_iff]
 simp
theorem BO {i j:Array UInt8}:decide (V.mR i = V.mR j) = (i.toList == j.toList):=by
 rw [Bool.eq_iff_iff]
 cases i
 cases j
 simp
section
variable {X:Cx} {a b c:Expr} {ta tb tc:TE} {pos:Pos}
theorem bH {pins:List (Addr × Obj)} {σ:St} {H:Hp} {s:Shared} {Q:VK} {k k':Bool} (I:Inv X pins σ H s) (q:Q (.bl k) H) (e:k = k'):EP X pins σ Q (.bool k') s:=by
 subst e
 exact ⟨.bl k,H,I,rfl,q⟩
theorem gW:dm X (compareOp .Eq) QA:=by
 intro pins s σ H x y v u Q I rx ry h
 obtain ⟨hs,q⟩:=h
 cases x with
 | bE=>
   cases rx
   cases y with
   | bE=>cases ry;exact PySem.EqNone.eq_none_none (bH I q (by simp))
   | bl j=>cases ry;exact PySem.EqNone.eq_none_bool (bH I q (by simp))
   | int j=>obtain ⟨t',rfl⟩:=ry;exact PySem.EqNone.eq_none_int (bH I q (by simp))
   | str j=>obtain ⟨t',rfl⟩:=ry;exact PySem.EqNone.eq_none_str (bH I q (by simp))
   | _=>exact absurd (show false = true from hs) Bool.false_ne_true
 | bl i=>
   cases rx
   cases y with
   | bE=>cases ry;exact PySem.EqNone.eq_bool_none (bH I q (by simp))
   | bl j=>cases ry;exact eq_bool (bH I q Eg)
   | str j=>obtain ⟨t',rfl⟩:=ry;exact PySem.EqMixed.eq_bool_str (bH I q (by simp))
   | _=>exact absurd (show false = true from hs) Bool.false_ne_true
 | int i=>
   obtain ⟨t,rfl⟩:=rx
   cases y with
   | bE=>cases ry;exact PySem.EqNone.eq_int_none (bH I q (by simp))
   | int j=>obtain ⟨t',rfl⟩:=ry;exact eq_int (bH I q BL)
   | str j=>obtain ⟨t',rfl⟩:=ry;exact PySem.EqMixed.eq_int_str (bH I q (by simp))
   | _=>exact absurd (show false = true from hs) Bool.false_ne_true
 | str i=>
   obtain ⟨t,rfl⟩:=rx
   cases y with
   | bE=>cases ry;exact PySem.EqNone.eq_str_none (bH I q (by simp))
   | bl j=>cases ry;exact PySem.EqMixed.eq_str_bool (bH I q (by simp))
   | int j=>obtain ⟨t',rfl⟩:=ry;exact PySem.EqMixed.eq_str_int (bH I q (by simp))
   | str j=>obtain ⟨t',rfl⟩:=ry;exact eq_str (bH I q BN)
   | _=>exact absurd (show false = true from hs) Bool.false_ne_true
 | mR i=>
   obtain ⟨t,rfl⟩:=rx
   cases y with
   | mR j=>obtain ⟨t',rfl⟩:=ry;exact PySem.W.eq_bytes (bH I q BO)
   | _=>exact absurd (show false = true from hs) Bool.false_ne_true
 | _=>cases y <;> exact absurd (show false = true from hs) Bool.false_ne_true
theorem gX:dm X (compareOp .NotEq) QB:=by
 intro pins s σ H x y v u Q I rx ry h
 obtain ⟨hs,q⟩:=h
 cases x with
 | bE=>
   cases rx
   cases y with
   | bE=>cases ry;exact PySem.EqNone.ne_none_none (bH I q (by simp))
   | bl j=>cases ry;exact PySem.EqNone.ne_none_bool (bH I q (by simp))
   | int j=>obtain ⟨t',rfl⟩:=ry;exact PySem.EqNone.ne_none_int (bH I q (by simp))
   | str j=>obtain ⟨t',rfl⟩:=ry;exact PySem.EqNone.ne_none_str (bH I q (by simp))
   | _=>exact absurd (show false = true from hs) Bool.false_ne_true
 | bl i=>
   cases rx
   cases y with
   | bE=>cases ry;exact PySem.EqNone.ne_bool_none (bH I q (by simp))
   | bl j=>cases ry;exact ne_bool (bH I q (congrArg not Eg))
   | str j=>obtain ⟨t',rfl⟩:=ry;exact PySem.EqMixed.ne_bool_str (bH I q (by simp))
   | _=>exact absurd (show false = true from hs) Bool.false_ne_true
 | int i=>
   obtain ⟨t,rfl⟩:=rx
   cases y with
   | bE=>cases ry;exact PySem.EqNone.ne_int_none (bH I q (by simp))
   | int j=>obtain ⟨t',rfl⟩:=ry;exact ne_int (bH I q (congrArg not BL))
   | str j=>obtain ⟨t',rfl⟩:=ry;exact PySem.EqMixed.ne_int_str (bH I q (by simp))
   | _=>exact absurd (show false = true from hs) Bool.false_ne_true
 | str i=>
   obtain ⟨t,rfl⟩:=rx
   cases y with
   | bE=>cases ry;exact PySem.EqNone.ne_str_none (bH I q (by simp))
   | bl j=>cases ry;exact PySem.EqMixed.ne_str_bool (bH I q (by simp))
   | int j=>obtain ⟨t',rfl⟩:=ry;exact PySem.EqMixed.ne_str_int (bH I q (by simp))
   | str j=>obtain ⟨t',rfl⟩:=ry;exact ne_str (bH I q (congrArg not BN))
   | _=>exact absurd (show false = true from hs) Bool.false_ne_true
 | mR i=>
   obtain ⟨t,rfl⟩:=rx
   cases y with
   | mR j=>obtain ⟨t',rfl⟩:=ry;exact PySem.W.ne_bytes (bH I q (congrArg not BO))
   | _=>exact absurd (show false = true from hs) Bool.false_ne_true
 | _=>cases y <;> exact absurd (show false = true from hs) Bool.false_ne_true
theorem uc:dm X (compareOp .Lt) (wJ fun i j=> .bl (decide (i < j))):=CP fun _ _ _ _ _ _ _ q=>lt_int q
theorem yh:dm X (compareOp .LtE) (wJ fun i j=> .bl (decide (i≤j))):=CP fun _ _ _ _ _ _ _ q=>le_int q
theorem lN:dm X (compareOp .Gt) (wJ fun i j=> .bl (decide (j < i))):=CP fun _ _ _ _ _ _ _ q=>gt_int q
theorem CQ:dm X (compareOp .GtE) (wJ fun i j=> .bl (decide (j≤i))):=CP fun _ _ _ _ _ _ _ q=>ge_int q
theorem Eh:dm X (compareOp .In) (fun x y H Q=>∃i j,x = .str i∧y = .str j∧Q (.bl (!(Builtin.Str.occurrences j i 0 j.length 1).isEmpty)) H):=by
 intro pins s σ H x y v u Q I rx ry h
 obtain ⟨i,j,rfl,rfl,q⟩:=h
 obtain ⟨t,rfl⟩:=rx
 obtain ⟨t',rfl⟩:=ry
 exact in_str (bH I q rfl)
theorem yE:dm X (compareOp .NotIn) (fun x y H Q=>∃i j,x = .str i∧y = .str j∧Q (.bl (!(!(Builtin.Str.occurrences j i 0 j.length 1).isEmpty))) H):=by
 intro pins s σ H x y v u Q I rx ry h
 obtain ⟨i,j,rfl,rfl,q⟩:=h
 obtain ⟨t,rfl⟩:=rx
 obtain ⟨t',rfl⟩:=ry
 exact notIn_str (bH I q rfl)
theorem aY (b:Expr) {op:CmpOp} (h:op ≠ .In:=by decide) (h2:op ≠ .NotIn:=by decide):behindInMarks op b = false:=by
 have e1:(op == CmpOp.In) = false:=by cases op <;> first | rfl | exact absurd rfl h
 have e2:(op == CmpOp.NotIn) = false:=by cases op <;> first | rfl | exact absurd rfl h2
 cases b <;> simp [behindInMarks,e1,e2]
theorem kj {op:CmpOp} {r:R2} (ho:dm X (compareOp op) r) (ha:PE X a ta) (hb:PE X b tb) (hm:behindInMarks op b = false):PE X (.Compare a [op] [b] pos) (BK r ta tb):=by
 intro pins s σ H Q I h
 exact wpAny_Compare1 (F9 ha hb I h fun v u s2 x y H2 I2 rx ry q=>ho pins s2 σ H2 x y v u Q I2 rx ry q) hm
def MR (t:TE):TT:=fun σ H Q=>t σ H fun x H'=>∃k,x = .bl k∧Q k H'
theorem aM {op:CmpOp} {r:R2} (ho:dm X (compareOp op) r) (ha:PE X a ta) (hb:PE X b tb) (hm:behindInMarks op b = false):PT X (.Compare a [op] [b] pos) (MR (BK r ta tb)):=by
 intro pins s σ H Q I h
 refine wpAny_isTrue_Compare1 (aL (ha pins s σ H _ I h) fun v s1 ⟨x,H1,I1,r1,q1⟩=>aL (hb pins s1 σ H1 _ I1 q1) fun u s2 ⟨y,H2,I2,r2,q2⟩=>
  aL (ho pins s2 σ H2 x y v u _ I2 r1 r2 q2) fun c s3 ⟨z,H3,I3,r3,k,e,q3⟩=>?_) hm
 subst e
 cases r3
 exact wpAny_truthy_bool ⟨H3,I3,q3⟩
def Ks (r r':R2) (ta tb tc:TE):TE:=fun σ H Q=>ta σ H fun x H1=>tb σ H1 fun y H2=>r x y H2 fun z H3=>∃k,z = .bl k∧
 (if k = true then tc σ H3 fun w' H4=>r' y w' H4 Q else Q (.bl false) H3)
theorem Gb {op op':CmpOp} {r r':R2} (ho:dm X (compareOp op) r) (ho':dm X (compareOp op') r') (ha:PE X a ta) (hb:PE X b tb) (hc:PE X c tc)
  (hm:lastMarks [op,op'] [b,c] = false:=by with_unfolding_all rfl):PE X (.Compare a [op,op'] [b,c] pos) (Ks r r' ta tb tc):=by
 intro pins s σ H Q I h
 refine Compare_chain (aL (ha pins s σ H _ I h) fun v s1 ⟨x,H1,I1,r1,q1⟩=>chain_link (aL (hb pins s1 σ H1 _ I1 q1) fun u s2 ⟨y,H2,I2,r2,q2⟩=>
  aL (ho pins s2 σ H2 x y v u _ I2 r1 r2 q2) fun d s3 ⟨z,H3,I3,r3,k,e,q3⟩=>?_)) hm
 subst e
 cases r3
 refine wpAny_truthy_bool ?_
 cases k with
 | false=>exact ite_ff ⟨.bl false,H3,I3,rfl,q3⟩
 | true=>exact ite_tt (chain_last (aL (hc pins s3 σ H3 _ I3 q3) fun w' s4 ⟨z',H4,I4,r4,q4⟩=>ho' pins s4 σ H4 y z' u w' Q I4 r2 r4 q4))
theorem mV:(sizeLine:Nat) < 2 ^ 63:=by rw [sizeLine_eq];decide
theorem ud:dm X (binaryOp .Add) (fun x y H Q=>∃i j,x = .str i∧y = .str j∧i.length + j.length≤sizeLine∧Q (.str (i ++ j)) H):=by
 intro pins s σ H x y v u Q I rx ry h
 obtain ⟨i,j,rfl,rfl,hz,q⟩:=h
 obtain ⟨t,rfl⟩:=rx
 obtain ⟨t',rfl⟩:=ry
 exact add_str (fun t' tk=>⟨.str (i ++ j),H,I.tok _,⟨_,rfl⟩,q⟩) hz
theorem vals1 {x:V} {us:List Value} (r:Vals [x] us):∃u,us = [u]∧RelV x u:=by
 cases r with
 | cons r1 r2=>cases r2;exact ⟨_,rfl,r1⟩
theorem vals2 {x y:V} {us:List Value} (r:Vals [x,y] us):∃u w',us = [u,w']∧RelV x u∧RelV y w':=by
 cases r with
 | cons r1 r2=>
   cases r2 with
   | cons r3 r4=>cases r4;exact ⟨_,_,rfl,r1,r3⟩
theorem Gd:dS X (.builtin "abs") (fun xs H Q=>∃i,xs = [.int i]∧Q (.int (if i < 0 then -i else i)) H):=by
 intro pins s σ H xs us Q I r h
 obtain ⟨i,rfl,q⟩:=h
 obtain ⟨u,rfl,t,rfl⟩:=vals1 r
 exact call_abs_int fun u tk=>⟨.int (if i < 0 then -i else i),H,I.tok _,⟨_,rfl⟩,q⟩
theorem Ei (hc:X.calm = true):dS X (.builtin "min") (fun xs H Q=>∃i j,xs = [.int i, .int j]∧Q (.int (if j < i then j else i)) H):=by
 intro pins s σ H xs us Q I r h
 obtain ⟨i,j,rfl,q⟩:=h
 obtain ⟨u,w',rfl,⟨t,rfl⟩,⟨t',rfl⟩⟩:=vals2 r
 refine min_two_ints (I.ok.hd hc) fun h' tk k=>⟨_,H,I.kept k,?_,q⟩
 by_cases hj:j < i
 · rw [if_pos hj,if_pos hj];exact ⟨_,rfl⟩
 · rw [if_neg hj,if_neg hj];exact ⟨_,rfl⟩
end
end L2
namespace L2
open PySem PySem.Spec PyProof.Rows
structure sS (h:Heap) (x dx C:Addr) (mA:Str→Option Value):Prop where
 obj:h.get? x = some (PySem.W.instObj C dx)
 ns:h.Ns1 dx mA
 ne:dx ≠ x
theorem Ej {h:Heap} {dx:Addr} {mA:Str→Option Value} (n:h.Ns1 dx mA):∃od,h.get? dx = some od∧∀name,PySem.W.lookIn name od = some (mA name):=by
 obtain ⟨o,es,ep,ho,hd,hk,_,hm⟩:=n
 refine ⟨o,ho,fun name=>?_⟩
 have e:=hm name
 unfold nsFind findBy at e
 rw [← Array.find?_toList] at e
 unfold PySem.W.lookIn
 rw [hd]
 dsimp only
 split
 · rename_i y q
   rw [q] at e
   exact congrArg some e
 · rename_i q
   rw [q] at e
   have a:es.toList.any (·.refKey) = false:=by
    rw [List.any_eq_false]
    intro y hy
    obtain ⟨z,t,hkey⟩:=hk y (Array.mem_toList_iff.mp hy)
    simp [DictEntry.refKey,hkey]
   have a':¬ es.toList.any (·.refKey) = true:=by rw [a];exact Bool.false_ne_true
   rw [if_neg a']
   exact congrArg some e
theorem sS.look {h:Heap} {x dx C:Addr} {mA:Str→Option Value} (I:sS h x dx C mA):∃od,PySem.W.InstAt h x (PySem.W.instObj C dx) C (some od)∧∀name,PySem.W.lookIn name od = some (mA name):=
 let ⟨od,ho,hl⟩:=Ej I.ns
 ⟨od,⟨I.obj,rfl,rfl,ho⟩,hl⟩
section
variable {prog:Program} {w:World} {A:Around} {E:Value→Shared→Prop} {s:Shared} {K:PySem.W.Frag} {x dx C f:Addr} {mA:Str→Option Value} {name:Str} {v:Value}
theorem get_map {expr:Bool} {Q:Value→Shared→Prop} (X:K.In s.heap) (I:sS s.heap x dx C mA) (hg:PySem.W.plainGet K C name = true) (hh:PySem.W.hasDictIn K C = true)
  (ha:PySem.W.findIn K (.ref C) name = some none) (hv:mA name = some v) (hv':PySem.W.handedIn v = true) (h:Q v { s with toks:=s.toks + 1 }):
  wpAny (model prog w) A (getAttr (.ref x) name expr) Q E s:=by
 obtain ⟨od,J,hl⟩:=I.look
 exact PySem.W.get_value X J (PySem.W.plainGet_of hg).1 (PySem.W.findObj_own hh ha rfl (by rw [hl,hv])) hv' h
theorem Ge {pl:Sem Bool} {Q:Value × List Value→Shared→Prop} (X:K.In s.heap) (I:sS s.heap x dx C mA) (hg:PySem.W.plainGet K C name = true)
  (hf:PySem.W.findIn K (.ref C) name = some (some (.ref f))) (ht:PySem.W.isFn K (.ref f) = true) (hv:mA name = none) (h:Q (.ref f,[.ref x]) s):
  wpAny (model prog w) A (getMethod (.ref x) name pl) Q E s:=by
 obtain ⟨od,J,hl⟩:=I.look
 exact PySem.W.method_fn X J (PySem.W.plainGet_of hg).1 (PySem.W.plainGet_of hg).2 hf (beq_iff_eq.mp ht) (by show (PySem.W.lookIn name od).map (·.isSome) = some false;rw [hl,hv];rfl) h
theorem Jd {ns:List Str} {Q:Unit→Shared→Prop} (X:K.In s.heap) (I:sS s.heap x dx C mA)
  (hs:PySem.W.findIn K (.ref C) "__setattr__" = some (some (.builtin "object.__setattr__"))) (hp:PySem.W.plainOver K C = true) (ht:PySem.W.takerIn K C name = some none) (hh:PySem.W.hasDictIn K C = true)
  (hw:PySem.Within mA ns) (hsz:ns.length≤sizeLine)
  (h:∀h',sS h' x dx C (fun y=>if y = name then some v else mA y)→Heap.SameBut dx s.heap h'→Q () { s with heap:=h',toks:=s.toks + 2 }):
  wpAny (model prog w) A (setAttr (.ref x) name v) Q E s:=by
 obtain ⟨od,J,hl⟩:=I.look
 refine PySem.W.set_plain X J hs (PySem.W.osa_open (s:={ s with toks:=s.toks + 1 }) (r:=none) X J hp ht fun b=>?_)
 obtain ⟨cd,hc,hd'⟩:=PySem.W.any_some hh
 have hx:s.heap.get? x = some ⟨.ref C,some dx, .plain,#[]⟩:=I.obj
 refine wpAny_bind (wpAny_pure (wpAny_bind (wpAny_bind (wpAny_loadPart hx (wpAny_bind (PySem.W.Looks.here (s:={ s with toks:=s.toks + 1 }) (PySem.W.looks_clsIn X hc) ?_))))))
 rw [hd']
 refine wpAny_pure (a:=some dx) (wpAny_bind (wpAny_pure (wpAny_bind ?_)))
 refine wpAny_nsSet1 (s:={ s with toks:=s.toks + 1 }) I.ns fun h' hn2 hs2=>?_
 obtain ⟨oD,esD,Sl,QC,QD,QE⟩:=hn2.count (PySem.Within.cons name v hw)
 refine wpAny_bind (wpAny_lookBehind QC (by rw [QD];exact pastItsLine_dict (Nat.le_trans QE (by rw [List.length_cons];omega))) ?_)
 exact wpAny_pure (h _ ⟨(hs2.2 _ (Ne.symm I.ne)).trans I.obj,hn2,I.ne⟩ hs2)
theorem Gf {R:Result→Shared→Prop} {vs:List Value} {kw:List (Str × Value)} (X:K.In s.heap) (hm:PySem.W.makesIn K C = true)
  (hi:PySem.W.findIn K (.ref C) "__init__" = some (some (.ref f))) (hf:PySem.W.typeIn K (.ref f) = some (.type "function"))
  (h:codeAny (model prog w) (A.under (.builtin "type.__call__" ⟨.ref C :: vs,kw⟩)) (.call (.ref f) ⟨.ref (s.heap.objs.size + 1) :: vs,kw⟩) (PySem.W.InitBack (s.heap.objs.size + 1) R)
    { s with heap:=(s.heap.push PySem.W.emptyDict).push (PySem.W.instObj C s.heap.objs.size) }):
  codeAny (model prog w) A (.call (.ref C) ⟨vs,kw⟩) R s:=by
 obtain ⟨hh,g,d,t,os⟩:=s
 exact PySem.W.make_core (PySem.W.makes_of X hm) (PySem.W.looks_findIn X hi) (fun self=>PySem.W.bind_fn X self hf) (.inl rfl) h
end
def aH (f:Str) (v:V):List (Str × V)→List (Str × V)
 | []=>[(f,v)]
 | (g,x) :: r=>if g = f then (g,v) :: r else (g,x) :: aH f v r
theorem rG (f g:Str) (v:V):∀fs:List (Str × V),(aH f v fs).lookup g = if g = f then some v else fs.lookup g
 | []=>by
   show List.lookup g [(f,v)] = _
   by_cases h:g = f
   · have hb:(g == f) = true:=beq_iff_eq.mpr h
     simp only [List.lookup,hb,if_pos h]
   · have hb:(g == f) = false:=beq_eq_false_iff_ne.mpr h
     simp only [List.lookup,hb,if_neg h]
 | (k,x) :: r=>by
   have ih:=rG f g v r
   rw [show aH f v ((k,x) :: r) = (if k = f then (k,v) :: r else (k,x) :: aH f v r) from rfl]
   by_cases hk:k = f
   · rw [if_pos hk]
     by_cases h:g = k
     · have hb:(g == k) = true:=beq_iff_eq.mpr h
       simp only [List.lookup,hb,if_pos (h.trans hk)]
     · have hb:(g == k) = false:=beq_eq_false_iff_ne.mpr h
       simp only [List.lookup,hb,if_neg (fun e:g = f=>h (e.trans hk.symm))]
   · rw [if_neg hk]
     by_cases h:g = k
     · have hb:(g == k) = true:=beq_iff_eq.mpr h
       simp only [List.lookup,hb,if_neg (fun e:g = f=>hk (h.symm.trans e))]
     · have hb:(g == k) = false:=beq_eq_false_iff_ne.mpr h
       simp only [List.lookup,hb]
       exact ih
theorem pq (f:Str) (v:V):∀fs:List (Str × V),f∈(aH f v fs).map (·.1)∧∀g,g∈fs.map (·.1)→g∈(aH f v fs).map (·.1)
 | []=>⟨by simp [aH],fun g h=>by simp at h⟩
 | (k,x) :: r=>by
   obtain ⟨i1,i2⟩:=pq f v r
   rw [show aH f v ((k,x) :: r) = (if k = f then (k,v) :: r else (k,x) :: aH f v r) from rfl]
   by_cases hk:k = f
   · rw [if_pos hk]
     subst hk
     exact ⟨by simp,fun g h=>by simpa using h⟩
   · rw [if_neg hk]
     refine ⟨?_,fun g h=>?_⟩
     · rw [List.map_cons]
       exact List.mem_cons_of_mem _ i1
     · rw [List.map_cons] at h ⊢
       rcases List.mem_cons.mp h with e | e
       · exact List.mem_cons.mpr (.inl e)
       · exact List.mem_cons_of_mem _ (i2 g e)
theorem rH (f:Str) (v:V):∀fs:List (Str × V),(aH f v fs).length≤fs.length + 1
 | []=>by simp [aH]
 | (k,x) :: r=>by
   have ih:=rH f v r
   rw [show aH f v ((k,x) :: r) = (if k = f then (k,v) :: r else (k,x) :: aH f v r) from rfl]
   by_cases hk:k = f
   · rw [if_pos hk,List.length_cons,List.length_cons];omega
   · rw [if_neg hk,List.length_cons,List.length_cons];omega
theorem gk.some_of {v:V} {o:Option Value} (r:gk (some v) o):∃u,o = some u∧RelV v u:=by
 cases o with
 | none=>exact (show False from r).elim
 | some u=>exact ⟨u,rfl,r⟩
theorem gk.none_of {o:Option Value} (r:gk none o):o = none:=by
 cases o with
 | none=>rfl
 | some u=>exact (show False from r).elim
theorem Ek {v:V} {u:Value} (r:RelV v u):PySem.W.handedIn u = true:=by
 cases v with
 | bE=>cases (show u = Value.none from r);rfl
 | bl b=>cases (show u = Value.bool b from r);rfl
 | int i=>obtain ⟨t,e⟩:=(show ∃t,u = Value.int i t from r);cases e;rfl
 | str x=>obtain ⟨t,e⟩:=(show ∃t,u = Value.str x t from r);cases e;rfl
 | mR b=>obtain ⟨t,e⟩:=(show ∃t,u = Value.bytes b t from r);cases e;rfl
 | wD b=>obtain ⟨t,e⟩:=(show ∃t,u = Value.float b t from r);cases e;rfl
 | ref a=>cases (show u = Value.ref a from r);rfl
 | ty n=>cases (show u = Value.type n from r);rfl
section
variable {P:Program} {w:World} {H H':Hp} {h h':Heap} {a C dx:Addr} {fs fs':List (Str × V)}
theorem qG (hok:dj P w H h) (e:H a = some (.ins C dx fs)):∃mA,sS h a dx C mA∧(∀f,gk (fs.lookup f) (mA f))∧PySem.Within mA (fs.map (·.1))∧fs.length≤1000∧H dx = some (.own a):=by
 obtain ⟨d,z,ne,ob,mA,n,r,q⟩:=(show bT P w H h a (.ins C dx fs) from hok a _ e)
 exact ⟨mA,⟨ob,n,ne⟩,r,q,z,d⟩
end
structure jq (K:PySem.W.Frag) (C:Addr):Prop where
 pg:PySem.W.plainGet K C Str.empty = true
 hd:PySem.W.hasDictIn K C = true
 po:PySem.W.plainOver K C = true
 sa:PySem.W.findIn K (.ref C) "__setattr__" = some (some (.builtin "object.__setattr__"))
theorem jq.get {K:PySem.W.Frag} {C:Addr} (c:jq K C) (f:Str):PySem.W.plainGet K C f = true:=c.pg
def cG (K:PySem.W.Frag) (C:Addr) (f:Str):Prop:=PySem.W.findIn K (.ref C) f = some none
theorem cG.MS {K:PySem.W.Frag} {C:Addr} {f:Str} (n:cG K C f):PySem.W.takerIn K C f = some none:=by
 unfold PySem.W.takerIn
 rw [show PySem.W.findIn K (.ref C) f = some none from n]
 rfl
structure Meth (K:PySem.W.Frag) (C:Addr) (m:Str) (f:Addr):Prop where
 at_:PySem.W.findIn K (.ref C) m = some (some (.ref f))
 fn:PySem.W.isFn K (.ref f) = true
 kp:PySem.W.keepIn K (.ref f) = true
section
variable {X:Cx} {pins:List (Addr × Obj)} {σ:St} {H:Hp} {s:Shared} {a C dx:Addr} {fs:List (Str × V)} {f:Str} {v:V} {A:Around} {E:Value→Shared→Prop}
theorem CS {b:Bool} {Q:Value→Shared→Prop} (I:Inv X pins σ H s) (e:H a = some (.ins C dx fs)) (c:jq X.K C) (n:cG X.K C f) (l:fs.lookup f = some v)
  (h:∀u s',Inv X pins σ H s'→RelV v u→Q u s'):wpAny (model X.prog X.w) A (getAttr (.ref a) f b) Q E s:=by
 obtain ⟨mA,O,r,_,_,_⟩:=qG I.hok e
 obtain ⟨u,hu,ru⟩:=gk.some_of (v:=v) (o:=mA f) (by rw [← l];exact r f)
 exact get_map I.dN O (c.get f) c.hd n hu (Ek ru) (h u _ (I.tok _) ru)
theorem ue {m:Str} {g:Addr} {pl:Sem Bool} {Q:Value × List Value→Shared→Prop} (I:Inv X pins σ H s) (e:H a = some (.ins C dx fs)) (c:jq X.K C) (k:Meth X.K C m g) (l:fs.lookup m = none)
  (h:Q (.ref g,[.ref a]) s):wpAny (model X.prog X.w) A (getMethod (.ref a) m pl) Q E s:=by
 obtain ⟨mA,O,r,_,_,_⟩:=qG I.hok e
 have hn:mA m = none:=gk.none_of (by rw [← l];exact r m)
 exact Ge I.dN O (c.get m) k.at_ k.fn hn h
theorem CT {y:V} {u:Value} {Q:Unit→Shared→Prop} (I:Inv X pins σ H s) (e:H a = some (.ins C dx fs)) (c:jq X.K C) (n:cG X.K C f) (hl:fs.length < 1000) (ry:RelV y u)
  (h:∀s',Inv X pins σ (upd H a (.ins C dx (aH f y fs))) s'→Q () s'):wpAny (model X.prog X.w) A (setAttr (.ref a) f u) Q E s:=by
 obtain ⟨mA,O,r,wi,_,ho⟩:=qG I.hok e
 have hz:(fs.map (·.1)).length≤sizeLine:=by rw [List.length_map,sizeLine_eq];omega
 refine Jd I.dN O c.sa c.po n.MS c.hd wi hz fun h' O' sb=>h _ ?_
 have hd:∃o,h'.get? dx = some o:=let ⟨o,_,_,e',_⟩:=O'.ns;⟨o,e'⟩
 refine I.write (x:=a) (e:=dx) (by rw [e];exact True.intro) (.inr ho) (fun b q hb z=>(sb.2 b hb).trans z) hd ?_
 refine ⟨by rw [ak O.ne];exact ho,?_,O.ne,O'.obj,_,O'.ns,fun g=>?_,fun g hg=>?_⟩
 · have:=rH f y fs;omega
 · show gk ((aH f y fs).lookup g) (if g = f then some u else mA g)
   rw [rG]
   by_cases q:g = f
   · rw [if_pos q,if_pos q];exact ry
   · rw [if_neg q,if_neg q];exact r g
 · by_cases q:g = f
   · rw [q];exact (pq f y fs).1
   · refine (pq f y fs).2 g (wi g fun z=>hg ?_)
     show (if g = f then some u else mA g) = none
     rw [if_neg q];exact z
theorem Inv.made (I:Inv X pins σ H s):Inv X pins σ (upd (upd H s.heap.objs.size (.own (s.heap.objs.size + 1))) (s.heap.objs.size + 1) (.ins C s.heap.objs.size []))
  { s with heap:=(s.heap.push PySem.W.emptyDict).push (PySem.W.instObj C s.heap.objs.size) }:=by
 have e1:(s.heap.push PySem.W.emptyDict).get? s.heap.objs.size = some PySem.W.emptyDict:=Heap.get?_push_size s.heap rfl
 have e2:((s.heap.push PySem.W.emptyDict).push (PySem.W.instObj C s.heap.objs.size)).get? (s.heap.objs.size + 1) = some (PySem.W.instObj C s.heap.objs.size):=by
  have:=Heap.get?_push_size (s.heap.push PySem.W.emptyDict) (o:=PySem.W.instObj C s.heap.objs.size) rfl
  rwa [Heap.size_push] at this
 have e3:(s.heap.push PySem.W.emptyDict).Ns s.heap.objs.size (fun _=>none):=⟨PySem.W.emptyDict,#[],_,e1,rfl,(fun e he=>absurd he (by simp)),fun _=>rfl⟩
 have I1:=I.laid (a:=s.heap.objs.size) (o:= .own (s.heap.objs.size + 1)) (h':=s.heap.push PySem.W.emptyDict) (t':=s.toks) (fun b u q=>Heap.get?_push_of_some _ q) (Nat.le_refl _) ⟨_,e1⟩
 refine I1.laid (a:=s.heap.objs.size + 1) (o:= .ins C s.heap.objs.size []) (t':=s.toks) (fun b u q=>Heap.get?_push_of_some _ q) (Nat.le_of_eq (Heap.size_push _ _)) ?_
 have ne:s.heap.objs.size ≠ s.heap.objs.size + 1:=Nat.ne_of_lt (Nat.lt_succ_self _)
 refine ⟨by rw [ak ne,ai],Nat.zero_le _,ne,e2,fun _=>none,(Heap.Ns1.of_empty e3).at fun o q=>Heap.get?_push_of_some _ q,fun _=>True.intro,fun y hy=>absurd rfl hy⟩
theorem Je {prog:Program} {w:World} {env:Env} {e:Expr} {f:Str} {pos:Pos} {s:Shared} {Q:Value→Shared→Prop} (hb:attributeBase e f env (eval e env) = eval e env)
  (h:wpAny (model prog w) A (eval e env) (fun o s₁=>wpAny (model prog w) A (getAttr o f true) Q E s₁) E s):wpAny (model prog w) A (eval (.Attribute e f pos) env) Q E s:=
 Attribute_any_ h (by rw [arm_eval_Attribute,hb])
end
def Ku (K:PySem.W.Frag) (ta:TE) (f:Str):TE:=fun σ H Q=>ta σ H fun x H1=>∃a C dx fs v,x = .ref a∧H1 a = some (.ins C dx fs)∧jq K C∧cG K C f∧fs.lookup f = some v∧Q v H1
def Kv (K:PySem.W.Frag) (ta tv:TE) (f:Str):TS:=fun D σ H=>tv σ H fun y H1=>ta σ H1 fun x H2=>∃a C dx fs,x = .ref a∧H2 a = some (.ins C dx fs)∧jq K C∧cG K C f∧fs.length < 1000∧
 D.nx σ (upd H2 a (.ins C dx (aH f y fs)))
section
variable {X:Cx} {o e value:Expr} {f:Str} {pos pos' tpos:Pos} {ta tv:TE}
theorem Kw (he:PE X e ta) (hb:attributeBase e f X.env (eval e X.env) = eval e X.env):PE X (.Attribute e f pos) (Ku X.K ta f):=by
 intro pins s σ H Q I h
 refine Je hb (aL (he pins s σ H _ I h) fun u s1 ⟨x,H1,I1,rx,a,C,dx,fs,v,ex,ea,c,n,l,q⟩=>?_)
 subst ex
 obtain rfl:u = Value.ref a:=rx
 exact CS I1 ea c n l fun u' s2 I2 ru=>⟨v,H1,I2,ru,q⟩
theorem Ky (ha:PE X o ta) (hv:PE X value tv) (hs:swapsWith value (some (.Attribute o f pos')) pos.line X.env = pure false):PS X (.Assign [.Attribute o f pos'] value pos) (Kv X.K ta tv f):=by
 intro pins s σ H D I h
 refine plainObj_wpAny_Assign_Attribute (aL (hv pins s σ H _ I h) fun u s1 ⟨y,H1,I1,ry,q⟩=>aL (ha pins s1 σ H1 _ I1 q) fun ov s2 ⟨x,H2,I2,rx,a,C,dx,fs,ex,ea,c,n,l,q2⟩=>?_) hs
 subst ex
 obtain rfl:ov = Value.ref a:=rx
 exact CT I2 ea c n l ry fun s3 I3=>⟨σ,_,I3,q2⟩
end
section
variable {X:Cx} {pins:List (Addr × Obj)} {σ:St} {H:Hp} {s:Shared} {A:Around} {E:Value→Shared→Prop} {Q:Value→Shared→Prop} {c:Value} {b:Bool}
inductive c_ (K:PySem.W.Frag) (H:Hp):V→Value→Prop where
 | bE:c_ K H .bE (.type "NoneType")
 | bl (x:Bool):c_ K H (.bl x) (.type "bool")
 | int (i:Int):c_ K H (.int i) (.type "int")
 | str (x:Str):c_ K H (.str x) (.type "str")
 | wD (x:UInt64):c_ K H (.wD x) (.type "float")
 | lst {a:Addr} {xs:List V} (e:H a = some (.lst xs)):c_ K H (.ref a) (.type "list")
 | cV {a:Addr} {o:Obj} {xs:List V} (e:H a = some (.cV o (.lst xs))):c_ K H (.ref a) (.type "list")
 | tup {a:Addr} {xs:List V} (e:H a = some (.tup xs)):c_ K H (.ref a) (.type "tuple")
 | dK {a:Addr} {kvs:List (Key × V)} (e:H a = some (.dK kvs)):c_ K H (.ref a) (.type "dict")
 | dT {a:Addr} {kvs:List (List Key × V)} (e:H a = some (.dT kvs)):c_ K H (.ref a) (.type "dict")
 | ins {a C dx:Addr} {fs:List (Str × V)} (e:H a = some (.ins C dx fs)) (cl:jq K C) (ha:PySem.W.findIn K (.ref C) "__class__" = some (some (.builtin "object.__class__")))
    (hn:PySem.W.specialIn K (.builtin "object.__class__") "__get__" = some (some (.builtin "getset_descriptor.__get__"))) (htk:PySem.W.takesIn K (.builtin "object.__class__") = some true)
    (hm:PySem.W.mroIn K C (.type "object") = some true):c_ K H (.ref a) (.ref C)
theorem El {x:V} {u t:Value} (I:Inv X pins σ H s) (rx:RelV x u) (ty:c_ X.K H x t) (e:PySem.W.kitOne X.K t c = some b) (h:∀tk,Q (.bool b) { s with toks:=tk }):
  wpAny (model X.prog X.w) A (call (.builtin "isinstance") [u,c]) Q E s:=by
 cases ty with
 | bE=>cases (show u = Value.none from rx);exact PySem.W.kia_one PySem.W.kitx_none I.dN True.intro e (fun z=>nomatch z) h
 | bl y=>cases (show u = Value.bool y from rx);exact PySem.W.kia_one PySem.W.kitx_bool I.dN True.intro e (fun z=>nomatch z) h
 | int i=>obtain ⟨t,q⟩:=(show ∃t,u = Value.int i t from rx);cases q;exact PySem.W.kia_one PySem.W.kitx_int I.dN True.intro e (fun z=>nomatch z) h
 | str y=>obtain ⟨t,q⟩:=(show ∃t,u = Value.str y t from rx);cases q;exact PySem.W.kia_one PySem.W.kitx_str I.dN True.intro e (fun z=>nomatch z) h
 | wD y=>obtain ⟨t,q⟩:=(show ∃t,u = Value.float y t from rx);cases q;exact PySem.W.kia_one PySem.W.kitx_float I.dN True.intro e (fun z=>nomatch z) h
 | @lst a xs ea=>
   cases (show u = Value.ref a from rx)
   obtain ⟨_,_,n,_,h1⟩:=(show bT X.prog X.w H s.heap a (.lst xs) from I.hok a _ ea)
   exact PySem.W.kia_one PySem.W.kitx_list I.dN ⟨_,h1,rfl⟩ e (fun z=>nomatch z) h
 | @cV a ob xs ea=>
   cases (show u = Value.ref a from rx)
   obtain ⟨_,_,_,n,_,h1⟩:=(show bT X.prog X.w H s.heap a (.cV ob (.lst xs)) from I.hok a _ ea)
   exact PySem.W.kia_one PySem.W.kitx_list I.dN ⟨_,h1,rfl⟩ e (fun z=>nomatch z) h
 | @tup a xs ea=>
   cases (show u = Value.ref a from rx)
   obtain ⟨_,_,_,p⟩:=(show bT X.prog X.w H s.heap a (.tup xs) from I.hok a _ ea)
   obtain ⟨o,h1,h2,_⟩:=p
   exact PySem.W.kia_one PySem.W.kitx_tuple I.dN ⟨o,h1,h2⟩ e (fun z=>nomatch z) h
 | @dK a kvs ea=>
   cases (show u = Value.ref a from rx)
   obtain ⟨_,_,vs,_,p⟩:=(show bT X.prog X.w H s.heap a (.dK kvs) from I.hok a _ ea)
   obtain ⟨o,es,ep,h1,h2,_⟩:=p
   exact PySem.W.kia_one PySem.W.kitx_dict I.dN ⟨o,h1,h2.1⟩ e (fun z=>nomatch z) h
 | @dT a kvs ea=>
   cases (show u = Value.ref a from rx)
   obtain ⟨_,_,xs,_,o,es,ep,h1,h2,_⟩:=(show bT X.prog X.w H s.heap a (.dT kvs) from I.hok a _ ea)
   exact PySem.W.kia_one PySem.W.kitx_dict I.dN ⟨o,h1,h2.1⟩ e (fun z=>nomatch z) h
 | @ins a C dx fs ea cl ha hn htk hm=>
   cases (show u = Value.ref a from rx)
   obtain ⟨mA,O,_⟩:=qG I.hok ea
   obtain ⟨od,J,_⟩:=O.look
   exact PySem.W.kia_one (PySem.W.kitx_own (cl.get _) cl.hd ha hn htk hm) I.dN J e (fun z=>nomatch z) h
end
end L2
namespace L2
open PySem PySem.Spec PyProof.Rows
structure bU (k:Nat) (A:Around):Prop where
 hd:A.handled = none
 dp:A.depth + 3 * k + 5 < recursionLimit
 un:A.units + 16 * k + 200 < cLine
theorem bU.mono {j k:Nat} {A:Around} (r:bU k A) (h:j≤k):bU j A:=⟨r.hd,by have:=r.dp;omega,by have:=r.un;omega⟩
theorem bU.deeper {k:Nat} {A:Around} (r:bU (k + 1) A) (env:Env):bU k (A.deeper env):=
 ⟨r.hd,by have:=r.dp;show A.depth + 1 + 3 * k + 5 < _;omega,by have:=r.un;show A.units + 3 + 16 * k + 200 < _;omega⟩
theorem CU {A:Around} {C:Addr} {us:List Value} {kw:List (Str × Value)}:(A.under (.builtin "type.__call__" ⟨.ref C :: us,kw⟩)).depth = A.depth + 1:=by
 first | rfl | simp [Around.under,Code.weight,Code.isCreation,Code.isGuard,Code.isCaller,Code.frames,Code.isFrame,guardIds]
theorem CV {A:Around} {C:Addr} {us:List Value} {kw:List (Str × Value)}:(A.under (.builtin "type.__call__" ⟨.ref C :: us,kw⟩)).units = A.units + 1:=by
 first | rfl | simp [Around.under,Code.cUnits,Code.frames,Code.isFrame]
theorem bU.make {k:Nat} {A:Around} (r:bU (k + 1) A) (C:Addr) (us:List Value) (kw:List (Str × Value)):bU k (A.under (.builtin "type.__call__" ⟨.ref C :: us,kw⟩)):=
 ⟨r.hd,by have:=r.dp;rw [CU];omega,by have:=r.un;rw [CV];omega⟩
theorem bU.depth {k:Nat} {A:Around} (r:bU k A):A.depth < recursionLimit:=by have:=r.dp;omega
theorem bU.units {k:Nat} {A:Around} (r:bU k A):A.units + 64 < cLine:=by have:=r.un;omega
def jF:TA:=fun _ H Q=>Q [] H
def ee (ta:TE) (tr:TA):TA:=fun σ H Q=>ta σ H fun x H1=>tr σ H1 fun xs H2=>Q (x :: xs) H2
section
variable {X:Cx} {e:Expr} {es:List Expr} {te:TE} {t:TA} {pos:Pos}
theorem ah:PA X [] jF:=fun _ _ _ _ H Q I h=>Calls.spliced_nil ⟨[],H,I, .nil,h⟩
theorem aa (ha:PE X e te) (hr:PA X es t) (hs:starEach (e :: es) X.env = (false,eval e X.env) :: starEach es X.env:=by rfl):PA X (e :: es) (ee te t):=by
 intro pos pins s σ H Q I h
 rw [hs]
 show wpAny _ _ (spliced ((false,eval e X.env) :: backTo pos (starEach es X.env))) _ _ s
 refine Calls.spliced_cons (aL (ha pins s σ H _ I h) fun u s1 ⟨x,H1,I1,r1,q1⟩=>?_)
 exact aL (hr pos pins s1 σ H1 _ I1 q1) fun us s2 ⟨xs,H2,I2,r2,q2⟩=>⟨x :: xs,H2,I2, .cons r1 r2,q2⟩
def PK (t:TA):TE:=fun σ H Q=>t σ H fun xs H1=>xs.length≤sizeLine∧∀p,H1 p = none→Q (.ref p) (upd H1 p (.tup xs))
def CW (t:TA):TE:=fun σ H Q=>t σ H fun xs H1=>xs.length≤sizeLine∧∀p,H1 p = none→Q (.ref p) (upd H1 p (.lst xs))
theorem eU {x1} (h:PA X es t):PE X (.Tuple es x1 pos) (PK t):=by
 intro pins s σ H Q I hq
 refine wpAny_Tuple_spliced (aL (h pos pins s σ H _ I hq) fun us s1 ⟨xs,H1,I1,r,z,q⟩=>⟨by rw [← r.length];exact z,?_⟩)
 have hf:H1 s1.heap.objs.size = none:=I1.hok.fresh (Nat.le_refl _)
 refine ⟨.ref s1.heap.objs.size,upd H1 s1.heap.objs.size (.tup xs),I1.laid (t':=s1.toks) (fun b u e=>Heap.get?_push_of_some _ e) (Nat.le_refl _) ?_,rfl,q _ hf⟩
 exact ⟨z,us,r,⟨_,Heap.get?_push_size _ rfl,rfl,_,rfl⟩⟩
theorem cI (h:PA X es t):PE X (.List es pos) (CW t):=by
 intro pins s σ H Q I hq
 refine wpAny_List_spliced (aL (h pos pins s σ H _ I hq) fun us s1 ⟨xs,H1,I1,r,z,q⟩=>⟨by rw [← r.length];exact z,?_⟩)
 have hf:H1 s1.heap.objs.size = none:=I1.hok.fresh (Nat.le_refl _)
 refine ⟨.ref s1.heap.objs.size,upd H1 s1.heap.objs.size (.lst xs),I1.laid (t':=s1.toks) (fun b u e=>Heap.get?_push_of_some _ e) (Nat.le_refl _) ?_,rfl,q _ hf⟩
 exact ⟨z,us,0,r,Heap.get?_push_size _ rfl⟩
end
abbrev Sp:=List V→Hp→VK→XK→Prop
abbrev mW:=List Env→Hp→Shared→XK→Value→Shared→Prop
structure sU (P:Program) (w:World) (K:PySem.W.Frag) (mg:Str→Option Value) (base:Heap) (A:Around) (outer:List Env) (s:Shared) (H:Hp):Prop where
 frames:A.frames = some outer
 mod:Mod K mg base
 bs:∀b o,base.get? b = some o→s.heap.get? b = some o∧H b = none
 tW:base.objs.size≤s.heap.objs.size
 gF:s.heap.FunFrames base outer
 wG:∀b∈frs outer,H b = none
 hok:dj P w H s.heap
 bare:AllBare s.gens
def CE (outer:List Env) (P:Program) (w:World) (H:Hp) (s:Shared) (Q:VK) (u:Value) (s':Shared):Prop:=
 ∃v H',s'.os = s.os∧AllBare s'.gens∧Un (frs outer) [] H H' s.heap s'.heap∧dj P w H' s'.heap∧RelV v u∧Q v H'
def CR (CX:mW) (outer:List Env) (P:Program) (w:World) (H:Hp) (s:Shared) (Q:VK) (E:XK) (r:Result) (s':Shared):Prop:=
 match r with
 | .ok (.ret u)=>CE outer P w H s Q u s'
 | .ok _=>False
 | .error e=>CX outer H s E e s'
structure dU (P:Program) (w:World) (K:PySem.W.Frag) (mg:Str→Option Value) (base:Heap) (CX:mW) (k:Nat) (f:Addr) (fd:FuncData) (ps:List Str) (sp:Sp):Prop where
 len:∀vs H Q E,sp vs H Q E→vs.length = ps.length
 run:∀(A:Around) (outer:List Env) (s:Shared) (H:Hp) (args:Args) (us:List Value) (vs:List V) (Q:VK) (E:XK),bU k A→sU P w K mg base A outer s H→BindsTo s fd args (ps.zip us)→Vals vs us→sp vs H Q E→
  codeAny (model P w) A (.call (.ref f) args) (CR CX outer P w H s Q E) s
theorem sU.make {P:Program} {w:World} {K:PySem.W.Frag} {mg:Str→Option Value} {base:Heap} {A:Around} {outer:List Env} {s:Shared} {H:Hp} (e:sU P w K mg base A outer s H) (C:Addr) (us:List Value) (kw:List (Str × Value)):
  sU P w K mg base (A.under (.builtin "type.__call__" ⟨.ref C :: us,kw⟩)) outer s H:=⟨by first | exact e.frames | (simpa [Around.under,Code.envs,Code.isFrame,pushEnvs] using e.frames),e.mod,e.bs,e.tW,e.gF,e.wG,e.hok,e.bare⟩
section
variable {X:Cx} {pins:List (Addr × Obj)} {σ:St} {H:Hp} {s s':Shared}
theorem Inv.Gg (I:Inv X pins σ H s):sU X.prog X.w X.K X.mg X.base X.A X.stack s H:=
 ⟨I.ok.frames,I.ok.mod,I.bs,Nat.le_trans I.ok.tW I.sz,I.stack,I.mS,I.hok,I.bare⟩
theorem Inv.after {Q:VK} {u:Value} (I:Inv X pins σ H s) (h:CE X.stack X.prog X.w H s Q u s'):EP X pins σ Q u s':=by
 obtain ⟨v,H',os,bare,un,hok,r,q⟩:=h
 obtain ⟨hh,g,d,t,os'⟩:=s'
 obtain rfl:os' = s.os:=os
 exact ⟨v,H',I.call (h':=hh) (g':=g) (d':=d) (t':=t) (ch:=[]) un hok bare (fun b z=>absurd z (by simp)),r,q⟩
end
def CY (sp:Sp) (fR:List V) (E:XK) (t:TA):TE:=fun σ H Q=>t σ H fun vs H1=>sp (vs ++ fR) H1 Q E
def uf (C:Addr) (m:Str) (sp:Sp) (fR:List V) (E:XK) (ta:TE) (t:TA):TE:=fun σ H Q=>ta σ H fun x H1=>∃a dx fs,x = .ref a∧H1 a = some (.ins C dx fs)∧fs.lookup m = none∧
 t σ H1 fun vs H2=>sp (x :: (vs ++ fR)) H2 Q E
def yi (C:Addr) (sp:Sp) (fR:List V) (E:XK) (t:TA):TE:=fun σ H Q=>t σ H fun vs H1=>∀x dx,H1 x = none→H1 dx = none→dx ≠ x→
 sp (.ref x :: (vs ++ fR)) (upd (upd H1 dx (.own x)) x (.ins C dx [])) (fun v H2=>v = .bE∧Q (.ref x) H2) E
def Binds (K:PySem.W.Frag) (fd:FuncData) (ps:List Str) (ds:List Value):Prop:=
 ∀(s:Shared) (us:List Value),K.In s.heap→(us ++ ds).length = ps.length→BindsTo s fd ⟨us,[]⟩ (ps.zip (us ++ ds))
theorem Binds.all {K:PySem.W.Frag} {fd:FuncData} {ps:List Str} (h:∀us:List Value,us.length = ps.length→bindArgs fd ⟨us,[]⟩ = pure (ps.zip us)):Binds K fd ps [] :=fun s us _ hl=>by
 rw [List.append_nil] at hl ⊢
 exact .of_eq (h us hl)
def Passes (CX:mW) (X:Cx) (E:XK):Prop:=∀(pins:List (Addr × Obj)) (σ:St) (H:Hp) (s:Shared) (e:Value) (s':Shared),Inv X pins σ H s→CX X.stack H s E e s'→X.xe e s'
section
variable {X:Cx} {CX:mW} {k:Nat} {f C:Addr} {fd:FuncData} {ps:List Str} {sp:Sp} {fR:List V} {ds:List Value} {E:XK} {x m:Str} {p pos apos:Pos} {e o:Expr} {es:List Expr} {ta:TE} {t:TA}
theorem yF {pins:List (Addr × Obj)} {σ:St} {H:Hp} {s:Shared} {Q:VK} {us:List Value} {vs:List V} (F:dU X.prog X.w X.K X.mg X.base CX k f fd ps sp) (hr:bU k X.A) (hb:Binds X.K fd ps ds) (hd:Vals fR ds) (hx:Passes CX X E)
  (I:Inv X pins σ H s) (r:Vals vs us) (h:sp (vs ++ fR) H Q E):wpAny (model X.prog X.w) X.A (call (.ref f) us) (EP X pins σ Q) X.xe s:=by
 have r2:Vals (vs ++ fR) (us ++ ds):=r.append hd
 have hl:(us ++ ds).length = ps.length:=by rw [← r2.length];exact F.len _ _ _ _ h
 refine wpAny_call (codeAny_mono (F.run X.A X.stack s H ⟨us,[]⟩ (us ++ ds) (vs ++ fR) Q E hr I.Gg (hb s us I.dN hl) r2 h) fun r s' hq=>?_)
 cases r with
 | error e=>exact hx pins σ H s e s' I hq
 | ok fl=>
   cases fl with
   | ret u=>exact I.after hq
   | next=>exact False.elim hq
   | brk=>exact False.elim hq
   | cont=>exact False.elim hq
theorem Jf (F:dU X.prog X.w X.K X.mg X.base CX k f fd ps sp) (hr:bU k X.A) (hg:Gl X x) (hm:X.mg x = some (.ref f)) (hk:PySem.W.keepIn X.K (.ref f) = true) (hb:Binds X.K fd ps ds) (hd:Vals fR ds) (hx:Passes CX X E)
  (ha:PA X (e :: es) t) (hdb:(x == ("__debug__":Str)) = false:=by decide) (he:starEach (e :: es) X.env = (false,eval e X.env) :: starEach es X.env:=by rfl) (hpl:(backTo pos (starEach es X.env)).any (·.1) = false:=by rfl):
  PE X (.Call (.Name x p) (e :: es) [] pos) (CY sp fR E t):=by
 intro pins s σ H Q I h
 refine wpAny_Call_Name_kw (iQ I hg hm ?_ hdb)
 refine PySem.W.callWith_K (h₀:=X.base) I.ok.mod.BH hk (aL (ha pos pins s σ H _ I h) fun us s1 ⟨vs,H1,I1,r,q⟩=>⟨I1.dN,?_⟩) he hpl
 exact yF F hr hb hd hx I1 r q
theorem BQ {pl:Sem Bool} (he:PE X o ta) (c:jq X.K C) (hm:Meth X.K C m f) (F:dU X.prog X.w X.K X.mg X.base CX k f fd ps sp) (hr:bU k X.A) (hb:Binds X.K fd ps ds) (hd:Vals fR ds) (hx:Passes CX X E) (ha:PA X (e :: es) t)
  (hst:starEach (e :: es) X.env = (false,eval e X.env) :: starEach es X.env:=by rfl) (hpl:(backTo pos (starEach es X.env)).any (·.1) = false:=by rfl)
  (ht:eval (.Call (.Attribute o m apos) (e :: es) [] pos) X.env = (do
    let ov ← eval o X.env
    standAt apos.atName
    let (f,first) ← holding [ov] (getMethod ov m pl)
    callWith pos f first (backTo pos (starEach (e :: es) X.env)) (backToKw pos (keywordEach [] X.env))):=by rfl):
  PE X (.Call (.Attribute o m apos) (e :: es) [] pos) (uf C m sp fR E ta t):=by
 intro pins s σ H Q I h
 refine PySem.W.methodCall_KW (pl:=pl) (aL (he pins s σ H _ I h) fun u s1 ⟨x,H1,I1,rx,a,dx,fs,ex,ea,l,q⟩=>?_) ht
 subst ex
 obtain rfl:u = Value.ref a:=rx
 refine ue I1 ea c hm l ?_
 refine PySem.W.callWith_K (first:=[.ref a]) (h₀:=X.base) I.ok.mod.BH hm.kp (aL (ha pos pins s1 σ H1 _ I1 q) fun us s2 ⟨vs,H2,I2,r,q2⟩=>⟨I2.dN,?_⟩) hst hpl
 exact yF (us:= .ref a :: us) (vs:= .ref a :: vs) F hr hb hd hx I2 (.cons rfl r) q2
theorem Gi {pl:Sem Bool} (he:PE X o ta) (c:jq X.K C) (hm:Meth X.K C m f) (F:dU X.prog X.w X.K X.mg X.base CX k f fd ps sp) (hr:bU k X.A) (hb:Binds X.K fd ps ds) (hd:Vals fR ds) (hx:Passes CX X E)
  (ht:eval (.Call (.Attribute o m apos) [] [] pos) X.env = (do
    let ov ← eval o X.env
    standAt apos.atName
    let (f,first) ← holding [ov] (getMethod ov m pl)
    callWith pos f first (backTo pos (starEach [] X.env)) (backToKw pos (keywordEach [] X.env))):=by rfl):
  PE X (.Call (.Attribute o m apos) [] [] pos) (uf C m sp fR E ta jF):=by
 intro pins s σ H Q I h
 refine PySem.W.methodCall_KW (pl:=pl) (aL (he pins s σ H _ I h) fun u s1 ⟨x,H1,I1,rx,a,dx,fs,ex,ea,l,q⟩=>?_) ht
 subst ex
 obtain rfl:u = Value.ref a:=rx
 refine ue I1 ea c hm l ?_
 exact PySem.W.callWith_K0 (first:=[.ref a]) I1.dN hm.kp (yF (us:=[.ref a]) (vs:=[.ref a]) F hr hb hd hx I1 (.cons rfl .nil) q)
structure Mk (K:PySem.W.Frag) (C f:Addr):Prop where
 makes:PySem.W.makesIn K C = true
 init:PySem.W.findIn K (.ref C) "__init__" = some (some (.ref f))
 fn:PySem.W.isFn K (.ref f) = true
 kp:PySem.W.keepIn K (.ref C) = true
theorem yG {pins:List (Addr × Obj)} {σ:St} {H:Hp} {s:Shared} {Q:VK} {us:List Value} {vs:List V} (M:Mk X.K C f) (F:dU X.prog X.w X.K X.mg X.base CX k f fd ps sp) (hr:bU (k + 1) X.A) (hb:Binds X.K fd ps ds) (hd:Vals fR ds)
  (hx:Passes CX X E) (I:Inv X pins σ H s) (r:Vals vs us)
  (h:∀x dx,H x = none→H dx = none→dx ≠ x→sp (.ref x :: (vs ++ fR)) (upd (upd H dx (.own x)) x (.ins C dx [])) (fun v H2=>v = .bE∧Q (.ref x) H2) E):
  wpAny (model X.prog X.w) X.A (call (.ref C) us) (EP X pins σ Q) X.xe s:=by
 have hq:=h (s.heap.objs.size + 1) s.heap.objs.size (I.hok.fresh (Nat.le_succ _)) (I.hok.fresh (Nat.le_refl _)) (Nat.ne_of_lt (Nat.lt_succ_self _))
 have I2:=Inv.made (C:=C) I
 have r2:Vals (V.ref (s.heap.objs.size + 1) :: (vs ++ fR)) (Value.ref (s.heap.objs.size + 1) :: (us ++ ds)):= .cons rfl (r.append hd)
 have hl:(Value.ref (s.heap.objs.size + 1) :: us ++ ds).length = ps.length:=by
  have e:=r2.length
  rw [F.len _ _ _ _ hq] at e
  exact e.symm
 refine wpAny_call (Gf (f:=f) I.dN M.makes M.init (beq_iff_eq.mp M.fn) (codeAny_mono (F.run _ X.stack _ _ ⟨Value.ref (s.heap.objs.size + 1) :: us,[]⟩ (Value.ref (s.heap.objs.size + 1) :: (us ++ ds)) _ _ E (hr.make C us [])
  (I2.Gg.make C us []) (hb _ (Value.ref (s.heap.objs.size + 1) :: us) I2.dN hl) r2 hq) fun r s' hq'=>?_))
 cases r with
 | error e=>exact hx pins σ _ _ e s' I2 hq'
 | ok fl=>
   cases fl with
   | ret u=>
     obtain ⟨v,H',I3,rv,ev,q3⟩:=I2.after hq'
     subst ev
     exact ⟨rv,⟨V.ref (s.heap.objs.size + 1),H',I3,rfl,q3⟩⟩
   | next=>exact False.elim hq'
   | brk=>exact False.elim hq'
   | cont=>exact False.elim hq'
theorem Jg (M:Mk X.K C f) (F:dU X.prog X.w X.K X.mg X.base CX k f fd ps sp) (hr:bU (k + 1) X.A) (hg:Gl X x) (hm:X.mg x = some (.ref C)) (hb:Binds X.K fd ps ds) (hd:Vals fR ds) (hx:Passes CX X E)
  (ha:PA X (e :: es) t) (hdb:(x == ("__debug__":Str)) = false:=by decide) (he:starEach (e :: es) X.env = (false,eval e X.env) :: starEach es X.env:=by rfl) (hpl:(backTo pos (starEach es X.env)).any (·.1) = false:=by rfl):
  PE X (.Call (.Name x p) (e :: es) [] pos) (yi C sp fR E t):=by
 intro pins s σ H Q I h
 refine wpAny_Call_Name_kw (iQ I hg hm ?_ hdb)
 refine PySem.W.callWith_K (h₀:=X.base) I.ok.mod.BH M.kp (aL (ha pos pins s σ H _ I h) fun us s1 ⟨vs,H1,I1,r,q⟩=>⟨I1.dN,?_⟩) he hpl
 exact yG M F hr hb hd hx I1 r q
theorem Gj (M:Mk X.K C f) (F:dU X.prog X.w X.K X.mg X.base CX k f fd ps sp) (hr:bU (k + 1) X.A) (hg:Gl X x) (hm:X.mg x = some (.ref C)) (hb:Binds X.K fd ps ds) (hd:Vals fR ds) (hx:Passes CX X E)
  (hdb:(x == ("__debug__":Str)) = false:=by decide):PE X (.Call (.Name x p) [] [] pos) (yi C sp fR E jF):=by
 intro pins s σ H Q I h
 refine wpAny_Call_Name_kw (iQ I hg hm ?_ hdb)
 exact PySem.W.callWith_K0 I.dN M.kp (yG (us:=[]) M F hr hb hd hx I .nil h)
end
section
variable {X:Cx} {CX:mW} {k:Nat} {f C:Addr} {fd:FuncData} {ps ks:List Str} {sp:Sp} {E:XK} {x m:Str} {p pos apos kpos:Pos} {e o:Expr} {es:List Expr} {kws:List Keyword} {te ta:TE} {t tk:TA} {nm:Option Str}
variable {g:List Value→List Value→List Value} {gV:List V→List V→List V}
end
structure aI (N P:List Str) (sc:Scope):Prop where
 kind:sc.kind = .function
 co:sc.isCoroutine = false
 gen:sc.isGenerator = false
 nd:N.Nodup
 pre:N.take P.length = P
 par:∀x∈P,sc.names.lookup x = some .local∨sc.names.lookup x = some .cell
 Kz:∀y∈sc.names,y.2 ≠ .free
theorem wK {kindOf:Str→Option NameKind} {x:Str}:∀{binds:List (Str × Value)} {m:Str→Option Value},(∀v,(x,v) ∉ binds)→bindL kindOf binds m x = m x
 | [],_,_=>rfl
 | (n,v) :: r,m,h=>by
   unfold bindL
   rw [wK fun w hw=>h w (List.mem_cons_of_mem _ hw)]
   split
   · have:x ≠ n:=by rintro rfl;exact h v List.mem_cons_self
     simp [this]
   · rfl
theorem wL {kindOf:Str→Option NameKind} {x:Str}:∀{binds:List (Str × Value)} {m:Str→Option Value},(∀v,(x,v) ∉ binds)→bindC kindOf binds m x = m x
 | [],_,_=>rfl
 | (n,v) :: r,m,h=>by
   unfold bindC
   rw [wL fun w hw=>h w (List.mem_cons_of_mem _ hw)]
   split
   · rfl
   · have:x ≠ n:=by rintro rfl;exact h v List.mem_cons_self
     simp [this]
theorem wM {kindOf:Str→Option NameKind} {x:Str} {v:Value}:∀{P:List Str} {vs:List Value} {i:Nat} {m:Str→Option Value},P.Nodup→P[i]? = some x→vs[i]? = some v→kindOf x = some .local→
  bindL kindOf (P.zip vs) m x = some v
 | [],_,_,_,_,h,_,_=>by simp at h
 | _ :: _,[],_,_,_,_,h,_=>by simp at h
 | p :: P,w :: vs,0,m,nd,h1,h2,hk=>by
   simp at h1 h2;subst h1;subst h2
   show bindL kindOf ((p,w) :: P.zip vs) m p = _
   unfold bindL
   rw [wK fun v hv=>(List.nodup_cons.mp nd).1 (List.of_mem_zip hv).1,if_pos hk]
   simp
 | p :: P,w :: vs,i + 1,m,nd,h1,h2,hk=>by
   show bindL kindOf ((p,w) :: P.zip vs) m x = _
   unfold bindL
   exact wM (i:=i) (List.nodup_cons.mp nd).2 (by simpa using h1) (by simpa using h2) hk
theorem wN {kindOf:Str→Option NameKind} {x:Str} {v:Value}:∀{P:List Str} {vs:List Value} {i:Nat} {m:Str→Option Value},P.Nodup→P[i]? = some x→vs[i]? = some v→kindOf x ≠ some .local→
  bindC kindOf (P.zip vs) m x = some v
 | [],_,_,_,_,h,_,_=>by simp at h
 | _ :: _,[],_,_,_,_,h,_=>by simp at h
 | p :: P,w :: vs,0,m,nd,h1,h2,hk=>by
   simp at h1 h2;subst h1;subst h2
   show bindC kindOf ((p,w) :: P.zip vs) m p = _
   unfold bindC
   rw [wL fun v hv=>(List.nodup_cons.mp nd).1 (List.of_mem_zip hv).1,if_neg hk]
   simp
 | p :: P,w :: vs,i + 1,m,nd,h1,h2,hk=>by
   show bindC kindOf ((p,w) :: P.zip vs) m x = _
   unfold bindC
   exact wN (i:=i) (List.nodup_cons.mp nd).2 (by simpa using h1) (by simpa using h2) hk
def start (N:List Str) (vs:List V):St:=vs.map some ++ List.replicate (N.length - vs.length) none
def bP (CX:mW) (P:Program) (w:World) (K:PySem.W.Frag) (mg:Str→Option Value) (base:Heap) (N:List Str) (qual:Str) (scope:Scope) (f:Addr) (cd:Value) (A:Around) (outer:List Env) (s:Shared) (H:Hp) (E:XK):Cx where
 prog:=P
 w:=w
 K:=K
 mg:=mg
 base:=base
 A:=A.deeper (envOfC qual scope s.heap.objs.size f cd)
 N:=N
 s₀:=s
 H₀:=H
 env:=envOfC qual scope s.heap.objs.size f cd
 outer:=outer
 stack:=envOfC qual scope s.heap.objs.size f cd :: outer
 ex:=[]
 calm:=true
 fn:=fun _=>true
 pn:=[]
 xe:=fun e s'=>wpAny (model P w) (A.deeper (envOfC qual scope s.heap.objs.size f cd)) (leaving (envOfC qual scope s.heap.objs.size f cd) e) (fun _ s''=>CX outer H s E e s'') (fun e' s''=>CX outer H s E e' s'') s'
theorem yH {sc:Scope} {n:Nat} {x:Str} (h:sc.names.lookup x = some .cell):∃c,(cellsFrom n sc.names []).lookup x = some c:=by
 have q:=PySem.W.cellsFrom_some sc.names n [] (.inl h)
 exact Option.isSome_iff_exists.mp q
theorem Em {CX:mW} {P:Program} {w:World} {K:PySem.W.Frag} {mg:Str→Option Value} {base:Heap} {N ps:List Str} {qual:Str} {scope:Scope} {f:Addr} {cd:Value} {A:Around} {outer:List Env} {s s1:Shared} {H:Hp} {E:XK} {us:List Value} {vs:List V}
  (S:aI N ps scope) (hd:A.handled = none) (e0:sU P w K mg base A outer s H) (hl:vs.length = ps.length) (r:Vals vs us)
  (x:InCallC s s.heap.objs.size (bindL (envOfC qual scope s.heap.objs.size f cd).kindOf (ps.zip us) fun _=>none) (cellsFrom (s.heap.objs.size + 1) scope.names []) (bindC (envOfC qual scope s.heap.objs.size f cd).kindOf (ps.zip us) fun _=>none) s1):
  Inv (bP CX P w K mg base N qual scope f cd A outer s H E) [] (start N vs) H s1:=by
 have hpl:ps.length≤N.length:=by have:=congrArg List.length S.pre;rw [List.length_take] at this;omega
 obtain ⟨h1,tk,rfl,hk⟩:=x.done
 have En:∀b:Addr,b ∉ (bP CX P w K mg base N qual scope f cd A outer s H E).ex:=fun b z=>absurd (show b∈([] :List Addr) from z) (by simp)
 refine ⟨⟨e0.mod,S.kind,rfl,rfl,Nat.le_refl _,fun y z c h1 h2=>?_,fun y hy=>?_,fun y c _ h=>?_,fun _=>hd,Around.frames_deeper e0.frames, .inr ⟨rfl,rfl⟩,fun b z=>absurd z (En b),e0.bs,e0.tW,fun b _ _=>En b,fun b z=>absurd z (En b),e0.gF,e0.wG⟩,
  rfl,e0.bare,Un.kept hk,⟨_,x.toInCall.ns,fun i y v h1 h2 h3=>?_⟩,fun y c h=>⟨_,x.cell y c h⟩,e0.hok.fresh (Nat.le_refl _),fun y c h=>?_,fun p hp=>absurd (show p∈([] :List (Addr × Obj)) from hp) (by simp),e0.hok.kept hk,?_⟩
 · exact name_of_addr x.apart (PySem.mem_of_lookup h1) (PySem.mem_of_lookup h2)
 · have hy:scope.names.lookup y = some .cell∨scope.names.lookup y = some .free:=hy
   rcases hy with hy | hy
   · exact yH hy
   · exact absurd rfl (S.Kz _ (PySem.mem_of_lookup hy))
 · exact Nat.le_of_lt (x.above y c (PySem.mem_of_lookup h))
 · have hi:i < vs.length:=by
    unfold start at h2
    by_cases hi:i < vs.length
    · exact hi
    · rw [List.getElem?_append_right (by simpa using hi)] at h2
      rw [List.getElem?_replicate] at h2
      split at h2 <;> cases h2
   have ha:vs[i]? = some v:=by
    unfold start at h2
    rw [List.getElem?_append_left (by simpa using hi),List.getElem?_map] at h2
    cases e:vs[i]? with
    | none=>rw [e] at h2;cases h2
    | some a=>rw [e] at h2;cases h2;rfl
   obtain ⟨u,hu,rv⟩:=r.get ha
   have hp:ps[i]? = some y:=by
    rw [← S.pre,List.getElem?_take_of_lt (by omega)];exact h1
   have NS:ps.Nodup:=by rw [← S.pre];exact S.nd.sublist (List.take_sublist _ _)
   refine ⟨u,rv,?_⟩
   rcases S.par y (List.mem_of_getElem? hp) with k | k
   · exact .inl ⟨k,wM NS hp hu k⟩
   · obtain ⟨c,e⟩:=yH (n:=s.heap.objs.size + 1) k
     refine .inr ⟨.inl k,c,e,?_⟩
     have q:=x.cell y c e
     rw [wN NS hp hu (by show scope.names.lookup y ≠ _;rw [k];decide)] at q
     exact q
 · exact e0.hok.fresh (Nat.le_of_lt (x.above y c (PySem.mem_of_lookup h)))
 · unfold start
   show _ = N.length
   rw [List.length_append,List.length_map,List.length_replicate]
   omega
theorem CZ {CX:mW} {P:Program} {w:World} {K:PySem.W.Frag} {mg:Str→Option Value} {base:Heap} {k:Nat} {f:Addr} {name qual:Str} {params:Arguments} {body:List Stmt} {scope:Scope} {dV kV doc pm cdv ct oc:Value} {an od:Option Addr}
  {osl:Array (Option Value)} {N ps:List Str} {sp:Sp} (lk:K.lookup f = some ⟨oc,od, .func (PySem.W.fnOf name qual params body scope dV kV doc pm an cdv ct),osl⟩) (hcd:PySem.W.codeIn K cdv qual = true) (S:aI N ps scope)
  (len:∀vs H Q E,sp vs H Q E→vs.length = ps.length)
  (hbody:∀(A:Around) (outer:List Env) (s:Shared) (H:Hp) (vs:List V) (Q:VK) (E:XK),bU k (A.deeper (envOfC qual scope s.heap.objs.size f cdv))→sp vs H Q E→
    ∃t,gy (bP CX P w K mg base N qual scope f cdv A outer s H E) body t∧t { nx:=fun _ H'=>Q .bE H',rt:=Q } (start N vs) H):
  dU P w K mg base CX (k + 1) f (PySem.W.fnOf name qual params body scope dV kV doc pm an cdv ct) ps sp:=by
 refine ⟨len,fun A outer s H args us vs Q E hr e0 hb r lO=>?_⟩
 have hl:=len _ _ _ _ lO
 have KX:K.In s.heap:=e0.mod.BH.keeps fun b o e=>(e0.bs b o e).1
 have lim:s.heap.NoLimit:=e0.mod.nolimit.keeps fun b o e=>(e0.bs b o e).1
 have hkind:∀y∈ps.zip us,scope.names.lookup y.1 = some .local∨(scope.names.lookup y.1 = some .cell∧((cellsFrom (s.heap.objs.size + 1) scope.names []).lookup y.1).isSome = true):=fun ⟨n,v⟩ hy=>by
  rcases S.par n (List.of_mem_zip hy).1 with q | q
  · exact .inl q
  · exact .inr ⟨q,PySem.W.cellsFrom_some _ _ _ (.inl q)⟩
 refine codeAny_call_function hr.depth (KX _ _ lk) rfl S.co S.gen rfl (PySem.W.codeRec_of KX hcd) (hb _ _ _ _ ?_)
 refine wpAny_newFunctionEnv_cells S.kind hkind fun env he s1 x=>?_
 subst he
 refine ⟨lim.keeps x.toInCall.keep,codeAny_func ?_⟩
 obtain ⟨t,ht,hq⟩:=hbody A outer s H vs Q E (hr.deeper _) lO
 have I:Inv (bP CX P w K mg base N qual scope f cdv A outer s H E) [] (start N vs) H s1:=Em S hr.hd e0 hl r x
 refine wpAny_mono (ht [] s1 (start N vs) H _ I hq) (fun fl s' hs=>?_) fun e s' hs=>hs
 have fin:∀{σ':St} {H':Hp} {v:V} {u:Value},Inv (bP CX P w K mg base N qual scope f cdv A outer s H E) [] σ' H' s'→RelV v u→Q v H'→CE outer P w H s Q u s':=
  fun {σ' H' v u} J rv q=>⟨v,H',J.os,J.bare,J.base,J.hok,rv,q⟩
 cases fl with
 | ret u=>
   obtain ⟨v,σ',H',J,rv,q⟩:=hs
   exact fin J rv q
 | next=>
   obtain ⟨σ',H',J,q⟩:=hs
   exact fin (v:=V.bE) (u:=Value.none) J rfl q
 | brk=>
   obtain ⟨_,_,_,q⟩:=hs
   exact False.elim q
 | cont=>
   obtain ⟨_,_,_,q⟩:=hs
   exact False.elim q
end L2
namespace L2
open PySem PySem.Spec PyProof.Rows
section
variable {X:Cx} {x:Str} {p pos:Pos} {e:Expr} {es:List Expr} {t:TA} {id T:String} {r:List V→Hp→VK→Prop}
def KA (r:List V→Hp→VK→Prop) (t:TA):TE:=fun σ H Q=>t σ H fun vs H1=>r vs H1 Q
theorem aB (hc:dS X (.builtin id) r) (hg:Gl X x) (hm:X.mg x = none) (hv:bootBuiltins x = some (.builtin id)) (ha:PA X (e :: es) t) (hn:x ≠ "__name__":=by decide) (hdb:(x == ("__debug__":Str)) = false:=by decide)
  (he:starEach (e :: es) X.env = (false,eval e X.env) :: starEach es X.env:=by rfl) (hpl:(backTo pos (starEach es X.env)).any (·.1) = false:=by rfl):PE X (.Call (.Name x p) (e :: es) [] pos) (KA r t):=by
 intro pins s σ H Q I h
 refine wpAny_Call_Name_kw (o7 I hg hm hv ?_ hn hdb)
 exact PyProof.Rows.callWith_builtin1 (aL (ha pos pins s σ H _ I h) fun us s1 ⟨vs,H1,I1,r1,q1⟩=>hc pins s1 σ H1 vs us Q I1 r1 q1) he hpl
theorem lP (hc:dS X (.type T) r) (hg:Gl X x) (hm:X.mg x = none) (hv:bootBuiltins x = some (.type T)) (ha:PA X (e :: es) t) (hn:x ≠ "__name__":=by decide) (hdb:(x == ("__debug__":Str)) = false:=by decide)
  (he:starEach (e :: es) X.env = (false,eval e X.env) :: starEach es X.env:=by rfl) (hpl:(backTo pos (starEach es X.env)).any (·.1) = false:=by rfl):PE X (.Call (.Name x p) (e :: es) [] pos) (KA r t):=by
 intro pins s σ H Q I h
 refine wpAny_Call_Name_kw (o7 I hg hm hv ?_ hn hdb)
 exact PyProof.Rows.callWith_type1 (aL (ha pos pins s σ H _ I h) fun us s1 ⟨vs,H1,I1,r1,q1⟩=>hc pins s1 σ H1 vs us Q I1 r1 q1) he hpl
end
end L2
namespace HT
open PySem PyProof.Rows
section
open PySem.SeqAt
open PySem.AutoSeq1 (wpAny_loadPart')
open PySem.MeetsSeq PySem.MeetsSeq2 PySem.MeetsSeq3
end
section
variable {prog:Program} {w:World} {A:Around} {E:Value→Shared→Prop} {s:Shared}
theorem Jh {t b:Addr} {vs ws:List Value} {Q:Value→Shared→Prop} (ht:IsTup s.heap t vs.toArray) (hb:IsTup s.heap b ws.toArray) (hv:vs ≠ [])
  (h1:ws = []→Q (.ref t) s) (h2:ws ≠ []→Q (.ref s.heap.objs.size) { s with heap:=s.heap.push { cls:= .type "tuple",data:= .seq (vs ++ ws).toArray } })
  (hsz:vs.length + ws.length≤sizeLine):wpAny (model prog w) A (binaryOp .Add (.ref t) (.ref b)) Q E s:=by
 obtain ⟨⟨cls,dd,data,sl⟩,ho,hc,n,hd⟩:=id ht
 obtain ⟨⟨PL,dd2,data2,sl2⟩,ho2,hc2,n2,hd2⟩:=id hb
 simp only at hc hd hc2 hd2
 subst hc hd hc2 hd2
 have e:vs.toArray ++ ws.toArray = (vs ++ ws).toArray:=by simp
 by_cases hw:ws = []
 · exact concat_meets ⟨_,ho,rfl⟩ ⟨_,ho2,rfl⟩ noFill_tuple_add seq_tuple_add PySem.F.slot_tuple_add PySem.F.entry_tuple_add (PySem.F.args_tuple_add_2 _ _)
    (tuple_addW1 t b vs.toArray ws.toArray n n2 dd dd2 sl sl2 (by simpa using hv) (by simp [hw])) ⟨ho,ho2,h1 hw⟩
 · refine concat_meets ⟨_,ho,rfl⟩ ⟨_,ho2,rfl⟩ noFill_tuple_add seq_tuple_add PySem.F.slot_tuple_add PySem.F.entry_tuple_add (PySem.F.args_tuple_add_2 _ _)
    (tuple_addW2 t b vs.toArray ws.toArray n n2 dd dd2 sl sl2 (by simpa using hv) (by simpa using hw) (by rw [List.size_toArray,List.size_toArray];exact hsz)) ⟨ho,ho2,?_⟩
   rw [e]
   exact h2 hw
def bO (n d:Nat):Option Int→Nat
 | none=>d
 | some v=>if v < 0 then (v + (n:Int)).toNat else min v.toNat n
theorem sV (n d:Nat):bO n d none = d:=rfl
theorem mX (n d k:Nat):bO n d (some (k:Int)) = min k n:=by
 show (if (k:Int) < 0 then ((k:Int) + (n:Int)).toNat else min (k:Int).toNat n) = min k n
 rw [if_neg (by omega),Int.toNat_natCast]
theorem Eo (n d:Nat) (hd:d≤n) (o:Option Int):bO n d o≤n:=by
 cases o with
 | none=>exact hd
 | some v=>
   show (if v < 0 then (v + (n:Int)).toNat else min v.toNat n)≤n
   by_cases hv:v < 0
   · rw [if_pos hv];omega
   · rw [if_neg hv];exact Nat.min_le_right _ _
theorem BR (v:Int) (n d:Nat):(if v < 0 then max (v + (n:Int)) 0 else min v (n:Int)) = ((bO n d (some v):Nat):Int):=by
 show (if v < 0 then max (v + (n:Int)) 0 else min v (n:Int)) = (((if v < 0 then (v + (n:Int)).toNat else min v.toNat n):Nat):Int)
 by_cases hv:v < 0
 · simp only [if_pos hv];omega
 · simp only [if_neg hv];omega
theorem C0 (lo hi:Option Int) (n:Nat):Builtin.Slice.sliceAdjust lo hi 1 (n:Int) = (((bO n 0 lo:Nat):Int),((bO n n hi:Nat):Int)):=by
 have h1:¬ ((1:Int) < 0):=by omega
 unfold Builtin.Slice.sliceAdjust
 simp only [h1,if_false]
 refine Prod.ext ?_ ?_
 · cases lo with
   | none=>rfl
   | some v=>exact BR v n 0
 · cases hi with
   | none=>rfl
   | some v=>exact BR v n n
theorem C3 (i j:Nat):Builtin.Slice.slicePlaces (i:Int) (j:Int) 1 = j - i:=by
 unfold Builtin.Slice.slicePlaces
 have h1:(1:Int) > 0:=by omega
 simp only [h1,if_true,Int.ediv_one]
 split <;> omega
theorem ug {v:Value} {o:Option Int} {Q:Option Int→Shared→Prop} (p:IsPart v o) (h:Q o s):wpAny (model prog w) A (Builtin.Slice.slicePartIndex v) Q E s:=by
 cases p with
 | none=>exact slicePart_none h
 | int i t=>exact slicePart_int h
theorem sW {sl:Addr} {vl vu:Value} {lo hi:Option Int} {n:Nat} {Q:Int × Int × Nat→Shared→Prop} (hs:s.heap.IsSliceOf sl vl vu .none) (pl:IsPart vl lo) (pu:IsPart vu hi)
  (h:Q (((bO n 0 lo:Nat):Int),1,bO n n hi - bO n 0 lo) s):wpAny (model prog w) A (Builtin.Slice.sliceApplied (.ref sl) (pure (n:Int))) Q E s:=by
 obtain ⟨os,hos,hcs,hds⟩:=id hs
 unfold Builtin.Slice.sliceApplied Builtin.Slice.sliceFields
 refine wpAny_bind (wpAny_bind (wpAny_field hos hds (x:=vl) rfl (wpAny_bind (wpAny_field hos hds (x:=vu) rfl (wpAny_bind (wpAny_field hos hds (x:= .none) rfl (wpAny_pure ?_)))))))
 refine wpAny_bind (slicePart_none ?_)
 show wpAny _ _ (if ((1:Int) == 0) = true then _ else _) _ _ s
 rw [if_neg (by decide)]
 refine wpAny_bind (ug pl (wpAny_bind (ug pu (wpAny_bind (wpAny_pure ?_)))))
 show wpAny _ _ (match Builtin.Slice.sliceAdjust lo hi 1 (n:Int) with | (lo,hi)=>pure (lo,(1:Int),Builtin.Slice.slicePlaces lo hi 1)) _ _ s
 rw [C0 lo hi n]
 show wpAny _ _ (pure (((bO n 0 lo:Nat):Int),(1:Int),Builtin.Slice.slicePlaces ((bO n 0 lo:Nat):Int) ((bO n n hi:Nat):Int) 1)) _ _ s
 rw [C3]
 exact wpAny_pure h
theorem Gk (xs:Array Value) (i k:Nat):((List.range k).filterMap fun (m:Nat)=>xs[((i:Int) + (m:Int) * 1).toNat]?).toArray = ((xs.toList.drop i).take k).toArray:=by
 have e:(fun (m:Nat)=>xs[((i:Int) + (m:Int) * 1).toNat]?) = fun m=>xs[i + m]?:=by
  funext m
  have:((i:Int) + (m:Int) * 1).toNat = i + m:=by omega
  rw [this]
 rw [e]
 have:=pick_run xs i k
 rw [List.filterMap_map] at this
 have e2:((fun x=>xs[x]?) ∘ fun x=>i + x) = fun m=>xs[i + m]?:=rfl
 rw [e2] at this
 rw [this]
theorem rj {t sl:Addr} {items:Array Value} {vl vu:Value} {lo hi:Option Int} {Q:Value→Shared→Prop} (ht:IsTup s.heap t items) (hs:s.heap.IsSliceOf sl vl vu .none) (pl:IsPart vl lo) (pu:IsPart vu hi)
  (hw:¬ (bO items.size 0 lo = 0∧bO items.size items.size hi = items.size))
  (h:Q (.ref s.heap.objs.size) { s with heap:=s.heap.push { cls:= .type "tuple",data:= .seq ((items.toList.drop (bO items.size 0 lo)).take (bO items.size items.size hi - bO items.size 0 lo)).toArray } })
  (hsz:items.size≤sizeLine):wpAny (model prog w) A (getItem (.ref t) (.ref sl)) Q E s:=by
 have yj:sizeOk (.seq ((items.toList.drop (bO items.size 0 lo)).take (bO items.size items.size hi - bO items.size 0 lo)).toArray):=by
  show ((items.toList.drop (bO items.size 0 lo)).take (bO items.size items.size hi - bO items.size 0 lo)).toArray.size≤sizeLine
  rw [List.size_toArray,List.length_take,List.length_drop,Array.length_toList]
  omega
 have hj:bO items.size items.size hi≤items.size:=Eo _ _ (Nat.le_refl _) hi
 obtain ⟨os,hos,hcs,hds⟩:=id hs
 have QF:s.TypeIs (.ref sl) "slice":=⟨os,hos,hcs⟩
 unfold getItem
 try with_reducible refine wpAny_holding ?_
 first | refine wpAny_bind (wpAny_pure ?_) | skip
 refine wpAny_bind (wpAny_sequenceKey ht.typeIs (by decide) ?_)
 refine wpAny_bind (wpAny_callSpecial?_slot (name:=Str.ofString "__getitem__") ht.typeIs PyProof.Rows.slot_tuple_getitem
  (wpAny_call_entry PyProof.Rows.slot_tuple_getitem ht.typeIs entry_tuple_getitem ?_ (args_tuple_getitem _ _)))
 show wpAny _ _ (Builtin.Tuple.tupleItemsOf (.ref t) >>= _) _ _ s
 refine wpAny_bind (tupleItemsOf_ ht ?_)
 refine wpAny_bind (wpAny_typeOf QF ?_)
 rw [if_pos (by decide)]
 refine wpAny_bind (sW hs pl pu ?_)
 have hno:¬ ((((bO items.size 0 lo:Nat):Int) == 0 && (1:Int) == 1 && (bO items.size items.size hi - bO items.size 0 lo) == items.size) = true):=by
  intro q
  rw [Bool.and_eq_true,Bool.and_eq_true] at q
  have q1:((bO items.size 0 lo:Nat):Int) = 0:=eq_of_beq q.1.1
  have q2:bO items.size items.size hi - bO items.size 0 lo = items.size:=eq_of_beq q.2
  exact hw ⟨by omega,by omega⟩
 show wpAny _ _ (if (((bO items.size 0 lo:Nat):Int) == 0 && (1:Int) == 1 && (bO items.size items.size hi - bO items.size 0 lo) == items.size) = true then _ else _) _ _ s
 rw [if_neg hno,Gk]
 first
  | exact wpAny_bind (m:=Builtin.Tuple.tupleExact _) (wpAny_newObj_type (wpAny_pure ⟨_,rfl,wpAny_pure h⟩) yj)
  | exact wpAny_bind (m:=Builtin.Tuple.tupleExact _) (wpAny_newObj_type (wpAny_bind (wpAny_pure (wpAny_pure ⟨_,rfl,wpAny_pure h⟩))) yj)
  | exact wpAny_bind (wpAny_bind (m:=Builtin.Tuple.tupleExact _) (wpAny_newObj_type (wpAny_pure (wpAny_pure ⟨_,rfl,wpAny_pure h⟩)) yj))
  | exact wpAny_bind (wpAny_bind (m:=Builtin.Tuple.tupleExact _) (wpAny_newObj_type (wpAny_pure ⟨_,rfl,wpAny_pure h⟩) yj))
end
end HT
namespace L2
open PySem PySem.Spec PyProof.Rows
abbrev TO:=St→Hp→(Option Int→Hp→Prop)→Prop
def PO (X:Cx) (e:Option Expr) (t:TO):Prop:=
 ∀(pins:List (Addr × Obj)) (s:Shared) (σ:St) (H:Hp) (Q:Option Int→Hp→Prop),Inv X pins σ H s→t σ H Q→
  wpAny (model X.prog X.w) X.A (evalPart e X.env) (fun u s'=>∃o H',Inv X pins σ H' s'∧IsPart u o∧Q o H') X.xe s
def Ji:TO:=fun _ H Q=>Q none H
def MT (t:TE):TO:=fun σ H Q=>t σ H fun x H1=>∃i,x = .int i∧Q (some i) H1
theorem intsAre_of {ns:List Int}:∀{us:List Value},Vals (ns.map V.int) us→IntsAre us ns:=by
 induction ns with
 | nil=>intro us r;rw [List.map_nil] at r;cases r;exact .nil
 | cons n ns ih=>
   intro us r
   rw [List.map_cons] at r
   cases r with
   | cons r1 r2=>
     obtain ⟨t,e⟩:=r1
     subst e
     exact .cons n t (ih r2)
section
variable {X:Cx} {e:Expr} {te:TE} {lo hi:Option Expr} {tl th:TO} {pos p2:Pos}
theorem iS:PO X none Ji:=by
 intro pins s σ H Q I h
 rw [evalPart_none]
 exact wpAny_pure ⟨none,H,I, .none,h⟩
theorem iT (h:PE X e te):PO X (some e) (MT te):=by
 intro pins s σ H Q I hw
 rw [evalPart_some]
 refine aL (h pins s σ H _ I hw) fun u s1 ⟨x,H1,I1,r1,q1⟩=>?_
 obtain ⟨i,rfl,q⟩:=q1
 obtain ⟨t,rfl⟩:=r1
 exact ⟨some i,H1,I1, .int i t,q⟩
def Ep (X:Cx) (r:V→Option Int→Option Int→Hp→VK→Prop):Prop:=
 ∀(pins:List (Addr × Obj)) (s:Shared) (σ:St) (H:Hp) (x:V) (v vl vu:Value) (lo hi:Option Int) (sl:Addr) (Q:VK),Inv X pins σ H s→RelV x v→s.heap.IsSliceOf sl vl vu .none→IsPart vl lo→IsPart vu hi→r x lo hi H Q→
  ∃T id,typeLookup (.type T) "__getitem__" = pure (some (.builtin id))∧s.TypeIs v T∧wpAny (model X.prog X.w) X.A (getItem v (.ref sl)) (EP X pins σ Q) X.xe s
def QG (r:V→Option Int→Option Int→Hp→VK→Prop) (te:TE) (tl th:TO):TE:=fun σ H Q=>te σ H fun x H1=>tl σ H1 fun l H2=>th σ H2 fun u H3=>r x l u H3 Q
theorem gH {r:V→Option Int→Option Int→Hp→VK→Prop} (hr:Ep X r) (he:PE X e te) (hl:PO X lo tl) (hu:PO X hi th):PE X (.Subscript e (.Slice lo hi none p2) pos) (QG r te tl th):=by
 intro pins s σ H Q I h
 refine Subscript_ (aL (he pins s σ H _ I h) fun v s1 ⟨x,H1,I1,r1,q1⟩=>?_)
 refine wpAny_Slice (aL (hl pins s1 σ H1 _ I1 q1) fun vl s2 ⟨l,H2,I2,pl,q2⟩=>aL (hu pins s2 σ H2 _ I2 q2) fun vu s3 ⟨u,H3,I3,pu,q3⟩=>?_)
 rw [evalPart_none]
 refine wpAny_pure ?_
 have I4:Inv X pins σ H3 { s3 with heap:=s3.heap.push { cls:= .type "slice",data:= .fields #[vl,vu, .none] } }:=I3.kept (t':=s3.toks) fun b ob q=>Heap.get?_push_of_some _ q
 obtain ⟨T,id,hT,ht,hg⟩:=hr pins { s3 with heap:=s3.heap.push { cls:= .type "slice",data:= .fields #[vl,vu, .none] } } σ H3 x v vl vu l u s3.heap.objs.size Q I4 r1 (Heap.IsSliceOf.new ..) pl pu q3
 show wpAny (model X.prog X.w) X.A (subscriptTail e (.Slice lo hi none p2) v (.ref s3.heap.objs.size)) (EP X pins σ Q) X.xe { s3 with heap:=s3.heap.push { cls:= .type "slice",data:= .fields #[vl,vu, .none] } }
 exact tail_any (ops:=[.ref s3.heap.objs.size,v]) ht hT hg (by with_unfolding_all rfl)
def mw (xs:List V) (lo hi:Option Int):List V:=(xs.drop (HT.bO xs.length 0 lo)).take (HT.bO xs.length xs.length hi - HT.bO xs.length 0 lo)
theorem AW (xs:List V) (lo hi:Option Int):(mw xs lo hi).length≤xs.length:=by
 unfold mw
 rw [List.length_take,List.length_drop]
 omega
def KC (K:PySem.W.Frag):V→Option Int→Option Int→Hp→VK→Prop:=fun x lo hi H Q=>∃a xs,x = .ref a∧bF K H a xs∧
 ¬ (HT.bO xs.length 0 lo = 0∧HT.bO xs.length xs.length hi = xs.length)∧∀p,H p = none→Q (.ref p) (upd H p (.tup (mw xs lo hi)))
theorem KD:Ep X (KC X.K):=by
 intro pins s σ H x v vl vu lo hi sl Q I rx hs pl pu h
 obtain ⟨a,xs,rfl,hx,hw,q⟩:=h
 cases rx
 obtain ⟨its,r,ht,hz⟩:=I.tuple hx
 have hlen:its.toArray.size = xs.length:=by rw [List.size_toArray];exact r.length.symm
 refine ⟨"tuple",_,PyProof.Rows.slot_tuple_getitem.lookup,ht.typeIs,?_⟩
 refine HT.rj ht hs pl pu (by rw [hlen];exact hw) ?_ (by rw [hlen];exact hz)
 rw [hlen]
 refine ⟨.ref s.heap.objs.size,_,I.laid (t':=s.toks) (o:= .tup (mw xs lo hi)) (fun b ob q=>Heap.get?_push_of_some _ q) (Nat.le_refl _) ?_,rfl,q _ (I.hok.fresh (Nat.le_refl _))⟩
 exact ⟨Nat.le_trans (AW xs lo hi) hz,_,(r.drop (HT.bO xs.length 0 lo)).take (HT.bO xs.length xs.length hi - HT.bO xs.length 0 lo),IsTup.new _ _⟩
def MU (K:PySem.W.Frag):R2:=fun x y H Q=>∃a b xs ys,x = .ref a∧y = .ref b∧bF K H a xs∧bF K H b ys∧xs ≠ []∧xs.length + ys.length≤sizeLine∧
 (ys = []→Q (.ref a) H)∧(ys ≠ []→∀p,H p = none→Q (.ref p) (upd H p (.tup (xs ++ ys))))
theorem Vals.qH {xs:List V} {us:List Value} (r:Vals xs us):us = []↔xs = [] :=by
 cases r with
 | nil=>simp
 | cons _ _=>simp
theorem Jj:dm X (binaryOp .Add) (MU X.K):=by
 intro pins s σ H x y v u Q I rx ry h
 obtain ⟨a,b,xs,ys,rfl,rfl,ha,hb,hx,hz,q1,q2⟩:=h
 cases rx
 cases ry
 obtain ⟨its,r1,p1,_⟩:=I.tuple ha
 obtain ⟨its2,r2,p2,_⟩:=I.tuple hb
 refine HT.Jh p1 p2 (fun z=>hx (r1.qH.mp z)) (fun z=>⟨.ref a,H,I,rfl,q1 (r2.qH.mp z)⟩) (fun z=>?_) (by rw [← r1.length,← r2.length];exact hz)
 refine ⟨.ref s.heap.objs.size,_,I.laid (t':=s.toks) (o:= .tup (xs ++ ys)) (fun b ob q=>Heap.get?_push_of_some _ q) (Nat.le_refl _) ?_,rfl,q2 (fun w=>z (r2.qH.mpr w)) _ (I.hok.fresh (Nat.le_refl _))⟩
 exact ⟨by rw [List.length_append];exact hz,_,r1.append r2,IsTup.new _ _⟩
end
end L2
namespace L2
open PySem PySem.Spec PyProof.Rows
def rJ (n:Nat) (i:Int):Option Nat:=if 0≤i then (if i < n then some i.toNat else none) else if -(n:Int)≤i then some (i + n).toNat else none
def gj {α:Type} (xs:List α) (i:Int):Option α:=(rJ xs.length i).bind fun j=>xs[j]?
theorem BU {n:Nat} {i:Int} {j:Nat} (h:rJ n i = some j):seqIndex? i n = some j∧j < n∧-(n:Int)≤i∧i < n:=by
 unfold rJ at h
 by_cases h0:0≤i
 · rw [if_pos h0] at h
   by_cases h1:i < n
   · rw [if_pos h1] at h
     have e:i.toNat = j:=Option.some.inj h
     exact ⟨by rw [seqIndex_of h0 h1,e],by omega,by omega,h1⟩
   · rw [if_neg h1] at h;cases h
 · rw [if_neg h0] at h
   by_cases h1:-(n:Int)≤i
   · rw [if_pos h1] at h
     have e:(i + n).toNat = j:=Option.some.inj h
     exact ⟨by rw [seqIndex_neg (by omega) h1,e],by omega,h1,by omega⟩
   · rw [if_neg h1] at h;cases h
theorem vA {α:Type} {xs:List α} {i:Int} {v:α} (h:gj xs i = some v):∃j,seqIndex? i xs.length = some j∧xs[j]? = some v∧j < xs.length∧-(xs.length:Int)≤i∧i < xs.length:=by
 unfold gj at h
 cases e:rJ xs.length i with
 | none=>rw [e] at h;cases h
 | some j=>
   rw [e] at h
   obtain ⟨h1,h2,h3,h4⟩:=BU e
   exact ⟨j,h1,h,h2,h3,h4⟩
theorem a_ {α:Type} {xs:List α} {j:Nat} {v:α} (h:xs[j]? = some v):gj xs (j:Int) = some v:=by
 have hj:j < xs.length:=(List.getElem?_eq_some_iff.mp h).1
 have e:rJ xs.length (j:Int) = some j:=by
  unfold rJ
  rw [if_pos (by omega),if_pos (by omega)];simp
 unfold gj;rw [e];exact h
def Jk (b:Expr):Prop:=∀o i,subscripted b false o i = operate [o,i] (getItem o i)
def oB (X:Cx) (r:R2):Prop:=
 ∀(value slice:Expr) (pins:List (Addr × Obj)) (s:Shared) (σ:St) (H:Hp) (x y:V) (v u:Value) (Q:VK),Inv X pins σ H s→RelV x v→RelV y u→r x y H Q→
  subscripted slice false v u = operate [v,u] (getItem v u)→wpAny (model X.prog X.w) X.A (subscriptTail value slice v u) (EP X pins σ Q) X.xe s
def QH (X:Cx) (id:String) (r:V→List V→Hp→VK→Prop):Prop:=
 ∀(pins:List (Addr × Obj)) (s:Shared) (σ:St) (H:Hp) (x:V) (xs:List V) (v:Value) (us:List Value) (Q:VK),Inv X pins σ H s→RelV x v→Vals xs us→r x xs H Q→
  wpAny (model X.prog X.w) X.A (call (.builtin id) (v :: us)) (EP X pins σ Q) X.xe s
section
variable {X:Cx} {a b:Expr} {ta tb:TE} {pos:Pos}
theorem oB.or {r r':R2} (h:oB X r) (h':oB X r'):oB X (fun x y H Q=>r x y H Q∨r' x y H Q):=by
 intro value slice pins s σ H x y v u Q I rx ry q hs
 rcases q with q | q
 · exact h value slice pins s σ H x y v u Q I rx ry q hs
 · exact h' value slice pins s σ H x y v u Q I rx ry q hs
theorem aF {r:R2} (hr:oB X r) (ha:PE X a ta) (hb:PE X b tb) (hs:Jk b):PE X (.Subscript a b pos) (BK r ta tb):=by
 intro pins s σ H Q I h
 exact Subscript_ (F9 ha hb I h fun v u s2 x y H2 I2 rx ry q=>hr a b pins s2 σ H2 x y v u Q I2 rx ry q (hs _ _))
def Gm (K:PySem.W.Frag):R2:=fun x y H Q=>∃p xs i v,x = .ref p∧y = .int i∧aE K H p xs∧gj xs i = some v∧Q v H
def Gn (K:PySem.W.Frag):R2:=fun x y H Q=>∃p xs i v,x = .ref p∧y = .int i∧bF K H p xs∧gj xs i = some v∧Q v H
def KG:R2:=fun x y H Q=>∃z i c,x = .str z∧y = .int i∧z.length≤sizeLine∧gj z.cps.toList i = some c∧Q (.str ⟨#[c]⟩) H
theorem BV:oB X (Gm X.K):=by
 intro value slice pins s σ H x y v u Q I rx ry h hs
 obtain ⟨p,xs,i,z,rfl,rfl,hq,he,q⟩:=h
 cases rx
 obtain ⟨t,rfl⟩:=ry
 obtain ⟨its,r,pl,hz⟩:=I.list hq
 obtain ⟨j,h1,h2,h3,h4,h5⟩:=vA he
 obtain ⟨w,ew,rw'⟩:=r.get h2
 have hl:=r.length
 have hn:=mV
 have fin:EP X pins σ Q w s:=⟨z,H,I,rw',q⟩
 by_cases h0:0≤i
 · have hj:i.toNat = j:=by
    rw [seqIndex_of h0 h5] at h1
    exact Option.some.inj h1
   exact item_listR pl.isList h0 (by omega) (by rw [hj];simpa using ew) fin hs
 · have hj:(i + (its.toArray.size:Int)).toNat = j:=by
    rw [seqIndex_neg (by omega) h4] at h1
    rw [List.size_toArray,← hl]
    exact Option.some.inj h1
   exact subscriptTail_builtinR (x:=w) pl.isList.typeIs slot_list_getitem.lookup
    (wpAny_getItem_list_neg (Q:=fun r s'=>r = w∧EP X pins σ Q r s') pl.isList (by omega) (by rw [List.size_toArray] <;> omega) (by omega) (by rw [hj];simpa using ew) ⟨rfl,fin⟩) hs
theorem Er:oB X (Gn X.K):=by
 intro value slice pins s σ H x y v u Q I rx ry h hs
 obtain ⟨p,xs,i,z,rfl,rfl,hq,he,q⟩:=h
 cases rx
 obtain ⟨t,rfl⟩:=ry
 obtain ⟨its,r,pl,hz⟩:=I.tuple hq
 obtain ⟨j,h1,h2,h3,h4,h5⟩:=vA he
 obtain ⟨w,ew,rw'⟩:=r.get h2
 have hl:=r.length
 have hn:=mV
 have fin:EP X pins σ Q w s:=⟨z,H,I,rw',q⟩
 exact subscriptTail_builtinR (x:=w) pl.typeIs slot_tuple_getitem.lookup
  (getItem_tuple (j:=j) (Q:=fun r s'=>r = w∧EP X pins σ Q r s') pl (by omega) (by omega) (by rw [List.size_toArray,← hl];exact h1) (by simpa using ew) ⟨rfl,fin⟩) hs
theorem Es:oB X KG:=by
 intro value slice pins s σ H x y v u Q I rx ry h hs
 obtain ⟨z,i,c,rfl,rfl,hz,he,q⟩:=h
 obtain ⟨t,rfl⟩:=rx
 obtain ⟨t',rfl⟩:=ry
 obtain ⟨j,h1,h2,h3,h4,h5⟩:=vA he
 have hl:z.cps.toList.length = z.length:=by simp [Str.length]
 rw [hl] at h1 h4 h5
 have hn:=mV
 exact tail_any (typeIs_str s z t) slot_str_getitem.lookup (getItem_str (c:=c) (by
  have e1:decide (i < -(2 ^ 63:Int)) = false:=decide_eq_false (by omega)
  have e2:decide (i ≥ 2 ^ 63) = false:=decide_eq_false (by omega)
  rw [e1,e2,Bool.or_false]) (by rw [h1];simpa using h2) ⟨.str ⟨#[c]⟩,H,I.tok _,⟨_,rfl⟩,q⟩) hs
def KH (K:PySem.W.Frag):R2:=fun x y H Q=>Gm K x y H Q∨Gn K x y H Q∨KG x y H Q
theorem KI:oB X (KH X.K):=BV.or (Er.or Es)
theorem C4 (its:List Value) (n j:Nat) (u:Value):Obj.mapSeq (·.setIfInBounds j u) { cls:= .type "list",data:= .seq its.toArray n } = { cls:= .type "list",data:= .seq (its.set j u).toArray n }:=by
 simp [Obj.mapSeq]
theorem Inv.lst {pins:List (Addr × Obj)} {σ:St} {H:Hp} {s:Shared} {p:Addr} {xs:List V} (I:Inv X pins σ H s) (h:H p = some (.lst xs)):
  ∃(its:List Value) (n:Nat),Vals xs its∧s.heap.get? p = some { cls:= .type "list",data:= .seq its.toArray n }∧xs.length≤sizeLine:=by
 obtain ⟨z,its,n,r,e⟩:=I.hok p _ h
 exact ⟨its,n,r,e,z⟩
theorem Inv.KJ {pins:List (Addr × Obj)} {σ:St} {H:Hp} {s:Shared} {p:Addr} {xs ys:List V} {its its':List Value} {n n':Nat} {f:Obj→Obj} (I:Inv X pins σ H s) (h:H p = some (.lst xs))
  (ho:s.heap.get? p = some { cls:= .type "list",data:= .seq its.toArray n }) (hf:f { cls:= .type "list",data:= .seq its.toArray n } = { cls:= .type "list",data:= .seq its'.toArray n' }) (r:Vals ys its') (hz:ys.length≤sizeLine) (t:Nat):
  Inv X pins σ (upd H p (.lst ys)) { s with heap:=s.heap.update p f,toks:=t }:=by
 have e:(s.heap.update p f).get? p = some { cls:= .type "list",data:= .seq its'.toArray n' }:=by
  rw [Heap.get?_update_self f ho (by rw [hf] <;> rfl),hf]
 refine I.write (x:=p) (e:=p) (by rw [h];trivial) (.inl rfl) (fun b u hb q=>(Heap.get?_update_other _ _ (Ne.symm hb)).trans q) ⟨_,e⟩ ?_
 exact ⟨hz,its',n',r,e⟩
def MV:V→V→V→Hp→(Hp→Prop)→Prop:=fun o i v H Q=>∃p xs k j,o = .ref p∧i = .int k∧H p = some (.lst xs)∧rJ xs.length k = some j∧Q (upd H p (.lst (xs.set j v)))
theorem set_list:Kg X MV:=by
 intro pins s σ H o i v ov iv u Q I ro ri rv h
 obtain ⟨p,xs,k,j,rfl,rfl,hp,hj,q⟩:=h
 cases ro
 obtain ⟨t,rfl⟩:=ri
 obtain ⟨its,n,r,ho,hz⟩:=I.lst hp
 obtain ⟨h1,h2,h3,h4⟩:=BU hj
 have hl:=r.length
 have hn:=mV
 have I':Inv X pins σ (upd H p (.lst (xs.set j v))) { s with heap:=s.heap.update p (Obj.mapSeq (·.setIfInBounds j u)) }:=
  I.KJ hp ho (C4 its n j u) (r.set rv j) (by rw [List.length_set];exact hz) s.toks
 by_cases h0:0≤k
 · have hk:k.toNat = j:=by
    rw [seqIndex_of h0 h4] at h1
    exact Option.some.inj h1
   exact PySem.W.ki_setAt ho h0 (by omega) (by rw [List.size_toArray,← hl];exact h4) (by rw [hk];exact ⟨_,I',q⟩)
 · have hk:(k + (its.toArray.size:Int)).toNat = j:=by
    rw [seqIndex_neg (by omega) h3] at h1
    rw [List.size_toArray,← hl]
    exact Option.some.inj h1
   exact PySem.W.ki_setBack ho (by omega) (by rw [List.size_toArray,← hl];exact h3) (by omega) (by rw [hk];exact ⟨_,I',q⟩)
def jh:V→Bool
 | .bE=>true
 | .bl _=>true
 | .int _=>true
 | .str _=>true
 | _=>false
def oF:V→V→Bool
 | .bE, .bE=>true
 | .bl a, .bl b=>a == b
 | .bl a, .int b=>(if a then 1 else 0) == b
 | .int a, .bl b=>a == (if b then 1 else 0)
 | .int a, .int b=>a == b
 | .str a, .str b=>a == b
 | _,_=>false
theorem KL {A:Around} {s:Shared} {y x:V} {u v:Value} (ry:RelV y u) (rx:RelV x v) (fy:jh y = true) (fx:jh x = true):SeqAt.EqAt A s u v (oF y x):=by
 cases y with
 | bE=>
   cases ry
   cases x with
   | bE=>cases rx;exact SeqAt.EqAt.same _
   | bl b=>cases rx;exact SeqAt.EqAt.none_bool b
   | int b=>obtain ⟨t,rfl⟩:=rx;exact SeqAt.EqAt.none_int b t
   | str b=>obtain ⟨t,rfl⟩:=rx;exact SeqAt.EqAt.none_str b t
   | _=>exact absurd (show false = true from fx) Bool.false_ne_true
 | bl a=>
   cases ry
   cases x with
   | bE=>cases rx;exact SeqAt.EqAt.bool_none a
   | bl b=>cases rx;exact SeqAt.EqAt.bool_bool a b
   | int b=>obtain ⟨t,rfl⟩:=rx;exact SeqAt.EqAt.bool_int a b t
   | str b=>obtain ⟨t,rfl⟩:=rx;exact SeqAt.EqAt.bool_str a b t
   | _=>exact absurd (show false = true from fx) Bool.false_ne_true
 | int a=>
   obtain ⟨t',rfl⟩:=ry
   cases x with
   | bE=>cases rx;exact SeqAt.EqAt.int_none a t'
   | bl b=>cases rx;exact SeqAt.EqAt.int_bool a t' b
   | int b=>obtain ⟨t,rfl⟩:=rx;exact SeqAt.EqAt.int_int a t' b t
   | str b=>obtain ⟨t,rfl⟩:=rx;exact SeqAt.EqAt.int_str a t' b t
   | _=>exact absurd (show false = true from fx) Bool.false_ne_true
 | str a=>
   obtain ⟨t',rfl⟩:=ry
   cases x with
   | bE=>cases rx;exact SeqAt.EqAt.str_none a t'
   | bl b=>cases rx;exact SeqAt.EqAt.str_bool a t' b
   | int b=>obtain ⟨t,rfl⟩:=rx;exact SeqAt.EqAt.str_int a t' b t
   | str b=>obtain ⟨t,rfl⟩:=rx;exact SeqAt.EqAt.str_str a t' b t
   | _=>exact absurd (show false = true from fx) Bool.false_ne_true
 | _=>exact absurd (show false = true from fy) Bool.false_ne_true
def ku (x:V) (u:Value):Bool:=match u with
 | .none=>oF .bE x
 | .bool b=>oF (.bl b) x
 | .int i _=>oF (.int i) x
 | .str z _=>oF (.str z) x
 | _=>false
theorem Et {x y:V} {u:Value} (r:RelV y u) (f:jh y = true):ku x u = oF y x:=by
 cases y with
 | bE=>cases r;rfl
 | bl b=>cases r;rfl
 | int i=>obtain ⟨t,rfl⟩:=r;rfl
 | str z=>obtain ⟨t,rfl⟩:=r;rfl
 | _=>exact absurd (show false = true from f) Bool.false_ne_true
theorem mY {x:V}:∀{xs:List V} {us:List Value},Vals xs us→xs.all jh = true→us.any (ku x) = xs.any fun y=>oF y x
 | _,_, .nil,_=>rfl
 | y :: xs,u :: us, .cons r t,f=>by
   rw [List.all_cons,Bool.and_eq_true] at f
   rw [List.any_cons,List.any_cons,Et r f.1,mY t f.2]
theorem kB {A:Around} {s:Shared} {x:V} {v:Value} (rx:RelV x v) (fx:jh x = true):∀{xs:List V} {us:List Value},Vals xs us→xs.all jh = true→∀u∈us,SeqAt.EqAt A s u v (ku x u)
 | _,_, .nil,_=>fun u hu=>by cases hu
 | y :: xs,u :: us, .cons r t,f=>fun u' hu=>by
   rw [List.all_cons,Bool.and_eq_true] at f
   rcases List.mem_cons.mp hu with rfl | hu
   · rw [Et r f.1];exact KL r rx f.1 fx
   · exact kB rx fx t f.2 u' hu
def yI (x:V) (xs:List V):Bool:=xs.any fun y=>oF y x
def NT (K:PySem.W.Frag) (neg:Bool):R2:=fun x y H Q=>∃p xs,y = .ref p∧(aE K H p xs∨bF K H p xs)∧jh x = true∧xs.all jh = true∧Q (.bl (if neg then !yI x xs else yI x xs)) H
theorem wO:dm X (compareOp .In) (NT X.K false):=by
 intro pins s σ H x y v u Q I rx ry h
 obtain ⟨p,xs,rfl,hq,fx,fs,q⟩:=h
 cases ry
 rcases hq with hq | hq
 · obtain ⟨its,r,pl,hz⟩:=I.list hq
   refine SeqAt.in_listAt (ku x) pl.isList (fun w hw=>kB rx fx r fs w (by simpa using hw)) ⟨.bl _,H,I,rfl,?_⟩
   rw [show its.toArray.any (ku x) = its.any (ku x) by simp,mY r fs]
   exact q
 · obtain ⟨its,r,pl,hz⟩:=I.tuple hq
   refine SeqAt.in_tupleAt (ku x) pl (fun w hw=>kB rx fx r fs w (by simpa using hw)) ⟨.bl _,H,I,rfl,?_⟩
   rw [show its.toArray.any (ku x) = its.any (ku x) by simp,mY r fs]
   exact q
theorem yJ:dm X (compareOp .NotIn) (NT X.K true):=by
 intro pins s σ H x y v u Q I rx ry h
 obtain ⟨p,xs,rfl,hq,fx,fs,q⟩:=h
 cases ry
 rcases hq with hq | hq
 · obtain ⟨its,r,pl,hz⟩:=I.list hq
   refine SeqAt.notIn_listAt (ku x) pl.isList (fun w hw=>kB rx fx r fs w (by simpa using hw)) ⟨.bl _,H,I,rfl,?_⟩
   rw [show its.toArray.any (ku x) = its.any (ku x) by simp,mY r fs]
   exact q
 · obtain ⟨its,r,pl,hz⟩:=I.tuple hq
   refine SeqAt.notIn_tupleAt (ku x) pl (fun w hw=>kB rx fx r fs w (by simpa using hw)) ⟨.bl _,H,I,rfl,?_⟩
   rw [show its.toArray.any (ku x) = its.any (ku x) by simp,mY r fs]
   exact q
theorem yK:dS X (.builtin "len") (fun xs H Q=>∃p ys,xs = [.ref p]∧(aE X.K H p ys∨bF X.K H p ys)∧Q (.int ys.length) H):=by
 intro pins s σ H xs us Q I r h
 obtain ⟨p,ys,rfl,hq,q⟩:=h
 obtain ⟨u,rfl,rx⟩:=vals1 r
 cases rx
 have hn:=mV
 rcases hq with hq | hq
 · obtain ⟨its,r',pl,hz⟩:=I.list hq
   have hlen:=r'.length
   exact Calls.call_len_list pl.isList (by simp only [List.size_toArray] <;> omega) ⟨.int ys.length,H,I.tok _,⟨s.toks + 1,by rw [List.size_toArray,hlen]⟩,q⟩
 · obtain ⟨its,r',pl,hz⟩:=I.tuple hq
   have hlen:=r'.length
   exact len_tuple pl (by simp only [List.size_toArray] <;> omega) ⟨.int ys.length,H,I.tok _,⟨s.toks + 1,by rw [List.size_toArray,hlen]⟩,q⟩
theorem kC:dS X (.builtin "len") (fun xs H Q=>∃z,xs = [.str z]∧z.length≤sizeLine∧Q (.int z.length) H):=by
 intro pins s σ H xs us Q I r h
 obtain ⟨z,rfl,hz,q⟩:=h
 obtain ⟨u,rfl,t,rfl⟩:=vals1 r
 have hn:=mV
 exact len_str (by omega) ⟨.int z.length,H,I.tok _,⟨_,rfl⟩,q⟩
theorem yL:dS X (.type "list") (fun xs H Q=>∃p ys,xs = [.ref p]∧(aE X.K H p ys∨bF X.K H p ys)∧∀l,H l = none→Q (.ref l) (upd H l (.lst ys))):=by
 intro pins s σ H xs us Q I r h
 obtain ⟨p,ys,rfl,hq,q⟩:=h
 obtain ⟨u,rfl,rx⟩:=vals1 r
 cases rx
 have fin:∀(its:List Value),Vals ys its→ys.length≤sizeLine→∀(h':Heap) (c':Nat),(∀b o',s.heap.get? b = some o'→h'.get? b = some o')→
   h'.get? s.heap.objs.size = some { cls:= .type "list",dict:=none,data:= .seq its.toArray c',slots:=#[] }→EP X pins σ Q (.ref s.heap.objs.size) { s with heap:=h' }:=fun its r' hz h' c' kp e=>
  ⟨.ref s.heap.objs.size,_,I.laid (t':=s.toks) kp (Nat.le_refl _) (show bT X.prog X.w _ h' _ (.lst ys) from ⟨hz,its,c',r',e⟩),rfl,q _ (I.hok.fresh (Nat.le_refl _))⟩
 rcases hq with hq | hq
 · obtain ⟨its,r',pl,hz⟩:=I.list hq
   have hlen:=r'.length
   obtain ⟨o,ho,hc,n,hd⟩:=pl.isList
   exact call_list_seq p (.inl rfl) ho hc hd (fun h' c' kp e=>fin its r' hz h' c' kp e) (by simp only [List.size_toArray] <;> omega)
 · obtain ⟨its,r',pl,hz⟩:=I.tuple hq
   have hlen:=r'.length
   obtain ⟨o,ho,hc,n,hd⟩:=pl
   exact call_list_seq p (.inr rfl) ho hc hd (fun h' c' kp e=>fin its r' hz h' c' kp e) (by simp only [List.size_toArray] <;> omega)
def NU (K:PySem.W.Frag) (T:String) (x:V) (H:Hp):Prop:=match x with
 | .str _=>T = "str"
 | .int _=>T = "int"
 | .ref p=>(T = "list"∧∃xs,aE K H p xs)∨(T = "tuple"∧∃o,K.lookup p = some o∧o.cls = .type "tuple"∧o.dict = none)∨
     (T = "dict"∧((∃kvs,H p = some (.dK kvs))∨∃kvs,H p = some (.dT kvs)))∨(T = "set"∧∃S n,H p = some (.set S n))
 | _=>False
theorem KN {pins:List (Addr × Obj)} {σ:St} {H:Hp} {s:Shared} {T:String} {x:V} {v:Value} (I:Inv X pins σ H s) (r:RelV x v) (ty:NU X.K T x H):
  s.TypeIs v T∧∀a,v = .ref a→∃ob,s.heap.get? a = some ob∧ob.dict = none:=by
 cases x with
 | str z=>
   obtain ⟨t,rfl⟩:=r
   cases (show T = "str" from ty)
   exact ⟨typeIs_str s z t,fun _ e=>nomatch e⟩
 | int i=>
   obtain ⟨t,rfl⟩:=r
   cases (show T = "int" from ty)
   exact ⟨typeIs_int s i t,fun _ e=>nomatch e⟩
 | ref p=>
   cases r
   rcases ty with ⟨rfl,xs,hq⟩ | ⟨rfl,o,hk,hc,hd⟩ | ⟨rfl,hk⟩ | ⟨rfl,S,n,hk⟩
   · obtain ⟨its,_,pl,_⟩:=I.list hq
     refine ⟨pl.isList.typeIs,fun a e=>?_⟩
     cases e
     obtain ⟨o,n,e,c,hd,_⟩:=pl
     exact ⟨o,e,hd⟩
   · refine ⟨⟨o,I.dN p o hk,hc⟩,fun a e=>?_⟩
     cases e
     exact ⟨o,I.dN _ o hk,hd⟩
   · have z:∃o,s.heap.get? p = some o∧o.ExactDict:=by
      rcases hk with ⟨kvs,hk⟩ | ⟨kvs,hk⟩
      · obtain ⟨_,_,_,_,o,_,_,e,ex,_⟩:=I.hok p _ hk
        exact ⟨o,e,ex⟩
      · obtain ⟨_,_,_,_,o,_,_,e,ex,_⟩:=I.hok p _ hk
        exact ⟨o,e,ex⟩
     obtain ⟨o,e,ex⟩:=z
     refine ⟨⟨o,e,ex.1⟩,fun a e2=>?_⟩
     cases e2
     exact ⟨o,e,ex.2.1⟩
   · obtain ⟨o,_,_,_,e,ex,_⟩:=I.hok p _ hk
     refine ⟨⟨o,e,ex.1⟩,fun a e2=>?_⟩
     cases e2
     exact ⟨o,e,ex.2.1⟩
 | _=>exact False.elim ty
def QI (K:PySem.W.Frag) (T:String) (r:V→List V→Hp→VK→Prop) (to:TE) (t:TA):TE:=fun σ H Q=>to σ H fun x H1=>NU K T x H1∧t σ H1 fun xs H2=>r x xs H2 Q
variable {o e:Expr} {es:List Expr} {to:TE} {t:TA} {name:Str} {apos cpos:Pos} {T id:String} {r:V→List V→Hp→VK→Prop}
theorem qI (pa:PlainAttrs T) (slot:Slot T name id) (hty:typeOf (.builtin id) = pure (.type "method_descriptor")) (hm:QH X id r) (ho:PE X o to) (ha:PA X (e :: es) t)
  (hbase:attributeBase o name X.env (eval o X.env) = eval o X.env:=by rfl)
  (hfew:((backTo cpos (starEach (e :: es) X.env)).all (fun x=>!x.1) && (backToKw cpos (keywordEach [] X.env)).all (fun x=>x.1.isSome)
    && decide ((e :: es).length + ([] :List Keyword).length + (if ([] :List Keyword).isEmpty then 0 else 1) < 30)) = true:=by rfl)
  (hline:(apos.endLine == cpos.line) = true:=by rfl) (hs:starEach (e :: es) X.env = (false,eval e X.env) :: starEach es X.env:=by rfl) (hplain:(backTo cpos (starEach es X.env)).any (·.1) = false:=by rfl):
  PE X (.Call (.Attribute o name apos) (e :: es) [] cpos) (QI X.K T r to t):=by
 intro pins s σ H Q I h
 refine wpAny_Call_method_late hbase hfew hline rfl (aL (ho pins s σ H _ I h) fun v s1 ⟨x,H1,I1,r1,ty,q1⟩=>?_)
 obtain ⟨h1,h2⟩:=KN I1 r1 ty
 refine ⟨T,id,pa,slot,hty,h1,h2,?_⟩
 have hA:=ha cpos pins s1 σ H1 _ I1 q1
 rw [hs] at hA ⊢
 refine Calls.callWith_builtin (by show (false || (backTo cpos (starEach es X.env)).any (·.1)) = false;rw [hplain] <;> rfl) (Calls.evalArgs_plain ?_)
 exact aL hA fun us s2 ⟨vs,H2,I2,r2,q2⟩=>hm pins s2 σ H2 x vs v us Q I2 r1 r2 q2
end
end L2
namespace L2
open PySem PySem.Spec PyProof.Rows
def QJ (X:Cx) (id:String) (r:V→List V→Hp→VK→Prop):Prop:=
 ∀(pins:List (Addr × Obj)) (s:Shared) (σ:St) (H:Hp) (x:V) (xs:List V) (v:Value) (us:List Value) (Q:VK),Inv X pins σ H s→RelV x v→Vals xs us→r x xs H Q→
  wpAny (model X.prog X.w) X.A (call (.builtin id) (v :: us)) (EP X pins σ Q) X.xe s
theorem Vals.one:∀{x:V} {us:List Value},Vals [x] us→∃u,us = [u]∧RelV x u
 | _,_, .cons r .nil=>⟨_,rfl,r⟩
theorem Vals.rep {xs:List V} {us:List Value} (h:Vals xs us):∀k:Nat,Vals (List.replicate k xs).flatten (List.replicate k us).flatten
 | 0=> .nil
 | k + 1=>by
   rw [List.replicate_succ,List.replicate_succ,List.flatten_cons,List.flatten_cons]
   exact Vals.append h (Vals.rep h k)
theorem foldl_rep (its:List Value):∀(k:Nat) (acc:List Value),
  List.foldl (fun x1 x2=>x1 ++ x2) acc.toArray (List.replicate k its.toArray) = (acc ++ (List.replicate k its).flatten).toArray
 | 0,acc=>by simp
 | k + 1,acc=>by
   have e:acc.toArray ++ its.toArray = (acc ++ its).toArray:=by simp
   have e2:(acc ++ its) ++ (List.replicate k its).flatten = acc ++ (List.replicate (k + 1) its).flatten:=by
    rw [List.replicate_succ,List.flatten_cons,List.append_assoc]
   rw [← e2,← foldl_rep its k (acc ++ its),← e,List.replicate_succ,List.foldl_cons]
section
variable {X:Cx} {pins:List (Addr × Obj)} {σ:St} {H:Hp} {s:Shared} {l b:Addr} {xs ys zs:List V}
theorem Inv.PM {its its':List Value} {n:Nat} {f:Array Value→Array Value} {t':Nat} (I:Inv X pins σ H s) (hH:H l = some (.lst xs))
  (e:s.heap.get? l = some { cls:= .type "list",data:= .seq its.toArray n }) (hf:f its.toArray = its'.toArray) (hv:Vals ys its') (hz:ys.length≤sizeLine):
  Inv X pins σ (upd H l (.lst ys)) { s with heap:=s.heap.update l (Obj.mapSeq f),toks:=t' }:=by
 have q:=PySem.IsL.update e f
 rw [hf] at q
 refine I.write (x:=l) (e:=l) (by rw [hH];exact trivial) (.inl rfl) (fun b' u hb hu=>(Heap.get?_update_other s.heap (Obj.mapSeq f) (Ne.symm hb)).trans hu) ⟨_,q⟩ ?_
 exact ⟨hz,its',_,hv,q⟩
theorem Inv.KO {its:List Value} {t':Nat} (I:Inv X pins σ H s) (hv:Vals ys its) (hz:ys.length≤sizeLine):
  Inv X pins σ (upd H s.heap.objs.size (.lst ys)) { s with heap:=s.heap.push { cls:= .type "list",data:= .seq its.toArray },toks:=t' }:=
 I.laid (fun _ _ q=>Heap.get?_push_of_some _ q) (Nat.le_refl _) ⟨hz,its,0,hv,Heap.get?_push_size _ rfl⟩
theorem Inv.fresh (I:Inv X pins σ H s):H s.heap.objs.size = none:=I.hok.fresh (Nat.le_refl _)
theorem Inv.C5 (I:Inv X pins σ H s) (hH:H l = some (.lst xs)):xs.length≤sizeLine∧∃(its:List Value) (n:Nat),Vals xs its∧xs.length = its.length∧s.heap.get? l = some { cls:= .type "list",data:= .seq its.toArray n }:=by
 obtain ⟨z,its,n,r,e⟩:=I.hok l _ hH
 exact ⟨z,its,n,r,r.length,e⟩
theorem Gp {n:Nat} (h:n≤sizeLine):Builtin.List.listTooLong n = false:=by
 unfold Builtin.List.listTooLong
 exact decide_eq_false (by omega)
end
section
variable {X:Cx}
def Jl:V→List V→Hp→VK→Prop:=fun x vs H Q=>∃l xs y,x = .ref l∧vs = [y]∧H l = some (.lst xs)∧xs.length < sizeLine∧Q .bE (upd H l (.lst (xs ++ [y])))
theorem eZ:QJ X "list.append" Jl:=by
 intro pins s σ H x vs v us Q I rx rv h
 obtain ⟨l,xs,y,rfl,rfl,hH,hz,q⟩:=h
 cases rx
 obtain ⟨u,rfl,ru⟩:=rv.one
 obtain ⟨z,its,n,r,hl,e⟩:=I.C5 hH
 refine call_meets F.slot_list_append ⟨_,e,rfl⟩ F.entry_list_append (F.args_list_append_2 _ _) (PySem.list_append l its.toArray n u (by rw [List.size_toArray];omega)) ⟨e,?_⟩
 refine ⟨.bE,_,I.PM (its':=its ++ [u]) hH e (by simp) (r.append (.cons ru .nil)) ?_,rfl,q⟩
 rw [List.length_append,List.length_singleton]
 omega
def Gq:R2:=fun x y H Q=>∃l b xs zs,x = .ref l∧y = .ref b∧H l = some (.lst xs)∧H b = some (.lst zs)∧xs.length + zs.length≤sizeLine∧∀p,H p = none→Q (.ref p) (upd H p (.lst (xs ++ zs)))
theorem gY:dm X (binaryOp .Add) Gq:=by
 intro pins s σ H x y v u Q I rx ry h
 obtain ⟨l,b,xs,zs,rfl,rfl,hH,hB,hz,q⟩:=h
 cases rx
 cases ry
 obtain ⟨z,its,n,r,hl,e⟩:=I.C5 hH
 obtain ⟨z2,its2,n2,r2,hl2,e2⟩:=I.C5 hB
 refine PySem.P.add_list e e2 ?_ (by rw [List.size_toArray,List.size_toArray];omega)
 have ea:its.toArray ++ its2.toArray = (its ++ its2).toArray:=by simp
 rw [ea]
 exact ⟨.ref _,_,I.KO (t':=s.toks) (r.append r2) (by rw [List.length_append];omega),rfl,q _ I.fresh⟩
def PN:R2:=fun x y H Q=>∃l k xs,x = .ref l∧y = .int k∧H l = some (.lst xs)∧-(2 ^ 63)≤k∧k < 2 ^ 63∧xs.length * k.toNat≤sizeLine∧
 ∀p,H p = none→Q (.ref p) (upd H p (.lst (List.replicate k.toNat xs).flatten))
theorem len_rep {α:Type} (xs:List α) (k:Nat):(List.replicate k xs).flatten.length = k * xs.length:=by
 induction k with
 | zero=>simp
 | succ k ih=>rw [List.replicate_succ,List.flatten_cons,List.length_append,ih,Nat.succ_mul,Nat.add_comm]
theorem KP:dm X (binaryOp .Mult) PN:=by
 intro pins s σ H x y v u Q I rx ry h
 obtain ⟨l,k,xs,rfl,rfl,hH,h1,h2,hz,q⟩:=h
 cases rx
 obtain ⟨t,rfl⟩:=ry
 obtain ⟨z,its,n,r,hl,e⟩:=I.C5 hH
 have hlen:its.toArray.size * k.toNat≤sizeLine:=by rw [List.size_toArray,← hl];exact hz
 have hcap:¬ its.toArray.size * k.toNat > (2 ^ 63 - 1) / 8:=by
  have:(sizeLine:Nat)≤(2 ^ 63 - 1) / 8:=by decide
  omega
 have hfit:¬ (!Builtin.List.listFitsIndex k) = true:=by
  rw [fitsIndex_both h1 h2]
  exact Bool.false_ne_true
 have MW:¬ Builtin.List.listTooLong (its.toArray.size * k.toNat) = true:=by
  rw [Gp hlen]
  exact Bool.false_ne_true
 have hnew:List.foldl (fun x1 x2=>x1 ++ x2) #[] (List.replicate (if its.toArray.isEmpty = true then 0 else k.toNat) its.toArray) = (List.replicate k.toNat its).flatten.toArray:=by
  have f0:∀m:Nat,List.foldl (fun x1 x2=>x1 ++ x2) #[] (List.replicate m its.toArray) = (List.replicate m its).flatten.toArray:=fun m=>by
   have:=foldl_rep its m []
   rw [List.nil_append] at this
   exact this
  rw [f0]
  cases its with
  | nil=>simp
  | cons a r'=>rw [if_neg (by simp)]
 refine wpAny_binaryOp_repeat_ref (T:="list") (U:="int") (by decide) ⟨_,e,rfl⟩ (fun s'=>typeIs_int s' k t) noFill_list_mul F.fills_int_mul F.slot_int_rmul repeat_list F.slot_int_index.lookup
  (call_meets F.slot_int_rmul (typeIs_int s k t) F.entry_int_rmul (F.args_int_rmul_2 _ _) (int___rmul___int_list k t l its.toArray n)
    ⟨e,rfl,⟨_,e,rfl⟩,call_meets F.slot_list_mul ⟨_,e,rfl⟩ F.entry_list_mul (F.args_list_mul_2 _ _) (AutoListH.list___mul___list_int_3 l its.toArray n k t hfit hcap MW) ⟨e,?_⟩⟩)
 rw [hnew]
 exact ⟨.ref _,_,I.KO (t':=s.toks) (r.rep k.toNat) (by rw [len_rep,Nat.mul_comm];exact hz),rfl,q _ I.fresh⟩
end
section
variable {prog:Program} {w:World} {A:Around} {E:Value→Shared→Prop} {s:Shared}
set_option maxRecDepth 100000 in
end
section
variable {X:Cx}
end
end L2
namespace L2
open PySem PySem.Spec PyProof.Rows
section
variable {κ:Type} [DecidableEq κ]
def cJ (kvs:List (κ × V)) (k:κ):Option V:=(kvs.find? fun kv=>decide (kv.1 = k)).map (·.2)
def putK (kvs:List (κ × V)) (k:κ) (v:V):List (κ × V):=
 if (kvs.any fun kv=>decide (kv.1 = k)) = true then kvs.map (fun kv=>if kv.1 = k then (kv.1,v) else kv) else kvs ++ [(k,v)]
theorem cW {p:κ × V} {r:List (κ × V)} {k:κ} (e:p.1 = k):cJ (p :: r) k = some p.2:=by simp [cJ,List.find?_cons,e]
theorem cj {p:κ × V} {r:List (κ × V)} {k:κ} (e:¬ p.1 = k):cJ (p :: r) k = cJ r k:=by simp [cJ,List.find?_cons,e]
theorem iU (k:κ):∀kvs:List (κ × V),(kvs.any fun kv=>decide (kv.1 = k)) = (cJ kvs k).isSome
 | []=>rfl
 | p :: r=>by
   rw [List.any_cons]
   by_cases e:p.1 = k
   · simp only [cW e,decide_eq_true e,Bool.true_or,Option.isSome_some]
   · rw [cj e,decide_eq_false e,Bool.false_or];exact iU k r
theorem yM (k j:κ) (y:V):∀kvs:List (κ × V),cJ (kvs.map fun kv=>if kv.1 = k then (kv.1,y) else kv) j = (cJ kvs j).map fun x=>if j = k then y else x
 | []=>rfl
 | p :: r=>by
   have ih:=yM k j y r
   rw [List.map_cons]
   by_cases h:p.1 = k
   · rw [if_pos h]
     by_cases e:p.1 = j
     · rw [cW (p:=(p.1,y)) e,cW e,Option.map_some,if_pos (e.symm.trans h)]
     · rw [cj (p:=(p.1,y)) e,cj e,ih]
   · rw [if_neg h]
     by_cases e:p.1 = j
     · rw [cW (p:=p) e,cW e,Option.map_some,if_neg (fun z=>h (e.trans z))]
     · rw [cj (p:=p) e,cj e,ih]
theorem wQ (k j:κ) (y:V):∀kvs:List (κ × V),cJ kvs k = none→cJ (kvs ++ [(k,y)]) j = if j = k then some y else cJ kvs j
 | [],_=>by
   by_cases e:k = j
   · rw [if_pos e.symm];exact cW (p:=(k,y)) e
   · rw [if_neg (fun z=>e z.symm)];exact cj (p:=(k,y)) e
 | p :: r,hn=>by
   rw [List.cons_append]
   have hk:¬ p.1 = k:=fun z=>by rw [cW z] at hn;cases hn
   rw [cj hk] at hn
   have ih:=wQ k j y r hn
   by_cases e:p.1 = j
   · rw [cW e,cW e,if_neg (fun z=>hk (e.trans z))]
   · rw [cj e,cj e,ih]
theorem Gr (kvs:List (κ × V)) (k j:κ) (y:V):cJ (putK kvs k y) j = if j = k then some y else cJ kvs j:=by
 unfold putK
 by_cases a:(kvs.any fun kv=>decide (kv.1 = k)) = true
 · rw [if_pos a,yM]
   rw [iU] at a
   by_cases e:j = k
   · obtain ⟨x,hx⟩:=Option.isSome_iff_exists.mp a
     rw [if_pos e,e,hx,Option.map_some,if_pos rfl]
   · rw [if_neg e]
     cases cJ kvs j with
     | none=>rfl
     | some x=>rw [Option.map_some,if_neg e]
 · rw [if_neg a]
   refine wQ k j y kvs ?_
   rw [iU] at a
   cases q:cJ kvs k with
   | none=>rfl
   | some x=>rw [q] at a;exact (a rfl).elim
theorem mz (kvs:List (κ × V)) (k:κ) (v:V):(putK kvs k v).length≤kvs.length + 1:=by
 unfold putK
 split
 · rw [List.length_map];omega
 · rw [List.length_append,List.length_cons,List.length_nil];omega
theorem iV {kvs:List (κ × V)} {k:κ} (v:V) (h:cJ kvs k = none):putK kvs k v = kvs ++ [(k,v)] :=by
 unfold putK
 rw [iU,h]
 exact if_neg (by decide)
theorem gk.jr {o:Option V} {u:Option Value} (r:gk o u):o.isSome = u.isSome:=by
 cases o with
 | none=>cases u with
   | none=>rfl
   | some _=>exact (show False from r).elim
 | some _=>cases u with
   | none=>exact (show False from r).elim
   | some _=>rfl
theorem KV.val {kvs:List (κ × V)} {vs:List (κ × Value)} (r:KV kvs vs) (k:κ):gk (cJ kvs k) (valueAt vs k):=by
 unfold KV at r
 induction r with
 | nil=>exact True.intro
 | @cons p q ps qs h t ih=>
   obtain ⟨h1,h2⟩:=h
   by_cases e:p.1 = k
   · have e':q.1 = k:=h1.symm.trans e
     have b:valueAt (q :: qs) k = some q.2:=by simp [valueAt,List.find?_cons,e']
     rw [cW e,b];exact h2
   · have e':¬ q.1 = k:=fun z=>e (h1.trans z)
     have b:valueAt (q :: qs) k = valueAt qs k:=by simp [valueAt,List.find?_cons,e']
     rw [cj e,b];exact ih
theorem KV.any {kvs:List (κ × V)} {vs:List (κ × Value)} (r:KV kvs vs) (k:κ):(kvs.any fun kv=>decide (kv.1 = k)) = vs.any fun kv=>decide (kv.1 = k):=by
 unfold KV at r
 induction r with
 | nil=>rfl
 | cons h t ih=>rw [List.any_cons,List.any_cons,ih,h.1]
theorem KV.repl {kvs:List (κ × V)} {vs:List (κ × Value)} (r:KV kvs vs) (k:κ) {y:V} {u:Value} (ry:RelV y u):
  KV (kvs.map fun kv=>if kv.1 = k then (kv.1,y) else kv) (vs.map fun kv=>if kv.1 = k then (kv.1,u) else kv):=by
 unfold KV at r ⊢
 induction r with
 | nil=>exact .nil
 | @cons p q ps qs h t ih=>
   rw [List.map_cons,List.map_cons]
   refine .cons ?_ ih
   obtain ⟨h1,h2⟩:=h
   by_cases e:p.1 = k
   · rw [if_pos e,if_pos (h1.symm.trans e)];exact ⟨h1,ry⟩
   · rw [if_neg e,if_neg (fun z=>e (h1.trans z))];exact ⟨h1,h2⟩
theorem KV.put {kvs:List (κ × V)} {vs:List (κ × Value)} (r:KV kvs vs) (k:κ) {y:V} {u:Value} (ry:RelV y u):KV (putK kvs k y) (stored vs k u):=by
 unfold putK stored
 rw [r.any k]
 by_cases e:(vs.any fun kv=>decide (kv.1 = k)) = true
 · rw [if_pos e,if_pos e];exact r.repl k ry
 · rw [if_neg e,if_neg e];exact Paired.snoc r ⟨rfl,ry⟩
theorem KV.length {kvs:List (κ × V)} {vs:List (κ × Value)} (r:KV kvs vs):kvs.length = vs.length:=Paired.length r
end
theorem qJ {P:Program} {w:World} {k:Key} {u:Value} (r:RelV (kV k) u):(bL P w).is k u = true:=by
 cases k with
 | inl i=>obtain ⟨t,e⟩:=(show ∃t,u = Value.int i t from r);subst e;exact AU P w i t
 | inr x=>obtain ⟨t,e⟩:=(show ∃t,u = Value.str x t from r);subst e;exact AV P w x t
theorem wR {P:Program} {w:World}:∀{ks:List Key} {us:List Value},Vals (ks.map kV) us→ItemsAre (bL P w) ks us
 | [],_,r=>by rw [List.map_nil] at r;cases r;exact .nil
 | k :: ks,_,r=>by
   rw [List.map_cons] at r
   cases r with
   | cons h t=>exact .cons (qJ h) (wR t)
abbrev KT (H:Hp):List (List Key × V)→List (List Key × Addr × Value)→Prop:=Paired fun p q=>p.1 = q.1∧H q.2.1 = some (.tup (p.1.map kV))∧RelV p.2 q.2.2
theorem KT.val {H:Hp} {kvs:List (List Key × V)} {xs:List (List Key × Addr × Value)} (r:KT H kvs xs) (k:List Key):gk (cJ kvs k) ((atKey xs k).map (·.2)):=by
 induction r with
 | nil=>exact True.intro
 | @cons p q ps qs h t ih=>
   obtain ⟨h1,_,h2⟩:=h
   by_cases e:p.1 = k
   · have e':q.1 = k:=h1.symm.trans e
     have b:atKey (q :: qs) k = some q.2:=by simp [atKey,List.find?_cons,e']
     rw [cW e,b];exact h2
   · have e':¬ q.1 = k:=fun z=>e (h1.trans z)
     have b:atKey (q :: qs) k = atKey qs k:=by simp [atKey,List.find?_cons,e']
     rw [cj e,b];exact ih
theorem KT.repl {H:Hp} {kvs:List (List Key × V)} {xs:List (List Key × Addr × Value)} (r:KT H kvs xs) (k:List Key) {y:V} {u:Value} (ry:RelV y u):
  KT H (kvs.map fun kv=>if kv.1 = k then (kv.1,y) else kv) (xs.map (putAt k u)):=by
 induction r with
 | nil=>exact .nil
 | @cons p q ps qs h t ih=>
   rw [List.map_cons,List.map_cons]
   refine .cons ?_ ih
   obtain ⟨h1,h2,h3⟩:=h
   unfold putAt
   by_cases e:p.1 = k
   · rw [if_pos e,if_pos (h1.symm.trans e)];exact ⟨h1,h2,ry⟩
   · rw [if_neg e,if_neg (fun z=>e (h1.trans z))];exact ⟨h1,h2,h3⟩
theorem KT.put {H:Hp} {kvs:List (List Key × V)} {xs:List (List Key × Addr × Value)} (r:KT H kvs xs) (k:List Key) {b:Addr} {y:V} {u:Value} (hb:H b = some (.tup (k.map kV))) (ry:RelV y u):
  KT H (putK kvs k y) (storedH xs k b u):=by
 have e:(kvs.any fun kv=>decide (kv.1 = k)) = (atKey xs k).isSome:=by
  rw [iU,(r.val k).jr,Option.isSome_map]
 unfold putK storedH
 rw [e]
 by_cases q:(atKey xs k).isSome = true
 · rw [if_pos q,if_pos q];exact r.repl k ry
 · rw [if_neg q,if_neg q];exact Paired.snoc r ⟨rfl,hb,ry⟩
theorem KT.keeps {H H':Hp} {kvs:List (List Key × V)} {xs:List (List Key × Addr × Value)} (r:KT H kvs xs) (ht:∀b ys,H b = some (.tup ys)→H' b = some (.tup ys)):KT H' kvs xs:=
 Paired.FU r fun _ _ z=>⟨z.1,ht _ _ z.2.1,z.2.2⟩
section
variable {P:Program} {w:World} {H:Hp} {h:Heap} {a:Addr}
theorem HR {u:HO} (ok:dj P w H h) (e:Rd H a u):bT P w H h a u:=e.ok ok
theorem lQ {kvs:List (Key × V)} (ok:dj P w H h) (e:Rd H a (.dK kvs)):kvs.length≤sizeLine∧(a == sysModules) = false∧∃vs,KV kvs vs∧h.DictOf (bL P w) a vs:=
 show bT P w H h a (.dK kvs) from HR ok e
theorem yk {kvs:List (Key × V)} (ok:dj P w H h) (e:H a = some (.dK kvs)):kvs.length≤sizeLine∧(a == sysModules) = false∧∃vs,KV kvs vs∧h.DictOf (bL P w) a vs:=lQ ok (.inl e)
theorem pA {ks:List Key} (ok:dj P w H h) (e:H a = some (.tup (ks.map kV))):(tupleKind (bL P w)).is h ks a:=by
 obtain ⟨_,its,r,o,h1,h2,n,h3⟩:=(show bT P w H h a (.tup (ks.map kV)) from ok a _ e)
 exact ⟨o,its.toArray,n,h1,h2,h3,by simpa using wR r⟩
theorem qK {kvs:List (List Key × V)} (ok:dj P w H h) (e:Rd H a (.dT kvs)):kvs.length≤sizeLine∧(a == sysModules) = false∧
  ∃xs,KT H kvs xs∧h.DictOfH (tupleKind (bL P w)) a xs:=by
 obtain ⟨z,y,xs,r,o,es,ep,h1,h2,h3,h4,h5⟩:=(show bT P w H h a (.dT kvs) from HR ok e)
 refine ⟨z,y,xs,r,o,es,ep,h1,h2,h3,h4,fun x hx=>?_,h5⟩
 have all:∀{l:List (List Key × V)} {m:List (List Key × Addr × Value)},KT H l m→∀x∈m,(tupleKind (bL P w)).is h x.1 x.2.1:=by
  intro l m q
  induction q with
  | nil=>intro x hx;exact nomatch hx
  | @cons p q ps qs hq t ih=>
    intro x hx
    rcases List.mem_cons.mp hx with e | hx
    · subst e
      exact pA ok (by rw [← hq.1];exact hq.2.1)
    · exact ih x hx
 exact all r x hx
theorem MX {kvs:List (List Key × V)} (ok:dj P w H h) (e:H a = some (.dT kvs)):kvs.length≤sizeLine∧(a == sysModules) = false∧
  ∃xs,KT H kvs xs∧h.DictOfH (tupleKind (bL P w)) a xs:=qK ok (.inl e)
end
def b_ (H:Hp) (a:Addr) (y:V) (r:Option V):Prop:=
 (∃kvs k,Rd H a (.dK kvs)∧y = kV k∧r = cJ kvs k)∨∃kvs k b,Rd H a (.dT kvs)∧y = .ref b∧H b = some (.tup (k.map kV))∧r = cJ kvs k
def pB (H:Hp) (a:Addr) (y v:V) (H':Hp):Prop:=
 (∃kvs k,H a = some (.dK kvs)∧y = kV k∧kvs.length < sizeLine∧H' = upd H a (.dK (putK kvs k v)))∨
 ∃kvs k b,H a = some (.dT kvs)∧y = .ref b∧H b = some (.tup (k.map kV))∧kvs.length < sizeLine∧H' = upd H a (.dT (putK kvs k v))
theorem b_.k {H:Hp} {a:Addr} {kvs:List (Key × V)} {k:Key} (e:H a = some (.dK kvs)):b_ H a (kV k) (cJ kvs k):= .inl ⟨kvs,k, .inl e,rfl,rfl⟩
theorem pB.k {H:Hp} {a:Addr} {kvs:List (Key × V)} {k:Key} {v:V} (e:H a = some (.dK kvs)) (hl:kvs.length < sizeLine):pB H a (kV k) v (upd H a (.dK (putK kvs k v))):= .inl ⟨kvs,k,e,rfl,hl,rfl⟩
section
variable {X:Cx} {pins:List (Addr × Obj)} {σ:St} {H:Hp} {s:Shared} {a:Addr} {y v:V} {u r:Value} {o:Option V} {A:Around} {E:Value→Shared→Prop}
theorem Inv.big (I:Inv X pins σ H s):sysModules < s.heap.objs.size:=by
 have h:mainGlobals < s.heap.objs.size:=(I.mod.glob.keeps I.bk).lt
 exact Nat.lt_trans (by decide) h
theorem Eu {Q:Value→Shared→Prop} (hu:A.units + 1 < cLine) (I:Inv X pins σ H s) (g:b_ H a y (some v)) (ry:RelV y u) (h:∀w' s',Inv X pins σ H s'→RelV v w'→Q w' s'):
  wpAny (model X.prog X.w) A (getItem (.ref a) u) Q E s:=by
 rcases g with ⟨kvs,k,e,ey,l⟩ | ⟨kvs,k,b,e,ey,eb,l⟩
 · subst ey
   obtain ⟨z,hd,vs,rel,dd⟩:=lQ I.hok e
   obtain ⟨w',hw,rw'⟩:=gk.some_of (v:=v) (o:=valueAt vs k) (by rw [l];exact rel.val k)
   exact wpAny_getItem_of (qJ ry) dd.mapOf hw (h w' _ (I.tok _) rw')
 · subst ey
   cases (show u = Value.ref b from ry)
   obtain ⟨z,hd,xs,rel,dd⟩:=qK I.hok e
   obtain ⟨w',hw,rw'⟩:=gk.some_of (v:=v) (o:=(atKey xs k).map (·.2)) (by rw [l];exact rel.val k)
   obtain ⟨p,hp,hp2⟩:=Option.map_eq_some_iff.mp hw
   refine wpAny_getItem_heap (tupleKind_room_in1 hu) (pA I.hok eb) dd hp ?_
   rw [hp2]
   exact h w' _ (I.tok _) rw'
theorem PR {Q:Value→Shared→Prop} (hu:A.units + 1 < cLine) (I:Inv X pins σ H s) (g:b_ H a y o) (ry:RelV y u) (h:∀s',Inv X pins σ H s'→Q (.bool o.isSome) s'):
  wpAny (model X.prog X.w) A (compareOp .In u (.ref a)) Q E s:=by
 rcases g with ⟨kvs,k,e,ey,l⟩ | ⟨kvs,k,b,e,ey,eb,l⟩
 · subst ey
   obtain ⟨z,hd,vs,rel,dd⟩:=lQ I.hok e
   refine wpAny_in_of (qJ ry) hd dd.mapOf ?_
   rw [← (rel.val k).jr,← l]
   exact h _ (I.tok _)
 · subst ey
   cases (show u = Value.ref b from ry)
   obtain ⟨z,hd,xs,rel,dd⟩:=qK I.hok e
   refine wpAny_in_heap (tupleKind_room_in1 hu) (pA I.hok eb) hd dd ?_
   have q:=(rel.val k).jr
   rw [Option.isSome_map] at q
   rw [← q,← l]
   exact h _ (I.tok _)
theorem Jo {Q:Value→Shared→Prop} (hu:A.units + 1 < cLine) (I:Inv X pins σ H s) (g:b_ H a y o) (ry:RelV y u) (h:∀s',Inv X pins σ H s'→Q (.bool (!o.isSome)) s'):
  wpAny (model X.prog X.w) A (compareOp .NotIn u (.ref a)) Q E s:=by
 rcases g with ⟨kvs,k,e,ey,l⟩ | ⟨kvs,k,b,e,ey,eb,l⟩
 · subst ey
   obtain ⟨z,hd,vs,rel,dd⟩:=lQ I.hok e
   refine wpAny_notIn_of (qJ ry) hd dd.mapOf ?_
   rw [← (rel.val k).jr,← l]
   exact h _ (I.tok _)
 · subst ey
   cases (show u = Value.ref b from ry)
   obtain ⟨z,hd,xs,rel,dd⟩:=qK I.hok e
   refine wpAny_notIn_heap (tupleKind_room_in1 hu) (pA I.hok eb) hd dd ?_
   have q:=(rel.val k).jr
   rw [Option.isSome_map] at q
   rw [← q,← l]
   exact h _ (I.tok _)
theorem vB {h':Heap} {t':Nat} {ob:HO} (I:Inv X pins σ H s) (mu:D5 (H a)) (hs:Heap.SameBut a s.heap h') (he:∃q,h'.get? a = some q) (new:bT X.prog X.w (upd H a ob) h' a ob):
  Inv X pins σ (upd H a ob) { s with heap:=h',toks:=t' }:=
 I.write (x:=a) (e:=a) mu (.inl rfl) (fun b q hb z=>(hs.2 b hb).trans z) he new
theorem Ew {P:Program} {w:World} {H':Hp} {h':Heap} {kvs:List (Key × V)} {vs:List (Key × Value)} (z:kvs.length≤sizeLine) (hd:(a == sysModules) = false) (rel:KV kvs vs) (dd:h'.DictOf (bL P w) a vs):
  bT P w H' h' a (.dK kvs):=⟨z,hd,vs,rel,dd⟩
theorem Ex {H':Hp} {Q:Unit→Shared→Prop} (hu:A.units + 1 < cLine) (I:Inv X pins σ H s) (g:pB H a y v H') (ry:RelV y u) (rv:RelV v r) (h:∀s',Inv X pins σ H' s'→Q () s'):
  wpAny (model X.prog X.w) A (setItem (.ref a) u r) Q E s:=by
 rcases g with ⟨kvs,k,e,ey,l,eH⟩ | ⟨kvs,k,b,e,ey,eb,l,eH⟩
 · subst ey eH
   obtain ⟨z,hd,vs,rel,dd⟩:=yk I.hok e
   have hz:vs.length≤sizeLine:=by rw [← rel.length];exact z
   have hl:(putK kvs k v).length≤sizeLine:=by have:=mz kvs k v;omega
   refine wpAny_setItem_pairs (hsz:=hz) (qJ ry) dd fun h' yN hs=>h _ ?_
   have he:∃q,h'.get? a = some q:=let ⟨q,_,_,hq,_⟩:=yN;⟨q,hq⟩
   exact vB I (by rw [e];exact True.intro) hs he (Ew hl hd (rel.put k rv) yN)
 · subst ey eH
   cases (show u = Value.ref b from ry)
   obtain ⟨z,hd,xs,rel,dd⟩:=MX I.hok e
   have hz:xs.length≤sizeLine:=by rw [← Paired.length rel];exact z
   have hl:(putK kvs k v).length≤sizeLine:=by have:=mz kvs k v;omega
   refine wpAny_setItem_heap (hsz:=hz) (tupleKind_room_in1 hu) (pA I.hok eb) dd fun h' yN hs=>h _ ?_
   obtain ⟨q,es,ep,hq,h2,h3,h4,_,h5⟩:=yN
   refine vB I (by rw [e];exact True.intro) hs ⟨q,hq⟩ ⟨hl,hd,_,(rel.put k eb rv).keeps fun c ys ec=>?_,q,es,ep,hq,h2,h3,h4,h5⟩
   rw [ak (e8 ec e (fun z=>nomatch z))]
   exact ec
end
section
variable {X:Cx} {pins:List (Addr × Obj)} {σ:St} {H:Hp} {s:Shared} {a:Addr} {kvs:List (Key × V)} {k:Key} {u:Value} {A:Around} {E:Value→Shared→Prop}
theorem MY {Q:Value→Shared→Prop} (I:Inv X pins σ H s) (e:Rd H a (.dK kvs)) (h:∀t s',Inv X pins σ H s'→Q (.int kvs.length t) s'):wpAny (model X.prog X.w) A (call (.builtin "len") [.ref a]) Q E s:=by
 obtain ⟨z,hd,vs,rel,dd⟩:=lQ I.hok e
 refine call_len_dict hd dd (by rw [← rel.length];rw [sizeLine_eq] at z;omega) ?_
 rw [← rel.length]
 exact h _ _ (I.tok _)
end
def KQ (i:Expr):Prop:=∀ov iv,subscripted i false ov iv = operate [ov,iv] (getItem ov iv)
theorem Jp {prog:Program} {w:World} {A:Around} {E:Value→Shared→Prop} {s:Shared} {env:Env} {value slice:Expr} {pos:Pos} {T id:String} {Q:Value→Shared→Prop}
  (hl:typeLookup (.type T) "__getitem__" = pure (some (.builtin id))) (hs:KQ slice)
  (h:wpAny (model prog w) A (eval value env) (fun o s₁=>wpAny (model prog w) A (eval slice env) (fun i s₂=>s₂.TypeIs o T∧wpAny (model prog w) A (getItem o i) Q E s₂) E s₁) E s):
  wpAny (model prog w) A (eval (.Subscript value slice pos) env) Q E s:=by
 refine Subscript_ (wpAny_mono h (fun o s₁ h₁=>wpAny_mono h₁ (fun i s₂ h₂=>?_) fun _ _ x=>x) fun _ _ x=>x)
 obtain ⟨hT,h₂⟩:=h₂
 unfold subscriptTail
 refine wpAny_bind ?_
 rw [getitemInPython_of_ne hT.not_modules]
 refine wpAny_bind (wpAny_specialOf hT hl ?_)
 have fin:wpAny (model prog w) A (subscripted slice false o i) (fun r s₃=>wpAny (model prog w) A (letTemporaryGo value o r >>= fun _=>pure r) Q E s₃) E s₂:=by
  rw [hs o i]
  exact wpAny_operating (wpAny_mono h₂ (fun r s₃ h₃=>wpAny_bind (wpAny_letTemporaryGo (wpAny_pure h₃))) fun _ _ x=>x)
 first
  | exact wpAny_pure (wpAny_bind fin)
  | exact wpAny_bind (wpAny_pure (wpAny_bind fin))
  | exact wpAny_bind fin
theorem AX {X:Cx} {pins:List (Addr × Obj)} {σ:St} {H:Hp} {s:Shared} {a:Addr} {y:V} {o:Option V} (I:Inv X pins σ H s) (g:b_ H a y o):s.TypeIs (.ref a) "dict":=by
 rcases g with ⟨kvs,k,e,_,_⟩ | ⟨kvs,k,b,e,_,_,_⟩
 · obtain ⟨_,_,vs,_,dd⟩:=lQ I.hok e
   exact dd.typeIs
 · obtain ⟨_,_,xs,_,dd⟩:=qK I.hok e
   exact dd.typeIs
def MZ (td ty:TE):TE:=fun σ H Q=>td σ H fun x H1=>ty σ H1 fun y H2=>∃a v,x = .ref a∧b_ H2 a y (some v)∧Q v H2
def PU (ty td:TE):TE:=fun σ H Q=>ty σ H fun y H1=>td σ H1 fun x H2=>∃a o,x = .ref a∧b_ H2 a y o∧Q (.bl o.isSome) H2
def Jq (ty td:TE):TE:=fun σ H Q=>ty σ H fun y H1=>td σ H1 fun x H2=>∃a o,x = .ref a∧b_ H2 a y o∧Q (.bl (!o.isSome)) H2
def M_ (td ty tv:TE):TS:=fun D σ H=>tv σ H fun v H1=>td σ H1 fun x H2=>ty σ H2 fun y H3=>∃a H4,x = .ref a∧pB H3 a y v H4∧D.nx σ H4
section
variable {X:Cx} {o i e value:Expr} {pos pos' tpos:Pos} {td ty tv:TE}
theorem bM (hu:X.A.units + 1 < cLine) (ho:PE X o td) (hi:PE X i ty) (hs:KQ i):PE X (.Subscript o i pos) (MZ td ty):=by
 intro pins s σ H Q I h
 refine Jp PySem.F.slot_dict_getitem.lookup hs (aL (ho pins s σ H _ I h) fun u s1 ⟨x,H1,I1,rx,q1⟩=>aL (hi pins s1 σ H1 _ I1 q1) fun iv s2 ⟨y,H2,I2,ry,a,v,ex,g,q2⟩=>?_)
 subst ex
 obtain rfl:u = Value.ref a:=rx
 exact ⟨AX I2 g,Eu hu I2 g ry fun w' s3 I3 rw'=>⟨v,H2,I3,rw',q2⟩⟩
theorem Ey (hu:X.A.units + 1 < cLine) (hi:PE X i ty) (ho:PE X o td):PC X .In i o (PU ty td):=by
 intro pins s σ H Q I h
 refine aL (hi pins s σ H _ I h) fun iv s1 ⟨y,H1,I1,ry,q1⟩=>aL (ho pins s1 σ H1 _ I1 q1) fun u s2 ⟨x,H2,I2,rx,a,ov,ex,g,q2⟩=>?_
 subst ex
 obtain rfl:u = Value.ref a:=rx
 exact PR hu I2 g ry fun s3 I3=>⟨.bl ov.isSome,H2,I3,rfl,q2⟩
theorem pC (hu:X.A.units + 1 < cLine) (hi:PE X i ty) (ho:PE X o td):PC X .NotIn i o (Jq ty td):=by
 intro pins s σ H Q I h
 refine aL (hi pins s σ H _ I h) fun iv s1 ⟨y,H1,I1,ry,q1⟩=>aL (ho pins s1 σ H1 _ I1 q1) fun u s2 ⟨x,H2,I2,rx,a,ov,ex,g,q2⟩=>?_
 subst ex
 obtain rfl:u = Value.ref a:=rx
 exact Jo hu I2 g ry fun s3 I3=>⟨.bl (!ov.isSome),H2,I3,rfl,q2⟩
theorem qL (hu:X.A.units + 1 < cLine) (ho:PE X o td) (hi:PE X i ty) (hv:PE X value tv) (hs:swapsWith value (some (.Subscript o i pos')) pos.line X.env = pure false):
  PS X (.Assign [.Subscript o i pos'] value pos) (M_ td ty tv):=by
 intro pins s σ H D I h
 refine wpAny_Assign_Subscript (aL (hv pins s σ H _ I h) fun r s1 ⟨v,H1,I1,rv,q1⟩=>aL (ho pins s1 σ H1 _ I1 q1) fun u s2 ⟨x,H2,I2,rx,q2⟩=>aL (hi pins s2 σ H2 _ I2 q2) fun iv s3 ⟨y,H3,I3,ry,a,H4,ex,g,q3⟩=>?_) hs
 subst ex
 obtain rfl:u = Value.ref a:=rx
 exact Ex hu I3 g ry rv fun s4 I4=>⟨σ,H4,I4,q3⟩
end
theorem yO {P:Program} {w:World} {H:Hp} (h:Heap) (hb:sysModules < h.objs.size):bT P w H (h.push { cls:= .type "dict",data:= .dict #[] }) h.objs.size (.dK []):=
 ⟨Nat.zero_le _,beq_eq_false_iff_ne.mpr (Ne.symm (Nat.ne_of_lt hb)),[], .nil,Heap.DictOf.new h⟩
def KR:TE:=fun _ H Q=>∀p,H p = none→Q (.ref p) (upd H p (.dK []))
section
variable {X:Cx} {pos:Pos}
theorem nL:PE X (.Dict [] [] pos) KR:=fun pins s σ H Q I h=>
 wpAny_Dict_empty ⟨.ref s.heap.objs.size,_,I.laid (a:=s.heap.objs.size) (o:= .dK []) (t':=s.toks) (fun _ _ q=>Heap.get?_push_of_some _ q) (Nat.le_refl _) (yO s.heap I.big),rfl,h _ (I.hok.fresh (Nat.le_refl _))⟩
end
def pD:List (TE × TE)→St→Hp→(List (V × V)→Hp→Prop)→Prop
 | [],_,H,Q=>Q [] H
 | (tk,tv) :: r,σ,H,Q=>tk σ H fun x H1=>tv σ H1 fun y H2=>pD r σ H2 fun ps H3=>Q ((x,y) :: ps) H3
abbrev VV:List (V × V)→List (Value × Value)→Prop:=Paired fun p q=>RelV p.1 q.1∧RelV p.2 q.2
def HU (X:Cx) (pos:Pos) (keys:List (Option Expr)) (values:List Expr) (uh:List (TE × TE)):Prop:=
 ∀(pins:List (Addr × Obj)) (s:Shared) (σ:St) (H:Hp) (Q:List (V × V)→Hp→Prop),Inv X pins σ H s→pD uh σ H Q→
  wpAny (model X.prog X.w) X.A (evalPairs (pairTrees keys values X.env pos)) (fun vs s'=>∃ps H',Inv X pins σ H' s'∧VV ps vs∧Q ps H') X.xe s
theorem Jr {X:Cx} {pos:Pos}:HU X pos [] [] [] :=fun pins s σ H Q I h=>pairTrees_nil_walk ⟨[],H,I, .nil,h⟩
theorem kD {X:Cx} {pos:Pos} {k v:Expr} {ks:List (Option Expr)} {vs:List Expr} {tk tv:TE} {uh:List (TE × TE)} (hk:PE X k tk) (hv:PE X v tv) (hr:HU X pos ks vs uh):
  HU X pos (some k :: ks) (v :: vs) ((tk,tv) :: uh):=fun pins s σ H Q I h=>
 pairTrees_cons_walk (aL (hk pins s σ H _ I h) fun u s1 ⟨x,H1,I1,rx,q1⟩=>aL (hv pins s1 σ H1 _ I1 q1) fun w2 s2 ⟨y,H2,I2,ry,q2⟩=>
  aL (hr pins s2 σ H2 _ I2 q2) fun ws s3 ⟨ps,H3,I3,rel,q3⟩=>⟨(x,y) :: ps,H3,I3, .cons ⟨rx,ry⟩ rel,q3⟩)
def mZ (kvs more:List (Key × V)):List (Key × V):=more.foldl (fun acc kv=>putK acc kv.1 kv.2) kvs
theorem KV.merge:∀{more:List (Key × V)} {rs:List (Key × Value)} {kvs:List (Key × V)} {vs:List (Key × Value)},KV more rs→KV kvs vs→KV (mZ kvs more) (merged vs rs):=by
 intro more rs kvs vs r
 unfold KV at r
 induction r generalizing kvs vs with
 | nil=>intro q;exact q
 | @cons p q ps qs h t ih=>
   intro r0
   have e:KV (putK kvs p.1 p.2) (stored vs q.1 q.2):=by
    have:=r0.put p.1 h.2
    rw [← h.1];exact this
   exact ih e
theorem oG:∀(more kvs:List (Key × V)),(mZ kvs more).length≤kvs.length + more.length
 | [],kvs=>by show kvs.length≤kvs.length + 0;omega
 | p :: r,kvs=>by
   have h1:=oG r (putK kvs p.1 p.2)
   have h2:=mz kvs p.1 p.2
   show (mZ (putK kvs p.1 p.2) r).length≤_
   rw [List.length_cons];omega
theorem um {P:Program} {w:World}:∀{kvs:List (Key × V)} {ws:List (Value × Value)},VV (kvs.map fun kv=>(kV kv.1,kv.2)) ws→∃rs,Carries (bL P w) ws rs∧KV kvs rs
 | [],_,r=>by rw [List.map_nil] at r;cases r;exact ⟨[],True.intro, .nil⟩
 | p :: kvs,_,r=>by
   rw [List.map_cons] at r
   cases r with
   | @cons a b as bs h t=>
     obtain ⟨rs,c,q⟩:=um (P:=P) (w:=w) t
     obtain ⟨b1,b2⟩:=b
     exact ⟨(p.1,b2) :: rs,⟨qJ h.1,rfl,c⟩, .cons ⟨rfl,h.2⟩ q⟩
def Na (uh:List (TE × TE)):TE:=fun σ H Q=>∀p,H p = none→pD uh σ (upd H p (.dK [])) fun ps H2=>H2 p = some (.dK [])∧∃kvs:List (Key × V),ps = kvs.map (fun kv=>(kV kv.1,kv.2))∧kvs.length≤15∧Q (.ref p) (upd H2 p (.dK (mZ [] kvs)))
theorem Js {X:Cx} {pos:Pos} {keys:List (Option Expr)} {values:List Expr} {uh:List (TE × TE)} (h:HU X pos keys values uh) (hall:keys.all (·.isSome) = true) (hl:keys.length = values.length) (h0:keys ≠ [])
  (QK:keys.length≤15):PE X (.Dict keys values pos) (Na uh):=by
 intro pins s σ H Q I q
 have hn:=I.hok.fresh (Nat.le_refl s.heap.objs.size)
 have I1:=I.laid (a:=s.heap.objs.size) (o:= .dK []) (h':=s.heap.push { cls:= .type "dict",data:= .dict #[] }) (t':=s.toks) (fun _ _ q=>Heap.get?_push_of_some _ q) (Nat.le_refl _) (yO s.heap I.big)
 refine wpAny_Dict_walk (knd:=bL X.prog X.w) hall hl h0 QK (aL (h pins _ σ _ _ I1 (q _ hn)) fun ws s2 ⟨ps,H2,I2,rel,e,kvs,ep,lk,q2⟩=>?_)
 subst ep
 obtain ⟨rs,c,rk⟩:=um (P:=X.prog) (w:=X.w) rel
 obtain ⟨z,hd,Sm,r0,dd⟩:=yk I2.hok e
 cases r0
 refine ⟨rs,c,dd,fun h' yN hs=>⟨.ref s.heap.objs.size,_,?_,rfl,q2⟩⟩
 have hz:(mZ [] kvs).length≤sizeLine:=by
  have h1:=oG kvs []
  rw [List.length_nil] at h1
  rw [sizeLine_eq];omega
 have he:∃q,h'.get? s.heap.objs.size = some q:=let ⟨q,_,_,hq,_⟩:=yN;⟨q,hq⟩
 exact vB I2 (by rw [e];exact True.intro) hs he (Ew hz hd (rk.merge .nil) yN)
def QL (H:Hp) (a:Addr):Prop:=(∃kvs,Rd H a (.dK kvs))∨∃kvs,Rd H a (.dT kvs)
theorem KS {X:Cx} {pins:List (Addr × Obj)} {σ:St} {H:Hp} {s:Shared} {a:Addr} (I:Inv X pins σ H s) (d:QL H a):
  s.TypeIs (.ref a) "dict"∧(∀b,Value.ref a = .ref b→∃ob,s.heap.get? b = some ob∧ob.dict = none)∧(a == sysModules) = false:=by
 rcases d with ⟨kvs,e⟩ | ⟨kvs,e⟩
 · obtain ⟨_,hd,vs,_,dd⟩:=lQ I.hok e
   refine ⟨dd.typeIs,fun b q=>?_,hd⟩
   cases q
   obtain ⟨ob,_,_,h1,h2,_⟩:=dd
   exact ⟨ob,h1,h2.2.1⟩
 · obtain ⟨_,hd,xs,_,dd⟩:=qK I.hok e
   refine ⟨dd.typeIs,fun b q=>?_,hd⟩
   cases q
   obtain ⟨ob,_,_,h1,h2,_⟩:=dd
   exact ⟨ob,h1,h2.2.1⟩
section
variable {X:Cx} {pins:List (Addr × Obj)} {σ:St} {H:Hp} {s:Shared} {a:Addr} {y d:V} {u r:Value} {o:Option V} {A:Around} {E:Value→Shared→Prop}
end
section
variable {X:Cx} {o e f:Expr} {apos cpos:Pos} {td ty tx:TE}
end
section
variable {X:Cx} {pins:List (Addr × Obj)} {σ:St} {H:Hp} {s:Shared} {a:Addr} {kvs:List (Key × V)} {A:Around} {E:Value→Shared→Prop}
end
section
variable {X:Cx} {pins:List (Addr × Obj)} {σ:St} {H:Hp} {s:Shared} {a:Addr} {y:V} {u:Value} {A:Around} {E:Value→Shared→Prop}
end
end L2
namespace NV
open PySem PySem.W PySem.Calls PyProof.Rows
theorem uo {P:Params} {h:Heap}:∀(ns:List Int) (vs:List Value),WellAll P h vs (ns.map WData.int)→IntsAre vs ns:=by
 intro ns
 induction ns with
 | nil=>
   intro vs w
   rw [List.map_nil] at w
   cases w
   exact .nil
 | cons n ns ih=>
   intro vs w
   rw [List.map_cons] at w
   cases w with
   | cons a b=>
     cases a
     exact .cons _ _ (ih _ b)
theorem Ez {l:OpenLaw} {n:Nat} (hn:l.most = some n) {P:Params} {h:Heap} {args:List WData} {vals:List Value}
  (hpre:l.row.toRowW.claim.pre args = true) (hwl:WellAll P h vals args):
  ∃a vs ns,vals = [Value.ref a]∧args = [WData.list (ns.map WData.int)]∧h.get? a = some { cls:= .type "list",data:= .seq vs.toArray }∧IntsAre vs ns∧ns.length≤n:=by
 have hsh:WShape.hasAll [] args [.list .int] = true:=(pre_splitW hpre).1
 have hc:l.pre.holds [] { args:=args } = true:=(pre_splitW hpre).2
 obtain ⟨d,r,rfl,h1,h2⟩:=hasAllW_cons hsh
 obtain rfl:=hasAllW_nil h2
 obtain ⟨xs,rfl,h3⟩:=hasW_list h1
 obtain ⟨ns,rfl⟩:=items_int h3
 have hlen:ns.length≤n:=by
  unfold OpenLaw.pre at hc
  have h4:(WTm.not (.lt (.lit (.int (n:Int))) (.len (.arg 0)))).holds [] { args:=[.list (ns.map .int)] } = true:=by
   have h4:=(holds_andW hc).1
   rw [hn] at h4
   exact h4
  have h5:=condW_of h4 (w_not (w_lt w_lit (w_len_list (w_arg rfl))))
  rw [List.length_map] at h5
  refine Nat.le_of_not_lt fun q=>?_
  have q':(n:Int) < ((ns.length:Nat):Int):=by omega
  first
   | (rw [decide_eq_true q'] at h5;exact absurd h5 (by decide))
   | (simp at h5;omega)
 cases hwl with
 | cons w1 w2=>
   cases w2
   cases w1 with
   | list ho hall=>exact ⟨_,_,ns,rfl,rfl,ho,uo ns _ hall,hlen⟩
theorem EA (l:OpenLaw) (args:List WData):l.row.toRowW.claim.post args (.bool true) args = true:=
 postW_of (r:=l.row.toRowW) (X:=(true == true))
  (show WShape.has [] (.bool true) .bool = true by first | rfl | decide | simp [WShape.has,WShape.arms,WShape.armsAll])
  (show (WTm.eq .res (.lit (.bool true))).value [] { args:=args,res:=some (.bool true),after:=args } = some (.bool (true == true)) from w_eq_bool (w_res rfl) w_lit) rfl
theorem AY {l:OpenLaw} {n:Nat} {q:Program} {loose:List Str} {XP:(Str→Option Value)→Heap→Prop} {YP:World→Heap→Prop} {d:DefRec}
  (hn:l.most = some n) (hdf:d.params.defaults = [])
  (call:∀(w:World) (s₀ s₁:Shared) (mg mb:Str→Option Value) (fa:Addr) (o:Obj) (pm cd doc:Value) (a:Addr) (vs:List Value) (ns:List Int),
    Ground q loose [] XP w s₀ mg mb s₁.heap→YP w s₁.heap→
    s₁.heap.get? fa = some o→o.data = .func (docDef d.name d.params d.body d.scope pm cd doc)→s₁.heap.CodeRec cd d.name→mg d.name = some (.ref fa)→
    s₁.heap.get? a = some { cls:= .type "list",data:= .seq vs.toArray }→IntsAre vs ns→ns.length≤n→s₁.gens = #[]→
    codeAny (model l.prog w) callerA (.call (.ref fa) ⟨[.ref a],[]⟩) (fun r s'=>r = .ok (.ret (.bool true))∧OldK s₁.heap s'.heap∧s'.os = s₁.os∧AllBare s'.gens) s₁):
  WalkO q loose XP YP l.row.toRowW d [] (fun f vs=>PySem.call f vs):=by
 intro w s₀ s₁ mg mb G Y fa o pm cd doc dV kV ho hd hcd hD hmg hg args vals as hpre hlay hrd hwl hlo
 obtain rfl:dV = .none:=Dflts.none hD hdf
 obtain rfl:kV = .none:=Dflts.noKw hD
 obtain ⟨a,vs,ns,rfl,rfl,hobj,hints,hlen⟩:=Ez hn hpre hwl
 refine enter_call (codeAny_mono (call w s₀ s₁ mg mb fa o pm cd doc a vs ns G Y ho (fd_plain hd) hcd hmg hobj hints hlen hg) fun r s' hq=>?_)
 obtain ⟨rfl,h2,h3,h4⟩:=hq
 exact ⟨.inl ⟨.bool true, .bool true,[],rfl,fun _=>rfl, .bool true,EA l _,fun _=>⟨List.Pairwise.nil,fun _ hm=>(nomatch hm)⟩⟩,h2,h3,h4⟩
section
variable {prog:Program} {w:World} {A:Around} {E:Value→Shared→Prop} {s:Shared} {K:Frag}
end
end NV
namespace L2
open PySem PySem.Spec PyProof.Rows
theorem wU:∀{vs:List Value} {ns:List Int},IntsAre vs ns→Vals (ns.map V.int) vs
 | _,_, .nil=> .nil
 | _,_, .cons n t h=> .cons ⟨t,rfl⟩ (wU h)
def Gs (H:Hp):Prop:=∀b,H b = none∨∃o xs,H b = some (.cV o (.lst xs))
theorem Gu {P:Program} {w:World} {K:PySem.W.Frag} {mg mb:Str→Option Value} {CX:mW} {k:Nat} {fa a:Addr} {fd:FuncData} {x:Str} {sp:Sp} {s₁:Shared} {vs:List Value} {ns:List Int}
  (KX:K.In s₁.heap) (hns:s₁.heap.Ns mainGlobals mg) (hb:s₁.heap.Ns builtinsNs mb) (QM:∀x:Str,x ≠ "__name__"→mb x = bootBuiltins x) (hlim:s₁.heap.NoLimit) (hg:s₁.gens = #[])
  (ha:s₁.heap.get? a = some { cls:= .type "list",data:= .seq vs.toArray }) (hi:IntsAre vs ns) (hl:ns.length≤sizeLine) (hr:bU k callerA)
  (F:∀base:Heap,K.In base→base.Ns mainGlobals mg→dU P w K mg base CX k fa fd [x] sp) (hbind:∀(s:Shared) (u:Value),BindsTo s fd ⟨[u],[]⟩ [(x,u)])
  (lO:∀H:Hp,Gs H→aE K H a (ns.map V.int)→sp [.ref a] H (fun v _=>v = .bl true) fun _ _ _=>False)
  (KU:∀H e s',CX [] H s₁ (fun _ _ _=>False) e s'→False):
  codeAny (model P w) callerA (.call (.ref fa) ⟨[.ref a],[]⟩) (fun r s'=>r = .ok (.ret (.bool true))∧OldK s₁.heap s'.heap∧s'.os = s₁.os∧AllBare s'.gens) s₁:=by
 have rv:=wU hi
 have PV:=hi.length
 have core:∀H:Hp,Gs H→aE K H a (ns.map V.int)→dj P w H s₁.heap→(∀b,H b ≠ none→b = a)→(H a ≠ none→K.lookup a = none)→
   codeAny (model P w) callerA (.call (.ref fa) ⟨[.ref a],[]⟩) (fun r s'=>r = .ok (.ret (.bool true))∧OldK s₁.heap s'.heap∧s'.os = s₁.os∧AllBare s'.gens) s₁:=by
  intro H hO hS hok hA hK
  have BW:∀{b:Addr} {o:Obj},s₁.heap.get? b = some o→H b = none→(nI s₁.heap H).get? b = some o:=fun e n=>FW e n
  have En:∀{b:Addr} {o:Obj} {es:Array DictEntry} {ep:Nat},s₁.heap.get? b = some o→o.data = .dict es ep→H b = none:=fun {b o es ep} e d=>by
   cases q:H b with
   | none=>rfl
   | some u=>
     have e':b = a:=hA b (by rw [q];simp)
     subst e'
     rw [ha] at e;cases e
     have d':Data.seq vs.toArray _ = Data.dict es ep:=d
     cases d'
  have HV:∀{b:Addr} {m:Str→Option Value},s₁.heap.Ns b m→(nI s₁.heap H).Ns b m:=fun {b m} ⟨o,es,ep,e,d,r⟩=>⟨o,es,ep,BW e (En e d),d,r⟩
  have NW:K.In (nI s₁.heap H):=fun b o e=>BW (KX b o e) (by
   cases q:H b with
   | none=>rfl
   | some u=>
     have e':b = a:=hA b (by rw [q];simp)
     subst e'
     rw [hK (by rw [q];simp)] at e;cases e)
  have hM:Mod K mg (nI s₁.heap H):=⟨NW,HV hns,⟨mb,HV hb,QM⟩,let ⟨mc,h1,h2⟩:=hlim;⟨mc,HV h1,h2⟩⟩
  have e0:sU P w K mg (nI s₁.heap H) callerA [] s₁ H:=⟨rfl,hM,fun b o e=>I_ e,Nat.le_of_eq (D6 _ _),trivial,fun b hb=>absurd (show b∈([] :List Addr) from hb) (by simp),hok, .of_eq hg⟩
  refine codeAny_mono ((F _ NW (HV hns)).run callerA [] s₁ H ⟨[.ref a],[]⟩ [.ref a] [.ref a] _ _ hr e0 (hbind s₁ (.ref a)) (.cons rfl .nil) (lO H hO hS)) fun r s' h=>?_
  cases r with
  | error e=>exact (KU H e s' h).elim
  | ok fl=>
    cases fl with
    | next=>exact False.elim h
    | brk=>exact False.elim h
    | cont=>exact False.elim h
    | ret u=>
      obtain ⟨v,H',os,bare,un,PY,r',q⟩:=h
      have q':v = .bl true:=q
      subst q'
      obtain rfl:u = Value.bool true:=r'
      refine ⟨rfl,OldK.of_keep fun b o e=>?_,os,bare⟩
      cases q:H b with
      | none=>exact un.keep b o e q (by intro z;exact absurd (show b∈([] :List Addr) from z) (by simp)) (by simp)
      | some u=>
        rcases hO b with z | ⟨ob,xs,z⟩
        · rw [q] at z;cases z
        · have z2:=un.gm b ob _ z
          obtain ⟨e1,_⟩:=hok b _ z
          obtain ⟨e2,_⟩:=PY b _ z2
          rw [e] at e1;cases e1
          exact e2
 cases hk:K.lookup a with
 | some o=>
   have e:=KX a o hk
   rw [ha] at e
   cases e
   refine core (fun _=>none) (fun _=> .inl rfl) (.inr ⟨_,vs.toArray,_,hk,rfl,rfl,rfl,by rw [List.size_toArray,PV];exact hl,by simpa using rv⟩) (fun b u z=>by have z':(none:Option HO) = some u:=z;cases z') (fun b z=>absurd rfl z) fun z=>absurd rfl z
 | none=>
   refine core (fun b=>if b = a then some (.cV { cls:= .type "list",data:= .seq vs.toArray } (.lst (ns.map V.int))) else none) (fun b=>?_) (.inl (.inr ⟨{ cls:= .type "list",data:= .seq vs.toArray },if_pos rfl⟩)) (fun b u z=>?_) (fun b z=>?_) fun _=>hk
   · by_cases hb:b = a
     · exact .inr ⟨_,_,if_pos hb⟩
     · exact .inl (if_neg hb)
   · by_cases hb:b = a
     · have z':=(if_pos hb).symm.trans z
       cases z'
       subst hb
       exact ⟨ha,by rw [List.length_map];exact hl,vs,_,rv,ha⟩
     · have z':=(if_neg hb).symm.trans z
       cases z'
   · by_cases hb:b = a
     · exact hb
     · exact absurd (if_neg hb) z
end L2
namespace L2
open PySem PySem.Spec PyProof.Rows
theorem Jt {l:PySem.W.OpenLaw} {n k:Nat} {q:Program} {loose:List Str} {XP:(Str→Option Value)→Heap→Prop} {YP:World→Heap→Prop} {d:DefRec} {K:Params→PySem.W.Frag} {CX:World→mW} {sp:World→Sp} {x:Str}
  (hn:l.most = some n) (hn2:n≤sizeLine) (hdf:d.params.defaults = []) (hr:bU k callerA)
  (hY:∀(w:World) (h:Heap),YP w h→(K w.params).In h)
  (F:∀(w:World) (mg:Str→Option Value) (fa:Addr) (h:Heap),(K w.params).In h→h.Ns mainGlobals mg→mg d.name = some (.ref fa)→
    ∃fd:FuncData,(∀(s:Shared) (u:Value),BindsTo s fd ⟨[u],[]⟩ [(x,u)])∧
     ∀base:Heap,(K w.params).In base→base.Ns mainGlobals mg→dU l.prog w (K w.params) mg base (CX w) k fa fd [x] (sp w))
  (lO:∀(w:World) (H:Hp) (a:Addr) (ns:List Int),ns.length≤n→Gs H→aE (K w.params) H a (ns.map V.int)→sp w [.ref a] H (fun v _=>v = .bl true) fun _ _ _=>False)
  (KU:∀(w:World) (H:Hp) (s:Shared) (e:Value) (s':Shared),CX w [] H s (fun _ _ _=>False) e s'→False):
  PySem.W.WalkO q loose XP YP l.row.toRowW d [] (fun f vs=>PySem.call f vs):=by
 refine NV.AY hn hdf fun w s₀ s₁ mg mb fa o pm cd doc a vs ns G Y ho hd hcd hmg hobj hints hlen hg=>?_
 have KX:=hY w _ Y
 obtain ⟨fd,hb,hF⟩:=F w mg fa _ KX G.T.g hmg
 exact Gu KX G.T.g G.T.b G.T.builtins G.T.nolimit hg hobj hints (Nat.le_trans hlen hn2) hr hF hb (fun H hO hS=>lO w H a ns hlen hO hS) fun H e s'=>KU w H s₁ e s'
end L2
namespace L2
open PySem PySem.Spec PyProof.Rows
def inClass (s:Stmt) (j:Nat):Stmt:=match s with
 | .ClassDef _ _ _ body _ _ _ _ _ _ _=>body.getD j (.Pass ⟨0,0,0,0⟩)
 | _=> .Pass ⟨0,0,0,0⟩
def cO (s:Stmt):Arguments:=match s with
 | .FunctionDef _ a _ _ _ _ _ _ _ _=>a
 | _=>{ posonlyargs:=[],args:=[],vararg:=none,kwonlyargs:=[],kw_defaults:=[],kwarg:=none,defaults:=[] }
def bR (s:Stmt):List Stmt:=match s with
 | .FunctionDef _ _ b _ _ _ _ _ _ _=>b
 | _=>[]
def au (s:Stmt):Scope:=match s with
 | .FunctionDef _ _ _ _ _ _ sc _ _ _=>sc
 | _=>{ kind:= .function,names:=[],isGenerator:=false,isCoroutine:=false }
abbrev m5:mW:=fun _ _ _ _ _ _=>False
abbrev E0:XK:=fun _ _ _=>False
structure wV (K:PySem.W.Frag) (x qual:Str) (st:Stmt) (f:Addr) (fd:FuncData):Prop where
 ex:∃(oc:Value) (od:Option Addr) (kV doc pm:Value) (an:Option Addr) (cdv ct:Value) (osl:Array (Option Value)),
  fd = PySem.W.fnOf x qual (cO st) (bR st) (au st) .none kV doc pm an cdv ct∧K.lookup f = some ⟨oc,od, .func fd,osl⟩∧PySem.W.codeIn K cdv qual = true
 kp:PySem.W.keepIn K (.ref f) = true
section
variable {P:Program} {w:World} {K:PySem.W.Frag} {mg:Str→Option Value} {base:Heap}
theorem wV.ok {x qual:Str} {st:Stmt} {f:Addr} {fd:FuncData} {N ps:List Str} {k:Nat} {sp:Sp} (F:wV K x qual st f fd) (S:aI N ps (au st)) (len:∀vs H Q E,sp vs H Q E→vs.length = ps.length)
  (hbody:∀(cdv:Value) (A:Around) (outer:List Env) (s:Shared) (H:Hp) (vs:List V) (Q:VK) (E:XK),bU k (A.deeper (envOfC qual (au st) s.heap.objs.size f cdv))→sp vs H Q E→
    ∃t,gy (bP m5 P w K mg base N qual (au st) f cdv A outer s H E).yz (bR st) t∧t { nx:=fun _ H'=>Q .bE H',rt:=Q } (start N vs) H):dU P w K mg base m5 (k + 1) f fd ps sp:=by
 obtain ⟨oc,od,kV,doc,pm,an,cdv,ct,osl,rfl,lk,hcd⟩:=F.ex
 refine CZ lk hcd S len fun A outer s H vs Q E hr lO=>?_
 obtain ⟨t,h,q⟩:=hbody cdv A outer s H vs Q E hr lO
 exact ⟨t,h.yz,q⟩
theorem wV.binds {x qual:Str} {st:Stmt} {f:Addr} {fd:FuncData} {ps:List Str} (F:wV K x qual st f fd)
  (h:∀(kV doc pm:Value) (an:Option Addr) (cdv ct:Value) (us:List Value),us.length = ps.length→bindArgs (PySem.W.fnOf x qual (cO st) (bR st) (au st) .none kV doc pm an cdv ct) ⟨us,[]⟩ = pure (ps.zip us)):Binds K fd ps [] :=by
 obtain ⟨oc,od,kV,doc,pm,an,cdv,ct,osl,rfl,lk,hcd⟩:=F.ex
 exact .all (h kV doc pm an cdv ct)
theorem yP {x qual:Str} {st:Stmt} {f:Addr} {oc:Value} {od an:Option Addr} {osl:Array (Option Value)} {kV doc pm cdv ct:Value} (l:K.lookup f = some ⟨oc,od, .func (PySem.W.fnOf x qual (cO st) (bR st) (au st) .none kV doc pm an cdv ct),osl⟩)
  (c:PySem.W.codeIn K cdv qual = true) (k:PySem.W.keepIn K (.ref f) = true):wV K x qual st f (PySem.W.fnOf x qual (cO st) (bR st) (au st) .none kV doc pm an cdv ct):=⟨⟨oc,od,kV,doc,pm,an,cdv,ct,osl,rfl,l,c⟩,k⟩
end
theorem bQ {A:Around} {k:Nat} (hr:bU k A):A.units + 1 < cLine:=Nat.lt_of_le_of_lt (Nat.add_le_add_left (by decide:1≤64) _) hr.units
theorem dB {n:Nat} (h:n≤1000):n < sizeLine:=Nat.lt_of_le_of_lt h (by decide)
section
variable {X:Cx}
theorem pv (i:Nat) {x:Str} {pos:Pos} (hN:X.N[i]? = some x:=by rfl) (hv:D7 X.env.scope x:=by first | exact Or.inl rfl | exact Or.inr (Or.inl rfl) | exact Or.inr (Or.inr rfl)) (hd:(x == ("__debug__":Str)) = false:=by decide)
  (hcd:(x == ("__classdict__":Str)) = false:=by decide):PE X (.Name x pos) (sP i):=J9 hN hv hd hcd
end
theorem bq {A B:Prop} (h:B):if false = true then A else B:=by
 rw [if_neg Bool.false_ne_true]
 exact h
theorem dW {A B:Prop} (h:A):if true = true then A else B:=by
 rw [if_pos rfl]
 exact h
theorem cX {c A B:Prop} [Decidable c] (h1:c→A) (h2:¬ c→B):if c then A else B:=by
 by_cases h:c
 · rw [if_pos h]
   exact h1 h
 · rw [if_neg h]
   exact h2 h
def aC (H H':Hp):Prop:=∀b o,H b = some o→H' b = some o
theorem aC.refl (H:Hp):aC H H:=fun _ _ h=>h
theorem aC.trans {H H1 H2:Hp} (a:aC H H1) (b:aC H1 H2):aC H H2:=fun c o h=>b c o (a c o h)
theorem aC.free {H H':Hp} (e:aC H H') {l:Addr} (h:H' l = Option.none):H l = Option.none:=by
 cases q:H l with
 | none=>rfl
 | some o=>
   rw [e l o q] at h
   cases h
theorem aC.seq {K:PySem.W.Frag} {H H':Hp} {a:Addr} {xs:List V} (e:aC H H') (h:aE K H a xs):aE K H' a xs:=by
 rcases h with (h | ⟨o,h⟩) | h
 · exact .inl (.inl (e _ _ h))
 · exact .inl (.inr ⟨o,e _ _ h⟩)
 · exact .inr h
end L2
namespace L2
open PySem PySem.Spec PyProof.Rows
section
variable {X:Cx}
theorem wW:dS X (.builtin "len") (fun xs H Q=>∃a kvs,xs = [V.ref a]∧H a = some (.dK kvs)∧Q (.int kvs.length) H):=by
 intro pins s σ H xs us Q I r h
 obtain ⟨a,kvs,rfl,ha,q⟩:=h
 obtain ⟨u,rfl,ru⟩:=vals1 r
 cases ru
 exact MY I (.inl ha) fun t s' I'=>⟨.int kvs.length,H,I',⟨t,rfl⟩,q⟩
end
section
variable {κ:Type} [DecidableEq κ]
theorem Gv {kvs:List (κ × V)} {k:κ} (h:cJ kvs k = none):¬ k∈kvs.map (·.1):=by
 intro m
 obtain ⟨p,hp,e⟩:=List.mem_map.mp m
 have q:(kvs.any fun kv=>decide (kv.1 = k)) = true:=List.any_eq_true.mpr ⟨p,hp,decide_eq_true e⟩
 rw [iU,h] at q
 exact absurd q (by simp)
theorem iW:∀{l:List κ} {k:κ},l.Nodup→¬ k∈l→(l ++ [k]).Nodup
 | [],k,_,_=>by simp
 | a :: r,k,h,hk=>by
   obtain ⟨h1,h2⟩:=List.nodup_cons.mp h
   show (a :: (r ++ [k])).Nodup
   refine List.nodup_cons.mpr ⟨fun m=>?_,iW h2 fun m=>hk (List.mem_cons.mpr (Or.inr m))⟩
   rcases List.mem_append.mp m with q | q
   · exact h1 q
   · exact hk (List.mem_cons.mpr (Or.inl (List.mem_singleton.mp q).symm))
theorem Ju {kvs:List (κ × V)} {k:κ} (v:V) (hn:(kvs.map (·.1)).Nodup) (h:cJ kvs k = none):((putK kvs k v).map (·.1)).Nodup:=by
 rw [iV v h,List.map_append]
 exact iW hn (Gv h)
end
end L2
set_option maxHeartbeats 4000000
namespace L2
open PySem PySem.Spec PyProof.Rows
section
variable {X:Cx}
def uq (_ j:Int):Prop:=0 < j∧j.natAbs.log2 < 9000
theorem e9:dm X (binaryOp .FloorDiv) (rI uq fun i j=> .int (i / j)):=Ef fun i j _ _ _ _ _ hc q=>by
 have h1:(0:Int) < j:=hc.1
 exact floordiv_int (by omega) (by rw [Int.fdiv_eq_ediv_of_nonneg i (by omega)];exact q) (.inl (PyProof.noPylong_of_log2 hc.2))
theorem pF {i j:Int} (h:(decide (0 < j) && decide (j.natAbs.log2 < 9000)) = true):uq i j:=by
 obtain ⟨a,b⟩:=Bool.and_eq_true_iff.mp h
 exact ⟨of_decide_eq_true a,of_decide_eq_true b⟩
theorem Gw {i j:Int} {n:Nat} (h0:0 < j) (h:j < 2 ^ n) (hn:n≤9000):uq i j:=by
 refine ⟨h0,?_⟩
 have e:(j.natAbs:Int) = j:=by omega
 have h2:j.natAbs < 2 ^ n:=by
  have:(j.natAbs:Int) < ((2 ^ n:Nat):Int):=by rw [e];simpa using h
  exact Int.ofNat_lt.mp this
 have:=(Nat.log2_lt (n:=j.natAbs) (k:=n) (by omega)).mpr h2
 omega
def HW (i j:Int):Prop:=∃m n:Nat,i.natAbs < 2 ^ m∧j.natAbs < 2 ^ n∧m + n≤134217728
theorem Jv:dm X (binaryOp .Mult) (rI HW fun i j=> .int (i * j)):=Ef fun _ _ _ _ _ _ _ hc q=>by
 obtain ⟨m,n,h1,h2,h3⟩:=hc
 exact mul_int q (IntMulOk.of_le (PySem.intBits_le_iff.mpr h1) (PySem.intBits_le_iff.mpr h2) h3)
theorem AZ:dS X (.builtin "isinstance") (fun xs H Q=>∃x n t b,xs = [x, .ty n]∧c_ X.K H x t∧PySem.W.kitOne X.K t (.type n) = some b∧Q (.bl b) H):=by
 intro pins s σ H xs us Q I r h
 obtain ⟨x,n,t,b,rfl,ty,e,q⟩:=h
 obtain ⟨u,w',rfl,ru,rw'⟩:=vals2 r
 have QN:w' = Value.type n:=rw'
 subst QN
 exact El I ru ty e fun tk=>⟨.bl b,H,I.tok _,rfl,q⟩
theorem ef {x:Str} {n:String} {pos:Pos} (hv:bootBuiltins x = some (.type n)) (hg:Gl X x) (hm:X.mg x = none) (hn:x ≠ "__name__":=by decide) (hd:(x == ("__debug__":Str)) = false:=by decide):PE X (.Name x pos) (tC (.ty n)):=Jb hg hm hv rfl hn hd
theorem dF {K:PySem.W.Frag} {n:String}:PySem.W.kitOne K (.type n) (.type n) = some true:=by
 unfold PySem.W.kitOne
 rw [if_pos (beq_self_eq_true _)]
theorem yQ {K:PySem.W.Frag}:PySem.W.kitOne K (.type "int") (.type "bool") = some false:=by rfl
mutual
inductive Dt (K:PySem.W.Frag) (H:Hp):V→PyData→Prop
 | bE:Dt K H .bE .none
 | bl (b:Bool):Dt K H (.bl b) (.bool b)
 | int (i:Int):Dt K H (.int i) (.int i)
 | str (x:Str):Dt K H (.str x) (.str x)
 | lst {a:Addr} {xs:List V} {ds:List PyData}:aE K H a xs→m7 K H xs ds→Dt K H (.ref a) (.list ds)
 | tup {a:Addr} {xs:List V} {ds:List PyData}:bF K H a xs→m7 K H xs ds→Dt K H (.ref a) (.tuple ds)
inductive m7 (K:PySem.W.Frag) (H:Hp):List V→List PyData→Prop
 | nil:m7 K H [] []
 | cons {x:V} {xs:List V} {d:PyData} {ds:List PyData}:Dt K H x d→m7 K H xs ds→m7 K H (x :: xs) (d :: ds)
end
section
variable {pins:List (Addr × Obj)} {σ:St} {H:Hp} {s:Shared}
mutual
theorem Dt.reads (I:Inv X pins σ H s):∀{x:V} {d:PyData} {u:Value},Dt X.K H x d→RelV x u→∃as,Reads s.heap u d as
 | _,_,u, .bE,r=>by cases (show u = Value.none from r);exact ⟨_, .none⟩
 | _,_,u, .bl b,r=>by cases (show u = Value.bool b from r);exact ⟨_, .bool b⟩
 | _,_,u, .int i,r=>by obtain ⟨t,rfl⟩:=(show ∃t,u = Value.int i t from r);exact ⟨_, .int i t⟩
 | _,_,u, .str x,r=>by obtain ⟨t,rfl⟩:=(show ∃t,u = Value.str x t from r);exact ⟨_, .str x t⟩
 | _,_,u,@Dt.lst _ _ a xs ds h hd,r=>by
   cases (show u = Value.ref a from r)
   obtain ⟨its,rv,⟨o,n,e,c,_,d⟩,hz⟩:=I.list h
   obtain ⟨as,ra⟩:=m7.reads I hd rv
   exact ⟨_, .list e c d (by simpa using ra)⟩
 | _,_,u,@Dt.tup _ _ a xs ds h hd,r=>by
   cases (show u = Value.ref a from r)
   obtain ⟨its,rv,⟨o,e,c,n,d⟩,hz⟩:=I.tuple h
   obtain ⟨as,ra⟩:=m7.reads I hd rv
   exact ⟨_, .tuple e c d (by simpa using ra)⟩
theorem m7.reads (I:Inv X pins σ H s):∀{xs:List V} {ds:List PyData} {us:List Value},m7 X.K H xs ds→Vals xs us→∃as,ReadsAll s.heap us ds as
 | _,_,_, .nil, .nil=>⟨_, .nil⟩
 | _,_,_, .cons h t, .cons r rs=>by
   obtain ⟨as,ra⟩:=Dt.reads I h r
   obtain ⟨bs,rb⟩:=m7.reads I t rs
   exact ⟨_, .cons ra rb⟩
end
end
def KW (K:PySem.W.Frag):R2:=fun x y H Q=>∃d e,Dt K H x d∧Dt K H y e∧SeqAt.shaped d = true∧SeqAt.shaped e = true∧Q (.bl (PyData.eqv d e)) H
def C6 (K:PySem.W.Frag):R2:=fun x y H Q=>∃d e,Dt K H x d∧Dt K H y e∧SeqAt.shaped d = true∧SeqAt.shaped e = true∧Q (.bl (!PyData.eqv d e)) H
theorem KY (hu:X.A.units + 64 < cLine):dm X (compareOp .Eq) (KW X.K):=by
 intro pins s σ H x y v u Q I rx ry h
 obtain ⟨d,e,hd,he,sd,se,q⟩:=h
 obtain ⟨as,ra⟩:=hd.reads I rx
 obtain ⟨bs,rb⟩:=he.reads I ry
 exact eq_dataH ra rb sd se hu ⟨.bl _,H,I,rfl,q⟩
theorem KZ (hu:X.A.units + 64 < cLine):dm X (compareOp .NotEq) (C6 X.K):=by
 intro pins s σ H x y v u Q I rx ry h
 obtain ⟨d,e,hd,he,sd,se,q⟩:=h
 obtain ⟨as,ra⟩:=hd.reads I rx
 obtain ⟨bs,rb⟩:=he.reads I ry
 exact ne_dataH ra rb sd se hu ⟨.bl _,H,I,rfl,q⟩
structure Dn (P:Program) (w:World) (K:PySem.W.Frag) (mg:Str→Option Value) (base:Heap) (k:Nat) (x:Str) (ps:List Str) (sp:Sp):Prop where
 ex:∃f fd,dU P w K mg base m5 k f fd ps sp∧Binds K fd ps []∧PySem.W.keepIn K (.ref f) = true∧mg x = some (.ref f)
theorem aR {j k:Nat} {x:Str} {ps:List Str} {sp:Sp} {e:Expr} {es:List Expr} {t:TA} {p pos:Pos} (D:Dn X.prog X.w X.K X.mg X.base j x ps sp) (hr:bU k X.A) (ha:PA X (e :: es) t) (hj:j≤k:=by decide) (hg:Gl X x:=by rfl)
  (hdb:(x == ("__debug__":Str)) = false:=by decide) (he:starEach (e :: es) X.env = (false,eval e X.env) :: starEach es X.env:=by rfl) (hpl:(backTo pos (starEach es X.env)).any (·.1) = false:=by rfl):
  PE X (.Call (.Name x p) (e :: es) [] pos) (CY sp [] E0 t):=by
 obtain ⟨f,fd,F,b,kp,m⟩:=D.ex
 exact Jf F (hr.mono hj) hg m kp b .nil (fun _ _ _ _ _ _ _ h=>h.elim) ha hdb he hpl
end
structure At (K:PySem.W.Frag) (mg:Str→Option Value) (x:Str) (st:Stmt) (f:Addr) (fd:FuncData):Prop where
 fn:wV K x x st f fd
 name:mg x = some (.ref f)
theorem At.ok {P:Program} {w:World} {K:PySem.W.Frag} {mg:Str→Option Value} {base:Heap} {x:Str} {st:Stmt} {f:Addr} {fd:FuncData} {N ps:List Str} {k:Nat} {sp:Sp} (F:At K mg x st f fd) (S:aI N ps (au st)) (len:∀vs H Q E,sp vs H Q E→vs.length = ps.length)
  (hbody:∀(cdv:Value) (A:Around) (outer:List Env) (s:Shared) (H:Hp) (vs:List V) (Q:VK) (E:XK),bU k (A.deeper (envOfC x (au st) s.heap.objs.size f cdv))→sp vs H Q E→
    ∃t,gy (bP m5 P w K mg base N x (au st) f cdv A outer s H E).yz (bR st) t∧t { nx:=fun _ H'=>Q .bE H',rt:=Q } (start N vs) H)
  (h:∀(kV doc pm:Value) (an:Option Addr) (cdv ct:Value) (us:List Value),us.length = ps.length→bindArgs (PySem.W.fnOf x x (cO st) (bR st) (au st) .none kV doc pm an cdv ct) ⟨us,[]⟩ = pure (ps.zip us)):
  Dn P w K mg base (k + 1) x ps sp:=⟨f,fd,F.fn.ok S len hbody,F.fn.binds h,F.fn.kp,F.name⟩
theorem HX {K:PySem.W.Frag} {mg:Str→Option Value} {h:Heap} {x:Str} {st:Stmt} {f:Addr} {oc:Value} {od an:Option Addr} {osl:Array (Option Value)} {kV doc pm cdv ct:Value} (X:K.In h) (G:h.Ns mainGlobals mg)
  (a:PySem.W.nsIn K mainGlobals x = some (some (.ref f))) (l:K.lookup f = some ⟨oc,od, .func (PySem.W.fnOf x x (cO st) (bR st) (au st) .none kV doc pm an cdv ct),osl⟩)
  (c:PySem.W.codeIn K cdv x = true) (k:PySem.W.keepIn K (.ref f) = true):At K mg x st f (PySem.W.fnOf x x (cO st) (bR st) (au st) .none kV doc pm an cdv ct):=⟨yP l c k,PySem.W.mg_of X G a⟩
theorem aC.tup {H H':Hp} {K:PySem.W.Frag} {a:Addr} {xs:List V} (e:aC H H') (h:bF K H a xs):bF K H' a xs:=by
 rcases h with (h | ⟨o,h⟩) | h
 · exact .inl (.inl (e _ _ h))
 · exact .inl (.inr ⟨o,e _ _ h⟩)
 · exact .inr h
theorem av {H:Hp} {p:Addr} (h:H p = none) (o:HO):aC H (upd H p o):=fun b u q=>by rw [ak (aA q h)];exact q
theorem small {n:Nat} (h:n≤1000):n≤sizeLine:=Nat.le_of_lt (dB h)
end L2
namespace Jm
def cf (a b:Int):Int:=(Int.gcd a b:Int)
theorem BX (a:Int) (h:0≤a):cf a 0 = a:=by
 unfold cf;rw [Int.gcd_zero_right];omega
theorem vC (a b:Int) (h:0 < b):cf b (a % b) = cf a b:=by
 unfold cf
 rw [Int.emod_def,Int.gcd_sub_mul_left_right,Int.gcd_comm]
theorem yR (a b:Int) (h:0 < a∨0 < b):0 < cf a b:=by
 unfold cf
 have:0 < Int.gcd a b:=by
  rcases h with h | h
  · exact Int.gcd_pos_of_ne_zero_left _ (by omega)
  · exact Int.gcd_pos_of_ne_zero_right _ (by omega)
 omega
theorem BY (a b:Int):cf a b = cf b a:=by unfold cf;rw [Int.gcd_comm]
theorem K0 (a b:Int):cf a (if b < 0 then -b else b) = cf a b:=by
 unfold cf;split
 · rw [Int.gcd_neg]
 · rfl
abbrev fr (t b:Int):Rat:=Rat.divInt t b
theorem EB (t b:Int) (h:0 < b):(fr t b).num = t / cf b t:=by
 unfold fr cf
 rw [Rat.num_divInt,Int.sign_eq_one_of_pos h,Int.one_mul]
theorem yS (t b:Int) (h:0 < b):((fr t b).den:Int) = b / cf b t:=by
 unfold fr cf
 rw [Rat.den_divInt,if_neg (by omega)]
 rw [Int.natCast_ediv];congr 1;omega
theorem mC (a b:Int):cf a b ∣ a:=Int.gcd_dvd_left ..
theorem kF (a b:Int):cf a b ∣ b:=Int.gcd_dvd_right ..
theorem den_pos (q:Rat):(0:Int) < q.den:=by have:=q.den_pos;omega
theorem Jw (q:Rat):fr q.num q.den = q:=Rat.num_divInt_den q
theorem HY {t b t' b':Int} (h:0 < b) (h':0 < b') (e:t * b' = t' * b):fr t b = fr t' b':=
 (Rat.divInt_eq_divInt_iff (by omega) (by omega)).mpr e
theorem EC {n d:Int} (h:0 < d) (c:cf n d = 1):(fr n d).num = n∧((fr n d).den:Int) = d:=by
 rw [EB n d h,yS n d h,BY,c,Int.ediv_one,Int.ediv_one];exact ⟨rfl,rfl⟩
end Jm
namespace Jm
theorem ED (t b:Int) (h:0 < b):((fr t b).den:Int)≤b:=by
 rw [yS t b h]
 exact Int.ediv_le_self _ (Int.le_of_lt h)
end Jm
namespace Jm
def Sz (n:Nat) (x:Int):Prop:=x.natAbs < 2 ^ n
theorem Sz.mono {m n:Nat} {x:Int} (h:Sz m x) (hn:m≤n):Sz n x:=Nat.lt_of_lt_of_le h (Nat.pow_le_pow_right (by decide) hn)
theorem Sz.of_le {n:Nat} {x y:Int} (h:Sz n y) (hx:x.natAbs≤y.natAbs):Sz n x:=Nat.lt_of_le_of_lt hx h
theorem Sz.EE {n:Nat} {x B:Int} (h0:-B≤x) (h1:x≤B) (hB:Sz n B):Sz n x:=hB.of_le (by omega)
theorem Sz.dvd {n:Nat} {x y:Int} (h:Sz n y) (hy:0 < y) (hx:0≤x) (d:x ∣ y):Sz n x:=h.of_le (by have:=Int.le_of_dvd hy d;omega)
end Jm
namespace Jm
end Jm
namespace Jm
end Jm
namespace Jm
end Jm
namespace Jm
def ur (c:Int):Nat→Int
 | 0=>c
 | i + 1=>ur c i / 10000000000
def cellOf (ns:List Int) (k:Int):Int:=if 0 < (ns.length:Int) then ns.getD (k % ns.length).toNat 0 else 0
def pG (ns:List Int) (k:Int):Int:=if 0 < (ns.length:Int) then k / ns.length else 1
def mixed (c k j many:Int):Int:=
 let one:=(c * 7919 + k * 104729 + j * 1299709 + 31) % 1000000007
 let two:=(one * 48271 + c / 1009) % 998244353
 let three:=(two * (one % 9973 + 1) + j) % 1000000009
 (one * 69621 + three * 40692 + three / 1013) % 2147483647 % many
def draw (ns:List Int) (k j many:Int):Int:=
 if pG ns k = 0∧1000000000000000000≤cellOf ns k∧0 < ur (cellOf ns k) j.toNat then ur (cellOf ns k) j.toNat % 10000000000 % many
 else mixed (cellOf ns k) k j many
theorem Jx (ns:List Int) (k j many:Int) (h:0 < many):0≤draw ns k j many:=by
 unfold draw;split
 · exact Int.emod_nonneg _ (by omega)
 · exact Int.emod_nonneg _ (by omega)
theorem Jy (ns:List Int) (k j many:Int) (h:0 < many):draw ns k j many < many:=by
 unfold draw;split
 · exact Int.emod_lt_of_pos _ h
 · exact Int.emod_lt_of_pos _ h
end Jm
namespace L2
open PySem PySem.Spec PyProof.Rows
structure ju (K:PySem.W.Frag) (vs:List V) (H:Hp) (Q:VK) (E:XK):Prop where
 ex:∃(a:Addr) (ns:List Int) (k j many:Int),vs = [.ref a, .int k, .int j, .int many]∧aE K H a (ns.map V.int)∧ns.length≤63∧0≤k∧0≤j∧j < 2 ^ 62∧0 < many∧Q (.int (Jm.draw ns k j many)) H
theorem bX {K:PySem.W.Frag} {H:Hp} {Q:VK} {E:XK} {a:Addr} {ns:List Int} {k j many:Int} (hS:aE K H a (ns.map V.int)) (h63:ns.length≤63) (h1:0≤k) (h2:0≤j) (h3:j < 2 ^ 62) (h4:0 < many)
  (h:∀d:Int,d = Jm.draw ns k j many→0≤d→d < many→Q (.int d) H):ju K [.ref a, .int k, .int j, .int many] H Q E:=
 ⟨a,ns,k,j,many,rfl,hS,h63,h1,h2,h3,h4,h _ rfl (Jm.Jx ns k j many h4) (Jm.Jy ns k j many h4)⟩
def K1:Sp:=fun vs H Q _=>∃a b:Int,vs = [.int a, .int b]∧0≤a∧0≤b∧Q (.int (Jm.cf a b)) H
abbrev gZ (q:Rat):HO:= .tup [.int q.num, .int (q.den:Int)]
def uu:Sp:=fun vs H Q _=>∃i:Int,vs = [.int i]∧Q (.bl true) H
def yl (K:PySem.W.Frag):Sp:=fun vs H Q _=>∃(a:Addr) (ns:List Int),vs = [.ref a]∧aE K H a (ns.map V.int)∧ns.length≤63∧∀H',Q (.bl true) H'
section
variable {X:Cx} {pos:Pos}
def PZ (c:TT) (t u:TS):TS:=fun D σ H=>∃J:St→Hp→Prop,(c σ H fun b H1=>if b = true then t { D with nx:=J } σ H1 else u { D with nx:=J } σ H1)∧∀σ' H',J σ' H'→D.nx σ' H'
theorem g_ {c:Expr} {a b:List Stmt} {tc:TT} {t u:TS} (hc:PT X c tc) (ha:gy X a t) (hb:gy X b u):PS X (.If c a b pos) (PZ tc t u):=by
 intro pins s σ H D I h
 obtain ⟨J,h,hJ⟩:=h
 refine aL (bh hc ha hb pins s σ H { D with nx:=J } I h) fun f s' q=>?_
 cases f with
 | next=>obtain ⟨σ',H',I',q⟩:=q;exact ⟨σ',H',I',hJ _ _ q⟩
 | cont=>exact q
 | brk=>exact q
 | ret v=>exact q
end
theorem cQ {X:Cx} {e:Expr} {t:TT} (h:PT X e t):PT X e (fun σ H Q=>∃b:Bool,t σ H (fun b' H'=>b' = b∧H' = H)∧Q b H):=by
 intro pins s σ H Q I hw
 obtain ⟨b,hb,q⟩:=hw
 refine aL (h pins s σ H _ I hb) fun b' s' ⟨H',I',e1,e2⟩=>?_
 subst e1 e2
 exact ⟨_,I',q⟩
theorem nM {i j:Int} (h0:0 < j) (h:Jm.Sz 9000 j):uq i j:=by
 refine ⟨h0,?_⟩
 exact (Nat.log2_lt (by omega)).mpr h
theorem Jz {m n:Nat} {i j:Int} (hi:Jm.Sz m i) (hj:Jm.Sz n j) (h:m + n≤134217728:=by decide):HW i j:=⟨m,n,hi,hj,h⟩
theorem kG {n:Nat} {x:Int} (h:decide (x.natAbs < 2 ^ n) = true):Jm.Sz n x:=by
 unfold Jm.Sz
 exact of_decide_eq_true h
theorem JA {ns:List Int} {k:Int} (h0:0≤k) (h:k < (ns.length:Int)):gj (ns.map V.int) k = some (.int (ns.getD k.toNat 0)):=by
 have hk:k.toNat < ns.length:=by omega
 have ek:k = ((k.toNat:Nat):Int):=by omega
 have q:gj (ns.map V.int) ((k.toNat:Nat):Int) = some (.int (ns.getD k.toNat 0)):=a_ (by rw [List.getElem?_map,List.getD_eq_getElem?_getD,List.getElem?_eq_getElem hk] <;> rfl)
 rw [← ek] at q
 exact q
end L2
namespace L2
open PySem PySem.Spec PyProof.Rows
section
variable {prog:Program} {w:World} {A:Around} {R:Result→Shared→Prop} {s:Shared}
theorem yT {elt target iter:Expr} {scope:Scope} {pos:Pos} {it acc:Value} {env:Env} (J:Nat→Shared→Prop)
  (turn:∀n s,J n s→wpAny (model prog w) A (pyNext it) (fun r s₁=>match r with
    | none=>R (.ok .next) s₁
    | some v=>wpAny (model prog w) A (letOwnedTupleGo target it v) (fun _ s₂=>wpAny (model prog w) A (assign target env v) (fun _ s₃=>wpAny (model prog w) A (eval elt env) (fun x s₄=>
            wpAny (model prog w) A (call (.builtin "list.append") [acc,x]) (fun _ s₅=>∃m,m < n∧J m s₅) (fun _ _=>False) s₄) (fun _ _=>False) s₃) (fun _ _=>False) s₂) (fun _ _=>False) s₁) (fun _ _=>False) s)
  (n:Nat) (h:J n s):codeAny (model prog w) A (.compLoop (.ListComp elt [⟨target,iter,[],0⟩] scope pos) 0 it acc env) R s:=by
 refine codeAny_loop rfl J (fun n s hI=>?_) n h
 show wpAny _ A ((compTurn (.ListComp elt [⟨target,iter,[],0⟩] scope pos) 0 it acc env).onRaise (fun x=>do noteFrame x env;theTreesLotGoes x)) _ _ s
 refine wpAny_noted ?_
 rw [compTurn_list1]
 refine wpAny_bind (wpAny_standAt (wpAny_bind (wpAny_mono (turn n s hI) (fun r s₁ h₁=>?_) fun _ _ h'=>h'.elim)))
 cases r with
 | none=>exact wpAny_pure h₁
 | some v=>
   refine wpAny_bind (wpAny_mono h₁ (fun _ s₂ h₂=>wpAny_bind (wpAny_mono h₂ (fun _ s₃ h₃=>?_) fun _ _ h'=>h'.elim)) fun _ _ h'=>h'.elim)
   exact wpAny_bind (wpAny_bind (wpAny_mono h₃ (fun x s₄ h₄=>wpAny_bind (wpAny_mono h₄ (fun _ s₅ h₅=>wpAny_pure (wpAny_pure ⟨rfl,h₅⟩)) fun _ _ h'=>h'.elim)) fun _ _ h'=>h'.elim))
end
theorem j_ {scope:Scope} {env:Env} (h:∀y∈scope.names,y.2 = .free→∃c,env.cells.lookup y.1 = some c):
  ∃cl,closureFor scope env = pure cl∧(∀y c,(y,c)∈cl→env.cells.lookup y = some c∧(y,NameKind.free)∈scope.names)∧∀y,(y,NameKind.free)∈scope.names→∃c,(y,c)∈cl:=by
 have gen:∀(names:List (Str × NameKind)) (acc:List (Str × Addr)),(∀y∈names,y.2 = .free→∃c,env.cells.lookup y.1 = some c)→
   ∃cl,(forIn names acc fun (x:Str × NameKind) (cs:List (Str × Addr))=>(if (x.2 == NameKind.free) = true then do let a ← cellOf env x.1;pure (ForInStep.yield ((x.1,a) :: cs)) else pure (ForInStep.yield cs):Sem _)) = pure cl∧
    (∀y c,(y,c)∈cl→(env.cells.lookup y = some c∧(y,NameKind.free)∈names)∨(y,c)∈acc)∧(∀p∈acc,p∈cl)∧∀y,(y,NameKind.free)∈names→∃c,(y,c)∈cl:=by
  intro names
  induction names with
  | nil=>intro acc _;exact ⟨acc,by rw [List.forIn_nil],fun y c m=> .inr m,fun p hp=>hp,fun y m=>nomatch m⟩
  | cons x r ih=>
    intro acc hc
    obtain ⟨n,k⟩:=x
    by_cases hk:k = .free
    · subst hk
      obtain ⟨c,ec⟩:=hc (n, .free) List.mem_cons_self rfl
      obtain ⟨cl,e,h1,h2,h3⟩:=ih ((n,c) :: acc) fun y hy=>hc y (List.mem_cons_of_mem _ hy)
      refine ⟨cl,?_,fun y d m=>?_,fun p hp=>h2 p (List.mem_cons_of_mem _ hp),fun y m=>?_⟩
      · rw [List.forIn_cons,← e]
        have Nb:cellOf env n = pure c:=by unfold cellOf;rw [ec]
        simp only [beq_self_eq_true,if_true,Nb,pure_bind]
      · rcases h1 y d m with ⟨a,b⟩ | b
        · exact .inl ⟨a,List.mem_cons_of_mem _ b⟩
        · rcases List.mem_cons.mp b with z | z
          · cases z;exact .inl ⟨ec,List.mem_cons_self⟩
          · exact .inr z
      · rcases List.mem_cons.mp m with z | z
        · cases z;exact ⟨c,h2 _ List.mem_cons_self⟩
        · exact h3 y z
    · obtain ⟨cl,e,h1,h2,h3⟩:=ih acc fun y hy=>hc y (List.mem_cons_of_mem _ hy)
      have hb:(k == NameKind.free) = false:=by simpa using hk
      refine ⟨cl,?_,fun y d m=>?_,h2,fun y m=>?_⟩
      · rw [List.forIn_cons,← e]
        simp only [hb,Bool.false_eq_true,if_false,pure_bind]
      · rcases h1 y d m with ⟨a,b⟩ | b
        · exact .inl ⟨a,List.mem_cons_of_mem _ b⟩
        · exact .inr b
      · rcases List.mem_cons.mp m with z | z
        · cases z;exact absurd rfl hk
        · exact h3 y z
 obtain ⟨cl,e,h1,_,h3⟩:=gen scope.names [] h
 refine ⟨cl,?_,fun y c m=>(h1 y c m).elim id (fun z=>nomatch z),h3⟩
 have e2:closureFor scope env = ((forIn scope.names ([] :List (Str × Addr)) fun (x:Str × NameKind) (cs:List (Str × Addr))=>(if (x.2 == NameKind.free) = true then do let a ← cellOf env x.1;pure (ForInStep.yield ((x.1,a) :: cs)) else pure (ForInStep.yield cs):Sem _)) >>= fun r=>pure r):=rfl
 rw [e2,e]
 rfl
theorem lookup_mem {α:Type} {l:List (Str × α)} {y:Str} {c:α} (h:(y,c)∈l):∃d,l.lookup y = some d:=by
 induction l with
 | nil=>cases h
 | cons p r ih=>
   obtain ⟨k,v⟩:=p
   rw [List.lookup_cons]
   cases hb:y == k with
   | true=>exact ⟨v,rfl⟩
   | false=>
     rcases List.mem_cons.mp h with z | z
     · cases z;simp at hb
     · exact ih z
theorem gb:∀(names:List (Str × NameKind)) (n:Nat) (acc:List (Str × Addr)) {x:Str} {c:Addr},(cellsFrom n names acc).lookup x = some c→n≤c∨acc.lookup x = some c
 | [],_,_,_,_,h=> .inr h
 | (name,kind) :: r,n,acc,x,c,h=>by
   unfold cellsFrom at h
   split at h
   · rcases gb r (n + 1) _ h with z | z
     · exact .inl (by omega)
     · rw [List.lookup_cons] at z
       cases hb:x == name with
       | true=>rw [hb] at z;cases z;exact .inl (Nat.le_refl _)
       | false=>rw [hb] at z;exact .inr z
   · exact gb r n acc h
theorem xH:∀(names:List (Str × NameKind)) (n n0:Nat) (acc:List (Str × Addr)) {x:Str} {c:Addr},n0≤n→(∀d,acc.lookup x = some d→n0≤d)→(cellsFrom n names acc).lookup x = some c→n0≤c:=by
 intro names n n0 acc x c hn ha h
 rcases gb names n acc h with z | z
 · omega
 · exact ha c z
theorem jG:∀(names:List (Str × NameKind)) (n:Nat) (acc:List (Str × Addr)) {x:Str} {c:Addr},(x,NameKind.cell)∈names→(cellsFrom n names acc).lookup x = some c→n≤c
 | [],_,_,_,_,m,_=>nomatch m
 | (name,kind) :: r,n,acc,x,c,m,h=>by
   unfold cellsFrom at h
   rcases List.mem_cons.mp m with z | z
   · cases z
     rw [if_pos (by rfl)] at h
     refine xH r (n + 1) n _ (by omega) (fun d hd=>?_) h
     rw [List.lookup_cons,beq_self_eq_true] at hd
     cases hd
     exact Nat.le_refl _
   · split at h
     · exact Nat.le_trans (Nat.le_succ _) (jG r (n + 1) _ z h)
     · exact jG r n acc z h
theorem gc:∀(names:List (Str × NameKind)) (n:Nat) (acc:List (Str × Addr)) {x:Str},(∃c,acc.lookup x = some c)→∃c,(cellsFrom n names acc).lookup x = some c
 | [],_,_,_,h=>h
 | (name,kind) :: r,n,acc,x,h=>by
   unfold cellsFrom
   split
   · refine gc r (n + 1) _ ?_
     rw [List.lookup_cons]
     cases x == name with
     | true=>exact ⟨_,rfl⟩
     | false=>exact h
   · exact gc r n acc h
theorem jH:∀(names:List (Str × NameKind)) (n:Nat) (acc:List (Str × Addr)) {x:Str},(x,NameKind.cell)∈names→∃c,(cellsFrom n names acc).lookup x = some c
 | [],_,_,_,m=>nomatch m
 | (name,kind) :: r,n,acc,x,m=>by
   unfold cellsFrom
   rcases List.mem_cons.mp m with z | z
   · cases z
     rw [if_pos (by rfl)]
     refine gc r (n + 1) _ ⟨n,?_⟩
     rw [List.lookup_cons,beq_self_eq_true]
   · split
     · exact jH r (n + 1) _ z
     · exact jH r n acc z
theorem jI:∀(names:List (Str × NameKind)) (n:Nat) (acc:List (Str × Addr)) {x:Str},(x,NameKind.cell) ∉ names→(cellsFrom n names acc).lookup x = acc.lookup x
 | [],_,_,_,_=>rfl
 | (name,kind) :: r,n,acc,x,m=>by
   have m2:(x,NameKind.cell) ∉ r:=fun z=>m (List.mem_cons_of_mem _ z)
   unfold cellsFrom
   split
   · rename_i hk
     rw [jI r (n + 1) _ m2,List.lookup_cons]
     cases hb:x == name with
     | true=>
       have e1:=beq_iff_eq.mp hb
       have e2:kind = NameKind.cell:=by simpa using hk
       subst e1 e2
       exact absurd List.mem_cons_self m
     | false=>rfl
   · exact jI r n acc m2
theorem jJ:∀(names:List (Str × NameKind)) (n:Nat) (acc:List (Str × Addr)),(∀x y c,acc.lookup x = some c→acc.lookup y = some c→x = y)→(∀x c,acc.lookup x = some c→c < n)→
  ∀x y c,(cellsFrom n names acc).lookup x = some c→(cellsFrom n names acc).lookup y = some c→x = y
 | [],_,_,h,_=>h
 | (name,kind) :: r,n,acc,h,hlt=>by
   intro x y c hx hy
   unfold cellsFrom at hx hy
   split at hx
   · rename_i hk
     rw [if_pos hk] at hy
     refine jJ r (n + 1) _ (fun x y c hx hy=>?_) (fun x c hx=>?_) x y c hx hy
     · rw [List.lookup_cons] at hx hy
       cases hb:x == name with
       | true=>
         cases hb2:y == name with
         | true=>rw [beq_iff_eq.mp hb,beq_iff_eq.mp hb2]
         | false=>
           rw [hb] at hx;rw [hb2] at hy
           cases hx
           exact absurd (hlt _ _ hy) (Nat.lt_irrefl _)
       | false=>
         cases hb2:y == name with
         | true=>
           rw [hb] at hx;rw [hb2] at hy
           cases hy
           exact absurd (hlt _ _ hx) (Nat.lt_irrefl _)
         | false=>
           rw [hb] at hx;rw [hb2] at hy
           exact h x y c hx hy
     · rw [List.lookup_cons] at hx
       cases hb:x == name with
       | true=>rw [hb] at hx;cases hx;exact Nat.lt_succ_self _
       | false=>rw [hb] at hx;exact Nat.lt_succ_of_lt (hlt _ _ hx)
   · rename_i hk
     rw [if_neg hk] at hy
     exact jJ r n acc h hlt x y c hx hy
theorem mD:∀(names:List (Str × NameKind)) (h:Heap) (acc:List (Str × Addr)),(∀x c,acc.lookup x = some c→∃v,h.IsCell c v)→∀x c,(cellsFrom h.objs.size names acc).lookup x = some c→∃v,(pushCells h names).IsCell c v
 | [],_,_,ha=>ha
 | (name,kind) :: r,h,acc,ha=>by
   intro x c hx
   unfold cellsFrom at hx
   unfold pushCells
   split at hx
   · rename_i hk
     rw [if_pos hk]
     have q:=mD r (h.push { cls:= .type "cell",data:= .cell none }) ((name,h.objs.size) :: acc) (fun x c hx=>by
      rw [List.lookup_cons] at hx
      cases hb:x == name with
      | true=>rw [hb] at hx;cases hx;exact ⟨none,_,Heap.get?_push_size _ rfl,rfl⟩
      | false=>
        rw [hb] at hx
        obtain ⟨v,z⟩:=ha x c hx
        exact ⟨v,z.keeps fun b o e=>Heap.get?_push_of_some _ e⟩) x c
     rw [Heap.size_push] at q
     exact q hx
   · rename_i hk
     rw [if_neg hk]
     exact mD r h acc ha x c hx
def bS (X:Cx) (N2:List Str) (scope:Scope) (cl:List (Str × Addr)) (s₂:Shared) (H₂:Hp) (fp:List Addr):Cx where
 prog:=X.prog
 w:=X.w
 K:=X.K
 mg:=X.mg
 base:=X.base
 A:=X.A
 N:=N2
 s₀:=s₂
 H₀:=H₂
 env:={ scope:=relabel scope X.env,locals:=s₂.heap.objs.size,globals:=X.env.globals,cells:=cellsFrom (s₂.heap.objs.size + 1) scope.names cl,qual:=X.env.qual,func:=none,code:=X.env.code,frame:=X.env.frame,builtins:=X.env.builtins }
 outer:=X.stack
 stack:=X.stack
 ex:=fp
 fn:=fun x=>decide (scope.names.lookup x = some .cell)
 calm:=X.calm
 pn:=[]
 xe:=fun _ _=>False
def jv (XN:List Str) (xn sn:List (Str × NameKind)) (N2:List Str) (ix:List (Option Nat)):Bool:=
 (ix.length == N2.length) &&
 ((ix.zip N2).all fun p=>match p.1 with
   | none=>true
   | some j=>XN[j]? == some p.2 && sn.lookup p.2 == some .free && (xn.lookup p.2 == some .cell || xn.lookup p.2 == some .free)) &&
 (sn.all fun y=>y.2 != .free || (xn.lookup y.1 == some .cell || xn.lookup y.1 == some .free)) &&
 (sn.all fun y=>y.2 != .local || sn.lookup y.1 == some .local) &&
 (sn.all fun y=>y.2 != .free || sn.all fun z=>z.2 != .cell || z.1 != y.1)
theorem rK {scope:Scope} {env:Env} {x:Str} {k:NameKind} (h:(relabel scope env).names.lookup x = some k) (hk:k = .cell∨k = .free):(x,NameKind.cell)∈scope.names∨(x,NameKind.free)∈scope.names:=by
 have m:=PySem.mem_of_lookup h
 obtain ⟨y,hy,e⟩:=List.mem_map.mp m
 obtain ⟨n,k0⟩:=y
 dsimp only at e
 split at e
 · rename_i hc
   cases e
   have h1:k0 = NameKind.free:=by
    have:=(Bool.and_eq_true_iff.mp (Bool.and_eq_true_iff.mp hc).1).1
    simpa using this
   subst h1
   exact .inr hy
 · cases e
   rcases hk with rfl | rfl
   · exact .inl hy
   · exact .inr hy
theorem yU {scope:Scope} {env:Env}:∀{x:Str},scope.names.lookup x = some .free→(relabel scope env).names.lookup x = some .cell∨(relabel scope env).names.lookup x = some .free:=by
 intro x h
 have gen:∀(l:List (Str × NameKind)),l.lookup x = some .free→(l.map fun (n,k)=>if (k == NameKind.free && env.scope.kind == .function && env.kindOf n == some .cell) then (n,NameKind.cell) else (n,k)).lookup x = some .cell∨
   (l.map fun (n,k)=>if (k == NameKind.free && env.scope.kind == .function && env.kindOf n == some .cell) then (n,NameKind.cell) else (n,k)).lookup x = some .free:=by
  intro l
  induction l with
  | nil=>intro h;cases h
  | cons p r ih=>
    intro h
    obtain ⟨n,k⟩:=p
    rw [List.lookup_cons] at h
    rw [List.map_cons]
    dsimp only
    cases hb:x == n with
    | true=>
      rw [hb] at h
      cases h
      split
      · rw [List.lookup_cons,hb];exact .inl rfl
      · rw [List.lookup_cons,hb];exact .inr rfl
    | false=>
      rw [hb] at h
      split
      · rw [List.lookup_cons,hb];exact ih h
      · rw [List.lookup_cons,hb];exact ih h
 exact gen scope.names h
theorem uw {X:Cx} {pins:List (Addr × Obj)} {σ σ2:St} {H:Hp} {s:Shared} {N2:List Str} {scope:Scope} {cl:List (Str × Addr)} {fp:List Addr} (I:Inv X pins σ H s) (hk:scope.kind = .function)
  (yV:∀y c,(y,c)∈cl→X.env.cells.lookup y = some c) (vD:∀y,(y,NameKind.free)∈scope.names→∃c,(y,c)∈cl) (hfp:∀b∈fp,gU X pins H b) (hfo:∀b∈fp,b < s.heap.objs.size) (hl:σ2.length = N2.length)
  (hσ:∀(i:Nat) (x:Str) (v:V),N2[i]? = some x→σ2[i]? = some (some v)→scope.names.lookup x = some .free∧(X.env.kindOf x = some .cell∨X.env.kindOf x = some .free)∧∃j:Nat,X.N[j]? = some x∧σ[j]? = some (some v))
  (hd:∀x,(x,NameKind.free)∈scope.names→(x,NameKind.cell) ∉ scope.names):
  Inv (bS X N2 scope cl s H fp) [] σ2 H { s with heap:=pushCells (s.heap.push { cls:= .type "dict",data:= .dict #[] }) scope.names }:=by
 have keeps:∀b o,s.heap.get? b = some o→(pushCells (s.heap.push { cls:= .type "dict",data:= .dict #[] }) scope.names).get? b = some o:=fun b o e=>pushCells_keeps _ _ b o (Heap.get?_push_of_some _ e)
 have hsz:(s.heap.push { cls:= .type "dict",data:= .dict #[] }).objs.size = s.heap.objs.size + 1:=Heap.size_push ..
 have qM:∀x c,cl.lookup x = some c→X.env.cells.lookup x = some c:=fun x c e=>yV x c (PySem.mem_of_lookup e)
 have QO:∀x c,cl.lookup x = some c→c < s.heap.objs.size:=fun x c e=>by
  obtain ⟨v,z⟩:=I.cell x c (qM x c e)
  exact z.lt
 have there:=mD scope.names (s.heap.push { cls:= .type "dict",data:= .dict #[] }) cl (fun x c e=>by
  obtain ⟨v,z⟩:=I.cell x c (qM x c e)
  exact ⟨v,z.keeps fun b o e=>Heap.get?_push_of_some _ e⟩)
 rw [hsz] at there
 have cells:∀x c,(cellsFrom (s.heap.objs.size + 1) scope.names cl).lookup x = some c→s.heap.objs.size + 1≤c∨X.env.cells.lookup x = some c:=fun x c e=>by
  rcases gb _ _ _ e with z | z
  · exact .inl z
  · exact .inr (qM x c z)
 have QS:(bS X N2 scope cl s H fp).Ok:=by
  refine ⟨I.ok.mod,hk,I.ok.glob,I.ok.blt,Nat.le_refl _,?_,?_,?_,I.ok.hd,I.ok.frames, .inl rfl,?_,I.bs,Nat.le_trans I.ok.tW I.sz,?_,?_,I.stack,I.mS⟩
  · exact jJ _ _ _ (fun x y c hx hy=>I.ok.inj x y c (qM x c hx) (qM y c hy)) fun x c e=>Nat.lt_succ_of_lt (QO x c e)
  · intro x hx
    have m:(x,NameKind.cell)∈scope.names∨(x,NameKind.free)∈scope.names:=by
     rcases hx with z | z
     · exact rK z (.inl rfl)
     · exact rK z (.inr rfl)
    rcases m with m | m
    · exact jH _ _ _ m
    · obtain ⟨c,mc⟩:=vD x m
      exact gc _ _ _ (lookup_mem mc)
  · intro x c hf e
    have hf':scope.names.lookup x = some .cell:=of_decide_eq_true hf
    exact Nat.le_trans (Nat.le_succ _) (jG _ _ _ (PySem.mem_of_lookup hf') e)
  · intro b hb
    refine ⟨Nat.ne_of_lt (hfo b hb),fun x c e z=>?_⟩
    have hlt:=hfo b hb
    rcases cells x c e with k | k
    · exact absurd (Nat.lt_of_lt_of_le hlt (Nat.le_trans (Nat.le_succ _) (z ▸ k))) (Nat.lt_irrefl _)
    · exact (hfp b hb).2.2.2.2.1 x c k z
  · intro b o e hb
    rcases (hfp b hb).2.2.2.1 with z | z
    · exact I.ok.vz b o e z
    · exact absurd (Nat.lt_of_lt_of_le (Heap.lt_size (I.ok.bs b o e).1) z) (Nat.lt_irrefl _)
  · intro b hb QT
    rcases List.mem_cons.mp (I.yx b QT) with z | z
    · exact (hfp b hb).2.1 z
    · exact (hfp b hb).2.2.1 z
 refine ⟨QS,rfl,I.bare,Un.kept keeps,?_,there,I.hok.fresh (Nat.le_refl _),?_,(fun p hp=>nomatch hp),I.hok.kept keeps,hl⟩
 · refine ⟨fun _=>none,(Heap.Ns.new s.heap (.type "dict")).keeps (pushCells_keeps _ _),fun i x v e1 e2 _=>?_⟩
   obtain ⟨hf,hx,j,j1,j2⟩:=hσ i x v e1 e2
   obtain ⟨m,_,hloc⟩:=I.loc
   have hv:D7 X.env.scope x:=hx.elim (fun z=> .inr (.inl z)) fun z=> .inr (.inr z)
   obtain ⟨u,r,lk⟩:=hloc j x v j1 j2 hv
   refine ⟨u,r, .inr ⟨yU hf,?_⟩⟩
   rcases lk with ⟨k,_⟩ | ⟨_,c,ec,ic⟩
   · rcases hx with z | z <;> rw [z] at k <;> cases k
   · refine ⟨c,?_,ic.keeps keeps⟩
     have mf:=PySem.mem_of_lookup hf
     show (cellsFrom (s.heap.objs.size + 1) scope.names cl).lookup x = some c
     rw [jI _ _ _ (hd x mf)]
     obtain ⟨c',mc⟩:=vD x mf
     obtain ⟨d,ed⟩:=lookup_mem mc
     rw [ed]
     have:=qM x d ed
     rw [ec] at this
     exact this.symm
 · intro x c e
   rcases cells x c e with k | k
   · exact I.hok.fresh (by omega)
   · exact I.eO x c k
section
variable {X:Cx}
def qN (J:It) (g:TG) (te:TE) (acc:Addr) (σ₀:St) (H:Hp) (Q:VK):Prop:=∃W:Nat→Nat→St→Hp→Prop,
 (∃m,W 0 m σ₀ (upd H acc (.lst [])))∧∀i m σ2 H2,W i m σ2 H2→
   (J.stop i H2∧Q (.ref acc) H2)∨(J.go i H2∧∃(S:St→Prop) (N:V→Hp→Prop),(∀σ3 v H4,S σ3→N v H4→∃xs,H4 acc = some (.lst xs)∧xs.length < sizeLine∧∃m',m' < m∧W (i + 1) m' σ3 (upd H4 acc (.lst (xs ++ [v]))))∧∀x H',J.mU i H2 x H'→g x σ2 H' fun σ3 H3=>S σ3∧te σ3 H3 N)
def HZ (wi:TI) (ix:List (Option Nat)) (g:TG) (te:TE):TE:=fun σ H Q=>wi σ H fun J H1=>∀acc,H1 acc = none→qN J g te acc (ix.map fun o=>o.bind fun j=>(σ[j]?).join) H1 Q
theorem gf {XN:List Str} {xn sn:List (Str × NameKind)} {N2:List Str} {ix:List (Option Nat)} (h:jv XN xn sn N2 ix = true):
  ix.length = N2.length∧(∀(i:Nat) (x:Str) (j:Nat),N2[i]? = some x→ix[i]? = some (some j)→XN[j]? = some x∧sn.lookup x = some .free∧(xn.lookup x = some .cell∨xn.lookup x = some .free))∧
  (∀y∈sn,y.2 = .free→xn.lookup y.1 = some .cell∨xn.lookup y.1 = some .free)∧(∀y∈sn,y.2 = .local→sn.lookup y.1 = some .local)∧∀x,(x,NameKind.free)∈sn→(x,NameKind.cell) ∉ sn:=by
 unfold jv at h
 obtain ⟨h,h5⟩:=Bool.and_eq_true_iff.mp h
 obtain ⟨h,h4⟩:=Bool.and_eq_true_iff.mp h
 obtain ⟨h,h3⟩:=Bool.and_eq_true_iff.mp h
 obtain ⟨h1,h2⟩:=Bool.and_eq_true_iff.mp h
 have e1:ix.length = N2.length:=by simpa using h1
 refine ⟨e1,fun i x j a b=>?_,fun y hy e=>?_,fun y hy e=>?_,fun x m1 m2=>?_⟩
 · have m:(some j,x)∈ix.zip N2:=by
    refine List.mem_of_getElem? (i:=i) ?_
    rw [List.getElem?_zip_eq_some]
    exact ⟨b,a⟩
   have q:=List.all_eq_true.mp h2 _ m
   dsimp only at q
   obtain ⟨q,q3⟩:=Bool.and_eq_true_iff.mp q
   obtain ⟨q1,q2⟩:=Bool.and_eq_true_iff.mp q
   exact ⟨by simpa using q1,by simpa using q2,(Bool.or_eq_true_iff.mp q3).imp (fun z=>by simpa using z) fun z=>by simpa using z⟩
 · have q:=List.all_eq_true.mp h3 y hy
   rcases Bool.or_eq_true_iff.mp q with z | z
   · rw [e] at z;simp at z
   · exact (Bool.or_eq_true_iff.mp z).imp (fun z=>by simpa using z) fun z=>by simpa using z
 · have q:=List.all_eq_true.mp h4 y hy
   rcases Bool.or_eq_true_iff.mp q with z | z
   · rw [e] at z;simp at z
   · simpa using z
 · have q:=List.all_eq_true.mp h5 _ m1
   rcases Bool.or_eq_true_iff.mp q with z | z
   · simp at z
   · have q2:=List.all_eq_true.mp z _ m2
     simp at q2
theorem ux {tg iter elt:Expr} {scope:Scope} {pos:Pos} {N2:List Str} {ix:List (Option Nat)} {g:TG} {te:TE} {cl:List (Str × Addr)} {pins:List (Addr × Obj)} {σ:St} {H:Hp} {s:Shared} {E:Value→Shared→Prop} {Q:VK}
  {RR:Value→Addr→Result→Shared→Prop} (hc:X.calm = true) (hg:∀cl s₂ H₂ fp,PG (bS X N2 scope cl s₂ H₂ fp) tg g) (he:∀cl s₂ H₂ fp,PE (bS X N2 scope cl s₂ H₂ fp) elt te)
  (hk:scope.kind = .function) (hn:jv X.N X.env.scope.names scope.names N2 ix = true)
  (yV:∀y c,(y,c)∈cl→X.env.cells.lookup y = some c) (vD:∀y,(y,NameKind.free)∈scope.names→∃c,(y,c)∈cl)
  {it:Addr} {fp:List Addr} {tn:Nat→Heap→Prop} {J:It} (I:Inv X pins σ H s) (T:Turn X.prog X.w X.K tg J fp it tn) (st:tn 0 s.heap) (f:∀b∈fp,gU X pins H b)
  (h:∀acc,H acc = none→qN J g te acc (ix.map fun o=>o.bind fun j=>(σ[j]?).join) H Q)
  (hR:∀acc C H' s' m,Inv X pins σ H' s'→s'.heap.Ns C m→H' C = none→C ≠ X.env.locals→X.s₀.heap.objs.size≤C→(∀x c,X.env.cells.lookup x = some c→c ≠ C)→(∀p∈X.pn ++ pins,p.1 ≠ C)→Q (.ref acc) H'→RR (.ref acc) C (.ok .next) s'):
  wpAny (model X.prog X.w) X.A (newList []) (fun acc s₃=>wpAny (model X.prog X.w) X.A (newFunctionEnv scope X.env.globals cl [] X.env.qual none .none (some X.env)) (fun cenv s₄=>
   codeAny (model X.prog X.w) X.A (.compStart (.ListComp elt [⟨tg,iter,[],0⟩] scope pos) 0 (.ref it) acc { cenv with scope:=relabel scope X.env }) (RR acc cenv.locals) s₄) E s₃) E s:=by
 obtain ⟨k1,k2,k3,k4,k5⟩:=gf hn
 refine wpAny_newObj_type ?_
 have I3:Inv X pins σ (upd H s.heap.objs.size (.lst [])) { s with heap:=s.heap.push { cls:= .type "list",data:= .seq ([] :List Value).toArray } }:=
  I.laid (a:=s.heap.objs.size) (o:= .lst []) (t':=s.toks) (fun _ _ q=>Heap.get?_push_of_some _ q) (Nat.le_refl _) ⟨Nat.zero_le _,[],_, .nil,Heap.get?_push_size _ rfl⟩
 obtain ⟨W,⟨m0,w0⟩,turn⟩:=h s.heap.objs.size I.fresh
 have fo:∀b∈fp,b < s.heap.objs.size:=fun b hb=>by
  obtain ⟨o,e,_⟩:=T.obj 0 _ st b hb
  exact Heap.lt_size e
 have st3:tn 0 (s.heap.push { cls:= .type "list",data:= .seq ([] :List Value).toArray }):=T.keep _ _ _ st fun b _ o e=>Heap.get?_push_of_some _ e
 have f3:∀b∈fp,gU X pins (upd H s.heap.objs.size (.lst [])) b:=fun b hb=>⟨by rw [ak (Nat.ne_of_lt (fo b hb))];exact (f b hb).1,(f b hb).2⟩
 have EF:∀b∈fp,b < (s.heap.push { cls:= .type "list",data:= .seq ([] :List Value).toArray }).objs.size:=fun b hb=>by rw [Heap.size_push];exact Nat.lt_succ_of_lt (fo b hb)
 generalize K2:({ s with heap:=s.heap.push { cls:= .type "list",data:= .seq ([] :List Value).toArray } }:Shared) = s3 at *
 have K3:s3.heap = s.heap.push { cls:= .type "list",data:= .seq ([] :List Value).toArray }:=by rw [← K2]
 rw [← K3] at st3 EF
 generalize s.heap.objs.size = acc at *
 generalize QU:upd H acc (.lst []) = H3 at *
 have IY:=uw (N2:=N2) (scope:=scope) (cl:=cl) (fp:=fp) (σ2:=ix.map fun o=>o.bind fun j=>(σ[j]?).join) I3 hk yV vD f3 EF (by rw [List.length_map];exact k1) (fun i x v e1 e2=>by
  rw [List.getElem?_map] at e2
  cases ei:ix[i]? with
  | none=>rw [ei] at e2;cases e2
  | some o=>
    rw [ei] at e2
    cases o with
    | none=>cases e2
    | some j=>
      obtain ⟨a1,a2,a3⟩:=k2 i x j e1 ei
      refine ⟨a2,a3,j,a1,?_⟩
      have e3:(σ[j]?).join = some v:=Option.some.inj e2
      cases ej:σ[j]? with
      | none=>rw [ej] at e3;cases e3
      | some z=>rw [ej] at e3;exact congrArg some e3) k5
 have ne:wpAny (model X.prog X.w) X.A (newFunctionEnv scope X.env.globals cl [] X.env.qual none .none (some X.env)) (fun cenv s₄=>
   cenv = { scope:=scope,locals:=s3.heap.objs.size,globals:=X.env.globals,cells:=cellsFrom (s3.heap.objs.size + 1) scope.names cl,qual:=X.env.qual,func:=none,code:=X.env.code,frame:=X.env.frame,builtins:=X.env.builtins }∧
   s₄ = { s3 with heap:=pushCells (s3.heap.push { cls:= .type "dict",data:= .dict #[] }) scope.names }) E s3:=by
  simp only [newFunctionEnv,Option.isSome_some,if_true]
  refine wpAny_bind (wpAny_alloc ?_)
  refine wpAny_bind (wpAny_layCells _ (fun name kind cells=>by cases hkc:kind == NameKind.cell <;> simp [hkc]) _ _ _ _ ?_)
  rw [List.forIn_nil]
  refine wpAny_bind (wpAny_pure (wpAny_pure ⟨?_,rfl⟩))
  rw [show ({ s3 with heap:=s3.heap.push { cls:= .type "dict",data:= .dict #[] } }:Shared).heap.objs.size = s3.heap.objs.size + 1 from Heap.size_push ..]
 refine aL ne fun cenv s4 ⟨e1,e2⟩=>?_
 subst e1 e2
 have EG:tn 0 (pushCells (s3.heap.push { cls:= .type "dict",data:= .dict #[] }) scope.names):=T.keep _ _ _ st3 fun b _ o e=>pushCells_keeps _ _ b o (Heap.get?_push_of_some _ e)
 have pH:s3.heap.objs.size ≠ X.env.locals:=Nat.ne_of_gt I3.lt
 have kr:∀{H':Hp},(∀b∈fp,H' b = none)→∀b∈fp,gU (bS X N2 scope cl s3 H3 fp) [] H' b:=fun {H'} hn b hb=>
  ⟨hn b hb,(IY.ok.yw b hb).1,IY.ok.sO b hb, .inl hb,(IY.ok.yw b hb).2,fun p hp=>nomatch hp⟩
 have loop:codeAny (model X.prog X.w) X.A (.compLoop (.ListComp elt [⟨tg,iter,[],0⟩] scope pos) 0 (.ref it) (.ref acc) (bS X N2 scope cl s3 H3 fp).env) (RR (.ref acc) s3.heap.objs.size)
   { s3 with heap:=pushCells (s3.heap.push { cls:= .type "dict",data:= .dict #[] }) scope.names }:=by
  refine yT (fun n s'=>∃i σ' H',Inv (bS X N2 scope cl s3 H3 fp) [] σ' H' s'∧tn i s'.heap∧(∀b∈fp,H' b = none)∧W i n σ' H') ?_ m0 ⟨0,_,H3,IY,EG,fun b hb=>(f3 b hb).1,w0⟩
  rintro n s5 ⟨i,σ5,H5,I5,t_,yD,w5⟩
  rcases turn i n σ5 H5 w5 with ⟨stop,qn⟩ | ⟨go,S,N,K4,step⟩
  · refine aL (T.done (bS X N2 scope cl s3 H3 fp) rfl rfl rfl hc i [] s5 σ5 H5 (fun _ _=>False) I5 (kr yD) t_ stop) fun r s6 ⟨hr,I6⟩=>?_
    subst hr
    obtain ⟨m6,K5,_⟩:=id I6.loc
    have IX:Inv X pins σ H5 s6:=I3.yg (ch:=fp) I6.os I6.base I6.hok I6.bare fun b hb=>⟨(f3 b hb).2.2.2.1,(f3 b hb).2.1,(f3 b hb).2.2.2.2.1,(f3 b hb).2.2.2.2.2⟩
    refine hR acc s3.heap.objs.size H5 s6 m6 IX K5 I6.free pH I3.sz (fun x c e z=>?_) (fun p hp z=>?_) qn
    · obtain ⟨v,q⟩:=I3.cell x c e
      exact absurd q.lt (by rw [z];exact Nat.lt_irrefl _)
    · exact absurd (Heap.lt_size (I3.pin p hp).1) (by rw [z];exact Nat.lt_irrefl _)
  · refine aL (T.item (bS X N2 scope cl s3 H3 fp) rfl rfl rfl hc i [] s5 σ5 H5 (fun _ _=>False) I5 (kr yD) t_ go) fun r s6 ⟨u,hr,h6⟩=>?_
    subst hr
    refine aL h6 fun _ s7 ⟨x,H7,I7,r7,y7,uy,K6⟩=>?_
    have K7:=I7.pinned (kr K6) (T.obj _ _ uy)
    refine aL (hg cl s3 H3 fp _ s7 σ5 H7 x u _ K7 r7 (step x H7 y7)) fun _ s8 ⟨σ8,H8,I8,wX,q8⟩=>?_
    refine aL (he cl s3 H3 fp _ s8 σ8 H8 _ I8 q8) fun y s9 ⟨v,H9,I9,r9,q9⟩=>?_
    obtain ⟨xs,hxs,K8,m',hm,w9⟩:=K4 σ8 v H9 wX q9
    refine aL (eZ _ s9 σ8 H9 (.ref acc) [v] (.ref acc) [y] (fun z wY=>z = .bE∧wY = upd H9 acc (.lst (xs ++ [v]))) I9 rfl (.cons r9 .nil) ⟨acc,xs,v,rfl,rfl,hxs,K8,rfl,rfl⟩) fun z BZ ⟨zv,wY,yW,QV,ez,eH⟩=>?_
    subst eH
    refine ⟨m',hm,i + 1,σ8,_,yW.iR,T.keep _ _ _ uy fun b hb o e=>(yW.pin (b,o) (List.mem_append_right _ (List.mem_append_right _ (d8 hb e)))).1,fun b hb=>?_,w9⟩
    obtain ⟨o,e,d⟩:=T.obj _ _ uy b hb
    exact (yW.pin (b,o) (List.mem_append_right _ (List.mem_append_right _ (d8 hb e)))).2.1
 exact codeAny_compStart_list loop (T.self _ 0 _ _ _ EG loop)
theorem fE {tg iter elt:Expr} {scope:Scope} {pos:Pos} (N2:List Str) (ix:List (Option Nat)) {wi:TI} {g:TG} {te:TE} (hc:X.calm = true) (hi:PI X tg iter wi)
  (hg:∀cl s₂ H₂ fp,PG (bS X N2 scope cl s₂ H₂ fp) tg g) (he:∀cl s₂ H₂ fp,PE (bS X N2 scope cl s₂ H₂ fp) elt te)
  (hk:scope.kind = .function) (hn:jv X.N X.env.scope.names scope.names N2 ix = true) (hs:∀x,foldedSetIterable iter X.env x = pure x:=by intro _;rfl):
  PE X (.ListComp elt [⟨tg,iter,[],0⟩] scope pos) (HZ wi ix g te):=by
 intro pins s σ H Q I h
 obtain ⟨k1,k2,k3,k4,k5⟩:=gf hn
 obtain ⟨cl,yX,c1,c2⟩:=j_ (scope:=scope) (env:=X.env) fun y hy e=>I.ok.has y.1 (k3 y hy e)
 rw [eval_ListComp]
 refine wpAny_comprehension_free (use:=none) rfl hs yX hk k4 (aL (hi pins s σ H _ I h) fun v s1 h1=>aL h1 fun itv s2 h2=>?_)
 obtain ⟨it,fp,tn,J,H2,e,I2,T,st2,f2,h2⟩:=h2
 subst e
 refine ux (RR:=fun acc C=>compPost (model X.prog X.w) X.A X.xe none (EP X pins σ Q) acc C) (Q:=Q) hc hg he hk hn (fun y c m=>(c1 y c m).1) c2 I2 T st2 f2 h2 ?_
 intro acc C H' s' m I' ns pH hL hsz h_ nN q
 exact ⟨m,ns,fun h' hs'=>⟨.ref acc,H',I'.turned (it:=C) (t':=s'.toks) (fun b o hb e=>(hs'.2 b hb).trans e) pH hL (.inr hsz) h_ nN,rfl,q⟩⟩
theorem JB {i:Nat} {x:Str} {px pos':Pos} {tg iter elt:Expr} {scope:Scope} {pos:Pos} (N2:List Str) (ix:List (Option Nat)) {wi:TI} {g:TG} {te:TE} (hN:X.N.Nodup) (hi:X.N[i]? = some x) (hx:X.env.scope.names.lookup x = some .local) (hc:X.calm = true) (hit:PI X tg iter wi)
  (hg:∀cl s₂ H₂ fp,PG (bS X N2 scope cl s₂ H₂ fp) tg g) (he:∀cl s₂ H₂ fp,PE (bS X N2 scope cl s₂ H₂ fp) elt te)
  (hk:scope.kind = .function) (hn:jv X.N X.env.scope.names scope.names N2 ix = true) (hw:swapsWith (.ListComp elt [⟨tg,iter,[],0⟩] scope pos) (some (.Name x px)) pos'.line X.env = pure true) (hs:∀x,foldedSetIterable iter X.env x = pure x:=by intro _;rfl):
  PS X (.Assign [.Name x px] (.ListComp elt [⟨tg,iter,[],0⟩] scope pos) pos') (sQ (HZ wi ix g te) (dI i)):=by
 intro pins s σ H D I h
 obtain ⟨k1,k2,k3,k4,k5⟩:=gf hn
 obtain ⟨cl,yX,c1,c2⟩:=j_ (scope:=scope) (env:=X.env) fun y hy e=>I.ok.has y.1 (k3 y hy e)
 rw [exec_Assign_Name_used _ _ _ _ hw]
 refine wpAny_bind (wpAny_standAt (wpAny_bind ?_))
 show wpAny _ X.A (do let _ ← comprehension (.ListComp elt [⟨tg,iter,[],0⟩] scope pos) scope X.env _ (newList []) false (eval iter X.env) (some (assign (.Name x px) X.env))) _ _ s
 refine wpAny_bind (aL (wpAny_comprehension_free (use:=some (assign (.Name x px) X.env)) (Q:=fun _ s'=>SP X pins D .next s') rfl hs yX hk k4 (aL (hit pins s σ H _ I h) fun v s1 h1=>aL h1 fun itv s2 h2=>?_)) fun _ s' hq=>wpAny_pure (wpAny_pure hq))
 obtain ⟨it,fp,tn,J,H2,e,I2,T,st2,f2,h2⟩:=h2
 subst e
 refine ux (RR:=fun acc C=>compPost (model X.prog X.w) X.A X.xe (some (assign (.Name x px) X.env)) (fun _ s'=>SP X pins D .next s') acc C) (Q:=fun v H'=>D.nx (σ.set i (some v)) H') hc hg he hk hn (fun y c m=>(c1 y c m).1) c2 I2 T st2 f2 h2 ?_
 intro acc C H' s' m I' ns pH hL hsz h_ nN q
 show wpAny _ X.A (assign (.Name x px) X.env (.ref acc)) _ _ _
 refine wpAny_assign_Name (o6 I' hN hi (.inl hx) (v:= .ref acc) rfl (fun s3 I3 ⟨a,sb,ha⟩=>?_) (.inr hx))
 have ca:C ≠ a:=by
  rcases ha with z | z
  · rw [z];exact hL
  · exact fun e=>h_ x a z e.symm
 exact ⟨m,ns.sameBut sb ca,fun h' hs'=>⟨_,H',I3.turned (it:=C) (t':=s3.toks) (fun b o hb e=>(hs'.2 b hb).trans e) pH hL (.inr hsz) h_ nN,q⟩⟩
end
theorem C7 {lo:Int} {n k:Nat} {te:TE} {σ2:St} {H:Hp} {acc:Addr} {Q:VK} (Pv:Nat→List V→Hp→Prop) (hn:n≤100000) (h0:Pv 0 [] (upd H acc (.lst [])))
  (hs:∀(i:Nat) (out:List V) (H1:Hp),i < n→out.length = i→H1 acc = some (.lst out)→Pv i out H1→te (σ2.set k (some (.int (lo + i)))) H1 fun v H4=>H4 acc = some (.lst out)∧Pv (i + 1) (out ++ [v]) (upd H4 acc (.lst (out ++ [v]))))
  (hd:∀(out:List V) (H1:Hp),out.length = n→H1 acc = some (.lst out)→Pv n out H1→Q (.ref acc) H1):
  qN (wI lo n) (dI k) te acc σ2 H Q:=by
 refine ⟨fun i m σ' H'=>m = n - i∧i≤n∧(∀v,σ'.set k (some v) = σ2.set k (some v))∧∃out,out.length = i∧H' acc = some (.lst out)∧Pv i out H',⟨n,by simp,Nat.zero_le _,fun _=>rfl,[],rfl,ai,h0⟩,?_⟩
 rintro i m σ' H' ⟨rfl,hi,hσ,out,ho,ha,p⟩
 by_cases hlt:i < n
 · refine .inr ⟨hlt,fun σ3=>∀v,σ3.set k (some v) = σ2.set k (some v),fun v H4=>H4 acc = some (.lst out)∧Pv (i + 1) (out ++ [v]) (upd H4 acc (.lst (out ++ [v]))),fun σ3 v H4 hS ⟨a,b⟩=>?_,fun x H1 y=>?_⟩
   · refine ⟨out,a,?_,n - (i + 1),by omega,rfl,hlt,hS,out ++ [v],by rw [List.length_append,ho];rfl,ai,b⟩
     have:sizeLine = 16777216:=sizeLine_eq
     omega
   · obtain ⟨e,y⟩:=y
     subst e y
     refine ⟨fun v=>by rw [List.set_set];exact hσ v,?_⟩
     have q:=hs i out _ hlt ho ha p
     rw [← hσ] at q
     exact q
 · have e:i = n:=by omega
   subst e
   exact .inl ⟨Nat.le_refl _,hd out H' ho ha p⟩
theorem aC.dg {H H':Hp} {p:Addr} (e:aC H H') (h:H p = none) (o:HO):aC H (upd H' p o):=fun b u q=>by rw [ak (aA q h)];exact e b u q
end L2
namespace L2
open PySem PySem.Spec PyProof.Rows
theorem rL (n d:Int):SeqAt.shaped (.tuple [.int n, .int d]) = true:=rfl
theorem Gx (n d:Int):PyData.eqv (.tuple [.int n, .int d]) (.tuple [.int n, .int d]) = true:=by simp [PyData.eqv,PyData.eqvAll]
theorem EH {K:PySem.W.Frag} {H:Hp} {p:Addr} {q:Rat} (h:H p = some (gZ q)):Dt K H (.ref p) (.tuple [.int q.num, .int (q.den:Int)]):= .tup (bF.of h) (.cons (.int _) (.cons (.int _) .nil))
structure qO (vs:List V) (H:Hp) (Q:VK) (E:XK):Prop where
 ex:∃t b:Int,vs = [.int t, .int b]∧0 < b∧Jm.Sz 9000 b∧∀(r:Addr) (H':Hp),aC H H'→H' r = some (gZ (Jm.fr t b))→Q (.ref r) H'
theorem wZ {H:Hp} {Q:VK} {E:XK} {t b:Int} (h0:0 < b) (h1:Jm.Sz 9000 b) (h:∀(r:Addr) (H':Hp),aC H H'→H' r = some (gZ (Jm.fr t b))→Q (.ref r) H'):qO [.int t, .int b] H Q E:=⟨t,b,rfl,h0,h1,h⟩
structure Gy (vs:List V) (H:Hp) (Q:VK) (E:XK):Prop where
 ex:∃(p:Addr) (q:Rat) (t b:Int),vs = [.ref p, .int t, .int b]∧H p = some (gZ q)∧0 < b∧Jm.Sz 9000 b∧q = Jm.fr t b∧∀H',aC H H'→Q (.bl true) H'
theorem K9 {H:Hp} {Q:VK} {E:XK} {p:Addr} {q:Rat} {t b:Int} (hp:H p = some (gZ q)) (h0:0 < b) (h1:Jm.Sz 9000 b) (e:q = Jm.fr t b) (h:∀H',aC H H'→Q (.bl true) H'):Gy [.ref p, .int t, .int b] H Q E:=⟨p,q,t,b,rfl,hp,h0,h1,e,h⟩
end L2
namespace L2
open PySem PySem.Spec PyProof.Rows
end L2
namespace L2
open PySem PySem.Spec PyProof.Rows
section
variable {X:Cx}
theorem Gz (hc:X.calm = true):dS X (.builtin "sum") (fun xs H Q=>∃(a:Addr) (ns:List Int),xs = [.ref a]∧aE X.K H a (ns.map V.int)∧Q (.int ns.sum) H):=by
 intro pins s σ H xs us Q I r h
 obtain ⟨a,ns,rfl,hS,q⟩:=h
 obtain ⟨u,rfl,ru⟩:=vals1 r
 cases ru
 obtain ⟨its,rv,p,hz⟩:=I.list hS
 have hi:=intsAre_of rv
 have hl:=p.isList
 obtain ⟨o,ho,_⟩:=id hl
 have hne:a ≠ s.heap.objs.size:=Nat.ne_of_lt (Heap.lt_size ho)
 have W:=(Walks.list (prog:=X.prog) (w:=X.w) (A:=X.A.in1) (I.ok.hd hc) s.heap.objs.size a hne its.toArray).toS
 have K_:its.length = ns.length:=by rw [← rv.length,List.length_map]
 refine call_sum_walkAnyS (wpAny_pyIter_list hl ?_)
 refine ⟨s.heap.objs.size,_,_,_,_,_,_,fun i=>ns.getD i 0,rfl,W,⟨⟨_,Heap.get?_push_size _ rfl,rfl,rfl⟩,hl.at fun o e=>Heap.get?_push_of_some _ e⟩,fun b hb=>?_,fun i v hP=>?_,fun s' t' hm=>?_⟩
 · rcases List.mem_cons.mp hb with rfl | hb
   · exact Heap.lt_size (Heap.get?_push_size _ rfl)
   · obtain rfl:=List.mem_singleton.mp hb
     exact Heap.lt_size (Heap.get?_push_of_some _ ho)
 · have EI:its[i]? = some v:=by simpa using hP
   have hil:i < ns.length:=by
    have:=(List.getElem?_eq_some_iff.mp EI).1
    omega
   obtain ⟨u,hu,ru⟩:=rv.get (i:=i) (x:=V.int ns[i]) (by rw [List.getElem?_map,List.getElem?_eq_getElem hil];rfl)
   rw [EI] at hu
   cases hu
   obtain ⟨t,e⟩:=ru
   refine ⟨t,?_⟩
   rw [e]
   show Value.int ns[i] t = Value.int (ns.getD i 0) t
   rw [List.getD_eq_getElem?_getD,List.getElem?_eq_getElem hil]
   rfl
 · obtain ⟨h',g',d',tk',os'⟩:=s'
   have e1:g' = s.gens:=hm.gens
   have e2:d' = s.drawn:=hm.drawn
   have e3:os' = s.os:=hm.os
   subst e1 e2 e3
   have hsz:its.toArray.size = ns.length:=by rw [List.size_toArray,K_]
   rw [hsz,preSum_getD,List.take_of_length_le (Nat.le_refl _)]
   exact ⟨.int ns.sum,H,I.kept (h':=h') (t':=tk') fun b o e=>hm.heap b o (fun hb=>absurd (Heap.lt_size e) ((List.mem_singleton.mp hb) ▸ Nat.lt_irrefl _)) (Heap.get?_push_of_some _ e),⟨t',rfl⟩,q⟩
theorem GA (hc:X.calm = true):dS X (.builtin "all") (fun xs H Q=>∃(a:Addr) (bs:List Bool),xs = [.ref a]∧aE X.K H a (bs.map V.bl)∧Q (.bl (bs.all id)) H):=by
 intro pins s σ H xs us Q I r h
 obtain ⟨a,bs,rfl,hS,q⟩:=h
 obtain ⟨u,rfl,ru⟩:=vals1 r
 cases ru
 obtain ⟨its,rv,p,hz⟩:=I.list hS
 have hl:=p.isList
 obtain ⟨o,ho,_⟩:=id hl
 have hne:a ≠ s.heap.objs.size:=Nat.ne_of_lt (Heap.lt_size ho)
 have K_:its.length = bs.length:=by rw [← rv.length,List.length_map]
 refine call_all_walk (wpAny_pyIter_list hl ?_)
 refine ⟨s.heap.objs.size,_,_,_,_,_,fun i=>bs.getD i false,rfl,Walks.list (prog:=X.prog) (w:=X.w) (A:=X.A.in1) (I.ok.hd hc) s.heap.objs.size a hne its.toArray,⟨⟨_,Heap.get?_push_size _ rfl,rfl,rfl⟩,hl.at fun o e=>Heap.get?_push_of_some _ e⟩,fun i v s' Q' E' hP hQ=>?_,fun h' tk hk=>?_⟩
 · have EI:its[i]? = some v:=by simpa using hP
   have hil:i < bs.length:=by
    have:=(List.getElem?_eq_some_iff.mp EI).1
    omega
   obtain ⟨u,hu,ru⟩:=rv.get (i:=i) (x:=V.bl bs[i]) (by rw [List.getElem?_map,List.getElem?_eq_getElem hil];rfl)
   rw [EI] at hu
   cases hu
   have e:v = Value.bool bs[i] :=ru
   subst e
   refine wpAny_truthy_bool ?_
   have NX:Q' (bs.getD i false) s':=hQ
   rw [List.getD_eq_getElem?_getD,List.getElem?_eq_getElem hil] at NX
   exact NX
 · have hsz:its.toArray.size = bs.length:=by rw [List.size_toArray,K_]
   have e:(List.range its.toArray.size).all (fun i=>bs.getD i false) = bs.all id:=by
    rw [hsz,Bool.eq_iff_iff,List.all_eq_true,List.all_eq_true]
    refine ⟨fun z x hx=>?_,fun z i hi=>?_⟩
    · obtain ⟨i,hi,e⟩:=List.mem_iff_getElem.mp hx
      have:=z i (List.mem_range.mpr hi)
      rw [List.getD_eq_getElem?_getD,List.getElem?_eq_getElem hi] at this
      rw [← e]
      exact this
    · have hi':=List.mem_range.mp hi
      rw [List.getD_eq_getElem?_getD,List.getElem?_eq_getElem hi']
      exact z _ (List.getElem_mem hi')
   rw [e]
   exact ⟨.bl (bs.all id),H,I.kept (h':=h') (t':=tk) fun b o e=>hk b o (fun hb=>absurd (Heap.lt_size e) ((List.mem_singleton.mp hb) ▸ Nat.lt_irrefl _)) (Heap.get?_push_of_some _ e),rfl,q⟩
end
section
variable {X:Cx} (K:PySem.W.Frag)
theorem aO (hK:X.K = K:=by rfl):oB X (Gn K):=hK ▸ Er
theorem aT (hK:X.K = K:=by rfl):oB X (Gm K):=hK ▸ BV
theorem e_ {tg l:Expr} {tl:TE} (hl:PE X l tl) (hK:X.K = K:=by rfl):PI X tg l (HQ K tl):=hK ▸ Jc hl
theorem JC (hu:X.A.units + 64 < cLine) (hK:X.K = K:=by rfl):dm X (compareOp .Eq) (KW K):=hK ▸ KY hu
theorem qP (hu:X.A.units + 64 < cLine) (hK:X.K = K:=by rfl):dm X (compareOp .NotEq) (C6 K):=hK ▸ KZ hu
theorem pI (hc:X.calm = true) (hK:X.K = K:=by rfl):dS X (.builtin "sum") (fun xs H Q=>∃(a:Addr) (ns:List Int),xs = [.ref a]∧aE K H a (ns.map V.int)∧Q (.int ns.sum) H):=hK ▸ Gz hc
theorem EJ (hc:X.calm = true) (hK:X.K = K:=by rfl):dS X (.builtin "all") (fun xs H Q=>∃(a:Addr) (bs:List Bool),xs = [.ref a]∧aE K H a (bs.map V.bl)∧Q (.bl (bs.all id)) H):=hK ▸ GA hc
theorem bB (hK:X.K = K:=by rfl):dS X (.builtin "len") (fun xs H Q=>∃p ys,xs = [.ref p]∧(aE K H p ys∨bF K H p ys)∧Q (.int ys.length) H):=hK ▸ yK
theorem jK (hK:X.K = K:=by rfl):dS X (.type "list") (fun xs H Q=>∃p ys,xs = [.ref p]∧(aE K H p ys∨bF K H p ys)∧∀l,H l = none→Q (.ref l) (upd H l (.lst ys))):=hK ▸ yL
theorem bC (hK:X.K = K:=by rfl):dS X (.builtin "isinstance") (fun xs H Q=>∃x n t b,xs = [x, .ty n]∧c_ K H x t∧PySem.W.kitOne K t (.type n) = some b∧Q (.bl b) H):=hK ▸ AZ
end
end L2
namespace L2
end L2
namespace L2
open PySem PySem.Spec PyProof.Rows
theorem A0 {n l1 l2:Nat} (h1:l1 < n) (h2:l2 < n):ZipApart (n + 4) (n + 2) (n + 3) n (n + 1) l1 l2:=by
 have nn:∀i j:Nat,i ≠ j→n + i ≠ n + j:=fun i j h e=>h (Nat.add_left_cancel e)
 have ne:∀(c k:Nat),c < n→c ≠ n + k:=fun c k h=>by omega
 exact ⟨nn 2 4 (by decide),nn 3 4 (by decide),nn 0 4 (by decide),nn 1 4 (by decide),nn 2 3 (by decide),nn 2 0 (by decide),nn 2 1 (by decide),nn 3 0 (by decide),nn 3 1 (by decide),nn 0 1 (by decide),ne _ 4 h1,ne _ 3 h1,ne _ 0 h1,ne _ 1 h1,ne _ 4 h2,ne _ 3 h2,ne _ 0 h2,ne _ 1 h2⟩
section
variable {X:Cx} {elts:List Expr} {kk:Nat} {tpos:Pos}
end
end L2
namespace L2
open PySem PySem.Spec PyProof.Rows
theorem qQ (K:PySem.W.Frag) {X:Cx} {es:List Expr} {k:Nat} {t:tZ} {n:Nat} {pos:Pos} (hc:X.calm = true) (h:D8 X es t) (hK:X.K = K:=by rfl)
  (hn:(assignEach es X.env).length = n:=by rfl) (hst:(assignEach es X.env).findIdx? (·.1) = none:=by rfl):PG X (.Tuple es k pos) (CN K n t):=hK ▸ Kl hc h hn hst
end L2
namespace L2
open PySem PySem.Spec PyProof.Rows
structure yY (K:PySem.W.Frag) (vs:List V) (H:Hp) (Q:VK) (E:XK):Prop where
 ex:∃(a:Addr) (ns:List Int) (k j:Int),vs = [.ref a, .int k, .int j]∧aE K H a (ns.map V.int)∧ns.length≤63∧0≤k∧0≤j∧j < 2 ^ 61∧∀(m:Int) (H':Hp),1≤m→m≤1000000000→aC H H'→Q (.int m) H'
theorem GB {K:PySem.W.Frag} {H:Hp} {Q:VK} {E:XK} {a:Addr} {ns:List Int} {k j:Int} (hS:aE K H a (ns.map V.int)) (h63:ns.length≤63) (h1:0≤k) (h2:0≤j) (h3:j < 2 ^ 61)
  (h:∀(m:Int) (H':Hp),1≤m→m≤1000000000→aC H H'→Q (.int m) H'):yY K [.ref a, .int k, .int j] H Q E:=⟨a,ns,k,j,rfl,hS,h63,h1,h2,h3,h⟩
theorem dY {xs:List V} {i:Nat} {v:V} (h:xs[i]? = some v):gj xs (i:Int) = some v:=a_ h
end L2
namespace L2
open PySem PySem.Spec PyProof.Rows
end L2
namespace L2
open PySem PySem.Spec PyProof.Rows
section
variable {X:Cx}
end
end L2
namespace L2
open PySem PySem.Spec PyProof.Rows
end L2
namespace L2
open PySem PySem.Spec PyProof.Rows
end L2
namespace L2
open PySem PySem.Spec PyProof.Rows
end L2
namespace L2
open PySem PySem.Spec PyProof.Rows
end L2
namespace L2
open PySem PySem.Spec PyProof.Rows
end L2
namespace L2
open PySem PySem.Spec PyProof.Rows
end L2
namespace L2
open PySem PySem.Spec PyProof.Rows
theorem B0 {n k:Nat} (h:k < n):rJ n (k:Int) = some k:=by
 unfold rJ
 rw [if_pos (by omega),if_pos (by omega)]
 rfl
end L2
namespace L2
open PySem PySem.Spec PyProof.Rows
abbrev tx (cs:List Nat):Str:=⟨cs.toArray⟩
theorem m8 (x:Str):tx x.cps.toList = x:=by cases x;rfl
theorem dD (cs:List Nat):(tx cs).length = cs.length:=by show cs.toArray.size = _;rw [List.size_toArray]
theorem EK (a b:List Nat):(tx a ++ tx b:Str) = tx (a ++ b):=by
 show (⟨a.toArray ++ b.toArray⟩:Str) = _
 simp [tx]
def yZ (cs:List Nat):It:=⟨fun i _=>i < cs.length,fun i H v H'=>H' = H∧∃c,cs[i]? = some c∧v = .str (tx [c]),fun i _=>cs.length≤i⟩
theorem C8 {P:Program} {w:World} {K:PySem.W.Frag} {tg:Expr} (x:Str) (t:Tok) (it:Addr):Turn P w K tg (yZ x.cps.toList) [it] it (fun i h=>h.IsStrIter it "str_ascii_iterator" x t i) where
 mem:=by simp
 obj:=fun i h st b hb=>by
  have e:b = it:=by simpa using hb
  subst e
  obtain ⟨o,e,c,d⟩:=st
  exact ⟨o,e,fun v z=>by rw [d] at z;cases z⟩
 keep:=fun i h h' st k=>let ⟨o,ho,r⟩:=st;⟨o,k it (by simp) o ho,r⟩
 item:=by
  intro X hP hw hK hc i pins s σ H E I hf st hg
  subst hP hw hK
  have hi:i < x.cps.size:=by have hg':i < x.cps.toList.length:=hg;simpa using hg'
  obtain ⟨f0,f1,f2,f3,f4,f5⟩:=hf it (by simp)
  refine wpAny_pyNext_ascii_item st (c:=x.cps[i]) (by simp [hi]) fun h' st' sb=>?_
  have I1:Inv X pins σ H { s with heap:=h',toks:=s.toks + 1 }:=I.turned (t':=s.toks + 1) (fun b o hb e=>sb.extBut b o hb e) f0 f1 f3 f4 f5
  obtain ⟨o,e,c,d⟩:=id st'
  exact ⟨_,rfl,t7 (s:={ s with heap:=h',toks:=s.toks + 1 }) e c d (by decide) ⟨.str (tx [x.cps[i]]),H,I1,⟨_,rfl⟩,⟨rfl,x.cps[i],by simp [hi],rfl⟩,st',fun b hb=>(hf b hb).1⟩⟩
 done:=by
  intro X hP hw hK hc i pins s σ H E I hf st hg
  subst hP hw hK
  have hi:x.cps.size≤i:=by have hg':x.cps.toList.length≤i:=hg;simpa using hg'
  obtain ⟨f0,f1,f2,f3,f4,f5⟩:=hf it (by simp)
  exact wpAny_pyNext_ascii_end (I.ok.hd hc) st (by simp;omega) fun h' eb=>⟨rfl,I.turned (t':=s.toks) (fun b o hb e=>eb b o hb e) f0 f1 f3 f4 f5⟩
 self:=fun _ _ _ _ _ st h=>wpAny_pyIter_striter_ascii st h
theorem EL {P:Program} {w:World} {K:PySem.W.Frag} {tg:Expr} (x:Str) (t:Tok) (it:Addr):Turn P w K tg (yZ x.cps.toList) [it] it (fun i h=>h.IsStrIter it "str_iterator" x t i) where
 mem:=by simp
 obj:=fun i h st b hb=>by
  have e:b = it:=by simpa using hb
  subst e
  obtain ⟨o,e,c,d⟩:=st
  exact ⟨o,e,fun v z=>by rw [d] at z;cases z⟩
 keep:=fun i h h' st k=>let ⟨o,ho,r⟩:=st;⟨o,k it (by simp) o ho,r⟩
 item:=by
  intro X hP hw hK hc i pins s σ H E I hf st hg
  subst hP hw hK
  have hi:i < x.cps.size:=by have hg':i < x.cps.toList.length:=hg;simpa using hg'
  obtain ⟨f0,f1,f2,f3,f4,f5⟩:=hf it (by simp)
  refine wpAny_pyNext_wide_item st (c:=x.cps[i]) (by simp [hi]) fun h' st' sb=>?_
  have I1:Inv X pins σ H { s with heap:=h',toks:=s.toks + 1 }:=I.turned (t':=s.toks + 1) (fun b o hb e=>sb.extBut b o hb e) f0 f1 f3 f4 f5
  obtain ⟨o,e,c,d⟩:=id st'
  exact ⟨_,rfl,t7 (s:={ s with heap:=h',toks:=s.toks + 1 }) e c d (by decide) ⟨.str (tx [x.cps[i]]),H,I1,⟨_,rfl⟩,⟨rfl,x.cps[i],by simp [hi],rfl⟩,st',fun b hb=>(hf b hb).1⟩⟩
 done:=by
  intro X hP hw hK hc i pins s σ H E I hf st hg
  subst hP hw hK
  have hi:x.cps.size≤i:=by have hg':x.cps.toList.length≤i:=hg;simpa using hg'
  obtain ⟨f0,f1,f2,f3,f4,f5⟩:=hf it (by simp)
  exact wpAny_pyNext_wide_end (I.ok.hd hc) st (by simp;omega) fun h' eb=>⟨rfl,I.turned (t':=s.toks) (fun b o hb e=>eb b o hb e) f0 f1 f3 f4 f5⟩
 self:=fun _ _ _ _ _ st h=>wpAny_pyIter_striter_wide st h
section
variable {X:Cx} {tg:Expr}
def P0 (te:TE):TI:=fun σ H R=>te σ H fun x H1=>∃cs:List Nat,x = .str (tx cs)∧R (yZ cs) H1
theorem EM {l:Expr} {tl:TE} (hl:PE X l tl):PI X tg l (P0 tl):=by
 intro pins s σ H R I h
 refine aL (hl pins s σ H _ I h) fun v s1 ⟨x,H1,I1,r1,q1⟩=>?_
 obtain ⟨cs,e,q⟩:=q1
 subst e
 obtain ⟨t,rfl⟩:=r1
 have fp:∀b∈[s1.heap.objs.size],gU X pins H1 b:=fun b hb=>by
  have e:b = s1.heap.objs.size:=by simpa using hb
  subst e
  exact I1.yC (Nat.le_refl _) (I1.hok.fresh (Nat.le_refl _))
 have tw:=@EL X.prog X.w X.K tg (tx cs) t s1.heap.objs.size
 have ta:=@C8 X.prog X.w X.K tg (tx cs) t s1.heap.objs.size
 cases ha:(tx cs).cps.all (· < 128)
 · exact wpAny_pyIter_wide ha ⟨s1.heap.objs.size,[s1.heap.objs.size],_,_,H1,rfl,I1.kept (t':=s1.toks) fun b o e=>Heap.get?_push_of_some _ e,tw,⟨_,Heap.get?_push_size _ rfl,rfl,rfl⟩,fp,q⟩
 · exact wpAny_pyIter_ascii ha ⟨s1.heap.objs.size,[s1.heap.objs.size],_,_,H1,rfl,I1.kept (t':=s1.toks) fun b o e=>Heap.get?_push_of_some _ e,ta,⟨_,Heap.get?_push_size _ rfl,rfl,rfl⟩,fp,q⟩
theorem JD {cs:List Nat} {g:TG} {tb:TS} {D:Ends} {σ:St} {H:Hp} (Pv:Nat→St→Hp→Prop) (h0:Pv 0 σ H)
  (hs:∀i c σ H,cs[i]? = some c→Pv i σ H→g (.str (tx [c])) σ H fun σ2 H2=>tb { D with nx:=Pv (i + 1),ct:=Pv (i + 1),bk:=D.nx } σ2 H2) (hd:∀σ H,Pv cs.length σ H→D.nx σ H):
  ∃W:Nat→Nat→St→Hp→Prop,(∃m,W 0 m σ H)∧∀i m σ H,W i m σ H→
   ((yZ cs).stop i H∧D.nx σ H)∨((yZ cs).go i H∧∃N:St→Hp→Prop,(∀σ' H',N σ' H'→∃m',m' < m∧W (i + 1) m' σ' H')∧∀x H',(yZ cs).mU i H x H'→g x σ H' fun σ2 H2=>tb { D with nx:=N,ct:=N,bk:=D.nx } σ2 H2):=by
 refine ⟨fun i m σ H=>m = cs.length - i∧i≤cs.length∧Pv i σ H,⟨cs.length,by simp,Nat.zero_le _,h0⟩,?_⟩
 rintro i m σ H ⟨rfl,hi,p⟩
 by_cases hlt:i < cs.length
 · refine .inr ⟨hlt,fun σ' H'=>Pv (i + 1) σ' H',fun σ' H' q=>⟨cs.length - (i + 1),by omega,rfl,hlt,q⟩,?_⟩
   rintro x H' ⟨rfl,c,hc,rfl⟩
   exact hs i c σ _ hc p
 · have e:i = cs.length:=by omega
   subst e
   exact .inl ⟨Nat.le_refl _,hd σ H p⟩
theorem GC {cs:List Nat} {k:Nat} {te:TE} {σ2:St} {H:Hp} {acc:Addr} {Q:VK} (Pv:Nat→List V→Hp→Prop) (hn:cs.length≤100000) (h0:Pv 0 [] (upd H acc (.lst [])))
  (hs:∀(i:Nat) (c:Nat) (out:List V) (H1:Hp),cs[i]? = some c→out.length = i→H1 acc = some (.lst out)→Pv i out H1→te (σ2.set k (some (.str (tx [c])))) H1 fun v H4=>H4 acc = some (.lst out)∧Pv (i + 1) (out ++ [v]) (upd H4 acc (.lst (out ++ [v]))))
  (hd:∀(out:List V) (H1:Hp),out.length = cs.length→H1 acc = some (.lst out)→Pv cs.length out H1→Q (.ref acc) H1):
  qN (yZ cs) (dI k) te acc σ2 H Q:=by
 refine ⟨fun i m σ' H'=>m = cs.length - i∧i≤cs.length∧(∀v,σ'.set k (some v) = σ2.set k (some v))∧∃out,out.length = i∧H' acc = some (.lst out)∧Pv i out H',⟨cs.length,by simp,Nat.zero_le _,fun _=>rfl,[],rfl,ai,h0⟩,?_⟩
 rintro i m σ' H' ⟨rfl,hi,hσ,out,ho,ha,p⟩
 by_cases hlt:i < cs.length
 · refine .inr ⟨hlt,fun σ3=>∀v,σ3.set k (some v) = σ2.set k (some v),fun v H4=>H4 acc = some (.lst out)∧Pv (i + 1) (out ++ [v]) (upd H4 acc (.lst (out ++ [v]))),fun σ3 v H4 hS ⟨a,b⟩=>?_,fun x H1 y=>?_⟩
   · refine ⟨out,a,?_,cs.length - (i + 1),by omega,rfl,hlt,hS,out ++ [v],by rw [List.length_append,ho];rfl,ai,b⟩
     have:sizeLine = 16777216:=sizeLine_eq
     omega
   · obtain ⟨e,c,hc,ex⟩:=y
     subst e ex
     refine ⟨fun v=>by rw [List.set_set];exact hσ v,?_⟩
     have q2:=hs i c out _ hc ho ha p
     rw [← hσ] at q2
     exact q2
 · have e:i = cs.length:=by omega
   subst e
   exact .inl ⟨Nat.le_refl _,hd out H' ho ha p⟩
def mE (cs:List Nat) (lo hi:Option Int):List Nat:=(cs.drop (HT.bO cs.length 0 lo)).take (HT.bO cs.length cs.length hi - HT.bO cs.length 0 lo)
theorem rM (cs:List Nat) (lo hi:Option Int):(mE cs lo hi).length≤cs.length:=by
 unfold mE
 rw [List.length_take,List.length_drop]
 omega
theorem C9 (cs:List Nat) (lo hi:Option Int):Builtin.Str.strSliceIndices lo hi 1 cs.length = (List.range (HT.bO cs.length cs.length hi - HT.bO cs.length 0 lo)).map (HT.bO cs.length 0 lo + ·):=by
 rw [← sliceRange_one]
 unfold Builtin.Str.strSliceIndices
 simp only [show ((1:Int) > 0) = True from by simp,if_true]
 congr 1
 · cases lo with
   | none=>rfl
   | some i=>
     simp only [HT.bO]
     by_cases h:i < 0
     · simp only [h,if_true] <;> omega
     · simp only [h,if_false] <;> omega
 · cases hi with
   | none=>rfl
   | some i=>
     simp only [HT.bO]
     by_cases h:i < 0
     · simp only [h,if_true] <;> omega
     · simp only [h,if_false] <;> omega
def P_:V→Option Int→Option Int→Hp→VK→Prop:=fun x lo hi H Q=>∃cs,x = .str (tx cs)∧cs.length≤sizeLine∧Q (.str (tx (mE cs lo hi))) H
theorem La:Ep X P_:=by
 intro pins s σ H x v vl vu lo hi sl Q I rx hs pl pu h
 obtain ⟨cs,rfl,hz,q⟩:=h
 obtain ⟨t,rfl⟩:=rx
 refine ⟨"str",_,F.slot_str_getitem.lookup,typeIs_str s _ t,?_⟩
 obtain ⟨l,rfl,el⟩:∃l:Option (Int × Tok),vl = partValue l∧l.map (·.1) = lo:=by
  cases pl with
  | none=>exact ⟨none,rfl,rfl⟩
  | int i t=>exact ⟨some (i,t),rfl,rfl⟩
 obtain ⟨u,rfl,eu⟩:∃u:Option (Int × Tok),vu = partValue u∧u.map (·.1) = hi:=by
  cases pu with
  | none=>exact ⟨none,rfl,rfl⟩
  | int i t=>exact ⟨some (i,t),rfl,rfl⟩
 refine wpAny_getItem_str_slice (l:=l) (u:=u) (st:=none) hs rfl ?_
 have e1:slicePicked (tx cs) l u none = (List.range (HT.bO cs.length cs.length hi - HT.bO cs.length 0 lo)).map (HT.bO cs.length 0 lo + ·):=by
  unfold slicePicked
  rw [el,eu,dD]
  exact C9 cs lo hi
 have e2:(slicePicked (tx cs) l u none).filterMap ((tx cs).cps[·]?) = mE cs lo hi:=by
  rw [e1,pick_run]
  rfl
 unfold sliceMade
 split
 · rename_i hc
   have hl:(slicePicked (tx cs) l u none).length = cs.length:=by
    have:=(Bool.and_eq_true_iff.mp hc).2
    rw [dD] at this
    simpa using this
   have Qa:mE cs lo hi = cs:=by
    rw [e1,List.length_map,List.length_range] at hl
    unfold mE
    have h1:=HT.Eo cs.length cs.length (Nat.le_refl _) hi
    have h0:HT.bO cs.length 0 lo = 0∨cs.length = 0:=by omega
    rcases h0 with h0 | h0
    · rw [h0] at hl ⊢
      rw [List.drop_zero,hl,List.take_length]
    · have:cs = [] :=List.length_eq_zero_iff.mp h0
      subst this
      simp
   rw [Qa] at q
   exact ⟨.str (tx cs),H,I,⟨t,rfl⟩,q⟩
 · show (Made.str ⟨_⟩).post _ _
   rw [e2]
   refine ⟨?_, .str (tx (mE cs lo hi)),H,I.tok _,⟨_,rfl⟩,q⟩
   show (tx (mE cs lo hi)).length≤sizeLine
   rw [dD]
   exact Nat.le_trans (rM cs lo hi) hz
end
theorem JE (cs:List Nat) (k:Nat):mE cs none (some (k:Int)) = cs.take k:=by
 unfold mE
 rw [HT.sV,HT.mX,List.drop_zero,Nat.sub_zero]
 rcases Nat.le_total k cs.length with h | h
 · rw [Nat.min_eq_left h]
 · rw [Nat.min_eq_right h,List.take_length,List.take_of_length_le h]
def jw (signs:Str) (c:Nat):Bool:=!(Builtin.Str.occurrences signs (tx [c]) 0 signs.length 1).isEmpty
def fM (c:Int) (n:Nat):List Nat:=(List.range n).map fun i=>97 + ((c / 26 ^ i) % 26).toNat
theorem nO (c:Int) (n:Nat):(fM c n).length = n:=by unfold fM;rw [List.length_map,List.length_range]
theorem GD (c:Int) (n:Nat):fM c (n + 1) = fM c n ++ [97 + ((c / 26 ^ n) % 26).toNat] :=by
 unfold fM
 rw [List.range_succ,List.map_append]
 rfl
theorem EN {k:Int} (h0:0≤k) (h1:k < 26):gj (("abcdefghijklmnopqrstuvwxyz":Str).cps.toList) k = some (97 + k.toNat):=by
 have h:∀n:Nat,n < 26→("abcdefghijklmnopqrstuvwxyz":Str).cps.toList[n]? = some (97 + n):=by decide +kernel
 have e:k = ((k.toNat:Nat):Int):=by omega
 have:=a_ (h k.toNat (by omega))
 rw [← e] at this
 exact this
structure vE (vs:List V) (H:Hp) (Q:VK) (E:XK):Prop where
 ex:∃(c:Int) (n:Nat),vs = [.int c, .int (n:Int)]∧0≤c∧n≤1000∧Q (.str (tx (fM c n))) H
theorem y9 {H:Hp} {Q:VK} {E:XK} {c ni:Int} {n:Nat} (e:ni = (n:Int)) (hc:0≤c) (hn:n≤1000) (q:Q (.str (tx (fM c n))) H):vE [.int c, .int ni] H Q E:=by
 subst e
 exact ⟨c,n,rfl,hc,hn,q⟩
structure sX (vs:List V) (H:Hp) (Q:VK) (E:XK):Prop where
 ex:∃(cs:List Nat) (signs:Str),vs = [.str (tx cs), .str signs]∧cs.length≤100000∧∀H',aC H H'→Q (.bl (cs.all (jw signs))) H'
theorem C_ {H:Hp} {Q:VK} {E:XK} {cs:List Nat} {signs:Str} (hl:cs.length≤100000) (q:∀H',aC H H'→Q (.bl (cs.all (jw signs))) H'):sX [.str (tx cs), .str signs] H Q E:=⟨cs,signs,rfl,hl,q⟩
def isName (cs:List Nat):Bool:=decide (1≤(cs.length:Int)) && decide ((cs.length:Int)≤8) && cs.all (jw "abcdefghijklmnopqrstuvwxyz")
structure nP (vs:List V) (H:Hp) (Q:VK) (E:XK):Prop where
 ex:∃(cs:List Nat),vs = [.str (tx cs)]∧cs.length≤100000∧∀H',aC H H'→Q (.bl (isName cs)) H'
theorem uz {H:Hp} {Q:VK} {E:XK} {cs:List Nat} (hl:cs.length≤100000) (q:∀H',aC H H'→Q (.bl (isName cs)) H'):nP [.str (tx cs)] H Q E:=⟨cs,rfl,hl,q⟩
end L2
namespace L2
open PySem PySem.Spec PyProof.Rows
theorem uA {p q:Prop} (h:if true = true then p else q):p:=by rwa [if_pos rfl] at h
theorem uB {p q:Prop} (h:if false = true then p else q):q:=by rwa [if_neg Bool.false_ne_true] at h
section
variable {prog:Program} {w:World} {A:Around} {R:Result→Shared→Prop} {s:Shared}
theorem xJ {elt target iter cond:Expr} {scope:Scope} {pos:Pos} {it acc:Value} {env:Env} (J:Nat→Shared→Prop)
  (turn:∀n s,J n s→wpAny (model prog w) A (pyNext it) (fun r s₁=>match r with
    | none=>R (.ok .next) s₁
    | some v=>wpAny (model prog w) A (letOwnedTupleGo target it v) (fun _ s₂=>wpAny (model prog w) A (assign target env v) (fun _ s₃=>wpAny (model prog w) A (isTrue cond env (eval cond env)) (fun ok Lb=>if ok = true then
       wpAny (model prog w) A (eval elt env) (fun x s₄=>wpAny (model prog w) A (call (.builtin "list.append") [acc,x]) (fun _ s₅=>∃m,m < n∧J m s₅) (fun _ _=>False) s₄) (fun _ _=>False) Lb
       else ∃m,m < n∧J m Lb) (fun _ _=>False) s₃) (fun _ _=>False) s₂) (fun _ _=>False) s₁) (fun _ _=>False) s)
  (n:Nat) (h:J n s):codeAny (model prog w) A (.compLoop (.ListComp elt [⟨target,iter,[cond],0⟩] scope pos) 0 it acc env) R s:=by
 refine codeAny_loop rfl J (fun n s hI=>?_) n h
 show wpAny _ A ((compTurn (.ListComp elt [⟨target,iter,[cond],0⟩] scope pos) 0 it acc env).onRaise (fun x=>do noteFrame x env;theTreesLotGoes x)) _ _ s
 refine wpAny_noted ?_
 rw [compTurn_list]
 refine wpAny_bind (wpAny_standAt (wpAny_bind (wpAny_mono (turn n s hI) (fun r s₁ h₁=>?_) fun _ _ h'=>h'.elim)))
 cases r with
 | none=>exact wpAny_pure h₁
 | some v=>
   refine wpAny_bind (wpAny_mono h₁ (fun _ s₂ h₂=>wpAny_bind (wpAny_mono h₂ (fun _ s₃ h₃=>?_) fun _ _ h'=>h'.elim)) fun _ _ h'=>h'.elim)
   refine wpAny_bind (wpAny_tests_one (wpAny_mono h₃ (fun ok Lb NY=>?_) fun _ _ h'=>h'.elim))
   cases ok with
   | false=>exact wpAny_pure ⟨rfl,uB NY⟩
   | true=>exact wpAny_bind (wpAny_bind (wpAny_mono (uA NY) (fun x s₄ h₄=>wpAny_bind (wpAny_mono h₄ (fun _ s₅ h₅=>wpAny_pure (wpAny_pure ⟨rfl,h₅⟩)) fun _ _ h'=>h'.elim)) fun _ _ h'=>h'.elim))
end
section
variable {X:Cx}
def uC (J:It) (g:TG) (tc:TT) (te:TE) (acc:Addr) (σ₀:St) (H:Hp) (Q:VK):Prop:=∃W:Nat→Nat→St→Hp→Prop,
 (∃m,W 0 m σ₀ (upd H acc (.lst [])))∧∀i m σ2 H2,W i m σ2 H2→
   (J.stop i H2∧Q (.ref acc) H2)∨(J.go i H2∧∃(S:St→Prop) (N:V→Hp→Prop) (N0:Hp→Prop),(∀σ3 v H4,S σ3→N v H4→∃xs,H4 acc = some (.lst xs)∧xs.length < sizeLine∧∃m',m' < m∧W (i + 1) m' σ3 (upd H4 acc (.lst (xs ++ [v]))))∧
     (∀σ3 H4,S σ3→N0 H4→∃m',m' < m∧W (i + 1) m' σ3 H4)∧∀x H',J.mU i H2 x H'→g x σ2 H' fun σ3 H3=>S σ3∧tc σ3 H3 fun b H4=>if b = true then te σ3 H4 N else N0 H4)
def EO (wi:TI) (ix:List (Option Nat)) (g:TG) (tc:TT) (te:TE):TE:=fun σ H Q=>wi σ H fun J H1=>∀acc,H1 acc = none→uC J g tc te acc (ix.map fun o=>o.bind fun j=>(σ[j]?).join) H1 Q
theorem rN {tg iter elt cond:Expr} {scope:Scope} {pos:Pos} {N2:List Str} {ix:List (Option Nat)} {g:TG} {tc:TT} {te:TE} {cl:List (Str × Addr)} {pins:List (Addr × Obj)} {σ:St} {H:Hp} {s:Shared} {E:Value→Shared→Prop} {Q:VK}
  {RR:Value→Addr→Result→Shared→Prop} (hc:X.calm = true) (hg:∀cl s₂ H₂ fp,PG (bS X N2 scope cl s₂ H₂ fp) tg g) (he:∀cl s₂ H₂ fp,PE (bS X N2 scope cl s₂ H₂ fp) elt te)
  (ht:∀cl s₂ H₂ fp,PT (bS X N2 scope cl s₂ H₂ fp) cond tc) (hk:scope.kind = .function) (hn:jv X.N X.env.scope.names scope.names N2 ix = true)
  (yV:∀y c,(y,c)∈cl→X.env.cells.lookup y = some c) (vD:∀y,(y,NameKind.free)∈scope.names→∃c,(y,c)∈cl)
  {it:Addr} {fp:List Addr} {tn:Nat→Heap→Prop} {J:It} (I:Inv X pins σ H s) (T:Turn X.prog X.w X.K tg J fp it tn) (st:tn 0 s.heap) (f:∀b∈fp,gU X pins H b)
  (h:∀acc,H acc = none→uC J g tc te acc (ix.map fun o=>o.bind fun j=>(σ[j]?).join) H Q)
  (hR:∀acc C H' s' m,Inv X pins σ H' s'→s'.heap.Ns C m→H' C = none→C ≠ X.env.locals→X.s₀.heap.objs.size≤C→(∀x c,X.env.cells.lookup x = some c→c ≠ C)→(∀p∈X.pn ++ pins,p.1 ≠ C)→Q (.ref acc) H'→RR (.ref acc) C (.ok .next) s'):
  wpAny (model X.prog X.w) X.A (newList []) (fun acc s₃=>wpAny (model X.prog X.w) X.A (newFunctionEnv scope X.env.globals cl [] X.env.qual none .none (some X.env)) (fun cenv s₄=>
   codeAny (model X.prog X.w) X.A (.compStart (.ListComp elt [⟨tg,iter,[cond],0⟩] scope pos) 0 (.ref it) acc { cenv with scope:=relabel scope X.env }) (RR acc cenv.locals) s₄) E s₃) E s:=by
 obtain ⟨k1,k2,k3,k4,k5⟩:=gf hn
 refine wpAny_newObj_type ?_
 have I3:Inv X pins σ (upd H s.heap.objs.size (.lst [])) { s with heap:=s.heap.push { cls:= .type "list",data:= .seq ([] :List Value).toArray } }:=
  I.laid (a:=s.heap.objs.size) (o:= .lst []) (t':=s.toks) (fun _ _ q=>Heap.get?_push_of_some _ q) (Nat.le_refl _) ⟨Nat.zero_le _,[],_, .nil,Heap.get?_push_size _ rfl⟩
 obtain ⟨W,⟨m0,w0⟩,turn⟩:=h s.heap.objs.size I.fresh
 have fo:∀b∈fp,b < s.heap.objs.size:=fun b hb=>by
  obtain ⟨o,e,_⟩:=T.obj 0 _ st b hb
  exact Heap.lt_size e
 have st3:tn 0 (s.heap.push { cls:= .type "list",data:= .seq ([] :List Value).toArray }):=T.keep _ _ _ st fun b _ o e=>Heap.get?_push_of_some _ e
 have f3:∀b∈fp,gU X pins (upd H s.heap.objs.size (.lst [])) b:=fun b hb=>⟨by rw [ak (Nat.ne_of_lt (fo b hb))];exact (f b hb).1,(f b hb).2⟩
 have EF:∀b∈fp,b < (s.heap.push { cls:= .type "list",data:= .seq ([] :List Value).toArray }).objs.size:=fun b hb=>by rw [Heap.size_push];exact Nat.lt_succ_of_lt (fo b hb)
 generalize K2:({ s with heap:=s.heap.push { cls:= .type "list",data:= .seq ([] :List Value).toArray } }:Shared) = s3 at *
 have K3:s3.heap = s.heap.push { cls:= .type "list",data:= .seq ([] :List Value).toArray }:=by rw [← K2]
 rw [← K3] at st3 EF
 generalize s.heap.objs.size = acc at *
 generalize QU:upd H acc (.lst []) = H3 at *
 have IY:=uw (N2:=N2) (scope:=scope) (cl:=cl) (fp:=fp) (σ2:=ix.map fun o=>o.bind fun j=>(σ[j]?).join) I3 hk yV vD f3 EF (by rw [List.length_map];exact k1) (fun i x v e1 e2=>by
  rw [List.getElem?_map] at e2
  cases ei:ix[i]? with
  | none=>rw [ei] at e2;cases e2
  | some o=>
    rw [ei] at e2
    cases o with
    | none=>cases e2
    | some j=>
      obtain ⟨a1,a2,a3⟩:=k2 i x j e1 ei
      refine ⟨a2,a3,j,a1,?_⟩
      have e3:(σ[j]?).join = some v:=Option.some.inj e2
      cases ej:σ[j]? with
      | none=>rw [ej] at e3;cases e3
      | some z=>rw [ej] at e3;exact congrArg some e3) k5
 have ne:wpAny (model X.prog X.w) X.A (newFunctionEnv scope X.env.globals cl [] X.env.qual none .none (some X.env)) (fun cenv s₄=>
   cenv = { scope:=scope,locals:=s3.heap.objs.size,globals:=X.env.globals,cells:=cellsFrom (s3.heap.objs.size + 1) scope.names cl,qual:=X.env.qual,func:=none,code:=X.env.code,frame:=X.env.frame,builtins:=X.env.builtins }∧
   s₄ = { s3 with heap:=pushCells (s3.heap.push { cls:= .type "dict",data:= .dict #[] }) scope.names }) E s3:=by
  simp only [newFunctionEnv,Option.isSome_some,if_true]
  refine wpAny_bind (wpAny_alloc ?_)
  refine wpAny_bind (wpAny_layCells _ (fun name kind cells=>by cases hkc:kind == NameKind.cell <;> simp [hkc]) _ _ _ _ ?_)
  rw [List.forIn_nil]
  refine wpAny_bind (wpAny_pure (wpAny_pure ⟨?_,rfl⟩))
  rw [show ({ s3 with heap:=s3.heap.push { cls:= .type "dict",data:= .dict #[] } }:Shared).heap.objs.size = s3.heap.objs.size + 1 from Heap.size_push ..]
 refine aL ne fun cenv s4 ⟨e1,e2⟩=>?_
 subst e1 e2
 have EG:tn 0 (pushCells (s3.heap.push { cls:= .type "dict",data:= .dict #[] }) scope.names):=T.keep _ _ _ st3 fun b _ o e=>pushCells_keeps _ _ b o (Heap.get?_push_of_some _ e)
 have pH:s3.heap.objs.size ≠ X.env.locals:=Nat.ne_of_gt I3.lt
 have kr:∀{H':Hp},(∀b∈fp,H' b = none)→∀b∈fp,gU (bS X N2 scope cl s3 H3 fp) [] H' b:=fun {H'} hn b hb=>
  ⟨hn b hb,(IY.ok.yw b hb).1,IY.ok.sO b hb, .inl hb,(IY.ok.yw b hb).2,fun p hp=>nomatch hp⟩
 have loop:codeAny (model X.prog X.w) X.A (.compLoop (.ListComp elt [⟨tg,iter,[cond],0⟩] scope pos) 0 (.ref it) (.ref acc) (bS X N2 scope cl s3 H3 fp).env) (RR (.ref acc) s3.heap.objs.size)
   { s3 with heap:=pushCells (s3.heap.push { cls:= .type "dict",data:= .dict #[] }) scope.names }:=by
  refine xJ (fun n s'=>∃i σ' H',Inv (bS X N2 scope cl s3 H3 fp) [] σ' H' s'∧tn i s'.heap∧(∀b∈fp,H' b = none)∧W i n σ' H') ?_ m0 ⟨0,_,H3,IY,EG,fun b hb=>(f3 b hb).1,w0⟩
  rintro n s5 ⟨i,σ5,H5,I5,t_,yD,w5⟩
  rcases turn i n σ5 H5 w5 with ⟨stop,qn⟩ | ⟨go,S,N,N0,K4,QW,step⟩
  · refine aL (T.done (bS X N2 scope cl s3 H3 fp) rfl rfl rfl hc i [] s5 σ5 H5 (fun _ _=>False) I5 (kr yD) t_ stop) fun r s6 ⟨hr,I6⟩=>?_
    subst hr
    obtain ⟨m6,K5,_⟩:=id I6.loc
    have IX:Inv X pins σ H5 s6:=I3.yg (ch:=fp) I6.os I6.base I6.hok I6.bare fun b hb=>⟨(f3 b hb).2.2.2.1,(f3 b hb).2.1,(f3 b hb).2.2.2.2.1,(f3 b hb).2.2.2.2.2⟩
    refine hR acc s3.heap.objs.size H5 s6 m6 IX K5 I6.free pH I3.sz (fun x c e z=>?_) (fun p hp z=>?_) qn
    · obtain ⟨v,q⟩:=I3.cell x c e
      exact absurd q.lt (by rw [z];exact Nat.lt_irrefl _)
    · exact absurd (Heap.lt_size (I3.pin p hp).1) (by rw [z];exact Nat.lt_irrefl _)
  · refine aL (T.item (bS X N2 scope cl s3 H3 fp) rfl rfl rfl hc i [] s5 σ5 H5 (fun _ _=>False) I5 (kr yD) t_ go) fun r s6 ⟨u,hr,h6⟩=>?_
    subst hr
    refine aL h6 fun _ s7 ⟨x,H7,I7,r7,y7,uy,K6⟩=>?_
    have K7:=I7.pinned (kr K6) (T.obj _ _ uy)
    refine aL (hg cl s3 H3 fp _ s7 σ5 H7 x u _ K7 r7 (step x H7 y7)) fun _ s8 ⟨σ8,H8,I8,wX,q8⟩=>?_
    refine aL (ht cl s3 H3 fp _ s8 σ8 H8 _ I8 q8) fun ok QX ⟨NZ,H_,N1⟩=>?_
    cases ok with
    | false=>
      obtain ⟨m',hm,w9⟩:=QW σ8 NZ wX (uB N1)
      refine ite_ff ⟨m',hm,i + 1,σ8,_,H_.iR,T.keep _ _ _ uy fun b hb o e=>(H_.pin (b,o) (List.mem_append_right _ (List.mem_append_right _ (d8 hb e)))).1,fun b hb=>?_,w9⟩
      obtain ⟨o,e,d⟩:=T.obj _ _ uy b hb
      exact (H_.pin (b,o) (List.mem_append_right _ (List.mem_append_right _ (d8 hb e)))).2.1
    | true=>
      refine ite_tt ?_
      refine aL (he cl s3 H3 fp _ QX σ8 NZ _ H_ (uA N1)) fun y s9 ⟨v,H9,I9,r9,q9⟩=>?_
      obtain ⟨xs,hxs,K8,m',hm,w9⟩:=K4 σ8 v H9 wX q9
      refine aL (eZ _ s9 σ8 H9 (.ref acc) [v] (.ref acc) [y] (fun z wY=>z = .bE∧wY = upd H9 acc (.lst (xs ++ [v]))) I9 rfl (.cons r9 .nil) ⟨acc,xs,v,rfl,rfl,hxs,K8,rfl,rfl⟩) fun z BZ ⟨zv,wY,yW,QV,ez,eH⟩=>?_
      subst eH
      refine ⟨m',hm,i + 1,σ8,_,yW.iR,T.keep _ _ _ uy fun b hb o e=>(yW.pin (b,o) (List.mem_append_right _ (List.mem_append_right _ (d8 hb e)))).1,fun b hb=>?_,w9⟩
      obtain ⟨o,e,d⟩:=T.obj _ _ uy b hb
      exact (yW.pin (b,o) (List.mem_append_right _ (List.mem_append_right _ (d8 hb e)))).2.1
 exact codeAny_compStart_list loop (T.self _ 0 _ _ _ EG loop)
theorem GF {tg iter elt cond:Expr} {scope:Scope} {pos:Pos} (N2:List Str) (ix:List (Option Nat)) {wi:TI} {g:TG} {tc:TT} {te:TE} (hc:X.calm = true) (hi:PI X tg iter wi)
  (hg:∀cl s₂ H₂ fp,PG (bS X N2 scope cl s₂ H₂ fp) tg g) (he:∀cl s₂ H₂ fp,PE (bS X N2 scope cl s₂ H₂ fp) elt te)
  (ht:∀cl s₂ H₂ fp,PT (bS X N2 scope cl s₂ H₂ fp) cond tc) (hk:scope.kind = .function) (hn:jv X.N X.env.scope.names scope.names N2 ix = true) (hs:∀x,foldedSetIterable iter X.env x = pure x:=by intro _;rfl):
  PE X (.ListComp elt [⟨tg,iter,[cond],0⟩] scope pos) (EO wi ix g tc te):=by
 intro pins s σ H Q I h
 obtain ⟨k1,k2,k3,k4,k5⟩:=gf hn
 obtain ⟨cl,yX,c1,c2⟩:=j_ (scope:=scope) (env:=X.env) fun y hy e=>I.ok.has y.1 (k3 y hy e)
 rw [eval_ListComp]
 refine wpAny_comprehension_free (use:=none) rfl hs yX hk k4 (aL (hi pins s σ H _ I h) fun v s1 h1=>aL h1 fun itv s2 h2=>?_)
 obtain ⟨it,fp,tn,J,H2,e,I2,T,st2,f2,h2⟩:=h2
 subst e
 refine rN (RR:=fun acc C=>compPost (model X.prog X.w) X.A X.xe none (EP X pins σ Q) acc C) (Q:=Q) hc hg he ht hk hn (fun y c m=>(c1 y c m).1) c2 I2 T st2 f2 h2 ?_
 intro acc C H' s' m I' ns pH hL hsz h_ nN q
 exact ⟨m,ns,fun h' hs'=>⟨.ref acc,H',I'.turned (it:=C) (t':=s'.toks) (fun b o hb e=>(hs'.2 b hb).trans e) pH hL (.inr hsz) h_ nN,rfl,q⟩⟩
theorem GG {i:Nat} {x:Str} {px pos':Pos} {tg iter elt cond:Expr} {scope:Scope} {pos:Pos} (N2:List Str) (ix:List (Option Nat)) {wi:TI} {g:TG} {tc:TT} {te:TE} (hN:X.N.Nodup) (hi:X.N[i]? = some x) (hx:X.env.scope.names.lookup x = some .local) (hc:X.calm = true) (hit:PI X tg iter wi)
  (hg:∀cl s₂ H₂ fp,PG (bS X N2 scope cl s₂ H₂ fp) tg g) (he:∀cl s₂ H₂ fp,PE (bS X N2 scope cl s₂ H₂ fp) elt te)
  (ht:∀cl s₂ H₂ fp,PT (bS X N2 scope cl s₂ H₂ fp) cond tc) (hk:scope.kind = .function) (hn:jv X.N X.env.scope.names scope.names N2 ix = true) (hw:swapsWith (.ListComp elt [⟨tg,iter,[cond],0⟩] scope pos) (some (.Name x px)) pos'.line X.env = pure true) (hs:∀x,foldedSetIterable iter X.env x = pure x:=by intro _;rfl):
  PS X (.Assign [.Name x px] (.ListComp elt [⟨tg,iter,[cond],0⟩] scope pos) pos') (sQ (EO wi ix g tc te) (dI i)):=by
 intro pins s σ H D I h
 obtain ⟨k1,k2,k3,k4,k5⟩:=gf hn
 obtain ⟨cl,yX,c1,c2⟩:=j_ (scope:=scope) (env:=X.env) fun y hy e=>I.ok.has y.1 (k3 y hy e)
 rw [exec_Assign_Name_used _ _ _ _ hw]
 refine wpAny_bind (wpAny_standAt (wpAny_bind ?_))
 show wpAny _ X.A (do let _ ← comprehension (.ListComp elt [⟨tg,iter,[cond],0⟩] scope pos) scope X.env _ (newList []) false (eval iter X.env) (some (assign (.Name x px) X.env))) _ _ s
 refine wpAny_bind (aL (wpAny_comprehension_free (use:=some (assign (.Name x px) X.env)) (Q:=fun _ s'=>SP X pins D .next s') rfl hs yX hk k4 (aL (hit pins s σ H _ I h) fun v s1 h1=>aL h1 fun itv s2 h2=>?_)) fun _ s' hq=>wpAny_pure (wpAny_pure hq))
 obtain ⟨it,fp,tn,J,H2,e,I2,T,st2,f2,h2⟩:=h2
 subst e
 refine rN (RR:=fun acc C=>compPost (model X.prog X.w) X.A X.xe (some (assign (.Name x px) X.env)) (fun _ s'=>SP X pins D .next s') acc C) (Q:=fun v H'=>D.nx (σ.set i (some v)) H') hc hg he ht hk hn (fun y c m=>(c1 y c m).1) c2 I2 T st2 f2 h2 ?_
 intro acc C H' s' m I' ns pH hL hsz h_ nN q
 show wpAny _ X.A (assign (.Name x px) X.env (.ref acc)) _ _ _
 refine wpAny_assign_Name (o6 I' hN hi (.inl hx) (v:= .ref acc) rfl (fun s3 I3 ⟨a,sb,ha⟩=>?_) (.inr hx))
 have ca:C ≠ a:=by
  rcases ha with z | z
  · rw [z];exact hL
  · exact fun e=>h_ x a z e.symm
 exact ⟨m,ns.sameBut sb ca,fun h' hs'=>⟨_,H',I3.turned (it:=C) (t':=s3.toks) (fun b o hb e=>(hs'.2 b hb).trans e) pH hL (.inr hsz) h_ nN,q⟩⟩
end
end L2
namespace L2
open PySem PySem.Spec PyProof.Rows
theorem y_ {α:Type} [DecidableEq α] :∀{l m:List α},l.Nodup→(∀x∈l,x∈m)→l.length≤m.length
 | [],_,_,_=>Nat.zero_le _
 | x :: r,m,h,hs=>by
   have hn:=List.nodup_cons.mp h
   have hx:=hs x List.mem_cons_self
   have:=y_ (l:=r) (m:=m.erase x) hn.2 fun y hy=>by
    have hne:y ≠ x:=fun e=>hn.1 (e ▸ hy)
    exact (List.mem_erase_of_ne hne).mpr (hs y (List.mem_cons_of_mem _ hy))
   rw [List.length_erase_of_mem hx] at this
   have hp:0 < m.length:=List.length_pos_of_mem hx
   rw [List.length_cons]
   omega
theorem ER (c:Int) {n i:Nat} (h:i < n):(fM c n)[i]? = some (97 + ((c / 26 ^ i) % 26).toNat):=by
 unfold fM
 rw [List.getElem?_map,List.getElem?_range h]
 rfl
theorem JF {c c':Int} {n d:Nat} (h:d < n) (e:fM c n = fM c' n):(c / 26 ^ d) % 26 = (c' / 26 ^ d) % 26:=by
 have h1:=ER c h
 rw [e,ER c' h] at h1
 have h2:=Option.some.inj h1
 have a0:0≤(c / 26 ^ d) % 26:=Int.emod_nonneg _ (by decide)
 have b0:0≤(c' / 26 ^ d) % 26:=Int.emod_nonneg _ (by decide)
 omega
structure ia (x:List Nat):Prop where
 lo:1≤x.length
 hi:x.length≤8
 B3:∀c∈x,97≤c∧c < 123
theorem Lc (c:Int) {n:Nat} (h1:1≤n) (h2:n≤8):ia (fM c n):=by
 refine ⟨by rw [nO];exact h1,by rw [nO];exact h2,fun x hx=>?_⟩
 obtain ⟨i,_,rfl⟩:=List.mem_map.mp hx
 have a0:0≤(c / 26 ^ i) % 26:=Int.emod_nonneg _ (by decide)
 have a1:(c / 26 ^ i) % 26 < 26:=Int.emod_lt_of_pos _ (by decide)
 omega
def jx (nss:List (List Nat)):List V:=nss.map fun x=>V.str (tx x)
theorem GH (nss:List (List Nat)):(jx nss).all jh = true:=by
 unfold jx
 rw [List.all_map,List.all_eq_true]
 exact fun _ _=>rfl
theorem ES {a b:List Nat} (h:tx a = tx b):a = b:=by
 have:a.toArray = b.toArray:=by injection h
 simpa using this
theorem B5 (x:List Nat) (nss:List (List Nat)):yI (.str (tx x)) (jx nss) = decide (x∈nss):=by
 unfold yI jx
 rw [List.any_map,Bool.eq_iff_iff,List.any_eq_true,decide_eq_true_eq]
 constructor
 · rintro ⟨y,hy,e⟩
   have e2:oF (.str (tx y)) (.str (tx x)) = true:=e
   have e3:tx y = tx x:=by
    unfold oF at e2
    simpa using e2
   rw [← ES e3]
   exact hy
 · intro h
   refine ⟨x,h,?_⟩
   show oF (.str (tx x)) (.str (tx x)) = true
   unfold oF
   simp
end L2
namespace L2
open PySem PySem.Spec PyProof.Rows
theorem JG (x:Str):PyData.eqv (.str x) (.str x) = true:=by unfold PyData.eqv;exact beq_self_eq_true x
end L2
namespace L2
open PySem PySem.Spec PyProof.Rows
end L2
namespace L2
open PySem PySem.Spec PyProof.Rows PySem.NumText
section
variable {X:Cx}
end
end L2
namespace L2
open PySem PySem.Spec PyProof.Rows PySem.NumText
section
variable {X:Cx} {tg:Expr}
end
theorem JH (signs:Str) (c:Nat):jw signs c = decide (c∈signs.cps.toList):=PySem.StrLaws.found_one signs c
end L2
namespace L2
open PySem PySem.Spec PyProof.Rows PySem.NumText
end L2
namespace L2
open PySem PySem.Spec PyProof.Rows PySem.NumText
end L2
namespace L2
open PySem PySem.Spec PyProof.Rows PySem.NumText Builtin Builtin.Str
section
variable {X:Cx}
end
end L2
namespace L2
open PySem PySem.Spec PyProof.Rows PySem.NumText
end L2
namespace L2
end L2
namespace L2
open PySem PySem.Spec PyProof.Rows
theorem B7 (c:Int) (j d:Nat):(c + (j:Int) * 26 ^ d) / 26 ^ d = c / 26 ^ d + (j:Int):=by
 have hp:(26:Int) ^ d ≠ 0:=Int.ne_of_gt (Int.pow_pos (by decide))
 rw [Int.add_mul_ediv_right _ _ hp]
theorem ET {nss:List (List Nat)} {c:Int} {n d t:Nat} (h2:d < n) (ht:t≤26) (h:∀j:Nat,j < t→fM (c + (j:Int) * 26 ^ d) n∈nss):t≤nss.length:=by
 have hn:((List.range t).map fun j=>fM (c + ((j:Nat):Int) * 26 ^ d) n).Nodup:=by
  have:(List.range t).Pairwise (fun a b=>a < b):=List.pairwise_lt_range
  refine List.Pairwise.map _ ?_ (List.Pairwise.and_mem.mp this)
  rintro a b ⟨ha,hb,hab⟩ e
  have ha':=List.mem_range.mp ha
  have hb':=List.mem_range.mp hb
  have:=JF h2 e
  rw [B7,B7] at this
  omega
 have:=y_ hn fun x hx=>by
  obtain ⟨j,hj,rfl⟩:=List.mem_map.mp hx
  exact h j (List.mem_range.mp hj)
 rw [List.length_map,List.length_range] at this
 exact this
structure vF (K:PySem.W.Frag) (vs:List V) (H:Hp) (Q:VK) (E:XK):Prop where
 ex:∃(a:Addr) (ms:List Int) (k:Int) (many:Nat),vs = [.ref a, .int k, .int (many:Int)]∧aE K H a (ms.map V.int)∧ms.length≤63∧0≤k∧many≤25∧
  ∀(z:Addr) (nss:List (List Nat)) (H':Hp),aC H H'→H' z = some (.lst (jx nss))→H z = none→nss.length = many→nss.Nodup→(∀x∈nss,ia x)→Q (.ref z) H'
theorem w4 {K:PySem.W.Frag} {H:Hp} {Q:VK} {E:XK} {a:Addr} {ms:List Int} {k mi:Int} {many:Nat} (hmi:mi = (many:Int)) (hS:aE K H a (ms.map V.int)) (h63:ms.length≤63) (h1:0≤k) (h2:many≤25)
  (h:∀(z:Addr) (nss:List (List Nat)) (H':Hp),aC H H'→H' z = some (.lst (jx nss))→H z = none→nss.length = many→nss.Nodup→(∀x∈nss,ia x)→Q (.ref z) H'):vF K [.ref a, .int k, .int mi] H Q E:=by
 subst hmi
 exact ⟨a,ms,k,many,rfl,hS,h63,h1,h2,h⟩
end L2
namespace L2
open PySem PySem.Spec PyProof.Rows
theorem uD {a:List (Key × V)} {b:List (Key × Value)} (r:KV a b):∀{j:Nat} {p:Key × V},a[j]? = some p→∃q,b[j]? = some q∧p.1 = q.1∧RelV p.2 q.2:=by
 induction r with
 | nil=>intro j p z;simp at z
 | cons r1 _ ih=>
   intro j p z
   cases j with
   | zero=>simp at z;subst z;exact ⟨_,rfl,r1⟩
   | succ j=>simp at z;obtain ⟨q,a1,a2⟩:=ih z;exact ⟨q,by simpa using a1,a2⟩
abbrev jy (H:Hp) (d:Addr) (o:Obj) (kvs:List (Key × V)):Prop:=H d = some (.cV o (.dK kvs))
section
variable {X:Cx} {pins:List (Addr × Obj)} {σ σ':St} {H H':Hp} {s s':Shared} {d:Addr} {kvs:List (Key × V)} {o:Obj}
theorem Inv.freeze (I:Inv X pins σ H s) (e:H d = some (.dK kvs)) (ho:s.heap.get? d = some o):Inv X pins σ (upd H d (.cV o (.dK kvs))) s:=by
 have nd:∀{b:Addr},H b = none→b ≠ d:=fun h z=>by rw [z,e] at h;cases h
 have dn:∀{b:Addr},H b = none→upd H d (.cV o (.dK kvs)) b = none:=fun h=>by rw [ak (nd h)];exact h
 have un:∀{b:Addr} {u:HO},H b = some u→(∀k,u ≠ .dK k)→b ≠ d:=fun h k z=>by rw [z,e] at h;cases h;exact k _ rfl
 refine ⟨I.ok,I.os,I.bare,⟨I.base.keep,I.base.slot,fun b ob q n x=>dn (I.base.free b ob q n x),I.base.there,fun b xs q=>?_,fun b ob u q=>?_,fun b ps q=>?_⟩,I.loc,I.cell,dn I.free,fun x c q=>dn (I.eO x c q),fun p hp=>?_,fun b ob q=>?_,I.len⟩
 · have:=I.base.tups b xs q
   rw [ak (un this fun k z=>by cases z)];exact this
 · have:=I.base.gm b ob u q
   rw [ak (un this fun k z=>by cases z)];exact this
 · obtain ⟨more,this⟩:=I.base.gT b ps q
   exact ⟨more,by rw [ak (un this fun k z=>by cases z)];exact this⟩
 · obtain ⟨h1,h2,h3⟩:=I.pin p hp
   exact ⟨h1,dn h2,h3⟩
 · by_cases hb:b = d
   · subst hb
     rw [ai] at q;cases q
     have:=I.hok b _ e
     exact ⟨ho,this⟩
   · rw [ak hb] at q
     refine (I.hok b ob q).stay (fun c u _ z=>z) (fun c z=>?_) fun c xs z=>?_
     · rw [ak (un z fun k z=>by cases z)];exact z
     · rw [ak (un z fun k z=>by cases z)];exact z
theorem Inv.sY (I:Inv X pins σ H s) (e:jy H d o kvs) (h0:∀o u,X.H₀ d ≠ some (.cV o u)):Inv X pins σ (upd H d (.dK kvs)) s:=by
 have nd:∀{b:Addr},H b = none→b ≠ d:=fun h z=>by rw [z] at h;exact absurd (h.symm.trans e) (by simp)
 have dn:∀{b:Addr},H b = none→upd H d (.dK kvs) b = none:=fun h=>by rw [ak (nd h)];exact h
 have un:∀{b:Addr} {u:HO},H b = some u→(∀o k,u ≠ .cV o k)→b ≠ d:=fun h k z=>by rw [z] at h;have:=h.symm.trans e;cases this;exact k _ _ rfl
 refine ⟨I.ok,I.os,I.bare,⟨I.base.keep,I.base.slot,fun b ob q n x=>dn (I.base.free b ob q n x),I.base.there,fun b xs q=>?_,fun b ob u q=>?_,fun b ps q=>?_⟩,I.loc,I.cell,dn I.free,fun x c q=>dn (I.eO x c q),fun p hp=>?_,fun b ob q=>?_,I.len⟩
 · have:=I.base.tups b xs q
   rw [ak (un this fun _ k z=>by cases z)];exact this
 · have:=I.base.gm b ob u q
   rw [ak (fun (z:b = d)=>h0 ob u (by rw [← z];exact q))];exact this
 · obtain ⟨more,this⟩:=I.base.gT b ps q
   exact ⟨more,by rw [ak (un this fun _ k z=>by cases z)];exact this⟩
 · obtain ⟨h1,h2,h3⟩:=I.pin p hp
   exact ⟨h1,dn h2,h3⟩
 · by_cases hb:b = d
   · subst hb
     rw [ai] at q;cases q
     exact (I.hok b _ e).2
   · rw [ak hb] at q
     refine (I.hok b ob q).stay (fun c u _ z=>z) (fun c z=>?_) fun c xs z=>?_
     · rw [ak (un z fun _ k z=>by cases z)];exact z
     · rw [ak (un z fun _ k z=>by cases z)];exact z
theorem Inv.EU (I:Inv X pins σ H s) (e:H d = some (.dK kvs)):∀o u,X.H₀ d ≠ some (.cV o u):=fun o u z=>by
 have:=I.base.gm d o u z
 rw [e] at this;cases this
theorem Inv.nQ (I:Inv X pins σ H s) (e:jy H d o kvs):s.heap.get? d = some o∧kvs.length≤sizeLine∧(d == sysModules) = false∧∃vs ep,KV kvs vs∧s.heap.DictAt (bL X.prog X.w) d vs ep:=by
 obtain ⟨ho,hz,hs,vs,r,dd⟩:=(show bT X.prog X.w H s.heap d (.cV o (.dK kvs)) from I.hok d _ e)
 obtain ⟨ep,da⟩:=dd.dictAt
 exact ⟨ho,hz,hs,vs,ep,r,da⟩
end
def Ends.sY (D:Ends) (d:Addr) (o:Obj) (kvs:List (Key × V)):Ends where
 nx:=fun σ H=>jy H d o kvs∧D.nx σ (upd H d (.dK kvs))
 rt:=fun v H=>jy H d o kvs∧D.rt v (upd H d (.dK kvs))
 bk:=fun σ H=>jy H d o kvs∧D.bk σ (upd H d (.dK kvs))
 ct:=fun σ H=>jy H d o kvs∧D.ct σ (upd H d (.dK kvs))
def Qc (t:TS):TS:=fun D σ H=>∃d kvs,H d = some (.dK kvs)∧∀o,t (D.sY d o kvs) σ (upd H d (.cV o (.dK kvs)))
theorem Ld {X:Cx} {st:Stmt} {t:TS} (h:PS X st t):PS X st (Qc t):=by
 intro pins s σ H D I hw
 obtain ⟨d,kvs,e,hw⟩:=hw
 obtain ⟨ho,es,ep,h1,_⟩:=(yk I.hok e).2.2.choose_spec.2
 have h0:=I.EU e
 refine aL (h pins s σ _ _ (I.freeze e h1) (hw ho)) fun f s' q=>?_
 cases f with
 | next=>obtain ⟨σ',H',I',q1,q2⟩:=q;exact ⟨σ',_,I'.sY q1 h0,q2⟩
 | brk=>obtain ⟨σ',H',I',q1,q2⟩:=q;exact ⟨σ',_,I'.sY q1 h0,q2⟩
 | cont=>obtain ⟨σ',H',I',q1,q2⟩:=q;exact ⟨σ',_,I'.sY q1 h0,q2⟩
 | ret u=>obtain ⟨v,σ',H',I',r,q1,q2⟩:=q;exact ⟨v,σ',_,I'.sY q1 h0,r,q2⟩
def Qd (t:TE):TE:=fun σ H Q=>∃d kvs,H d = some (.dK kvs)∧∀o,t σ (upd H d (.cV o (.dK kvs))) fun v H'=>jy H' d o kvs∧Q v (upd H' d (.dK kvs))
theorem za {X:Cx} {e:Expr} {t:TE} (h:PE X e t):PE X e (Qd t):=by
 intro pins s σ H Q I hw
 obtain ⟨d,kvs,e,hw⟩:=hw
 obtain ⟨ho,es,ep,h1,_⟩:=(yk I.hok e).2.2.choose_spec.2
 have h0:=I.EU e
 exact aL (h pins s σ _ _ (I.freeze e h1) (hw ho)) fun u s' ⟨v,H',I',r,q1,q2⟩=>⟨v,_,I'.sY q1 h0,r,q2⟩
def N3 (d:Addr) (o:Obj) (kvs:List (Key × V)):It:=⟨fun i H=>jy H d o kvs∧i < kvs.length,fun i H x H'=>H' = H∧∃p,kvs[i]? = some p∧x = p.2,fun i H=>jy H d o kvs∧kvs.length≤i⟩
theorem ym {h:Heap} {P:Program} {w:World} {d:Addr} {vs:List (Key × Value)} {e1 e2:Nat} {o:Obj} {es:Array DictEntry} (da:h.DictAt (bL P w) d vs e1) (ho:h.get? d = some o) (hd:o.data = .dict es e2):e1 = e2:=by
 obtain ⟨o',es',h1,_,h2,_⟩:=da
 rw [ho] at h1;cases h1
 rw [hd] at h2;cases h2;rfl
theorem EV {P:Program} {w:World} {k:Key} {v:Value} (h:(bL P w).is k v = true):RelV (kV k) v:=by
 rw [CL] at h
 rcases cU h with ⟨i,t,rfl,rfl⟩ | ⟨x,t,rfl,rfl⟩
 · exact ⟨t,rfl⟩
 · exact ⟨t,rfl⟩
theorem EW {P:Program} {w:World} {K:PySem.W.Frag} {tg:Expr} {d it:Addr} {o:Obj} {kvs:List (Key × V)} {es:Array DictEntry} {ep:Nat} (hd:o.data = .dict es ep):
  Turn P w K tg (N3 d o kvs) [it] it (fun i h=>h.IsValIter it d i kvs.length ep) where
 mem:=by simp
 obj:=fun i h st b hb=>by
  have e:b = it:=by simpa using hb
  subst e
  obtain ⟨o,e,c,d⟩:=st
  exact ⟨o,e,fun v z=>by rw [d] at z;cases z⟩
 keep:=fun i h h' st k=>st.at fun o e=>k it (by simp) o e
 item:=by
  intro X hP hw hK hc i pins s σ H E I hf st hg
  subst hP hw hK
  obtain ⟨hz,hlt⟩:=hg
  obtain ⟨ho,_,_,vs,oZ,r,da⟩:=I.nQ hz
  cases ym da ho hd
  have hl:kvs.length = vs.length:=r.length
  obtain ⟨q,hq,_,rq⟩:=uD r (List.getElem?_eq_getElem hlt)
  obtain ⟨qk,qv⟩:=q
  rw [hl] at st
  obtain ⟨f0,f1,f2,f3,f4,f5⟩:=hf it (by simp)
  refine wpAny_pyNext_values_item st da hq fun h' st' sb=>?_
  have I1:Inv X pins σ H { s with heap:=h' }:=I.turned (t':=s.toks) (fun b o hb e=>(sb.2 b hb).trans e) f0 f1 f3 f4 f5
  obtain ⟨oi,e,c,dd⟩:=id st'
  exact ⟨_,rfl,t7 (s:={ s with heap:=h' }) e c dd (by decide) ⟨kvs[i].2,H,I1,rq,⟨rfl,kvs[i],List.getElem?_eq_getElem hlt,rfl⟩,by rw [hl];exact st',fun b hb=>(hf b hb).1⟩⟩
 done:=by
  intro X hP hw hK hc i pins s σ H E I hf st hg
  subst hP hw hK
  obtain ⟨hz,hle⟩:=hg
  obtain ⟨ho,_,_,vs,oZ,r,da⟩:=I.nQ hz
  cases ym da ho hd
  have hl:kvs.length = vs.length:=r.length
  rw [hl] at st
  obtain ⟨f0,f1,f2,f3,f4,f5⟩:=hf it (by simp)
  exact wpAny_pyNext_values_end (I.ok.hd hc) st da (by rw [List.getElem?_eq_none];omega) fun h' eb=>⟨rfl,I.turned (t':=s.toks) (fun b o hb e=>eb b o hb e) f0 f1 f3 f4 f5⟩
 self:=fun _ _ _ _ _ st h=>wpAny_pyIter_valiter st h
section
variable {X:Cx} {tg:Expr}
def Nc (td:TE):TI:=fun σ H R=>td σ H fun x H1=>∃d o kvs,x = .ref d∧jy H1 d o kvs∧R (N3 d o kvs) H1
theorem vG {ob:Expr} {td:TE} {apos cpos:Pos} (hob:PE X ob td) (hbase:attributeBase ob "values" X.env (eval ob X.env) = eval ob X.env:=by rfl) (hline:(apos.endLine == cpos.line) = true:=by rfl):
  PI X tg (.Call (.Attribute ob "values" apos) [] [] cpos) (Nc td):=by
 intro pins s σ H R I h
 refine wpAny_Call_method0_late hbase hline (aL (hob pins s σ H _ I h) fun v s1 ⟨x,H1,I1,r1,q1⟩=>?_)
 obtain ⟨d,o,kvs,rfl,e,fin⟩:=q1
 cases r1
 obtain ⟨ho,hz,hsys,vs,ep,rel,da⟩:=I1.nQ e
 obtain ⟨t1,t2,_⟩:=KS I1 (.inl ⟨kvs, .inr ⟨o,e⟩⟩)
 have dd:=da.dictOf
 refine ⟨"dict",_,F.plainAttrs_dict,F.slot_dict_values,F.type_dict_values,t1,t2,Calls.callWith_builtin rfl (PySem.evalArgs_none ?_)⟩
 refine call_meetsIn F.slot_dict_values dd.typeIs F.entry_dict_values (F.args_dict_values_1 _) (meets_dict_values (bL X.prog X.w) d hsys) ⟨⟨vs,dd⟩,?_⟩
 refine wpAny_pyIter_values (s:={ s1 with heap:=s1.heap.push { cls:= .type "dict_values",data:= .fields #[.ref d] } }) ⟨_,Heap.get?_push_size _ rfl,rfl,rfl⟩ (da.push _) ?_
 have Iv:Inv X pins σ H1 { s1 with heap:=s1.heap.push { cls:= .type "dict_values",data:= .fields #[.ref d] } }:=I1.kept (t':=s1.toks) fun b o e=>Heap.get?_push_of_some _ e
 generalize ({ s1 with heap:=s1.heap.push { cls:= .type "dict_values",data:= .fields #[.ref d] } }:Shared) = sv at *
 have I2:Inv X pins σ H1 { sv with heap:=sv.heap.push { cls:= .type "dict_valueiterator",data:= .fields #[.ref d, .int 0 0, .int vs.length 0, .int ep 0] } }:=Iv.kept (t':=sv.toks) fun b o e=>Heap.get?_push_of_some _ e
 have hl:kvs.length = vs.length:=rel.length
 obtain ⟨o',es,h1,_,h2,_⟩:=id da
 rw [ho] at h1;cases h1
 refine ⟨sv.heap.objs.size,[sv.heap.objs.size],_,_,H1,rfl,I2,EW h2,?_,fun b hb=>?_,fin⟩
 · rw [hl];exact ⟨_,Heap.get?_push_size _ rfl,rfl,rfl⟩
 · have eb:b = sv.heap.objs.size:=by simpa using hb
   subst eb
   exact Iv.yC (Nat.le_refl _) (Iv.hok.fresh (Nat.le_refl _))
end
theorem GI {J:It} {n:Nat} {g:TG} {tb:TS} {D:Ends} {σ:St} {H:Hp} (Pv:Nat→St→Hp→Prop) (h0:Pv 0 σ H) (hgo:∀i σ H,i < n→Pv i σ H→J.go i H) (hst:∀σ H,Pv n σ H→J.stop n H)
  (hs:∀i x σ H H',i < n→Pv i σ H→J.mU i H x H'→g x σ H' fun σ2 H2=>tb { D with nx:=Pv (i + 1),ct:=Pv (i + 1),bk:=D.nx } σ2 H2) (hd:∀σ H,Pv n σ H→D.nx σ H):
  ∃W:Nat→Nat→St→Hp→Prop,(∃m,W 0 m σ H)∧∀i m σ H,W i m σ H→
   (J.stop i H∧D.nx σ H)∨(J.go i H∧∃N:St→Hp→Prop,(∀σ' H',N σ' H'→∃m',m' < m∧W (i + 1) m' σ' H')∧∀x H',J.mU i H x H'→g x σ H' fun σ2 H2=>tb { D with nx:=N,ct:=N,bk:=D.nx } σ2 H2):=by
 refine ⟨fun i m σ H=>m = n - i∧i≤n∧Pv i σ H,⟨n,by simp,Nat.zero_le _,h0⟩,?_⟩
 rintro i m σ H ⟨rfl,hi,p⟩
 by_cases hlt:i < n
 · exact .inr ⟨hgo i σ H hlt p,Pv (i + 1),fun σ' H' p'=>⟨n - (i + 1),by omega,rfl,hlt,p'⟩,fun x H' y=>hs i x σ H H' hlt p y⟩
 · have e:i = n:=by omega
   subst e
   exact .inl ⟨hst σ H p,hd σ H p⟩
end L2
namespace L2
open PySem PySem.Spec PyProof.Rows
section
variable {prog:Program} {w:World} {K:Type} [DecidableEq K] {knd:KeyKind prog w K} {A:Around} {E:Value→Shared→Prop} {s:Shared}
theorem A1 {it d:Addr} {i ep:Nat} {kvs:List (K × Value)} {k:K} {v:Value} {Q:Value→Shared→Prop} (hit:s.heap.IsKeyIter it d i kvs.length ep)
  (hm:s.heap.DictAt knd d kvs ep) (hx:kvs[i]? = some (k,v)) (hQ:∀key h',knd.is k key = true→h'.IsKeyIter it d (i + 1) kvs.length ep→Heap.SameBut it s.heap h'→Q key { s with heap:=h' }):
  wpAny (model prog w) A (Builtin.SmallTypes.nextOf (.ref it)) Q E s:=by
 obtain ⟨o,ho,hc,hd⟩:=id hit;obtain ⟨od,es,hod,hcd,pJ,hk,hp,hn⟩:=id hm
 unfold Builtin.SmallTypes.nextOf
 refine wpAny_bind (wpAny_callSpecial?_slot (name:=Str.ofString "__next__") hit.typeIs F.slot_dict_keyiterator_next (wpAny_call_entry F.slot_dict_keyiterator_next hit.typeIs F.entry_dict_keyiterator_next ?_ (F.args_dict_keyiterator_next_1 _)))
 refine wpAny_bind (wpAny_pure ?_);refine wpAny_bind (wpAny_bind ?_)
 first | (refine wpAny_bind (wpAny_typeNameOfWhole_keyiter hit.typeIs (wpAny_pure ?_));refine wpAny_bind (wpAny_fieldsOf ho hd ?_)) | (refine wpAny_bind (wpAny_typeNameOf_keyiter hit.typeIs (wpAny_pure ?_));refine wpAny_bind (wpAny_fieldsOf ho hd ?_))
 have own:Builtin.Dict_items.ownsTuple "dict_keyiterator" = false:=by decide
 simp only [own,Bool.false_eq_true,if_false]
 show wpAny _ _ (if (Value.ref d == Value.none) = true then _ else _) _ _ _
 rw [if_neg (fun z=>Bool.false_ne_true z:¬ ((Value.ref d == Value.none) = true))];refine wpAny_bind (wpAny_pure ?_)
 have sz:es.size = kvs.length:=by have:=hp.length;simpa using this
 refine wpAny_bind (wpAny_dictEntries hod pJ ?_);rw [if_neg (by rw [sz];simp)]
 refine wpAny_bind (wpAny_pure ?_);refine wpAny_bind (wpAny_dictEpoch hod pJ ?_)
 rw [if_neg (by simp)];refine wpAny_pure ?_
 have lt:i < kvs.length:=(List.getElem?_eq_some_iff.mp hx).1
 have lt':i < es.size:=by omega
 have kv:=hp.get? (e:=es[i]) (by simp [lt']) hx
 simp only [show ¬ ((i:Int) < 0) from by omega,if_false,Int.toNat_natCast,Array.getElem?_eq_getElem lt'];refine wpAny_bind ?_
 first | (refine wpAny_bind (wpAny_typeNameOfWhole_keyiter hit.typeIs (wpAny_pure ?_));refine wpAny_bind (wpAny_isOneOf_keyiter hit.typeIs ?_)) | (refine wpAny_bind (wpAny_typeNameOf_keyiter hit.typeIs (wpAny_pure ?_));refine wpAny_bind (wpAny_isOneOf_keyiter hit.typeIs ?_))
 show wpAny _ _ (setField (.ref it) 1 (rawInt ((i:Int) + 1)) >>= _) _ _ _
 refine wpAny_bind (wpAny_setField ho hd (by simp) ?_)
 have vH:(s.heap.update it (Obj.mapFields (·.setIfInBounds 1 (rawInt ((i:Int) + 1))))).IsKeyIter it d (i + 1) kvs.length ep:=⟨_,Heap.get?_update_self _ ho (Obj.isFreed_of_fields (Obj.data_mapFields hd _)),(Obj.cls_mapFields ..).trans hc,by rw [Obj.data_mapFields hd];simp [rawInt]⟩
 refine wpAny_bind (wpAny_holding (wpAny_bind (wpAny_isOneOf_keyiter (s:={ s with heap:=s.heap.update it (Obj.mapFields (·.setIfInBounds 1 (rawInt ((i:Int) + 1)))) }) vH.typeIs ?_)))
 exact wpAny_pure (wpAny_pure ⟨_,rfl,wpAny_pure (hQ _ _ kv.1 vH (Heap.SameBut.update ..))⟩)
theorem Dc {it d:Addr} {i ep:Nat} {kvs:List (K × Value)} {Q:Value→Shared→Prop} (hh:A.handled = none) (hit:s.heap.IsKeyIter it d i kvs.length ep)
  (hm:s.heap.DictAt knd d kvs ep) (hx:kvs[i]? = none) (hE:∀h' e,Heap.ExtBut it s.heap h'→(∃o,h'.get? e = some o∧o.cls = .type "StopIteration")→E (.ref e) { s with heap:=h' }):
  wpAny (model prog w) A (Builtin.SmallTypes.nextOf (.ref it)) Q E s:=by
 obtain ⟨o,ho,hc,hd⟩:=id hit;obtain ⟨od,es,hod,hcd,pJ,hk,hp,hn⟩:=id hm
 unfold Builtin.SmallTypes.nextOf
 refine wpAny_bind (wpAny_callSpecial?_slot (name:=Str.ofString "__next__") hit.typeIs F.slot_dict_keyiterator_next (wpAny_call_entry F.slot_dict_keyiterator_next hit.typeIs F.entry_dict_keyiterator_next ?_ (F.args_dict_keyiterator_next_1 _)))
 refine wpAny_bind (wpAny_pure ?_);refine wpAny_bind (wpAny_bind ?_)
 first | (refine wpAny_bind (wpAny_typeNameOfWhole_keyiter hit.typeIs (wpAny_pure ?_));refine wpAny_bind (wpAny_fieldsOf ho hd ?_)) | (refine wpAny_bind (wpAny_typeNameOf_keyiter hit.typeIs (wpAny_pure ?_));refine wpAny_bind (wpAny_fieldsOf ho hd ?_))
 have own:Builtin.Dict_items.ownsTuple "dict_keyiterator" = false:=by decide
 simp only [own,Bool.false_eq_true,if_false]
 show wpAny _ _ (if (Value.ref d == Value.none) = true then _ else _) _ _ _
 rw [if_neg (fun z=>Bool.false_ne_true z:¬ ((Value.ref d == Value.none) = true))];refine wpAny_bind (wpAny_pure ?_)
 have sz:es.size = kvs.length:=by have:=hp.length;simpa using this
 refine wpAny_bind (wpAny_dictEntries hod pJ ?_);rw [if_neg (by rw [sz];simp)]
 refine wpAny_bind (wpAny_pure ?_);refine wpAny_bind (wpAny_dictEpoch hod pJ ?_)
 rw [if_neg (by simp)];refine wpAny_pure ?_
 have ge:es.size≤i:=by rw [sz];simpa using hx
 simp only [show ¬ ((i:Int) < 0) from by omega,if_false,Int.toNat_natCast,Array.getElem?_eq_none ge];refine wpAny_bind ?_
 first | (refine wpAny_bind (wpAny_typeNameOfWhole_keyiter hit.typeIs (wpAny_pure ?_));show wpAny _ _ (setField (.ref it) 0 .none >>= _) _ _ _) | (refine wpAny_bind (wpAny_typeNameOf_keyiter hit.typeIs (wpAny_pure ?_));show wpAny _ _ (setField (.ref it) 0 .none >>= _) _ _ _)
 refine wpAny_bind (wpAny_setField ho hd (by simp) ?_);show wpAny _ _ (newExc (.type "StopIteration") [] >>= _) _ _ _
 refine wpAny_bind ?_;simp only [newExc,newTuple]
 refine wpAny_bind (wpAny_newObj_type ?_ (by size_fits));refine wpAny_bind (m:=firstArgMember _ _) (wpAny_of_eq (a:=Value.none) (by first | rfl | (simp only [firstArgMember];rfl)) ?_)
 refine wpAny_newObj_type ?_ (by size_fits);simp only [raiseNew]
 refine wpAny_bind (wpAny_handled ?_);rw [show A.in1.handled = none from hh]
 exact wpAny_bind (wpAny_pure (wpAny_throw (hE _ _ (((Heap.SameBut.update ..).extBut.push _).push _) ⟨_,Heap.get?_push_size _ rfl,rfl⟩)))
theorem A4 {it d:Addr} {i ep:Nat} {kvs:List (K × Value)} {k:K} {v:Value} {Q:Value→Shared→Prop} (hit:s.heap.IsValIter it d i kvs.length ep)
  (hm:s.heap.DictAt knd d kvs ep) (hx:kvs[i]? = some (k,v)) (hQ:∀h',h'.IsValIter it d (i + 1) kvs.length ep→Heap.SameBut it s.heap h'→Q v { s with heap:=h' }):
  wpAny (model prog w) A (Builtin.SmallTypes.nextOf (.ref it)) Q E s:=by
 obtain ⟨o,ho,hc,hd⟩:=id hit;obtain ⟨od,es,hod,hcd,pJ,hk,hp,hn⟩:=id hm
 unfold Builtin.SmallTypes.nextOf
 refine wpAny_bind (wpAny_callSpecial?_slot (name:=Str.ofString "__next__") hit.typeIs F.slot_dict_valueiterator_next (wpAny_call_entry F.slot_dict_valueiterator_next hit.typeIs F.entry_dict_valueiterator_next ?_ (F.args_dict_valueiterator_next_1 _)))
 refine wpAny_bind (wpAny_pure ?_);refine wpAny_bind (wpAny_bind ?_)
 first | (refine wpAny_bind (wpAny_typeNameOfWhole_valiter hit.typeIs (wpAny_pure ?_));refine wpAny_bind (wpAny_fieldsOf ho hd ?_)) | (refine wpAny_bind (wpAny_typeNameOf_valiter hit.typeIs (wpAny_pure ?_));refine wpAny_bind (wpAny_fieldsOf ho hd ?_))
 have own:Builtin.Dict_items.ownsTuple "dict_valueiterator" = false:=by decide
 simp only [own,Bool.false_eq_true,if_false]
 show wpAny _ _ (if (Value.ref d == Value.none) = true then _ else _) _ _ _
 rw [if_neg (fun z=>Bool.false_ne_true z:¬ ((Value.ref d == Value.none) = true))];refine wpAny_bind (wpAny_pure ?_)
 have sz:es.size = kvs.length:=by have:=hp.length;simpa using this
 refine wpAny_bind (wpAny_dictEntries hod pJ ?_);rw [if_neg (by rw [sz];simp)]
 refine wpAny_bind (wpAny_pure ?_);refine wpAny_bind (wpAny_dictEpoch hod pJ ?_)
 rw [if_neg (by simp)];refine wpAny_pure ?_
 have lt:i < kvs.length:=(List.getElem?_eq_some_iff.mp hx).1
 have lt':i < es.size:=by omega
 have kv:=hp.get? (e:=es[i]) (by simp [lt']) hx
 simp only [show ¬ ((i:Int) < 0) from by omega,if_false,Int.toNat_natCast,Array.getElem?_eq_getElem lt'];refine wpAny_bind ?_
 first | (refine wpAny_bind (wpAny_typeNameOfWhole_valiter hit.typeIs (wpAny_pure ?_));refine wpAny_bind (wpAny_isOneOf_valiter hit.typeIs ?_)) | (refine wpAny_bind (wpAny_typeNameOf_valiter hit.typeIs (wpAny_pure ?_));refine wpAny_bind (wpAny_isOneOf_valiter hit.typeIs ?_))
 show wpAny _ _ (setField (.ref it) 1 (rawInt ((i:Int) + 1)) >>= _) _ _ _
 refine wpAny_bind (wpAny_setField ho hd (by simp) ?_)
 have vH:(s.heap.update it (Obj.mapFields (·.setIfInBounds 1 (rawInt ((i:Int) + 1))))).IsValIter it d (i + 1) kvs.length ep:=⟨_,Heap.get?_update_self _ ho (Obj.isFreed_of_fields (Obj.data_mapFields hd _)),(Obj.cls_mapFields ..).trans hc,by rw [Obj.data_mapFields hd];simp [rawInt]⟩
 refine wpAny_bind (wpAny_holding (wpAny_bind (wpAny_isOneOf_valiter (s:={ s with heap:=s.heap.update it (Obj.mapFields (·.setIfInBounds 1 (rawInt ((i:Int) + 1)))) }) vH.typeIs ?_)))
 refine wpAny_bind (wpAny_isOneOf_valiter (s:={ s with heap:=s.heap.update it (Obj.mapFields (·.setIfInBounds 1 (rawInt ((i:Int) + 1)))) }) vH.typeIs ?_)
 exact wpAny_pure (wpAny_pure ⟨_,rfl,wpAny_pure (kv.2 ▸ hQ _ vH (Heap.SameBut.update ..))⟩)
theorem De {it d:Addr} {i ep:Nat} {kvs:List (K × Value)} {Q:Value→Shared→Prop} (hh:A.handled = none) (hit:s.heap.IsValIter it d i kvs.length ep)
  (hm:s.heap.DictAt knd d kvs ep) (hx:kvs[i]? = none) (hE:∀h' e,Heap.ExtBut it s.heap h'→(∃o,h'.get? e = some o∧o.cls = .type "StopIteration")→E (.ref e) { s with heap:=h' }):
  wpAny (model prog w) A (Builtin.SmallTypes.nextOf (.ref it)) Q E s:=by
 obtain ⟨o,ho,hc,hd⟩:=id hit;obtain ⟨od,es,hod,hcd,pJ,hk,hp,hn⟩:=id hm
 unfold Builtin.SmallTypes.nextOf
 refine wpAny_bind (wpAny_callSpecial?_slot (name:=Str.ofString "__next__") hit.typeIs F.slot_dict_valueiterator_next (wpAny_call_entry F.slot_dict_valueiterator_next hit.typeIs F.entry_dict_valueiterator_next ?_ (F.args_dict_valueiterator_next_1 _)))
 refine wpAny_bind (wpAny_pure ?_);refine wpAny_bind (wpAny_bind ?_)
 first | (refine wpAny_bind (wpAny_typeNameOfWhole_valiter hit.typeIs (wpAny_pure ?_));refine wpAny_bind (wpAny_fieldsOf ho hd ?_)) | (refine wpAny_bind (wpAny_typeNameOf_valiter hit.typeIs (wpAny_pure ?_));refine wpAny_bind (wpAny_fieldsOf ho hd ?_))
 have own:Builtin.Dict_items.ownsTuple "dict_valueiterator" = false:=by decide
 simp only [own,Bool.false_eq_true,if_false]
 show wpAny _ _ (if (Value.ref d == Value.none) = true then _ else _) _ _ _
 rw [if_neg (fun z=>Bool.false_ne_true z:¬ ((Value.ref d == Value.none) = true))];refine wpAny_bind (wpAny_pure ?_)
 have sz:es.size = kvs.length:=by have:=hp.length;simpa using this
 refine wpAny_bind (wpAny_dictEntries hod pJ ?_);rw [if_neg (by rw [sz];simp)]
 refine wpAny_bind (wpAny_pure ?_);refine wpAny_bind (wpAny_dictEpoch hod pJ ?_)
 rw [if_neg (by simp)];refine wpAny_pure ?_
 have ge:es.size≤i:=by rw [sz];simpa using hx
 simp only [show ¬ ((i:Int) < 0) from by omega,if_false,Int.toNat_natCast,Array.getElem?_eq_none ge];refine wpAny_bind ?_
 first | (refine wpAny_bind (wpAny_typeNameOfWhole_valiter hit.typeIs (wpAny_pure ?_));show wpAny _ _ (setField (.ref it) 0 .none >>= _) _ _ _) | (refine wpAny_bind (wpAny_typeNameOf_valiter hit.typeIs (wpAny_pure ?_));show wpAny _ _ (setField (.ref it) 0 .none >>= _) _ _ _)
 refine wpAny_bind (wpAny_setField ho hd (by simp) ?_);show wpAny _ _ (newExc (.type "StopIteration") [] >>= _) _ _ _
 refine wpAny_bind ?_;simp only [newExc,newTuple]
 refine wpAny_bind (wpAny_newObj_type ?_ (by size_fits));refine wpAny_bind (m:=firstArgMember _ _) (wpAny_of_eq (a:=Value.none) (by first | rfl | (simp only [firstArgMember];rfl)) ?_)
 refine wpAny_newObj_type ?_ (by size_fits);simp only [raiseNew]
 refine wpAny_bind (wpAny_handled ?_);rw [show A.in1.handled = none from hh]
 exact wpAny_bind (wpAny_pure (wpAny_throw (hE _ _ (((Heap.SameBut.update ..).extBut.push _).push _) ⟨_,Heap.get?_push_size _ rfl,rfl⟩)))
end
end L2
namespace L2
open PySem PySem.Spec PyProof.Rows
structure pK (P:Program) (w:World) (K:PySem.W.Frag) (S:Hp→Prop) (xs:List V) (it l:Addr) (tn:Nat→Heap→Prop) (src:Heap→Prop):Prop where
 obj:∀i h,tn i h→∃o,h.get? it = some o∧∀v,o.data ≠ .cell v
 keep:∀i h h',tn i h→(∀o,h.get? it = some o→h'.get? it = some o)→tn i h'
 lR:∀h h',src h→(∀o,h.get? l = some o→h'.get? l = some o)→src h'
 w6:∀(X:Cx),X.prog = P→X.w = w→X.K = K→∀(pins:List (Addr × Obj)) (σ:St) (H:Hp) (s:Shared),Inv X pins σ H s→S H→src s.heap
 item:∀(A:Around) (i:Nat) (x:V) (s:Shared) (Q:Value→Shared→Prop) (E:Value→Shared→Prop),tn i s.heap→src s.heap→xs[i]? = some x→(∀u h',RelV x u→tn (i + 1) h'→Heap.SameBut it s.heap h'→Q u { s with heap:=h' })→wpAny (model P w) A (Builtin.SmallTypes.nextOf (.ref it)) Q E s
 done:∀(A:Around) (i:Nat) (s:Shared) (Q:Value→Shared→Prop) (E:Value→Shared→Prop),A.handled = none→tn i s.heap→src s.heap→xs.length≤i→(∀h' e,Heap.ExtBut it s.heap h'→(∃o,h'.get? e = some o∧o.cls = .type "StopIteration")→E (.ref e) { s with heap:=h' })→wpAny (model P w) A (Builtin.SmallTypes.nextOf (.ref it)) Q E s
theorem GJ {P:Program} {w:World} {K:PySem.W.Frag} {xs:List V} {it l:Addr}:pK P w K (fun H=>aE K H l xs) xs it l (fun i h=>h.IsListIter it l i) (fun h=>∃its:List Value,Vals xs its∧h.IsList l its.toArray) where
 obj:=fun i h ⟨o,e,c,d⟩=>⟨o,e,fun v z=>by rw [d] at z;cases z⟩
 keep:=fun i h h' st k=>st.at k
 lR:=fun h h' ⟨its,r,hl⟩ k=>⟨its,r,hl.at k⟩
 w6:=fun X hP hw hK pins σ H s I h=>by
  subst hP hw hK
  obtain ⟨its,rv,p,_⟩:=I.list h
  exact ⟨its,rv,p.isList⟩
 item:=fun A i x s Q E st ⟨its,r,hl⟩ hx hQ=>by
  obtain ⟨u,hu,ru⟩:=r.get hx
  exact wpAny_nextOf_list_item st hl (by simpa using hu) fun h' st' sb=>hQ u h' ru st' sb
 done:=fun A i s Q E hh st ⟨its,r,hl⟩ hx hE=>wpAny_nextOf_list_end hh st hl (by have:=r.length;simp;omega) hE
theorem GK {P:Program} {w:World} {K:PySem.W.Frag} {kvs:List (Key × V)} {it d:Addr} {o:Obj} {es:Array DictEntry} {ep:Nat} (hd:o.data = .dict es ep):
  pK P w K (fun H=>jy H d o kvs) (kvs.map fun p=>kV p.1) it d (fun i h=>h.IsKeyIter it d i kvs.length ep) (fun h=>∃vs,KV kvs vs∧h.DictAt (bL P w) d vs ep) where
 obj:=fun i h ⟨o,e,c,d⟩=>⟨o,e,fun v z=>by rw [d] at z;cases z⟩
 keep:=fun i h h' st k=>st.at k
 lR:=fun h h' ⟨vs,r,hl⟩ k=>⟨vs,r,hl.at' k⟩
 w6:=fun X hP hw hK pins σ H s I h=>by
  subst hP hw hK
  obtain ⟨ho,_,_,vs,oZ,r,da⟩:=I.nQ h
  cases ym da ho hd
  exact ⟨vs,r,da⟩
 item:=fun A i x s Q E st ⟨vs,r,da⟩ hx hQ=>by
  rw [List.getElem?_map] at hx
  obtain ⟨p,hp,rfl⟩:=Option.map_eq_some_iff.mp hx
  obtain ⟨q,hq,ek,rq⟩:=uD r hp
  obtain ⟨qk,qv⟩:=q
  have hl:kvs.length = vs.length:=r.length
  rw [hl] at st
  exact A1 st da hq fun key h' hk st' sb=>hQ key h' (by rw [ek];exact EV hk) (by rw [hl];exact st') sb
 done:=fun A i s Q E hh st ⟨vs,r,da⟩ hx hE=>by
  have hl:kvs.length = vs.length:=r.length
  rw [List.length_map] at hx
  rw [hl] at st
  exact Dc hh st da (by rw [List.getElem?_eq_none];omega) hE
theorem GL {P:Program} {w:World} {K:PySem.W.Frag} {kvs:List (Key × V)} {it d:Addr} {o:Obj} {es:Array DictEntry} {ep:Nat} (hd:o.data = .dict es ep):
  pK P w K (fun H=>jy H d o kvs) (kvs.map fun p=>p.2) it d (fun i h=>h.IsValIter it d i kvs.length ep) (fun h=>∃vs,KV kvs vs∧h.DictAt (bL P w) d vs ep) where
 obj:=fun i h ⟨o,e,c,d⟩=>⟨o,e,fun v z=>by rw [d] at z;cases z⟩
 keep:=fun i h h' st k=>st.at k
 lR:=fun h h' ⟨vs,r,hl⟩ k=>⟨vs,r,hl.at' k⟩
 w6:=fun X hP hw hK pins σ H s I h=>by
  subst hP hw hK
  obtain ⟨ho,_,_,vs,oZ,r,da⟩:=I.nQ h
  cases ym da ho hd
  exact ⟨vs,r,da⟩
 item:=fun A i x s Q E st ⟨vs,r,da⟩ hx hQ=>by
  rw [List.getElem?_map] at hx
  obtain ⟨p,hp,rfl⟩:=Option.map_eq_some_iff.mp hx
  obtain ⟨q,hq,ek,rq⟩:=uD r hp
  obtain ⟨qk,qv⟩:=q
  have hl:kvs.length = vs.length:=r.length
  rw [hl] at st
  exact A4 st da hq fun h' st' sb=>hQ qv h' rq (by rw [hl];exact st') sb
 done:=fun A i s Q E hh st ⟨vs,r,da⟩ hx hE=>by
  have hl:kvs.length = vs.length:=r.length
  rw [List.length_map] at hx
  rw [hl] at st
  exact De hh st da (by rw [List.getElem?_eq_none];omega) hE
section
variable {P:Program} {w:World} {A:Around} {E:Value→Shared→Prop} {s:Shared} {K:PySem.W.Frag} {S1 S2:Hp→Prop} {xs ys:List V} {z TI TO i1 i2 l1 l2:Addr} {t1 t2:Nat→Heap→Prop} {c1 c2:Heap→Prop} {i:Nat}
theorem EX {x y:V} {a b:Value} {Q:Value→Shared→Prop} (D:ZipApart z TI TO i1 i2 l1 l2) (C1:pK P w K S1 xs i1 l1 t1 c1) (C2:pK P w K S2 ys i2 l2 t2 c2)
  (hz:IsZip s.heap z TI TO .none) (hTI:IsPair s.heap TI (.ref i1) (.ref i2)) (hTO:IsPair s.heap TO a b) (h1:t1 i s.heap) (h2:t2 i s.heap) (hc1:c1 s.heap) (hc2:c2 s.heap) (hx:xs[i]? = some x) (hy:ys[i]? = some y)
  (hQ:∀u v h',RelV x u→RelV y v→IsZip h' z TI TO (rawInt s.heap.objs.size)→IsPair h' TO u v→t1 (i + 1) h'→t2 (i + 1) h'→IsPair h' s.heap.objs.size u v→h'.objs.size = s.heap.objs.size + 1→
    (∀c o,c ≠ z→c ≠ TO→c ≠ i1→c ≠ i2→s.heap.get? c = some o→h'.get? c = some o)→Q (.ref s.heap.objs.size) { s with heap:=h' }):
  wpAny (model P w) A (Builtin.«zip.__next__» ⟨[.ref z],[]⟩) (fun fin s'=>∃v,fin = .done (.ret v)∧Q v s') E s:=by
 show wpAny _ _ (field (.ref z) 2 >>= _) _ _ _
 refine wpAny_bind (wpAny_field hz rfl (x:= .bool false) rfl ?_);show wpAny _ _ (field (.ref z) 3 >>= _) _ _ _
 refine wpAny_bind (wpAny_field hz rfl (x:= .ref TI) rfl ?_);refine wpAny_bind (wpAny_seqItems hTI rfl ?_)
 show wpAny _ _ (Builtin.SmallTypes.ownedTupleIsFree (.ref z) >>= _) _ _ _
 refine wpAny_bind ?_;unfold Builtin.SmallTypes.ownedTupleIsFree
 refine wpAny_bind (wpAny_field hz rfl (x:= .none) rfl (wpAny_pure ?_));simp only [if_true]
 refine wpAny_bind (wpAny_rule ?_);refine wpAny_bind (wpAny_field hz rfl (x:= .ref TO) rfl ?_)
 refine wpAny_bind (wpAny_setField_rec hz (by simp) fun hA pL sA=>?_)
 replace pL:IsZip hA z TI TO .ellipsis:=pL
 refine wpAny_bind ?_;simp only [List.zipIdx_cons,List.zipIdx_nil,List.forIn_cons,List.forIn_nil]
 refine wpAny_bind (wpAny_bind (wpAny_onRaise ?_));show wpAny _ _ (Builtin.SmallTypes.nextOf (.ref i1) >>= _) _ _ _
 refine wpAny_bind (C1.item _ i x { s with heap:=hA } _ _ (C1.keep _ _ _ h1 fun o e=>sA.extBut _ _ D.i1z e) (C1.lR _ _ hc1 fun o e=>sA.extBut _ _ D.l1z e) hx fun u hB ru N4 sB=>wpAny_pure ?_)
 have EY:IsPair hB TO a b:=sB.extBut _ _ D.TOi1 (sA.extBut _ _ D.TOz hTO)
 refine wpAny_bind (wpAny_seqItems EY rfl ?_);refine wpAny_bind (wpAny_updateSeq_pair EY fun hC Ia sC=>?_)
 replace Ia:IsPair hC TO u b:=Ia
 refine wpAny_bind (wpAny_letGo (wpAny_pure ?_));refine wpAny_bind (wpAny_bind (wpAny_onRaise ?_))
 show wpAny _ _ (Builtin.SmallTypes.nextOf (.ref i2) >>= _) _ _ _
 refine wpAny_bind (C2.item _ i y { s with heap:=hC } _ _ (C2.keep _ _ _ h2 fun o e=>sC.extBut _ _ D.TOi2.symm (sB.extBut _ _ D.i12.symm (sA.extBut _ _ D.i2z e))) (C2.lR _ _ hc2 fun o e=>sC.extBut _ _ D.l2TO (sB.extBut _ _ D.l2i1 (sA.extBut _ _ D.l2z e))) hy fun v hD rv QY sD=>wpAny_pure ?_)
 have N5:IsPair hD TO u b:=sD.extBut _ _ D.TOi2 Ia
 refine wpAny_bind (wpAny_seqItems N5 rfl ?_);refine wpAny_bind (wpAny_updateSeq_pair N5 fun hE Ib sE=>?_)
 replace Ib:IsPair hE TO u v:=Ib
 refine wpAny_bind (wpAny_letGo (wpAny_pure (wpAny_pure ?_)));refine wpAny_bind (wpAny_seqItems Ib rfl ?_)
 refine wpAny_bind (wpAny_newTuple ?_)
 have sz:hE.objs.size = s.heap.objs.size:=by rw [sE.1,sD.1,sC.1,sB.1,sA.1]
 have zE:IsZip hE z TI TO .ellipsis:=sE.extBut _ _ D.TOz.symm (sD.extBut _ _ D.i2z.symm (sC.extBut _ _ D.TOz.symm (sB.extBut _ _ D.i1z.symm pL)))
 have kE:∀c o,c ≠ z→c ≠ TO→c ≠ i1→c ≠ i2→s.heap.get? c = some o→hE.get? c = some o:=fun c o c1 c2 c3 c4 e=>sE.extBut _ _ c2 (sD.extBut _ _ c4 (sC.extBut _ _ c2 (sB.extBut _ _ c3 (sA.extBut _ _ c1 e))))
 have QZ:t1 (i + 1) hE:=C1.keep _ _ _ N4 fun o e=>sE.extBut _ _ D.TOi1.symm (sD.extBut _ _ D.i12 (sC.extBut _ _ D.TOi1.symm e))
 have Q0:t2 (i + 1) hE:=C2.keep _ _ _ QY fun o e=>sE.extBut _ _ D.TOi2.symm e
 have N6:z < hE.objs.size:=Heap.lt_size zE
 show wpAny _ _ (Builtin.SmallTypes.ownedTupleHandOut (.ref z) (.ref hE.objs.size) >>= _) _ _ _
 refine wpAny_bind ?_;unfold Builtin.SmallTypes.ownedTupleHandOut
 have zF:IsZip (hE.push { cls:= .type "tuple",data:= .seq #[u,v] }) z TI TO .ellipsis:=Heap.get?_push_of_some _ zE
 refine wpAny_bind (wpAny_setField_rec zF (by simp) fun hG zG sG=>?_)
 replace zG:IsZip hG z TI TO (rawInt hE.objs.size):=zG
 refine wpAny_setField_rec zG (by simp) fun hI zI sI=>?_
 replace zI:IsZip hI z TI TO (rawInt hE.objs.size):=zI
 have up:∀c o,c ≠ z→hE.get? c = some o→hI.get? c = some o:=fun c o c1 e=>sI.extBut _ _ c1 (sG.extBut _ _ c1 (Heap.get?_push_of_some _ e))
 have N7:IsPair hI hE.objs.size u v:=sI.extBut _ _ (Nat.ne_of_gt N6) (sG.extBut _ _ (Nat.ne_of_gt N6) (Heap.get?_push_size _ rfl))
 have N8:hI.objs.size = hE.objs.size + 1:=by rw [sI.1,sG.1,Heap.size_push]
 rw [sz] at zI N7 N8
 refine wpAny_pure ⟨_,rfl,?_⟩
 show Q (.ref hE.objs.size) _
 rw [sz]
 exact hQ u v hI ru rv zI (up _ _ D.TOz Ib) (C1.keep _ _ _ QZ fun o e=>up _ o D.i1z e) (C2.keep _ _ _ Q0 fun o e=>up _ o D.i2z e) N7 N8 fun c o c1 c2 c3 c4 e=>up c o c1 (kE c o c1 c2 c3 c4 e)
theorem GN {a b:Value} {Q:Fin→Shared→Prop} (hh:A.handled = none) (D:ZipApart z TI TO i1 i2 l1 l2) (C1:pK P w K S1 xs i1 l1 t1 c1) (C2:pK P w K S2 ys i2 l2 t2 c2)
  (hz:IsZip s.heap z TI TO .none) (hTI:IsPair s.heap TI (.ref i1) (.ref i2)) (hTO:IsPair s.heap TO a b) (h1:t1 i s.heap) (h2:t2 i s.heap) (hc1:c1 s.heap) (hc2:c2 s.heap) (hend:xs.length≤i∨ys.length≤i)
  (hE:∀h' e,(∀c o,c ≠ z→c ≠ TO→c ≠ i1→c ≠ i2→s.heap.get? c = some o→h'.get? c = some o)→(∃o,h'.get? e = some o∧o.cls = .type "StopIteration")→E (.ref e) { s with heap:=h' }):
  wpAny (model P w) A (Builtin.«zip.__next__» ⟨[.ref z],[]⟩) Q E s:=by
 show wpAny _ _ (field (.ref z) 2 >>= _) _ _ _
 refine wpAny_bind (wpAny_field hz rfl (x:= .bool false) rfl ?_);show wpAny _ _ (field (.ref z) 3 >>= _) _ _ _
 refine wpAny_bind (wpAny_field hz rfl (x:= .ref TI) rfl ?_);refine wpAny_bind (wpAny_seqItems hTI rfl ?_)
 show wpAny _ _ (Builtin.SmallTypes.ownedTupleIsFree (.ref z) >>= _) _ _ _
 refine wpAny_bind ?_;unfold Builtin.SmallTypes.ownedTupleIsFree
 refine wpAny_bind (wpAny_field hz rfl (x:= .none) rfl (wpAny_pure ?_));simp only [if_true]
 refine wpAny_bind (wpAny_rule ?_);refine wpAny_bind (wpAny_field hz rfl (x:= .ref TO) rfl ?_)
 refine wpAny_bind (wpAny_setField_rec hz (by simp) fun hA pL sA=>?_)
 replace pL:IsZip hA z TI TO .ellipsis:=pL
 refine wpAny_bind ?_;simp only [List.zipIdx_cons,List.zipIdx_nil,List.forIn_cons,List.forIn_nil]
 refine wpAny_bind (wpAny_bind (wpAny_onRaise ?_));show wpAny _ _ (Builtin.SmallTypes.nextOf (.ref i1) >>= _) _ _ _
 have k1:=C1.keep _ _ _ h1 fun o e=>sA.extBut _ _ D.i1z e
 have k2:=C1.lR _ _ hc1 fun o e=>sA.extBut _ _ D.l1z e
 by_cases hx:xs.length≤i
 · refine wpAny_bind (C1.done _ i { s with heap:=hA } _ _ hh k1 k2 hx fun hB e sB he=>?_)
   obtain ⟨oe,uE,hce⟩:=he
   have zB:IsZip hB z TI TO .ellipsis:=sB _ _ D.i1z.symm pL
   have ez:e ≠ z:=fun x=>by subst x;rw [zB] at uE;cases uE;simp at hce
   exact wpAny_setField_rec zB (by simp) fun hC _ sC=>hE hC e (fun c o c1 _ c3 _ x=>sC.extBut _ _ c1 (sB _ _ c3 (sA.extBut _ _ c1 x))) ⟨oe,sC.extBut _ _ ez uE,hce⟩
 · have hy:ys.length≤i:=hend.resolve_left hx
   refine wpAny_bind (C1.item _ i xs[i] { s with heap:=hA } _ _ k1 k2 (List.getElem?_eq_getElem (by omega)) fun u hB ru N4 sB=>wpAny_pure ?_)
   have EY:IsPair hB TO a b:=sB.extBut _ _ D.TOi1 (sA.extBut _ _ D.TOz hTO)
   refine wpAny_bind (wpAny_seqItems EY rfl ?_);refine wpAny_bind (wpAny_updateSeq_pair EY fun hC Ia sC=>?_)
   refine wpAny_bind (wpAny_letGo (wpAny_pure ?_));refine wpAny_bind (wpAny_bind (wpAny_onRaise ?_))
   show wpAny _ _ (Builtin.SmallTypes.nextOf (.ref i2) >>= _) _ _ _
   refine wpAny_bind (C2.done _ i { s with heap:=hC } _ _ hh (C2.keep _ _ _ h2 fun o e=>sC.extBut _ _ D.TOi2.symm (sB.extBut _ _ D.i12.symm (sA.extBut _ _ D.i2z e))) (C2.lR _ _ hc2 fun o e=>sC.extBut _ _ D.l2TO (sB.extBut _ _ D.l2i1 (sA.extBut _ _ D.l2z e))) hy fun hD e sD he=>?_)
   obtain ⟨oe,uE,hce⟩:=he
   have zD:IsZip hD z TI TO .ellipsis:=sD _ _ D.i2z.symm (sC.extBut _ _ D.TOz.symm (sB.extBut _ _ D.i1z.symm pL))
   have ez:e ≠ z:=fun x=>by subst x;rw [zD] at uE;cases uE;simp at hce
   exact wpAny_setField_rec zD (by simp) fun hF _ sF=>hE hF e (fun c o c1 c2 c3 c4 x=>sF.extBut _ _ c1 (sD _ _ c4 (sC.extBut _ _ c2 (sB.extBut _ _ c3 (sA.extBut _ _ c1 x))))) ⟨oe,sF.extBut _ _ ez uE,hce⟩
end
def Le (S1 S2:Hp→Prop) (xs ys:List V):It:=
 ⟨fun i H=>S1 H∧S2 H∧i < xs.length∧i < ys.length,fun i H v H'=>∃p x y,H p = none∧v = .ref p∧H' = upd H p (.tup [x,y])∧xs[i]? = some x∧ys[i]? = some y,fun i H=>S1 H∧S2 H∧(xs.length≤i∨ys.length≤i)⟩
theorem EZ {P:Program} {w:World} {K:PySem.W.Frag} {elts:List Expr} {kk:Nat} {pos:Pos} {S1 S2:Hp→Prop} {xs ys:List V} {z TI TO i1 i2 l1 l2:Addr} {t1 t2:Nat→Heap→Prop} {c1 c2:Heap→Prop} (D:ZipApart z TI TO i1 i2 l1 l2)
  (C1:pK P w K S1 xs i1 l1 t1 c1) (C2:pK P w K S2 ys i2 l2 t2 c2):
  Turn P w K (.Tuple elts kk pos) (Le S1 S2 xs ys) [z,TI,TO,i1,i2] z (fun i h=>IsZip h z TI TO .none∧IsPair h TI (.ref i1) (.ref i2)∧(∃a b,IsPair h TO a b)∧t1 i h∧t2 i h) where
 mem:=by simp
 obj:=fun i h st b hb=>by
  obtain ⟨hz,hTI,⟨a,b',hTO⟩,h1,h2⟩:=st
  have hb':b = z∨b = TI∨b = TO∨b = i1∨b = i2:=by simpa using hb
  rcases hb' with rfl | rfl | rfl | rfl | rfl
  · exact ⟨_,hz,fun v q=>by cases q⟩
  · exact ⟨_,hTI,fun v q=>by cases q⟩
  · exact ⟨_,hTO,fun v q=>by cases q⟩
  · exact C1.obj i h h1
  · exact C2.obj i h h2
 keep:=fun i h h' st k=>by
  obtain ⟨hz,hTI,⟨a,b',hTO⟩,h1,h2⟩:=st
  exact ⟨k z (by simp) _ hz,k TI (by simp) _ hTI,⟨a,b',k TO (by simp) _ hTO⟩,C1.keep _ _ _ h1 fun o e=>k i1 (by simp) o e,C2.keep _ _ _ h2 fun o e=>k i2 (by simp) o e⟩
 item:=by
  intro X hP hw hK hc i pins s σ H E I hf st hg
  subst hP hw hK
  obtain ⟨hz,hTI,⟨a,b,hTO⟩,h1,h2⟩:=st
  obtain ⟨g1,g2,lx,ly⟩:=hg
  have hT:s.TypeIs (.ref z) "zip":=⟨_,hz,rfl⟩
  unfold pyNext
  refine wpAny_bind (wpAny_attempt (wpAny_callSpecial?_slot (name:=Str.ofString "__next__") hT F.slot_zip_next (wpAny_call_entry F.slot_zip_next hT F.entry_zip_next
   (EX D C1 C2 hz hTI hTO h1 h2 (C1.w6 X rfl rfl rfl pins σ H s I g1) (C2.w6 X rfl rfl rfl pins σ H s I g2) (List.getElem?_eq_getElem lx) (List.getElem?_eq_getElem ly) fun u u2 h' ru Q2 a1 a2 a3 a4 a5 a6 hk=>wpAny_pure ?_) (F.args_zip_next_1 _))))
  refine ⟨_,rfl,wpAny_letOwnedTupleGo_zip (s:={ s with heap:=h' }) a1 fun h'' b1 hs=>?_⟩
  have Q3:s.heap.objs.size ≠ z:=Nat.ne_of_gt (Heap.lt_size hz)
  have zb:∀c o,c ≠ z→c ≠ TO→c ≠ i1→c ≠ i2→s.heap.get? c = some o→h''.get? c = some o:=fun c o c1 c2 c3 c4 e=>hs.extBut _ _ c1 (hk c o c1 c2 c3 c4 e)
  have hn:=I.fresh
  have nf:∀b u,H b = some u→b ≠ z∧b ≠ TO∧b ≠ i1∧b ≠ i2:=fun b u e=>by
   have g:∀c∈[z,TI,TO,i1,i2],b ≠ c:=fun c hc q=>by
    have:=(hf c hc).1
    rw [← q,e] at this
    cases this
   exact ⟨g z (by simp),g TO (by simp),g i1 (by simp),g i2 (by simp)⟩
  have mT:∀c,c ∉ [z,TI,TO,i1,i2]→c ≠ z∧c ≠ TO∧c ≠ i1∧c ≠ i2:=fun c hc=>⟨fun q=>hc (by simp [q]),fun q=>hc (by simp [q]),fun q=>hc (by simp [q]),fun q=>hc (by simp [q])⟩
  have Qe:IsPair h'' s.heap.objs.size u u2:=hs.extBut _ _ Q3 a5
  have hok:dj X.prog X.w (upd H s.heap.objs.size (.tup [xs[i],ys[i]])) h'':=fun b ob e=>by
   by_cases hb:b = s.heap.objs.size
   · subst hb
     rw [ai] at e
     cases e
     exact ⟨by show 2≤sizeLine;decide,[u,u2], .cons ru (.cons Q2 .nil),_,Qe,rfl,0,rfl⟩
   · rw [ak hb] at e
     refine (I.hok b ob e).stay (fun c v Lf q=>?_) (fun c q=>by rw [ak (aA q hn)];exact q) fun c zs q=>by rw [ak (aA q hn)];exact q
     rcases Lf with r | r
     · obtain ⟨n1,n2,n3,n4⟩:=nf b ob e
       rw [r]
       rw [r] at q
       exact zb b v n1 n2 n3 n4 q
     · obtain ⟨n1,n2,n3,n4⟩:=nf c _ r
       exact zb c v n1 n2 n3 n4 q
  have I2:Inv X pins σ (upd H s.heap.objs.size (.tup [xs[i],ys[i]])) { s with heap:=h'',gens:=s.gens,drawn:=s.drawn,toks:=s.toks }:=by
   refine I.step (ch:=[z,TI,TO,i1,i2]) (fun b hb=>⟨(hf b hb).2.2.2.1,(hf b hb).2.1,(hf b hb).2.2.2.2.1,(hf b hb).2.2.2.2.2⟩) (fun b o _ _ hc' e _=>?_) (fun b o _ _ hc' e _=>?_) (fun b o _ e n=>?_) (fun b o hc' e=>?_)
    (fun b zs q=>by rw [ak (aA q hn)];exact q) (fun b o zs q=>by rw [ak (aA q hn)];exact q) (fun b ps q=>⟨#[],by rw [ak (aA q hn),q];simp⟩) (fun m hm=>?_) hok I.bare
   · obtain ⟨n1,n2,n3,n4⟩:=mT b hc'
     exact zb b o n1 n2 n3 n4 e
   · obtain ⟨n1,n2,n3,n4⟩:=mT b hc'
     exact ⟨o.slots,zb b o n1 n2 n3 n4 e⟩
   · rw [ak (Nat.ne_of_lt (Heap.lt_size e))]
     exact n
   · obtain ⟨n1,n2,n3,n4⟩:=mT b hc'
     exact ⟨o,zb b o n1 n2 n3 n4 e⟩
   · obtain ⟨o,es,ep,ho,r⟩:=hm
     have nl:∀c∈[z,TI,TO,i1,i2],X.env.locals ≠ c:=fun c hc' q=>(hf c hc').2.1 q.symm
     exact ⟨o,es,ep,zb _ o (nl z (by simp)) (nl TO (by simp)) (nl i1 (by simp)) (nl i2 (by simp)) ho,r⟩
  refine ⟨.ref s.heap.objs.size,_,I2,rfl,⟨s.heap.objs.size,xs[i],ys[i],hn,rfl,rfl,List.getElem?_eq_getElem lx,List.getElem?_eq_getElem ly⟩,⟨b1,?_,⟨u,u2,?_⟩,?_,?_⟩,fun b hb=>?_⟩
  · exact zb _ _ D.TIz D.TITO D.TIi1 D.TIi2 hTI
  · exact hs.extBut _ _ D.TOz a2
  · exact C1.keep _ _ _ a3 fun o e=>hs.extBut _ _ D.i1z e
  · exact C2.keep _ _ _ a4 fun o e=>hs.extBut _ _ D.i2z e
  · have hlt:b ≠ s.heap.objs.size:=by
     have hb':b = z∨b = TI∨b = TO∨b = i1∨b = i2:=by simpa using hb
     obtain ⟨_,e1,_⟩:=C1.obj _ _ h1
     obtain ⟨_,e2,_⟩:=C2.obj _ _ h2
     rcases hb' with rfl | rfl | rfl | rfl | rfl
     · exact Nat.ne_of_lt (Heap.lt_size hz)
     · exact Nat.ne_of_lt (Heap.lt_size hTI)
     · exact Nat.ne_of_lt (Heap.lt_size hTO)
     · exact Nat.ne_of_lt (Heap.lt_size e1)
     · exact Nat.ne_of_lt (Heap.lt_size e2)
    rw [ak hlt]
    exact (hf b hb).1
 done:=by
  intro X hP hw hK hc i pins s σ H E I hf st hg
  subst hP hw hK
  obtain ⟨hz,hTI,⟨a,b,hTO⟩,h1,h2⟩:=st
  obtain ⟨g1,g2,hend⟩:=hg
  have hT:s.TypeIs (.ref z) "zip":=⟨_,hz,rfl⟩
  unfold pyNext
  refine wpAny_bind (wpAny_attempt (wpAny_callSpecial?_slot (name:=Str.ofString "__next__") hT F.slot_zip_next (wpAny_call_entry F.slot_zip_next hT F.entry_zip_next
   (GN (I.ok.hd hc) D C1 C2 hz hTI hTO h1 h2 (C1.w6 X rfl rfl rfl pins σ H s I g1) (C2.w6 X rfl rfl rfl pins σ H s I g2) hend fun h' e hk he=>?_) (F.args_zip_next_1 _))))
  obtain ⟨oe,uE,hce⟩:=he
  refine wpAny_bind (wpAny_isInstance (T:="StopIteration") (b:=true) ⟨oe,uE,hce⟩ isSubtype_stop (wpAny_pure ⟨rfl,?_⟩))
  have mT:∀c,c ∉ [z,TI,TO,i1,i2]→c ≠ z∧c ≠ TO∧c ≠ i1∧c ≠ i2:=fun c hc=>⟨fun q=>hc (by simp [q]),fun q=>hc (by simp [q]),fun q=>hc (by simp [q]),fun q=>hc (by simp [q])⟩
  have nf:∀b u,H b = some u→b ≠ z∧b ≠ TO∧b ≠ i1∧b ≠ i2:=fun b u e=>by
   have g:∀c∈[z,TI,TO,i1,i2],b ≠ c:=fun c hc q=>by
    have:=(hf c hc).1
    rw [← q,e] at this
    cases this
   exact ⟨g z (by simp),g TO (by simp),g i1 (by simp),g i2 (by simp)⟩
  have I2:Inv X pins σ H { s with heap:=h',gens:=s.gens,drawn:=s.drawn,toks:=s.toks }:=by
   refine I.step (ch:=[z,TI,TO,i1,i2]) (fun b hb=>⟨(hf b hb).2.2.2.1,(hf b hb).2.1,(hf b hb).2.2.2.2.1,(hf b hb).2.2.2.2.2⟩) (fun b o _ _ hc' e _=>?_) (fun b o _ _ hc' e _=>?_) (fun b o _ e n=>n) (fun b o hc' e=>?_)
    (fun b zs q=>q) (fun b o zs q=>q) (fun b ps q=>⟨#[],by rw [q];simp⟩) (fun m hm=>?_) (fun b ob e=>?_) I.bare
   · obtain ⟨n1,n2,n3,n4⟩:=mT b hc'
     exact hk b o n1 n2 n3 n4 e
   · obtain ⟨n1,n2,n3,n4⟩:=mT b hc'
     exact ⟨o.slots,hk b o n1 n2 n3 n4 e⟩
   · obtain ⟨n1,n2,n3,n4⟩:=mT b hc'
     exact ⟨o,hk b o n1 n2 n3 n4 e⟩
   · obtain ⟨o,es,ep,ho,r⟩:=hm
     have nl:∀c∈[z,TI,TO,i1,i2],X.env.locals ≠ c:=fun c hc' q=>(hf c hc').2.1 q.symm
     exact ⟨o,es,ep,hk _ o (nl z (by simp)) (nl TO (by simp)) (nl i1 (by simp)) (nl i2 (by simp)) ho,r⟩
   · refine (I.hok b ob e).stay (fun c v Lf q=>?_) (fun c q=>q) fun c zs q=>q
     rcases Lf with r | r
     · obtain ⟨n1,n2,n3,n4⟩:=nf b ob e
       rw [r]
       rw [r] at q
       exact hk b v n1 n2 n3 n4 q
     · obtain ⟨n1,n2,n3,n4⟩:=nf c _ r
       exact hk c v n1 n2 n3 n4 q
  exact I2
 self:=fun _ _ _ _ _ st h=>wpAny_pyIter_zip st.1 h
def ze (P:Program) (w:World) (u:Value) (o:Obj) (pre:Heap→Prop):Prop:=∀(A:Around) (E:Value→Shared→Prop) (s:Shared) (Q:Value→Shared→Prop),pre s.heap→Q (.ref s.heap.objs.size) { s with heap:=s.heap.push o }→wpAny (model P w) A (pyIter u) Q E s
theorem Df {P:Program} {w:World} {u1 u2:Value} {o1 o2:Obj} {p1 p2:Heap→Prop} (s1:ze P w u1 o1 p1) (s2:ze P w u2 o2 p2):
  MeetsIn P w (Builtin.«zip.__new__» ⟨[.type "zip",u1,u2],[]⟩) (fun _ R s=>p1 s.heap∧p2 (s.heap.push o1)∧
   R (.ok (.ret (.ref ((((s.heap.push o1).push o2).push { cls:= .type "tuple",data:= .seq #[.ref s.heap.objs.size, .ref (s.heap.push o1).objs.size] }).push { cls:= .type "tuple",data:= .seq #[.none, .none] }).objs.size)))
     { s with heap:=((((s.heap.push o1).push o2).push { cls:= .type "tuple",data:= .seq #[.ref s.heap.objs.size, .ref (s.heap.push o1).objs.size] }).push { cls:= .type "tuple",data:= .seq #[.none, .none] }).push { cls:= .type "zip",data:= .fields #[.none, .bool false, .bool false, .ref ((s.heap.push o1).push o2).objs.size, .ref (((s.heap.push o1).push o2).push { cls:= .type "tuple",data:= .seq #[.ref s.heap.objs.size, .ref (s.heap.push o1).objs.size] }).objs.size] } }):=
 .of_wp fun A R s h=>by
   obtain ⟨hp,g,d,tk,os⟩:=s;obtain ⟨q1,q2,h⟩:=h
   have hsub:=sub_zip
   have i1:=fun (A:Around) (E:Value→Shared→Prop) (Q:Value→Shared→Prop)=>s1 A E ⟨hp,g,d,tk,os⟩ Q q1
   have i2:=fun (A:Around) (E:Value→Shared→Prop) (Q:Value→Shared→Prop)=>s2 A E ⟨hp.push o1,g,d,tk,os⟩ Q q2
   wp_walk using i1 _ _ _,i2 _ _ _
   exact ⟨_,rfl,h⟩
end L2
namespace L2
open PySem PySem.Spec PyProof.Rows
section
variable {prog:Program} {w:World} {A:Around} {E:Value→Shared→Prop} {s:Shared} {it t:Addr} {i:Nat} {items:Array Value} {Q:Value→Shared→Prop}
theorem A7 {x:Value} (hit:s.heap.IsTupleIter it t i) (ht:s.heap.IsTuple t items) (hx:items[i]? = some x) (hQ:∀h',h'.IsTupleIter it t (i + 1)→Heap.SameBut it s.heap h'→Q x { s with heap:=h' }):wpAny (model prog w) A (Builtin.SmallTypes.nextOf (.ref it)) Q E s:=by
 obtain ⟨o,ho,hc,hd⟩:=id hit;obtain ⟨ol,dH,_,nl,hdl⟩:=ht;unfold Builtin.SmallTypes.nextOf
 refine wpAny_bind (wpAny_callSpecial?_slot (name:=Str.ofString "__next__") hit.typeIs F.slot_tuple_iterator_next (wpAny_call_entry F.slot_tuple_iterator_next hit.typeIs F.entry_tuple_iterator_next ?_ (F.args_tuple_iterator_next_1 _)))
 show wpAny _ _ (field (.ref it) 0 >>= _) _ _ s;refine wpAny_bind (wpAny_field ho hd (x:= .ref t) rfl ?_);show wpAny _ _ (if (Value.ref t == Value.none) = true then _ else _) _ _ s
 rw [if_neg (fun z=>Bool.false_ne_true z:¬ ((Value.ref t == Value.none) = true))];show wpAny _ _ (field (.ref it) 1 >>= _) _ _ s
 refine wpAny_bind (wpAny_field ho hd (x:= .int i 0) rfl ?_);show wpAny _ _ (seqItems? (.ref t) >>= _) _ _ s;refine wpAny_bind (wpAny_seqItems dH hdl ?_);simp only [Int.toNat_natCast,hx]
 refine wpAny_bind (wpAny_setField ho hd (by simp) (wpAny_pure ⟨x,rfl,wpAny_pure (hQ _ ?_ (Heap.SameBut.update ..))⟩));refine ⟨_,Heap.get?_update_self _ ho (Obj.isFreed_of_fields (Obj.data_mapFields hd _)),(Obj.cls_mapFields ..).trans hc,?_⟩;rw [Obj.data_mapFields hd];simp [rawInt]
theorem Dg (hh:A.handled = none) (hit:s.heap.IsTupleIter it t i) (ht:s.heap.IsTuple t items) (hx:items[i]? = none) (hE:∀h' e,Heap.ExtBut it s.heap h'→(∃o,h'.get? e = some o∧o.cls = .type "StopIteration")→E (.ref e) { s with heap:=h' }):wpAny (model prog w) A (Builtin.SmallTypes.nextOf (.ref it)) Q E s:=by
 obtain ⟨o,ho,hc,hd⟩:=id hit;obtain ⟨ol,dH,_,nl,hdl⟩:=ht;unfold Builtin.SmallTypes.nextOf
 refine wpAny_bind (wpAny_callSpecial?_slot (name:=Str.ofString "__next__") hit.typeIs F.slot_tuple_iterator_next (wpAny_call_entry F.slot_tuple_iterator_next hit.typeIs F.entry_tuple_iterator_next ?_ (F.args_tuple_iterator_next_1 _)))
 show wpAny _ _ (field (.ref it) 0 >>= _) _ _ s;refine wpAny_bind (wpAny_field ho hd (x:= .ref t) rfl ?_);show wpAny _ _ (if (Value.ref t == Value.none) = true then _ else _) _ _ s
 rw [if_neg (fun z=>Bool.false_ne_true z:¬ ((Value.ref t == Value.none) = true))];show wpAny _ _ (field (.ref it) 1 >>= _) _ _ s
 refine wpAny_bind (wpAny_field ho hd (x:= .int i 0) rfl ?_);show wpAny _ _ (seqItems? (.ref t) >>= _) _ _ s;refine wpAny_bind (wpAny_seqItems dH hdl ?_);simp only [Int.toNat_natCast,hx]
 refine wpAny_bind (wpAny_rule (wpAny_bind (wpAny_setField ho hd (by simp) ?_)));show wpAny _ _ (newExc (.type "StopIteration") [] >>= _) _ _ _;refine wpAny_bind ?_;simp only [newExc,newTuple]
 refine wpAny_bind (wpAny_newObj_type ?_ (by size_fits));refine wpAny_bind (m:=firstArgMember _ _) (wpAny_of_eq (a:=Value.none) (by first | rfl | (simp only [firstArgMember];rfl)) ?_);refine wpAny_newObj_type ?_ (by size_fits);simp only [raiseNew]
 refine wpAny_bind (wpAny_handled ?_);first | rw [show A.in1.handled = none from hh] | rw [hh]
 refine wpAny_bind (wpAny_pure (wpAny_throw ?_));exact hE _ _ (((Heap.SameBut.update ..).extBut.push _).push _) ⟨_,Heap.get?_push_size _ rfl,rfl⟩
end
theorem JI {P:Program} {w:World} {K:PySem.W.Frag} {xs:List V} {it l:Addr}:pK P w K (fun H=>bF K H l xs) xs it l (fun i h=>h.IsTupleIter it l i) (fun h=>∃its:List Value,Vals xs its∧h.IsTuple l its.toArray) where
 obj:=fun i h ⟨o,e,c,d⟩=>⟨o,e,fun v z=>by rw [d] at z;cases z⟩
 keep:=fun i h h' st k=>st.at k
 lR:=fun h h' ⟨its,r,o,e,q⟩ k=>⟨its,r,o,k o e,q⟩
 w6:=fun X hP hw hK pins σ H s I h=>by
  subst hP hw hK
  obtain ⟨its,rv,p,_⟩:=I.tuple h
  exact ⟨its,rv,p⟩
 item:=fun A i x s Q E st ⟨its,r,hl⟩ hx hQ=>by
  obtain ⟨u,hu,ru⟩:=r.get hx
  exact A7 st hl (by simpa using hu) fun h' st' sb=>hQ u h' ru st' sb
 done:=fun A i s Q E hh st ⟨its,r,hl⟩ hx hE=>Dg hh st hl (by have:=r.length;simp;omega) hE
end L2
namespace L2
open PySem PySem.Spec PyProof.Rows
theorem GO:typeLookup (.type "dict") "__len__" = pure (some (.builtin "dict.__len__")):=by rw [typeLookup_type,builtinLookup_eq_fast];kernel_rfl
section
variable {prog:Program} {w:World} {A:Around} {E:Value→Shared→Prop} {s:Shared} {K:Type} [DecidableEq K] {knd:KeyKind prog w K}
theorem rm {R:Result→Shared→Prop} (hh:A.handled = none) {d:Addr} {kvs:List (K × Value)} {ep:Nat} (hd:(d == sysModules) = false) (hm:s.heap.DictAt knd d kvs ep) (S:Addr) (hSd:S ≠ d) (res:Value) (c₀:Nat) (hS:s.heap.get? S = some { cls:= .type "list",data:= .seq #[] c₀ })
  (hR:∀h' tk acc' c',(∀b o,b ≠ S→s.heap.get? b = some o→h'.get? b = some o)→h'.get? S = some { cls:= .type "list",dict:=none,data:= .seq acc' c',slots:=#[] }→
    ItemsOf (fun i v=>∃k x,kvs[i]? = some (k,x)∧knd.is k v = true) acc' kvs.length→R (.ok (.ret res)) { s with heap:=h',toks:=tk }) (hn:kvs.length≤sizeLine):
  wpAny (model prog w) A.in1 (Builtin.List.listExtendWith (.ref S) (.ref d) res)
   (fun fin s'=>match fin with | .done f=>R (.ok f) s' | .again c'=>c'.quiet = true∧codeAny (model prog w) A c' R s') (fun e s'=>R (.error e) s') s:=by
 have hSI:S ≠ s.heap.objs.size:=Nat.ne_of_lt (Heap.lt_size hS)
 have hT:s.TypeIs (.ref d) "dict":=hm.dictOf.typeIs
 unfold Builtin.List.listExtendWith
 refine wpAny_bind (wpAny_typeOf (T:="dict") (v:= .ref d) hT ?_)
 have h1:Builtin.List.listSameRef (.ref S) (.ref d) = false:=by
  show (S == d) = false
  simpa using hSd
 have h2:(Value.type "dict" == Value.type "list") = false:=by decide
 have h3:(Value.type "dict" == Value.type "tuple") = false:=by decide
 simp only [h1,h2,h3,Bool.or_false,Bool.false_eq_true,if_false]
 refine wpAny_bind (wpAny_pyIter_dict hd hm ?_)
 refine wpAny_bind (wpAny_holding ?_)
 unfold Builtin.List.listLengthHint
 have hT2:({ s with heap:=s.heap.push { cls:= .type "dict_keyiterator",data:= .fields #[.ref d, .int 0 0, .int kvs.length 0, .int ep 0] } }:Shared).TypeIs (.ref d) "dict":=(hm.push _).dictOf.typeIs
 refine wpAny_bind (wpAny_specialOf (T:="dict") (v:= .ref d) hT2 GO ?_)
 wp_delta
 refine wpAny_bind (wpAny_isInstance (T:="dict") (v:= .ref d) (b:=true) hT2 (by rw [isSubtype_type];kernel_rfl) ?_)
 show wpAny _ _ (typeOf (Value.ref d) >>= _) _ _ _
 refine wpAny_bind (wpAny_typeOf (T:="dict") (v:= .ref d) hT2 ?_)
 refine wpAny_pure ?_
 have hne:d ≠ s.heap.objs.size:=Nat.ne_of_lt hm.lt_size
 have hSf:S ∉ [s.heap.objs.size,d] :=fun hm'=>by
  rcases List.mem_cons.mp hm' with z | z
  · exact hSI z
  · exact hSd (List.mem_singleton.mp z)
 show wpAny _ A.in1 (rule "list.extend.makes-room" >>= fun _=>Builtin.List.listTouch (.ref S) >>= fun _=>
  again (.builtin "list.extend.loop" ⟨[.ref S, .ref s.heap.objs.size,res],[]⟩)) _ _ _
 refine wpAny_bind (wpAny_rule ?_)
 refine wpAny_bind ?_
 show wpAny _ A.in1 (updateSeq S (·.push .none) >>= fun _=>updateSeq S (·.pop)) _ _ _
 have N9:=Heap.get?_push_of_some { cls:= .type "dict_keyiterator",data:= .fields #[.ref d, .int 0 0, .int kvs.length 0, .int ep 0] } hS
 refine wpAny_bind (wpAny_updateSeq N9 rfl ?_)
 have Ic:=Heap.get?_update_self (Obj.mapSeq (·.push Value.none)) N9 rfl
 refine wpAny_updateSeq (hz:=by seq_fits) Ic rfl ?_
 have Q5:=Heap.get?_update_self (Obj.mapSeq (·.pop)) Ic rfl
 have B8:∀b o,b ≠ S→(s.heap.push { cls:= .type "dict_keyiterator",data:= .fields #[.ref d, .int 0 0, .int kvs.length 0, .int ep 0] }).get? b = some o→(((s.heap.push { cls:= .type "dict_keyiterator",data:= .fields #[.ref d, .int 0 0, .int kvs.length 0, .int ep 0] }).update S (Obj.mapSeq (·.push Value.none))).update S (Obj.mapSeq (·.pop))).get? b = some o:=
  fun b o hb e=>(Heap.get?_update_other _ _ (Ne.symm hb)).trans ((Heap.get?_update_other _ _ (Ne.symm hb)).trans e)
 refine wpAny_pure ⟨plainId_quiet F.plain_extend_loop _,codeAny_extend_loopS (Walks.dictKeys (prog:=prog) (w:=w) (A:=A.in1) (knd:=knd) hh s.heap.objs.size d hne kvs ep).toS hn _ hSf _ kvs.length 0 _ _ _ rfl (Nat.zero_le _) ⟨⟨_,B8 _ _ (Ne.symm hSI) (Heap.get?_push_size _ rfl),rfl,rfl⟩,(hm.push _).at' fun o e=>B8 d o (Ne.symm hSd) e⟩ Q5 (ItemsOf.nil _) fun s' acc' c' hm2 hS' hacc=>?_⟩
 rw [Moved.eq_with hm2]
 refine hR s'.heap s'.toks acc' c' (fun b ob hb e=>hm2.heap b ob (fun hmem=>?_) (B8 b ob hb (Heap.get?_push_of_some _ e))) hS' hacc
 rcases List.mem_cons.mp hmem with e' | hmem
 · exact hb e'
 · exact absurd (Heap.lt_size e) (by rw [List.mem_singleton.mp hmem];exact Nat.lt_irrefl _)
theorem vI {Q:Value→Shared→Prop} (hh:A.handled = none) {d:Addr} {kvs:List (K × Value)} {ep:Nat} (hd:(d == sysModules) = false) (hm:s.heap.DictAt knd d kvs ep) (hn:kvs.length≤sizeLine)
  (hQ:∀h' tk acc' c',(∀b o,s.heap.get? b = some o→h'.get? b = some o)→
    h'.get? s.heap.objs.size = some { cls:= .type "list",dict:=none,data:= .seq acc' c',slots:=#[] }→ItemsOf (fun i v=>∃k x,kvs[i]? = some (k,x)∧knd.is k v = true) acc' kvs.length→Q (.ref s.heap.objs.size) { s with heap:=h',toks:=tk }):
  wpAny (model prog w) A (call (.type "list") [.ref d]) Q E s:=by
 refine callType_codes (Q₁:=fun obj s₁=>obj = .ref s.heap.objs.size∧s₁ = { s with heap:=s.heap.push { cls:= .type "list",data:= .seq #[] } }) F.called_list (F.typeCall_list_1 _) F.entry_list_init
  (code_list_new _ ⟨rfl,rfl⟩) fun obj s₁ h₁=>?_
 obtain ⟨rfl,rfl⟩:=h₁
 have hS:(s.heap.push { cls:= .type "list",data:= .seq #[] }).get? s.heap.objs.size = some { cls:= .type "list",data:= .seq #[] }:=Heap.get?_push_size _ rfl
 have hne:s.heap.objs.size ≠ d:=Nat.ne_of_gt hm.lt_size
 refine ⟨⟨_,hS,rfl⟩,F.args_list_init_2 _ _,?_⟩
 show wpAny _ _ (do let old ← Builtin.List.listItems (.ref s.heap.objs.size);Builtin.List.listUpdate (.ref s.heap.objs.size) (fun _=>#[]);letGo old.toList.reverse;Builtin.List.listExtendWith (.ref s.heap.objs.size) (.ref d) .none) _ _ _
 refine wpAny_bind ?_
 unfold Builtin.List.listItems
 refine wpAny_bind (wpAny_seqItems hS rfl (wpAny_pure ?_))
 show wpAny _ _ (updateSeq s.heap.objs.size (fun _=>#[]) >>= fun _=>letGo (#[] :Array Value).toList.reverse >>= fun _=>Builtin.List.listExtendWith (.ref s.heap.objs.size) (.ref d) .none) _ _ _
 refine wpAny_bind (wpAny_updateSeq hS rfl ?_)
 have Ic:=Heap.get?_update_self (Obj.mapSeq (fun _=>(#[] :Array Value))) hS rfl
 have B8:∀b o,b ≠ s.heap.objs.size→(s.heap.push { cls:= .type "list",data:= .seq #[] }).get? b = some o→((s.heap.push { cls:= .type "list",data:= .seq #[] }).update s.heap.objs.size (Obj.mapSeq (fun _=>(#[] :Array Value)))).get? b = some o:=
  fun b o hb e=>(Heap.get?_update_other _ _ (Ne.symm hb)).trans e
 refine wpAny_bind (wpAny_letGo ?_)
 refine rm (A:=A.in1) hh hd (hm.push _ |>.at' fun o e=>B8 d o hne.symm e) s.heap.objs.size hne .none _ Ic (fun h' tk acc' c' hk hS' hacc=>?_) hn
 exact ⟨rfl,hQ h' tk acc' c' (fun b o e=>hk b o (Nat.ne_of_lt (Heap.lt_size e)) (B8 b o (Nat.ne_of_lt (Heap.lt_size e)) (Heap.get?_push_of_some _ e))) hS' hacc⟩
end
end L2
namespace L2
open PySem PySem.Spec PyProof.Rows
theorem w_ {α β:Type} {F:α→β→Prop}:∀{l₁:List α} {l₂:List β},l₁.length = l₂.length→(∀(i:Nat) (x:α) (y:β),l₁[i]? = some x→l₂[i]? = some y→F x y)→Paired F l₁ l₂
 | [],[],_,_=> .nil
 | x :: xs,y :: ys,h,f=> .cons (f 0 x y rfl rfl) (w_ (by simpa using h) fun i a b ha hb=>f (i + 1) a b (by simpa using ha) (by simpa using hb))
def Ie (v d:Addr):HO:= .ext fun h=>h.IsValuesView v d
section
variable {X:Cx}
inductive Wk (K:PySem.W.Frag) (H:Hp):V→(Hp→Prop)→List V→Prop
 | lst {l:Addr} {xs:List V}:aE K H l xs→Wk K H (.ref l) (fun H=>aE K H l xs) xs
 | tup {l:Addr} {xs:List V}:bF K H l xs→Wk K H (.ref l) (fun H=>bF K H l xs) xs
 | keys {d:Addr} {o:Obj} {kvs:List (Key × V)}:jy H d o kvs→Wk K H (.ref d) (fun H=>jy H d o kvs) (kvs.map fun p=>kV p.1)
 | vals {v d:Addr} {o:Obj} {kvs:List (Key × V)}:H v = some (Ie v d)→jy H d o kvs→Wk K H (.ref v) (fun H=>jy H d o kvs) (kvs.map fun p=>p.2)
theorem Wk.ok {pins:List (Addr × Obj)} {σ:St} {H:Hp} {s:Shared} {u:V} {uv:Value} {S:Hp→Prop} {xs:List V} (k:Wk X.K H u S xs) (I:Inv X pins σ H s) (r:RelV u uv):
  S H∧∃(l:Addr) (o:Obj) (p:Heap→Prop),l < s.heap.objs.size∧p s.heap∧(∀h (ob:Obj),p h→p (h.push ob))∧(∀h:Heap,(h.push o).get? h.objs.size = some o)∧ze X.prog X.w uv o p∧∀it:Addr,∃tn src,pK X.prog X.w X.K S xs it l tn src∧∀h:Heap,h.get? it = some o→tn 0 h:=by
 cases k with
 | @lst l xs hS=>
   cases r
   obtain ⟨its,rv,p,_⟩:=I.list hS
   obtain ⟨ol,dH,_⟩:=id p.isList
   refine ⟨hS,l,_,fun h=>h.IsList l its.toArray,Heap.lt_size dH,p.isList,fun h ob q=>q.push ob,fun h=>Heap.get?_push_size _ rfl,fun A E s Q q h=>wpAny_pyIter_list q h,fun it=>⟨_,_,GJ,fun h e=>⟨_,e,rfl,rfl⟩⟩⟩
 | @tup l xs hS=>
   cases r
   obtain ⟨its,rv,p,_⟩:=I.tuple hS
   obtain ⟨ol,dH,q0⟩:=id p
   refine ⟨hS,l,_,fun h=>h.IsTuple l its.toArray,Heap.lt_size dH,p,fun h ob ⟨o1,a,b⟩=>⟨o1,Heap.get?_push_of_some _ a,b⟩,fun h=>Heap.get?_push_size _ rfl,fun A E s Q q h=>wpAny_pyIter_tuple q h,fun it=>⟨_,_,JI,fun h e=>⟨_,e,rfl,rfl⟩⟩⟩
 | @keys d o kvs hz=>
   cases r
   obtain ⟨ho,hl,hsys,vs,ep,rel,da⟩:=I.nQ hz
   obtain ⟨o',es,h1,_,h2,_⟩:=id da
   rw [ho] at h1;cases h1
   have el:kvs.length = vs.length:=rel.length
   refine ⟨hz,d,_,fun h=>h.DictAt (bL X.prog X.w) d vs ep,Heap.lt_size ho,da,fun h ob q=>q.push ob,fun h=>Heap.get?_push_size _ rfl,fun A E s Q q h=>wpAny_pyIter_dict hsys q h,fun it=>⟨_,_,GK h2,fun h e=>?_⟩⟩
   rw [el]
   exact ⟨_,e,rfl,rfl⟩
 | @vals v d o kvs hv hz=>
   cases r
   obtain ⟨ho,hl,hsys,vs,ep,rel,da⟩:=I.nQ hz
   obtain ⟨o',es,h1,_,h2,_⟩:=id da
   rw [ho] at h1;cases h1
   have el:kvs.length = vs.length:=rel.length
   obtain ⟨hv',_⟩:=(show bT X.prog X.w H s.heap v (Ie v d) from I.hok v _ hv)
   refine ⟨hz,d,_,fun h=>h.IsValuesView v d∧h.DictAt (bL X.prog X.w) d vs ep,Heap.lt_size ho,⟨hv',da⟩,fun h ob ⟨⟨o1,a,b⟩,q⟩=>⟨⟨o1,Heap.get?_push_of_some _ a,b⟩,q.push ob⟩,fun h=>Heap.get?_push_size _ rfl,fun A E s Q q h=>wpAny_pyIter_values q.1 q.2 h,fun it=>⟨_,_,GL h2,fun h e=>?_⟩⟩
   rw [el]
   exact ⟨_,e,rfl,rfl⟩
variable {elts:List Expr} {kk:Nat} {tpos:Pos}
def Nd (K:PySem.W.Frag) (ta:TA):TI:=fun σ H R=>ta σ H fun vs H1=>∃u1 u2 S1 S2 xs ys,vs = [u1,u2]∧Wk K H1 u1 S1 xs∧Wk K H1 u2 S2 ys∧R (Le S1 S2 xs ys) H1
theorem vJ (K:PySem.W.Frag) {a b:Expr} {ta:TA} {p pos:Pos} (hg:Gl X "zip") (hm:X.mg "zip" = none) (ha:PA X [a,b] ta) (hK:X.K = K:=by rfl)
  (hs:starEach [a,b] X.env = [(false,eval a X.env),(false,eval b X.env)] :=by rfl) (hs2:starEach [b] X.env = [(false,eval b X.env)] :=by rfl):
  PI X (.Tuple elts kk tpos) (.Call (.Name "zip" p) [a,b] [] pos) (Nd K ta):=by
 subst hK
 intro pins s σ H R I h
 refine Call_ (o7 I hg hm boot_zip (PyProof.Rows.callWith_type1 (aL (ha pos pins s σ H _ I h) fun us s1 ⟨vs,H1,I1,r1,q1⟩=>?_) (by rw [hs,hs2]) (by rw [hs2];rfl)))
 obtain ⟨u1,u2,S1,S2,xs,ys,e,k1,k2,q⟩:=q1
 subst e
 obtain ⟨u,w',rfl,ru,rw'⟩:=vals2 r1
 obtain ⟨g1,l1,o1,p1,Q6,b1,Sg,Q7,st1,c1⟩:=k1.ok I1 ru
 obtain ⟨g2,l2,o2,p2,Q8,b2,Nf,at2,st2,c2⟩:=k2.ok I1 rw'
 refine callType_newIn F.called_zip (by decide) (F.typeCall_zip_2 _ _) (F.newCall_zip_2 _ _) (fun obj=>F.args_object_init_3 obj _ _) F.entry_zip_new (Df st1 st2) ⟨b1,Nf _ _ b2,?_⟩
 have z1:(s1.heap.push o1).objs.size = s1.heap.objs.size + 1:=Heap.size_push ..
 have z2:((s1.heap.push o1).push o2).objs.size = s1.heap.objs.size + 2:=by rw [Heap.size_push,z1]
 generalize e3:({ cls:= .type "tuple",data:= .seq #[.ref s1.heap.objs.size, .ref (s1.heap.push o1).objs.size] }:Obj) = o3
 have z3:(((s1.heap.push o1).push o2).push o3).objs.size = s1.heap.objs.size + 3:=by rw [Heap.size_push,z2]
 generalize e4:({ cls:= .type "tuple",data:= .seq #[.none, .none] }:Obj) = o4
 have z4:((((s1.heap.push o1).push o2).push o3).push o4).objs.size = s1.heap.objs.size + 4:=by rw [Heap.size_push,z3]
 generalize e5:({ cls:= .type "zip",data:= .fields #[.none, .bool false, .bool false, .ref ((s1.heap.push o1).push o2).objs.size, .ref (((s1.heap.push o1).push o2).push o3).objs.size] }:Obj) = o5
 have g5:(((((s1.heap.push o1).push o2).push o3).push o4).push o5).get? ((((s1.heap.push o1).push o2).push o3).push o4).objs.size = some o5:=Heap.get?_push_size _ (by rw [← e5];rfl)
 have g4:(((((s1.heap.push o1).push o2).push o3).push o4).push o5).get? (((s1.heap.push o1).push o2).push o3).objs.size = some o4:=Heap.get?_push_of_some _ (Heap.get?_push_size _ (by rw [← e4];rfl))
 have g3:(((((s1.heap.push o1).push o2).push o3).push o4).push o5).get? ((s1.heap.push o1).push o2).objs.size = some o3:=Heap.get?_push_of_some _ (Heap.get?_push_of_some _ (Heap.get?_push_size _ (by rw [← e3];rfl)))
 have N_:(((((s1.heap.push o1).push o2).push o3).push o4).push o5).get? (s1.heap.push o1).objs.size = some o2:=Heap.get?_push_of_some _ (Heap.get?_push_of_some _ (Heap.get?_push_of_some _ (at2 _)))
 have Q9:(((((s1.heap.push o1).push o2).push o3).push o4).push o5).get? s1.heap.objs.size = some o1:=Heap.get?_push_of_some _ (Heap.get?_push_of_some _ (Heap.get?_push_of_some _ (Heap.get?_push_of_some _ (Q7 _))))
 have kp:∀c o,s1.heap.get? c = some o→(((((s1.heap.push o1).push o2).push o3).push o4).push o5).get? c = some o:=fun c o x=>Heap.get?_push_of_some _ (Heap.get?_push_of_some _ (Heap.get?_push_of_some _ (Heap.get?_push_of_some _ (Heap.get?_push_of_some _ x))))
 rw [z4] at g5 ⊢
 rw [z3] at g4 e5
 rw [z2] at g3 e5
 rw [z1] at N_ e3
 generalize (((((s1.heap.push o1).push o2).push o3).push o4).push o5) = hN at *
 show _∧_
 subst e3 e4 e5
 refine ⟨⟨_,g5,rfl⟩,wpAny_pyIter_zip (s:={ s1 with heap:=hN }) g5 ?_⟩
 have I2:Inv X pins σ H1 { s1 with heap:=hN }:=I1.kept (t':=s1.toks) kp
 obtain ⟨t1,Sh,C1,n1⟩:=c1 s1.heap.objs.size
 obtain ⟨t2,Si,C2,n2⟩:=c2 (s1.heap.objs.size + 1)
 refine ⟨s1.heap.objs.size + 4,[s1.heap.objs.size + 4,s1.heap.objs.size + 2,s1.heap.objs.size + 3,s1.heap.objs.size,s1.heap.objs.size + 1],_,_,H1,rfl,I2,EZ (A0 Q6 Q8) C1 C2,⟨g5,g3,⟨_,_,g4⟩,n1 _ Q9,n2 _ N_⟩,fun b hb=>?_,q⟩
 have hb':b = s1.heap.objs.size + 4∨b = s1.heap.objs.size + 2∨b = s1.heap.objs.size + 3∨b = s1.heap.objs.size∨b = s1.heap.objs.size + 1:=by simpa using hb
 have le:s1.heap.objs.size≤b:=by
  rcases hb' with r | r | r | r | r
  · rw [r];exact Nat.le_add_right _ _
  · rw [r];exact Nat.le_add_right _ _
  · rw [r];exact Nat.le_add_right _ _
  · rw [r];exact Nat.le_refl _
  · rw [r];exact Nat.le_add_right _ _
 exact I1.yC le (I1.hok.fresh le)
theorem Dh (hc:X.calm = true):dS X (.type "list") (fun xs H Q=>∃(d:Addr) (kvs:List (Key × V)),xs = [.ref d]∧Rd H d (.dK kvs)∧∀l,H l = none→Q (.ref l) (upd H l (.lst (kvs.map fun p=>kV p.1)))):=by
 intro pins s σ H xs us Q I r h
 obtain ⟨d,kvs,rfl,hz,q⟩:=h
 obtain ⟨u,rfl,ru⟩:=vals1 r
 cases ru
 obtain ⟨hsz,hsys,vs,rel,dd⟩:=lQ I.hok hz
 obtain ⟨ep,da⟩:=dd.dictAt
 have hl:kvs.length = vs.length:=rel.length
 refine vI (I.ok.hd hc) hsys da (by omega) fun h' tk acc' c' kp e it=>?_
 refine ⟨.ref s.heap.objs.size,_,I.laid (t':=tk) kp (Nat.le_refl _) (show bT X.prog X.w _ h' _ (.lst (kvs.map fun p=>kV p.1)) from ⟨by rw [List.length_map];exact hsz,acc'.toList,c',?_,by rw [e]⟩),rfl,q _ I.fresh⟩
 obtain ⟨sz,hit⟩:=it
 have hA:acc'.toList.length = acc'.size:=by simp
 have hB:(kvs.map fun p=>kV p.1).length = acc'.toList.length:=by rw [List.length_map];omega
 refine w_ hB fun i x y hx hy=>?_
 rw [List.getElem?_map] at hx
 obtain ⟨p,hp,rfl⟩:=Option.map_eq_some_iff.mp hx
 obtain ⟨k,v,hk,hkk⟩:=hit i y (by simpa using hy)
 obtain ⟨q',hq',ek,_⟩:=uD rel hp
 rw [hk] at hq'
 cases hq'
 rw [ek]
 exact EV hkk
end
end L2
namespace L2
open PySem PySem.Spec PyProof.Rows
def bV:St→List Nat→List V→St
 | σ,k :: ks,v :: vs=>bV (σ.set k (some v)) ks vs
 | σ,_,_=>σ
theorem uF {k:Nat} {v:Option V}:∀{ks:List Nat} {vs:List V} {σ:St},k ∉ ks→(bV σ ks vs).set k v = bV (σ.set k v) ks vs
 | [],_,_,_=>by unfold bV;rfl
 | _ :: _,[],_,_=>by unfold bV;rfl
 | j :: ks,w :: vs,σ,h=>by
   have hj:k ≠ j:=fun e=>h (by rw [e];exact List.mem_cons_self)
   show (bV (σ.set j (some w)) ks vs).set k v = bV ((σ.set k v).set j (some w)) ks vs
   rw [uF (fun m=>h (List.mem_cons_of_mem _ m)),List.set_comm _ _ hj]
theorem kH:∀{ks:List Nat} {vs ws:List V} {σ:St},ks.Nodup→vs.length = ks.length→ws.length = ks.length→bV (bV σ ks vs) ks ws = bV σ ks ws
 | [],[],[],_,_,_,_=>rfl
 | k :: ks,v :: vs,w :: ws,σ,nd,h1,h2=>by
   have nk:=(List.nodup_cons.mp nd).1
   show bV ((bV (σ.set k (some v)) ks vs).set k (some w)) ks ws = bV (σ.set k (some w)) ks ws
   rw [uF nk,List.set_set,kH (List.nodup_cons.mp nd).2 (by simpa using h1) (by simpa using h2)]
def Ig:List Nat→tZ
 | []=>Kh
 | k :: ks=>HP (dI k) (Ig ks)
theorem zf {Q:St→Hp→Prop} {H:Hp}:∀{ks:List Nat} {vs:List V} {σ:St},vs.length = ks.length→Q (bV σ ks vs) H→Ig ks vs σ H Q
 | [],[],_,_,q=>⟨rfl,q⟩
 | k :: ks,v :: vs,σ,h,q=>⟨v,vs,rfl,zf (by simpa using h) q⟩
theorem zg {K:PySem.W.Frag} {J:It} {n:Nat} (ks:List Nat) {te:TE} {σ2:St} {H:Hp} {acc:Addr} {Q:VK} (Pv:Nat→List V→Hp→Prop) (nd:ks.Nodup) (hn:n≤100000) (h0:Pv 0 [] (upd H acc (.lst [])))
  (hgo:∀i out H1,i < n→H1 acc = some (.lst out)→Pv i out H1→J.go i H1) (hst:∀out H1,H1 acc = some (.lst out)→Pv n out H1→J.stop n H1)
  (hs:∀(i:Nat) (x:V) (out:List V) (H1 H2:Hp),i < n→out.length = i→H1 acc = some (.lst out)→Pv i out H1→J.mU i H1 x H2→
    ∃t vs,x = .ref t∧bF K H2 t vs∧vs.length = ks.length∧te (bV σ2 ks vs) H2 fun v H4=>H4 acc = some (.lst out)∧Pv (i + 1) (out ++ [v]) (upd H4 acc (.lst (out ++ [v]))))
  (hd:∀(out:List V) (H1:Hp),out.length = n→H1 acc = some (.lst out)→Pv n out H1→Q (.ref acc) H1):
  qN J (CN K ks.length (Ig ks)) te acc σ2 H Q:=by
 refine ⟨fun i m σ' H'=>m = n - i∧i≤n∧(∀ws,ws.length = ks.length→bV σ' ks ws = bV σ2 ks ws)∧∃out,out.length = i∧H' acc = some (.lst out)∧Pv i out H',⟨n,by simp,Nat.zero_le _,fun _ _=>rfl,[],rfl,ai,h0⟩,?_⟩
 rintro i m σ' H' ⟨rfl,hi,hσ,out,ho,ha,p⟩
 by_cases hlt:i < n
 · refine .inr ⟨hgo i out H' hlt ha p,fun σ3=>∀ws,ws.length = ks.length→bV σ3 ks ws = bV σ2 ks ws,fun v H4=>H4 acc = some (.lst out)∧Pv (i + 1) (out ++ [v]) (upd H4 acc (.lst (out ++ [v]))),fun σ3 v H4 hS ⟨a,b⟩=>?_,fun x H1 y=>?_⟩
   · refine ⟨out,a,?_,n - (i + 1),by omega,rfl,hlt,hS,out ++ [v],by rw [List.length_append,ho];rfl,ai,b⟩
     have:sizeLine = 16777216:=sizeLine_eq
     omega
   · obtain ⟨t,vs,rfl,sq,hl,q⟩:=hs i x out H' H1 hlt ho ha p y
     refine ⟨t,vs,rfl,sq,hl,zf hl ⟨fun ws hw=>?_,?_⟩⟩
     · rw [kH nd hl hw];exact hσ ws hw
     · rw [hσ vs hl];exact q
 · have e:i = n:=by omega
   subst e
   exact .inl ⟨hst out H' ha p,hd out H' ho ha p⟩
theorem JJ {K:PySem.W.Frag} {J:It} {n:Nat} (ks:List Nat) {tc:TT} {te:TE} {σ2:St} {H:Hp} {acc:Addr} {Q:VK} (Pv:Nat→List V→Hp→Prop) (nd:ks.Nodup) (hn:n≤100000) (h0:Pv 0 [] (upd H acc (.lst [])))
  (hgo:∀i out H1,i < n→H1 acc = some (.lst out)→Pv i out H1→J.go i H1) (hst:∀out H1,H1 acc = some (.lst out)→Pv n out H1→J.stop n H1)
  (hs:∀(i:Nat) (x:V) (out:List V) (H1 H2:Hp),i < n→out.length≤i→H1 acc = some (.lst out)→Pv i out H1→J.mU i H1 x H2→
    ∃t vs,x = .ref t∧bF K H2 t vs∧vs.length = ks.length∧tc (bV σ2 ks vs) H2 fun b H3=>if b = true then te (bV σ2 ks vs) H3 (fun v H4=>H4 acc = some (.lst out)∧Pv (i + 1) (out ++ [v]) (upd H4 acc (.lst (out ++ [v])))) else H3 acc = some (.lst out)∧Pv (i + 1) out H3)
  (hd:∀(out:List V) (H1:Hp),out.length≤n→H1 acc = some (.lst out)→Pv n out H1→Q (.ref acc) H1):
  uC J (CN K ks.length (Ig ks)) tc te acc σ2 H Q:=by
 refine ⟨fun i m σ' H'=>m = n - i∧i≤n∧(∀ws,ws.length = ks.length→bV σ' ks ws = bV σ2 ks ws)∧∃out,out.length≤i∧H' acc = some (.lst out)∧Pv i out H',⟨n,by simp,Nat.zero_le _,fun _ _=>rfl,[],Nat.le_refl _,ai,h0⟩,?_⟩
 rintro i m σ' H' ⟨rfl,hi,hσ,out,ho,ha,p⟩
 by_cases hlt:i < n
 · refine .inr ⟨hgo i out H' hlt ha p,fun σ3=>∀ws,ws.length = ks.length→bV σ3 ks ws = bV σ2 ks ws,fun v H4=>H4 acc = some (.lst out)∧Pv (i + 1) (out ++ [v]) (upd H4 acc (.lst (out ++ [v]))),fun H3=>H3 acc = some (.lst out)∧Pv (i + 1) out H3,fun σ3 v H4 hS ⟨a,b⟩=>?_,fun σ3 H4 hS ⟨a,b⟩=>?_,fun x H1 y=>?_⟩
   · refine ⟨out,a,?_,n - (i + 1),by omega,rfl,hlt,hS,out ++ [v],by rw [List.length_append];exact Nat.succ_le_succ ho,ai,b⟩
     have:sizeLine = 16777216:=sizeLine_eq
     omega
   · exact ⟨n - (i + 1),by omega,rfl,hlt,hS,out,by omega,a,b⟩
   · obtain ⟨t,vs,rfl,sq,hl,q⟩:=hs i x out H' H1 hlt ho ha p y
     refine ⟨t,vs,rfl,sq,hl,zf hl ⟨fun ws hw=>?_,?_⟩⟩
     · rw [kH nd hl hw];exact hσ ws hw
     · rw [hσ vs hl];exact q
 · have e:i = n:=by omega
   subst e
   exact .inl ⟨hst out H' ha p,hd out H' ho ha p⟩
theorem m9 {J:It} {n:Nat} (k:Nat) {te:TE} {σ2:St} {H:Hp} {acc:Addr} {Q:VK} (Pv:Nat→List V→Hp→Prop) (hn:n≤100000) (h0:Pv 0 [] (upd H acc (.lst [])))
  (hgo:∀i out H1,i < n→H1 acc = some (.lst out)→Pv i out H1→J.go i H1) (hst:∀out H1,H1 acc = some (.lst out)→Pv n out H1→J.stop n H1)
  (hs:∀(i:Nat) (x:V) (out:List V) (H1 H2:Hp),i < n→out.length = i→H1 acc = some (.lst out)→Pv i out H1→J.mU i H1 x H2→
    te (σ2.set k (some x)) H2 fun v H4=>H4 acc = some (.lst out)∧Pv (i + 1) (out ++ [v]) (upd H4 acc (.lst (out ++ [v]))))
  (hd:∀(out:List V) (H1:Hp),out.length = n→H1 acc = some (.lst out)→Pv n out H1→Q (.ref acc) H1):
  qN J (dI k) te acc σ2 H Q:=by
 refine ⟨fun i m σ' H'=>m = n - i∧i≤n∧(∀w:Option V,σ'.set k w = σ2.set k w)∧∃out,out.length = i∧H' acc = some (.lst out)∧Pv i out H',⟨n,by simp,Nat.zero_le _,fun _=>rfl,[],rfl,ai,h0⟩,?_⟩
 rintro i m σ' H' ⟨rfl,hi,hσ,out,ho,ha,p⟩
 by_cases hlt:i < n
 · refine .inr ⟨hgo i out H' hlt ha p,fun σ3=>∀w:Option V,σ3.set k w = σ2.set k w,fun v H4=>H4 acc = some (.lst out)∧Pv (i + 1) (out ++ [v]) (upd H4 acc (.lst (out ++ [v]))),fun σ3 v H4 hS ⟨a,b⟩=>?_,fun x H1 y=>?_⟩
   · refine ⟨out,a,?_,n - (i + 1),by omega,rfl,hlt,hS,out ++ [v],by rw [List.length_append,ho];rfl,ai,b⟩
     have:sizeLine = 16777216:=sizeLine_eq
     omega
   · refine ⟨fun w=>by rw [List.set_set];exact hσ w,?_⟩
     rw [hσ]
     exact hs i x out H' H1 hlt ho ha p y
 · have e:i = n:=by omega
   subst e
   exact .inl ⟨hst out H' ha p,hd out H' ho ha p⟩
theorem JK {J:It} {n:Nat} (k:Nat) {tc:TT} {te:TE} {σ2:St} {H:Hp} {acc:Addr} {Q:VK} (Pv:Nat→List V→Hp→Prop) (hn:n≤100000) (h0:Pv 0 [] (upd H acc (.lst [])))
  (hgo:∀i out H1,i < n→H1 acc = some (.lst out)→Pv i out H1→J.go i H1) (hst:∀out H1,H1 acc = some (.lst out)→Pv n out H1→J.stop n H1)
  (hs:∀(i:Nat) (x:V) (out:List V) (H1 H2:Hp),i < n→out.length≤i→H1 acc = some (.lst out)→Pv i out H1→J.mU i H1 x H2→
    tc (σ2.set k (some x)) H2 fun b H3=>if b = true then te (σ2.set k (some x)) H3 (fun v H4=>H4 acc = some (.lst out)∧Pv (i + 1) (out ++ [v]) (upd H4 acc (.lst (out ++ [v])))) else H3 acc = some (.lst out)∧Pv (i + 1) out H3)
  (hd:∀(out:List V) (H1:Hp),out.length≤n→H1 acc = some (.lst out)→Pv n out H1→Q (.ref acc) H1):
  uC J (dI k) tc te acc σ2 H Q:=by
 refine ⟨fun i m σ' H'=>m = n - i∧i≤n∧(∀w:Option V,σ'.set k w = σ2.set k w)∧∃out,out.length≤i∧H' acc = some (.lst out)∧Pv i out H',⟨n,by simp,Nat.zero_le _,fun _=>rfl,[],Nat.le_refl _,ai,h0⟩,?_⟩
 rintro i m σ' H' ⟨rfl,hi,hσ,out,ho,ha,p⟩
 by_cases hlt:i < n
 · refine .inr ⟨hgo i out H' hlt ha p,fun σ3=>∀w:Option V,σ3.set k w = σ2.set k w,fun v H4=>H4 acc = some (.lst out)∧Pv (i + 1) (out ++ [v]) (upd H4 acc (.lst (out ++ [v]))),fun H3=>H3 acc = some (.lst out)∧Pv (i + 1) out H3,fun σ3 v H4 hS ⟨a,b⟩=>?_,fun σ3 H4 hS ⟨a,b⟩=>?_,fun x H1 y=>?_⟩
   · refine ⟨out,a,?_,n - (i + 1),by omega,rfl,hlt,hS,out ++ [v],by rw [List.length_append];exact Nat.succ_le_succ ho,ai,b⟩
     have:sizeLine = 16777216:=sizeLine_eq
     omega
   · exact ⟨n - (i + 1),by omega,rfl,hlt,hS,out,by omega,a,b⟩
   · refine ⟨fun w=>by rw [List.set_set];exact hσ w,?_⟩
     rw [hσ]
     exact hs i x out H' H1 hlt ho ha p y
 · have e:i = n:=by omega
   subst e
   exact .inl ⟨hst out H' ha p,hd out H' ho ha p⟩
end L2
namespace L2
open PySem PySem.Spec PyProof.Rows
structure Mn (P:Program) (w:World) (K:PySem.W.Frag) (mg:Str→Option Value) (base:Heap) (k:Nat) (C:Addr) (m:Str) (ps:List Str) (sp:Sp):Prop where
 ex:∃f fd,dU P w K mg base m5 k f fd ps sp∧Binds K fd ps []∧Meth K C m f∧jq K C
structure Cn (P:Program) (w:World) (K:PySem.W.Frag) (mg:Str→Option Value) (base:Heap) (k:Nat) (x:Str) (C:Addr) (ps:List Str) (sp:Sp):Prop where
 ex:∃f fd,dU P w K mg base m5 k f fd ps sp∧Binds K fd ps []∧Mk K C f∧mg x = some (.ref C)
section
variable {X:Cx}
theorem jz {pl:Sem Bool} {j k:Nat} {C:Addr} {m:Str} {ps:List Str} {sp:Sp} {o e:Expr} {es:List Expr} {ta:TE} {t:TA} {apos pos:Pos} (D:Mn X.prog X.w X.K X.mg X.base j C m ps sp) (hr:bU k X.A) (ho:PE X o ta) (ha:PA X (e :: es) t) (hj:j≤k:=by decide)
  (hst:starEach (e :: es) X.env = (false,eval e X.env) :: starEach es X.env:=by rfl) (hpl:(backTo pos (starEach es X.env)).any (·.1) = false:=by rfl)
  (ht:eval (.Call (.Attribute o m apos) (e :: es) [] pos) X.env = (do
    let ov ← eval o X.env
    standAt apos.atName
    let (f,first) ← holding [ov] (getMethod ov m pl)
    callWith pos f first (backTo pos (starEach (e :: es) X.env)) (backToKw pos (keywordEach [] X.env))):=by rfl):
  PE X (.Call (.Attribute o m apos) (e :: es) [] pos) (uf C m sp [] E0 ta t):=by
 obtain ⟨f,fd,F,b,hm,c⟩:=D.ex
 exact BQ (pl:=pl) ho c hm F (hr.mono hj) b .nil (fun _ _ _ _ _ _ _ h=>h.elim) ha hst hpl ht
theorem qR {pl:Sem Bool} {j k:Nat} {C:Addr} {m:Str} {ps:List Str} {sp:Sp} {o:Expr} {ta:TE} {apos pos:Pos} (D:Mn X.prog X.w X.K X.mg X.base j C m ps sp) (hr:bU k X.A) (ho:PE X o ta) (hj:j≤k:=by decide)
  (ht:eval (.Call (.Attribute o m apos) [] [] pos) X.env = (do
    let ov ← eval o X.env
    standAt apos.atName
    let (f,first) ← holding [ov] (getMethod ov m pl)
    callWith pos f first (backTo pos (starEach [] X.env)) (backToKw pos (keywordEach [] X.env))):=by rfl):
  PE X (.Call (.Attribute o m apos) [] [] pos) (uf C m sp [] E0 ta jF):=by
 obtain ⟨f,fd,F,b,hm,c⟩:=D.ex
 exact Gi (pl:=pl) ho c hm F (hr.mono hj) b .nil (fun _ _ _ _ _ _ _ h=>h.elim) ht
theorem Ng {j k:Nat} {x:Str} {C:Addr} {ps:List Str} {sp:Sp} {e:Expr} {es:List Expr} {t:TA} {p pos:Pos} (D:Cn X.prog X.w X.K X.mg X.base j x C ps sp) (hr:bU k X.A) (ha:PA X (e :: es) t) (hj:j + 1≤k:=by decide) (hg:Gl X x:=by rfl)
  (hdb:(x == ("__debug__":Str)) = false:=by decide) (he:starEach (e :: es) X.env = (false,eval e X.env) :: starEach es X.env:=by rfl) (hpl:(backTo pos (starEach es X.env)).any (·.1) = false:=by rfl):
  PE X (.Call (.Name x p) (e :: es) [] pos) (yi C sp [] E0 t):=by
 obtain ⟨f,fd,F,b,M,m⟩:=D.ex
 exact Jg M F (hr.mono hj) hg m b .nil (fun _ _ _ _ _ _ _ h=>h.elim) ha hdb he hpl
theorem E1 {j k:Nat} {x:Str} {C:Addr} {ps:List Str} {sp:Sp} {p pos:Pos} (D:Cn X.prog X.w X.K X.mg X.base j x C ps sp) (hr:bU k X.A) (hj:j + 1≤k:=by decide) (hg:Gl X x:=by rfl)
  (hdb:(x == ("__debug__":Str)) = false:=by decide):PE X (.Call (.Name x p) [] [] pos) (yi C sp [] E0 jF):=by
 obtain ⟨f,fd,F,b,M,m⟩:=D.ex
 exact Gj M F (hr.mono hj) hg m b .nil (fun _ _ _ _ _ _ _ h=>h.elim) hdb
theorem aU (K:PySem.W.Frag) {e:Expr} {f:Str} {ta:TE} {pos:Pos} (he:PE X e ta) (hb:attributeBase e f X.env (eval e X.env) = eval e X.env:=by rfl) (hK:X.K = K:=by rfl):PE X (.Attribute e f pos) (Ku K ta f):=hK ▸ Kw he hb
theorem c6 (K:PySem.W.Frag) {o value:Expr} {f:Str} {ta tv:TE} {pos pos':Pos} (ha:PE X o ta) (hv:PE X value tv) (hs:swapsWith value (some (.Attribute o f pos')) pos.line X.env = pure false:=by rfl) (hK:X.K = K:=by rfl):PS X (.Assign [.Attribute o f pos'] value pos) (Kv K ta tv f):=hK ▸ Ky ha hv hs
end
structure gQ (K:PySem.W.Frag) (C:Addr) (m qual:Str) (st:Stmt) (f:Addr) (fd:FuncData):Prop where
 fn:wV K m qual st f fd
 me:Meth K C m f
 cl:jq K C
theorem gQ.ok {P:Program} {w:World} {K:PySem.W.Frag} {mg:Str→Option Value} {base:Heap} {C:Addr} {m qual:Str} {st:Stmt} {f:Addr} {fd:FuncData} {N ps:List Str} {k:Nat} {sp:Sp} (F:gQ K C m qual st f fd) (S:aI N ps (au st)) (len:∀vs H Q E,sp vs H Q E→vs.length = ps.length)
  (hbody:∀(cdv:Value) (A:Around) (outer:List Env) (s:Shared) (H:Hp) (vs:List V) (Q:VK) (E:XK),bU k (A.deeper (envOfC qual (au st) s.heap.objs.size f cdv))→sp vs H Q E→
    ∃t,gy (bP m5 P w K mg base N qual (au st) f cdv A outer s H E).yz (bR st) t∧t { nx:=fun _ H'=>Q .bE H',rt:=Q } (start N vs) H)
  (h:∀(kV doc pm:Value) (an:Option Addr) (cdv ct:Value) (us:List Value),us.length = ps.length→bindArgs (PySem.W.fnOf m qual (cO st) (bR st) (au st) .none kV doc pm an cdv ct) ⟨us,[]⟩ = pure (ps.zip us)):
  Mn P w K mg base (k + 1) C m ps sp:=⟨f,fd,F.fn.ok S len hbody,F.fn.binds h,F.me,F.cl⟩
structure B9 (K:PySem.W.Frag) (mg:Str→Option Value) (x:Str) (C:Addr) (qual:Str) (st:Stmt) (f:Addr) (fd:FuncData):Prop where
 fn:wV K "__init__" qual st f fd
 Q_:Mk K C f
 name:mg x = some (.ref C)
theorem B9.ok {P:Program} {w:World} {K:PySem.W.Frag} {mg:Str→Option Value} {base:Heap} {C:Addr} {x qual:Str} {st:Stmt} {f:Addr} {fd:FuncData} {N ps:List Str} {k:Nat} {sp:Sp} (F:B9 K mg x C qual st f fd) (S:aI N ps (au st)) (len:∀vs H Q E,sp vs H Q E→vs.length = ps.length)
  (hbody:∀(cdv:Value) (A:Around) (outer:List Env) (s:Shared) (H:Hp) (vs:List V) (Q:VK) (E:XK),bU k (A.deeper (envOfC qual (au st) s.heap.objs.size f cdv))→sp vs H Q E→
    ∃t,gy (bP m5 P w K mg base N qual (au st) f cdv A outer s H E).yz (bR st) t∧t { nx:=fun _ H'=>Q .bE H',rt:=Q } (start N vs) H)
  (h:∀(kV doc pm:Value) (an:Option Addr) (cdv ct:Value) (us:List Value),us.length = ps.length→bindArgs (PySem.W.fnOf "__init__" qual (cO st) (bR st) (au st) .none kV doc pm an cdv ct) ⟨us,[]⟩ = pure (ps.zip us)):
  Cn P w K mg base (k + 1) x C ps sp:=⟨f,fd,F.fn.ok S len hbody,F.fn.binds h,F.Q_,F.name⟩
end L2
namespace L2
open PySem PySem.Spec PyProof.Rows
abbrev jZ:=Nat × Nat × Str
abbrev aQ:=Addr→Option jZ
abbrev col (n t:Nat):Option jZ:=some (n,t,(⟨#[]⟩:Str))
def isTup:HO→Bool
 | .tup _=>true
 | _=>false
def Gh (ρ:aQ) (H:Hp):Prop:=∀b c,ρ b = some c→∃o,H b = some o∧isTup o = false
def Fr (n:Nat) (ρ:aQ) (H:Hp) (ρ':aQ) (H':Hp):Prop:=∀b o,H b = some o→(∀t x,ρ b ≠ some (n,t,x))→H' b = some o∧ρ' b = ρ b
def cu (ρ:aQ) (a:Addr) (c:jZ):aQ:=fun b=>if b = a then some c else ρ b
theorem c8 {ρ:aQ} {a:Addr} {c:jZ}:cu ρ a c a = some c:=if_pos rfl
theorem bg {ρ:aQ} {a b:Addr} {c:jZ} (h:b ≠ a):cu ρ a c b = ρ b:=if_neg h
def out (ρ:aQ) (H:Hp):Hp:=fun b=>if ρ b = none then H b else none
theorem uG {ρ:aQ} {H:Hp} {b:Addr} {o:HO} (h:H b = some o) (c:ρ b = none):out ρ H b = some o:=by
 unfold out;rw [if_pos c];exact h
theorem nR {ρ:aQ} {H:Hp} {b:Addr} {o:HO} (h:out ρ H b = some o):H b = some o∧ρ b = none:=by
 unfold out at h
 split at h
 · next c=>exact ⟨h,c⟩
 · cases h
theorem Gh.none {ρ:aQ} {H:Hp} (g:Gh ρ H) {b:Addr} (h:H b = Option.none):ρ b = Option.none:=by
 cases e:ρ b with
 | none=>rfl
 | some c=>obtain ⟨o,q,_⟩:=g b c e;rw [h] at q;cases q
theorem Gh.tup {ρ:aQ} {H:Hp} (g:Gh ρ H) {b:Addr} {xs:List V} (h:H b = some (.tup xs)):ρ b = Option.none:=by
 cases e:ρ b with
 | none=>rfl
 | some c=>obtain ⟨o,q,t⟩:=g b c e;rw [h] at q;cases q;cases t
theorem Gh.same {ρ:aQ} {H H':Hp} (g:Gh ρ H) (s:aC H H'):Gh ρ H':=fun b c e=>let ⟨o,h,t⟩:=g b c e;⟨o,s b o h,t⟩
theorem Gh.wr {ρ:aQ} {H:Hp} (g:Gh ρ H) {a:Addr} {o:HO} (t:isTup o = false):Gh ρ (upd H a o):=fun b c e=>by
 by_cases h:b = a
 · rw [h,ai];exact ⟨o,rfl,t⟩
 · rw [ak h];exact g b c e
theorem Gh.alloc {ρ:aQ} {H:Hp} (g:Gh ρ H) {a:Addr} {o:HO} (h:H a = Option.none):Gh ρ (upd H a o):=g.same (av h o)
theorem Gh.color {ρ:aQ} {H:Hp} (g:Gh ρ H) {a:Addr} {c:jZ} {o:HO} (h:H a = some o) (t:isTup o = false):Gh (cu ρ a c) H:=fun b d e=>by
 by_cases z:b = a
 · rw [z];exact ⟨o,h,t⟩
 · rw [bg z] at e;exact g b d e
theorem Fr.trans {n:Nat} {ρ ρ1 ρ2:aQ} {H H1 H2:Hp} (a:Fr n ρ H ρ1 H1) (b:Fr n ρ1 H1 ρ2 H2):Fr n ρ H ρ2 H2:=fun c o h k=>by
 obtain ⟨h1,e1⟩:=a c o h k
 obtain ⟨h2,e2⟩:=b c o h1 (by rw [e1];exact k)
 exact ⟨h2,e2.trans e1⟩
theorem Fr.of_same {n:Nat} {ρ:aQ} {H H':Hp} (s:aC H H'):Fr n ρ H ρ H':=fun b o h _=>⟨s b o h,rfl⟩
theorem Fr.write {n:Nat} {ρ:aQ} {H:Hp} {a:Addr} {o:HO} {t:Nat} {x:Str} (c:ρ a = some (n,t,x)):Fr n ρ H ρ (upd H a o):=fun b u h k=>by
 have:b ≠ a:=fun e=>k t x (by rw [e];exact c)
 rw [ak this];exact ⟨h,rfl⟩
theorem Fr.out {n:Nat} {ρ ρ':aQ} {H H':Hp} (f:Fr n ρ H ρ' H'):aC (out ρ H) (out ρ' H'):=fun b o h=>by
 obtain ⟨h1,c⟩:=nR h
 obtain ⟨h2,e⟩:=f b o h1 (fun t x=>by rw [c];intro z;cases z)
 exact uG h2 (e.trans c)
theorem fT {ρ:aQ} {H H':Hp} (s:aC H H'):aC (out ρ H) (out ρ H'):=fun b o h=>by
 obtain ⟨h1,c⟩:=nR h
 exact uG (s b o h1) c
structure Pt where
 nm:Str
 ow:Str
 wo:Int
 we:Int
 sc:Int
 row:List Int
structure iL where
 nm:Str
 ow:Str
 wo:Int
 sh:List (Str × Rat)
structure HS where
 own:List Str
 aq:List Pt
 jA:List iL
 nms:List Str
 stp:List Int
 prod:Int
 kn:Nat
 cD:List Int
 dw:List Int
structure HA where
 a:Addr
 dx:Addr
 pl:Addr
 ab:Addr
 as:Addr
 nm:Addr
 bt:Addr
 db:Addr
 cm:Addr
 pu:Addr
 sp:Addr
 kn:Addr
 qs:List (Addr × Addr × Addr)
structure TC where
 hold:Addr
 part:Addr
 bot:Addr
def cM:Nat→List Str→List (Key × V)
 | _,[]=>[]
 | i,o :: r=>(Sum.inr o, .int i) :: cM (i + 1) r
def cR (ps:List Pt) (qs:List (Addr × Addr × Addr)):List (Key × V):=List.zipWith (fun p q=>((Sum.inr p.nm:Key),V.ref q.1)) ps qs
def pM (l:List Str):List (Key × V):=l.map fun x=>(Sum.inr x, .bl true)
def Qf (A:HA):List (Str × V):=[("places", .ref A.pl),("aboard", .ref A.ab),("ashore", .ref A.as),("names", .ref A.nm),("bottom", .ref A.bt),("common", .ref A.cm),("purses", .ref A.pu)]
def sZ (p:Pt) (r:Addr):List (Str × V):=[("name", .str p.nm),("owner", .str p.ow),("worth", .int p.wo),("weight", .int p.we),("scale", .int p.sc),("row", .ref r)]
def Di (sp:Addr) (prod:Int) (kn:Addr):List (Str × V):=[("steps", .ref sp),("product", .int prod),("known", .ref kn)]
def zh (H:Hp) (kvs:List (Key × V)) (prod:Int):Prop:=∀p∈kvs,∃(t:Int) (r:Addr),p = (Sum.inl t,V.ref r)∧H r = some (gZ (Jm.fr t prod))
inductive dX (H:Hp):List V→List (Str × Rat)→Prop
 | nil:dX H [] []
 | cons {r f:Addr} {x:Str} {q:Rat} {vs:List V} {l:List (Str × Rat)}:H r = some (.tup [.str x, .ref f])→H f = some (gZ q)→dX H vs l→dX H (.ref r :: vs) ((x,q) :: l)
inductive ie (n:Nat) (ρ:aQ) (H:Hp):List V→List iL→Prop
 | nil:ie n ρ H [] []
 | cons {r l:Addr} {x:iL} {ss:List V} {vs:List V} {as:List iL}:H r = some (.tup [.str x.nm, .str x.ow, .int x.wo, .ref l])→H l = some (.lst ss)→ρ l = some (n,30,x.nm)→dX H ss x.sh→ie n ρ H vs as→ie n ρ H (.ref r :: vs) (x :: as)
structure aS (T:TC) (n:Nat) (ρ:aQ) (A:HA) (H:Hp) (st:HS):Prop where
 oa:H A.a = some (.ins T.hold A.dx (Qf A))
 ca:ρ A.a = col n 0
 fu:H A.pl = some (.dK (cM 0 st.own))
 iM:ρ A.pl = col n 1
 eV:H A.ab = some (.dK (cR st.aq A.qs))
 fL:ρ A.ab = col n 2
 uH:∃vs,H A.as = some (.lst vs)∧ie n ρ H vs st.jA
 j0:ρ A.as = col n 3
 rO:H A.nm = some (.dK (pM st.nms))
 jB:ρ A.nm = col n 4
 oH:H A.bt = some (.ins T.bot A.db (Di A.sp st.prod A.kn))
 j5:ρ A.bt = col n 5
 j6:H A.cm = some (.lst (st.cD.map V.int))
 jC:ρ A.cm = col n 6
 rP:H A.pu = some (.lst (st.dw.map V.int))
 cpu:ρ A.pu = col n 7
 rQ:H A.sp = some (.lst (st.stp.map V.int))
 j7:ρ A.sp = col n 8
 okn:∃kvs,H A.kn = some (.dK kvs)∧zh H kvs st.prod∧kvs.length≤st.kn∧(kvs.map (·.1)).Nodup
 iN:ρ A.kn = col n 9
 ql:A.qs.length = st.aq.length
 opt:∀(i:Nat) (p:Pt) (q:Addr × Addr × Addr),st.aq[i]? = some p→A.qs[i]? = some q→H q.1 = some (.ins T.part q.2.1 (sZ p q.2.2))∧H q.2.2 = some (.lst (p.row.map V.int))∧ρ q.1 = some (n,20,p.nm)∧ρ q.2.2 = some (n,21,p.nm)
theorem uI {ρ:aQ} {a b:Addr} {c d:jZ} (ha:ρ a = some c) (hb:ρ b = some d) (h:c ≠ d):a ≠ b:=fun e=>by
 rw [e,hb] at ha;cases ha;exact h rfl
theorem A8 {ρ:aQ} {a b:Addr} {c:jZ} (ha:ρ a = none) (hb:ρ b = some c):a ≠ b:=fun e=>by rw [e,hb] at ha;cases ha
theorem dX.mono {H H':Hp} {vs:List V} {l:List (Str × Rat)} (h:dX H vs l) (g:∀b xs,H b = some (.tup xs)→H' b = some (.tup xs)):dX H' vs l:=by
 induction h with
 | nil=>exact .nil
 | cons a b _ ih=>exact .cons (g _ _ a) (g _ _ b) ih
def Kp (n:Nat) (ρ ρ':aQ) (H H':Hp) (ts:Nat→Bool):Prop:=(∀b xs,H b = some (.tup xs)→H' b = some (.tup xs))∧∀b t x o,ts t = true→ρ b = some (n,t,x)→H b = some o→H' b = some o∧ρ' b = some (n,t,x)
theorem ie.keep {n:Nat} {ρ ρ':aQ} {H H':Hp} {vs:List V} {l:List iL} (h:ie n ρ H vs l) {ts:Nat→Bool} (k:Kp n ρ ρ' H H' ts) (e:ts 30 = true):ie n ρ' H' vs l:=by
 induction h with
 | nil=>exact .nil
 | cons a b c d _ ih=>exact .cons (k.1 _ _ a) (k.2 _ _ _ _ e c b).1 (k.2 _ _ _ _ e c b).2 (d.mono k.1) ih
theorem fU {n t:Nat} {x:Str} {ρ:aQ} {H:Hp} {a:Addr} {o:HO} (g:Gh ρ H) (c:ρ a = some (n,t,x)):Kp n ρ ρ H (upd H a o) (fun u=>decide (u ≠ t)):=by
 refine ⟨fun b xs h=>?_,fun b u y w hu hc h=>⟨?_,hc⟩⟩
 · rw [ak (A8 (g.tup h) c)];exact h
 · rw [ak (uI hc c (fun e=>by cases e;exact absurd hu (by simp)))];exact h
theorem B_ {n:Nat} {ρ:aQ} {H H':Hp} {ts:Nat→Bool} (s:aC H H'):Kp n ρ ρ H H' ts:=⟨fun b xs h=>s _ _ h,fun b u y w _ hc h=>⟨s _ _ h,hc⟩⟩
theorem aS.same {T:TC} {n:Nat} {ρ ρ':aQ} {A:HA} {H H':Hp} {st:HS} (h:aS T n ρ A H st) (k:Kp n ρ ρ' H H' fun _=>true):aS T n ρ' A H' st:=by
 have z:=fun {b:Addr} {t:Nat} {x:Str} {o:HO} (c:ρ b = some (n,t,x)) (e:H b = some o)=>k.2 b t x o rfl c e
 obtain ⟨vs,h1,h2⟩:=h.uH
 obtain ⟨kvs,k1,k2,k3⟩:=h.okn
 exact ⟨(z h.ca h.oa).1,(z h.ca h.oa).2,(z h.iM h.fu).1,(z h.iM h.fu).2,(z h.fL h.eV).1,(z h.fL h.eV).2,⟨vs,(z h.j0 h1).1,h2.keep k rfl⟩,(z h.j0 h1).2,(z h.jB h.rO).1,(z h.jB h.rO).2,(z h.j5 h.oH).1,(z h.j5 h.oH).2,
  (z h.jC h.j6).1,(z h.jC h.j6).2,(z h.cpu h.rP).1,(z h.cpu h.rP).2,(z h.j7 h.rQ).1,(z h.j7 h.rQ).2,⟨kvs,(z h.iN k1).1,fun p hp=>let ⟨t,r,e,q⟩:=k2 p hp;⟨t,r,e,k.1 _ _ q⟩,k3⟩,(z h.iN k1).2,h.ql,
  fun i p q e1 e2=>let ⟨a,b,c,d⟩:=h.opt i p q e1 e2;⟨(z c a).1,(z d b).1,(z c a).2,(z d b).2⟩⟩
theorem aS.mono {T:TC} {n:Nat} {ρ:aQ} {A:HA} {H H':Hp} {st:HS} (h:aS T n ρ A H st) (s:aC H H'):aS T n ρ A H' st:=h.same (B_ s)
theorem aS.other {T:TC} {n m:Nat} {ρ ρ':aQ} {A:HA} {H H':Hp} {st:HS} (h:aS T m ρ A H st) (f:Fr n ρ H ρ' H') (g:Gh ρ H) (e:m ≠ n):aS T m ρ' A H' st:=
 h.same ⟨fun b xs q=>(f b _ q fun t x=>by rw [g.tup q];intro z;cases z).1,fun b t x o _ c q=>by
   obtain ⟨a,b'⟩:=f b o q fun t' x'=>by rw [c];intro z;cases z;exact e rfl
   exact ⟨a,b'.trans c⟩⟩
theorem Ca {p0 p1:Pt}:∀{ps:List Pt} {qs:List (Addr × Addr × Addr)} {i:Nat},ps[i]? = some p0→p1.nm = p0.nm→cR (ps.set i p1) qs = cR ps qs
 | [],_,_,h,_=>by simp at h
 | _ :: _,[],_,_,_=>by simp [cR]
 | p :: ps,q :: qs,0,h,e=>by
   have:p = p0:=by simpa using h
   simp [cR,e,this]
 | p :: ps,q :: qs,i + 1,h,e=>by
   have:=Ca (qs:=qs) (by simpa using h:ps[i]? = some p0) e
   simp only [cR,List.set_cons_succ,List.zipWith_cons_cons] at this ⊢
   rw [this]
theorem E2 {ps:List Pt} (nd:(ps.map (·.nm)).Nodup) {i j:Nat} {p q:Pt} (h1:ps[i]? = some p) (h2:ps[j]? = some q) (e:p.nm = q.nm):i = j:=by
 have a:(ps.map (·.nm))[i]? = some p.nm:=by rw [List.getElem?_map,h1];rfl
 have b:(ps.map (·.nm))[j]? = some p.nm:=by rw [List.getElem?_map,h2,e];rfl
 exact nJ nd a b
theorem GP {T:TC} {n:Nat} {ρ:aQ} {A:HA} {H H':Hp} {st:HS} (h:aS T n ρ A H st) (nd:(st.aq.map (·.nm)).Nodup) {i:Nat} {p0:Pt} {l:List Int} {q0:Addr × Addr × Addr} (ep:st.aq[i]? = some p0) (eq:A.qs[i]? = some q0)
  (hw:H' q0.2.2 = some (.lst (l.map V.int))) (hs:∀{b:Addr} {t:Nat} {x:Str} {o:HO},ρ b = some (n,t,x)→t ≠ 21∨x ≠ p0.nm→H b = some o→H' b = some o):
  ∀(j:Nat) (p:Pt) (q:Addr × Addr × Addr),(st.aq.set i { p0 with row:=l })[j]? = some p→A.qs[j]? = some q→H' q.1 = some (.ins T.part q.2.1 (sZ p q.2.2))∧H' q.2.2 = some (.lst (p.row.map V.int))∧ρ q.1 = some (n,20,p.nm)∧ρ q.2.2 = some (n,21,p.nm):=by
 intro j p q ej eq'
 by_cases hj:i = j
 · subst hj
   rw [eq] at eq';cases eq'
   rw [List.getElem?_set_self (List.getElem?_eq_some_iff.mp ep).1] at ej
   cases ej
   obtain ⟨a,b,c,d⟩:=h.opt i p0 q0 ep eq
   exact ⟨hs c (.inl (by decide)) a,hw,c,d⟩
 · rw [List.getElem?_set_ne hj] at ej
   obtain ⟨a,b,c,d⟩:=h.opt j p q ej eq'
   exact ⟨hs c (.inl (by decide)) a,hs d (.inr fun e=>hj (E2 nd ep ej e.symm)) b,c,d⟩
theorem E3 {n t:Nat} {x:Str} {ρ:aQ} {H:Hp} {a:Addr} {o:HO} (c:ρ a = some (n,t,x)):∀{b:Addr} {u:Nat} {y:Str} {w:HO},ρ b = some (n,u,y)→u ≠ t∨y ≠ x→H b = some w→upd H a o b = some w:=fun {b u y w} hc hu h=>by
 rw [ak (uI hc c (fun e=>by cases e;rcases hu with z | z <;> exact z rfl))];exact h
theorem aS.Lg {T:TC} {n:Nat} {ρ:aQ} {A:HA} {H:Hp} {st:HS} (h:aS T n ρ A H st) (g:Gh ρ H) (l:List Str):aS T n ρ A (upd H A.pl (.dK (cM 0 l))) { st with own:=l }:=by
 have k:=fU (o:= .dK (cM 0 l)) g h.iM
 have z:=fun {b:Addr} {t:Nat} {x:Str} {o:HO} (u:decide (t ≠ 1) = true) (c:ρ b = some (n,t,x)) (e:H b = some o)=>(k.2 b t x o u c e).1
 obtain ⟨vs,h1,h2⟩:=h.uH
 obtain ⟨kvs,k1,k2,k3⟩:=h.okn
 exact ⟨z (by decide) h.ca h.oa,h.ca,ai,h.iM,z (by decide) h.fL h.eV,h.fL,⟨vs,z (by decide) h.j0 h1,h2.keep k (by decide)⟩,h.j0,z (by decide) h.jB h.rO,h.jB,z (by decide) h.j5 h.oH,h.j5,z (by decide) h.jC h.j6,h.jC,z (by decide) h.cpu h.rP,h.cpu,z (by decide) h.j7 h.rQ,h.j7,⟨kvs,z (by decide) h.iN k1,fun p hp=>let ⟨t,r,e,q⟩:=k2 p hp;⟨t,r,e,k.1 _ _ q⟩,k3⟩,h.iN,h.ql,fun i p q e1 e2=>let ⟨a,b,c,d⟩:=h.opt i p q e1 e2;⟨z (by decide) c a,z (by decide) d b,c,d⟩⟩
theorem aS.Lh {T:TC} {n:Nat} {ρ:aQ} {A:HA} {H:Hp} {st:HS} (h:aS T n ρ A H st) (g:Gh ρ H) (ps:List Pt) (qs:List (Addr × Addr × Addr)) (el:qs.length = ps.length) (hp:∀(i:Nat) (p:Pt) (q:Addr × Addr × Addr),ps[i]? = some p→qs[i]? = some q→H q.1 = some (.ins T.part q.2.1 (sZ p q.2.2))∧H q.2.2 = some (.lst (p.row.map V.int))∧ρ q.1 = some (n,20,p.nm)∧ρ q.2.2 = some (n,21,p.nm)):aS T n ρ { A with qs:=qs } (upd H A.ab (.dK (cR ps qs))) { st with aq:=ps }:=by
 have k:=fU (o:= .dK (cR ps qs)) g h.fL
 have z:=fun {b:Addr} {t:Nat} {x:Str} {o:HO} (u:decide (t ≠ 2) = true) (c:ρ b = some (n,t,x)) (e:H b = some o)=>(k.2 b t x o u c e).1
 obtain ⟨vs,h1,h2⟩:=h.uH
 obtain ⟨kvs,k1,k2,k3⟩:=h.okn
 exact ⟨z (by decide) h.ca h.oa,h.ca,z (by decide) h.iM h.fu,h.iM,ai,h.fL,⟨vs,z (by decide) h.j0 h1,h2.keep k (by decide)⟩,h.j0,z (by decide) h.jB h.rO,h.jB,z (by decide) h.j5 h.oH,h.j5,z (by decide) h.jC h.j6,h.jC,z (by decide) h.cpu h.rP,h.cpu,z (by decide) h.j7 h.rQ,h.j7,⟨kvs,z (by decide) h.iN k1,fun p hp=>let ⟨t,r,e,q⟩:=k2 p hp;⟨t,r,e,k.1 _ _ q⟩,k3⟩,h.iN,el,fun i p q e1 e2=>let ⟨a,b,c,d⟩:=hp i p q e1 e2;⟨z (by decide) c a,z (by decide) d b,c,d⟩⟩
theorem aS.Li {T:TC} {n:Nat} {ρ:aQ} {A:HA} {H:Hp} {st:HS} (h:aS T n ρ A H st) (g:Gh ρ H) (l:List Str):aS T n ρ A (upd H A.nm (.dK (pM l))) { st with nms:=l }:=by
 have k:=fU (o:= .dK (pM l)) g h.jB
 have z:=fun {b:Addr} {t:Nat} {x:Str} {o:HO} (u:decide (t ≠ 4) = true) (c:ρ b = some (n,t,x)) (e:H b = some o)=>(k.2 b t x o u c e).1
 obtain ⟨vs,h1,h2⟩:=h.uH
 obtain ⟨kvs,k1,k2,k3⟩:=h.okn
 exact ⟨z (by decide) h.ca h.oa,h.ca,z (by decide) h.iM h.fu,h.iM,z (by decide) h.fL h.eV,h.fL,⟨vs,z (by decide) h.j0 h1,h2.keep k (by decide)⟩,h.j0,ai,h.jB,z (by decide) h.j5 h.oH,h.j5,z (by decide) h.jC h.j6,h.jC,z (by decide) h.cpu h.rP,h.cpu,z (by decide) h.j7 h.rQ,h.j7,⟨kvs,z (by decide) h.iN k1,fun p hp=>let ⟨t,r,e,q⟩:=k2 p hp;⟨t,r,e,k.1 _ _ q⟩,k3⟩,h.iN,h.ql,fun i p q e1 e2=>let ⟨a,b,c,d⟩:=h.opt i p q e1 e2;⟨z (by decide) c a,z (by decide) d b,c,d⟩⟩
theorem aS.Lj {T:TC} {n:Nat} {ρ:aQ} {A:HA} {H:Hp} {st:HS} (h:aS T n ρ A H st) (g:Gh ρ H) (l:List Int):aS T n ρ A (upd H A.cm (.lst (l.map V.int))) { st with cD:=l }:=by
 have k:=fU (o:= .lst (l.map V.int)) g h.jC
 have z:=fun {b:Addr} {t:Nat} {x:Str} {o:HO} (u:decide (t ≠ 6) = true) (c:ρ b = some (n,t,x)) (e:H b = some o)=>(k.2 b t x o u c e).1
 obtain ⟨vs,h1,h2⟩:=h.uH
 obtain ⟨kvs,k1,k2,k3⟩:=h.okn
 exact ⟨z (by decide) h.ca h.oa,h.ca,z (by decide) h.iM h.fu,h.iM,z (by decide) h.fL h.eV,h.fL,⟨vs,z (by decide) h.j0 h1,h2.keep k (by decide)⟩,h.j0,z (by decide) h.jB h.rO,h.jB,z (by decide) h.j5 h.oH,h.j5,ai,h.jC,z (by decide) h.cpu h.rP,h.cpu,z (by decide) h.j7 h.rQ,h.j7,⟨kvs,z (by decide) h.iN k1,fun p hp=>let ⟨t,r,e,q⟩:=k2 p hp;⟨t,r,e,k.1 _ _ q⟩,k3⟩,h.iN,h.ql,fun i p q e1 e2=>let ⟨a,b,c,d⟩:=h.opt i p q e1 e2;⟨z (by decide) c a,z (by decide) d b,c,d⟩⟩
theorem aS.Lk {T:TC} {n:Nat} {ρ:aQ} {A:HA} {H:Hp} {st:HS} (h:aS T n ρ A H st) (g:Gh ρ H) (l:List Int):aS T n ρ A (upd H A.pu (.lst (l.map V.int))) { st with dw:=l }:=by
 have k:=fU (o:= .lst (l.map V.int)) g h.cpu
 have z:=fun {b:Addr} {t:Nat} {x:Str} {o:HO} (u:decide (t ≠ 7) = true) (c:ρ b = some (n,t,x)) (e:H b = some o)=>(k.2 b t x o u c e).1
 obtain ⟨vs,h1,h2⟩:=h.uH
 obtain ⟨kvs,k1,k2,k3⟩:=h.okn
 exact ⟨z (by decide) h.ca h.oa,h.ca,z (by decide) h.iM h.fu,h.iM,z (by decide) h.fL h.eV,h.fL,⟨vs,z (by decide) h.j0 h1,h2.keep k (by decide)⟩,h.j0,z (by decide) h.jB h.rO,h.jB,z (by decide) h.j5 h.oH,h.j5,z (by decide) h.jC h.j6,h.jC,ai,h.cpu,z (by decide) h.j7 h.rQ,h.j7,⟨kvs,z (by decide) h.iN k1,fun p hp=>let ⟨t,r,e,q⟩:=k2 p hp;⟨t,r,e,k.1 _ _ q⟩,k3⟩,h.iN,h.ql,fun i p q e1 e2=>let ⟨a,b,c,d⟩:=h.opt i p q e1 e2;⟨z (by decide) c a,z (by decide) d b,c,d⟩⟩
theorem aS.JL {T:TC} {n:Nat} {ρ:aQ} {A:HA} {H:Hp} {st:HS} (h:aS T n ρ A H st) (g:Gh ρ H) {i:Nat} {p0:Pt} {q0:Addr × Addr × Addr} (l:List Int) (ep:st.aq[i]? = some p0) (eq:A.qs[i]? = some q0) (nd:(st.aq.map (·.nm)).Nodup):aS T n ρ A (upd H q0.2.2 (.lst (l.map V.int))) { st with aq:=st.aq.set i { p0 with row:=l } }:=by
 have k:=fU (o:= .lst (l.map V.int)) g (h.opt i p0 q0 ep eq).2.2.2
 have z:=fun {b:Addr} {t:Nat} {x:Str} {o:HO} (u:decide (t ≠ 21) = true) (c:ρ b = some (n,t,x)) (e:H b = some o)=>(k.2 b t x o u c e).1
 obtain ⟨vs,h1,h2⟩:=h.uH
 obtain ⟨kvs,k1,k2,k3⟩:=h.okn
 exact ⟨z (by decide) h.ca h.oa,h.ca,z (by decide) h.iM h.fu,h.iM,by show _ = some (HO.dK (cR (st.aq.set i { p0 with row:=l }) A.qs));rw [Ca (p1:={ p0 with row:=l }) ep rfl];exact z (by decide) h.fL h.eV,h.fL,⟨vs,z (by decide) h.j0 h1,h2.keep k (by decide)⟩,h.j0,z (by decide) h.jB h.rO,h.jB,z (by decide) h.j5 h.oH,h.j5,z (by decide) h.jC h.j6,h.jC,z (by decide) h.cpu h.rP,h.cpu,z (by decide) h.j7 h.rQ,h.j7,⟨kvs,z (by decide) h.iN k1,fun p hp=>let ⟨t,r,e,q⟩:=k2 p hp;⟨t,r,e,k.1 _ _ q⟩,k3⟩,h.iN,by rw [List.length_set];exact h.ql,GP h nd ep eq ai (E3 (h.opt i p0 q0 ep eq).2.2.2)⟩
end L2
namespace L2
open PySem PySem.Spec PyProof.Rows
structure Txt (K:PySem.W.Frag) (T:TC):Prop where
 cH:jq K T.hold
 cP:jq K T.part
 cB:jq K T.bot
 hpl:cG K T.hold "places"
 hab:cG K T.hold "aboard"
 has:cG K T.hold "ashore"
 hnm:cG K T.hold "names"
 xg:cG K T.hold "bottom"
 zj:cG K T.hold "common"
 E4:cG K T.hold "purses"
 Ih:cG K T.part "name"
 pow:cG K T.part "owner"
 Ll:cG K T.part "worth"
 Oa:cG K T.part "weight"
 Ob:cG K T.part "scale"
 Lm:cG K T.part "row"
 Oc:cG K T.bot "steps"
 Ln:cG K T.bot "product"
 Ii:cG K T.bot "known"
structure Wf (st:HS):Prop where
 zk:st.own.Nodup
 GQ:st.nms.Nodup
 zl:(st.aq.map (·.nm)).Nodup
 sub:∀p∈st.aq,p.nm∈st.nms
 rows:∀p∈st.aq,p.row.length = st.own.length
 ow:∀p∈st.aq,p.ow∈st.own
 iX:st.cD.length = st.own.length
 Dj:st.dw.length = st.own.length
 lS:1≤st.prod
 yo:st.prod = st.stp.foldl (· * ·) 1
 Dk:∀s∈st.stp,2≤s
 zm:st.own.length≤100
 GR:st.nms.length≤1000
 Dl:st.aq.length≤1000
 GS:st.stp.length≤100
 Dm:st.jA.length≤1000
 Od:st.kn≤1000000
 big:Jm.Sz 8000 st.prod
 Dp:∀c∈st.cD,0≤c∧c≤st.prod
 E5:∀p∈st.aq,1≤p.sc∧p.sc≤st.prod
 zu:∀p∈st.aq,∀r∈p.row,-st.prod≤r∧r≤st.prod
 GU:∀p∈st.aq,∀t∈List.zipWith (fun r c=>p.sc * r + c) p.row st.cD,0≤t∧t≤st.prod
 Ij:∀p∈st.aq,1≤p.wo∧0≤p.we
 GV:∀u∈st.dw,Jm.Sz 9000 u
structure HH (T:TC) (n:Nat) (ρ:aQ) (A:HA) (H:Hp) (st:HS):Prop where
 g:Gh ρ H
 h:aS T n ρ A H st
 wf:Wf st
def yp (T:TC) (n:Nat) (ρ:aQ) (A:HA) (H:Hp) (st:HS) (Q:Hp→Prop):Prop:=∀ρ' A' H',HH T n ρ' A' H' st→A'.a = A.a→Fr n ρ H ρ' H'→Q H'
def hs0:HS:=⟨[],[],[],[],[],1,0,[],[]⟩
theorem Ra:Wf hs0:=by
 refine ⟨List.nodup_nil,List.nodup_nil,List.nodup_nil,?_,?_,?_,rfl,rfl,?_,rfl,?_,?_,?_,?_,?_,?_,?_,?_,?_,?_,?_,?_,?_,?_⟩ <;> first | (intro _ h;exact absurd h (by simp [hs0])) | decide | (show Jm.Sz 8000 1;exact kG (by decide +kernel))
theorem vK:∀{l:List Str} {i:Nat} {o:Str},o∈l→cJ (cM i l) (Sum.inr o) = some (.int ((i + l.idxOf o:Nat):Int))
 | [],_,_,h=>by simp at h
 | x :: l,i,o,h=>by
   by_cases e:x = o
   · subst e
     rw [show cM i (x :: l) = (Sum.inr x, .int i) :: cM (i + 1) l from rfl,cW rfl]
     simp
   · rw [show cM i (x :: l) = (Sum.inr x, .int i) :: cM (i + 1) l from rfl,cj (by intro z;exact e (Sum.inr.inj z))]
     have hm:o∈l:=by
      rcases List.mem_cons.mp h with z | z
      · exact absurd z.symm e
      · exact z
     rw [vK hm]
     have eb:(x == o) = false:=by simpa using e
     have:(x :: l).idxOf o = l.idxOf o + 1:=by rw [List.idxOf_cons,eb];rfl
     rw [this]
     show some (V.int ((i + 1 + l.idxOf o:Nat):Int)) = some (V.int ((i + (l.idxOf o + 1):Nat):Int))
     rw [show i + 1 + l.idxOf o = i + (l.idxOf o + 1) from by omega]
theorem ig:∀{l:List Str} {i:Nat} {o:Str},o ∉ l→cJ (cM i l) (Sum.inr o) = none
 | [],_,_,_=>rfl
 | x :: l,i,o,h=>by
   rw [show cM i (x :: l) = (Sum.inr x, .int i) :: cM (i + 1) l from rfl,cj (fun z=>h (by rw [← Sum.inr.inj z];exact List.mem_cons_self))]
   exact ig fun m=>h (List.mem_cons_of_mem _ m)
theorem kg:∀(l:List Str) (i:Nat),(cM i l).length = l.length
 | [],_=>rfl
 | _ :: l,i=>by rw [show ∀x,cM i (x :: l) = (Sum.inr x, .int i) :: cM (i + 1) l from fun _=>rfl,List.length_cons,List.length_cons,kg l]
theorem zw:∀(l:List Str) (i:Nat) (o:Str),cM i (l ++ [o]) = cM i l ++ [(Sum.inr o, .int ((i + l.length:Nat):Int))]
 | [],i,o=>rfl
 | x :: l,i,o=>by
   show (Sum.inr x,V.int i) :: cM (i + 1) (l ++ [o]) = _
   rw [zw l (i + 1) o]
   show _ = (Sum.inr x,V.int i) :: (cM (i + 1) l ++ _)
   rw [List.length_cons,show i + 1 + l.length = i + (l.length + 1) from by omega]
theorem s_:∀(l:List Str) (i:Nat),(cM i l).map (fun p=>kV p.1) = l.map V.str
 | [],_=>rfl
 | x :: l,i=>by
   show kV (Sum.inr x) :: (cM (i + 1) l).map _ = V.str x :: l.map V.str
   rw [s_ l]
   rfl
theorem vL {ps:List Pt} {qs:List (Addr × Addr × Addr)} {i:Nat} {p:Pt} {q:Addr × Addr × Addr} (h1:ps[i]? = some p) (h2:qs[i]? = some q):(cR ps qs)[i]? = some (Sum.inr p.nm, .ref q.1):=by
 unfold cR
 rw [List.getElem?_zipWith,h1,h2]
theorem qS {ps:List Pt} {qs:List (Addr × Addr × Addr)} (h:qs.length = ps.length):(cR ps qs).length = ps.length:=by
 unfold cR
 rw [List.length_zipWith,h,Nat.min_self]
theorem Cb:∀{ps:List Pt} {qs:List (Addr × Addr × Addr)} {i:Nat} {p:Pt} {q:Addr × Addr × Addr},(ps.map (·.nm)).Nodup→ps[i]? = some p→qs[i]? = some q→cJ (cR ps qs) (Sum.inr p.nm) = some (.ref q.1)
 | [],_,_,_,_,_,h,_=>by simp at h
 | _ :: _,[],_,_,_,_,_,h=>by simp at h
 | a :: ps,b :: qs,0,p,q,_,h1,h2=>by
   have e1:a = p:=by simpa using h1
   have e2:b = q:=by simpa using h2
   subst e1 e2
   exact cW rfl
 | a :: ps,b :: qs,i + 1,p,q,nd,h1,h2=>by
   have Oe:=List.nodup_cons.mp (show (a.nm :: ps.map (·.nm)).Nodup from nd)
   have Ik:ps[i]? = some p:=by simpa using h1
   rw [show cR (a :: ps) (b :: qs) = (Sum.inr a.nm, .ref b.1) :: cR ps qs from rfl,cj (fun z=>Oe.1 (List.mem_map.mpr ⟨p,List.mem_of_getElem? Ik,(Sum.inr.inj z).symm⟩))]
   exact Cb Oe.2 Ik (by simpa using h2)
theorem kI:∀{ps:List Pt} {qs:List (Addr × Addr × Addr)} {x:Str},(∀p∈ps,p.nm ≠ x)→cJ (cR ps qs) (Sum.inr x) = none
 | [],_,_,_=>rfl
 | _ :: _,[],_,_=>rfl
 | a :: ps,b :: qs,x,h=>by
   rw [show cR (a :: ps) (b :: qs) = (Sum.inr a.nm, .ref b.1) :: cR ps qs from rfl,cj (fun z=>h a List.mem_cons_self (Sum.inr.inj z))]
   exact kI fun p hp=>h p (List.mem_cons_of_mem _ hp)
theorem GW {ps:List Pt} {qs:List (Addr × Addr × Addr)} (h:qs.length = ps.length) (p:Pt) (q:Addr × Addr × Addr):cR (ps ++ [p]) (qs ++ [q]) = cR ps qs ++ [(Sum.inr p.nm, .ref q.1)] :=by
 unfold cR
 rw [List.zipWith_append h.symm]
 rfl
theorem pN {l:List Str} {x:Str} (h:x ∉ l):cJ (pM l) (Sum.inr x) = none:=by
 unfold pM
 induction l with
 | nil=>rfl
 | cons a l ih=>
   rw [List.map_cons,cj (fun z=>h (by rw [← Sum.inr.inj z];exact List.mem_cons_self))]
   exact ih fun m=>h (List.mem_cons_of_mem _ m)
theorem zx {l:List Str} {x:Str} (h:x∈l):cJ (pM l) (Sum.inr x) = some (.bl true):=by
 unfold pM
 induction l with
 | nil=>simp at h
 | cons a l ih=>
   rw [List.map_cons]
   by_cases e:a = x
   · exact cW (by rw [e])
   · rw [cj (fun z=>e (Sum.inr.inj z))]
     exact ih ((List.mem_cons.mp h).resolve_left fun z=>e z.symm)
theorem aS.find {T:TC} {n:Nat} {ρ:aQ} {A:HA} {H:Hp} {st:HS} (h:aS T n ρ A H st) {i:Nat} {p:Pt} (e:st.aq[i]? = some p):∃q,A.qs[i]? = some q∧H q.1 = some (.ins T.part q.2.1 (sZ p q.2.2))∧H q.2.2 = some (.lst (p.row.map V.int))∧ρ q.1 = some (n,20,p.nm)∧ρ q.2.2 = some (n,21,p.nm):=by
 have hi:i < A.qs.length:=by rw [h.ql];exact (List.getElem?_eq_some_iff.mp e).1
 exact ⟨A.qs[i],List.getElem?_eq_getElem hi,h.opt i p _ e (List.getElem?_eq_getElem hi)⟩
def cY (st:HS) (o:Str):HS:={ st with own:=st.own ++ [o],cD:=st.cD ++ [0],dw:=st.dw ++ [0],aq:=st.aq.map fun p=>{ p with row:=p.row ++ [0] } }
def dJ (st:HS) (p:Pt):List Int:=List.zipWith (fun r c=>p.sc * r + c) p.row st.cD
def pO (st:HS) (tops:List Int):List Int:=List.zipWith (fun t c=>t - c) tops st.cD
def qT (st:HS) (p:Pt):HS:={ st with aq:=st.aq ++ [p],nms:=st.nms ++ [p.nm] }
def ji (st:HS) (x o:Str) (wo we:Int):HS:=qT st ⟨x,o,wo,we,1,pO st ((List.replicate st.own.length 0).set (st.own.idxOf o) st.prod)⟩
def fB (st:HS):Int:=(st.aq.map (·.wo)).sum
def pP (st:HS) (p:Pt):List (Str × Rat):=(List.zip st.own (dJ st p)).filterMap fun x=>if 0 < x.2 then some (x.1,Jm.fr x.2 st.prod) else none
def qU (p:Pt):HO:= .tup [.str p.nm, .str p.ow, .int p.wo, .int p.we]
inductive eS (H:Hp):List V→List Pt→Prop
 | nil:eS H [] []
 | cons {r:Addr} {p:Pt} {vs:List V} {ps:List Pt}:H r = some (qU p)→eS H vs ps→eS H (.ref r :: vs) (p :: ps)
end L2
namespace L2
open PySem PySem.Spec PyProof.Rows
def zy (n:Nat) (q1 q2:Addr) (ρ:aQ) (H:Hp) (ρ':aQ) (H':Hp):Prop:=∀b o,H b = some o→(∀t x,ρ b ≠ some (n,t,x))→b ≠ q1→b ≠ q2→H' b = some o∧ρ' b = ρ b
theorem zy.trans {n:Nat} {q1 q2:Addr} {ρ ρ1 ρ2:aQ} {H H1 H2:Hp} (a:zy n q1 q2 ρ H ρ1 H1) (b:Fr n ρ1 H1 ρ2 H2):zy n q1 q2 ρ H ρ2 H2:=fun c o h k x y=>by
 obtain ⟨h1,e1⟩:=a c o h k x y
 obtain ⟨h2,e2⟩:=b c o h1 (by rw [e1];exact k)
 exact ⟨h2,e2.trans e1⟩
theorem zy.fr {n:Nat} {q1 q2:Addr} {ρ ρ1 ρ2:aQ} {H H1 H2:Hp} (b:zy n q1 q2 ρ1 H1 ρ2 H2) (a:Fr n ρ H ρ1 H1) (h1:H q1 = none) (h2:H q2 = none):Fr n ρ H ρ2 H2:=fun c o h k=>by
 obtain ⟨e1,e2⟩:=a c o h k
 obtain ⟨e3,e4⟩:=b c o e1 (by rw [e2];exact k) (aA h h1) (aA h h2)
 exact ⟨e3,e4.trans e2⟩
def isNm (o:Str):Bool:=isName o.cps.toList
structure Cc (T:TC) (vs:List V) (H:Hp) (Q:VK) (E:XK):Prop where
 ex:∃p dx,vs = [.ref p]∧H p = some (.ins T.bot dx [])∧∀sp kn H',H sp = none→H kn = none→sp ≠ kn→(∀b o,H b = some o→b ≠ p→H' b = some o)→H' p = some (.ins T.bot dx (Di sp 1 kn))→H' sp = some (.lst [])→H' kn = some (.dK [])→Q .bE H'
structure Cd (T:TC) (K:PySem.W.Frag) (vs:List V) (H:Hp) (Q:VK) (E:XK):Prop where
 ex:∃(p dx l:Addr) (pt:Pt),vs = [.ref p, .str pt.nm, .str pt.ow, .int pt.wo, .int pt.we, .int pt.sc, .ref l]∧H p = some (.ins T.part dx [])∧aE K H l (pt.row.map V.int)∧∀r H',H r = none→(∀b o,H b = some o→b ≠ p→H' b = some o)→H' p = some (.ins T.part dx (sZ pt r))→H' r = some (.lst (pt.row.map V.int))→Q .bE H'
structure Ce (T:TC) (vs:List V) (H:Hp) (Q:VK) (E:XK):Prop where
 ex:∃p dx ρ n,vs = [.ref p]∧H p = some (.ins T.hold dx [])∧Gh ρ H∧ρ p = none∧∀ρ' A H',A.a = p→HH T n ρ' A H' hs0→(∀b o,H b = some o→b ≠ p→H' b = some o∧ρ' b = ρ b)→Q .bE H'
structure JM (T:TC) (vs:List V) (H:Hp) (Q:VK) (E:XK):Prop where
 ex:∃n ρ A st o,vs = [.ref A.a, .str o]∧aS T n ρ A H st∧o∈st.own∧Q (.int (st.own.idxOf o:Int)) H
structure zz (T:TC) (vs:List V) (H:Hp) (Q:VK) (E:XK):Prop where
 ex:∃n ρ A st,∃(i:Nat) (p:Pt) (q:Addr × Addr × Addr),vs = [.ref A.a, .str p.nm]∧aS T n ρ A H st∧(st.aq.map (·.nm)).Nodup∧st.aq[i]? = some p∧A.qs[i]? = some q∧Q (.ref q.1) H
structure Il (T:TC) (K:PySem.W.Frag) (vs:List V) (H:Hp) (Q:VK) (E:XK):Prop where
 ex:∃n ρ A st l,∃tops:List Int,vs = [.ref A.a, .ref l]∧aS T n ρ A H st∧aE K H l (tops.map V.int)∧tops.length = st.cD.length∧tops.length≤1000∧∀r H',aC H H'→H r = none→H' r = some (.lst ((pO st tops).map V.int))→Q (.ref r) H'
structure Cf (T:TC) (vs:List V) (H:Hp) (Q:VK) (E:XK):Prop where
 ex:∃n ρ A st,∃(i:Nat) (p:Pt) (q:Addr × Addr × Addr),vs = [.ref A.a, .ref q.1]∧aS T n ρ A H st∧Wf st∧st.aq[i]? = some p∧A.qs[i]? = some q∧∀r H',aC H H'→H r = none→H' r = some (.lst ((dJ st p).map V.int))→Q (.ref r) H'
structure E6 (T:TC) (vs:List V) (H:Hp) (Q:VK) (E:XK):Prop where
 ex:∃n ρ A st,∃(q:Addr × Addr × Addr) (p:Pt),vs = [.ref A.a, .ref q.1]∧HH T n ρ A H st∧H q.1 = some (.ins T.part q.2.1 (sZ p q.2.2))∧H q.2.2 = some (.lst (p.row.map V.int))∧ρ q.1 = none∧ρ q.2.2 = none∧p.nm ∉ st.nms∧Wf (qT st p)∧∀ρ' A' H',HH T n ρ' A' H' (qT st p)→A'.a = A.a→zy n q.1 q.2.2 ρ H ρ' H'→Q .bE H'
structure Cg (T:TC) (vs:List V) (H:Hp) (Q:VK) (E:XK):Prop where
 ex:∃n ρ A st o,vs = [.ref A.a, .str o]∧HH T n ρ A H st∧isNm o = true∧o ∉ st.own∧st.own.length < 100∧yp T n ρ A H (cY st o) fun H'=>Q .bE H'
structure Lo (T:TC) (vs:List V) (H:Hp) (Q:VK) (E:XK):Prop where
 ex:∃n ρ A st x o wo we,vs = [.ref A.a, .str x, .str o, .int wo, .int we]∧HH T n ρ A H st∧isNm x = true∧x ∉ st.nms∧o∈st.own∧1≤wo∧0≤we∧st.nms.length < 1000∧st.aq.length < 1000∧yp T n ρ A H (ji st x o wo we) fun H'=>Q .bE H'
structure Ci (T:TC) (vs:List V) (H:Hp) (Q:VK) (E:XK):Prop where
 ex:∃n ρ A st,vs = [.ref A.a]∧aS T n ρ A H st∧st.aq.length≤1000∧∀r ws H',aC H H'→H r = none→H' r = some (.lst ws)→eS H' ws st.aq→Q (.ref r) H'
structure Cj (T:TC) (vs:List V) (H:Hp) (Q:VK) (E:XK):Prop where
 ex:∃n ρ A st,vs = [.ref A.a]∧aS T n ρ A H st∧st.aq.length≤1000∧∀H',aC H H'→Q (.int (fB st)) H'
structure zA (T:TC) (vs:List V) (H:Hp) (Q:VK) (E:XK):Prop where
 ex:∃n ρ A st,vs = [.ref A.a]∧aS T n ρ A H st∧∀r,H r = none→Q (.ref r) (upd H r (.lst (st.own.map V.str)))
structure Ck (T:TC) (vs:List V) (H:Hp) (Q:VK) (E:XK):Prop where
 ex:∃(bt db sp kn:Addr) (stp:List Int) (prod top:Int),vs = [.ref bt, .int top]∧H bt = some (.ins T.bot db (Di sp prod kn))∧H sp = some (.lst (stp.map V.int))∧prod = stp.foldl (· * ·) 1∧(∀s∈stp,2≤s)∧Jm.Sz 8000 prod∧∀r H',aC H H'→H' r = some (gZ (Jm.fr top prod))→Q (.ref r) H'
structure zC (T:TC) (vs:List V) (H:Hp) (Q:VK) (E:XK):Prop where
 ex:∃(bt db sp kn:Addr) (stp:List Int) (prod top:Int) (kvs:List (Key × V)),vs = [.ref bt, .int top]∧H bt = some (.ins T.bot db (Di sp prod kn))∧H sp = some (.lst (stp.map V.int))∧prod = stp.foldl (· * ·) 1∧(∀s∈stp,2≤s)∧Jm.Sz 8000 prod∧
  H kn = some (.dK kvs)∧zh H kvs prod∧kvs.length < 10000000∧(kvs.map (·.1)).Nodup∧∀r H' kvs',(∀b o,H b = some o→b ≠ kn→H' b = some o)→H' kn = some (.dK kvs')→zh H' kvs' prod→kvs'.length≤kvs.length + 1→(kvs'.map (·.1)).Nodup→H' r = some (gZ (Jm.fr top prod))→Q (.ref r) H'
structure xh (T:TC) (vs:List V) (H:Hp) (Q:VK) (E:XK):Prop where
 ex:∃n ρ A st,∃(i:Nat) (p:Pt),vs = [.ref A.a, .str p.nm]∧HH T n ρ A H st∧st.aq[i]? = some p∧st.kn + 100≤1000000∧∀r ws ρ' A' H',HH T n ρ' A' H' { st with kn:=st.kn + 100 }→A'.a = A.a→Fr n ρ H ρ' H'→H r = none→H' r = some (.lst ws)→ρ' r = none→dX H' ws (pP st p)→Q (.ref r) H'
inductive pQ (ρ:aQ) (H:Hp):List V→List iL→Prop
 | nil:pQ ρ H [] []
 | cons {r l:Addr} {x:iL} {ss:List V} {vs:List V} {as:List iL}:H r = some (.tup [.str x.nm, .str x.ow, .int x.wo, .ref l])→H l = some (.lst ss)→ρ l = none→dX H ss x.sh→pQ ρ H vs as→pQ ρ H (.ref r :: vs) (x :: as)
structure zH (T:TC) (vs:List V) (H:Hp) (Q:VK) (E:XK):Prop where
 ex:∃n ρ A st,vs = [.ref A.a]∧HH T n ρ A H st∧∀r ws H',aC H H'→H r = none→H' r = some (.lst ws)→pQ ρ H' ws st.jA→Q (.ref r) H'
theorem eS.mono {H H':Hp} {vs:List V} {l:List Pt} (h:eS H vs l) (g:∀b xs,H b = some (.tup xs)→H' b = some (.tup xs)):eS H' vs l:=by
 induction h with
 | nil=>exact .nil
 | cons a _ ih=>exact .cons (g _ _ a) ih
theorem eS.snoc {H:Hp} {vs:List V} {l:List Pt} {r:Addr} {p:Pt} (h:eS H vs l) (e:H r = some (qU p)):eS H (vs ++ [.ref r]) (l ++ [p]):=by
 induction h with
 | nil=>exact .cons e .nil
 | cons a _ ih=>exact .cons a ih
theorem dX.snoc {H:Hp} {vs:List V} {l:List (Str × Rat)} {r f:Addr} {x:Str} {q:Rat} (h:dX H vs l) (e:H r = some (.tup [.str x, .ref f])) (e2:H f = some (gZ q)):dX H (vs ++ [.ref r]) (l ++ [(x,q)]):=by
 induction h with
 | nil=>exact .cons e e2 .nil
 | cons a b _ ih=>exact .cons a b ih
theorem gg {H:Hp} {p:Addr} {o:HO} (h:H p = none∨∃u,H p = some u∧isTup u = false):∀b xs,H b = some (.tup xs)→upd H p o b = some (.tup xs):=fun b xs e=>by
 rw [ak (fun z=>?_)]
 · exact e
 · rw [z] at e
   rcases h with h | ⟨u,h,t⟩
   · rw [h] at e;cases e
   · rw [h] at e;cases e;cases t
theorem zJ {x:Str} (h:isNm x = true):x.cps.toList.length≤100000:=by
 unfold isNm isName at h
 have:=of_decide_eq_true (Bool.and_eq_true_iff.mp (Bool.and_eq_true_iff.mp h).1).2
 omega
theorem zK {H H1:Hp} {d:Addr} {o:Obj} {kvs:List (Key × V)} (e:H d = some (.dK kvs)) (s:aC (upd H d (.cV o (.dK kvs))) H1):aC H (upd H1 d (.dK kvs)):=fun b u q=>by
 by_cases h:b = d
 · rw [h,e] at q;cases q;rw [h];exact ai
 · rw [ak h];exact s b u (by rw [ak h];exact q)
theorem fC {H:Hp} {d b:Addr} {o:Obj} {u:HO} {kvs:List (Key × V)} (e:H d = some (.dK kvs)) (q:H b = some u) (h:∀k,u ≠ .dK k):upd H d (.cV o (.dK kvs)) b = some u:=by
 rw [ak (fun z=>by rw [z,e] at q;cases q;exact h _ rfl)];exact q
theorem tu {H:Hp} {d b:Addr} {o:Obj} {kvs:List (Key × V)} (e:H d = some (.dK kvs)) (q:upd H d (.cV o (.dK kvs)) b = none):H b = none:=by
 by_cases h:b = d
 · rw [h,ai] at q;cases q
 · rw [ak h] at q;exact q
theorem aC.tups {H H':Hp} (s:aC H H'):∀b xs,H b = some (.tup xs)→H' b = some (.tup xs):=fun b xs h=>s b _ h
theorem take_snoc {α:Type} {l:List α} {i:Nat} {x:α} (h:l[i]? = some x):l.take (i + 1) = l.take i ++ [x] :=by rw [List.take_add_one,h];rfl
theorem xj {α β γ:Type} (f:α→β→γ) {xs:List α} {ys:List β} {i:Nat} {x:α} {y:β} (h1:xs[i]? = some x) (h2:ys[i]? = some y):List.zipWith f (xs.take (i + 1)) (ys.take (i + 1)) = List.zipWith f (xs.take i) (ys.take i) ++ [f x y] :=by
 have l1:=(List.getElem?_eq_some_iff.mp h1).1
 have l2:=(List.getElem?_eq_some_iff.mp h2).1
 rw [take_snoc h1,take_snoc h2,List.zipWith_append (by rw [List.length_take,List.length_take];omega)]
 rfl
theorem ko {l:List Int} {i:Nat} {v:V} (h:(l.map V.int)[i]? = some v):∃z,v = .int z∧l[i]? = some z:=by
 rw [List.getElem?_map] at h
 obtain ⟨z,hz,rfl⟩:=Option.map_eq_some_iff.mp h
 exact ⟨z,rfl,hz⟩
end L2
namespace L2
open PySem PySem.Spec PyProof.Rows
theorem HH.mono {T:TC} {n:Nat} {ρ:aQ} {A:HA} {H H':Hp} {st:HS} (h:HH T n ρ A H st) (s:aC H H'):HH T n ρ A H' st:=⟨h.g.same s,h.h.mono s,h.wf⟩
theorem E7 {n:Nat} {ρ:aQ} {H:Hp} {a:Addr} {o u:HO} {ts:Nat→Bool} (c:ρ a = none) (h:H a = some u) (t:isTup u = false):Kp n ρ ρ H (upd H a o) ts:=
 ⟨gg (.inr ⟨u,h,t⟩),fun b x y w _ hc e=>⟨by rw [ak (fun z=>by rw [z,c] at hc;cases hc)];exact e,hc⟩⟩
theorem HH.Nh {T:TC} {n:Nat} {ρ:aQ} {A:HA} {H:Hp} {st:HS} {a:Addr} {o u:HO} (h:HH T n ρ A H st) (c:ρ a = none) (e:H a = some u) (t:isTup u = false) (t2:isTup o = false):HH T n ρ A (upd H a o) st:=⟨h.g.wr t2,h.h.same (E7 c e t),h.wf⟩
theorem Fr.new {n:Nat} {ρ ρ':aQ} {H H':Hp} {a:Addr} {o:HO} (f:Fr n ρ H ρ' H') (h:H a = none):Fr n ρ H ρ' (upd H' a o):=fun b u e k=>by
 rw [ak (aA e h)];exact f b u e k
theorem E8 {α β γ:Type} (f:α→β→γ) {xs:List α} {ys:List β} (h:xs.length = ys.length) (x:α) (y:β):List.zipWith f (xs ++ [x]) (ys ++ [y]) = List.zipWith f xs ys ++ [f x y] :=by
 rw [List.zipWith_append h];rfl
theorem JN {st:HS} (w:Wf st) {o:Str} (h:o ∉ st.own) (hl:st.own.length < 100):Wf (cY st o):=by
 have P:∀p∈(cY st o).aq,∃p0∈st.aq,p = { p0 with row:=p0.row ++ [0] }:=fun p hp=>by
  obtain ⟨p0,h0,rfl⟩:=List.mem_map.mp (show p∈st.aq.map _ from hp)
  exact ⟨p0,h0,rfl⟩
 have p1:=w.lS
 refine ⟨?_,w.GQ,?_,fun p hp=>?_,fun p hp=>?_,fun p hp=>?_,?_,?_,w.lS,w.yo,w.Dk,?_,w.GR,?_,w.GS,w.Dm,w.Od,w.big,fun c hc=>?_,fun p hp=>?_,fun p hp r hr=>?_,fun p hp t ht=>?_,fun p hp=>?_,fun u hu=>?_⟩
 · exact iW w.zk h
 · show ((st.aq.map fun p=>{ p with row:=p.row ++ [0] }).map (·.nm)).Nodup
   rw [List.map_map]
   exact w.zl
 · obtain ⟨p0,h0,rfl⟩:=P p hp
   exact w.sub p0 h0
 · obtain ⟨p0,h0,rfl⟩:=P p hp
   show (p0.row ++ [0]).length = (st.own ++ [o]).length
   rw [List.length_append,List.length_append,w.rows p0 h0]
   rfl
 · obtain ⟨p0,h0,rfl⟩:=P p hp
   exact List.mem_append_left _ (w.ow p0 h0)
 · show (st.cD ++ [0]).length = (st.own ++ [o]).length
   rw [List.length_append,List.length_append,w.iX]
   rfl
 · show (st.dw ++ [0]).length = (st.own ++ [o]).length
   rw [List.length_append,List.length_append,w.Dj]
   rfl
 · show (st.own ++ [o]).length≤100
   rw [List.length_append]
   exact hl
 · show (st.aq.map _).length≤1000
   rw [List.length_map]
   exact w.Dl
 · rcases List.mem_append.mp (show c∈st.cD ++ [0] from hc) with z | z
   · exact w.Dp c z
   · rw [List.mem_singleton.mp z];exact ⟨Int.le_refl _,by show (0:Int)≤st.prod;omega⟩
 · obtain ⟨p0,h0,rfl⟩:=P p hp
   exact w.E5 p0 h0
 · obtain ⟨p0,h0,rfl⟩:=P p hp
   rcases List.mem_append.mp (show r∈p0.row ++ [0] from hr) with z | z
   · exact w.zu p0 h0 r z
   · rw [List.mem_singleton.mp z];show -st.prod≤0∧0≤st.prod;omega
 · obtain ⟨p0,h0,rfl⟩:=P p hp
   have el:p0.row.length = st.cD.length:=by rw [w.rows p0 h0,w.iX]
   have ht:t∈List.zipWith (fun r c=>p0.sc * r + c) (p0.row ++ [0]) (st.cD ++ [0]):=ht
   rw [E8 _ el _ _] at ht
   rcases List.mem_append.mp ht with z | z
   · exact w.GU p0 h0 t z
   · rw [List.mem_singleton.mp z];show 0≤p0.sc * 0 + 0∧p0.sc * 0 + 0≤st.prod;omega
 · obtain ⟨p0,h0,rfl⟩:=P p hp
   exact w.Ij p0 h0
 · rcases List.mem_append.mp (show u∈st.dw ++ [0] from hu) with z | z
   · exact w.GV u z
   · rw [List.mem_singleton.mp z];exact kG (by decide +kernel)
theorem JO {st:HS} (w:Wf st) {p:Pt} (h1:p.nm ∉ st.nms) (h2:st.nms.length < 1000) (h3:st.aq.length < 1000) (h4:p.row.length = st.own.length) (h5:p.ow∈st.own) (h6:1≤p.sc∧p.sc≤st.prod) (h7:∀r∈p.row,-st.prod≤r∧r≤st.prod)
  (h8:∀t∈List.zipWith (fun r c=>p.sc * r + c) p.row st.cD,0≤t∧t≤st.prod) (h9:1≤p.wo∧0≤p.we):Wf (qT st p):=by
 have P:∀{M:Pt→Prop},(∀x∈st.aq,M x)→M p→∀x∈st.aq ++ [p],M x:=fun a b x hx=>by
  rcases List.mem_append.mp hx with z | z
  · exact a x z
  · rw [List.mem_singleton.mp z];exact b
 refine ⟨w.zk,iW w.GQ h1,?_,P (fun x hx=>List.mem_append_left _ (w.sub x hx)) (List.mem_append_right _ (List.mem_singleton.mpr rfl)),P w.rows h4,P w.ow h5,w.iX,w.Dj,w.lS,w.yo,w.Dk,w.zm,?_,?_,w.GS,w.Dm,w.Od,w.big,w.Dp,P w.E5 h6,P w.zu h7,P w.GU h8,P w.Ij h9,w.GV⟩
 · show ((st.aq ++ [p]).map (·.nm)).Nodup
   rw [List.map_append]
   refine iW w.zl fun m=>?_
   obtain ⟨x,hx,e⟩:=List.mem_map.mp m
   have e:x.nm = p.nm:=e
   exact h1 (by rw [← e];exact w.sub x hx)
 · show (st.nms ++ [p.nm]).length≤1000
   rw [List.length_append];exact h2
 · show (st.aq ++ [p]).length≤1000
   rw [List.length_append];exact h3
theorem zL {α β γ:Type} {f:α→β→γ} {t:γ}:∀{xs:List α} {ys:List β},t∈List.zipWith f xs ys→∃x∈xs,∃y∈ys,t = f x y
 | [],_,h=>by simp at h
 | _ :: _,[],h=>by simp at h
 | x :: xs,y :: ys,h=>by
   rcases List.mem_cons.mp (show t∈f x y :: List.zipWith f xs ys from h) with e | m
   · exact ⟨x,List.mem_cons_self,y,List.mem_cons_self,e⟩
   · obtain ⟨a,ha,b,hb,e⟩:=zL m
     exact ⟨a,List.mem_cons_of_mem _ ha,b,List.mem_cons_of_mem _ hb,e⟩
theorem tD:∀{ts cs:List Int},List.zipWith (fun r c=>1 * r + c) (List.zipWith (fun t c=>t - c) ts cs) cs = ts.take cs.length
 | [],_=>by simp
 | _ :: _,[]=>by simp
 | t :: ts,c :: cs=>by
   show (1 * (t - c) + c) :: List.zipWith _ (List.zipWith _ ts cs) cs = t :: ts.take cs.length
   rw [tD]
   congr 1
   omega
theorem nS {n i:Nat} {b t:Int} (h:t∈(List.replicate n 0).set i b):t = 0∨t = b:=by
 rcases List.mem_or_eq_of_mem_set h with z | z
 · exact .inl (List.eq_of_mem_replicate z)
 · exact .inr z
theorem JP {st:HS} (w:Wf st) {x o:Str} {wo we:Int} (h1:x ∉ st.nms) (h2:st.nms.length < 1000) (h3:st.aq.length < 1000) (ho:o∈st.own) (h4:1≤wo) (h5:0≤we):Wf (ji st x o wo we):=by
 have p1:=w.lS
 refine JO w h1 h2 h3 ?_ ho ⟨Int.le_refl 1,w.lS⟩ (fun r hr=>?_) (fun t ht=>?_) ⟨h4,h5⟩
 · show (List.zipWith _ ((List.replicate st.own.length 0).set _ _) st.cD).length = _
   rw [List.length_zipWith,List.length_set,List.length_replicate,w.iX,Nat.min_self]
 · obtain ⟨t,ht,c,hc,rfl⟩:=zL (show r∈List.zipWith _ _ st.cD from hr)
   have:=w.Dp c hc
   rcases nS ht with rfl | rfl <;> omega
 · have e:List.zipWith (fun r c=>1 * r + c) (pO st ((List.replicate st.own.length 0).set (st.own.idxOf o) st.prod)) st.cD = _:=tD
   have ht:t∈List.zipWith (fun r c=>1 * r + c) (pO st ((List.replicate st.own.length 0).set (st.own.idxOf o) st.prod)) st.cD:=ht
   rw [e] at ht
   rcases nS (List.mem_of_mem_take ht) with rfl | rfl <;> omega
theorem kJ {H:Hp} {a b:Addr} {o u:HO} (h:a ≠ b):upd (upd H a o) b u = upd (upd H b u) a o:=by
 funext c
 unfold upd
 by_cases e1:c = b
 · rw [if_pos e1,if_neg (fun z=>h (z.symm.trans e1)),if_pos e1]
 · rw [if_neg e1]
   by_cases e2:c = a
   · rw [if_pos e2,if_pos e2]
   · rw [if_neg e2,if_neg e2,if_neg e1]
theorem tE {H:Hp} {a:Addr} {o:HO} (h:H a = some o):upd H a o = H:=by
 funext c
 unfold upd
 by_cases e:c = a
 · rw [if_pos e,e,h]
 · rw [if_neg e]
theorem GX {α:Type} (g:α→α) {l:List α} {i:Nat} {p:α} (h:l[i]? = some p):((l.take i).map g ++ l.drop i)[i]? = some p:=by
 have hi:=(List.getElem?_eq_some_iff.mp h).1
 have e:((l.take i).map g).length = i:=by rw [List.length_map,List.length_take];omega
 rw [List.getElem?_append_right (by omega),e,Nat.sub_self,List.getElem?_drop]
 exact h
theorem GY {α:Type} (g:α→α) {l:List α} {i:Nat} {p:α} (h:l[i]? = some p):((l.take i).map g ++ l.drop i).set i (g p) = (l.take (i + 1)).map g ++ l.drop (i + 1):=by
 have hi:=(List.getElem?_eq_some_iff.mp h).1
 have e:((l.take i).map g).length = i:=by rw [List.length_map,List.length_take];omega
 have ep:l[i] = p:=by rw [List.getElem?_eq_getElem hi] at h;exact Option.some.inj h
 rw [List.set_append_right _ _ (by omega),e,Nat.sub_self,List.drop_eq_getElem_cons hi,List.set_cons_zero,take_snoc h,List.map_append,List.append_assoc]
 rfl
theorem zM {α β:Type} (g:α→α) (f:α→β) (hf:∀x,f (g x) = f x) (l:List α) (i:Nat):((l.take i).map g ++ l.drop i).map f = l.map f:=by
 rw [List.map_append,List.map_map,show f ∘ g = f from funext hf,← List.map_append,List.take_append_drop]
theorem xm {ps ps':List Pt} {qs:List (Addr × Addr × Addr)} (h:ps.map (·.nm) = ps'.map (·.nm)):cR ps qs = cR ps' qs:=by
 have:∀{ps:List Pt},cR ps qs = List.zipWith (fun (x:Str) q=>((Sum.inr x:Key),V.ref q.1)) (ps.map (·.nm)) qs:=fun {ps}=>by unfold cR;rw [List.zipWith_map_left]
 rw [this,this,h]
structure eB (p:Addr) (H:Hp) (ρ:aQ) (H':Hp) (ρ':aQ) (l:List (Addr × HO × jZ)):Prop where
 m:∀e∈l,H' e.1 = some e.2.1∧ρ' e.1 = some e.2.2∧e.1 ≠ p
 k:∀b o,H b = some o→b ≠ p→H' b = some o∧ρ' b = ρ b
 g:Gh ρ' H'
 pp:∃u,H' p = some u
theorem eB.new {p a:Addr} {H H':Hp} {ρ ρ':aQ} {l:List (Addr × HO × jZ)} {o:HO} {c:jZ} (h:eB p H ρ H' ρ' l) (ha:H' a = none) (t:isTup o = false):eB p H ρ (upd H' a o) (cu ρ' a c) ((a,o,c) :: l):=by
 obtain ⟨u,hu⟩:=h.pp
 refine ⟨fun e he=>?_,fun b w hb hp=>?_,(h.g.alloc ha).color ai t,u,by rw [ak (aA hu ha)];exact hu⟩
 · rcases List.mem_cons.mp he with rfl | he
   · exact ⟨ai,c8,fun z=>by rw [show a = p from z,hu] at ha;cases ha⟩
   · obtain ⟨x,y,z⟩:=h.m e he
     have:e.1 ≠ a:=aA x ha
     rw [ak this,bg this]
     exact ⟨x,y,z⟩
 · obtain ⟨x,y⟩:=h.k b w hb hp
   have:b ≠ a:=aA x ha
   rw [ak this,bg this]
   exact ⟨x,y⟩
theorem eB.wr {p:Addr} {H H':Hp} {ρ ρ':aQ} {l:List (Addr × HO × jZ)} {u:HO} (h:eB p H ρ H' ρ' l) (t:isTup u = false):eB p H ρ (upd H' p u) ρ' l:=by
 refine ⟨fun e he=>?_,fun b w hb hp=>?_,h.g.wr t,u,ai⟩
 · obtain ⟨x,y,z⟩:=h.m e he
   rw [ak z];exact ⟨x,y,z⟩
 · obtain ⟨x,y⟩:=h.k b w hb hp
   rw [ak hp];exact ⟨x,y⟩
theorem eB.same {p:Addr} {H H' xo:Hp} {ρ ρ':aQ} {l:List (Addr × HO × jZ)} (h:eB p H ρ H' ρ' l) (s:aC H' xo):eB p H ρ xo ρ' l:=by
 obtain ⟨u,hu⟩:=h.pp
 exact ⟨fun e he=>let ⟨x,y,z⟩:=h.m e he;⟨s _ _ x,y,z⟩,fun b w hb hp=>let ⟨x,y⟩:=h.k b w hb hp;⟨s _ _ x,y⟩,h.g.same s,u,s _ _ hu⟩
theorem eB.add {p a:Addr} {H H' H0:Hp} {ρ ρ' ρ0:aQ} {l l0:List (Addr × HO × jZ)} {o:HO} {c:jZ} (h:eB p H ρ H' ρ' l) (ha:H' a = some o) (t:isTup o = false) (h0:eB p H ρ H0 ρ0 l0) (hn:H0 a = none) (hl:∀e∈l,e.1 ≠ a):eB p H ρ H' (cu ρ' a c) ((a,o,c) :: l):=by
 refine ⟨fun e he=>?_,fun b w hb hp=>?_,h.g.color ha t,h.pp⟩
 · rcases List.mem_cons.mp he with rfl | he
   · obtain ⟨u,hu⟩:=h0.pp
     exact ⟨ha,c8,fun z=>by rw [show a = p from z,hu] at hn;cases hn⟩
   · obtain ⟨x,y,z⟩:=h.m e he
     rw [bg (hl e he)]
     exact ⟨x,y,z⟩
 · obtain ⟨x,y⟩:=h.k b w hb hp
   obtain ⟨x0,_⟩:=h0.k b w hb hp
   rw [bg (aA x0 hn)]
   exact ⟨x,y⟩
theorem zN:∀(l:List Int) (a:Int),l.foldl (· * ·) a = a * l.foldl (· * ·) 1
 | [],a=>by simp
 | s :: l,a=>by
   rw [List.foldl_cons,zN l (a * s),List.foldl_cons,zN l (1 * s),Int.one_mul,Int.mul_assoc]
theorem vM (s:Int) (l:List Int):(s :: l).foldl (· * ·) 1 = s * l.foldl (· * ·) 1:=by rw [List.foldl_cons,zN,Int.one_mul]
theorem zO:∀{l:List Int},(∀s∈l,2≤s)→1≤l.foldl (· * ·) 1
 | [],_=>by decide
 | s :: l,h=>by
   rw [vM]
   have h1:=h s List.mem_cons_self
   have h2:=zO (l:=l) fun x hx=>h x (List.mem_cons_of_mem _ hx)
   have:=Int.mul_le_mul (a:=1) (b:=1) (c:=s) (d:=l.foldl (· * ·) 1) (by omega) h2 (by decide) (by omega)
   omega
theorem Im:∀{l:List Int} {s:Int},(∀s∈l,2≤s)→s∈l→s≤l.foldl (· * ·) 1
 | [],_,_,h=>by simp at h
 | a :: l,s,h,m=>by
   rw [vM]
   have h1:=h a List.mem_cons_self
   have h2:=zO (l:=l) fun x hx=>h x (List.mem_cons_of_mem _ hx)
   rcases List.mem_cons.mp m with rfl | m
   · have:=Int.mul_le_mul_of_nonneg_left h2 (by omega:0≤s)
     omega
   · have h3:=Im (fun x hx=>h x (List.mem_cons_of_mem _ hx)) m
     have:=Int.mul_le_mul_of_nonneg_right (by omega:1≤a) (by omega:0≤l.foldl (· * ·) 1)
     omega
theorem E9 {t d s:Int} (hd:0 < d) (hs:0 < s) (c:Jm.cf t d = 1):Jm.cf (t / Jm.cf t s) (d * (s / Jm.cf t s)) = 1∧0 < d * (s / Jm.cf t s):=by
 have gp:0 < Jm.cf t s:=Jm.yR t s (.inr hs)
 obtain ⟨u,hu⟩:=Jm.mC t s
 obtain ⟨v,hv⟩:=Jm.kF t s
 generalize eg:Jm.cf t s = g at *
 have e1:t / g = u:=by rw [hu,Int.mul_ediv_cancel_left _ (by omega)]
 have e2:s / g = v:=by rw [hv,Int.mul_ediv_cancel_left _ (by omega)]
 have vp:0 < v:=by
  rcases Int.lt_or_le 0 v with z | z
  · exact z
  · have:=Int.mul_le_mul_of_nonneg_left z (by omega:0≤g)
    omega
 rw [e1,e2]
 have c0:Nat.Coprime t.natAbs d.natAbs:=by unfold Jm.cf at c;exact_mod_cast c
 have c1:Nat.Coprime u.natAbs d.natAbs:=Nat.Coprime.coprime_dvd_left ⟨g.natAbs,by rw [hu,Int.natAbs_mul,Nat.mul_comm]⟩ c0
 have c2:Nat.Coprime u.natAbs v.natAbs:=by
  have hg:Int.gcd t s = g.natAbs:=by unfold Jm.cf at eg;omega
  have Of:Nat.gcd t.natAbs s.natAbs = g.natAbs:=hg
  have:=Nat.coprime_div_gcd_div_gcd (m:=t.natAbs) (n:=s.natAbs) (by rw [Of];omega)
  rw [Of] at this
  have gn:0 < g.natAbs:=by omega
  rw [hu,hv,Int.natAbs_mul,Int.natAbs_mul,Nat.mul_div_cancel_left _ gn,Nat.mul_div_cancel_left _ gn] at this
  exact this
 refine ⟨?_,Int.mul_pos hd vp⟩
 have:=Nat.Coprime.mul_right c1 c2
 rw [← Int.natAbs_mul] at this
 unfold Jm.cf
 exact_mod_cast this
theorem GZ {κ:Type} [DecidableEq κ] {kvs:List (κ × V)} {k:κ} {v:V} (h:cJ kvs k = some v):(k,v)∈kvs:=by
 unfold cJ at h
 obtain ⟨p,hp,rfl⟩:=Option.map_eq_some_iff.mp h
 have:=List.find?_some hp
 have e:p.1 = k:=of_decide_eq_true this
 rw [← e]
 exact List.mem_of_find?_eq_some hp
theorem aS.G0 {T:TC} {n:Nat} {ρ:aQ} {A:HA} {H H':Hp} {st:HS} (h:aS T n ρ A H st) (k:∀b o,H b = some o→b ≠ A.kn→H' b = some o) {kvs:List (Key × V)} {m:Nat} (e1:H' A.kn = some (.dK kvs)) (e2:zh H' kvs st.prod) (e3:kvs.length≤m) (e4:(kvs.map (·.1)).Nodup):aS T n ρ A H' { st with kn:=m }:=by
 obtain ⟨Sn,k0,_⟩:=h.okn
 have z:=fun {b:Addr} {t:Nat} {x:Str} {o:HO} (u:t ≠ 9) (c:ρ b = some (n,t,x)) (e:H b = some o)=>k b o e (uI c h.iN (fun w=>by cases w;exact u rfl))
 have tp:∀b xs,H b = some (.tup xs)→H' b = some (.tup xs):=fun b xs e=>k b _ e (e8 e k0 (by intro w;cases w))
 obtain ⟨vs,h1,h2⟩:=h.uH
 have kp:Kp n ρ ρ H H' fun t=>decide (t ≠ 9):=⟨tp,fun b t x o u c e=>⟨z (of_decide_eq_true u) c e,c⟩⟩
 exact ⟨z (by decide) h.ca h.oa,h.ca,z (by decide) h.iM h.fu,h.iM,z (by decide) h.fL h.eV,h.fL,⟨vs,z (by decide) h.j0 h1,h2.keep kp (by decide)⟩,h.j0,z (by decide) h.jB h.rO,h.jB,z (by decide) h.j5 h.oH,h.j5,z (by decide) h.jC h.j6,h.jC,z (by decide) h.cpu h.rP,h.cpu,z (by decide) h.j7 h.rQ,h.j7,⟨kvs,e1,e2,e3,e4⟩,h.iN,h.ql,
  fun i p q a b=>let ⟨x,y,c,d⟩:=h.opt i p q a b;⟨z (by decide) c x,z (by decide) d y,c,d⟩⟩
theorem Ni {st:HS} (w:Wf st) {m:Nat} (h:m≤1000000):Wf { st with kn:=m }:=⟨w.zk,w.GQ,w.zl,w.sub,w.rows,w.ow,w.iX,w.Dj,w.lS,w.yo,w.Dk,w.zm,w.GR,w.Dl,w.GS,w.Dm,h,w.big,w.Dp,w.E5,w.zu,w.GU,w.Ij,w.GV⟩
theorem ie.length {n:Nat} {ρ:aQ} {H:Hp} {vs:List V} {l:List iL} (h:ie n ρ H vs l):vs.length = l.length:=by
 induction h with
 | nil=>rfl
 | cons _ _ _ _ _ ih=>simp [ih]
theorem ie.get {n:Nat} {ρ:aQ} {H:Hp} {vs:List V} {l:List iL} (h:ie n ρ H vs l):∀{i:Nat} {x:V},vs[i]? = some x→∃r q y ss,x = .ref r∧l[i]? = some y∧H r = some (.tup [.str y.nm, .str y.ow, .int y.wo, .ref q])∧H q = some (.lst ss)∧ρ q = some (n,30,y.nm)∧dX H ss y.sh:=by
 induction h with
 | nil=>intro i x e;simp at e
 | @cons r q y ss vs as a b c d _ ih=>
   intro i x e
   cases i with
   | zero=>simp at e;subst e;exact ⟨r,q,y,ss,rfl,rfl,a,b,c,d⟩
   | succ i=>simp at e;obtain ⟨r',q',y',ss',e1,e2,e3⟩:=ih e;exact ⟨r',q',y',ss',e1,by simpa using e2,e3⟩
inductive ff (a:Addr) (ρ:aQ) (H:Hp):List V→List iL→Prop
 | nil:ff a ρ H [] []
 | cons {r l:Addr} {x:iL} {ss:List V} {vs:List V} {as:List iL}:H r = some (.tup [.str x.nm, .str x.ow, .int x.wo, .ref l])→H l = some (.lst ss)→ρ l = none→l ≠ a→dX H ss x.sh→ff a ρ H vs as→ff a ρ H (.ref r :: vs) (x :: as)
theorem ff.to {a:Addr} {ρ:aQ} {H:Hp} {vs:List V} {l:List iL} (h:ff a ρ H vs l):pQ ρ H vs l:=by
 induction h with
 | nil=>exact .nil
 | cons x y z _ w _ ih=>exact .cons x y z w ih
theorem ff.mono {a:Addr} {ρ:aQ} {H H':Hp} {vs:List V} {l:List iL} (h:ff a ρ H vs l) (g:aC H H'):ff a ρ H' vs l:=by
 induction h with
 | nil=>exact .nil
 | cons x y z n w _ ih=>exact .cons (g _ _ x) (g _ _ y) z n (w.mono g.tups) ih
theorem ff.upd {a:Addr} {ρ:aQ} {H:Hp} {vs:List V} {l:List iL} {xs ys:List V} (h:ff a ρ H vs l) (ha:H a = some (.lst xs)):ff a ρ (L2.upd H a (.lst ys)) vs l:=by
 induction h with
 | nil=>exact .nil
 | cons x y z n w _ ih=>exact .cons (gg (.inr ⟨_,ha,rfl⟩) _ _ x) (by rw [ak n];exact y) z n (w.mono (gg (.inr ⟨_,ha,rfl⟩))) ih
theorem ff.snoc {a:Addr} {ρ:aQ} {H:Hp} {vs:List V} {as:List iL} {r l:Addr} {x:iL} {ss:List V} (h:ff a ρ H vs as) (e1:H r = some (.tup [.str x.nm, .str x.ow, .int x.wo, .ref l])) (e2:H l = some (.lst ss)) (e3:ρ l = none) (e5:l ≠ a) (e4:dX H ss x.sh):ff a ρ H (vs ++ [.ref r]) (as ++ [x]):=by
 induction h with
 | nil=>exact .cons e1 e2 e3 e5 e4 .nil
 | cons x y z n w _ ih=>exact .cons x y z n w ih
end L2
namespace L2
open PySem PySem.Spec PyProof.Rows
def Sq (K:PySem.W.Frag) (H:Hp) (r:Addr) (xs:List V):Prop:=aE K H r xs∨bF K H r xs
theorem aC.sq {K:PySem.W.Frag} {H H':Hp} {r:Addr} {xs:List V} (g:aC H H') (h:Sq K H r xs):Sq K H' r xs:=h.elim (fun z=> .inl (g.seq z)) fun z=> .inr (g.tup z)
structure pR (K:PySem.W.Frag) (H:Hp) (us:List V) (ps:List Pt):Prop where
 len:us.length = ps.length
 at_:∀(i:Nat) (p:Pt),ps[i]? = some p→∃r xs,us[i]? = some (.ref r)∧Sq K H r xs∧xs[0]? = some (.str p.nm)∧xs[1]? = some (.str p.ow)∧xs[2]? = some (.int p.wo)∧xs[3]? = some (.int p.we)
theorem pR.mono {K:PySem.W.Frag} {H H':Hp} {us:List V} {ps:List Pt} (h:pR K H us ps) (g:aC H H'):pR K H' us ps:=⟨h.len,fun i p e=>let ⟨r,xs,a,b,c⟩:=h.at_ i p e;⟨r,xs,a,g.sq b,c⟩⟩
def Lp (ps:List Pt):Prop:=∀p∈ps,PyData.strOk p.nm = true∧PyData.strOk p.ow = true
structure uJ (K:PySem.W.Frag) (vs:List V) (H:Hp) (Q:VK) (E:XK):Prop where
 ex:∃(r l:Addr) (ws us:List V) (ps:List Pt),vs = [.ref r, .ref l]∧H r = some (.lst ws)∧eS H ws ps∧aE K H l us∧pR K H us ps∧Lp ps∧ps.length≤1000∧∀H',aC H H'→Q (.bl true) H'
def cK (own:List Str) (tops:List Int) (b:Int):List (Str × Rat):=(List.zip own tops).filterMap fun x=>if 0 < x.2 then some (x.1,Jm.fr x.2 b) else none
structure mF (K:PySem.W.Frag) (vs:List V) (H:Hp) (Q:VK) (E:XK):Prop where
 ex:∃(r lo lt:Addr) (ws:List V) (own:List Str) (tops:List Int) (b:Int),vs = [.ref r, .ref lo, .ref lt, .int b]∧H r = some (.lst ws)∧dX H ws (cK own tops b)∧aE K H lo (own.map V.str)∧aE K H lt (tops.map V.int)∧own.length = tops.length∧own.length≤1000∧0 < b∧Jm.Sz 9000 b∧∀H',aC H H'→Q (.bl true) H'
theorem eS.length {H:Hp} {vs:List V} {l:List Pt} (h:eS H vs l):vs.length = l.length:=by
 induction h with
 | nil=>rfl
 | cons _ _ ih=>simp [ih]
theorem eS.get {H:Hp} {vs:List V} {l:List Pt} (h:eS H vs l):∀{i:Nat} {p:Pt},l[i]? = some p→∃r,vs[i]? = some (.ref r)∧H r = some (qU p):=by
 induction h with
 | nil=>intro i p e;simp at e
 | @cons r q vs ps a _ ih=>
   intro i p e
   cases i with
   | zero=>simp at e;subst e;exact ⟨r,rfl,a⟩
   | succ i=>simp at e;obtain ⟨r',e1,e2⟩:=ih e;exact ⟨r',by simpa using e1,e2⟩
theorem dX.length {H:Hp} {vs:List V} {l:List (Str × Rat)} (h:dX H vs l):vs.length = l.length:=by
 induction h with
 | nil=>rfl
 | cons _ _ _ ih=>simp [ih]
theorem dX.get {H:Hp} {vs:List V} {l:List (Str × Rat)} (h:dX H vs l):∀{i:Nat} {x:Str} {q:Rat},l[i]? = some (x,q)→∃r f,vs[i]? = some (.ref r)∧H r = some (.tup [.str x, .ref f])∧H f = some (gZ q):=by
 induction h with
 | nil=>intro i x q e;simp at e
 | @cons r f x q vs l a b _ ih=>
   intro i y p e
   cases i with
   | zero=>simp at e;obtain ⟨rfl,rfl⟩:=e;exact ⟨r,f,rfl,a,b⟩
   | succ i=>simp at e;obtain ⟨r',f',e1,e2⟩:=ih e;exact ⟨r',f',by simpa using e1,e2⟩
def qV (p:Pt):PyData:= .tuple [.str p.nm, .str p.ow, .int p.wo, .int p.we]
theorem Cm {K:PySem.W.Frag} {H:Hp} {r:Addr} {p:Pt} (h:H r = some (qU p)):Dt K H (.ref r) (qV p):= .tup (bF.of h) (.cons (.str _) (.cons (.str _) (.cons (.int _) (.cons (.int _) .nil))))
theorem rR {p:Pt} (h1:PyData.strOk p.nm = true) (h2:PyData.strOk p.ow = true):SeqAt.shaped (qV p) = true:=by
 unfold qV SeqAt.shaped
 refine Bool.and_eq_true_iff.mpr ⟨?_,rfl⟩
 simp [PyData.canLay0,PyData.canLayAll0,h1,h2]
theorem G1 (p:Pt):PyData.eqv (qV p) (qV p) = true:=by
 unfold qV
 simp [PyData.eqv,PyData.eqvAll]
def zP (x:Str):Prop:=ia x.cps.toList
theorem Dq:∀i:Fin 26,jw "abcdefghijklmnopqrstuvwxyz" (97 + i.val) = true:=by decide +kernel
theorem zP.isNm {x:Str} (h:zP x):L2.isNm x = true:=by
 unfold L2.isNm isName
 have h1:=h.lo
 have h2:=h.hi
 refine Bool.and_eq_true_iff.mpr ⟨Bool.and_eq_true_iff.mpr ⟨decide_eq_true (by omega),decide_eq_true (by omega)⟩,List.all_eq_true.mpr fun c hc=>?_⟩
 have h3:=h.B3 c hc
 have:=Dq ⟨c - 97,by omega⟩
 rw [show 97 + (c - 97) = c from by omega] at this
 exact this
theorem zP.strOk {x:Str} (h:zP x):PyData.strOk x = true:=by
 unfold PyData.strOk
 rw [Array.all_eq_true']
 intro c hc
 have:=h.B3 c (by simpa using hc)
 exact decide_eq_true (by omega)
structure Co (T:TC) (K:PySem.W.Frag) (vs:List V) (H:Hp) (Q:VK) (E:XK):Prop where
 ex:∃(l:Addr) (own:List Str) (n:Nat) (ρ:aQ),vs = [.ref l]∧aE K H l (own.map V.str)∧ρ l = none∧own.Nodup∧(∀o∈own,isNm o = true)∧own.length≤100∧Gh ρ H∧∀ρ' A H',HH T n ρ' A H' (own.foldl cY hs0)→Fr n ρ H ρ' H'→Q (.ref A.a) H'
theorem pS:∀(l:List Str) (st:HS),(l.foldl cY st).own = st.own ++ l
 | [],st=>by simp
 | o :: l,st=>by
   rw [List.foldl_cons,pS l]
   show (st.own ++ [o]) ++ l = _
   rw [List.append_assoc]
   rfl
theorem qW (K:PySem.W.Frag) {X:Cx} (hK:X.K = K:=by rfl):oB X (KH K):=hK ▸ KI
theorem Sq.ix {K:PySem.W.Frag} {H:Hp} {r:Addr} {xs:List V} {i:Nat} {v:V} {Q:VK} (h:Sq K H r xs) (e:xs[i]? = some v) (q:Q v H):KH K (.ref r) (.int (i:Int)) H Q:=by
 rcases h with h | h
 · exact .inl ⟨r,xs,i,v,rfl,rfl,h,a_ e,q⟩
 · exact .inr (.inl ⟨r,xs,i,v,rfl,rfl,h,a_ e,q⟩)
theorem xK {own:List Str} {tops:List Int} {b:Int} (hb:0 < b) {m:Nat} (hz:Jm.Sz m b) {x:Str} {q:Rat} (h:(x,q)∈cK own tops b):Jm.Sz m (q.den:Int):=by
 unfold cK at h
 obtain ⟨y,_,e⟩:=List.mem_filterMap.mp h
 by_cases c:0 < y.2
 · rw [if_pos c] at e
   cases e
   refine hz.of_le ?_
   have:=Jm.ED y.2 b hb
   omega
 · rw [if_neg c] at e;cases e
theorem Fr.at {n:Nat} {ρ ρ':aQ} {H H':Hp} (f:Fr n ρ H ρ' H') {b:Addr} {o:HO} (e:H b = some o) (c:ρ b = none):H' b = some o∧ρ' b = none:=by
 obtain ⟨a,d⟩:=f b o e (fun t x=>by rw [c];intro z;cases z)
 exact ⟨a,d.trans c⟩
theorem Fr.seq {K:PySem.W.Frag} {n:Nat} {ρ ρ':aQ} {H H':Hp} (f:Fr n ρ H ρ' H') {l:Addr} {xs:List V} (h:aE K H l xs) (c:ρ l = none):aE K H' l xs:=by
 rcases h with (h | ⟨o,h⟩) | h
 · exact .inl (.inl (f.at h c).1)
 · exact .inl (.inr ⟨o,(f.at h c).1⟩)
 · exact .inr h
theorem Fr.tup {n:Nat} {ρ ρ':aQ} {H H':Hp} (f:Fr n ρ H ρ' H') (g:Gh ρ H):∀b xs,H b = some (.tup xs)→H' b = some (.tup xs):=fun b xs e=>(f.at e (g.tup e)).1
end L2
namespace L2
open PySem PySem.Spec PyProof.Rows
def uK (nss:List (List Nat)):List Str:=nss.map tx
theorem JQ (nss:List (List Nat)):jx nss = (uK nss).map V.str:=by unfold jx uK;rw [List.map_map];rfl
theorem xr {nss:List (List Nat)} (h:nss.Nodup):(uK nss).Nodup:=by
 unfold uK
 exact List.Pairwise.map tx (fun a b hab e=>hab (ES e)) h
theorem E_ {nss:List (List Nat)} (h:∀x∈nss,ia x):∀o∈uK nss,zP o:=fun o ho=>by
 obtain ⟨x,hx,rfl⟩:=List.mem_map.mp ho
 show ia (tx x).cps.toList
 rw [show (tx x).cps.toList = x from by simp]
 exact h x hx
theorem Cp (nss:List (List Nat)):(uK nss).length = nss.length:=by unfold uK;rw [List.length_map]
theorem zQ (x:Str) (l:List Str):yI (.str x) (l.map V.str) = decide (x∈l):=by
 have:=B5 x.cps.toList (l.map fun y=>y.cps.toList)
 rw [m8] at this
 rw [show jx (l.map fun y=>y.cps.toList) = l.map V.str from by unfold jx;rw [List.map_map];congr 1;] at this
 rw [this]
 congr 1
 refine propext ⟨fun m=>?_,fun m=>List.mem_map.mpr ⟨x,m,rfl⟩⟩
 obtain ⟨y,hy,e⟩:=List.mem_map.mp m
 have:tx y.cps.toList = tx x.cps.toList:=by rw [e]
 rw [m8,m8] at this
 rw [← this];exact hy
theorem xu (l:List Str):(l.map V.str).all jh = true:=by
 rw [List.all_map]
 exact List.all_eq_true.mpr fun _ _=>rfl
theorem G7 {l:List Str} {d:Int} (h0:0≤d) (h1:d < (l.length:Int)):∃(j:Nat) (o:Str),d = (j:Int)∧l[j]? = some o∧gj (l.map V.str) d = some (.str o):=by
 obtain ⟨j,rfl⟩:∃j:Nat,d = (j:Int):=⟨d.toNat,by omega⟩
 have hj:j < l.length:=by omega
 exact ⟨j,l[j],rfl,List.getElem?_eq_getElem hj,a_ (by rw [List.getElem?_map,List.getElem?_eq_getElem hj];rfl)⟩
section
variable {T:TC} {n:Nat} {L H:Hp} {x lp:Addr} {st:HS} {ps:List Pt}
end
end L2
namespace L2
open PySem PySem.Spec PyProof.Rows
abbrev Row:=Str × Int
def Dr (rs:List Row):Int:=(rs.map (·.2)).sum
def fV (st:HS) (x:Str):Pt:=(st.aq.find? fun p=>decide (p.nm = x)).getD ⟨x,x,0,0,1,[]⟩
def G9 (st:HS) (sums:List Int) (r:Row):List Int:=List.zipWith (fun old own=>old + (r.2 * (fV st r.1).sc) * own) sums (fV st r.1).row
def Lq (st:HS) (rs:List Row):List Int:=rs.foldl (G9 st) (st.cD.map fun c=>Dr rs * c)
def Nj (s:Int) (ts:List Int):Int:=ts.foldl (fun s t=>Jm.cf t s) s
def JR (st:HS) (kept:Int):List Int:=st.aq.map fun p=>p.sc * kept
def Lr (st:HS) (kept:Int) (added:List Int):List Int:=List.zipWith (fun t m=>t * kept + m) st.cD added
def qX (st:HS) (kept whole:Int) (added:List Int):Int:=Nj whole (JR st kept ++ Lr st kept added)
def Nk (st:HS) (s:Int):HS:=if 1 < s then { st with stp:=st.stp ++ [s],prod:=st.prod * s,kn:=0 } else st
def Fb (st:HS) (kept whole:Int) (added:List Int):HS:=
 Nk { st with aq:=st.aq.map (fun p=>{ p with sc:=p.sc * kept / qX st kept whole added }),cD:=(Lr st kept added).map (· / qX st kept whole added),dw:=st.dw.map (· * (whole / qX st kept whole added)) } (whole / qX st kept whole added)
def Nl (ps:List Pt) (x:Str) (a:Int):List Pt:=(ps.map fun p=>if p.nm = x then { p with wo:=p.wo - a } else p).filter fun p=>decide (p.wo ≠ 0)
def Io (st:HS) (r:Row):HS:={ st with aq:=Nl st.aq r.1 r.2 }
def Nm (st:HS) (rs:List Row):HS:=rs.foldl Io (Fb st (fB st - Dr rs) (fB st) (Lq st rs))
end L2
namespace L2
open PySem PySem.Spec PyProof.Rows
theorem Fr.zR {n t:Nat} {ρ ρ':aQ} {H H':Hp} {a:Addr} {x:Str} (f:Fr n ρ H ρ' H') (h:H a = none):Fr n ρ H (cu ρ' a (n,t,x)) H':=fun b o e k=>by
 obtain ⟨e1,e2⟩:=f b o e k
 exact ⟨e1,by rw [bg (aA e h)];exact e2⟩
end L2
namespace L2
open PySem PySem.Spec PyProof.Rows
theorem G_ {st:HS} (wf:Wf st) {p:Pt} (h:p∈st.aq):(dJ st p).length = st.cD.length:=by
 unfold dJ
 rw [List.length_zipWith,wf.rows p h,wf.iX]
 omega
end L2
namespace L2
open PySem PySem.Spec PyProof.Rows
structure BP where
 nm:Str
 ow:Str
 wo:Int
 we:Int
 tops:List Int
structure BE where
 nm:Str
 ow:Str
 wo:Int
 tops:List Int
 bot:Int
structure BS where
 own:List Str
 aq:List BP
 bot:Int
 jA:List BE
 cL:List Str
structure BA where
 m:Addr
 lo:Addr
 lp:Addr
 la:Addr
 lk:Addr
 qs:List (Addr × Addr)
def ir (B:BA) (bot:Int):List (Key × V):=[(Sum.inr "owners", .ref B.lo),(Sum.inr "parts", .ref B.lp),(Sum.inr "bottom", .int bot),(Sum.inr "ashore", .ref B.la),(Sum.inr "known", .ref B.lk)]
def xw (p:BP) (t:Addr):HO:= .lst [.str p.nm, .str p.ow, .int p.wo, .int p.we, .ref t]
inductive tF (n:Nat) (ρ:aQ) (H:Hp):List V→List BE→Prop
 | nil:tF n ρ H [] []
 | cons {r t:Addr} {e:BE} {vs:List V} {es:List BE}:H r = some (.lst [.str e.nm, .str e.ow, .int e.wo, .ref t, .int e.bot])→ρ r = some (n,27,e.nm)→H t = some (.lst (e.tops.map V.int))→ρ t = some (n,28,e.nm)→tF n ρ H vs es→tF n ρ H (.ref r :: vs) (e :: es)
structure bf (n:Nat) (ρ:aQ) (B:BA) (H:Hp) (b:BS):Prop where
 om:H B.m = some (.dK (ir B b.bot))
 cm:ρ B.m = some (n,20,⟨#[]⟩)
 oo:H B.lo = some (.lst (b.own.map V.str))
 co:ρ B.lo = some (n,21,⟨#[]⟩)
 op:H B.lp = some (.lst (B.qs.map fun q=>V.ref q.1))
 cp:ρ B.lp = some (n,22,⟨#[]⟩)
 oa:∃vs,H B.la = some (.lst vs)∧tF n ρ H vs b.jA
 ca:ρ B.la = some (n,25,⟨#[]⟩)
 ok:H B.lk = some (.lst (b.cL.map V.str))
 ck:ρ B.lk = some (n,26,⟨#[]⟩)
 ql:B.qs.length = b.aq.length
 pt:∀(i:Nat) (p:BP) (q:Addr × Addr),b.aq[i]? = some p→B.qs[i]? = some q→H q.1 = some (xw p q.2)∧H q.2 = some (.lst (p.tops.map V.int))∧ρ q.1 = some (n,23,p.nm)∧ρ q.2 = some (n,24,p.nm)
theorem tF.keep {n:Nat} {ρ ρ':aQ} {H H':Hp} {vs:List V} {l:List BE} (h:tF n ρ H vs l) {ts:Nat→Bool} (k:Kp n ρ ρ' H H' ts) (e1:ts 27 = true) (e2:ts 28 = true):tF n ρ' H' vs l:=by
 induction h with
 | nil=>exact .nil
 | cons a b c d _ ih=>exact .cons (k.2 _ _ _ _ e1 b a).1 (k.2 _ _ _ _ e1 b a).2 (k.2 _ _ _ _ e2 d c).1 (k.2 _ _ _ _ e2 d c).2 ih
theorem bf.same {n:Nat} {ρ ρ':aQ} {B:BA} {H H':Hp} {b:BS} (h:bf n ρ B H b) (k:Kp n ρ ρ' H H' fun _=>true):bf n ρ' B H' b:=by
 have z:=fun {b:Addr} {t:Nat} {x:Str} {o:HO} (c:ρ b = some (n,t,x)) (e:H b = some o)=>k.2 b t x o rfl c e
 obtain ⟨vs,h1,h2⟩:=h.oa
 exact ⟨(z h.cm h.om).1,(z h.cm h.om).2,(z h.co h.oo).1,(z h.co h.oo).2,(z h.cp h.op).1,(z h.cp h.op).2,⟨vs,(z h.ca h1).1,h2.keep k rfl rfl⟩,(z h.ca h1).2,(z h.ck h.ok).1,(z h.ck h.ok).2,h.ql,
  fun i p q e1 e2=>let ⟨a,b,c,d⟩:=h.pt i p q e1 e2;⟨(z c a).1,(z d b).1,(z c a).2,(z d b).2⟩⟩
theorem bf.mono {n:Nat} {ρ:aQ} {B:BA} {H H':Hp} {b:BS} (h:bf n ρ B H b) (s:aC H H'):bf n ρ B H' b:=h.same (B_ s)
theorem bf.other {n m:Nat} {ρ ρ':aQ} {B:BA} {H H':Hp} {b:BS} (h:bf m ρ B H b) (f:Fr n ρ H ρ' H') (g:Gh ρ H) (e:m ≠ n):bf m ρ' B H' b:=
 h.same ⟨fun b xs q=>(f b _ q fun t x=>by rw [g.tup q];intro z;cases z).1,fun b t x o _ c q=>by
   obtain ⟨a,b'⟩:=f b o q fun t' x'=>by rw [c];intro z;cases z;exact e rfl
   exact ⟨a,b'.trans c⟩⟩
theorem bf.col {n t:Nat} {x:Str} {ρ:aQ} {B:BA} {H:Hp} {b:BS} {a:Addr} (h:bf n ρ B H b) (c:ρ a = none):bf n (cu ρ a (n,t,x)) B H b:=
 h.same ⟨fun _ _ e=>e,fun b u y w _ hc he=>⟨he,by rw [bg (fun z=>by rw [z,c] at hc;cases hc)];exact hc⟩⟩
theorem bf.find {n:Nat} {ρ:aQ} {B:BA} {H:Hp} {b:BS} (h:bf n ρ B H b) {i:Nat} {p:BP} (e:b.aq[i]? = some p):∃q,B.qs[i]? = some q∧H q.1 = some (xw p q.2)∧H q.2 = some (.lst (p.tops.map V.int))∧ρ q.1 = some (n,23,p.nm)∧ρ q.2 = some (n,24,p.nm):=by
 have hi:i < B.qs.length:=by rw [h.ql];exact (List.getElem?_eq_some_iff.mp e).1
 exact ⟨B.qs[i],List.getElem?_eq_getElem hi,h.pt i p _ e (List.getElem?_eq_getElem hi)⟩
theorem bf.Ls {n:Nat} {ρ:aQ} {B:BA} {H:Hp} {b:BS} (h:bf n ρ B H b) (g:Gh ρ H) {p:BP} {q:Addr × Addr} (e1:H q.1 = some (xw p q.2)) (e2:H q.2 = some (.lst (p.tops.map V.int))) (c1:ρ q.1 = some (n,23,p.nm)) (c2:ρ q.2 = some (n,24,p.nm)):
  bf n ρ { B with qs:=B.qs ++ [q] } (upd H B.lp (.lst ((B.qs ++ [q]).map fun q=>V.ref q.1))) { b with aq:=b.aq ++ [p] }:=by
 have k:=fU (o:= .lst ((B.qs ++ [q]).map fun q=>V.ref q.1)) g h.cp
 have z:=fun {b:Addr} {t:Nat} {x:Str} {o:HO} (u:decide (t ≠ 22) = true) (c:ρ b = some (n,t,x)) (e:H b = some o)=>(k.2 b t x o u c e).1
 obtain ⟨vs,h1,h2⟩:=h.oa
 refine ⟨z (by decide) h.cm h.om,h.cm,z (by decide) h.co h.oo,h.co,ai,h.cp,⟨vs,z (by decide) h.ca h1,h2.keep k (by decide) (by decide)⟩,h.ca,z (by decide) h.ck h.ok,h.ck,?_,fun i x y ex ey=>?_⟩
 · show (B.qs ++ [q]).length = (b.aq ++ [p]).length
   rw [List.length_append,List.length_append,h.ql];rfl
 · have ex:(b.aq ++ [p])[i]? = some x:=ex
   have ey:(B.qs ++ [q])[i]? = some y:=ey
   by_cases c:i < b.aq.length
   · rw [List.getElem?_append_left c] at ex
     rw [List.getElem?_append_left (by rw [h.ql];exact c)] at ey
     obtain ⟨a1,a2,a3,a4⟩:=h.pt i x y ex ey
     exact ⟨z (by decide) a3 a1,z (by decide) a4 a2,a3,a4⟩
   · have hi:i = b.aq.length:=by
      have:=(List.getElem?_eq_some_iff.mp ex).1
      rw [List.length_append] at this
      have:i < b.aq.length + 1:=this
      omega
     subst hi
     rw [List.getElem?_append_right (Nat.le_refl _),Nat.sub_self] at ex
     rw [List.getElem?_append_right (by rw [h.ql];exact Nat.le_refl _),h.ql,Nat.sub_self] at ey
     cases ex;cases ey
     exact ⟨z (by decide) c1 e1,z (by decide) c2 e2,c1,c2⟩
theorem bf.JS {n:Nat} {ρ:aQ} {B:BA} {H:Hp} {b:BS} (h:bf n ρ B H b) (g:Gh ρ H) (l:List Str):bf n ρ B (upd H B.lk (.lst (l.map V.str))) { b with cL:=l }:=by
 have k:=fU (o:= .lst (l.map V.str)) g h.ck
 have z:=fun {b:Addr} {t:Nat} {x:Str} {o:HO} (u:decide (t ≠ 26) = true) (c:ρ b = some (n,t,x)) (e:H b = some o)=>(k.2 b t x o u c e).1
 obtain ⟨vs,h1,h2⟩:=h.oa
 exact ⟨z (by decide) h.cm h.om,h.cm,z (by decide) h.co h.oo,h.co,z (by decide) h.cp h.op,h.cp,⟨vs,z (by decide) h.ca h1,h2.keep k (by decide) (by decide)⟩,h.ca,ai,h.ck,h.ql,
  fun i p q e1 e2=>let ⟨a,b,c,d⟩:=h.pt i p q e1 e2;⟨z (by decide) c a,z (by decide) d b,c,d⟩⟩
def Fc (b:BS):Int:=(b.aq.map fun p=>p.wo).sum
theorem xx:∀{l:List Str} {o:Str},o∈l→l[l.idxOf o]? = some o
 | [],_,h=>by simp at h
 | x :: l,o,h=>by
   by_cases e:x = o
   · subst e;simp
   · have ho:o∈l:=by
      rcases List.mem_cons.mp h with z | z
      · exact absurd z.symm e
      · exact z
     rw [List.idxOf_cons,show (x == o) = false from beq_eq_false_iff_ne.mpr e]
     simpa using xx ho
structure Cq (K:PySem.W.Frag) (vs:List V) (H:Hp) (Q:VK) (E:XK):Prop where
 ex:∃(l:Addr) (own:List Str) (n:Nat) (ρ:aQ),vs = [.ref l]∧aE K H l (own.map V.str)∧Gh ρ H∧own.length≤1000∧∀ρ' B H',Gh ρ' H'→bf n ρ' B H' ⟨own,[],1,[],[]⟩→(∀b o,H b = some o→H' b = some o∧ρ' b = ρ b)→Q (.ref B.m) H'
structure Fd (K:PySem.W.Frag) (vs:List V) (H:Hp) (Q:VK) (E:XK):Prop where
 ex:∃(l:Addr) (own:List Str) (o:Str),vs = [.ref l, .str o]∧aE K H l (own.map V.str)∧o∈own∧own.length≤1000∧Q (.int (own.idxOf o:Int)) H
def nT (b:BS) (x o:Str) (wo we:Int):BS:={ b with aq:=b.aq ++ [⟨x,o,wo,we,(List.replicate b.own.length 0).set (b.own.idxOf o) b.bot⟩],cL:=b.cL ++ [x] }
structure xy (vs:List V) (H:Hp) (Q:VK) (E:XK):Prop where
 ex:∃n ρ B b,∃(x o:Str) (wo we:Int),vs = [.ref B.m, .str x, .str o, .int wo, .int we]∧Gh ρ H∧bf n ρ B H b∧o∈b.own∧b.own.length≤1000∧b.aq.length≤1000∧b.cL.length≤1000∧∀ρ' B' H',Gh ρ' H'→bf n ρ' B' H' (nT b x o wo we)→B'.m = B.m→Fr n ρ H ρ' H'→Q .bE H'
end L2
namespace L2
open PySem PySem.Spec PyProof.Rows
section
variable {X:Cx}
end
end L2
namespace L2
open PySem PySem.Spec PyProof.Rows
structure Cr (b:BS):Prop where
 nd:(b.aq.map (fun p:BP=>p.nm)).Nodup
 tl:∀p∈b.aq,p.tops.length = b.own.length
 t0:∀p∈b.aq,∀t∈p.tops,0≤t∧t≤b.bot
 b1:1≤b.bot
 bz:Jm.Sz 7000 b.bot
 w1:∀p∈b.aq,1≤p.wo
 ol:b.own.length≤100
 pl:b.aq.length≤1000
 kl:b.cL.length≤1000
end L2
namespace L2
open PySem PySem.Spec PyProof.Rows
abbrev Q4:=Str × Str × Int × Int
def qY (st:HS):List Q4:=st.aq.map fun p=>(p.nm,p.ow,p.wo,p.we)
def qZ (b:BS):List Q4:=b.aq.map fun p=>(p.nm,p.ow,p.wo,p.we)
structure gq (st:HS) (b:BS):Prop where
 own:st.own = b.own
 qd:qY st = qZ b
theorem Fe {st:HS} {b:BS} (r:gq st b) (x o:Str) (wo we:Int):gq (ji st x o wo we) (nT b x o wo we):=by
 refine ⟨r.own,?_⟩
 unfold qY qZ ji qT nT
 show List.map _ (st.aq ++ [_]) = List.map _ (b.aq ++ [_])
 rw [List.map_append,List.map_append,show st.aq.map (fun p=>(p.nm,p.ow,p.wo,p.we)) = b.aq.map (fun p=>(p.nm,p.ow,p.wo,p.we)) from r.qd]
 rfl
theorem gq.whole {st:HS} {b:BS} (r:gq st b):fB st = Fc b:=by
 unfold fB Fc
 have:=congrArg (List.map fun q:Q4=>q.2.2.1) r.qd
 unfold qY qZ at this
 rw [List.map_map,List.map_map] at this
 exact congrArg List.sum this
theorem gq.len {st:HS} {b:BS} (r:gq st b):st.aq.length = b.aq.length:=by
 have:=congrArg List.length r.qd
 unfold qY qZ at this
 rw [List.length_map,List.length_map] at this
 exact this
theorem gq.at {st:HS} {b:BS} (r:gq st b) {i:Nat} {q:BP} (h:b.aq[i]? = some q):∃p,st.aq[i]? = some p∧p.nm = q.nm∧p.ow = q.ow∧p.wo = q.wo∧p.we = q.we:=by
 have e:=congrArg (fun l:List Q4=>l[i]?) r.qd
 unfold qY qZ at e
 have e:(st.aq.map fun p=>(p.nm,p.ow,p.wo,p.we))[i]? = (b.aq.map fun p=>(p.nm,p.ow,p.wo,p.we))[i]?:=e
 rw [List.getElem?_map,List.getElem?_map,h] at e
 obtain ⟨p,ep,e2⟩:=Option.map_eq_some_iff.mp e
 have e2:(p.nm,p.ow,p.wo,p.we) = (q.nm,q.ow,q.wo,q.we):=e2
 simp only [Prod.mk.injEq] at e2
 exact ⟨p,ep,e2⟩
theorem gq.at' {st:HS} {b:BS} (r:gq st b) {i:Nat} {p:Pt} (h:st.aq[i]? = some p):∃q,b.aq[i]? = some q∧p.nm = q.nm∧p.ow = q.ow∧p.wo = q.wo∧p.we = q.we:=by
 have hi:i < b.aq.length:=by rw [← r.len];exact (List.getElem?_eq_some_iff.mp h).1
 have eq:=List.getElem?_eq_getElem hi
 obtain ⟨p',e',z⟩:=r.at eq
 rw [h] at e'
 cases e'
 exact ⟨_,eq,z⟩
theorem gq.rows {K:PySem.W.Frag} {n:Nat} {ρ:aQ} {B:BA} {H:Hp} {st:HS} {b:BS} (r:gq st b) (h:bf n ρ B H b):pR K H (B.qs.map fun q=>V.ref q.1) st.aq:=by
 refine ⟨by rw [List.length_map,h.ql,r.len],fun i p e=>?_⟩
 obtain ⟨q,eq,e1,e2,e3,e4⟩:=r.at' e
 obtain ⟨a,ea,k1,_⟩:=h.find eq
 refine ⟨a.1,_,by rw [List.getElem?_map,ea];rfl, .inl (aE.of k1),?_,?_,?_,?_⟩
 · rw [e1];rfl
 · rw [e2];rfl
 · rw [e3];rfl
 · rw [e4];rfl
end L2
namespace L2
open PySem PySem.Spec PyProof.Rows
theorem JT {b:BS} (wf:Cr b) {x o:Str} {wo we:Int} (h1:x ∉ b.aq.map (fun p:BP=>p.nm)) (h2:1≤wo) (h3:b.aq.length < 1000) (h4:b.cL.length < 1000):Cr (nT b x o wo we):=by
 have P:∀{M:BP→Prop},(∀p∈b.aq,M p)→M ⟨x,o,wo,we,(List.replicate b.own.length 0).set (b.own.idxOf o) b.bot⟩→∀p∈(nT b x o wo we).aq,M p:=fun a c p hp=>by
  rcases List.mem_append.mp (show p∈b.aq ++ [_] from hp) with z | z
  · exact a p z
  · rw [List.mem_singleton.mp z];exact c
 have b1:=wf.b1
 refine ⟨?_,P wf.tl (by show ((List.replicate b.own.length (0:Int)).set _ _).length = _;rw [List.length_set,List.length_replicate];rfl),P wf.t0 (fun t ht=>?_),wf.b1,wf.bz,P wf.w1 h2,wf.ol,?_,?_⟩
 · show ((b.aq ++ [_]).map (fun p:BP=>p.nm)).Nodup
   rw [List.map_append]
   exact iW wf.nd h1
 · rcases nS ht with z | z
   · rw [z];show 0≤0∧0≤b.bot;omega
   · rw [z];show 0≤b.bot∧b.bot≤b.bot;omega
 · show (b.aq ++ [_]).length≤1000
   rw [List.length_append];show b.aq.length + 1≤1000;omega
 · show (b.cL ++ [_]).length≤1000
   rw [List.length_append];show b.cL.length + 1≤1000;omega
end L2
namespace L2
open PySem PySem.Spec PyProof.Rows
def Ds (st:HS) (b:BS):Prop:=∀p∈st.aq,∀q∈b.aq,p.nm = q.nm→∀j,q.tops.getD j 0 * st.prod = (dJ st p).getD j 0 * b.bot
end L2
namespace L2
open PySem PySem.Spec PyProof.Rows
theorem Ff {st:HS} {b:BS} (t:Ds st b) (rl:gq st b) (wf:Wf st) (wb:Cr b) {x o:Str} {wo we:Int} (h1:x ∉ b.aq.map (fun p:BP=>p.nm)):Ds (ji st x o wo we) (nT b x o wo we):=by
 intro p hp q hq en j
 have Rb:∀y∈st.aq,y.nm∈b.aq.map (fun p:BP=>p.nm):=fun y hy=>by
  obtain ⟨i,hi,ei⟩:=List.getElem_of_mem hy
  obtain ⟨z,hz,ez,_⟩:=rl.at' (i:=i) (p:=y) (by rw [List.getElem?_eq_getElem hi,ei])
  rw [ez]
  exact List.mem_map.mpr ⟨z,List.mem_of_getElem? hz,rfl⟩
 show q.tops.getD j 0 * st.prod = (dJ st p).getD j 0 * b.bot
 rcases List.mem_append.mp (show p∈st.aq ++ [_] from hp) with zp | zp
 · rcases List.mem_append.mp (show q∈b.aq ++ [_] from hq) with zq | zq
   · exact t p zp q zq en j
   · rw [List.mem_singleton.mp zq] at en
     have en:p.nm = x:=en
     exact absurd (by rw [← en];exact Rb p zp) h1
 · rcases List.mem_append.mp (show q∈b.aq ++ [_] from hq) with zq | zq
   · rw [List.mem_singleton.mp zp] at en
     have en:x = q.nm:=en
     exact absurd (by rw [en];exact List.mem_map.mpr ⟨q,zq,rfl⟩) h1
   · rw [List.mem_singleton.mp zp,List.mem_singleton.mp zq]
     have e1:dJ st ⟨x,o,wo,we,1,pO st ((List.replicate st.own.length 0).set (st.own.idxOf o) st.prod)⟩ = (List.replicate st.own.length 0).set (st.own.idxOf o) st.prod:=by
      show List.zipWith (fun r c=>1 * r + c) (List.zipWith (fun t c=>t - c) ((List.replicate st.own.length 0).set (st.own.idxOf o) st.prod) st.cD) st.cD = _
      rw [tD,wf.iX]
      exact List.take_of_length_le (by rw [List.length_set,List.length_replicate];exact Nat.le_refl _)
     rw [e1,rl.own]
     show ((List.replicate b.own.length 0).set (b.own.idxOf o) b.bot).getD j 0 * st.prod = ((List.replicate b.own.length 0).set (b.own.idxOf o) st.prod).getD j 0 * b.bot
     have key:∀v:Int,((List.replicate b.own.length 0).set (b.own.idxOf o) v).getD j 0 = if b.own.idxOf o = j∧j < b.own.length then v else 0:=fun v=>by
      rw [List.getD_eq_getElem?_getD,List.getElem?_set]
      by_cases c:b.own.idxOf o = j
      · rw [if_pos c]
        by_cases d:b.own.idxOf o < (List.replicate b.own.length (0:Int)).length
        · rw [if_pos d,if_pos ⟨c,by rw [List.length_replicate] at d;omega⟩];rfl
        · rw [if_neg d,if_neg (fun z=>d (by rw [List.length_replicate];omega))];rfl
      · rw [if_neg c,if_neg (fun z=>c z.1),List.getElem?_replicate]
        split <;> rfl
     rw [key,key]
     split
     · exact Int.mul_comm _ _
     · omega
theorem Du {st:HS} {b:BS} (t:Ds st b) (rl:gq st b) (wf:Wf st) (wb:Cr b) {p:Pt} {q:BP} (hp:p∈st.aq) (hq:q∈b.aq) (e:p.nm = q.nm):pP st p = cK b.own q.tops b.bot:=by
 have p1:=wf.lS
 have b1:=wb.b1
 have l1:(dJ st p).length = b.own.length:=by rw [G_ wf hp,wf.iX,rl.own]
 have l2:q.tops.length = b.own.length:=wb.tl q hq
 have tj:=t p hp q hq e
 unfold pP cK
 rw [rl.own]
 generalize dJ st p = xs at *
 generalize q.tops = ys at *
 generalize b.own = own at *
 have step:∀(own:List Str) (xs ys:List Int),xs.length = own.length→ys.length = own.length→(∀j,ys.getD j 0 * st.prod = xs.getD j 0 * b.bot)→(List.zip own xs).filterMap (fun x=>if 0 < x.2 then some (x.1,Jm.fr x.2 st.prod) else none) = (List.zip own ys).filterMap fun x=>if 0 < x.2 then some (x.1,Jm.fr x.2 b.bot) else none:=by
  intro own
  induction own with
  | nil=>intro xs ys _ _ _;simp
  | cons o own ih=>
    intro xs ys h1 h2 h3
    cases xs with
    | nil=>simp at h1
    | cons x xs=>
      cases ys with
      | nil=>simp at h2
      | cons y ys=>
        have h0:y * st.prod = x * b.bot:=by simpa using h3 0
        have ih:=ih xs ys (by simpa using h1) (by simpa using h2) (fun j=>by simpa using h3 (j + 1))
        rw [List.zip_cons_cons,List.zip_cons_cons,List.filterMap_cons,List.filterMap_cons,ih]
        by_cases c:0 < x
        · have c2:0 < y:=by
           rcases Int.lt_or_le 0 y with z | z
           · exact z
           · have k1:y * st.prod≤0:=Int.mul_nonpos_of_nonpos_of_nonneg z (by omega)
             have k2:0 < x * b.bot:=Int.mul_pos c (by omega)
             omega
          simp only [if_pos c,if_pos c2]
          rw [Jm.HY (t:=x) (b:=st.prod) (t':=y) (b':=b.bot) (by omega) (by omega) h0.symm]
        · have c2:¬ 0 < y:=fun z=>by
           have k1:0 < y * st.prod:=Int.mul_pos z (by omega)
           have k2:x * b.bot≤0:=Int.mul_nonpos_of_nonpos_of_nonneg (by omega) (by omega)
           omega
          simp only [if_neg c,if_neg c2]
 exact step own xs ys l1 l2 tj
end L2
namespace L2
open PySem PySem.Spec PyProof.Rows
theorem rS:∀{l:List Int} {i:Nat} {x:Int},i < l.length→(l.set i (l.getD i 0 + x)).sum = l.sum + x
 | a :: l,0,x,_=>by rw [List.set_cons_zero,List.sum_cons,List.sum_cons];show a + x + _ = _;omega
 | a :: l,i + 1,x,h=>by
   rw [List.set_cons_succ,List.sum_cons,List.sum_cons]
   have:=rS (l:=l) (i:=i) (x:=x) (by simpa using h)
   have e:(a :: l).getD (i + 1) 0 = l.getD i 0:=rfl
   rw [e,this];omega
 | [],_,_,h=>by simp at h
structure kK (c:Nat) (st:HS) (b:BS):Prop where
 m_:Cr b
 rel:gq st b
 Hf:Ds st b
 dw:∀u∈st.dw,Jm.Sz (60 * c + 60) u
 stp:st.stp.length≤c
 prod:Jm.Sz (60 * c + 1) st.prod
 bot:Jm.Sz (60 * c + 1) b.bot
 wo:∀p∈b.aq,p.wo≤1000000000 * ((c:Int) + 1)
 pl:b.aq.length≤50
 own:0 < b.own.length
 nm:∀p∈b.aq,PyData.strOk p.nm = true∧PyData.strOk p.ow = true
 jA:st.jA = []∧b.jA = []
 cL:st.nms = b.cL
 nk:∀x∈b.cL,isNm x = true
 on:∀o∈b.own,isNm o = true
 sum:∀p∈b.aq,p.tops.sum = b.bot
theorem kK.nms {c:Nat} {st:HS} {b:BS} (g:kK c st b):Lp st.aq:=fun p hp=>by
 obtain ⟨i,hi,e⟩:=List.getElem_of_mem hp
 obtain ⟨q,eq,e1,e2,_⟩:=g.rel.at' (i:=i) (p:=p) (by rw [List.getElem?_eq_getElem hi,e])
 rw [e1,e2]
 exact g.nm q (List.mem_of_getElem? eq)
theorem Cs {x:Str} (h:isNm x = true):PyData.strOk x = true:=by
 unfold PyData.strOk
 rw [Array.all_eq_true']
 intro c hc
 unfold isNm isName at h
 have h1:=List.all_eq_true.mp (Bool.and_eq_true_iff.mp h).2 c (by simpa using hc)
 rw [JH] at h1
 have hm:=of_decide_eq_true h1
 have:∀c∈("abcdefghijklmnopqrstuvwxyz":Str).cps.toList,c < 1000:=by decide +kernel
 have:=this c hm
 exact decide_eq_true (by omega)
theorem Hg (n:Nat):(List.replicate n (0:Int)).sum = 0:=by
 induction n with
 | zero=>rfl
 | succ n ih=>rw [List.replicate_succ,List.sum_cons,ih];rfl
theorem JU {c:Nat} {st:HS} {b:BS} (g:kK c st b) (wf:Wf st) {x o:Str} {wo we:Int} (h1:x ∉ b.aq.map (fun p:BP=>p.nm)) (h2:1≤wo) (h2':wo≤1000000000) (h3:b.aq.length < 50) (h4:b.cL.length < 1000) (hx:isNm x = true) (ho:o∈b.own):kK c (ji st x o wo we) (nT b x o wo we):=by
 have P:∀{M:BP→Prop},(∀p∈b.aq,M p)→M ⟨x,o,wo,we,(List.replicate b.own.length 0).set (b.own.idxOf o) b.bot⟩→∀p∈(nT b x o wo we).aq,M p:=fun a c p hp=>by
  rcases List.mem_append.mp (show p∈b.aq ++ [_] from hp) with z | z
  · exact a p z
  · rw [List.mem_singleton.mp z];exact c
 refine ⟨JT g.m_ h1 h2 (by omega) h4,Fe g.rel x o wo we,Ff g.Hf g.rel wf g.m_ h1,g.dw,g.stp,g.prod,g.bot,P g.wo (by show wo≤_;omega),by show (b.aq ++ [_]).length≤50;rw [List.length_append];show b.aq.length + 1≤50;omega,g.own,P g.nm ⟨Cs hx,Cs (g.on o ho)⟩,g.jA,?_,?_,g.on,P g.sum ?_⟩
 · show st.nms ++ [x] = b.cL ++ [x];rw [g.cL]
 · intro y hy
   rcases List.mem_append.mp (show y∈b.cL ++ [x] from hy) with z | z
   · exact g.nk y z
   · rw [List.mem_singleton.mp z];exact hx
 · show ((List.replicate b.own.length 0).set (b.own.idxOf o) b.bot).sum = b.bot
   have hi:b.own.idxOf o < (List.replicate b.own.length (0:Int)).length:=by rw [List.length_replicate];exact List.idxOf_lt_length_iff.mpr ho
   have:=rS (x:=b.bot) hi
   rw [show (List.replicate b.own.length (0:Int)).getD (b.own.idxOf o) 0 = 0 from by rw [List.getD_eq_getElem?_getD,List.getElem?_eq_getElem hi,List.getElem_replicate];rfl,Int.zero_add,Hg,Int.zero_add] at this
   exact this
theorem uL:∀(l:List Str) (st:HS),st.aq = []→(∀u∈st.dw,u = 0)→(l.foldl cY st).aq = []∧(l.foldl cY st).nms = st.nms∧(l.foldl cY st).stp = st.stp∧(l.foldl cY st).prod = st.prod∧(l.foldl cY st).jA = st.jA∧∀u∈(l.foldl cY st).dw,u = 0
 | [],_,h,hp=>⟨h,rfl,rfl,rfl,rfl,hp⟩
 | o :: l,st,h,hp=>by
   rw [List.foldl_cons]
   exact uL l (cY st o) (by show st.aq.map _ = [];rw [h];rfl) (fun u hu=>by
    rcases List.mem_append.mp (show u∈st.dw ++ [0] from hu) with z | z
    · exact hp u z
    · exact List.mem_singleton.mp z)
theorem Rc {own:List Str} (h0:0 < own.length) (h1:own.length≤100) (Rg:∀o∈own,isNm o = true):kK 0 (own.foldl cY hs0) ⟨own,[],1,[],[]⟩∧(own.foldl cY hs0).nms = [] :=by
 obtain ⟨k1,k2,k3,k4,k5,k6⟩:=uL own hs0 rfl (fun u hu=>absurd hu (by simp [hs0]))
 refine ⟨⟨⟨List.nodup_nil,fun p hp=>absurd hp (by simp),fun p hp=>absurd hp (by simp),Int.le_refl _,(by show Jm.Sz 7000 1;exact kG (by decide +kernel)),fun p hp=>absurd hp (by simp),h1,Nat.zero_le _,Nat.zero_le _⟩,⟨by rw [pS];rfl,by unfold qY qZ;rw [k1];rfl⟩,(fun p hp=>by rw [k1] at hp;exact absurd hp (by simp)),(fun u hu=>by rw [k6 u hu];exact kG (by decide +kernel)),by rw [k3];exact Nat.le_refl _,(by rw [k4];show Jm.Sz (60 * 0 + 1) 1;exact kG (by decide +kernel)),(by show Jm.Sz (60 * 0 + 1) 1;exact kG (by decide +kernel)),fun p hp=>absurd hp (by simp),Nat.zero_le _,h0,fun p hp=>absurd hp (by simp),⟨k5,rfl⟩,k2,(fun x hx=>nomatch hx),Rg,fun p hp=>absurd hp (by simp)⟩,k2⟩
def lT (K:PySem.W.Frag) (ρ:aQ) (H:Hp) (z:Addr) (xs:List V):Prop:=∀(ρ':aQ) (H':Hp),aC (out ρ H) (out ρ' H')→aE K H' z xs
theorem lT.of {K:PySem.W.Frag} {H:Hp} {z:Addr} {xs:List V} (h:aE K H z xs):lT K (fun _=>none) H z xs:=fun ρ' H' s=>by
 rcases h with (h | ⟨o,h⟩) | h
 · exact .inl (.inl (nR (s _ _ (uG h rfl))).1)
 · exact .inl (.inr ⟨o,(nR (s _ _ (uG h rfl))).1⟩)
 · exact .inr h
theorem lT.go {K:PySem.W.Frag} {ρ ρ':aQ} {H H':Hp} {z:Addr} {xs:List V} (h:lT K ρ H z xs) (s:aC (out ρ H) (out ρ' H')):lT K ρ' H' z xs:=fun _ _ s'=>h _ _ (s.trans s')
theorem HH.other {T:TC} {n m:Nat} {ρ ρ':aQ} {A:HA} {H H':Hp} {st:HS} (h:HH T n ρ A H st) (f:Fr m ρ H ρ' H') (g:Gh ρ' H') (e:n ≠ m):HH T n ρ' A H' st:=⟨g,h.h.other f h.g e,h.wf⟩
end L2
namespace L2
open PySem PySem.Spec PyProof.Rows
theorem Ip {c:Nat} {st:HS} {b:BS} (g:kK c st b) (k:Nat):kK c { st with kn:=k } b:=⟨g.m_,⟨g.rel.own,g.rel.qd⟩,g.Hf,g.dw,g.stp,g.prod,g.bot,g.wo,g.pl,g.own,g.nm,g.jA,g.cL,g.nk,g.on,g.sum⟩
theorem zS:∀(l:List Str) (st:HS),(l.foldl cY st).kn = st.kn
 | [],_=>rfl
 | o :: l,st=>by rw [List.foldl_cons,zS l];rfl
theorem Hh (ps:List Str) (hk:∀r∈ps,PyData.strOk r = true):PyData.canLayAll0 (ps.map PyData.str) = true:=by
 induction ps with
 | nil=>rfl
 | cons q r ih=>
   rw [List.map_cons]
   unfold PyData.canLayAll0
   rw [ih fun p hp=>hk p (List.mem_cons_of_mem _ hp),Bool.and_true]
   unfold PyData.canLay0
   exact hk q List.mem_cons_self
theorem Dv (ps:List Str):PyData.depthAll (ps.map PyData.str)≤1:=by
 induction ps with
 | nil=>exact Nat.zero_le _
 | cons q r ih=>
   rw [List.map_cons]
   unfold PyData.depthAll
   have:PyData.depth (.str q)≤1:=Nat.le_of_ble_eq_true rfl
   omega
theorem rT (ps:List Str) (hk:∀r∈ps,PyData.strOk r = true):SeqAt.shaped (.list (ps.map PyData.str)) = true:=by
 unfold SeqAt.shaped PyData.canLay0 PyData.depth
 rw [Hh ps hk]
 have:=Dv ps
 simp only [Bool.true_and,decide_eq_true_eq]
 omega
theorem Hi (ps:List Str):PyData.eqv (.list (ps.map PyData.str)) (.list (ps.map PyData.str)) = true:=by
 unfold PyData.eqv
 induction ps with
 | nil=>rfl
 | cons q r ih=>
   rw [List.map_cons]
   unfold PyData.eqvAll
   rw [ih,Bool.and_true]
   exact JG q
theorem vN {K:PySem.W.Frag} {H:Hp}:∀(l:List Str),m7 K H (l.map V.str) (l.map PyData.str)
 | []=> .nil
 | x :: l=> .cons (.str x) (vN l)
structure iY (d:Nat) (T:TC) (K:PySem.W.Frag) (vs:List V) (H:Hp) (Q:VK) (E:XK):Prop where
 ex:∃n m ρ A B st b,∃c:Nat,vs = [.ref A.a, .ref B.m]∧n ≠ m∧HH T n ρ A H st∧bf m ρ B H b∧kK c st b∧c≤100∧(∀o∈b.own,PyData.strOk o = true)∧st.kn + 5000 * d≤1000000∧
  ∀ρ' A' H' k,HH T n ρ' A' H' { st with kn:=k }→k≤st.kn + 5000 * d→bf m ρ' B H' b→A'.a = A.a→aC (out ρ H) (out ρ' H')→Q (.bl true) H'
end L2
namespace L2
open PySem PySem.Spec PyProof.Rows
structure aN (K:PySem.W.Frag) (x:Str) (st:Stmt):Prop where
 ex:∃(f:Addr) (oc:Value) (od an:Option Addr) (sl:Array (Option Value)) (kV dc pm cd ct:Value),PySem.W.nsIn K mainGlobals x = some (some (.ref f))∧K.lookup f = some ⟨oc,od, .func (PySem.W.fnOf x x (cO st) (bR st) (au st) .none kV dc pm an cd ct),sl⟩∧PySem.W.codeIn K cd x = true∧PySem.W.keepIn K (.ref f) = true
theorem aN.at {K:PySem.W.Frag} {mg:Str→Option Value} {h:Heap} {x:Str} {st:Stmt} (d:aN K x st) (X:K.In h) (G:h.Ns mainGlobals mg):∃f fd,At K mg x st f fd:=by
 obtain ⟨f,oc,od,an,sl,kV,dc,pm,cd,ct,a,l,c,k⟩:=d.ex
 exact ⟨f,_,HX X G a l c k⟩
structure bu (K:PySem.W.Frag) (C:Addr) (n qual:Str) (st:Stmt):Prop where
 ex:∃(f:Addr) (oc:Value) (od an:Option Addr) (sl:Array (Option Value)) (kV dc pm cd ct:Value),PySem.W.findIn K (.ref C) n = some (some (.ref f))∧PySem.W.isFn K (.ref f) = true∧K.lookup f = some ⟨oc,od, .func (PySem.W.fnOf n qual (cO st) (bR st) (au st) .none kV dc pm an cd ct),sl⟩∧PySem.W.codeIn K cd qual = true∧PySem.W.keepIn K (.ref f) = true
theorem bu.at {K:PySem.W.Frag} {C:Addr} {n qual:Str} {st:Stmt} (d:bu K C n qual st) (cl:jq K C):∃f fd,gQ K C n qual st f fd:=by
 obtain ⟨f,oc,od,an,sl,kV,dc,pm,cd,ct,a,i,l,c,k⟩:=d.ex
 exact ⟨f,_,yP l c k,⟨a,i,k⟩,cl⟩
theorem bu.made {K:PySem.W.Frag} {mg:Str→Option Value} {h:Heap} {x:Str} {C:Addr} {qual:Str} {st:Stmt} (d:bu K C "__init__" qual st) (X:K.In h) (G:h.Ns mainGlobals mg) (a0:PySem.W.nsIn K mainGlobals x = some (some (.ref C))) (m:PySem.W.makesIn K C = true) (kc:PySem.W.keepIn K (.ref C) = true):∃f fd,B9 K mg x C qual st f fd:=by
 obtain ⟨f,oc,od,an,sl,kV,dc,pm,cd,ct,a,i,l,c,k⟩:=d.ex
 exact ⟨f,_,yP l c k,⟨m,a,i,kc⟩,PySem.W.mg_of X G a0⟩
theorem aN.of {K:PySem.W.Frag} {x:Str} {st:Stmt} {f:Addr} {oc:Value} {od an:Option Addr} {sl:Array (Option Value)} {kV dc pm cd ct:Value} (a:PySem.W.nsIn K mainGlobals x = some (some (.ref f))) (l:K.lookup f = some ⟨oc,od, .func (PySem.W.fnOf x x (cO st) (bR st) (au st) .none kV dc pm an cd ct),sl⟩) (c:PySem.W.codeIn K cd x = true) (k:PySem.W.keepIn K (.ref f) = true):aN K x st:=⟨⟨_,_,_,_,_,_,_,_,_,_,a,l,c,k⟩⟩
theorem bu.of {K:PySem.W.Frag} {C:Addr} {n qual:Str} {st:Stmt} {f:Addr} {oc:Value} {od an:Option Addr} {sl:Array (Option Value)} {kV dc pm cd ct:Value} (a:PySem.W.findIn K (.ref C) n = some (some (.ref f))) (i:PySem.W.isFn K (.ref f) = true) (l:K.lookup f = some ⟨oc,od, .func (PySem.W.fnOf n qual (cO st) (bR st) (au st) .none kV dc pm an cd ct),sl⟩) (c:PySem.W.codeIn K cd qual = true) (k:PySem.W.keepIn K (.ref f) = true):bu K C n qual st:=⟨⟨_,_,_,_,_,_,_,_,_,_,a,i,l,c,k⟩⟩
end L2
namespace L2
open PySem PySem.Spec PyProof.Rows
section
variable {X:Cx}
def Np (K:PySem.W.Frag):R2:=fun x y H Q=>∃a b xs ys,x = .ref a∧y = .ref b∧bF K H a xs∧bF K H b ys∧xs.length + ys.length≤sizeLine∧
 (xs = []→Q (.ref b) H)∧(xs ≠ []→ys = []→Q (.ref a) H)∧(xs ≠ []→ys ≠ []→∀p,H p = none→Q (.ref p) (upd H p (.tup (xs ++ ys))))
theorem vO (K:PySem.W.Frag) (hK:X.K = K:=by rfl):dm X (binaryOp .Add) (Np K):=by
 subst hK
 intro pins s σ H x y v u Q I rx ry h
 obtain ⟨a,b,xs,ys,rfl,rfl,ha,hb,hz,q0,q1,q2⟩:=h
 by_cases hx:xs = []
 · cases rx
   cases ry
   obtain ⟨its,r1,ht,_⟩:=I.tuple ha
   obtain ⟨its2,r2,hb',_⟩:=I.tuple hb
   obtain ⟨⟨cls,dd,data,sl⟩,ho,hc,n,hd⟩:=id ht
   obtain ⟨⟨PL,dd2,data2,sl2⟩,ho2,hc2,n2,hd2⟩:=id hb'
   simp only at hc hd hc2 hd2
   subst hc hd hc2 hd2
   exact concat_meets ⟨_,ho,rfl⟩ ⟨_,ho2,rfl⟩ noFill_tuple_add seq_tuple_add PySem.F.slot_tuple_add PySem.F.entry_tuple_add (PySem.F.args_tuple_add_2 _ _)
    (tuple_addW0 a b its.toArray its2.toArray n n2 dd dd2 sl sl2 (by rw [r1.qH.mpr hx];rfl)) ⟨ho,ho2,⟨.ref b,H,I,rfl,q0 hx⟩⟩
 · exact Jj pins s σ H _ _ v u Q I rx ry ⟨a,b,xs,ys,rfl,rfl,ha,hb,hx,hz,q1 hx,q2 hx⟩
variable {o i:Expr} {pos:Pos} {td ty:TE}
end
end L2
namespace L2
open PySem PySem.Spec PyProof.Rows
theorem Ct {X:Cx} (K:PySem.W.Frag) (hK:X.K = K:=by rfl):Ep X (KC K):=hK ▸ KD
theorem A9 {K:PySem.W.Frag}:PySem.W.kitOne K (.type "int") (.type "str") = some false:=by rfl
theorem JV (xs:List V) (k:Nat):mw xs none (some (k:Int)) = xs.take k:=by
 unfold mw
 rw [HT.sV,HT.mX,List.drop_zero,Nat.sub_zero]
 rcases Nat.le_total k xs.length with h | h
 · rw [Nat.min_eq_left h]
 · rw [Nat.min_eq_right h,List.take_length,List.take_of_length_le h]
theorem Fg (xs:List V) (k:Nat):mw xs (some (k:Int)) none = xs.drop k:=by
 unfold mw
 rw [HT.sV,HT.mX]
 rcases Nat.le_total k xs.length with h | h
 · rw [Nat.min_eq_left h]
   exact List.take_of_length_le (by rw [List.length_drop];omega)
 · rw [Nat.min_eq_right h,List.drop_length,List.drop_of_length_le h,List.take_nil]
end L2
namespace L2
open PySem PySem.Spec PyProof.Rows
section
variable {a b:List Nat} {m v:Int} (ha:ia a) (hb:ia b) (hm:1≤m) (hm2:m≤1000000000) (hv:0≤v) (hv2:v≤1000000000)
include ha hb hm hm2 hv hv2 in
end
end L2
namespace L2
open PySem PySem.Spec PyProof.Rows
structure mG (vs:List V) (H:Hp) (Q:VK) (E:XK):Prop where
 ex:∃(cs:List Nat),vs = [.str (tx cs)]∧cs.length≤100000∧Q (.bl (isName cs)) H
theorem xM {H:Hp} {Q:VK} {E:XK} {cs:List Nat} (hl:cs.length≤100000) (q:Q (.bl (isName cs)) H):mG [.str (tx cs)] H Q E:=⟨cs,rfl,hl,q⟩
end L2
namespace L2
open PySem PySem.Spec PyProof.Rows
open Builtin Builtin.Str
section
variable {X:Cx}
end
end L2
namespace L2
open PySem PySem.Spec PyProof.Rows PySem.NumText
end L2
namespace L2
open PySem PySem.Spec PyProof.Rows PySem.NumText
end L2
namespace L2
open PySem PySem.Spec PyProof.Rows PySem.NumText
end L2
namespace L2
open PySem PySem.Spec PyProof.Rows PySem.NumText Builtin Builtin.Str
section
variable {X:Cx}
end
end L2
namespace L2
open PySem PySem.Spec PyProof.Rows PySem.NumText
def Nq:R2:=fun x y H Q=>∃a b:List Nat,x = .str (tx a)∧y = .str (tx b)∧a.length + b.length≤10000000∧Q (.str (tx (a ++ b))) H
theorem JW {X:Cx}:dm X (binaryOp .Add) Nq:=by
 intro pins s σ H x y v u Q I rx ry h
 obtain ⟨a,b,rfl,rfl,hz,q⟩:=h
 exact ud pins s σ H _ _ v u Q I rx ry ⟨tx a,tx b,rfl,rfl,by rw [dD,dD,sizeLine_eq];omega,by rw [EK];exact q⟩
end L2
namespace L2
open PySem PySem.Spec PyProof.Rows
def Og (h:Heap) (x T C:Addr):Prop:=∃oe vs a0 oT ts,h.get? x = some oe∧oe.cls = .ref C∧vs[0]? = some a0∧oe.data = .fields vs∧vs[1]? = some (.ref T)∧T ≠ x∧h.get? T = some oT∧oT.data = .fields ts∧ts[3]? = some .none
def dP (P:Program) (w:World):mW:=fun outer H s E e s'=>∃(x T C:Addr) (H':Hp),e = .ref x∧s'.os = s.os∧AllBare s'.gens∧Un (frs outer) [] H H' s.heap s'.heap∧dj P w H' s'.heap∧Og s'.heap x T C∧
 s.heap.get? x = none∧s.heap.get? T = none∧H' x = none∧H' T = none∧E e (some C) H'
theorem dj.zT {P:Program} {w:World} {H:Hp} {h h':Heap} (x:dj P w H h) (k:∀b o u,H b = some o→h.get? b = some u→h'.get? b = some u):dj P w H h':=fun a o e=>
 (x a o e).stay (fun b u hb q=>by
   rcases hb with rfl | hb
   · exact k _ _ _ e q
   · exact k _ _ _ hb q) (fun _ q=>q) fun _ _ q=>q
theorem bT.isAt {P:Program} {w:World} {H:Hp} {h:Heap} {a:Addr} {o:HO} (x:bT P w H h a o):∃u,h.get? a = some u:=by
 cases o with
 | lst xs=>obtain ⟨_,_,_,_,e⟩:=x;exact ⟨_,e⟩
 | tup xs=>obtain ⟨_,_,_,p⟩:=x;obtain ⟨o,e,_⟩:=p;exact ⟨_,e⟩
 | dK kvs=>obtain ⟨_,_,_,_,o,_,_,e,_⟩:=x;exact ⟨_,e⟩
 | dT kvs=>obtain ⟨_,_,_,_,o,_,_,e,_⟩:=x;exact ⟨_,e⟩
 | set S n=>obtain ⟨o,_,_,_,e,_⟩:=x;exact ⟨_,e⟩
 | ins C dx fs=>obtain ⟨_,_,_,e,_⟩:=x;exact ⟨_,e⟩
 | own y=>obtain ⟨_,e⟩:=x;exact ⟨_,e⟩
 | xd fs=>obtain ⟨_,⟨_,_,_,e,_⟩,_⟩:=x;exact ⟨_,e⟩
 | HG lo hi=>obtain ⟨_,_,_,e⟩:=x;exact ⟨_,e⟩
 | cV ob u=>obtain ⟨e,_⟩:=x;exact ⟨_,e⟩
 | wF ps=>exact ⟨_,(show h.get? a = some _ from x)⟩
 | met f y=>exact ⟨_,(show h.get? a = some _ from x)⟩
 | ext φ=>obtain ⟨_,⟨_,e⟩,_⟩:=x;exact ⟨_,e⟩
section
variable {P:Program} {w:World} {K:PySem.W.Frag} {mg:Str→Option Value} {base:Heap} {N:List Str} {qual:Str} {scope:Scope} {f:Addr} {cd:Value} {A:Around} {outer:List Env} {s0:Shared} {H0:Hp} {E:XK} {CX:mW}
theorem Cu {pins:List (Addr × Obj)} {σ:St} {H:Hp} {s:Shared} {x C:Addr} {a0:Value} {h':Heap} {B:Heap} (I:Inv (bP CX P w K mg base N qual scope f cd A outer s0 H0 E) pins σ H s)
  (hB:∀b o,s.heap.get? b = some o→b ∉ frs (envOfC qual scope s0.heap.objs.size f cd :: outer)→s0.heap.get? b ≠ none∨H b ≠ none→B.get? b = some o)
  (hfl:Heap.FlyingW B outer x (.ref C) a0 h') (hup:s.heap.UpToSlots h') (hx:s0.heap.get? x = none) (rV:H x = none)
  (q:E (.ref x) (some C) H):dP P w outer H0 s0 E (.ref x) { s with heap:=h' }:=by
 obtain ⟨st,bx,fr,oe,vs,T,oT,ts,h1,⟨h2,h3⟩,h4,h5,h6,h7,h8,h9,Cv⟩:=hfl
 have yq:T ∉ frs outer:=fun m=>by
  obtain ⟨_,o,ho,hd⟩:=fr.mem m
  rw [h8] at ho;cases ho
  exact hd _ h9
 have L0:s0.heap.get? s0.heap.objs.size = none:=Heap.get?_none_of_le (Nat.le_refl _)
 have big:∀b o,s0.heap.get? b = some o→b ∉ frs outer→b ∉ frs (envOfC qual scope s0.heap.objs.size f cd :: outer):=fun b o e n m=>by
  have m':b∈s0.heap.objs.size :: frs outer:=m
  rcases List.mem_cons.mp m' with z | z
  · rw [z,L0] at e;cases e
  · exact n z
 have Lu:s0.heap.get? T = none:=by
  cases e:s0.heap.get? T with
  | none=>rfl
  | some o=>
    obtain ⟨o',ho'⟩:=I.base.there T o e (by simp [bP])
    have:=hB T o' ho' (big T o e yq) (.inl (by rw [e];exact fun z=>nomatch z))
    rw [h6] at this;cases this
 have pT:H T = none:=by
  cases e:H T with
  | none=>rfl
  | some o=>
    have lt:=I.hok.lt e
    have Rh:T ∉ frs (envOfC qual scope s0.heap.objs.size f cd :: outer):=fun m=>by
     have:=I.mS T m
     rw [e] at this;cases this
    have hob:∃u,s.heap.get? T = some u:=(I.hok T o e).isAt
    obtain ⟨u,hu⟩:=hob
    have:=hB T u hu Rh (.inr (by rw [e];exact fun z=>nomatch z))
    rw [h6] at this;cases this
 refine ⟨x,T,C,H,rfl,I.os,I.bare,⟨fun b o e n nf _=>?_,fun b o e n m _=>?_,fun b o e n _=>?_,fun b o e _=>?_,I.base.tups,I.base.gm,I.base.gT⟩,?_,⟨oe,vs,a0,oT,ts,h1,h2,h3,h4,h5,h7,h8,h9,Cv⟩,hx,Lu,rV,pT,q⟩
 · exact st b o (hB b o (I.base.keep b o e n nf (by simp [bP])) (big b o e nf) (.inl (by rw [e];exact fun z=>nomatch z)))
 · obtain ⟨sl,hs⟩:=I.base.slot b o e n m (by simp [bP])
   have Oh:=I.ok.gF
   obtain ⟨_,o',ho',hd'⟩:=Oh.mem m
   obtain ⟨yy,hs'⟩:=hup b _ hs (fun vs z=>by
    have ho2:s0.heap.get? b = some o':=ho'
    rw [e] at ho2;cases ho2
    exact hd' vs z)
   exact ⟨yy,hs'⟩
 · exact I.base.free b o e n (by simp [bP])
 · obtain ⟨o',ho'⟩:=I.base.there b o e (by simp [bP])
   by_cases m:b∈frs outer
   · have Oh:=I.ok.gF
     obtain ⟨_,o2,ho2,hd2⟩:=fr.mem m
     exact ⟨o2,ho2⟩
   · exact ⟨o',st b o' (hB b o' ho' (big b o e m) (.inl (by rw [e];exact fun z=>nomatch z)))⟩
 · exact I.hok.zT fun b o u e hu=>st b u (hB b u hu (fun m=>by have:=I.mS b m;rw [e] at this;cases this) (.inr (by rw [e];exact fun z=>nomatch z)))
theorem Hj {pins:List (Addr × Obj)} {σ:St} {H:Hp} {s:Shared} {x T C:Addr} (I:Inv (bP (dP P w) P w K mg base N qual scope f cd A outer s0 H0 E) pins σ H s) (t:Og s.heap x T C) (hx:s0.heap.get? x = none) (hT:s0.heap.get? T = none) (rV:H x = none) (pT:H T = none)
  (q:E (.ref x) (some C) H):(bP (dP P w) P w K mg base N qual scope f cd A outer s0 H0 E).xe (.ref x) s:=by
 obtain ⟨oe,vs,a0,oT,ts,h1,h2,h3,h4,h5,h6,h7,h8,h9⟩:=t
 have hst:=I.stack
 have Hl:s.heap.FunFrames base (envOfC qual scope s0.heap.objs.size f cd :: outer):=hst
 have hin:∀env∈(envOfC qual scope s0.heap.objs.size f cd :: outer),∀b,env.frame = some b→b∈x :: T :: frs (envOfC qual scope s0.heap.objs.size f cd :: outer):=fun env he b hb=>List.mem_cons_of_mem _ (List.mem_cons_of_mem _ (List.mem_filterMap.mpr ⟨env,he,hb⟩))
 refine wpAny_leaves_onW (base:=PySem.W.hideAll s.heap (x :: T :: frs (envOfC qual scope s0.heap.objs.size f cd :: outer))) (L:=s0.heap.objs.size) (cls:= .ref C) (a0:=a0) (outer:=outer) I.ok.frames rfl ⟨fun b o e=>PySem.W.of_hideAll _ e,PySem.W.hideAll_none _ List.mem_cons_self,PySem.W.funFrames_hide Hl hin,oe,vs,T,oT,ts,h1,⟨h2,h3⟩,h4,h5,PySem.W.hideAll_none _ (List.mem_cons_of_mem _ List.mem_cons_self),h6,h7,h8,h9⟩ fun h' fl up=>?_
 refine Cu I (fun b o e n hb=>PySem.W.hideAll_get _ e fun m=>?_) fl up hx rV q
 rcases List.mem_cons.mp m with z | m
 · rw [z] at hb
   rcases hb with hb | hb
   · exact hb hx
   · exact hb rV
 · rcases List.mem_cons.mp m with z | m
   · rw [z] at hb
     rcases hb with hb | hb
     · exact hb hT
     · exact hb pT
   · exact n m
theorem Nr:Passes (dP P w) (bP (dP P w) P w K mg base N qual scope f cd A outer s0 H0 E) E:=fun pins σ H s e s' I h=>by
 obtain ⟨x,T,C,H',rfl,os,bare,un,hok,t,hx,hT,rV,pT,q⟩:=h
 have I':Inv (bP (dP P w) P w K mg base N qual scope f cd A outer s0 H0 E) pins σ H' s':=I.yg (ch:=[]) os un hok bare (fun b z=>absurd z (by simp))
 have old:∀b,s.heap.get? b = none→s0.heap.get? b = none:=fun b e=>by
  cases q:s0.heap.get? b with
  | none=>rfl
  | some o=>
    obtain ⟨o',ho'⟩:=I.base.there b o q (by simp [bP])
    rw [e] at ho';cases ho'
 exact Hj I' t (old x hx) (old T hT) rV pT q
theorem Dw {pins:List (Addr × Obj)} {σ:St} {H:Hp} {s:Shared} {x C:Addr} {args:List Value} {h1:Heap} (I:Inv (bP (dP P w) P w K mg base N qual scope f cd A outer s0 H0 E) pins σ H s) (hm:Heap.MadeExcOf s.heap h1 x (.ref C) args)
  (q:E (.ref x) (some C) H):(bP (dP P w) P w K mg base N qual scope f cd A outer s0 H0 E).xe (.ref x) { s with heap:=h1 }:=by
 have Hl:s.heap.FunFrames base (envOfC qual scope s0.heap.objs.size f cd :: outer):=I.stack
 have hin:∀env∈(envOfC qual scope s0.heap.objs.size f cd :: outer),∀b,env.frame = some b→b∈frs (envOfC qual scope s0.heap.objs.size f cd :: outer):=fun env he b hb=>List.mem_filterMap.mpr ⟨env,he,hb⟩
 have I1:Inv (bP (dP P w) P w K mg base N qual scope f cd A outer s0 H0 E) pins σ H { s with heap:=h1 }:=I.kept (t':=s.toks) hm.keeps
 have rV:H x = none:=by
  cases e:H x with
  | none=>rfl
  | some o=>
    obtain ⟨u,hu⟩:=(I.hok x o e).isAt
    rw [hm.new] at hu;cases hu
 have Oi:s0.heap.get? x = none:=by
  cases e:s0.heap.get? x with
  | none=>rfl
  | some o=>
    obtain ⟨o',ho'⟩:=I.base.there x o e (by simp [bP])
    rw [hm.new] at ho';cases ho'
 refine wpAny_leaves_madeW (base:=PySem.W.hideAll s.heap (frs (envOfC qual scope s0.heap.objs.size f cd :: outer))) (h:=s.heap) (L:=s0.heap.objs.size) (outer:=outer) I.ok.frames rfl (fun b o e=>PySem.W.of_hideAll _ e) (PySem.W.funFrames_hide Hl hin) hm fun h' t fl _ _ up=>?_
 refine Cu I1 (fun b o e n hb=>PySem.W.hideAll_get _ ?_ n) fl up Oi rV q
 rcases hb with hb | hb
 · cases e0:s0.heap.get? b with
   | none=>exact absurd e0 hb
   | some o0=>
     obtain ⟨o',ho'⟩:=I.base.there b o0 e0 (by simp [bP])
     have e':h1.get? b = some o:=e
     have:=hm.keeps b o' ho'
     rw [e'] at this;cases this
     exact ho'
 · cases e0:H b with
   | none=>exact absurd e0 hb
   | some o0=>
     obtain ⟨o',ho'⟩:=(I.hok b o0 e0).isAt
     have e':h1.get? b = some o:=e
     have:=hm.keeps b o' ho'
     rw [e'] at this;cases this
     exact ho'
end
end L2
namespace L2
open PySem PySem.Spec PyProof.Rows
def Lv:List Value:=[.type "ValueError", .type "Exception", .type "BaseException", .type "object"]
structure dQ (K:PySem.W.Frag) (C:Addr):Prop where
 ex:∃(nm q:Str) (N:Addr) (bs bm:List Value) (hdct:Bool) (sn:List Str) (sub:List Value) (ab:Bool) (col:Option Bool) (dd:Option Addr) (k0 k1 k2 k3 k5:Option Value) (mN:Str→Option Value),mN "__init__" = none∧bm.contains (.type "BaseException") = true∧∀h:Heap,K.In h→
  h.get? C = some (excClassObj nm q C N bs bm hdct sn sub ab col dd k0 k1 k2 k3 k5 "ValueError.__new__")∧h.Ns N mN∧OwnTail h Lv bm
section
variable {P:Program} {w:World} {K:PySem.W.Frag} {mg:Str→Option Value} {base:Heap} {N:List Str} {qual:Str} {scope:Scope} {f:Addr} {cd:Value} {A:Around} {outer:List Env} {s0:Shared} {H0:Hp} {E:XK}
def Lw (C:Addr) (E:XK):TS:=fun _ _ H=>∀x,E (.ref x) (some C) H
theorem gI {x:Str} {C:Addr} {t:Str} {kd:Nat} {p0 p1 cpos pos:Pos} (oc:dQ K C) (hg:Gl (bP (dP P w) P w K mg base N qual scope f cd A outer s0 H0 E) x) (hm:mg x = some (.ref C)) (hd:(x == ("__debug__":Str)) = false:=by decide):
  PS (bP (dP P w) P w K mg base N qual scope f cd A outer s0 H0 E) (.Raise (some (.Call (.Name x p0) [.Constant (.str t) kd p1] [] cpos)) none pos) (Lw C E):=by
 intro pins s σ H D I h
 obtain ⟨nm,q,Nn,bs,bm,hdct,sn,sub,ab,col,dd,k0,k1,k2,k3,k5,mN,hni,hb,fx⟩:=oc.ex
 refine wpAny_Raise_call_subT (bm:=bm) (C:=C) (nm:=nm) (q:=q) (N:=Nn) (bs:=bs) (hdct:=hdct) (sn:=sn) (sub:=sub) (ab:=ab) (col:=col) (dd:=dd) (k0:=k0) (k1:=k1) (k2:=k2) (k3:=k3) (k5:=k5) F.excBase_ValueError hb (I.ok.hd rfl) rfl hni ?_
 refine iQ I hg hm ⟨rfl,?_⟩ hd
 have pa:PA (bP (dP P w) P w K mg base N qual scope f cd A outer s0 H0 E) [.Constant (.str t) kd p1] (ee (tC (.str t)) jF):=aa aX ah
 refine PySem.Calls.evalArgs_plain (aL (pa cpos pins s σ H (fun vs H1=>vs.length = 1∧H1 = H) I ⟨rfl,rfl⟩) fun us s1 ⟨vs,H1,I1,r,hv,e⟩=>?_)
 subst e
 obtain ⟨hC,hN,T⟩:=fx s1.heap I1.dN
 exact ⟨rfl,by show us.length≤sizeLine;rw [← r.length,hv,sizeLine_eq];decide,hC,hN,T,fun h' e hm=>Dw I1 hm (h e)⟩
structure Dx (P:Program) (w:World) (K:PySem.W.Frag) (mg:Str→Option Value) (base:Heap) (k:Nat) (x:Str) (ps:List Str) (sp:Sp):Prop where
 ex:∃f fd,dU P w K mg base (dP P w) k f fd ps sp∧Binds K fd ps []∧PySem.W.keepIn K (.ref f) = true∧mg x = some (.ref f)
theorem At.zU {x:Str} {st:Stmt} {f:Addr} {fd:FuncData} {N ps:List Str} {k:Nat} {sp:Sp} (F:At K mg x st f fd) (S:aI N ps (au st)) (len:∀vs H Q E,sp vs H Q E→vs.length = ps.length)
  (hbody:∀(cdv:Value) (A:Around) (outer:List Env) (s:Shared) (H:Hp) (vs:List V) (Q:VK) (E:XK),bU k (A.deeper (envOfC x (au st) s.heap.objs.size f cdv))→sp vs H Q E→
    ∃t,gy (bP (dP P w) P w K mg base N x (au st) f cdv A outer s H E) (bR st) t∧t { nx:=fun _ H'=>Q .bE H',rt:=Q } (start N vs) H)
  (h:∀(kV doc pm:Value) (an:Option Addr) (cdv ct:Value) (us:List Value),us.length = ps.length→bindArgs (PySem.W.fnOf x x (cO st) (bR st) (au st) .none kV doc pm an cdv ct) ⟨us,[]⟩ = pure (ps.zip us)):
  Dx P w K mg base (k + 1) x ps sp:=by
 refine ⟨f,fd,?_,F.fn.binds h,F.fn.kp,F.name⟩
 obtain ⟨oc,od,kV,doc,pm,an,cdv,ct,osl,rfl,lk,hcd⟩:=F.fn.ex
 exact CZ lk hcd S len fun A outer s H vs Q E hr lO=>hbody cdv A outer s H vs Q E hr lO
end
end L2
namespace L2
open PySem PySem.Spec PyProof.Rows
def Qg (h:Heap) (x T C:Addr) (fl:Value):Prop:=∃oe vs a0 oT ts,h.get? x = some oe∧oe.cls = .ref C∧vs[0]? = some a0∧oe.data = .fields vs∧vs[1]? = some (.ref T)∧T ≠ x∧h.get? T = some oT∧oT.data = .fields ts∧ts[3]? = some fl
structure kL (X:Cx) (pins:List (Addr × Obj)) (σ:St) (Hc:Hp) (sc:Shared) (H:Hp) (x C:Addr) (fl:Value) (s:Shared):Prop where
 ic:Inv X pins σ Hc sc
 os:s.os = sc.os
 bare:AllBare s.gens
 un:Un (frs X.stack) [] Hc H sc.heap s.heap
 hok:dj X.prog X.w H s.heap
 nx:sc.heap.get? x = none
 hx:H x = none
 tr:∃T,Qg s.heap x T C fl∧sc.heap.get? T = none∧H T = none
section
variable {X:Cx} {pins:List (Addr × Obj)} {σ:St} {Hc H:Hp} {sc s:Shared} {x C:Addr} {fl:Value}
theorem kL.inv (F:kL X pins σ Hc sc H x C fl s):Inv X pins σ H s:=F.ic.yg (ch:=[]) F.os F.un F.hok F.bare (fun b z=>absurd z (by simp))
theorem kL.step {h' B:Heap} {Oj a0:Value} (F:kL X pins σ Hc sc H x C fl s) (hB:∀b o,s.heap.get? b = some o→b ∉ frs X.stack→sc.heap.get? b ≠ none∨H b ≠ none→B.get? b = some o)
  (st:B.StaysIn h') (fr:h'.FunFrames B X.stack) (tr:h'.TracedAtW B x (.ref C) a0 Oj) (up:s.heap.UpToSlots h'):kL X pins σ Hc sc H x C Oj { s with heap:=h' }:=by
 have I:=F.inv
 obtain ⟨oe,vs,T,oT,ts,h1,⟨h2,h3⟩,h4,h5,h6,h7,h8,h9,Cv⟩:=tr
 have yq:T ∉ frs X.stack:=fun m=>by
  obtain ⟨_,o,ho,hd⟩:=fr.mem m
  rw [h8] at ho;cases ho
  exact hd _ h9
 have Lu:sc.heap.get? T = none:=by
  cases e:sc.heap.get? T with
  | none=>rfl
  | some o=>
    obtain ⟨o',ho'⟩:=F.un.there T o e (by simp)
    have:=hB T o' ho' yq (.inl (by rw [e];exact fun z=>nomatch z))
    rw [h6] at this;cases this
 have pT:H T = none:=by
  cases e:H T with
  | none=>rfl
  | some o=>
    obtain ⟨u,hu⟩:=(F.hok T o e).isAt
    have:=hB T u hu yq (.inr (by rw [e];exact fun z=>nomatch z))
    rw [h6] at this;cases this
 refine ⟨F.ic,F.os,F.bare,⟨fun b o e n nf _=>?_,fun b o e n m _=>?_,F.un.free,fun b o e _=>?_,F.un.tups,F.un.gm,F.un.gT⟩,?_,F.nx,F.hx,T,⟨oe,vs,a0,oT,ts,h1,h2,h3,h4,h5,h7,h8,h9,Cv⟩,Lu,pT⟩
 · exact st b o (hB b o (F.un.keep b o e n nf (by simp)) nf (.inl (by rw [e];exact fun z=>nomatch z)))
 · obtain ⟨sl,hs⟩:=F.un.slot b o e n m (by simp)
   obtain ⟨_,o',ho',hd'⟩:=F.ic.stack.mem m
   obtain ⟨yy,hs'⟩:=up b _ hs (fun vs z=>by
    rw [e] at ho';cases ho'
    exact hd' vs z)
   exact ⟨yy,hs'⟩
 · obtain ⟨o',ho'⟩:=F.un.there b o e (by simp)
   by_cases m:b∈frs X.stack
   · obtain ⟨_,o2,ho2,hd2⟩:=fr.mem m
     exact ⟨o2,ho2⟩
   · exact ⟨o',st b o' (hB b o' ho' m (.inl (by rw [e];exact fun z=>nomatch z)))⟩
 · exact F.hok.zT fun b o u e hu=>st b u (hB b u hu (fun m=>by have:=I.mS b m;rw [e] at this;cases this) (.inr (by rw [e];exact fun z=>nomatch z)))
theorem kL.hid (F:kL X pins σ Hc sc H x C fl s):∃(a0:Value) (B:Heap),(∀b o,s.heap.get? b = some o→b ∉ frs X.stack→sc.heap.get? b ≠ none∨H b ≠ none→B.get? b = some o)∧B.StaysIn s.heap∧B.get? x = none∧s.heap.FunFrames B X.stack∧s.heap.TracedAtW B x (.ref C) a0 fl:=by
 obtain ⟨T,⟨oe,vs,a0,oT,ts,h1,h2,h3,h4,h5,h6,h7,h8,h9⟩,hT,pT⟩:=F.tr
 have hin:∀env∈X.stack,∀b,env.frame = some b→b∈x :: T :: frs X.stack:=fun env he b hb=>List.mem_cons_of_mem _ (List.mem_cons_of_mem _ (List.mem_filterMap.mpr ⟨env,he,hb⟩))
 refine ⟨a0,PySem.W.hideAll s.heap (x :: T :: frs X.stack),fun b o e n hb=>PySem.W.hideAll_get _ e fun m=>?_,fun b o e=>PySem.W.of_hideAll _ e,PySem.W.hideAll_none _ List.mem_cons_self,PySem.W.funFrames_hide F.inv.stack hin,oe,vs,T,oT,ts,h1,⟨h2,h3⟩,h4,h5,PySem.W.hideAll_none _ (List.mem_cons_of_mem _ List.mem_cons_self),h6,h7,h8,h9⟩
 rcases List.mem_cons.mp m with z | m
 · rw [z] at hb
   rcases hb with hb | hb
   · exact hb F.nx
   · exact hb F.hx
 · rcases List.mem_cons.mp m with z | m
   · rw [z] at hb
     rcases hb with hb | hb
     · exact hb hT
     · exact hb pT
   · exact n m
theorem Ho {M:Model} {A:Around} {E:Value→Shared→Prop} {Q:Unit→Shared→Prop} (F:kL X pins σ Hc sc H x C .none s) (hA:A.frames = some X.stack) (hs:X.stack = X.env :: X.outer) (hf:X.env.frame = some X.env.locals)
  (h:∀s',kL X pins σ Hc sc H x C (rawInt X.env.locals) s'→Q () s'):wpAny M A (noteFrame (.ref x) X.env) Q E s:=by
 obtain ⟨a0,B,hB,st,bx,fr,tr⟩:=F.hid
 rw [hs] at fr hA
 refine wpAny_looks_onW (base:=B) hA hf ⟨st,bx,fr,tr⟩ fun h' hh up=>?_
 obtain ⟨k1,k2,k3,k4⟩:=hh
 rw [← hs] at k3
 exact h _ (F.step hB k1 k3 k4 up)
theorem zV {M:Model} {A:Around} {E:Value→Shared→Prop} {Q:Unit→Shared→Prop} (F:kL X pins σ Hc sc H x C fl s)
  (h:∀s',kL X pins σ Hc sc H x C .none s'→Q () s'):wpAny M A (setFlight (.ref x) none) Q E s:=by
 obtain ⟨a0,B,hB,st,bx,fr,tr⟩:=F.hid
 refine wpAny_setFlight_noneW (base:=B) st fr tr fun h' k1 k2 k3 k4=>h _ (F.step hB k1 k2 k3 fun b o hb hn=>⟨o.slots,k4 b o hb hn⟩)
end
end L2
namespace L2
open PySem PySem.Spec PyProof.Rows
def tG (x C:Addr):HO:= .ext fun h=>∃o,h.get? x = some o∧o.cls = .ref C
section
variable {X:Cx} {pins:List (Addr × Obj)} {σ:St} {Hc H:Hp} {sc s:Shared} {x C:Addr} {fl:Value}
theorem Nt {j k:Nat} {g:Str} {ps:List Str} {sp:Sp} {e:Expr} {es:List Expr} {t:TA} {p pos:Pos} (D:Dx X.prog X.w X.K X.mg X.base j g ps sp) (hr:bU k X.A) (hno:∀e s,X.xe e s→False) (ha:PA X (e :: es) t) (hj:j≤k) (hg:Gl X g)
  (hdb:(g == ("__debug__":Str)) = false) (he:starEach (e :: es) X.env = (false,eval e X.env) :: starEach es X.env) (hpl:(backTo pos (starEach es X.env)).any (·.1) = false)
  {Q:VK} {R:Addr→Hp→Prop} (I:Inv X pins σ H s) (h:t σ H fun vs H1=>sp (vs ++ []) H1 Q fun _ c H'=>∃C,c = some C∧R C H'):
  wpAny (model X.prog X.w) X.A (eval (.Call (.Name g p) (e :: es) [] pos) X.env) (EP X pins σ Q) (fun ev s'=>∃x C Hc sc H',ev = .ref x∧kL X pins σ Hc sc H' x C .none s'∧R C H') s:=by
 obtain ⟨f,fd,F,hb,kp,m⟩:=D.ex
 refine wpAny_Call_Name_kw (iQ I hg m ?_ hdb)
 refine PySem.W.callWith_K (h₀:=X.base) I.ok.mod.BH kp (wpAny_mono (ha pos pins s σ H _ I h) (fun us s1 ⟨vs,H1,I1,r,q⟩=>⟨I1.dN,?_⟩) fun _ _ z=>(hno _ _ z).elim) he hpl
 have r2:Vals (vs ++ []) (us ++ []):=r.append .nil
 have hl:(us ++ []).length = ps.length:=by rw [← r2.length];exact F.len _ _ _ _ q
 refine wpAny_call (codeAny_mono (F.run X.A X.stack s1 H1 ⟨us,[]⟩ (us ++ []) (vs ++ []) Q _ (hr.mono hj) I1.Gg (hb s1 us I1.dN hl) r2 q) fun r s' hq=>?_)
 cases r with
 | error e=>
   have hq':dP X.prog X.w X.stack H1 s1 (fun _ c H'=>∃C,c = some C∧R C H') e s':=hq
   obtain ⟨x,T,C,H',rfl,os,bare,un,hok,tr,hx,hT,rV,pT,C',ec,hR⟩:=hq'
   cases ec
   exact ⟨x,C,H1,s1,H',rfl,⟨I1,os,bare,un,hok,hx,rV,T,tr,hT,pT⟩,hR⟩
 | ok fl=>
   cases fl with
   | ret u=>exact I1.after hq
   | next=>exact False.elim hq
   | brk=>exact False.elim hq
   | cont=>exact False.elim hq
abbrev Cx.held (X:Cx) (x:Addr):Cx:={ X with A:=X.A.mark (some (.ref x)),calm:=false }
theorem Inv.held (I:Inv X pins σ H s) (x:Addr):Inv (X.held x) pins σ H s:=
 ⟨⟨I.ok.mod,I.ok.kind,I.ok.glob,I.ok.blt,I.ok.above,I.ok.inj,I.ok.has,I.ok.fL,(fun z=>nomatch z),I.ok.frames,I.ok.stk,I.ok.yw,I.ok.bs,I.ok.tW,I.ok.vz,I.ok.sO,I.ok.gF,I.ok.wG⟩,I.os,I.bare,I.base,I.loc,I.cell,I.free,I.eO,I.pin,I.hok,I.len⟩
theorem kL.known (F:kL X pins σ Hc sc H x C fl s):Inv X pins σ (upd H x (tG x C)) s:=by
 have I:=F.inv
 have ne:∀{b o},sc.heap.get? b = some o→b ≠ x:=fun e z=>by rw [z,F.nx] at e;cases e
 have Ri:∀{b o},X.s₀.heap.get? b = some o→b ∉ X.ex→b ≠ x:=fun {b o} e n=>by
  obtain ⟨o',ho'⟩:=F.ic.base.there b o e n
  exact ne ho'
 have Fi:∀{b o},H b = some o→b ≠ x:=fun e z=>by rw [z,F.hx] at e;cases e
 obtain ⟨T,⟨oe,vs,a0,oT,ts,h1,h2,_⟩,_⟩:=F.tr
 refine ⟨I.ok,I.os,I.bare,⟨I.base.keep,I.base.slot,fun b o e n nx=>?_,I.base.there,fun b xs e=>?_,fun b o u e=>?_,fun b ps e=>?_⟩,I.loc,I.cell,?_,fun y c e=>?_,fun p hp=>?_,fun b o e=>?_,I.len⟩
 · rw [ak (Ri e nx)];exact I.base.free b o e n nx
 · have z:=I.base.tups b xs e
   rw [ak (Fi z)];exact z
 · have z:=I.base.gm b o u e
   rw [ak (Fi z)];exact z
 · obtain ⟨more,z⟩:=I.base.gT b ps e
   exact ⟨more,by rw [ak (Fi z)];exact z⟩
 · obtain ⟨m,⟨o,_,_,ho,_⟩,_⟩:=F.ic.loc
   rw [ak (ne ho)];exact I.free
 · obtain ⟨v,o,ho,_⟩:=F.ic.cell y c e
   rw [ak (ne ho)];exact I.eO y c e
 · obtain ⟨a,b,c⟩:=I.pin p hp
   obtain ⟨a',_⟩:=F.ic.pin p hp
   exact ⟨a,by rw [ak (ne a')];exact b,c⟩
 · by_cases z:b = x
   · subst z
     rw [ai] at e
     cases e
     exact ⟨⟨oe,h1,h2⟩,⟨oe,h1⟩,fun h1 h2 ⟨o,a,c⟩ k=>⟨o,k o a,c⟩⟩
   · rw [ak z] at e
     exact (F.hok b o e).stay (fun _ _ _ q=>q) (fun c q=>by rw [ak (Fi q)];exact q) fun c xs q=>by rw [ak (Fi q)];exact q
theorem Inv.gone {n:Str} {j:Nat} {h':Heap} {t':Nat} {v:Option Value} {m:Str→Option Value} (I:Inv X pins σ H s) (hN:X.N.Nodup) (hj:X.N[j]? = some n) (hm:s.heap.Ns X.env.locals m) (hl:∀(i:Nat) (x:Str) (v:V),X.N[i]? = some x→σ[i]? = some (some v)→D7 X.env.scope x→∃u,RelV v u∧Look X.env s.heap m x u)
  (hn:h'.Ns X.env.locals (fun x=>if x = n then v else m x)) (hs:Heap.SameBut X.env.locals s.heap h'):Inv X pins (σ.set j none) H { s with heap:=h',toks:=t' }:=by
 have BI:∀b o,X.s₀.heap.get? b = some o→b ≠ X.env.locals:=fun b o e=>Nat.ne_of_lt (Nat.lt_of_lt_of_le (Heap.lt_size e) I.ok.above)
 have kp:∀b o,b ≠ X.env.locals→s.heap.get? b = some o→h'.get? b = some o:=fun b o ne e=>(hs.2 b ne).trans e
 have cellK:∀x c,X.env.cells.lookup x = some c→∀v,s.heap.IsCell c v→h'.IsCell c v:=fun x c e v ⟨o,ho,hd⟩=>⟨o,kp c o (I.wH x c e) ho,hd⟩
 refine ⟨I.ok,I.os,I.bare,⟨fun b o e n hb hx=>kp b o (BI b o e) (I.base.keep b o e n hb hx),fun b o e n hb hx=>?_,I.base.free,fun b o e hx=>?_,I.base.tups,I.base.gm,I.base.gT⟩,?_,fun x c e=>?_,I.free,I.eO,fun p hp=>?_,?_,by rw [List.length_set];exact I.len⟩
 · obtain ⟨sl,e1⟩:=I.base.slot b o e n hb hx
   exact ⟨sl,kp b _ (BI b o e) e1⟩
 · obtain ⟨o',e1⟩:=I.base.there b o e hx
   exact ⟨o',kp b o' (BI b o e) e1⟩
 · refine ⟨_,hn,fun i y w e1 e2 e3=>?_⟩
   by_cases z:i = j
   · subst z
     rw [List.getElem?_set_self'] at e2
     cases q:σ[i]? with
     | none=>rw [q] at e2;cases e2
     | some a=>rw [q] at e2;cases e2
   · rw [List.getElem?_set_ne (Ne.symm z)] at e2
     obtain ⟨u,r,l⟩:=hl i y w e1 e2 e3
     refine ⟨u,r,?_⟩
     rcases l with ⟨k,l⟩ | ⟨k,c,e,zc⟩
     · have hne:y ≠ n:=fun q=>z (nJ hN e1 (q ▸ hj))
       exact .inl ⟨k,by show (if y = n then v else m y) = some u;rw [if_neg hne];exact l⟩
     · exact .inr ⟨k,c,e,cellK y c e _ zc⟩
 · obtain ⟨v,z⟩:=I.cell x c e
   exact ⟨v,cellK x c e v z⟩
 · obtain ⟨e,n,ne,nf,d⟩:=I.pin p hp
   exact ⟨kp p.1 p.2 ne e,n,ne,nf,d⟩
 · exact I.hok.zT fun b o u e hu=>kp b u (fun z=>by rw [z,I.free] at e;cases e) hu
end
end L2
namespace L2
open PySem PySem.Spec PyProof.Rows
def FX (X:Cx) (pins:List (Addr × Obj)) (R:Addr→St→Hp→Prop) (ev:Value) (s:Shared):Prop:=
 ∃x C σ Hc sc H',ev = .ref x∧kL X pins σ Hc sc H' x C .none s∧R C σ H'
abbrev TX:=Ends→(Addr→St→Hp→Prop)→St→Hp→Prop
def PX (X:Cx) (st:List Stmt) (t:TX):Prop:=
 ∀(pins:List (Addr × Obj)) (s:Shared) (σ:St) (H:Hp) (D:Ends) (R:Addr→St→Hp→Prop),Inv X pins σ H s→t D R σ H→wpAny (model X.prog X.w) X.A (execs st X.env) (SP X pins D) (FX X pins R) s
def Nu (sp:Sp) (t:TA):TX:=fun D R σ H=>t σ H fun vs H1=>sp (vs ++ []) H1 (fun v H'=>v = .bE∧D.nx σ H') fun _ c H'=>∃C,c = some C∧R C σ H'
def Qh (K:PySem.W.Frag) (J:Addr) (j:Nat) (t:TX) (u:TS):TS:=fun D σ H=>
 t D (fun C σ' H'=>PySem.W.exmOne K (.ref C) (.ref J) = some true∧∀x,H' x = none→u { nx:=fun σ2 H2=>D.nx (σ2.set j none) H2,rt:=D.rt,bk:=fun σ2 H2=>D.bk (σ2.set j none) H2,ct:=fun σ2 H2=>D.ct (σ2.set j none) H2 } (σ'.set j (some (.ref x))) (upd H' x (tG x C))) σ H
section
variable {X:Cx} {pins:List (Addr × Obj)} {σ:St} {Hc H:Hp} {sc s:Shared} {x C:Addr} {fl:Value}
theorem Inv.Lx (I':Inv (X.held x) pins σ H s) (ok:X.Ok):Inv X pins σ H s:=
 ⟨ok,I'.os,I'.bare,I'.base,I'.loc,I'.cell,I'.free,I'.eO,I'.pin,I'.hok,I'.len⟩
theorem Ly {j:Nat} {n J:Str} {Ja:Addr} {t:TX} {u:TS} {body:List Stmt} {b0:Stmt} {suite:List Stmt} {p hp pos:Pos} (hN:X.N.Nodup) (hj:X.N[j]? = some n) (hl:X.env.scope.names.lookup n = some .local) (hno:∀e s,X.xe e s→False)
  (hst:X.stack = X.env :: X.outer) (hfr:X.env.frame = some X.env.locals) (hb:PX X body t) (hg:Gl X J) (hm:X.mg J = some (.ref Ja)) (hs:∀x,gy (X.held x) (b0 :: suite) u) (hd:(J == ("__debug__":Str)) = false:=by decide):
  PS X (.Try body [.ExceptHandler (some (.Name J p)) (some n) (b0 :: suite) hp] [] [] pos) (Qh X.K Ja j t u):=by
 intro pins s σ H D I h
 refine wpAny_Try_except (wpAny_mono (hb pins s σ H _ _ I h) (fun f s1 q=>?_) fun ev s1 q=>?_)
 · cases f with
   | next=>exact wpAny_execs_nil q
   | brk=>exact q
   | cont=>exact q
   | ret u=>exact q
 · obtain ⟨x,C,σ',Hc,sc,H',rfl,F,hk,hR⟩:=q
   refine Ho F I.ok.frames hst hfr fun s2 F2=>zV F2 fun s3 F3=>?_
   have I3:Inv (X.held x) pins σ' H' s3:=F3.inv.held x
   refine wpAny_handleBy_cons (codeAny_handlers_test (iQ (X:=X.held x) I3 hg hm ?_ hd)) (by intro z;cases z)
   obtain ⟨T,⟨oe,vs,a0,oT,ts,h1,h2,_⟩,_⟩:=F3.tr
   have LT:PySem.W.Looks (model X.prog X.w) s3.heap (typeOf (.ref x)) (.ref C):=by
    have:=(PySem.W.Looks.ld (M:=model X.prog X.w) (part:=none) h1).andThen (f:=fun o=>(pure o.cls:Sem Value)) (PySem.W.Looks.now)
    rw [h2] at this
    exact this
   refine (PySem.W.exm_one I3.dN LT hk).here ?_
   refine codeAny_handlers_suite_as (zV F3 fun s4 F4=>?_)
   have I4:Inv (X.held x) pins σ' (upd H' x (tG x C)) s4:=F4.known.held x
   refine kq (X:=X.held x) I4 hN hj (.inl hl) (v:= .ref x) rfl (fun s5 I5=>?_) (.inr hl)
   refine wpAny_mono (hs x pins s5 _ _ _ I5 (hR x F4.hx)) (fun f s6 q=>?_) fun e s6 z=>(hno e s6 z).elim
   have goes:∀{σ2 H2} {Q:Prop} {G:Shared→Prop} {p:Pos},Inv (X.held x) pins σ2 H2 s6→(∀s',Inv X pins (σ2.set j none) H2 s'→G s')→wpAny (model X.prog X.w) X.A (do bindName X.env n .none;unbindBehindTheSuite X.env n p) (fun _ s'=>G s') X.xe s6:=by
    intro σ2 H2 _ G p I6 k
    have I7:=I6.Lx I.ok
    obtain ⟨m,hm,hlo⟩:=I7.loc
    refine wpAny_nameGoes_keeps (m:=m) (by unfold Env.kindOf;exact hl) hm (by rw [I.ok.kind];rfl) fun h' v hn hs=>k _ (I7.gone hN hj hm hlo hn hs)
   cases f with
   | next=>obtain ⟨σ2,H2,I6,q⟩:=q;exact goes (Q:=True) I6 fun s' I'=>⟨_,H2,I',q⟩
   | brk=>obtain ⟨σ2,H2,I6,q⟩:=q;exact goes (Q:=True) I6 fun s' I'=>⟨_,H2,I',q⟩
   | cont=>obtain ⟨σ2,H2,I6,q⟩:=q;exact goes (Q:=True) I6 fun s' I'=>⟨_,H2,I',q⟩
   | ret u=>obtain ⟨v,σ2,H2,I6,r,q⟩:=q;exact goes (Q:=True) I6 fun s' I'=>⟨v,_,H2,I',r,q⟩
end
end L2
namespace L2
open PySem PySem.Spec PyProof.Rows PySem.W PySem.Calls Builtin Builtin.ObjectAttr Builtin.Getset_descriptor
structure gC (K:Frag) (C:Addr):Prop where
 ga:findIn K (.ref C) "__getattribute__" = some (some (.builtin "BaseException.__getattribute__"))
 gn:findIn K (.ref C) "__getattr__" = some none
 ca:findIn K (.ref C) "__class__" = some (some (.builtin "object.__class__"))
 mo:mroIn K C (.type "object") = some true
 mb:mroIn K C (.type "BaseException") = some true
 is:(clsIn K C).isSome = true
section
variable {prog:Program} {w:World} {A:Around} {E:Value→Shared→Prop} {h:Heap} {g:Array GenState} {d:Drawn} {t:Nat} {os:OsState} {x C:Addr} {o:Obj} {K:Frag} {R:Result→Shared→Prop}
theorem uM {M:Model} (hx:h.get? x = some o) (hc:o.cls = .ref C):Looks M h (typeOf (.ref x)) (.ref C):=hc ▸ (Looks.ld hx).andThen .now
theorem Lz {tp:Value} (X:K.In h) (ec:gC K C) (hx:h.get? x = some o) (hc:o.cls = .ref C) (hq:R (.ok (.ret (.ref C))) ⟨h,g,d,t,os⟩):
  codeAny (model prog w) A (.call (.builtin "getset_descriptor.__get__") ⟨[.builtin "object.__class__", .ref x,tp],[]⟩) R ⟨h,g,d,t,os⟩:=by
 have L0:=uM (M:=model prog w) hx hc
 have L1:=looks_mroIn (M:=model prog w) X ec.mo
 refine codeAny_call_builtin KF.slot_gs.plain KF.entry_gs (KF.slot_gs.check _ _ _ _ _ _ _ _ KF.type_class (KF.args_gs _ _ _) ?_)
 unfold Builtin.«getset_descriptor.__get__» descrGet
 rw [dga_obj]
 refine wpAny_bind (wpAny_pure ?_)
 unfold descrGetter descrCheckInstance descrNameAndClass isInstance
 simp only [KF.owner_class]
 repeat lk
 refine ⟨Code.quiet_builtin _ (by decide +kernel),codeAny_builtin KF.entry_class ?_⟩
 unfold Builtin.«object.__class__» shownTypeOf
 repeat lk
 exact hq
theorem Hr {tk:Tok} {Q:Fin→Shared→Prop} (X:K.In h) (ec:gC K C) (hx:h.get? x = some o) (hc:o.cls = .ref C) (hq:Q (.done (.ret (.ref C))) ⟨h,g,d,t,os⟩):
  wpAny (model prog w) A (Builtin.«object.__getattribute__» ⟨[.ref x, .str "__class__" tk],[]⟩) Q E ⟨h,g,d,t,os⟩:=by
 have L0:=uM (M:=model prog w) hx hc
 have L1:=looks_findIn (M:=model prog w) X ec.ca
 have So:(⟨h,g,d,t,os⟩:Shared).TypeIs (.builtin "object.__class__") "getset_descriptor":=F.typeOf_object_class
 have f5:=F.typeOf_object_class
 have f6:=F.slot_gs_get.lookup
 have f7:=F.slot_gs_set.lookup
 repeat (any_goals (first | assumption | with_reducible refine Looks.at L0 ?_ | with_reducible refine Looks.at L1 ?_ | wp_step))
 refine Lz X ec hx hc ?_
 repeat (any_goals (first | assumption | wp_step))
theorem Hs {M:Model} {nameV:Value} {Q:Unit→Shared→Prop} (X:K.In h) (ec:gC K C) (hx:h.get? x = some o) (hc:o.cls = .ref C) (hq:Q () ⟨h,g,d,t,os⟩):
  wpAny M A (checkBuiltinCall "BaseException.__getattribute__" ⟨[.ref x,nameV],[]⟩) Q E ⟨h,g,d,t,os⟩:=by
 have hk:builtinKind "BaseException.__getattribute__" = some .slot:=by decide +kernel
 have hsplit:splitId "BaseException.__getattribute__" = some ("BaseException","__getattribute__"):=by decide +kernel
 have L0:=uM (M:=M) hx hc
 have L1:=looks_mroIn (M:=M) X ec.mb
 have ha:=F.args_bexc_ga (.ref x) nameV
 simp only [checkBuiltinCall,hk,hsplit]
 refine wpAny_bind ?_
 · unfold isInstance
   repeat (first | with_reducible refine Looks.at L0 ?_ | with_reducible refine Looks.at L1 ?_ | wp_step)
   exact hq
theorem JX {tk:Tok} (X:K.In h) (ec:gC K C) (hx:h.get? x = some o) (hc:o.cls = .ref C) (hq:R (.ok (.ret (.ref C))) ⟨h,g,d,t,os⟩):
  codeAny (model prog w) A (.call (.builtin "BaseException.__getattribute__") ⟨[.ref x, .str "__class__" tk],[]⟩) R ⟨h,g,d,t,os⟩:=
 codeAny_call_builtin F.excAttr_ValueError.ga.plain F.entry_bexc_ga (Hs X ec hx hc (Hr X ec hx hc hq))
theorem Nv {tk:Tok} {fill expr:Bool} {Q:Value→Shared→Prop} (X:K.In h) (ec:gC K C) (hx:h.get? x = some o) (hc:o.cls = .ref C) (hq:Q (.ref C) ⟨h,g,d,t,os⟩):
  wpAny (model prog w) A (getAttrBy (.ref x) (.str "__class__" tk) fill expr) Q E ⟨h,g,d,t,os⟩:=by
 have L0:=uM (M:=model prog w) hx hc
 have L1:=looks_findIn (M:=model prog w) X ec.ga
 have L2:=looks_findIn (M:=model prog w) X ec.gn
 have f3:=F.excAttr_ValueError.ga.bind (.ref x)
 have Oi:(expr && onTheHeap (Value.builtin "BaseException.__getattribute__")) = false:=by cases expr <;> rfl
 have Rj:(Value.builtin "BaseException.__getattribute__" == Value.builtin "object.__getattribute__") = false:=by decide +kernel
 have Fj:(onTheHeap (Value.ref C) && Value.builtin "BaseException.__getattribute__" == Value.builtin "object.__getattribute__") = false:=by rw [Rj];rfl
 repeat (any_goals (first | assumption | with_reducible refine Looks.at L0 ?_ | with_reducible refine Looks.at L1 ?_ | with_reducible refine Looks.at L2 ?_ | wp_step))
 refine JX X ec hx hc ?_
 repeat (any_goals (first | assumption | wp_step))
theorem JY {Q:Option Value→Shared→Prop} (X:K.In h) (ec:gC K C) (hx:h.get? x = some o) (hc:o.cls = .ref C) (hq:Q (some (.ref C)) ⟨h,g,d,t + 1,os⟩):
  wpAny (model prog w) A (getAttr? (.ref x) "__class__") Q E ⟨h,g,d,t,os⟩:=by
 unfold getAttr? getAttrBy?
 repeat (any_goals (first | assumption | with_reducible apply Nv X ec hx hc | wp_step))
theorem Ht (ec:gC K C):KitX K (.ref x) (.ref C) (fun h=>∃o,h.get? x = some o∧o.cls = .ref C) where
 ty:=fun _ _ _ ⟨o,hx,hc⟩=>uM hx hc
 it:=fun _ _ X _=>by
  have:=ec.is
  unfold clsIn at this
  split at this
  · rename_i c' d' Rk yy ho
    intro A' Q' E' s' k q
    unfold isType loadHead
    exact wpAny_bind (wpAny_loadPart (k _ _ (X _ _ ho)) (wpAny_pure q))
  · cases this
 ne:=fun h tp dd its n sl X htp=>by
  have:=ec.is
  refine Bool.eq_false_iff.mpr fun q=>?_
  have e:C = tp:=Value.ref.inj (beq_iff_eq.mp q)
  subst e
  unfold clsIn at this
  split at this
  · rename_i c' d' Rk yy ho
    have z:=(X _ _ ho).symm.trans htp
    cases z
  · cases this
 ca:=fun {_ _ _ _ _ s} X ⟨o,hx,hc⟩ k=>by
  obtain ⟨h,g,d,t,os⟩:=s
  exact JY X ec hx hc k
end
end L2
namespace L2
open PySem PySem.Spec PyProof.Rows PySem.W
theorem zW {K:Frag} {bmB:List Value} {x:Value} (hb:bmB.contains x = true):∀{l:List Value},tailIn K bmB l = true→l.contains x = true
 | [],e=>by rw [beq_iff_eq.mp (show (bmB == []) = true from e)] at hb;exact hb
 | v :: r,e=>by
   unfold tailIn at e
   rcases Bool.or_eq_true_iff.mp e with q | q
   · rw [beq_iff_eq.mp q];exact hb
   · split at q
     · split at q
       · simp only [Bool.and_eq_true] at q
         rw [List.contains_cons,zW hb q.2,Bool.or_true]
       · cases q
     · cases q
def nc (K:Frag) (N:Addr) (x:Str):Option Value:=match K.lookup N with
 | some o=>(match o.data with | .dict es _=>nsFind es x | _=>none)
 | none=>none
theorem Dy {K:Frag} {h:Heap} {N:Addr} (X:K.In h) (e:nsOkIn K N = true):h.nsMap N = nc K N:=by
 unfold nsOkIn at e
 split at e
 · rename_i ho
   funext x
   unfold nc Heap.nsMap
   rw [X _ _ ho,ho]
 · cases e
theorem zX {K:Frag} {N:Addr} {x:Str} (q:nsIn K N x = some none):nc K N x = none:=by
 unfold nsIn at q
 unfold nc
 split at q
 · rename_i c d es n sl ho
   rw [ho]
   show nsFind es x = none
   split at q
   · cases q
   · rename_i he
     unfold nsFind findBy
     rw [← Array.find?_toList,he]
     rfl
 · cases q
theorem dQ.of {K:Frag} {C:Addr} (q:excIn K C Lv "ValueError.__new__" = true):dQ K C:=by
 unfold excIn at q
 split at q
 · rename_i dd cd sl ho
   split at q
   · rename_i C' bm k0 k1 k2 k3 n k5 hm hs
     simp only [Bool.and_eq_true,beq_iff_eq,Bool.not_eq_true'] at q
     obtain ⟨⟨⟨⟨⟨rfl,rfl⟩,LA⟩,ht⟩,hok⟩,hni⟩:=q
     obtain ⟨nm,bs,mro,ns,qn,hd,sn,sub,ab,col,del⟩:=cd
     dsimp only at hm LA hok hni
     subst hm LA
     have hsl:sl = #[k0,k1,k2,k3,some (.builtin "ValueError.__new__"),k5] :=by
      obtain ⟨l⟩:=sl
      simp only at hs
      rw [hs]
     subst hsl
     refine ⟨nm,qn,ns,bs,bm,hd,sn,sub,ab,col,dd,k0,k1,k2,k3,k5,nc K ns,zX hni,zW (by decide +kernel) ht,fun h X=>⟨X _ _ ho,?_,tail_of_in X ht⟩⟩
     have:=Heap.Ns.of_isNs (isNs_of_in X hok)
     rw [Dy X hok] at this
     exact this
   · cases q
 · cases q
def zY:V→Value
 | .ref a=> .ref a
 | .ty n=> .type n
 | _=> .none
section
variable {X:Cx}
theorem cy (K:Frag) (hK:X.K = K):dS X (.builtin "isinstance") (fun xs H Q=>∃x C c b,xs = [.ref x,c]∧H x = some (tG x C)∧gC K C∧RelV c (zY c)∧kitOne K (.ref C) (zY c) = some b∧Q (.bl b) H):=by
 subst hK
 intro pins s σ H xs us Q I r h
 obtain ⟨x,C,c,b,rfl,hx,ec,rc,e,q⟩:=h
 obtain ⟨u,w',rfl,ru,rw'⟩:=vals2 r
 have e1:u = .ref x:=ru
 subst e1
 have e2:w' = zY c:=by
  cases c with
  | ref a=>exact rw'
  | ty n=>exact rw'
  | bE=>exact rw'
  | bl b=>exact nomatch (show Value.none = Value.bool b from rc)
  | int i=>obtain ⟨t,z⟩:=(show ∃t,Value.none = Value.int i t from rc);cases z
  | str i=>obtain ⟨t,z⟩:=(show ∃t,Value.none = Value.str i t from rc);cases z
  | mR i=>obtain ⟨t,z⟩:=(show ∃t,Value.none = Value.bytes i t from rc);cases z
  | wD i=>obtain ⟨t,z⟩:=(show ∃t,Value.none = Value.float i t from rc);cases z
 subst e2
 exact kia_one (Ht ec) I.dN (I.hok x _ hx).1 e (fun z=>nomatch z) fun tk=>⟨.bl b,H,I.tok _,rfl,q⟩
end
end L2
namespace L2
open PySem PySem.Spec PyProof.Rows PySem.W PySem.NumText
structure Ec where
 (bad twice lU kM uN jD zZ rows z5 uO Hu:Addr)
structure Told (K:Frag) (e:Ec) (C:Addr) (i:Nat):Prop where
 ec:gC K C
 jt:exmOne K (.ref C) (.ref e.Hu) = some true
 ve:kitOne K (.ref C) (.type "ValueError") = some true
 k0:kitOne K (.ref C) (.ref e.bad) = some (decide (0 = i))
 k1:kitOne K (.ref C) (.ref e.twice) = some (decide (1 = i))
 k2:kitOne K (.ref C) (.ref e.lU) = some (decide (2 = i))
 k3:kitOne K (.ref C) (.ref e.kM) = some (decide (3 = i))
 k4:kitOne K (.ref C) (.ref e.uN) = some (decide (4 = i))
 k5:kitOne K (.ref C) (.ref e.jD) = some (decide (5 = i))
 k6:kitOne K (.ref C) (.ref e.zZ) = some (decide (6 = i))
 k7:kitOne K (.ref C) (.ref e.rows) = some (decide (7 = i))
 k8:kitOne K (.ref C) (.ref e.z5) = some (decide (8 = i))
 k9:kitOne K (.ref C) (.ref e.uO) = some (decide (9 = i))
def z6 (i:Nat):List Bool:=true :: (List.range 10).map fun k=>decide (k = i)
def vP (i:Nat):List V:=(z6 i).map V.bl
theorem Told.of {K:Frag} {e:Ec} {C:Addr} {i:Nat} {b0 b1 b2 b3 b4 b5 b6 b7 b8 b9:Bool} (ga:findIn K (.ref C) "__getattribute__" = some (some (.builtin "BaseException.__getattribute__"))) (gn:findIn K (.ref C) "__getattr__" = some none) (ca:findIn K (.ref C) "__class__" = some (some (.builtin "object.__class__")))
  (mo:mroIn K C (.type "object") = some true) (mb:mroIn K C (.type "BaseException") = some true) (jt:exmOne K (.ref C) (.ref e.Hu) = some true) (ve:kitOne K (.ref C) (.type "ValueError") = some true)
  (k0:kitOne K (.ref C) (.ref e.bad) = some b0) (k1:kitOne K (.ref C) (.ref e.twice) = some b1) (k2:kitOne K (.ref C) (.ref e.lU) = some b2) (k3:kitOne K (.ref C) (.ref e.kM) = some b3) (k4:kitOne K (.ref C) (.ref e.uN) = some b4)
  (k5:kitOne K (.ref C) (.ref e.jD) = some b5) (k6:kitOne K (.ref C) (.ref e.zZ) = some b6) (k7:kitOne K (.ref C) (.ref e.rows) = some b7) (k8:kitOne K (.ref C) (.ref e.z5) = some b8) (k9:kitOne K (.ref C) (.ref e.uO) = some b9)
  (h:[b0,b1,b2,b3,b4,b5,b6,b7,b8,b9] = (List.range 10).map fun k=>decide (k = i)):Told K e C i:=by
 have h':[b0,b1,b2,b3,b4,b5,b6,b7,b8,b9] = [decide (0 = i),decide (1 = i),decide (2 = i),decide (3 = i),decide (4 = i),decide (5 = i),decide (6 = i),decide (7 = i),decide (8 = i),decide (9 = i)] :=h
 simp only [List.cons.injEq,and_true] at h'
 obtain ⟨rfl,rfl,rfl,rfl,rfl,rfl,rfl,rfl,rfl,rfl⟩:=h'
 have is:(clsIn K C).isSome = true:=by
  unfold mroIn at mo
  obtain ⟨cd,a,b⟩:=Option.bind_eq_some_iff.mp mo
  rw [a];rfl
 exact ⟨⟨ga,gn,ca,mo,mb,is⟩,jt,ve,k0,k1,k2,k3,k4,k5,k6,k7,k8,k9⟩
end L2
namespace L2
open PySem PySem.Spec PyProof.Rows PySem.W PySem.NumText
def kN (K:Frag) (j:Nat) (c:V):TE:=KA (fun xs H Q=>∃x C c b,xs = [.ref x,c]∧H x = some (tG x C)∧gC K C∧RelV c (zY c)∧kitOne K (.ref C) (zY c) = some b∧Q (.bl b) H) (ee (sP j) (ee (tC c) jF))
def Nx (K:Frag) (e:Ec) (i j:Nat):TS:=
 CM (sQ (CW (ee (kN K j (.ty "ValueError")) (ee (kN K j (.ref e.bad)) (ee (kN K j (.ref e.twice)) (ee (kN K j (.ref e.lU)) jF))))) (dI i))
  (CM (sQ (BK Gq (sP i) (CW (ee (kN K j (.ref e.kM)) (ee (kN K j (.ref e.uN)) (ee (kN K j (.ref e.jD)) jF))))) (dI i))
    (sQ (BK Gq (sP i) (CW (ee (kN K j (.ref e.zZ)) (ee (kN K j (.ref e.rows)) (ee (kN K j (.ref e.z5)) (ee (kN K j (.ref e.uO)) jF)))))) (dI i)))
section
theorem Dz {K:Frag} {e:Ec} {i j n:Nat} {D:Ends} {σ:St} {H:Hp} {x C:Addr} (to:Told K e C n) (hj:σ[j]? = some (some (.ref x))) (hi:i < σ.length) (hij:i ≠ j) (hx:H x = some (tG x C))
  (q:∀l H',aC H H'→H' l = some (.lst (vP n))→D.nx (σ.set i (some (.ref l))) H'):Nx K e i j D σ H:=by
 have Iq:∀(σ:St) (v:V),i < σ.length→(σ.set i (some v))[i]? = some (some v):=fun σ v h=>List.getElem?_set_self h
 have Ir:∀(σ:St) (v:V),σ[j]? = some (some (.ref x))→(σ.set i (some v))[j]? = some (some (.ref x)):=fun σ v h=>by rw [List.getElem?_set_ne hij];exact h
 refine ⟨_,hj,x,C,_,_,rfl,hx,to.ec,rfl,to.ve,?_⟩
 refine ⟨_,hj,x,C,_,_,rfl,hx,to.ec,rfl,to.k0,?_⟩
 refine ⟨_,hj,x,C,_,_,rfl,hx,to.ec,rfl,to.k1,?_⟩
 refine ⟨_,hj,x,C,_,_,rfl,hx,to.ec,rfl,to.k2,?_⟩
 refine ⟨(show 4≤sizeLine from by rw [sizeLine_eq];decide),fun p1 hp1=>?_⟩
 generalize Ol:upd H p1 (HO.lst _) = H1
 have Hv:upd H p1 (.lst [V.bl true,V.bl (decide (0 = n)),V.bl (decide (1 = n)),V.bl (decide (2 = n))]) = H1:=Ol
 have g1:aC H H1:=Hv ▸ av hp1 _
 have h1:H1 p1 = some (.lst [V.bl true,V.bl (decide (0 = n)),V.bl (decide (1 = n)),V.bl (decide (2 = n))]):=by rw [← Hv,ai]
 clear Ol Hv
 have hj1:=Ir σ (.ref p1) hj
 have Fj:=g1 _ _ hx
 refine ⟨_,Iq _ _ hi,?_⟩
 refine ⟨_,hj1,x,C,_,_,rfl,Fj,to.ec,rfl,to.k3,?_⟩
 refine ⟨_,hj1,x,C,_,_,rfl,Fj,to.ec,rfl,to.k4,?_⟩
 refine ⟨_,hj1,x,C,_,_,rfl,Fj,to.ec,rfl,to.k5,?_⟩
 refine ⟨(show 3≤sizeLine from by rw [sizeLine_eq];decide),fun p2 hp2=>?_⟩
 generalize Om:upd H1 p2 (HO.lst _) = H2
 have Hw:upd H1 p2 (.lst [V.bl (decide (3 = n)),V.bl (decide (4 = n)),V.bl (decide (5 = n))]) = H2:=Om
 have g2:aC H1 H2:=Hw ▸ av hp2 _
 have h2:H2 p2 = some (.lst [V.bl (decide (3 = n)),V.bl (decide (4 = n)),V.bl (decide (5 = n))]):=by rw [← Hw,ai]
 clear Om Hw
 refine ⟨p1,p2,_,_,rfl,rfl,g2 _ _ h1,h2,(show 4 + 3≤sizeLine from by rw [sizeLine_eq];decide),fun p3 hp3=>?_⟩
 generalize Fl:upd H2 p3 (HO.lst _) = H3
 have pU:upd H2 p3 (.lst [V.bl true,V.bl (decide (0 = n)),V.bl (decide (1 = n)),V.bl (decide (2 = n)),V.bl (decide (3 = n)),V.bl (decide (4 = n)),V.bl (decide (5 = n))]) = H3:=Fl
 have g3:aC H2 H3:=pU ▸ av hp3 _
 have h3:H3 p3 = some (.lst [V.bl true,V.bl (decide (0 = n)),V.bl (decide (1 = n)),V.bl (decide (2 = n)),V.bl (decide (3 = n)),V.bl (decide (4 = n)),V.bl (decide (5 = n))]):=by rw [← pU,ai]
 clear Fl pU
 have Iu:=Ir _ (.ref p3) hj1
 have Cw:=g3 _ _ (g2 _ _ Fj)
 refine ⟨_,Iq _ _ (by rw [List.length_set];exact hi),?_⟩
 refine ⟨_,Iu,x,C,_,_,rfl,Cw,to.ec,rfl,to.k6,?_⟩
 refine ⟨_,Iu,x,C,_,_,rfl,Cw,to.ec,rfl,to.k7,?_⟩
 refine ⟨_,Iu,x,C,_,_,rfl,Cw,to.ec,rfl,to.k8,?_⟩
 refine ⟨_,Iu,x,C,_,_,rfl,Cw,to.ec,rfl,to.k9,?_⟩
 refine ⟨(show 4≤sizeLine from by rw [sizeLine_eq];decide),fun p4 z7=>?_⟩
 generalize Fo:upd H3 p4 (HO.lst _) = H4
 have tH:upd H3 p4 (.lst [V.bl (decide (6 = n)),V.bl (decide (7 = n)),V.bl (decide (8 = n)),V.bl (decide (9 = n))]) = H4:=Fo
 have g4:aC H3 H4:=tH ▸ av z7 _
 have h4:H4 p4 = some (.lst [V.bl (decide (6 = n)),V.bl (decide (7 = n)),V.bl (decide (8 = n)),V.bl (decide (9 = n))]):=by rw [← tH,ai]
 clear Fo tH
 refine ⟨p3,p4,_,_,rfl,rfl,g4 _ _ h3,h4,(show 7 + 4≤sizeLine from by rw [sizeLine_eq];decide),fun p5 LB=>?_⟩
 have g5:=av LB (.lst (vP n))
 have:=q p5 (upd H4 p5 (.lst (vP n))) (g1.trans (g2.trans (g3.trans (g4.trans g5)))) ai
 show D.nx (((σ.set i _).set i _).set i _) _
 rw [List.set_set,List.set_set]
 exact this
end
end L2
namespace L2
open PySem PySem.Spec PyProof.Rows
structure Mx (P:Program) (w:World) (K:PySem.W.Frag) (mg:Str→Option Value) (base:Heap) (k:Nat) (C:Addr) (m:Str) (ps:List Str) (sp:Sp):Prop where
 ex:∃f fd,dU P w K mg base (dP P w) k f fd ps sp∧Binds K fd ps []∧Meth K C m f∧jq K C
theorem gQ.zU {P:Program} {w:World} {K:PySem.W.Frag} {mg:Str→Option Value} {base:Heap} {C:Addr} {m qual:Str} {st:Stmt} {f:Addr} {fd:FuncData} {N ps:List Str} {k:Nat} {sp:Sp} (F:gQ K C m qual st f fd) (S:aI N ps (au st)) (len:∀vs H Q E,sp vs H Q E→vs.length = ps.length)
  (hbody:∀(cdv:Value) (A:Around) (outer:List Env) (s:Shared) (H:Hp) (vs:List V) (Q:VK) (E:XK),bU k (A.deeper (envOfC qual (au st) s.heap.objs.size f cdv))→sp vs H Q E→
    ∃t,gy (bP (dP P w) P w K mg base N qual (au st) f cdv A outer s H E) (bR st) t∧t { nx:=fun _ H'=>Q .bE H',rt:=Q } (start N vs) H)
  (h:∀(kV doc pm:Value) (an:Option Addr) (cdv ct:Value) (us:List Value),us.length = ps.length→bindArgs (PySem.W.fnOf m qual (cO st) (bR st) (au st) .none kV doc pm an cdv ct) ⟨us,[]⟩ = pure (ps.zip us)):
  Mx P w K mg base (k + 1) C m ps sp:=by
 refine ⟨f,fd,?_,F.fn.binds h,F.me,F.cl⟩
 obtain ⟨oc,od,kV,doc,pm,an,cdv,ct,osl,rfl,lk,hcd⟩:=F.fn.ex
 exact CZ lk hcd S len fun A outer s H vs Q E hr lO=>hbody cdv A outer s H vs Q E hr lO
theorem dU.Rl {P:Program} {w:World} {K:PySem.W.Frag} {mg:Str→Option Value} {base:Heap} {k:Nat} {f:Addr} {fd:FuncData} {ps:List Str} {sp Fp:Sp} (F:dU P w K mg base (dP P w) k f fd ps sp) (h:∀vs H Q E,Fp vs H Q E→sp vs H Q E0):dU P w K mg base m5 k f fd ps Fp:=
 ⟨fun vs H Q E q=>F.len _ _ _ _ (h _ _ _ _ q),fun A outer s H args us vs Q E hr he hb hv hs=>codeAny_mono (F.run A outer s H args us vs Q E0 hr he hb hv (h _ _ _ _ hs)) fun r s' q=>by
   cases r with
   | error e=>
     obtain ⟨x,T,C,H',_,_,_,_,_,_,_,_,_,_,z⟩:=(show dP P w outer H s E0 e s' from q)
     exact z.elim
   | ok fl=>cases fl <;> exact q⟩
theorem Mx.mn {P:Program} {w:World} {K:PySem.W.Frag} {mg:Str→Option Value} {base:Heap} {k:Nat} {C:Addr} {m:Str} {ps:List Str} {sp Fp:Sp} (D:Mx P w K mg base k C m ps sp) (h:∀vs H Q E,Fp vs H Q E→sp vs H Q E0):Mn P w K mg base k C m ps Fp:=by
 obtain ⟨f,fd,F,b,me,c⟩:=D.ex
 exact ⟨f,fd,F.Rl h,b,me,c⟩
section
variable {P:Program} {w:World} {K:PySem.W.Frag} {mg:Str→Option Value} {base:Heap} {N:List Str} {qual:Str} {scope:Scope} {f:Addr} {cd:Value} {A:Around} {outer:List Env} {s0:Shared} {H0:Hp} {E:XK}
theorem vQ {pl:Sem Bool} {j k:Nat} {C:Addr} {m:Str} {ps:List Str} {sp:Sp} {o e:Expr} {es:List Expr} {ta:TE} {t:TA} {apos pos:Pos} (D:Mx P w K mg base j C m ps sp) (hr:bU k (bP (dP P w) P w K mg base N qual scope f cd A outer s0 H0 E).A) (ho:PE (bP (dP P w) P w K mg base N qual scope f cd A outer s0 H0 E) o ta) (ha:PA (bP (dP P w) P w K mg base N qual scope f cd A outer s0 H0 E) (e :: es) t) (hj:j≤k:=by decide)
  (hst:starEach (e :: es) (bP (dP P w) P w K mg base N qual scope f cd A outer s0 H0 E).env = (false,eval e (bP (dP P w) P w K mg base N qual scope f cd A outer s0 H0 E).env) :: starEach es (bP (dP P w) P w K mg base N qual scope f cd A outer s0 H0 E).env:=by rfl) (hpl:(backTo pos (starEach es (bP (dP P w) P w K mg base N qual scope f cd A outer s0 H0 E).env)).any (·.1) = false:=by rfl)
  (ht:eval (.Call (.Attribute o m apos) (e :: es) [] pos) (bP (dP P w) P w K mg base N qual scope f cd A outer s0 H0 E).env = (do
    let ov ← eval o (bP (dP P w) P w K mg base N qual scope f cd A outer s0 H0 E).env
    standAt apos.atName
    let (f2,first) ← holding [ov] (getMethod ov m pl)
    callWith pos f2 first (backTo pos (starEach (e :: es) (bP (dP P w) P w K mg base N qual scope f cd A outer s0 H0 E).env)) (backToKw pos (keywordEach [] (bP (dP P w) P w K mg base N qual scope f cd A outer s0 H0 E).env))):=by rfl):
  PE (bP (dP P w) P w K mg base N qual scope f cd A outer s0 H0 E) (.Call (.Attribute o m apos) (e :: es) [] pos) (uf C m sp [] E ta t):=by
 obtain ⟨f',fd,F,b,hm,c⟩:=D.ex
 exact BQ (pl:=pl) ho c hm F (hr.mono hj) b .nil Nr ha hst hpl ht
end
section
variable {X:Cx}
theorem LC {j k:Nat} {g:Str} {ps:List Str} {sp:Sp} {e:Expr} {es:List Expr} {t:TA} {p pos p2 p3 p4:Pos} {kd:Nat} {body:List Stmt} (D:Dx X.prog X.w X.K X.mg X.base j g ps sp) (hr:bU k X.A) (hno:∀e s,X.xe e s→False) (ha:PA X (e :: es) t) (hj:j≤k:=by decide) (hg:Gl X g:=by rfl)
  (hdb:(g == ("__debug__":Str)) = false:=by decide) (he:starEach (e :: es) X.env = (false,eval e X.env) :: starEach es X.env:=by rfl) (hpl:(backTo pos (starEach es X.env)).any (·.1) = false:=by rfl):
  PX X [.If (.Compare (.Call (.Name g p) (e :: es) [] pos) [.IsNot] [.Constant .none kd p2] p3) body [] p4] (Nu sp t):=by
 intro pins s σ H Dn R I h
 refine wpAny_execs_cons (wpAny_If (wpAny_isTrue_Compare1 (wpAny_mono (Nt D hr hno ha hj hg hdb he hpl I h) (fun v s1 ⟨y,H1,I1,r1,ey,q1⟩=>?_) fun ev s1 ⟨x,C,Hc,sc,H',ev',F,hR⟩=>⟨x,C,σ,Hc,sc,H',ev',F,hR⟩) (gG _ (by decide) (by decide))))
 subst ey
 cases r1
 exact Constant_none (isnot_none_gen (wpAny_truthy_bool (wpAny_execs_nil (wpAny_execs_nil ⟨_,H1,I1,q1⟩))))
end
def Ec.at (e:Ec):Nat→Addr
 | 0=>e.bad | 1=>e.twice | 2=>e.lU | 3=>e.kM | 4=>e.uN | 5=>e.jD | 6=>e.zZ | 7=>e.rows | 8=>e.z5 | _=>e.uO
def Rf (e:Ec) (E:XK) (H:Hp) (i:Nat):Prop:=∀x H',aC H H'→E (.ref x) (some (e.at i)) H'
theorem Rf.mono {e:Ec} {E:XK} {H H':Hp} {i:Nat} (r:Rf e E H i) (s:aC H H'):Rf e E H' i:=fun x H2 s2=>r x H2 (s.trans s2)
structure Fq (T:TC) (e:Ec) (n:Nat) (ρ:aQ) (A:HA) (H:Hp) (r:Option Nat) (st':HS) (Q:VK) (E:XK):Prop where
 no:∀i,r = some i→Rf e E H i
 ok:r = none→yp T n ρ A H st' fun H'=>Q .bE H'
def newR (st:HS) (x:Str):Option Nat:=if isNm x = true then (if x∈st.nms then some 1 else none) else some 0
def q_ (st:HS) (o:Str):Option Nat:=if isNm o = true then (if o∈st.own then some 1 else none) else some 0
def fP (st:HS) (x o:Str) (wo we:Int):Option Nat:=match newR st x with
 | some i=>some i
 | none=>if o∈st.own then (if wo < 1∨we < 0 then some 5 else none) else some 2
structure tK (T:TC) (e:Ec) (vs:List V) (H:Hp) (Q:VK) (E:XK):Prop where
 ex:∃n ρ A st o,vs = [.ref A.a, .str o]∧aS T n ρ A H st∧(o ∉ st.own→Rf e E H 2)∧(o∈st.own→Q (.int (st.own.idxOf o:Int)) H)
structure xA (T:TC) (e:Ec) (vs:List V) (H:Hp) (Q:VK) (E:XK):Prop where
 ex:∃n ρ A st x,vs = [.ref A.a, .str x]∧aS T n ρ A H st∧(st.aq.map (·.nm)).Nodup∧((∀p∈st.aq,p.nm ≠ x)→Rf e E H 3)∧∀(i:Nat) (p:Pt) (q:Addr × Addr × Addr),p.nm = x→st.aq[i]? = some p→A.qs[i]? = some q→Q (.ref q.1) H
structure rW (T:TC) (e:Ec) (vs:List V) (H:Hp) (Q:VK) (E:XK):Prop where
 ex:∃n ρ A st x,vs = [.ref A.a, .str x]∧aS T n ρ A H st∧x.cps.toList.length≤100000∧(∀i,newR st x = some i→Rf e E H i)∧(newR st x = none→∀H',aC H H'→Q .bE H')
structure Cy (T:TC) (e:Ec) (vs:List V) (H:Hp) (Q:VK) (E:XK):Prop where
 ex:∃n ρ A st o,vs = [.ref A.a, .str o]∧HH T n ρ A H st∧o.cps.toList.length≤100000∧st.own.length < 100∧Fq T e n ρ A H (q_ st o) (cY st o) Q E
structure vR (T:TC) (e:Ec) (vs:List V) (H:Hp) (Q:VK) (E:XK):Prop where
 ex:∃n ρ A st x o wo we,vs = [.ref A.a, .str x, .str o, .int wo, .int we]∧HH T n ρ A H st∧x.cps.toList.length≤100000∧st.nms.length < 1000∧st.aq.length < 1000∧Fq T e n ρ A H (fP st x o wo we) (ji st x o wo we) Q E
theorem uP {st:HS} {o:Str} (h1:isNm o = true) (h2:o ∉ st.own):q_ st o = none:=by unfold q_;rw [if_pos h1,if_neg h2]
theorem xB {st:HS} {x:Str} (h1:isNm x = true) (h2:x ∉ st.nms):newR st x = none:=by unfold newR;rw [if_pos h1,if_neg h2]
theorem DA {st:HS} {x o:Str} {wo we:Int} (h1:isNm x = true) (h2:x ∉ st.nms) (h3:o∈st.own) (h4:1≤wo) (h5:0≤we):fP st x o wo we = none:=by
 unfold fP;rw [xB h1 h2];show (if o∈st.own then _ else _) = _;rw [if_pos h3,if_neg (by omega)]
theorem Fq.of {T:TC} {e:Ec} {n:Nat} {ρ:aQ} {A:HA} {H:Hp} {r:Option Nat} {st':HS} {Q:VK} (h:r = none) (q:yp T n ρ A H st' fun H'=>Q .bE H'):Fq T e n ρ A H r st' Q E0:=⟨(fun i z=>by rw [h] at z;cases z),fun _=>q⟩
theorem JZ {P:Program} {w:World} {K:PySem.W.Frag} {mg:Str→Option Value} {base:Heap} {k:Nat} {T:TC} {e:Ec} {ps:List Str} (D:Mx P w K mg base k T.hold "sign" ps (Cy T e)):Mn P w K mg base k T.hold "sign" ps (Cg T):=
 D.mn fun vs H Q E h=>by
   obtain ⟨n,ρ,A,st,o,rfl,hh,hx,hn,hl,q⟩:=h.ex
   exact ⟨n,ρ,A,st,o,rfl,hh,zJ hx,hl, .of (uP hx hn) q⟩
theorem J0 {P:Program} {w:World} {K:PySem.W.Frag} {mg:Str→Option Value} {base:Heap} {k:Nat} {T:TC} {e:Ec} {ps:List Str} (D:Mx P w K mg base k T.hold "load" ps (vR T e)):Mn P w K mg base k T.hold "load" ps (Lo T):=
 D.mn fun vs H Q E h=>by
   obtain ⟨n,ρ,A,st,x,o,wo,we,rfl,hh,hx,hn,ho,h4,h5,h6,h7,q⟩:=h.ex
   exact ⟨n,ρ,A,st,x,o,wo,we,rfl,hh,zJ hx,h6,h7, .of (DA hx hn ho h4 h5) q⟩
end L2
namespace L2
open PySem PySem.Spec PyProof.Rows PySem.NumText
end L2
namespace L2
open PySem PySem.Spec PyProof.Rows PySem.NumText
end L2
namespace L2
open PySem PySem.Spec PyProof.Rows PySem.NumText
end L2
namespace L2
open PySem PySem.Spec PyProof.Rows PySem.NumText
end L2
namespace L2
open PySem PySem.Spec PyProof.Rows PySem.NumText
structure DB (vs:List V) (H:Hp) (Q:VK) (E:XK):Prop where
 ex:∃n:Nat,vs = [.int (n:Int)]∧∀p H',aC H H'→H' p = some (.lst (vP n))→Q (.ref p) H'
theorem J1 {H:Hp} {Q:VK} {E:XK} {n:Nat} {i:Int} (e:i = (n:Int)) (q:∀p H',aC H H'→H' p = some (.lst (vP n))→Q (.ref p) H'):DB [.int i] H Q E:=⟨n,by rw [e],q⟩
end L2
namespace L2
open PySem PySem.Spec PyProof.Rows PySem.NumText
theorem z8 {K:PySem.W.Frag} {H:Hp}:∀bs:List Bool,m7 K H (bs.map V.bl) (bs.map PyData.bool)
 | []=> .nil
 | b :: bs=> .cons (.bl b) (z8 bs)
end L2
namespace L2
open PySem PySem.Spec PyProof.Rows
inductive Dd where
 | sign (o:Str) | load (x o:Str) (wo we:Int) | cast (rs:List Row) | award (o:Str) (a:Int) | mishap (x:Str) (a:Int) | rise (x:Str) (a:Int) | hand (x o:Str) | land (x:Str) | sever (x y:Str) (a we:Int) | still
def cg:List Row→List V
 | []=>[]
 | r :: rs=> .str r.1 :: .int r.2 :: cg rs
def Dd.v:Dd→List V
 | .sign o=>[.str "sign", .str o]
 | .load x o wo we=>[.str "load", .str x, .str o, .int wo, .int we]
 | .cast rs=> .str "cast" :: cg rs
 | .award o a=>[.str "award", .str o, .int a]
 | .mishap x a=>[.str "mishap", .str x, .int a]
 | .rise x a=>[.str "rise", .str x, .int a]
 | .hand x o=>[.str "hand", .str x, .str o]
 | .land x=>[.str "land", .str x]
 | .sever x y a we=>[.str "sever", .str x, .str y, .int a, .int we]
 | .still=>[.str "still"]
def uQ (st:HS):List Str:=st.aq.map fun p=>p.nm
def LD (st:HS) (r:Row):Option Nat:=if r.1∈uQ st then (if r.2 < 1 then some 5 else if (fV st r.1).wo < r.2 then some 6 else none) else some 3
def Ny (st:HS) (rs:List Row):Option Nat:=if rs ≠ []∧(rs.map fun r:Row=>r.1).Nodup then (match rs.findSome? (LD st) with
 | some i=>some i
 | none=>if fB st≤Dr rs then some 6 else none) else some 7
def LF (st:HS) (o:Str) (a:Int):Option Nat:=if o∈st.own then (if a < 1 then some 5 else if fB st≤a then some 6 else none) else some 2
def Nz (st:HS) (x:Str) (a:Int):Option Nat:=if x∈uQ st then (if a < 1 then some 5 else none) else some 3
def NB (st:HS) (x o:Str):Option Nat:=if x∈uQ st then (if o∈st.own then none else some 2) else some 3
def NC (st:HS) (x:Str):Option Nat:=if x∈uQ st then none else some 3
def LG (st:HS) (x y:Str) (a we:Int):Option Nat:=if x∈uQ st then (match newR st y with
 | some i=>some i
 | none=>if a < 1∨we < 0 then some 5 else if (fV st x).wo≤a∨(fV st x).we < we then some 6 else none) else some 3
def jL (st:HS):Dd→Option Nat
 | .sign o=>q_ st o
 | .load x o wo we=>fP st x o wo we
 | .cast rs=>Ny st rs
 | .award o a=>LF st o a
 | .mishap x a=>LD st (x,a)
 | .rise x a=>Nz st x a
 | .hand x o=>NB st x o
 | .land x=>NC st x
 | .sever x y a we=>LG st x y a we
 | .still=>none
def LH (st:HS) (o:Str) (a:Int):HS:=Fb st (fB st - a) (fB st) ((List.replicate st.own.length 0).set (st.own.idxOf o) (a * st.prod))
def LI (st:HS) (x:Str) (f:Pt→Pt):HS:={ st with aq:=st.aq.map fun p=>if p.nm = x then f p else p }
def ND (st:HS) (x:Str) (a:Int):HS:=LI st x fun p=>{ p with wo:=p.wo + a }
def NF (st:HS) (p:Pt) (o:Str):List Int:=((dJ st p).set (st.own.idxOf o) ((dJ st p).getD (st.own.idxOf o) 0 + (dJ st p).getD (st.own.idxOf p.ow) 0)).set (st.own.idxOf p.ow) 0
def NG (st:HS) (x o:Str):HS:=if st.own.idxOf o = st.own.idxOf (fV st x).ow then st else LI st x fun p=>{ p with ow:=o,sc:=1,row:=pO st (NF st p o) }
def Iw (st:HS) (p:Pt):List Int:=List.zipWith (fun u t=>u + p.wo * t) st.dw (dJ st p)
def NH (st:HS) (x:Str):HS:=
 { st with aq:=st.aq.filter (fun p=>decide (p.nm ≠ x))
           jA:=st.jA ++ [⟨x,(fV st x).ow,(fV st x).wo,pP st (fV st x)⟩]
           kn:=st.kn + 100
           dw:=(Iw st (fV st x)).set (st.own.idxOf (fV st x).ow) ((Iw st (fV st x)).getD (st.own.idxOf (fV st x).ow) 0 - (fV st x).wo * st.prod) }
def LJ (st:HS) (x y:Str) (a we:Int):HS:=qT (LI st x fun p=>{ p with wo:=p.wo - a,we:=p.we - we }) ⟨y,(fV st x).ow,a,we,(fV st x).sc,(fV st x).row⟩
def DC (st:HS):Dd→HS
 | .sign o=>cY st o
 | .load x o wo we=>ji st x o wo we
 | .cast rs=>Nm st rs
 | .award o a=>LH st o a
 | .mishap x a=>Io st (x,a)
 | .rise x a=>ND st x a
 | .hand x o=>NG st x o
 | .land x=>NH st x
 | .sever x y a we=>LJ st x y a we
 | .still=>st
structure z9 (T:TC) (e:Ec) (al:HS→Dd→Prop) (K:PySem.W.Frag) (vs:List V) (H:Hp) (Q:VK) (E:XK):Prop where
 ex:∃n ρ A st z d,vs = [.ref A.a, .ref z]∧bF K H z (Dd.v d)∧HH T n ρ A H st∧al st d∧Fq T e n ρ A H (jL st d) (DC st d) Q E
structure vS (T:TC) (al:HS→Dd→Prop) (K:PySem.W.Frag) (vs:List V) (H:Hp) (Q:VK) (E:XK):Prop where
 ex:∃n ρ A st z d,vs = [.ref A.a, .ref z]∧bF K H z (Dd.v d)∧HH T n ρ A H st∧al st d∧(∀i,jL st d = some i→∀l H',aC H H'→H' l = some (.lst (vP i))→Q (.ref l) H')∧
  (jL st d = none→∀l ρ' A' H',HH T n ρ' A' H' (DC st d)→A'.a = A.a→Fr n ρ H ρ' H'→H' l = some (.lst [])→ρ' l = none→H l = none→Q (.ref l) H')
end L2
namespace L2
open PySem PySem.Spec PyProof.Rows
def wl (s:Str):Nat:=s.cps.toList.length
theorem DE (cs:List Nat):wl (tx cs) = cs.length:=by unfold wl;show cs.toArray.toList.length = _;simp
section
variable {X:Cx}
def NI:R2:=fun x y H Q=>∃i j:Str,x = .str i∧y = .str j∧wl i + wl j≤10000∧∀r:Str,wl r = wl i + wl j→Q (.str r) H
theorem iZ:dm X (binaryOp .Add) NI:=by
 intro pins s σ H x y v u Q I rx ry h
 obtain ⟨i,j,rfl,rfl,hz,q⟩:=h
 rw [← m8 i] at rx
 rw [← m8 j] at ry
 exact JW pins s σ H _ _ v u Q I rx ry ⟨_,_,rfl,rfl,Nat.le_trans hz (by decide),q _ (by rw [DE,List.length_append];rfl)⟩
def Qi:V→Option Int→Option Int→Hp→VK→Prop:=fun x lo hi H Q=>∃i:Str,x = .str i∧wl i≤10000∧∀r:Str,wl r≤wl i→(∀n:Nat,lo = none→hi = some (n:Int)→wl r≤n)→Q (.str r) H
theorem ng:Ep X Qi:=by
 intro pins s σ H x v vl vu lo hi sl Q I rx hs pl pu h
 obtain ⟨i,rfl,hz,q⟩:=h
 rw [← m8 i] at rx
 refine La pins s σ H _ v vl vu lo hi sl Q I rx hs pl pu ⟨_,rfl,by rw [sizeLine_eq];exact Nat.le_trans hz (by decide),q _ ?_ ?_⟩
 · rw [DE];exact rM _ _ _
 · rintro n rfl rfl
   rw [DE,JE,List.length_take]
   omega
end
theorem z_ {α:Type} {xs:List α} {i:Int} (h1:-(xs.length:Int)≤i) (h2:i < (xs.length:Int)):∃v∈xs,gj xs i = some v:=by
 unfold gj rJ
 by_cases h0:0≤i
 · rw [if_pos h0,if_pos h2]
   have hj:i.toNat < xs.length:=by omega
   exact ⟨xs[i.toNat],List.getElem_mem hj,List.getElem?_eq_getElem hj⟩
 · rw [if_neg h0,if_pos h1]
   have hj:(i + xs.length).toNat < xs.length:=by omega
   exact ⟨xs[(i + xs.length).toNat],List.getElem_mem hj,List.getElem?_eq_getElem hj⟩
theorem LK:∀i:Fin 10,SeqAt.shaped (.list ((z6 i.val).map PyData.bool)) = true∧PyData.eqv (.list ((z6 i.val).map PyData.bool)) (.list ((z6 i.val).map PyData.bool)) = true:=by decide +kernel
def told (r:Option Nat):List Bool:=match r with
 | some i=>z6 i
 | none=>[]
def yr (r:Option Nat):List V:=(told r).map V.bl
theorem Cz {K:PySem.W.Frag} {H:Hp} (r:Option Nat):m7 K H (yr r) ((told r).map PyData.bool):=z8 _
theorem vU {r:Option Nat} (h:∀i,r = some i→i < 10):SeqAt.shaped (.list ((told r).map PyData.bool)) = true∧PyData.eqv (.list ((told r).map PyData.bool)) (.list ((told r).map PyData.bool)) = true:=by
 cases r with
 | none=>exact ⟨rfl,rfl⟩
 | some i=>exact LK ⟨i,h i rfl⟩
end L2
namespace L2
open PySem PySem.Spec PyProof.Rows
def kO (st:HS) (d:Dd):HS:=match jL st d with
 | some _=>st
 | none=>DC st d
theorem Ft {T:TC} {al:HS→Dd→Prop} {K:PySem.W.Frag} {H:Hp} {Q:VK} {E:XK} {n:Nat} {ρ:aQ} {A:HA} {st:HS} {x z:Addr} {d:Dd} (ea:A.a = x) (hz:bF K H z (Dd.v d)) (hh:HH T n ρ A H st) (ha:al st d)
  (q:∀l ρ' A' H',HH T n ρ' A' H' (kO st d)→A'.a = x→Fr n ρ H ρ' H'→(∀i,jL st d = some i→aC H H')→H' l = some (.lst (yr (jL st d)))→Q (.ref l) H'):vS T al K [.ref x, .ref z] H Q E:=by
 subst ea
 refine ⟨n,ρ,A,st,z,d,rfl,hz,hh,ha,fun i hi l H' g hl=>q l ρ A H' ?_ rfl (Fr.of_same g) (fun _ _=>g) ?_,fun hi l ρ' A' H' uR ea' F hl _ _=>q l ρ' A' H' ?_ ea' F (fun i z=>by rw [hi] at z;cases z) ?_⟩
 · unfold kO;rw [hi];exact hh.mono g
 · rw [hi];exact hl
 · unfold kO;rw [hi];exact uR
 · rw [hi];exact hl
end L2
namespace L2
open PySem PySem.Spec PyProof.Rows
theorem J2 {K:PySem.W.Frag} {H:Hp} {l l':Addr} {r:Option Nat} {Q:VK} (h1:H l = some (.lst (yr r))) (h2:H l' = some (.lst (yr r))) (h:∀i,r = some i→i < 10) (q:Q (.bl false) H):C6 K (.ref l) (.ref l') H Q:=
 ⟨_,_, .lst (aE.of h1) (Cz r), .lst (aE.of h2) (Cz r),(vU h).1,(vU h).1,by rw [(vU h).2];exact q⟩
end L2
namespace L2
open PySem PySem.Spec PyProof.Rows
section
variable {P:Program} {w:World} {K:PySem.W.Frag} {mg:Str→Option Value} {base:Heap} {k:Nat} {T:TC} {e:Ec} {ps:List Str}
theorem Hx (D:Mx P w K mg base k T.hold "place_of" ps (tK T e)):Mn P w K mg base k T.hold "place_of" ps (JM T):=
 D.mn fun vs H Q E h=>by
   obtain ⟨n,ρ,A,st,o,rfl,h,ho,q⟩:=h.ex
   exact ⟨n,ρ,A,st,o,rfl,h,fun z=>absurd ho z,fun _=>q⟩
theorem Fv (D:Mx P w K mg base k T.hold "part_of" ps (xA T e)):Mn P w K mg base k T.hold "part_of" ps (zz T):=
 D.mn fun vs H Q E h=>by
   obtain ⟨n,ρ,A,st,i,p,qq,rfl,h,nd,ep,eq,q⟩:=h.ex
   refine ⟨n,ρ,A,st,p.nm,rfl,h,nd,fun z=>absurd rfl (z p (List.mem_of_getElem? ep)),fun j p' q' e1 e2 e3=>?_⟩
   have:j = i:=E2 nd e2 ep e1
   subst this
   rw [eq] at e3;cases e3
   exact q
end
end L2
namespace L2
open PySem PySem.Spec PyProof.Rows
def nB (i:Int):Prop:=-1000000000≤i∧i≤1000000000
def pV:Dd→Prop
 | .sign o=>wl o≤20
 | .load x o wo we=>wl x≤20∧wl o≤20∧nB wo∧nB we
 | .cast rs=>rs.length≤60∧∀r∈rs,wl r.1≤20∧nB r.2
 | .award o a=>wl o≤20∧nB a
 | .mishap x a=>wl x≤20∧nB a
 | .rise x a=>wl x≤20∧nB a
 | .hand x o=>wl x≤20∧wl o≤20
 | .land x=>wl x≤20
 | .sever x y a we=>wl x≤20∧wl y≤20∧nB a∧nB we
 | .still=>True
def Dd.k:Dd→Nat
 | .sign _=>0 | .load .. =>1 | .cast _=>2 | .award .. =>3 | .mishap .. =>4 | .rise .. =>5 | .hand .. =>6 | .land _=>7 | .sever .. =>8 | .still=>9
def DF (n:Nat):Str:=(["sign","load","cast","award","mishap","rise","hand","land","sever","still"] :List Str).getD n "still"
def Dd.w (d:Dd):Str:=DF d.k
theorem Dd.v0 (d:Dd):d.v[0]? = some (.str d.w):=by cases d <;> rfl
theorem Dd.k_lt (d:Dd):d.k < 10:=by cases d <;> simp [Dd.k]
theorem NJ:∀m n:Fin 10,m ≠ n→DF m.val ≠ DF n.val:=by decide +kernel
theorem Dd.LL {d:Dd} {n:Nat} (h:d.k ≠ n) (hn:n < 10):d.w ≠ DF n:=NJ ⟨d.k,d.k_lt⟩ ⟨n,hn⟩ fun e=>h (congrArg Fin.val e)
theorem Dd.Fw {d:Dd} (h:d.k ≠ 2):d.w ≠ "cast":=d.LL h (by decide)
theorem Dd.J3 {d:Dd} (h:d.k ≠ 9):d.w ≠ "still":=d.LL h (by decide)
def alike (v w:V):Prop:=(∃s s',v = .str s∧w = .str s'∧wl s'≤20)∨∃i i',v = .int i∧w = .int i'∧nB i'
theorem c9 {s:Str} {w:V} (h:alike (.str s) w):∃s',w = .str s'∧wl s'≤20:=by
 rcases h with ⟨_,s',e,h1,h2⟩ | ⟨i,i',e,_⟩
 · exact ⟨s',h1,h2⟩
 · cases e
theorem e7 {i:Int} {w:V} (h:alike (.int i) w):∃i',w = .int i'∧nB i':=by
 rcases h with ⟨_,s',e,h1,h2⟩ | ⟨_,i',e,h1,h2⟩
 · cases e
 · exact ⟨i',h1,h2⟩
theorem Aa:∀(rs:List Row) (at':Nat) (v w:V),(∀r∈rs,wl r.1≤20∧nB r.2)→(cg rs)[at']? = some v→alike v w→∃rs':List Row,cg rs' = (cg rs).set at' w∧rs'.length = rs.length∧∀r∈rs',wl r.1≤20∧nB r.2
 | [],_,_,_,_,h,_=>by simp [cg] at h
 | r :: rs,0,v,w,hb,h,ha=>by
   have e:V.str r.1 = v:=by simpa [cg] using h
   subst e
   obtain ⟨s',rfl,h1⟩:=c9 ha
   exact ⟨(s',r.2) :: rs,rfl,rfl,fun x hx=>by
    rcases List.mem_cons.mp hx with rfl | hx
    · exact ⟨h1,(hb r List.mem_cons_self).2⟩
    · exact hb x (List.mem_cons_of_mem _ hx)⟩
 | r :: rs,1,v,w,hb,h,ha=>by
   have e:V.int r.2 = v:=by simpa [cg] using h
   subst e
   obtain ⟨i',rfl,h1⟩:=e7 ha
   exact ⟨(r.1,i') :: rs,rfl,rfl,fun x hx=>by
    rcases List.mem_cons.mp hx with rfl | hx
    · exact ⟨(hb r List.mem_cons_self).1,h1⟩
    · exact hb x (List.mem_cons_of_mem _ hx)⟩
 | r :: rs,n + 2,v,w,hb,h,ha=>by
   obtain ⟨rs',h1,h2,h3⟩:=Aa rs n v w (fun x hx=>hb x (List.mem_cons_of_mem _ hx)) (by simpa [cg] using h) ha
   refine ⟨r :: rs',?_,by rw [List.length_cons,List.length_cons,h2],fun x hx=>?_⟩
   · show V.str r.1 :: V.int r.2 :: cg rs' = V.str r.1 :: V.int r.2 :: (cg rs).set n w
     rw [h1]
   · rcases List.mem_cons.mp hx with rfl | hx
     · exact hb _ List.mem_cons_self
     · exact h3 x hx
theorem LM {d:Dd} (hb:pV d) {at':Nat} {v w:V} (h1:1≤at') (hv:d.v[at']? = some v) (ha:alike v w):∃d':Dd,d'.v = d.v.set at' w∧d'.k = d.k∧pV d':=by
 obtain ⟨n,rfl⟩:∃n,at' = n + 1:=⟨at' - 1,by omega⟩
 clear h1
 cases d with
 | sign o=>
   match n,hv with
   | 0,hv=>cases (show some (V.str o) = some v from hv);obtain ⟨s',rfl,h⟩:=c9 ha;exact ⟨.sign s',rfl,rfl,h⟩
 | load x o wo we=>
   obtain ⟨b1,b2,b3,b4⟩:=hb
   match n,hv with
   | 0,hv=>cases (show some (V.str x) = some v from hv);obtain ⟨s',rfl,h⟩:=c9 ha;exact ⟨.load s' o wo we,rfl,rfl,h,b2,b3,b4⟩
   | 1,hv=>cases (show some (V.str o) = some v from hv);obtain ⟨s',rfl,h⟩:=c9 ha;exact ⟨.load x s' wo we,rfl,rfl,b1,h,b3,b4⟩
   | 2,hv=>cases (show some (V.int wo) = some v from hv);obtain ⟨i',rfl,h⟩:=e7 ha;exact ⟨.load x o i' we,rfl,rfl,b1,b2,h,b4⟩
   | 3,hv=>cases (show some (V.int we) = some v from hv);obtain ⟨i',rfl,h⟩:=e7 ha;exact ⟨.load x o wo i',rfl,rfl,b1,b2,b3,h⟩
 | cast rs=>
   obtain ⟨rs',e,l,b⟩:=Aa rs n v w hb.2 (by simpa [Dd.v] using hv) ha
   exact ⟨.cast rs',by show V.str "cast" :: cg rs' = V.str "cast" :: (cg rs).set n w;rw [e],rfl,by rw [l];exact hb.1,b⟩
 | award o a=>
   obtain ⟨b1,b2⟩:=hb
   match n,hv with
   | 0,hv=>cases (show some (V.str o) = some v from hv);obtain ⟨s',rfl,h⟩:=c9 ha;exact ⟨.award s' a,rfl,rfl,h,b2⟩
   | 1,hv=>cases (show some (V.int a) = some v from hv);obtain ⟨i',rfl,h⟩:=e7 ha;exact ⟨.award o i',rfl,rfl,b1,h⟩
 | mishap x a=>
   obtain ⟨b1,b2⟩:=hb
   match n,hv with
   | 0,hv=>cases (show some (V.str x) = some v from hv);obtain ⟨s',rfl,h⟩:=c9 ha;exact ⟨.mishap s' a,rfl,rfl,h,b2⟩
   | 1,hv=>cases (show some (V.int a) = some v from hv);obtain ⟨i',rfl,h⟩:=e7 ha;exact ⟨.mishap x i',rfl,rfl,b1,h⟩
 | rise x a=>
   obtain ⟨b1,b2⟩:=hb
   match n,hv with
   | 0,hv=>cases (show some (V.str x) = some v from hv);obtain ⟨s',rfl,h⟩:=c9 ha;exact ⟨.rise s' a,rfl,rfl,h,b2⟩
   | 1,hv=>cases (show some (V.int a) = some v from hv);obtain ⟨i',rfl,h⟩:=e7 ha;exact ⟨.rise x i',rfl,rfl,b1,h⟩
 | hand x o=>
   obtain ⟨b1,b2⟩:=hb
   match n,hv with
   | 0,hv=>cases (show some (V.str x) = some v from hv);obtain ⟨s',rfl,h⟩:=c9 ha;exact ⟨.hand s' o,rfl,rfl,h,b2⟩
   | 1,hv=>cases (show some (V.str o) = some v from hv);obtain ⟨s',rfl,h⟩:=c9 ha;exact ⟨.hand x s',rfl,rfl,b1,h⟩
 | land x=>
   match n,hv with
   | 0,hv=>cases (show some (V.str x) = some v from hv);obtain ⟨s',rfl,h⟩:=c9 ha;exact ⟨.land s',rfl,rfl,h⟩
 | sever x y a we=>
   obtain ⟨b1,b2,b3,b4⟩:=hb
   match n,hv with
   | 0,hv=>cases (show some (V.str x) = some v from hv);obtain ⟨s',rfl,h⟩:=c9 ha;exact ⟨.sever s' y a we,rfl,rfl,h,b2,b3,b4⟩
   | 1,hv=>cases (show some (V.str y) = some v from hv);obtain ⟨s',rfl,h⟩:=c9 ha;exact ⟨.sever x s' a we,rfl,rfl,b1,h,b3,b4⟩
   | 2,hv=>cases (show some (V.int a) = some v from hv);obtain ⟨i',rfl,h⟩:=e7 ha;exact ⟨.sever x y i' we,rfl,rfl,b1,b2,h,b4⟩
   | 3,hv=>cases (show some (V.int we) = some v from hv);obtain ⟨i',rfl,h⟩:=e7 ha;exact ⟨.sever x y a i',rfl,rfl,b1,b2,b3,h⟩
 | still=>exact absurd hv (by simp [Dd.v])
theorem NK {d:Dd} (hb:pV d) {at':Nat} {v:V} (h1:1≤at') (hv:d.v[at']? = some v):(∃s,v = .str s∧wl s≤20)∨∃i,v = .int i∧nB i:=by
 obtain ⟨n,rfl⟩:∃n,at' = n + 1:=⟨at' - 1,by omega⟩
 clear h1
 have fl:∀(rs:List Row) (n:Nat),(∀r∈rs,wl r.1≤20∧nB r.2)→(cg rs)[n]? = some v→(∃s,v = .str s∧wl s≤20)∨∃i,v = .int i∧nB i:=fun rs=>by
  induction rs with
  | nil=>intro n _ h;simp [cg] at h
  | cons r rs ih=>
    intro n hb h
    match n,h with
    | 0,h=>cases (show some (V.str r.1) = some v from h);exact .inl ⟨_,rfl,(hb r List.mem_cons_self).1⟩
    | 1,h=>cases (show some (V.int r.2) = some v from h);exact .inr ⟨_,rfl,(hb r List.mem_cons_self).2⟩
    | n + 2,h=>exact ih n (fun x hx=>hb x (List.mem_cons_of_mem _ hx)) h
 cases d with
 | cast rs=>exact fl rs n hb.2 hv
 | sign o=>match n,hv with | 0,hv=>cases hv;exact .inl ⟨_,rfl,hb⟩
 | land x=>match n,hv with | 0,hv=>cases hv;exact .inl ⟨_,rfl,hb⟩
 | still=>exact absurd hv (by simp [Dd.v])
 | load x o wo we=>match n,hv with | 0,hv=>cases hv;exact .inl ⟨_,rfl,hb.1⟩ | 1,hv=>cases hv;exact .inl ⟨_,rfl,hb.2.1⟩ | 2,hv=>cases hv;exact .inr ⟨_,rfl,hb.2.2.1⟩ | 3,hv=>cases hv;exact .inr ⟨_,rfl,hb.2.2.2⟩
 | sever x o wo we=>match n,hv with | 0,hv=>cases hv;exact .inl ⟨_,rfl,hb.1⟩ | 1,hv=>cases hv;exact .inl ⟨_,rfl,hb.2.1⟩ | 2,hv=>cases hv;exact .inr ⟨_,rfl,hb.2.2.1⟩ | 3,hv=>cases hv;exact .inr ⟨_,rfl,hb.2.2.2⟩
 | award x a=>match n,hv with | 0,hv=>cases hv;exact .inl ⟨_,rfl,hb.1⟩ | 1,hv=>cases hv;exact .inr ⟨_,rfl,hb.2⟩
 | mishap x a=>match n,hv with | 0,hv=>cases hv;exact .inl ⟨_,rfl,hb.1⟩ | 1,hv=>cases hv;exact .inr ⟨_,rfl,hb.2⟩
 | rise x a=>match n,hv with | 0,hv=>cases hv;exact .inl ⟨_,rfl,hb.1⟩ | 1,hv=>cases hv;exact .inr ⟨_,rfl,hb.2⟩
 | hand x o=>match n,hv with | 0,hv=>cases hv;exact .inl ⟨_,rfl,hb.1⟩ | 1,hv=>cases hv;exact .inl ⟨_,rfl,hb.2⟩
structure Bk (b:BS):Prop where
 own:∀x∈b.own,wl x≤20
 cL:∀x∈b.cL,wl x≤20
 aq:∀p∈b.aq,wl p.nm≤20
 wo:∀p∈b.aq,0≤p.wo∧0≤p.we
 ol:b.own.length≤100
 kl:b.cL.length≤1000
 pl:b.aq.length≤1000
structure rX (K:PySem.W.Frag) (vs:List V) (H:Hp) (Q:VK) (E:XK):Prop where
 ex:∃(a:Addr) (ms:List Int) (k:Int) (n:Nat) (ρ:aQ) (B:BA) (b:BS) (x:Str),vs = [.ref a, .int k, .ref B.m, .str x]∧aE K H a (ms.map V.int)∧ms.length≤63∧0≤k∧bf n ρ B H b∧Bk b∧wl x≤20∧∀r H',aC H H'→wl r≤20→Q (.str r) H'
structure oJ (K:PySem.W.Frag) (vs:List V) (H:Hp) (Q:VK) (E:XK):Prop where
 ex:∃(a:Addr) (ms:List Int) (k:Int) (n:Nat) (ρ:aQ) (B:BA) (b:BS) (i:Int),vs = [.ref a, .int k, .ref B.m, .int i]∧aE K H a (ms.map V.int)∧ms.length≤63∧0≤k∧bf n ρ B H b∧Bk b∧nB i∧∀r H',aC H H'→nB r→Q (.int r) H'
structure Ab (K:PySem.W.Frag) (vs:List V) (H:Hp) (Q:VK) (E:XK):Prop where
 ex:∃(a:Addr) (ms:List Int) (k:Int) (n:Nat) (ρ:aQ) (B:BA) (b:BS) (z:Addr) (d:Dd),vs = [.ref a, .int k, .ref B.m, .ref z]∧aE K H a (ms.map V.int)∧ms.length≤63∧0≤k∧bf n ρ B H b∧Bk b∧bF K H z d.v∧pV d∧2≤d.v.length∧d.v.length≤115∧d.k ≠ 9∧
  ∀z' d' H',aC H H'→H' z' = some (.tup (Dd.v d'))→pV d'→d'.k = d.k→(d'.v.length≤d.v.length + 2)→Q (.ref z') H'
def DG:Option Nat→Int
 | none=>-1
 | some i=>i
def yt (b:BS) (x:Str):Option Nat:=if isNm x = true then (if x∈b.cL then some 1 else none) else some 0
theorem Hy {st:HS} {b:BS} {x:Str} (h:st.nms = b.cL):yt b x = newR st x:=by unfold yt newR;rw [h]
structure Ac (vs:List V) (H:Hp) (Q:VK) (E:XK):Prop where
 ex:∃(n:Nat) (ρ:aQ) (B:BA) (b:BS) (x:Str),vs = [.ref B.m, .str x]∧bf n ρ B H b∧wl x≤1000∧Q (.int (DG (yt b x))) H
structure yu (al:HS→Dd→Prop) (K:PySem.W.Frag) (vs:List V) (H:Hp) (Q:VK) (E:XK):Prop where
 ex:∃(n:Nat) (ρ:aQ) (B:BA) (b:BS) (st:HS) (z:Addr) (d:Dd),vs = [.ref B.m, .ref z]∧bF K H z d.v∧bf n ρ B H b∧gq st b∧Wf st∧Cr b∧st.nms = b.cL∧al st d∧pV d∧∀H',aC H H'→Q (.int (DG (jL st d))) H'
def nU (st:HS):Dd→Prop
 | .load x o wo we=>wl x≤100000∧st.nms.length < 1000∧st.aq.length < 1000
 | _=>False
theorem DH {st:HS} {o:Str} {i:Nat} (h:newR st o = some i):i = 0∨i = 1:=by
 unfold newR at h
 split at h
 · split at h <;> cases h;exact .inr rfl
 · cases h;exact .inl rfl
theorem rY {st:HS} {x o:Str} {wo we:Int} {i:Nat} (h:fP st x o wo we = some i):i = 0∨i = 1∨i = 2∨i = 5:=by
 unfold fP at h
 cases hn:newR st x with
 | some j=>
   rw [hn] at h
   cases h
   rcases DH hn with rfl | rfl
   · exact .inl rfl
   · exact .inr (.inl rfl)
 | none=>
   rw [hn] at h
   have h':(if o∈st.own then (if wo < 1∨we < 0 then some 5 else none) else some 2) = some i:=h
   split at h'
   · split at h' <;> cases h';exact .inr (.inr (.inr rfl))
   · cases h';exact .inr (.inr (.inl rfl))
theorem Fx {K:PySem.W.Frag} {e:Ec} {st:HS} {d:Dd} {i:Nat} (t0:Told K e e.bad 0) (t1:Told K e e.twice 1) (t2:Told K e e.lU 2) (t5:Told K e e.jD 5) (ha:nU st d) (hr:jL st d = some i):Told K e (e.at i) i:=by
 cases d with
 | load x o wo we=>rcases rY hr with rfl | rfl | rfl | rfl <;> assumption
 | _=>exact ha.elim
end L2
namespace L2
open PySem PySem.Spec PyProof.Rows
def eW (m:Nat) (vs:List V):Prop:=∀v∈vs,∃s:Str,v = .str s∧wl s≤m
theorem eW.nil {m:Nat}:eW m [] :=fun _ h=>nomatch h
theorem eW.cons {m:Nat} {s:Str} {vs:List V} (h:wl s≤m) (hs:eW m vs):eW m (.str s :: vs):=fun v hv=>by
 rcases List.mem_cons.mp hv with rfl | hv
 · exact ⟨s,rfl,h⟩
 · exact hs v hv
theorem eW.append {m:Nat} {vs us:List V} (h:eW m vs) (hu:eW m us):eW m (vs ++ us):=fun v hv=>(List.mem_append.mp hv).elim (h v) (hu v)
theorem eW.map {m:Nat} {xs:List Str} (h:∀x∈xs,wl x≤m):eW m (xs.map V.str):=fun v hv=>by
 obtain ⟨x,hx,rfl⟩:=List.mem_map.mp hv
 exact ⟨x,rfl,h x hx⟩
def kP (vs:List V):Prop:=∀v∈vs,∃i:Int,v = .int i∧-1000000000≤i
theorem kP.nil:kP [] :=fun _ h=>nomatch h
theorem kP.cons {i:Int} {vs:List V} (h:-1000000000≤i) (hs:kP vs):kP (.int i :: vs):=fun v hv=>by
 rcases List.mem_cons.mp hv with rfl | hv
 · exact ⟨i,rfl,h⟩
 · exact hs v hv
theorem kP.append {vs us:List V} (h:kP vs) (hu:kP us):kP (vs ++ us):=fun v hv=>(List.mem_append.mp hv).elim (h v) (hu v)
end L2
namespace L2
theorem Fy:∀{l:List Int},(∀x∈l,0≤x)→0≤l.sum
 | [],_=>Int.le_refl _
 | a :: l,h=>by
   rw [List.sum_cons]
   have:=h a List.mem_cons_self
   have:=Fy (l:=l) fun x hx=>h x (List.mem_cons_of_mem _ hx)
   omega
end L2
namespace L2
open PySem PySem.Spec PyProof.Rows
theorem kQ:∀(l m:List Row),cg (l ++ m) = cg l ++ cg m
 | [],_=>rfl
 | r :: l,m=>by
   show V.str r.1 :: V.int r.2 :: cg (l ++ m) = V.str r.1 :: V.int r.2 :: (cg l ++ cg m)
   rw [kQ l m]
theorem xC:∀l:List Row,(cg l).length = 2 * l.length
 | []=>rfl
 | r :: l=>by
   show (cg l).length + 1 + 1 = _
   rw [xC l,List.length_cons];omega
end L2
namespace L2
open PySem PySem.Spec PyProof.Rows
theorem nh {x:Str} (h:isNm x = true):wl x≤20:=by
 unfold isNm isName at h
 have:=of_decide_eq_true (Bool.and_eq_true_iff.mp (Bool.and_eq_true_iff.mp h).1).2
 unfold wl
 omega
theorem kK.sub {c:Nat} {st:HS} {b:BS} (g:kK c st b) (wf:Wf st) {p:BP} (hp:p∈b.aq):p.nm∈b.cL∧p.ow∈b.own∧1≤p.wo∧0≤p.we:=by
 obtain ⟨j,hj,ej⟩:=List.getElem_of_mem hp
 obtain ⟨p',LN,e1,e2,e3,e4⟩:=g.rel.at (i:=j) (q:=p) (by rw [List.getElem?_eq_getElem hj,ej])
 have hm:=List.mem_of_getElem? LN
 have h1:=wf.sub p' hm
 have h2:=wf.ow p' hm
 have h3:=wf.Ij p' hm
 rw [e1,g.cL] at h1
 rw [e2,g.rel.own] at h2
 rw [e3,e4] at h3
 exact ⟨h1,h2,h3.1,h3.2⟩
theorem kK.bk {c:Nat} {st:HS} {b:BS} (g:kK c st b) (wf:Wf st):Bk b:=
 ⟨fun x hx=>nh (g.on x hx),fun x hx=>nh (g.nk x hx),fun p hp=>nh (g.nk _ (g.sub wf hp).1),fun p hp=>⟨by have:=(g.sub wf hp).2.2.1;omega,(g.sub wf hp).2.2.2⟩,g.m_.ol,g.m_.kl,g.m_.pl⟩
theorem Fz {st:HS} {x o:Str} {wo we:Int} (h:fP st x o wo we = none):isNm x = true∧x ∉ st.nms∧o∈st.own∧1≤wo∧0≤we:=by
 unfold fP at h
 cases hn:newR st x with
 | some j=>rw [hn] at h;cases h
 | none=>
   rw [hn] at h
   have h':(if o∈st.own then (if wo < 1∨we < 0 then some 5 else none) else some 2) = none:=h
   have hx:isNm x = true∧x ∉ st.nms:=by
    unfold newR at hn
    by_cases c:isNm x = true
    · rw [if_pos c] at hn
      by_cases m:x∈st.nms
      · rw [if_pos m] at hn;cases hn
      · exact ⟨c,m⟩
    · rw [if_neg c] at hn;cases hn
   by_cases ho:o∈st.own
   · rw [if_pos ho] at h'
     by_cases hb:wo < 1∨we < 0
     · rw [if_pos hb] at h';cases h'
     · exact ⟨hx.1,hx.2,ho,by omega,by omega⟩
   · rw [if_neg ho] at h';cases h'
theorem Dd.CA {d:Dd} (h:d.k = 1):∃x o wo we,d = .load x o wo we:=by cases d <;> first | exact ⟨_,_,_,_,rfl⟩ | (simp [Dd.k] at h)
theorem Ad {K:PySem.W.Frag} {H:Hp} {Q:VK} {E:XK} {a z mm:Addr} {ms:List Int} {k:Int} {n c:Nat} {ρ:aQ} {B:BA} {b:BS} {st:HS} {d:Dd} (em:B.m = mm) (hS:aE K H a (ms.map V.int)) (h63:ms.length≤63) (hk:0≤k) (hb:bf n ρ B H b) (bk:Bk b) (hz:bF K H z d.v) (hd:pV d) (hl:2≤d.v.length) (hl2:d.v.length≤115) (h9:d.k ≠ 9)
  (q:∀z' d' H',aC H H'→H' z' = some (.tup (Dd.v d'))→pV d'→d'.k = d.k→(d'.v.length≤d.v.length + 2)→Q (.ref z') H'):Ab K [.ref a, .int k, .ref mm, .ref z] H Q E:=
 ⟨a,ms,k,n,ρ,B,b,z,d,by rw [em],hS,h63,hk,hb,bk,hz,hd,hl,hl2,h9,q⟩
end L2
namespace LO
open PySem L2
def top (i:Nat):Stmt:=PySem.Challenge.pw_jettison_k17_loads_refused.main.body.getD i (.Pass ⟨0,0,0,0⟩)
section
variable {P:Program} {w:World} {K:PySem.W.Frag} {mg:Str→Option Value} {base:Heap} {f:Addr} {fd:FuncData}
abbrev gJ:Stmt:=top 2
abbrev uS:List Str:=["one","other"]
abbrev lV:List Str:=["one","other"]
theorem kR:aI uS lV (au gJ):=⟨rfl,rfl,rfl,by decide +kernel,rfl,by decide +kernel,by decide +kernel⟩
theorem tL (F:At K mg "common_factor" gJ f fd):Dn P w K mg base 1 "common_factor" lV K1:=by
 refine F.ok kR (fun vs H Q E h=>?_) (fun cdv A outer s H vs Q E hr h=>?_) (fun _ _ _ _ _ _ us hl=>match us,hl with | [_,_],_=>rfl)
 · obtain ⟨a,b,rfl,_⟩:=h
   rfl
 obtain ⟨a,b,rfl,ha,hb,q⟩:=h
 refine ⟨_,(@aj _ _ _ _ _ (@sR _ _ _ _ _ _ PassesOwn.never (@aM _ _ _ _ _ _ _ _ lN (@pv _ 1 _ _ (by rfl) (by first | exact Or.inl rfl | exact Or.inr (Or.inl rfl) | exact Or.inr (Or.inr rfl)) (by decide) (by decide)) (@af _ _ _ _) (aY _)) (@ao _ _ _ (@Ea _ _ (0) (1) _ _ _ _ _ _ _ _ _ _ _ rfl kR.nd rfl rfl (by decide) rfl rfl (@aa _ _ _ _ _ (@pv _ 1 _ _ (by rfl) (by first | exact Or.inl rfl | exact Or.inr (Or.inl rfl) | exact Or.inr (Or.inr rfl)) (by decide) (by decide)) (@aa _ _ _ _ _ (@az _ _ _ _ _ _ _ _ d_ (@pv _ 0 _ _ (by rfl) (by first | exact Or.inl rfl | exact Or.inr (Or.inl rfl) | exact Or.inr (Or.inr rfl)) (by decide) (by decide)) (@pv _ 1 _ _ (by rfl) (by first | exact Or.inl rfl | exact Or.inr (Or.inl rfl) | exact Or.inr (Or.inr rfl)) (by decide) (by decide))) (@ah _) (by rfl)) (by rfl)) (by rfl) (by rfl)))) (@ao _ _ _ (@aD _ _ _ _ (@pv _ 0 _ _ (by rfl) (by first | exact Or.inl rfl | exact Or.inr (Or.inl rfl) | exact Or.inr (Or.inr rfl)) (by decide) (by decide))))),?_⟩
 refine ⟨fun m σ H'=>∃x y:Int,m = y.toNat∧σ = [some (.int x),some (.int y)]∧H' = H∧0≤x∧0≤y∧Jm.cf x y = Jm.cf a b,⟨_,a,b,rfl,rfl,rfl,ha,hb,rfl⟩,?_⟩
 rintro m σ H' ⟨x,y,rfl,rfl,rfl,hx,hy,e⟩
 refine ⟨_,rfl,_,_,rfl,rfl,_,rfl,?_⟩
 refine cX (fun c=>?_) (fun c=>?_)
 · have c':0 < y:=of_decide_eq_true c
   refine ⟨_,fun _ _ z=>z,?_⟩
   refine ⟨_,rfl,_,rfl,_,rfl,_,_,rfl,rfl,c',_,_,rfl,?_⟩
   have h1:0≤x % y:=Int.emod_nonneg _ (by omega)
   have h2:x % y < y:=Int.emod_lt_of_pos _ c'
   exact ⟨_,(by omega:(x % y).toNat < y.toNat),y,x % y,rfl,rfl,rfl,hy,h1,(Jm.vC x y c').trans e⟩
 · have c':¬ 0 < y:=of_decide_eq_false (Bool.eq_false_iff.mpr c)
   have ey:y = 0:=by omega
   subst ey
   rw [Jm.BX x hx] at e
   refine ⟨_,rfl,?_⟩
   rw [e]
   exact q
abbrev nV:Stmt:=top 21
abbrev FA:List Str:=["text","signs"]
abbrev xD:List Str:=["text","signs"]
theorem DI:aI FA xD (au nV):=⟨rfl,rfl,rfl,by decide +kernel,rfl,by decide +kernel,by decide +kernel⟩
theorem DJ (F:At K mg "made_of" nV f fd) (DK:mg "all" = none):Dn P w K mg base 1 "made_of" xD sX:=by
 refine F.ok DI (fun vs H Q E h=>?_) (fun cdv A outer s H vs Q E hr h=>?_) (fun _ _ _ _ _ _ us hl=>match us,hl with | [_,_],_=>rfl)
 · obtain ⟨cs,signs,rfl,_⟩:=h.ex
   rfl
 obtain ⟨cs,signs,rfl,hl,q⟩:=h.ex
 refine ⟨_,(@ao _ _ _ (@aD _ _ _ _ (@aB _ _ _ _ _ _ _ _ _ (EJ K rfl) (by rfl) DK PyProof.Rows.boot_all (@aa _ _ _ _ _ (@fE _ _ _ _ _ _ ["sign","signs"] [none,some 1] _ _ _ rfl (@EM _ _ _ _ (@pv _ 0 _ _ (by rfl) (by first | exact Or.inl rfl | exact Or.inr (Or.inl rfl) | exact Or.inr (Or.inr rfl)) (by decide) (by decide))) (fun _ _ _ _=>(@aZ _ _ (0) _ (show List.Nodup (["sign","signs"] :List Str) from by decide +kernel) rfl (Or.inl rfl) (by first | exact .inl rfl | exact .inr rfl | assumption))) (fun _ _ _ _=>(@kj _ _ _ _ _ _ _ _ Eh (@pv _ 0 _ _ (by rfl) (by first | exact Or.inl rfl | exact Or.inr (Or.inl rfl) | exact Or.inr (Or.inr rfl)) (by decide) (by decide)) (@pv _ 1 _ _ (by rfl) (by first | exact Or.inl rfl | exact Or.inr (Or.inl rfl) | exact Or.inr (Or.inr rfl)) (by decide) (by decide)) (by with_unfolding_all rfl))) rfl (by rfl) (by intro _;rfl)) (@ah _) (by rfl)) (by decide) (by decide) (by rfl) (by rfl)))),?_⟩
 refine ⟨_,rfl,cs,rfl,fun acc hacc=>?_⟩
 refine GC (fun i out H1=>aC H H1∧out = ((cs.take i).map (jw signs)).map V.bl) hl ⟨av hacc _,rfl⟩ ?_ ?_
 · rintro i c out H1 hx dH ha ⟨g,e⟩
   refine ⟨_,rfl,_,rfl,_,_,rfl,rfl,ha,g.dg hacc _,?_⟩
   rw [e,List.take_add_one,hx,List.map_append,List.map_append]
   rfl
 rintro out H1 dH ha ⟨g,e⟩
 rw [List.take_length] at e
 refine ⟨acc,cs.map (jw signs),rfl,aE.of (by rw [ha,e]),?_⟩
 have e2:(cs.map (jw signs)).all id = cs.all (jw signs):=by rw [List.all_map];rfl
 rw [e2]
 exact q H1 g
abbrev nW:Stmt:=top 20
abbrev FD:List Str:=["text"]
abbrev xE:List Str:=["text"]
theorem DL:aI FD xE (au nW):=⟨rfl,rfl,rfl,by decide +kernel,rfl,by decide +kernel,by decide +kernel⟩
theorem DM {tk:Tok} (F:At K mg "is_name" nW f fd) (pW:Dn P w K mg base 1 "made_of" ["text","signs"] sX) (aV:mg "len" = none) (pX:mg "LETTERS" = some (.str "abcdefghijklmnopqrstuvwxyz" tk)):Dn P w K mg base 2 "is_name" xE nP:=by
 refine F.ok DL (fun vs H Q E h=>?_) (fun cdv A outer s H vs Q E hr h=>?_) (fun _ _ _ _ _ _ us hl=>match us,hl with | [_],_=>rfl)
 · obtain ⟨cs,rfl,_⟩:=h.ex
   rfl
 obtain ⟨cs,rfl,hl,q⟩:=h.ex
 refine ⟨_,(@ao _ _ _ (@aD _ _ _ _ (@tY _ _ _ _ _ _ _ (@Gb _ _ _ _ _ _ _ _ _ _ _ _ yh yh (@af _ _ _ _) (@aB _ _ _ _ _ _ _ _ _ kC (by rfl) aV PySem.boot_len (@aa _ _ _ _ _ (@pv _ 0 _ _ (by rfl) (by first | exact Or.inl rfl | exact Or.inr (Or.inl rfl) | exact Or.inr (Or.inr rfl)) (by decide) (by decide)) (@ah _) (by rfl)) (by decide) (by decide) (by rfl) (by rfl)) (@af _ _ _ _) (by with_unfolding_all rfl)) (@tX _ _ _ _ _ (@aR _ _ _ _ _ _ _ _ _ _ _ pW hr (@aa _ _ _ _ _ (@pv _ 0 _ _ (by rfl) (by first | exact Or.inl rfl | exact Or.inr (Or.inl rfl) | exact Or.inr (Or.inr rfl)) (by decide) (by decide)) (@aa _ _ _ _ _ (@eT _ _ (.str "abcdefghijklmnopqrstuvwxyz") _ _ (by rfl) pX ⟨_,rfl⟩ (by decide)) (@ah _) (by rfl)) (by rfl)) (by decide) (by rfl) (by decide) (by rfl) (by rfl)))))),?_⟩
 have hz:(tx cs).length≤sizeLine:=by rw [dD,sizeLine_eq];omega
 refine ⟨_,rfl,_,rfl,hz,_,_,rfl,rfl,_,rfl,?_⟩
 rw [dD]
 refine cX (fun c=>?_) (fun c=>?_)
 · refine ⟨_,_,rfl,rfl,_,rfl,cX (fun c2=>?_) (fun c2=>?_)⟩
   · refine ⟨_,rfl,C_ hl fun H' g=>?_⟩
     have:=q H' g
     unfold isName at this
     rw [c,c2,Bool.true_and,Bool.true_and] at this
     exact this
   · have:=q H (aC.refl _)
     unfold isName at this
     rw [c,Bool.eq_false_iff.mpr c2,Bool.true_and,Bool.false_and] at this
     exact this
 · have:=q H (aC.refl _)
   unfold isName at this
   rw [Bool.eq_false_iff.mpr c,Bool.false_and,Bool.false_and] at this
   exact ⟨_,rfl,bq this⟩
abbrev i6:Stmt:=inClass (top 4) 0
abbrev xN:List Str:=["self"]
abbrev oK:List Str:=["self"]
theorem vV:aI xN oK (au i6):=⟨rfl,rfl,rfl,by decide +kernel,rfl,by decide +kernel,by decide +kernel⟩
theorem vW {T:TC} (F:B9 K mg "Bottom" T.bot "Bottom.__init__" i6 f fd) (X:Txt K T):Cn P w K mg base 1 "Bottom" T.bot oK (Cc T):=by
 refine F.ok vV (fun vs H Q E h=>?_) (fun cdv A outer s H vs Q E hr h=>?_) (fun _ _ _ _ _ _ us hl=>match us,hl with | [_],_=>rfl)
 · obtain ⟨p,dx,rfl,_⟩:=h.ex
   rfl
 obtain ⟨p,dx,rfl,hp,q⟩:=h.ex
 refine ⟨_,(@aj _ _ _ _ _ (@c6 _ K _ _ _ _ _ _ _ (@pv _ 0 _ _ (by rfl) (by first | exact Or.inl rfl | exact Or.inr (Or.inl rfl) | exact Or.inr (Or.inr rfl)) (by decide) (by decide)) (@cI _ _ _ _ (@ah _)) (by rfl) (by rfl)) (@aj _ _ _ _ _ (@c6 _ K _ _ _ _ _ _ _ (@pv _ 0 _ _ (by rfl) (by first | exact Or.inl rfl | exact Or.inr (Or.inl rfl) | exact Or.inr (Or.inr rfl)) (by decide) (by decide)) (@af _ _ _ _) (by rfl) (by rfl)) (@ao _ _ _ (@c6 _ K _ _ _ _ _ _ _ (@pv _ 0 _ _ (by rfl) (by first | exact Or.inl rfl | exact Or.inr (Or.inl rfl) | exact Or.inr (Or.inr rfl)) (by decide) (by decide)) (@nL _ _) (by rfl) (by rfl))))),?_⟩
 refine ⟨(by show 0≤sizeLine;decide),fun l hl=>?_⟩
 have n1:p ≠ l:=aA hp hl
 refine ⟨_,rfl,p,T.bot,dx,_,rfl,by rw [ak n1];exact hp,X.cB,X.Oc,by show 0 < 1000;decide,?_⟩
 refine ⟨_,rfl,p,T.bot,dx,_,rfl,ai,X.cB,X.Ln,by show 1 < 1000;decide,?_⟩
 intro d hd
 have n2:d ≠ p:=fun e=>by rw [e,ai] at hd;cases hd
 have n3:d ≠ l:=fun e=>by rw [e,ak (Ne.symm n1),ak (Ne.symm n1),ai] at hd;cases hd
 have hd0:H d = none:=by rw [ak n2,ak n2,ak n3] at hd;exact hd
 refine ⟨_,rfl,p,T.bot,dx,_,rfl,by rw [ak (Ne.symm n2)];exact ai,X.cB,X.Ii,by show 2 < 1000;decide,?_⟩
 refine q l d _ hl hd0 (Ne.symm n3) (fun b o e hb=>?_) ai ?_ ?_
 · rw [ak hb,ak (aA e hd0),ak hb,ak hb,ak (aA e hl)];exact e
 · rw [ak (Ne.symm n1),ak (Ne.symm n3),ak (Ne.symm n1),ak (Ne.symm n1)];exact ai
 · rw [ak n2];exact ai
abbrev kT:Stmt:=inClass (top 23) 0
abbrev A_:List Str:=["self","name","owner","worth","weight","scale","row"]
abbrev rZ:List Str:=["self","name","owner","worth","weight","scale","row"]
theorem Ae:aI A_ rZ (au kT):=⟨rfl,rfl,rfl,by decide +kernel,rfl,by decide +kernel,by decide +kernel⟩
theorem Af {T:TC} (F:B9 K mg "Part" T.part "Part.__init__" kT f fd) (X:Txt K T) (bY:mg "list" = none):Cn P w K mg base 1 "Part" T.part rZ (Cd T K):=by
 refine F.ok Ae (fun vs H Q E h=>?_) (fun cdv A outer s H vs Q E hr h=>?_) (fun _ _ _ _ _ _ us hl=>match us,hl with | [_,_,_,_,_,_,_],_=>rfl)
 · obtain ⟨p,dx,l,pt,rfl,_⟩:=h.ex
   rfl
 obtain ⟨p,dx,l,pt,rfl,hp,hl,q⟩:=h.ex
 refine ⟨_,(@aj _ _ _ _ _ (@c6 _ K _ _ _ _ _ _ _ (@pv _ 0 _ _ (by rfl) (by first | exact Or.inl rfl | exact Or.inr (Or.inl rfl) | exact Or.inr (Or.inr rfl)) (by decide) (by decide)) (@pv _ 1 _ _ (by rfl) (by first | exact Or.inl rfl | exact Or.inr (Or.inl rfl) | exact Or.inr (Or.inr rfl)) (by decide) (by decide)) (by rfl) (by rfl)) (@aj _ _ _ _ _ (@c6 _ K _ _ _ _ _ _ _ (@pv _ 0 _ _ (by rfl) (by first | exact Or.inl rfl | exact Or.inr (Or.inl rfl) | exact Or.inr (Or.inr rfl)) (by decide) (by decide)) (@pv _ 2 _ _ (by rfl) (by first | exact Or.inl rfl | exact Or.inr (Or.inl rfl) | exact Or.inr (Or.inr rfl)) (by decide) (by decide)) (by rfl) (by rfl)) (@aj _ _ _ _ _ (@c6 _ K _ _ _ _ _ _ _ (@pv _ 0 _ _ (by rfl) (by first | exact Or.inl rfl | exact Or.inr (Or.inl rfl) | exact Or.inr (Or.inr rfl)) (by decide) (by decide)) (@pv _ 3 _ _ (by rfl) (by first | exact Or.inl rfl | exact Or.inr (Or.inl rfl) | exact Or.inr (Or.inr rfl)) (by decide) (by decide)) (by rfl) (by rfl)) (@aj _ _ _ _ _ (@c6 _ K _ _ _ _ _ _ _ (@pv _ 0 _ _ (by rfl) (by first | exact Or.inl rfl | exact Or.inr (Or.inl rfl) | exact Or.inr (Or.inr rfl)) (by decide) (by decide)) (@pv _ 4 _ _ (by rfl) (by first | exact Or.inl rfl | exact Or.inr (Or.inl rfl) | exact Or.inr (Or.inr rfl)) (by decide) (by decide)) (by rfl) (by rfl)) (@aj _ _ _ _ _ (@c6 _ K _ _ _ _ _ _ _ (@pv _ 0 _ _ (by rfl) (by first | exact Or.inl rfl | exact Or.inr (Or.inl rfl) | exact Or.inr (Or.inr rfl)) (by decide) (by decide)) (@pv _ 5 _ _ (by rfl) (by first | exact Or.inl rfl | exact Or.inr (Or.inl rfl) | exact Or.inr (Or.inr rfl)) (by decide) (by decide)) (by rfl) (by rfl)) (@ao _ _ _ (@c6 _ K _ _ _ _ _ _ _ (@pv _ 0 _ _ (by rfl) (by first | exact Or.inl rfl | exact Or.inr (Or.inl rfl) | exact Or.inr (Or.inr rfl)) (by decide) (by decide)) (@lP _ _ _ _ _ _ _ _ _ (jK K) (by rfl) bY PyProof.Rows.boot_list (@aa _ _ _ _ _ (@pv _ 6 _ _ (by rfl) (by first | exact Or.inl rfl | exact Or.inr (Or.inl rfl) | exact Or.inr (Or.inr rfl)) (by decide) (by decide)) (@ah _) (by rfl)) (by decide) (by decide) (by rfl) (by rfl)) (by rfl) (by rfl)))))))),?_⟩
 refine ⟨_,rfl,_,rfl,p,T.part,dx,_,rfl,hp,X.cP,X.Ih,by show 0 < 1000;decide,?_⟩
 refine ⟨_,rfl,_,rfl,p,T.part,dx,_,rfl,ai,X.cP,X.pow,by show 1 < 1000;decide,?_⟩
 refine ⟨_,rfl,_,rfl,p,T.part,dx,_,rfl,ai,X.cP,X.Ll,by show 2 < 1000;decide,?_⟩
 refine ⟨_,rfl,_,rfl,p,T.part,dx,_,rfl,ai,X.cP,X.Oa,by show 3 < 1000;decide,?_⟩
 refine ⟨_,rfl,_,rfl,p,T.part,dx,_,rfl,ai,X.cP,X.Ob,by show 4 < 1000;decide,?_⟩
 simp only [qD]
 have hl1:∀o,aE K (upd H p o) l (pt.row.map V.int):=fun o=>by
  rcases hl with (h | ⟨ob,h⟩) | h
  · exact .inl (.inl (by rw [ak (e8 h hp (by intro z;cases z))];exact h))
  · exact .inl (.inr ⟨ob,by rw [ak (e8 h hp (by intro z;cases z))];exact h⟩)
  · exact .inr h
 refine ⟨_,rfl,l,_,rfl, .inl (hl1 _),fun r hr2=>?_⟩
 have n1:r ≠ p:=fun e=>by rw [e,ai] at hr2;cases hr2
 refine ⟨_,rfl,p,T.part,dx,_,rfl,by rw [ak (Ne.symm n1)];exact ai,X.cP,X.Lm,by show 5 < 1000;decide,?_⟩
 have hr0:H r = none:=by rw [ak n1] at hr2;exact hr2
 refine q r _ hr0 (fun b o e hb=>?_) ai ?_
 · rw [ak hb,ak (aA e hr0),ak hb];exact e
 · rw [ak n1];exact ai
abbrev gK:Stmt:=inClass (top 24) 19
abbrev uT:List Str:=["self","owner"]
abbrev lW:List Str:=["self","owner"]
theorem tM:aI uT lW (au gK):=⟨rfl,rfl,rfl,by decide +kernel,rfl,by decide +kernel,by decide +kernel⟩
theorem rz {T:TC} {e:Ec} (F:gQ K T.hold "place_of" "Hold.place_of" gK f fd) (X:Txt K T) (nX:dQ K e.lU) (gR:mg "NoOwner" = some (.ref e.lU)):Mx P w K mg base 1 T.hold "place_of" lW (tK T e):=by
 refine F.zU tM (fun vs H Q E h=>?_) (fun cdv A outer s H vs Q E hr h=>?_) (fun _ _ _ _ _ _ us hl=>match us,hl with | [_,_],_=>rfl)
 · obtain ⟨n,ρ,A,st,o,rfl,_⟩:=h.ex
   rfl
 obtain ⟨n,ρ,A,st,o,rfl,h,q2,q⟩:=h.ex
 refine ⟨_,(@aj _ _ _ _ _ (@bh _ _ _ _ _ _ _ _ (@o8 _ _ _ _ _ _ (@pC _ _ _ _ _ (bQ hr) (@pv _ 1 _ _ (by rfl) (by first | exact Or.inl rfl | exact Or.inr (Or.inl rfl) | exact Or.inr (Or.inr rfl)) (by decide) (by decide)) (@aU _ K _ _ _ _ (@pv _ 0 _ _ (by rfl) (by first | exact Or.inl rfl | exact Or.inr (Or.inl rfl) | exact Or.inr (Or.inr rfl)) (by decide) (by decide)) (by rfl) (by rfl))) (by first | exact gG _ (by decide) (by decide) | rfl)) (@ao _ _ _ (@gI _ _ _ _ _ _ _ _ _ _ _ _ _ _ _ _ _ _ _ _ _ _ _ nX (by rfl) gR (by decide))) (@aJ _)) (@ao _ _ _ (@aD _ _ _ _ (@bM _ _ _ _ _ _ (bQ hr) (@aU _ K _ _ _ _ (@pv _ 0 _ _ (by rfl) (by first | exact Or.inl rfl | exact Or.inr (Or.inl rfl) | exact Or.inr (Or.inr rfl)) (by decide) (by decide)) (by rfl) (by rfl)) (@pv _ 1 _ _ (by rfl) (by first | exact Or.inl rfl | exact Or.inr (Or.inl rfl) | exact Or.inr (Or.inr rfl)) (by decide) (by decide)) (fun _ _=>rfl))))),?_⟩
 refine ⟨_,rfl,_,rfl,A.a,T.hold,A.dx,_,_,rfl,h.oa,X.cH,X.hpl,rfl,A.pl,_,rfl,b_.k (k:=Sum.inr o) h.fu,_,rfl,?_⟩
 by_cases ho:o∈st.own
 · have hv:=vK (i:=0) ho
   rw [hv]
   refine bq ?_
   refine ⟨_,rfl,A.a,T.hold,A.dx,_,_,rfl,h.oa,X.cH,X.hpl,rfl,_,rfl,A.pl,_,rfl,hv ▸ b_.k (k:=Sum.inr o) h.fu,?_⟩
   rw [Nat.zero_add]
   exact q ho
 · rw [ig ho]
   exact dW fun x=>q2 ho x H (aC.refl _)
abbrev iu:Stmt:=inClass (top 24) 20
abbrev vX:List Str:=["self","name"]
abbrev nj:List Str:=["self","name"]
theorem uU:aI vX nj (au iu):=⟨rfl,rfl,rfl,by decide +kernel,rfl,by decide +kernel,by decide +kernel⟩
theorem tN {T:TC} {e:Ec} (F:gQ K T.hold "part_of" "Hold.part_of" iu f fd) (X:Txt K T) (pY:dQ K e.kM) (i7:mg "NoPart" = some (.ref e.kM)):Mx P w K mg base 1 T.hold "part_of" nj (xA T e):=by
 refine F.zU uU (fun vs H Q E h=>?_) (fun cdv A outer s H vs Q E hr h=>?_) (fun _ _ _ _ _ _ us hl=>match us,hl with | [_,_],_=>rfl)
 · obtain ⟨n,ρ,A,st,x,rfl,_⟩:=h.ex
   rfl
 obtain ⟨n,ρ,A,st,x,rfl,hA,nd,q2,k⟩:=h.ex
 clear h
 refine ⟨_,(@aj _ _ _ _ _ (@bh _ _ _ _ _ _ _ _ (@o8 _ _ _ _ _ _ (@pC _ _ _ _ _ (bQ hr) (@pv _ 1 _ _ (by rfl) (by first | exact Or.inl rfl | exact Or.inr (Or.inl rfl) | exact Or.inr (Or.inr rfl)) (by decide) (by decide)) (@aU _ K _ _ _ _ (@pv _ 0 _ _ (by rfl) (by first | exact Or.inl rfl | exact Or.inr (Or.inl rfl) | exact Or.inr (Or.inr rfl)) (by decide) (by decide)) (by rfl) (by rfl))) (by first | exact gG _ (by decide) (by decide) | rfl)) (@ao _ _ _ (@gI _ _ _ _ _ _ _ _ _ _ _ _ _ _ _ _ _ _ _ _ _ _ _ pY (by rfl) i7 (by decide))) (@aJ _)) (@ao _ _ _ (@aD _ _ _ _ (@bM _ _ _ _ _ _ (bQ hr) (@aU _ K _ _ _ _ (@pv _ 0 _ _ (by rfl) (by first | exact Or.inl rfl | exact Or.inr (Or.inl rfl) | exact Or.inr (Or.inr rfl)) (by decide) (by decide)) (by rfl) (by rfl)) (@pv _ 1 _ _ (by rfl) (by first | exact Or.inl rfl | exact Or.inr (Or.inl rfl) | exact Or.inr (Or.inr rfl)) (by decide) (by decide)) (fun _ _=>rfl))))),?_⟩
 refine ⟨_,rfl,_,rfl,A.a,T.hold,A.dx,_,_,rfl,hA.oa,X.cH,X.hab,rfl,A.ab,_,rfl,b_.k (k:=Sum.inr x) hA.eV,_,rfl,?_⟩
 by_cases hx:∃p∈st.aq,p.nm = x
 · obtain ⟨p,hp,rfl⟩:=hx
   obtain ⟨i,hi,ep⟩:=List.mem_iff_getElem.mp hp
   have oZ:st.aq[i]? = some p:=by rw [List.getElem?_eq_getElem hi,ep]
   obtain ⟨qq,eq,_⟩:=hA.find oZ
   have hv:=Cb nd oZ eq
   rw [hv]
   refine bq ?_
   exact ⟨_,rfl,A.a,T.hold,A.dx,_,_,rfl,hA.oa,X.cH,X.hab,rfl,_,rfl,A.ab,_,rfl,hv ▸ b_.k (k:=Sum.inr p.nm) hA.eV,k i p qq rfl oZ eq⟩
 · have hn:∀p∈st.aq,p.nm ≠ x:=fun p hp z=>hx ⟨p,hp,z⟩
   rw [kI hn]
   exact dW fun y=>q2 hn y H (aC.refl _)
abbrev gr:Stmt:=inClass (top 24) 21
abbrev tO:List Str:=["self","name"]
abbrev kU:List Str:=["self","name"]
theorem rA:aI tO kU (au gr):=⟨rfl,rfl,rfl,by decide +kernel,rfl,by decide +kernel,by decide +kernel⟩
theorem pZ {T:TC} {e:Ec} (F:gQ K T.hold "check_new" "Hold.check_new" gr f fd) (X:Txt K T) (gS:Dn P w K mg base 2 "is_name" ["text"] nP) (gh:dQ K e.bad) (eE:mg "BadName" = some (.ref e.bad)) (i8:dQ K e.twice) (gi:mg "Twice" = some (.ref e.twice)):Mx P w K mg base 3 T.hold "check_new" kU (rW T e):=by
 refine F.zU rA (fun vs H Q E h=>?_) (fun cdv A outer s H vs Q E hr h=>?_) (fun _ _ _ _ _ _ us hl=>match us,hl with | [_,_],_=>rfl)
 · obtain ⟨n,ρ,A,st,x,rfl,_⟩:=h.ex
   rfl
 obtain ⟨n,ρ,A,st,x,rfl,h,hx,q2,q⟩:=h.ex
 refine ⟨_,(@aj _ _ _ _ _ (@bh _ _ _ _ _ _ _ _ (@bN _ _ _ _ (@bI _ _ _ (@aR _ _ _ _ _ _ _ _ _ _ _ gS hr (@aa _ _ _ _ _ (@pv _ 1 _ _ (by rfl) (by first | exact Or.inl rfl | exact Or.inr (Or.inl rfl) | exact Or.inr (Or.inr rfl)) (by decide) (by decide)) (@ah _) (by rfl)) (by decide) (by rfl) (by decide) (by rfl) (by rfl)) (by intro _;rfl))) (@ao _ _ _ (@gI _ _ _ _ _ _ _ _ _ _ _ _ _ _ _ _ _ _ _ _ _ _ _ gh (by rfl) eE (by decide))) (@aJ _)) (@ao _ _ _ (@bh _ _ _ _ _ _ _ _ (@o8 _ _ _ _ _ _ (@Ey _ _ _ _ _ (bQ hr) (@pv _ 1 _ _ (by rfl) (by first | exact Or.inl rfl | exact Or.inr (Or.inl rfl) | exact Or.inr (Or.inr rfl)) (by decide) (by decide)) (@aU _ K _ _ _ _ (@pv _ 0 _ _ (by rfl) (by first | exact Or.inl rfl | exact Or.inr (Or.inl rfl) | exact Or.inr (Or.inr rfl)) (by decide) (by decide)) (by rfl) (by rfl))) (by first | exact gG _ (by decide) (by decide) | rfl)) (@ao _ _ _ (@gI _ _ _ _ _ _ _ _ _ _ _ _ _ _ _ _ _ _ _ _ _ _ _ i8 (by rfl) gi (by decide))) (@aJ _)))),?_⟩
 refine ⟨_,rfl,uz (cs:=x.cps.toList) hx fun H1 g1=>⟨_,rfl,?_⟩⟩
 cases hn:isName x.cps.toList with
 | false=>exact dW fun y=>q2 0 (by unfold newR isNm;rw [hn];rfl) y H1 g1
 | true=>
   refine bq ?_
   have h1:=h.mono g1
   refine ⟨_,rfl,_,rfl,A.a,T.hold,A.dx,_,_,rfl,h1.oa,X.cH,X.hnm,rfl,A.nm,_,rfl,b_.k (k:=Sum.inr x) h1.rO,_,rfl,?_⟩
   by_cases hm:x∈st.nms
   · rw [zx hm]
     exact dW fun y=>q2 1 (by unfold newR isNm;rw [hn,if_pos rfl,if_pos hm]) y H1 g1
   · rw [pN hm]
     exact bq (q (xB hn hm) H1 g1)
abbrev i9:Stmt:=inClass (top 24) 10
abbrev xO:List Str:=["self"]
abbrev oM:List Str:=["self"]
theorem vY:aI xO oM (au i9):=⟨rfl,rfl,rfl,by decide +kernel,rfl,by decide +kernel,by decide +kernel⟩
theorem vZ {T:TC} (F:gQ K T.hold "roster" "Hold.roster" i9 f fd) (X:Txt K T) (bY:mg "list" = none):Mn P w K mg base 1 T.hold "roster" oM (zA T):=by
 refine F.ok vY (fun vs H Q E h=>?_) (fun cdv A outer s H vs Q E hr h=>?_) (fun _ _ _ _ _ _ us hl=>match us,hl with | [_],_=>rfl)
 · obtain ⟨n,ρ,A,st,rfl,_⟩:=h.ex
   rfl
 obtain ⟨n,ρ,A,st,rfl,h,q⟩:=h.ex
 refine ⟨_,(@ao _ _ _ (@aD _ _ _ _ (@lP _ _ _ _ _ _ _ _ _ (Dh rfl) (by rfl) bY PyProof.Rows.boot_list (@aa _ _ _ _ _ (@aU _ K _ _ _ _ (@pv _ 0 _ _ (by rfl) (by first | exact Or.inl rfl | exact Or.inr (Or.inl rfl) | exact Or.inr (Or.inr rfl)) (by decide) (by decide)) (by rfl) (by rfl)) (@ah _) (by rfl)) (by decide) (by decide) (by rfl) (by rfl)))),?_⟩
 refine ⟨_,rfl,A.a,T.hold,A.dx,_,_,rfl,h.oa,X.cH,X.hpl,rfl,A.pl,_,rfl, .inl h.fu,fun l hl=>?_⟩
 rw [s_]
 exact q l hl
abbrev jM:Stmt:=inClass (top 24) 11
abbrev Ag:List Str:=["self"]
abbrev p_:List Str:=["self"]
theorem xP:aI Ag p_ (au jM):=⟨rfl,rfl,rfl,by decide +kernel,rfl,by decide +kernel,by decide +kernel⟩
theorem xQ {T:TC} (F:gQ K T.hold "parts" "Hold.parts" jM f fd) (X:Txt K T):Mn P w K mg base 1 T.hold "parts" p_ (Ci T):=by
 refine F.ok xP (fun vs H Q E h=>?_) (fun cdv A outer s H vs Q E hr h=>?_) (fun _ _ _ _ _ _ us hl=>match us,hl with | [_],_=>rfl)
 · obtain ⟨n,ρ,A,st,rfl,_⟩:=h.ex
   rfl
 obtain ⟨n,ρ,A,st,rfl,h,hl,q⟩:=h.ex
 refine ⟨_,(@ao _ _ _ (@aD _ _ _ _ (@za _ _ _ (@fE _ _ _ _ _ _ ["part"] [none] _ _ _ rfl (@vG _ _ _ _ _ _ (@aU _ K _ _ _ _ (@pv _ 0 _ _ (by rfl) (by first | exact Or.inl rfl | exact Or.inr (Or.inl rfl) | exact Or.inr (Or.inr rfl)) (by decide) (by decide)) (by rfl) (by rfl)) (by rfl) (by rfl)) (fun _ _ _ _=>(@aZ _ _ (0) _ (show List.Nodup (["part"] :List Str) from by decide +kernel) rfl (Or.inl rfl) (by first | exact .inl rfl | exact .inr rfl | assumption))) (fun _ _ _ _=>(@eU _ _ _ _ _ (@aa _ _ _ _ _ (@aU _ K _ _ _ _ (@pv _ 0 _ _ (by rfl) (by first | exact Or.inl rfl | exact Or.inr (Or.inl rfl) | exact Or.inr (Or.inr rfl)) (by decide) (by decide)) (by rfl) (by rfl)) (@aa _ _ _ _ _ (@aU _ K _ _ _ _ (@pv _ 0 _ _ (by rfl) (by first | exact Or.inl rfl | exact Or.inr (Or.inl rfl) | exact Or.inr (Or.inr rfl)) (by decide) (by decide)) (by rfl) (by rfl)) (@aa _ _ _ _ _ (@aU _ K _ _ _ _ (@pv _ 0 _ _ (by rfl) (by first | exact Or.inl rfl | exact Or.inr (Or.inl rfl) | exact Or.inr (Or.inr rfl)) (by decide) (by decide)) (by rfl) (by rfl)) (@aa _ _ _ _ _ (@aU _ K _ _ _ _ (@pv _ 0 _ _ (by rfl) (by first | exact Or.inl rfl | exact Or.inr (Or.inl rfl) | exact Or.inr (Or.inr rfl)) (by decide) (by decide)) (by rfl) (by rfl)) (@ah _) (by rfl)) (by rfl)) (by rfl)) (by rfl)))) rfl (by rfl) (by intro _;rfl))))),?_⟩
 refine ⟨A.ab,_,h.eV,fun o=>?_⟩
 refine ⟨_,rfl,A.a,T.hold,A.dx,_,_,rfl,fC h.eV h.oa (fun k z=>by cases z),X.cH,X.hab,rfl,A.ab,o,_,rfl,ai,fun acc hacc=>?_⟩
 have el:=qS h.ql
 refine m9 (n:=st.aq.length) 0 (fun i out H1=>aC (upd H A.ab (.cV o (.dK (cR st.aq A.qs)))) H1∧eS H1 out (st.aq.take i)) (by omega) ⟨av hacc _, .nil⟩ (fun i out H1 hi _ hp=>⟨hp.1 _ _ ai,by rw [el];exact hi⟩) (fun out H1 _ hp=>⟨hp.1 _ _ ai,by rw [el];exact Nat.le_refl _⟩) ?_ ?_
 · rintro i x out H1 H2 hi dH ha ⟨g,hP⟩ ⟨rfl,kv,hkv,rfl⟩
   have ep:=List.getElem?_eq_getElem hi
   obtain ⟨qq,eq,h1,h2,_⟩:=h.find ep
   rw [vL ep eq] at hkv
   cases hkv
   have hq:=g _ _ (fC h.eV h1 (fun k z=>by cases z))
   refine ⟨_,rfl,qq.1,T.part,qq.2.1,_,_,rfl,hq,X.cP,X.Ih,rfl,_,rfl,qq.1,T.part,qq.2.1,_,_,rfl,hq,X.cP,X.pow,rfl,_,rfl,qq.1,T.part,qq.2.1,_,_,rfl,hq,X.cP,X.Ll,rfl,_,rfl,qq.1,T.part,qq.2.1,_,_,rfl,hq,X.cP,X.Oa,rfl,(by show 4≤sizeLine;decide),fun t ht=>?_⟩
   have g1:=av ht (qU st.aq[i])
   refine ⟨g1 _ _ ha,(g.trans g1).dg hacc _,?_⟩
   rw [take_snoc ep]
   exact ((hP.mono g1.tups).snoc ai).mono (gg (.inr ⟨_,g1 _ _ ha,rfl⟩))
 rintro out H1 dH ha ⟨g,hP⟩
 rw [List.take_length] at hP
 have hz:=g _ _ (ai (H:=H) (a:=A.ab) (o:= .cV o (.dK (cR st.aq A.qs))))
 have na:acc ≠ A.ab:=fun e=>by rw [e,hz] at ha;cases ha
 exact ⟨hz,q acc out _ (zK h.eV g) (tu h.eV hacc) (by rw [ak na];exact ha) (hP.mono (gg (.inr ⟨_,hz,rfl⟩)))⟩
abbrev jN:Stmt:=inClass (top 24) 13
abbrev Ah:List Str:=["self"]
abbrev qa:List Str:=["self"]
theorem xR:aI Ah qa (au jN):=⟨rfl,rfl,rfl,by decide +kernel,rfl,by decide +kernel,by decide +kernel⟩
theorem xS {T:TC} (F:gQ K T.hold "whole" "Hold.whole" jN f fd) (X:Txt K T) (kh:mg "sum" = none):Mn P w K mg base 1 T.hold "whole" qa (Cj T):=by
 refine F.ok xR (fun vs H Q E h=>?_) (fun cdv A outer s H vs Q E hr h=>?_) (fun _ _ _ _ _ _ us hl=>match us,hl with | [_],_=>rfl)
 · obtain ⟨n,ρ,A,st,rfl,_⟩:=h.ex
   rfl
 obtain ⟨n,ρ,A,st,rfl,h,hl,q⟩:=h.ex
 refine ⟨_,(@ao _ _ _ (@aD _ _ _ _ (@aB _ _ _ _ _ _ _ _ _ (pI K rfl) (by rfl) kh PyProof.Rows.boot_sum (@aa _ _ _ _ _ (@za _ _ _ (@fE _ _ _ _ _ _ ["part"] [none] _ _ _ rfl (@vG _ _ _ _ _ _ (@aU _ K _ _ _ _ (@pv _ 0 _ _ (by rfl) (by first | exact Or.inl rfl | exact Or.inr (Or.inl rfl) | exact Or.inr (Or.inr rfl)) (by decide) (by decide)) (by rfl) (by rfl)) (by rfl) (by rfl)) (fun _ _ _ _=>(@aZ _ _ (0) _ (show List.Nodup (["part"] :List Str) from by decide +kernel) rfl (Or.inl rfl) (by first | exact .inl rfl | exact .inr rfl | assumption))) (fun _ _ _ _=>(@aU _ K _ _ _ _ (@pv _ 0 _ _ (by rfl) (by first | exact Or.inl rfl | exact Or.inr (Or.inl rfl) | exact Or.inr (Or.inr rfl)) (by decide) (by decide)) (by rfl) (by rfl))) rfl (by rfl) (by intro _;rfl))) (@ah _) (by rfl)) (by decide) (by decide) (by rfl) (by rfl)))),?_⟩
 refine ⟨A.ab,_,h.eV,fun o=>?_⟩
 refine ⟨_,rfl,A.a,T.hold,A.dx,_,_,rfl,fC h.eV h.oa (fun k z=>by cases z),X.cH,X.hab,rfl,A.ab,o,_,rfl,ai,fun acc hacc=>?_⟩
 have el:=qS h.ql
 refine m9 (n:=st.aq.length) 0 (fun i out H1=>aC (upd H A.ab (.cV o (.dK (cR st.aq A.qs)))) H1∧out = ((st.aq.take i).map (·.wo)).map V.int) (by omega) ⟨av hacc _,rfl⟩ (fun i out H1 hi _ hp=>⟨hp.1 _ _ ai,by rw [el];exact hi⟩) (fun out H1 _ hp=>⟨hp.1 _ _ ai,by rw [el];exact Nat.le_refl _⟩) ?_ ?_
 · rintro i x out H1 H2 hi dH ha ⟨g,e⟩ ⟨rfl,kv,hkv,rfl⟩
   have ep:=List.getElem?_eq_getElem hi
   obtain ⟨qq,eq,h1,h2,_⟩:=h.find ep
   rw [vL ep eq] at hkv
   cases hkv
   have hq:=g _ _ (fC h.eV h1 (fun k z=>by cases z))
   refine ⟨_,rfl,qq.1,T.part,qq.2.1,_,_,rfl,hq,X.cP,X.Ll,rfl,ha,g.dg hacc _,?_⟩
   rw [take_snoc ep,e,List.map_append,List.map_append]
   rfl
 rintro out H1 dH ha ⟨g,e⟩
 rw [List.take_length] at e
 have hz:=g _ _ (ai (H:=H) (a:=A.ab) (o:= .cV o (.dK (cR st.aq A.qs))))
 have na:acc ≠ A.ab:=fun e=>by rw [e,hz] at ha;cases ha
 exact ⟨hz,acc,st.aq.map (fun p:Pt=>p.wo),rfl,aE.of (by rw [ak na,ha,e]),q _ (zK h.eV g)⟩
abbrev eX:Stmt:=inClass (top 24) 25
abbrev nY:List Str:=["self","tops"]
abbrev iw:List Str:=["self","tops"]
theorem nq:aI nY iw (au eX):=⟨rfl,rfl,rfl,by decide +kernel,rfl,by decide +kernel,by decide +kernel⟩
theorem nt {T:TC} (F:gQ K T.hold "beyond_common" "Hold.beyond_common" eX f fd) (X:Txt K T) (ki:mg "zip" = none):Mn P w K mg base 1 T.hold "beyond_common" iw (Il T K):=by
 refine F.ok nq (fun vs H Q E h=>?_) (fun cdv A outer s H vs Q E hr h=>?_) (fun _ _ _ _ _ _ us hl=>match us,hl with | [_,_],_=>rfl)
 · obtain ⟨n,ρ,A,st,l,tops,rfl,_⟩:=h.ex
   rfl
 obtain ⟨n,ρ,A,st,l,tops,rfl,h,hS,Rm,hle,q⟩:=h.ex
 refine ⟨_,(@ao _ _ _ (@aD _ _ _ _ (@fE _ _ _ _ _ _ ["top","common"] [none,none] _ _ _ rfl (@vJ _ _ _ _ K _ _ _ _ _ (by rfl) ki (@aa _ _ _ _ _ (@pv _ 1 _ _ (by rfl) (by first | exact Or.inl rfl | exact Or.inr (Or.inl rfl) | exact Or.inr (Or.inr rfl)) (by decide) (by decide)) (@aa _ _ _ _ _ (@aU _ K _ _ _ _ (@pv _ 0 _ _ (by rfl) (by first | exact Or.inl rfl | exact Or.inr (Or.inl rfl) | exact Or.inr (Or.inr rfl)) (by decide) (by decide)) (by rfl) (by rfl)) (@ah _) (by rfl)) (by rfl)) (by rfl) (by rfl) (by rfl)) (fun _ _ _ _=>(@qQ K _ _ _ _ (2) _ rfl (@eN _ _ _ _ _ (@aZ _ _ (0) _ (show List.Nodup (["top","common"] :List Str) from by decide +kernel) rfl (Or.inl rfl) (by first | exact .inl rfl | exact .inr rfl | assumption)) (@eN _ _ _ _ _ (@aZ _ _ (1) _ (show List.Nodup (["top","common"] :List Str) from by decide +kernel) rfl (Or.inl rfl) (by first | exact .inl rfl | exact .inr rfl | assumption)) (@qF _) (by rfl)) (by rfl)) (by rfl) (by rfl) (by rfl))) (fun _ _ _ _=>(@az _ _ _ _ _ _ _ _ o_ (@pv _ 0 _ _ (by rfl) (by first | exact Or.inl rfl | exact Or.inr (Or.inl rfl) | exact Or.inr (Or.inr rfl)) (by decide) (by decide)) (@pv _ 1 _ _ (by rfl) (by first | exact Or.inl rfl | exact Or.inr (Or.inl rfl) | exact Or.inr (Or.inr rfl)) (by decide) (by decide)))) rfl (by rfl) (by intro _;rfl)))),?_⟩
 refine ⟨_,rfl,_,rfl,A.a,T.hold,A.dx,_,_,rfl,h.oa,X.cH,X.zj,rfl,_,_,_,_,_,_,rfl, .lst hS, .lst (aE.of h.j6),fun acc hacc=>?_⟩
 refine zg (K:=K) (n:=tops.length) [0,1] (fun i out H1=>aC H H1∧out = (List.zipWith (fun t c=>t - c) (tops.take i) (st.cD.take i)).map V.int) (by decide) (by omega) ⟨av hacc _,rfl⟩ (fun i out H1 hi _ hp=>⟨hp.1.seq hS,hp.1.seq (aE.of h.j6),by rw [List.length_map];exact hi,by rw [List.length_map];omega⟩)
  (fun out H1 _ hp=>⟨hp.1.seq hS,hp.1.seq (aE.of h.j6), .inl (by rw [List.length_map];exact Nat.le_refl _)⟩) ?_ ?_
 · rintro i x out H1 H2 hi dH ha ⟨g,e⟩ ⟨p,x1,y1,hp,rfl,rfl,e1,e2⟩
   obtain ⟨t,rfl,et⟩:=ko e1
   obtain ⟨c,rfl,ec⟩:=ko e2
   have g1:=av hp (.tup [.int t, .int c])
   refine ⟨p,_,rfl,bF.of ai,rfl,_,rfl,_,rfl,_,_,rfl,rfl,g1 _ _ ha,(g.trans g1).dg hacc _,?_⟩
   rw [xj _ et ec,e,List.map_append]
   rfl
 rintro out H1 dH ha ⟨g,e⟩
 rw [List.take_length,Rm,List.take_length] at e
 exact q acc H1 g hacc (by rw [ha,e];rfl)
abbrev iy:Stmt:=inClass (top 24) 24
abbrev v5:List Str:=["self","part"]
abbrev nu:List Str:=["self","part"]
theorem uV:aI v5 nu (au iy):=⟨rfl,rfl,rfl,by decide +kernel,rfl,by decide +kernel,by decide +kernel⟩
theorem uW {T:TC} (F:gQ K T.hold "tops_of" "Hold.tops_of" iy f fd) (X:Txt K T) (ki:mg "zip" = none):Mn P w K mg base 1 T.hold "tops_of" nu (Cf T):=by
 refine F.ok uV (fun vs H Q E h=>?_) (fun cdv A outer s H vs Q E hr h=>?_) (fun _ _ _ _ _ _ us hl=>match us,hl with | [_,_],_=>rfl)
 · obtain ⟨n,ρ,A,st,i,p,qq,rfl,_⟩:=h.ex
   rfl
 obtain ⟨n,ρ,A,st,ip,pt,qq,rfl,h,wf,ep,eq,q⟩:=h.ex
 obtain ⟨h1,h2,_⟩:=h.opt ip pt qq ep eq
 have uX:=List.mem_of_getElem? ep
 refine ⟨_,(@ao _ _ _ (@aD _ _ _ _ (@fE _ _ _ _ _ _ ["own","common","part"] [none,none,some 1] _ _ _ rfl (@vJ _ _ _ _ K _ _ _ _ _ (by rfl) ki (@aa _ _ _ _ _ (@aU _ K _ _ _ _ (@pv _ 1 _ _ (by rfl) (by first | exact Or.inl rfl | exact Or.inr (Or.inl rfl) | exact Or.inr (Or.inr rfl)) (by decide) (by decide)) (by rfl) (by rfl)) (@aa _ _ _ _ _ (@aU _ K _ _ _ _ (@pv _ 0 _ _ (by rfl) (by first | exact Or.inl rfl | exact Or.inr (Or.inl rfl) | exact Or.inr (Or.inr rfl)) (by decide) (by decide)) (by rfl) (by rfl)) (@ah _) (by rfl)) (by rfl)) (by rfl) (by rfl) (by rfl)) (fun _ _ _ _=>(@qQ K _ _ _ _ (2) _ rfl (@eN _ _ _ _ _ (@aZ _ _ (0) _ (show List.Nodup (["own","common","part"] :List Str) from by decide +kernel) rfl (Or.inl rfl) (by first | exact .inl rfl | exact .inr rfl | assumption)) (@eN _ _ _ _ _ (@aZ _ _ (1) _ (show List.Nodup (["own","common","part"] :List Str) from by decide +kernel) rfl (Or.inl rfl) (by first | exact .inl rfl | exact .inr rfl | assumption)) (@qF _) (by rfl)) (by rfl)) (by rfl) (by rfl) (by rfl))) (fun _ _ _ _=>(@az _ _ _ _ _ _ _ _ bG (@az _ _ _ _ _ _ _ _ Jv (@aU _ K _ _ _ _ (@pv _ 2 _ _ (by rfl) (by first | exact Or.inl rfl | exact Or.inr (Or.inl rfl) | exact Or.inr (Or.inr rfl)) (by decide) (by decide)) (by rfl) (by rfl)) (@pv _ 0 _ _ (by rfl) (by first | exact Or.inl rfl | exact Or.inr (Or.inl rfl) | exact Or.inr (Or.inr rfl)) (by decide) (by decide))) (@pv _ 1 _ _ (by rfl) (by first | exact Or.inl rfl | exact Or.inr (Or.inl rfl) | exact Or.inr (Or.inr rfl)) (by decide) (by decide)))) rfl (by rfl) (by intro _;rfl)))),?_⟩
 have Rn:pt.row.length = st.cD.length:=by rw [wf.rows pt uX,wf.iX]
 have hcl:st.cD.length≤100:=by rw [wf.iX];exact wf.zm
 refine ⟨_,rfl,qq.1,T.part,qq.2.1,_,_,rfl,h1,X.cP,X.Lm,rfl,_,rfl,A.a,T.hold,A.dx,_,_,rfl,h.oa,X.cH,X.zj,rfl,_,_,_,_,_,_,rfl, .lst (aE.of h2), .lst (aE.of h.j6),fun acc hacc=>?_⟩
 refine zg (K:=K) (n:=pt.row.length) [0,1] (fun i out H1=>aC H H1∧out = (List.zipWith (fun r c=>pt.sc * r + c) (pt.row.take i) (st.cD.take i)).map V.int) (by decide) (by omega) ⟨av hacc _,rfl⟩ (fun i out H1 hi _ hp=>⟨hp.1.seq (aE.of h2),hp.1.seq (aE.of h.j6),by rw [List.length_map];exact hi,by rw [List.length_map];omega⟩)
  (fun out H1 _ hp=>⟨hp.1.seq (aE.of h2),hp.1.seq (aE.of h.j6), .inl (by rw [List.length_map];exact Nat.le_refl _)⟩) ?_ ?_
 · rintro i x out H1 H2 hi dH ha ⟨g,e⟩ ⟨p,x1,y1,hp,rfl,rfl,e1,e2⟩
   obtain ⟨t,rfl,et⟩:=ko e1
   obtain ⟨c,rfl,ec⟩:=ko e2
   have g1:=av hp (.tup [.int t, .int c])
   have s1:Jm.Sz 8000 pt.sc:=Jm.Sz.EE (by have:=wf.E5 pt uX;have:=wf.lS;omega) (wf.E5 pt uX).2 wf.big
   have s2:Jm.Sz 8000 t:=Jm.Sz.EE (wf.zu pt uX t (List.mem_of_getElem? et)).1 (wf.zu pt uX t (List.mem_of_getElem? et)).2 wf.big
   refine ⟨p,_,rfl,bF.of ai,rfl,_,rfl,qq.1,T.part,qq.2.1,_,_,rfl,(g.trans g1) _ _ h1,X.cP,X.Ob,rfl,_,rfl,_,_,rfl,rfl,Jz s1 s2,_,rfl,_,_,rfl,rfl,g1 _ _ ha,(g.trans g1).dg hacc _,?_⟩
   rw [xj _ et ec,e,List.map_append]
   rfl
 rintro out H1 dH ha ⟨g,e⟩
 rw [List.take_length,Rn,List.take_length] at e
 exact q acc H1 g hacc (by rw [ha,e];rfl)
abbrev kW:Stmt:=inClass (top 24) 22
abbrev Ba:List Str:=["self","part"]
abbrev r_:List Str:=["self","part"]
theorem Ai:aI Ba r_ (au kW):=⟨rfl,rfl,rfl,by decide +kernel,rfl,by decide +kernel,by decide +kernel⟩
theorem Aj {T:TC} (F:gQ K T.hold "stow" "Hold.stow" kW f fd) (X:Txt K T):Mn P w K mg base 1 T.hold "stow" r_ (E6 T):=by
 refine F.ok Ai (fun vs H Q E h=>?_) (fun cdv A outer s H vs Q E hr h=>?_) (fun _ _ _ _ _ _ us hl=>match us,hl with | [_,_],_=>rfl)
 · obtain ⟨n,ρ,A,st,qq,p,rfl,_⟩:=h.ex
   rfl
 obtain ⟨n,ρ,A,st,qq,p,rfl,hh,h1,h2,c1,c2,hn,wf',q⟩:=h.ex
 have h:=hh.h
 refine ⟨_,(@aj _ _ _ _ _ (@qL _ _ _ _ _ _ _ _ _ (bQ hr) (@aU _ K _ _ _ _ (@pv _ 0 _ _ (by rfl) (by first | exact Or.inl rfl | exact Or.inr (Or.inl rfl) | exact Or.inr (Or.inr rfl)) (by decide) (by decide)) (by rfl) (by rfl)) (@aU _ K _ _ _ _ (@pv _ 1 _ _ (by rfl) (by first | exact Or.inl rfl | exact Or.inr (Or.inl rfl) | exact Or.inr (Or.inr rfl)) (by decide) (by decide)) (by rfl) (by rfl)) (@pv _ 1 _ _ (by rfl) (by first | exact Or.inl rfl | exact Or.inr (Or.inl rfl) | exact Or.inr (Or.inr rfl)) (by decide) (by decide)) rfl) (@ao _ _ _ (@qL _ _ _ _ _ _ _ _ _ (bQ hr) (@aU _ K _ _ _ _ (@pv _ 0 _ _ (by rfl) (by first | exact Or.inl rfl | exact Or.inr (Or.inl rfl) | exact Or.inr (Or.inr rfl)) (by decide) (by decide)) (by rfl) (by rfl)) (@aU _ K _ _ _ _ (@pv _ 1 _ _ (by rfl) (by first | exact Or.inl rfl | exact Or.inr (Or.inl rfl) | exact Or.inr (Or.inr rfl)) (by decide) (by decide)) (by rfl) (by rfl)) (@bW _ _ _ _) rfl))),?_⟩
 have qb:∀x∈st.aq,x.nm ≠ p.nm:=fun x hx e=>hn (by rw [← e];exact hh.wf.sub x hx)
 have Ro:(cR st.aq A.qs).length < sizeLine:=by rw [qS h.ql];exact dB hh.wf.Dl
 refine ⟨_,rfl,_,rfl,A.a,T.hold,A.dx,_,_,rfl,h.oa,X.cH,X.hab,rfl,_,rfl,qq.1,T.part,qq.2.1,_,_,rfl,h1,X.cP,X.Ih,rfl,A.ab,_,rfl,pB.k (k:=Sum.inr p.nm) h.eV Ro,?_⟩
 rw [iV _ (kI qb),← GW h.ql p qq]
 have k1:qq.1 ≠ qq.2.2:=e8 h1 h2 (by intro z;cases z)
 have f1:Kp n ρ (cu (cu ρ qq.1 (n,20,p.nm)) qq.2.2 (n,21,p.nm)) H H (fun _=>true):=⟨fun _ _ e=>e,fun b t x o _ c e=>⟨e,by
  rw [bg (fun z=>by rw [z,c2] at c;cases c),bg (fun z=>by rw [z,c1] at c;cases c)];exact c⟩⟩
 have hc:=h.same f1
 have g1:Gh (cu (cu ρ qq.1 (n,20,p.nm)) qq.2.2 (n,21,p.nm)) H:=(hh.g.color h1 rfl).color h2 rfl
 have Rp:zy n qq.1 qq.2.2 ρ H (cu (cu ρ qq.1 (n,20,p.nm)) qq.2.2 (n,21,p.nm)) H:=fun b o e k n1 n2=>⟨e,by rw [bg n2,bg n1]⟩
 have hs:=hc.Lh g1 (st.aq ++ [p]) (A.qs ++ [qq]) (by rw [List.length_append,List.length_append,h.ql];rfl) (fun i x y ex ey=>by
  by_cases hi:i < st.aq.length
  · rw [List.getElem?_append_left hi] at ex
    rw [List.getElem?_append_left (by rw [h.ql];exact hi)] at ey
    exact hc.opt i x y ex ey
  · rw [List.getElem?_append_right (by omega)] at ex
    rw [List.getElem?_append_right (by rw [h.ql];omega),h.ql] at ey
    have e0:i - st.aq.length = 0:=by
     rcases Nat.eq_zero_or_pos (i - st.aq.length) with z | z
     · exact z
     · rw [List.getElem?_eq_none (by show 1≤_;exact z)] at ex;cases ex
    rw [e0] at ex ey
    cases ex;cases ey
    exact ⟨h1,h2,by rw [bg k1];exact c8,c8⟩)
 have g2:=g1.wr (a:=A.ab) (o:= .dK (cR (st.aq ++ [p]) (A.qs ++ [qq]))) rfl
 have Rq:Fr n _ H _ (upd H A.ab (.dK (cR (st.aq ++ [p]) (A.qs ++ [qq])))):=Fr.write hc.fL
 have Ik:upd H A.ab (.dK (cR (st.aq ++ [p]) (A.qs ++ [qq]))) qq.1 = some (.ins T.part qq.2.1 (sZ p qq.2.2)):=by rw [ak (e8 h1 h.eV (by intro z;cases z))];exact h1
 refine ⟨_,rfl,A.a,T.hold,A.dx,_,_,rfl,hs.oa,X.cH,X.hnm,rfl,_,rfl,qq.1,T.part,qq.2.1,_,_,rfl,Ik,X.cP,X.Ih,rfl,A.nm,_,rfl,pB.k (k:=Sum.inr p.nm) hs.rO (by unfold pM;rw [List.length_map];exact dB hh.wf.GR),?_⟩
 rw [iV _ (pN hn),show pM st.nms ++ [(Sum.inr p.nm,V.bl true)] = pM (st.nms ++ [p.nm]) from by unfold pM;rw [List.map_append];rfl]
 have hs2:=hs.Li g2 (st.nms ++ [p.nm])
 exact q _ _ _ ⟨g2.wr rfl,hs2,wf'⟩ rfl (Rp.trans (Rq.trans (Fr.write hs.jB)))
abbrev kX:Stmt:=inClass (top 24) 1
abbrev Bb:List Str:=["self","owner","part"]
abbrev sf:List Str:=["self","owner"]
theorem qc:aI Bb sf (au kX):=⟨rfl,rfl,rfl,by decide +kernel,rfl,by decide +kernel,by decide +kernel⟩
theorem xT {T:TC} {e:Ec} (F:gQ K T.hold "sign" "Hold.sign" kX f fd) (X:Txt K T) (gS:Dn P w K mg base 2 "is_name" ["text"] nP) (aV:mg "len" = none) (gh:dQ K e.bad) (eE:mg "BadName" = some (.ref e.bad)) (i8:dQ K e.twice) (gi:mg "Twice" = some (.ref e.twice)):Mx P w K mg base 3 T.hold "sign" sf (Cy T e):=by
 refine F.zU qc (fun vs H Q E h=>?_) (fun cdv A outer s H vs Q E hr h=>?_) (fun _ _ _ _ _ _ us hl=>match us,hl with | [_,_],_=>rfl)
 · obtain ⟨n,ρ,A,st,o,rfl,_⟩:=h.ex
   rfl
 obtain ⟨n,ρ,A,st,o,rfl,hh,hx,hl,dq⟩:=h.ex
 refine ⟨_,(@aj _ _ _ _ _ (@bh _ _ _ _ _ _ _ _ (@bN _ _ _ _ (@bI _ _ _ (@aR _ _ _ _ _ _ _ _ _ _ _ gS hr (@aa _ _ _ _ _ (@pv _ 1 _ _ (by rfl) (by first | exact Or.inl rfl | exact Or.inr (Or.inl rfl) | exact Or.inr (Or.inr rfl)) (by decide) (by decide)) (@ah _) (by rfl)) (by decide) (by rfl) (by decide) (by rfl) (by rfl)) (by intro _;rfl))) (@ao _ _ _ (@gI _ _ _ _ _ _ _ _ _ _ _ _ _ _ _ _ _ _ _ _ _ _ _ gh (by rfl) eE (by decide))) (@aJ _)) (@aj _ _ _ _ _ (@bh _ _ _ _ _ _ _ _ (@o8 _ _ _ _ _ _ (@Ey _ _ _ _ _ (bQ hr) (@pv _ 1 _ _ (by rfl) (by first | exact Or.inl rfl | exact Or.inr (Or.inl rfl) | exact Or.inr (Or.inr rfl)) (by decide) (by decide)) (@aU _ K _ _ _ _ (@pv _ 0 _ _ (by rfl) (by first | exact Or.inl rfl | exact Or.inr (Or.inl rfl) | exact Or.inr (Or.inr rfl)) (by decide) (by decide)) (by rfl) (by rfl))) (by first | exact gG _ (by decide) (by decide) | rfl)) (@ao _ _ _ (@gI _ _ _ _ _ _ _ _ _ _ _ _ _ _ _ _ _ _ _ _ _ _ _ i8 (by rfl) gi (by decide))) (@aJ _)) (@aj _ _ _ _ _ (@qL _ _ _ _ _ _ _ _ _ (bQ hr) (@aU _ K _ _ _ _ (@pv _ 0 _ _ (by rfl) (by first | exact Or.inl rfl | exact Or.inr (Or.inl rfl) | exact Or.inr (Or.inr rfl)) (by decide) (by decide)) (by rfl) (by rfl)) (@pv _ 1 _ _ (by rfl) (by first | exact Or.inl rfl | exact Or.inr (Or.inl rfl) | exact Or.inr (Or.inr rfl)) (by decide) (by decide)) (@aB _ _ _ _ _ _ _ _ _ wW (by rfl) aV PySem.boot_len (@aa _ _ _ _ _ (@aU _ K _ _ _ _ (@pv _ 0 _ _ (by rfl) (by first | exact Or.inl rfl | exact Or.inr (Or.inl rfl) | exact Or.inr (Or.inr rfl)) (by decide) (by decide)) (by rfl) (by rfl)) (@ah _) (by rfl)) (by decide) (by decide) (by rfl) (by rfl)) rfl) (@aj _ _ _ _ _ (@fD _ _ _ _ (@qI _ _ _ _ _ _ _ _ _ _ _ _ PySem.F.plainAttrs_list PySem.F.slot_list_append PySem.F.type_list_append eZ (@aU _ K _ _ _ _ (@pv _ 0 _ _ (by rfl) (by first | exact Or.inl rfl | exact Or.inr (Or.inl rfl) | exact Or.inr (Or.inr rfl)) (by decide) (by decide)) (by rfl) (by rfl)) (@aa _ _ _ _ _ (@af _ _ _ _) (@ah _) (by rfl)) (by rfl) (by rfl) (by rfl) (by rfl) (by rfl)) (by rfl)) (@aj _ _ _ _ _ (@fD _ _ _ _ (@qI _ _ _ _ _ _ _ _ _ _ _ _ PySem.F.plainAttrs_list PySem.F.slot_list_append PySem.F.type_list_append eZ (@aU _ K _ _ _ _ (@pv _ 0 _ _ (by rfl) (by first | exact Or.inl rfl | exact Or.inr (Or.inl rfl) | exact Or.inr (Or.inr rfl)) (by decide) (by decide)) (by rfl) (by rfl)) (@aa _ _ _ _ _ (@af _ _ _ _) (@ah _) (by rfl)) (by rfl) (by rfl) (by rfl) (by rfl) (by rfl)) (by rfl)) (@ao _ _ _ (@Ld _ _ _ (@dO _ _ _ _ _ _ _ _ PassesOwn.leaving rfl (@vG _ _ _ _ _ _ (@aU _ K _ _ _ _ (@pv _ 0 _ _ (by rfl) (by first | exact Or.inl rfl | exact Or.inr (Or.inl rfl) | exact Or.inr (Or.inr rfl)) (by decide) (by decide)) (by rfl) (by rfl)) (by rfl) (by rfl)) (@aZ _ _ (2) _ qc.nd rfl (Or.inl rfl) (by first | exact .inl rfl | exact .inr rfl | assumption)) (@ao _ _ _ (@fD _ _ _ _ (@qI _ _ _ _ _ _ _ _ _ _ _ _ PySem.F.plainAttrs_list PySem.F.slot_list_append PySem.F.type_list_append eZ (@aU _ K _ _ _ _ (@pv _ 2 _ _ (by rfl) (by first | exact Or.inl rfl | exact Or.inr (Or.inl rfl) | exact Or.inr (Or.inr rfl)) (by decide) (by decide)) (by rfl) (by rfl)) (@aa _ _ _ _ _ (@af _ _ _ _) (@ah _) (by rfl)) (by rfl) (by rfl) (by rfl) (by rfl) (by rfl)) (by rfl))) (by intro _;rfl))))))))),?_⟩
 refine ⟨_,rfl,uz (cs:=o.cps.toList) hx fun H1 g1=>⟨_,rfl,?_⟩⟩
 by_cases hx:isName o.cps.toList = true
 rotate_left
 · rw [Bool.eq_false_iff.mpr hx]
   exact dW fun y=>dq.no 0 (by unfold q_ isNm;rw [if_neg hx]) y H1 g1
 rw [hx]
 refine bq ?_
 have fW:=hh.mono g1
 have h1:=fW.h
 have F1:Fr n ρ H ρ H1:=Fr.of_same g1
 refine ⟨_,rfl,_,rfl,A.a,T.hold,A.dx,_,_,rfl,h1.oa,X.cH,X.hpl,rfl,A.pl,_,rfl,b_.k (k:=Sum.inr o) h1.fu,_,rfl,?_⟩
 by_cases hn:o∈st.own
 · rw [vK hn]
   exact dW fun y=>dq.no 1 (by unfold q_ isNm;rw [if_pos hx,if_pos hn]) y H1 g1
 have q:=dq.ok (uP hx hn)
 rw [ig hn]
 refine bq ?_
 have CB:=kg st.own 0
 refine ⟨_,rfl,A.a,T.hold,A.dx,_,_,rfl,h1.oa,X.cH,X.hpl,rfl,A.pl,_,rfl,h1.fu,_,rfl,A.a,T.hold,A.dx,_,_,rfl,h1.oa,X.cH,X.hpl,rfl,_,rfl,A.pl,_,rfl,pB.k (k:=Sum.inr o) h1.fu (dB (by rw [CB];omega)),?_⟩
 rw [iV _ (ig hn),CB,show cM 0 st.own ++ [(Sum.inr o,V.int (st.own.length:Int))] = cM 0 (st.own ++ [o]) from by rw [zw,Nat.zero_add]]
 have h2:=h1.Lg fW.g (st.own ++ [o])
 have G2:=fW.g.wr (a:=A.pl) (o:= .dK (cM 0 (st.own ++ [o]))) rfl
 have F2:=F1.trans (Fr.write (o:= .dK (cM 0 (st.own ++ [o]))) h1.iM)
 generalize upd H1 A.pl (.dK (cM 0 (st.own ++ [o]))) = H2 at *
 have lcm:(st.cD.map V.int).length < sizeLine:=by rw [List.length_map,hh.wf.iX];exact dB (by omega)
 refine ⟨_,rfl,A.a,T.hold,A.dx,_,_,rfl,h2.oa,X.cH,X.zj,rfl, .inl ⟨rfl,_,aE.of h2.j6⟩,A.cm,_,_,rfl,rfl,h2.j6,lcm,?_⟩
 rw [show st.cD.map V.int ++ [V.int 0] = (st.cD ++ [0]).map V.int from by rw [List.map_append];rfl]
 have h3:=h2.Lj G2 (st.cD ++ [0])
 have G3:=G2.wr (a:=A.cm) (o:= .lst ((st.cD ++ [0]).map V.int)) rfl
 have F3:=F2.trans (Fr.write (o:= .lst ((st.cD ++ [0]).map V.int)) h2.jC)
 generalize upd H2 A.cm (.lst ((st.cD ++ [0]).map V.int)) = H3 at *
 have Rr:(st.dw.map V.int).length < sizeLine:=by rw [List.length_map,hh.wf.Dj];exact dB (by omega)
 refine ⟨_,rfl,A.a,T.hold,A.dx,_,_,rfl,h3.oa,X.cH,X.E4,rfl, .inl ⟨rfl,_,aE.of h3.rP⟩,A.pu,_,_,rfl,rfl,h3.rP,Rr,?_⟩
 rw [show st.dw.map V.int ++ [V.int 0] = (st.dw ++ [0]).map V.int from by rw [List.map_append];rfl]
 have h4:=h3.Lk G3 (st.dw ++ [0])
 have G4:=G3.wr (a:=A.pu) (o:= .lst ((st.dw ++ [0]).map V.int)) rfl
 have F4:=F3.trans (Fr.write (o:= .lst ((st.dw ++ [0]).map V.int)) h3.cpu)
 generalize upd H3 A.pu (.lst ((st.dw ++ [0]).map V.int)) = H4 at *
 clear h1 h2 h3 G2 G3 F2 F3 fW
 have hpl:=hh.wf.Dl
 refine ⟨A.ab,_,h4.eV,fun ob=>?_⟩
 refine ⟨_,rfl,A.a,T.hold,A.dx,_,_,rfl,fC h4.eV h4.oa (fun k z=>by cases z),X.cH,X.hab,rfl,A.ab,ob,_,rfl,ai,?_⟩
 have el:=qS h4.ql
 have Oo:(cR st.aq A.qs).length = st.aq.length:=el
 refine GI (n:=st.aq.length) (fun i σ H'=>(∃s2,σ = [some (.ref A.a),some (.str o),s2])∧jy H' A.ab ob (cR st.aq A.qs)∧∃H5,H' = upd H5 A.ab (.cV ob (.dK (cR st.aq A.qs)))∧Gh ρ H5∧Fr n ρ H ρ H5∧
   aS T n ρ A H5 { st with own:=st.own ++ [o],cD:=st.cD ++ [0],dw:=st.dw ++ [0],aq:=(st.aq.take i).map (fun p=>{ p with row:=p.row ++ [0] }) ++ st.aq.drop i })
  ⟨⟨_,rfl⟩,ai,H4,rfl,G4,F4,h4⟩ (fun i σ H' hi hp=>⟨hp.2.1,by rw [Oo];exact hi⟩) (fun σ H' hp=>⟨hp.2.1,by rw [Oo];exact Nat.le_refl _⟩) ?_ ?_
 · rintro i x σ H' xo hi ⟨⟨s2,rfl⟩,hz,H5,rfl,G5,F5,h5⟩ ⟨rfl,kv,hkv,rfl⟩
   have ep:=List.getElem?_eq_getElem hi
   have Oq:=GX (fun p:Pt=>{ p with row:=p.row ++ [0] }) ep
   obtain ⟨qq,eq,k1,k2,k3,k4⟩:=h5.find Oq
   rw [vL ep eq] at hkv
   cases hkv
   have Iz:=zM (fun p:Pt=>{ p with row:=p.row ++ [0] }) (fun p:Pt=>p.nm) (fun _=>rfl) st.aq i
   have Rt:(((st.aq.take i).map (fun p:Pt=>{ p with row:=p.row ++ [0] }) ++ st.aq.drop i).map (fun p:Pt=>p.nm)).Nodup:=by rw [Iz];exact hh.wf.zl
   have z1:=fC (o:=ob) h5.eV k1 (fun k z=>by cases z)
   have z2:=fC (o:=ob) h5.eV k2 (fun k z=>by cases z)
   rw [show cR ({ st with own:=st.own ++ [o],cD:=st.cD ++ [0],dw:=st.dw ++ [0],aq:=(st.aq.take i).map (fun p:Pt=>{ p with row:=p.row ++ [0] }) ++ st.aq.drop i }:HS).aq A.qs = cR st.aq A.qs from xm Iz] at z1 z2
   have hrl:((st.aq[i]).row.map V.int).length < sizeLine:=by rw [List.length_map,hh.wf.rows _ (List.getElem_mem hi)];exact dB (by omega)
   refine ⟨_,rfl,qq.1,T.part,qq.2.1,_,_,rfl,z1,X.cP,X.Lm,rfl, .inl ⟨rfl,_,aE.of z2⟩,qq.2.2,_,_,rfl,rfl,z2,hrl,?_⟩
   have na:A.ab ≠ qq.2.2:=(e8 k2 h5.eV (by intro z;cases z)).symm
   rw [show (st.aq[i]).row.map V.int ++ [V.int 0] = ((st.aq[i]).row ++ [0]).map V.int from by rw [List.map_append];rfl]
   have h6:=h5.JL G5 ((st.aq[i]).row ++ [0]) Oq eq Rt
   rw [show ({ st with own:=st.own ++ [o],cD:=st.cD ++ [0],dw:=st.dw ++ [0],aq:=(st.aq.take i).map (fun p:Pt=>{ p with row:=p.row ++ [0] }) ++ st.aq.drop i }:HS).aq.set i { st.aq[i] with row:=(st.aq[i]).row ++ [0] } = _ from GY (fun p:Pt=>{ p with row:=p.row ++ [0] }) ep] at h6
   exact ⟨⟨_,rfl⟩,(ak na).trans hz,_,kJ na,G5.wr rfl,F5.trans (Fr.write k4),h6⟩
 · rintro σ H' ⟨_,hz,H5,rfl,G5,F5,h5⟩
   have Iz:=zM (fun p:Pt=>{ p with row:=p.row ++ [0] }) (fun p:Pt=>p.nm) (fun _=>rfl) st.aq st.aq.length
   have e5:cR ({ st with own:=st.own ++ [o],cD:=st.cD ++ [0],dw:=st.dw ++ [0],aq:=(st.aq.take st.aq.length).map (fun p:Pt=>{ p with row:=p.row ++ [0] }) ++ st.aq.drop st.aq.length }:HS).aq A.qs = cR st.aq A.qs:=xm Iz
   have Ot:=h5.eV
   rw [e5] at Ot
   refine ⟨hz,?_⟩
   rw [qD,tE Ot]
   have es:({ st with own:=st.own ++ [o],cD:=st.cD ++ [0],dw:=st.dw ++ [0],aq:=(st.aq.take st.aq.length).map (fun p:Pt=>{ p with row:=p.row ++ [0] }) ++ st.aq.drop st.aq.length }:HS) = cY st o:=by
    unfold cY
    rw [List.take_length,List.drop_length,List.append_nil]
   rw [es] at h5
   exact q ρ A H5 ⟨G5,h5,JN hh.wf hn hl⟩ rfl F5
abbrev kY:Stmt:=inClass (top 24) 2
abbrev Bc:List Str:=["self","part","owner","worth","weight","place","tops"]
abbrev sj:List Str:=["self","part","owner","worth","weight"]
theorem kZ:aI Bc sj (au kY):=⟨rfl,rfl,rfl,by decide +kernel,rfl,by decide +kernel,by decide +kernel⟩
theorem xU {T:TC} {e:Ec} (F:gQ K T.hold "load" "Hold.load" kY f fd) (X:Txt K T) (gu:Mx P w K mg base 3 T.hold "check_new" ["self","name"] (rW T e)) (fh:Mx P w K mg base 1 T.hold "place_of" ["self","owner"] (tK T e))
  (fj:Mn P w K mg base 1 T.hold "beyond_common" ["self","tops"] (Il T K)) (mH:Mn P w K mg base 1 T.hold "stow" ["self","part"] (E6 T)) (Ak:Cn P w K mg base 1 "Part" T.part ["self","name","owner","worth","weight","scale","row"] (Cd T K)) (aV:mg "len" = none) (k_:dQ K e.jD) (fF:mg "BadNumber" = some (.ref e.jD)):Mx P w K mg base 4 T.hold "load" sj (vR T e):=by
 refine F.zU kZ (fun vs H Q E h=>?_) (fun cdv A outer s H vs Q E hr h=>?_) (fun _ _ _ _ _ _ us hl=>match us,hl with | [_,_,_,_,_],_=>rfl)
 · obtain ⟨n,ρ,A,st,x,o,wo,we,rfl,_⟩:=h.ex
   rfl
 obtain ⟨n,ρ,A,st,x,o,wo,we,rfl,hh,hx,h6,h7,dq⟩:=h.ex
 refine ⟨_,(@aj _ _ _ _ _ (@fD _ _ _ _ (@vQ _ _ _ _ _ _ _ _ _ _ _ _ _ _ _ _ _ _ _ _ _ _ _ _ _ _ _ _ _ gu hr (@pv _ 0 _ _ (by rfl) (by first | exact Or.inl rfl | exact Or.inr (Or.inl rfl) | exact Or.inr (Or.inr rfl)) (by decide) (by decide)) (@aa _ _ _ _ _ (@pv _ 1 _ _ (by rfl) (by first | exact Or.inl rfl | exact Or.inr (Or.inl rfl) | exact Or.inr (Or.inr rfl)) (by decide) (by decide)) (@ah _) (by rfl)) (by decide) (by rfl) (by rfl) (by rfl)) (by rfl)) (@aj _ _ _ _ _ (@aG _ _ (5) _ _ _ _ kZ.nd rfl (Or.inl rfl) (@vQ _ _ _ _ _ _ _ _ _ _ _ _ _ _ _ _ _ _ _ _ _ _ _ _ _ _ _ _ _ fh hr (@pv _ 0 _ _ (by rfl) (by first | exact Or.inl rfl | exact Or.inr (Or.inl rfl) | exact Or.inr (Or.inr rfl)) (by decide) (by decide)) (@aa _ _ _ _ _ (@pv _ 2 _ _ (by rfl) (by first | exact Or.inl rfl | exact Or.inr (Or.inl rfl) | exact Or.inr (Or.inr rfl)) (by decide) (by decide)) (@ah _) (by rfl)) (by decide) (by rfl) (by rfl) (by rfl)) (by rfl) (by first | exact .inl rfl | exact .inr rfl | assumption)) (@aj _ _ _ _ _ (@bh _ _ _ _ _ _ _ _ (@cQ _ _ _ (PW.pt (@dR _ _ _ _ _ _ _ (@aM _ _ _ _ _ _ _ _ uc (@pv _ 3 _ _ (by rfl) (by first | exact Or.inl rfl | exact Or.inr (Or.inl rfl) | exact Or.inr (Or.inr rfl)) (by decide) (by decide)) (@af _ _ _ _) (aY _)) (@dG _ _ _ _ (@aM _ _ _ _ _ _ _ _ uc (@pv _ 4 _ _ (by rfl) (by first | exact Or.inl rfl | exact Or.inr (Or.inl rfl) | exact Or.inr (Or.inr rfl)) (by decide) (by decide)) (@af _ _ _ _) (aY _)))))) (@ao _ _ _ (@gI _ _ _ _ _ _ _ _ _ _ _ _ _ _ _ _ _ _ _ _ _ _ _ k_ (by rfl) fF (by decide))) (@aJ _)) (@aj _ _ _ _ _ (@aG _ _ (6) _ _ _ _ kZ.nd rfl (Or.inl rfl) (@az _ _ _ _ _ _ _ _ KP (@cI _ _ _ _ (@aa _ _ _ _ _ (@af _ _ _ _) (@ah _) (by rfl))) (@aB _ _ _ _ _ _ _ _ _ wW (by rfl) aV PySem.boot_len (@aa _ _ _ _ _ (@aU _ K _ _ _ _ (@pv _ 0 _ _ (by rfl) (by first | exact Or.inl rfl | exact Or.inr (Or.inl rfl) | exact Or.inr (Or.inr rfl)) (by decide) (by decide)) (by rfl) (by rfl)) (@ah _) (by rfl)) (by decide) (by decide) (by rfl) (by rfl))) (by rfl) (by first | exact .inl rfl | exact .inr rfl | assumption)) (@aj _ _ _ _ _ (@D_ _ _ _ _ _ _ (@aU _ K _ _ _ _ (@aU _ K _ _ _ _ (@pv _ 0 _ _ (by rfl) (by first | exact Or.inl rfl | exact Or.inr (Or.inl rfl) | exact Or.inr (Or.inr rfl)) (by decide) (by decide)) (by rfl) (by rfl)) (by rfl) (by rfl)) (@D9 _ _ _ _ _ _ _ (@pv _ 6 _ _ (by rfl) (by first | exact Or.inl rfl | exact Or.inr (Or.inl rfl) | exact Or.inr (Or.inr rfl)) (by decide) (by decide)) (@pv _ 5 _ _ (by rfl) (by first | exact Or.inl rfl | exact Or.inr (Or.inl rfl) | exact Or.inr (Or.inr rfl)) (by decide) (by decide)) set_list (by intro _;rfl)) (by rfl) (by rfl) (by rfl)) (@ao _ _ _ (@fD _ _ _ _ (@jz _ _ _ _ _ _ _ _ _ _ _ _ _ _ _ mH hr (@pv _ 0 _ _ (by rfl) (by first | exact Or.inl rfl | exact Or.inr (Or.inl rfl) | exact Or.inr (Or.inr rfl)) (by decide) (by decide)) (@aa _ _ _ _ _ (@Ng _ _ _ _ _ _ _ _ _ _ _ _ Ak hr (@aa _ _ _ _ _ (@pv _ 1 _ _ (by rfl) (by first | exact Or.inl rfl | exact Or.inr (Or.inl rfl) | exact Or.inr (Or.inr rfl)) (by decide) (by decide)) (@aa _ _ _ _ _ (@pv _ 2 _ _ (by rfl) (by first | exact Or.inl rfl | exact Or.inr (Or.inl rfl) | exact Or.inr (Or.inr rfl)) (by decide) (by decide)) (@aa _ _ _ _ _ (@pv _ 3 _ _ (by rfl) (by first | exact Or.inl rfl | exact Or.inr (Or.inl rfl) | exact Or.inr (Or.inr rfl)) (by decide) (by decide)) (@aa _ _ _ _ _ (@pv _ 4 _ _ (by rfl) (by first | exact Or.inl rfl | exact Or.inr (Or.inl rfl) | exact Or.inr (Or.inr rfl)) (by decide) (by decide)) (@aa _ _ _ _ _ (@af _ _ _ _) (@aa _ _ _ _ _ (@jz _ _ _ _ _ _ _ _ _ _ _ _ _ _ _ fj hr (@pv _ 0 _ _ (by rfl) (by first | exact Or.inl rfl | exact Or.inr (Or.inl rfl) | exact Or.inr (Or.inr rfl)) (by decide) (by decide)) (@aa _ _ _ _ _ (@pv _ 6 _ _ (by rfl) (by first | exact Or.inl rfl | exact Or.inr (Or.inl rfl) | exact Or.inr (Or.inr rfl)) (by decide) (by decide)) (@ah _) (by rfl)) (by decide) (by rfl) (by rfl) (by rfl)) (@ah _) (by rfl)) (by rfl)) (by rfl)) (by rfl)) (by rfl)) (by rfl)) (by decide) (by rfl) (by decide) (by rfl) (by rfl)) (@ah _) (by rfl)) (by decide) (by rfl) (by rfl) (by rfl)) (by rfl)))))))),?_⟩
 refine ⟨_,rfl,A.a,A.dx,_,rfl,hh.h.oa,rfl,_,rfl,⟨⟨n,ρ,A,st,x,rfl,hh.h,hx,fun i hi=>dq.no i (by unfold fP;rw [hi]),fun hnew H1 g1=>?_⟩⟩⟩
 have fW:=hh.mono g1
 have F1:Fr n ρ H ρ H1:=Fr.of_same g1
 clear hh
 refine ⟨_,rfl,A.a,A.dx,_,rfl,fW.h.oa,rfl,_,rfl,⟨⟨n,ρ,A,st,o,rfl,fW.h,fun ho=>(dq.no 2 (by unfold fP;rw [hnew];exact if_neg ho)).mono g1,fun ho=>?_⟩⟩⟩
 by_cases hb:wo < 1∨we < 0
 · have rq:=dq.no 5 (by unfold fP;rw [hnew];show (if o∈st.own then _ else _) = _;rw [if_pos ho,if_pos hb])
   refine ⟨true,⟨_,rfl,_,_,rfl,rfl,_,rfl,cX (fun c=>⟨rfl,rfl⟩) fun c=>⟨_,rfl,_,_,rfl,rfl,_,rfl,decide_eq_true (hb.resolve_left fun z=>c (decide_eq_true z)),rfl⟩⟩,dW fun y=>rq y H1 g1⟩
 have q:=dq.ok (by unfold fP;rw [hnew];show (if o∈st.own then _ else _) = _;rw [if_pos ho,if_neg hb])
 have h4:1≤wo:=by omega
 have h5:0≤we:=by omega
 have hn:x ∉ st.nms:=by
  intro z
  unfold newR at hnew
  by_cases hc:isNm x = true
  · rw [if_pos hc,if_pos z] at hnew;cases hnew
  · rw [if_neg hc] at hnew;cases hnew
 refine ⟨false,⟨_,rfl,_,_,rfl,rfl,_,rfl,cX (fun c=>absurd (of_decide_eq_true c) (by omega)) fun _=>⟨_,rfl,_,_,rfl,rfl,_,rfl,decide_eq_false (by omega),rfl⟩⟩,bq ?_⟩
 refine ⟨(by show 1≤sizeLine;decide),fun p0 hp0=>?_⟩
 have g2:=av hp0 (.lst [.int 0])
 have nv:=fW.mono g2
 have F2:=F1.trans (Fr.of_same (ρ:=ρ) g2)
 have Qj:upd H1 p0 (.lst [.int 0]) p0 = some (.lst [.int 0]):=ai
 generalize upd H1 p0 (.lst [.int 0]) = H2 at *
 clear fW F1
 have CB:=kg st.own 0
 have dH:=nv.wf.zm
 refine ⟨_,rfl,A.a,T.hold,A.dx,_,_,rfl,nv.h.oa,X.cH,X.hpl,rfl,A.pl,_,rfl,nv.h.fu,p0,_,_,rfl,rfl,Qj,by omega,by rw [CB];omega,by rw [CB];show 1 * _≤_;rw [Int.toNat_natCast,Nat.one_mul];exact small (by omega),fun p1 hp1=>?_⟩
 rw [CB,Int.toNat_natCast,show (List.replicate st.own.length [V.int 0]).flatten = (List.replicate st.own.length (0:Int)).map V.int from by rw [List.map_replicate,List.flatten_replicate_singleton]]
 have g3:=av hp1 (.lst ((List.replicate st.own.length (0:Int)).map V.int))
 have qe:=nv.mono g3
 have F3:=F2.trans (Fr.of_same (ρ:=ρ) g3)
 have n1:H p1 = none:=(g1.trans g2).free hp1
 have c1:ρ p1 = none:=nv.g.none hp1
 have Al:upd H2 p1 (.lst ((List.replicate st.own.length (0:Int)).map V.int)) p1 = _:=ai
 generalize upd H2 p1 (.lst ((List.replicate st.own.length (0:Int)).map V.int)) = H3 at *
 have hi:=List.idxOf_lt_length_iff.mpr ho
 refine ⟨_,rfl,A.a,T.hold,A.dx,_,_,rfl,qe.h.oa,X.cH,X.xg,rfl,A.bt,T.bot,A.db,_,_,rfl,qe.h.oH,X.cB,X.Ln,rfl,_,rfl,_,rfl,p1,_,_,st.own.idxOf o,rfl,rfl,Al,by rw [List.length_map,List.length_replicate];exact B0 hi,?_⟩
 rw [show ((List.replicate st.own.length (0:Int)).map V.int).set (st.own.idxOf o) (V.int st.prod) = ((List.replicate st.own.length (0:Int)).set (st.own.idxOf o) st.prod).map V.int from by rw [List.map_set]]
 have qf:=qe.Nh (o:= .lst (((List.replicate st.own.length (0:Int)).set (st.own.idxOf o) st.prod).map V.int)) c1 Al rfl rfl
 have F4:=F3.new (o:= .lst (((List.replicate st.own.length (0:Int)).set (st.own.idxOf o) st.prod).map V.int)) n1
 have Qk:upd H3 p1 (.lst (((List.replicate st.own.length (0:Int)).set (st.own.idxOf o) st.prod).map V.int)) p1 = _:=ai
 have s4:aC H (upd H3 p1 (.lst (((List.replicate st.own.length (0:Int)).set (st.own.idxOf o) st.prod).map V.int))):=((g1.trans g2).trans g3).dg n1 _
 generalize upd H3 p1 (.lst (((List.replicate st.own.length (0:Int)).set (st.own.idxOf o) st.prod).map V.int)) = H4 at *
 clear nv qe F2 F3
 refine ⟨_,rfl,A.a,A.dx,_,rfl,qf.h.oa,rfl,_,rfl,_,rfl,_,rfl,_,rfl,_,rfl,A.a,A.dx,_,rfl,qf.h.oa,rfl,_,rfl,⟨⟨n,ρ,A,st,p1,_,rfl,qf.h,aE.of Qk,by rw [List.length_set,List.length_replicate,qf.wf.iX],by rw [List.length_set,List.length_replicate];omega,fun r H5 g5 Ss Hz=>?_⟩⟩⟩
 intro y dy hy Ou Ru
 have LP:upd (upd H5 dy (.own y)) y (.ins T.part dy []) r = some (.lst ((pO st ((List.replicate st.own.length 0).set (st.own.idxOf o) st.prod)).map V.int)):=by rw [ak (aA Hz hy),ak (aA Hz Ou)];exact Hz
 refine ⟨⟨y,dy,r,⟨x,o,wo,we,1,pO st ((List.replicate st.own.length 0).set (st.own.idxOf o) st.prod)⟩,rfl,ai,aE.of LP,fun rr H6 hrr k6 Rv Ql=>⟨rfl,?_⟩⟩⟩
 have LQ:H5 rr = none:=by
  have e1:rr ≠ y:=fun e=>by rw [e,ai] at hrr;cases hrr
  have e2:rr ≠ dy:=fun e=>by rw [e,ak Ru,ai] at hrr;cases hrr
  rw [ak e1,ak e2] at hrr;exact hrr
 have g6:aC H5 H6:=fun b u e=>k6 b u (by rw [ak (aA e hy),ak (aA e Ou)];exact e) (aA e hy)
 have uY:=qf.mono g5
 have sr:=uY.mono g6
 have F6:=F4.trans (Fr.of_same (ρ:=ρ) (g5.trans g6))
 exact ⟨⟨n,ρ,A,st,(y,dy,rr),_,rfl,sr,Rv,Ql,uY.g.none hy,uY.g.none LQ,hn,JP qf.wf hn h6 h7 ho h4 h5,fun ρ' A' H' a1 a2 a3=>q ρ' A' H' a1 a2 (a3.fr F6 ((s4.trans g5).free hy) ((s4.trans g5).free LQ))⟩⟩
abbrev lg:Stmt:=inClass (top 24) 0
abbrev Bd:List Str:=["self"]
abbrev su:List Str:=["self"]
theorem Am:aI Bd su (au lg):=⟨rfl,rfl,rfl,by decide +kernel,rfl,by decide +kernel,by decide +kernel⟩
theorem An {T:TC} (F:B9 K mg "Hold" T.hold "Hold.__init__" lg f fd) (X:Txt K T) (tP:Cn P w K mg base 1 "Bottom" T.bot ["self"] (Cc T)):Cn P w K mg base 3 "Hold" T.hold su (Ce T):=by
 refine F.ok Am (fun vs H Q E h=>?_) (fun cdv A outer s H vs Q E hr h=>?_) (fun _ _ _ _ _ _ us hl=>match us,hl with | [_],_=>rfl)
 · obtain ⟨p,dx,ρ,n,rfl,_⟩:=h.ex
   rfl
 obtain ⟨p,dx,ρ,n,rfl,hp,g,hρ,q⟩:=h.ex
 refine ⟨_,(@aj _ _ _ _ _ (@c6 _ K _ _ _ _ _ _ _ (@pv _ 0 _ _ (by rfl) (by first | exact Or.inl rfl | exact Or.inr (Or.inl rfl) | exact Or.inr (Or.inr rfl)) (by decide) (by decide)) (@nL _ _) (by rfl) (by rfl)) (@aj _ _ _ _ _ (@c6 _ K _ _ _ _ _ _ _ (@pv _ 0 _ _ (by rfl) (by first | exact Or.inl rfl | exact Or.inr (Or.inl rfl) | exact Or.inr (Or.inr rfl)) (by decide) (by decide)) (@nL _ _) (by rfl) (by rfl)) (@aj _ _ _ _ _ (@c6 _ K _ _ _ _ _ _ _ (@pv _ 0 _ _ (by rfl) (by first | exact Or.inl rfl | exact Or.inr (Or.inl rfl) | exact Or.inr (Or.inr rfl)) (by decide) (by decide)) (@cI _ _ _ _ (@ah _)) (by rfl) (by rfl)) (@aj _ _ _ _ _ (@c6 _ K _ _ _ _ _ _ _ (@pv _ 0 _ _ (by rfl) (by first | exact Or.inl rfl | exact Or.inr (Or.inl rfl) | exact Or.inr (Or.inr rfl)) (by decide) (by decide)) (@nL _ _) (by rfl) (by rfl)) (@aj _ _ _ _ _ (@c6 _ K _ _ _ _ _ _ _ (@pv _ 0 _ _ (by rfl) (by first | exact Or.inl rfl | exact Or.inr (Or.inl rfl) | exact Or.inr (Or.inr rfl)) (by decide) (by decide)) (@E1 _ _ _ _ _ _ _ _ _ tP hr (by decide) (by rfl) (by decide)) (by rfl) (by rfl)) (@aj _ _ _ _ _ (@c6 _ K _ _ _ _ _ _ _ (@pv _ 0 _ _ (by rfl) (by first | exact Or.inl rfl | exact Or.inr (Or.inl rfl) | exact Or.inr (Or.inr rfl)) (by decide) (by decide)) (@cI _ _ _ _ (@ah _)) (by rfl) (by rfl)) (@ao _ _ _ (@c6 _ K _ _ _ _ _ _ _ (@pv _ 0 _ _ (by rfl) (by first | exact Or.inl rfl | exact Or.inr (Or.inl rfl) | exact Or.inr (Or.inr rfl)) (by decide) (by decide)) (@cI _ _ _ _ (@ah _)) (by rfl) (by rfl))))))))),?_⟩
 have M0:eB p H ρ H ρ [] :=⟨(fun _ m=>absurd m (by simp)),fun b o e _=>⟨e,rfl⟩,g,_,hp⟩
 intro pl hpl
 have M1:=(M0.new (o:= .dK []) (c:=(n,1,⟨#[]⟩)) hpl rfl)
 refine ⟨_,rfl,p,T.hold,dx,_,rfl,by rw [ak (aA hp hpl)];exact hp,X.cH,X.hpl,by show 0 < 1000;decide,?_⟩
 have M2:=M1.wr (u:= .ins T.hold dx (aH "places" (.ref pl) [])) rfl
 have hp2:upd (upd H pl (.dK [])) p (.ins T.hold dx (aH "places" (.ref pl) [])) p = _:=ai
 generalize upd (upd H pl (.dK [])) p (.ins T.hold dx (aH "places" (.ref pl) [])) = H2 at *
 clear M0 M1
 intro ab hab
 have M3:=(M2.new (o:= .dK []) (c:=(n,2,⟨#[]⟩)) hab rfl)
 refine ⟨_,rfl,p,T.hold,dx,_,rfl,by rw [ak (aA hp2 hab)];exact hp2,X.cH,X.hab,by show 1 < 1000;decide,?_⟩
 have M4:=M3.wr (u:= .ins T.hold dx (aH "aboard" (.ref ab) (aH "places" (.ref pl) []))) rfl
 have z7:upd (upd H2 ab (.dK [])) p (.ins T.hold dx (aH "aboard" (.ref ab) (aH "places" (.ref pl) []))) p = _:=ai
 generalize upd (upd H2 ab (.dK [])) p (.ins T.hold dx (aH "aboard" (.ref ab) (aH "places" (.ref pl) []))) = H4 at *
 clear M2 M3
 refine ⟨(by show 0≤sizeLine;decide),fun as has=>?_⟩
 have M5:=(M4.new (o:= .lst []) (c:=(n,3,⟨#[]⟩)) has rfl)
 refine ⟨_,rfl,p,T.hold,dx,_,rfl,by rw [ak (aA z7 has)];exact z7,X.cH,X.has,by show 2 < 1000;decide,?_⟩
 have M6:=M5.wr (u:= .ins T.hold dx (aH "ashore" (.ref as) (aH "aboard" (.ref ab) (aH "places" (.ref pl) [])))) rfl
 have IA:upd (upd H4 as (.lst [])) p (.ins T.hold dx (aH "ashore" (.ref as) (aH "aboard" (.ref ab) (aH "places" (.ref pl) [])))) p = _:=ai
 generalize upd (upd H4 as (.lst [])) p (.ins T.hold dx (aH "ashore" (.ref as) (aH "aboard" (.ref ab) (aH "places" (.ref pl) [])))) = H6 at *
 clear M4 M5
 intro nm hnm
 have M7:=(M6.new (o:= .dK []) (c:=(n,4,⟨#[]⟩)) hnm rfl)
 refine ⟨_,rfl,p,T.hold,dx,_,rfl,by rw [ak (aA IA hnm)];exact IA,X.cH,X.hnm,by show 3 < 1000;decide,?_⟩
 have M8:=M7.wr (u:= .ins T.hold dx (aH "names" (.ref nm) (aH "ashore" (.ref as) (aH "aboard" (.ref ab) (aH "places" (.ref pl) []))))) rfl
 have FF:upd (upd H6 nm (.dK [])) p (.ins T.hold dx (aH "names" (.ref nm) (aH "ashore" (.ref as) (aH "aboard" (.ref ab) (aH "places" (.ref pl) []))))) p = _:=ai
 generalize upd (upd H6 nm (.dK [])) p (.ins T.hold dx (aH "names" (.ref nm) (aH "ashore" (.ref as) (aH "aboard" (.ref ab) (aH "places" (.ref pl) []))))) = H8 at *
 clear M6 M7
 intro bt db xg hdb hne
 refine ⟨⟨bt,db,rfl,ai,fun sp kn H9 lO hkn Su k9 LR LS LU=>⟨rfl,?_⟩⟩⟩
 have s9:aC H8 H9:=fun b o e=>k9 b o (by rw [ak (aA e xg),ak (aA e hdb)];exact e) (aA e xg)
 have fr:∀{c:Addr},upd (upd H8 db (.own bt)) bt (.ins T.bot db []) c = none→H8 c = none:=fun {c} e=>by
  have e1:c ≠ bt:=fun z=>by rw [z,ai] at e;cases e
  have e2:c ≠ db:=fun z=>by rw [z,ak hne,ai] at e;cases e
  rw [ak e1,ak e2] at e;exact e
 have LV:=fr lO
 have LW:=fr hkn
 have M9:=M8.same s9
 have Ov:=M9.add (c:=(n,5,⟨#[]⟩)) LR rfl M8 xg (fun e he=>aA (M8.m e he).1 xg)
 have Ow:=Ov.add (c:=(n,8,⟨#[]⟩)) LS rfl M8 LV (fun e he=>by
  rcases List.mem_cons.mp he with rfl | he
  · exact e8 LR LS (by intro z;cases z)
  · exact aA (M8.m e he).1 LV)
 have Ox:=Ow.add (c:=(n,9,⟨#[]⟩)) LU rfl M8 LW (fun e he=>by
  rcases List.mem_cons.mp he with rfl | he
  · exact e8 LS LU (by intro z;cases z)
  rcases List.mem_cons.mp he with rfl | he
  · exact e8 LR LU (by intro z;cases z)
  · exact aA (M8.m e he).1 LW)
 have Rw:=s9 _ _ FF
 refine ⟨_,rfl,p,T.hold,dx,_,rfl,Rw,X.cH,X.xg,by show 4 < 1000;decide,?_⟩
 have Oz:=Ox.wr (u:= .ins T.hold dx (aH "bottom" (.ref bt) (aH "names" (.ref nm) (aH "ashore" (.ref as) (aH "aboard" (.ref ab) (aH "places" (.ref pl) [])))))) rfl
 have Al:upd H9 p (.ins T.hold dx (aH "bottom" (.ref bt) (aH "names" (.ref nm) (aH "ashore" (.ref as) (aH "aboard" (.ref ab) (aH "places" (.ref pl) [])))))) p = _:=ai
 generalize upd H9 p (.ins T.hold dx (aH "bottom" (.ref bt) (aH "names" (.ref nm) (aH "ashore" (.ref as) (aH "aboard" (.ref ab) (aH "places" (.ref pl) [])))))) = OA at *
 clear M8 M9 Ov Ow Ox
 refine ⟨(by show 0≤sizeLine;decide),fun cm zj=>?_⟩
 have OB:=(Oz.new (o:= .lst []) (c:=(n,6,⟨#[]⟩)) zj rfl)
 refine ⟨_,rfl,p,T.hold,dx,_,rfl,by rw [ak (aA Al zj)];exact Al,X.cH,X.zj,by show 5 < 1000;decide,?_⟩
 have OC:=OB.wr (u:= .ins T.hold dx (aH "common" (.ref cm) (aH "bottom" (.ref bt) (aH "names" (.ref nm) (aH "ashore" (.ref as) (aH "aboard" (.ref ab) (aH "places" (.ref pl) []))))))) rfl
 have LX:upd (upd OA cm (.lst [])) p (.ins T.hold dx (aH "common" (.ref cm) (aH "bottom" (.ref bt) (aH "names" (.ref nm) (aH "ashore" (.ref as) (aH "aboard" (.ref ab) (aH "places" (.ref pl) []))))))) p = _:=ai
 generalize upd (upd OA cm (.lst [])) p (.ins T.hold dx (aH "common" (.ref cm) (aH "bottom" (.ref bt) (aH "names" (.ref nm) (aH "ashore" (.ref as) (aH "aboard" (.ref ab) (aH "places" (.ref pl) []))))))) = OD at *
 clear Oz OB
 refine ⟨(by show 0≤sizeLine;decide),fun pu E4=>?_⟩
 have OE:=(OC.new (o:= .lst []) (c:=(n,7,⟨#[]⟩)) E4 rfl)
 refine ⟨_,rfl,p,T.hold,dx,_,rfl,by rw [ak (aA LX E4)];exact LX,X.cH,X.E4,by show 6 < 1000;decide,?_⟩
 have LY:=OE.wr (u:= .ins T.hold dx (aH "purses" (.ref pu) (aH "common" (.ref cm) (aH "bottom" (.ref bt) (aH "names" (.ref nm) (aH "ashore" (.ref as) (aH "aboard" (.ref ab) (aH "places" (.ref pl) [])))))))) rfl
 have LZ:upd (upd OD pu (.lst [])) p (.ins T.hold dx (aH "purses" (.ref pu) (aH "common" (.ref cm) (aH "bottom" (.ref bt) (aH "names" (.ref nm) (aH "ashore" (.ref as) (aH "aboard" (.ref ab) (aH "places" (.ref pl) [])))))))) p = _:=ai
 generalize upd (upd OD pu (.lst [])) p (.ins T.hold dx (aH "purses" (.ref pu) (aH "common" (.ref cm) (aH "bottom" (.ref bt) (aH "names" (.ref nm) (aH "ashore" (.ref as) (aH "aboard" (.ref ab) (aH "places" (.ref pl) [])))))))) = L6 at *
 clear OC OE
 have m:=LY.m
 have qb:∀{a:Addr} {o:HO} {c:jZ} {ρ2:aQ},(L6 a = some o∧ρ2 a = some c∧a ≠ p)→L6 a = some o∧cu ρ2 p (n,0,⟨#[]⟩) a = some c:=fun h=>⟨h.1,by rw [bg h.2.2];exact h.2.1⟩
 have a1:=qb (m _ (.head _))
 have a2:=qb (m _ (.tail _ (.head _)))
 have a3:=qb (m _ (.tail _ (.tail _ (.head _))))
 have a4:=qb (m _ (.tail _ (.tail _ (.tail _ (.head _)))))
 have a5:=qb (m _ (.tail _ (.tail _ (.tail _ (.tail _ (.head _))))))
 have a6:=qb (m _ (.tail _ (.tail _ (.tail _ (.tail _ (.tail _ (.head _)))))))
 have a7:=qb (m _ (.tail _ (.tail _ (.tail _ (.tail _ (.tail _ (.tail _ (.head _))))))))
 have a8:=qb (m _ (.tail _ (.tail _ (.tail _ (.tail _ (.tail _ (.tail _ (.tail _ (.head _)))))))))
 have a9:=qb (m _ (.tail _ (.tail _ (.tail _ (.tail _ (.tail _ (.tail _ (.tail _ (.tail _ (.head _))))))))))
 refine q (cu _ p (n,0,⟨#[]⟩)) ⟨p,dx,pl,ab,as,nm,bt,db,cm,pu,sp,kn,[]⟩ L6 rfl ⟨LY.g.color LZ rfl,⟨LZ,c8,a9.1,a9.2,a8.1,a8.2,⟨[],a7.1, .nil⟩,a7.2,a6.1,a6.2,a5.1,a5.2,a2.1,a2.2,a1.1,a1.2,a4.1,a4.2,⟨[],a3.1,(fun x hx=>absurd hx (by simp)),Nat.le_refl _,List.nodup_nil⟩,a3.2,rfl,fun i x y ex=>by simp [hs0] at ex⟩,Ra⟩ (fun b o e hb=>?_)
 obtain ⟨x,y⟩:=LY.k b o e hb
 exact ⟨x,by rw [bg hb];exact y⟩
abbrev i_:Stmt:=inClass (top 4) 2
abbrev xV:List Str:=["self","top","rest","step","shared"]
abbrev oN:List Str:=["self","top"]
theorem dM:aI xV oN (au i_):=⟨rfl,rfl,rfl,by decide +kernel,rfl,by decide +kernel,by decide +kernel⟩
theorem v7 {T:TC} (F:gQ K T.bot "over" "Bottom.over" i_ f fd) (X:Txt K T) (iz:Dn P w K mg base 1 "common_factor" ["one","other"] K1):Mn P w K mg base 2 T.bot "over" oN (Ck T):=by
 refine F.ok dM (fun vs H Q E h=>?_) (fun cdv A outer s H vs Q E hr h=>?_) (fun _ _ _ _ _ _ us hl=>match us,hl with | [_,_],_=>rfl)
 · obtain ⟨bt,db,sp,kn,stp,prod,top,rfl,_⟩:=h.ex
   rfl
 obtain ⟨bt,db,sp,kn,stp,prod,top,rfl,hb,hs,ep,h2,hz,q⟩:=h.ex
 refine ⟨_,(@aj _ _ _ _ _ (@aG _ _ (2) _ _ _ _ dM.nd rfl (Or.inl rfl) (@aU _ K _ _ _ _ (@pv _ 0 _ _ (by rfl) (by first | exact Or.inl rfl | exact Or.inr (Or.inl rfl) | exact Or.inr (Or.inr rfl)) (by decide) (by decide)) (by rfl) (by rfl)) (by rfl) (by first | exact .inl rfl | exact .inr rfl | assumption)) (@aj _ _ _ _ _ (@dO _ _ _ _ _ _ _ _ PassesOwn.never rfl (@e_ _ K _ _ _ (@aU _ K _ _ _ _ (@pv _ 0 _ _ (by rfl) (by first | exact Or.inl rfl | exact Or.inr (Or.inl rfl) | exact Or.inr (Or.inr rfl)) (by decide) (by decide)) (by rfl) (by rfl)) (by rfl)) (@aZ _ _ (3) _ dM.nd rfl (Or.inl rfl) (by first | exact .inl rfl | exact .inr rfl | assumption)) (@aj _ _ _ _ _ (@aG _ _ (4) _ _ _ _ dM.nd rfl (Or.inl rfl) (@aR _ _ _ _ _ _ _ _ _ _ _ iz hr (@aa _ _ _ _ _ (@pv _ 3 _ _ (by rfl) (by first | exact Or.inl rfl | exact Or.inr (Or.inl rfl) | exact Or.inr (Or.inr rfl)) (by decide) (by decide)) (@aa _ _ _ _ _ (@az _ _ _ _ _ _ _ _ d_ (@pv _ 1 _ _ (by rfl) (by first | exact Or.inl rfl | exact Or.inr (Or.inl rfl) | exact Or.inr (Or.inr rfl)) (by decide) (by decide)) (@pv _ 3 _ _ (by rfl) (by first | exact Or.inl rfl | exact Or.inr (Or.inl rfl) | exact Or.inr (Or.inr rfl)) (by decide) (by decide))) (@ah _) (by rfl)) (by rfl)) (by decide) (by rfl) (by decide) (by rfl) (by rfl)) (by rfl) (by first | exact .inl rfl | exact .inr rfl | assumption)) (@ao _ _ _ (@g_ _ _ _ _ _ _ _ _ (@aM _ _ _ _ _ _ _ _ lN (@pv _ 4 _ _ (by rfl) (by first | exact Or.inl rfl | exact Or.inr (Or.inl rfl) | exact Or.inr (Or.inr rfl)) (by decide) (by decide)) (@af _ _ _ _) (aY _)) (@aj _ _ _ _ _ (@aG _ _ (1) _ _ _ _ dM.nd rfl (Or.inl rfl) (@az _ _ _ _ _ _ _ _ e9 (@pv _ 1 _ _ (by rfl) (by first | exact Or.inl rfl | exact Or.inr (Or.inl rfl) | exact Or.inr (Or.inr rfl)) (by decide) (by decide)) (@pv _ 4 _ _ (by rfl) (by first | exact Or.inl rfl | exact Or.inr (Or.inl rfl) | exact Or.inr (Or.inr rfl)) (by decide) (by decide))) (by rfl) (by first | exact .inl rfl | exact .inr rfl | assumption)) (@ao _ _ _ (@aG _ _ (2) _ _ _ _ dM.nd rfl (Or.inl rfl) (@az _ _ _ _ _ _ _ _ e9 (@pv _ 2 _ _ (by rfl) (by first | exact Or.inl rfl | exact Or.inr (Or.inl rfl) | exact Or.inr (Or.inr rfl)) (by decide) (by decide)) (@pv _ 4 _ _ (by rfl) (by first | exact Or.inl rfl | exact Or.inr (Or.inl rfl) | exact Or.inr (Or.inr rfl)) (by decide) (by decide))) (by rfl) (by first | exact .inl rfl | exact .inr rfl | assumption)))) (@aJ _)))) (by intro _;rfl)) (@ao _ _ _ (@aD _ _ _ _ (@eU _ _ _ _ _ (@aa _ _ _ _ _ (@pv _ 1 _ _ (by rfl) (by first | exact Or.inl rfl | exact Or.inr (Or.inl rfl) | exact Or.inr (Or.inr rfl)) (by decide) (by decide)) (@aa _ _ _ _ _ (@pv _ 2 _ _ (by rfl) (by first | exact Or.inl rfl | exact Or.inr (Or.inl rfl) | exact Or.inr (Or.inr rfl)) (by decide) (by decide)) (@ah _) (by rfl)) (by rfl))))))),?_⟩
 have p1:1≤prod:=by rw [ep];exact zO h2
 refine ⟨_,rfl,bt,T.bot,db,_,_,rfl,hb,X.cB,X.Ln,rfl,?_⟩
 refine ⟨_,rfl,bt,T.bot,db,_,_,rfl,hb,X.cB,X.Oc,rfl,sp,rfl,⟨_,aE.of hs⟩,?_⟩
 refine nK (K:=K) (xs:=stp.map V.int) (fun i σ H'=>H' = H∧∃(t r d:Int) (s3 s4:Option V),σ = [some (.ref bt),some (.int t),some (.int r),s3,s4]∧t * prod = top * r∧r = d * (stp.drop i).foldl (· * ·) 1∧0 < d∧Jm.cf t d = 1)
  ⟨rfl,top,prod,1,none,none,rfl,rfl,by rw [List.drop_zero,Int.one_mul];exact ep,by decide,by unfold Jm.cf;rw [Int.gcd_one];rfl⟩ (fun i σ H' _ hp=>by rw [hp.1];exact aE.of hs) ?_ ?_
 · rintro i x σ H' hx ⟨rfl,t,r,d,s3,s4,rfl,e1,e2,d0,c⟩
   obtain ⟨st,rfl,es⟩:=ko hx
   have hm:=List.mem_of_getElem? es
   have s2:=h2 st hm
   have hi:=(List.getElem?_eq_some_iff.mp es).1
   have hdr:stp.drop i = st :: stp.drop (i + 1):=by
    rw [List.drop_eq_getElem_cons hi]
    congr 1
    rw [List.getElem?_eq_getElem hi] at es
    exact Option.some.inj es
   rw [hdr,vM] at e2
   have r0:0≤t % st:=Int.emod_nonneg _ (by omega)
   refine ⟨_,rfl,_,rfl,_,rfl,_,_,rfl,rfl,(by show 0 < st;omega),st,t % st,rfl,by omega,r0,?_⟩
   rw [Jm.vC t st (by omega)]
   obtain ⟨o1,o2⟩:=E9 d0 (by omega:0 < st) c
   have gp:0 < Jm.cf t st:=Jm.yR t st (.inr (by omega))
   have gz:Jm.Sz 9000 (Jm.cf t st):=((hz.of_le (by have:=Im h2 hm;rw [← ep] at this;omega)).dvd (by omega:0 < st) (by omega) (Jm.kF t st)).mono (by decide)
   obtain ⟨u,hu⟩:=Jm.mC t st
   obtain ⟨v,hv⟩:=Jm.kF t st
   have e3:t / Jm.cf t st * prod = top * (r / Jm.cf t st):=by
    have a1:t / Jm.cf t st = u:=by rw [Int.ediv_eq_of_eq_mul_right (by omega) hu]
    have a2:r = Jm.cf t st * (d * v * (stp.drop (i + 1)).foldl (· * ·) 1):=by
     rw [e2]
     conv=>lhs;rw [hv]
     rw [Int.mul_assoc (Jm.cf t st),Int.mul_left_comm,Int.mul_assoc d]
    have a3:r / Jm.cf t st = d * v * (stp.drop (i + 1)).foldl (· * ·) 1:=by rw [Int.ediv_eq_of_eq_mul_right (by omega) a2]
    rw [a1,a3]
    have Rx:Jm.cf t st * (u * prod) = Jm.cf t st * (top * (d * v * (stp.drop (i + 1)).foldl (· * ·) 1)):=by
     rw [← Int.mul_assoc,← hu,e1]
     conv=>lhs;rw [a2]
     rw [Int.mul_left_comm]
    exact Int.eq_of_mul_eq_mul_left (by omega) Rx
   have e4:r / Jm.cf t st = d * (st / Jm.cf t st) * (stp.drop (i + 1)).foldl (· * ·) 1:=by
    have a4:st / Jm.cf t st = v:=by rw [Int.ediv_eq_of_eq_mul_right (by omega) hv]
    have a2:r = Jm.cf t st * (d * v * (stp.drop (i + 1)).foldl (· * ·) 1):=by
     rw [e2]
     conv=>lhs;rw [hv]
     rw [Int.mul_assoc (Jm.cf t st),Int.mul_left_comm,Int.mul_assoc d]
    rw [a4,Int.ediv_eq_of_eq_mul_right (by omega) a2]
   refine ⟨fun σ' H2=>H2 = H'∧σ' = [some (.ref bt),some (.int (t / Jm.cf t st)),some (.int (r / Jm.cf t st)),some (.int st),some (.int (Jm.cf t st))],?_,?_⟩
   · refine ⟨_,rfl,_,_,rfl,rfl,_,rfl,cX (fun c=>?_) (fun c=>?_)⟩
     · exact ⟨_,rfl,_,rfl,_,_,rfl,rfl,nM gp gz,_,rfl,_,rfl,_,_,rfl,rfl,nM gp gz,rfl,rfl⟩
     · have c':¬ 1 < Jm.cf t st:=of_decide_eq_false (Bool.eq_false_iff.mpr c)
       have g1:Jm.cf t st = 1:=by omega
       refine ⟨rfl,?_⟩
       rw [g1,Int.ediv_one,Int.ediv_one]
       rfl
   rintro σ' H2 ⟨rfl,rfl⟩
   exact ⟨rfl,_,_,_,_,_,rfl,e3,e4,o2,o1⟩
 rintro σ H' ⟨rfl,t,r,d,s3,s4,rfl,e1,e2,d0,c⟩
 rw [List.drop_of_length_le (by rw [List.length_map];exact Nat.le_refl _),List.foldl_nil,Int.mul_one] at e2
 subst e2
 refine ⟨_,rfl,_,rfl,(by show 2≤sizeLine;decide),fun p hp=>?_⟩
 refine q p _ (av hp _) ?_
 rw [ai]
 obtain ⟨a1,a2⟩:=Jm.EC d0 c
 have:Jm.fr top prod = Jm.fr t r:=Jm.HY (by omega) d0 e1.symm
 unfold gZ
 rw [this,a1,a2]
abbrev iA:Stmt:=inClass (top 4) 3
abbrev v8:List Str:=["self","top"]
abbrev ny:List Str:=["self","top"]
theorem uZ:aI v8 ny (au iA):=⟨rfl,rfl,rfl,by decide +kernel,rfl,by decide +kernel,by decide +kernel⟩
theorem u0 {T:TC} (F:gQ K T.bot "share" "Bottom.share" iA f fd) (X:Txt K T) (jO:Mn P w K mg base 2 T.bot "over" ["self","top"] (Ck T)):Mn P w K mg base 3 T.bot "share" ny (zC T):=by
 refine F.ok uZ (fun vs H Q E h=>?_) (fun cdv A outer s H vs Q E hr h=>?_) (fun _ _ _ _ _ _ us hl=>match us,hl with | [_,_],_=>rfl)
 · obtain ⟨bt,db,sp,kn,stp,prod,top,kvs,rfl,_⟩:=h.ex
   rfl
 obtain ⟨bt,db,sp,kn,stp,prod,top,kvs,rfl,hb,hs,ep,h2,hz,hk,L7,kl,knd,q⟩:=h.ex
 refine ⟨_,(@aj _ _ _ _ _ (@g_ _ _ _ _ _ _ _ _ (@o8 _ _ _ _ _ _ (@pC _ _ _ _ _ (bQ hr) (@pv _ 1 _ _ (by rfl) (by first | exact Or.inl rfl | exact Or.inr (Or.inl rfl) | exact Or.inr (Or.inr rfl)) (by decide) (by decide)) (@aU _ K _ _ _ _ (@pv _ 0 _ _ (by rfl) (by first | exact Or.inl rfl | exact Or.inr (Or.inl rfl) | exact Or.inr (Or.inr rfl)) (by decide) (by decide)) (by rfl) (by rfl))) (by first | exact gG _ (by decide) (by decide) | rfl)) (@ao _ _ _ (@qL _ _ _ _ _ _ _ _ _ (bQ hr) (@aU _ K _ _ _ _ (@pv _ 0 _ _ (by rfl) (by first | exact Or.inl rfl | exact Or.inr (Or.inl rfl) | exact Or.inr (Or.inr rfl)) (by decide) (by decide)) (by rfl) (by rfl)) (@pv _ 1 _ _ (by rfl) (by first | exact Or.inl rfl | exact Or.inr (Or.inl rfl) | exact Or.inr (Or.inr rfl)) (by decide) (by decide)) (@jz _ _ _ _ _ _ _ _ _ _ _ _ _ _ _ jO hr (@pv _ 0 _ _ (by rfl) (by first | exact Or.inl rfl | exact Or.inr (Or.inl rfl) | exact Or.inr (Or.inr rfl)) (by decide) (by decide)) (@aa _ _ _ _ _ (@pv _ 1 _ _ (by rfl) (by first | exact Or.inl rfl | exact Or.inr (Or.inl rfl) | exact Or.inr (Or.inr rfl)) (by decide) (by decide)) (@ah _) (by rfl)) (by decide) (by rfl) (by rfl) (by rfl)) rfl)) (@aJ _)) (@ao _ _ _ (@aD _ _ _ _ (@bM _ _ _ _ _ _ (bQ hr) (@aU _ K _ _ _ _ (@pv _ 0 _ _ (by rfl) (by first | exact Or.inl rfl | exact Or.inr (Or.inl rfl) | exact Or.inr (Or.inr rfl)) (by decide) (by decide)) (by rfl) (by rfl)) (@pv _ 1 _ _ (by rfl) (by first | exact Or.inl rfl | exact Or.inr (Or.inl rfl) | exact Or.inr (Or.inr rfl)) (by decide) (by decide)) (fun _ _=>rfl))))),?_⟩
 refine ⟨fun σ' H'=>σ' = [some (.ref bt),some (.int top)]∧(∀b o,H b = some o→b ≠ kn→H' b = some o)∧∃kvs' r,H' kn = some (.dK kvs')∧zh H' kvs' prod∧kvs'.length≤kvs.length + 1∧(kvs'.map (·.1)).Nodup∧cJ kvs' (Sum.inl top) = some (.ref r)∧H' r = some (gZ (Jm.fr top prod)),?_,?_⟩
 · refine ⟨_,rfl,_,rfl,bt,T.bot,db,_,_,rfl,hb,X.cB,X.Ii,rfl,kn,_,rfl,b_.k (k:=Sum.inl top) hk,_,rfl,?_⟩
   cases e:cJ kvs (Sum.inl top) with
   | some v=>
     refine bq ⟨rfl,fun b o e _=>e,kvs,?_⟩
     obtain ⟨t,r,e2,hr2⟩:=L7 _ (GZ e)
     cases e2
     exact ⟨r,hk,L7,Nat.le_succ _,knd,e,hr2⟩
   | none=>
     refine dW ?_
     refine ⟨_,rfl,bt,db,_,rfl,hb,rfl,_,rfl,⟨⟨bt,db,sp,kn,stp,prod,top,rfl,hb,hs,ep,h2,hz,fun r H1 g1 hr1=>?_⟩⟩⟩
     have sl:kvs.length < sizeLine:=by rw [sizeLine_eq];omega
     refine ⟨_,rfl,bt,T.bot,db,_,_,rfl,g1 _ _ hb,X.cB,X.Ii,rfl,_,rfl,kn,_,rfl,pB.k (k:=Sum.inl top) (g1 _ _ hk) sl,rfl,fun b o e hb=>by rw [ak hb];exact g1 _ _ e,_,r,ai,?_,?_,Ju _ knd e,by rw [Gr,if_pos rfl],by rw [ak (e8 hr1 (g1 _ _ hk) (by intro z;cases z))];exact hr1⟩
     · rw [iV _ e]
       intro p hp
       rcases List.mem_append.mp hp with z | z
       · obtain ⟨t,r',e2,hr2⟩:=L7 p z
         exact ⟨t,r',e2,by rw [ak (e8 (g1 _ _ hr2) (g1 _ _ hk) (by intro z;cases z))];exact g1 _ _ hr2⟩
       · rw [List.mem_singleton.mp z]
         exact ⟨top,r,rfl,by rw [ak (e8 hr1 (g1 _ _ hk) (by intro z;cases z))];exact hr1⟩
     · rw [iV _ e,List.length_append]
       exact Nat.le_refl _
 rintro σ' H' ⟨rfl,k1,kvs',r,e1,e2,e3,e4,e5,e6⟩
 exact ⟨_,rfl,bt,T.bot,db,_,_,rfl,k1 _ _ hb (e8 hb hk (by intro z;cases z)),X.cB,X.Ii,rfl,_,rfl,kn,_,rfl,e5 ▸ b_.k (k:=Sum.inl top) e1,q r H' kvs' k1 e1 e2 e3 e4 e6⟩
abbrev ja:Stmt:=inClass (top 24) 12
abbrev xW:List Str:=["self","part","tops"]
abbrev oO:List Str:=["self","part"]
theorem nC:aI xW oO (au ja):=⟨rfl,rfl,rfl,by decide +kernel,rfl,by decide +kernel,by decide +kernel⟩
theorem v9 {T:TC} (F:gQ K T.hold "shares" "Hold.shares" ja f fd) (X:Txt K T) (jb:Mn P w K mg base 1 T.hold "part_of" ["self","name"] (zz T)) (jc:Mn P w K mg base 1 T.hold "tops_of" ["self","part"] (Cf T)) (jd:Mn P w K mg base 3 T.bot "share" ["self","top"] (zC T)) (ki:mg "zip" = none):Mn P w K mg base 4 T.hold "shares" oO (xh T):=by
 refine F.ok nC (fun vs H Q E h=>?_) (fun cdv A outer s H vs Q E hr h=>?_) (fun _ _ _ _ _ _ us hl=>match us,hl with | [_,_],_=>rfl)
 · obtain ⟨n,ρ,A,st,i,p,rfl,_⟩:=h.ex
   rfl
 obtain ⟨n,ρ,A,st,ip,pt,rfl,hh,ep,hkn,q⟩:=h.ex
 obtain ⟨qq,eq,k1,k2,k3,k4⟩:=hh.h.find ep
 have uX:=List.mem_of_getElem? ep
 refine ⟨_,(@aj _ _ _ _ _ (@aG _ _ (2) _ _ _ _ nC.nd rfl (Or.inl rfl) (@jz _ _ _ _ _ _ _ _ _ _ _ _ _ _ _ jc hr (@pv _ 0 _ _ (by rfl) (by first | exact Or.inl rfl | exact Or.inr (Or.inl rfl) | exact Or.inr (Or.inr rfl)) (by decide) (by decide)) (@aa _ _ _ _ _ (@jz _ _ _ _ _ _ _ _ _ _ _ _ _ _ _ jb hr (@pv _ 0 _ _ (by rfl) (by first | exact Or.inl rfl | exact Or.inr (Or.inl rfl) | exact Or.inr (Or.inr rfl)) (by decide) (by decide)) (@aa _ _ _ _ _ (@pv _ 1 _ _ (by rfl) (by first | exact Or.inl rfl | exact Or.inr (Or.inl rfl) | exact Or.inr (Or.inr rfl)) (by decide) (by decide)) (@ah _) (by rfl)) (by decide) (by rfl) (by rfl) (by rfl)) (@ah _) (by rfl)) (by decide) (by rfl) (by rfl) (by rfl)) (by rfl) (by first | exact .inl rfl | exact .inr rfl | assumption)) (@ao _ _ _ (@aD _ _ _ _ (@za _ _ _ (@GF _ _ _ _ _ _ _ ["owner","top","self"] [none,none,some 0] _ _ _ _ rfl (@vJ _ _ _ _ K _ _ _ _ _ (by rfl) ki (@aa _ _ _ _ _ (@aU _ K _ _ _ _ (@pv _ 0 _ _ (by rfl) (by first | exact Or.inl rfl | exact Or.inr (Or.inl rfl) | exact Or.inr (Or.inr rfl)) (by decide) (by decide)) (by rfl) (by rfl)) (@aa _ _ _ _ _ (@pv _ 2 _ _ (by rfl) (by first | exact Or.inl rfl | exact Or.inr (Or.inl rfl) | exact Or.inr (Or.inr rfl)) (by decide) (by decide)) (@ah _) (by rfl)) (by rfl)) (by rfl) (by rfl) (by rfl)) (fun _ _ _ _=>(@qQ K _ _ _ _ (2) _ rfl (@eN _ _ _ _ _ (@aZ _ _ (0) _ (show List.Nodup (["owner","top","self"] :List Str) from by decide +kernel) rfl (Or.inl rfl) (by first | exact .inl rfl | exact .inr rfl | assumption)) (@eN _ _ _ _ _ (@aZ _ _ (1) _ (show List.Nodup (["owner","top","self"] :List Str) from by decide +kernel) rfl (Or.inl rfl) (by first | exact .inl rfl | exact .inr rfl | assumption)) (@qF _) (by rfl)) (by rfl)) (by rfl) (by rfl) (by rfl))) (fun _ _ _ _=>(@eU _ _ _ _ _ (@aa _ _ _ _ _ (@pv _ 0 _ _ (by rfl) (by first | exact Or.inl rfl | exact Or.inr (Or.inl rfl) | exact Or.inr (Or.inr rfl)) (by decide) (by decide)) (@aa _ _ _ _ _ (@jz _ _ _ _ _ _ _ _ _ _ _ _ _ _ _ jd hr (@aU _ K _ _ _ _ (@pv _ 2 _ _ (by rfl) (by first | exact Or.inl rfl | exact Or.inr (Or.inl rfl) | exact Or.inr (Or.inr rfl)) (by decide) (by decide)) (by rfl) (by rfl)) (@aa _ _ _ _ _ (@pv _ 1 _ _ (by rfl) (by first | exact Or.inl rfl | exact Or.inr (Or.inl rfl) | exact Or.inr (Or.inr rfl)) (by decide) (by decide)) (@ah _) (by rfl)) (by decide) (by rfl) (by rfl) (by rfl)) (@ah _) (by rfl)) (by rfl)))) (fun _ _ _ _=>(@aM _ _ _ _ _ _ _ _ lN (@pv _ 1 _ _ (by rfl) (by first | exact Or.inl rfl | exact Or.inr (Or.inl rfl) | exact Or.inr (Or.inr rfl)) (by decide) (by decide)) (@af _ _ _ _) (aY _))) rfl (by rfl) (by intro _;rfl)))))),?_⟩
 refine ⟨_,rfl,A.a,A.dx,_,rfl,hh.h.oa,rfl,_,rfl,A.a,A.dx,_,rfl,hh.h.oa,rfl,_,rfl,⟨⟨n,ρ,A,st,ip,pt,qq,rfl,hh.h,hh.wf.zl,ep,eq,?_⟩⟩⟩
 refine ⟨⟨n,ρ,A,st,ip,pt,qq,rfl,hh.h,hh.wf,ep,eq,fun l H1 g1 hl hl1=>?_⟩⟩
 have fW:=hh.mono g1
 have cl:ρ l = none:=hh.g.none hl
 have tl:(dJ st pt).length = st.own.length:=by
  unfold dJ
  rw [List.length_zipWith,hh.wf.rows pt uX,hh.wf.iX,Nat.min_self]
 have dH:=hh.wf.zm
 refine ⟨A.pl,_,fW.h.fu,fun ob=>?_⟩
 have hl2:upd H1 A.pl (.cV ob (.dK (cM 0 st.own))) l = some (.lst ((dJ st pt).map V.int)):=fC fW.h.fu hl1 (fun k z=>by cases z)
 refine ⟨_,rfl,A.a,T.hold,A.dx,_,_,rfl,fC fW.h.fu fW.h.oa (fun k z=>by cases z),X.cH,X.hpl,rfl,_,rfl,_,_,_,_,_,_,rfl, .keys ai, .lst (aE.of hl2),fun acc hacc=>?_⟩
 have lX:H1 acc = none:=tu fW.h.fu hacc
 have ca:ρ acc = none:=fW.g.none lX
 have CC:acc ≠ A.pl:=fun e=>by rw [e,ai] at hacc;cases hacc
 have OF:acc ≠ l:=fun e=>by rw [e,hl1] at lX;cases lX
 refine JJ (K:=K) (n:=st.own.length) [0,1] (fun i out Hc=>∃H5,Hc = upd H5 A.pl (.cV ob (.dK (cM 0 st.own)))∧Gh ρ H5∧Fr n ρ H ρ H5∧aS T n ρ A H5 { st with kn:=st.kn + i }∧H5 l = some (.lst ((dJ st pt).map V.int))∧dX H5 out (((List.zip st.own (dJ st pt)).take i).filterMap fun x=>if 0 < x.2 then some (x.1,Jm.fr x.2 st.prod) else none))
  (by decide) (by omega) ⟨upd H1 acc (.lst []),kJ (Ne.symm CC),fW.g.alloc lX,(Fr.of_same (ρ:=ρ) g1).trans (Fr.of_same (av lX _)),fW.h.mono (av lX _),by rw [ak (Ne.symm OF)];exact hl1, .nil⟩ ?_ ?_ ?_ ?_
 · rintro i out Hc hi ha ⟨H5,rfl,G5,F5,h5,l5,S5⟩
   exact ⟨ai,aE.of (fC h5.fu l5 (fun k z=>by cases z)),by rw [List.length_map,kg];exact hi,by rw [List.length_map,tl];exact hi⟩
 · rintro out Hc ha ⟨H5,rfl,G5,F5,h5,l5,S5⟩
   exact ⟨ai,aE.of (fC h5.fu l5 (fun k z=>by cases z)), .inr (by rw [List.length_map,tl];exact Nat.le_refl _)⟩
 · rintro i x out Hc H2 hi HF ha ⟨H5,rfl,G5,F5,h5,l5,S5⟩ ⟨pp,x1,y1,hpp,rfl,rfl,e1,e2⟩
   obtain ⟨t,rfl,et⟩:=ko e2
   rw [s_,List.getElem?_map] at e1
   obtain ⟨o,eo,rfl⟩:=Option.map_eq_some_iff.mp e1
   have Ry:pp ≠ A.pl:=fun e=>by rw [e,ai] at hpp;cases hpp
   have Qm:H5 pp = none:=tu h5.fu hpp
   have ez:(List.zip st.own (dJ st pt))[i]? = some (o,t):=by rw [List.getElem?_zip_eq_some];exact ⟨eo,et⟩
   have g6:=av Qm (.tup [.str o, .int t])
   have e6:upd (upd H5 A.pl (.cV ob (.dK (cM 0 st.own)))) pp (.tup [.str o, .int t]) = upd (upd H5 pp (.tup [.str o, .int t])) A.pl (.cV ob (.dK (cM 0 st.own))):=kJ (Ne.symm Ry)
   rw [e6]
   have G6:=G5.same g6
   have F6:=F5.trans (Fr.of_same (ρ:=ρ) g6)
   have h6:=h5.mono g6
   have l6:=g6 _ _ l5
   have S6:=S5.mono g6.tups
   have t6:upd H5 pp (.tup [.str o, .int t]) pp = some (.tup [.str o, .int t]):=ai
   have IB:upd H5 pp (.tup [.str o, .int t]) acc = some (.lst out):=by
    rw [ak CC] at ha
    exact g6 _ _ ha
   generalize upd H5 pp (.tup [.str o, .int t]) = H6 at *
   have fz:∀{b:Addr} {u:HO},H6 b = some u→(∀k,u ≠ .dK k)→upd H6 A.pl (.cV ob (.dK (cM 0 st.own))) b = some u:=fun e k=>fC h6.fu e k
   refine ⟨pp,_,rfl,bF.of (fz t6 (fun k z=>by cases z)),rfl,_,rfl,_,_,rfl,rfl,_,rfl,?_⟩
   rw [take_snoc ez,List.filterMap_append]
   refine cX (fun c=>?_) (fun c=>?_)
   · have c':0 < t:=of_decide_eq_true c
     obtain ⟨kvs,j1,j2,j3,j4⟩:=h6.okn
     have IC:A.kn ≠ A.pl:=uI h6.iN h6.iM (by intro z;cases z)
     refine ⟨_,rfl,_,rfl,A.a,T.hold,A.dx,_,_,rfl,fz h6.oa (fun k z=>by cases z),X.cH,X.xg,rfl,A.bt,A.db,_,rfl,fz h6.oH (fun k z=>by cases z),rfl,_,rfl,
      ⟨⟨A.bt,A.db,A.sp,A.kn,st.stp,st.prod,t,kvs,rfl,fz h6.oH (fun k z=>by cases z),fz h6.rQ (fun k z=>by cases z),hh.wf.yo,hh.wf.Dk,hh.wf.big,by rw [ak IC];exact j1,(fun p hp=>let ⟨t,r,e,w⟩:=j2 p hp;⟨t,r,e,fz w (fun k z=>by cases z)⟩),Nat.lt_of_le_of_lt j3 (by show st.kn + i < _;omega),j4,fun r H7 kvs' b1 b2 b3 b4 b5 b6=>?_⟩⟩⟩
     have ID:H7 A.pl = some (.cV ob (.dK (cM 0 st.own))):=b1 _ _ ai (Ne.symm IC)
     refine ⟨(by show 2≤sizeLine;decide),fun tt IE=>?_⟩
     have OG:tt ≠ A.pl:=fun e=>by rw [e,ID] at IE;cases IE
     have k8:∀b u,H6 b = some u→b ≠ A.kn→upd H7 A.pl (.dK (cM 0 st.own)) b = some u:=fun b u e hb=>by
      by_cases z:b = A.pl
      · rw [z] at e ⊢
        rw [show H6 A.pl = some (.dK (cM 0 st.own)) from h6.fu] at e
        cases e;exact ai
      · rw [ak z];exact b1 _ _ (by rw [ak z];exact e) hb
     have h8:=h6.G0 (m:=st.kn + i + 1) k8 (by rw [ak IC];exact b2) (fun p hp=>let ⟨t,r,e,w⟩:=b3 p hp;⟨t,r,e,gg (.inr ⟨_,ID,rfl⟩) _ _ w⟩) (Nat.le_trans b4 (Nat.succ_le_succ j3)) b5
     have G8:Gh ρ (upd H7 A.pl (.dK (cM 0 st.own))):=fun b cc e=>by
      by_cases z:b = A.pl
      · rw [z];exact ⟨_,ai,rfl⟩
      by_cases z2:b = A.kn
      · rw [z2,ak IC];exact ⟨_,b2,rfl⟩
      obtain ⟨u,a1,a2⟩:=G6 b cc e
      exact ⟨u,k8 b u a1 z2,a2⟩
     have F8:Fr n ρ H6 ρ (upd H7 A.pl (.dK (cM 0 st.own))):=fun b u e k=>⟨k8 b u e (fun z=>k 9 ⟨#[]⟩ (by rw [z];exact h6.iN)),rfl⟩
     have Rz:∀b xs,H6 b = some (.tup xs)→upd H7 A.pl (.dK (cM 0 st.own)) b = some (.tup xs):=fun b xs e=>k8 b _ e (e8 e j1 (by intro z;cases z))
     have Qn:upd H7 A.pl (.dK (cM 0 st.own)) tt = none:=by rw [ak OG];exact IE
     have back:H7 = upd (upd H7 A.pl (.dK (cM 0 st.own))) A.pl (.cV ob (.dK (cM 0 st.own))):=by rw [qD,tE ID]
     have RA:upd H7 A.pl (.dK (cM 0 st.own)) r = some (gZ (Jm.fr t st.prod)):=gg (.inr ⟨_,ID,rfl⟩) _ _ b6
     have l8:=k8 _ _ l6 (fun z=>by rw [z,j1] at l6;cases l6)
     have L8:=k8 _ _ IB (fun z=>by rw [z,j1] at IB;cases IB)
     have S8:=S6.mono Rz
     have RB:=F6.trans F8
     rw [back] at IE ⊢
     generalize upd H7 A.pl (.dK (cM 0 st.own)) = H8 at *
     have g9:=av Qn (.tup [.str o, .ref r])
     rw [kJ (Ne.symm OG)]
     refine ⟨by rw [ak CC];exact g9 _ _ L8,_,kJ (Ne.symm CC),(G8.same g9).wr rfl,(RB.trans (Fr.of_same (ρ:=ρ) g9)).new (g1.free lX),?_,?_,?_⟩
     · exact (h8.mono g9).same (E7 ca (g9 _ _ L8) rfl)
     · rw [ak (Ne.symm OF)];exact g9 _ _ l8
     · rw [List.filterMap_cons]
       simp only [c',if_true,List.filterMap_nil]
       exact ((S8.mono g9.tups).snoc ai (g9 _ _ RA)).mono (gg (.inr ⟨_,g9 _ _ L8,rfl⟩))
   · have c':¬ 0 < t:=of_decide_eq_false (Bool.eq_false_iff.mpr c)
     refine ⟨by rw [ak CC];exact IB,H6,rfl,G6,F6,?_,l6,?_⟩
     · obtain ⟨kvs,j1,j2,j3,j4⟩:=h6.okn
       exact h6.G0 (m:=st.kn + i + 1) (fun b u e _=>e) j1 j2 (Nat.le_succ_of_le j3) j4
     · rw [List.filterMap_cons]
       simp only [c',if_false,List.filterMap_nil,List.append_nil]
       exact S6
 · rintro out Hc HF ha ⟨H5,rfl,G5,F5,h5,l5,S5⟩
   rw [List.take_of_length_le (by rw [List.length_zip,tl];omega)] at S5
   refine ⟨ai,?_⟩
   rw [qD,tE (show H5 A.pl = some (.dK (cM 0 st.own)) from h5.fu)]
   rw [ak CC] at ha
   obtain ⟨kvs,j1,j2,j3,j4⟩:=h5.okn
   have h9:=h5.G0 (m:=st.kn + 100) (fun b u e _=>e) j1 j2 (Nat.le_trans j3 (by show st.kn + st.own.length≤st.kn + 100;omega)) j4
   exact q acc out ρ A H5 ⟨G5,h9,Ni hh.wf hkn⟩ rfl F5 (g1.free lX) ha ca S5
abbrev je:Stmt:=inClass (top 24) 17
abbrev xX:List Str:=["self"]
abbrev oQ:List Str:=["self"]
theorem v_:aI xX oQ (au je):=⟨rfl,rfl,rfl,by decide +kernel,rfl,by decide +kernel,by decide +kernel⟩
theorem wc {T:TC} (F:gQ K T.hold "landed" "Hold.landed" je f fd) (X:Txt K T) (bY:mg "list" = none):Mn P w K mg base 1 T.hold "landed" oQ (zH T):=by
 refine F.ok v_ (fun vs H Q E h=>?_) (fun cdv A outer s H vs Q E hr h=>?_) (fun _ _ _ _ _ _ us hl=>match us,hl with | [_],_=>rfl)
 · obtain ⟨n,ρ,A,st,rfl,_⟩:=h.ex
   rfl
 obtain ⟨n,ρ,A,st,rfl,hh,q⟩:=h.ex
 obtain ⟨ws,hw,hA⟩:=hh.h.uH
 have hl:=hA.length
 have hal:=hh.wf.Dm
 refine ⟨_,(@ao _ _ _ (@aD _ _ _ _ (@fE _ _ _ _ _ _ ["name","owner","worth","shares"] [none,none,none,none] _ _ _ rfl (@e_ _ K _ _ _ (@aU _ K _ _ _ _ (@pv _ 0 _ _ (by rfl) (by first | exact Or.inl rfl | exact Or.inr (Or.inl rfl) | exact Or.inr (Or.inr rfl)) (by decide) (by decide)) (by rfl) (by rfl)) (by rfl)) (fun _ _ _ _=>(@qQ K _ _ _ _ (4) _ rfl (@eN _ _ _ _ _ (@aZ _ _ (0) _ (show List.Nodup (["name","owner","worth","shares"] :List Str) from by decide +kernel) rfl (Or.inl rfl) (by first | exact .inl rfl | exact .inr rfl | assumption)) (@eN _ _ _ _ _ (@aZ _ _ (1) _ (show List.Nodup (["name","owner","worth","shares"] :List Str) from by decide +kernel) rfl (Or.inl rfl) (by first | exact .inl rfl | exact .inr rfl | assumption)) (@eN _ _ _ _ _ (@aZ _ _ (2) _ (show List.Nodup (["name","owner","worth","shares"] :List Str) from by decide +kernel) rfl (Or.inl rfl) (by first | exact .inl rfl | exact .inr rfl | assumption)) (@eN _ _ _ _ _ (@aZ _ _ (3) _ (show List.Nodup (["name","owner","worth","shares"] :List Str) from by decide +kernel) rfl (Or.inl rfl) (by first | exact .inl rfl | exact .inr rfl | assumption)) (@qF _) (by rfl)) (by rfl)) (by rfl)) (by rfl)) (by rfl) (by rfl) (by rfl))) (fun _ _ _ _=>(@eU _ _ _ _ _ (@aa _ _ _ _ _ (@pv _ 0 _ _ (by rfl) (by first | exact Or.inl rfl | exact Or.inr (Or.inl rfl) | exact Or.inr (Or.inr rfl)) (by decide) (by decide)) (@aa _ _ _ _ _ (@pv _ 1 _ _ (by rfl) (by first | exact Or.inl rfl | exact Or.inr (Or.inl rfl) | exact Or.inr (Or.inr rfl)) (by decide) (by decide)) (@aa _ _ _ _ _ (@pv _ 2 _ _ (by rfl) (by first | exact Or.inl rfl | exact Or.inr (Or.inl rfl) | exact Or.inr (Or.inr rfl)) (by decide) (by decide)) (@aa _ _ _ _ _ (@lP _ _ _ _ _ _ _ _ _ (jK K) (by rfl) bY PyProof.Rows.boot_list (@aa _ _ _ _ _ (@pv _ 3 _ _ (by rfl) (by first | exact Or.inl rfl | exact Or.inr (Or.inl rfl) | exact Or.inr (Or.inr rfl)) (by decide) (by decide)) (@ah _) (by rfl)) (by decide) (by decide) (by rfl) (by rfl)) (@ah _) (by rfl)) (by rfl)) (by rfl)) (by rfl)))) rfl (by rfl) (by intro _;rfl)))),?_⟩
 refine ⟨_,rfl,A.a,T.hold,A.dx,_,_,rfl,hh.h.oa,X.cH,X.has,rfl,A.as,rfl,⟨_,aE.of hw⟩,fun acc hacc=>?_⟩
 refine zg (K:=K) (n:=ws.length) [0,1,2,3] (fun i out H1=>aC H H1∧ff acc ρ H1 out (st.jA.take i)) (by decide) (by omega) ⟨av hacc _, .nil⟩ (fun i out H1 hi _ hp=>⟨ws,_,aE.of (hp.1 _ _ hw),List.getElem?_eq_getElem hi⟩) (fun out H1 _ hp=>⟨ws,aE.of (hp.1 _ _ hw),Nat.le_refl _⟩) ?_ ?_
 · rintro i x out H1 H2 hi dH ha ⟨g,hL⟩ ⟨rfl,hy⟩
   have ex:=hy ws (aE.of (g _ _ hw))
   obtain ⟨r,l,y,ss,rfl,ey,a1,a2,a3,a4⟩:=hA.get ex
   refine ⟨r,_,rfl,bF.of (g _ _ a1),rfl,_,rfl,_,rfl,_,rfl,_,rfl,l,ss,rfl, .inl (aE.of (g _ _ a2)),fun l2 hl2=>⟨(by show 4≤sizeLine;decide),fun t ht=>?_⟩⟩
   have g2:=av hl2 (.lst ss)
   have g3:=av ht (.tup [.str y.nm, .str y.ow, .int y.wo, .ref l2])
   have hl3:upd H2 l2 (.lst ss) l2 = some (.lst ss):=ai
   have c2:ρ l2 = none:=hh.g.none (g.free hl2)
   refine ⟨(g2.trans g3) _ _ ha,((g.trans g2).trans g3).dg hacc _,?_⟩
   rw [take_snoc ey]
   have n1:l2 ≠ acc:=fun e=>by rw [e,ha] at hl2;cases hl2
   exact ((hL.mono (g2.trans g3)).snoc (x:=y) ai (g3 _ _ hl3) c2 n1 (a4.mono ((g.trans g2).trans g3).tups)).upd ((g2.trans g3) _ _ ha)
 rintro out H1 dH ha ⟨g,hL⟩
 rw [hl,List.take_length] at hL
 exact q acc out H1 g hacc ha hL.to
abbrev lq:Stmt:=top 29
abbrev Be:List Str:=["_law_script","_law_k","_law_j","_law_many","_law_cell","_law_turn","_law_rest","_law_step","_law_one","_law_two"]
abbrev sy:List Str:=["_law_script","_law_k","_law_j","_law_many"]
theorem cz:aI Be sy (au lq):=⟨rfl,rfl,rfl,by decide +kernel,rfl,by decide +kernel,by decide +kernel⟩
theorem Ao (F:At K mg "_law_draw" lq f fd) (aV:mg "len" = none) (bw:mg "range" = none):Dn P w K mg base 1 "_law_draw" sy (ju K):=by
 refine F.ok cz (fun vs H Q E h=>?_) (fun cdv A outer s H vs Q E hr h=>?_) (fun _ _ _ _ _ _ us hl=>match us,hl with | [_,_,_,_],_=>rfl)
 · obtain ⟨a,ns,k,j,many,rfl,_⟩:=h.ex
   rfl
 obtain ⟨a,ns,k,j,many,rfl,hS,h63,hk,hj,hj2,hm,q⟩:=h.ex
 refine ⟨_,(@aj _ _ _ _ _ (@aG _ _ (4) _ _ _ _ cz.nd rfl (Or.inl rfl) (@af _ _ _ _) (by rfl) (by first | exact .inl rfl | exact .inr rfl | assumption)) (@aj _ _ _ _ _ (@aG _ _ (5) _ _ _ _ cz.nd rfl (Or.inl rfl) (@af _ _ _ _) (by rfl) (by first | exact .inl rfl | exact .inr rfl | assumption)) (@aj _ _ _ _ _ (@g_ _ _ _ _ _ _ _ _ (@aM _ _ _ _ _ _ _ _ lN (@aB _ _ _ _ _ _ _ _ _ (bB K) (by rfl) aV PySem.boot_len (@aa _ _ _ _ _ (@pv _ 0 _ _ (by rfl) (by first | exact Or.inl rfl | exact Or.inr (Or.inl rfl) | exact Or.inr (Or.inr rfl)) (by decide) (by decide)) (@ah _) (by rfl)) (by decide) (by decide) (by rfl) (by rfl)) (@af _ _ _ _) (aY _)) (@aj _ _ _ _ _ (@aG _ _ (4) _ _ _ _ cz.nd rfl (Or.inl rfl) (@aF _ _ _ _ _ _ _ (aT K) (@pv _ 0 _ _ (by rfl) (by first | exact Or.inl rfl | exact Or.inr (Or.inl rfl) | exact Or.inr (Or.inr rfl)) (by decide) (by decide)) (@az _ _ _ _ _ _ _ _ d_ (@pv _ 1 _ _ (by rfl) (by first | exact Or.inl rfl | exact Or.inr (Or.inl rfl) | exact Or.inr (Or.inr rfl)) (by decide) (by decide)) (@aB _ _ _ _ _ _ _ _ _ (bB K) (by rfl) aV PySem.boot_len (@aa _ _ _ _ _ (@pv _ 0 _ _ (by rfl) (by first | exact Or.inl rfl | exact Or.inr (Or.inl rfl) | exact Or.inr (Or.inr rfl)) (by decide) (by decide)) (@ah _) (by rfl)) (by decide) (by decide) (by rfl) (by rfl))) (fun _ _=>rfl)) (by rfl) (by first | exact .inl rfl | exact .inr rfl | assumption)) (@ao _ _ _ (@aG _ _ (5) _ _ _ _ cz.nd rfl (Or.inl rfl) (@az _ _ _ _ _ _ _ _ e9 (@pv _ 1 _ _ (by rfl) (by first | exact Or.inl rfl | exact Or.inr (Or.inl rfl) | exact Or.inr (Or.inr rfl)) (by decide) (by decide)) (@aB _ _ _ _ _ _ _ _ _ (bB K) (by rfl) aV PySem.boot_len (@aa _ _ _ _ _ (@pv _ 0 _ _ (by rfl) (by first | exact Or.inl rfl | exact Or.inr (Or.inl rfl) | exact Or.inr (Or.inr rfl)) (by decide) (by decide)) (@ah _) (by rfl)) (by decide) (by decide) (by rfl) (by rfl))) (by rfl) (by first | exact .inl rfl | exact .inr rfl | assumption)))) (@aJ _)) (@aj _ _ _ _ _ (@aG _ _ (6) _ _ _ _ cz.nd rfl (Or.inl rfl) (@pv _ 4 _ _ (by rfl) (by first | exact Or.inl rfl | exact Or.inr (Or.inl rfl) | exact Or.inr (Or.inr rfl)) (by decide) (by decide)) (by rfl) (by first | exact .inl rfl | exact .inr rfl | assumption)) (@aj _ _ _ _ _ (@dO _ _ _ _ _ _ _ _ PassesOwn.never rfl (@dz _ _ _ _ _ _ (by rfl) bw (@aa _ _ _ _ _ (@pv _ 2 _ _ (by rfl) (by first | exact Or.inl rfl | exact Or.inr (Or.inl rfl) | exact Or.inr (Or.inr rfl)) (by decide) (by decide)) (@ah _) (by rfl)) (by rfl)) (@aZ _ _ (7) _ cz.nd rfl (Or.inl rfl) (by first | exact .inl rfl | exact .inr rfl | assumption)) (@ao _ _ _ (@aG _ _ (6) _ _ _ _ cz.nd rfl (Or.inl rfl) (@az _ _ _ _ _ _ _ _ e9 (@pv _ 6 _ _ (by rfl) (by first | exact Or.inl rfl | exact Or.inr (Or.inl rfl) | exact Or.inr (Or.inr rfl)) (by decide) (by decide)) (@az _ _ _ _ _ _ _ _ jm (@af _ _ _ _) (@af _ _ _ _))) (by rfl) (by first | exact .inl rfl | exact .inr rfl | assumption))) (by intro _;rfl)) (@aj _ _ _ _ _ (@bh _ _ _ _ _ _ _ _ (@cQ _ _ _ (PW.pt (@o9 _ _ _ _ _ _ _ (@aM _ _ _ _ _ _ _ _ gW (@pv _ 5 _ _ (by rfl) (by first | exact Or.inl rfl | exact Or.inr (Or.inl rfl) | exact Or.inr (Or.inr rfl)) (by decide) (by decide)) (@af _ _ _ _) (aY _)) (@o9 _ _ _ _ _ _ _ (@aM _ _ _ _ _ _ _ _ CQ (@pv _ 4 _ _ (by rfl) (by first | exact Or.inl rfl | exact Or.inr (Or.inl rfl) | exact Or.inr (Or.inr rfl)) (by decide) (by decide)) (@az _ _ _ _ _ _ _ _ jm (@af _ _ _ _) (@af _ _ _ _)) (aY _)) (@qE _ _ _ _ (@aM _ _ _ _ _ _ _ _ lN (@pv _ 6 _ _ (by rfl) (by first | exact Or.inl rfl | exact Or.inr (Or.inl rfl) | exact Or.inr (Or.inr rfl)) (by decide) (by decide)) (@af _ _ _ _) (aY _))))))) (@ao _ _ _ (@aD _ _ _ _ (@az _ _ _ _ _ _ _ _ d_ (@az _ _ _ _ _ _ _ _ d_ (@pv _ 6 _ _ (by rfl) (by first | exact Or.inl rfl | exact Or.inr (Or.inl rfl) | exact Or.inr (Or.inr rfl)) (by decide) (by decide)) (@az _ _ _ _ _ _ _ _ jm (@af _ _ _ _) (@af _ _ _ _))) (@pv _ 3 _ _ (by rfl) (by first | exact Or.inl rfl | exact Or.inr (Or.inl rfl) | exact Or.inr (Or.inr rfl)) (by decide) (by decide))))) (@aJ _)) (@aj _ _ _ _ _ (@aG _ _ (8) _ _ _ _ cz.nd rfl (Or.inl rfl) (@az _ _ _ _ _ _ _ _ d_ (@az _ _ _ _ _ _ _ _ bG (@az _ _ _ _ _ _ _ _ bG (@az _ _ _ _ _ _ _ _ bG (@az _ _ _ _ _ _ _ _ fq (@pv _ 4 _ _ (by rfl) (by first | exact Or.inl rfl | exact Or.inr (Or.inl rfl) | exact Or.inr (Or.inr rfl)) (by decide) (by decide)) (@af _ _ _ _)) (@az _ _ _ _ _ _ _ _ fq (@pv _ 1 _ _ (by rfl) (by first | exact Or.inl rfl | exact Or.inr (Or.inl rfl) | exact Or.inr (Or.inr rfl)) (by decide) (by decide)) (@af _ _ _ _))) (@az _ _ _ _ _ _ _ _ fq (@pv _ 2 _ _ (by rfl) (by first | exact Or.inl rfl | exact Or.inr (Or.inl rfl) | exact Or.inr (Or.inr rfl)) (by decide) (by decide)) (@af _ _ _ _))) (@af _ _ _ _)) (@af _ _ _ _)) (by rfl) (by first | exact .inl rfl | exact .inr rfl | assumption)) (@aj _ _ _ _ _ (@aG _ _ (9) _ _ _ _ cz.nd rfl (Or.inl rfl) (@az _ _ _ _ _ _ _ _ d_ (@az _ _ _ _ _ _ _ _ bG (@az _ _ _ _ _ _ _ _ fq (@pv _ 8 _ _ (by rfl) (by first | exact Or.inl rfl | exact Or.inr (Or.inl rfl) | exact Or.inr (Or.inr rfl)) (by decide) (by decide)) (@af _ _ _ _)) (@az _ _ _ _ _ _ _ _ e9 (@pv _ 4 _ _ (by rfl) (by first | exact Or.inl rfl | exact Or.inr (Or.inl rfl) | exact Or.inr (Or.inr rfl)) (by decide) (by decide)) (@af _ _ _ _))) (@af _ _ _ _)) (by rfl) (by first | exact .inl rfl | exact .inr rfl | assumption)) (@aj _ _ _ _ _ (@aG _ _ (9) _ _ _ _ cz.nd rfl (Or.inl rfl) (@az _ _ _ _ _ _ _ _ d_ (@az _ _ _ _ _ _ _ _ bG (@az _ _ _ _ _ _ _ _ fq (@pv _ 9 _ _ (by rfl) (by first | exact Or.inl rfl | exact Or.inr (Or.inl rfl) | exact Or.inr (Or.inr rfl)) (by decide) (by decide)) (@az _ _ _ _ _ _ _ _ bG (@az _ _ _ _ _ _ _ _ d_ (@pv _ 8 _ _ (by rfl) (by first | exact Or.inl rfl | exact Or.inr (Or.inl rfl) | exact Or.inr (Or.inr rfl)) (by decide) (by decide)) (@af _ _ _ _)) (@af _ _ _ _))) (@pv _ 2 _ _ (by rfl) (by first | exact Or.inl rfl | exact Or.inr (Or.inl rfl) | exact Or.inr (Or.inr rfl)) (by decide) (by decide))) (@af _ _ _ _)) (by rfl) (by first | exact .inl rfl | exact .inr rfl | assumption)) (@ao _ _ _ (@aD _ _ _ _ (@az _ _ _ _ _ _ _ _ d_ (@az _ _ _ _ _ _ _ _ d_ (@az _ _ _ _ _ _ _ _ bG (@az _ _ _ _ _ _ _ _ bG (@az _ _ _ _ _ _ _ _ fq (@pv _ 8 _ _ (by rfl) (by first | exact Or.inl rfl | exact Or.inr (Or.inl rfl) | exact Or.inr (Or.inr rfl)) (by decide) (by decide)) (@af _ _ _ _)) (@az _ _ _ _ _ _ _ _ fq (@pv _ 9 _ _ (by rfl) (by first | exact Or.inl rfl | exact Or.inr (Or.inl rfl) | exact Or.inr (Or.inr rfl)) (by decide) (by decide)) (@af _ _ _ _))) (@az _ _ _ _ _ _ _ _ e9 (@pv _ 9 _ _ (by rfl) (by first | exact Or.inl rfl | exact Or.inr (Or.inl rfl) | exact Or.inr (Or.inr rfl)) (by decide) (by decide)) (@af _ _ _ _))) (@af _ _ _ _)) (@pv _ 3 _ _ (by rfl) (by first | exact Or.inl rfl | exact Or.inr (Or.inl rfl) | exact Or.inr (Or.inr rfl)) (by decide) (by decide)))))))))))))),?_⟩
 have hl:(ns.map V.int).length = ns.length:=List.length_map _
 refine ⟨fun σ H'=>H' = H∧σ = [some (.ref a),some (.int k),some (.int j),some (.int many),some (.int (Jm.cellOf ns k)),some (.int (Jm.pG ns k)),none,none,none,none],?_,?_⟩
 · refine ⟨_,rfl,a,_,rfl, .inl hS,_,_,rfl,rfl,_,rfl,?_⟩
   refine cX (fun c=>?_) (fun c=>?_)
   · have c':0 < (((ns.map V.int).length:Nat):Int):=of_decide_eq_true c
     rw [hl] at c'
     have i0:0≤k % (ns.length:Int):=Int.emod_nonneg _ (by omega)
     have i1:k % (ns.length:Int) < (ns.length:Int):=Int.emod_lt_of_pos _ c'
     refine ⟨_,rfl,_,rfl,_,rfl,a,_,rfl, .inl hS,_,_,rfl,rfl,(by show (0:Int) < _;rw [hl];exact c'),a,_,_, .int (ns.getD (k % ns.length).toNat 0),rfl,rfl,hS,?_,?_⟩
     · rw [hl]
       exact JA i0 i1
     refine ⟨_,rfl,_,rfl,a,_,rfl, .inl hS,_,_,rfl,rfl,Gw (n:=10) (by rw [hl];exact c') (by rw [hl];omega) (by decide),rfl,?_⟩
     unfold Jm.cellOf Jm.pG
     rw [if_pos c',if_pos c',hl]
     rfl
   · have c':¬ 0 < (((ns.map V.int).length:Nat):Int):=of_decide_eq_false (Bool.eq_false_iff.mpr c)
     rw [hl] at c'
     refine ⟨rfl,?_⟩
     unfold Jm.cellOf Jm.pG
     rw [if_neg c',if_neg c']
     rfl
 rintro σ H' ⟨rfl,rfl⟩
 generalize ec:Jm.cellOf ns k = cell at *
 generalize et:Jm.pG ns k = turn at *
 refine ⟨_,rfl,_,rfl,j,rfl,by omega,hj2,?_⟩
 refine d9 (lo:=0) (n:=j.toNat) (fun i σ xo=>xo = H'∧∃st:Option V,σ = [some (.ref a),some (.int k),some (.int j),some (.int many),some (.int cell),some (.int turn),some (.int (Jm.ur cell i)),st,none,none]) ⟨rfl,none,rfl⟩ ?_ ?_
 · rintro i σ xo hi ⟨rfl,st,rfl⟩
   refine ⟨_,rfl,_,_,rfl,rfl,⟨by decide,by decide,by decide⟩,_,_,rfl,rfl,pF (by decide +kernel),rfl,?_⟩
   exact ⟨_,rfl⟩
 rintro σ xo ⟨rfl,st,rfl⟩
 have full:Q (.int (Jm.draw ns k j many)) xo:=q
 unfold Jm.draw at full
 rw [ec,et] at full
 generalize er:Jm.ur cell j.toNat = rest at *
 refine ⟨decide (turn = 0∧1000000000000000000≤cell∧0 < rest),?_,?_⟩
 · refine ⟨_,rfl,rfl,_,rfl,?_⟩
   by_cases h1:turn = 0
   · rw [decide_eq_true (by rw [h1] :V.int turn = V.int 0)]
     refine dW ⟨_,rfl,_,_,rfl,rfl,⟨by decide,by decide,by decide⟩,_,_,rfl,rfl,_,rfl,?_⟩
     by_cases h2:1000000000000000000≤cell
     · rw [decide_eq_true (show (10:Int) ^ (18:Int).toNat≤cell from h2)]
       refine dW ⟨_,rfl,_,_,rfl,rfl,_,rfl,?_,rfl⟩
       by_cases h3:0 < rest
       · rw [decide_eq_true h3,decide_eq_true ⟨h1,h2,h3⟩]
       · rw [decide_eq_false h3,decide_eq_false fun z=>h3 z.2.2]
     · rw [decide_eq_false (show ¬ (10:Int) ^ (18:Int).toNat≤cell from h2)]
       exact bq ⟨(decide_eq_false fun z=>h2 z.2.1).symm,rfl⟩
   · rw [decide_eq_false (fun z=>h1 (V.int.inj z))]
     exact bq ⟨(decide_eq_false fun z=>h1 z.1).symm,rfl⟩
 by_cases h:turn = 0∧1000000000000000000≤cell∧0 < rest
 · rw [decide_eq_true h]
   rw [if_pos h] at full
   refine dW ⟨_,rfl,_,_,rfl,rfl,⟨by decide,by decide,by decide⟩,_,_,rfl,rfl,(by show (0:Int) < _;decide),_,rfl,_,_,rfl,rfl,hm,?_⟩
   exact full
 · rw [decide_eq_false h]
   rw [if_neg h] at full
   refine bq ?_
   refine ⟨_,rfl,_,_,rfl,rfl, .inr ⟨by decide,by decide⟩,_,rfl,_,_,rfl,rfl, .inr ⟨by decide,by decide⟩,_,_,rfl,rfl,_,rfl,_,_,rfl,rfl, .inr ⟨by decide,by decide⟩,_,_,rfl,rfl,_,_,rfl,rfl,_,_,rfl,rfl,(by show (0:Int) < _;decide),?_⟩
   refine ⟨_,rfl,_,_,rfl,rfl, .inr ⟨by decide,by decide⟩,_,rfl,_,_,rfl,rfl,pF (by decide +kernel),_,_,rfl,rfl,_,_,rfl,rfl,(by show (0:Int) < _;decide),?_⟩
   unfold Jm.mixed at full
   dsimp only at full ⊢
   generalize e1:(cell * 7919 + k * 104729 + j * 1299709 + 31) % 1000000007 = one at *
   generalize e2:(one * 48271 + cell / 1009) % 998244353 = two at *
   have b1:0≤one % 9973:=Int.emod_nonneg _ (by decide)
   have b2:one % 9973 < 9973:=Int.emod_lt_of_pos _ (by decide)
   refine ⟨_,rfl,_,rfl,_,_,rfl,rfl,(by show (0:Int) < _;decide),_,_,rfl,rfl,_,_,rfl,rfl, .inr ⟨by omega,by omega⟩,_,rfl,_,_,rfl,rfl,_,_,rfl,rfl,(by show (0:Int) < _;decide),?_⟩
   refine ⟨_,rfl,_,_,rfl,rfl, .inr ⟨by decide,by decide⟩,_,rfl,_,_,rfl,rfl, .inr ⟨by decide,by decide⟩,_,_,rfl,rfl,_,rfl,_,_,rfl,rfl,pF (by decide +kernel),_,_,rfl,rfl,_,_,rfl,rfl,(by show (0:Int) < _;decide),_,rfl,_,_,rfl,rfl,hm,?_⟩
   exact full
abbrev lu:Stmt:=top 30
abbrev Bf:List Str:=["_law_code","_law_size","_law_word","_law_at"]
abbrev sH:List Str:=["_law_code","_law_size"]
theorem fX:aI Bf sH (au lu):=⟨rfl,rfl,rfl,by decide +kernel,rfl,by decide +kernel,by decide +kernel⟩
theorem Aq (F:At K mg "_law_name" lu f fd) (bw:mg "range" = none):Dn P w K mg base 1 "_law_name" sH vE:=by
 refine F.ok fX (fun vs H Q E h=>?_) (fun cdv A outer s H vs Q E hr h=>?_) (fun _ _ _ _ _ _ us hl=>match us,hl with | [_,_],_=>rfl)
 · obtain ⟨c,n,rfl,_⟩:=h.ex
   rfl
 obtain ⟨c,n,rfl,hc,hn,q⟩:=h.ex
 refine ⟨_,(@aj _ _ _ _ _ (@aG _ _ (2) _ _ _ _ fX.nd rfl (Or.inl rfl) (@aX _ _ _ _) (by rfl) (by first | exact .inl rfl | exact .inr rfl | assumption)) (@aj _ _ _ _ _ (@dO _ _ _ _ _ _ _ _ PassesOwn.never rfl (@dz _ _ _ _ _ _ (by rfl) bw (@aa _ _ _ _ _ (@pv _ 1 _ _ (by rfl) (by first | exact Or.inl rfl | exact Or.inr (Or.inl rfl) | exact Or.inr (Or.inr rfl)) (by decide) (by decide)) (@ah _) (by rfl)) (by rfl)) (@aZ _ _ (3) _ fX.nd rfl (Or.inl rfl) (by first | exact .inl rfl | exact .inr rfl | assumption)) (@aj _ _ _ _ _ (@aG _ _ (2) _ _ _ _ fX.nd rfl (Or.inl rfl) (@az _ _ _ _ _ _ _ _ ud (@pv _ 2 _ _ (by rfl) (by first | exact Or.inl rfl | exact Or.inr (Or.inl rfl) | exact Or.inr (Or.inr rfl)) (by decide) (by decide)) (@aF _ _ _ _ _ _ _ Es (@aX _ _ _ _) (@az _ _ _ _ _ _ _ _ d_ (@pv _ 0 _ _ (by rfl) (by first | exact Or.inl rfl | exact Or.inr (Or.inl rfl) | exact Or.inr (Or.inr rfl)) (by decide) (by decide)) (@af _ _ _ _)) (fun _ _=>rfl))) (by rfl) (by first | exact .inl rfl | exact .inr rfl | assumption)) (@ao _ _ _ (@aG _ _ (0) _ _ _ _ fX.nd rfl (Or.inl rfl) (@az _ _ _ _ _ _ _ _ e9 (@pv _ 0 _ _ (by rfl) (by first | exact Or.inl rfl | exact Or.inr (Or.inl rfl) | exact Or.inr (Or.inr rfl)) (by decide) (by decide)) (@af _ _ _ _)) (by rfl) (by first | exact .inl rfl | exact .inr rfl | assumption)))) (by intro _;rfl)) (@ao _ _ _ (@aD _ _ _ _ (@pv _ 2 _ _ (by rfl) (by first | exact Or.inl rfl | exact Or.inr (Or.inl rfl) | exact Or.inr (Or.inr rfl)) (by decide) (by decide)))))),?_⟩
 refine ⟨_,rfl,_,rfl,by omega,by omega,?_⟩
 refine d9 (lo:=0) (n:=(n:Int).toNat) (fun i σ H'=>H' = H∧∃(s1:Option V),σ = [some (.int (c / 26 ^ i)),some (.int n),some (.str (tx (fM c i))),s1]) ⟨rfl,none,by rw [Int.pow_zero,Int.ediv_one];rfl⟩ ?_ ?_
 · rintro i σ H' hi ⟨rfl,s1,rfl⟩
   have hp:(0:Int) < 26 ^ i:=Int.pow_pos (by decide)
   have hd0:0≤c / 26 ^ i:=Int.ediv_nonneg hc (Int.le_of_lt hp)
   have hm0:0≤c / 26 ^ i % 26:=Int.emod_nonneg _ (by decide)
   have hm1:c / 26 ^ i % 26 < 26:=Int.emod_lt_of_pos _ (by decide)
   refine ⟨_,rfl,_,rfl,_,_,rfl,rfl,(by show (0:Int) < 26;decide),_,_,_,rfl,rfl,(by decide +kernel),EN hm0 hm1,?_⟩
   refine ⟨_,_,rfl,rfl,?_,?_⟩
   · rw [dD,nO]
     show i + 1≤sizeLine
     exact Nat.le_of_lt (dB (by omega))
   refine ⟨_,rfl,_,_,rfl,rfl,nM (by decide) (kG (by decide +kernel)),rfl,some (.int ((0:Int) + (i:Int))),?_⟩
   have e1:c / 26 ^ i / 26 = c / 26 ^ (i + 1):=by rw [Int.ediv_ediv_of_nonneg (Int.le_of_lt hp),Int.pow_succ]
   have e2:(tx (fM c i) ++ tx [97 + (c / 26 ^ i % 26).toNat] :Str) = tx (fM c (i + 1)):=by rw [EK,GD]
   rw [← e1,← e2]
   rfl
 rintro σ H' ⟨rfl,s1,rfl⟩
 refine ⟨_,rfl,?_⟩
 rw [Int.toNat_natCast]
 exact q
abbrev jP:Stmt:=top 31
abbrev Ar:List Str:=["_law_script","_law_k","_law_many","_law_alike","_law_size","_law_first","_law_shift","_law_at","_law_names_here","_law_code"]
abbrev qg:List Str:=["_law_script","_law_k","_law_many"]
theorem bJ:aI Ar qg (au jP):=⟨rfl,rfl,rfl,by decide +kernel,rfl,by decide +kernel,by decide +kernel⟩
theorem xY (F:At K mg "_law_names" jP f fd) (aK:Dn P w K mg base 1 "_law_draw" ["_law_script","_law_k","_law_j","_law_many"] (ju K)) (jj:Dn P w K mg base 1 "_law_name" ["_law_code","_law_size"] vE) (bw:mg "range" = none):Dn P w K mg base 2 "_law_names" qg (vF K):=by
 refine F.ok bJ (fun vs H Q E h=>?_) (fun cdv A outer s H vs Q E hr h=>?_) (fun _ _ _ _ _ _ us hl=>match us,hl with | [_,_,_],_=>rfl)
 · obtain ⟨a,ms,k,many,rfl,_⟩:=h.ex
   rfl
 obtain ⟨a,ms,k,many,rfl,hS,h63,hk,hm,q⟩:=h.ex
 refine ⟨_,(@aj _ _ _ _ _ (@aG _ _ (3) _ _ _ _ bJ.nd rfl (Or.inl rfl) (@kj _ _ _ _ _ _ _ _ gW (@aR _ _ _ _ _ _ _ _ _ _ _ aK hr (@aa _ _ _ _ _ (@pv _ 0 _ _ (by rfl) (by first | exact Or.inl rfl | exact Or.inr (Or.inl rfl) | exact Or.inr (Or.inr rfl)) (by decide) (by decide)) (@aa _ _ _ _ _ (@pv _ 1 _ _ (by rfl) (by first | exact Or.inl rfl | exact Or.inr (Or.inl rfl) | exact Or.inr (Or.inr rfl)) (by decide) (by decide)) (@aa _ _ _ _ _ (@af _ _ _ _) (@aa _ _ _ _ _ (@af _ _ _ _) (@ah _) (by rfl)) (by rfl)) (by rfl)) (by rfl)) (by decide) (by rfl) (by decide) (by rfl) (by rfl)) (@af _ _ _ _) (aY _)) (by rfl) (by first | exact .inl rfl | exact .inr rfl | assumption)) (@aj _ _ _ _ _ (@aG _ _ (4) _ _ _ _ bJ.nd rfl (Or.inl rfl) (@az _ _ _ _ _ _ _ _ bG (@af _ _ _ _) (@aR _ _ _ _ _ _ _ _ _ _ _ aK hr (@aa _ _ _ _ _ (@pv _ 0 _ _ (by rfl) (by first | exact Or.inl rfl | exact Or.inr (Or.inl rfl) | exact Or.inr (Or.inr rfl)) (by decide) (by decide)) (@aa _ _ _ _ _ (@pv _ 1 _ _ (by rfl) (by first | exact Or.inl rfl | exact Or.inr (Or.inl rfl) | exact Or.inr (Or.inr rfl)) (by decide) (by decide)) (@aa _ _ _ _ _ (@af _ _ _ _) (@aa _ _ _ _ _ (@af _ _ _ _) (@ah _) (by rfl)) (by rfl)) (by rfl)) (by rfl)) (by decide) (by rfl) (by decide) (by rfl) (by rfl))) (by rfl) (by first | exact .inl rfl | exact .inr rfl | assumption)) (@aj _ _ _ _ _ (@aG _ _ (5) _ _ _ _ bJ.nd rfl (Or.inl rfl) (@aR _ _ _ _ _ _ _ _ _ _ _ aK hr (@aa _ _ _ _ _ (@pv _ 0 _ _ (by rfl) (by first | exact Or.inl rfl | exact Or.inr (Or.inl rfl) | exact Or.inr (Or.inr rfl)) (by decide) (by decide)) (@aa _ _ _ _ _ (@pv _ 1 _ _ (by rfl) (by first | exact Or.inl rfl | exact Or.inr (Or.inl rfl) | exact Or.inr (Or.inr rfl)) (by decide) (by decide)) (@aa _ _ _ _ _ (@af _ _ _ _) (@aa _ _ _ _ _ (@az _ _ _ _ _ _ _ _ jm (@af _ _ _ _) (@af _ _ _ _)) (@ah _) (by rfl)) (by rfl)) (by rfl)) (by rfl)) (by decide) (by rfl) (by decide) (by rfl) (by rfl)) (by rfl) (by first | exact .inl rfl | exact .inr rfl | assumption)) (@aj _ _ _ _ _ (@aG _ _ (6) _ _ _ _ bJ.nd rfl (Or.inl rfl) (@af _ _ _ _) (by rfl) (by first | exact .inl rfl | exact .inr rfl | assumption)) (@aj _ _ _ _ _ (@g_ _ _ _ _ _ _ _ _ (@bI _ _ _ (@pv _ 3 _ _ (by rfl) (by first | exact Or.inl rfl | exact Or.inr (Or.inl rfl) | exact Or.inr (Or.inr rfl)) (by decide) (by decide)) (by intro _;rfl)) (@ao _ _ _ (@dO _ _ _ _ _ _ _ _ PassesOwn.never rfl (@dz _ _ _ _ _ _ (by rfl) bw (@aa _ _ _ _ _ (@aR _ _ _ _ _ _ _ _ _ _ _ aK hr (@aa _ _ _ _ _ (@pv _ 0 _ _ (by rfl) (by first | exact Or.inl rfl | exact Or.inr (Or.inl rfl) | exact Or.inr (Or.inr rfl)) (by decide) (by decide)) (@aa _ _ _ _ _ (@pv _ 1 _ _ (by rfl) (by first | exact Or.inl rfl | exact Or.inr (Or.inl rfl) | exact Or.inr (Or.inr rfl)) (by decide) (by decide)) (@aa _ _ _ _ _ (@af _ _ _ _) (@aa _ _ _ _ _ (@pv _ 4 _ _ (by rfl) (by first | exact Or.inl rfl | exact Or.inr (Or.inl rfl) | exact Or.inr (Or.inr rfl)) (by decide) (by decide)) (@ah _) (by rfl)) (by rfl)) (by rfl)) (by rfl)) (by decide) (by rfl) (by decide) (by rfl) (by rfl)) (@ah _) (by rfl)) (by rfl)) (@aZ _ _ (7) _ bJ.nd rfl (Or.inl rfl) (by first | exact .inl rfl | exact .inr rfl | assumption)) (@ao _ _ _ (@aG _ _ (6) _ _ _ _ bJ.nd rfl (Or.inl rfl) (@az _ _ _ _ _ _ _ _ fq (@pv _ 6 _ _ (by rfl) (by first | exact Or.inl rfl | exact Or.inr (Or.inl rfl) | exact Or.inr (Or.inr rfl)) (by decide) (by decide)) (@af _ _ _ _)) (by rfl) (by first | exact .inl rfl | exact .inr rfl | assumption))) (by intro _;rfl))) (@aJ _)) (@aj _ _ _ _ _ (@aG _ _ (8) _ _ _ _ bJ.nd rfl (Or.inl rfl) (@cI _ _ _ _ (@ah _)) (by rfl) (by first | exact .inl rfl | exact .inr rfl | assumption)) (@aj _ _ _ _ _ (@dO _ _ _ _ _ _ _ _ PassesOwn.never rfl (@dz _ _ _ _ _ _ (by rfl) bw (@aa _ _ _ _ _ (@pv _ 2 _ _ (by rfl) (by first | exact Or.inl rfl | exact Or.inr (Or.inl rfl) | exact Or.inr (Or.inr rfl)) (by decide) (by decide)) (@ah _) (by rfl)) (by rfl)) (@aZ _ _ (7) _ bJ.nd rfl (Or.inl rfl) (by first | exact .inl rfl | exact .inr rfl | assumption)) (@aj _ _ _ _ _ (@aG _ _ (9) _ _ _ _ bJ.nd rfl (Or.inl rfl) (@az _ _ _ _ _ _ _ _ bG (@pv _ 5 _ _ (by rfl) (by first | exact Or.inl rfl | exact Or.inr (Or.inl rfl) | exact Or.inr (Or.inr rfl)) (by decide) (by decide)) (@az _ _ _ _ _ _ _ _ fq (@pv _ 6 _ _ (by rfl) (by first | exact Or.inl rfl | exact Or.inr (Or.inl rfl) | exact Or.inr (Or.inr rfl)) (by decide) (by decide)) (@aR _ _ _ _ _ _ _ _ _ _ _ aK hr (@aa _ _ _ _ _ (@pv _ 0 _ _ (by rfl) (by first | exact Or.inl rfl | exact Or.inr (Or.inl rfl) | exact Or.inr (Or.inr rfl)) (by decide) (by decide)) (@aa _ _ _ _ _ (@pv _ 1 _ _ (by rfl) (by first | exact Or.inl rfl | exact Or.inr (Or.inl rfl) | exact Or.inr (Or.inr rfl)) (by decide) (by decide)) (@aa _ _ _ _ _ (@az _ _ _ _ _ _ _ _ bG (@af _ _ _ _) (@az _ _ _ _ _ _ _ _ fq (@af _ _ _ _) (@pv _ 7 _ _ (by rfl) (by first | exact Or.inl rfl | exact Or.inr (Or.inl rfl) | exact Or.inr (Or.inr rfl)) (by decide) (by decide)))) (@aa _ _ _ _ _ (@af _ _ _ _) (@ah _) (by rfl)) (by rfl)) (by rfl)) (by rfl)) (by decide) (by rfl) (by decide) (by rfl) (by rfl)))) (by rfl) (by first | exact .inl rfl | exact .inr rfl | assumption)) (@aj _ _ _ _ _ (@g_ _ _ _ _ _ _ _ _ (@bN _ _ _ _ (@bI _ _ _ (@pv _ 3 _ _ (by rfl) (by first | exact Or.inl rfl | exact Or.inr (Or.inl rfl) | exact Or.inr (Or.inr rfl)) (by decide) (by decide)) (by intro _;rfl))) (@aj _ _ _ _ _ (@aG _ _ (4) _ _ _ _ bJ.nd rfl (Or.inl rfl) (@az _ _ _ _ _ _ _ _ bG (@af _ _ _ _) (@aR _ _ _ _ _ _ _ _ _ _ _ aK hr (@aa _ _ _ _ _ (@pv _ 0 _ _ (by rfl) (by first | exact Or.inl rfl | exact Or.inr (Or.inl rfl) | exact Or.inr (Or.inr rfl)) (by decide) (by decide)) (@aa _ _ _ _ _ (@pv _ 1 _ _ (by rfl) (by first | exact Or.inl rfl | exact Or.inr (Or.inl rfl) | exact Or.inr (Or.inr rfl)) (by decide) (by decide)) (@aa _ _ _ _ _ (@az _ _ _ _ _ _ _ _ bG (@af _ _ _ _) (@az _ _ _ _ _ _ _ _ fq (@af _ _ _ _) (@pv _ 7 _ _ (by rfl) (by first | exact Or.inl rfl | exact Or.inr (Or.inl rfl) | exact Or.inr (Or.inr rfl)) (by decide) (by decide)))) (@aa _ _ _ _ _ (@af _ _ _ _) (@ah _) (by rfl)) (by rfl)) (by rfl)) (by rfl)) (by decide) (by rfl) (by decide) (by rfl) (by rfl))) (by rfl) (by first | exact .inl rfl | exact .inr rfl | assumption)) (@ao _ _ _ (@aG _ _ (9) _ _ _ _ bJ.nd rfl (Or.inl rfl) (@aR _ _ _ _ _ _ _ _ _ _ _ aK hr (@aa _ _ _ _ _ (@pv _ 0 _ _ (by rfl) (by first | exact Or.inl rfl | exact Or.inr (Or.inl rfl) | exact Or.inr (Or.inr rfl)) (by decide) (by decide)) (@aa _ _ _ _ _ (@pv _ 1 _ _ (by rfl) (by first | exact Or.inl rfl | exact Or.inr (Or.inl rfl) | exact Or.inr (Or.inr rfl)) (by decide) (by decide)) (@aa _ _ _ _ _ (@az _ _ _ _ _ _ _ _ bG (@af _ _ _ _) (@az _ _ _ _ _ _ _ _ fq (@af _ _ _ _) (@pv _ 7 _ _ (by rfl) (by first | exact Or.inl rfl | exact Or.inr (Or.inl rfl) | exact Or.inr (Or.inr rfl)) (by decide) (by decide)))) (@aa _ _ _ _ _ (@az _ _ _ _ _ _ _ _ jm (@af _ _ _ _) (@af _ _ _ _)) (@ah _) (by rfl)) (by rfl)) (by rfl)) (by rfl)) (by decide) (by rfl) (by decide) (by rfl) (by rfl)) (by rfl) (by first | exact .inl rfl | exact .inr rfl | assumption)))) (@aJ _)) (@aj _ _ _ _ _ (@sR _ _ _ _ _ _ PassesOwn.never (@aM _ _ _ _ _ _ _ _ wO (@aR _ _ _ _ _ _ _ _ _ _ _ jj hr (@aa _ _ _ _ _ (@pv _ 9 _ _ (by rfl) (by first | exact Or.inl rfl | exact Or.inr (Or.inl rfl) | exact Or.inr (Or.inr rfl)) (by decide) (by decide)) (@aa _ _ _ _ _ (@pv _ 4 _ _ (by rfl) (by first | exact Or.inl rfl | exact Or.inr (Or.inl rfl) | exact Or.inr (Or.inr rfl)) (by decide) (by decide)) (@ah _) (by rfl)) (by rfl)) (by decide) (by rfl) (by decide) (by rfl) (by rfl)) (@pv _ 8 _ _ (by rfl) (by first | exact Or.inl rfl | exact Or.inr (Or.inl rfl) | exact Or.inr (Or.inr rfl)) (by decide) (by decide)) (by with_unfolding_all rfl)) (@ao _ _ _ (@aG _ _ (9) _ _ _ _ bJ.nd rfl (Or.inl rfl) (@az _ _ _ _ _ _ _ _ bG (@pv _ 9 _ _ (by rfl) (by first | exact Or.inl rfl | exact Or.inr (Or.inl rfl) | exact Or.inr (Or.inr rfl)) (by decide) (by decide)) (@pv _ 6 _ _ (by rfl) (by first | exact Or.inl rfl | exact Or.inr (Or.inl rfl) | exact Or.inr (Or.inr rfl)) (by decide) (by decide))) (by rfl) (by first | exact .inl rfl | exact .inr rfl | assumption)))) (@ao _ _ _ (@fD _ _ _ _ (@qI _ _ _ _ _ _ _ _ _ _ _ _ PySem.F.plainAttrs_list PySem.F.slot_list_append PySem.F.type_list_append eZ (@pv _ 8 _ _ (by rfl) (by first | exact Or.inl rfl | exact Or.inr (Or.inl rfl) | exact Or.inr (Or.inr rfl)) (by decide) (by decide)) (@aa _ _ _ _ _ (@aR _ _ _ _ _ _ _ _ _ _ _ jj hr (@aa _ _ _ _ _ (@pv _ 9 _ _ (by rfl) (by first | exact Or.inl rfl | exact Or.inr (Or.inl rfl) | exact Or.inr (Or.inr rfl)) (by decide) (by decide)) (@aa _ _ _ _ _ (@pv _ 4 _ _ (by rfl) (by first | exact Or.inl rfl | exact Or.inr (Or.inl rfl) | exact Or.inr (Or.inr rfl)) (by decide) (by decide)) (@ah _) (by rfl)) (by rfl)) (by decide) (by rfl) (by decide) (by rfl) (by rfl)) (@ah _) (by rfl)) (by rfl) (by rfl) (by rfl) (by rfl) (by rfl)) (by rfl)))))) (by intro _;rfl)) (@ao _ _ _ (@aD _ _ _ _ (@pv _ 8 _ _ (by rfl) (by first | exact Or.inl rfl | exact Or.inr (Or.inl rfl) | exact Or.inr (Or.inr rfl)) (by decide) (by decide))))))))))),?_⟩
 have OH:F_ 10 10:=⟨by decide,by decide,by decide +kernel⟩
 refine ⟨_,rfl,_,rfl,bX hS h63 hk (by decide) (by decide) (by decide) fun al _ _ _=>⟨rfl,?_⟩⟩
 refine ⟨_,rfl,_,rfl,bX hS h63 hk (by decide) (by decide) (by decide) fun sd _ s0 s1=>⟨_,_,rfl,rfl,?_⟩⟩
 refine ⟨_,rfl,_,rfl,_,_,rfl,rfl,OH,bX hS h63 hk (by decide) (by decide) (by decide +kernel) fun fc _ f0 f1=>?_⟩
 generalize hal:decide (V.int al = V.int 0) = alike
 obtain ⟨n0,RC⟩:∃n:Nat,1 + sd = (n:Int):=⟨(1 + sd).toNat,by omega⟩
 refine ⟨fun σ H'=>H' = H∧∃(d:Nat) (s7:Option V),(alike = true→d < n0)∧(alike = false→d = 0)∧d < 8∧σ = [some (.ref a),some (.int k),some (.int many),some (.bl alike),some (.int (1 + sd)),some (.int fc),some (.int ((26:Int) ^ d)),s7,none,none],?_,?_⟩
 · refine ⟨_,rfl,_,rfl,cX (fun c=>?_) (fun c=>?_)⟩
   · refine ⟨_,rfl,_,rfl,_,rfl,bX hS h63 hk (by decide) (by decide) (by omega) fun dd _ d0 d1=>⟨dd,rfl,by omega,by omega,?_⟩⟩
     refine d9 (lo:=0) (n:=dd.toNat) (fun i σ H'=>H' = H∧∃s7:Option V,σ = [some (.ref a),some (.int k),some (.int many),some (.bl alike),some (.int (1 + sd)),some (.int fc),some (.int ((26:Int) ^ i)),s7,none,none]) ⟨rfl,none,rfl⟩ ?_ ?_
     · rintro i σ H' hi ⟨rfl,s7,rfl⟩
       refine ⟨_,rfl,_,_,rfl,rfl, .inr ⟨by decide,by decide⟩,rfl,some (.int ((0:Int) + (i:Int))),?_⟩
       rw [Int.pow_succ]
       rfl
     · rintro σ H' ⟨rfl,s7,rfl⟩
       exact ⟨rfl,dd.toNat,s7,fun _=>by omega,fun z=>absurd c (by rw [z];exact Bool.false_ne_true),by omega,rfl⟩
   · exact ⟨rfl,0,none,fun z=>absurd z c,fun _=>rfl,by decide,rfl⟩
 rintro σ H' ⟨rfl,d,s7,hd1,hd2,Sv,rfl⟩
 refine ⟨(by show 0≤sizeLine;decide),fun pn CD=>?_⟩
 have g0:=av CD (.lst [])
 refine ⟨_,rfl,(many:Int),rfl,by omega,by omega,?_⟩
 refine d9 (lo:=0) (n:=(many:Int).toNat) (fun i σ H2=>aC H' H2∧∃(nss:List (List Nat)) (n:Nat) (s1 s2:Option V),d < n∧n≤8∧σ = [some (.ref a),some (.int k),some (.int many),some (.bl alike),some (.int (n:Int)),some (.int fc),some (.int ((26:Int) ^ d)),s1,some (.ref pn),s2]∧H2 pn = some (.lst (jx nss))∧nss.length = i∧nss.Nodup∧∀x∈nss,ia x)
  ⟨g0,[],n0,s7,none,?_,by omega,by rw [← RC];rfl,ai,rfl,List.nodup_nil,fun _ m=>nomatch m⟩ ?_ ?_
 · cases alike with
   | true=>exact hd1 rfl
   | false=>rw [hd2 rfl];omega
 · rintro i σ H2 hi ⟨g,nss,n,s1,s2,hdn,CF,rfl,hn,hnl,hnd,hok⟩
   have hsl:(jx nss).length = i:=by unfold jx;rw [List.length_map];exact hnl
   have L_:=g.seq hS
   have hp:(0:Int) < 26 ^ d:=Int.pow_pos (by decide)
   have FF:(26:Int) ^ d < 2 ^ 64:=by
    rcases (by omega:d = 0∨d = 1∨d = 2∨d = 3∨d = 4∨d = 5∨d = 6∨d = 7) with e | e | e | e | e | e | e | e <;> (rw [e];decide +kernel)
   refine ⟨_,rfl,_,rfl,_,rfl,_,rfl,_,rfl,_,_,rfl,rfl, .inl ⟨by decide,by decide⟩,_,_,rfl,rfl,bX L_ h63 hk (by omega) (by omega) (by decide) fun cd _ c0 c1=>⟨_,_,rfl,rfl, .inl ⟨by omega,FF⟩,_,_,rfl,rfl,?_⟩⟩
   have hcode:0≤fc + 26 ^ d * cd:=Int.add_nonneg f0 (Int.mul_nonneg (Int.le_of_lt hp) c0)
   refine ⟨fun σ H3=>H3 = H2∧∃(n:Nat) (c:Int),0≤c∧d < n∧n≤8∧σ = [some (.ref a),some (.int k),some (.int many),some (.bl alike),some (.int (n:Int)),some (.int fc),some (.int ((26:Int) ^ d)),some (.int ((0:Int) + (i:Int))),some (.ref pn),some (.int c)],?_,?_⟩
   · refine ⟨_,rfl,_,rfl,?_⟩
     cases hb:alike with
     | true=>exact bq ⟨rfl,n,_,hcode,hdn,CF,rfl⟩
     | false=>
       refine dW ?_
       have hd0:=hd2 hb
       refine ⟨_,rfl,_,rfl,_,rfl,_,_,rfl,rfl, .inl ⟨by decide,by decide⟩,_,_,rfl,rfl,bX L_ h63 hk (by omega) (by omega) (by decide) fun zd _ z0 z1=>⟨_,_,rfl,rfl,?_⟩⟩
       refine ⟨_,rfl,_,rfl,_,rfl,_,_,rfl,rfl, .inl ⟨by decide,by decide⟩,_,_,rfl,rfl,_,_,rfl,rfl,OH,bX L_ h63 hk (by omega) (by omega) (by decide +kernel) fun RD _ e0 _=>?_⟩
       refine ⟨rfl,(1 + zd).toNat,RD,e0,by omega,by omega,?_⟩
       rw [show (((1 + zd).toNat:Nat):Int) = 1 + zd from by omega]
       rfl
   clear hdn CF hcode
   rintro σ H3 ⟨rfl,n,lY,RE,hdn,CF,rfl⟩
   refine ⟨fun m σ H4=>H4 = H3∧∃t:Nat,m = nss.length + 1 - t∧t≤nss.length∧σ = [some (.ref a),some (.int k),some (.int many),some (.bl alike),some (.int (n:Int)),some (.int fc),some (.int ((26:Int) ^ d)),some (.int ((0:Int) + (i:Int))),some (.ref pn),some (.int (lY + (t:Int) * 26 ^ d))]∧∀j:Nat,j < t→fM (lY + (j:Int) * 26 ^ d) n∈nss,
    ⟨_,rfl,0,rfl,Nat.zero_le _,by rw [show lY + ((0:Nat):Int) * 26 ^ d = lY from by simp],fun j hj=>absurd hj (Nat.not_lt_zero _)⟩,?_⟩
   rintro m σ H4 ⟨rfl,t,rfl,ht,rfl,htr⟩
   have hct:0≤lY + (t:Int) * 26 ^ d:=Int.add_nonneg RE (Int.mul_nonneg (by omega) (Int.le_of_lt hp))
   refine ⟨_,rfl,_,rfl,y9 rfl hct (by omega) ?_⟩
   refine ⟨_,rfl,pn,_,rfl, .inl (aE.of hn),rfl,GH nss,?_⟩
   show ∃b,V.bl (if false = true then !yI (.str (tx (fM (lY + (t:Int) * 26 ^ d) n))) (jx nss) else yI (.str (tx (fM (lY + (t:Int) * 26 ^ d) n))) (jx nss)) = .bl b∧_
   rw [if_neg Bool.false_ne_true,B5]
   refine ⟨_,rfl,cX (fun c=>?_) (fun c=>?_)⟩
   · have hmem:fM (lY + (t:Int) * 26 ^ d) n∈nss:=of_decide_eq_true c
     have Ma:∀j:Nat,j < t + 1→fM (lY + (j:Int) * 26 ^ d) n∈nss:=fun j hj=>by
      rcases Nat.lt_succ_iff_lt_or_eq.mp hj with z | z
      · exact htr j z
      · rw [z];exact hmem
     have hle:=ET (c:=lY) (n:=n) (t:=t + 1) hdn (by omega) Ma
     refine ⟨_,fun _ _ z=>z,?_⟩
     refine ⟨_,rfl,_,rfl,_,_,rfl,rfl,?_⟩
     refine ⟨_,(by omega:nss.length + 1 - (t + 1) < nss.length + 1 - t),rfl,t + 1,rfl,hle,?_,Ma⟩
     rw [show lY + ((t + 1:Nat):Int) * 26 ^ d = lY + (t:Int) * 26 ^ d + 26 ^ d from by rw [Int.natCast_add,Int.add_mul];show _ + (_ + 1 * _) = _;rw [Int.one_mul,Int.add_assoc]]
     rfl
   · have hnm:fM (lY + (t:Int) * 26 ^ d) n ∉ nss:=of_decide_eq_false (Bool.eq_false_iff.mpr c)
     refine ⟨_,rfl, .inl ⟨rfl,_,aE.of hn⟩,?_⟩
     refine ⟨_,rfl,_,rfl,y9 rfl hct (by omega) ?_⟩
     refine ⟨pn,jx nss,_,rfl,rfl,hn,dB (by omega),g.dg CD _,nss ++ [fM (lY + (t:Int) * 26 ^ d) n],n,_,_,hdn,CF,rfl,?_,?_,iW hnd hnm,fun x hx=>?_⟩
     · rw [ai]
       unfold jx
       rw [List.map_append]
       rfl
     · rw [List.length_append,hnl]
       rfl
     · rcases List.mem_append.mp hx with z | z
       · exact hok x z
       · rw [List.mem_singleton.mp z]
         exact Lc _ (by omega) CF
 rintro σ H2 ⟨g,nss,n,s1,s2,hdn,CF,rfl,hn,hnl,hnd,hok⟩
 exact ⟨_,rfl,q pn nss H2 g hn CD (by omega) hnd hok⟩
abbrev lz:Stmt:=top 54
abbrev Bg:List Str:=["_law_script","_law_k","_law_j","_law_size"]
abbrev sJ:List Str:=["_law_script","_law_k","_law_j"]
theorem qh:aI Bg sJ (au lz):=⟨rfl,rfl,rfl,by decide +kernel,rfl,by decide +kernel,by decide +kernel⟩
theorem As (F:At K mg "_law_much" lz f fd) (aK:Dn P w K mg base 1 "_law_draw" ["_law_script","_law_k","_law_j","_law_many"] (ju K)):Dn P w K mg base 2 "_law_much" sJ (yY K):=by
 refine F.ok qh (fun vs H Q E h=>?_) (fun cdv A outer s H vs Q E hr h=>?_) (fun _ _ _ _ _ _ us hl=>match us,hl with | [_,_,_],_=>rfl)
 · obtain ⟨a,ns,k,j,rfl,_⟩:=h.ex
   rfl
 obtain ⟨a,ns,k,j,rfl,hS,h63,hk,hj,hj2,q⟩:=h.ex
 refine ⟨_,(@aj _ _ _ _ _ (@aG _ _ (3) _ _ _ _ qh.nd rfl (Or.inl rfl) (@aF _ _ _ _ _ _ _ (aT K) (@cI _ _ _ _ (@aa _ _ _ _ _ (@af _ _ _ _) (@aa _ _ _ _ _ (@af _ _ _ _) (@aa _ _ _ _ _ (@af _ _ _ _) (@aa _ _ _ _ _ (@az _ _ _ _ _ _ _ _ jm (@af _ _ _ _) (@af _ _ _ _)) (@ah _) (by rfl)) (by rfl)) (by rfl)) (by rfl))) (@aR _ _ _ _ _ _ _ _ _ _ _ aK hr (@aa _ _ _ _ _ (@pv _ 0 _ _ (by rfl) (by first | exact Or.inl rfl | exact Or.inr (Or.inl rfl) | exact Or.inr (Or.inr rfl)) (by decide) (by decide)) (@aa _ _ _ _ _ (@pv _ 1 _ _ (by rfl) (by first | exact Or.inl rfl | exact Or.inr (Or.inl rfl) | exact Or.inr (Or.inr rfl)) (by decide) (by decide)) (@aa _ _ _ _ _ (@pv _ 2 _ _ (by rfl) (by first | exact Or.inl rfl | exact Or.inr (Or.inl rfl) | exact Or.inr (Or.inr rfl)) (by decide) (by decide)) (@aa _ _ _ _ _ (@af _ _ _ _) (@ah _) (by rfl)) (by rfl)) (by rfl)) (by rfl)) (by decide) (by rfl) (by decide) (by rfl) (by rfl)) (fun _ _=>rfl)) (by rfl) (by first | exact .inl rfl | exact .inr rfl | assumption)) (@ao _ _ _ (@aD _ _ _ _ (@az _ _ _ _ _ _ _ _ bG (@af _ _ _ _) (@aR _ _ _ _ _ _ _ _ _ _ _ aK hr (@aa _ _ _ _ _ (@pv _ 0 _ _ (by rfl) (by first | exact Or.inl rfl | exact Or.inr (Or.inl rfl) | exact Or.inr (Or.inr rfl)) (by decide) (by decide)) (@aa _ _ _ _ _ (@pv _ 1 _ _ (by rfl) (by first | exact Or.inl rfl | exact Or.inr (Or.inl rfl) | exact Or.inr (Or.inr rfl)) (by decide) (by decide)) (@aa _ _ _ _ _ (@az _ _ _ _ _ _ _ _ bG (@pv _ 2 _ _ (by rfl) (by first | exact Or.inl rfl | exact Or.inr (Or.inl rfl) | exact Or.inr (Or.inr rfl)) (by decide) (by decide)) (@af _ _ _ _)) (@aa _ _ _ _ _ (@pv _ 3 _ _ (by rfl) (by first | exact Or.inl rfl | exact Or.inr (Or.inl rfl) | exact Or.inr (Or.inr rfl)) (by decide) (by decide)) (@ah _) (by rfl)) (by rfl)) (by rfl)) (by rfl)) (by decide) (by rfl) (by decide) (by rfl) (by rfl)))))),?_⟩
 refine ⟨_,_,rfl,rfl,⟨by decide,by decide,by decide⟩,(by show 4≤sizeLine;decide),fun p1 hp1=>?_⟩
 have g1:=av hp1 (.lst [V.int 9,V.int 40,V.int 1000,V.int (10 ^ (9:Int).toNat)])
 refine ⟨_,rfl,_,rfl,_,rfl,bX (g1.seq hS) h63 hk hj (by omega) (by decide) fun d _ d0 d1=>?_⟩
 obtain ⟨B,hB,RG,Sw⟩:∃B:Int,gj [V.int 9,V.int 40,V.int 1000,V.int (10 ^ (9:Int).toNat)] d = some (.int B)∧0 < B∧B≤1000000000:=by
  rcases (by omega:d = 0∨d = 1∨d = 2∨d = 3) with e | e | e | e
  · exact ⟨9,by rw [e];rfl,by decide,by decide⟩
  · exact ⟨40,by rw [e];rfl,by decide,by decide⟩
  · exact ⟨1000,by rw [e];rfl,by decide,by decide⟩
  · exact ⟨10 ^ (9:Int).toNat,by rw [e];rfl,by decide,by decide⟩
 refine ⟨p1,_,_,_,rfl,rfl,aE.of ai,hB,?_⟩
 refine ⟨_,rfl,_,rfl,_,rfl,_,_,rfl,rfl,_,rfl,bX (g1.seq hS) h63 hk (by omega) (by omega) RG fun e _ e0 e1=>⟨_,_,rfl,rfl,?_⟩⟩
 exact q (1 + e) _ (by omega) (by omega) g1
abbrev mJ:Stmt:=top 45
abbrev DN:List Str:=["_law_found"]
abbrev u6:List Str:=["_law_found"]
theorem Bh:aI DN u6 (au mJ):=⟨rfl,rfl,rfl,by decide +kernel,rfl,by decide +kernel,by decide +kernel⟩
theorem Bj (F:At K mg "_law_int" mJ f fd) (ay:mg "isinstance" = none) (DO:mg "int" = none) (Au:mg "bool" = none):Dn P w K mg base 1 "_law_int" u6 uu:=by
 refine F.ok Bh (fun vs H Q E h=>?_) (fun cdv A outer s H vs Q E hr h=>?_) (fun _ _ _ _ _ _ us hl=>match us,hl with | [_],_=>rfl)
 · obtain ⟨a,rfl,_⟩:=h
   rfl
 obtain ⟨i,rfl,q⟩:=h
 refine ⟨_,(@ao _ _ _ (@aD _ _ _ _ (@tY _ _ _ _ _ _ _ (@aB _ _ _ _ _ _ _ _ _ (bC K) (by rfl) ay PyProof.Rows.boot_isinstance (@aa _ _ _ _ _ (@pv _ 0 _ _ (by rfl) (by first | exact Or.inl rfl | exact Or.inr (Or.inl rfl) | exact Or.inr (Or.inr rfl)) (by decide) (by decide)) (@aa _ _ _ _ _ (@ef _ _ _ _ PyProof.Rows.boot_int rfl DO (by decide) (by decide)) (@ah _) (by rfl)) (by rfl)) (by decide) (by decide) (by rfl) (by rfl)) (@tX _ _ _ _ _ (@Kc _ _ _ _ (@aB _ _ _ _ _ _ _ _ _ (bC K) (by rfl) ay PyProof.Rows.boot_isinstance (@aa _ _ _ _ _ (@pv _ 0 _ _ (by rfl) (by first | exact Or.inl rfl | exact Or.inr (Or.inl rfl) | exact Or.inr (Or.inr rfl)) (by decide) (by decide)) (@aa _ _ _ _ _ (@ef _ _ _ _ PyProof.Rows.boot_bool rfl Au (by decide) (by decide)) (@ah _) (by rfl)) (by rfl)) (by decide) (by decide) (by rfl) (by rfl))))))),?_⟩
 refine ⟨_,rfl,_,_,_,_,rfl,c_.int i,dF,_,rfl,dW ?_⟩
 refine ⟨_,rfl,_,_,_,_,rfl,c_.int i,yQ,_,rfl,?_⟩
 exact q
abbrev jQ:Stmt:=top 47
abbrev Av:List Str:=["_law_top","_law_bottom","_law_one","_law_other"]
abbrev qi:List Str:=["_law_top","_law_bottom"]
theorem gE:aI Av qi (au jQ):=⟨rfl,rfl,rfl,by decide +kernel,rfl,by decide +kernel,by decide +kernel⟩
theorem xZ (F:At K mg "_law_least" jQ f fd) (DP:mg "abs" = none):Dn P w K mg base 1 "_law_least" qi qO:=by
 refine F.ok gE (fun vs H Q E h=>?_) (fun cdv A outer s H vs Q E hr h=>?_) (fun _ _ _ _ _ _ us hl=>match us,hl with | [_,_],_=>rfl)
 · obtain ⟨a,b,rfl,_⟩:=h.ex
   rfl
 obtain ⟨t,b,rfl,hb,hb2,q⟩:=h.ex
 refine ⟨_,(@aj _ _ _ _ _ (@aG _ _ (2) _ _ _ _ gE.nd rfl (Or.inl rfl) (@aB _ _ _ _ _ _ _ _ _ Gd (by rfl) DP PyProof.Rows.boot_abs (@aa _ _ _ _ _ (@pv _ 0 _ _ (by rfl) (by first | exact Or.inl rfl | exact Or.inr (Or.inl rfl) | exact Or.inr (Or.inr rfl)) (by decide) (by decide)) (@ah _) (by rfl)) (by decide) (by decide) (by rfl) (by rfl)) (by rfl) (by first | exact .inl rfl | exact .inr rfl | assumption)) (@aj _ _ _ _ _ (@aG _ _ (3) _ _ _ _ gE.nd rfl (Or.inl rfl) (@pv _ 1 _ _ (by rfl) (by first | exact Or.inl rfl | exact Or.inr (Or.inl rfl) | exact Or.inr (Or.inr rfl)) (by decide) (by decide)) (by rfl) (by first | exact .inl rfl | exact .inr rfl | assumption)) (@aj _ _ _ _ _ (@sR _ _ _ _ _ _ PassesOwn.never (@aM _ _ _ _ _ _ _ _ gX (@pv _ 3 _ _ (by rfl) (by first | exact Or.inl rfl | exact Or.inr (Or.inl rfl) | exact Or.inr (Or.inr rfl)) (by decide) (by decide)) (@af _ _ _ _) (aY _)) (@ao _ _ _ (@Ea _ _ (2) (3) _ _ _ _ _ _ _ _ _ _ _ rfl gE.nd rfl rfl (by decide) rfl rfl (@aa _ _ _ _ _ (@pv _ 3 _ _ (by rfl) (by first | exact Or.inl rfl | exact Or.inr (Or.inl rfl) | exact Or.inr (Or.inr rfl)) (by decide) (by decide)) (@aa _ _ _ _ _ (@az _ _ _ _ _ _ _ _ d_ (@pv _ 2 _ _ (by rfl) (by first | exact Or.inl rfl | exact Or.inr (Or.inl rfl) | exact Or.inr (Or.inr rfl)) (by decide) (by decide)) (@pv _ 3 _ _ (by rfl) (by first | exact Or.inl rfl | exact Or.inr (Or.inl rfl) | exact Or.inr (Or.inr rfl)) (by decide) (by decide))) (@ah _) (by rfl)) (by rfl)) (by rfl) (by rfl)))) (@ao _ _ _ (@aD _ _ _ _ (@eU _ _ _ _ _ (@aa _ _ _ _ _ (@az _ _ _ _ _ _ _ _ e9 (@pv _ 0 _ _ (by rfl) (by first | exact Or.inl rfl | exact Or.inr (Or.inl rfl) | exact Or.inr (Or.inr rfl)) (by decide) (by decide)) (@pv _ 2 _ _ (by rfl) (by first | exact Or.inl rfl | exact Or.inr (Or.inl rfl) | exact Or.inr (Or.inr rfl)) (by decide) (by decide))) (@aa _ _ _ _ _ (@az _ _ _ _ _ _ _ _ e9 (@pv _ 1 _ _ (by rfl) (by first | exact Or.inl rfl | exact Or.inr (Or.inl rfl) | exact Or.inr (Or.inr rfl)) (by decide) (by decide)) (@pv _ 2 _ _ (by rfl) (by first | exact Or.inl rfl | exact Or.inr (Or.inl rfl) | exact Or.inr (Or.inr rfl)) (by decide) (by decide))) (@ah _) (by rfl)) (by rfl)))))))),?_⟩
 refine ⟨_,rfl,_,rfl,_,rfl,?_⟩
 refine ⟨fun m σ H'=>∃x y:Int,m = y.toNat∧σ = [some (.int t),some (.int b),some (.int x),some (.int y)]∧H' = H∧0≤x∧0≤y∧Jm.cf x y = Jm.cf b t,
  ⟨_,(if t < 0 then -t else t),b,rfl,rfl,rfl,(by split <;> omega),Int.le_of_lt hb,(by rw [Jm.BY,Jm.K0])⟩,?_⟩
 rintro m σ H' ⟨x,y,rfl,rfl,rfl,hx,hy,e⟩
 refine ⟨_,rfl,rfl,_,rfl,cX (fun c=>?_) (fun c=>?_)⟩
 · have c1:¬ V.int y = V.int 0:=of_decide_eq_false (by simpa using c)
   have c':0 < y:=by
    have:y ≠ 0:=fun z=>c1 (by rw [z])
    omega
   refine ⟨_,fun _ _ z=>z,?_⟩
   refine ⟨_,rfl,_,rfl,_,rfl,_,_,rfl,rfl,c',_,_,rfl,?_⟩
   have h1:0≤x % y:=Int.emod_nonneg _ (by omega)
   have h2:x % y < y:=Int.emod_lt_of_pos _ c'
   exact ⟨_,(by omega:(x % y).toNat < y.toNat),y,x % y,rfl,rfl,rfl,hy,h1,(Jm.vC x y c').trans e⟩
 · have c1:V.int y = V.int 0:=by simpa using c
   have ey:y = 0:=V.int.inj c1
   subst ey
   rw [Jm.BX x hx] at e
   subst e
   have g0:0 < Jm.cf b t:=Jm.yR _ _ (.inl hb)
   have g1:Jm.Sz 9000 (Jm.cf b t):=hb2.dvd hb (Int.le_of_lt g0) (Jm.mC b t)
   have gd:∀i,uq i (Jm.cf b t):=fun i=>nM g0 g1
   refine ⟨_,rfl,_,rfl,_,_,rfl,rfl,gd _,_,rfl,_,rfl,_,_,rfl,rfl,gd _,(by show 2≤sizeLine;decide),fun p hp=>?_⟩
   refine q p _ (av hp _) ?_
   rw [ai]
   show some (HO.tup [V.int (t / Jm.cf b t),V.int (b / Jm.cf b t)]) = some (HO.tup [V.int (Jm.fr t b).num,V.int ((Jm.fr t b).den:Int)])
   rw [Jm.EB t b hb,Jm.yS t b hb]
abbrev nZ:Stmt:=top 48
abbrev FG:List Str:=["_law_found","_law_top","_law_bottom"]
abbrev xF:List Str:=["_law_found","_law_top","_law_bottom"]
theorem DQ:aI FG xF (au nZ):=⟨rfl,rfl,rfl,by decide +kernel,rfl,by decide +kernel,by decide +kernel⟩
theorem DR (F:At K mg "_law_is" nZ f fd) (bZ:Dn P w K mg base 1 "_law_int" ["_law_found"] uu) (eY:Dn P w K mg base 1 "_law_least" ["_law_top","_law_bottom"] qO)
  (ay:mg "isinstance" = none) (dZ:mg "tuple" = none) (aV:mg "len" = none):Dn P w K mg base 2 "_law_is" xF Gy:=by
 refine F.ok DQ (fun vs H Q E h=>?_) (fun cdv A outer s H vs Q E hr h=>?_) (fun _ _ _ _ _ _ us hl=>match us,hl with | [_,_,_],_=>rfl)
 · obtain ⟨p,q,t,b,rfl,_⟩:=h.ex
   rfl
 obtain ⟨p,q,t,b,rfl,hp,h0,h1,e,hq⟩:=h.ex
 refine ⟨_,(@aj _ _ _ _ _ (@bh _ _ _ _ _ _ _ _ (@cQ _ _ _ (PW.pt (@dR _ _ _ _ _ _ _ (@bN _ _ _ _ (@bI _ _ _ (@aB _ _ _ _ _ _ _ _ _ (bC K) (by rfl) ay PyProof.Rows.boot_isinstance (@aa _ _ _ _ _ (@pv _ 0 _ _ (by rfl) (by first | exact Or.inl rfl | exact Or.inr (Or.inl rfl) | exact Or.inr (Or.inr rfl)) (by decide) (by decide)) (@aa _ _ _ _ _ (@ef _ _ _ _ PyProof.Rows.boot_tuple rfl dZ (by decide) (by decide)) (@ah _) (by rfl)) (by rfl)) (by decide) (by decide) (by rfl) (by rfl)) (by intro _;rfl))) (@dG _ _ _ _ (@aM _ _ _ _ _ _ _ _ gX (@aB _ _ _ _ _ _ _ _ _ (bB K) (by rfl) aV PySem.boot_len (@aa _ _ _ _ _ (@pv _ 0 _ _ (by rfl) (by first | exact Or.inl rfl | exact Or.inr (Or.inl rfl) | exact Or.inr (Or.inr rfl)) (by decide) (by decide)) (@ah _) (by rfl)) (by decide) (by decide) (by rfl) (by rfl)) (@af _ _ _ _) (aY _)))))) (@ao _ _ _ (@aD _ _ _ _ (@bW _ _ _ _))) (@aJ _)) (@aj _ _ _ _ _ (@bh _ _ _ _ _ _ _ _ (@cQ _ _ _ (PW.pt (@dR _ _ _ _ _ _ _ (@bN _ _ _ _ (@bI _ _ _ (@aR _ _ _ _ _ _ _ _ _ _ _ bZ hr (@aa _ _ _ _ _ (@aF _ _ _ _ _ _ _ (aO K) (@pv _ 0 _ _ (by rfl) (by first | exact Or.inl rfl | exact Or.inr (Or.inl rfl) | exact Or.inr (Or.inr rfl)) (by decide) (by decide)) (@af _ _ _ _) (fun _ _=>rfl)) (@ah _) (by rfl)) (by decide) (by rfl) (by decide) (by rfl) (by rfl)) (by intro _;rfl))) (@dG _ _ _ _ (@bN _ _ _ _ (@bI _ _ _ (@aR _ _ _ _ _ _ _ _ _ _ _ bZ hr (@aa _ _ _ _ _ (@aF _ _ _ _ _ _ _ (aO K) (@pv _ 0 _ _ (by rfl) (by first | exact Or.inl rfl | exact Or.inr (Or.inl rfl) | exact Or.inr (Or.inr rfl)) (by decide) (by decide)) (@af _ _ _ _) (fun _ _=>rfl)) (@ah _) (by rfl)) (by decide) (by rfl) (by decide) (by rfl) (by rfl)) (by intro _;rfl))))))) (@ao _ _ _ (@aD _ _ _ _ (@bW _ _ _ _))) (@aJ _)) (@ao _ _ _ (@aD _ _ _ _ (@kj _ _ _ _ _ _ _ _ (JC K hr.units) (@pv _ 0 _ _ (by rfl) (by first | exact Or.inl rfl | exact Or.inr (Or.inl rfl) | exact Or.inr (Or.inr rfl)) (by decide) (by decide)) (@aR _ _ _ _ _ _ _ _ _ _ _ eY hr (@aa _ _ _ _ _ (@pv _ 1 _ _ (by rfl) (by first | exact Or.inl rfl | exact Or.inr (Or.inl rfl) | exact Or.inr (Or.inr rfl)) (by decide) (by decide)) (@aa _ _ _ _ _ (@pv _ 2 _ _ (by rfl) (by first | exact Or.inl rfl | exact Or.inr (Or.inl rfl) | exact Or.inr (Or.inr rfl)) (by decide) (by decide)) (@ah _) (by rfl)) (by rfl)) (by decide) (by rfl) (by decide) (by rfl) (by rfl)) (aY _)))))),?_⟩
 refine ⟨false,?_,bq ?_⟩
 · refine ⟨_,rfl,_,_,_,_,rfl,c_.tup hp,dF,_,rfl,bq ?_⟩
   exact ⟨_,rfl,_,_,rfl, .inr (bF.of hp),rfl,_,rfl,rfl,rfl⟩
 refine ⟨false,?_,bq ?_⟩
 · refine ⟨_,rfl,p,_,_,_,rfl,rfl,bF.of hp,rfl,_,rfl,_,rfl,bq ?_⟩
   exact ⟨_,rfl,p,_,_,_,rfl,rfl,bF.of hp,rfl,_,rfl,_,rfl,rfl,rfl⟩
 refine ⟨_,rfl,_,rfl,_,rfl,wZ h0 h1 fun r H1 g1 hr1=>?_⟩
 rw [← e] at hr1
 refine ⟨_,_,EH (g1 _ _ hp),EH hr1,rL _ _,rL _ _,?_⟩
 rw [Gx]
 exact hq H1 g1
abbrev gv:Stmt:=top 46
abbrev tQ:List Str:=["_law_found","_law_parts","_law_at","_law_one"]
abbrev lA:List Str:=["_law_found","_law_parts"]
theorem gw:aI tQ lA (au gv):=⟨rfl,rfl,rfl,by decide +kernel,rfl,by decide +kernel,by decide +kernel⟩
theorem rB (F:At K mg "_law_part_list" gv f fd) (bZ:Dn P w K mg base 1 "_law_int" ["_law_found"] uu) (ay:mg "isinstance" = none) (bY:mg "list" = none) (dZ:mg "tuple" = none) (fQ:mg "str" = none) (bw:mg "range" = none) (aV:mg "len" = none):Dn P w K mg base 2 "_law_part_list" lA (uJ K):=by
 refine F.ok gw (fun vs H Q E h=>?_) (fun cdv A outer s H vs Q E hr h=>?_) (fun _ _ _ _ _ _ us hl=>match us,hl with | [_,_],_=>rfl)
 · obtain ⟨r,l,ws,us,ps,rfl,_⟩:=h.ex
   rfl
 obtain ⟨r,l,ws,us,ps,rfl,hr0,hP,hl,hR,hN,hle,q⟩:=h.ex
 refine ⟨_,(@aj _ _ _ _ _ (@bh _ _ _ _ _ _ _ _ (@cQ _ _ _ (PW.pt (@dR _ _ _ _ _ _ _ (@bN _ _ _ _ (@bI _ _ _ (@aB _ _ _ _ _ _ _ _ _ (bC K) (by rfl) ay PyProof.Rows.boot_isinstance (@aa _ _ _ _ _ (@pv _ 0 _ _ (by rfl) (by first | exact Or.inl rfl | exact Or.inr (Or.inl rfl) | exact Or.inr (Or.inr rfl)) (by decide) (by decide)) (@aa _ _ _ _ _ (@ef _ _ _ _ PyProof.Rows.boot_list rfl bY (by decide) (by decide)) (@ah _) (by rfl)) (by rfl)) (by decide) (by decide) (by rfl) (by rfl)) (by intro _;rfl))) (@dG _ _ _ _ (@aM _ _ _ _ _ _ _ _ gX (@aB _ _ _ _ _ _ _ _ _ (bB K) (by rfl) aV PySem.boot_len (@aa _ _ _ _ _ (@pv _ 0 _ _ (by rfl) (by first | exact Or.inl rfl | exact Or.inr (Or.inl rfl) | exact Or.inr (Or.inr rfl)) (by decide) (by decide)) (@ah _) (by rfl)) (by decide) (by decide) (by rfl) (by rfl)) (@aB _ _ _ _ _ _ _ _ _ (bB K) (by rfl) aV PySem.boot_len (@aa _ _ _ _ _ (@pv _ 1 _ _ (by rfl) (by first | exact Or.inl rfl | exact Or.inr (Or.inl rfl) | exact Or.inr (Or.inr rfl)) (by decide) (by decide)) (@ah _) (by rfl)) (by decide) (by decide) (by rfl) (by rfl)) (aY _)))))) (@ao _ _ _ (@aD _ _ _ _ (@bW _ _ _ _))) (@aJ _)) (@aj _ _ _ _ _ (@dO _ _ _ _ _ _ _ _ PassesOwn.never rfl (@dz _ _ _ _ _ _ (by rfl) bw (@aa _ _ _ _ _ (@aB _ _ _ _ _ _ _ _ _ (bB K) (by rfl) aV PySem.boot_len (@aa _ _ _ _ _ (@pv _ 1 _ _ (by rfl) (by first | exact Or.inl rfl | exact Or.inr (Or.inl rfl) | exact Or.inr (Or.inr rfl)) (by decide) (by decide)) (@ah _) (by rfl)) (by decide) (by decide) (by rfl) (by rfl)) (@ah _) (by rfl)) (by rfl)) (@aZ _ _ (2) _ gw.nd rfl (Or.inl rfl) (by first | exact .inl rfl | exact .inr rfl | assumption)) (@aj _ _ _ _ _ (@aG _ _ (3) _ _ _ _ gw.nd rfl (Or.inl rfl) (@aF _ _ _ _ _ _ _ (aT K) (@pv _ 0 _ _ (by rfl) (by first | exact Or.inl rfl | exact Or.inr (Or.inl rfl) | exact Or.inr (Or.inr rfl)) (by decide) (by decide)) (@pv _ 2 _ _ (by rfl) (by first | exact Or.inl rfl | exact Or.inr (Or.inl rfl) | exact Or.inr (Or.inr rfl)) (by decide) (by decide)) (fun _ _=>rfl)) (by rfl) (by first | exact .inl rfl | exact .inr rfl | assumption)) (@aj _ _ _ _ _ (@bh _ _ _ _ _ _ _ _ (@cQ _ _ _ (PW.pt (@dR _ _ _ _ _ _ _ (@bN _ _ _ _ (@bI _ _ _ (@aB _ _ _ _ _ _ _ _ _ (bC K) (by rfl) ay PyProof.Rows.boot_isinstance (@aa _ _ _ _ _ (@pv _ 3 _ _ (by rfl) (by first | exact Or.inl rfl | exact Or.inr (Or.inl rfl) | exact Or.inr (Or.inr rfl)) (by decide) (by decide)) (@aa _ _ _ _ _ (@ef _ _ _ _ PyProof.Rows.boot_tuple rfl dZ (by decide) (by decide)) (@ah _) (by rfl)) (by rfl)) (by decide) (by decide) (by rfl) (by rfl)) (by intro _;rfl))) (@dG _ _ _ _ (@aM _ _ _ _ _ _ _ _ gX (@aB _ _ _ _ _ _ _ _ _ (bB K) (by rfl) aV PySem.boot_len (@aa _ _ _ _ _ (@pv _ 3 _ _ (by rfl) (by first | exact Or.inl rfl | exact Or.inr (Or.inl rfl) | exact Or.inr (Or.inr rfl)) (by decide) (by decide)) (@ah _) (by rfl)) (by decide) (by decide) (by rfl) (by rfl)) (@af _ _ _ _) (aY _)))))) (@ao _ _ _ (@aD _ _ _ _ (@bW _ _ _ _))) (@aJ _)) (@aj _ _ _ _ _ (@bh _ _ _ _ _ _ _ _ (@cQ _ _ _ (PW.pt (@dR _ _ _ _ _ _ _ (@bN _ _ _ _ (@bI _ _ _ (@aB _ _ _ _ _ _ _ _ _ (bC K) (by rfl) ay PyProof.Rows.boot_isinstance (@aa _ _ _ _ _ (@aF _ _ _ _ _ _ _ (aO K) (@pv _ 3 _ _ (by rfl) (by first | exact Or.inl rfl | exact Or.inr (Or.inl rfl) | exact Or.inr (Or.inr rfl)) (by decide) (by decide)) (@af _ _ _ _) (fun _ _=>rfl)) (@aa _ _ _ _ _ (@ef _ _ _ _ PyProof.Rows.boot_str rfl fQ (by decide) (by decide)) (@ah _) (by rfl)) (by rfl)) (by decide) (by decide) (by rfl) (by rfl)) (by intro _;rfl))) (@dG _ _ _ _ (@bN _ _ _ _ (@bI _ _ _ (@aB _ _ _ _ _ _ _ _ _ (bC K) (by rfl) ay PyProof.Rows.boot_isinstance (@aa _ _ _ _ _ (@aF _ _ _ _ _ _ _ (aO K) (@pv _ 3 _ _ (by rfl) (by first | exact Or.inl rfl | exact Or.inr (Or.inl rfl) | exact Or.inr (Or.inr rfl)) (by decide) (by decide)) (@af _ _ _ _) (fun _ _=>rfl)) (@aa _ _ _ _ _ (@ef _ _ _ _ PyProof.Rows.boot_str rfl fQ (by decide) (by decide)) (@ah _) (by rfl)) (by rfl)) (by decide) (by decide) (by rfl) (by rfl)) (by intro _;rfl))))))) (@ao _ _ _ (@aD _ _ _ _ (@bW _ _ _ _))) (@aJ _)) (@aj _ _ _ _ _ (@bh _ _ _ _ _ _ _ _ (@cQ _ _ _ (PW.pt (@dR _ _ _ _ _ _ _ (@bN _ _ _ _ (@bI _ _ _ (@aR _ _ _ _ _ _ _ _ _ _ _ bZ hr (@aa _ _ _ _ _ (@aF _ _ _ _ _ _ _ (aO K) (@pv _ 3 _ _ (by rfl) (by first | exact Or.inl rfl | exact Or.inr (Or.inl rfl) | exact Or.inr (Or.inr rfl)) (by decide) (by decide)) (@af _ _ _ _) (fun _ _=>rfl)) (@ah _) (by rfl)) (by decide) (by rfl) (by decide) (by rfl) (by rfl)) (by intro _;rfl))) (@dG _ _ _ _ (@bN _ _ _ _ (@bI _ _ _ (@aR _ _ _ _ _ _ _ _ _ _ _ bZ hr (@aa _ _ _ _ _ (@aF _ _ _ _ _ _ _ (aO K) (@pv _ 3 _ _ (by rfl) (by first | exact Or.inl rfl | exact Or.inr (Or.inl rfl) | exact Or.inr (Or.inr rfl)) (by decide) (by decide)) (@af _ _ _ _) (fun _ _=>rfl)) (@ah _) (by rfl)) (by decide) (by rfl) (by decide) (by rfl) (by rfl)) (by intro _;rfl))))))) (@ao _ _ _ (@aD _ _ _ _ (@bW _ _ _ _))) (@aJ _)) (@ao _ _ _ (@bh _ _ _ _ _ _ _ _ (@aM _ _ _ _ _ _ _ _ (qP K hr.units) (@pv _ 3 _ _ (by rfl) (by first | exact Or.inl rfl | exact Or.inr (Or.inl rfl) | exact Or.inr (Or.inr rfl)) (by decide) (by decide)) (@eU _ _ _ _ _ (@aa _ _ _ _ _ (@aF _ _ _ _ _ _ _ (qW K) (@aF _ _ _ _ _ _ _ (aT K) (@pv _ 1 _ _ (by rfl) (by first | exact Or.inl rfl | exact Or.inr (Or.inl rfl) | exact Or.inr (Or.inr rfl)) (by decide) (by decide)) (@pv _ 2 _ _ (by rfl) (by first | exact Or.inl rfl | exact Or.inr (Or.inl rfl) | exact Or.inr (Or.inr rfl)) (by decide) (by decide)) (fun _ _=>rfl)) (@af _ _ _ _) (fun _ _=>rfl)) (@aa _ _ _ _ _ (@aF _ _ _ _ _ _ _ (qW K) (@aF _ _ _ _ _ _ _ (aT K) (@pv _ 1 _ _ (by rfl) (by first | exact Or.inl rfl | exact Or.inr (Or.inl rfl) | exact Or.inr (Or.inr rfl)) (by decide) (by decide)) (@pv _ 2 _ _ (by rfl) (by first | exact Or.inl rfl | exact Or.inr (Or.inl rfl) | exact Or.inr (Or.inr rfl)) (by decide) (by decide)) (fun _ _=>rfl)) (@af _ _ _ _) (fun _ _=>rfl)) (@aa _ _ _ _ _ (@aF _ _ _ _ _ _ _ (qW K) (@aF _ _ _ _ _ _ _ (aT K) (@pv _ 1 _ _ (by rfl) (by first | exact Or.inl rfl | exact Or.inr (Or.inl rfl) | exact Or.inr (Or.inr rfl)) (by decide) (by decide)) (@pv _ 2 _ _ (by rfl) (by first | exact Or.inl rfl | exact Or.inr (Or.inl rfl) | exact Or.inr (Or.inr rfl)) (by decide) (by decide)) (fun _ _=>rfl)) (@af _ _ _ _) (fun _ _=>rfl)) (@aa _ _ _ _ _ (@aF _ _ _ _ _ _ _ (qW K) (@aF _ _ _ _ _ _ _ (aT K) (@pv _ 1 _ _ (by rfl) (by first | exact Or.inl rfl | exact Or.inr (Or.inl rfl) | exact Or.inr (Or.inr rfl)) (by decide) (by decide)) (@pv _ 2 _ _ (by rfl) (by first | exact Or.inl rfl | exact Or.inr (Or.inl rfl) | exact Or.inr (Or.inr rfl)) (by decide) (by decide)) (fun _ _=>rfl)) (@af _ _ _ _) (fun _ _=>rfl)) (@ah _) (by rfl)) (by rfl)) (by rfl)) (by rfl))) (aY _)) (@ao _ _ _ (@aD _ _ _ _ (@bW _ _ _ _))) (@aJ _))))))) (by intro _;rfl)) (@ao _ _ _ (@aD _ _ _ _ (@bW _ _ _ _))))),?_⟩
 have hwl:=hP.length
 have RH:=hR.len
 refine ⟨false,?_,bq ?_⟩
 · refine ⟨_,rfl,_,_,_,_,rfl,c_.lst hr0,dF,_,rfl,bq ?_⟩
   refine ⟨_,rfl,_,_,rfl, .inl (aE.of hr0),_,rfl,_,_,rfl, .inl hl,rfl,_,rfl,?_,rfl⟩
   show (!decide (V.int (ws.length:Int) = V.int (us.length:Int))) = false
   rw [decide_eq_true (by rw [hwl,RH])]
   rfl
 refine ⟨_,rfl,l,us,rfl, .inl hl,_,rfl,by omega,by omega,?_⟩
 refine d9 (lo:=0) (n:=((us.length:Nat):Int).toNat) (fun i σ H'=>aC H H'∧∃(s1 s2:Option V),σ = [some (.ref r),some (.ref l),s1,s2]) ⟨aC.refl _,none,none,rfl⟩ ?_ ?_
 · rintro i σ H' hi ⟨g,s1,s2,rfl⟩
   have e0:(0:Int) + (i:Int) = ((i:Nat):Int):=by omega
   rw [e0]
   have hi':i < ps.length:=by omega
   have ep:=List.getElem?_eq_getElem hi'
   obtain ⟨t,et,ht⟩:=hP.get ep
   obtain ⟨u,xs,eu,hu,x0,x1,x2,x3⟩:=(hR.mono g).at_ i _ ep
   have ht':=g _ _ ht
   obtain ⟨n1,n2⟩:=hN _ (List.getElem_mem hi')
   have hr1:=g _ _ hr0
   have hl1:=g.seq hl
   refine ⟨_,rfl,_,rfl,r,ws,i, .ref t,rfl,rfl,aE.of hr1,dY et,?_⟩
   refine ⟨false,⟨_,rfl,_,_,_,_,rfl,c_.tup ht',dF,_,rfl,bq ⟨_,rfl,_,_,rfl, .inr (bF.of ht'),rfl,_,rfl,rfl,rfl⟩⟩,bq ?_⟩
   refine ⟨false,⟨_,rfl,t,_,_,_,rfl,rfl,bF.of ht',rfl,_,_,_,_,rfl,c_.str _,dF,_,rfl,bq ⟨_,rfl,t,_,_,_,rfl,rfl,bF.of ht',rfl,_,_,_,_,rfl,c_.str _,dF,_,rfl,rfl,rfl⟩⟩,bq ?_⟩
   refine ⟨false,⟨_,rfl,t,_,_,_,rfl,rfl,bF.of ht',rfl,_,rfl,_,rfl,bq ⟨_,rfl,t,_,_,_,rfl,rfl,bF.of ht',rfl,_,rfl,_,rfl,rfl,rfl⟩⟩,bq ?_⟩
   refine ⟨_,rfl,_,rfl,_,rfl,l,us,i, .ref u,rfl,rfl,hl1,dY eu,hu.ix (i:=0) x0 ?_⟩
   refine ⟨_,rfl,_,rfl,l,us,i, .ref u,rfl,rfl,hl1,dY eu,hu.ix (i:=1) x1 ?_⟩
   refine ⟨_,rfl,_,rfl,l,us,i, .ref u,rfl,rfl,hl1,dY eu,hu.ix (i:=2) x2 ?_⟩
   refine ⟨_,rfl,_,rfl,l,us,i, .ref u,rfl,rfl,hl1,dY eu,hu.ix (i:=3) x3 ?_⟩
   refine ⟨(by show 4≤sizeLine;decide),fun p1 hp1=>?_⟩
   have g1:=av hp1 (qU ps[i])
   refine ⟨_,_,Cm (g1 _ _ ht'),Cm (p:=ps[i]) ai,rR n1 n2,rR n1 n2,_,rfl,?_⟩
   rw [G1]
   exact bq ⟨g.trans g1,_,_,rfl⟩
 rintro σ H' ⟨g,s1,s2,rfl⟩
 exact q H' g
abbrev fY:Stmt:=top 49
abbrev rC:List Str:=["_law_found","_law_owners","_law_tops","_law_bottom","_law_due_here","_law_at","_law_pair"]
abbrev j8:List Str:=["_law_found","_law_owners","_law_tops","_law_bottom"]
theorem eF:aI rC j8 (au fY):=⟨rfl,rfl,rfl,by decide +kernel,rfl,by decide +kernel,by decide +kernel⟩
theorem qj (F:At K mg "_law_share_list" fY f fd) (eY:Dn P w K mg base 1 "_law_least" ["_law_top","_law_bottom"] qO) (qm:Dn P w K mg base 2 "_law_is" ["_law_found","_law_top","_law_bottom"] Gy) (ay:mg "isinstance" = none) (bY:mg "list" = none) (dZ:mg "tuple" = none) (fQ:mg "str" = none) (bw:mg "range" = none) (aV:mg "len" = none):Dn P w K mg base 3 "_law_share_list" j8 (mF K):=by
 refine F.ok eF (fun vs H Q E h=>?_) (fun cdv A outer s H vs Q E hr h=>?_) (fun _ _ _ _ _ _ us hl=>match us,hl with | [_,_,_,_],_=>rfl)
 · obtain ⟨r,lo,lt,ws,own,tops,b,rfl,_⟩:=h.ex
   rfl
 obtain ⟨r,lo,lt,ws,own,tops,b,rfl,hr0,hS,ho,ht,hlen,hle,b0,bz,q⟩:=h.ex
 refine ⟨_,(@aj _ _ _ _ _ (@GG _ (4) _ _ _ _ _ _ _ _ _ ["_law_at","_law_tops","_law_owners","_law_bottom"] [none,some 2,some 1,some 3] _ _ _ _ eF.nd rfl rfl rfl (@dz _ _ _ _ _ _ (by rfl) bw (@aa _ _ _ _ _ (@aB _ _ _ _ _ _ _ _ _ (bB K) (by rfl) aV PySem.boot_len (@aa _ _ _ _ _ (@pv _ 2 _ _ (by rfl) (by first | exact Or.inl rfl | exact Or.inr (Or.inl rfl) | exact Or.inr (Or.inr rfl)) (by decide) (by decide)) (@ah _) (by rfl)) (by decide) (by decide) (by rfl) (by rfl)) (@ah _) (by rfl)) (by rfl)) (fun _ _ _ _=>(@aZ _ _ (0) _ (show List.Nodup (["_law_at","_law_tops","_law_owners","_law_bottom"] :List Str) from by decide +kernel) rfl (Or.inl rfl) (by first | exact .inl rfl | exact .inr rfl | assumption))) (fun _ _ _ _=>(@eU _ _ _ _ _ (@aa _ _ _ _ _ (@aF _ _ _ _ _ _ _ (aT K) (@pv _ 2 _ _ (by rfl) (by first | exact Or.inl rfl | exact Or.inr (Or.inl rfl) | exact Or.inr (Or.inr rfl)) (by decide) (by decide)) (@pv _ 0 _ _ (by rfl) (by first | exact Or.inl rfl | exact Or.inr (Or.inl rfl) | exact Or.inr (Or.inr rfl)) (by decide) (by decide)) (fun _ _=>rfl)) (@aa _ _ _ _ _ (@aR _ _ _ _ _ _ _ _ _ _ _ eY hr (@aa _ _ _ _ _ (@aF _ _ _ _ _ _ _ (aT K) (@pv _ 1 _ _ (by rfl) (by first | exact Or.inl rfl | exact Or.inr (Or.inl rfl) | exact Or.inr (Or.inr rfl)) (by decide) (by decide)) (@pv _ 0 _ _ (by rfl) (by first | exact Or.inl rfl | exact Or.inr (Or.inl rfl) | exact Or.inr (Or.inr rfl)) (by decide) (by decide)) (fun _ _=>rfl)) (@aa _ _ _ _ _ (@pv _ 3 _ _ (by rfl) (by first | exact Or.inl rfl | exact Or.inr (Or.inl rfl) | exact Or.inr (Or.inr rfl)) (by decide) (by decide)) (@ah _) (by rfl)) (by rfl)) (by decide) (by rfl) (by decide) (by rfl) (by rfl)) (@ah _) (by rfl)) (by rfl)))) (fun _ _ _ _=>(@aM _ _ _ _ _ _ _ _ lN (@aF _ _ _ _ _ _ _ (aT K) (@pv _ 1 _ _ (by rfl) (by first | exact Or.inl rfl | exact Or.inr (Or.inl rfl) | exact Or.inr (Or.inr rfl)) (by decide) (by decide)) (@pv _ 0 _ _ (by rfl) (by first | exact Or.inl rfl | exact Or.inr (Or.inl rfl) | exact Or.inr (Or.inr rfl)) (by decide) (by decide)) (fun _ _=>rfl)) (@af _ _ _ _) (aY _))) rfl (by rfl) (by rfl) (by intro _;rfl)) (@aj _ _ _ _ _ (@bh _ _ _ _ _ _ _ _ (@cQ _ _ _ (PW.pt (@dR _ _ _ _ _ _ _ (@bN _ _ _ _ (@bI _ _ _ (@aB _ _ _ _ _ _ _ _ _ (bC K) (by rfl) ay PyProof.Rows.boot_isinstance (@aa _ _ _ _ _ (@pv _ 0 _ _ (by rfl) (by first | exact Or.inl rfl | exact Or.inr (Or.inl rfl) | exact Or.inr (Or.inr rfl)) (by decide) (by decide)) (@aa _ _ _ _ _ (@ef _ _ _ _ PyProof.Rows.boot_list rfl bY (by decide) (by decide)) (@ah _) (by rfl)) (by rfl)) (by decide) (by decide) (by rfl) (by rfl)) (by intro _;rfl))) (@dG _ _ _ _ (@aM _ _ _ _ _ _ _ _ gX (@aB _ _ _ _ _ _ _ _ _ (bB K) (by rfl) aV PySem.boot_len (@aa _ _ _ _ _ (@pv _ 0 _ _ (by rfl) (by first | exact Or.inl rfl | exact Or.inr (Or.inl rfl) | exact Or.inr (Or.inr rfl)) (by decide) (by decide)) (@ah _) (by rfl)) (by decide) (by decide) (by rfl) (by rfl)) (@aB _ _ _ _ _ _ _ _ _ (bB K) (by rfl) aV PySem.boot_len (@aa _ _ _ _ _ (@pv _ 4 _ _ (by rfl) (by first | exact Or.inl rfl | exact Or.inr (Or.inl rfl) | exact Or.inr (Or.inr rfl)) (by decide) (by decide)) (@ah _) (by rfl)) (by decide) (by decide) (by rfl) (by rfl)) (aY _)))))) (@ao _ _ _ (@aD _ _ _ _ (@bW _ _ _ _))) (@aJ _)) (@aj _ _ _ _ _ (@dO _ _ _ _ _ _ _ _ PassesOwn.never rfl (@dz _ _ _ _ _ _ (by rfl) bw (@aa _ _ _ _ _ (@aB _ _ _ _ _ _ _ _ _ (bB K) (by rfl) aV PySem.boot_len (@aa _ _ _ _ _ (@pv _ 4 _ _ (by rfl) (by first | exact Or.inl rfl | exact Or.inr (Or.inl rfl) | exact Or.inr (Or.inr rfl)) (by decide) (by decide)) (@ah _) (by rfl)) (by decide) (by decide) (by rfl) (by rfl)) (@ah _) (by rfl)) (by rfl)) (@aZ _ _ (5) _ eF.nd rfl (Or.inl rfl) (by first | exact .inl rfl | exact .inr rfl | assumption)) (@aj _ _ _ _ _ (@aG _ _ (6) _ _ _ _ eF.nd rfl (Or.inl rfl) (@aF _ _ _ _ _ _ _ (aT K) (@pv _ 0 _ _ (by rfl) (by first | exact Or.inl rfl | exact Or.inr (Or.inl rfl) | exact Or.inr (Or.inr rfl)) (by decide) (by decide)) (@pv _ 5 _ _ (by rfl) (by first | exact Or.inl rfl | exact Or.inr (Or.inl rfl) | exact Or.inr (Or.inr rfl)) (by decide) (by decide)) (fun _ _=>rfl)) (by rfl) (by first | exact .inl rfl | exact .inr rfl | assumption)) (@aj _ _ _ _ _ (@bh _ _ _ _ _ _ _ _ (@cQ _ _ _ (PW.pt (@dR _ _ _ _ _ _ _ (@bN _ _ _ _ (@bI _ _ _ (@aB _ _ _ _ _ _ _ _ _ (bC K) (by rfl) ay PyProof.Rows.boot_isinstance (@aa _ _ _ _ _ (@pv _ 6 _ _ (by rfl) (by first | exact Or.inl rfl | exact Or.inr (Or.inl rfl) | exact Or.inr (Or.inr rfl)) (by decide) (by decide)) (@aa _ _ _ _ _ (@ef _ _ _ _ PyProof.Rows.boot_tuple rfl dZ (by decide) (by decide)) (@ah _) (by rfl)) (by rfl)) (by decide) (by decide) (by rfl) (by rfl)) (by intro _;rfl))) (@dR _ _ _ _ _ _ _ (@aM _ _ _ _ _ _ _ _ gX (@aB _ _ _ _ _ _ _ _ _ (bB K) (by rfl) aV PySem.boot_len (@aa _ _ _ _ _ (@pv _ 6 _ _ (by rfl) (by first | exact Or.inl rfl | exact Or.inr (Or.inl rfl) | exact Or.inr (Or.inr rfl)) (by decide) (by decide)) (@ah _) (by rfl)) (by decide) (by decide) (by rfl) (by rfl)) (@af _ _ _ _) (aY _)) (@dG _ _ _ _ (@aM _ _ _ _ _ _ _ _ gX (@aF _ _ _ _ _ _ _ (aO K) (@pv _ 6 _ _ (by rfl) (by first | exact Or.inl rfl | exact Or.inr (Or.inl rfl) | exact Or.inr (Or.inr rfl)) (by decide) (by decide)) (@af _ _ _ _) (fun _ _=>rfl)) (@aF _ _ _ _ _ _ _ (aO K) (@aF _ _ _ _ _ _ _ (aT K) (@pv _ 4 _ _ (by rfl) (by first | exact Or.inl rfl | exact Or.inr (Or.inl rfl) | exact Or.inr (Or.inr rfl)) (by decide) (by decide)) (@pv _ 5 _ _ (by rfl) (by first | exact Or.inl rfl | exact Or.inr (Or.inl rfl) | exact Or.inr (Or.inr rfl)) (by decide) (by decide)) (fun _ _=>rfl)) (@af _ _ _ _) (fun _ _=>rfl)) (aY _))))))) (@ao _ _ _ (@aD _ _ _ _ (@bW _ _ _ _))) (@aJ _)) (@ao _ _ _ (@bh _ _ _ _ _ _ _ _ (PW.pt (@dR _ _ _ _ _ _ _ (@bN _ _ _ _ (@bI _ _ _ (@aB _ _ _ _ _ _ _ _ _ (bC K) (by rfl) ay PyProof.Rows.boot_isinstance (@aa _ _ _ _ _ (@aF _ _ _ _ _ _ _ (aO K) (@pv _ 6 _ _ (by rfl) (by first | exact Or.inl rfl | exact Or.inr (Or.inl rfl) | exact Or.inr (Or.inr rfl)) (by decide) (by decide)) (@af _ _ _ _) (fun _ _=>rfl)) (@aa _ _ _ _ _ (@ef _ _ _ _ PyProof.Rows.boot_str rfl fQ (by decide) (by decide)) (@ah _) (by rfl)) (by rfl)) (by decide) (by decide) (by rfl) (by rfl)) (by intro _;rfl))) (@dG _ _ _ _ (@bN _ _ _ _ (@bI _ _ _ (@aR _ _ _ _ _ _ _ _ _ _ _ qm hr (@aa _ _ _ _ _ (@aF _ _ _ _ _ _ _ (aO K) (@pv _ 6 _ _ (by rfl) (by first | exact Or.inl rfl | exact Or.inr (Or.inl rfl) | exact Or.inr (Or.inr rfl)) (by decide) (by decide)) (@af _ _ _ _) (fun _ _=>rfl)) (@aa _ _ _ _ _ (@aF _ _ _ _ _ _ _ (aO K) (@aF _ _ _ _ _ _ _ (aO K) (@aF _ _ _ _ _ _ _ (aT K) (@pv _ 4 _ _ (by rfl) (by first | exact Or.inl rfl | exact Or.inr (Or.inl rfl) | exact Or.inr (Or.inr rfl)) (by decide) (by decide)) (@pv _ 5 _ _ (by rfl) (by first | exact Or.inl rfl | exact Or.inr (Or.inl rfl) | exact Or.inr (Or.inr rfl)) (by decide) (by decide)) (fun _ _=>rfl)) (@af _ _ _ _) (fun _ _=>rfl)) (@af _ _ _ _) (fun _ _=>rfl)) (@aa _ _ _ _ _ (@aF _ _ _ _ _ _ _ (aO K) (@aF _ _ _ _ _ _ _ (aO K) (@aF _ _ _ _ _ _ _ (aT K) (@pv _ 4 _ _ (by rfl) (by first | exact Or.inl rfl | exact Or.inr (Or.inl rfl) | exact Or.inr (Or.inr rfl)) (by decide) (by decide)) (@pv _ 5 _ _ (by rfl) (by first | exact Or.inl rfl | exact Or.inr (Or.inl rfl) | exact Or.inr (Or.inr rfl)) (by decide) (by decide)) (fun _ _=>rfl)) (@af _ _ _ _) (fun _ _=>rfl)) (@af _ _ _ _) (fun _ _=>rfl)) (@ah _) (by rfl)) (by rfl)) (by rfl)) (by decide) (by rfl) (by decide) (by rfl) (by rfl)) (by intro _;rfl)))))) (@ao _ _ _ (@aD _ _ _ _ (@bW _ _ _ _))) (@aJ _))))) (by intro _;rfl)) (@ao _ _ _ (@aD _ _ _ _ (@bW _ _ _ _)))))),?_⟩
 have Sx:(tops.map V.int).length = tops.length:=List.length_map ..
 have Sy:(own.map V.str).length = own.length:=List.length_map ..
 refine ⟨_,rfl,lt,_,rfl, .inl ht,_,rfl,by omega,by omega,fun acc hacc=>?_⟩
 refine JK (J:=wI 0 _) (n:=tops.length) 0 (fun i out H1=>aC H H1∧dX H1 out (cK (own.take i) (tops.take i) b)) (by omega) ⟨av hacc _, .nil⟩ (fun i out H1 hi _ _=>by show i < ((tops.map V.int).length:Int).toNat;omega) (fun out H1 _ _=>by show ((tops.map V.int).length:Int).toNat≤tops.length;omega) ?_ ?_
 · rintro i x out H1 H2 hi dH ha ⟨g,S⟩ ⟨rfl,rfl⟩
   have e0:(0:Int) + (i:Int) = ((i:Nat):Int):=by omega
   rw [e0]
   have et:=List.getElem?_eq_getElem hi
   have eo:=List.getElem?_eq_getElem (show i < own.length from by omega)
   have et':(tops.map V.int)[i]? = some (.int tops[i]):=by rw [List.getElem?_map,et];rfl
   have RI:(own.map V.str)[i]? = some (.str own[i]):=by rw [List.getElem?_map,eo];rfl
   have IF:cK (own.take (i + 1)) (tops.take (i + 1)) b = cK (own.take i) (tops.take i) b ++ (if 0 < tops[i] then [(own[i],Jm.fr tops[i] b)] else []):=by
    unfold cK
    rw [take_snoc eo,take_snoc et,List.zip_append (by rw [List.length_take,List.length_take];omega),List.filterMap_append]
    congr 1
    show List.filterMap _ [(own[i],tops[i])] = _
    rw [List.filterMap_cons]
    by_cases c:0 < tops[i]
    · simp [c]
    · simp [c]
   refine ⟨_,rfl,_,rfl,lt,_,i,_,rfl,rfl,g.seq ht,dY et',_,_,rfl,rfl,_,rfl,cX (fun c=>?_) (fun c=>?_)⟩
   · have c':0 < tops[i] :=of_decide_eq_true c
     rw [if_pos c'] at IF
     refine ⟨_,rfl,_,rfl,lo,_,i,_,rfl,rfl,g.seq ho,dY RI,_,rfl,_,rfl,lt,_,i,_,rfl,rfl,g.seq ht,dY et',_,rfl,wZ b0 bz fun p2 H3 g3 hp2=>⟨(by show 2≤sizeLine;decide),fun p3 hp3=>?_⟩⟩
     have g4:=av hp3 (.tup [.str own[i], .ref p2])
     have IG:=g3.trans g4
     refine ⟨IG _ _ ha,(g.trans IG).dg hacc _,?_⟩
     rw [IF]
     exact ((S.mono IG.tups).snoc ai (g4 _ _ hp2)).mono (gg (.inr ⟨_,IG _ _ ha,rfl⟩))
   · have c':¬ 0 < tops[i] :=of_decide_eq_false (Bool.eq_false_iff.mpr c)
     rw [if_neg c',List.append_nil] at IF
     exact ⟨ha,g,by rw [IF];exact S⟩
 rintro du H1 dH ha ⟨g1,D1⟩
 rw [List.take_length,← hlen,List.take_length] at D1
 have hr1:=g1 _ _ hr0
 have CG:=hS.mono g1.tups
 have l1:=CG.length
 have l2:=D1.length
 have l3:(cK own tops b).length≤1000:=by
  unfold cK
  refine Nat.le_trans (List.length_filterMap_le _ _) ?_
  rw [List.length_zip]
  omega
 have Qo:∀x q,(x,q)∈cK own tops b→Jm.Sz 9000 (q.den:Int):=fun x q m=>xK b0 bz m
 generalize cK own tops b = sh at *
 refine ⟨false,?_,bq ?_⟩
 · refine ⟨_,rfl,_,_,_,_,rfl,c_.lst hr1,dF,_,rfl,bq ?_⟩
   refine ⟨_,rfl,_,_,rfl, .inl (aE.of hr1),_,rfl,_,_,rfl, .inl (aE.of ha),rfl,_,rfl,?_,rfl⟩
   show (!decide (V.int (ws.length:Int) = V.int (du.length:Int))) = false
   rw [decide_eq_true (by rw [l1,l2])]
   rfl
 refine ⟨_,rfl,acc,du,rfl, .inl (aE.of ha),_,rfl,by omega,by omega,?_⟩
 refine d9 (lo:=0) (n:=((du.length:Nat):Int).toNat) (fun i σ H'=>aC H1 H'∧∃(s1 s2:Option V),σ = [some (.ref r),some (.ref lo),some (.ref lt),some (.int b),some (.ref acc),s1,s2]) ⟨aC.refl _,none,none,rfl⟩ ?_ ?_
 · rintro i σ H' hi ⟨g,s1,s2,rfl⟩
   have e0:(0:Int) + (i:Int) = ((i:Nat):Int):=by omega
   rw [e0]
   have hi':i < sh.length:=by omega
   obtain ⟨xq,Mb⟩:∃xq,sh[i]? = some xq:=⟨_,List.getElem?_eq_getElem hi'⟩
   obtain ⟨x,qq⟩:=xq
   obtain ⟨r1,f1,a1,a2,a3⟩:=CG.get Mb
   obtain ⟨r2,f2,b1,b2,b3⟩:=D1.get Mb
   have a2':=g _ _ a2
   have RJ:=g _ _ a3
   have Mc:=g _ _ b2
   have OI:=g _ _ b3
   have DS:=g _ _ ha
   refine ⟨_,rfl,_,rfl,r,ws,i, .ref r1,rfl,rfl,aE.of (g _ _ hr1),dY a1,?_⟩
   refine ⟨false,⟨_,rfl,_,_,_,_,rfl,c_.tup a2',dF,_,rfl,bq ⟨_,rfl,_,_,rfl, .inr (bF.of a2'),rfl,_,rfl,bq ?_⟩⟩,bq ?_⟩
   · refine ⟨_,rfl,r1,_,_,_,rfl,rfl,bF.of a2',rfl,_,rfl,_,rfl,acc,du,i, .ref r2,rfl,rfl,aE.of DS,dY b1,r2,_,_,_,rfl,rfl,bF.of Mc,rfl,rfl,_,rfl,?_,rfl⟩
     show (!decide (V.str x = V.str x)) = false
     rw [decide_eq_true rfl];rfl
   refine ⟨_,rfl,r1,_,_,_,rfl,rfl,bF.of a2',rfl,_,_,_,_,rfl,c_.str _,dF,_,rfl,bq ?_⟩
   refine ⟨_,rfl,r1,_,_,_,rfl,rfl,bF.of a2',rfl,?_⟩
   refine ⟨_,rfl,_,rfl,acc,du,i, .ref r2,rfl,rfl,aE.of DS,dY b1,r2,_,_,_,rfl,rfl,bF.of Mc,rfl,f2,_,_,_,rfl,rfl,bF.of OI,rfl,?_⟩
   refine ⟨_,rfl,_,rfl,acc,du,i, .ref r2,rfl,rfl,aE.of DS,dY b1,r2,_,_,_,rfl,rfl,bF.of Mc,rfl,f2,_,_,_,rfl,rfl,bF.of OI,rfl,?_⟩
   exact K9 RJ (Jm.den_pos _) (Qo _ _ (List.mem_of_getElem? Mb)) (Jm.Jw _).symm fun H3 g3=>⟨_,rfl,bq ⟨g.trans g3,_,_,rfl⟩⟩
 rintro σ H' ⟨g,s1,s2,rfl⟩
 exact q H' (g1.trans g)
abbrev jR:Stmt:=top 42
abbrev Aw:List Str:=["_law_owners"]
abbrev qo:List Str:=["_law_owners"]
theorem x6:aI Aw qo (au jR):=⟨rfl,rfl,rfl,by decide +kernel,rfl,by decide +kernel,by decide +kernel⟩
theorem x8 (F:At K mg "_law_model" jR f fd) (bY:mg "list" = none):Dn P w K mg base 1 "_law_model" qo (Cq K):=by
 refine F.ok x6 (fun vs H Q E h=>?_) (fun cdv A outer s H vs Q E hr h=>?_) (fun _ _ _ _ _ _ us hl=>match us,hl with | [_],_=>rfl)
 · obtain ⟨l,own,n,ρ,rfl,_⟩:=h.ex
   rfl
 obtain ⟨l,own,n,ρ,rfl,hl,G,hle,q⟩:=h.ex
 refine ⟨_,(@ao _ _ _ (@aD _ _ _ _ (@Js _ _ _ _ _ (@kD _ _ _ _ _ _ _ _ _ (@aX _ _ _ _) (@lP _ _ _ _ _ _ _ _ _ (jK K) (by rfl) bY PyProof.Rows.boot_list (@aa _ _ _ _ _ (@pv _ 0 _ _ (by rfl) (by first | exact Or.inl rfl | exact Or.inr (Or.inl rfl) | exact Or.inr (Or.inr rfl)) (by decide) (by decide)) (@ah _) (by rfl)) (by decide) (by decide) (by rfl) (by rfl)) (@kD _ _ _ _ _ _ _ _ _ (@aX _ _ _ _) (@cI _ _ _ _ (@ah _)) (@kD _ _ _ _ _ _ _ _ _ (@aX _ _ _ _) (@af _ _ _ _) (@kD _ _ _ _ _ _ _ _ _ (@aX _ _ _ _) (@cI _ _ _ _ (@ah _)) (@kD _ _ _ _ _ _ _ _ _ (@aX _ _ _ _) (@cI _ _ _ _ (@ah _)) (@Jr _ _)))))) (by rfl) (by rfl) (fun z=>nomatch z) (by with_unfolding_all decide)))),?_⟩
 intro m hm
 have g0:=av hm (.dK [])
 have OJ:upd H m (.dK []) m = some (.dK []):=ai
 have qp:=g0.seq hl
 generalize upd H m (.dK []) = H0 at *
 refine ⟨_,rfl,l,_,rfl, .inl qp,fun lo hlo=>?_⟩
 have g1:=av hlo (.lst (own.map V.str))
 have OL:upd H0 lo (.lst (own.map V.str)) lo = some (.lst (own.map V.str)):=ai
 have OM:=g1 _ _ OJ
 generalize upd H0 lo (.lst (own.map V.str)) = H1 at *
 refine ⟨(by show 0≤sizeLine;decide),fun lp CH=>?_⟩
 have g2:=av CH (.lst [])
 have ON:upd H1 lp (.lst []) lp = some (.lst []):=ai
 have OO:=g2 _ _ OL
 have OP:=g2 _ _ OM
 show pD _ _ (upd H1 lp (.lst [])) _
 generalize upd H1 lp (.lst []) = H2 at *
 refine ⟨(by show 0≤sizeLine;decide),fun la hla=>?_⟩
 have g3:=av hla (.lst [])
 have II:upd H2 la (.lst []) la = some (.lst []):=ai
 have OQ:=g3 _ _ ON
 have OR:=g3 _ _ OO
 have OS:=g3 _ _ OP
 show pD _ _ (upd H2 la (.lst [])) _
 generalize upd H2 la (.lst []) = H3 at *
 refine ⟨(by show 0≤sizeLine;decide),fun lk hlk=>?_⟩
 have g4:=av hlk (.lst [])
 have RK:upd H3 lk (.lst []) lk = some (.lst []):=ai
 have Me:=g4 _ _ II
 have RL:=g4 _ _ OQ
 have RM:=g4 _ _ OR
 have Mf:=g4 _ _ OS
 show upd H3 lk (.lst []) m = _∧_
 generalize upd H3 lk (.lst []) = H4 at *
 have gA:=((g0.trans g1).trans g2).trans (g3.trans g4)
 have n1:lo ≠ m:=fun e=>by rw [e,OJ] at hlo;cases hlo
 have n2:lp ≠ m:=fun e=>by rw [e,OM] at CH;cases CH
 have n3:lp ≠ lo:=fun e=>by rw [e,OL] at CH;cases CH
 have n4:la ≠ m:=fun e=>by rw [e,OP] at hla;cases hla
 have n5:la ≠ lo:=fun e=>by rw [e,OO] at hla;cases hla
 have n6:la ≠ lp:=fun e=>by rw [e,ON] at hla;cases hla
 have n7:lk ≠ m:=fun e=>by rw [e,OS] at hlk;cases hlk
 have n8:lk ≠ lo:=fun e=>by rw [e,OR] at hlk;cases hlk
 have n9:lk ≠ lp:=fun e=>by rw [e,OQ] at hlk;cases hlk
 have nA:lk ≠ la:=fun e=>by rw [e,II] at hlk;cases hlk
 refine ⟨Mf,[(Sum.inr "owners", .ref lo),(Sum.inr "parts", .ref lp),(Sum.inr "bottom", .int 1),(Sum.inr "ashore", .ref la),(Sum.inr "known", .ref lk)],rfl,by show 5≤15;decide,?_⟩
 have eK:mZ [] [(Sum.inr "owners", .ref lo),(Sum.inr "parts", .ref lp),(Sum.inr "bottom", .int 1),(Sum.inr "ashore", .ref la),(Sum.inr "known", .ref lk)] = ir ⟨m,lo,lp,la,lk,[]⟩ 1:=rfl
 rw [eK]
 have u1:upd H4 m (.dK (ir ⟨m,lo,lp,la,lk,[]⟩ 1)) m = some (.dK (ir ⟨m,lo,lp,la,lk,[]⟩ 1)):=ai
 have u2:upd H4 m (.dK (ir ⟨m,lo,lp,la,lk,[]⟩ 1)) lo = some (.lst (own.map V.str)):=by rw [ak n1];exact RM
 have u3:upd H4 m (.dK (ir ⟨m,lo,lp,la,lk,[]⟩ 1)) lp = some (.lst []):=by rw [ak n2];exact RL
 have u4:upd H4 m (.dK (ir ⟨m,lo,lp,la,lk,[]⟩ 1)) la = some (.lst []):=by rw [ak n4];exact Me
 have u5:upd H4 m (.dK (ir ⟨m,lo,lp,la,lk,[]⟩ 1)) lk = some (.lst []):=by rw [ak n7];exact RK
 have G4:=(G.same gA).wr (a:=m) (o:= .dK (ir ⟨m,lo,lp,la,lk,[]⟩ 1)) rfl
 have hz:∀b o,H b = some o→upd H4 m (.dK (ir ⟨m,lo,lp,la,lk,[]⟩ 1)) b = some o:=fun b o e=>by
  rw [ak (fun z=>by rw [z,hm] at e;cases e)];exact gA _ _ e
 have y1:H lo = none:=g0.free hlo
 have y2:H lp = none:=(g0.trans g1).free CH
 have y3:H la = none:=((g0.trans g1).trans g2).free hla
 have y4:H lk = none:=(((g0.trans g1).trans g2).trans g3).free hlk
 generalize upd H4 m (.dK (ir ⟨m,lo,lp,la,lk,[]⟩ 1)) = H5 at *
 refine q (cu (cu (cu (cu (cu ρ m (n,20,⟨#[]⟩)) lo (n,21,⟨#[]⟩)) lp (n,22,⟨#[]⟩)) la (n,25,⟨#[]⟩)) lk (n,26,⟨#[]⟩)) ⟨m,lo,lp,la,lk,[]⟩ H5 (((((G4.color u1 rfl).color u2 rfl).color u3 rfl).color u4 rfl).color u5 rfl) ⟨u1,?_,u2,?_,u3,?_,⟨[],u4, .nil⟩,?_,u5,c8,rfl,fun i p q e=>by simp at e⟩ (fun b o e=>⟨hz b o e,?_⟩)
 · show cu _ lk _ m = _
   rw [bg (Ne.symm n7),bg (Ne.symm n4),bg (Ne.symm n2),bg (Ne.symm n1),c8]
 · show cu _ lk _ lo = _
   rw [bg (Ne.symm n8),bg (Ne.symm n5),bg (Ne.symm n3),c8]
 · show cu _ lk _ lp = _
   rw [bg (Ne.symm n9),bg (Ne.symm n6),c8]
 · show cu _ lk _ la = _
   rw [bg (Ne.symm nA),c8]
 · rw [bg (aA e y4),bg (aA e y3),bg (aA e y2),bg (aA e y1),bg (aA e hm)]
abbrev lB:Stmt:=top 43
abbrev Bl:List Str:=["_law_owners","_law_name_here","_law_at"]
abbrev sL:List Str:=["_law_owners","_law_name_here"]
theorem qt:aI Bl sL (au lB):=⟨rfl,rfl,rfl,by decide +kernel,rfl,by decide +kernel,by decide +kernel⟩
theorem Ax (F:At K mg "_law_seat" lB f fd) (aV:mg "len" = none) (bw:mg "range" = none):Dn P w K mg base 1 "_law_seat" sL (Fd K):=by
 refine F.ok qt (fun vs H Q E h=>?_) (fun cdv A outer s H vs Q E hr h=>?_) (fun _ _ _ _ _ _ us hl=>match us,hl with | [_,_],_=>rfl)
 · obtain ⟨l,own,o,rfl,_⟩:=h.ex
   rfl
 obtain ⟨l,own,o,rfl,hl,ho,hle,q⟩:=h.ex
 refine ⟨_,(@aj _ _ _ _ _ (@dO _ _ _ _ _ _ _ _ PassesOwn.never rfl (@dz _ _ _ _ _ _ (by rfl) bw (@aa _ _ _ _ _ (@aB _ _ _ _ _ _ _ _ _ (bB K) (by rfl) aV PySem.boot_len (@aa _ _ _ _ _ (@pv _ 0 _ _ (by rfl) (by first | exact Or.inl rfl | exact Or.inr (Or.inl rfl) | exact Or.inr (Or.inr rfl)) (by decide) (by decide)) (@ah _) (by rfl)) (by decide) (by decide) (by rfl) (by rfl)) (@ah _) (by rfl)) (by rfl)) (@aZ _ _ (2) _ qt.nd rfl (Or.inl rfl) (by first | exact .inl rfl | exact .inr rfl | assumption)) (@ao _ _ _ (@bh _ _ _ _ _ _ _ _ (@aM _ _ _ _ _ _ _ _ gW (@aF _ _ _ _ _ _ _ (aT K) (@pv _ 0 _ _ (by rfl) (by first | exact Or.inl rfl | exact Or.inr (Or.inl rfl) | exact Or.inr (Or.inr rfl)) (by decide) (by decide)) (@pv _ 2 _ _ (by rfl) (by first | exact Or.inl rfl | exact Or.inr (Or.inl rfl) | exact Or.inr (Or.inr rfl)) (by decide) (by decide)) (fun _ _=>rfl)) (@pv _ 1 _ _ (by rfl) (by first | exact Or.inl rfl | exact Or.inr (Or.inl rfl) | exact Or.inr (Or.inr rfl)) (by decide) (by decide)) (aY _)) (@ao _ _ _ (@aD _ _ _ _ (@pv _ 2 _ _ (by rfl) (by first | exact Or.inl rfl | exact Or.inr (Or.inl rfl) | exact Or.inr (Or.inr rfl)) (by decide) (by decide)))) (@aJ _))) (by intro _;rfl)) (@ao _ _ _ (@aD _ _ _ _ (@ua _ _ _ _ _ _ pe (@af _ _ _ _))))),?_⟩
 have ll:(own.map V.str).length = own.length:=List.length_map _
 refine ⟨_,rfl,l,_,rfl, .inl hl,_,rfl,by omega,by omega,?_⟩
 refine d9 (lo:=0) (n:=(((own.map V.str).length:Nat):Int).toNat) (fun i σ H'=>H' = H∧o ∉ own.take i∧∃s2,σ = [some (.ref l),some (.str o),s2]) ⟨rfl,by simp,_,rfl⟩ ?_ ?_
 · rintro i σ H' hi ⟨rfl,hn,s2,rfl⟩
   have e0:(0:Int) + (i:Int) = ((i:Nat):Int):=by omega
   rw [e0]
   have hio:i < own.length:=by omega
   have ei:=List.getElem?_eq_getElem hio
   refine ⟨_,rfl,_,rfl,l,_,_,_,rfl,rfl,hl,a_ (by rw [List.getElem?_map,ei];rfl),_,rfl,rfl,_,rfl,cX (fun c=>?_) (fun c=>?_)⟩
   · have c':own[i] = o:=V.str.inj (of_decide_eq_true c)
     refine ⟨_,rfl,?_⟩
     have:own.idxOf o = i:=by
      have h1:own.idxOf o≤i:=by
       rcases Nat.lt_or_ge i (own.idxOf o) with z | z
       · exact absurd c' (by simpa using List.not_of_lt_findIdx z)
       · exact z
      rcases Nat.lt_or_ge (own.idxOf o) i with z | z
      · exact absurd (List.mem_of_getElem? (i:=own.idxOf o) (by rw [List.getElem?_take,if_pos z];exact xx ho)) hn
      · omega
     rw [← this];exact q
   · refine ⟨rfl,fun m=>?_,_,rfl⟩
     rw [take_snoc ei] at m
     rcases List.mem_append.mp m with z | z
     · exact hn z
     · exact c (decide_eq_true (by rw [List.mem_singleton.mp z]))
 rintro σ H' ⟨rfl,hn,s2,rfl⟩
 rw [show (((own.map V.str).length:Nat):Int).toNat = own.length from by omega,List.take_length] at hn
 exact absurd ho hn
abbrev gM:Stmt:=top 44
abbrev u7:List Str:=["_law_model_here","_law_name_here","_law_owner","_law_worth","_law_weight","_law_tops"]
abbrev lZ:List Str:=["_law_model_here","_law_name_here","_law_owner","_law_worth","_law_weight"]
theorem lC:aI u7 lZ (au gM):=⟨rfl,rfl,rfl,by decide +kernel,rfl,by decide +kernel,by decide +kernel⟩
theorem tR (F:At K mg "_law_new_part" gM f fd) (mK:Dn P w K mg base 1 "_law_seat" ["_law_owners","_law_name_here"] (Fd K)):Dn P w K mg base 2 "_law_new_part" lZ xy:=by
 refine F.ok lC (fun vs H Q E h=>?_) (fun cdv A outer s H vs Q E hr h=>?_) (fun _ _ _ _ _ _ us hl=>match us,hl with | [_,_,_,_,_],_=>rfl)
 · obtain ⟨n,ρ,B,b,x,o,wo,we,rfl,_⟩:=h.ex
   rfl
 obtain ⟨n,ρ,B,b,x,o,wo,we,rfl,G,h,ho,dH,hpl,RN,q⟩:=h.ex
 refine ⟨_,(@aj _ _ _ _ _ (@JB _ (5) _ _ _ _ _ _ _ _ ["_law_one"] [none] _ _ _ lC.nd rfl rfl rfl (@e_ _ K _ _ _ (@bM _ _ _ _ _ _ (bQ hr) (@pv _ 0 _ _ (by rfl) (by first | exact Or.inl rfl | exact Or.inr (Or.inl rfl) | exact Or.inr (Or.inr rfl)) (by decide) (by decide)) (@aX _ _ _ _) (fun _ _=>rfl)) (by rfl)) (fun _ _ _ _=>(@aZ _ _ (0) _ (show List.Nodup (["_law_one"] :List Str) from by decide +kernel) rfl (Or.inl rfl) (by first | exact .inl rfl | exact .inr rfl | assumption))) (fun _ _ _ _=>(@af _ _ _ _)) rfl (by rfl) (by rfl) (by intro _;rfl)) (@aj _ _ _ _ _ (@D_ _ _ _ _ _ _ (@bM _ _ _ _ _ _ (bQ hr) (@pv _ 0 _ _ (by rfl) (by first | exact Or.inl rfl | exact Or.inr (Or.inl rfl) | exact Or.inr (Or.inr rfl)) (by decide) (by decide)) (@aX _ _ _ _) (fun _ _=>rfl)) (@D9 _ _ _ _ _ _ _ (@pv _ 5 _ _ (by rfl) (by first | exact Or.inl rfl | exact Or.inr (Or.inl rfl) | exact Or.inr (Or.inr rfl)) (by decide) (by decide)) (@aR _ _ _ _ _ _ _ _ _ _ _ mK hr (@aa _ _ _ _ _ (@bM _ _ _ _ _ _ (bQ hr) (@pv _ 0 _ _ (by rfl) (by first | exact Or.inl rfl | exact Or.inr (Or.inl rfl) | exact Or.inr (Or.inr rfl)) (by decide) (by decide)) (@aX _ _ _ _) (fun _ _=>rfl)) (@aa _ _ _ _ _ (@pv _ 2 _ _ (by rfl) (by first | exact Or.inl rfl | exact Or.inr (Or.inl rfl) | exact Or.inr (Or.inr rfl)) (by decide) (by decide)) (@ah _) (by rfl)) (by rfl)) (by decide) (by rfl) (by decide) (by rfl) (by rfl)) set_list (by intro _;rfl)) (by rfl) (by rfl) (by rfl)) (@aj _ _ _ _ _ (@fD _ _ _ _ (@qI _ _ _ _ _ _ _ _ _ _ _ _ PySem.F.plainAttrs_list PySem.F.slot_list_append PySem.F.type_list_append eZ (@bM _ _ _ _ _ _ (bQ hr) (@pv _ 0 _ _ (by rfl) (by first | exact Or.inl rfl | exact Or.inr (Or.inl rfl) | exact Or.inr (Or.inr rfl)) (by decide) (by decide)) (@aX _ _ _ _) (fun _ _=>rfl)) (@aa _ _ _ _ _ (@cI _ _ _ _ (@aa _ _ _ _ _ (@pv _ 1 _ _ (by rfl) (by first | exact Or.inl rfl | exact Or.inr (Or.inl rfl) | exact Or.inr (Or.inr rfl)) (by decide) (by decide)) (@aa _ _ _ _ _ (@pv _ 2 _ _ (by rfl) (by first | exact Or.inl rfl | exact Or.inr (Or.inl rfl) | exact Or.inr (Or.inr rfl)) (by decide) (by decide)) (@aa _ _ _ _ _ (@pv _ 3 _ _ (by rfl) (by first | exact Or.inl rfl | exact Or.inr (Or.inl rfl) | exact Or.inr (Or.inr rfl)) (by decide) (by decide)) (@aa _ _ _ _ _ (@pv _ 4 _ _ (by rfl) (by first | exact Or.inl rfl | exact Or.inr (Or.inl rfl) | exact Or.inr (Or.inr rfl)) (by decide) (by decide)) (@aa _ _ _ _ _ (@pv _ 5 _ _ (by rfl) (by first | exact Or.inl rfl | exact Or.inr (Or.inl rfl) | exact Or.inr (Or.inr rfl)) (by decide) (by decide)) (@ah _) (by rfl)) (by rfl)) (by rfl)) (by rfl)) (by rfl))) (@ah _) (by rfl)) (by rfl) (by rfl) (by rfl) (by rfl) (by rfl)) (by rfl)) (@ao _ _ _ (@fD _ _ _ _ (@qI _ _ _ _ _ _ _ _ _ _ _ _ PySem.F.plainAttrs_list PySem.F.slot_list_append PySem.F.type_list_append eZ (@bM _ _ _ _ _ _ (bQ hr) (@pv _ 0 _ _ (by rfl) (by first | exact Or.inl rfl | exact Or.inr (Or.inl rfl) | exact Or.inr (Or.inr rfl)) (by decide) (by decide)) (@aX _ _ _ _) (fun _ _=>rfl)) (@aa _ _ _ _ _ (@pv _ 1 _ _ (by rfl) (by first | exact Or.inl rfl | exact Or.inr (Or.inl rfl) | exact Or.inr (Or.inr rfl)) (by decide) (by decide)) (@ah _) (by rfl)) (by rfl) (by rfl) (by rfl) (by rfl) (by rfl)) (by rfl)))))),?_⟩
 refine ⟨_,rfl,B.m,_,rfl,b_.k (k:=Sum.inr "owners") h.om,B.lo,rfl,⟨_,aE.of h.oo⟩,fun l0 qp=>?_⟩
 have HF:(b.own.map V.str).length = b.own.length:=List.length_map _
 refine m9 (J:=t8 K B.lo) (n:=(b.own.map V.str).length) 0 (fun i o H'=>aC H H'∧o = (List.replicate i (0:Int)).map V.int) (by omega) ⟨av qp _,rfl⟩ (fun i o H' hi _ hp=>⟨_,_,aE.of (hp.1 _ _ h.oo),List.getElem?_eq_getElem hi⟩) (fun o H' _ hp=>⟨_,aE.of (hp.1 _ _ h.oo),Nat.le_refl _⟩) ?_ ?_
 · rintro i y o H2 H3 hi dH ha ⟨g,e⟩ ⟨rfl,hy⟩
   refine ⟨ha,g.dg qp _,?_⟩
   subst e
   rw [List.replicate_succ',List.map_append]
   rfl
 rintro o1 H1 _ ha ⟨g1,e⟩
 subst e
 rw [HF] at ha
 have h1:=h.mono g1
 have il:b.own.idxOf o < b.own.length:=List.idxOf_lt_length_of_mem ho
 have rl:((List.replicate b.own.length (0:Int)).map V.int).length = b.own.length:=by rw [List.length_map,List.length_replicate]
 refine ⟨_,rfl,B.m,_,rfl,b_.k (k:=Sum.inr "bottom") h1.om,_,rfl,_,rfl,B.m,_,rfl,b_.k (k:=Sum.inr "owners") h1.om,_,rfl,⟨⟨B.lo,b.own,o,rfl,aE.of h1.oo,ho,dH,?_⟩⟩⟩
 refine ⟨l0,_,_,_,rfl,rfl,ha,by rw [rl];exact B0 il,?_⟩
 rw [← List.map_set]
 have g2:=g1.dg qp (.lst (((List.replicate b.own.length (0:Int)).set (b.own.idxOf o) b.bot).map V.int))
 have ha2:upd H1 l0 (.lst (((List.replicate b.own.length (0:Int)).set (b.own.idxOf o) b.bot).map V.int)) l0 = some (.lst (((List.replicate b.own.length (0:Int)).set (b.own.idxOf o) b.bot).map V.int)):=ai
 show CM _ _ _ _ (upd H1 l0 (.lst (((List.replicate b.own.length (0:Int)).set (b.own.idxOf o) b.bot).map V.int)))
 generalize upd H1 l0 (.lst (((List.replicate b.own.length (0:Int)).set (b.own.idxOf o) b.bot).map V.int)) = H2 at *
 have h2:=h.mono g2
 refine ⟨_,rfl,B.m,_,rfl,b_.k (k:=Sum.inr "parts") h2.om, .inl ⟨rfl,_,aE.of h2.op⟩,_,rfl,_,rfl,_,rfl,_,rfl,_,rfl,(by show 5≤sizeLine;decide),fun p hp=>?_⟩
 have g3:=av hp (xw ⟨x,o,wo,we,(List.replicate b.own.length (0:Int)).set (b.own.idxOf o) b.bot⟩ l0)
 have hp3:upd H2 p (xw ⟨x,o,wo,we,(List.replicate b.own.length (0:Int)).set (b.own.idxOf o) b.bot⟩ l0) p = some (xw ⟨x,o,wo,we,(List.replicate b.own.length (0:Int)).set (b.own.idxOf o) b.bot⟩ l0):=ai
 show jF _ (upd H2 p (xw ⟨x,o,wo,we,(List.replicate b.own.length (0:Int)).set (b.own.idxOf o) b.bot⟩ l0)) _
 generalize upd H2 p (xw ⟨x,o,wo,we,(List.replicate b.own.length (0:Int)).set (b.own.idxOf o) b.bot⟩ l0) = H3 at *
 have CD:H p = none:=g2.free hp
 have Mg:=g2.trans g3
 have RO:ρ l0 = none:=G.none qp
 have np:p ≠ l0:=fun e=>by rw [e,ha2] at hp;cases hp
 have cp:cu ρ l0 (n,24,x) p = none:=by rw [bg np];exact G.none CD
 have h3:bf n (cu (cu ρ l0 (n,24,x)) p (n,23,x)) B H3 b:=((h.mono Mg).col RO).col cp
 have G3:Gh (cu (cu ρ l0 (n,24,x)) p (n,23,x)) H3:=((G.same Mg).color (g3 _ _ ha2) rfl).color hp3 rfl
 have F3:Fr n ρ H (cu (cu ρ l0 (n,24,x)) p (n,23,x)) H3:=((Fr.of_same Mg).zR qp).zR CD
 have c1:cu (cu ρ l0 (n,24,x)) p (n,23,x) p = some (n,23,x):=c8
 have c2:cu (cu ρ l0 (n,24,x)) p (n,23,x) l0 = some (n,24,x):=by rw [bg (Ne.symm np),c8]
 have RP:=g3 _ _ ha2
 refine ⟨B.lp,_,_,rfl,rfl,h3.op,by rw [List.length_map,h.ql];exact dB hpl,?_⟩
 rw [show B.qs.map (fun q=>V.ref q.1) ++ [V.ref p] = (B.qs ++ [(p,l0)]).map (fun q=>V.ref q.1) from by rw [List.map_append];rfl]
 have h4:=h3.Ls G3 (p:=⟨x,o,wo,we,(List.replicate b.own.length (0:Int)).set (b.own.idxOf o) b.bot⟩) (q:=(p,l0)) hp3 RP c1 c2
 have G4:=G3.wr (a:=B.lp) (o:= .lst ((B.qs ++ [(p,l0)]).map fun q=>V.ref q.1)) rfl
 have F4:=F3.trans (Fr.write (o:= .lst ((B.qs ++ [(p,l0)]).map fun q=>V.ref q.1)) h3.cp)
 generalize upd H3 B.lp (.lst ((B.qs ++ [(p,l0)]).map fun q=>V.ref q.1)) = H4 at *
 refine ⟨_,rfl,B.m,_,rfl,b_.k (k:=Sum.inr "known") h4.om, .inl ⟨rfl,_,aE.of h4.ok⟩,_,rfl,B.lk,_,_,rfl,rfl,h4.ok,by rw [List.length_map];exact dB RN,?_⟩
 rw [show b.cL.map V.str ++ [V.str x] = (b.cL ++ [x]).map V.str from by rw [List.map_append];rfl]
 exact q _ _ _ (G4.wr rfl) (h4.JS G4 (b.cL ++ [x])) rfl (F4.trans (Fr.write h4.ck))
abbrev fG:Stmt:=top 50
abbrev qu:List Str:=["_law_hold","_law_model_here","_law_whole","_law_part"]
abbrev jE:List Str:=["_law_hold","_law_model_here"]
theorem fH:aI qu jE (au fG):=⟨rfl,rfl,rfl,by decide +kernel,rfl,by decide +kernel,by decide +kernel⟩
theorem oU {T:TC} (F:At K mg "_law_tells_parts" fG f fd) (bZ:Dn P w K mg base 1 "_law_int" ["_law_found"] uu) (gO:Dn P w K mg base 2 "_law_part_list" ["_law_found","_law_parts"] (uJ K)) (c7:Dn P w K mg base 3 "_law_share_list" ["_law_found","_law_owners","_law_tops","_law_bottom"] (mF K))
  (lD:Mn P w K mg base 1 T.hold "parts" ["self"] (Ci T)) (lE:Mn P w K mg base 1 T.hold "whole" ["self"] (Cj T)) (jS:Mn P w K mg base 4 T.hold "shares" ["self","part"] (xh T)) (kh:mg "sum" = none):Dn P w K mg base 5 "_law_tells_parts" jE (iY 1 T K):=by
 refine F.ok fH (fun vs H Q E h=>?_) (fun cdv A outer s H vs Q E hr h=>?_) (fun _ _ _ _ _ _ us hl=>match us,hl with | [_,_],_=>rfl)
 · obtain ⟨n,m,ρ,A,B,st,b,c,rfl,_⟩:=h.ex
   rfl
 obtain ⟨n,m,ρ,A,B,st,b,c,rfl,nm,hh,hb,gd,hc,CI,hkn,q⟩:=h.ex
 refine ⟨_,(@aj _ _ _ _ _ (@aG _ _ (2) _ _ _ _ fH.nd rfl (Or.inl rfl) (@qR _ _ _ _ _ _ _ _ _ _ _ _ lE hr (@pv _ 0 _ _ (by rfl) (by first | exact Or.inl rfl | exact Or.inr (Or.inl rfl) | exact Or.inr (Or.inr rfl)) (by decide) (by decide)) (by decide) (by rfl)) (by rfl) (by first | exact .inl rfl | exact .inr rfl | assumption)) (@aj _ _ _ _ _ (@bh _ _ _ _ _ _ _ _ (PW.pt (@dR _ _ _ _ _ _ _ (@bN _ _ _ _ (@bI _ _ _ (@aR _ _ _ _ _ _ _ _ _ _ _ bZ hr (@aa _ _ _ _ _ (@pv _ 2 _ _ (by rfl) (by first | exact Or.inl rfl | exact Or.inr (Or.inl rfl) | exact Or.inr (Or.inr rfl)) (by decide) (by decide)) (@ah _) (by rfl)) (by decide) (by rfl) (by decide) (by rfl) (by rfl)) (by intro _;rfl))) (@dG _ _ _ _ (@aM _ _ _ _ _ _ _ _ gX (@pv _ 2 _ _ (by rfl) (by first | exact Or.inl rfl | exact Or.inr (Or.inl rfl) | exact Or.inr (Or.inr rfl)) (by decide) (by decide)) (@aB _ _ _ _ _ _ _ _ _ (pI K rfl) (by rfl) kh PyProof.Rows.boot_sum (@aa _ _ _ _ _ (@fE _ _ _ _ _ _ ["_law_part"] [none] _ _ _ rfl (@e_ _ K _ _ _ (@bM _ _ _ _ _ _ (bQ hr) (@pv _ 1 _ _ (by rfl) (by first | exact Or.inl rfl | exact Or.inr (Or.inl rfl) | exact Or.inr (Or.inr rfl)) (by decide) (by decide)) (@aX _ _ _ _) (fun _ _=>rfl)) (by rfl)) (fun _ _ _ _=>(@aZ _ _ (0) _ (show List.Nodup (["_law_part"] :List Str) from by decide +kernel) rfl (Or.inl rfl) (by first | exact .inl rfl | exact .inr rfl | assumption))) (fun _ _ _ _=>(@aF _ _ _ _ _ _ _ (aT K) (@pv _ 0 _ _ (by rfl) (by first | exact Or.inl rfl | exact Or.inr (Or.inl rfl) | exact Or.inr (Or.inr rfl)) (by decide) (by decide)) (@af _ _ _ _) (fun _ _=>rfl))) rfl (by rfl) (by intro _;rfl)) (@ah _) (by rfl)) (by decide) (by decide) (by rfl) (by rfl)) (aY _))))) (@ao _ _ _ (@aD _ _ _ _ (@bW _ _ _ _))) (@aJ _)) (@aj _ _ _ _ _ (@bh _ _ _ _ _ _ _ _ (@bN _ _ _ _ (@bI _ _ _ (@aR _ _ _ _ _ _ _ _ _ _ _ gO hr (@aa _ _ _ _ _ (@qR _ _ _ _ _ _ _ _ _ _ _ _ lD hr (@pv _ 0 _ _ (by rfl) (by first | exact Or.inl rfl | exact Or.inr (Or.inl rfl) | exact Or.inr (Or.inr rfl)) (by decide) (by decide)) (by decide) (by rfl)) (@aa _ _ _ _ _ (@bM _ _ _ _ _ _ (bQ hr) (@pv _ 1 _ _ (by rfl) (by first | exact Or.inl rfl | exact Or.inr (Or.inl rfl) | exact Or.inr (Or.inr rfl)) (by decide) (by decide)) (@aX _ _ _ _) (fun _ _=>rfl)) (@ah _) (by rfl)) (by rfl)) (by decide) (by rfl) (by decide) (by rfl) (by rfl)) (by intro _;rfl))) (@ao _ _ _ (@aD _ _ _ _ (@bW _ _ _ _))) (@aJ _)) (@aj _ _ _ _ _ (@dO _ _ _ _ _ _ _ _ PassesOwn.never rfl (@e_ _ K _ _ _ (@bM _ _ _ _ _ _ (bQ hr) (@pv _ 1 _ _ (by rfl) (by first | exact Or.inl rfl | exact Or.inr (Or.inl rfl) | exact Or.inr (Or.inr rfl)) (by decide) (by decide)) (@aX _ _ _ _) (fun _ _=>rfl)) (by rfl)) (@aZ _ _ (3) _ fH.nd rfl (Or.inl rfl) (by first | exact .inl rfl | exact .inr rfl | assumption)) (@ao _ _ _ (@bh _ _ _ _ _ _ _ _ (@bN _ _ _ _ (@bI _ _ _ (@aR _ _ _ _ _ _ _ _ _ _ _ c7 hr (@aa _ _ _ _ _ (@jz _ _ _ _ _ _ _ _ _ _ _ _ _ _ _ jS hr (@pv _ 0 _ _ (by rfl) (by first | exact Or.inl rfl | exact Or.inr (Or.inl rfl) | exact Or.inr (Or.inr rfl)) (by decide) (by decide)) (@aa _ _ _ _ _ (@aF _ _ _ _ _ _ _ (aT K) (@pv _ 3 _ _ (by rfl) (by first | exact Or.inl rfl | exact Or.inr (Or.inl rfl) | exact Or.inr (Or.inr rfl)) (by decide) (by decide)) (@af _ _ _ _) (fun _ _=>rfl)) (@ah _) (by rfl)) (by decide) (by rfl) (by rfl) (by rfl)) (@aa _ _ _ _ _ (@bM _ _ _ _ _ _ (bQ hr) (@pv _ 1 _ _ (by rfl) (by first | exact Or.inl rfl | exact Or.inr (Or.inl rfl) | exact Or.inr (Or.inr rfl)) (by decide) (by decide)) (@aX _ _ _ _) (fun _ _=>rfl)) (@aa _ _ _ _ _ (@aF _ _ _ _ _ _ _ (aT K) (@pv _ 3 _ _ (by rfl) (by first | exact Or.inl rfl | exact Or.inr (Or.inl rfl) | exact Or.inr (Or.inr rfl)) (by decide) (by decide)) (@af _ _ _ _) (fun _ _=>rfl)) (@aa _ _ _ _ _ (@bM _ _ _ _ _ _ (bQ hr) (@pv _ 1 _ _ (by rfl) (by first | exact Or.inl rfl | exact Or.inr (Or.inl rfl) | exact Or.inr (Or.inr rfl)) (by decide) (by decide)) (@aX _ _ _ _) (fun _ _=>rfl)) (@ah _) (by rfl)) (by rfl)) (by rfl)) (by rfl)) (by decide) (by rfl) (by decide) (by rfl) (by rfl)) (by intro _;rfl))) (@ao _ _ _ (@aD _ _ _ _ (@bW _ _ _ _))) (@aJ _))) (by intro _;rfl)) (@ao _ _ _ (@aD _ _ _ _ (@bW _ _ _ _))))))),?_⟩
 have pl:=gd.pl
 have rl:=gd.rel.len
 have wl:=gd.rel.whole
 refine ⟨_,rfl,A.a,A.dx,_,rfl,hh.h.oa,rfl,⟨⟨n,ρ,A,st,rfl,hh.h,by omega,fun H1 g1=>?_⟩⟩⟩
 have fW:=hh.mono g1
 have hb1:=hb.mono g1
 have FH:=hb1.op
 have u9:(B.qs.map fun q=>V.ref q.1).length = b.aq.length:=by rw [List.length_map];exact hb.ql
 refine ⟨_,rfl,_,rfl,_,rfl,bq ?_⟩
 refine ⟨_,rfl,_,rfl,B.m,_,rfl,b_.k (k:=Sum.inr "parts") hb1.om,B.lp,rfl,⟨_,aE.of FH⟩,fun ac hac=>?_⟩
 refine m9 (J:=t8 K B.lp) (n:=b.aq.length) 0 (fun i o H'=>aC H1 H'∧o = ((b.aq.take i).map (fun p:BP=>p.wo)).map V.int) (by omega) ⟨av hac _,rfl⟩ (fun i o H' hi _ hp=>⟨_,_,aE.of (hp.1 _ _ FH),List.getElem?_eq_getElem (by rw [u9];exact hi)⟩) (fun o H' _ hp=>⟨_,aE.of (hp.1 _ _ FH),by rw [u9];exact Nat.le_refl _⟩) ?_ ?_
 · rintro j y o H2 H3 hj dH ha ⟨g,e⟩ ⟨rfl,hy⟩
   have ej:=List.getElem?_eq_getElem hj
   obtain ⟨qq,eq,k1,k2,_,_⟩:=hb1.find ej
   have ey:=hy _ (aE.of (g _ _ FH))
   rw [List.getElem?_map,eq] at ey
   cases ey
   refine ⟨_,rfl,qq.1,_,_,_,rfl,rfl,aE.of (g _ _ k1),a_ (j:=2) rfl,ha,g.dg hac _,?_⟩
   subst e
   rw [take_snoc ej,List.map_append,List.map_append]
   rfl
 rintro o H2 _ ha ⟨g2,e⟩
 rw [List.take_length] at e
 subst e
 refine ⟨ac,b.aq.map (fun p:BP=>p.wo),rfl,aE.of ha,rfl,_,rfl,?_⟩
 have ew:fB st = (b.aq.map (fun p:BP=>p.wo)).sum:=wl
 rw [show (!decide (V.int (fB st) = V.int (b.aq.map (fun p:BP=>p.wo)).sum)) = false from by rw [decide_eq_true (by rw [ew])];rfl]
 refine bq ?_
 have nv:=fW.mono g2
 have hb2:=hb1.mono g2
 refine ⟨_,rfl,A.a,A.dx,_,rfl,nv.h.oa,rfl,⟨⟨n,ρ,A,st,rfl,nv.h,by omega,fun r ws H3 g3 hr OT OU=>?_⟩⟩⟩
 have Ay:=hb2.mono g3
 refine ⟨_,rfl,B.m,_,rfl,b_.k (k:=Sum.inr "parts") Ay.om,⟨⟨r,B.lp,ws,_,st.aq,rfl,OT,OU,aE.of Ay.op,gd.rel.rows Ay,gd.nms,by omega,fun H4 g4=>⟨_,rfl,bq ?_⟩⟩⟩⟩
 have qf:=(nv.mono g3).mono g4
 have CJ:=Ay.mono g4
 have o4:aC (out ρ H) (out ρ H4):=fT (((g1.trans g2).trans g3).trans g4)
 clear fW hb1 nv hb2 Ay OT OU ha hac hr g1 g2 g3 g4 FH
 refine ⟨_,rfl,B.m,_,rfl,b_.k (k:=Sum.inr "parts") CJ.om,B.lp,rfl,⟨_,aE.of CJ.op⟩,?_⟩
 refine nK (K:=K) (xs:=B.qs.map fun q=>V.ref q.1) (fun i σ H'=>∃ρ' A' s3,σ = [some (.ref A.a),some (.ref B.m),some (.int (fB st)),s3]∧HH T n ρ' A' H' { st with kn:=st.kn + 100 * i }∧bf m ρ' B H' b∧A'.a = A.a∧aC (out ρ H) (out ρ' H'))
  ⟨ρ,A,_,rfl,qf,CJ,rfl,o4⟩ (fun i σ H' _ hp=>by obtain ⟨_,_,_,_,_,h,_⟩:=hp;exact aE.of h.op) ?_ ?_
 · rintro i y σ H5 hy ⟨ρ5,A5,s3,rfl,uY,IJ,FI,o5⟩
   rw [List.getElem?_map] at hy
   obtain ⟨qq,eq,rfl⟩:=Option.map_eq_some_iff.mp hy
   have hib:i < b.aq.length:=by rw [← hb.ql];exact (List.getElem?_eq_some_iff.mp eq).1
   have ei:=List.getElem?_eq_getElem hib
   obtain ⟨p,ep,e1,e2,_⟩:=gd.rel.at ei
   have uX:=List.mem_of_getElem? ep
   have OV:=List.mem_of_getElem? ei
   obtain ⟨k1,k2,_,_⟩:=IJ.pt i _ qq ei eq
   refine ⟨_,rfl,A.a,A5.dx,_,rfl,by rw [← FI];exact uY.h.oa,rfl,_,rfl,qq.1,_,_,_,rfl,rfl,aE.of k1,a_ (j:=0) rfl,⟨⟨n,ρ5,A5,_,i,p,by rw [FI,e1];rfl,uY,ep,by show st.kn + 100 * i + 100≤1000000;omega,fun r ws ρ6 A6 H6 sr Mh f6 hr LP cr OW=>?_⟩⟩⟩
   have xG:=IJ.other f6 uY.g (Ne.symm nm)
   obtain ⟨RQ,RS,_,_⟩:=xG.pt i _ qq ei eq
   have RT:pP { st with kn:=st.kn + 100 * i } p = cK b.own (b.aq[i]).tops b.bot:=Du gd.Hf gd.rel hh.wf gd.m_ uX OV e1
   rw [RT] at OW
   have b1:=gd.m_.b1
   refine ⟨_,rfl,B.m,_,rfl,b_.k (k:=Sum.inr "owners") xG.om,_,rfl,qq.1,_,_,_,rfl,rfl,aE.of RQ,a_ (j:=4) rfl,_,rfl,B.m,_,rfl,b_.k (k:=Sum.inr "bottom") xG.om,⟨⟨r,B.lo,qq.2,ws,b.own,(b.aq[i]).tops,b.bot,rfl,LP,OW,aE.of xG.oo,aE.of RS,(gd.m_.tl _ OV).symm,by have:=gd.m_.ol;omega,by omega,gd.m_.bz.mono (by decide),fun H7 g7=>⟨_,rfl,bq ?_⟩⟩⟩⟩
   refine ⟨ρ6,A6,_,rfl,?_,xG.mono g7,Mh.trans FI,(o5.trans f6.out).trans (fT g7)⟩
   have:=sr.mono g7
   rw [show st.kn + 100 * (i + 1) = st.kn + 100 * i + 100 by omega]
   exact this
 rintro σ H5 ⟨ρ5,A5,s3,rfl,uY,IJ,FI,o5⟩
 refine q ρ5 A5 H5 _ uY ?_ IJ FI o5
 rw [u9];omega
abbrev fk:Stmt:=top 51
abbrev oV:List Str:=["_law_hold","_law_model_here","_law_found","_law_at","_law_one","_law_due_here"]
abbrev iO:List Str:=["_law_hold","_law_model_here"]
theorem cZ:aI oV iO (au fk):=⟨rfl,rfl,rfl,by decide +kernel,rfl,by decide +kernel,by decide +kernel⟩
theorem n_ {T:TC} (F:At K mg "_law_tells_landed" fk f fd) (bZ:Dn P w K mg base 1 "_law_int" ["_law_found"] uu) (c7:Dn P w K mg base 3 "_law_share_list" ["_law_found","_law_owners","_law_tops","_law_bottom"] (mF K)) (jT:Mn P w K mg base 1 T.hold "landed" ["self"] (zH T)) (ay:mg "isinstance" = none) (bY:mg "list" = none) (dZ:mg "tuple" = none) (fQ:mg "str" = none) (bw:mg "range" = none) (aV:mg "len" = none):Dn P w K mg base 4 "_law_tells_landed" iO (iY 1 T K):=by
 refine F.ok cZ (fun vs H Q E h=>?_) (fun cdv A outer s H vs Q E hr h=>?_) (fun _ _ _ _ _ _ us hl=>match us,hl with | [_,_],_=>rfl)
 · obtain ⟨n,m,ρ,A,B,st,b,c,rfl,_⟩:=h.ex
   rfl
 obtain ⟨n,m,ρ,A,B,st,b,c,rfl,nm,hh,hb,gd,hc,CI,hkn,q⟩:=h.ex
 refine ⟨_,(@aj _ _ _ _ _ (@aG _ _ (2) _ _ _ _ cZ.nd rfl (Or.inl rfl) (@qR _ _ _ _ _ _ _ _ _ _ _ _ jT hr (@pv _ 0 _ _ (by rfl) (by first | exact Or.inl rfl | exact Or.inr (Or.inl rfl) | exact Or.inr (Or.inr rfl)) (by decide) (by decide)) (by decide) (by rfl)) (by rfl) (by first | exact .inl rfl | exact .inr rfl | assumption)) (@aj _ _ _ _ _ (@bh _ _ _ _ _ _ _ _ (@cQ _ _ _ (PW.pt (@dR _ _ _ _ _ _ _ (@bN _ _ _ _ (@bI _ _ _ (@aB _ _ _ _ _ _ _ _ _ (bC K) (by rfl) ay PyProof.Rows.boot_isinstance (@aa _ _ _ _ _ (@pv _ 2 _ _ (by rfl) (by first | exact Or.inl rfl | exact Or.inr (Or.inl rfl) | exact Or.inr (Or.inr rfl)) (by decide) (by decide)) (@aa _ _ _ _ _ (@ef _ _ _ _ PyProof.Rows.boot_list rfl bY (by decide) (by decide)) (@ah _) (by rfl)) (by rfl)) (by decide) (by decide) (by rfl) (by rfl)) (by intro _;rfl))) (@dG _ _ _ _ (@aM _ _ _ _ _ _ _ _ gX (@aB _ _ _ _ _ _ _ _ _ (bB K) (by rfl) aV PySem.boot_len (@aa _ _ _ _ _ (@pv _ 2 _ _ (by rfl) (by first | exact Or.inl rfl | exact Or.inr (Or.inl rfl) | exact Or.inr (Or.inr rfl)) (by decide) (by decide)) (@ah _) (by rfl)) (by decide) (by decide) (by rfl) (by rfl)) (@aB _ _ _ _ _ _ _ _ _ (bB K) (by rfl) aV PySem.boot_len (@aa _ _ _ _ _ (@bM _ _ _ _ _ _ (bQ hr) (@pv _ 1 _ _ (by rfl) (by first | exact Or.inl rfl | exact Or.inr (Or.inl rfl) | exact Or.inr (Or.inr rfl)) (by decide) (by decide)) (@aX _ _ _ _) (fun _ _=>rfl)) (@ah _) (by rfl)) (by decide) (by decide) (by rfl) (by rfl)) (aY _)))))) (@ao _ _ _ (@aD _ _ _ _ (@bW _ _ _ _))) (@aJ _)) (@aj _ _ _ _ _ (@dO _ _ _ _ _ _ _ _ PassesOwn.never rfl (@dz _ _ _ _ _ _ (by rfl) bw (@aa _ _ _ _ _ (@aB _ _ _ _ _ _ _ _ _ (bB K) (by rfl) aV PySem.boot_len (@aa _ _ _ _ _ (@pv _ 2 _ _ (by rfl) (by first | exact Or.inl rfl | exact Or.inr (Or.inl rfl) | exact Or.inr (Or.inr rfl)) (by decide) (by decide)) (@ah _) (by rfl)) (by decide) (by decide) (by rfl) (by rfl)) (@ah _) (by rfl)) (by rfl)) (@aZ _ _ (3) _ cZ.nd rfl (Or.inl rfl) (by first | exact .inl rfl | exact .inr rfl | assumption)) (@aj _ _ _ _ _ (@aG _ _ (4) _ _ _ _ cZ.nd rfl (Or.inl rfl) (@aF _ _ _ _ _ _ _ (aO K) (@pv _ 2 _ _ (by rfl) (by first | exact Or.inl rfl | exact Or.inr (Or.inl rfl) | exact Or.inr (Or.inr rfl)) (by decide) (by decide)) (@pv _ 3 _ _ (by rfl) (by first | exact Or.inl rfl | exact Or.inr (Or.inl rfl) | exact Or.inr (Or.inr rfl)) (by decide) (by decide)) (fun _ _=>rfl)) (by rfl) (by first | exact .inl rfl | exact .inr rfl | assumption)) (@aj _ _ _ _ _ (@aG _ _ (5) _ _ _ _ cZ.nd rfl (Or.inl rfl) (@aF _ _ _ _ _ _ _ (aT K) (@bM _ _ _ _ _ _ (bQ hr) (@pv _ 1 _ _ (by rfl) (by first | exact Or.inl rfl | exact Or.inr (Or.inl rfl) | exact Or.inr (Or.inr rfl)) (by decide) (by decide)) (@aX _ _ _ _) (fun _ _=>rfl)) (@pv _ 3 _ _ (by rfl) (by first | exact Or.inl rfl | exact Or.inr (Or.inl rfl) | exact Or.inr (Or.inr rfl)) (by decide) (by decide)) (fun _ _=>rfl)) (by rfl) (by first | exact .inl rfl | exact .inr rfl | assumption)) (@aj _ _ _ _ _ (@bh _ _ _ _ _ _ _ _ (@cQ _ _ _ (PW.pt (@dR _ _ _ _ _ _ _ (@bN _ _ _ _ (@bI _ _ _ (@aB _ _ _ _ _ _ _ _ _ (bC K) (by rfl) ay PyProof.Rows.boot_isinstance (@aa _ _ _ _ _ (@pv _ 4 _ _ (by rfl) (by first | exact Or.inl rfl | exact Or.inr (Or.inl rfl) | exact Or.inr (Or.inr rfl)) (by decide) (by decide)) (@aa _ _ _ _ _ (@ef _ _ _ _ PyProof.Rows.boot_tuple rfl dZ (by decide) (by decide)) (@ah _) (by rfl)) (by rfl)) (by decide) (by decide) (by rfl) (by rfl)) (by intro _;rfl))) (@dR _ _ _ _ _ _ _ (@aM _ _ _ _ _ _ _ _ gX (@aB _ _ _ _ _ _ _ _ _ (bB K) (by rfl) aV PySem.boot_len (@aa _ _ _ _ _ (@pv _ 4 _ _ (by rfl) (by first | exact Or.inl rfl | exact Or.inr (Or.inl rfl) | exact Or.inr (Or.inr rfl)) (by decide) (by decide)) (@ah _) (by rfl)) (by decide) (by decide) (by rfl) (by rfl)) (@af _ _ _ _) (aY _)) (@dG _ _ _ _ (@bN _ _ _ _ (@bI _ _ _ (@aR _ _ _ _ _ _ _ _ _ _ _ bZ hr (@aa _ _ _ _ _ (@aF _ _ _ _ _ _ _ (aO K) (@pv _ 4 _ _ (by rfl) (by first | exact Or.inl rfl | exact Or.inr (Or.inl rfl) | exact Or.inr (Or.inr rfl)) (by decide) (by decide)) (@af _ _ _ _) (fun _ _=>rfl)) (@ah _) (by rfl)) (by decide) (by rfl) (by decide) (by rfl) (by rfl)) (by intro _;rfl)))))))) (@ao _ _ _ (@aD _ _ _ _ (@bW _ _ _ _))) (@aJ _)) (@aj _ _ _ _ _ (@bh _ _ _ _ _ _ _ _ (@cQ _ _ _ (PW.pt (@dR _ _ _ _ _ _ _ (@bN _ _ _ _ (@bI _ _ _ (@aB _ _ _ _ _ _ _ _ _ (bC K) (by rfl) ay PyProof.Rows.boot_isinstance (@aa _ _ _ _ _ (@aF _ _ _ _ _ _ _ (aO K) (@pv _ 4 _ _ (by rfl) (by first | exact Or.inl rfl | exact Or.inr (Or.inl rfl) | exact Or.inr (Or.inr rfl)) (by decide) (by decide)) (@af _ _ _ _) (fun _ _=>rfl)) (@aa _ _ _ _ _ (@ef _ _ _ _ PyProof.Rows.boot_str rfl fQ (by decide) (by decide)) (@ah _) (by rfl)) (by rfl)) (by decide) (by decide) (by rfl) (by rfl)) (by intro _;rfl))) (@dG _ _ _ _ (@bN _ _ _ _ (@bI _ _ _ (@aB _ _ _ _ _ _ _ _ _ (bC K) (by rfl) ay PyProof.Rows.boot_isinstance (@aa _ _ _ _ _ (@aF _ _ _ _ _ _ _ (aO K) (@pv _ 4 _ _ (by rfl) (by first | exact Or.inl rfl | exact Or.inr (Or.inl rfl) | exact Or.inr (Or.inr rfl)) (by decide) (by decide)) (@af _ _ _ _) (fun _ _=>rfl)) (@aa _ _ _ _ _ (@ef _ _ _ _ PyProof.Rows.boot_str rfl fQ (by decide) (by decide)) (@ah _) (by rfl)) (by rfl)) (by decide) (by decide) (by rfl) (by rfl)) (by intro _;rfl))))))) (@ao _ _ _ (@aD _ _ _ _ (@bW _ _ _ _))) (@aJ _)) (@aj _ _ _ _ _ (@bh _ _ _ _ _ _ _ _ (@aM _ _ _ _ _ _ _ _ gX (@eU _ _ _ _ _ (@aa _ _ _ _ _ (@aF _ _ _ _ _ _ _ (aO K) (@pv _ 4 _ _ (by rfl) (by first | exact Or.inl rfl | exact Or.inr (Or.inl rfl) | exact Or.inr (Or.inr rfl)) (by decide) (by decide)) (@af _ _ _ _) (fun _ _=>rfl)) (@aa _ _ _ _ _ (@aF _ _ _ _ _ _ _ (aO K) (@pv _ 4 _ _ (by rfl) (by first | exact Or.inl rfl | exact Or.inr (Or.inl rfl) | exact Or.inr (Or.inr rfl)) (by decide) (by decide)) (@af _ _ _ _) (fun _ _=>rfl)) (@aa _ _ _ _ _ (@aF _ _ _ _ _ _ _ (aO K) (@pv _ 4 _ _ (by rfl) (by first | exact Or.inl rfl | exact Or.inr (Or.inl rfl) | exact Or.inr (Or.inr rfl)) (by decide) (by decide)) (@af _ _ _ _) (fun _ _=>rfl)) (@ah _) (by rfl)) (by rfl)) (by rfl))) (@eU _ _ _ _ _ (@aa _ _ _ _ _ (@aF _ _ _ _ _ _ _ (aT K) (@pv _ 5 _ _ (by rfl) (by first | exact Or.inl rfl | exact Or.inr (Or.inl rfl) | exact Or.inr (Or.inr rfl)) (by decide) (by decide)) (@af _ _ _ _) (fun _ _=>rfl)) (@aa _ _ _ _ _ (@aF _ _ _ _ _ _ _ (aT K) (@pv _ 5 _ _ (by rfl) (by first | exact Or.inl rfl | exact Or.inr (Or.inl rfl) | exact Or.inr (Or.inr rfl)) (by decide) (by decide)) (@af _ _ _ _) (fun _ _=>rfl)) (@aa _ _ _ _ _ (@aF _ _ _ _ _ _ _ (aT K) (@pv _ 5 _ _ (by rfl) (by first | exact Or.inl rfl | exact Or.inr (Or.inl rfl) | exact Or.inr (Or.inr rfl)) (by decide) (by decide)) (@af _ _ _ _) (fun _ _=>rfl)) (@ah _) (by rfl)) (by rfl)) (by rfl))) (aY _)) (@ao _ _ _ (@aD _ _ _ _ (@bW _ _ _ _))) (@aJ _)) (@ao _ _ _ (@bh _ _ _ _ _ _ _ _ (@bN _ _ _ _ (@bI _ _ _ (@aR _ _ _ _ _ _ _ _ _ _ _ c7 hr (@aa _ _ _ _ _ (@aF _ _ _ _ _ _ _ (aO K) (@pv _ 4 _ _ (by rfl) (by first | exact Or.inl rfl | exact Or.inr (Or.inl rfl) | exact Or.inr (Or.inr rfl)) (by decide) (by decide)) (@af _ _ _ _) (fun _ _=>rfl)) (@aa _ _ _ _ _ (@bM _ _ _ _ _ _ (bQ hr) (@pv _ 1 _ _ (by rfl) (by first | exact Or.inl rfl | exact Or.inr (Or.inl rfl) | exact Or.inr (Or.inr rfl)) (by decide) (by decide)) (@aX _ _ _ _) (fun _ _=>rfl)) (@aa _ _ _ _ _ (@aF _ _ _ _ _ _ _ (aT K) (@pv _ 5 _ _ (by rfl) (by first | exact Or.inl rfl | exact Or.inr (Or.inl rfl) | exact Or.inr (Or.inr rfl)) (by decide) (by decide)) (@af _ _ _ _) (fun _ _=>rfl)) (@aa _ _ _ _ _ (@aF _ _ _ _ _ _ _ (aT K) (@pv _ 5 _ _ (by rfl) (by first | exact Or.inl rfl | exact Or.inr (Or.inl rfl) | exact Or.inr (Or.inr rfl)) (by decide) (by decide)) (@af _ _ _ _) (fun _ _=>rfl)) (@ah _) (by rfl)) (by rfl)) (by rfl)) (by rfl)) (by decide) (by rfl) (by decide) (by rfl) (by rfl)) (by intro _;rfl))) (@ao _ _ _ (@aD _ _ _ _ (@bW _ _ _ _))) (@aJ _)))))))) (by intro _;rfl)) (@ao _ _ _ (@aD _ _ _ _ (@bW _ _ _ _)))))),?_⟩
 refine ⟨_,rfl,A.a,A.dx,_,rfl,hh.h.oa,rfl,⟨⟨n,ρ,A,st,rfl,hh,fun r ws H1 g1 hr hr1 hL=>?_⟩⟩⟩
 rw [gd.jA.1] at hL
 cases hL
 have hb1:=hb.mono g1
 obtain ⟨vs,hv,hA⟩:=hb1.oa
 rw [gd.jA.2] at hA
 cases hA
 refine ⟨false,?_,bq ?_⟩
 · refine ⟨_,rfl,_,_,_,_,rfl,c_.lst hr1,dF,_,rfl,bq ?_⟩
   exact ⟨_,rfl,_,_,rfl, .inl (aE.of hr1),_,rfl,B.m,_,rfl,b_.k (k:=Sum.inr "ashore") hb1.om,_,_,rfl, .inl (aE.of hv),rfl,_,rfl,rfl,rfl⟩
 refine ⟨_,rfl,r,_,rfl, .inl (aE.of hr1),_,rfl,by decide,by decide,?_⟩
 refine d9 (lo:=0) (n:=0) (fun i σ H'=>H' = H1∧σ = [some (.ref A.a),some (.ref B.m),some (.ref r),none,none,none]) ⟨rfl,rfl⟩ ?_ ?_
 · intro i σ H' hi
   omega
 rintro σ H' ⟨rfl,rfl⟩
 exact q ρ A H' st.kn (hh.mono g1) (by omega) hb1 rfl (fT g1)
abbrev jU:Stmt:=top 52
abbrev Az:List Str:=["_law_hold","_law_model_here","_law_roster"]
abbrev qw:List Str:=["_law_hold","_law_model_here"]
theorem oR:aI Az qw (au jU):=⟨rfl,rfl,rfl,by decide +kernel,rfl,by decide +kernel,by decide +kernel⟩
theorem x9 {T:TC} (F:At K mg "_law_tells" jU f fd) (fZ:Dn P w K mg base 5 "_law_tells_parts" ["_law_hold","_law_model_here"] (iY 1 T K)) (fJ:Dn P w K mg base 4 "_law_tells_landed" ["_law_hold","_law_model_here"] (iY 1 T K)) (jV:Mn P w K mg base 1 T.hold "roster" ["self"] (zA T)) (ay:mg "isinstance" = none) (bY:mg "list" = none):Dn P w K mg base 6 "_law_tells" qw (iY 2 T K):=by
 refine F.ok oR (fun vs H Q E h=>?_) (fun cdv A outer s H vs Q E hr h=>?_) (fun _ _ _ _ _ _ us hl=>match us,hl with | [_,_],_=>rfl)
 · obtain ⟨n,m,ρ,A,B,st,b,c,rfl,_⟩:=h.ex
   rfl
 obtain ⟨n,m,ρ,A,B,st,b,c,rfl,nm,hh,hb,gd,hc,CI,hkn,q⟩:=h.ex
 refine ⟨_,(@aj _ _ _ _ _ (@aG _ _ (2) _ _ _ _ oR.nd rfl (Or.inl rfl) (@qR _ _ _ _ _ _ _ _ _ _ _ _ jV hr (@pv _ 0 _ _ (by rfl) (by first | exact Or.inl rfl | exact Or.inr (Or.inl rfl) | exact Or.inr (Or.inr rfl)) (by decide) (by decide)) (by decide) (by rfl)) (by rfl) (by first | exact .inl rfl | exact .inr rfl | assumption)) (@aj _ _ _ _ _ (@bh _ _ _ _ _ _ _ _ (@cQ _ _ _ (PW.pt (@dR _ _ _ _ _ _ _ (@bN _ _ _ _ (@bI _ _ _ (@aB _ _ _ _ _ _ _ _ _ (bC K) (by rfl) ay PyProof.Rows.boot_isinstance (@aa _ _ _ _ _ (@pv _ 2 _ _ (by rfl) (by first | exact Or.inl rfl | exact Or.inr (Or.inl rfl) | exact Or.inr (Or.inr rfl)) (by decide) (by decide)) (@aa _ _ _ _ _ (@ef _ _ _ _ PyProof.Rows.boot_list rfl bY (by decide) (by decide)) (@ah _) (by rfl)) (by rfl)) (by decide) (by decide) (by rfl) (by rfl)) (by intro _;rfl))) (@dG _ _ _ _ (@aM _ _ _ _ _ _ _ _ (qP K hr.units) (@pv _ 2 _ _ (by rfl) (by first | exact Or.inl rfl | exact Or.inr (Or.inl rfl) | exact Or.inr (Or.inr rfl)) (by decide) (by decide)) (@bM _ _ _ _ _ _ (bQ hr) (@pv _ 1 _ _ (by rfl) (by first | exact Or.inl rfl | exact Or.inr (Or.inl rfl) | exact Or.inr (Or.inr rfl)) (by decide) (by decide)) (@aX _ _ _ _) (fun _ _=>rfl)) (aY _)))))) (@ao _ _ _ (@aD _ _ _ _ (@bW _ _ _ _))) (@aJ _)) (@ao _ _ _ (@aD _ _ _ _ (@tY _ _ _ _ _ _ _ (@aR _ _ _ _ _ _ _ _ _ _ _ fZ hr (@aa _ _ _ _ _ (@pv _ 0 _ _ (by rfl) (by first | exact Or.inl rfl | exact Or.inr (Or.inl rfl) | exact Or.inr (Or.inr rfl)) (by decide) (by decide)) (@aa _ _ _ _ _ (@pv _ 1 _ _ (by rfl) (by first | exact Or.inl rfl | exact Or.inr (Or.inl rfl) | exact Or.inr (Or.inr rfl)) (by decide) (by decide)) (@ah _) (by rfl)) (by rfl)) (by decide) (by rfl) (by decide) (by rfl) (by rfl)) (@tX _ _ _ _ _ (@aR _ _ _ _ _ _ _ _ _ _ _ fJ hr (@aa _ _ _ _ _ (@pv _ 0 _ _ (by rfl) (by first | exact Or.inl rfl | exact Or.inr (Or.inl rfl) | exact Or.inr (Or.inr rfl)) (by decide) (by decide)) (@aa _ _ _ _ _ (@pv _ 1 _ _ (by rfl) (by first | exact Or.inl rfl | exact Or.inr (Or.inl rfl) | exact Or.inr (Or.inr rfl)) (by decide) (by decide)) (@ah _) (by rfl)) (by rfl)) (by decide) (by rfl) (by decide) (by rfl) (by rfl)))))))),?_⟩
 refine ⟨_,rfl,A.a,A.dx,_,rfl,hh.h.oa,rfl,⟨⟨n,ρ,A,st,rfl,hh.h,fun r hr=>?_⟩⟩⟩
 have g1:=av hr (.lst (st.own.map V.str))
 have hr1:upd H r (.lst (st.own.map V.str)) r = some (.lst (st.own.map V.str)):=ai
 have fW:=hh.mono g1
 have hb1:=hb.mono g1
 have eo:=gd.rel.own
 show dI 2 (.ref r) _ (upd H r (.lst (st.own.map V.str))) _
 generalize upd H r (.lst (st.own.map V.str)) = H1 at *
 rw [eo] at hr1
 refine ⟨false,?_,bq ?_⟩
 · refine ⟨_,rfl,_,_,_,_,rfl,c_.lst hr1,dF,_,rfl,bq ?_⟩
   refine ⟨_,rfl,_,rfl,B.m,_,rfl,b_.k (k:=Sum.inr "owners") hb1.om,_,_, .lst (aE.of hr1) (vN b.own), .lst (aE.of hb1.oo) (vN b.own),rT b.own CI,rT b.own CI,_,rfl,?_,rfl⟩
   rw [Hi]
   rfl
 refine ⟨_,rfl,_,rfl,⟨⟨n,m,ρ,A,B,st,b,c,rfl,nm,fW,hb1,gd,hc,CI,by omega,fun ρ2 A2 H2 k nv hk hb2 OX o2=>⟨true,rfl,dW ?_⟩⟩⟩⟩
 refine ⟨_,rfl,_,rfl,⟨⟨n,m,ρ2,A2,B,_,b,c,by rw [OX];rfl,nm,nv,hb2,Ip gd k,hc,CI,by show k + 5000 * 1≤1000000;omega,fun ρ3 A3 H3 k3 qe OY Ay II o3=>?_⟩⟩⟩
 have OY:k3≤k + 5000 * 1:=OY
 exact q ρ3 A3 H3 k3 qe (by omega) Ay (II.trans OX) (((fT g1).trans o2).trans o3)
abbrev jW:Stmt:=top 53
abbrev AA:List Str:=["_law_owners","_law_hold","_law_owner"]
abbrev qx:List Str:=["_law_owners"]
theorem jX:aI AA qx (au jW):=⟨rfl,rfl,rfl,by decide +kernel,rfl,by decide +kernel,by decide +kernel⟩
theorem x_ {T:TC} (F:At K mg "_law_begin" jW f fd) (AB:Cn P w K mg base 3 "Hold" T.hold ["self"] (Ce T)) (mL:Mn P w K mg base 3 T.hold "sign" ["self","owner"] (Cg T)):Dn P w K mg base 5 "_law_begin" qx (Co T K):=by
 refine F.ok jX (fun vs H Q E h=>?_) (fun cdv A outer s H vs Q E hr h=>?_) (fun _ _ _ _ _ _ us hl=>match us,hl with | [_],_=>rfl)
 · obtain ⟨l,own,n,ρ,rfl,_⟩:=h.ex
   rfl
 obtain ⟨l,own,n,ρ,rfl,hl,cl,nd,hnm,hle,g,q⟩:=h.ex
 refine ⟨_,(@aj _ _ _ _ _ (@aG _ _ (1) _ _ _ _ jX.nd rfl (Or.inl rfl) (@E1 _ _ _ _ _ _ _ _ _ AB hr (by decide) (by rfl) (by decide)) (by rfl) (by first | exact .inl rfl | exact .inr rfl | assumption)) (@aj _ _ _ _ _ (@dO _ _ _ _ _ _ _ _ PassesOwn.never rfl (@e_ _ K _ _ _ (@pv _ 0 _ _ (by rfl) (by first | exact Or.inl rfl | exact Or.inr (Or.inl rfl) | exact Or.inr (Or.inr rfl)) (by decide) (by decide)) (by rfl)) (@aZ _ _ (2) _ jX.nd rfl (Or.inl rfl) (by first | exact .inl rfl | exact .inr rfl | assumption)) (@ao _ _ _ (@fD _ _ _ _ (@jz _ _ _ _ _ _ _ _ _ _ _ _ _ _ _ mL hr (@pv _ 1 _ _ (by rfl) (by first | exact Or.inl rfl | exact Or.inr (Or.inl rfl) | exact Or.inr (Or.inr rfl)) (by decide) (by decide)) (@aa _ _ _ _ _ (@pv _ 2 _ _ (by rfl) (by first | exact Or.inl rfl | exact Or.inr (Or.inl rfl) | exact Or.inr (Or.inr rfl)) (by decide) (by decide)) (@ah _) (by rfl)) (by decide) (by rfl) (by rfl) (by rfl)) (by rfl))) (by intro _;rfl)) (@ao _ _ _ (@aD _ _ _ _ (@pv _ 1 _ _ (by rfl) (by first | exact Or.inl rfl | exact Or.inr (Or.inl rfl) | exact Or.inr (Or.inr rfl)) (by decide) (by decide)))))),?_⟩
 intro x dx hx hdx hne
 refine ⟨⟨x,dx,ρ,n,rfl,ai,(g.alloc hdx).alloc (by rw [ak (Ne.symm hne)];exact hx),g.none hx,fun ρ1 A H1 ea hh k=>⟨rfl,?_⟩⟩⟩
 have F1:Fr n ρ H ρ1 H1:=fun b o e _=>k b o (by rw [ak (aA e hx),ak (aA e hdx)];exact e) (aA e hx)
 refine ⟨_,rfl,l,rfl,⟨_,F1.seq hl cl⟩,?_⟩
 refine nK (K:=K) (xs:=own.map V.str) (fun i σ H'=>∃ρ' A' s2,σ = [some (.ref l),some (.ref x),s2]∧A'.a = x∧HH T n ρ' A' H' ((own.take i).foldl cY hs0)∧Fr n ρ H ρ' H')
  ⟨ρ1,A,none,rfl,ea,hh,F1⟩ (fun i σ H' _ hp=>by obtain ⟨_,_,_,_,_,_,f⟩:=hp;exact f.seq hl cl) ?_ ?_
 · rintro i y σ H' hy ⟨ρ',A',s2,rfl,ea',uR,F'⟩
   rw [List.getElem?_map] at hy
   obtain ⟨o,eo,rfl⟩:=Option.map_eq_some_iff.mp hy
   have hi:=(List.getElem?_eq_some_iff.mp eo).1
   have hos:=pS (own.take i) hs0
   have Mi:((own.take i).foldl cY hs0).own = own.take i:=by rw [hos];rfl
   refine ⟨_,rfl,x,A'.dx,_,rfl,ea' ▸ uR.h.oa,rfl,_,rfl,⟨⟨n,ρ',A',_,o,by rw [ea'];rfl,uR,hnm o (List.mem_of_getElem? eo),?_,?_,fun ρ2 A2 H2 h2 e2 F2=>?_⟩⟩⟩
   · rw [Mi]
     intro m
     have h2:(own.take (i + 1)).Nodup:=nd.sublist (List.take_sublist _ _)
     rw [take_snoc eo] at h2
     exact (List.nodup_append.mp h2).2.2 o m o (List.mem_singleton.mpr rfl) rfl
   · rw [Mi,List.length_take]
     omega
   · rw [take_snoc eo,List.foldl_append]
     exact ⟨ρ2,A2,_,rfl,e2.trans ea',h2,F'.trans F2⟩
 rintro σ H' ⟨ρ',A',s2,rfl,ea',uR,F'⟩
 rw [List.length_map,List.take_length] at uR
 have:=q ρ' A' H' uR F'
 rw [ea'] at this
 exact ⟨_,rfl,this⟩
abbrev iB:Stmt:=top 35
abbrev wg:List Str:=["_law_word","_law_sign"]
abbrev nD:List Str:=["_law_word"]
theorem l_:aI wg nD (au iB):=⟨rfl,rfl,rfl,by decide +kernel,rfl,by decide +kernel,by decide +kernel⟩
theorem u_ (F:At K mg "_law_is_name" iB f fd) (aV:mg "len" = none):Dn P w K mg base 1 "_law_is_name" nD mG:=by
 refine F.ok l_ (fun vs H Q E h=>?_) (fun cdv A outer s H vs Q E hr h=>?_) (fun _ _ _ _ _ _ us hl=>match us,hl with | [_],_=>rfl)
 · obtain ⟨cs,rfl,_⟩:=h.ex
   rfl
 obtain ⟨cs,rfl,hl,q⟩:=h.ex
 refine ⟨_,(@aj _ _ _ _ _ (@dO _ _ _ _ _ _ _ _ PassesOwn.never rfl (@EM _ _ _ _ (@pv _ 0 _ _ (by rfl) (by first | exact Or.inl rfl | exact Or.inr (Or.inl rfl) | exact Or.inr (Or.inr rfl)) (by decide) (by decide))) (@aZ _ _ (1) _ l_.nd rfl (Or.inl rfl) (by first | exact .inl rfl | exact .inr rfl | assumption)) (@ao _ _ _ (@bh _ _ _ _ _ _ _ _ (@aM _ _ _ _ _ _ _ _ yE (@pv _ 1 _ _ (by rfl) (by first | exact Or.inl rfl | exact Or.inr (Or.inl rfl) | exact Or.inr (Or.inr rfl)) (by decide) (by decide)) (@aX _ _ _ _) (by with_unfolding_all rfl)) (@ao _ _ _ (@aD _ _ _ _ (@bW _ _ _ _))) (@aJ _))) (by intro _;rfl)) (@ao _ _ _ (@aD _ _ _ _ (@tY _ _ _ _ _ _ _ (@kj _ _ _ _ _ _ _ _ yh (@af _ _ _ _) (@aB _ _ _ _ _ _ _ _ _ kC (by rfl) aV PySem.boot_len (@aa _ _ _ _ _ (@pv _ 0 _ _ (by rfl) (by first | exact Or.inl rfl | exact Or.inr (Or.inl rfl) | exact Or.inr (Or.inr rfl)) (by decide) (by decide)) (@ah _) (by rfl)) (by decide) (by decide) (by rfl) (by rfl)) (aY _)) (@tX _ _ _ _ _ (@kj _ _ _ _ _ _ _ _ yh (@aB _ _ _ _ _ _ _ _ _ kC (by rfl) aV PySem.boot_len (@aa _ _ _ _ _ (@pv _ 0 _ _ (by rfl) (by first | exact Or.inl rfl | exact Or.inr (Or.inl rfl) | exact Or.inr (Or.inr rfl)) (by decide) (by decide)) (@ah _) (by rfl)) (by decide) (by decide) (by rfl) (by rfl)) (@af _ _ _ _) (aY _))))))),?_⟩
 have hz:(tx cs).length≤sizeLine:=by rw [dD,sizeLine_eq];omega
 refine ⟨_,rfl,cs,rfl,?_⟩
 refine JD (fun i σ H2=>H2 = H∧(cs.take i).all (jw "abcdefghijklmnopqrstuvwxyz") = true∧∃(s1:Option V),σ = [some (.str (tx cs)),s1]) ⟨rfl,rfl,none,rfl⟩ ?_ ?_
 · rintro i ch σ H2 hc ⟨rfl,ha,s1,rfl⟩
   have e:(cs.take (i + 1)).all (jw "abcdefghijklmnopqrstuvwxyz") = ((cs.take i).all (jw "abcdefghijklmnopqrstuvwxyz") && jw "abcdefghijklmnopqrstuvwxyz" ch):=by
    rw [List.take_add_one,hc,List.all_append]
    show (_ && (jw _ ch && true)) = _
    rw [Bool.and_true]
   refine ⟨_,rfl,_,_,rfl,rfl,_,rfl,?_⟩
   show if (!jw "abcdefghijklmnopqrstuvwxyz" ch) = true then _ else _
   cases hb:jw "abcdefghijklmnopqrstuvwxyz" ch with
   | true=>exact bq ⟨rfl,by rw [e,ha,hb];rfl,_,rfl⟩
   | false=>
     refine dW ?_
     have hf:isName cs = false:=by
      unfold isName
      rw [show cs.all (jw "abcdefghijklmnopqrstuvwxyz") = false by rw [List.all_eq_false];exact ⟨ch,List.mem_of_getElem? hc,by rw [hb];exact Bool.false_ne_true⟩,Bool.and_false]
     rw [hf] at q
     exact q
 rintro σ H2 ⟨rfl,ha,s1,rfl⟩
 rw [List.take_length] at ha
 have hf:isName cs = (decide (1≤(cs.length:Int)) && decide ((cs.length:Int)≤8)):=by unfold isName;rw [ha,Bool.and_true]
 rw [hf] at q
 refine ⟨_,rfl,_,rfl,hz,_,_,rfl,rfl,_,rfl,?_⟩
 rw [dD]
 refine cX (fun c=>?_) (fun c=>?_)
 · refine ⟨_,rfl,_,rfl,hz,_,_,rfl,rfl,?_⟩
   rw [dD]
   rw [c,Bool.true_and] at q
   exact q
 · rw [Bool.eq_false_iff.mpr c,Bool.false_and] at q
   exact q
abbrev mO:Stmt:=top 34
abbrev DT:List Str:=["_law_at"]
abbrev vc:List Str:=["_law_at"]
theorem Bm:aI DT vc (au mO):=⟨rfl,rfl,rfl,by decide +kernel,rfl,by decide +kernel,by decide +kernel⟩
theorem Bo (F:At K mg "_law_hot" mO f fd) (bw:mg "range" = none):Dn P w K mg base 1 "_law_hot" vc DB:=by
 refine F.ok Bm (fun vs H Q E h=>?_) (fun cdv A outer s H vs Q E hr h=>?_) (fun _ _ _ _ _ _ us hl=>match us,hl with | [_],_=>rfl)
 · obtain ⟨n,rfl,_⟩:=h.ex
   rfl
 obtain ⟨n,rfl,q⟩:=h.ex
 refine ⟨_,(@ao _ _ _ (@aD _ _ _ _ (@az _ _ _ _ _ _ _ _ gY (@cI _ _ _ _ (@aa _ _ _ _ _ (@bW _ _ _ _) (@ah _) (by rfl))) (@fE _ _ _ _ _ _ ["_law_k","_law_at"] [none,some 0] _ _ _ rfl (@dz _ _ _ _ _ _ (by rfl) bw (@aa _ _ _ _ _ (@af _ _ _ _) (@ah _) (by rfl)) (by rfl)) (fun _ _ _ _=>(@aZ _ _ (0) _ (show List.Nodup (["_law_k","_law_at"] :List Str) from by decide +kernel) rfl (Or.inl rfl) (by first | exact .inl rfl | exact .inr rfl | assumption))) (fun _ _ _ _=>(@kj _ _ _ _ _ _ _ _ gW (@pv _ 0 _ _ (by rfl) (by first | exact Or.inl rfl | exact Or.inr (Or.inl rfl) | exact Or.inr (Or.inr rfl)) (by decide) (by decide)) (@pv _ 1 _ _ (by rfl) (by first | exact Or.inl rfl | exact Or.inr (Or.inl rfl) | exact Or.inr (Or.inr rfl)) (by decide) (by decide)) (aY _))) rfl (by rfl) (by intro _;rfl))))),?_⟩
 refine ⟨(by show 1≤sizeLine;decide),fun p1 hp1=>?_⟩
 have g1:aC H (upd H p1 (.lst [.bl true])):=av hp1 _
 have h1:upd H p1 (.lst [.bl true]) p1 = some (.lst [.bl true]):=ai
 generalize upd H p1 (.lst [.bl true]) = H1 at g1 h1
 refine ⟨10,rfl,(by decide),(by decide),fun acc hacc=>?_⟩
 refine C7 (n:=(10:Int).toNat) (fun i out H'=>aC H1 H'∧out = ((List.range i).map fun k=>V.bl (decide (k = n)))) (by decide) ⟨av hacc _,rfl⟩ ?_ ?_
 · rintro i out H' hi dH ha ⟨g,e⟩
   refine ⟨_,rfl,_,rfl,rfl,ha,g.dg hacc _,?_⟩
   rw [List.range_succ,List.map_append,e]
   congr 1
   show [V.bl (decide (V.int (0 + (i:Int)) = V.int (n:Int)))] = [V.bl (decide (i = n))]
   congr 2
   exact decide_eq_decide.mpr ⟨fun z=>by have:=V.int.inj z;omega,fun z=>by rw [z];congr 1;omega⟩
 rintro out H' dH ha ⟨g,e⟩
 refine ⟨p1,acc,_,_,rfl,rfl,g _ _ h1,ha,(by rw [dH,sizeLine_eq];decide),fun p hp=>q p _ (g1.trans (g.trans (av hp _))) ?_⟩
 rw [ai,e]
 show some (HO.lst (V.bl true :: _)) = some (HO.lst ((true :: (List.range 10).map fun k=>decide (k = n)).map V.bl))
 rw [List.map_cons,List.map_map]
 rfl
abbrev iC:Stmt:=top 32
abbrev wj:List Str:=["_law_hold","_law_deed"]
abbrev nE:List Str:=["_law_hold","_law_deed"]
theorem vd:aI wj nE (au iC):=⟨rfl,rfl,rfl,by decide +kernel,rfl,by decide +kernel,by decide +kernel⟩
theorem vf {T:TC} {e:Ec} (F:At K mg "_law_hold_do" iC f fd) (iD:Mx P w K mg base 4 T.hold "load" ["self","part","owner","worth","weight"] (vR T e)):Dx P w K mg base 6 "_law_hold_do" nE (z9 T e nU K):=by
 refine F.zU vd (fun vs H Q E h=>?_) (fun cdv A outer s H vs Q E hr h=>?_) (fun _ _ _ _ _ _ us hl=>match us,hl with | [_,_],_=>rfl)
 · obtain ⟨n,ρ,A,st,z,d,rfl,_⟩:=h.ex
   rfl
 obtain ⟨n,ρ,A,st,z,d,rfl,hz,hh,ha,dq⟩:=h.ex
 refine ⟨_,(@aj _ _ _ _ _ (@bh _ _ _ _ _ _ _ _ (@aM _ _ _ _ _ _ _ _ gW (@aF _ _ _ _ _ _ _ (aO K) (@pv _ 1 _ _ (by rfl) (by first | exact Or.inl rfl | exact Or.inr (Or.inl rfl) | exact Or.inr (Or.inr rfl)) (by decide) (by decide)) (@af _ _ _ _) (fun _ _=>rfl)) (@aX _ _ _ _) (aY _)) (@ao _ _ _ (@aD _ _ _ _ (@vQ _ _ _ _ _ _ _ _ _ _ _ _ _ _ _ _ _ _ _ _ _ _ _ _ _ _ _ _ _ iD hr (@pv _ 0 _ _ (by rfl) (by first | exact Or.inl rfl | exact Or.inr (Or.inl rfl) | exact Or.inr (Or.inr rfl)) (by decide) (by decide)) (@aa _ _ _ _ _ (@aF _ _ _ _ _ _ _ (aO K) (@pv _ 1 _ _ (by rfl) (by first | exact Or.inl rfl | exact Or.inr (Or.inl rfl) | exact Or.inr (Or.inr rfl)) (by decide) (by decide)) (@af _ _ _ _) (fun _ _=>rfl)) (@aa _ _ _ _ _ (@aF _ _ _ _ _ _ _ (aO K) (@pv _ 1 _ _ (by rfl) (by first | exact Or.inl rfl | exact Or.inr (Or.inl rfl) | exact Or.inr (Or.inr rfl)) (by decide) (by decide)) (@af _ _ _ _) (fun _ _=>rfl)) (@aa _ _ _ _ _ (@aF _ _ _ _ _ _ _ (aO K) (@pv _ 1 _ _ (by rfl) (by first | exact Or.inl rfl | exact Or.inr (Or.inl rfl) | exact Or.inr (Or.inr rfl)) (by decide) (by decide)) (@af _ _ _ _) (fun _ _=>rfl)) (@aa _ _ _ _ _ (@aF _ _ _ _ _ _ _ (aO K) (@pv _ 1 _ _ (by rfl) (by first | exact Or.inl rfl | exact Or.inr (Or.inl rfl) | exact Or.inr (Or.inr rfl)) (by decide) (by decide)) (@af _ _ _ _) (fun _ _=>rfl)) (@ah _) (by rfl)) (by rfl)) (by rfl)) (by rfl)) (by decide) (by rfl) (by rfl) (by rfl)))) (@aJ _)) (@ao _ _ _ (@aD _ _ _ _ (@J_ _ _ _)))),?_⟩
 cases d with
 | load x o wo we=>
   obtain ⟨h1,h2,h3⟩:=ha
   refine ⟨_,rfl,z,_,_,_,rfl,rfl,hz,a_ (j:=0) rfl,rfl,_,rfl,cX (fun c=>?_) (fun c=>absurd (decide_eq_true rfl) c)⟩
   exact ⟨_,rfl,A.a,A.dx,_,rfl,hh.h.oa,rfl,_,rfl,z,_,_,_,rfl,rfl,hz,a_ (j:=1) rfl,_,rfl,z,_,_,_,rfl,rfl,hz,a_ (j:=2) rfl,_,rfl,z,_,_,_,rfl,rfl,hz,a_ (j:=3) rfl,_,rfl,z,_,_,_,rfl,rfl,hz,a_ (j:=4) rfl,⟨⟨n,ρ,A,st,x,o,wo,we,rfl,hh,h1,h2,h3,dq⟩⟩⟩
 | _=>exact ha.elim
abbrev jY:Stmt:=top 33
abbrev AF:List Str:=["_law_hold","_law_deed","_law_told","e"]
abbrev qy:List Str:=["_law_hold","_law_deed"]
theorem d7:aI AF qy (au jY):=⟨rfl,rfl,rfl,by decide +kernel,rfl,by decide +kernel,by decide +kernel⟩
theorem ya {T:TC} {e:Ec} {al:HS→Dd→Prop} (F:At K mg "_law_tried" jY f fd) (iE:Dx P w K mg base 6 "_law_hold_do" ["_law_hold","_law_deed"] (z9 T e al K)) (to:∀st d i,al st d→jL st d = some i→Told K e (e.at i) i) (ay:mg "isinstance" = none) (lF:mg "ValueError" = none)
  (eE:mg "BadName" = some (.ref e.bad)) (gi:mg "Twice" = some (.ref e.twice)) (gR:mg "NoOwner" = some (.ref e.lU)) (i7:mg "NoPart" = some (.ref e.kM)) (oh:mg "NoVoyage" = some (.ref e.uN)) (fF:mg "BadNumber" = some (.ref e.jD))
  (qz:mg "TooMuch" = some (.ref e.zZ)) (qA:mg "BadRows" = some (.ref e.rows)) (tS:mg "NoDeed" = some (.ref e.z5)) (oj:mg "BadPaper" = some (.ref e.uO)) (iF:mg "JettisonError" = some (.ref e.Hu)):Dn P w K mg base 7 "_law_tried" qy (vS T al K):=by
 refine F.ok d7 (fun vs H Q E h=>?_) (fun cdv A outer s H vs Q E hr h=>?_) (fun _ _ _ _ _ _ us hl=>match us,hl with | [_,_],_=>rfl)
 · obtain ⟨n,ρ,A,st,z,d,rfl,_⟩:=h.ex
   rfl
 obtain ⟨n,ρ,A,st,z,d,rfl,hz,hh,ha,q2,q⟩:=h.ex
 refine ⟨_,(@aj _ _ _ _ _ (@aG _ _ (2) _ _ _ _ d7.nd rfl (Or.inl rfl) (@cI _ _ _ _ (@ah _)) (by rfl) (by first | exact .inl rfl | exact .inr rfl | assumption)) (@aj _ _ _ _ _ (@Ly _ (3) _ _ _ _ _ _ _ _ _ _ _ d7.nd rfl rfl (fun _ _ z=>z) rfl rfl (@LC _ _ _ _ _ _ _ _ _ _ _ _ _ _ _ _ iE hr (fun _ _ z=>z) (@aa _ _ _ _ _ (@pv _ 0 _ _ (by rfl) (by first | exact Or.inl rfl | exact Or.inr (Or.inl rfl) | exact Or.inr (Or.inr rfl)) (by decide) (by decide)) (@aa _ _ _ _ _ (@pv _ 1 _ _ (by rfl) (by first | exact Or.inl rfl | exact Or.inr (Or.inl rfl) | exact Or.inr (Or.inr rfl)) (by decide) (by decide)) (@ah _) (by rfl)) (by rfl)) (by decide) (by rfl) (by decide) (by rfl) (by rfl)) (by rfl) iF (fun _=>(@aj _ _ _ _ _ (@aG _ _ (2) _ _ _ _ d7.nd rfl (Or.inl rfl) (@cI _ _ _ _ (@aa _ _ _ _ _ (@aB _ _ _ _ _ _ _ _ _ (cy K rfl) (by rfl) ay PyProof.Rows.boot_isinstance (@aa _ _ _ _ _ (@pv _ 3 _ _ (by rfl) (by first | exact Or.inl rfl | exact Or.inr (Or.inl rfl) | exact Or.inr (Or.inr rfl)) (by decide) (by decide)) (@aa _ _ _ _ _ (@ef _ _ ("ValueError") _ (by rfl) rfl lF (by decide) (by decide)) (@ah _) (by rfl)) (by rfl)) (by decide) (by decide) (by rfl) (by rfl)) (@aa _ _ _ _ _ (@aB _ _ _ _ _ _ _ _ _ (cy K rfl) (by rfl) ay PyProof.Rows.boot_isinstance (@aa _ _ _ _ _ (@pv _ 3 _ _ (by rfl) (by first | exact Or.inl rfl | exact Or.inr (Or.inl rfl) | exact Or.inr (Or.inr rfl)) (by decide) (by decide)) (@aa _ _ _ _ _ (@eT _ _ (.ref _) _ _ (by rfl) eE rfl (by decide)) (@ah _) (by rfl)) (by rfl)) (by decide) (by decide) (by rfl) (by rfl)) (@aa _ _ _ _ _ (@aB _ _ _ _ _ _ _ _ _ (cy K rfl) (by rfl) ay PyProof.Rows.boot_isinstance (@aa _ _ _ _ _ (@pv _ 3 _ _ (by rfl) (by first | exact Or.inl rfl | exact Or.inr (Or.inl rfl) | exact Or.inr (Or.inr rfl)) (by decide) (by decide)) (@aa _ _ _ _ _ (@eT _ _ (.ref _) _ _ (by rfl) gi rfl (by decide)) (@ah _) (by rfl)) (by rfl)) (by decide) (by decide) (by rfl) (by rfl)) (@aa _ _ _ _ _ (@aB _ _ _ _ _ _ _ _ _ (cy K rfl) (by rfl) ay PyProof.Rows.boot_isinstance (@aa _ _ _ _ _ (@pv _ 3 _ _ (by rfl) (by first | exact Or.inl rfl | exact Or.inr (Or.inl rfl) | exact Or.inr (Or.inr rfl)) (by decide) (by decide)) (@aa _ _ _ _ _ (@eT _ _ (.ref _) _ _ (by rfl) gR rfl (by decide)) (@ah _) (by rfl)) (by rfl)) (by decide) (by decide) (by rfl) (by rfl)) (@ah _) (by rfl)) (by rfl)) (by rfl)) (by rfl))) (by rfl) (by first | exact .inl rfl | exact .inr rfl | assumption)) (@aj _ _ _ _ _ (@aG _ _ (2) _ _ _ _ d7.nd rfl (Or.inl rfl) (@az _ _ _ _ _ _ _ _ gY (@pv _ 2 _ _ (by rfl) (by first | exact Or.inl rfl | exact Or.inr (Or.inl rfl) | exact Or.inr (Or.inr rfl)) (by decide) (by decide)) (@cI _ _ _ _ (@aa _ _ _ _ _ (@aB _ _ _ _ _ _ _ _ _ (cy K rfl) (by rfl) ay PyProof.Rows.boot_isinstance (@aa _ _ _ _ _ (@pv _ 3 _ _ (by rfl) (by first | exact Or.inl rfl | exact Or.inr (Or.inl rfl) | exact Or.inr (Or.inr rfl)) (by decide) (by decide)) (@aa _ _ _ _ _ (@eT _ _ (.ref _) _ _ (by rfl) i7 rfl (by decide)) (@ah _) (by rfl)) (by rfl)) (by decide) (by decide) (by rfl) (by rfl)) (@aa _ _ _ _ _ (@aB _ _ _ _ _ _ _ _ _ (cy K rfl) (by rfl) ay PyProof.Rows.boot_isinstance (@aa _ _ _ _ _ (@pv _ 3 _ _ (by rfl) (by first | exact Or.inl rfl | exact Or.inr (Or.inl rfl) | exact Or.inr (Or.inr rfl)) (by decide) (by decide)) (@aa _ _ _ _ _ (@eT _ _ (.ref _) _ _ (by rfl) oh rfl (by decide)) (@ah _) (by rfl)) (by rfl)) (by decide) (by decide) (by rfl) (by rfl)) (@aa _ _ _ _ _ (@aB _ _ _ _ _ _ _ _ _ (cy K rfl) (by rfl) ay PyProof.Rows.boot_isinstance (@aa _ _ _ _ _ (@pv _ 3 _ _ (by rfl) (by first | exact Or.inl rfl | exact Or.inr (Or.inl rfl) | exact Or.inr (Or.inr rfl)) (by decide) (by decide)) (@aa _ _ _ _ _ (@eT _ _ (.ref _) _ _ (by rfl) fF rfl (by decide)) (@ah _) (by rfl)) (by rfl)) (by decide) (by decide) (by rfl) (by rfl)) (@ah _) (by rfl)) (by rfl)) (by rfl)))) (by rfl) (by first | exact .inl rfl | exact .inr rfl | assumption)) (@ao _ _ _ (@aG _ _ (2) _ _ _ _ d7.nd rfl (Or.inl rfl) (@az _ _ _ _ _ _ _ _ gY (@pv _ 2 _ _ (by rfl) (by first | exact Or.inl rfl | exact Or.inr (Or.inl rfl) | exact Or.inr (Or.inr rfl)) (by decide) (by decide)) (@cI _ _ _ _ (@aa _ _ _ _ _ (@aB _ _ _ _ _ _ _ _ _ (cy K rfl) (by rfl) ay PyProof.Rows.boot_isinstance (@aa _ _ _ _ _ (@pv _ 3 _ _ (by rfl) (by first | exact Or.inl rfl | exact Or.inr (Or.inl rfl) | exact Or.inr (Or.inr rfl)) (by decide) (by decide)) (@aa _ _ _ _ _ (@eT _ _ (.ref _) _ _ (by rfl) qz rfl (by decide)) (@ah _) (by rfl)) (by rfl)) (by decide) (by decide) (by rfl) (by rfl)) (@aa _ _ _ _ _ (@aB _ _ _ _ _ _ _ _ _ (cy K rfl) (by rfl) ay PyProof.Rows.boot_isinstance (@aa _ _ _ _ _ (@pv _ 3 _ _ (by rfl) (by first | exact Or.inl rfl | exact Or.inr (Or.inl rfl) | exact Or.inr (Or.inr rfl)) (by decide) (by decide)) (@aa _ _ _ _ _ (@eT _ _ (.ref _) _ _ (by rfl) qA rfl (by decide)) (@ah _) (by rfl)) (by rfl)) (by decide) (by decide) (by rfl) (by rfl)) (@aa _ _ _ _ _ (@aB _ _ _ _ _ _ _ _ _ (cy K rfl) (by rfl) ay PyProof.Rows.boot_isinstance (@aa _ _ _ _ _ (@pv _ 3 _ _ (by rfl) (by first | exact Or.inl rfl | exact Or.inr (Or.inl rfl) | exact Or.inr (Or.inr rfl)) (by decide) (by decide)) (@aa _ _ _ _ _ (@eT _ _ (.ref _) _ _ (by rfl) tS rfl (by decide)) (@ah _) (by rfl)) (by rfl)) (by decide) (by decide) (by rfl) (by rfl)) (@aa _ _ _ _ _ (@aB _ _ _ _ _ _ _ _ _ (cy K rfl) (by rfl) ay PyProof.Rows.boot_isinstance (@aa _ _ _ _ _ (@pv _ 3 _ _ (by rfl) (by first | exact Or.inl rfl | exact Or.inr (Or.inl rfl) | exact Or.inr (Or.inr rfl)) (by decide) (by decide)) (@aa _ _ _ _ _ (@eT _ _ (.ref _) _ _ (by rfl) oj rfl (by decide)) (@ah _) (by rfl)) (by rfl)) (by decide) (by decide) (by rfl) (by rfl)) (@ah _) (by rfl)) (by rfl)) (by rfl)) (by rfl)))) (by rfl) (by first | exact .inl rfl | exact .inr rfl | assumption)))))) (by decide)) (@ao _ _ _ (@aD _ _ _ _ (@pv _ 2 _ _ (by rfl) (by first | exact Or.inl rfl | exact Or.inr (Or.inl rfl) | exact Or.inr (Or.inr rfl)) (by decide) (by decide)))))),?_⟩
 refine ⟨Nat.zero_le _,fun l0 qp=>?_⟩
 have g0:aC H (upd H l0 (.lst [])):=av qp _
 have h0:upd H l0 (.lst []) l0 = some (.lst []):=ai
 generalize upd H l0 (.lst []) = H0 at g0 h0
 refine ⟨_,rfl,_,rfl,⟨⟨n,ρ,A,st,z,d,rfl,g0.tup hz,hh.mono g0,ha,⟨fun i hi x H1 g1=>⟨_,rfl,(to st d i ha hi).jt,fun y hy=>?_⟩,fun hn ρ' A' H' uR ea F'=>⟨rfl,?_⟩⟩⟩⟩⟩
 · have g2:=av hy (tG y (e.at i))
   refine Dz (i:=2) (j:=3) (to st d i ha hi) rfl (show 2 < 4 from by decide) (by decide) ai fun l H2 g3 hl2=>?_
   exact ⟨_,rfl,q2 i hi l _ (g0.trans (g1.trans (g2.trans g3))) hl2⟩
 · obtain ⟨a1,a2⟩:=F'.at h0 (hh.g.none qp)
   exact ⟨_,rfl,q hn l0 ρ' A' H' uR ea ((Fr.of_same g0).trans F') a1 a2 qp⟩
abbrev iG:Stmt:=top 36
abbrev wk:List Str:=["_law_model_here","_law_name_here"]
abbrev nF:List Str:=["_law_model_here","_law_name_here"]
theorem vg:aI wk nF (au iG):=⟨rfl,rfl,rfl,by decide +kernel,rfl,by decide +kernel,by decide +kernel⟩
theorem vh (F:At K mg "_law_due_new" iG f fd) (jf:Dn P w K mg base 1 "_law_is_name" ["_law_word"] mG):Dn P w K mg base 2 "_law_due_new" nF Ac:=by
 refine F.ok vg (fun vs H Q E h=>?_) (fun cdv A outer s H vs Q E hr h=>?_) (fun _ _ _ _ _ _ us hl=>match us,hl with | [_,_],_=>rfl)
 · obtain ⟨n,ρ,B,b,x,rfl,_⟩:=h.ex
   rfl
 obtain ⟨n,ρ,B,b,x,rfl,hb,hx,q⟩:=h.ex
 refine ⟨_,(@aj _ _ _ _ _ (@bh _ _ _ _ _ _ _ _ (@bN _ _ _ _ (@bI _ _ _ (@aR _ _ _ _ _ _ _ _ _ _ _ jf hr (@aa _ _ _ _ _ (@pv _ 1 _ _ (by rfl) (by first | exact Or.inl rfl | exact Or.inr (Or.inl rfl) | exact Or.inr (Or.inr rfl)) (by decide) (by decide)) (@ah _) (by rfl)) (by decide) (by rfl) (by decide) (by rfl) (by rfl)) (by intro _;rfl))) (@ao _ _ _ (@aD _ _ _ _ (@af _ _ _ _))) (@aJ _)) (@aj _ _ _ _ _ (@bh _ _ _ _ _ _ _ _ (@aM _ _ _ _ _ _ _ _ wO (@pv _ 1 _ _ (by rfl) (by first | exact Or.inl rfl | exact Or.inr (Or.inl rfl) | exact Or.inr (Or.inr rfl)) (by decide) (by decide)) (@bM _ _ _ _ _ _ (bQ hr) (@pv _ 0 _ _ (by rfl) (by first | exact Or.inl rfl | exact Or.inr (Or.inl rfl) | exact Or.inr (Or.inr rfl)) (by decide) (by decide)) (@aX _ _ _ _) (fun _ _=>rfl)) (by with_unfolding_all rfl)) (@ao _ _ _ (@aD _ _ _ _ (@af _ _ _ _))) (@aJ _)) (@ao _ _ _ (@aD _ _ _ _ (@ua _ _ _ _ _ _ pe (@af _ _ _ _)))))),?_⟩
 refine ⟨_,rfl,xM (cs:=x.cps.toList) (by have:x.cps.toList.length≤1000:=hx;omega) ⟨_,rfl,?_⟩⟩
 unfold yt isNm at q
 cases hn:isName x.cps.toList with
 | false=>
   rw [hn,if_neg Bool.false_ne_true] at q
   exact dW q
 | true=>
   rw [hn,if_pos rfl] at q
   refine bq ?_
   refine ⟨_,rfl,_,rfl,B.m,_,rfl,b_.k (k:=Sum.inr "known") hb.om,B.lk,_,rfl, .inl (aE.of hb.ok),rfl,xu _,_,rfl,?_⟩
   rw [zQ]
   by_cases hm:x∈b.cL
   · rw [if_pos hm] at q
     rw [decide_eq_true hm]
     exact dW q
   · rw [if_neg hm] at q
     rw [decide_eq_false hm]
     exact bq ⟨1,rfl,q⟩
abbrev gP:Stmt:=top 37
abbrev vj:List Str:=["_law_model_here","_law_deed","_law_found"]
abbrev mh:List Str:=["_law_model_here","_law_deed"]
theorem lG:aI vj mh (au gP):=⟨rfl,rfl,rfl,by decide +kernel,rfl,by decide +kernel,by decide +kernel⟩
theorem tT (F:At K mg "_law_due_load" gP f fd) (jg:Dn P w K mg base 2 "_law_due_new" ["_law_model_here","_law_name_here"] Ac):Dn P w K mg base 3 "_law_due_load" mh (yu nU K):=by
 refine F.ok lG (fun vs H Q E h=>?_) (fun cdv A outer s H vs Q E hr h=>?_) (fun _ _ _ _ _ _ us hl=>match us,hl with | [_,_],_=>rfl)
 · obtain ⟨n,ρ,B,b,st,z,d,rfl,_⟩:=h.ex
   rfl
 obtain ⟨n,ρ,B,b,st,z,d,rfl,hz,hb,rl,wf,wb,kn,ha,db,q⟩:=h.ex
 refine ⟨_,(@aj _ _ _ _ _ (@aG _ _ (2) _ _ _ _ lG.nd rfl (Or.inl rfl) (@aR _ _ _ _ _ _ _ _ _ _ _ jg hr (@aa _ _ _ _ _ (@pv _ 0 _ _ (by rfl) (by first | exact Or.inl rfl | exact Or.inr (Or.inl rfl) | exact Or.inr (Or.inr rfl)) (by decide) (by decide)) (@aa _ _ _ _ _ (@aF _ _ _ _ _ _ _ (aO K) (@pv _ 1 _ _ (by rfl) (by first | exact Or.inl rfl | exact Or.inr (Or.inl rfl) | exact Or.inr (Or.inr rfl)) (by decide) (by decide)) (@af _ _ _ _) (fun _ _=>rfl)) (@ah _) (by rfl)) (by rfl)) (by decide) (by rfl) (by decide) (by rfl) (by rfl)) (by rfl) (by first | exact .inl rfl | exact .inr rfl | assumption)) (@aj _ _ _ _ _ (@bh _ _ _ _ _ _ _ _ (@aM _ _ _ _ _ _ _ _ CQ (@pv _ 2 _ _ (by rfl) (by first | exact Or.inl rfl | exact Or.inr (Or.inl rfl) | exact Or.inr (Or.inr rfl)) (by decide) (by decide)) (@af _ _ _ _) (aY _)) (@ao _ _ _ (@aD _ _ _ _ (@pv _ 2 _ _ (by rfl) (by first | exact Or.inl rfl | exact Or.inr (Or.inl rfl) | exact Or.inr (Or.inr rfl)) (by decide) (by decide)))) (@aJ _)) (@aj _ _ _ _ _ (@bh _ _ _ _ _ _ _ _ (@aM _ _ _ _ _ _ _ _ yJ (@aF _ _ _ _ _ _ _ (aO K) (@pv _ 1 _ _ (by rfl) (by first | exact Or.inl rfl | exact Or.inr (Or.inl rfl) | exact Or.inr (Or.inr rfl)) (by decide) (by decide)) (@af _ _ _ _) (fun _ _=>rfl)) (@bM _ _ _ _ _ _ (bQ hr) (@pv _ 0 _ _ (by rfl) (by first | exact Or.inl rfl | exact Or.inr (Or.inl rfl) | exact Or.inr (Or.inr rfl)) (by decide) (by decide)) (@aX _ _ _ _) (fun _ _=>rfl)) (by with_unfolding_all rfl)) (@ao _ _ _ (@aD _ _ _ _ (@af _ _ _ _))) (@aJ _)) (@aj _ _ _ _ _ (@bh _ _ _ _ _ _ _ _ (@cQ _ _ _ (PW.pt (@dR _ _ _ _ _ _ _ (@aM _ _ _ _ _ _ _ _ uc (@aF _ _ _ _ _ _ _ (aO K) (@pv _ 1 _ _ (by rfl) (by first | exact Or.inl rfl | exact Or.inr (Or.inl rfl) | exact Or.inr (Or.inr rfl)) (by decide) (by decide)) (@af _ _ _ _) (fun _ _=>rfl)) (@af _ _ _ _) (aY _)) (@dG _ _ _ _ (@aM _ _ _ _ _ _ _ _ uc (@aF _ _ _ _ _ _ _ (aO K) (@pv _ 1 _ _ (by rfl) (by first | exact Or.inl rfl | exact Or.inr (Or.inl rfl) | exact Or.inr (Or.inr rfl)) (by decide) (by decide)) (@af _ _ _ _) (fun _ _=>rfl)) (@af _ _ _ _) (aY _)))))) (@ao _ _ _ (@aD _ _ _ _ (@af _ _ _ _))) (@aJ _)) (@ao _ _ _ (@aD _ _ _ _ (@ua _ _ _ _ _ _ pe (@af _ _ _ _)))))))),?_⟩
 have q:=q H (aC.refl _)
 cases d with
 | load x o wo we=>
   have e1:gj (Dd.v (.load x o wo we)) 1 = some (.str x):=a_ (j:=1) rfl
   have e2:gj (Dd.v (.load x o wo we)) 2 = some (.str o):=a_ (j:=2) rfl
   have e3:gj (Dd.v (.load x o wo we)) 3 = some (.int wo):=a_ (j:=3) rfl
   have e4:gj (Dd.v (.load x o wo we)) 4 = some (.int we):=a_ (j:=4) rfl
   refine ⟨_,rfl,_,rfl,z,_,_,_,rfl,rfl,hz,e1,⟨⟨n,ρ,B,b,x,rfl,hb,by have:=db.1;omega,?_⟩⟩⟩
   rw [Hy kn]
   have q:Q (.int (DG (fP st x o wo we))) H:=q
   unfold fP at q
   refine ⟨_,rfl,_,_,rfl,rfl,_,rfl,?_⟩
   cases hn:newR st x with
   | some i=>
     rw [hn] at q
     exact cX (fun _=>⟨_,rfl,q⟩) (fun c=>absurd (decide_eq_true (by show (0:Int)≤(i:Int);omega)) c)
   | none=>
     rw [hn] at q
     refine cX (fun c=>absurd (of_decide_eq_true c) (by show ¬ (0:Int)≤-1;decide)) (fun _=>?_)
     have q:Q (.int (DG (if o∈st.own then (if wo < 1∨we < 0 then some 5 else none) else some 2))) H:=q
     refine ⟨_,rfl,z,_,_,_,rfl,rfl,hz,e2,_,rfl,B.m,_,rfl,b_.k (k:=Sum.inr "owners") hb.om,B.lo,_,rfl, .inl (aE.of hb.oo),rfl,xu _,_,rfl,?_⟩
     rw [zQ,← rl.own]
     by_cases ho:o∈st.own
     · rw [if_pos ho] at q
       rw [decide_eq_true ho]
       refine bq ?_
       by_cases hw:wo < 1∨we < 0
       · rw [if_pos hw] at q
         refine ⟨true,⟨_,rfl,z,_,_,_,rfl,rfl,hz,e3,_,_,rfl,rfl,_,rfl,cX (fun c=>⟨rfl,rfl⟩) fun c=>⟨_,rfl,z,_,_,_,rfl,rfl,hz,e4,_,_,rfl,rfl,_,rfl,decide_eq_true (hw.resolve_left fun y=>c (decide_eq_true y)),rfl⟩⟩,dW q⟩
       · rw [if_neg hw] at q
         refine ⟨false,⟨_,rfl,z,_,_,_,rfl,rfl,hz,e3,_,_,rfl,rfl,_,rfl,cX (fun c=>absurd (of_decide_eq_true c) (by omega)) fun c=>⟨_,rfl,z,_,_,_,rfl,rfl,hz,e4,_,_,rfl,rfl,_,rfl,decide_eq_false (by omega),rfl⟩⟩,bq ⟨1,rfl,q⟩⟩
     · rw [if_neg ho] at q
       rw [decide_eq_false ho]
       exact dW q
 | _=>exact ha.elim
abbrev mP:Stmt:=top 38
abbrev DU:List Str:=["_law_model_here","_law_deed"]
abbrev vm:List Str:=["_law_model_here","_law_deed"]
theorem Bp:aI DU vm (au mP):=⟨rfl,rfl,rfl,by decide +kernel,rfl,by decide +kernel,by decide +kernel⟩
theorem Bq (F:At K mg "_law_due" mP f fd) (iH:Dn P w K mg base 3 "_law_due_load" ["_law_model_here","_law_deed"] (yu nU K)):Dn P w K mg base 4 "_law_due" vm (yu nU K):=by
 refine F.ok Bp (fun vs H Q E h=>?_) (fun cdv A outer s H vs Q E hr h=>?_) (fun _ _ _ _ _ _ us hl=>match us,hl with | [_,_],_=>rfl)
 · obtain ⟨n,ρ,B,b,st,z,d,rfl,_⟩:=h.ex
   rfl
 obtain ⟨n,ρ,B,b,st,z,d,rfl,hz,hb,rl,wf,wb,kn,ha,db,q⟩:=h.ex
 refine ⟨_,(@aj _ _ _ _ _ (@bh _ _ _ _ _ _ _ _ (@aM _ _ _ _ _ _ _ _ gW (@aF _ _ _ _ _ _ _ (aO K) (@pv _ 1 _ _ (by rfl) (by first | exact Or.inl rfl | exact Or.inr (Or.inl rfl) | exact Or.inr (Or.inr rfl)) (by decide) (by decide)) (@af _ _ _ _) (fun _ _=>rfl)) (@aX _ _ _ _) (aY _)) (@ao _ _ _ (@aD _ _ _ _ (@aR _ _ _ _ _ _ _ _ _ _ _ iH hr (@aa _ _ _ _ _ (@pv _ 0 _ _ (by rfl) (by first | exact Or.inl rfl | exact Or.inr (Or.inl rfl) | exact Or.inr (Or.inr rfl)) (by decide) (by decide)) (@aa _ _ _ _ _ (@pv _ 1 _ _ (by rfl) (by first | exact Or.inl rfl | exact Or.inr (Or.inl rfl) | exact Or.inr (Or.inr rfl)) (by decide) (by decide)) (@ah _) (by rfl)) (by rfl)) (by decide) (by rfl) (by decide) (by rfl) (by rfl)))) (@aJ _)) (@ao _ _ _ (@aD _ _ _ _ (@ua _ _ _ _ _ _ pe (@af _ _ _ _))))),?_⟩
 cases d with
 | load x o wo we=>
   refine ⟨_,rfl,z,_,_,_,rfl,rfl,hz,a_ (j:=0) rfl,rfl,_,rfl,cX (fun c=>?_) (fun c=>absurd (decide_eq_true rfl) c)⟩
   exact ⟨_,rfl,_,rfl,⟨⟨n,ρ,B,b,st,z,_,rfl,hz,hb,rl,wf,wb,kn,ha,db,q⟩⟩⟩
 | _=>exact ha.elim
abbrev f9:Stmt:=top 39
abbrev rD:List Str:=["_law_script","_law_k","_law_model_here","_law_word","_law_some"]
abbrev j9:List Str:=["_law_script","_law_k","_law_model_here","_law_word"]
theorem eG:aI rD j9 (au f9):=⟨rfl,rfl,rfl,by decide +kernel,rfl,by decide +kernel,by decide +kernel⟩
theorem qB (F:At K mg "_law_other_word" f9 f fd) (aK:Dn P w K mg base 1 "_law_draw" ["_law_script","_law_k","_law_j","_law_many"] (ju K)) (aV:mg "len" = none):Dn P w K mg base 2 "_law_other_word" j9 (rX K):=by
 refine F.ok eG (fun vs H Q E h=>?_) (fun cdv A outer s H vs Q E hr h=>?_) (fun _ _ _ _ _ _ us hl=>match us,hl with | [_,_,_,_],_=>rfl)
 · obtain ⟨a,ms,k,n,ρ,B,b,x,rfl,_⟩:=h.ex
   rfl
 obtain ⟨a,ms,k,n,ρ,B,b,x,rfl,hS,h63,hk,hb,bk,hx,q⟩:=h.ex
 refine ⟨_,(@aj _ _ _ _ _ (@aG _ _ (4) _ _ _ _ eG.nd rfl (Or.inl rfl) (@az _ _ _ _ _ _ _ _ gY (@az _ _ _ _ _ _ _ _ gY (@az _ _ _ _ _ _ _ _ gY (@bM _ _ _ _ _ _ (bQ hr) (@pv _ 2 _ _ (by rfl) (by first | exact Or.inl rfl | exact Or.inr (Or.inl rfl) | exact Or.inr (Or.inr rfl)) (by decide) (by decide)) (@aX _ _ _ _) (fun _ _=>rfl)) (@fE _ _ _ _ _ _ ["_law_part"] [none] _ _ _ rfl (@e_ _ K _ _ _ (@bM _ _ _ _ _ _ (bQ hr) (@pv _ 2 _ _ (by rfl) (by first | exact Or.inl rfl | exact Or.inr (Or.inl rfl) | exact Or.inr (Or.inr rfl)) (by decide) (by decide)) (@aX _ _ _ _) (fun _ _=>rfl)) (by rfl)) (fun _ _ _ _=>(@aZ _ _ (0) _ (show List.Nodup (["_law_part"] :List Str) from by decide +kernel) rfl (Or.inl rfl) (by first | exact .inl rfl | exact .inr rfl | assumption))) (fun _ _ _ _=>(@aF _ _ _ _ _ _ _ (aT K) (@pv _ 0 _ _ (by rfl) (by first | exact Or.inl rfl | exact Or.inr (Or.inl rfl) | exact Or.inr (Or.inr rfl)) (by decide) (by decide)) (@af _ _ _ _) (fun _ _=>rfl))) rfl (by rfl) (by intro _;rfl))) (@bM _ _ _ _ _ _ (bQ hr) (@pv _ 2 _ _ (by rfl) (by first | exact Or.inl rfl | exact Or.inr (Or.inl rfl) | exact Or.inr (Or.inr rfl)) (by decide) (by decide)) (@aX _ _ _ _) (fun _ _=>rfl))) (@cI _ _ _ _ (@aa _ _ _ _ _ (@aX _ _ _ _) (@ah _) (by rfl)))) (by rfl) (by first | exact .inl rfl | exact .inr rfl | assumption)) (@aj _ _ _ _ _ (@aG _ _ (4) _ _ _ _ eG.nd rfl (Or.inl rfl) (@az _ _ _ _ _ _ _ _ gY (@pv _ 4 _ _ (by rfl) (by first | exact Or.inl rfl | exact Or.inr (Or.inl rfl) | exact Or.inr (Or.inr rfl)) (by decide) (by decide)) (@cI _ _ _ _ (@aa _ _ _ _ _ (@az _ _ _ _ _ _ _ _ iZ (@pv _ 3 _ _ (by rfl) (by first | exact Or.inl rfl | exact Or.inr (Or.inl rfl) | exact Or.inr (Or.inr rfl)) (by decide) (by decide)) (@aX _ _ _ _)) (@aa _ _ _ _ _ (@gH _ _ _ _ _ _ _ _ _ _ ng (@pv _ 3 _ _ (by rfl) (by first | exact Or.inl rfl | exact Or.inr (Or.inl rfl) | exact Or.inr (Or.inr rfl)) (by decide) (by decide)) (@iS _) (@iT _ _ _ (@af _ _ _ _))) (@aa _ _ _ _ _ (@gH _ _ _ _ _ _ _ _ _ _ ng (@pv _ 3 _ _ (by rfl) (by first | exact Or.inl rfl | exact Or.inr (Or.inl rfl) | exact Or.inr (Or.inr rfl)) (by decide) (by decide)) (@iT _ _ _ (@af _ _ _ _)) (@iS _)) (@aa _ _ _ _ _ (@az _ _ _ _ _ _ _ _ iZ (@pv _ 3 _ _ (by rfl) (by first | exact Or.inl rfl | exact Or.inr (Or.inl rfl) | exact Or.inr (Or.inr rfl)) (by decide) (by decide)) (@aX _ _ _ _)) (@aa _ _ _ _ _ (@az _ _ _ _ _ _ _ _ iZ (@aX _ _ _ _) (@gH _ _ _ _ _ _ _ _ _ _ ng (@pv _ 3 _ _ (by rfl) (by first | exact Or.inl rfl | exact Or.inr (Or.inl rfl) | exact Or.inr (Or.inr rfl)) (by decide) (by decide)) (@iT _ _ _ (@af _ _ _ _)) (@iS _))) (@aa _ _ _ _ _ (@az _ _ _ _ _ _ _ _ iZ (@az _ _ _ _ _ _ _ _ iZ (@pv _ 3 _ _ (by rfl) (by first | exact Or.inl rfl | exact Or.inr (Or.inl rfl) | exact Or.inr (Or.inr rfl)) (by decide) (by decide)) (@pv _ 3 _ _ (by rfl) (by first | exact Or.inl rfl | exact Or.inr (Or.inl rfl) | exact Or.inr (Or.inr rfl)) (by decide) (by decide))) (@aX _ _ _ _)) (@ah _) (by rfl)) (by rfl)) (by rfl)) (by rfl)) (by rfl)) (by rfl)))) (by rfl) (by first | exact .inl rfl | exact .inr rfl | assumption)) (@aj _ _ _ _ _ (@aG _ _ (4) _ _ _ _ eG.nd rfl (Or.inl rfl) (@az _ _ _ _ _ _ _ _ gY (@pv _ 4 _ _ (by rfl) (by first | exact Or.inl rfl | exact Or.inr (Or.inl rfl) | exact Or.inr (Or.inr rfl)) (by decide) (by decide)) (@cI _ _ _ _ (@aa _ _ _ _ _ (@az _ _ _ _ _ _ _ _ iZ (@aX _ _ _ _) (@pv _ 3 _ _ (by rfl) (by first | exact Or.inl rfl | exact Or.inr (Or.inl rfl) | exact Or.inr (Or.inr rfl)) (by decide) (by decide))) (@aa _ _ _ _ _ (@aX _ _ _ _) (@aa _ _ _ _ _ (@az _ _ _ _ _ _ _ _ iZ (@gH _ _ _ _ _ _ _ _ _ _ ng (@pv _ 3 _ _ (by rfl) (by first | exact Or.inl rfl | exact Or.inr (Or.inl rfl) | exact Or.inr (Or.inr rfl)) (by decide) (by decide)) (@iS _) (@iT _ _ _ (@af _ _ _ _))) (@aX _ _ _ _)) (@ah _) (by rfl)) (by rfl)) (by rfl)))) (by rfl) (by first | exact .inl rfl | exact .inr rfl | assumption)) (@ao _ _ _ (@aD _ _ _ _ (@gH _ _ _ _ _ _ _ _ _ _ ng (@aF _ _ _ _ _ _ _ (aT K) (@pv _ 4 _ _ (by rfl) (by first | exact Or.inl rfl | exact Or.inr (Or.inl rfl) | exact Or.inr (Or.inr rfl)) (by decide) (by decide)) (@aR _ _ _ _ _ _ _ _ _ _ _ aK hr (@aa _ _ _ _ _ (@pv _ 0 _ _ (by rfl) (by first | exact Or.inl rfl | exact Or.inr (Or.inl rfl) | exact Or.inr (Or.inr rfl)) (by decide) (by decide)) (@aa _ _ _ _ _ (@pv _ 1 _ _ (by rfl) (by first | exact Or.inl rfl | exact Or.inr (Or.inl rfl) | exact Or.inr (Or.inr rfl)) (by decide) (by decide)) (@aa _ _ _ _ _ (@af _ _ _ _) (@aa _ _ _ _ _ (@aB _ _ _ _ _ _ _ _ _ (bB K) (by rfl) aV PySem.boot_len (@aa _ _ _ _ _ (@pv _ 4 _ _ (by rfl) (by first | exact Or.inl rfl | exact Or.inr (Or.inl rfl) | exact Or.inr (Or.inr rfl)) (by decide) (by decide)) (@ah _) (by rfl)) (by decide) (by decide) (by rfl) (by rfl)) (@ah _) (by rfl)) (by rfl)) (by rfl)) (by rfl)) (by decide) (by rfl) (by decide) (by rfl) (by rfl)) (fun _ _=>rfl)) (@iS _) (@iT _ _ _ (@af _ _ _ _)))))))),?_⟩
 have u9:(B.qs.map fun q=>V.ref q.1).length = b.aq.length:=by rw [List.length_map];exact hb.ql
 have pl:=bk.pl
 have kl:=bk.kl
 have ol:=bk.ol
 refine ⟨_,rfl,B.m,_,rfl,b_.k (k:=Sum.inr "known") hb.om,?_⟩
 refine ⟨_,rfl,B.m,_,rfl,b_.k (k:=Sum.inr "parts") hb.om,B.lp,rfl,⟨_,aE.of hb.op⟩,fun ac hac=>?_⟩
 refine m9 (J:=t8 K B.lp) (n:=b.aq.length) 0 (fun i o H'=>aC H H'∧o = ((b.aq.take i).map (fun p:BP=>p.nm)).map V.str) (by omega) ⟨av hac _,rfl⟩ (fun i o H' hi _ hp=>⟨_,_,aE.of (hp.1 _ _ hb.op),List.getElem?_eq_getElem (by rw [u9];exact hi)⟩) (fun o H' _ hp=>⟨_,aE.of (hp.1 _ _ hb.op),by rw [u9];exact Nat.le_refl _⟩) ?_ ?_
 · rintro j y o H2 H3 hj dH ha ⟨g,e⟩ ⟨rfl,hy⟩
   have ej:=List.getElem?_eq_getElem hj
   obtain ⟨qq,eq,k1,k2,_,_⟩:=hb.find ej
   have ey:=hy _ (aE.of (g _ _ hb.op))
   rw [List.getElem?_map,eq] at ey
   cases ey
   refine ⟨_,rfl,qq.1,_,_,_,rfl,rfl,aE.of (g _ _ k1),a_ (j:=0) rfl,ha,g.dg hac _,?_⟩
   subst e
   rw [take_snoc ej,List.map_append,List.map_append]
   rfl
 rintro o H2 _ ha ⟨g2,e⟩
 rw [List.take_length] at e
 subst e
 have sz:∀n:Nat,n≤5000→n≤sizeLine:=fun n h=>by rw [sizeLine_eq];omega
 refine ⟨B.lk,ac,_,_,rfl,rfl,g2 _ _ hb.ok,ha,sz _ (by rw [List.length_map,List.length_map,List.length_map];omega),fun p1 hp1=>?_⟩
 have g3:=av hp1 (.lst (b.cL.map V.str ++ (b.aq.map (fun p:BP=>p.nm)).map V.str))
 have IK:upd H2 p1 (.lst (b.cL.map V.str ++ (b.aq.map (fun p:BP=>p.nm)).map V.str)) p1 = some (.lst (b.cL.map V.str ++ (b.aq.map (fun p:BP=>p.nm)).map V.str)):=ai
 generalize upd H2 p1 (.lst (b.cL.map V.str ++ (b.aq.map (fun p:BP=>p.nm)).map V.str)) = H3 at g3 IK
 have AG:=g2.trans g3
 refine ⟨_,rfl,B.m,_,rfl,b_.k (k:=Sum.inr "owners") (AG _ _ hb.om),?_⟩
 refine ⟨p1,B.lo,_,_,rfl,rfl,IK,AG _ _ hb.oo,sz _ (by rw [List.length_append,List.length_map,List.length_map,List.length_map,List.length_map];omega),fun p2 hp2=>?_⟩
 have W2:eW 100 (b.cL.map V.str ++ (b.aq.map (fun p:BP=>p.nm)).map V.str ++ b.own.map V.str):=((eW.map fun x hx=>Nat.le_trans (bk.cL x hx) (by decide)).append (eW.map fun x hx=>by
   obtain ⟨p,hp,rfl⟩:=List.mem_map.mp hx
   exact Nat.le_trans (bk.aq p hp) (by decide))).append (eW.map fun x hx=>Nat.le_trans (bk.own x hx) (by decide))
 have l2:(b.cL.map V.str ++ (b.aq.map (fun p:BP=>p.nm)).map V.str ++ b.own.map V.str).length≤2100:=by
  rw [List.length_append,List.length_append,List.length_map,List.length_map,List.length_map,List.length_map];omega
 generalize b.cL.map V.str ++ (b.aq.map (fun p:BP=>p.nm)).map V.str ++ b.own.map V.str = mj at *
 have g4:=av hp2 (.lst mj)
 have FJ:upd H3 p2 (.lst mj) p2 = some (.lst mj):=ai
 generalize upd H3 p2 (.lst mj) = H4 at g4 FJ
 refine ⟨(by show 1≤sizeLine;decide),fun p3 hp3=>?_⟩
 have g5:=av hp3 (.lst [.str ""])
 refine ⟨p2,p3,_,_,rfl,rfl,g5 _ _ FJ,ai,sz _ (by show mj.length + 1≤_;omega),fun p4 z7=>?_⟩
 have g6:=av z7 (.lst (mj ++ [.str ""]))
 have OZ:upd (upd H4 p3 (.lst [.str ""])) p4 (.lst (mj ++ [.str ""])) p4 = some (.lst (mj ++ [.str ""])):=ai
 have W3:eW 100 (mj ++ [.str ""]):=W2.append (eW.cons (by decide +kernel) eW.nil)
 have l3:(mj ++ [V.str ""]).length≤2101:=by rw [List.length_append];show mj.length + 1≤_;omega
 have O0:=AG.trans (g4.trans (g5.trans g6))
 show dI 4 (.ref p4) _ (upd (upd H4 p3 (.lst [.str ""])) p4 (.lst (mj ++ [.str ""]))) _
 generalize upd (upd H4 p3 (.lst [.str ""])) p4 (.lst (mj ++ [.str ""])) = H6 at O0 OZ
 generalize mj ++ [V.str ""] = L3 at *
 clear g6 z7 hp3 g5 FJ g4 hp2 W2 l2
 have l1:wl "a"≤10:=by decide +kernel
 have SA:wl "-"≤10:=by decide +kernel
 have SD:wl "A"≤10:=by decide +kernel
 have l4:wl "abcdefgh"≤10:=by decide +kernel
 have l5:wl " "≤10:=by decide +kernel
 have l6:wl "zzzzzzz"≤10:=by decide +kernel
 have l7:wl "\n"≤10:=by decide +kernel
 refine ⟨_,rfl,_,rfl,_,_,rfl,rfl,by omega,fun r1 h1=>?_⟩
 refine ⟨_,rfl,_,rfl,_,rfl,by omega,fun r2 h2 _=>?_⟩
 refine ⟨_,rfl,_,rfl,_,rfl,by omega,fun r3 h3 _=>?_⟩
 refine ⟨_,rfl,_,_,rfl,rfl,by omega,fun r4 h4=>?_⟩
 refine ⟨_,rfl,_,rfl,_,rfl,by omega,fun r5 h5 _=>⟨_,_,rfl,rfl,by omega,fun r6 h6=>?_⟩⟩
 refine ⟨_,rfl,_,rfl,_,_,rfl,rfl,by omega,fun r7 h7=>⟨_,_,rfl,rfl,by omega,fun r8 h8=>?_⟩⟩
 refine ⟨(by show 6≤sizeLine;decide),fun p5 LB=>?_⟩
 have g7:=av LB (.lst [.str r1, .str r2, .str r3, .str r4, .str r6, .str r8])
 refine ⟨p4,p5,_,_,rfl,rfl,g7 _ _ OZ,ai,sz _ (by show L3.length + 6≤_;omega),fun p6 IA=>?_⟩
 have g8:=av IA (.lst (L3 ++ [.str r1, .str r2, .str r3, .str r4, .str r6, .str r8]))
 have O1:upd (upd H6 p5 (.lst [.str r1, .str r2, .str r3, .str r4, .str r6, .str r8])) p6 (.lst (L3 ++ [.str r1, .str r2, .str r3, .str r4, .str r6, .str r8])) p6 = some (.lst (L3 ++ [.str r1, .str r2, .str r3, .str r4, .str r6, .str r8])):=ai
 have W4:eW 100 (L3 ++ [.str r1, .str r2, .str r3, .str r4, .str r6, .str r8]):=W3.append (.cons (by omega) (.cons (by omega) (.cons (by omega) (.cons (by omega) (.cons (by omega) (.cons (by omega) .nil))))))
 have l8:(L3 ++ [V.str r1, .str r2, .str r3, .str r4, .str r6, .str r8]).length≤2107:=by rw [List.length_append];show L3.length + 6≤_;omega
 have O2:=O0.trans (g7.trans g8)
 show dI 4 (.ref p6) _ (upd (upd H6 p5 (.lst [.str r1, .str r2, .str r3, .str r4, .str r6, .str r8])) p6 (.lst (L3 ++ [.str r1, .str r2, .str r3, .str r4, .str r6, .str r8]))) _
 generalize upd (upd H6 p5 (.lst [.str r1, .str r2, .str r3, .str r4, .str r6, .str r8])) p6 (.lst (L3 ++ [.str r1, .str r2, .str r3, .str r4, .str r6, .str r8])) = H8 at O2 O1
 generalize L3 ++ [V.str r1, .str r2, .str r3, .str r4, .str r6, .str r8] = L4 at *
 refine ⟨_,rfl,_,rfl,_,_,rfl,rfl,by omega,fun t1 k1=>?_⟩
 refine ⟨_,rfl,_,rfl,_,rfl,by omega,fun t2 k2 _=>⟨_,_,rfl,rfl,by omega,fun t3 k3=>?_⟩⟩
 refine ⟨(by show 3≤sizeLine;decide),fun p7 RU=>?_⟩
 have g9:=av RU (.lst [.str t1, .str "zzzzzzz", .str t3])
 refine ⟨p6,p7,_,_,rfl,rfl,g9 _ _ O1,ai,sz _ (by show L4.length + 3≤_;omega),fun p8 FF=>?_⟩
 have RV:=av FF (.lst (L4 ++ [.str t1, .str "zzzzzzz", .str t3]))
 have hA:upd (upd H8 p7 (.lst [.str t1, .str "zzzzzzz", .str t3])) p8 (.lst (L4 ++ [.str t1, .str "zzzzzzz", .str t3])) p8 = some (.lst (L4 ++ [.str t1, .str "zzzzzzz", .str t3])):=ai
 have W5:eW 100 (L4 ++ [.str t1, .str "zzzzzzz", .str t3]):=W4.append (.cons (by omega) (.cons (by omega) (.cons (by omega) .nil)))
 have l9:(L4 ++ [V.str t1, .str "zzzzzzz", .str t3]).length≤2110∧0 < (L4 ++ [V.str t1, .str "zzzzzzz", .str t3]).length:=by rw [List.length_append];show L4.length + 3≤_∧0 < L4.length + 3;omega
 have Mj:=O2.trans (g9.trans RV)
 show dI 4 (.ref p8) _ (upd (upd H8 p7 (.lst [.str t1, .str "zzzzzzz", .str t3])) p8 (.lst (L4 ++ [.str t1, .str "zzzzzzz", .str t3]))) _
 generalize upd (upd H8 p7 (.lst [.str t1, .str "zzzzzzz", .str t3])) p8 (.lst (L4 ++ [.str t1, .str "zzzzzzz", .str t3])) = HA at Mj hA
 generalize L4 ++ [V.str t1, .str "zzzzzzz", .str t3] = L5 at *
 refine ⟨_,rfl,_,rfl,_,rfl,_,rfl,p8,_,rfl, .inl (aE.of hA),bX (Mj.seq hS) h63 hk (by decide) (by decide) (by omega) fun d _ d0 d1=>?_⟩
 obtain ⟨v,hv,hat⟩:=z_ (xs:=L5) (i:=d) (by omega) d1
 obtain ⟨sv,rfl,hsv⟩:=W5 v hv
 exact ⟨p8,_,_,_,rfl,rfl,aE.of hA,hat,_,rfl,sv,rfl,by omega,fun r hr1 hr2=>q r _ Mj (hr2 20 rfl rfl)⟩
abbrev fm:Stmt:=top 40
abbrev oW:List Str:=["_law_script","_law_k","_law_model_here","_law_code","_law_whole","_law_some","_law_part"]
abbrev iP:List Str:=["_law_script","_law_k","_law_model_here","_law_code"]
theorem c5:aI oW iP (au fm):=⟨rfl,rfl,rfl,by decide +kernel,rfl,by decide +kernel,by decide +kernel⟩
theorem oq (F:At K mg "_law_other_number" fm f fd) (aK:Dn P w K mg base 1 "_law_draw" ["_law_script","_law_k","_law_j","_law_many"] (ju K)) (aV:mg "len" = none) (kh:mg "sum" = none) (DV:mg "min" = none):Dn P w K mg base 2 "_law_other_number" iP (oJ K):=by
 refine F.ok c5 (fun vs H Q E h=>?_) (fun cdv A outer s H vs Q E hr h=>?_) (fun _ _ _ _ _ _ us hl=>match us,hl with | [_,_,_,_],_=>rfl)
 · obtain ⟨a,ms,k,n,ρ,B,b,x,rfl,_⟩:=h.ex
   rfl
 obtain ⟨a,ms,k,n,ρ,B,b,i0,rfl,hS,h63,hk,hb,bk,hi,q⟩:=h.ex
 refine ⟨_,(@aj _ _ _ _ _ (@aG _ _ (4) _ _ _ _ c5.nd rfl (Or.inl rfl) (@aB _ _ _ _ _ _ _ _ _ (pI K rfl) (by rfl) kh PyProof.Rows.boot_sum (@aa _ _ _ _ _ (@fE _ _ _ _ _ _ ["_law_part"] [none] _ _ _ rfl (@e_ _ K _ _ _ (@bM _ _ _ _ _ _ (bQ hr) (@pv _ 2 _ _ (by rfl) (by first | exact Or.inl rfl | exact Or.inr (Or.inl rfl) | exact Or.inr (Or.inr rfl)) (by decide) (by decide)) (@aX _ _ _ _) (fun _ _=>rfl)) (by rfl)) (fun _ _ _ _=>(@aZ _ _ (0) _ (show List.Nodup (["_law_part"] :List Str) from by decide +kernel) rfl (Or.inl rfl) (by first | exact .inl rfl | exact .inr rfl | assumption))) (fun _ _ _ _=>(@aF _ _ _ _ _ _ _ (aT K) (@pv _ 0 _ _ (by rfl) (by first | exact Or.inl rfl | exact Or.inr (Or.inl rfl) | exact Or.inr (Or.inr rfl)) (by decide) (by decide)) (@af _ _ _ _) (fun _ _=>rfl))) rfl (by rfl) (by intro _;rfl)) (@ah _) (by rfl)) (by decide) (by decide) (by rfl) (by rfl)) (by rfl) (by first | exact .inl rfl | exact .inr rfl | assumption)) (@aj _ _ _ _ _ (@aG _ _ (5) _ _ _ _ c5.nd rfl (Or.inl rfl) (@cI _ _ _ _ (@aa _ _ _ _ _ (@af _ _ _ _) (@aa _ _ _ _ _ (@az _ _ _ _ _ _ _ _ o_ (@af _ _ _ _) (@pv _ 3 _ _ (by rfl) (by first | exact Or.inl rfl | exact Or.inr (Or.inl rfl) | exact Or.inr (Or.inr rfl)) (by decide) (by decide))) (@aa _ _ _ _ _ (@ua _ _ _ _ _ _ pe (@af _ _ _ _)) (@aa _ _ _ _ _ (@az _ _ _ _ _ _ _ _ bG (@pv _ 3 _ _ (by rfl) (by first | exact Or.inl rfl | exact Or.inr (Or.inl rfl) | exact Or.inr (Or.inr rfl)) (by decide) (by decide)) (@af _ _ _ _)) (@aa _ _ _ _ _ (@az _ _ _ _ _ _ _ _ jm (@af _ _ _ _) (@af _ _ _ _)) (@aa _ _ _ _ _ (@pv _ 4 _ _ (by rfl) (by first | exact Or.inl rfl | exact Or.inr (Or.inl rfl) | exact Or.inr (Or.inr rfl)) (by decide) (by decide)) (@aa _ _ _ _ _ (@az _ _ _ _ _ _ _ _ o_ (@pv _ 4 _ _ (by rfl) (by first | exact Or.inl rfl | exact Or.inr (Or.inl rfl) | exact Or.inr (Or.inr rfl)) (by decide) (by decide)) (@af _ _ _ _)) (@aa _ _ _ _ _ (@az _ _ _ _ _ _ _ _ bG (@pv _ 4 _ _ (by rfl) (by first | exact Or.inl rfl | exact Or.inr (Or.inl rfl) | exact Or.inr (Or.inr rfl)) (by decide) (by decide)) (@af _ _ _ _)) (@aa _ _ _ _ _ (@af _ _ _ _) (@ah _) (by rfl)) (by rfl)) (by rfl)) (by rfl)) (by rfl)) (by rfl)) (by rfl)) (by rfl)) (by rfl))) (by rfl) (by first | exact .inl rfl | exact .inr rfl | assumption)) (@aj _ _ _ _ _ (@dO _ _ _ _ _ _ _ _ PassesOwn.never rfl (@e_ _ K _ _ _ (@bM _ _ _ _ _ _ (bQ hr) (@pv _ 2 _ _ (by rfl) (by first | exact Or.inl rfl | exact Or.inr (Or.inl rfl) | exact Or.inr (Or.inr rfl)) (by decide) (by decide)) (@aX _ _ _ _) (fun _ _=>rfl)) (by rfl)) (@aZ _ _ (6) _ c5.nd rfl (Or.inl rfl) (by first | exact .inl rfl | exact .inr rfl | assumption)) (@ao _ _ _ (@aG _ _ (5) _ _ _ _ c5.nd rfl (Or.inl rfl) (@az _ _ _ _ _ _ _ _ gY (@pv _ 5 _ _ (by rfl) (by first | exact Or.inl rfl | exact Or.inr (Or.inl rfl) | exact Or.inr (Or.inr rfl)) (by decide) (by decide)) (@cI _ _ _ _ (@aa _ _ _ _ _ (@aF _ _ _ _ _ _ _ (aT K) (@pv _ 6 _ _ (by rfl) (by first | exact Or.inl rfl | exact Or.inr (Or.inl rfl) | exact Or.inr (Or.inr rfl)) (by decide) (by decide)) (@af _ _ _ _) (fun _ _=>rfl)) (@aa _ _ _ _ _ (@az _ _ _ _ _ _ _ _ bG (@aF _ _ _ _ _ _ _ (aT K) (@pv _ 6 _ _ (by rfl) (by first | exact Or.inl rfl | exact Or.inr (Or.inl rfl) | exact Or.inr (Or.inr rfl)) (by decide) (by decide)) (@af _ _ _ _) (fun _ _=>rfl)) (@af _ _ _ _)) (@aa _ _ _ _ _ (@az _ _ _ _ _ _ _ _ o_ (@aF _ _ _ _ _ _ _ (aT K) (@pv _ 6 _ _ (by rfl) (by first | exact Or.inl rfl | exact Or.inr (Or.inl rfl) | exact Or.inr (Or.inr rfl)) (by decide) (by decide)) (@af _ _ _ _) (fun _ _=>rfl)) (@af _ _ _ _)) (@aa _ _ _ _ _ (@az _ _ _ _ _ _ _ _ bG (@aF _ _ _ _ _ _ _ (aT K) (@pv _ 6 _ _ (by rfl) (by first | exact Or.inl rfl | exact Or.inr (Or.inl rfl) | exact Or.inr (Or.inr rfl)) (by decide) (by decide)) (@af _ _ _ _) (fun _ _=>rfl)) (@af _ _ _ _)) (@ah _) (by rfl)) (by rfl)) (by rfl)) (by rfl)))) (by rfl) (by first | exact .inl rfl | exact .inr rfl | assumption))) (by intro _;rfl)) (@ao _ _ _ (@aD _ _ _ _ (@aB _ _ _ _ _ _ _ _ _ (Ei rfl) (by rfl) DV PyProof.Rows.boot_min (@aa _ _ _ _ _ (@aF _ _ _ _ _ _ _ (aT K) (@pv _ 5 _ _ (by rfl) (by first | exact Or.inl rfl | exact Or.inr (Or.inl rfl) | exact Or.inr (Or.inr rfl)) (by decide) (by decide)) (@aR _ _ _ _ _ _ _ _ _ _ _ aK hr (@aa _ _ _ _ _ (@pv _ 0 _ _ (by rfl) (by first | exact Or.inl rfl | exact Or.inr (Or.inl rfl) | exact Or.inr (Or.inr rfl)) (by decide) (by decide)) (@aa _ _ _ _ _ (@pv _ 1 _ _ (by rfl) (by first | exact Or.inl rfl | exact Or.inr (Or.inl rfl) | exact Or.inr (Or.inr rfl)) (by decide) (by decide)) (@aa _ _ _ _ _ (@af _ _ _ _) (@aa _ _ _ _ _ (@aB _ _ _ _ _ _ _ _ _ (bB K) (by rfl) aV PySem.boot_len (@aa _ _ _ _ _ (@pv _ 5 _ _ (by rfl) (by first | exact Or.inl rfl | exact Or.inr (Or.inl rfl) | exact Or.inr (Or.inr rfl)) (by decide) (by decide)) (@ah _) (by rfl)) (by decide) (by decide) (by rfl) (by rfl)) (@ah _) (by rfl)) (by rfl)) (by rfl)) (by rfl)) (by decide) (by rfl) (by decide) (by rfl) (by rfl)) (fun _ _=>rfl)) (@aa _ _ _ _ _ (@az _ _ _ _ _ _ _ _ jm (@af _ _ _ _) (@af _ _ _ _)) (@ah _) (by rfl)) (by rfl)) (by decide) (by decide) (by rfl) (by rfl))))))),?_⟩
 have u9:(B.qs.map fun q=>V.ref q.1).length = b.aq.length:=by rw [List.length_map];exact hb.ql
 have pl:=bk.pl
 have P9:F_ 10 9:=⟨by decide,by decide,by decide +kernel⟩
 have p9:(10:Int) ^ (9:Int).toNat = 1000000000:=by decide +kernel
 refine ⟨_,rfl,B.m,_,rfl,b_.k (k:=Sum.inr "parts") hb.om,B.lp,rfl,⟨_,aE.of hb.op⟩,fun ac hac=>?_⟩
 refine m9 (J:=t8 K B.lp) (n:=b.aq.length) 0 (fun i o H'=>aC H H'∧o = ((b.aq.take i).map (fun p:BP=>p.wo)).map V.int) (by omega) ⟨av hac _,rfl⟩ (fun i o H' hi _ hp=>⟨_,_,aE.of (hp.1 _ _ hb.op),List.getElem?_eq_getElem (by rw [u9];exact hi)⟩) (fun o H' _ hp=>⟨_,aE.of (hp.1 _ _ hb.op),by rw [u9];exact Nat.le_refl _⟩) ?_ ?_
 · rintro j y o H2 H3 hj dH ha ⟨g,e⟩ ⟨rfl,hy⟩
   have ej:=List.getElem?_eq_getElem hj
   obtain ⟨qq,eq,k1,k2,_,_⟩:=hb.find ej
   have ey:=hy _ (aE.of (g _ _ hb.op))
   rw [List.getElem?_map,eq] at ey
   cases ey
   refine ⟨_,rfl,qq.1,_,_,_,rfl,rfl,aE.of (g _ _ k1),a_ (j:=2) rfl,ha,g.dg hac _,?_⟩
   subst e
   rw [take_snoc ej,List.map_append,List.map_append]
   rfl
 rintro o H2 _ ha ⟨g2,e⟩
 rw [List.take_length] at e
 subst e
 refine ⟨ac,b.aq.map (fun p:BP=>p.wo),rfl,aE.of ha,?_⟩
 have hW:0≤(b.aq.map (fun p:BP=>p.wo)).sum:=Fy fun x hx=>by
  obtain ⟨p,hp,rfl⟩:=List.mem_map.mp hx
  exact (bk.wo p hp).1
 generalize (b.aq.map (fun p:BP=>p.wo)).sum = W at *
 refine ⟨_,rfl,_,_,rfl,rfl,_,rfl,?_⟩
 refine ⟨_,rfl,_,_,rfl,rfl,_,_,rfl,rfl,P9,_,rfl,_,rfl,_,_,rfl,rfl,_,rfl,_,_,rfl,rfl,(by show 9≤sizeLine;decide),fun p1 hp1=>?_⟩
 obtain ⟨i1,i2⟩:=hi
 generalize Fl:upd H2 p1 (HO.lst _) = H3
 have pU:upd H2 p1 (.lst [.int 0, .int (0 - i0), .int (-1), .int (i0 + 1), .int ((10:Int) ^ (9:Int).toNat), .int W, .int (W - 1), .int (W + 1), .int 1]) = H3:=Fl
 rw [p9] at pU
 have g3:aC H2 H3:=pU ▸ av hp1 _
 have IK:H3 p1 = some (.lst [.int 0, .int (0 - i0), .int (-1), .int (i0 + 1), .int 1000000000, .int W, .int (W - 1), .int (W + 1), .int 1]):=by rw [← pU,ai]
 clear Fl pU
 have N0:kP [.int 0, .int (0 - i0), .int (-1), .int (i0 + 1), .int 1000000000, .int W, .int (W - 1), .int (W + 1), .int 1] := .cons (by omega) (.cons (by omega) (.cons (by omega) (.cons (by omega) (.cons (by omega) (.cons (by omega) (.cons (by omega) (.cons (by omega) (.cons (by omega) .nil))))))))
 have AG:=g2.trans g3
 refine ⟨_,rfl,B.m,_,rfl,b_.k (k:=Sum.inr "parts") (AG _ _ hb.om),B.lp,rfl,⟨_,aE.of (AG _ _ hb.op)⟩,?_⟩
 refine nK (K:=K) (xs:=B.qs.map fun q=>V.ref q.1) (fun i σ H'=>∃(p:Addr) (vs:List V) (s6:Option V),σ = [some (.ref a),some (.int k),some (.ref B.m),some (.int i0),some (.int W),some (.ref p),s6]∧aC H H'∧H' p = some (.lst vs)∧kP vs∧vs.length = 9 + 4 * i)
  ⟨p1,_,_,rfl,AG,IK,N0,rfl⟩ (fun i σ H' _ hp=>by obtain ⟨_,_,_,_,g,_⟩:=hp;exact aE.of (g _ _ hb.op)) ?_ ?_
 · rintro i y σ H' hy ⟨p,vs,s6,rfl,g,hp,hN,hl⟩
   rw [List.getElem?_map] at hy
   obtain ⟨qq,eq,rfl⟩:=Option.map_eq_some_iff.mp hy
   have hib:i < b.aq.length:=by rw [← hb.ql];exact (List.getElem?_eq_some_iff.mp eq).1
   have ei:=List.getElem?_eq_getElem hib
   obtain ⟨k1,k2,_,_⟩:=hb.pt i _ qq ei eq
   have kk:=aE.of (K:=K) (g _ _ k1)
   obtain ⟨w1,w2⟩:=bk.wo _ (List.getElem_mem hib)
   refine ⟨_,rfl,_,rfl,qq.1,_,_,_,rfl,rfl,kk,a_ (j:=2) rfl,_,rfl,qq.1,_,_,_,rfl,rfl,kk,a_ (j:=2) rfl,_,_,rfl,rfl,_,rfl,qq.1,_,_,_,rfl,rfl,kk,a_ (j:=2) rfl,_,_,rfl,rfl,_,rfl,qq.1,_,_,_,rfl,rfl,kk,a_ (j:=3) rfl,_,_,rfl,rfl,(by show 4≤sizeLine;decide),fun p2 hp2=>?_⟩
   generalize Fo:upd H' p2 (HO.lst _) = H4
   have tH:upd H' p2 (.lst [.int (b.aq[i]).wo, .int ((b.aq[i]).wo + 1), .int ((b.aq[i]).wo - 1), .int ((b.aq[i]).we + 1)]) = H4:=Fo
   have g4:aC H' H4:=tH ▸ av hp2 _
   have FJ:H4 p2 = some (.lst [.int (b.aq[i]).wo, .int ((b.aq[i]).wo + 1), .int ((b.aq[i]).wo - 1), .int ((b.aq[i]).we + 1)]):=by rw [← tH,ai]
   clear Fo tH
   refine ⟨p,p2,_,_,rfl,rfl,g4 _ _ hp,FJ,by rw [sizeLine_eq,hl];show 9 + 4 * i + 4≤_;omega,fun p3 hp3=>?_⟩
   exact ⟨p3,_,_,rfl,g.trans (g4.trans (av hp3 _)),ai,hN.append (.cons (by omega) (.cons (by omega) (.cons (by omega) (.cons (by omega) .nil)))),by rw [List.length_append,hl];show 9 + 4 * i + 4 = _;omega⟩
 rintro σ H' ⟨p,vs,s6,rfl,g,hp,hN,hl⟩
 refine ⟨_,rfl,_,rfl,_,rfl,_,rfl,p,_,rfl, .inl (aE.of hp),bX (g.seq hS) h63 hk (by decide) (by decide) (by omega) fun d _ d0 d1=>?_⟩
 obtain ⟨v,hv,hat⟩:=z_ (xs:=vs) (i:=d) (by omega) d1
 obtain ⟨j,rfl,hj⟩:=hN v hv
 refine ⟨p,_,_,_,rfl,rfl,aE.of hp,hat,_,_,rfl,rfl,P9,_,_,rfl,q _ _ g ?_⟩
 rw [p9]
 unfold nB
 split <;> omega
abbrev lH:Stmt:=top 41
abbrev Br:List Str:=["_law_script","_law_k","_law_model_here","_law_deed","_law_way","_law_at","_law_thing"]
abbrev sM:List Str:=["_law_script","_law_k","_law_model_here","_law_deed"]
theorem f_:aI Br sM (au lH):=⟨rfl,rfl,rfl,by decide +kernel,rfl,by decide +kernel,by decide +kernel⟩
theorem AH (F:At K mg "_law_bent" lH f fd) (aK:Dn P w K mg base 1 "_law_draw" ["_law_script","_law_k","_law_j","_law_many"] (ju K)) (gx:Dn P w K mg base 2 "_law_other_word" ["_law_script","_law_k","_law_model_here","_law_word"] (rX K)) (fK:Dn P w K mg base 2 "_law_other_number" ["_law_script","_law_k","_law_model_here","_law_code"] (oJ K)) (aV:mg "len" = none) (ay:mg "isinstance" = none) (fQ:mg "str" = none):Dn P w K mg base 3 "_law_bent" sM (Ab K):=by
 refine F.ok f_ (fun vs H Q E h=>?_) (fun cdv A outer s H vs Q E hr h=>?_) (fun _ _ _ _ _ _ us hl=>match us,hl with | [_,_,_,_],_=>rfl)
 · obtain ⟨a,ms,k,n,ρ,B,b,z,d,rfl,_⟩:=h.ex
   rfl
 obtain ⟨a,ms,k,n,ρ,B,b,z,d,rfl,hS,h63,hk,hb,bk,hz,db,dl,SE,dk,q⟩:=h.ex
 refine ⟨_,(@aj _ _ _ _ _ (@bh _ _ _ _ _ _ _ _ (@aM _ _ _ _ _ _ _ _ gW (@aF _ _ _ _ _ _ _ (aO K) (@pv _ 3 _ _ (by rfl) (by first | exact Or.inl rfl | exact Or.inr (Or.inl rfl) | exact Or.inr (Or.inr rfl)) (by decide) (by decide)) (@af _ _ _ _) (fun _ _=>rfl)) (@aX _ _ _ _) (aY _)) (@ao _ _ _ (@FZ _ _)) (@aJ _)) (@aj _ _ _ _ _ (@aG _ _ (4) _ _ _ _ f_.nd rfl (Or.inl rfl) (@aR _ _ _ _ _ _ _ _ _ _ _ aK hr (@aa _ _ _ _ _ (@pv _ 0 _ _ (by rfl) (by first | exact Or.inl rfl | exact Or.inr (Or.inl rfl) | exact Or.inr (Or.inr rfl)) (by decide) (by decide)) (@aa _ _ _ _ _ (@pv _ 1 _ _ (by rfl) (by first | exact Or.inl rfl | exact Or.inr (Or.inl rfl) | exact Or.inr (Or.inr rfl)) (by decide) (by decide)) (@aa _ _ _ _ _ (@af _ _ _ _) (@aa _ _ _ _ _ (@af _ _ _ _) (@ah _) (by rfl)) (by rfl)) (by rfl)) (by rfl)) (by decide) (by rfl) (by decide) (by rfl) (by rfl)) (by rfl) (by first | exact .inl rfl | exact .inr rfl | assumption)) (@aj _ _ _ _ _ (@bh _ _ _ _ _ _ _ _ (@cQ _ _ _ (PW.pt (@o9 _ _ _ _ _ _ _ (@aM _ _ _ _ _ _ _ _ gW (@aF _ _ _ _ _ _ _ (aO K) (@pv _ 3 _ _ (by rfl) (by first | exact Or.inl rfl | exact Or.inr (Or.inl rfl) | exact Or.inr (Or.inr rfl)) (by decide) (by decide)) (@af _ _ _ _) (fun _ _=>rfl)) (@aX _ _ _ _) (aY _)) (@qE _ _ _ _ (@aM _ _ _ _ _ _ _ _ gW (@pv _ 4 _ _ (by rfl) (by first | exact Or.inl rfl | exact Or.inr (Or.inl rfl) | exact Or.inr (Or.inr rfl)) (by decide) (by decide)) (@af _ _ _ _) (aY _)))))) (@ao _ _ _ (@aD _ _ _ _ (@az _ _ _ _ _ _ _ _ (vO K) (@pv _ 3 _ _ (by rfl) (by first | exact Or.inl rfl | exact Or.inr (Or.inl rfl) | exact Or.inr (Or.inr rfl)) (by decide) (by decide)) (@eU _ _ _ _ _ (@aa _ _ _ _ _ (@aF _ _ _ _ _ _ _ (aO K) (@pv _ 3 _ _ (by rfl) (by first | exact Or.inl rfl | exact Or.inr (Or.inl rfl) | exact Or.inr (Or.inr rfl)) (by decide) (by decide)) (@af _ _ _ _) (fun _ _=>rfl)) (@aa _ _ _ _ _ (@af _ _ _ _) (@ah _) (by rfl)) (by rfl)))))) (@aJ _)) (@aj _ _ _ _ _ (@bh _ _ _ _ _ _ _ _ (@cQ _ _ _ (PW.pt (@o9 _ _ _ _ _ _ _ (@aM _ _ _ _ _ _ _ _ gW (@aF _ _ _ _ _ _ _ (aO K) (@pv _ 3 _ _ (by rfl) (by first | exact Or.inl rfl | exact Or.inr (Or.inl rfl) | exact Or.inr (Or.inr rfl)) (by decide) (by decide)) (@af _ _ _ _) (fun _ _=>rfl)) (@aX _ _ _ _) (aY _)) (@qE _ _ _ _ (@aM _ _ _ _ _ _ _ _ gW (@pv _ 4 _ _ (by rfl) (by first | exact Or.inl rfl | exact Or.inr (Or.inl rfl) | exact Or.inr (Or.inr rfl)) (by decide) (by decide)) (@af _ _ _ _) (aY _)))))) (@ao _ _ _ (@aD _ _ _ _ (@eU _ _ _ _ _ (@aa _ _ _ _ _ (@aX _ _ _ _) (@ah _) (by rfl))))) (@aJ _)) (@aj _ _ _ _ _ (@aG _ _ (5) _ _ _ _ f_.nd rfl (Or.inl rfl) (@az _ _ _ _ _ _ _ _ bG (@af _ _ _ _) (@aR _ _ _ _ _ _ _ _ _ _ _ aK hr (@aa _ _ _ _ _ (@pv _ 0 _ _ (by rfl) (by first | exact Or.inl rfl | exact Or.inr (Or.inl rfl) | exact Or.inr (Or.inr rfl)) (by decide) (by decide)) (@aa _ _ _ _ _ (@pv _ 1 _ _ (by rfl) (by first | exact Or.inl rfl | exact Or.inr (Or.inl rfl) | exact Or.inr (Or.inr rfl)) (by decide) (by decide)) (@aa _ _ _ _ _ (@af _ _ _ _) (@aa _ _ _ _ _ (@az _ _ _ _ _ _ _ _ o_ (@aB _ _ _ _ _ _ _ _ _ (bB K) (by rfl) aV PySem.boot_len (@aa _ _ _ _ _ (@pv _ 3 _ _ (by rfl) (by first | exact Or.inl rfl | exact Or.inr (Or.inl rfl) | exact Or.inr (Or.inr rfl)) (by decide) (by decide)) (@ah _) (by rfl)) (by decide) (by decide) (by rfl) (by rfl)) (@af _ _ _ _)) (@ah _) (by rfl)) (by rfl)) (by rfl)) (by rfl)) (by decide) (by rfl) (by decide) (by rfl) (by rfl))) (by rfl) (by first | exact .inl rfl | exact .inr rfl | assumption)) (@aj _ _ _ _ _ (@g_ _ _ _ _ _ _ _ _ (@bI _ _ _ (@aB _ _ _ _ _ _ _ _ _ (bC K) (by rfl) ay PyProof.Rows.boot_isinstance (@aa _ _ _ _ _ (@aF _ _ _ _ _ _ _ (aO K) (@pv _ 3 _ _ (by rfl) (by first | exact Or.inl rfl | exact Or.inr (Or.inl rfl) | exact Or.inr (Or.inr rfl)) (by decide) (by decide)) (@pv _ 5 _ _ (by rfl) (by first | exact Or.inl rfl | exact Or.inr (Or.inl rfl) | exact Or.inr (Or.inr rfl)) (by decide) (by decide)) (fun _ _=>rfl)) (@aa _ _ _ _ _ (@ef _ _ _ _ PyProof.Rows.boot_str rfl fQ (by decide) (by decide)) (@ah _) (by rfl)) (by rfl)) (by decide) (by decide) (by rfl) (by rfl)) (by intro _;rfl)) (@ao _ _ _ (@aG _ _ (6) _ _ _ _ f_.nd rfl (Or.inl rfl) (@aR _ _ _ _ _ _ _ _ _ _ _ gx hr (@aa _ _ _ _ _ (@pv _ 0 _ _ (by rfl) (by first | exact Or.inl rfl | exact Or.inr (Or.inl rfl) | exact Or.inr (Or.inr rfl)) (by decide) (by decide)) (@aa _ _ _ _ _ (@pv _ 1 _ _ (by rfl) (by first | exact Or.inl rfl | exact Or.inr (Or.inl rfl) | exact Or.inr (Or.inr rfl)) (by decide) (by decide)) (@aa _ _ _ _ _ (@pv _ 2 _ _ (by rfl) (by first | exact Or.inl rfl | exact Or.inr (Or.inl rfl) | exact Or.inr (Or.inr rfl)) (by decide) (by decide)) (@aa _ _ _ _ _ (@aF _ _ _ _ _ _ _ (aO K) (@pv _ 3 _ _ (by rfl) (by first | exact Or.inl rfl | exact Or.inr (Or.inl rfl) | exact Or.inr (Or.inr rfl)) (by decide) (by decide)) (@pv _ 5 _ _ (by rfl) (by first | exact Or.inl rfl | exact Or.inr (Or.inl rfl) | exact Or.inr (Or.inr rfl)) (by decide) (by decide)) (fun _ _=>rfl)) (@ah _) (by rfl)) (by rfl)) (by rfl)) (by rfl)) (by decide) (by rfl) (by decide) (by rfl) (by rfl)) (by rfl) (by first | exact .inl rfl | exact .inr rfl | assumption))) (@ao _ _ _ (@aG _ _ (6) _ _ _ _ f_.nd rfl (Or.inl rfl) (@aR _ _ _ _ _ _ _ _ _ _ _ fK hr (@aa _ _ _ _ _ (@pv _ 0 _ _ (by rfl) (by first | exact Or.inl rfl | exact Or.inr (Or.inl rfl) | exact Or.inr (Or.inr rfl)) (by decide) (by decide)) (@aa _ _ _ _ _ (@pv _ 1 _ _ (by rfl) (by first | exact Or.inl rfl | exact Or.inr (Or.inl rfl) | exact Or.inr (Or.inr rfl)) (by decide) (by decide)) (@aa _ _ _ _ _ (@pv _ 2 _ _ (by rfl) (by first | exact Or.inl rfl | exact Or.inr (Or.inl rfl) | exact Or.inr (Or.inr rfl)) (by decide) (by decide)) (@aa _ _ _ _ _ (@aF _ _ _ _ _ _ _ (aO K) (@pv _ 3 _ _ (by rfl) (by first | exact Or.inl rfl | exact Or.inr (Or.inl rfl) | exact Or.inr (Or.inr rfl)) (by decide) (by decide)) (@pv _ 5 _ _ (by rfl) (by first | exact Or.inl rfl | exact Or.inr (Or.inl rfl) | exact Or.inr (Or.inr rfl)) (by decide) (by decide)) (fun _ _=>rfl)) (@ah _) (by rfl)) (by rfl)) (by rfl)) (by rfl)) (by decide) (by rfl) (by decide) (by rfl) (by rfl)) (by rfl) (by first | exact .inl rfl | exact .inr rfl | assumption)))) (@ao _ _ _ (@aD _ _ _ _ (@az _ _ _ _ _ _ _ _ (vO K) (@az _ _ _ _ _ _ _ _ (vO K) (@gH _ _ _ _ _ _ _ _ _ _ (Ct K) (@pv _ 3 _ _ (by rfl) (by first | exact Or.inl rfl | exact Or.inr (Or.inl rfl) | exact Or.inr (Or.inr rfl)) (by decide) (by decide)) (@iS _) (@iT _ _ _ (@pv _ 5 _ _ (by rfl) (by first | exact Or.inl rfl | exact Or.inr (Or.inl rfl) | exact Or.inr (Or.inr rfl)) (by decide) (by decide)))) (@eU _ _ _ _ _ (@aa _ _ _ _ _ (@pv _ 6 _ _ (by rfl) (by first | exact Or.inl rfl | exact Or.inr (Or.inl rfl) | exact Or.inr (Or.inr rfl)) (by decide) (by decide)) (@ah _) (by rfl)))) (@gH _ _ _ _ _ _ _ _ _ _ (Ct K) (@pv _ 3 _ _ (by rfl) (by first | exact Or.inl rfl | exact Or.inr (Or.inl rfl) | exact Or.inr (Or.inr rfl)) (by decide) (by decide)) (@iT _ _ _ (@az _ _ _ _ _ _ _ _ bG (@pv _ 5 _ _ (by rfl) (by first | exact Or.inl rfl | exact Or.inr (Or.inl rfl) | exact Or.inr (Or.inr rfl)) (by decide) (by decide)) (@af _ _ _ _))) (@iS _))))))))))),?_⟩
 have e0:gj (Dd.v d) 0 = some (.str d.w):=a_ (j:=0) d.v0
 refine ⟨_,rfl,z,_,_,_,rfl,rfl,hz,e0,rfl,_,rfl,cX (fun c=>absurd (V.str.inj (of_decide_eq_true c)) (Dd.J3 dk)) (fun _=>?_)⟩
 refine ⟨_,rfl,_,rfl,bX hS h63 hk (by decide) (by decide) (by decide) fun way _ w0 w1=>?_⟩
 have test:∀(u:Int) {σ:St} {Hq:Hp} {t:TS} {D:Ends},True:=fun _ _ _ _ _=>trivial
 refine ⟨decide (d.k = 2) && decide (way = 1),?_,?_⟩
 · refine ⟨_,rfl,z,_,_,_,rfl,rfl,hz,e0,rfl,_,rfl,?_⟩
   by_cases h2:d.k = 2
   · rw [decide_eq_true (by rw [show d.w = "cast" from by unfold Dd.w;rw [h2];rfl] :V.str d.w = V.str "cast"),decide_eq_true h2,Bool.true_and]
     refine dW ⟨_,rfl,rfl,_,rfl,?_,rfl⟩
     exact decide_eq_decide.mpr ⟨fun y=>V.int.inj y,fun y=>by rw [y]⟩
   · rw [decide_eq_false (fun y=>Dd.Fw h2 (V.str.inj y)),decide_eq_false h2,Bool.false_and]
     exact bq ⟨rfl,rfl⟩
 refine cX (fun c=>?_) (fun _=>?_)
 · have h2:d.k = 2:=of_decide_eq_true (Bool.and_eq_true_iff.mp c).1
   cases d with
   | cast rs=>
     cases rs with
     | nil=>exact absurd dl (by decide)
     | cons r rs=>
       have e1:gj (Dd.v (.cast (r :: rs))) 1 = some (.str r.1):=a_ (j:=1) rfl
       refine ⟨_,rfl,_,rfl,z,_,_,_,rfl,rfl,hz,e1,(by show 2≤sizeLine;decide),fun p hp=>?_⟩
       have g1:=av hp (.tup [.str r.1, .int 1])
       refine ⟨z,p,_,_,rfl,rfl,g1.tup hz,bF.of ai,by rw [sizeLine_eq];show _ + 2≤_;omega,(fun e=>nomatch e),(fun _ e=>nomatch e),fun _ _ p2 hp2=>?_⟩
       refine q p2 (.cast ((r :: rs) ++ [(r.1,1)])) _ (g1.trans (av hp2 _)) ?_ ⟨?_,fun x hx=>?_⟩ rfl ?_
       · have:Dd.v (.cast ((r :: rs) ++ [(r.1,1)])) = Dd.v (.cast (r :: rs)) ++ [.str r.1, .int 1] :=by
          show V.str "cast" :: cg ((r :: rs) ++ [(r.1,1)]) = V.str "cast" :: (cg (r :: rs) ++ _)
          rw [kQ];rfl
         rw [this]
         exact ai
       · have:(Dd.v (.cast (r :: rs))).length = 2 * (r :: rs).length + 1:=by show (cg (r :: rs)).length + 1 = _;rw [xC]
         rw [List.length_append]
         show (r :: rs).length + 1≤60
         omega
       · rcases List.mem_append.mp hx with y | y
         · exact db.2 x y
         · rw [List.mem_singleton.mp y];exact ⟨(db.2 r List.mem_cons_self).1,by unfold nB;show -1000000000≤(1:Int)∧(1:Int)≤1000000000;decide⟩
       · show (cg ((r :: rs) ++ [(r.1,1)])).length + 1≤(cg (r :: rs)).length + 1 + 2
         rw [kQ,List.length_append]
         show _ + 2 + 1≤_
         omega
   | _=>exact absurd h2 (by simp [Dd.k])
 refine ⟨decide (d.k = 2) && decide (way = 2),?_,?_⟩
 · refine ⟨_,rfl,z,_,_,_,rfl,rfl,hz,e0,rfl,_,rfl,?_⟩
   by_cases h2:d.k = 2
   · rw [decide_eq_true (by rw [show d.w = "cast" from by unfold Dd.w;rw [h2];rfl] :V.str d.w = V.str "cast"),decide_eq_true h2,Bool.true_and]
     refine dW ⟨_,rfl,rfl,_,rfl,?_,rfl⟩
     exact decide_eq_decide.mpr ⟨fun y=>V.int.inj y,fun y=>by rw [y]⟩
   · rw [decide_eq_false (fun y=>Dd.Fw h2 (V.str.inj y)),decide_eq_false h2,Bool.false_and]
     exact bq ⟨rfl,rfl⟩
 refine cX (fun c=>?_) (fun _=>?_)
 · have h2:d.k = 2:=of_decide_eq_true (Bool.and_eq_true_iff.mp c).1
   refine ⟨(by show 1≤sizeLine;decide),fun p hp=>?_⟩
   exact q p (.cast []) _ (av hp _) ai ⟨Nat.zero_le _,fun _ y=>nomatch y⟩ h2.symm (by show 1≤_;omega)
 refine ⟨_,rfl,_,rfl,_,rfl,z,_,rfl, .inr hz,_,_,rfl,rfl,bX hS h63 hk (by decide) (by decide) (by omega) fun at' _ a0 a1=>⟨_,_,rfl,rfl,?_⟩⟩
 obtain ⟨i,ei⟩:∃i:Nat,1 + at' = (i:Int):=⟨(1 + at').toNat,by omega⟩
 show dI 5 (.int (1 + at')) _ _ _
 rw [ei]
 have hi1:1≤i:=by omega
 have hil:i < d.v.length:=by omega
 obtain ⟨v,hv⟩:∃v,d.v[i]? = some v:=⟨_,List.getElem?_eq_getElem hil⟩
 have hat:gj (Dd.v d) (i:Int) = some v:=a_ hv
 refine ⟨fun σ H'=>aC H H'∧∃(t:V),σ = [some (.ref a),some (.int k),some (.ref B.m),some (.ref z),some (.int way),some (.int (i:Int)),some t]∧alike v t,?_,?_⟩
 · rcases NK db hi1 hv with ⟨s,rfl,hs⟩ | ⟨j,rfl,hj⟩
   · refine ⟨_,rfl,_,rfl,z,_,_,_,rfl,rfl,hz,hat,_,_,_,_,rfl,c_.str _,dF,_,rfl,dW ?_⟩
     exact ⟨_,rfl,_,rfl,_,rfl,_,rfl,_,rfl,z,_,_,_,rfl,rfl,hz,hat,⟨⟨a,ms,k,n,ρ,B,b,s,rfl,hS,h63,hk,hb,bk,hs,fun r H' g hr=>⟨g,_,rfl, .inl ⟨s,r,rfl,rfl,hr⟩⟩⟩⟩⟩
   · refine ⟨_,rfl,_,rfl,z,_,_,_,rfl,rfl,hz,hat,_,_,_,_,rfl,c_.int _,A9,_,rfl,bq ?_⟩
     exact ⟨_,rfl,_,rfl,_,rfl,_,rfl,_,rfl,z,_,_,_,rfl,rfl,hz,hat,⟨⟨a,ms,k,n,ρ,B,b,j,rfl,hS,h63,hk,hb,bk,hj,fun r H' g hr=>⟨g,_,rfl, .inr ⟨j,r,rfl,rfl,hr⟩⟩⟩⟩⟩
 rintro σ H4 ⟨g4,t,rfl,al⟩
 obtain ⟨d',ed,ek,bd⟩:=LM db hi1 hv al
 have el:d'.v.length = d.v.length:=by rw [ed,List.length_set]
 have RW:=g4.tup hz
 have Ml:(d.v.take i ++ [t]) ++ d.v.drop (i + 1) = d'.v:=by
  rw [ed,List.set_eq_take_append_cons_drop,if_pos hil,List.append_assoc];rfl
 have Qp:mw (Dd.v d) none (some (i:Int)) = d.v.take i:=JV _ _
 have Qq:mw (Dd.v d) (some ((i:Int) + 1)) none = d.v.drop (i + 1):=by rw [show (i:Int) + 1 = ((i + 1:Nat):Int) by omega,Fg]
 have RX:¬ (HT.bO (Dd.v d).length 0 none = 0∧HT.bO (Dd.v d).length (Dd.v d).length (some (i:Int)) = (Dd.v d).length):=by rw [HT.mX];omega
 have RY:¬ (HT.bO (Dd.v d).length 0 (some ((i:Int) + 1)) = 0∧HT.bO (Dd.v d).length (Dd.v d).length none = (Dd.v d).length):=by rw [show (i:Int) + 1 = ((i + 1:Nat):Int) by omega,HT.mX];omega
 have hlt:(d.v.take i).length = i:=by rw [List.length_take];omega
 refine ⟨_,rfl,_,rfl,_,rfl,z,_,rfl,RW,RX,fun p hp=>?_⟩
 rw [Qp]
 have g5:=av hp (.tup (d.v.take i))
 have h5:upd H4 p (.tup (d.v.take i)) p = some (.tup (d.v.take i)):=ai
 generalize upd H4 p (.tup (d.v.take i)) = H5 at g5 h5
 refine ⟨_,rfl,(by show 1≤sizeLine;decide),fun p' LN=>?_⟩
 have g6:=av LN (.tup [t])
 refine ⟨p,p',_,[t],rfl,rfl,bF.of (g6 _ _ h5),bF.of ai,(by rw [hlt,sizeLine_eq];show _ + 1≤_;omega),(fun e=>absurd (congrArg List.length e) (by rw [hlt];show ¬ i = 0;omega)),(fun _ e=>nomatch e),fun _ _ u hu=>?_⟩
 have g7:=av hu (.tup (d.v.take i ++ [t]))
 have IL:=g4.trans (g5.trans (g6.trans g7))
 have h7:upd (upd H5 p' (.tup [t])) u (.tup (d.v.take i ++ [t])) u = some (.tup (d.v.take i ++ [t])):=ai
 generalize upd (upd H5 p' (.tup [t])) u (.tup (d.v.take i ++ [t])) = H7 at IL h7
 refine ⟨_,rfl,_,rfl,_,_,rfl,rfl,_,rfl,z,_,rfl,IL.tup hz,RY,fun p3 hp3=>?_⟩
 rw [Qq]
 have g8:=av hp3 (.tup (d.v.drop (i + 1)))
 refine ⟨u,p3,_,_,rfl,rfl,bF.of (g8 _ _ h7),bF.of ai,(by rw [List.length_append,hlt,List.length_drop,sizeLine_eq];show i + 1 + _≤_;omega),(fun e=>absurd (congrArg List.length e) (by rw [List.length_append];show ¬ _ + 1 = 0;omega)),(fun _ e=>?_),fun _ _ z2 hz2=>?_⟩
 · rw [e,List.append_nil] at Ml
   exact q u d' _ (IL.trans g8) (by rw [← Ml];exact g8 _ _ h7) bd ek (by omega)
 · exact q z2 d' _ (IL.trans (g8.trans (av hz2 _))) (by rw [← Ml];exact ai) bd ek (by omega)
abbrev iI:Stmt:=top 55
abbrev NL:List Str:=["_law_script","_law_owners","_law_names_here","_law_hold","_law_model_here","_law_at","_law_owner","_law_worth","_law_deed","_law_way","_law_due_here","_law_found"]
abbrev IM:List Str:=["_law_script"]
theorem eL:aI NL IM (au iI):=⟨rfl,rfl,rfl,by decide +kernel,rfl,by decide +kernel,by decide +kernel⟩
theorem Mm {T:TC} (F:At K mg "law" iI f fd) (aK:Dn P w K mg base 1 "_law_draw" ["_law_script","_law_k","_law_j","_law_many"] (ju K)) (iJ:Dn P w K mg base 2 "_law_names" ["_law_script","_law_k","_law_many"] (vF K))
  (lI:Dn P w K mg base 6 "_law_tells" ["_law_hold","_law_model_here"] (iY 2 T K)) (lJ:Dn P w K mg base 5 "_law_begin" ["_law_owners"] (Co T K)) (lK:Dn P w K mg base 1 "_law_model" ["_law_owners"] (Cq K))
  (mQ:Dn P w K mg base 2 "_law_much" ["_law_script","_law_k","_law_j"] (yY K)) (jk:Dn P w K mg base 3 "_law_bent" ["_law_script","_law_k","_law_model_here","_law_deed"] (Ab K)) (ou:Dn P w K mg base 4 "_law_due" ["_law_model_here","_law_deed"] (yu nU K)) (lM:Dn P w K mg base 7 "_law_tried" ["_law_hold","_law_deed"] (vS T nU K)) (oz:Dn P w K mg base 1 "_law_hot" ["_law_at"] DB) (iK:Dn P w K mg base 2 "_law_new_part" ["_law_model_here","_law_name_here","_law_owner","_law_worth","_law_weight"] xy)
  (aV:mg "len" = none) (bw:mg "range" = none):dU P w K mg base m5 8 f fd IM (yl K):=by
 refine F.fn.ok eL (fun vs H Q E h=>?_) (fun cdv A outer s H vs Q E hr h=>?_)
 · obtain ⟨a,ns,rfl,_⟩:=h
   rfl
 obtain ⟨a,ns,rfl,hS,h63,q⟩:=h
 refine ⟨_,(@aj _ _ _ _ _ (@aG _ _ (1) _ _ _ _ eL.nd rfl (Or.inl rfl) (@aR _ _ _ _ _ _ _ _ _ _ _ iJ hr (@aa _ _ _ _ _ (@pv _ 0 _ _ (by rfl) (by first | exact Or.inl rfl | exact Or.inr (Or.inl rfl) | exact Or.inr (Or.inr rfl)) (by decide) (by decide)) (@aa _ _ _ _ _ (@af _ _ _ _) (@aa _ _ _ _ _ (@az _ _ _ _ _ _ _ _ bG (@af _ _ _ _) (@aR _ _ _ _ _ _ _ _ _ _ _ aK hr (@aa _ _ _ _ _ (@pv _ 0 _ _ (by rfl) (by first | exact Or.inl rfl | exact Or.inr (Or.inl rfl) | exact Or.inr (Or.inr rfl)) (by decide) (by decide)) (@aa _ _ _ _ _ (@af _ _ _ _) (@aa _ _ _ _ _ (@af _ _ _ _) (@aa _ _ _ _ _ (@af _ _ _ _) (@ah _) (by rfl)) (by rfl)) (by rfl)) (by rfl)) (by decide) (by rfl) (by decide) (by rfl) (by rfl))) (@ah _) (by rfl)) (by rfl)) (by rfl)) (by decide) (by rfl) (by decide) (by rfl) (by rfl)) (by rfl) (by first | exact .inl rfl | exact .inr rfl | assumption)) (@aj _ _ _ _ _ (@aG _ _ (2) _ _ _ _ eL.nd rfl (Or.inl rfl) (@aR _ _ _ _ _ _ _ _ _ _ _ iJ hr (@aa _ _ _ _ _ (@pv _ 0 _ _ (by rfl) (by first | exact Or.inl rfl | exact Or.inr (Or.inl rfl) | exact Or.inr (Or.inr rfl)) (by decide) (by decide)) (@aa _ _ _ _ _ (@af _ _ _ _) (@aa _ _ _ _ _ (@af _ _ _ _) (@ah _) (by rfl)) (by rfl)) (by rfl)) (by decide) (by rfl) (by decide) (by rfl) (by rfl)) (by rfl) (by first | exact .inl rfl | exact .inr rfl | assumption)) (@aj _ _ _ _ _ (@aG _ _ (3) _ _ _ _ eL.nd rfl (Or.inl rfl) (@aR _ _ _ _ _ _ _ _ _ _ _ lJ hr (@aa _ _ _ _ _ (@pv _ 1 _ _ (by rfl) (by first | exact Or.inl rfl | exact Or.inr (Or.inl rfl) | exact Or.inr (Or.inr rfl)) (by decide) (by decide)) (@ah _) (by rfl)) (by decide) (by rfl) (by decide) (by rfl) (by rfl)) (by rfl) (by first | exact .inl rfl | exact .inr rfl | assumption)) (@aj _ _ _ _ _ (@aG _ _ (4) _ _ _ _ eL.nd rfl (Or.inl rfl) (@aR _ _ _ _ _ _ _ _ _ _ _ lK hr (@aa _ _ _ _ _ (@pv _ 1 _ _ (by rfl) (by first | exact Or.inl rfl | exact Or.inr (Or.inl rfl) | exact Or.inr (Or.inr rfl)) (by decide) (by decide)) (@ah _) (by rfl)) (by decide) (by rfl) (by decide) (by rfl) (by rfl)) (by rfl) (by first | exact .inl rfl | exact .inr rfl | assumption)) (@aj _ _ _ _ _ (@dO _ _ _ _ _ _ _ _ PassesOwn.never rfl (@dz _ _ _ _ _ _ (by rfl) bw (@aa _ _ _ _ _ (@az _ _ _ _ _ _ _ _ bG (@af _ _ _ _) (@aR _ _ _ _ _ _ _ _ _ _ _ aK hr (@aa _ _ _ _ _ (@pv _ 0 _ _ (by rfl) (by first | exact Or.inl rfl | exact Or.inr (Or.inl rfl) | exact Or.inr (Or.inr rfl)) (by decide) (by decide)) (@aa _ _ _ _ _ (@af _ _ _ _) (@aa _ _ _ _ _ (@af _ _ _ _) (@aa _ _ _ _ _ (@af _ _ _ _) (@ah _) (by rfl)) (by rfl)) (by rfl)) (by rfl)) (by decide) (by rfl) (by decide) (by rfl) (by rfl))) (@ah _) (by rfl)) (by rfl)) (@aZ _ _ (5) _ eL.nd rfl (Or.inl rfl) (by first | exact .inl rfl | exact .inr rfl | assumption)) (@aj _ _ _ _ _ (@aG _ _ (6) _ _ _ _ eL.nd rfl (Or.inl rfl) (@aF _ _ _ _ _ _ _ (aT K) (@pv _ 1 _ _ (by rfl) (by first | exact Or.inl rfl | exact Or.inr (Or.inl rfl) | exact Or.inr (Or.inr rfl)) (by decide) (by decide)) (@aR _ _ _ _ _ _ _ _ _ _ _ aK hr (@aa _ _ _ _ _ (@pv _ 0 _ _ (by rfl) (by first | exact Or.inl rfl | exact Or.inr (Or.inl rfl) | exact Or.inr (Or.inr rfl)) (by decide) (by decide)) (@aa _ _ _ _ _ (@az _ _ _ _ _ _ _ _ bG (@af _ _ _ _) (@pv _ 5 _ _ (by rfl) (by first | exact Or.inl rfl | exact Or.inr (Or.inl rfl) | exact Or.inr (Or.inr rfl)) (by decide) (by decide))) (@aa _ _ _ _ _ (@af _ _ _ _) (@aa _ _ _ _ _ (@aB _ _ _ _ _ _ _ _ _ (bB K) (by rfl) aV PySem.boot_len (@aa _ _ _ _ _ (@pv _ 1 _ _ (by rfl) (by first | exact Or.inl rfl | exact Or.inr (Or.inl rfl) | exact Or.inr (Or.inr rfl)) (by decide) (by decide)) (@ah _) (by rfl)) (by decide) (by decide) (by rfl) (by rfl)) (@ah _) (by rfl)) (by rfl)) (by rfl)) (by rfl)) (by decide) (by rfl) (by decide) (by rfl) (by rfl)) (fun _ _=>rfl)) (by rfl) (by first | exact .inl rfl | exact .inr rfl | assumption)) (@aj _ _ _ _ _ (@aG _ _ (7) _ _ _ _ eL.nd rfl (Or.inl rfl) (@aR _ _ _ _ _ _ _ _ _ _ _ mQ hr (@aa _ _ _ _ _ (@pv _ 0 _ _ (by rfl) (by first | exact Or.inl rfl | exact Or.inr (Or.inl rfl) | exact Or.inr (Or.inr rfl)) (by decide) (by decide)) (@aa _ _ _ _ _ (@az _ _ _ _ _ _ _ _ bG (@af _ _ _ _) (@pv _ 5 _ _ (by rfl) (by first | exact Or.inl rfl | exact Or.inr (Or.inl rfl) | exact Or.inr (Or.inr rfl)) (by decide) (by decide))) (@aa _ _ _ _ _ (@af _ _ _ _) (@ah _) (by rfl)) (by rfl)) (by rfl)) (by decide) (by rfl) (by decide) (by rfl) (by rfl)) (by rfl) (by first | exact .inl rfl | exact .inr rfl | assumption)) (@aj _ _ _ _ _ (@aG _ _ (8) _ _ _ _ eL.nd rfl (Or.inl rfl) (@eU _ _ _ _ _ (@aa _ _ _ _ _ (@aX _ _ _ _) (@aa _ _ _ _ _ (@aF _ _ _ _ _ _ _ (aT K) (@pv _ 2 _ _ (by rfl) (by first | exact Or.inl rfl | exact Or.inr (Or.inl rfl) | exact Or.inr (Or.inr rfl)) (by decide) (by decide)) (@az _ _ _ _ _ _ _ _ d_ (@pv _ 5 _ _ (by rfl) (by first | exact Or.inl rfl | exact Or.inr (Or.inl rfl) | exact Or.inr (Or.inr rfl)) (by decide) (by decide)) (@af _ _ _ _)) (fun _ _=>rfl)) (@aa _ _ _ _ _ (@pv _ 6 _ _ (by rfl) (by first | exact Or.inl rfl | exact Or.inr (Or.inl rfl) | exact Or.inr (Or.inr rfl)) (by decide) (by decide)) (@aa _ _ _ _ _ (@pv _ 7 _ _ (by rfl) (by first | exact Or.inl rfl | exact Or.inr (Or.inl rfl) | exact Or.inr (Or.inr rfl)) (by decide) (by decide)) (@aa _ _ _ _ _ (@aR _ _ _ _ _ _ _ _ _ _ _ aK hr (@aa _ _ _ _ _ (@pv _ 0 _ _ (by rfl) (by first | exact Or.inl rfl | exact Or.inr (Or.inl rfl) | exact Or.inr (Or.inr rfl)) (by decide) (by decide)) (@aa _ _ _ _ _ (@az _ _ _ _ _ _ _ _ bG (@af _ _ _ _) (@pv _ 5 _ _ (by rfl) (by first | exact Or.inl rfl | exact Or.inr (Or.inl rfl) | exact Or.inr (Or.inr rfl)) (by decide) (by decide))) (@aa _ _ _ _ _ (@af _ _ _ _) (@aa _ _ _ _ _ (@af _ _ _ _) (@ah _) (by rfl)) (by rfl)) (by rfl)) (by rfl)) (by decide) (by rfl) (by decide) (by rfl) (by rfl)) (@ah _) (by rfl)) (by rfl)) (by rfl)) (by rfl)) (by rfl))) (by rfl) (by first | exact .inl rfl | exact .inr rfl | assumption)) (@aj _ _ _ _ _ (@aG _ _ (9) _ _ _ _ eL.nd rfl (Or.inl rfl) (@aR _ _ _ _ _ _ _ _ _ _ _ aK hr (@aa _ _ _ _ _ (@pv _ 0 _ _ (by rfl) (by first | exact Or.inl rfl | exact Or.inr (Or.inl rfl) | exact Or.inr (Or.inr rfl)) (by decide) (by decide)) (@aa _ _ _ _ _ (@az _ _ _ _ _ _ _ _ bG (@af _ _ _ _) (@pv _ 5 _ _ (by rfl) (by first | exact Or.inl rfl | exact Or.inr (Or.inl rfl) | exact Or.inr (Or.inr rfl)) (by decide) (by decide))) (@aa _ _ _ _ _ (@af _ _ _ _) (@aa _ _ _ _ _ (@af _ _ _ _) (@ah _) (by rfl)) (by rfl)) (by rfl)) (by rfl)) (by decide) (by rfl) (by decide) (by rfl) (by rfl)) (by rfl) (by first | exact .inl rfl | exact .inr rfl | assumption)) (@aj _ _ _ _ _ (@g_ _ _ _ _ _ _ _ _ (@aM _ _ _ _ _ _ _ _ lN (@pv _ 9 _ _ (by rfl) (by first | exact Or.inl rfl | exact Or.inr (Or.inl rfl) | exact Or.inr (Or.inr rfl)) (by decide) (by decide)) (@af _ _ _ _) (aY _)) (@ao _ _ _ (@aG _ _ (8) _ _ _ _ eL.nd rfl (Or.inl rfl) (@aR _ _ _ _ _ _ _ _ _ _ _ jk hr (@aa _ _ _ _ _ (@pv _ 0 _ _ (by rfl) (by first | exact Or.inl rfl | exact Or.inr (Or.inl rfl) | exact Or.inr (Or.inr rfl)) (by decide) (by decide)) (@aa _ _ _ _ _ (@az _ _ _ _ _ _ _ _ bG (@af _ _ _ _) (@pv _ 5 _ _ (by rfl) (by first | exact Or.inl rfl | exact Or.inr (Or.inl rfl) | exact Or.inr (Or.inr rfl)) (by decide) (by decide))) (@aa _ _ _ _ _ (@pv _ 4 _ _ (by rfl) (by first | exact Or.inl rfl | exact Or.inr (Or.inl rfl) | exact Or.inr (Or.inr rfl)) (by decide) (by decide)) (@aa _ _ _ _ _ (@pv _ 8 _ _ (by rfl) (by first | exact Or.inl rfl | exact Or.inr (Or.inl rfl) | exact Or.inr (Or.inr rfl)) (by decide) (by decide)) (@ah _) (by rfl)) (by rfl)) (by rfl)) (by rfl)) (by decide) (by rfl) (by decide) (by rfl) (by rfl)) (by rfl) (by first | exact .inl rfl | exact .inr rfl | assumption))) (@aJ _)) (@aj _ _ _ _ _ (@g_ _ _ _ _ _ _ _ _ (@aM _ _ _ _ _ _ _ _ lN (@pv _ 9 _ _ (by rfl) (by first | exact Or.inl rfl | exact Or.inr (Or.inl rfl) | exact Or.inr (Or.inr rfl)) (by decide) (by decide)) (@af _ _ _ _) (aY _)) (@ao _ _ _ (@aG _ _ (8) _ _ _ _ eL.nd rfl (Or.inl rfl) (@aR _ _ _ _ _ _ _ _ _ _ _ jk hr (@aa _ _ _ _ _ (@pv _ 0 _ _ (by rfl) (by first | exact Or.inl rfl | exact Or.inr (Or.inl rfl) | exact Or.inr (Or.inr rfl)) (by decide) (by decide)) (@aa _ _ _ _ _ (@az _ _ _ _ _ _ _ _ bG (@af _ _ _ _) (@pv _ 5 _ _ (by rfl) (by first | exact Or.inl rfl | exact Or.inr (Or.inl rfl) | exact Or.inr (Or.inr rfl)) (by decide) (by decide))) (@aa _ _ _ _ _ (@pv _ 4 _ _ (by rfl) (by first | exact Or.inl rfl | exact Or.inr (Or.inl rfl) | exact Or.inr (Or.inr rfl)) (by decide) (by decide)) (@aa _ _ _ _ _ (@pv _ 8 _ _ (by rfl) (by first | exact Or.inl rfl | exact Or.inr (Or.inl rfl) | exact Or.inr (Or.inr rfl)) (by decide) (by decide)) (@ah _) (by rfl)) (by rfl)) (by rfl)) (by rfl)) (by decide) (by rfl) (by decide) (by rfl) (by rfl)) (by rfl) (by first | exact .inl rfl | exact .inr rfl | assumption))) (@aJ _)) (@aj _ _ _ _ _ (@aG _ _ (10) _ _ _ _ eL.nd rfl (Or.inl rfl) (@aR _ _ _ _ _ _ _ _ _ _ _ ou hr (@aa _ _ _ _ _ (@pv _ 4 _ _ (by rfl) (by first | exact Or.inl rfl | exact Or.inr (Or.inl rfl) | exact Or.inr (Or.inr rfl)) (by decide) (by decide)) (@aa _ _ _ _ _ (@pv _ 8 _ _ (by rfl) (by first | exact Or.inl rfl | exact Or.inr (Or.inl rfl) | exact Or.inr (Or.inr rfl)) (by decide) (by decide)) (@ah _) (by rfl)) (by rfl)) (by decide) (by rfl) (by decide) (by rfl) (by rfl)) (by rfl) (by first | exact .inl rfl | exact .inr rfl | assumption)) (@aj _ _ _ _ _ (@aG _ _ (11) _ _ _ _ eL.nd rfl (Or.inl rfl) (@aR _ _ _ _ _ _ _ _ _ _ _ lM hr (@aa _ _ _ _ _ (@pv _ 3 _ _ (by rfl) (by first | exact Or.inl rfl | exact Or.inr (Or.inl rfl) | exact Or.inr (Or.inr rfl)) (by decide) (by decide)) (@aa _ _ _ _ _ (@pv _ 8 _ _ (by rfl) (by first | exact Or.inl rfl | exact Or.inr (Or.inl rfl) | exact Or.inr (Or.inr rfl)) (by decide) (by decide)) (@ah _) (by rfl)) (by rfl)) (by decide) (by rfl) (by decide) (by rfl) (by rfl)) (by rfl) (by first | exact .inl rfl | exact .inr rfl | assumption)) (@aj _ _ _ _ _ (@bh _ _ _ _ _ _ _ _ (PW.pt (@o9 _ _ _ _ _ _ _ (@aM _ _ _ _ _ _ _ _ CQ (@pv _ 10 _ _ (by rfl) (by first | exact Or.inl rfl | exact Or.inr (Or.inl rfl) | exact Or.inr (Or.inr rfl)) (by decide) (by decide)) (@af _ _ _ _) (aY _)) (@qE _ _ _ _ (@aM _ _ _ _ _ _ _ _ (qP K hr.units) (@pv _ 11 _ _ (by rfl) (by first | exact Or.inl rfl | exact Or.inr (Or.inl rfl) | exact Or.inr (Or.inr rfl)) (by decide) (by decide)) (@aR _ _ _ _ _ _ _ _ _ _ _ oz hr (@aa _ _ _ _ _ (@pv _ 10 _ _ (by rfl) (by first | exact Or.inl rfl | exact Or.inr (Or.inl rfl) | exact Or.inr (Or.inr rfl)) (by decide) (by decide)) (@ah _) (by rfl)) (by decide) (by rfl) (by decide) (by rfl) (by rfl)) (aY _))))) (@ao _ _ _ (@aD _ _ _ _ (@bW _ _ _ _))) (@aJ _)) (@aj _ _ _ _ _ (@g_ _ _ _ _ _ _ _ _ (@aM _ _ _ _ _ _ _ _ uc (@pv _ 10 _ _ (by rfl) (by first | exact Or.inl rfl | exact Or.inr (Or.inl rfl) | exact Or.inr (Or.inr rfl)) (by decide) (by decide)) (@af _ _ _ _) (aY _)) (@aj _ _ _ _ _ (@bh _ _ _ _ _ _ _ _ (@aM _ _ _ _ _ _ _ _ (qP K hr.units) (@pv _ 11 _ _ (by rfl) (by first | exact Or.inl rfl | exact Or.inr (Or.inl rfl) | exact Or.inr (Or.inr rfl)) (by decide) (by decide)) (@cI _ _ _ _ (@ah _)) (aY _)) (@ao _ _ _ (@aD _ _ _ _ (@bW _ _ _ _))) (@aJ _)) (@ao _ _ _ (@fD _ _ _ _ (@aR _ _ _ _ _ _ _ _ _ _ _ iK hr (@aa _ _ _ _ _ (@pv _ 4 _ _ (by rfl) (by first | exact Or.inl rfl | exact Or.inr (Or.inl rfl) | exact Or.inr (Or.inr rfl)) (by decide) (by decide)) (@aa _ _ _ _ _ (@aF _ _ _ _ _ _ _ (aO K) (@pv _ 8 _ _ (by rfl) (by first | exact Or.inl rfl | exact Or.inr (Or.inl rfl) | exact Or.inr (Or.inr rfl)) (by decide) (by decide)) (@af _ _ _ _) (fun _ _=>rfl)) (@aa _ _ _ _ _ (@aF _ _ _ _ _ _ _ (aO K) (@pv _ 8 _ _ (by rfl) (by first | exact Or.inl rfl | exact Or.inr (Or.inl rfl) | exact Or.inr (Or.inr rfl)) (by decide) (by decide)) (@af _ _ _ _) (fun _ _=>rfl)) (@aa _ _ _ _ _ (@aF _ _ _ _ _ _ _ (aO K) (@pv _ 8 _ _ (by rfl) (by first | exact Or.inl rfl | exact Or.inr (Or.inl rfl) | exact Or.inr (Or.inr rfl)) (by decide) (by decide)) (@af _ _ _ _) (fun _ _=>rfl)) (@aa _ _ _ _ _ (@aF _ _ _ _ _ _ _ (aO K) (@pv _ 8 _ _ (by rfl) (by first | exact Or.inl rfl | exact Or.inr (Or.inl rfl) | exact Or.inr (Or.inr rfl)) (by decide) (by decide)) (@af _ _ _ _) (fun _ _=>rfl)) (@ah _) (by rfl)) (by rfl)) (by rfl)) (by rfl)) (by rfl)) (by decide) (by rfl) (by decide) (by rfl) (by rfl)) (by rfl)))) (@aJ _)) (@ao _ _ _ (@bh _ _ _ _ _ _ _ _ (@bN _ _ _ _ (@bI _ _ _ (@aR _ _ _ _ _ _ _ _ _ _ _ lI hr (@aa _ _ _ _ _ (@pv _ 3 _ _ (by rfl) (by first | exact Or.inl rfl | exact Or.inr (Or.inl rfl) | exact Or.inr (Or.inr rfl)) (by decide) (by decide)) (@aa _ _ _ _ _ (@pv _ 4 _ _ (by rfl) (by first | exact Or.inl rfl | exact Or.inr (Or.inl rfl) | exact Or.inr (Or.inr rfl)) (by decide) (by decide)) (@ah _) (by rfl)) (by rfl)) (by decide) (by rfl) (by decide) (by rfl) (by rfl)) (by intro _;rfl))) (@ao _ _ _ (@aD _ _ _ _ (@bW _ _ _ _))) (@aJ _))))))))))))) (by intro _;rfl)) (@ao _ _ _ (@aD _ _ _ _ (@bW _ _ _ _)))))))),?_⟩
 refine ⟨_,rfl,_,rfl,bX hS h63 (by decide) (by decide) (by decide) (by decide) fun od _ o0 o1=>⟨_,_,rfl,rfl,?_⟩⟩
 obtain ⟨no,hno⟩:∃no:Nat,1 + od = (no:Int):=⟨(1 + od).toNat,by omega⟩
 refine w4 hno hS h63 (by decide) (by omega) fun zo O3 H1 g1 O4 _ Sj Mp Mq=>?_
 have CG:=g1.seq hS
 refine ⟨_,rfl,w4 (show (6:Int) = ((6:Nat):Int) from rfl) CG h63 (by decide) (by decide) fun zn O5 H2 g2 Mr _ Sk Ms Mt=>?_⟩
 have O6:=g2.seq CG
 have AI:=g2 _ _ O4
 rw [JQ] at AI Mr
 have dH:=Cp O3
 have hnl:=Cp O5
 have zk:=xr Mp
 have DW:=E_ Mq
 have SG:=xr Ms
 have Qs:=E_ Mt
 generalize uK O3 = own at *
 generalize uK O5 = nms at *
 clear Mp Mq Ms Mt O4
 refine ⟨_,rfl,⟨⟨zo,own,0,fun _=>none,rfl,aE.of AI,rfl,zk,fun o ho=>(DW o ho).isNm,by omega,(fun b c e=>by cases e),fun ρ3 A3 H3 qe F3=>?_⟩⟩⟩
 have o3:aC (out (fun _=>none) H2) (out ρ3 H3):=F3.out
 have Cw:=qe
 refine ⟨_,rfl,⟨⟨zo,own,1,ρ3,rfl,F3.seq (aE.of AI) rfl,qe.g,by omega,fun ρ4 B4 H4 G4 CJ k4=>?_⟩⟩⟩
 have F4:Fr 1 ρ3 H3 ρ4 H4:=fun b o e _=>k4 b o e
 have qf:=qe.other F4 G4 (by decide)
 have o4:=o3.trans F4.out
 have fS:=(lT.of O6).go o4
 have fN:=(lT.of (aE.of (K:=K) Mr)).go o4
 have RZ:=fS _ _ (aC.refl _)
 have Qt:(own.foldl cY hs0).kn = 0:=zS own hs0
 obtain ⟨O7,SH⟩:=Rc (own:=own) (by omega) (by omega) (fun o ho=>(DW o ho).isNm)
 generalize own.foldl cY hs0 = R0 at *
 generalize Me:A3.a = x
 generalize Mf:B4.m = mm
 have fO:=(lT.of (aE.of (K:=K) AI)).go o4
 have R1:∀o∈own,PyData.strOk o = true:=fun o ho=>(DW o ho).strOk
 clear Cw qe o3 F4 k4 o4 F3 RZ O6 CG AI Mr
 refine ⟨_,rfl,bX (fS _ _ (aC.refl _)) h63 (by decide) (by decide) (by decide) (by decide) fun cd _ c0 c1=>⟨_,_,rfl,rfl,?_⟩⟩
 refine ⟨_,rfl,by omega,by omega,?_⟩
 refine d9 (lo:=0) (n:=(1 + cd).toNat) (fun i σ H'=>∃ρ' A' B' st' b' s5 s6 s7 s8 s9 BZ IP,σ = [some (.ref a),some (.ref zo),some (.ref zn),some (.ref x),some (.ref mm),s5,s6,s7,s8,s9,BZ,IP]∧HH T 0 ρ' A' H' st'∧bf 1 ρ' B' H' b'∧kK 0 st' b'∧A'.a = x∧B'.m = mm∧b'.own = own∧st'.kn≤10000 * i∧b'.aq.length≤i∧b'.cL.length≤i∧lT K ρ' H' a (ns.map V.int)∧lT K ρ' H' zn (nms.map V.str)∧lT K ρ' H' zo (own.map V.str))
  ⟨ρ4,A3,B4,R0,_,_,_,_,_,_,_,_,rfl,qf,CJ,O7,Me,Mf,rfl,by rw [Qt];exact Nat.zero_le _,Nat.le_refl _,Nat.le_refl _,fS,fN,fO⟩ ?_ ?_
 · clear qf CJ O7 fS fN fO
   rintro i σ H6 hi ⟨ρ6,A6,B6,oS,b6,s5,s6,s7,s8,s9,BZ,IP,rfl,sr,xG,nG,Mh,CK,O8,O9,SI,SJ,Mu,Mv,Mw⟩
   have e0:(0:Int) + (i:Int) = ((i:Nat):Int):=by omega
   rw [e0]
   have IQ:=Mu _ _ (aC.refl _)
   have O_:=Mw _ _ (aC.refl _)
   have SK:(own.map V.str).length = own.length:=List.length_map _
   refine ⟨_,rfl,_,rfl,_,rfl,_,_,rfl,rfl,_,rfl,zo,_,rfl, .inl O_,bX IQ h63 (by omega) (by decide) (by decide) (by omega) fun d _ d0 d1=>?_⟩
   obtain ⟨jo,o,SM,eo,R3⟩:=G7 (l:=own) d0 (by omega)
   have R4:o∈own:=List.mem_of_getElem? eo
   refine ⟨zo,_,_,_,rfl,rfl,O_,R3,?_⟩
   refine ⟨_,rfl,_,rfl,_,_,rfl,rfl,GB IQ h63 (by omega) (by decide) (by decide) fun wo H7 w1 w2 g7=>?_⟩
   have Pa:=Mv _ _ (fT (ρ:=ρ6) g7)
   have Pb:=g7.seq IQ
   obtain ⟨v,hv,hat⟩:=z_ (xs:=nms.map V.str) (i:=(i:Int) % 6) (by rw [List.length_map];omega) (by rw [List.length_map];omega)
   obtain ⟨xn,hxn,rfl⟩:=List.mem_map.mp hv
   have R5:=nh (Qs xn hxn).isNm
   have how:=nh (DW o R4).isNm
   refine ⟨_,rfl,_,rfl,_,_,rfl,rfl,(by show (0:Int) < 6;decide),zn,_,_,_,rfl,rfl,Pa,hat,_,rfl,_,rfl,_,rfl,_,rfl,_,_,rfl,rfl,bX Pb h63 (by omega) (by decide) (by decide) (by decide) fun we _ v0 v1=>?_⟩
   refine ⟨(by show 5≤sizeLine;decide),fun z0 hz0=>?_⟩
   have g8:=av hz0 (.tup (Dd.v (.load xn o wo we)))
   have IS:upd H7 z0 (.tup (Dd.v (.load xn o wo we))) z0 = some (.tup (Dd.v (.load xn o wo we))):=ai
   have FL:=g7.trans g8
   show dI 8 (.ref z0) _ (upd H7 z0 (.tup (Dd.v (.load xn o wo we)))) _
   generalize upd H7 z0 (.tup (Dd.v (.load xn o wo we))) = H8 at IS FL
   clear g7 g8 hz0 Pa Pb
   have wX:=FL.seq IQ
   have SN:=sr.mono FL
   have Pc:=xG.mono FL
   have bk:=nG.bk sr.wf
   have My:pV (.load xn o wo we):=⟨R5,how,⟨by omega,by omega⟩,⟨by omega,by omega⟩⟩
   refine ⟨_,rfl,_,rfl,_,_,rfl,rfl,bX wX h63 (by omega) (by decide) (by decide) (by decide) fun way _ y0 y1=>?_⟩
   have R6:∀d:Dd,d.k = 1→d.v.length = 5:=fun d h=>by obtain ⟨_,_,_,_,rfl⟩:=d.CA h;rfl
   refine ⟨fun σ' H9=>∃(z:Addr) (d:Dd),σ' = [some (.ref a),some (.ref zo),some (.ref zn),some (.ref x),some (.ref mm),some (.int (i:Int)),some (.str o),some (.int wo),some (.ref z),some (.int way),BZ,IP]∧aC H8 H9∧H9 z = some (.tup d.v)∧pV d∧d.k = 1,?_,?_⟩
   · refine ⟨_,rfl,_,_,rfl,rfl,_,rfl,cX (fun _=>?_) (fun _=>?_)⟩
     · exact ⟨_,rfl,_,rfl,_,_,rfl,rfl,_,rfl,_,rfl,Ad (st:=oS) (c:=0) CK wX h63 (by omega) Pc bk (bF.of IS) My (by show 2≤5;decide) (by show 5≤115;decide) (by show 1 ≠ 9;decide) fun z' d' H' g hz bd ek _=>⟨z',d',rfl,g,hz,bd,ek⟩⟩
     · exact ⟨z0,_,rfl,aC.refl _,IS,My,rfl⟩
   clear My IS
   rintro σ H9 ⟨z,d,rfl,g9,Mz,MA,IT⟩
   have R7:=R6 d IT
   refine ⟨fun σ' wY=>∃(z:Addr) (d:Dd),σ' = [some (.ref a),some (.ref zo),some (.ref zn),some (.ref x),some (.ref mm),some (.int (i:Int)),some (.str o),some (.int wo),some (.ref z),some (.int way),BZ,IP]∧aC H8 wY∧wY z = some (.tup d.v)∧pV d∧d.k = 1,?_,?_⟩
   · refine ⟨_,rfl,_,_,rfl,rfl,_,rfl,cX (fun _=>?_) (fun _=>?_)⟩
     · exact ⟨_,rfl,_,rfl,_,_,rfl,rfl,_,rfl,_,rfl,Ad (st:=oS) (c:=0) CK (g9.seq wX) h63 (by omega) (Pc.mono g9) bk (bF.of Mz) MA (by omega) (by omega) (by omega) fun z' d' H' g hz bd ek _=>⟨z',d',rfl,g9.trans g,hz,bd,ek.trans IT⟩⟩
     · exact ⟨z,d,rfl,g9,Mz,MA,IT⟩
   clear Mz MA IT R7 g9 z d H9
   rintro σ SO ⟨z,d,rfl,gA,pL,MB,Pd⟩
   obtain ⟨xd,od,wd,sN,rfl⟩:=d.CA Pd
   clear Pd
   have MC:=FL.trans gA
   have MD:=sr.mono MC
   have Pe:=xG.mono MC
   have Pf:nU oS (.load xd od wd sN):=⟨Nat.le_trans MB.1 (by decide),by rw [nG.cL];omega,by rw [nG.rel.len];omega⟩
   refine ⟨_,rfl,_,rfl,⟨⟨1,ρ6,B6,b6,oS,z,_,by rw [CK];rfl,bF.of pL,Pe,nG.rel,sr.wf,nG.m_,nG.cL,Pf,MB,fun HB gB=>?_⟩⟩⟩
   have Pg:=gB _ _ pL
   refine ⟨_,rfl,_,rfl,Ft Mh (bF.of Pg) (MD.mono gB) Pf fun l ρC AC HC IU Ph FC sC IV=>?_⟩
   have oC:aC (out ρ6 H6) (out ρC HC):=(fT (MC.trans gB)).trans FC.out
   have Pj:=(Pe.mono gB).other FC (MD.mono gB).g (by decide)
   have SQ:=Mu.go oC
   have SR:=Mv.go oC
   have SS:=Mw.go oC
   have R8:=FC.tup (MD.mono gB).g _ _ Pg
   show dI 11 (.ref l) _ _ _
   have Cv:∀j,jL oS (.load xd od wd sN) = some j→j < 10:=fun j hj=>by rcases rY hj with rfl | rfl | rfl | rfl <;> decide
   have R9:∀{H:Hp} {r p:Addr} {Q:VK},H r = some (.lst [])→H p = some (.lst [])→Q (.bl false) H→C6 K (.ref r) (.ref p) H Q:=fun h1 h2 q=>⟨.list [], .list [], .lst (aE.of h1) .nil, .lst (aE.of h2) .nil,rfl,rfl,q⟩
   have jn:∀(D:Ends) (HD:Hp) (ρD:aQ) (AD:L2.HA) (BD:BA) (FN:HS) (bD:BS) (v10 v11:V),HH T 0 ρD AD HD FN→bf 1 ρD BD HD bD→kK 0 FN bD→AD.a = x→BD.m = mm→bD.own = own→FN.kn≤10000 * i→bD.aq.length≤i + 1→bD.cL.length≤i + 1→aC (out ρ6 H6) (out ρD HD)→
     (∀H' ρ' A' B' st' b',HH T 0 ρ' A' H' st'→bf 1 ρ' B' H' b'→kK 0 st' b'→A'.a = x→B'.m = mm→b'.own = own→st'.kn≤10000 * (i + 1)→b'.aq.length≤i + 1→b'.cL.length≤i + 1→lT K ρ' H' a (ns.map V.int)→lT K ρ' H' zn (nms.map V.str)→lT K ρ' H' zo (own.map V.str)→D.nx [some (.ref a),some (.ref zo),some (.ref zn),some (.ref x),some (.ref mm),some (.int (i:Int)),some (.str o),some (.int wo),some (.ref z),some (.int way),some v10,some v11] H')→
     Ke (Ka (tB (CY (iY 2 T K) [] E0 (ee (sP 3) (ee (sP 4) jF))))) (Kd (tC (V.bl false))) HN D [some (.ref a),some (.ref zo),some (.ref zn),some (.ref x),some (.ref mm),some (.int (i:Int)),some (.str o),some (.int wo),some (.ref z),some (.int way),some v10,some v11] HD:=by
    intro D HD ρD AD BD FN bD v10 v11 IW ME Pk Pn Po Pp SV R_ Sa oD Qu
    refine ⟨_,rfl,_,rfl,⟨⟨0,1,ρD,AD,BD,FN,bD,0,by rw [Pn,Po];rfl,by decide,IW,ME,Pk,by decide,fun o ho=>R1 o (by rw [← Pp];exact ho),by omega,fun ρE AE HE k MF hk FO Sb oE=>⟨_,rfl,bq ?_⟩⟩⟩⟩
    exact Qu HE ρE AE BD _ bD MF FO (Ip Pk k) (Sb.trans Pn) Po Pp (by show k≤_;omega) R_ Sa (Mu.go (oD.trans oE)) (Mv.go (oD.trans oE)) (Mw.go (oD.trans oE))
   cases hr:jL oS (.load xd od wd sN) with
   | some j=>
     have MG:kO oS (.load xd od wd sN) = oS:=by unfold kO;rw [hr]
     rw [MG] at IU
     rw [hr] at IV Cv
     refine ⟨_,rfl,_,_,rfl,rfl,_,rfl,cX (fun _=>?_) (fun c=>absurd (decide_eq_true (by show (0:Int)≤(j:Int);omega)) c)⟩
     refine ⟨_,rfl,_,rfl,J1 (n:=j) rfl fun p HD gD Sd=>J2 (r:=some j) (gD _ _ IV) Sd Cv ⟨_,rfl,bq ?_⟩⟩
     refine ⟨fun σ' H'=>σ' = [some (.ref a),some (.ref zo),some (.ref zn),some (.ref x),some (.ref mm),some (.int (i:Int)),some (.str o),some (.int wo),some (.ref z),some (.int way),some (.int (j:Int)),some (.ref l)]∧H' = HD,?_,?_⟩
     · exact ⟨_,rfl,_,_,rfl,rfl,_,rfl,cX (fun c=>absurd (of_decide_eq_true c) (by show ¬ (j:Int) < 0;omega)) (fun _=>⟨rfl,rfl⟩)⟩
     rintro σ H' ⟨rfl,rfl⟩
     exact jn _ _ ρC AC B6 oS b6 _ _ (IU.mono gD) (Pj.mono gD) nG Ph CK O8 O9 (by omega) (by omega) (oC.trans (fT gD)) fun H' ρ' A' B' st' b' k1 k2 k3 k4 k5 k6 k7 k8 k9 MH MI MJ=>⟨ρ',A',B',st',b',_,_,_,_,_,_,_,rfl,k1,k2,k3,k4,k5,k6,k7,k8,k9,MH,MI,MJ⟩
   | none=>
     have MG:kO oS (.load xd od wd sN) = ji oS xd od wd sN:=by unfold kO;rw [hr];rfl
     rw [MG] at IU
     rw [hr] at IV
     obtain ⟨hxn,hxk,Pq,hw1,SW⟩:=Fz hr
     refine ⟨_,rfl,_,_,rfl,rfl,_,rfl,cX (fun c=>absurd (of_decide_eq_true c) (by show ¬ (0:Int)≤-1;decide)) (fun _=>bq ?_)⟩
     refine ⟨fun σ' H'=>σ' = [some (.ref a),some (.ref zo),some (.ref zn),some (.ref x),some (.ref mm),some (.int (i:Int)),some (.str o),some (.int wo),some (.ref z),some (.int way),some (.int (-1)),some (.ref l)]∧∃ρ' B',HH T 0 ρ' AC H' (ji oS xd od wd sN)∧bf 1 ρ' B' H' (nT b6 xd od wd sN)∧B'.m = mm∧aC (out ρ6 H6) (out ρ' H'),?_,?_⟩
     · refine ⟨_,rfl,_,_,rfl,rfl,_,rfl,cX (fun _=>?_) (fun c=>absurd (decide_eq_true (by show (-1:Int) < 0;decide)) c)⟩
       refine ⟨_,rfl,(by show 0≤sizeLine;decide),fun p1 hp1=>?_⟩
       have gD:=av hp1 (.lst [])
       refine R9 (gD _ _ IV) ai ⟨_,rfl,bq ?_⟩
       have IZ:=gD _ _ R8
       have IW:=IU.mono gD
       have ME:=Pj.mono gD
       have oD:=oC.trans (fT (ρ:=ρC) gD)
       generalize upd HC p1 (.lst []) = HD at *
       refine ⟨_,rfl,_,rfl,z,_,_,_,rfl,rfl,bF.of IZ,a_ (j:=1) rfl,_,rfl,z,_,_,_,rfl,rfl,bF.of IZ,a_ (j:=2) rfl,_,rfl,z,_,_,_,rfl,rfl,bF.of IZ,a_ (j:=3) rfl,_,rfl,z,_,_,_,rfl,rfl,bF.of IZ,a_ (j:=4) rfl,?_⟩
       refine ⟨⟨1,ρC,B6,b6,xd,od,wd,sN,by rw [CK];rfl,IW.g,ME,by rw [← nG.rel.own];exact Pq,by have:=nG.m_.ol;omega,by omega,by omega,fun ρE BE HE GE FO MK FE=>?_⟩⟩
       exact ⟨rfl,ρE,BE,IW.other FE GE (by decide),FO,MK.trans CK,oD.trans FE.out⟩
     rintro σ HE ⟨rfl,ρE,BE,MF,FO,MK,oE⟩
     have hxb:xd ∉ b6.aq.map (fun p:BP=>p.nm):=fun hm=>by
      obtain ⟨p,hp,e⟩:=List.mem_map.mp hm
      have:=(nG.sub sr.wf hp).1
      rw [← nG.cL] at this
      exact hxk (by rw [← e];exact this)
     have Se:=JU nG sr.wf (we:=sN) hxb hw1 MB.2.2.1.2 (by omega) (by omega) hxn (by rw [← nG.rel.own];exact Pq)
     exact jn _ _ ρE AC BE _ _ _ _ MF FO Se Ph MK O8 O9 (by show (b6.aq ++ [_]).length≤i + 1;rw [List.length_append];show _ + 1≤_;omega) (by show (b6.cL ++ [_]).length≤i + 1;rw [List.length_append];show _ + 1≤_;omega) oE fun H' ρ' A' B' st' b' k1 k2 k3 k4 k5 k6 k7 k8 k9 MH MI MJ=>⟨ρ',A',B',st',b',_,_,_,_,_,_,_,rfl,k1,k2,k3,k4,k5,k6,k7,k8,k9,MH,MI,MJ⟩
 rintro σ H6 _
 exact q H6
end
theorem all_mk {l:PySem.W.OpenLaw} {w:World} {K:PySem.W.Frag} {h:Heap} {mg:Str→Option Value} {fa:Addr} (X:K.In h) (G:h.Ns mainGlobals mg) (Sf:mg "law" = some (.ref fa))
  {f:Addr} {od an:Option Addr} {sl:Array (Option Value)} {oc kV dc pm cd ct:Value}
  (a:PySem.W.nsIn K mainGlobals "law" = some (some (.ref f))) (l1:K.lookup f = some ⟨oc,od, .func (PySem.W.fnOf "law" "law" (cO iI) (bR iI) (au iI) .none kV dc pm an cd ct),sl⟩) (c:PySem.W.codeIn K cd "law" = true) (k:PySem.W.keepIn K (.ref f) = true)
  (d_common_factor:aN K "common_factor" gJ) (d_made_of:aN K "made_of" nV) (d_is_name:aN K "is_name" nW) (d__law_draw:aN K "_law_draw" lq) (d__law_name:aN K "_law_name" lu) (d__law_names:aN K "_law_names" jP) (d__law_much:aN K "_law_much" lz) (d__law_int:aN K "_law_int" mJ) (d__law_least:aN K "_law_least" jQ) (d__law_is:aN K "_law_is" nZ) (d__law_part_list:aN K "_law_part_list" gv) (d__law_share_list:aN K "_law_share_list" fY) (d__law_model:aN K "_law_model" jR) (d__law_seat:aN K "_law_seat" lB) (d__law_new_part:aN K "_law_new_part" gM) (d__law_tells_parts:aN K "_law_tells_parts" fG) (d__law_tells_landed:aN K "_law_tells_landed" fk) (d__law_tells:aN K "_law_tells" jU) (d__law_begin:aN K "_law_begin" jW) (d__law_is_name:aN K "_law_is_name" iB) (d__law_hot:aN K "_law_hot" mO) (d__law_hold_do:aN K "_law_hold_do" iC) (d__law_tried:aN K "_law_tried" jY) (d__law_due_new:aN K "_law_due_new" iG) (d__law_due_load:aN K "_law_due_load" gP) (d__law_due:aN K "_law_due" mP) (d__law_other_word:aN K "_law_other_word" f9) (d__law_other_number:aN K "_law_other_number" fm) (d__law_bent:aN K "_law_bent" lH)
  (z_len:PySem.W.nsIn K mainGlobals "len" = some none)
  (z_range:PySem.W.nsIn K mainGlobals "range" = some none)
  (z_sum:PySem.W.nsIn K mainGlobals "sum" = some none)
  (z_list:PySem.W.nsIn K mainGlobals "list" = some none)
  (z_zip:PySem.W.nsIn K mainGlobals "zip" = some none)
  (z_all:PySem.W.nsIn K mainGlobals "all" = some none)
  (z_int:PySem.W.nsIn K mainGlobals "int" = some none)
  (z_bool:PySem.W.nsIn K mainGlobals "bool" = some none)
  (z_str:PySem.W.nsIn K mainGlobals "str" = some none)
  (z_tuple:PySem.W.nsIn K mainGlobals "tuple" = some none)
  (z_abs:PySem.W.nsIn K mainGlobals "abs" = some none)
  (z_isinstance:PySem.W.nsIn K mainGlobals "isinstance" = some none)
  (z_min:PySem.W.nsIn K mainGlobals "min" = some none)
  (z_ValueError:PySem.W.nsIn K mainGlobals "ValueError" = some none)
  {DX:Tok} (b_LETTERS:PySem.W.nsIn K mainGlobals "LETTERS" = some (some (.str "abcdefghijklmnopqrstuvwxyz" DX)))
  {aP:Addr} (aC_Hold:PySem.W.nsIn K mainGlobals "Hold" = some (some (.ref aP))) (pg_Hold:PySem.W.plainGet K aP Str.empty = true) (hd_Hold:PySem.W.hasDictIn K aP = true) (po_Hold:PySem.W.plainOver K aP = true) (sa_Hold:PySem.W.findIn K (.ref aP) "__setattr__" = some (some (.builtin "object.__setattr__"))) (mk_Hold:PySem.W.makesIn K aP = true) (kc_Hold:PySem.W.keepIn K (.ref aP) = true)
  (d_Hold_init:bu K aP "__init__" "Hold.__init__" lg) (d_Hold_place_of:bu K aP "place_of" "Hold.place_of" gK) (d_Hold_part_of:bu K aP "part_of" "Hold.part_of" iu) (d_Hold_check_new:bu K aP "check_new" "Hold.check_new" gr) (d_Hold_roster:bu K aP "roster" "Hold.roster" i9) (d_Hold_parts:bu K aP "parts" "Hold.parts" jM) (d_Hold_whole:bu K aP "whole" "Hold.whole" jN) (d_Hold_beyond_common:bu K aP "beyond_common" "Hold.beyond_common" eX) (d_Hold_tops_of:bu K aP "tops_of" "Hold.tops_of" iy) (d_Hold_stow:bu K aP "stow" "Hold.stow" kW) (d_Hold_sign:bu K aP "sign" "Hold.sign" kX) (d_Hold_load:bu K aP "load" "Hold.load" kY) (d_Hold_shares:bu K aP "shares" "Hold.shares" ja) (d_Hold_landed:bu K aP "landed" "Hold.landed" je)
  (n_Hold_places:PySem.W.findIn K (.ref aP) "places" = some none)
  (n_Hold_aboard:PySem.W.findIn K (.ref aP) "aboard" = some none)
  (n_Hold_ashore:PySem.W.findIn K (.ref aP) "ashore" = some none)
  (n_Hold_names:PySem.W.findIn K (.ref aP) "names" = some none)
  (n_Hold_bottom:PySem.W.findIn K (.ref aP) "bottom" = some none)
  (n_Hold_common:PySem.W.findIn K (.ref aP) "common" = some none)
  (n_Hold_purses:PySem.W.findIn K (.ref aP) "purses" = some none)
  {br:Addr} (aC_Part:PySem.W.nsIn K mainGlobals "Part" = some (some (.ref br))) (pg_Part:PySem.W.plainGet K br Str.empty = true) (hd_Part:PySem.W.hasDictIn K br = true) (po_Part:PySem.W.plainOver K br = true) (sa_Part:PySem.W.findIn K (.ref br) "__setattr__" = some (some (.builtin "object.__setattr__"))) (mk_Part:PySem.W.makesIn K br = true) (kc_Part:PySem.W.keepIn K (.ref br) = true)
  (d_Part_init:bu K br "__init__" "Part.__init__" kT)
  (n_Part_name:PySem.W.findIn K (.ref br) "name" = some none)
  (n_Part_owner:PySem.W.findIn K (.ref br) "owner" = some none)
  (n_Part_worth:PySem.W.findIn K (.ref br) "worth" = some none)
  (n_Part_weight:PySem.W.findIn K (.ref br) "weight" = some none)
  (n_Part_scale:PySem.W.findIn K (.ref br) "scale" = some none)
  (n_Part_row:PySem.W.findIn K (.ref br) "row" = some none)
  {aW:Addr} (aC_Bottom:PySem.W.nsIn K mainGlobals "Bottom" = some (some (.ref aW))) (pg_Bottom:PySem.W.plainGet K aW Str.empty = true) (hd_Bottom:PySem.W.hasDictIn K aW = true) (po_Bottom:PySem.W.plainOver K aW = true) (sa_Bottom:PySem.W.findIn K (.ref aW) "__setattr__" = some (some (.builtin "object.__setattr__"))) (mk_Bottom:PySem.W.makesIn K aW = true) (kc_Bottom:PySem.W.keepIn K (.ref aW) = true)
  (d_Bottom_init:bu K aW "__init__" "Bottom.__init__" i6) (d_Bottom_over:bu K aW "over" "Bottom.over" i_) (d_Bottom_share:bu K aW "share" "Bottom.share" iA)
  (n_Bottom_steps:PySem.W.findIn K (.ref aW) "steps" = some none)
  (n_Bottom_product:PySem.W.findIn K (.ref aW) "product" = some none)
  (n_Bottom_known:PySem.W.findIn K (.ref aW) "known" = some none)
  {cA dh cC cN cE bK cS cT di cF bA:Addr}
  (bE_BadName:PySem.W.nsIn K mainGlobals "BadName" = some (some (.ref cA))) (bE_Twice:PySem.W.nsIn K mainGlobals "Twice" = some (some (.ref dh))) (bE_NoOwner:PySem.W.nsIn K mainGlobals "NoOwner" = some (some (.ref cC))) (bE_NoPart:PySem.W.nsIn K mainGlobals "NoPart" = some (some (.ref cN))) (bE_NoVoyage:PySem.W.nsIn K mainGlobals "NoVoyage" = some (some (.ref cE))) (bE_BadNumber:PySem.W.nsIn K mainGlobals "BadNumber" = some (some (.ref bK))) (bE_TooMuch:PySem.W.nsIn K mainGlobals "TooMuch" = some (some (.ref cS))) (bE_BadRows:PySem.W.nsIn K mainGlobals "BadRows" = some (some (.ref cT))) (bE_NoDeed:PySem.W.nsIn K mainGlobals "NoDeed" = some (some (.ref di))) (bE_BadPaper:PySem.W.nsIn K mainGlobals "BadPaper" = some (some (.ref cF))) (bE_JettisonError:PySem.W.nsIn K mainGlobals "JettisonError" = some (some (.ref bA)))
  (to_BadName:Told K (Ec.mk cA dh cC cN cE bK cS cT di cF bA) cA 0) (ox_BadName:PySem.W.excIn K cA [.type "ValueError", .type "Exception", .type "BaseException", .type "object"] "ValueError.__new__" = true)
  (to_Twice:Told K (Ec.mk cA dh cC cN cE bK cS cT di cF bA) dh 1) (ox_Twice:PySem.W.excIn K dh [.type "ValueError", .type "Exception", .type "BaseException", .type "object"] "ValueError.__new__" = true)
  (to_NoOwner:Told K (Ec.mk cA dh cC cN cE bK cS cT di cF bA) cC 2) (ox_NoOwner:PySem.W.excIn K cC [.type "ValueError", .type "Exception", .type "BaseException", .type "object"] "ValueError.__new__" = true)
  (to_BadNumber:Told K (Ec.mk cA dh cC cN cE bK cS cT di cF bA) bK 5) (ox_BadNumber:PySem.W.excIn K bK [.type "ValueError", .type "Exception", .type "BaseException", .type "object"] "ValueError.__new__" = true)
  (to_NoPart:Told K (Ec.mk cA dh cC cN cE bK cS cT di cF bA) cN 3) (ox_NoPart:PySem.W.excIn K cN [.type "ValueError", .type "Exception", .type "BaseException", .type "object"] "ValueError.__new__" = true)
  :∃fd:FuncData,(∀(s:Shared) (v:Value),BindsTo s fd ⟨[v],[]⟩ [("_law_script",v)])∧∀base:Heap,K.In base→base.Ns mainGlobals mg→dU l.prog w K mg base m5 8 fa fd ["_law_script"] (yl K):=by
 have e:=Sf.symm.trans (PySem.W.mg_of X G a)
 cases e
 have NN:=HX (st:=iI) X G a l1 c k
 obtain ⟨_,_,vn⟩:=d_common_factor.at X G
 obtain ⟨_,_,FP⟩:=d_made_of.at X G
 obtain ⟨_,_,FQ⟩:=d_is_name.at X G
 obtain ⟨_,_,Bs⟩:=d__law_draw.at X G
 obtain ⟨_,_,Bt⟩:=d__law_name.at X G
 obtain ⟨_,_,AJ⟩:=d__law_names.at X G
 obtain ⟨_,_,Bu⟩:=d__law_much.at X G
 obtain ⟨_,_,DY⟩:=d__law_int.at X G
 obtain ⟨_,_,AK⟩:=d__law_least.at X G
 obtain ⟨_,_,FT⟩:=d__law_is.at X G
 obtain ⟨_,_,tU⟩:=d__law_part_list.at X G
 obtain ⟨_,_,rE⟩:=d__law_share_list.at X G
 obtain ⟨_,_,AL⟩:=d__law_model.at X G
 obtain ⟨_,_,Bv⟩:=d__law_seat.at X G
 obtain ⟨_,_,vo⟩:=d__law_new_part.at X G
 obtain ⟨_,_,qC⟩:=d__law_tells_parts.at X G
 obtain ⟨_,_,oX⟩:=d__law_tells_landed.at X G
 obtain ⟨_,_,AM⟩:=d__law_tells.at X G
 obtain ⟨_,_,AN⟩:=d__law_begin.at X G
 obtain ⟨_,_,wm⟩:=d__law_is_name.at X G
 obtain ⟨_,_,DZ⟩:=d__law_hot.at X G
 obtain ⟨_,_,wu⟩:=d__law_hold_do.at X G
 obtain ⟨_,_,AO⟩:=d__law_tried.at X G
 obtain ⟨_,_,wz⟩:=d__law_due_new.at X G
 obtain ⟨_,_,vq⟩:=d__law_due_load.at X G
 obtain ⟨_,_,D0⟩:=d__law_due.at X G
 obtain ⟨_,_,rF⟩:=d__law_other_word.at X G
 obtain ⟨_,_,oY⟩:=d__law_other_number.at X G
 obtain ⟨_,_,Bw⟩:=d__law_bent.at X G
 have aV:=PySem.W.mg_none_of X G z_len
 have bw:=PySem.W.mg_none_of X G z_range
 have kh:=PySem.W.mg_none_of X G z_sum
 have bY:=PySem.W.mg_none_of X G z_list
 have ki:=PySem.W.mg_none_of X G z_zip
 have DK:=PySem.W.mg_none_of X G z_all
 have DO:=PySem.W.mg_none_of X G z_int
 have Au:=PySem.W.mg_none_of X G z_bool
 have fQ:=PySem.W.mg_none_of X G z_str
 have dZ:=PySem.W.mg_none_of X G z_tuple
 have DP:=PySem.W.mg_none_of X G z_abs
 have ay:=PySem.W.mg_none_of X G z_isinstance
 have DV:=PySem.W.mg_none_of X G z_min
 have lF:=PySem.W.mg_none_of X G z_ValueError
 have pX:=PySem.W.mg_of X G b_LETTERS
 obtain ⟨_,_,Bx⟩:=d_Hold_init.made X G aC_Hold mk_Hold kc_Hold
 obtain ⟨_,_,vt⟩:=d_Hold_place_of.at ⟨pg_Hold,hd_Hold,po_Hold,sa_Hold⟩
 obtain ⟨_,_,wA⟩:=d_Hold_part_of.at ⟨pg_Hold,hd_Hold,po_Hold,sa_Hold⟩
 obtain ⟨_,_,tV⟩:=d_Hold_check_new.at ⟨pg_Hold,hd_Hold,po_Hold,sa_Hold⟩
 obtain ⟨_,_,yb⟩:=d_Hold_roster.at ⟨pg_Hold,hd_Hold,po_Hold,sa_Hold⟩
 obtain ⟨_,_,AQ⟩:=d_Hold_parts.at ⟨pg_Hold,hd_Hold,po_Hold,sa_Hold⟩
 obtain ⟨_,_,AR⟩:=d_Hold_whole.at ⟨pg_Hold,hd_Hold,po_Hold,sa_Hold⟩
 obtain ⟨_,_,oA⟩:=d_Hold_beyond_common.at ⟨pg_Hold,hd_Hold,po_Hold,sa_Hold⟩
 obtain ⟨_,_,wB⟩:=d_Hold_tops_of.at ⟨pg_Hold,hd_Hold,po_Hold,sa_Hold⟩
 obtain ⟨_,_,By⟩:=d_Hold_stow.at ⟨pg_Hold,hd_Hold,po_Hold,sa_Hold⟩
 obtain ⟨_,_,BB⟩:=d_Hold_sign.at ⟨pg_Hold,hd_Hold,po_Hold,sa_Hold⟩
 obtain ⟨_,_,BC⟩:=d_Hold_load.at ⟨pg_Hold,hd_Hold,po_Hold,sa_Hold⟩
 obtain ⟨_,_,yc⟩:=d_Hold_shares.at ⟨pg_Hold,hd_Hold,po_Hold,sa_Hold⟩
 obtain ⟨_,_,yd⟩:=d_Hold_landed.at ⟨pg_Hold,hd_Hold,po_Hold,sa_Hold⟩
 obtain ⟨_,_,BF⟩:=d_Part_init.made X G aC_Part mk_Part kc_Part
 obtain ⟨_,_,ye⟩:=d_Bottom_init.made X G aC_Bottom mk_Bottom kc_Bottom
 obtain ⟨_,_,yf⟩:=d_Bottom_over.at ⟨pg_Bottom,hd_Bottom,po_Bottom,sa_Bottom⟩
 obtain ⟨_,_,wC⟩:=d_Bottom_share.at ⟨pg_Bottom,hd_Bottom,po_Bottom,sa_Bottom⟩
 have TX:Txt K ⟨aP,br,aW⟩:=⟨⟨pg_Hold,hd_Hold,po_Hold,sa_Hold⟩,⟨pg_Part,hd_Part,po_Part,sa_Part⟩,⟨pg_Bottom,hd_Bottom,po_Bottom,sa_Bottom⟩,n_Hold_places,n_Hold_aboard,n_Hold_ashore,n_Hold_names,n_Hold_bottom,n_Hold_common,n_Hold_purses,n_Part_name,n_Part_owner,n_Part_worth,n_Part_weight,n_Part_scale,n_Part_row,n_Bottom_steps,n_Bottom_product,n_Bottom_known⟩
 have eE:=PySem.W.mg_of X G bE_BadName
 have gi:=PySem.W.mg_of X G bE_Twice
 have gR:=PySem.W.mg_of X G bE_NoOwner
 have i7:=PySem.W.mg_of X G bE_NoPart
 have oh:=PySem.W.mg_of X G bE_NoVoyage
 have fF:=PySem.W.mg_of X G bE_BadNumber
 have qz:=PySem.W.mg_of X G bE_TooMuch
 have qA:=PySem.W.mg_of X G bE_BadRows
 have tS:=PySem.W.mg_of X G bE_NoDeed
 have oj:=PySem.W.mg_of X G bE_BadPaper
 have iF:=PySem.W.mg_of X G bE_JettisonError
 have gh:=dQ.of ox_BadName
 have i8:=dQ.of ox_Twice
 have nX:=dQ.of ox_NoOwner
 have k_:=dQ.of ox_BadNumber
 have pY:=dQ.of ox_NoPart
 refine ⟨PySem.W.fnOf "law" "law" (cO iI) (bR iI) (au iI) .none kV dc pm an cd ct,fun s v=> .of_eq rfl,fun base _ _=>?_⟩
 have iz:=tL (P:=l.prog) (w:=w) (base:=base) (mg:=mg) vn
 have pW:=DJ (P:=l.prog) (w:=w) (base:=base) (mg:=mg) FP DK
 have gS:=DM FQ pW aV pX
 have tP:=vW (P:=l.prog) (w:=w) (base:=base) (mg:=mg) (T:=⟨aP,br,aW⟩) ye TX
 have Ak:=Af (P:=l.prog) (w:=w) (base:=base) (mg:=mg) (T:=⟨aP,br,aW⟩) BF TX bY
 have AB:=An (T:=⟨aP,br,aW⟩) Bx TX tP
 have jO:=v7 (T:=⟨aP,br,aW⟩) yf TX iz
 have jd:=u0 (T:=⟨aP,br,aW⟩) wC TX jO
 have fh:=rz (P:=l.prog) (w:=w) (base:=base) (mg:=mg) (T:=⟨aP,br,aW⟩) (e:=⟨cA,dh,cC,cN,cE,bK,cS,cT,di,cF,bA⟩) vt TX nX gR
 have vv:=tN (P:=l.prog) (w:=w) (base:=base) (mg:=mg) (T:=⟨aP,br,aW⟩) (e:=⟨cA,dh,cC,cN,cE,bK,cS,cT,di,cF,bA⟩) wA TX pY i7
 have gu:=pZ (T:=⟨aP,br,aW⟩) (e:=⟨cA,dh,cC,cN,cE,bK,cS,cT,di,cF,bA⟩) tV TX gS gh eE i8 gi
 have jV:=vZ (P:=l.prog) (w:=w) (base:=base) (mg:=mg) (T:=⟨aP,br,aW⟩) yb TX bY
 have lD:=xQ (P:=l.prog) (w:=w) (base:=base) (mg:=mg) (T:=⟨aP,br,aW⟩) AQ TX
 have lE:=xS (P:=l.prog) (w:=w) (base:=base) (mg:=mg) (T:=⟨aP,br,aW⟩) AR TX kh
 have fj:=nt (P:=l.prog) (w:=w) (base:=base) (mg:=mg) (T:=⟨aP,br,aW⟩) oA TX ki
 have jc:=uW (P:=l.prog) (w:=w) (base:=base) (mg:=mg) (T:=⟨aP,br,aW⟩) wB TX ki
 have mH:=Aj (P:=l.prog) (w:=w) (base:=base) (mg:=mg) (T:=⟨aP,br,aW⟩) By TX
 have AS:=xT (T:=⟨aP,br,aW⟩) (e:=⟨cA,dh,cC,cN,cE,bK,cS,cT,di,cF,bA⟩) BB TX gS aV gh eE i8 gi
 have iD:=xU (T:=⟨aP,br,aW⟩) (e:=⟨cA,dh,cC,cN,cE,bK,cS,cT,di,cF,bA⟩) BC TX gu fh fj mH Ak aV k_ fF
 have I0:=Hx fh
 have jb:=Fv vv
 have mL:=JZ AS
 have MM:=J0 iD
 have jS:=v9 (T:=⟨aP,br,aW⟩) yc TX jb jc jd ki
 have jT:=wc (P:=l.prog) (w:=w) (base:=base) (mg:=mg) (T:=⟨aP,br,aW⟩) yd TX bY
 have aK:=Ao (P:=l.prog) (w:=w) (base:=base) (mg:=mg) Bs aV bw
 have jj:=Aq (P:=l.prog) (w:=w) (base:=base) (mg:=mg) Bt bw
 have iJ:=xY AJ aK jj bw
 have mQ:=As Bu aK
 have bZ:=Bj (P:=l.prog) (w:=w) (base:=base) (mg:=mg) DY ay DO Au
 have eY:=xZ (P:=l.prog) (w:=w) (base:=base) (mg:=mg) AK DP
 have qm:=DR FT bZ eY ay dZ aV
 have gO:=rB tU bZ ay bY dZ fQ bw aV
 have c7:=qj rE eY qm ay bY dZ fQ bw aV
 have lK:=x8 (P:=l.prog) (w:=w) (base:=base) (mg:=mg) AL bY
 have mK:=Ax (P:=l.prog) (w:=w) (base:=base) (mg:=mg) Bv aV bw
 have iK:=tR vo mK
 have fZ:=oU qC bZ gO c7 lD lE jS kh
 have fJ:=n_ oX bZ c7 jT ay bY dZ fQ bw aV
 have lI:=x9 AM fZ fJ jV ay bY
 have lJ:=x_ (T:=⟨aP,br,aW⟩) AN AB mL
 have jf:=u_ (P:=l.prog) (w:=w) (base:=base) (mg:=mg) wm aV
 have oz:=Bo (P:=l.prog) (w:=w) (base:=base) (mg:=mg) DZ bw
 have iE:=vf wu iD
 have ML:∀st d i,nU st d→jL st d = some i→Told K (Ec.mk cA dh cC cN cE bK cS cT di cF bA) ((Ec.mk cA dh cC cN cE bK cS cT di cF bA).at i) i:=fun st d i ha hr=>Fx to_BadName to_Twice to_NoOwner to_BadNumber ha hr
 have lM:=ya AO iE ML ay lF eE gi gR i7 oh fF qz qA tS oj iF
 have jg:=vh wz jf
 have iH:=tT vq jg
 have ou:=Bq D0 iH
 have gx:=qB rF aK aV
 have fK:=oq oY aK aV kh DV
 have jk:=AH Bw aK gx fK aV ay fQ
 exact Mm (T:=⟨aP,br,aW⟩) NN aK iJ lI lJ lK mQ jk ou lM oz iK aV bw
theorem walk {l:PySem.W.OpenLaw} {q:Program} {loose:List Str} {XP:(Str→Option Value)→Heap→Prop} {YP:World→Heap→Prop} {d:DefRec} {K:Params→PySem.W.Frag} (hn:l.most = some 63) (hdf:d.params.defaults = [])
  (hY:∀(w:World) (h:Heap),YP w h→(K w.params).In h)
  (F:∀(w:World) (mg:Str→Option Value) (fa:Addr) (h:Heap),(K w.params).In h→h.Ns mainGlobals mg→mg d.name = some (.ref fa)→
    ∃fd:FuncData,(∀(s:Shared) (u:Value),BindsTo s fd ⟨[u],[]⟩ [("_law_script",u)])∧∀base:Heap,(K w.params).In base→base.Ns mainGlobals mg→dU l.prog w (K w.params) mg base m5 8 fa fd ["_law_script"] (yl (K w.params))):
  PySem.W.WalkO q loose XP YP l.row.toRowW d [] (fun f vs=>PySem.call f vs):=
 L2.Jt (n:=63) (k:=8) (x:="_law_script") (CX:=fun _=>m5) (sp:=fun w=>yl (K w.params)) hn (by decide) hdf ⟨rfl,by decide,by decide⟩ hY F (fun _ _ a ns hl _ hS=>⟨a,ns,rfl,hS,hl,fun _=>rfl⟩) fun _ _ _ _ _ z=>z
end LO
namespace PySem.W.Fast
theorem tw17163166408237106115:True:=⟨⟩
theorem tw2735215828612530390:True:=⟨⟩
theorem tw3053610006033139892:True:=⟨⟩
theorem tw7745505400566207244:True:=⟨⟩
theorem tw7289268647903953960:True:=⟨⟩
theorem tw17183357190392922082:True:=⟨⟩
theorem tw13563897616771093371:True:=⟨⟩
theorem tw2732387488934536515:True:=⟨⟩
theorem tw12095348233110465689:True:=⟨⟩
theorem tw15740809578481554106:True:=⟨⟩
theorem tw536971267565691745:True:=⟨⟩
theorem tw11216736218377971397:True:=⟨⟩
theorem tw11696262584831234324:True:=⟨⟩
theorem tw6239003227099973975:True:=⟨⟩
theorem tw17563957042270442293:True:=⟨⟩
theorem tw7071697600780809989:True:=⟨⟩
theorem tw8484853124046844420:True:=⟨⟩
theorem tw8576436011011400483:True:=⟨⟩
theorem tw1205938792542207381:True:=⟨⟩
theorem tw8472423401657193292:True:=⟨⟩
theorem tw15359235831076926168:True:=⟨⟩
theorem tw2951821860960113005:True:=⟨⟩
theorem tw2770072556397361241:True:=⟨⟩
theorem tw5690159580000840265:True:=⟨⟩
theorem tw2307439701199324434:True:=⟨⟩
theorem tw16847474576969016419:True:=⟨⟩
theorem tw4528905726411605644:True:=⟨⟩
theorem tw1624706164120110979:True:=⟨⟩
theorem tw14340711202089960707:True:=⟨⟩
theorem tw3568299871977814677:True:=⟨⟩
theorem tw5640599476399641346:True:=⟨⟩
theorem tw17327077699272725170:True:=⟨⟩
theorem tw5186397095906358390:True:=⟨⟩
theorem tw1081488843354584427:True:=⟨⟩
theorem tw4667906368896566231:True:=⟨⟩
theorem tw15635929100748446089:True:=⟨⟩
theorem tw14010118078487206984:True:=⟨⟩
theorem tw14292897734611948577:True:=⟨⟩
theorem tw7436293039696590599:True:=⟨⟩
theorem tw3180694048314975897:True:=⟨⟩
theorem tw12119176219919814194:True:=⟨⟩
theorem tw6696342282345565716:True:=⟨⟩
theorem tw16648249222919435831:True:=⟨⟩
theorem tw3315975350774956884:True:=⟨⟩
theorem tw12046030905644435104:True:=⟨⟩
theorem tw2642975462458918762:True:=⟨⟩
theorem tw5866061707806647074:True:=⟨⟩
theorem tw13716358175113100130:True:=⟨⟩
theorem tw8882912508175660293:True:=⟨⟩
theorem tw11160679924051775211:True:=⟨⟩
theorem tw13918546556368012357:True:=⟨⟩
theorem tw9877852110440254535:True:=⟨⟩
theorem tw11999662705601303931:True:=⟨⟩
theorem tw222003215173526794:True:=⟨⟩
theorem tw13314241695323399196:True:=⟨⟩
theorem tw3308107592078886574:True:=⟨⟩
theorem tw18019575814330811941:True:=⟨⟩
theorem tw6133602694620238233:True:=⟨⟩
theorem tw9044652891600933004:True:=⟨⟩
theorem tw7446808625708655019:True:=⟨⟩
theorem tw2198134251396045506:True:=⟨⟩
theorem tw17724959325338278413:True:=⟨⟩
theorem tw1828882626801329180:True:=⟨⟩
theorem tw17501052573658786295:True:=⟨⟩
theorem tw11755678303799433570:True:=⟨⟩
theorem tw8928897263626479986:True:=⟨⟩
theorem tw1666917345606117857:True:=⟨⟩
theorem tw13795943827342075456:True:=⟨⟩
theorem tw10255162032071909845:True:=⟨⟩
theorem tw10026253352069426635:True:=⟨⟩
theorem tw14444444924992665507:True:=⟨⟩
theorem tw13700400661239219543:True:=⟨⟩
theorem tw1908603244372899854:True:=⟨⟩
theorem tw10372728723608778772:True:=⟨⟩
theorem tw8078912584616876024:True:=⟨⟩
theorem tw12412766730415861444:True:=⟨⟩
theorem tw8961257313687891084:True:=⟨⟩
theorem tw5286577835014496739:True:=⟨⟩
theorem tw276763351550534259:True:=⟨⟩
theorem tw3291957991320562908:True:=⟨⟩
theorem tw5751411967612701649:True:=⟨⟩
theorem tw2181452828961381031:True:=⟨⟩
theorem tw15676700168433793646:True:=⟨⟩
theorem tw3300292465484924756:True:=⟨⟩
theorem tw2866858997357544380:True:=⟨⟩
theorem tw9895592926233749131:True:=⟨⟩
theorem tw14951451484936767571:True:=⟨⟩
theorem tw9232398250134154379:True:=⟨⟩
theorem tw17051416808142048181:True:=⟨⟩
theorem tw120524886202005063:True:=⟨⟩
theorem tw16524712636054758716:True:=⟨⟩
theorem tw11342386787751175693:True:=⟨⟩
theorem tw5185878552646318659:True:=⟨⟩
theorem tw10881274640810127203:True:=⟨⟩
theorem tw4337040577801798100:True:=⟨⟩
theorem tw894103774912579949:True:=⟨⟩
theorem tw16545134923128847993:True:=⟨⟩
theorem tw14696466100367209203:True:=⟨⟩
theorem tw4295109391692845077:True:=⟨⟩
theorem tw5732133553441152107:True:=⟨⟩
theorem tw1898537563382644390:True:=⟨⟩
theorem tw14445778504773648933:True:=⟨⟩
theorem tw4959771859629757732:True:=⟨⟩
theorem tw10214031262369122662:True:=⟨⟩
theorem tw10826137473409726228:True:=⟨⟩
theorem tw6501413191372277240:True:=⟨⟩
theorem tw500446973671411177:True:=⟨⟩
theorem tw4167420957446314784:True:=⟨⟩
theorem tw2552514444817403166:True:=⟨⟩
theorem tw7918877002357389919:True:=⟨⟩
theorem tw7811794814939649301:True:=⟨⟩
theorem tw9741848936468701184:True:=⟨⟩
theorem tw3186921338146953281:True:=⟨⟩
theorem tw6745149179499081682:True:=⟨⟩
theorem tw13291983511443410811:True:=⟨⟩
theorem tw5196694915184577888:True:=⟨⟩
theorem tw12282846815560021430:True:=⟨⟩
theorem tw16035286418583678903:True:=⟨⟩
theorem tw7951072293313355752:True:=⟨⟩
theorem tw8410431694429869483:True:=⟨⟩
theorem tw320721964707459078:True:=⟨⟩
theorem tw14108562636739748067:True:=⟨⟩
theorem tw15439610586108108833:True:=⟨⟩
theorem tw15427846861728790043:True:=⟨⟩
theorem tw8327364240971860628:True:=⟨⟩
theorem tw2432674984738399471:True:=⟨⟩
theorem tw191541126165229409:True:=⟨⟩
theorem tw886627529630607881:True:=⟨⟩
theorem tw1790660762669417906:True:=⟨⟩
theorem tw14198098197472420413:True:=⟨⟩
theorem tw7767980216688915392:True:=⟨⟩
theorem tw15283034644496945235:True:=⟨⟩
theorem tw5765225795196957076:True:=⟨⟩
theorem tw1451538068114141779:True:=⟨⟩
theorem tw16190264913859476993:True:=⟨⟩
theorem tw8035487160813309641:True:=⟨⟩
theorem tw2771207638432853220:True:=⟨⟩
theorem tw12830945337350636837:True:=⟨⟩
theorem tw2321510325930252501:True:=⟨⟩
theorem tw4427817585774938229:True:=⟨⟩
theorem tw12893916958336332713:True:=⟨⟩
theorem tw14337760337961568775:True:=⟨⟩
theorem tw5537998099256324219:True:=⟨⟩
theorem tw14089934847197947900:True:=⟨⟩
theorem tw8575346351218727616:True:=⟨⟩
theorem tw10366563872845812470:True:=⟨⟩
theorem tw3772810433611174986:True:=⟨⟩
theorem tw10332491358028757430:True:=⟨⟩
theorem tw2828268779845509805:True:=⟨⟩
theorem tw4531011356861690591:True:=⟨⟩
theorem tw9153501740631194480:True:=⟨⟩
theorem tw6965804467609921761:True:=⟨⟩
theorem tw1590236636121479477:True:=⟨⟩
theorem tw1524621108701576391:True:=⟨⟩
theorem tw11434243673897665093:True:=⟨⟩
theorem tw7969917918160150100:True:=⟨⟩
theorem tw14292121273590361802:True:=⟨⟩
theorem tw14917657636562233780:True:=⟨⟩
theorem tw11892212144233982913:True:=⟨⟩
theorem tw10838590431777666070:True:=⟨⟩
theorem tw200685473246571926:True:=⟨⟩
theorem tw16436381089649108107:True:=⟨⟩
theorem tw11253288859452631170:True:=⟨⟩
theorem tw6692423143671641800:True:=⟨⟩
theorem tw12997005226808731277:True:=⟨⟩
theorem tw7100459497915722528:True:=⟨⟩
theorem tw2690977245230415882:True:=⟨⟩
theorem tw11049471430720596254:True:=⟨⟩
theorem tw17386562985360668651:True:=⟨⟩
theorem tw4159549177977215197:True:=⟨⟩
theorem tw15515937759278359092:True:=⟨⟩
theorem tw4453686718323919883:True:=⟨⟩
theorem tw2567481660516307551:True:=⟨⟩
theorem tw15660954448590025352:True:=⟨⟩
theorem tw2205204957449824937:True:=⟨⟩
theorem tw7824680834260697766:True:=⟨⟩
theorem tw4190017847641697805:True:=⟨⟩
theorem tw17508389709985429779:True:=⟨⟩
theorem tw15729630554006128364:True:=⟨⟩
theorem tw3404165082243867261:True:=⟨⟩
theorem tw13133528507512749029:True:=⟨⟩
theorem tw8578790718763640766:True:=⟨⟩
theorem tw3006481669114240794:True:=⟨⟩
theorem tw13913395105285646725:True:=⟨⟩
theorem tw269318595690197481:True:=⟨⟩
theorem tw7771755156051864169:True:=⟨⟩
theorem tw11431005904816055854:True:=⟨⟩
theorem tw15288041425156681470:True:=⟨⟩
theorem tw14064318168473018169:True:=⟨⟩
theorem tw893787929839155100:True:=⟨⟩
theorem tw8064367756318609598:True:=⟨⟩
theorem tw5302744398353041410:True:=⟨⟩
theorem tw8177833238410481590:True:=⟨⟩
theorem tw2405677813707871908:True:=⟨⟩
theorem tw13126961533025912833:True:=⟨⟩
theorem tw4178500001670264414:True:=⟨⟩
theorem tw900683862637775581:True:=⟨⟩
theorem tw6397597170687747635:True:=⟨⟩
theorem tw16211075958348720758:True:=⟨⟩
theorem tw18429531882415621036:True:=⟨⟩
theorem tw13071997911036460263:True:=⟨⟩
theorem tw48837231486439962:True:=⟨⟩
theorem tw7043449381545668511:True:=⟨⟩
theorem tw688726652063515153:True:=⟨⟩
theorem tw13250768331947580502:True:=⟨⟩
theorem tw10982892619764835364:True:=⟨⟩
theorem tw6929128436718319391:True:=⟨⟩
theorem tw14200271707749855684:True:=⟨⟩
theorem tw14364908871853214295:True:=⟨⟩
theorem tw10888215509574711633:True:=⟨⟩
theorem tw3185526034008886989:True:=⟨⟩
theorem tw1643165363287167087:True:=⟨⟩
theorem tw2538562741515197227:True:=⟨⟩
theorem tw17595551842445196033:True:=⟨⟩
theorem tw2400708264571641948:True:=⟨⟩
theorem tw6184563839900793269:True:=⟨⟩
theorem tw2242916623626364558:True:=⟨⟩
theorem tw655702407951498166:True:=⟨⟩
theorem tw12341245408420643800:True:=⟨⟩
theorem tw10409976172886760889:True:=⟨⟩
theorem tw7204779111859774283:True:=⟨⟩
theorem tw4742880932691507434:True:=⟨⟩
theorem tw17740861326061636175:True:=⟨⟩
theorem tw3954521210878874793:True:=⟨⟩
theorem tw10390170191906097072:True:=⟨⟩
theorem tw106727897072127875:True:=⟨⟩
theorem tw16700422805600380087:True:=⟨⟩
theorem tw12365746080311963578:True:=⟨⟩
theorem tw9437478421516740148:True:=⟨⟩
theorem tw8862138979461089044:True:=⟨⟩
theorem tw16484601069026706022:True:=⟨⟩
theorem tw1064543747751200842:True:=⟨⟩
theorem tw7209390033607358819:True:=⟨⟩
theorem tw3115368829236436970:True:=⟨⟩
theorem tw18059678335825684504:True:=⟨⟩
theorem tw4088873838399422424:True:=⟨⟩
theorem tw5274007577935563432:True:=⟨⟩
theorem tw7643658890234209056:True:=⟨⟩
theorem tw12238353912532017372:True:=⟨⟩
theorem tw9845413225970131186:True:=⟨⟩
theorem tw13043529059680143652:True:=⟨⟩
theorem tw3756773819918369861:True:=⟨⟩
theorem tw9286903344958674130:True:=⟨⟩
theorem tw15405805577783982500:True:=⟨⟩
theorem tw15833451869511968118:True:=⟨⟩
theorem tw3249039493468100645:True:=⟨⟩
theorem tw4017497610503596460:True:=⟨⟩
theorem tw9710435442022321004:True:=⟨⟩
theorem tw2001545778142216823:True:=⟨⟩
theorem tw12097462646182594644:True:=⟨⟩
theorem tw354755316389373321:True:=⟨⟩
theorem tw16692103039325120305:True:=⟨⟩
theorem tw10033844785050476758:True:=⟨⟩
theorem tw5202786978599751056:True:=⟨⟩
theorem tw5211601051155206531:True:=⟨⟩
theorem tw4665436656761701226:True:=⟨⟩
theorem tw15625196568149479327:True:=⟨⟩
theorem tw11416030774585763160:True:=⟨⟩
theorem tw4057718579396159600:True:=⟨⟩
theorem tw10219698615389187132:True:=⟨⟩
theorem tw18358942770612600816:True:=⟨⟩
theorem tw2423714695600460038:True:=⟨⟩
theorem tw6473720372623888007:True:=⟨⟩
theorem tw4838004222539299096:True:=⟨⟩
theorem tw17160672285496960282:True:=⟨⟩
theorem tw12529833113477635470:True:=⟨⟩
theorem tw778070835010456864:True:=⟨⟩
theorem tw14856296828589933788:True:=⟨⟩
theorem tw9624771543589677918:True:=⟨⟩
theorem tw601300954899483764:True:=⟨⟩
theorem tw6798213599353241605:True:=⟨⟩
theorem tw17811250899748096066:True:=⟨⟩
theorem tw16744473925328502814:True:=⟨⟩
theorem tw9782681147880803907:True:=⟨⟩
theorem tw2129816787472989283:True:=⟨⟩
theorem tw14802238423214084439:True:=⟨⟩
theorem tw3565918533680297272:True:=⟨⟩
theorem tw16995764792721483878:True:=⟨⟩
theorem tw14026706299877488992:True:=⟨⟩
theorem tw8341647687343694782:True:=⟨⟩
theorem tw10930427188332266695:True:=⟨⟩
theorem tw6046821411435280792:True:=⟨⟩
theorem tw9888664961989851497:True:=⟨⟩
theorem tw4494051572640889677:True:=⟨⟩
theorem tw8048346448425073670:True:=⟨⟩
theorem tw10964000778525529325:True:=⟨⟩
theorem tw10693538279127546867:True:=⟨⟩
theorem tw1288484178999833691:True:=⟨⟩
theorem tw16564057693458808004:True:=⟨⟩
theorem tw982772626588504342:True:=⟨⟩
theorem tw4709019780148023906:True:=⟨⟩
theorem tw7252948048377924787:True:=⟨⟩
theorem tw836413211467988495:True:=⟨⟩
theorem tw6330894803319481725:True:=⟨⟩
theorem tw11242559018574549295:True:=⟨⟩
theorem tw2162052253789070068:True:=⟨⟩
theorem tw13885652625821162440:True:=⟨⟩
theorem tw16996308327769028721:True:=⟨⟩
theorem tw16147628297843822056:True:=⟨⟩
theorem tw15375471645630594866:True:=⟨⟩
theorem tw9231346517963582824:True:=⟨⟩
theorem tw4200415246035142327:True:=⟨⟩
theorem tw11520705682855844350:True:=⟨⟩
theorem tw12124179397208304115:True:=⟨⟩
theorem tw5239621845829609543:True:=⟨⟩
theorem tw11477634779645145181:True:=⟨⟩
theorem tw9224208808411000481:True:=⟨⟩
theorem tw9290312957325260311:True:=⟨⟩
theorem tw16746014321068627690:True:=⟨⟩
theorem tw4610650423887876973:True:=⟨⟩
theorem tw4271025745061058776:True:=⟨⟩
theorem tw17808607317244006624:True:=⟨⟩
theorem tw8258207444193748111:True:=⟨⟩
theorem tw1098882414169667949:True:=⟨⟩
theorem tw17861917732933143236:True:=⟨⟩
theorem tw15190822361371397393:True:=⟨⟩
theorem tw7571311178607858960:True:=⟨⟩
theorem tw16418648378504603057:True:=⟨⟩
theorem tw13395931347792292520:True:=⟨⟩
theorem tw16410383742372112905:True:=⟨⟩
theorem tw5214155258754252962:True:=⟨⟩
theorem tw17881555489589820610:True:=⟨⟩
theorem tw6094908153342531487:True:=⟨⟩
theorem tw2413079332443720710:True:=⟨⟩
theorem tw8093545756260415546:True:=⟨⟩
theorem tw12656512570495244324:True:=⟨⟩
theorem tw2703085683155971563:True:=⟨⟩
theorem tw15293496657471422836:True:=⟨⟩
theorem tw8303054773208707819:True:=⟨⟩
theorem tw8016131845835483848:True:=⟨⟩
theorem tw5546328233515982186:True:=⟨⟩
theorem tw14815338529725795674:True:=⟨⟩
theorem tw17282316414217736262:True:=⟨⟩
theorem tw8464788911953338063:True:=⟨⟩
theorem tw12809838540196049702:True:=⟨⟩
theorem tw9032916975437570926:True:=⟨⟩
theorem tw15310400498396323447:True:=⟨⟩
theorem tw14870958226202019256:True:=⟨⟩
theorem tw10214480155066515221:True:=⟨⟩
theorem tw16003755538007793309:True:=⟨⟩
theorem tw2670776033362394549:True:=⟨⟩
theorem tw13297525529278803731:True:=⟨⟩
theorem tw8590350654157250952:True:=⟨⟩
theorem tw4154978394416651790:True:=⟨⟩
theorem tw4894044606513164542:True:=⟨⟩
theorem tw16351272525434862848:True:=⟨⟩
theorem tw585611098700104136:True:=⟨⟩
theorem tw15497984603417724482:True:=⟨⟩
theorem tw7850919394357189597:True:=⟨⟩
theorem tw2036711507272756627:True:=⟨⟩
theorem tw3360334866324064424:True:=⟨⟩
theorem tw12487796340840059075:True:=⟨⟩
theorem tw15579257776359696998:True:=⟨⟩
theorem tw502471079423266390:True:=⟨⟩
theorem tw17571503108859016619:True:=⟨⟩
theorem tw14972830649541978283:True:=⟨⟩
theorem tw13770974206543069851:True:=⟨⟩
theorem tw9475875968983226000:True:=⟨⟩
theorem tw727708236442904447:True:=⟨⟩
theorem tw7882707754095085500:True:=⟨⟩
theorem tw1250819113674641890:True:=⟨⟩
theorem tw5693933879965444750:True:=⟨⟩
theorem tw13522274883966430954:True:=⟨⟩
theorem tw10096614523529408431:True:=⟨⟩
theorem tw16390105701097856668:True:=⟨⟩
theorem tw9383020972118767201:True:=⟨⟩
theorem tw9186295366472052281:True:=⟨⟩
theorem tw17247739046516141161:True:=⟨⟩
theorem tw3789539864803737928:True:=⟨⟩
theorem tw11306598402745744066:True:=⟨⟩
theorem tw10366749243035474540:True:=⟨⟩
theorem tw13069696799763326835:True:=⟨⟩
theorem tw5758727323982138827:True:=⟨⟩
theorem tw6555035268453594379:True:=⟨⟩
theorem tw7673502194853610285:True:=⟨⟩
theorem tw5483334095797403668:True:=⟨⟩
theorem tw12049100947029657984:True:=⟨⟩
theorem tw7968199516516948207:True:=⟨⟩
theorem tw17110358018579641046:True:=⟨⟩
theorem tw1207088406504833975:True:=⟨⟩
theorem tw5867791372390526107:True:=⟨⟩
theorem tw4538296852343628777:True:=⟨⟩
theorem tw16562059454491108603:True:=⟨⟩
theorem tw10855637627409575827:True:=⟨⟩
theorem tw12935246546046327014:True:=⟨⟩
theorem tw4045640308685300187:True:=⟨⟩
theorem tw2585453673217805800:True:=⟨⟩
theorem tw14009779665818686266:True:=⟨⟩
theorem tw13360584623475602027:True:=⟨⟩
theorem tw13618717385466597313:True:=⟨⟩
theorem tw2787475997288244235:True:=⟨⟩
theorem tw2864422847359895105:True:=⟨⟩
theorem tw13263596723985135557:True:=⟨⟩
theorem tw1489460510349417140:True:=⟨⟩
theorem tw16217509485969067957:True:=⟨⟩
theorem tw14297748113973378422:True:=⟨⟩
theorem tw15921918897309594665:True:=⟨⟩
theorem tw18430196125343872157:True:=⟨⟩
theorem tw11607722160414672629:True:=⟨⟩
theorem tw13784372534395405755:True:=⟨⟩
theorem tw2680646476651738970:True:=⟨⟩
theorem tw14151431761495916907:True:=⟨⟩
theorem tw6402193730743776865:True:=⟨⟩
theorem tw13889086598642085929:True:=⟨⟩
theorem tw9509527159210986081:True:=⟨⟩
theorem tw16115680029508633484:True:=⟨⟩
theorem tw12358179994447512881:True:=⟨⟩
theorem tw18163185816970044305:True:=⟨⟩
theorem tw4856372074867805498:True:=⟨⟩
theorem tw17821071447347225736:True:=⟨⟩
theorem tw3365535994559818731:True:=⟨⟩
theorem tw10695473882862707979:True:=⟨⟩
theorem tw5472631491798483513:True:=⟨⟩
theorem tw14151264540243352408:True:=⟨⟩
theorem tw6418650112027758867:True:=⟨⟩
theorem tw18350592569501243792:True:=⟨⟩
theorem tw15135592375500977877:True:=⟨⟩
theorem tw3453329158560235597:True:=⟨⟩
theorem tw14085304015984002910:True:=⟨⟩
theorem tw8926357576728033336:True:=⟨⟩
theorem tw1792725154438455389:True:=⟨⟩
theorem tw12233219904545894770:True:=⟨⟩
theorem tw10842422735977300462:True:=⟨⟩
theorem tw4379331618384602697:True:=⟨⟩
theorem tw1494169846866172389:True:=⟨⟩
theorem tw13405796398098238463:True:=⟨⟩
theorem tw7002342472577068259:True:=⟨⟩
theorem tw15859466183385649492:True:=⟨⟩
theorem tw10368721674248580826:True:=⟨⟩
theorem tw10212902908538939079:True:=⟨⟩
theorem tw3141203420933647528:True:=⟨⟩
theorem tw3418622087353979391:True:=⟨⟩
theorem tw5458670257549281182:True:=⟨⟩
theorem tw15073018566351732718:True:=⟨⟩
theorem tw3009088042864417546:True:=⟨⟩
theorem tw6290234539916335991:True:=⟨⟩
theorem tw11151183769160048685:True:=⟨⟩
theorem tw4966040942327313426:True:=⟨⟩
theorem tw17505006935951261061:True:=⟨⟩
theorem tw3246120564256279836:True:=⟨⟩
theorem tw16099874773693655641:True:=⟨⟩
theorem tw17564127820065559360:True:=⟨⟩
theorem tw16790106938206620174:True:=⟨⟩
theorem tw2170232112111136452:True:=⟨⟩
theorem tw16266265347597202779:True:=⟨⟩
theorem tw4456251091919551175:True:=⟨⟩
theorem tw6249718648512133591:True:=⟨⟩
theorem tw693484338986526550:True:=⟨⟩
theorem tw5360685613986295716:True:=⟨⟩
theorem tw11410058603970482504:True:=⟨⟩
theorem tw18119915180636173193:True:=⟨⟩
theorem tw2461438341017370678:True:=⟨⟩
theorem tw13163530307852590176:True:=⟨⟩
theorem tw14806712804951095330:True:=⟨⟩
theorem tw11243531187429000838:True:=⟨⟩
theorem tw11370357881078838652:True:=⟨⟩
theorem tw962779451248961669:True:=⟨⟩
theorem tw18116492259534322877:True:=⟨⟩
theorem tw11398986193138900941:True:=⟨⟩
theorem tw7183399836875569436:True:=⟨⟩
theorem tw7429651396046742169:True:=⟨⟩
theorem tw17365023428908134253:True:=⟨⟩
theorem tw1665511095426807089:True:=⟨⟩
theorem tw17208371023138924393:True:=⟨⟩
theorem tw12756060638475682130:True:=⟨⟩
theorem tw14824094330898860985:True:=⟨⟩
theorem tw3305774858113025005:True:=⟨⟩
theorem tw15174614869343967184:True:=⟨⟩
theorem tw16928336905728360956:True:=⟨⟩
theorem tw11646512435872732735:True:=⟨⟩
theorem tw15205847204565675138:True:=⟨⟩
theorem tw9262927228715729693:True:=⟨⟩
theorem tw4119092619503816678:True:=⟨⟩
theorem tw512160851326400787:True:=⟨⟩
theorem tw6117803022103177451:True:=⟨⟩
theorem tw7973199110850476241:True:=⟨⟩
theorem tw274799689108527494:True:=⟨⟩
theorem tw2820467782396458536:True:=⟨⟩
theorem tw9163315209812698419:True:=⟨⟩
theorem tw15925690414904450216:True:=⟨⟩
theorem tw12480319712565059757:True:=⟨⟩
theorem tw10671785072710365910:True:=⟨⟩
theorem tw2337312520635609041:True:=⟨⟩
theorem tw2824766564960866124:True:=⟨⟩
theorem tw9418608480536715851:True:=⟨⟩
theorem tw5002455616934115872:True:=⟨⟩
theorem tw1150393673344032593:True:=⟨⟩
theorem tw478641292349525340:True:=⟨⟩
theorem tw6936376169848876086:True:=⟨⟩
theorem tw6197132126949407263:True:=⟨⟩
theorem tw10655510245128342835:True:=⟨⟩
theorem tw10339763420842848199:True:=⟨⟩
theorem tw12940862700602000534:True:=⟨⟩
theorem tw9078951392017203044:True:=⟨⟩
theorem tw5370358985926650388:True:=⟨⟩
theorem tw4382715083861861143:True:=⟨⟩
theorem tw17280555253772565762:True:=⟨⟩
theorem tw9434244856724034317:True:=⟨⟩
theorem tw14794710708176224452:True:=⟨⟩
theorem tw4740609651379079460:True:=⟨⟩
theorem tw11925238497212313801:True:=⟨⟩
theorem tw5118119351877299620:True:=⟨⟩
theorem tw2338113155484837218:True:=⟨⟩
theorem tw13403113492845997705:True:=⟨⟩
theorem tw8930073891732943942:True:=⟨⟩
theorem tw2954506615362731613:True:=⟨⟩
theorem tw2091960249143308540:True:=⟨⟩
theorem tw7301718794408852528:True:=⟨⟩
theorem tw15214060605549902158:True:=⟨⟩
theorem tw12360295087058455878:True:=⟨⟩
theorem tw16811149931790026647:True:=⟨⟩
theorem tw3641301569015434045:True:=⟨⟩
theorem tw16054628115953108514:True:=⟨⟩
theorem tw6344121465985541662:True:=⟨⟩
theorem tw11487669426328614482:True:=⟨⟩
theorem tw16727644415128368950:True:=⟨⟩
theorem tw4348883149548018866:True:=⟨⟩
theorem tw3942035241861446063:True:=⟨⟩
theorem tw314840991724932632:True:=⟨⟩
theorem tw107123369380212682:True:=⟨⟩
theorem tw4399864613726349963:True:=⟨⟩
theorem tw16681154528709481202:True:=⟨⟩
theorem tw7809845146934266900:True:=⟨⟩
theorem tw16208983029076903822:True:=⟨⟩
theorem tw3665288699760076919:True:=⟨⟩
theorem tw6655530563841056358:True:=⟨⟩
theorem tw5563142523557497022:True:=⟨⟩
theorem tw10489837366992156405:True:=⟨⟩
theorem tw3879338155226393127:True:=⟨⟩
theorem tw8671097672203192863:True:=⟨⟩
theorem tw1335291626997015801:True:=⟨⟩
theorem tw3733117269223852922:True:=⟨⟩
theorem tw17351559370467035929:True:=⟨⟩
theorem tw15579231846271312788:True:=⟨⟩
theorem tw3807751241960995593:True:=⟨⟩
theorem tw1168126349246495491:True:=⟨⟩
theorem tw8081745988367640683:True:=⟨⟩
theorem tw16198818541883492509:True:=⟨⟩
theorem tw16683611482259973960:True:=⟨⟩
theorem tw894584301492436949:True:=⟨⟩
theorem tw717227504918055173:True:=⟨⟩
theorem tw5092413255080079768:True:=⟨⟩
theorem tw6011306696279305820:True:=⟨⟩
theorem tw2298282948010199947:True:=⟨⟩
theorem tw16305285296292837153:True:=⟨⟩
theorem tw8866965230694026219:True:=⟨⟩
theorem tw9497257160768842181:True:=⟨⟩
theorem tw11661313544254253706:True:=⟨⟩
theorem tw6488273842432323730:True:=⟨⟩
theorem tw18327615667067641820:True:=⟨⟩
theorem tw800204040092025573:True:=⟨⟩
theorem tw15292676847147156259:True:=⟨⟩
theorem tw5335214663106768951:True:=⟨⟩
theorem tw4948643873738769259:True:=⟨⟩
theorem tw18085450540952285612:True:=⟨⟩
theorem tw11163791536061057481:True:=⟨⟩
theorem tw16886765779159834627:True:=⟨⟩
theorem tw13310918737080685359:True:=⟨⟩
theorem tw8819578152164930891:True:=⟨⟩
theorem tw13790660817490778020:True:=⟨⟩
theorem tw7426317808696935082:True:=⟨⟩
theorem tw12286001905740422354:True:=⟨⟩
theorem tw12575238399126899286:True:=⟨⟩
theorem tw12500020838007638704:True:=⟨⟩
theorem tw11982297173554931995:True:=⟨⟩
theorem tw4017970816587810920:True:=⟨⟩
theorem tw2969193823468337131:True:=⟨⟩
theorem tw15159757681341118318:True:=⟨⟩
theorem tw13378307879346714322:True:=⟨⟩
theorem tw14396719732811280582:True:=⟨⟩
theorem tw3862599024996490950:True:=⟨⟩
theorem tw4358673050609497208:True:=⟨⟩
theorem tw17593357012140571912:True:=⟨⟩
theorem tw15238620833172399549:True:=⟨⟩
theorem tw278950839226009435:True:=⟨⟩
theorem tw8751694671591775136:True:=⟨⟩
theorem tw5782930616421979512:True:=⟨⟩
theorem tw6701238385399350479:True:=⟨⟩
theorem tw17372018014222324113:True:=⟨⟩
theorem tw12535403070017217133:True:=⟨⟩
theorem tw11358706021008052339:True:=⟨⟩
theorem tw7438074151719004587:True:=⟨⟩
theorem tw17454592906358785697:True:=⟨⟩
theorem tw2227632819467026050:True:=⟨⟩
theorem tw9052723782967267514:True:=⟨⟩
theorem tw17735533161535153781:True:=⟨⟩
theorem tw10838243475438120932:True:=⟨⟩
theorem tw2861863014344718322:True:=⟨⟩
theorem tw4814123024055787968:True:=⟨⟩
theorem tw4980430420311075909:True:=⟨⟩
theorem tw18441843620920543285:True:=⟨⟩
theorem tw4101730014319944301:True:=⟨⟩
theorem tw11985675567243252514:True:=⟨⟩
theorem tw14927419932435167711:True:=⟨⟩
theorem tw7008802456222216501:True:=⟨⟩
theorem tw6898637574532259974:True:=⟨⟩
theorem tw10967573517151532066:True:=⟨⟩
theorem tw1433868172680095836:True:=⟨⟩
theorem tw4673979738320249466:True:=⟨⟩
theorem tw15333435725214767138:True:=⟨⟩
theorem tw6302821515002560508:True:=⟨⟩
theorem tw9573982420658269263:True:=⟨⟩
theorem tw1775452705226966829:True:=⟨⟩
theorem tw1339507314422430328:True:=⟨⟩
theorem tw14382522180201124878:True:=⟨⟩
theorem tw6559407894618556575:True:=⟨⟩
theorem tw1950329626618853309:True:=⟨⟩
theorem tw2617688455996141992:True:=⟨⟩
theorem tw2601553272582808559:True:=⟨⟩
theorem tw8546754677289871246:True:=⟨⟩
theorem tw10762514523944297839:True:=⟨⟩
theorem tw18031285192351575412:True:=⟨⟩
theorem tw9364481313994040100:True:=⟨⟩
theorem tw15512645116107288920:True:=⟨⟩
theorem tw7744462038350053470:True:=⟨⟩
theorem tw4882687819349289163:True:=⟨⟩
theorem tw12240128852666828961:True:=⟨⟩
theorem tw3909159365514936094:True:=⟨⟩
theorem tw1232202919851415812:True:=⟨⟩
theorem tw11238214047067394226:True:=⟨⟩
theorem tw1303753599698570960:True:=⟨⟩
theorem tw3839682574987940100:True:=⟨⟩
theorem tw6023328154684222825:True:=⟨⟩
theorem tw10255928087183569548:True:=⟨⟩
theorem tw9748218704119433823:True:=⟨⟩
theorem tw11890155200981454828:True:=⟨⟩
theorem tw11304084913897999261:True:=⟨⟩
theorem tw14723558273461854331:True:=⟨⟩
theorem tw13721915961293379115:True:=⟨⟩
theorem tw15209661848127252381:True:=⟨⟩
theorem tw17753220323724644598:True:=⟨⟩
theorem tw11140285103601123179:True:=⟨⟩
theorem tw7486527449666668572:True:=⟨⟩
theorem tw7605866758894199025:True:=⟨⟩
theorem tw4665686701633368143:True:=⟨⟩
theorem tw887290679724301877:True:=⟨⟩
theorem tw6453132691335903011:True:=⟨⟩
theorem tw7541980877719443997:True:=⟨⟩
theorem tw15879681959225781059:True:=⟨⟩
theorem tw14539323623521861438:True:=⟨⟩
theorem tw14669513787060207514:True:=⟨⟩
theorem tw6559177408132119697:True:=⟨⟩
theorem tw12367944972700853448:True:=⟨⟩
theorem tw8534750067200144115:True:=⟨⟩
theorem tw13757790330346286048:True:=⟨⟩
theorem tw5819868455626240441:True:=⟨⟩
theorem tw5427876520934389002:True:=⟨⟩
theorem tw1090591527696565077:True:=⟨⟩
theorem tw15276623783283405347:True:=⟨⟩
theorem tw6224883606467581428:True:=⟨⟩
theorem tw6040588685196806624:True:=⟨⟩
theorem tw8530366684438240282:True:=⟨⟩
theorem tw11504294836008089848:True:=⟨⟩
theorem tw3749278974934455277:True:=⟨⟩
theorem tw7298023039209828161:True:=⟨⟩
theorem tw17694150859726748893:True:=⟨⟩
theorem tw10189303418569129222:True:=⟨⟩
theorem tw16196774659299482339:True:=⟨⟩
theorem tw1825209018477529603:True:=⟨⟩
theorem tw75854763724183642:True:=⟨⟩
theorem tw16520979219562976118:True:=⟨⟩
theorem tw9867335099382477256:True:=⟨⟩
theorem tw10969316977883072721:True:=⟨⟩
theorem tw4447463926744618553:True:=⟨⟩
theorem tw11705219699528468881:True:=⟨⟩
theorem tw9985128998930556848:True:=⟨⟩
theorem tw13134089464205677247:True:=⟨⟩
theorem tw18210520471135104614:True:=⟨⟩
theorem tw6287353311974661154:True:=⟨⟩
theorem tw12416909454267539030:True:=⟨⟩
theorem tw11376915672520756510:True:=⟨⟩
theorem tw11062912811508929215:True:=⟨⟩
theorem tw4845317960166650617:True:=⟨⟩
theorem tw17702604925035426062:True:=⟨⟩
theorem tw8249099048253513449:True:=⟨⟩
theorem tw12382634568524433944:True:=⟨⟩
theorem tw6626836486154739317:True:=⟨⟩
theorem tw6036261153799310497:True:=⟨⟩
theorem tw2050972303855756022:True:=⟨⟩
theorem tw2272084719401267317:True:=⟨⟩
theorem tw5145159438855464303:True:=⟨⟩
theorem tw11299804083459940074:True:=⟨⟩
theorem tw15373027879940480796:True:=⟨⟩
theorem tw5182879102425070303:True:=⟨⟩
theorem tw3160119328067440063:True:=⟨⟩
theorem tw10841128705318967369:True:=⟨⟩
theorem tw8665092735367980595:True:=⟨⟩
theorem tw12758885800623261372:True:=⟨⟩
theorem tw17391110987483215906:True:=⟨⟩
theorem tw10387018386785392001:True:=⟨⟩
theorem tw7310455959942515465:True:=⟨⟩
theorem tw15086108229343429824:True:=⟨⟩
theorem tw18091755581279042140:True:=⟨⟩
theorem tw14710567363418338364:True:=⟨⟩
theorem tw9397223675036893432:True:=⟨⟩
theorem tw11999318679397408470:True:=⟨⟩
theorem tw17657924850833472996:True:=⟨⟩
theorem tw13511751420883737043:True:=⟨⟩
theorem tw2767017470909874989:True:=⟨⟩
theorem tw14546335025306754932:True:=⟨⟩
theorem tw8117649571922924963:True:=⟨⟩
theorem tw6924876343233506090:True:=⟨⟩
theorem tw12208379691096116994:True:=⟨⟩
theorem tw6895784909256682842:True:=⟨⟩
theorem tw4861487881187483708:True:=⟨⟩
theorem tw334767458771821297:True:=⟨⟩
theorem tw14897122179149946125:True:=⟨⟩
theorem tw8344221655979211282:True:=⟨⟩
theorem tw1098040781832662529:True:=⟨⟩
theorem tw13684822572929969129:True:=⟨⟩
theorem tw16330071025042198712:True:=⟨⟩
theorem tw15399118298230411515:True:=⟨⟩
theorem tw16985907452163841382:True:=⟨⟩
theorem tw14589100939944514318:True:=⟨⟩
theorem tw13468503188735819325:True:=⟨⟩
theorem tw4407940499836313717:True:=⟨⟩
theorem tw18353844378822825303:True:=⟨⟩
theorem tw10713039665389226220:True:=⟨⟩
theorem tw1704488747990800491:True:=⟨⟩
theorem tw559440372338584690:True:=⟨⟩
theorem tw12881269542564088255:True:=⟨⟩
theorem tw18128157647407750204:True:=⟨⟩
theorem tw13932151706072929125:True:=⟨⟩
theorem tw834560254009016998:True:=⟨⟩
theorem tw960767883101171286:True:=⟨⟩
theorem tw16540019084107977695:True:=⟨⟩
theorem tw12741842032677901314:True:=⟨⟩
theorem tw9375899360546667240:True:=⟨⟩
theorem tw17048216919200492470:True:=⟨⟩
theorem tw18055405174497298479:True:=⟨⟩
theorem tw11649832213971838882:True:=⟨⟩
theorem tw9130312352542339444:True:=⟨⟩
theorem tw9578284591034095680:True:=⟨⟩
theorem tw6627502287320438021:True:=⟨⟩
theorem tw12848326492779783730:True:=⟨⟩
theorem tw5288079815853204822:True:=⟨⟩
theorem tw8629669238626374709:True:=⟨⟩
theorem tw3484238226888187926:True:=⟨⟩
theorem tw1473982541688252913:True:=⟨⟩
theorem tw17551845340614516627:True:=⟨⟩
theorem tw10449983889952456106:True:=⟨⟩
theorem tw9104205340825773262:True:=⟨⟩
theorem tw8727331883928771993:True:=⟨⟩
theorem tw2110566571039368133:True:=⟨⟩
theorem tw10083947066482725926:True:=⟨⟩
theorem tw16916392270578787079:True:=⟨⟩
theorem tw17909572100105598724:True:=⟨⟩
theorem tw16488343601340741433:True:=⟨⟩
theorem tw6183888756686097980:True:=⟨⟩
theorem tw11893035159331442335:True:=⟨⟩
theorem tw2524341314953586724:True:=⟨⟩
theorem tw16111390830352227150:True:=⟨⟩
theorem tw10613286825259105348:True:=⟨⟩
end PySem.W.Fast
open PySem PySem.W PyProof.Rows
set_option maxRecDepth 100000 in
set_option maxHeartbeats 0 in
theorem PySem.Challenge.cw_jettison_k17_loads_refused_holds : PySem.Challenge.rw_jettison_k17_loads_refused.Holds := by
 w_on;o_law;k_head;(case hw=>w_witness2)
 k_fill
 refine LO.walk (l:=PySem.Challenge.rw_jettison_k17_loads_refused) rfl rfl (fun w h Y=>PySem.W.kIn_of Y) ?F
 case F=>
  intro w mg fa h KX G hmg
  refine' LO.all_mk KX G hmg ?a ?l1 ?c ?k ?d_common_factor ?d_made_of ?d_is_name ?d__law_draw ?d__law_name ?d__law_names ?d__law_much ?d__law_int ?d__law_least ?d__law_is ?d__law_part_list ?d__law_share_list ?d__law_model ?d__law_seat ?d__law_new_part ?d__law_tells_parts ?d__law_tells_landed ?d__law_tells ?d__law_begin ?d__law_is_name ?d__law_hot ?d__law_hold_do ?d__law_tried ?d__law_due_new ?d__law_due_load ?d__law_due ?d__law_other_word ?d__law_other_number ?d__law_bent ?z_len ?z_range ?z_sum ?z_list ?z_zip ?z_all ?z_int ?z_bool ?z_str ?z_tuple ?z_abs ?z_isinstance ?z_min ?z_ValueError ?b_LETTERS ?aC_Hold ?pg_Hold ?hd_Hold ?po_Hold ?sa_Hold ?mk_Hold ?kc_Hold ?d_Hold_init ?d_Hold_place_of ?d_Hold_part_of ?d_Hold_check_new ?d_Hold_roster ?d_Hold_parts ?d_Hold_whole ?d_Hold_beyond_common ?d_Hold_tops_of ?d_Hold_stow ?d_Hold_sign ?d_Hold_load ?d_Hold_shares ?d_Hold_landed ?n_Hold_places ?n_Hold_aboard ?n_Hold_ashore ?n_Hold_names ?n_Hold_bottom ?n_Hold_common ?n_Hold_purses ?aC_Part ?pg_Part ?hd_Part ?po_Part ?sa_Part ?mk_Part ?kc_Part ?d_Part_init ?n_Part_name ?n_Part_owner ?n_Part_worth ?n_Part_weight ?n_Part_scale ?n_Part_row ?aC_Bottom ?pg_Bottom ?hd_Bottom ?po_Bottom ?sa_Bottom ?mk_Bottom ?kc_Bottom ?d_Bottom_init ?d_Bottom_over ?d_Bottom_share ?n_Bottom_steps ?n_Bottom_product ?n_Bottom_known ?bE_BadName ?bE_Twice ?bE_NoOwner ?bE_NoPart ?bE_NoVoyage ?bE_BadNumber ?bE_TooMuch ?bE_BadRows ?bE_NoDeed ?bE_BadPaper ?bE_JettisonError ?to_BadName ?ox_BadName ?to_Twice ?ox_Twice ?to_NoOwner ?ox_NoOwner ?to_BadNumber ?ox_BadNumber ?to_NoPart ?ox_NoPart
  (case a=>k_is)
  (case l1=>k_is)
  (case c=>k_is)
  (case k=>k_is)
  (case d_common_factor=>refine' L2.aN.of ?a ?l ?c ?k;(case a=>k_is);(case l=>k_is);(case c=>k_is);(case k=>k_is))
  (case d_made_of=>refine' L2.aN.of ?a ?l ?c ?k;(case a=>k_is);(case l=>k_is);(case c=>k_is);(case k=>k_is))
  (case d_is_name=>refine' L2.aN.of ?a ?l ?c ?k;(case a=>k_is);(case l=>k_is);(case c=>k_is);(case k=>k_is))
  (case d__law_draw=>refine' L2.aN.of ?a ?l ?c ?k;(case a=>k_is);(case l=>k_is);(case c=>k_is);(case k=>k_is))
  (case d__law_name=>refine' L2.aN.of ?a ?l ?c ?k;(case a=>k_is);(case l=>k_is);(case c=>k_is);(case k=>k_is))
  (case d__law_names=>refine' L2.aN.of ?a ?l ?c ?k;(case a=>k_is);(case l=>k_is);(case c=>k_is);(case k=>k_is))
  (case d__law_much=>refine' L2.aN.of ?a ?l ?c ?k;(case a=>k_is);(case l=>k_is);(case c=>k_is);(case k=>k_is))
  (case d__law_int=>refine' L2.aN.of ?a ?l ?c ?k;(case a=>k_is);(case l=>k_is);(case c=>k_is);(case k=>k_is))
  (case d__law_least=>refine' L2.aN.of ?a ?l ?c ?k;(case a=>k_is);(case l=>k_is);(case c=>k_is);(case k=>k_is))
  (case d__law_is=>refine' L2.aN.of ?a ?l ?c ?k;(case a=>k_is);(case l=>k_is);(case c=>k_is);(case k=>k_is))
  (case d__law_part_list=>refine' L2.aN.of ?a ?l ?c ?k;(case a=>k_is);(case l=>k_is);(case c=>k_is);(case k=>k_is))
  (case d__law_share_list=>refine' L2.aN.of ?a ?l ?c ?k;(case a=>k_is);(case l=>k_is);(case c=>k_is);(case k=>k_is))
  (case d__law_model=>refine' L2.aN.of ?a ?l ?c ?k;(case a=>k_is);(case l=>k_is);(case c=>k_is);(case k=>k_is))
  (case d__law_seat=>refine' L2.aN.of ?a ?l ?c ?k;(case a=>k_is);(case l=>k_is);(case c=>k_is);(case k=>k_is))
  (case d__law_new_part=>refine' L2.aN.of ?a ?l ?c ?k;(case a=>k_is);(case l=>k_is);(case c=>k_is);(case k=>k_is))
  (case d__law_tells_parts=>refine' L2.aN.of ?a ?l ?c ?k;(case a=>k_is);(case l=>k_is);(case c=>k_is);(case k=>k_is))
  (case d__law_tells_landed=>refine' L2.aN.of ?a ?l ?c ?k;(case a=>k_is);(case l=>k_is);(case c=>k_is);(case k=>k_is))
  (case d__law_tells=>refine' L2.aN.of ?a ?l ?c ?k;(case a=>k_is);(case l=>k_is);(case c=>k_is);(case k=>k_is))
  (case d__law_begin=>refine' L2.aN.of ?a ?l ?c ?k;(case a=>k_is);(case l=>k_is);(case c=>k_is);(case k=>k_is))
  (case d__law_is_name=>refine' L2.aN.of ?a ?l ?c ?k;(case a=>k_is);(case l=>k_is);(case c=>k_is);(case k=>k_is))
  (case d__law_hot=>refine' L2.aN.of ?a ?l ?c ?k;(case a=>k_is);(case l=>k_is);(case c=>k_is);(case k=>k_is))
  (case d__law_hold_do=>refine' L2.aN.of ?a ?l ?c ?k;(case a=>k_is);(case l=>k_is);(case c=>k_is);(case k=>k_is))
  (case d__law_tried=>refine' L2.aN.of ?a ?l ?c ?k;(case a=>k_is);(case l=>k_is);(case c=>k_is);(case k=>k_is))
  (case d__law_due_new=>refine' L2.aN.of ?a ?l ?c ?k;(case a=>k_is);(case l=>k_is);(case c=>k_is);(case k=>k_is))
  (case d__law_due_load=>refine' L2.aN.of ?a ?l ?c ?k;(case a=>k_is);(case l=>k_is);(case c=>k_is);(case k=>k_is))
  (case d__law_due=>refine' L2.aN.of ?a ?l ?c ?k;(case a=>k_is);(case l=>k_is);(case c=>k_is);(case k=>k_is))
  (case d__law_other_word=>refine' L2.aN.of ?a ?l ?c ?k;(case a=>k_is);(case l=>k_is);(case c=>k_is);(case k=>k_is))
  (case d__law_other_number=>refine' L2.aN.of ?a ?l ?c ?k;(case a=>k_is);(case l=>k_is);(case c=>k_is);(case k=>k_is))
  (case d__law_bent=>refine' L2.aN.of ?a ?l ?c ?k;(case a=>k_is);(case l=>k_is);(case c=>k_is);(case k=>k_is))
  (case z_len=>k_is)
  (case z_range=>k_is)
  (case z_sum=>k_is)
  (case z_list=>k_is)
  (case z_zip=>k_is)
  (case z_all=>k_is)
  (case z_int=>k_is)
  (case z_bool=>k_is)
  (case z_str=>k_is)
  (case z_tuple=>k_is)
  (case z_abs=>k_is)
  (case z_isinstance=>k_is)
  (case z_min=>k_is)
  (case z_ValueError=>k_is)
  (case b_LETTERS=>k_is)
  (case aC_Hold=>k_is)
  (case pg_Hold=>k_is)
  (case hd_Hold=>k_is)
  (case po_Hold=>k_is)
  (case sa_Hold=>k_is)
  (case mk_Hold=>k_is)
  (case kc_Hold=>k_is)
  (case d_Hold_init=>refine' L2.bu.of ?a ?i ?l ?c ?k;(case a=>k_is);(case i=>k_is);(case l=>k_is);(case c=>k_is);(case k=>k_is))
  (case d_Hold_place_of=>refine' L2.bu.of ?a ?i ?l ?c ?k;(case a=>k_is);(case i=>k_is);(case l=>k_is);(case c=>k_is);(case k=>k_is))
  (case d_Hold_part_of=>refine' L2.bu.of ?a ?i ?l ?c ?k;(case a=>k_is);(case i=>k_is);(case l=>k_is);(case c=>k_is);(case k=>k_is))
  (case d_Hold_check_new=>refine' L2.bu.of ?a ?i ?l ?c ?k;(case a=>k_is);(case i=>k_is);(case l=>k_is);(case c=>k_is);(case k=>k_is))
  (case d_Hold_roster=>refine' L2.bu.of ?a ?i ?l ?c ?k;(case a=>k_is);(case i=>k_is);(case l=>k_is);(case c=>k_is);(case k=>k_is))
  (case d_Hold_parts=>refine' L2.bu.of ?a ?i ?l ?c ?k;(case a=>k_is);(case i=>k_is);(case l=>k_is);(case c=>k_is);(case k=>k_is))
  (case d_Hold_whole=>refine' L2.bu.of ?a ?i ?l ?c ?k;(case a=>k_is);(case i=>k_is);(case l=>k_is);(case c=>k_is);(case k=>k_is))
  (case d_Hold_beyond_common=>refine' L2.bu.of ?a ?i ?l ?c ?k;(case a=>k_is);(case i=>k_is);(case l=>k_is);(case c=>k_is);(case k=>k_is))
  (case d_Hold_tops_of=>refine' L2.bu.of ?a ?i ?l ?c ?k;(case a=>k_is);(case i=>k_is);(case l=>k_is);(case c=>k_is);(case k=>k_is))
  (case d_Hold_stow=>refine' L2.bu.of ?a ?i ?l ?c ?k;(case a=>k_is);(case i=>k_is);(case l=>k_is);(case c=>k_is);(case k=>k_is))
  (case d_Hold_sign=>refine' L2.bu.of ?a ?i ?l ?c ?k;(case a=>k_is);(case i=>k_is);(case l=>k_is);(case c=>k_is);(case k=>k_is))
  (case d_Hold_load=>refine' L2.bu.of ?a ?i ?l ?c ?k;(case a=>k_is);(case i=>k_is);(case l=>k_is);(case c=>k_is);(case k=>k_is))
  (case d_Hold_shares=>refine' L2.bu.of ?a ?i ?l ?c ?k;(case a=>k_is);(case i=>k_is);(case l=>k_is);(case c=>k_is);(case k=>k_is))
  (case d_Hold_landed=>refine' L2.bu.of ?a ?i ?l ?c ?k;(case a=>k_is);(case i=>k_is);(case l=>k_is);(case c=>k_is);(case k=>k_is))
  (case n_Hold_places=>k_is)
  (case n_Hold_aboard=>k_is)
  (case n_Hold_ashore=>k_is)
  (case n_Hold_names=>k_is)
  (case n_Hold_bottom=>k_is)
  (case n_Hold_common=>k_is)
  (case n_Hold_purses=>k_is)
  (case aC_Part=>k_is)
  (case pg_Part=>k_is)
  (case hd_Part=>k_is)
  (case po_Part=>k_is)
  (case sa_Part=>k_is)
  (case mk_Part=>k_is)
  (case kc_Part=>k_is)
  (case d_Part_init=>refine' L2.bu.of ?a ?i ?l ?c ?k;(case a=>k_is);(case i=>k_is);(case l=>k_is);(case c=>k_is);(case k=>k_is))
  (case n_Part_name=>k_is)
  (case n_Part_owner=>k_is)
  (case n_Part_worth=>k_is)
  (case n_Part_weight=>k_is)
  (case n_Part_scale=>k_is)
  (case n_Part_row=>k_is)
  (case aC_Bottom=>k_is)
  (case pg_Bottom=>k_is)
  (case hd_Bottom=>k_is)
  (case po_Bottom=>k_is)
  (case sa_Bottom=>k_is)
  (case mk_Bottom=>k_is)
  (case kc_Bottom=>k_is)
  (case d_Bottom_init=>refine' L2.bu.of ?a ?i ?l ?c ?k;(case a=>k_is);(case i=>k_is);(case l=>k_is);(case c=>k_is);(case k=>k_is))
  (case d_Bottom_over=>refine' L2.bu.of ?a ?i ?l ?c ?k;(case a=>k_is);(case i=>k_is);(case l=>k_is);(case c=>k_is);(case k=>k_is))
  (case d_Bottom_share=>refine' L2.bu.of ?a ?i ?l ?c ?k;(case a=>k_is);(case i=>k_is);(case l=>k_is);(case c=>k_is);(case k=>k_is))
  (case n_Bottom_steps=>k_is)
  (case n_Bottom_product=>k_is)
  (case n_Bottom_known=>k_is)
  (case bE_BadName=>k_is)
  (case bE_Twice=>k_is)
  (case bE_NoOwner=>k_is)
  (case bE_NoPart=>k_is)
  (case bE_NoVoyage=>k_is)
  (case bE_BadNumber=>k_is)
  (case bE_TooMuch=>k_is)
  (case bE_BadRows=>k_is)
  (case bE_NoDeed=>k_is)
  (case bE_BadPaper=>k_is)
  (case bE_JettisonError=>k_is)
  (case to_BadName=>refine' L2.Told.of ?ga ?gn ?ca ?mo ?mb ?jt ?ve ?k0 ?k1 ?k2 ?k3 ?k4 ?k5 ?k6 ?k7 ?k8 ?k9 ?h;(case ga=>k_is);(case gn=>k_is);(case ca=>k_is);(case mo=>k_is);(case mb=>k_is);(case jt=>kts_exm);(case ve=>kit_is);(case k0=>kit_is);(case k1=>kit_is);(case k2=>kit_is);(case k3=>kit_is);(case k4=>kit_is);(case k5=>kit_is);(case k6=>kit_is);(case k7=>kit_is);(case k8=>kit_is);(case k9=>kit_is);(case h=>rfl))
  (case ox_BadName=>k_exc)
  (case to_Twice=>refine' L2.Told.of ?ga ?gn ?ca ?mo ?mb ?jt ?ve ?k0 ?k1 ?k2 ?k3 ?k4 ?k5 ?k6 ?k7 ?k8 ?k9 ?h;(case ga=>k_is);(case gn=>k_is);(case ca=>k_is);(case mo=>k_is);(case mb=>k_is);(case jt=>kts_exm);(case ve=>kit_is);(case k0=>kit_is);(case k1=>kit_is);(case k2=>kit_is);(case k3=>kit_is);(case k4=>kit_is);(case k5=>kit_is);(case k6=>kit_is);(case k7=>kit_is);(case k8=>kit_is);(case k9=>kit_is);(case h=>rfl))
  (case ox_Twice=>k_exc)
  (case to_NoOwner=>refine' L2.Told.of ?ga ?gn ?ca ?mo ?mb ?jt ?ve ?k0 ?k1 ?k2 ?k3 ?k4 ?k5 ?k6 ?k7 ?k8 ?k9 ?h;(case ga=>k_is);(case gn=>k_is);(case ca=>k_is);(case mo=>k_is);(case mb=>k_is);(case jt=>kts_exm);(case ve=>kit_is);(case k0=>kit_is);(case k1=>kit_is);(case k2=>kit_is);(case k3=>kit_is);(case k4=>kit_is);(case k5=>kit_is);(case k6=>kit_is);(case k7=>kit_is);(case k8=>kit_is);(case k9=>kit_is);(case h=>rfl))
  (case ox_NoOwner=>k_exc)
  (case to_BadNumber=>refine' L2.Told.of ?ga ?gn ?ca ?mo ?mb ?jt ?ve ?k0 ?k1 ?k2 ?k3 ?k4 ?k5 ?k6 ?k7 ?k8 ?k9 ?h;(case ga=>k_is);(case gn=>k_is);(case ca=>k_is);(case mo=>k_is);(case mb=>k_is);(case jt=>kts_exm);(case ve=>kit_is);(case k0=>kit_is);(case k1=>kit_is);(case k2=>kit_is);(case k3=>kit_is);(case k4=>kit_is);(case k5=>kit_is);(case k6=>kit_is);(case k7=>kit_is);(case k8=>kit_is);(case k9=>kit_is);(case h=>rfl))
  (case ox_BadNumber=>k_exc)
  (case to_NoPart=>refine' L2.Told.of ?ga ?gn ?ca ?mo ?mb ?jt ?ve ?k0 ?k1 ?k2 ?k3 ?k4 ?k5 ?k6 ?k7 ?k8 ?k9 ?h;(case ga=>k_is);(case gn=>k_is);(case ca=>k_is);(case mo=>k_is);(case mb=>k_is);(case jt=>kts_exm);(case ve=>kit_is);(case k0=>kit_is);(case k1=>kit_is);(case k2=>kit_is);(case k3=>kit_is);(case k4=>kit_is);(case k5=>kit_is);(case k6=>kit_is);(case k7=>kit_is);(case k8=>kit_is);(case k9=>kit_is);(case h=>rfl))
  (case ox_NoPart=>k_exc)
