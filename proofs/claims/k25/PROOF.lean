import PyProof.Rows.All
import Wide.All
import OpenK.AllK
import Wide.FinOn
import Lean
import PyProof.EqAt
import PyProof.EqKinds
import PyProof.TupleCall
import PySem.Challenge.RW_jettison_k25_parts_severed
set_option Elab.async false
set_option bootstrap.genMatcherCode false
set_option genSizeOf false
set_option genSizeOfSpec false
set_option linter.all false
set_option maxRecDepth 100000
local macro_rules|`(tactic|omega)=>`(tactic|lia)
abbrev Fg:=PySem.W.Frag
abbrev VS:=PySem.Value->PySem.Shared->Prop
abbrev AO:=List (PySem.Addr×PySem.Obj)
abbrev SO:=PySem.Str->Option PySem.Value
set_option autoImplicit true
def X8:=@PySem.F.slot_dict_valueiterator_next
def Te:=@Int.mul_le_mul_of_nonneg_right
def Ij:=@Int.mul_le_mul_of_nonneg_left
def X_:=@PySem.wpAny_typeNameOfWhole_keyiter
def Yb:=@PySem.wpAny_typeNameOfWhole_valiter
def Yc:=@PySem.F.slot_dict_keyiterator_next
def jW:=@PyProof.Rows.boot_isinstance
def Yd:=@PyProof.Rows.callWith_type1
def Ye:=@Int.ediv_eq_of_eq_mul_right
def KO:=@List.getElem?_append_right
def jf:=@List.getD_eq_getElem?_getD
def QY:=@PySem.F.slot_tuple_iterator_next
def d7:=@List.getElem?_eq_some_iff
def KP:=@List.getElem?_append_left
def QZ:=@List.drop_eq_getElem_cons
def a_:=@List.getElem?_eq_getElem
def Q0:=@PySem.wpAny_comprehension_free
def Q2:=@PySem.wpAny_typeNameOf_keyiter
def Q3:=@PySem.wpAny_typeNameOf_valiter
def Gp:=@Int.mul_ediv_cancel_left
def uM:=@PySem.F.slot_list_append
def uN:=@PySem.F.type_list_append
def yv:=@PySem.wpAny_callSpecial?_slot
def uO:=@PySem.F.plainAttrs_list
def Q5:=@PyProof.Rows.boot_tuple
def kC:=@List.getElem?_set_self
def cD:=@PySem.Heap.get?_push_of_some
def KQ:=@PySem.Heap.get?_update_other
def lS:=@Option.map_eq_some_iff
def Aj:=@List.take_of_length_le
def xh:=@List.zipWith_cons_cons
def Q6:=@PySem.Calls.callWith_builtin
def uP:=@PyProof.Rows.boot_list
def jg:=@List.mem_append_right
def mZ:=@List.length_replicate
def CV:=@PySem.Heap.get?_update_self
def Q7:=@List.length_filter_le
def uQ:=@List.getElem?_eq_none
def Q8:=@PySem.wpAny_isOneOf_valiter
def Q9:=@List.getElem?_zipWith
def yw:=@PyProof.Rows.boot_sum
def Gq:=@PyProof.Rows.boot_str
def KR:=@PySem.W.hideAll_none
def cL:=@List.mem_cons_of_mem
def Gr:=@List.mem_append_left
def Ak:=@List.getElem?_set_ne
def bJ:=@List.mem_of_getElem?
def lg:=@Bool.and_eq_true_iff
def Q_:=@PySem.intBits_le_iff
def Gs:=@beq_eq_false_iff_ne
def Ra:=@PySem.W.hideAll_get
def Al:=@List.filterMap_cons
def d_:=@PySem.Heap.get?_push_size
def yx:=@PySem.mem_of_lookup
def CW:=@List.replicate_succ
def Gu:=@Bool.or_eq_true_iff
def Gv:=@PySem.Heap.SameBut.update
def qM:=@List.length_zipWith
def CY:=@List.map_congr_left
def pC:=@List.getElem_of_mem
def lq:=@Nat.lt_of_lt_of_le
def Rb:=@PySem.W.of_hideAll
def cO:=@List.mem_cons_self
def Gw:=@List.mem_filterMap
def fF:=@Bool.false_ne_true
def Gx:=@PySem.wpAny_Call_Name_kw
def Rc:=@PySem.W.callWith_K
def cY:=@List.length_append
def Rg:=@PySem.tupleKind_room_in1
def KS:=@Nat.lt_of_le_of_lt
def ee:=@List.mem_singleton
def yy:=@Int.emod_lt_of_pos
def Gy:=@Bool.false_eq_true
def Gz:=@PySem.Obj.data_mapFields
def GA:=@PySem.wpAny_setField_rec
def KU:=@List.set_cons_succ
def KW:=@List.set_cons_zero
def Rh:=@PySem.F.slot_dict_values
def uR:=@of_decide_eq_false
def n_:=@PySem.W.mg_none_of
def Ri:=@PySem.wpAny_pyIter_list
def bK:=@List.getElem?_map
def iz:=@List.size_toArray
def xj:=@Int.toNat_natCast
def qN:=@PySem.wpAny_newObj_type
def Rj:=@List.flatten_cons
def KY:=@List.append_assoc
def dU:=@of_decide_eq_true
def Rk:=@Nat.lt_succ_of_lt
def Am:=@PySem.wpAny_truthy_bool
def CZ:=@List.length_range
def Rl:=@PySem.wpAny_dictEntries
def KZ:=@List.foldl_append
def K0:=@List.getElem?_inj
def pD:=@Bool.eq_false_iff
def m7:=@List.length_cons
def lu:=@List.length_take
def K1:=@List.length_drop
def yz:=@PySem.wpAny_call_entry
def GB:=@Bool.and_eq_true
def Kq:=@List.cons_append
def iF:=@List.filter_cons
def D5:=@beq_self_eq_true
def D6:=@Nat.le_add_right
def lE:=@List.lookup_cons
def pF:=@List.all_eq_true
def uw:=@List.getElem_mem
def cA:=@List.take_length
def D7:=@List.drop_length
def dO:=@decide_eq_false
def iG:=@Option.some.inj
def mF:=@List.mem_filter
def eV:=@List.mem_append
def BC:=@Bool.eq_iff_iff
def aF:=@List.length_map
def pG:=@PySem.W.kia_one
def rO:=@List.append_nil
def gX:=@List.nodup_cons
def jN:=@List.length_set
def mG:=@List.foldl_cons
def Kr:=@List.nil_append
def pH:=@List.find?_cons
def Ks:=@Option.map_some
def bD:=@List.map_append
def nK:=@Int.emod_nonneg
def Ku:=@List.forIn_cons
def Kv:=@PySem.pushCells_keeps
def Kw:=@PySem.wpAny_dictEpoch
def Ky:=@PySem.F.slot_zip_next
def yC:=@PySem.wpAny_passesOwn
def yD:=@PySem.wpAny_execs_nil
def eL:=@PySem.PassesOwn.never
def yE:=@List.mem_range
def D8:=@Bool.false_and
def mH:=@PySem.Heap.size_push
def bM:=@decide_eq_true
def D9:=@Int.natAbs_mul
def D_:=@List.forIn_nil
def wk:=@PySem.wpAny_fieldsOf
def BF:=@PySem.wpAny_setField
def ux:=@PySem.wpAny_seqItems
def wm:=@List.nodup_nil
def nL:=@Int.mul_nonneg
def dF:=@PySem.boot_len
def ju:=@Nat.lt_irrefl
def dg:=@List.mem_cons
def bF:=@List.map_cons
def yF:=@PySem.wpAny_holding
def Ea:=@List.any_cons
def kD:=@PySem.W.mg_of
def cX:=@List.sum_cons
def BG:=@PySem.wpAny_standAt
def jO:=@Int.mul_assoc
def BH:=@List.map_take
def Eb:=@Bool.true_and
def bQ:=@PySem.Heap.lt_size
def dS:=@Nat.ne_of_lt
def eX:=@Nat.le_trans
def Ed:=@Nat.le_of_lt
def yG:=@Nat.ne_of_gt
def BI:=@PySem.codeAny_mono
def BJ:=@Int.ediv_one
def bN:=@List.mem_map
def yH:=@Int.le_of_lt
def Ef:=@Int.lt_or_le
def rP:=@List.set_set
def fJ:=@List.map_map
def BK:=@Nat.sub_self
def rQ:=@Int.mul_comm
def wu:=@List.map_set
def rR:=@Sum.inr.inj
def aS:=@Nat.le_refl
def fT:=@Nat.zero_le
def fj:=@PySem.sizeLine_eq
def kF:=@PySem.wpAny_field
def mJ:=@Int.le_refl
def pI:=@Int.mul_add
def BL:=@Int.add_mul
def gY:=@PySem.wpAny_mono
def aL:=@PySem.wpAny_pure
def aq:=@PySem.wpAny_bind
def nM:=@beq_iff_eq
def iw:=@congrArg
def lF:=@if_false
def cy:=@Ne.symm
def rS:=@if_true
def aB:=@if_pos
def az:=@if_neg
theorem Z {α:Sort _} {a:α}:a=a:=rfl
namespace L2
open PySem PySem.Spec PyProof.Rows
abbrev Key:=Sum Int Str
def yI:Key->Value->Bool
 | .inl k,v=>Value.isInt k v
 | .inr x,v=>Value.isStrOf x v
def ahr (w:World):Key->Int
 | .inl k=>hashInt k
 | .inr x=>hashStr w x
theorem gj:∀{k:Key} {v:Value},yI k v=true->(∃i t,k=Sum.inl i/\v=Value.int i t)\/(∃x t,k=Sum.inr x/\v=Value.str x t)
 | .inl i,v,h=>by
   obtain ⟨t,e⟩:=Value.isInt_shape (k:=i) (v:=v) h
   exact .inl ⟨i,t,Z,e⟩
 | .inr x,v,h=>by
   obtain ⟨t,e⟩:=Value.isStrOf_shape (x:=x) (v:=v) h
   exact .inr ⟨x,t,Z,e⟩
theorem Tf (i:Int) (t:Tok):yI (.inl i) (.int i t)=true:=by simp [yI,Value.isInt]
theorem Tg (x:Str) (t:Tok):yI (.inr x) (.str x t)=true:=by simp [yI,Value.isStrOf]
theorem aaQ (a b:Int):decide ((Sum.inl a:Key)=Sum.inl b)=(a==b):=by
 by_cases e:a=b
 . subst e;simp
 . have h:¬ (Sum.inl a:Key)=Sum.inl b:=fun q=>e (Sum.inl.inj q)
   rw [dO h]
   exact (Gs.mpr e).symm
theorem aaR (a b:Str):decide ((Sum.inr a:Key)=Sum.inr b)=decide (a=b):=by
 by_cases e:a=b
 . subst e;simp
 . have h:¬ (Sum.inr a:Key)=Sum.inr b:=fun q=>e (rR q)
   rw [dO h,dO e]
theorem aaS (a:Int) (b:Str):decide ((Sum.inl a:Key)=Sum.inr b)=false:=dO (fun q=>nomatch q)
theorem aaT (a:Str) (b:Int):decide ((Sum.inr a:Key)=Sum.inl b)=false:=dO (fun q=>nomatch q)
def c9 (prog:Program) (w:World):PySem.KeyKind prog w Key where
 is:=yI
 hash:=ahr w
 inj:=fun v a b ha hb=>by
  rcases gj ha with ⟨i,t,rfl,rfl⟩|⟨x,t,rfl,rfl⟩
  . rcases gj hb with ⟨j,u,rfl,e⟩|⟨y,u,rfl,e⟩
    . injection e with e1 _;rw [e1]
    . exact nomatch e
  . rcases gj hb with ⟨j,u,rfl,e⟩|⟨y,u,rfl,e⟩
    . exact nomatch e
    . injection e with e1 _;rw [e1]
 byValue:=fun k v h=>by
  rcases gj h with ⟨i,t,rfl,rfl⟩|⟨x,t,rfl,rfl⟩ <;> rfl
 pyHash:=fun hv h=>by
  rcases gj hv with ⟨i,t,rfl,rfl⟩|⟨x,t,rfl,rfl⟩
  . exact wpAny_pyHash_int h
  . exact wpAny_pyHash_str h
 eqBool:=fun hu hv h=>by
  rcases gj hu with ⟨i,t,rfl,rfl⟩|⟨x,t,rfl,rfl⟩
  . rcases gj hv with ⟨j,u,rfl,rfl⟩|⟨y,u,rfl,rfl⟩
    . rw [aaQ] at h;exact wpAny_eqBool_int h
    . rw [aaS] at h;exact SeqAt.EqAt.int_str i t y u _ _ _ _ h
  . rcases gj hv with ⟨j,u,rfl,rfl⟩|⟨y,u,rfl,rfl⟩
    . rw [aaT] at h;exact SeqAt.EqAt.str_int x t j u _ _ _ _ h
    . rw [aaR] at h;exact wpAny_eqBool_str h
 «strs»:=fun k x t v h=>by
  rcases gj h with ⟨i,u,rfl,e⟩|⟨y,u,rfl,e⟩
  . exact nomatch e
  . injection e with e1 _
    subst e1
    cases v <;> rfl
theorem Rm (prog:Program) (w:World) (k:Key) (v:Value):(c9 prog w).is k v=yI k v:=rfl
theorem Oa (prog:Program) (w:World) (i:Int) (t:Tok):(c9 prog w).is (.inl i) (.int i t)=true:=Tf i t
theorem Ob (prog:Program) (w:World) (x:Str) (t:Tok):(c9 prog w).is (.inr x) (.str x t)=true:=Tg x t
inductive V where
 | cg|bl (b:Bool)|int (i:Int)|str (x:Str)|xU (b:Array UInt8)|Ik (b:UInt64)|ref (a:Addr)|ty (n:String)
 deriving DecidableEq
def RelV:V->Value->Prop
 | .cg,u=>u=Value.none
 | .bl b,u=>u=Value.bool b
 | .int i,u=>∃t,u=Value.int i t
 | .str x,u=>∃t,u=Value.str x t
 | .xU b,u=>∃t,u=Value.bytes b t
 | .Ik b,u=>∃t,u=Value.float b t
 | .ref a,u=>u=Value.ref a
 | .ty n,u=>u=Value.type n
abbrev Vals:List V->List Value->Prop:=Paired RelV
variable {xs:List V} {us:List Value}
theorem Vals.length (r:Vals xs us):xs.length=us.length:=Paired.length r
theorem Vals.get:∀{xs:List V} {us:List Value} {i:Nat} {x:V},Vals xs us->xs[i]?=some x->∃u,us[i]?=some u/\RelV x u
 | _,_,_,_, .nil,e=>by simp at e
 | _,_,0,_, .cons r _,e=>by simp at e;subst e;exact ⟨_,Z,r⟩
 | _,_,i+1,x, .cons _ t,e=>by
   obtain ⟨u,h1,h2⟩:=Vals.get (i:=i) (x:=x) t (by simpa using e)
   exact ⟨u,by simpa using h1,h2⟩
theorem Vals.set {x:V} {u:Value} (r:RelV x u):∀{xs:List V} {us:List Value} (i:Nat),Vals xs us->Vals (xs.set i x) (us.set i u)
 | _,_,_, .nil=> .nil
 | _,_,0, .cons _ t=> .cons r t
 | _,_,i+1, .cons q t=> .cons q (Vals.set r i t)
theorem Vals.append:∀{xs ys:List V} {us ws:List Value},Vals xs us->Vals ys ws->Vals (xs++ys) (us++ws)
 | _,_,_,_, .nil,s=>s
 | _,_,_,_, .cons r t,s=> .cons r (Vals.append t s)
theorem Vals.take:∀{xs:List V} {us:List Value} (n:Nat),Vals xs us->Vals (xs.take n) (us.take n)
 | _,_,0,_=> .nil
 | _,_,_+1, .nil=> .nil
 | _,_,n+1, .cons r t=> .cons r (Vals.take n t)
theorem Vals.drop:∀{xs:List V} {us:List Value} (n:Nat),Vals xs us->Vals (xs.drop n) (us.drop n)
 | _,_,0,r=>r
 | _,_,_+1, .nil=> .nil
 | _,_,n+1, .cons _ t=>Vals.drop n t
def m8:Option V->Option Value->Prop
 | some v,some u=>RelV v u
 | none,none=>True
 | _,_=>False
def KV {κ:Type}:List (κ×V)->List (κ×Value)->Prop:=Paired fun (p:κ×V) (q:κ×Value)=>p.1=q.1/\RelV p.2 q.2
def kV:Key->V
 | .inl i=> .int i
 | .inr x=> .str x
inductive HO where
 | lst (xs:List V)
 | tup (xs:List V)
 | dK (kvs:List (Key×V))|dT (kvs:List (List Key×V))
 | set (S:Int->Bool) (n:Nat)
 | ins (C dx:Addr) (fs:List (Str×V))
 | own (x:Addr)
 | xd (fs:List (Str×V))
 | met (f x:Addr)
 | wC (lo hi:Int)
 | fE (o:Obj) (u:HO)
 | Il (ps:Array Value)
 | ext (φ:Heap->Prop)
abbrev Hp:=Addr->Option HO
def upd (H:Hp) (a:Addr) (o:HO):Hp:=fun b=>if b=a then some o else H b
variable {H:Hp} {a:Addr} {o:HO}
theorem ak:upd H a o a=some o:=by unfold upd;rw [aB rfl]
theorem av {b:Addr} (h:b≠a):upd H a o b=H b:=by unfold upd;rw [az h]
theorem uF {u:HO}:upd (upd H a o) a u=upd H a u:=by
 funext b;unfold upd;split <;> rfl
theorem iZ {b:Addr} {u:HO} (h:H a=some o) (h':H b=some u) (d:o≠u):a≠b:=by
 intro e;subst e;rw [h] at h';exact d (iG h')
theorem aE {b:Addr} (h:H a=some o) (h':H b=none):a≠b:=by
 intro e;subst e;rw [h] at h';cases h'
section
variable (P:Program) (w:World)
def dQ (H:Hp) (h:Heap) (a:Addr):HO->Prop
 | .lst xs=>xs.length<=sizeLine/\∃(its:List Value) (n:Nat),Vals xs its/\h.get? a=some { cls:= .type "list",data:= .seq its.toArray n }
 | .tup xs=>xs.length<=sizeLine/\∃its:List Value,Vals xs its/\IsTup h a its.toArray
 | .dK kvs=>kvs.length<=sizeLine/\(a==sysModules)=false/\∃vs,KV kvs vs/\h.DictOf (c9 P w) a vs
 | .dT kvs=>kvs.length<=sizeLine/\(a==sysModules)=false/\∃xs:List (List Key×Addr×Value),
     Paired (fun (p:List Key×V) (q:List Key×Addr×Value)=>p.1=q.1/\H q.2.1=some (.tup (p.1.map kV))/\RelV p.2 q.2.2) kvs xs/\
     ∃o es ep,h.get? a=some o/\o.ExactDict/\o.data = .dict es ep/\es.toList=xs.map (entryOfKey (tupleKind (c9 P w)))/\(xs.map (·.1)).Nodup
 | .set S n=>h.SetOf (intKind P w) a S n
 | .ins C dx fs=>H dx=some (.own a)/\fs.length<=1000/\dx≠a/\h.get? a=some (PySem.W.instObj C dx)/\
     ∃mA,h.Ns1 dx mA/\(∀f,m8 (fs.lookup f) (mA f))/\PySem.Within mA (fs.map (·.1))
 | .own _=>∃o,h.get? a=some o
 | .xd fs=>∃mA,h.Ns1 a mA/\∀f,m8 (fs.lookup f) (mA f)
 | .wC lo hi=>∃t u v,h.get? a=some { cls:= .type "range",data:= .fields #[.int lo t, .int hi u, .int 1 v] }
 | .fE o u=>h.get? a=some o/\dQ H h a u
 | .Il ps=>h.get? a=some { cls:= .none,data:= .fields ps }
 | .met f x=>h.get? a=some (PySem.W.methodObj (.ref f) (.ref x))
 | .ext φ=>φ h/\(∃o,h.get? a=some o)/\∀h1 h2:Heap,φ h1->(∀o,h1.get? a=some o->h2.get? a=some o)->φ h2
def gU (H:Hp) (h:Heap):Prop:=∀a o,H a=some o->dQ P w H h a o
end
section
variable {P:Program} {w:World} {H H':Hp} {h h':Heap} {a:Addr} {o:HO}
theorem dQ.lt (x:dQ P w H h a o):a<h.objs.size:=by
 cases o with
 | lst xs=>obtain ⟨_,_,_,_,e⟩:=x;exact bQ e
 | tup xs=>obtain ⟨_,_,_,p⟩:=x;exact p.lt
 | dK kvs=>obtain ⟨_,_,_,_,o,_,_,e,_⟩:=x;exact bQ e
 | dT kvs=>obtain ⟨_,_,_,_,o,_,_,e,_⟩:=x;exact bQ e
 | set S n=>obtain ⟨o,_,_,_,e,_⟩:=x;exact bQ e
 | ins C dx fs=>obtain ⟨_,_,_,e,_⟩:=x;exact bQ e
 | own y=>obtain ⟨_,e⟩:=x;exact bQ e
 | xd fs=>obtain ⟨_,⟨_,_,_,e,_⟩,_⟩:=x;exact bQ e
 | wC lo hi=>obtain ⟨_,_,_,e⟩:=x;exact bQ e
 | fE ob u=>obtain ⟨e,_⟩:=x;exact bQ e
 | Il ps=>exact bQ (show h.get? a=some _ from x)
 | met f y=>exact bQ (show h.get? a=some _ from x)
 | ext φ=>obtain ⟨_,⟨_,e⟩,_⟩:=x;exact bQ e
theorem Paired.Wn {α β:Type} {F G:α->β->Prop}:∀{l₁:List α} {l₂:List β},Paired F l₁ l₂->(∀a b,F a b->G a b)->Paired G l₁ l₂
 | _,_, .nil,_=> .nil
 | _,_, .cons r t,f=> .cons (f _ _ r) (Paired.Wn t f)
theorem dQ.stay (x:dQ P w H h a o) (k:∀b u,(b=a\/H b=some (.own a))->h.get? b=some u->h'.get? b=some u)
  (ho:∀b,H b=some (.own a)->H' b=some (.own a)) (ht:∀b xs,H b=some (.tup xs)->H' b=some (.tup xs)):dQ P w H' h' a o:=by
 induction o with
 | lst xs=>obtain ⟨z,its,n,r,e⟩:=x;exact ⟨z,its,n,r,k _ _ (.inl rfl) e⟩
 | tup xs=>obtain ⟨z,its,r,ob,e,c⟩:=x;exact ⟨z,its,r,ob,k _ _ (.inl rfl) e,c⟩
 | dK kvs=>obtain ⟨z,y,vs,r,ob,es,ep,e,c⟩:=x;exact ⟨z,y,vs,r,ob,es,ep,k _ _ (.inl rfl) e,c⟩
 | dT kvs=>
   obtain ⟨z,y,xs,r,ob,es,ep,e,c⟩:=x
   exact ⟨z,y,xs,Paired.Wn r fun p q z=>⟨z.1,ht _ _ z.2.1,z.2.2⟩,ob,es,ep,k _ _ (.inl rfl) e,c⟩
 | set S n=>obtain ⟨ob,es,ep,t,e,c⟩:=x;exact ⟨ob,es,ep,t,k _ _ (.inl rfl) e,c⟩
 | ins C dx fs=>
   obtain ⟨d,z,ne,e,mA,⟨od,es,ep,e2,c⟩,r⟩:=x
   exact ⟨ho _ d,z,ne,k _ _ (.inl rfl) e,mA,⟨od,es,ep,k _ _ (.inr d) e2,c⟩,r⟩
 | own y=>obtain ⟨ob,e⟩:=x;exact ⟨ob,k _ _ (.inl rfl) e⟩
 | xd fs=>obtain ⟨mA,⟨od,es,ep,e,c⟩,r⟩:=x;exact ⟨mA,⟨od,es,ep,k _ _ (.inl rfl) e,c⟩,r⟩
 | wC lo hi=>obtain ⟨t,u,v,e⟩:=x;exact ⟨t,u,v,k _ _ (.inl rfl) e⟩
 | fE ob u ih=>obtain ⟨e,q⟩:=x;exact ⟨k _ _ (.inl rfl) e,ih q⟩
 | Il ps=>
   have e:h.get? a=some { cls:= .none,data:= .fields ps }:=x
   show h'.get? a=some { cls:= .none,data:= .fields ps }
   exact k a _ (.inl rfl) e
 | met f y=>
   have e:h.get? a=some (PySem.W.methodObj (.ref f) (.ref y)):=x
   show h'.get? a=some (PySem.W.methodObj (.ref f) (.ref y))
   exact k a _ (.inl rfl) e
 | ext φ=>obtain ⟨p,⟨o,e⟩,st⟩:=x;exact ⟨st _ _ p fun o q=>k _ _ (.inl rfl) q,⟨o,k _ _ (.inl rfl) e⟩,st⟩
theorem gU.lt (x:gU P w H h) (e:H a=some o):a<h.objs.size:=(x a o e).lt
theorem gU.fresh (x:gU P w H h) (e:h.objs.size<=a):H a=none:=by
 cases q:H a with
 | none=>rfl
 | some u=>exact absurd (lq (x.lt q) e) (ju _)
theorem gU.kept (x:gU P w H h) (k:∀b u,h.get? b=some u->h'.get? b=some u):gU P w H h':=fun a o e=>
 (x a o e).stay (fun b u _ q=>k b u q) (fun _ q=>q) fun _ _ q=>q
theorem gU.laid (x:gU P w H h) (k:∀b u,h.get? b=some u->h'.get? b=some u) (hp:h.objs.size<=a) (new:dQ P w (upd H a o) h' a o):gU P w (upd H a o) h':=fun b u e=>by
 have hn:=x.fresh hp
 by_cases hb:b=a
 . subst hb;rw [ak] at e;cases e;exact new
 . rw [av hb] at e
   exact (x b u e).stay (fun c v _ q=>k c v q) (fun c q=>by rw [av (aE q hn)];exact q) fun c xs q=>by rw [av (aE q hn)];exact q
end
def Rd (H:Hp) (a:Addr) (u:HO):Prop:=H a=some u\/∃o,H a=some (.fE o u)
variable {P:Program} {h:Heap}
theorem Rd.ok {w:World} {u:HO} (r:Rd H a u) (x:gU P w H h):dQ P w H h a u:=by
 rcases r with r|⟨o,r⟩
 . exact x a u r
 . obtain ⟨_,q⟩:=x a _ r
   exact q
def Th:Option HO->Prop
 | some (.lst _)=>True
 | some (.dK _)=>True
 | some (.dT _)=>True
 | some (.set _ _)=>True
 | some (.ins _ _ _)=>True
 | some (.ext _)=>True
 | _=>False
section
variable {P:Program} {w:World} {H:Hp} {h h':Heap} {x e:Addr} {o':HO}
theorem gU.write (ok:gU P w H h) (mu:Th (H x)) (he:e=x\/H e=some (.own x)) (k:∀b u,b≠e->h.get? b=some u->h'.get? b=some u) (Po:∃u,h'.get? e=some u)
  (new:dQ P w (upd H x o') h' x o'):gU P w (upd H x o') h':=fun b u q=>by
 have aaU:∀c y,H c=some (.own y)->c≠x:=fun c y r z=>by subst z;rw [r] at mu;exact mu
 have ahs:∀c xs,H c=some (.tup xs)->c≠x:=fun c xs r z=>by subst z;rw [r] at mu;exact mu
 by_cases hb:b=x
 . subst hb;rw [ak] at q;cases q;exact new
 . rw [av hb] at q
   by_cases K2:b=e
   . have q':H b=some (.own x):=by
      rcases he with z|z
      . exact absurd (K2.trans z) hb
      . rw [K2];exact z
     rw [q] at q';cases q'
     obtain ⟨v,hv⟩:=Po
     exact ⟨v,by rw [K2];exact hv⟩
   . refine (ok b u q).stay (fun c v hc r=>k c v ?_ r) (fun c r=>by rw [av (aaU c b r)];exact r) fun c xs r=>by rw [av (ahs c xs r)];exact r
     rcases hc with rfl|hc
     . exact K2
     . rintro rfl
       rcases he with z|z
       . exact aaU c b hc z
       . rw [hc] at z;cases z;exact hb rfl
end
structure Un (fs ex:List Addr) (H H':Hp) (h h':Heap):Prop where
 keep:∀b o,h.get? b=some o->H b=none->b∉fs->b∉ex->h'.get? b=some o
 slot:∀b o,h.get? b=some o->H b=none->b∈fs->b∉ex->∃sl,h'.get? b=some { o with slots:=sl }
 free:∀b o,h.get? b=some o->H b=none->b∉ex->H' b=none
 there:∀b o,h.get? b=some o->b∉ex->∃o',h'.get? b=some o'
 tups:∀b xs,H b=some (.tup xs)->H' b=some (.tup xs)
 m9:∀b o u,H b=some (.fE o u)->H' b=some (.fE o u)
 pJ:∀b ps,H b=some (.Il ps)->∃more,H' b=some (.Il (ps++more))
section
variable {fs fs' ex ex':List Addr} {H H1 H2:Hp} {h h1 h2 h':Heap} {a x e:Addr} {o:HO}
theorem Un.any (u:Un fs ex H H1 h h1) {b:Addr} (q:h.get? b=some ob) (n:H b=none) (hx:b∉ex):∃sl,h1.get? b=some { ob with slots:=sl }:=by
 by_cases hb:b∈fs
 . exact u.slot b ob q n hb hx
 . exact ⟨ob.slots,u.keep b ob q n hb hx⟩
theorem Un.kept (k:∀b u,h.get? b=some u->h'.get? b=some u):Un fs ex H H h h':=
 ⟨fun b ob q _ _ _=>k b ob q,fun b ob q _ _ _=>⟨ob.slots,k b ob q⟩,fun _ _ _ n _=>n,fun b ob q _=>⟨ob,k b ob q⟩,fun _ _ q=>q,fun _ _ _ q=>q,fun _ ps q=>⟨#[],by rw [q];simp⟩⟩
theorem Un.refl:Un fs ex H H h h:=Un.kept fun _ _ q=>q
theorem Un.laid (k:∀b u,h.get? b=some u->h'.get? b=some u) (hp:h.objs.size<=a) (hn:H a=none):Un fs ex H (upd H a o) h h' where
 keep:=fun b u q _ _ _=>k b u q
 slot:=fun b u q _ _ _=>⟨u.slots,k b u q⟩
 free:=fun b u q n _=>by rw [av (dS (lq (bQ q) hp))];exact n
 there:=fun b u q _=>⟨u,k b u q⟩
 tups:=fun b xs q=>by rw [av (aE q hn)];exact q
 m9:=fun b u xs q=>by rw [av (aE q hn)];exact q
 pJ:=fun b ps q=>⟨#[],by rw [av (aE q hn),q];simp⟩
theorem Un.write (mu:Th (H x)) (he:e=x\/H e=some (.own x)) (k:∀b u,b≠e->h.get? b=some u->h'.get? b=some u) (Po:∃u,h'.get? e=some u):Un fs ex H (upd H x o) h h':=by
 have hx:∀b,H b=none->b≠x:=fun b n z=>by subst z;rw [n] at mu;exact mu
 have hb:∀b,H b=none->b≠e:=fun b n z=>by
  subst z
  rcases he with r|r
  . exact hx b n r
  . rw [n] at r;cases r
 have hm:∀b u,H b=some u->¬ Th (some u)->b≠x:=fun b u q nm z=>by subst z;rw [q] at mu;exact nm mu
 refine ⟨fun b u q n _ _=>k b u (hb b n) q,fun b u q n _ _=>⟨u.slots,k b u (hb b n) q⟩,fun b u q n _=>by rw [av (hx b n)];exact n,fun b u q _=>?_,
  fun b xs q=>by rw [av (hm b _ q fun z=>z)];exact q,fun b u xs q=>by rw [av (hm b _ q fun z=>z)];exact q,fun b ps q=>⟨#[],by rw [av (hm b _ q fun z=>z),q];simp⟩⟩
 by_cases K2:b=e
 . subst K2;exact Po
 . exact ⟨u,k b u K2 q⟩
end
def Yg (h:Heap) (H:Hp):List Addr:=(List.range h.objs.size).filter fun a=>(H a).isSome
def yJ (h:Heap) (H:Hp):Heap:=PySem.W.hideAll h (Yg h H)
theorem Ti (h:Heap) (H:Hp):(yJ h H).objs.size=h.objs.size:=PySem.W.hideAll_size _ _
theorem Wo {b:Addr} {o:Obj} (e:h.get? b=some o) (n:H b=none):(yJ h H).get? b=some o:=
 Ra _ e fun hm=>by
  have q:(H b).isSome=true:=(mF.mp hm).2
  rw [n] at q;simp at q
theorem Zh {b:Addr} {o:Obj} (e:(yJ h H).get? b=some o):h.get? b=some o/\H b=none:=by
 have e':h.get? b=some o:=Rb (Yg h H) e
 refine ⟨e',?_⟩
 cases q:H b with
 | none=>rfl
 | some x=>
   have hm:b∈Yg h H:=mF.mpr ⟨yE.mpr (bQ e'),by simp [q]⟩
   have z:(yJ h H).get? b=none:=KR (Yg h H) hm
   rw [z] at e;cases e
structure Mod (K:Fg) (mg:SO) (base:Heap):Prop where
 Pp:K.In base
 glob:base.Ns mainGlobals mg
 blt:∃mb,base.Ns builtinsNs mb/\∀x:Str,x ≠ "__name__"->mb x=bootBuiltins x
 nolimit:base.NoLimit
structure Cx where
 prog:Program
 w:World
 K:Fg
 mg:Str->Option Value
 base:Heap
 A:Around
 N:List Str
 s₀:Shared
 H₀:Hp
 env:Env
 outer:List Env
 stack:List Env
 ex:List Addr
 fn:Str->Bool
 calm:Bool
 pn:List (Addr×Obj)
 xe:Value->Shared->Prop
def frs (l:List Env):List Addr:=l.filterMap (·.frame)
abbrev Cx.fs (X:Cx):List Addr:=frs X.outer
def Tj (sc:Scope) (x:Str):Prop:=sc.names.lookup x=some .local\/sc.names.lookup x=some .cell\/sc.names.lookup x=some .free
def Loc (sc:Scope) (x:Str):Prop:=sc.names.lookup x=some .local\/sc.names.lookup x=some .cell
def Look (env:Env) (h:Heap) (m:SO) (x:Str) (u:Value):Prop:=
 (env.kindOf x=some .local/\m x=some u)\/((env.kindOf x=some .cell\/env.kindOf x=some .free)/\∃c,env.cells.lookup x=some c/\h.IsCell c (some u))
structure Cx.Ok (X:Cx):Prop where
 mod:Mod X.K X.mg X.base
 kind:X.env.scope.kind = .function
 glob:X.env.globals=mainGlobals
 blt:X.env.builtins=builtinsNs
 above:X.s₀.heap.objs.size<=X.env.locals
 inj:∀x y c,X.env.cells.lookup x=some c->X.env.cells.lookup y=some c->x=y
 has:∀x,(X.env.kindOf x=some .cell\/X.env.kindOf x=some .free)->∃c,X.env.cells.lookup x=some c
 gW:∀x c,X.fn x=true->X.env.cells.lookup x=some c->X.s₀.heap.objs.size<=c
 hd:X.calm=true->X.A.handled=none
 frames:X.A.frames=some X.stack
 stk:X.stack=X.outer\/(X.stack=X.env::X.outer/\X.env.frame=some X.env.locals)
 K3:∀b∈X.ex,b≠X.env.locals/\∀x c,X.env.cells.lookup x=some c->c≠b
 bs:∀b o,X.base.get? b=some o->X.s₀.heap.get? b=some o/\X.H₀ b=none
 Eg:X.base.objs.size<=X.s₀.heap.objs.size
 GC:∀b o,X.base.get? b=some o->b∉X.ex
 C0:∀b∈X.ex,b∉X.fs
 oh:X.s₀.heap.FunFrames X.base X.outer
 Im:∀b∈X.fs,X.H₀ b=none
structure Inv (X:Cx) (pins:AO) (σ:List (Option V)) (H:Hp) (s:Shared):Prop where
 ok:X.Ok
 os:s.os=X.s₀.os
 bare:AllBare s.gens
 base:Un X.fs X.ex X.H₀ H X.s₀.heap s.heap
 loc:∃m,s.heap.Ns X.env.locals m/\∀(i:Nat) (x:Str) (v:V),X.N[i]?=some x->σ[i]?=some (some v)->Tj X.env.scope x->∃u,RelV v u/\Look X.env s.heap m x u
 cell:∀x c,X.env.cells.lookup x=some c->∃v,s.heap.IsCell c v
 free:H X.env.locals=none
 jP:∀x c,X.env.cells.lookup x=some c->H c=none
 pin:∀p∈X.pn++pins,s.heap.get? p.1=some p.2/\H p.1=none/\p.1≠X.env.locals/\p.1∉X.fs/\∀v,p.2.data ≠ .cell v
 hok:gU X.prog X.w H s.heap
 len:σ.length=X.N.length
variable {g':Array GenState} {t' i j:Nat} {ch:List Addr} {it:Addr} {N:List Str} {x:Str} {M:Model} {A:Around} {u:Value} {Q:Unit->Shared->Prop}
section
variable {X:Cx} {pins:AO} {σ:List (Option V)} {H H':Hp} {s:Shared} {h':Heap}
theorem Cx.Ok.aht (ok:X.Ok) {b:Addr} {o:Obj} (e:X.base.get? b=some o):b∉X.fs:=fun hb=>by
 have:=(ok.oh.mem hb).1
 rw [e] at this;cases this
theorem Inv.bs (I:Inv X pins σ H s):∀b o,X.base.get? b=some o->s.heap.get? b=some o/\H b=none:=fun b o e=>
 ⟨I.base.keep b o (I.ok.bs b o e).1 (I.ok.bs b o e).2 (I.ok.aht e) (I.ok.GC b o e),I.base.free b o (I.ok.bs b o e).1 (I.ok.bs b o e).2 (I.ok.GC b o e)⟩
theorem Inv.bk (I:Inv X pins σ H s):∀b o,X.base.get? b=some o->s.heap.get? b=some o:=fun b o e=>(I.bs b o e).1
theorem Inv.mod (I:Inv X pins σ H s):Mod X.K X.mg X.base:=I.ok.mod
theorem Inv.iP (I:Inv X pins σ H s):X.K.In s.heap:=I.ok.mod.Pp.keeps I.bk
theorem Inv.lt (I:Inv X pins σ H s):X.env.locals<s.heap.objs.size:=let ⟨_,hn,_⟩:=I.loc;hn.lt
theorem Inv.sz (I:Inv X pins σ H s):X.s₀.heap.objs.size<=s.heap.objs.size:=eX I.ok.above (Ed I.lt)
theorem Inv.ahu (I:Inv X pins σ H s) (h:s.heap.objs.size<=a):a∉X.fs:=fun hb=>by
 obtain ⟨_,o,ho,_⟩:=I.ok.oh.mem hb
 exact absurd (lq (bQ ho) (eX I.sz h)) (ju _)
theorem Inv.Io (I:Inv X pins σ H s):∀x c,X.env.cells.lookup x=some c->c≠X.env.locals:=fun x c e z=>by
 obtain ⟨v,o,ho,hd⟩:=I.cell x c e
 obtain ⟨m,⟨o',es,ep,ho',hd',_⟩,_⟩:=I.loc
 rw [z,ho'] at ho;cases ho;rw [hd'] at hd;cases hd
theorem Inv.oh (I:Inv X pins σ H s):s.heap.FunFrames X.base X.outer:=by
 have all:∀(l:List Env),(∀b∈frs l,b∈X.fs)->X.s₀.heap.FunFrames X.base l->s.heap.FunFrames X.base l:=by
  intro l
  induction l with
  | nil=>intro _ _;trivial
  | cons env r ih=>
    intro hs hl
    obtain ⟨hk,⟨L,o,hf,hn,ho,hd⟩,hr⟩:=hl
    have hL:L∈X.fs:=hs L (by unfold frs;rw [Al,hf];exact cO)
    obtain ⟨sl,e⟩:=I.base.slot L o ho (I.ok.Im L hL) hL fun z=>I.ok.C0 L z hL
    exact ⟨hk,⟨L,_,hf,hn,e,hd⟩,ih (fun b hb=>hs b (by unfold frs;rw [Al,hf];exact cL _ hb)) hr⟩
 exact all X.outer (fun _ hb=>hb) I.ok.oh
theorem Inv.stack (I:Inv X pins σ H s):s.heap.FunFrames X.base X.stack:=by
 rcases I.ok.stk with e|⟨e,hf⟩
 . rw [e];exact I.oh
 . rw [e]
   obtain ⟨m,hn,_⟩:=I.loc
   refine .cons (by rw [I.ok.kind];decide) hf hn ?_ I.oh
   exact Heap.get?_none_of_le (eX I.ok.Eg I.ok.above)
theorem Inv.K4 (I:Inv X pins σ H s):∀b∈frs X.stack,b∈X.env.locals::X.fs:=fun b hb=>by
 rcases I.ok.stk with e|⟨e,hf⟩
 . rw [e] at hb;exact cL _ hb
 . rw [e] at hb
   unfold frs at hb
   rw [Al,hf] at hb
   exact hb
theorem Inv.xV (I:Inv X pins σ H s):∀b∈frs X.stack,H b=none:=fun b hb=>by
 rcases dg.mp (I.K4 b hb) with e|hb
 . rw [e];exact I.free
 . obtain ⟨_,o,ho,_⟩:=I.ok.oh.mem hb
   exact I.base.free b o ho (I.ok.Im b hb) fun z=>I.ok.C0 b z hb
theorem Inv.step {d':Drawn} (I:Inv X pins σ H s)
  (hch:∀b∈ch,(b∈X.ex\/X.s₀.heap.objs.size<=b)/\b≠X.env.locals/\(∀x c,X.env.cells.lookup x=some c->c≠b)/\∀p∈X.pn++pins,p.1≠b)
  (keep:∀b o,b≠X.env.locals->b∉X.fs->b∉ch->s.heap.get? b=some o->H b=none->h'.get? b=some o)
  (slot:∀b o,b≠X.env.locals->b∈X.fs->b∉ch->s.heap.get? b=some o->H b=none->∃sl,h'.get? b=some { o with slots:=sl }) (free:∀b o,b∉ch->s.heap.get? b=some o->H b=none->H' b=none)
  (there:∀b o,b∉ch->s.heap.get? b=some o->∃o',h'.get? b=some o')
  (tups:∀b xs,H b=some (.tup xs)->H' b=some (.tup xs)) (m9:∀b o u,H b=some (.fE o u)->H' b=some (.fE o u)) (pJ:∀b ps,H b=some (.Il ps)->∃more,H' b=some (.Il (ps++more)))
  (ns:∀m,s.heap.Ns X.env.locals m->h'.Ns X.env.locals m) (hok:gU X.prog X.w H' h') (hg:AllBare g'):
  Inv X pins σ H' { s with heap:=h',gens:=g',drawn:=d',toks:=t' }:=by
 have Pq:∀b o,X.s₀.heap.get? b=some o->b≠X.env.locals:=fun b o e=>dS (lq (bQ e) I.ok.above)
 have Yh:∀b o,X.s₀.heap.get? b=some o->b∉X.ex->b∉ch:=fun b o e hx hb=>by
  rcases (hch b hb).1 with z|z
  . exact hx z
  . exact absurd (lq (bQ e) z) (ju _)
 have cellK:∀x c,X.env.cells.lookup x=some c->∀v,s.heap.IsCell c v->h'.IsCell c v:=fun x c e v ⟨o,ho,hd⟩=>by
  have xW:c∉ch:=fun z=>(hch c z).2.2.1 x c e rfl
  by_cases hc:c∈X.fs
  . obtain ⟨sl,q⟩:=slot c o (I.Io x c e) hc xW ho (I.jP x c e)
    exact ⟨_,q,hd⟩
  . exact ⟨o,keep c o (I.Io x c e) hc xW ho (I.jP x c e),hd⟩
 refine ⟨I.ok,I.os,hg,⟨fun b o e n hb hx=>?_,fun b o e n hb hx=>?_,fun b o e n hx=>?_,fun b o e hx=>?_,fun b xs e=>tups b xs (I.base.tups b xs e),fun b o xs e=>m9 b o xs (I.base.m9 b o xs e),fun b ps e=>?_⟩,?_,fun x c e=>?_,?_,fun x c e=>?_,fun p hp=>?_,hok,I.len⟩
 . exact keep b o (Pq b o e) hb (Yh b o e hx) (I.base.keep b o e n hb hx) (I.base.free b o e n hx)
 . obtain ⟨sl,e1⟩:=I.base.slot b o e n hb hx
   obtain ⟨K5,e2⟩:=slot b _ (Pq b o e) hb (Yh b o e hx) e1 (I.base.free b o e n hx)
   exact ⟨K5,e2⟩
 . obtain ⟨o',e1⟩:=I.base.there b o e hx
   exact free b o' (Yh b o e hx) e1 (I.base.free b o e n hx)
 . obtain ⟨o',e1⟩:=I.base.there b o e hx
   exact there b o' (Yh b o e hx) e1
 . obtain ⟨m1,e1⟩:=I.base.pJ b ps e
   obtain ⟨m2,e2⟩:=pJ b _ e1
   exact ⟨m1++m2,by rw [e2,Array.append_assoc]⟩
 . obtain ⟨m,hn,hl⟩:=I.loc
   refine ⟨m,ns m hn,fun i x v e1 e2 e3=>?_⟩
   obtain ⟨u,r,l⟩:=hl i x v e1 e2 e3
   refine ⟨u,r,?_⟩
   rcases l with l|⟨k,c,e,z⟩
   . exact .inl l
   . exact .inr ⟨k,c,e,cellK x c e _ z⟩
 . obtain ⟨v,z⟩:=I.cell x c e
   exact ⟨v,cellK x c e v z⟩
 . obtain ⟨m,⟨o,_,_,ho,_⟩,_⟩:=I.loc
   exact free _ o (fun z=>(hch _ z).2.1 rfl) ho I.free
 . obtain ⟨v,o,ho,hd⟩:=I.cell x c e
   exact free c o (fun z=>(hch c z).2.2.1 x c e rfl) ho (I.jP x c e)
 . obtain ⟨e,n,ne,nf,d⟩:=I.pin p hp
   have xW:p.1∉ch:=fun z=>(hch p.1 z).2.2.2 p hp rfl
   exact ⟨keep p.1 p.2 ne nf xW e n,free p.1 p.2 xW e n,ne,nf,d⟩
theorem Inv.un (I:Inv X pins σ H s) (u:Un X.fs [] H H' s.heap h') (hok:gU X.prog X.w H' h'):Inv X pins σ H' { s with heap:=h',toks:=t' }:=by
 obtain ⟨m,⟨o,es,ep,ho,r⟩,_⟩:=id I.loc
 obtain ⟨sl,hL⟩:=u.any ho I.free (by simp)
 exact I.step (g':=s.gens) (d':=s.drawn) (ch:=[]) (fun _ z=>nomatch z) (fun b o _ hb _ e n=>u.keep b o e n hb (by simp)) (fun b o _ hb _ e n=>u.slot b o e n hb (by simp)) (fun b o _ e n=>u.free b o e n (by simp)) (fun b o _ e=>u.there b o e (by simp)) u.tups u.m9 u.pJ (fun m' hm=>by
  obtain ⟨o',es',xX,ho',r'⟩:=hm
  rw [ho] at ho';cases ho'
  exact ⟨_,es',xX,hL,r'⟩) hok I.bare
theorem Inv.call {d':Drawn} (I:Inv X pins σ H s) (u:Un (frs X.stack) ch H H' s.heap h') (hok:gU X.prog X.w H' h') (hg:AllBare g')
  (hch:∀b∈ch,(b∈X.ex\/X.s₀.heap.objs.size<=b)/\b≠X.env.locals/\(∀x c,X.env.cells.lookup x=some c->c≠b)/\∀p∈X.pn++pins,p.1≠b):
  Inv X pins σ H' { s with heap:=h',gens:=g',drawn:=d',toks:=t' }:=by
 obtain ⟨m,⟨o,es,ep,ho,r⟩,_⟩:=id I.loc
 obtain ⟨sl,hL⟩:=u.any ho I.free fun z=>(hch _ z).2.1 rfl
 exact I.step (ch:=ch) hch (fun b o hL hb hc e n=>u.keep b o e n (fun z=>(dg.mp (I.K4 b z)).elim hL hb) hc) (fun b o _ _ hc e n=>u.any e n hc) (fun b o hc e n=>u.free b o e n hc) (fun b o hc e=>u.there b o e hc) u.tups u.m9 u.pJ (fun m' hm=>by
  obtain ⟨o',es',xX,ho',r'⟩:=hm
  rw [ho] at ho';cases ho'
  exact ⟨_,es',xX,hL,r'⟩) hok hg
theorem Inv.turned (I:Inv X pins σ H s) (k:∀b o,b≠it->s.heap.get? b=some o->h'.get? b=some o) (hn:H it=none) (hL:it≠X.env.locals)
  (h1:it∈X.ex\/X.s₀.heap.objs.size<=it) (h2:∀x c,X.env.cells.lookup x=some c->c≠it) (h3:∀p∈X.pn++pins,p.1≠it):Inv X pins σ H { s with heap:=h',toks:=t' }:=by
 have nit:∀b u,H b=some u->b≠it:=fun b u e z=>by rw [z,hn] at e;cases e
 refine I.step (g':=s.gens) (d':=s.drawn) (ch:=[it]) (fun b hb=>?_) (fun b o _ _ hc e _=>k b o (fun z=>hc (by simp [z])) e) (fun b o _ _ hc e _=>⟨o.slots,k b o (fun z=>hc (by simp [z])) e⟩) (fun _ _ _ _ n=>n)
  (fun b o hc e=>⟨o,k b o (fun z=>hc (by simp [z])) e⟩) (fun _ _ e=>e) (fun _ _ _ e=>e) (fun b ps e=>⟨#[],by rw [e];simp⟩) (fun m hm=>?_) (fun b u e=>?_) I.bare
 . have e:b=it:=by simpa using hb
   subst e
   exact ⟨h1,hL,h2,h3⟩
 . obtain ⟨o,es,ep,ho,r⟩:=hm
   exact ⟨o,es,ep,k _ o (cy hL) ho,r⟩
 . refine (I.hok b u e).stay (fun c v hc q=>k c v ?_ q) (fun _ q=>q) fun _ _ q=>q
   rcases hc with z|z
   . rw [z];exact nit b u e
   . exact nit c _ z
theorem Inv.tok (I:Inv X pins σ H s) (t:Nat):Inv X pins σ H { s with toks:=t }:=I.un (h':=s.heap) (t':=t) Un.refl I.hok
theorem Inv.kept (I:Inv X pins σ H s) (k:∀b u,s.heap.get? b=some u->h'.get? b=some u):Inv X pins σ H { s with heap:=h',toks:=t' }:=I.un (Un.kept k) (I.hok.kept k)
theorem Inv.laid (I:Inv X pins σ H s) (k:∀b u,s.heap.get? b=some u->h'.get? b=some u) (hp:s.heap.objs.size<=a) (new:dQ X.prog X.w (upd H a o) h' a o):
  Inv X pins σ (upd H a o) { s with heap:=h',toks:=t' }:=I.un (Un.laid k hp (I.hok.fresh hp)) (I.hok.laid k hp new)
theorem Inv.write {x e:Addr} (I:Inv X pins σ H s) (mu:Th (H x)) (he:e=x\/H e=some (.own x)) (k:∀b u,b≠e->s.heap.get? b=some u->h'.get? b=some u) (Po:∃u,h'.get? e=some u)
  (new:dQ X.prog X.w (upd H x o) h' x o):Inv X pins σ (upd H x o) { s with heap:=h',toks:=t' }:=I.un (Un.write mu he k Po) (I.hok.write mu he k Po new)
theorem Inv.Pr {Yi:AO} (I:Inv X pins σ H s) (h:∀p∈Yi,s.heap.get? p.1=some p.2/\H p.1=none/\p.1≠X.env.locals/\p.1∉X.fs/\∀v,p.2.data ≠ .cell v):Inv X Yi σ H s:=
 ⟨I.ok,I.os,I.bare,I.base,I.loc,I.cell,I.free,I.jP,fun p hp=>(eV.mp hp).elim (fun z=>I.pin p (Gr _ z)) (h p),I.hok,I.len⟩
theorem yK (hN:N.Nodup) (a:N[i]?=some x) (b:N[j]?=some x):i=j:=by
 obtain ⟨h1,e1⟩:=d7.mp a
 obtain ⟨h2,e2⟩:=d7.mp b
 exact (List.getElem_inj hN).mp (e1.trans e2.symm)
theorem An {E:VS} {v:V} (I:Inv X pins σ H s) (hN:X.N.Nodup) (hi:X.N[i]?=some x) (hx:Loc X.env.scope x) (r:RelV v u)
  (h:∀s',Inv X pins (σ.set i (some v)) H s'->(∃a,Heap.SameBut a s.heap s'.heap/\(a=X.env.locals\/X.env.cells.lookup x=some a))->Q () s') (hf:X.fn x=true\/X.env.scope.names.lookup x=some .local:=by first|exact .inl rfl|exact .inr rfl|assumption):wpAny M A (storeName X.env x u) Q E s:=by
 obtain ⟨m,hn,hl⟩:=id I.loc
 have hcls:(X.env.scope.kind == .class || (X.env.scope.kind == .module && X.env.locals != X.env.globals))=false:=by rw [I.ok.kind];rfl
 have hiσ:i<σ.length:=by rw [I.len];exact (d7.mp hi).1
 have Io:=I.Io
 have tracked:∀{a:Addr} {h':Heap},(∃o,s.heap.get? a=some o/\H a=none)->Heap.SameBut a s.heap h'->gU X.prog X.w H h':=fun {a h'} ha hs b ob e=>by
  obtain ⟨_,_,hfree⟩:=ha
  refine (I.hok b ob e).stay (fun c w' hc q=>(hs.2 c ?_).trans q) (fun _ q=>q) fun _ _ q=>q
  rintro rfl
  rcases hc with rfl|hc
  . rw [hfree] at e;cases e
  . rw [hfree] at hc;cases hc
 rcases hx with hk|hk
 . refine wpAny_storeName_local hk hn (fun h' hn' hs=>?_) hcls
   obtain ⟨oL,_,_,hoL,_⟩:=id hn
   refine h _ ⟨I.ok,I.os,I.bare,⟨fun b o e n hb hx=>?_,fun b o e n hb hx=>?_,I.base.free,fun b o e hx=>?_,I.base.tups,I.base.m9,I.base.pJ⟩,⟨_,hn',fun j y v' e1 e2 e3=>?_⟩,fun y c e=>?_,I.free,I.jP,fun p hp=>?_,tracked ⟨oL,hoL,I.free⟩ hs,by simpa using I.len⟩ ⟨_,hs, .inl rfl⟩
   . exact (hs.2 b (dS (lq (bQ e) I.ok.above))).trans (I.base.keep b o e n hb hx)
   . obtain ⟨sl,e1⟩:=I.base.slot b o e n hb hx
     exact ⟨sl,(hs.2 b (dS (lq (bQ e) I.ok.above))).trans e1⟩
   . obtain ⟨o',e1⟩:=I.base.there b o e hx
     exact ⟨o',(hs.2 b (dS (lq (bQ e) I.ok.above))).trans e1⟩
   . by_cases hj:j=i
     . subst hj
       rw [hi] at e1;cases e1
       rw [kC hiσ] at e2
       cases e2
       exact ⟨u,r, .inl ⟨hk,by simp⟩⟩
     . rw [Ak (cy hj)] at e2
       obtain ⟨u',r',q⟩:=hl j y v' e1 e2 e3
       refine ⟨u',r',?_⟩
       rcases q with ⟨k,e⟩|⟨k,c,e,z⟩
       . refine .inl ⟨k,?_⟩
         have:y≠x:=fun e=>hj (yK hN e1 (e▸hi))
         simp [this,e]
       . exact .inr ⟨k,c,e,z.sameBut hs (Io y c e)⟩
   . obtain ⟨w',z⟩:=I.cell y c e
     exact ⟨w',z.sameBut hs (Io y c e)⟩
   . obtain ⟨e,n,ne,nf,d⟩:=I.pin p hp
     exact ⟨(hs.2 p.1 ne).trans e,n,ne,nf,d⟩
 . have hfn:X.fn x=true:=by
    rcases hf with z|z
    . exact z
    . rw [z] at hk;cases hk
   obtain ⟨c,hc⟩:=I.ok.has x (.inl hk)
   obtain ⟨w',z⟩:=I.cell x c hc
   refine wpAny_storeName_cell I.ok.kind hk hc z (fun h' hc' hs=>?_)
   obtain ⟨oc,hoc,ahv⟩:=id z
   refine h { s with heap:=h' } ⟨I.ok,I.os,I.bare,⟨fun b o e n hb hx=>?_,fun b o e n hb hx=>?_,I.base.free,fun b o e hx=>?_,I.base.tups,I.base.m9,I.base.pJ⟩,⟨m,hn.sameBut hs (cy (Io x c hc)),fun j y v' e1 e2 e3=>?_⟩,fun y c' e=>?_,I.free,I.jP,fun p hp=>?_,tracked ⟨oc,hoc,I.jP x c hc⟩ hs,by simpa using I.len⟩ ⟨c,hs, .inr hc⟩
   . exact (hs.2 b (dS (lq (bQ e) (I.ok.gW x c hfn hc)))).trans (I.base.keep b o e n hb hx)
   . obtain ⟨sl,e1⟩:=I.base.slot b o e n hb hx
     exact ⟨sl,(hs.2 b (dS (lq (bQ e) (I.ok.gW x c hfn hc)))).trans e1⟩
   . obtain ⟨o',e1⟩:=I.base.there b o e hx
     exact ⟨o',(hs.2 b (dS (lq (bQ e) (I.ok.gW x c hfn hc)))).trans e1⟩
   . by_cases hj:j=i
     . subst hj
       rw [hi] at e1;cases e1
       rw [kC hiσ] at e2
       cases e2
       exact ⟨u,r, .inr ⟨.inl hk,c,hc,hc'⟩⟩
     . rw [Ak (cy hj)] at e2
       obtain ⟨u',r',q⟩:=hl j y v' e1 e2 e3
       refine ⟨u',r',?_⟩
       rcases q with q|⟨k,c',e,z'⟩
       . exact .inl q
       . refine .inr ⟨k,c',e,z'.sameBut hs ?_⟩
         rintro rfl
         exact hj (yK hN e1 (I.ok.inj _ _ _ e hc▸hi))
   . by_cases hcc:c'=c
     . subst hcc;exact ⟨_,hc'⟩
     . obtain ⟨w2,z2⟩:=I.cell y c' e
       exact ⟨w2,z2.sameBut hs hcc⟩
   . obtain ⟨e,n,ne,nf,d⟩:=I.pin p hp
     refine ⟨(hs.2 p.1 ?_).trans e,n,ne,nf,d⟩
     intro q
     rw [q,hoc] at e
     have q':oc=p.2:=iG e
     exact d w' (by rw [<-q'];exact ahv)
theorem uS {E:VS} {v:V} (I:Inv X pins σ H s) (hN:X.N.Nodup) (hi:X.N[i]?=some x) (hx:Loc X.env.scope x) (r:RelV v u)
  (h:∀s',Inv X pins (σ.set i (some v)) H s'->Q () s') (hf:X.fn x=true\/X.env.scope.names.lookup x=some .local:=by first|exact .inl rfl|exact .inr rfl|assumption):wpAny M A (storeName X.env x u) Q E s:=
 An I hN hi hx r (fun s' I' _=>h s' I') hf
theorem Inv.Kz {s':Shared} (I:Inv X pins σ H s) (ho:s'.os=s.os) (u:Un (frs X.stack) ch H H' s.heap s'.heap) (hok:gU X.prog X.w H' s'.heap) (hg:AllBare s'.gens)
  (hch:∀b∈ch,(b∈X.ex\/X.s₀.heap.objs.size<=b)/\b≠X.env.locals/\(∀x c,X.env.cells.lookup x=some c->c≠b)/\∀p∈X.pn++pins,p.1≠b):Inv X pins σ H' s':=by
 obtain ⟨h',g',d',t',o'⟩:=s'
 have e:o'=s.os:=ho
 subst e
 exact I.call (g':=g') (t':=t') (d':=d') u hok hg hch
end
abbrev XK:=Value->Option Addr->Hp->Prop
abbrev St:=List (Option V)
abbrev VK:=V->Hp->Prop
abbrev TE:=St->Hp->VK->Prop
abbrev TT:=St->Hp->(Bool->Hp->Prop)->Prop
abbrev TA:=St->Hp->(List V->Hp->Prop)->Prop
structure Ends where
 nx:St->Hp->Prop
 rt:VK
 bk:St->Hp->Prop:=fun _ _=>False
 ct:St->Hp->Prop:=fun _ _=>False
abbrev TS:=Ends->St->Hp->Prop
def EP (X:Cx) (pins:AO) (σ:St) (Q:VK) (u:Value) (s':Shared):Prop:=∃v H',Inv X pins σ H' s'/\RelV v u/\Q v H'
def TP (X:Cx) (pins:AO) (σ:St) (Q:Bool->Hp->Prop) (b:Bool) (s':Shared):Prop:=∃H',Inv X pins σ H' s'/\Q b H'
def AP (X:Cx) (pins:AO) (σ:St) (Q:List V->Hp->Prop) (us:List Value) (s':Shared):Prop:=∃vs H',Inv X pins σ H' s'/\Vals vs us/\Q vs H'
def SP (X:Cx) (pins:AO) (D:Ends) (f:Flow) (s':Shared):Prop:=
 match f with
 | .next=>∃σ' H',Inv X pins σ' H' s'/\D.nx σ' H'
 | .brk=>∃σ' H',Inv X pins σ' H' s'/\D.bk σ' H'
 | .cont=>∃σ' H',Inv X pins σ' H' s'/\D.ct σ' H'
 | .ret u=>∃v σ' H',Inv X pins σ' H' s'/\RelV v u/\D.rt v H'
def PE (X:Cx) (e:Expr) (t:TE):Prop:=
 ∀(pins:AO) (s:Shared) (σ:St) (H:Hp) (Q:VK),Inv X pins σ H s->t σ H Q->wpAny (model X.prog X.w) X.A (eval e X.env) (EP X pins σ Q) X.xe s
def PT (X:Cx) (e:Expr) (t:TT):Prop:=
 ∀(pins:AO) (s:Shared) (σ:St) (H:Hp) (Q:Bool->Hp->Prop),Inv X pins σ H s->t σ H Q->wpAny (model X.prog X.w) X.A (isTrue e X.env (eval e X.env)) (TP X pins σ Q) X.xe s
def PW (X:Cx) (e:Expr) (t:TT):Prop:=
 ∀(whole:Sem Value) (pins:AO) (s:Shared) (σ:St) (H:Hp) (Q:Bool->Hp->Prop),Inv X pins σ H s->t σ H Q->wpAny (model X.prog X.w) X.A (isTrue e X.env whole) (TP X pins σ Q) X.xe s
variable {X:Cx} {e:Expr}
theorem PW.pt {t:TT} (h:PW X e t):PT X e t:=h _
def PA (X:Cx) (es:List Expr) (t:TA):Prop:=
 ∀(pos:Pos) (pins:AO) (s:Shared) (σ:St) (H:Hp) (Q:List V->Hp->Prop),Inv X pins σ H s->t σ H Q->wpAny (model X.prog X.w) X.A (spliced (backTo pos (starEach es X.env))) (AP X pins σ Q) X.xe s
def PS (X:Cx) (st:Stmt) (t:TS):Prop:=
 ∀(pins:AO) (s:Shared) (σ:St) (H:Hp) (D:Ends),Inv X pins σ H s->t D σ H->wpAny (model X.prog X.w) X.A (exec st X.env) (SP X pins D) X.xe s
def qI (X:Cx) (st:List Stmt) (t:TS):Prop:=
 ∀(pins:AO) (s:Shared) (σ:St) (H:Hp) (D:Ends),Inv X pins σ H s->t D σ H->wpAny (model X.prog X.w) X.A (execs st X.env) (SP X pins D) X.xe s
variable {s:Shared}
theorem bq {α:Type} {t:Sem α} {Q Q':α->Shared->Prop} {E:VS} (h:wpAny M A t Q E s) (hQ:∀a s,Q a s->Q' a s):wpAny M A t Q' E s:=gY h hQ fun _ _ x=>x
variable {pos:Pos} {pins:AO} {σ:St} {op:CmpOp}
section
variable {X:Cx}
inductive C3 (i:Nat) (σ:St) (H:Hp) (Q:VK):Prop
 | mk  (v:_) (_:σ[i]?=some (some v)) (_:Q v H)
def tC (v:V):TE:=fun _ H Q=>Q v H
theorem aaV (hN:X.N[i]?=some x) (hv:Tj X.env.scope x) (hd:(x==("__debug__":Str))=false:=by decide) (hcd:(x==("__classdict__":Str))=false:=by decide):PE X (.Name x pos) (C3 i):=by
 intro pins s σ H Q I h
 obtain ⟨v,e,h⟩:=h
 obtain ⟨m,hn,hl⟩:=I.loc
 obtain ⟨u,r,l⟩:=hl i x v hN e hv
 have fin:EP X pins σ Q u s:=⟨v,H,I,r,h⟩
 rcases l with ⟨hk,hm⟩|⟨hk,c,hc,hcell⟩
 . exact wpAny_Name (wpAny_loadName_local I.ok.kind hk hn hm fin) hd
 . rcases hk with hk|hk
   . exact wpAny_Name (wpAny_loadName_cell I.ok.kind hk hc hcell fin) hd
   . exact wpAny_Name (wpAny_loadName_free I.ok.kind hk hc hcell fin hcd) hd
theorem Tn {x j pos}:PE X (.Constant (.str x) j pos) (tC (.str x)):=fun _ _ _ H _ I h=>Calls.Constant_str ⟨.str x,H,I.tok _,⟨_,Z⟩,h⟩
def Gl (X:Cx) (x:Str):Prop:=X.env.kindOf x=some .globalImplicit
theorem qO {E:VS} {Q:VS} (I:Inv X pins σ H s) (hg:Gl X x) (hm:X.mg x=some u) (h:Q u s)
  (hd:(x==("__debug__":Str))=false:=by decide):wpAny (model X.prog X.w) X.A (eval (.Name x pos) X.env) Q E s:=
 Calls.Name_function_global I.ok.kind hg (Calls.loadGlobal_global (by rw [I.ok.glob];exact I.mod.glob.keeps I.bk) hm h) hd
theorem xY {E:VS} {Q:VS} (I:Inv X pins σ H s) (hg:Gl X x) (hm:X.mg x=none) (hv:bootBuiltins x=some u) (h:Q u s)
  (hn:x ≠ "__name__":=by decide) (hd:(x==("__debug__":Str))=false:=by decide):wpAny (model X.prog X.w) X.A (eval (.Name x pos) X.env) Q E s:=by
 obtain ⟨mb,h1,h2⟩:=I.mod.blt
 exact Calls.Name_function_global I.ok.kind hg (Calls.loadGlobal_builtin (by rw [I.ok.glob];exact I.mod.glob.keeps I.bk) hm (by rw [I.ok.blt];exact h1.keeps I.bk) ((h2 x hn).trans hv) h) hd
theorem Zi {v:V} (hg:Gl X x) (hm:X.mg x=none) (hv:bootBuiltins x=some u) (r:RelV v u) (hn:x ≠ "__name__":=by decide) (hd:(x==("__debug__":Str))=false:=by decide):PE X (.Name x pos) (tC v):=
 fun _ _ _ H _ I h=>xY I hg hm hv ⟨v,H,I,r,h⟩ hn hd
variable {a b:Expr} {ta tb:TE} {pos:Pos}
def PC (X:Cx) (op:CmpOp) (a b:Expr) (t:TE):Prop:=
 ∀(pins:AO) (s:Shared) (σ:St) (H:Hp) (Q:VK),Inv X pins σ H s->t σ H Q->
  wpAny (model X.prog X.w) X.A (eval a X.env) (fun v s₁=>wpAny (model X.prog X.w) X.A (eval b X.env) (fun u s₂=>wpAny (model X.prog X.w) X.A (compareOp op v u) (EP X pins σ Q) X.xe s₂) X.xe s₁) X.xe s
theorem K6 (b:Expr) (h:op ≠ .In) (h2:op ≠ .NotIn):behindInMarks op b=false:=by
 have e1:(op==CmpOp.In)=false:=by cases op <;> first|rfl|exact absurd rfl h
 have e2:(op==CmpOp.NotIn)=false:=by cases op <;> first|rfl|exact absurd rfl h2
 cases b <;> simp [behindInMarks,e1,e2]
inductive yTB (Q:Bool->Hp->Prop) (x:V) (H1:Hp):Prop
 | mk  (c:_) (_:x = .bl c) (_:Q c H1)
def tB (t:TE):TT:=fun σ H Q=>t σ H (yTB Q)
variable {tA Yj:TT} {rest:List Expr}
def ad8 (u:TT) (σ:St) (Q:Bool->Hp->Prop):Bool->Hp->Prop:=fun c H1=>if c=true then u σ H1 Q else Q false H1
def aaW (t u:TT):TT:=fun σ H Q=>t σ H (ad8 u σ Q)
def ahw (u:TT) (σ:St) (Q:Bool->Hp->Prop):Bool->Hp->Prop:=fun c H1=>if c=true then Q true H1 else u σ H1 Q
def tOr (t u:TT):TT:=fun σ H Q=>t σ H (ahw u σ Q)
abbrev ad9 (Q:Bool->Hp->Prop):Bool->Hp->Prop:=fun c H1=>Q (!c) H1
def ahx (t:TT):TT:=fun σ H Q=>t σ H (ad9 Q)
inductive aaX (tb:TE) (σ:St) (Q:VK) (x:V) (H1:Hp):Prop
 | mk  (c:_) (_:x = .bl c) (_:if c=true then tb σ H1 Q else Q (.bl false) H1)
def ad_ (ta tb:TE):TE:=fun σ H Q=>ta σ H (aaX tb σ Q)
inductive aaY (Q:VK) (x:V) (H1:Hp):Prop
 | mk  (c:_) (_:x = .bl c) (_:Q (.bl (!c)) H1)
def aea (ta:TE):TE:=fun σ H Q=>ta σ H (aaY Q)
end
def aC (K:Fg) (H:Hp) (a:Addr) (xs:List V):Prop:=
 Rd H a (.lst xs)\/
  ∃(o:Obj) (its:Array Value) (n:Nat),K.lookup a=some o/\o.cls = .type "list"/\o.dict=none/\o.data = .seq its n/\its.size<=sizeLine/\Vals xs its.toList
def cJ (K:Fg) (H:Hp) (a:Addr) (xs:List V):Prop:=
 Rd H a (.tup xs)\/
  ∃(o:Obj) (its:Array Value) (n:Nat),K.lookup a=some o/\o.cls = .type "tuple"/\o.data = .seq its n/\its.size<=sizeLine/\Vals xs its.toList
def ahy:Value->Option V
 | .none=>some .cg
 | .bool b=>some (.bl b)
 | .int i _=>some (.int i)
 | .str x _=>some (.str x)
 | .bytes b _=>some (.xU b)
 | .float b _=>some (.Ik b)
 | .ref a=>some (.ref a)
 | .type n=>some (.ty n)
 | _=>none
theorem RelV.abs {x:V} (r:RelV x u):ahy u=some x:=by
 cases x with
 | cg=>cases r;rfl
 | bl _=>cases r;rfl
 | int _=>obtain ⟨t,rfl⟩:=r;rfl
 | str _=>obtain ⟨t,rfl⟩:=r;rfl
 | xU _=>obtain ⟨t,rfl⟩:=r;rfl
 | Ik _=>obtain ⟨t,rfl⟩:=r;rfl
 | ref _=>cases r;rfl
 | ty _=>cases r;rfl
theorem RelV.inj {x y:V} (r:RelV x u) (q:RelV y u):x=y:=iG (r.abs.symm.trans q.abs)
theorem Vals.inj:∀{xs ys:List V} {us:List Value},Vals xs us->Vals ys us->xs=ys
 | _,_,_, .nil, .nil=>rfl
 | _,_,_, .cons r t, .cons r' t'=>by rw [r.inj r',Vals.inj t t']
variable {K:Fg}
section
variable {X:Cx} {pins:AO} {σ:St} {H:Hp} {s:Shared} {a:Addr} {xs ys:List V}
theorem aC.of (h:H a=some (.lst xs)):aC K H a xs:= .inl (.inl h)
theorem cJ.of (h:H a=some (.tup xs)):cJ K H a xs:= .inl (.inl h)
theorem Inv.list (I:Inv X pins σ H s) (h:aC X.K H a xs):∃its:List Value,Vals xs its/\PlainL s.heap a its.toArray/\xs.length<=sizeLine:=by
 rcases h with h|⟨o,its,n,hk,hc,hd,hs,hz,r⟩
 . obtain ⟨z,its,n,r,e⟩:=h.ok I.hok
   exact ⟨its,r,⟨_,n,e,Z,Z,Z⟩,z⟩
 . refine ⟨its.toList,r,⟨o,n,I.iP a o hk,hc,hd,by simpa using hs⟩,?_⟩
   have e:=r.length
   simp only [Array.length_toList] at e
   omega
theorem Inv.tuple (I:Inv X pins σ H s) (h:cJ X.K H a xs):∃its:List Value,Vals xs its/\IsTup s.heap a its.toArray/\xs.length<=sizeLine:=by
 rcases h with h|⟨o,its,n,hk,hc,hs,hz,r⟩
 . obtain ⟨z,its,r,p⟩:=h.ok I.hok
   exact ⟨its,r,p,z⟩
 . refine ⟨its.toList,r,⟨o,I.iP a o hk,hc,n,by simpa using hs⟩,?_⟩
   have e:=r.length
   simp only [Array.length_toList] at e
   omega
theorem Inv.Wq (I:Inv X pins σ H s) (h:aC X.K H a xs) (h':aC X.K H a ys):xs=ys:=by
 obtain ⟨its,r,⟨o,n,e,_,_,d⟩,_⟩:=I.list h
 obtain ⟨its',r',⟨o',n',e',_,_,d'⟩,_⟩:=I.list h'
 rw [e] at e';cases e'
 rw [d] at d'
 injection d' with d1 _
 have:its=its':=by simpa using iw Array.toList d1
 subst this
 exact r.inj r'
end
abbrev Cx.xm (X:Cx) (E:VS):Cx:={ X with xe:=E }
abbrev Cx.Cr (X:Cx):Cx:=X.xm fun _ _=>False
theorem Cx.Ok.xm (ok:X.Ok) (E:VS):(X.xm E).Ok:=
 ⟨ok.mod,ok.kind,ok.glob,ok.blt,ok.above,ok.inj,ok.has,ok.gW,ok.hd,ok.frames,ok.stk,ok.K3,ok.bs,ok.Eg,ok.GC,ok.C0,ok.oh,ok.Im⟩
theorem Cx.Ok.sO {E:VS} (ok:(X.xm E).Ok):X.Ok:=
 ⟨ok.mod,ok.kind,ok.glob,ok.blt,ok.above,ok.inj,ok.has,ok.gW,ok.hd,ok.frames,ok.stk,ok.K3,ok.bs,ok.Eg,ok.GC,ok.C0,ok.oh,ok.Im⟩
variable {D:Ends}
section
variable {X:Cx} {pins:AO} {σ:St} {H:Hp} {s:Shared} {E:VS}
theorem Inv.xm (I:Inv X pins σ H s) (E:VS):Inv (X.xm E) pins σ H s:=⟨I.ok.xm E,I.os,I.bare,I.base,I.loc,I.cell,I.free,I.jP,I.pin,I.hok,I.len⟩
theorem Inv.sO (I:Inv (X.xm E) pins σ H s):Inv X pins σ H s:=⟨I.ok.sO,I.os,I.bare,I.base,I.loc,I.cell,I.free,I.jP,I.pin,I.hok,I.len⟩
theorem SP.sO {f:Flow} (h:SP (X.xm E) pins D f s'):SP X pins D f s':=by
 cases f with
 | next=>obtain ⟨σ',H',I,q⟩:=h;exact ⟨σ',H',I.sO,q⟩
 | brk=>obtain ⟨σ',H',I,q⟩:=h;exact ⟨σ',H',I.sO,q⟩
 | cont=>obtain ⟨σ',H',I,q⟩:=h;exact ⟨σ',H',I.sO,q⟩
 | ret u=>obtain ⟨v,σ',H',I,r,q⟩:=h;exact ⟨v,σ',H',I.sO,r,q⟩
theorem qI.Cr {st:List Stmt} {t:TS} (h:qI X.Cr st t):qI X st t:=fun pins s σ H D I hw=>
 gY (h pins s σ H D (I.xm _) hw) (fun _ _ q=>q.sO) fun _ _ z=>False.elim z
end
variable {tc:TT}
section
variable {X:Cx} {st:Stmt} {rest:List Stmt} {t u:TS} {e:Expr} {te:TE} {pos:Pos}
def aeb:TS:=fun D σ H=>D.nx σ H
def Ends.sq (D:Ends) (u:TS):Ends:={ D with nx:=u D }
def Ends.lp (D:Ends) (N:St->Hp->Prop):Ends:={ D with nx:=N,ct:=N,bk:=D.nx }
def xo (t u:TS):TS:=fun D σ H=>t (D.sq u) σ H
theorem Inv.quiet (I:Inv X pins σ H s):interactive X.env=false:=by simp [interactive,I.ok.kind]
def aaZ (D:Ends) (σ:St):V->Hp->Prop:=fun _ H1=>D.nx σ H1
def aec (te:TE):TS:=fun D σ H=>te σ H (aaZ D σ)
def ahz (te:TE):TS:=fun D σ H=>te σ H D.rt
def aed (t:TS) (u:TS) (D:Ends) (σ:St):Bool->Hp->Prop:=fun b H1=>if b=true then t D σ H1 else u D σ H1
def aa0 (c:TT) (t u:TS):TS:=fun D σ H=>c σ H (aed t u D σ)
theorem Yk {c:Expr} {a b:List Stmt} (hc:PT X c tc) (ha:qI X a t) (hb:qI X b u):PS X (.If c a b pos) (aa0 tc t u):=by
 intro pins s σ H D I h
 refine wpAny_If (bq (hc pins s σ H _ I h) fun d s1 ⟨H1,I1,q1⟩=>?_)
 cases d with
 | true=>exact ha pins s1 σ H1 D I1 q1
 | false=>exact hb pins s1 σ H1 D I1 q1
def aa1:TS:=fun _ _ _=>False
end
abbrev TG:=V->St->Hp->(St->Hp->Prop)->Prop
abbrev Eh:=List V->St->Hp->(St->Hp->Prop)->Prop
def PG (X:Cx) (target:Expr) (t:TG):Prop:=
 ∀(pins:AO) (s:Shared) (σ:St) (H:Hp) (v:V) (u:Value) (Q:St->Hp->Prop),Inv X pins σ H s->RelV v u->t v σ H Q->
  wpAny (model X.prog X.w) X.A (assign target X.env u) (fun _ s'=>∃σ' H',Inv X pins σ' H' s'/\Q σ' H') X.xe s
def PGs (X:Cx) (ts:List Expr) (t:Eh):Prop:=
 ∀(pins:AO) (s:Shared) (σ:St) (H:Hp) (vs:List V) (us:List Value) (Q:St->Hp->Prop),Inv X pins σ H s->Vals vs us->t vs σ H Q->
  wpAny (model X.prog X.w) X.A (assignInOrder ((assignEach ts X.env).map (·.2)) us) (fun _ s'=>∃σ' H',Inv X pins σ' H' s'/\Q σ' H') X.xe s
abbrev K7:=V->V->V->Hp->(Hp->Prop)->Prop
def aa2 (X:Cx) (t:K7):Prop:=
 ∀(pins:AO) (s:Shared) (σ:St) (H:Hp) (o i v:V) (ov iv u:Value) (Q:Hp->Prop),Inv X pins σ H s->RelV o ov->RelV i iv->RelV v u->t o i v H Q->
  wpAny (model X.prog X.w) X.A (setItem ov iv u) (fun _ s'=>∃H',Inv X pins σ H' s'/\Q H') X.xe s
variable {es:List Expr} {n:Nat}
section
variable {X:Cx} {pos:Pos}
def gh (i:Nat):TG:=fun v σ H Q=>Q (σ.set i (some v)) H
inductive aa3 (vs:List V) (σ:St) (H:Hp) (Q:St->Hp->Prop):Prop
 | mk  (_:vs=[]) (_:Q σ H)
def aa4 (u:Eh) (Q:St->Hp->Prop) (r:List V):St->Hp->Prop:=fun σ' H'=>u r σ' H' Q
inductive Yl (t:TG) (u:Eh) (vs:List V) (σ:St) (H:Hp) (Q:St->Hp->Prop):Prop
 | mk  (v r:_) (_:vs=v::r) (_:t v σ H (aa4 u Q r))
inductive C4 (K:Fg) (n:Nat) (t:Eh) (v:V) (σ:St) (H:Hp) (Q:St->Hp->Prop):Prop
 | mk  (a xs:_) (_:v = .ref a) (_:cJ K H a xs) (_:xs.length=n) (_:t xs σ H Q)
theorem aa5 {k:Nat} {t:Eh} (hc:X.calm=true) (h:PGs X es t)
  (hn:(assignEach es X.env).length=n:=by rfl) (hst:(assignEach es X.env).findIdx? (·.1)=none:=by rfl):PG X (.Tuple es k pos) (C4 X.K n t):=by
 intro pins s σ H v u Q I r hw
 obtain ⟨a,xs,e1,hq,hl,hw⟩:=hw
 subst e1
 cases r
 obtain ⟨its,rv,ht,hz⟩:=I.tuple hq
 refine assign_Tuple_tuple (I.ok.hd hc) ht (by simp [hn,<-hl,rv.length]) hst fun h' hx=>?_
 have I1:Inv X pins σ H { s with heap:=h' }:=I.kept (t':=s.toks) fun b o e=>hx b o (dS (bQ e)) e
 exact h pins _ σ H xs _ Q I1 (by simpa using rv) hw
def Zj (σ:St) (Q:St->Hp->Prop):Hp->Prop:=fun H3=>Q σ H3
def Zk (t:K7) (v:V) (σ:St) (Q:St->Hp->Prop) (o:V):V->Hp->Prop:=fun i H2=>t o i v H2 (Zj σ Q)
def aee (ti:TE) (t:K7) (v:V) (σ:St) (Q:St->Hp->Prop):V->Hp->Prop:=fun o H1=>ti σ H1 (Zk t v σ Q o)
def ahA (to ti:TE) (t:K7):TG:=fun v σ H Q=>to σ H (aee ti t v σ Q)
def aef (g:TG) (D:Ends) (σ:St):V->Hp->Prop:=fun x H1=>g x σ H1 D.nx
def Ao (te:TE) (g:TG):TS:=fun D σ H=>te σ H (aef g D σ)
inductive aeg (i:Nat) (j:Nat) (D:Ends) (σ:St) (vs:List V) (H1:Hp):Prop
 | mk  (v w:_) (_:vs=[v,w]) (_:D.nx ((σ.set i (some v)).set j (some w)) H1)
def ahB (i j:Nat) (ta:TA):TS:=fun D σ H=>ta σ H (aeg i j D σ)
end
section
variable {X:Cx} {pos:Pos}
def aa6 (c:TT) (tb:TS):TS:=fun D σ H=>∃W:Nat->St->Hp->Prop,(∃m,W m σ H)/\∀m σ H,W m σ H->
 c σ H fun b H1=>if b=true then ∃N:St->Hp->Prop,(∀σ' H',N σ' H'->∃m',m'<m/\W m' σ' H')/\tb { D with nx:=N,ct:=N,bk:=D.nx } σ H1 else D.nx σ H1
end
structure It where
 go:Nat->Hp->Prop
 Ei:Nat->Hp->V->Hp->Prop
 stop:Nat->Hp->Prop
def pK (X:Cx) (pins:AO) (H:Hp) (b:Addr):Prop:=
 H b=none/\b≠X.env.locals/\b∉X.fs/\(b∈X.ex\/X.s₀.heap.objs.size<=b)/\(∀x c,X.env.cells.lookup x=some c->c≠b)/\∀p∈X.pn++pins,p.1≠b
variable {H':Hp}
theorem Inv.GF {b:Addr} (I:Inv X pins σ H s) (hb:s.heap.objs.size<=b) (hn:H' b=none):pK X pins H' b:=by
 refine ⟨hn,yG (lq I.lt hb),I.ahu hb, .inr (eX I.sz hb),fun x c e z=>?_,fun p hp z=>?_⟩
 . obtain ⟨v,q⟩:=I.cell x c e
   exact absurd (lq q.lt (by rw [z];exact hb)) (ju _)
 . exact absurd (lq (bQ (I.pin p hp).1) (by rw [z];exact hb)) (ju _)
structure Turn (P:Program) (w:World) (K:Fg) (tg:Expr) (J:It) (fp:List Addr) (it:Addr) (tn:Nat->Heap->Prop):Prop where
 mem:it∈fp
 obj:∀i h,tn i h->∀b∈fp,∃o,h.get? b=some o/\∀v,o.data ≠ .cell v
 keep:∀i h h',tn i h->(∀b∈fp,∀o,h.get? b=some o->h'.get? b=some o)->tn i h'
 item:∀(X:Cx),X.prog=P->X.w=w->X.K=K->X.calm=true->∀(i:Nat) (pins:AO) (s:Shared) (σ:St) (H:Hp) (E:VS),Inv X pins σ H s->(∀b∈fp,pK X pins H b)->tn i s.heap->J.go i H->
  wpAny (model P w) X.A (pyNext (.ref it)) (fun r s1=>∃u,r=some u/\
   wpAny (model P w) X.A (letOwnedTupleGo tg (.ref it) u) (fun _ s2=>∃x H',Inv X pins σ H' s2/\RelV x u/\J.Ei i H x H'/\tn (i+1) s2.heap/\∀b∈fp,H' b=none) E s1) E s
 done:∀(X:Cx),X.prog=P->X.w=w->X.K=K->X.calm=true->∀(i:Nat) (pins:AO) (s:Shared) (σ:St) (H:Hp) (E:VS),Inv X pins σ H s->(∀b∈fp,pK X pins H b)->tn i s.heap->J.stop i H->
  wpAny (model P w) X.A (pyNext (.ref it)) (fun r s1=>r=none/\Inv X pins σ H s1) E s
 self:∀(A:Around) (i:Nat) (s:Shared) (Q:VS) (E:VS),tn i s.heap->Q (.ref it) s->wpAny (model P w) A (pyIter (.ref it)) Q E s
abbrev TI:=St->Hp->(It->Hp->Prop)->Prop
def PIE (X:Cx) (pins:AO) (σ:St) (tg:Expr) (R:It->Hp->Prop) (itv:Value) (s2:Shared):Prop:=
 ∃(it:Addr) (fp:List Addr) (tn:Nat->Heap->Prop) (J:It) (H':Hp),itv = .ref it/\Inv X pins σ H' s2/\Turn X.prog X.w X.K tg J fp it tn/\tn 0 s2.heap/\(∀b∈fp,pK X pins H' b)/\R J H'
def PI (X:Cx) (tg iter:Expr) (wi:TI):Prop:=
 ∀(pins:AO) (s:Shared) (σ:St) (H:Hp) (R:It->Hp->Prop),Inv X pins σ H s->wi σ H R->
  wpAny (model X.prog X.w) X.A (eval iter X.env) (fun v s1=>wpAny (model X.prog X.w) X.A (pyIter v) (PIE X pins σ tg R) X.xe s1) X.xe s
variable {tg:Expr}
theorem Ej {E:VS} {o:Obj} {n:String} {vs:Array Value} (ho:s.heap.get? it=some o) (hc:o.cls = .type n) (hd:o.data = .fields vs)
  (hn:["enumerate","zip","dict_itemiterator","dict_reverseitemiterator","odict_iterator","itertools.zip_longest","itertools.pairwise"].contains n=false) (hQ:Q () s):wpAny M A (letOwnedTupleGo tg (.ref it) u) Q E s:=by
 unfold letOwnedTupleGo
 cases tg <;> first
  | exact aL hQ
  | (cases u <;> first
      | exact aL hQ
      | (refine aq (wpAny_load ho ?_)
         rw [hc,hd]
         show wpAny M A (if (["enumerate","zip","dict_itemiterator","dict_reverseitemiterator","odict_iterator","itertools.zip_longest","itertools.pairwise"].contains n && vs[0]?==some (rawInt _))=true then _ else _) Q E s
         rw [az (by intro h;rw [hn,D8] at h;cases h)]
         exact aL hQ))
def uT (K:Fg) (a:Addr):It:=
 ⟨fun i H=>∃xs x,aC K H a xs/\xs[i]?=some x,fun i H x H'=>H'=H/\∀xs,aC K H a xs->xs[i]?=some x,fun i H=>∃xs,aC K H a xs/\xs.length<=i⟩
def Ip (lo:Int) (n:Nat):It:=⟨fun i _=>i<n,fun i H x H'=>H'=H/\x = .int (lo+i),fun i _=>n<=i⟩
theorem To {w:World} (a it:Addr):Turn P w K tg (uT K a) [it] it (fun i h=>h.IsListIter it a i) where
 mem:=by simp
 obj:=fun i h st b hb=>by
  have e:b=it:=by simpa using hb
  subst e
  obtain ⟨o,e,c,d⟩:=st
  exact ⟨o,e,fun v z=>by rw [d] at z;cases z⟩
 keep:=fun i h h' st k=>st.at fun o e=>k it (by simp) o e
 item:=by
  intro X hP hw hK hc i pins s σ H E I hf st hg
  subst hP hw hK
  obtain ⟨xs,x,hq,hx⟩:=hg
  obtain ⟨its,rv,p,hz⟩:=I.list hq
  obtain ⟨u,hu,ru⟩:=rv.get hx
  obtain ⟨f0,f1,f2,f3,f4,f5⟩:=hf it (by simp)
  refine wpAny_pyNext_list_item st p.isList (x:=u) (by simpa using hu) fun h' st' sb=>?_
  have I1:Inv X pins σ H { s with heap:=h' }:=I.turned (t':=s.toks) (fun b o hb e=>(sb.2 b hb).trans e) f0 f1 f3 f4 f5
  obtain ⟨o,e,c,d⟩:=id st'
  exact ⟨u,Z,Ej (s:={ s with heap:=h' }) e c d (by decide) ⟨x,H,I1,ru,⟨Z,fun ys hy=>by rw [I.Wq hy hq];exact hx⟩,st',fun b hb=>(hf b hb).1⟩⟩
 done:=by
  intro X hP hw hK hc i pins s σ H E I hf st hg
  subst hP hw hK
  obtain ⟨xs,hq,hx⟩:=hg
  obtain ⟨its,rv,p,hz⟩:=I.list hq
  obtain ⟨f0,f1,f2,f3,f4,f5⟩:=hf it (by simp)
  have hl:=rv.length
  exact wpAny_pyNext_list_end (I.ok.hd hc) st p.isList (by simp;omega) fun h' eb=>⟨Z,I.turned (t':=s.toks) (fun b o hb e=>eb b o hb e) f0 f1 f3 f4 f5⟩
 self:=fun _ _ _ _ _ st h=>wpAny_pyIter_listiter st h
theorem Rn {w:World} (it:Addr) (lo:Int) (n:Nat):Turn P w K tg (Ip lo n) [it] it (fun i h=>IsRangeIter h it (lo+(i:Nat)*1) ((n:Int)-(i:Nat)) 1) where
 mem:=by simp
 obj:=fun i h st b hb=>by
  have e:b=it:=by simpa using hb
  subst e
  exact ⟨_,st,fun v z=>by
   have z':Data.fields _=Data.cell v:=z
   cases z'⟩
 keep:=fun i h h' st k=>k it (by simp) _ st
 item:=by
  intro X hP hw hK hc i pins s σ H E I hf st hg
  subst hP hw hK
  obtain ⟨f0,f1,f2,f3,f4,f5⟩:=hf it (by simp)
  have W:=Walks.range (prog:=X.prog) (w:=X.w) (I.ok.hd hc) it lo 1 n
  refine W.item i s _ _ hg st fun v h' tk hv st' kk=>?_
  obtain ⟨t,rfl⟩:=hv
  have I1:Inv X pins σ H { s with heap:=h',toks:=tk }:=I.turned (fun b o hb e=>kk b o (by simpa using hb) e) f0 f1 f3 f4 f5
  refine ⟨_,Z,Ej (s:={ s with heap:=h',toks:=tk }) (n:="range_iterator") st' rfl rfl (by decide) ⟨.int (lo+i),H,I1,⟨t,?_⟩,⟨Z,Z⟩,st',fun b hb=>(hf b hb).1⟩⟩
  rw [Int.mul_one]
 done:=by
  intro X hP hw hK hc i pins s σ H E I hf st hg
  subst hP hw hK
  obtain ⟨f0,f1,f2,f3,f4,f5⟩:=hf it (by simp)
  exact wpAny_pyNext_range_end (I.ok.hd hc) st (by have:n<=i:=hg;omega) fun h' eb=>⟨Z,I.turned (t':=s.toks) (fun b o hb e=>eb b o hb e) f0 f1 f3 f4 f5⟩
 self:=fun _ _ _ _ _ st h=>wpAny_pyIter_rangeiter st h
variable {tl:TE} {fp:List Addr}
section
variable {X:Cx} {tg:Expr}
inductive aa7 (K:Fg) (R:It->Hp->Prop) (x:V) (H1:Hp):Prop
 | mk  (a:_) (_:x = .ref a) (_:(∃xs,aC K H1 a xs)) (_:R (uT K a:_) H1)
def Ym (K:Fg) (tl:TE):TI:=fun σ H R=>tl σ H (aa7 K R)
theorem Zl {l:Expr} (hl:PE X l tl):PI X tg l (Ym X.K tl):=by
 intro pins s σ H R I h
 refine bq (hl pins s σ H _ I h) fun v s1 ⟨x,H1,I1,r1,q1⟩=>?_
 obtain ⟨a,e,⟨xs,hq⟩,q⟩:=q1
 subst e
 cases r1
 obtain ⟨its,rv,p,hz⟩:=I1.list hq
 refine Ri p.isList ?_
 refine ⟨s1.heap.objs.size,[s1.heap.objs.size],_,_,H1,Z,I1.kept (t':=s1.toks) fun b o e=>cD _ e,To a _,⟨_,d_ _ rfl,Z,Z⟩,fun b hb=>?_,q⟩
 have e:b=s1.heap.objs.size:=by simpa using hb
 subst e
 exact I1.GF (aS _) (I1.hok.fresh (aS _))
theorem Wr {R:It->Hp->Prop} {E:VS} {lo hi:Int} {t u v:Tok} {tk:Nat} (I:Inv X pins σ H s) (h1:-(2 ^ 62)<=lo) (h2:lo<2 ^ 62) (h3:-(2 ^ 62)<=hi) (h4:hi<2 ^ 62)
  (q:R (Ip lo (hi-lo).toNat) H):wpAny (model X.prog X.w) X.A (pyIter (.ref s.heap.objs.size)) (PIE X pins σ tg R) E { s with heap:=s.heap.push { cls:= .type "range",data:= .fields #[.int lo t, .int hi u, .int 1 v] },toks:=tk }:=by
 refine wpAny_pyIter_range (IsRange.new ..) (small_one h1 h2 h3 h4) ?_
 have I1:Inv X pins σ H { s with heap:=s.heap.push { cls:= .type "range",data:= .fields #[.int lo t, .int hi u, .int 1 v] },toks:=tk }:=I.kept fun b o e=>cD _ e
 refine ⟨(s.heap.push { cls:= .type "range",data:= .fields #[.int lo t, .int hi u, .int 1 v] }).objs.size,[(s.heap.push { cls:= .type "range",data:= .fields #[.int lo t, .int hi u, .int 1 v] }).objs.size],_,_,H,Z,
  I1.kept (t':=tk) fun b o e=>cD _ e,Rn _ lo (hi-lo).toNat,?_,fun b hb=>?_,q⟩
 . have e1:lo+((0:Nat):Int)*1=lo:=by simp
   have e2:(((hi-lo).toNat:Nat):Int)-((0:Nat):Int)=Builtin.Range.rangeSize lo hi 1:=by rw [rangeSize_one];split <;> omega
   show IsRangeIter _ _ (lo+((0:Nat):Int)*1) ((((hi-lo).toNat:Nat):Int)-((0:Nat):Int)) 1
   rw [e1,e2]
   exact d_ _ rfl
 . have e:b=(s.heap.push { cls:= .type "range",data:= .fields #[.int lo t, .int hi u, .int 1 v] }).objs.size:=by simpa using hb
   subst e
   exact I1.GF (aS _) (I1.hok.fresh (aS _))
inductive aa8 (R:It->Hp->Prop) (vs:List V) (H1:Hp):Prop
 | mk  (j:Int) (_:vs=[.int j]) (_:-(2 ^ 62)<=j) (_:j<2 ^ 62) (_:R (Ip 0 j.toNat) H1)
def aeh (ta:TA):TI:=fun σ H R=>ta σ H (aa8 R)
def Ek (g:TG) (tb:TS) (D:Ends) (σ:St):It->Hp->Prop:=fun J H1=>∃W:Nat->Nat->St->Hp->Prop,(∃m,W 0 m σ H1)/\∀i m σ H,W i m σ H->
 (J.stop i H/\D.nx σ H)\/(J.go i H/\∃N:St->Hp->Prop,(∀σ' H',N σ' H'->∃m',m'<m/\W (i+1) m' σ' H')/\∀x H',J.Ei i H x H'->g x σ H' (tb (D.lp N)))
def ahC (wi:TI) (g:TG) (tb:TS):TS:=fun D σ H=>wi σ H (Ek g tb D σ)
def El (fp:List Addr) (h:Heap):List (Addr×Obj):=fp.filterMap fun b=>(h.get? b).map fun o=>(b,o)
theorem jv {b:Addr} {o:Obj} (hb:b∈fp) (e:h.get? b=some o):(b,o)∈El fp h:=Gw.mpr ⟨b,hb,by rw [e];rfl⟩
theorem Tp {p:Addr×Obj} (hp:p∈El fp h):p.1∈fp/\h.get? p.1=some p.2:=by
 obtain ⟨b,hb,e⟩:=Gw.mp hp
 cases q:h.get? b with
 | none=>rw [q] at e;cases e
 | some o=>
   rw [q] at e
   have e':(b,o)=p:=iG e
   subst e'
   exact ⟨hb,q⟩
theorem Inv.pinned (I:Inv X pins σ H s) (hf:∀b∈fp,pK X pins H b) (ho:∀b∈fp,∃o,s.heap.get? b=some o/\∀v,o.data ≠ .cell v):Inv X (pins++El fp s.heap) σ H s:=
 I.Pr fun p hp=>(eV.mp hp).elim (fun z=>I.pin p (jg _ z)) fun z=>by
   obtain ⟨hb,e⟩:=Tp z
   obtain ⟨f0,f1,f2,_⟩:=hf p.1 hb
   obtain ⟨o,e',d⟩:=ho p.1 hb
   rw [e] at e';cases e'
   exact ⟨e,f0,f1,f2,d⟩
theorem Inv.qP {pl:AO} (I:Inv X (pins++pl) σ H s):Inv X pins σ H s:=I.Pr fun p hp=>I.pin p (jg _ (Gr _ hp))
end
variable {g:TG} {tb:TS}
theorem lT (Pv:Nat->St->Hp->Prop) (h0:Pv 0 σ H) (hl:∀i σ H,i<=xs.length->Pv i σ H->aC K H a xs)
  (hs:∀i x σ H,xs[i]?=some x->Pv i σ H->g x σ H (tb (D.lp (Pv (i+1))))) (hd:∀σ H,Pv xs.length σ H->D.nx σ H):
  Ek g tb D σ (uT K a) H:=by
 refine ⟨fun i m σ H=>m=xs.length-i/\i<=xs.length/\Pv i σ H,⟨xs.length,by simp,fT _,h0⟩,?_⟩
 rintro i m σ H ⟨rfl,hi,p⟩
 have q:=hl i σ H hi p
 by_cases hlt:i<xs.length
 . refine .inr ⟨⟨xs,xs[i],q,by simp [hlt]⟩,Pv (i+1),fun σ' H' p'=>⟨xs.length-(i+1),by omega,Z,hlt,p'⟩,fun x H' y=>?_⟩
   obtain ⟨e,y⟩:=y
   subst e
   exact hs i x σ _ (y xs q) p
 . have e:i=xs.length:=by omega
   subst e
   exact .inl ⟨⟨xs,q,aS _⟩,hd σ H p⟩
theorem fX {lo:Int} (Pv:Nat->St->Hp->Prop) (h0:Pv 0 σ H)
  (hs:∀i σ H,i<n->Pv i σ H->g (.int (lo+i)) σ H (tb (D.lp (Pv (i+1))))) (hd:∀σ H,Pv n σ H->D.nx σ H):
  Ek g tb D σ (Ip lo n) H:=by
 refine ⟨fun i m σ H=>m=n-i/\i<=n/\Pv i σ H,⟨n,by simp,fT _,h0⟩,?_⟩
 rintro i m σ H ⟨rfl,hi,p⟩
 by_cases hlt:i<n
 . refine .inr ⟨hlt,Pv (i+1),fun σ' H' p'=>⟨n-(i+1),by omega,Z,hlt,p'⟩,fun x H' y=>?_⟩
   obtain ⟨e,y⟩:=y
   subst e y
   exact hs i σ _ hlt p
 . have e:i=n:=by omega
   subst e
   exact .inl ⟨aS _,hd σ H p⟩
abbrev R2:=V->V->Hp->VK->Prop
def gZ (X:Cx) (f:Value->Value->Sem Value) (r:R2):Prop:=
 ∀(pins:AO) (s:Shared) (σ:St) (H:Hp) (x y:V) (v u:Value) (Q:VK),Inv X pins σ H s->RelV x v->RelV y u->r x y H Q->
  wpAny (model X.prog X.w) X.A (f v u) (EP X pins σ Q) X.xe s
def UnR (X:Cx) (f:Value->Sem Value) (r:V->Hp->VK->Prop):Prop:=
 ∀(pins:AO) (s:Shared) (σ:St) (H:Hp) (x:V) (v:Value) (Q:VK),Inv X pins σ H s->RelV x v->r x H Q->
  wpAny (model X.prog X.w) X.A (f v) (EP X pins σ Q) X.xe s
def gI (X:Cx) (f:Value) (r:List V->Hp->VK->Prop):Prop:=
 ∀(pins:AO) (s:Shared) (σ:St) (H:Hp) (xs:List V) (us:List Value) (Q:VK),Inv X pins σ H s->Vals xs us->r xs H Q->
  wpAny (model X.prog X.w) X.A (call f us) (EP X pins σ Q) X.xe s
def aa_ (r:R2) (Q:VK) (x:V):V->Hp->Prop:=fun y H2=>r x y H2 Q
def ahD (r:R2) (tb:TE) (σ:St) (Q:VK):V->Hp->Prop:=fun x H1=>tb σ H1 (aa_ r Q x)
def Em (r:R2) (ta tb:TE):TE:=fun σ H Q=>ta σ H (ahD r tb σ Q)
def ahE (r:V->Hp->VK->Prop) (Q:VK):V->Hp->Prop:=fun x H1=>r x H1 Q
def tUn (r:V->Hp->VK->Prop) (ta:TE):TE:=fun σ H Q=>ta σ H (ahE r Q)
inductive rI (C:Int->Int->Prop) (g:Int->Int->V) (x:V) (y:V) (H:Hp) (Q:VK):Prop
 | mk  (i j:_) (_:x = .int i) (_:y = .int j) (_:C i j) (_:Q (g i j:_) H)
inductive Iq (g:Int->Int->V) (x:V) (y:V) (H:Hp) (Q:VK):Prop
 | mk  (i j:_) (_:x = .int i) (_:y = .int j) (_:Q (g i j:_) H)
inductive rU (g:Int->V) (x:V) (H:Hp) (Q:VK):Prop
 | mk  (i:_) (_:x = .int i) (_:Q (g i:_) H)
section
variable {X:Cx} {a b c:Expr} {ta tb tc:TE} {pos:Pos}
theorem Ws (ha:PE X a ta) (hb:PE X b tb) {R:V->V->Hp->Prop} (I:Inv X pins σ H s)
  (h:ta σ H fun x H1=>tb σ H1 fun y H2=>R x y H2) {Q:VS} {f:Value->Value->Sem Value}
  (hf:∀v u s2 x y H2,Inv X pins σ H2 s2->RelV x v->RelV y u->R x y H2->wpAny (model X.prog X.w) X.A (f v u) Q X.xe s2):
  wpAny (model X.prog X.w) X.A (eval a X.env) (fun v s₁=>wpAny (model X.prog X.w) X.A (eval b X.env) (fun u s₂=>wpAny (model X.prog X.w) X.A (f v u) Q X.xe s₂) X.xe s₁) X.xe s:=by
 refine bq (ha pins s σ H _ I h) fun v s1 ⟨x,H1,I1,r1,q1⟩=>?_
 refine bq (hb pins s1 σ H1 _ I1 q1) fun u s2 ⟨y,H2,I2,r2,q2⟩=>?_
 exact hf v u s2 x y H2 I2 r1 r2 q2
theorem Tq {f:Value->Value->Sem Value} {C:Int->Int->Prop} {g:Int->Int->Int}
  (rule:∀(i j:Int) (t u:Tok) (s:Shared) (Q:VS) (E:VS),C i j->Q (.int (g i j) s.toks) { s with toks:=s.toks+1 }->wpAny (model X.prog X.w) X.A (f (.int i t) (.int j u)) Q E s):
  gZ X f (rI C fun i j=> .int (g i j)):=by
 intro pins s σ H x y v u Q I rx ry h
 obtain ⟨i,j,rfl,rfl,hc,q⟩:=h
 obtain ⟨t,rfl⟩:=rx
 obtain ⟨t',rfl⟩:=ry
 exact rule i j t t' s _ _ hc ⟨.int (g i j),H,I.tok _,⟨_,Z⟩,q⟩
theorem aba {f:Value->Value->Sem Value} {g:Int->Int->Int}
  (rule:∀(i j:Int) (t u:Tok) (s:Shared) (Q:VS) (E:VS),Q (.int (g i j) s.toks) { s with toks:=s.toks+1 }->wpAny (model X.prog X.w) X.A (f (.int i t) (.int j u)) Q E s):
  gZ X f (Iq fun i j=> .int (g i j)):=by
 intro pins s σ H x y v u Q I rx ry h
 obtain ⟨i,j,rfl,rfl,q⟩:=h
 obtain ⟨t,rfl⟩:=rx
 obtain ⟨t',rfl⟩:=ry
 exact rule i j t t' s _ _ ⟨.int (g i j),H,I.tok _,⟨_,Z⟩,q⟩
theorem Ro {f:Value->Value->Sem Value} {g:Int->Int->Bool}
  (rule:∀(i j:Int) (t u:Tok) (s:Shared) (Q:VS) (E:VS),Q (.bool (g i j)) s->wpAny (model X.prog X.w) X.A (f (.int i t) (.int j u)) Q E s):
  gZ X f (Iq fun i j=> .bl (g i j)):=by
 intro pins s σ H x y v u Q I rx ry h
 obtain ⟨i,j,rfl,rfl,q⟩:=h
 obtain ⟨t,rfl⟩:=rx
 obtain ⟨t',rfl⟩:=ry
 exact rule i j t t' s _ _ ⟨.bl (g i j),H,I,Z,q⟩
def Rp (i j:Int):Prop:=0<=j/\j<=1000000/\i.natAbs<2 ^ 64
def Wt (i j:Int):Prop:=(-(2 ^ 64)<i/\i<2 ^ 64)\/(-(2 ^ 64)<j/\j<2 ^ 64)
theorem Wt.ok {i j:Int} (h:Wt i j):IntMulOk i j:=by
 rcases h with ⟨h1,h2⟩|⟨h1,h2⟩
 . exact .of_left (intBits_le_64 h1 h2)
 . exact .of_right (intBits_le_64 h1 h2)
theorem bV:gZ X (binaryOp .Add) (Iq fun i j=> .int (i+j)):=aba fun _ _ _ _ _ _ _ q=>add_int q
theorem iQ:gZ X (binaryOp .Sub) (Iq fun i j=> .int (i-j)):=aba fun _ _ _ _ _ _ _ q=>sub_int q
theorem jw:gZ X (binaryOp .Mult) (rI Wt fun i j=> .int (i*j)):=Tq fun _ _ _ _ _ _ _ hc q=>mul_int q hc.ok
theorem jx:gZ X (binaryOp .Mod) (rI (fun _ j=>0<j) fun i j=> .int (i % j)):=Tq fun i j _ _ _ _ _ hc q=>by
 have h1:(0:Int)<j:=hc
 exact mod_int' (by omega) (by rw [Int.fmod_eq_emod_of_nonneg i (by omega)];exact q)
theorem nD:gZ X (binaryOp .Pow) (rI Rp fun i j=> .int (i ^ j.toNat)):=Tq fun _ _ _ _ _ _ _ hc q=>pow_int_small hc.1 hc.2.1 hc.2.2 q
theorem unI {f:Value->Sem Value} {g:Int->Int}
  (rule:∀(i:Int) (t:Tok) (s:Shared) (Q:VS) (E:VS),Q (.int (g i) s.toks) { s with toks:=s.toks+1 }->wpAny (model X.prog X.w) X.A (f (.int i t)) Q E s):
  UnR X f (rU fun i=> .int (g i)):=by
 intro pins s σ H x v Q I rx h
 obtain ⟨i,rfl,q⟩:=h
 obtain ⟨t,rfl⟩:=rx
 exact rule i t s _ _ ⟨.int (g i),H,I.tok _,⟨_,Z⟩,q⟩
theorem uU:UnR X (unaryOp .USub) (rU fun i=> .int (-i)):=unI fun _ _ _ _ _ q=>neg_int q
end
def abb:V->V->Bool
 | .cg, .cg=>true | .cg, .int _=>true | .int _, .cg=>true | .cg, .bl _=>true | .bl _, .cg=>true | .cg, .str _=>true | .str _, .cg=>true
 | .int _, .int _=>true | .bl _, .bl _=>true | .str _, .str _=>true | .xU _, .xU _=>true
 | .int _, .str _=>true | .str _, .int _=>true | .bl _, .str _=>true | .str _, .bl _=>true
 | _,_=>false
inductive rEq (x:V) (y:V) (H:Hp) (Q:VK):Prop
 | mk  (_:abb x y=true) (_:Q (.bl (decide (x=y))) H)
inductive rNe (x:V) (y:V) (H:Hp) (Q:VK):Prop
 | mk  (_:abb x y=true) (_:Q (.bl (!decide (x=y))) H)
theorem Pu {i j:Int}:decide (V.int i=V.int j)=(i==j):=by
 rw [BC]
 simp
theorem Tr {i j:Bool}:decide (V.bl i=V.bl j)=(i==j):=by
 rw [BC]
 simp
theorem Pw {i j:Str}:decide (V.str i=V.str j)=(i==j):=by
 rw [BC]
 simp
theorem Px {i j:Array UInt8}:decide (V.xU i=V.xU j)=(i.toList==j.toList):=by
 rw [BC]
 cases i
 cases j
 simp
section
variable {X:Cx} {a b c:Expr} {ta tb tc:TE} {pos:Pos}
theorem di {Q:VK} {k k':Bool} (I:Inv X pins σ H s) (q:Q (.bl k) H) (e:k=k'):EP X pins σ Q (.bool k') s:=by
 subst e
 exact ⟨.bl k,H,I,Z,q⟩
theorem i6:gZ X (compareOp .Eq) rEq:=by
 intro pins s σ H x y v u Q I rx ry h
 obtain ⟨hs,q⟩:=h
 cases x with
 | cg=>
   cases rx
   cases y with
   | cg=>cases ry;exact PySem.EqNone.eq_none_none (di I q (by simp))
   | bl j=>cases ry;exact PySem.EqNone.eq_none_bool (di I q (by simp))
   | int j=>obtain ⟨t',rfl⟩:=ry;exact PySem.EqNone.eq_none_int (di I q (by simp))
   | str j=>obtain ⟨t',rfl⟩:=ry;exact PySem.EqNone.eq_none_str (di I q (by simp))
   | _=>exact absurd (show false=true from hs) fF
 | bl i=>
   cases rx
   cases y with
   | cg=>cases ry;exact PySem.EqNone.eq_bool_none (di I q (by simp))
   | bl j=>cases ry;exact eq_bool (di I q Tr)
   | str j=>obtain ⟨t',rfl⟩:=ry;exact PySem.EqMixed.eq_bool_str (di I q (by simp))
   | _=>exact absurd (show false=true from hs) fF
 | int i=>
   obtain ⟨t,rfl⟩:=rx
   cases y with
   | cg=>cases ry;exact PySem.EqNone.eq_int_none (di I q (by simp))
   | int j=>obtain ⟨t',rfl⟩:=ry;exact eq_int (di I q Pu)
   | str j=>obtain ⟨t',rfl⟩:=ry;exact PySem.EqMixed.eq_int_str (di I q (by simp))
   | _=>exact absurd (show false=true from hs) fF
 | str i=>
   obtain ⟨t,rfl⟩:=rx
   cases y with
   | cg=>cases ry;exact PySem.EqNone.eq_str_none (di I q (by simp))
   | bl j=>cases ry;exact PySem.EqMixed.eq_str_bool (di I q (by simp))
   | int j=>obtain ⟨t',rfl⟩:=ry;exact PySem.EqMixed.eq_str_int (di I q (by simp))
   | str j=>obtain ⟨t',rfl⟩:=ry;exact eq_str (di I q Pw)
   | _=>exact absurd (show false=true from hs) fF
 | xU i=>
   obtain ⟨t,rfl⟩:=rx
   cases y with
   | xU j=>obtain ⟨t',rfl⟩:=ry;exact PySem.W.eq_bytes (di I q Px)
   | _=>exact absurd (show false=true from hs) fF
 | _=>cases y <;> exact absurd (show false=true from hs) fF
theorem pL:gZ X (compareOp .NotEq) rNe:=by
 intro pins s σ H x y v u Q I rx ry h
 obtain ⟨hs,q⟩:=h
 cases x with
 | cg=>
   cases rx
   cases y with
   | cg=>cases ry;exact PySem.EqNone.ne_none_none (di I q (by simp))
   | bl j=>cases ry;exact PySem.EqNone.ne_none_bool (di I q (by simp))
   | int j=>obtain ⟨t',rfl⟩:=ry;exact PySem.EqNone.ne_none_int (di I q (by simp))
   | str j=>obtain ⟨t',rfl⟩:=ry;exact PySem.EqNone.ne_none_str (di I q (by simp))
   | _=>exact absurd (show false=true from hs) fF
 | bl i=>
   cases rx
   cases y with
   | cg=>cases ry;exact PySem.EqNone.ne_bool_none (di I q (by simp))
   | bl j=>cases ry;exact ne_bool (di I q (iw not Tr))
   | str j=>obtain ⟨t',rfl⟩:=ry;exact PySem.EqMixed.ne_bool_str (di I q (by simp))
   | _=>exact absurd (show false=true from hs) fF
 | int i=>
   obtain ⟨t,rfl⟩:=rx
   cases y with
   | cg=>cases ry;exact PySem.EqNone.ne_int_none (di I q (by simp))
   | int j=>obtain ⟨t',rfl⟩:=ry;exact ne_int (di I q (iw not Pu))
   | str j=>obtain ⟨t',rfl⟩:=ry;exact PySem.EqMixed.ne_int_str (di I q (by simp))
   | _=>exact absurd (show false=true from hs) fF
 | str i=>
   obtain ⟨t,rfl⟩:=rx
   cases y with
   | cg=>cases ry;exact PySem.EqNone.ne_str_none (di I q (by simp))
   | bl j=>cases ry;exact PySem.EqMixed.ne_str_bool (di I q (by simp))
   | int j=>obtain ⟨t',rfl⟩:=ry;exact PySem.EqMixed.ne_str_int (di I q (by simp))
   | str j=>obtain ⟨t',rfl⟩:=ry;exact ne_str (di I q (iw not Pw))
   | _=>exact absurd (show false=true from hs) fF
 | xU i=>
   obtain ⟨t,rfl⟩:=rx
   cases y with
   | xU j=>obtain ⟨t',rfl⟩:=ry;exact PySem.W.ne_bytes (di I q (iw not Px))
   | _=>exact absurd (show false=true from hs) fF
 | _=>cases y <;> exact absurd (show false=true from hs) fF
theorem wD:gZ X (compareOp .Lt) (Iq fun i j=> .bl (decide (i<j))):=Ro fun _ _ _ _ _ _ _ q=>lt_int q
theorem KA:gZ X (compareOp .LtE) (Iq fun i j=> .bl (decide (i<=j))):=Ro fun _ _ _ _ _ _ _ q=>le_int q
theorem iH:gZ X (compareOp .Gt) (Iq fun i j=> .bl (decide (j<i))):=Ro fun _ _ _ _ _ _ _ q=>gt_int q
theorem BN:gZ X (compareOp .GtE) (Iq fun i j=> .bl (decide (j<=i))):=Ro fun _ _ _ _ _ _ _ q=>ge_int q
theorem Tt:gZ X (compareOp .In) (fun x y H Q=>∃i j,x = .str i/\y = .str j/\Q (.bl (!(Builtin.Str.occurrences j i 0 j.length 1).isEmpty)) H):=by
 intro pins s σ H x y v u Q I rx ry h
 obtain ⟨i,j,rfl,rfl,q⟩:=h
 obtain ⟨t,rfl⟩:=rx
 obtain ⟨t',rfl⟩:=ry
 exact in_str (di I q rfl)
theorem K8:gZ X (compareOp .NotIn) (fun x y H Q=>∃i j,x = .str i/\y = .str j/\Q (.bl (!(!(Builtin.Str.occurrences j i 0 j.length 1).isEmpty))) H):=by
 intro pins s σ H x y v u Q I rx ry h
 obtain ⟨i,j,rfl,rfl,q⟩:=h
 obtain ⟨t,rfl⟩:=rx
 obtain ⟨t',rfl⟩:=ry
 exact notIn_str (di I q rfl)
theorem aX (b:Expr) (h:op ≠ .In:=by decide) (h2:op ≠ .NotIn:=by decide):behindInMarks op b=false:=by
 have e1:(op==CmpOp.In)=false:=by cases op <;> first|rfl|exact absurd rfl h
 have e2:(op==CmpOp.NotIn)=false:=by cases op <;> first|rfl|exact absurd rfl h2
 cases b <;> simp [behindInMarks,e1,e2]
inductive Tu (Q:Bool->Hp->Prop) (x:V) (H':Hp):Prop
 | mk  (k:_) (_:x = .bl k) (_:Q k H')
def Rq (t:TE):TT:=fun σ H Q=>t σ H (Tu Q)
inductive Tv (r':R2) (tc:TE) (σ:St) (Q:VK) (y:V) (z:V) (H3:Hp):Prop
 | mk  (k:_) (_:z = .bl k) (_:(if k=true then tc σ H3 fun w' H4=>r' y w' H4 Q else Q (.bl false) H3))
def Tw (r:R2) (r':R2) (tc:TE) (σ:St) (Q:VK) (x:V):V->Hp->Prop:=fun y H2=>r x y H2 (Tv r' tc σ Q y)
def Zm (r:R2) (r':R2) (tb:TE) (tc:TE) (σ:St) (Q:VK):V->Hp->Prop:=fun x H1=>tb σ H1 (Tw r r' tc σ Q x)
def abd (r r':R2) (ta tb tc:TE):TE:=fun σ H Q=>ta σ H (Zm r r' tb tc σ Q)
theorem xZ:(sizeLine:Nat)<2 ^ 63:=by rw [fj];decide
theorem En:gZ X (binaryOp .Add) (fun x y H Q=>∃i j,x = .str i/\y = .str j/\i.length+j.length<=sizeLine/\Q (.str (i++j)) H):=by
 intro pins s σ H x y v u Q I rx ry h
 obtain ⟨i,j,rfl,rfl,hz,q⟩:=h
 obtain ⟨t,rfl⟩:=rx
 obtain ⟨t',rfl⟩:=ry
 exact add_str (fun t' tk=>⟨.str (i++j),H,I.tok _,⟨_,Z⟩,q⟩) hz
theorem vals1 {x:V} (r:Vals [x] us):∃u,us=[u]/\RelV x u:=by
 cases r with
 | cons r1 r2=>cases r2;exact ⟨_,Z,r1⟩
theorem vals2 {x y:V} (r:Vals [x,y] us):∃u w',us=[u,w']/\RelV x u/\RelV y w':=by
 cases r with
 | cons r1 r2=>
   cases r2 with
   | cons r3 r4=>cases r4;exact ⟨_,_,Z,r1,r3⟩
theorem Wu:gI X (.builtin "abs") (fun xs H Q=>∃i,xs=[.int i]/\Q (.int (if i<0 then -i else i)) H):=by
 intro pins s σ H xs us Q I r h
 obtain ⟨i,rfl,q⟩:=h
 obtain ⟨u,rfl,t,rfl⟩:=vals1 r
 exact call_abs_int fun u tk=>⟨.int (if i<0 then -i else i),H,I.tok _,⟨_,Z⟩,q⟩
theorem Tz (hc:X.calm=true):gI X (.builtin "max") (fun xs H Q=>∃i j,xs=[.int i, .int j]/\Q (.int (if j>i then j else i)) H):=by
 intro pins s σ H xs us Q I r h
 obtain ⟨i,j,rfl,q⟩:=h
 obtain ⟨u,w',rfl,⟨t,rfl⟩,⟨t',rfl⟩⟩:=vals2 r
 refine max_two_ints (I.ok.hd hc) fun h' tk k=>⟨_,H,I.kept k,?_,q⟩
 by_cases hj:j>i
 . rw [aB hj,aB hj];exact ⟨_,Z⟩
 . rw [az hj,az hj];exact ⟨_,Z⟩
theorem Ir (hc:X.calm=true):gI X (.builtin "min") (fun xs H Q=>∃i j,xs=[.int i, .int j]/\Q (.int (if j<i then j else i)) H):=by
 intro pins s σ H xs us Q I r h
 obtain ⟨i,j,rfl,q⟩:=h
 obtain ⟨u,w',rfl,⟨t,rfl⟩,⟨t',rfl⟩⟩:=vals2 r
 refine min_two_ints (I.ok.hd hc) fun h' tk k=>⟨_,H,I.kept k,?_,q⟩
 by_cases hj:j<i
 . rw [aB hj,aB hj];exact ⟨_,Z⟩
 . rw [az hj,az hj];exact ⟨_,Z⟩
end
structure C5 (h:Heap) (x dx C:Addr) (mA:SO):Prop where
 obj:h.get? x=some (PySem.W.instObj C dx)
 ns:h.Ns1 dx mA
 ne:dx≠x
theorem TF {mA:SO} (n:h.Ns1 dx mA):∃od,h.get? dx=some od/\∀name,PySem.W.lookIn name od=some (mA name):=by
 obtain ⟨o,es,ep,ho,hd,hk,_,hm⟩:=n
 refine ⟨o,ho,fun name=>?_⟩
 have e:=hm name
 unfold nsFind findBy at e
 rw [<-Array.find?_toList] at e
 unfold PySem.W.lookIn
 rw [hd]
 dsimp only
 split
 . rename_i y q
   rw [q] at e
   exact iw some e
 . rename_i q
   rw [q] at e
   have a:es.toList.any (·.refKey)=false:=by
    rw [List.any_eq_false]
    intro y hy
    obtain ⟨z,t,hkey⟩:=hk y (Array.mem_toList_iff.mp hy)
    simp [DictEntry.refKey,hkey]
   have a':¬ es.toList.any (·.refKey)=true:=by rw [a];exact fF
   rw [az a']
   exact iw some e
variable {C:Addr}
theorem C5.look {x dx:Addr} {mA:SO} (I:C5 h x dx C mA):∃od,PySem.W.InstAt h x (PySem.W.instObj C dx) C (some od)/\∀name,PySem.W.lookIn name od=some (mA name):=
 let ⟨od,ho,hl⟩:=TF I.ns
 ⟨od,⟨I.obj,Z,Z,ho⟩,hl⟩
variable {pl:Sem Bool} {R:Result->Shared->Prop} {kw:List (Str×Value)}
section
variable {prog:Program} {w:World} {A:Around} {E:VS} {s:Shared} {K:Fg} {x dx C f:Addr} {mA:SO} {name:Str} {v:Value}
theorem get_map {expr:Bool} {Q:VS} (X:K.In s.heap) (I:C5 s.heap x dx C mA) (hg:PySem.W.plainGet K C name=true) (hh:PySem.W.hasDictIn K C=true)
  (ha:PySem.W.findIn K (.ref C) name=some none) (hv:mA name=some v) (hv':PySem.W.handedIn v=true) (h:Q v { s with toks:=s.toks+1 }):
  wpAny (model prog w) A (getAttr (.ref x) name expr) Q E s:=by
 obtain ⟨od,J,hl⟩:=I.look
 exact PySem.W.get_value X J (PySem.W.plainGet_of hg).1 (PySem.W.findObj_own hh ha rfl (by rw [hl,hv])) hv' h
theorem Wv {Q:Value×List Value->Shared->Prop} (X:K.In s.heap) (I:C5 s.heap x dx C mA) (hg:PySem.W.plainGet K C name=true)
  (hf:PySem.W.findIn K (.ref C) name=some (some (.ref f))) (ht:PySem.W.isFn K (.ref f)=true) (hv:mA name=none) (h:Q (.ref f,[.ref x]) s):
  wpAny (model prog w) A (getMethod (.ref x) name pl) Q E s:=by
 obtain ⟨od,J,hl⟩:=I.look
 exact PySem.W.method_fn X J (PySem.W.plainGet_of hg).1 (PySem.W.plainGet_of hg).2 hf (nM.mp ht) (by show (PySem.W.lookIn name od).map (·.isSome)=some false;rw [hl,hv];rfl) h
theorem Zn {ns:List Str} (X:K.In s.heap) (I:C5 s.heap x dx C mA)
  (hs:PySem.W.findIn K (.ref C) "__setattr__"=some (some (.builtin "object.__setattr__"))) (hp:PySem.W.plainOver K C=true) (ht:PySem.W.takerIn K C name=some none) (hh:PySem.W.hasDictIn K C=true)
  (hw:PySem.Within mA ns) (hsz:ns.length<=sizeLine)
  (h:∀h',C5 h' x dx C (fun y=>if y=name then some v else mA y)->Heap.SameBut dx s.heap h'->Q () { s with heap:=h',toks:=s.toks+2 }):
  wpAny (model prog w) A (setAttr (.ref x) name v) Q E s:=by
 obtain ⟨od,J,hl⟩:=I.look
 refine PySem.W.set_plain X J hs (PySem.W.osa_open (s:={ s with toks:=s.toks+1 }) (r:=none) X J hp ht fun b=>?_)
 obtain ⟨cd,hc,hd'⟩:=PySem.W.any_some hh
 have hx:s.heap.get? x=some ⟨.ref C,some dx, .plain,#[]⟩:=I.obj
 refine aq (aL (aq (aq (wpAny_loadPart hx (aq (PySem.W.Looks.here (s:={ s with toks:=s.toks+1 }) (PySem.W.looks_clsIn X hc) ?_))))))
 rw [hd']
 refine aL (a:=some dx) (aq (aL (aq ?_)))
 refine wpAny_nsSet1 (s:={ s with toks:=s.toks+1 }) I.ns fun h' hn2 hs2=>?_
 obtain ⟨oD,esD,epD,hoD,hdD,hcD⟩:=hn2.count (PySem.Within.cons name v hw)
 refine aq (wpAny_lookBehind hoD (by rw [hdD];exact pastItsLine_dict (eX hcD (by rw [m7];omega))) ?_)
 exact aL (h _ ⟨(hs2.2 _ (cy I.ne)).trans I.obj,hn2,I.ne⟩ hs2)
theorem Ww {vs:List Value} (X:K.In s.heap) (hm:PySem.W.makesIn K C=true)
  (hi:PySem.W.findIn K (.ref C) "__init__"=some (some (.ref f))) (hf:PySem.W.typeIn K (.ref f)=some (.type "function"))
  (h:codeAny (model prog w) (A.under (.builtin "type.__call__" ⟨.ref C::vs,kw⟩)) (.call (.ref f) ⟨.ref (s.heap.objs.size+1)::vs,kw⟩) (PySem.W.InitBack (s.heap.objs.size+1) R)
    { s with heap:=(s.heap.push PySem.W.emptyDict).push (PySem.W.instObj C s.heap.objs.size) }):
  codeAny (model prog w) A (.call (.ref C) ⟨vs,kw⟩) R s:=by
 obtain ⟨hh,g,d,t,os⟩:=s
 exact PySem.W.make_core (PySem.W.makes_of X hm) (PySem.W.looks_findIn X hi) (fun self=>PySem.W.bind_fn X self hf) (.inl rfl) h
end
def aW (f:Str) (v:V):List (Str×V)->List (Str×V)
 | []=>[(f,v)]
 | (g,x)::r=>if g=f then (g,v)::r else (g,x)::aW f v r
theorem Cs (f g:Str) (v:V):∀fs:List (Str×V),(aW f v fs).lookup g=if g=f then some v else fs.lookup g
 | []=>by
   show List.lookup g [(f,v)]=_
   by_cases h:g=f
   . have hb:(g==f)=true:=nM.mpr h
     simp only [List.lookup,hb,aB h]
   . have hb:(g==f)=false:=Gs.mpr h
     simp only [List.lookup,hb,az h]
 | (k,x)::r=>by
   have ih:=Cs f g v r
   rw [show aW f v ((k,x)::r)=(if k=f then (k,v)::r else (k,x)::aW f v r) from rfl]
   by_cases hk:k=f
   . rw [aB hk]
     by_cases h:g=k
     . have hb:(g==k)=true:=nM.mpr h
       simp only [List.lookup,hb,aB (h.trans hk)]
     . have hb:(g==k)=false:=Gs.mpr h
       simp only [List.lookup,hb,az (fun e:g=f=>h (e.trans hk.symm))]
   . rw [az hk]
     by_cases h:g=k
     . have hb:(g==k)=true:=nM.mpr h
       simp only [List.lookup,hb,az (fun e:g=f=>hk (h.symm.trans e))]
     . have hb:(g==k)=false:=Gs.mpr h
       simp only [List.lookup,hb]
       exact ih
theorem Aq (f:Str) (v:V):∀fs:List (Str×V),f∈(aW f v fs).map (·.1)/\∀g,g∈fs.map (·.1)->g∈(aW f v fs).map (·.1)
 | []=>⟨by simp [aW],fun g h=>by simp at h⟩
 | (k,x)::r=>by
   obtain ⟨i1,i2⟩:=Aq f v r
   rw [show aW f v ((k,x)::r)=(if k=f then (k,v)::r else (k,x)::aW f v r) from rfl]
   by_cases hk:k=f
   . rw [aB hk]
     subst hk
     exact ⟨by simp,fun g h=>by simpa using h⟩
   . rw [az hk]
     refine ⟨?_,fun g h=>?_⟩
     . rw [bF]
       exact cL _ i1
     . rw [bF] at h ⊢
       rcases dg.mp h with e|e
       . exact dg.mpr (.inl e)
       . exact cL _ (i2 g e)
theorem Ct (f:Str) (v:V):∀fs:List (Str×V),(aW f v fs).length<=fs.length+1
 | []=>by simp [aW]
 | (k,x)::r=>by
   have ih:=Ct f v r
   rw [show aW f v ((k,x)::r)=(if k=f then (k,v)::r else (k,x)::aW f v r) from rfl]
   by_cases hk:k=f
   . rw [aB hk,m7,m7];omega
   . rw [az hk,m7,m7];omega
theorem m8.some_of {v:V} {o:Option Value} (r:m8 (some v) o):∃u,o=some u/\RelV v u:=by
 cases o with
 | none=>exact (show False from r).elim
 | some u=>exact ⟨u,Z,r⟩
theorem m8.none_of {o:Option Value} (r:m8 none o):o=none:=by
 cases o with
 | none=>rfl
 | some u=>exact (show False from r).elim
theorem TH {v:V} (r:RelV v u):PySem.W.handedIn u=true:=by
 cases v with
 | cg=>cases (show u=Value.none from r);rfl
 | bl b=>cases (show u=Value.bool b from r);rfl
 | int i=>obtain ⟨t,e⟩:=(show ∃t,u=Value.int i t from r);cases e;rfl
 | str x=>obtain ⟨t,e⟩:=(show ∃t,u=Value.str x t from r);cases e;rfl
 | xU b=>obtain ⟨t,e⟩:=(show ∃t,u=Value.bytes b t from r);cases e;rfl
 | Ik b=>obtain ⟨t,e⟩:=(show ∃t,u=Value.float b t from r);cases e;rfl
 | ref a=>cases (show u=Value.ref a from r);rfl
 | ty n=>cases (show u=Value.type n from r);rfl
section
variable {P:Program} {w:World} {H H':Hp} {h h':Heap} {a C dx:Addr} {fs fs':List (Str×V)}
theorem BO (hok:gU P w H h) (e:H a=some (.ins C dx fs)):∃mA,C5 h a dx C mA/\(∀f,m8 (fs.lookup f) (mA f))/\PySem.Within mA (fs.map (·.1))/\fs.length<=1000/\H dx=some (.own a):=by
 obtain ⟨d,z,ne,ob,mA,n,r,q⟩:=(show dQ P w H h a (.ins C dx fs) from hok a _ e)
 exact ⟨mA,⟨ob,n,ne⟩,r,q,z,d⟩
end
structure oU (K:Fg) (C:Addr):Prop where
 pg:PySem.W.plainGet K C Str.empty=true
 hd:PySem.W.hasDictIn K C=true
 po:PySem.W.plainOver K C=true
 sa:PySem.W.findIn K (.ref C) "__setattr__"=some (some (.builtin "object.__setattr__"))
theorem oU.get (c:oU K C) (f:Str):PySem.W.plainGet K C f=true:=c.pg
def fm (K:Fg) (C:Addr) (f:Str):Prop:=PySem.W.findIn K (.ref C) f=some none
theorem fm.aei {f:Str} (n:fm K C f):PySem.W.takerIn K C f=some none:=by
 unfold PySem.W.takerIn
 rw [show PySem.W.findIn K (.ref C) f=some none from n]
 rfl
structure Meth (K:Fg) (C:Addr) (m:Str) (f:Addr):Prop where
 at_:PySem.W.findIn K (.ref C) m=some (some (.ref f))
 fn:PySem.W.isFn K (.ref f)=true
 kp:PySem.W.keepIn K (.ref f)=true
variable {env:Env}
section
variable {X:Cx} {pins:AO} {σ:St} {H:Hp} {s:Shared} {a C dx:Addr} {fs:List (Str×V)} {f:Str} {v:V} {A:Around} {E:VS}
theorem Eo {b:Bool} {Q:VS} (I:Inv X pins σ H s) (e:H a=some (.ins C dx fs)) (c:oU X.K C) (n:fm X.K C f) (l:fs.lookup f=some v)
  (h:∀u s',Inv X pins σ H s'->RelV v u->Q u s'):wpAny (model X.prog X.w) A (getAttr (.ref a) f b) Q E s:=by
 obtain ⟨mA,O,r,_,_,_⟩:=BO I.hok e
 obtain ⟨u,hu,ru⟩:=m8.some_of (v:=v) (o:=mA f) (by rw [<-l];exact r f)
 exact get_map I.iP O (c.get f) c.hd n hu (TH ru) (h u _ (I.tok _) ru)
theorem Ep {m:Str} {g:Addr} {Q:Value×List Value->Shared->Prop} (I:Inv X pins σ H s) (e:H a=some (.ins C dx fs)) (c:oU X.K C) (k:Meth X.K C m g) (l:fs.lookup m=none)
  (h:Q (.ref g,[.ref a]) s):wpAny (model X.prog X.w) A (getMethod (.ref a) m pl) Q E s:=by
 obtain ⟨mA,O,r,_,_,_⟩:=BO I.hok e
 have hn:mA m=none:=m8.none_of (by rw [<-l];exact r m)
 exact Wv I.iP O (c.get m) k.at_ k.fn hn h
theorem Er {y:V} (I:Inv X pins σ H s) (e:H a=some (.ins C dx fs)) (c:oU X.K C) (n:fm X.K C f) (hl:fs.length<1000) (ry:RelV y u)
  (h:∀s',Inv X pins σ (upd H a (.ins C dx (aW f y fs))) s'->Q () s'):wpAny (model X.prog X.w) A (setAttr (.ref a) f u) Q E s:=by
 obtain ⟨mA,O,r,wi,_,ho⟩:=BO I.hok e
 have hz:(fs.map (·.1)).length<=sizeLine:=by rw [aF,fj];omega
 refine Zn I.iP O c.sa c.po n.aei c.hd wi hz fun h' O' sb=>h _ ?_
 have hd:∃o,h'.get? dx=some o:=let ⟨o,_,_,e',_⟩:=O'.ns;⟨o,e'⟩
 refine I.write (x:=a) (e:=dx) (by rw [e];exact True.intro) (.inr ho) (fun b q hb z=>(sb.2 b hb).trans z) hd ?_
 refine ⟨by rw [av O.ne];exact ho,?_,O.ne,O'.obj,_,O'.ns,fun g=>?_,fun g hg=>?_⟩
 . have:=Ct f y fs;omega
 . show m8 ((aW f y fs).lookup g) (if g=f then some u else mA g)
   rw [Cs]
   by_cases q:g=f
   . rw [aB q,aB q];exact ry
   . rw [az q,az q];exact r g
 . by_cases q:g=f
   . rw [q];exact (Aq f y fs).1
   . refine (Aq f y fs).2 g (wi g fun z=>hg ?_)
     show (if g=f then some u else mA g)=none
     rw [az q];exact z
theorem Inv.made (I:Inv X pins σ H s):Inv X pins σ (upd (upd H s.heap.objs.size (.own (s.heap.objs.size+1))) (s.heap.objs.size+1) (.ins C s.heap.objs.size []))
  { s with heap:=(s.heap.push PySem.W.emptyDict).push (PySem.W.instObj C s.heap.objs.size) }:=by
 have e1:(s.heap.push PySem.W.emptyDict).get? s.heap.objs.size=some PySem.W.emptyDict:=d_ s.heap rfl
 have e2:((s.heap.push PySem.W.emptyDict).push (PySem.W.instObj C s.heap.objs.size)).get? (s.heap.objs.size+1)=some (PySem.W.instObj C s.heap.objs.size):=by
  have:=d_ (s.heap.push PySem.W.emptyDict) (o:=PySem.W.instObj C s.heap.objs.size) rfl
  rwa [mH] at this
 have e3:(s.heap.push PySem.W.emptyDict).Ns s.heap.objs.size (fun _=>none):=⟨PySem.W.emptyDict,#[],_,e1,Z,(fun e he=>absurd he (by simp)),fun _=>rfl⟩
 have I1:=I.laid (a:=s.heap.objs.size) (o:= .own (s.heap.objs.size+1)) (h':=s.heap.push PySem.W.emptyDict) (t':=s.toks) (fun b u q=>cD _ q) (aS _) ⟨_,e1⟩
 refine I1.laid (a:=s.heap.objs.size+1) (o:= .ins C s.heap.objs.size []) (t':=s.toks) (fun b u q=>cD _ q) (Nat.le_of_eq (mH _ _)) ?_
 have ne:s.heap.objs.size≠s.heap.objs.size+1:=dS (Nat.lt_succ_self _)
 refine ⟨by rw [av ne,ak],fT _,ne,e2,fun _=>none,(Heap.Ns1.of_empty e3).at fun o q=>cD _ q,fun _=>True.intro,fun y hy=>absurd rfl hy⟩
theorem Zo {prog:Program} {w:World} {f:Str} {s:Shared} {Q:VS} (hb:attributeBase e f env (eval e env)=eval e env)
  (h:wpAny (model prog w) A (eval e env) (fun o s₁=>wpAny (model prog w) A (getAttr o f true) Q E s₁) E s):wpAny (model prog w) A (eval (.Attribute e f pos) env) Q E s:=
 Attribute_any_ h (by rw [arm_eval_Attribute,hb])
end
inductive aej (K:Fg) (f:Str) (Q:VK) (x:V) (H1:Hp):Prop
 | mk  (a C dx fs v:_) (_:x = .ref a) (_:H1 a=some (.ins C dx fs)) (_:oU K C) (_:fm K C f) (_:fs.lookup f=some v) (_:Q v H1)
def abe (K:Fg) (ta:TE) (f:Str):TE:=fun σ H Q=>ta σ H (aej K f Q)
inductive Zp (K:Fg) (f:Str) (D:Ends) (σ:St) (y:V) (x:V) (H2:Hp):Prop
 | mk  (a C dx fs:_) (_:x = .ref a) (_:H2 a=some (.ins C dx fs)) (_:oU K C) (_:fm K C f) (_:fs.length<1000) (_:D.nx σ (upd H2 a (.ins C dx (aW f y fs))))
def aek (K:Fg) (ta:TE) (f:Str) (D:Ends) (σ:St):V->Hp->Prop:=fun y H1=>ta σ H1 (Zp K f D σ y)
def abf (K:Fg) (ta tv:TE) (f:Str):TS:=fun D σ H=>tv σ H (aek K ta f D σ)
def Rr (X:Cx) (op:Operator) (rd:V->V->Hp->VK->Prop):Prop:=
 ∀(pins:AO) (s:Shared) (σ:St) (H:Hp) (x y:V) (u v:Value) (Q:VK),Inv X pins σ H s->RelV x u->RelV y v->rd x y H Q->wpAny (model X.prog X.w) X.A (inplaceOp op u v) (EP X pins σ Q) X.xe s
inductive Rt (f:Str) (D:Ends) (σ:St) (a:Addr) (C:Addr) (z:V) (H3:Hp):Prop
 | mk  (dx' fs':_) (_:H3 a=some (.ins C dx' fs')) (_:fs'.length<1000) (_:D.nx σ (upd H3 a (.ins C dx' (aW f z fs'))))
def Ru (rd:V->V->Hp->VK->Prop) (f:Str) (D:Ends) (σ:St) (a:Addr) (C:Addr) (v:V):V->Hp->Prop:=fun y H2=>rd v y H2 (Rt f D σ a C)
inductive Wx (K:Fg) (tv:TE) (rd:V->V->Hp->VK->Prop) (f:Str) (D:Ends) (σ:St) (x:V) (H1:Hp):Prop
 | mk  (a C dx fs v:_) (_:x = .ref a) (_:H1 a=some (.ins C dx fs)) (_:oU K C) (_:fm K C f) (_:fs.lookup f=some v) (_:tv σ H1 (Ru rd f D σ a C v))
def Py (K:Fg) (ta tv:TE) (rd:V->V->Hp->VK->Prop) (f:Str):TS:=fun D σ H=>ta σ H (Wx K tv rd f D σ)
variable {rd:V->V->Hp->VK->Prop}
section
variable {X:Cx} {o e value:Expr} {f:Str} {pos pos' tpos:Pos} {ta tv:TE}
theorem abh (he:PE X e ta) (hb:attributeBase e f X.env (eval e X.env)=eval e X.env):PE X (.Attribute e f pos) (abe X.K ta f):=by
 intro pins s σ H Q I h
 refine Zo hb (bq (he pins s σ H _ I h) fun u s1 ⟨x,H1,I1,rx,a,C,dx,fs,v,ex,ea,c,n,l,q⟩=>?_)
 subst ex
 obtain rfl:u=Value.ref a:=rx
 exact Eo I1 ea c n l fun u' s2 I2 ru=>⟨v,H1,I2,ru,q⟩
theorem abi (ha:PE X o ta) (hv:PE X value tv) (hs:swapsWith value (some (.Attribute o f pos')) pos.line X.env=pure false):PS X (.Assign [.Attribute o f pos'] value pos) (abf X.K ta tv f):=by
 intro pins s σ H D I h
 refine plainObj_wpAny_Assign_Attribute (bq (hv pins s σ H _ I h) fun u s1 ⟨y,H1,I1,ry,q⟩=>bq (ha pins s1 σ H1 _ I1 q) fun ov s2 ⟨x,H2,I2,rx,a,C,dx,fs,ex,ea,c,n,l,q2⟩=>?_) hs
 subst ex
 obtain rfl:ov=Value.ref a:=rx
 exact Er I2 ea c n l ry fun s3 I3=>⟨σ,_,I3,q2⟩
theorem TJ {op:Operator} (ha:PE X o ta) (hv:PE X value tv) (hop:Rr X op rd):PS X (.AugAssign (.Attribute o f tpos) op value pos) (Py X.K ta tv rd f):=by
 intro pins s σ H D I h
 refine wpAny_AugAssign_AttributeAny (bq (ha pins s σ H _ I h) fun ov s1 ⟨x,H1,I1,rx,a,C,dx,fs,v,ex,ea,c,n,l,q⟩=>?_)
 subst ex
 obtain rfl:ov=Value.ref a:=rx
 refine Eo I1 ea c n l fun u s2 I2 ru=>bq (hv pins s2 σ H1 _ I2 q) fun w3 s3 ⟨y,H2,I3,ry,q3⟩=>bq (hop pins s3 σ H2 v y u w3 _ I3 ru ry q3) fun w4 s4 ⟨z,H3,I4,rz,dx',fs',ea',l',q4⟩=>?_
 exact Er I4 ea' c n l' rz fun s5 I5=>⟨σ,_,I5,q4⟩
inductive ahF (x:V) (y:V) (H:Hp) (Q:VK):Prop
 | mk  (i j:_) (_:x = .int i) (_:y = .int j) (_:Q (.int (i-j)) H)
theorem K9:Rr X .Sub ahF:=by
 rintro pins s σ H x y u v Q I rx ry ⟨i,j,rfl,rfl,q⟩
 obtain ⟨t,rfl⟩:=(show ∃t,u=Value.int i t from rx)
 obtain ⟨t',rfl⟩:=(show ∃t',v=Value.int j t' from ry)
 exact PyProof.Rows.isub_int ⟨.int (i-j),H,I.tok _,⟨_,Z⟩,q⟩
end
section
variable {X:Cx} {pins:AO} {σ:St} {H:Hp} {s:Shared} {A:Around} {E:VS} {Q:VS} {c:Value} {b:Bool}
inductive gH (K:Fg) (H:Hp):V->Value->Prop where
 | cg:gH K H .cg (.type "NoneType")
 | bl (x:Bool):gH K H (.bl x) (.type "bool")
 | int (i:Int):gH K H (.int i) (.type "int")
 | str (x:Str):gH K H (.str x) (.type "str")
 | Ik (x:UInt64):gH K H (.Ik x) (.type "float")
 | lst {a:Addr} {xs:List V} (e:H a=some (.lst xs)):gH K H (.ref a) (.type "list")
 | fE {a:Addr} {o:Obj} {xs:List V} (e:H a=some (.fE o (.lst xs))):gH K H (.ref a) (.type "list")
 | tup {a:Addr} {xs:List V} (e:H a=some (.tup xs)):gH K H (.ref a) (.type "tuple")
 | dK {a:Addr} {kvs:List (Key×V)} (e:H a=some (.dK kvs)):gH K H (.ref a) (.type "dict")
 | dT {a:Addr} {kvs:List (List Key×V)} (e:H a=some (.dT kvs)):gH K H (.ref a) (.type "dict")
 | ins {a C dx:Addr} {fs:List (Str×V)} (e:H a=some (.ins C dx fs)) (cl:oU K C) (ha:PySem.W.findIn K (.ref C) "__class__"=some (some (.builtin "object.__class__")))
    (hn:PySem.W.specialIn K (.builtin "object.__class__") "__get__"=some (some (.builtin "getset_descriptor.__get__"))) (htk:PySem.W.takesIn K (.builtin "object.__class__")=some true)
    (hm:PySem.W.mroIn K C (.type "object")=some true):gH K H (.ref a) (.ref C)
theorem TL {x:V} {t:Value} (I:Inv X pins σ H s) (rx:RelV x u) (ty:gH X.K H x t) (e:PySem.W.kitOne X.K t c=some b) (h:∀tk,Q (.bool b) { s with toks:=tk }):
  wpAny (model X.prog X.w) A (call (.builtin "isinstance") [u,c]) Q E s:=by
 cases ty with
 | cg=>cases (show u=Value.none from rx);exact pG PySem.W.kitx_none I.iP True.intro e (fun z=>nomatch z) h
 | bl y=>cases (show u=Value.bool y from rx);exact pG PySem.W.kitx_bool I.iP True.intro e (fun z=>nomatch z) h
 | int i=>obtain ⟨t,q⟩:=(show ∃t,u=Value.int i t from rx);cases q;exact pG PySem.W.kitx_int I.iP True.intro e (fun z=>nomatch z) h
 | str y=>obtain ⟨t,q⟩:=(show ∃t,u=Value.str y t from rx);cases q;exact pG PySem.W.kitx_str I.iP True.intro e (fun z=>nomatch z) h
 | Ik y=>obtain ⟨t,q⟩:=(show ∃t,u=Value.float y t from rx);cases q;exact pG PySem.W.kitx_float I.iP True.intro e (fun z=>nomatch z) h
 | @lst a xs ea=>
   cases (show u=Value.ref a from rx)
   obtain ⟨_,_,n,_,h1⟩:=(show dQ X.prog X.w H s.heap a (.lst xs) from I.hok a _ ea)
   exact pG PySem.W.kitx_list I.iP ⟨_,h1,Z⟩ e (fun z=>nomatch z) h
 | @fE a ob xs ea=>
   cases (show u=Value.ref a from rx)
   obtain ⟨_,_,_,n,_,h1⟩:=(show dQ X.prog X.w H s.heap a (.fE ob (.lst xs)) from I.hok a _ ea)
   exact pG PySem.W.kitx_list I.iP ⟨_,h1,Z⟩ e (fun z=>nomatch z) h
 | @tup a xs ea=>
   cases (show u=Value.ref a from rx)
   obtain ⟨_,_,_,p⟩:=(show dQ X.prog X.w H s.heap a (.tup xs) from I.hok a _ ea)
   obtain ⟨o,h1,h2,_⟩:=p
   exact pG PySem.W.kitx_tuple I.iP ⟨o,h1,h2⟩ e (fun z=>nomatch z) h
 | @dK a kvs ea=>
   cases (show u=Value.ref a from rx)
   obtain ⟨_,_,vs,_,p⟩:=(show dQ X.prog X.w H s.heap a (.dK kvs) from I.hok a _ ea)
   obtain ⟨o,es,ep,h1,h2,_⟩:=p
   exact pG PySem.W.kitx_dict I.iP ⟨o,h1,h2.1⟩ e (fun z=>nomatch z) h
 | @dT a kvs ea=>
   cases (show u=Value.ref a from rx)
   obtain ⟨_,_,xs,_,o,es,ep,h1,h2,_⟩:=(show dQ X.prog X.w H s.heap a (.dT kvs) from I.hok a _ ea)
   exact pG PySem.W.kitx_dict I.iP ⟨o,h1,h2.1⟩ e (fun z=>nomatch z) h
 | @ins a C dx fs ea cl ha hn htk hm=>
   cases (show u=Value.ref a from rx)
   obtain ⟨mA,O,_⟩:=BO I.hok ea
   obtain ⟨od,J,_⟩:=O.look
   exact pG (PySem.W.kitx_own (cl.get _) cl.hd ha hn htk hm) I.iP J e (fun z=>nomatch z) h
end
structure dI (k:Nat) (A:Around):Prop where
 hd:A.handled=none
 dp:A.depth+3*k+5<recursionLimit
 un:A.units+16*k+200<cLine
theorem dI.mono {k:Nat} (r:dI k A) (h:j<=k):dI j A:=⟨r.hd,by have:=r.dp;omega,by have:=r.un;omega⟩
theorem dI.deeper {k:Nat} (r:dI (k+1) A) (env:Env):dI k (A.deeper env):=
 ⟨r.hd,by have:=r.dp;show A.depth+1+3*k+5<_;omega,by have:=r.un;show A.units+3+16*k+200<_;omega⟩
theorem Rv:(A.under (.builtin "type.__call__" ⟨.ref C::us,kw⟩)).depth=A.depth+1:=by
 first|rfl|simp [Around.under,Code.weight,Code.isCreation,Code.isGuard,Code.isCaller,Code.frames,Code.isFrame,guardIds]
theorem Rw:(A.under (.builtin "type.__call__" ⟨.ref C::us,kw⟩)).units=A.units+1:=by
 first|rfl|simp [Around.under,Code.cUnits,Code.frames,Code.isFrame]
theorem dI.make {k:Nat} (r:dI (k+1) A) (C:Addr) (us:List Value) (kw:List (Str×Value)):dI k (A.under (.builtin "type.__call__" ⟨.ref C::us,kw⟩)):=
 ⟨r.hd,by have:=r.dp;rw [Rv];omega,by have:=r.un;rw [Rw];omega⟩
theorem dI.depth {k:Nat} (r:dI k A):A.depth<recursionLimit:=by have:=r.dp;omega
theorem dI.units {k:Nat} (r:dI k A):A.units+64<cLine:=by have:=r.un;omega
def m_:TA:=fun _ H Q=>Q [] H
def Wy (Q:List V->Hp->Prop) (x:V):List V->Hp->Prop:=fun xs H2=>Q (x::xs) H2
def abj (tr:TA) (σ:St) (Q:List V->Hp->Prop):V->Hp->Prop:=fun x H1=>tr σ H1 (Wy Q x)
def jQ (ta:TE) (tr:TA):TA:=fun σ H Q=>ta σ H (abj tr σ Q)
section
variable {X:Cx} {e:Expr} {es:List Expr} {te:TE} {t:TA} {pos:Pos}
theorem TM:PA X [] m_:=fun _ _ _ _ H Q I h=>Calls.spliced_nil ⟨[],H,I, .nil,h⟩
theorem Pz (ha:PE X e te) (hr:PA X es t) (hs:starEach (e::es) X.env=(false,eval e X.env)::starEach es X.env:=by rfl):PA X (e::es) (jQ te t):=by
 intro pos pins s σ H Q I h
 rw [hs]
 show wpAny _ _ (spliced ((false,eval e X.env)::backTo pos (starEach es X.env))) _ _ s
 refine Calls.spliced_cons (bq (ha pins s σ H _ I h) fun u s1 ⟨x,H1,I1,r1,q1⟩=>?_)
 exact bq (hr pos pins s1 σ H1 _ I1 q1) fun us s2 ⟨xs,H2,I2,r2,q2⟩=>⟨x::xs,H2,I2, .cons r1 r2,q2⟩
inductive ael (Q:VK) (xs:List V) (H1:Hp):Prop
 | mk  (_:xs.length<=sizeLine) (_:∀p,H1 p=none->Q (.ref p) (upd H1 p (.tup xs)))
def ahG (t:TA):TE:=fun σ H Q=>t σ H (ael Q)
inductive aem (Q:VK) (xs:List V) (H1:Hp):Prop
 | mk  (_:xs.length<=sizeLine) (_:∀p,H1 p=none->Q (.ref p) (upd H1 p (.lst xs)))
def Rx (t:TA):TE:=fun σ H Q=>t σ H (aem Q)
end
abbrev Sp:=List V->Hp->VK->XK->Prop
abbrev zV:=List Env->Hp->Shared->XK->Value->Shared->Prop
structure C6 (P:Program) (w:World) (K:Fg) (mg:SO) (base:Heap) (A:Around) (outer:List Env) (s:Shared) (H:Hp):Prop where
 frames:A.frames=some outer
 mod:Mod K mg base
 bs:∀b o,base.get? b=some o->s.heap.get? b=some o/\H b=none
 Eg:base.objs.size<=s.heap.objs.size
 oh:s.heap.FunFrames base outer
 Im:∀b∈frs outer,H b=none
 hok:gU P w H s.heap
 bare:AllBare s.gens
def CE (outer:List Env) (P:Program) (w:World) (H:Hp) (s:Shared) (Q:VK) (u:Value) (s':Shared):Prop:=
 ∃v H',s'.os=s.os/\AllBare s'.gens/\Un (frs outer) [] H H' s.heap s'.heap/\gU P w H' s'.heap/\RelV v u/\Q v H'
def CR (CX:zV) (outer:List Env) (P:Program) (w:World) (H:Hp) (s:Shared) (Q:VK) (E:XK) (r:Result) (s':Shared):Prop:=
 match r with
 | .ok (.ret u)=>CE outer P w H s Q u s'
 | .ok _=>False
 | .error e=>CX outer H s E e s'
structure iA (P:Program) (w:World) (K:Fg) (mg:SO) (base:Heap) (CX:zV) (k:Nat) (f:Addr) (fd:FuncData) (ps:List Str) (sp:Sp):Prop where
 len:∀vs H Q E,sp vs H Q E->vs.length=ps.length
 run:∀(A:Around) (outer:List Env) (s:Shared) (H:Hp) (args:Args) (us:List Value) (vs:List V) (Q:VK) (E:XK),dI k A->C6 P w K mg base A outer s H->BindsTo s fd args (ps.zip us)->Vals vs us->sp vs H Q E->
  codeAny (model P w) A (.call (.ref f) args) (CR CX outer P w H s Q E) s
variable {mg:SO} {base:Heap} {CX:zV} {f:Addr} {fd:FuncData} {ps:List Str} {sp:Sp}
theorem iA.imp {w:World} {k:Nat} {TN:Sp} (F:iA P w K mg base CX k f fd ps sp)
  (h:∀vs H Q E,TN vs H Q E->sp vs H Q E):iA P w K mg base CX k f fd ps TN:=
 ⟨fun vs H Q E q=>F.len vs H Q E (h _ _ _ _ q),fun A outer s H args us vs Q E hr he hb hv hs=>F.run A outer s H args us vs Q E hr he hb hv (h _ _ _ _ hs)⟩
theorem C6.make {w:World} {outer:List Env} (e:C6 P w K mg base A outer s H) (C:Addr) (us:List Value) (kw:List (Str×Value)):
  C6 P w K mg base (A.under (.builtin "type.__call__" ⟨.ref C::us,kw⟩)) outer s H:=⟨by first|exact e.frames|(simpa [Around.under,Code.envs,Code.isFrame,pushEnvs] using e.frames),e.mod,e.bs,e.Eg,e.oh,e.Im,e.hok,e.bare⟩
section
variable {X:Cx} {pins:AO} {σ:St} {H:Hp} {s s':Shared}
theorem Inv.Wz (I:Inv X pins σ H s):C6 X.prog X.w X.K X.mg X.base X.A X.stack s H:=
 ⟨I.ok.frames,I.ok.mod,I.bs,eX I.ok.Eg I.sz,I.stack,I.xV,I.hok,I.bare⟩
theorem Inv.after {Q:VK} (I:Inv X pins σ H s) (h:CE X.stack X.prog X.w H s Q u s'):EP X pins σ Q u s':=by
 obtain ⟨v,H',os,bare,un,hok,r,q⟩:=h
 obtain ⟨hh,g,d,t,os'⟩:=s'
 obtain rfl:os'=s.os:=os
 exact ⟨v,H',I.call (h':=hh) (g':=g) (d':=d) (t':=t) (ch:=[]) un hok bare (fun b z=>absurd z (by simp)),r,q⟩
end
def abk (sp:Sp) (iR:List V) (E:XK) (Q:VK):List V->Hp->Prop:=fun vs H1=>sp (vs++iR) H1 Q E
def Yn (sp:Sp) (iR:List V) (E:XK) (t:TA):TE:=fun σ H Q=>t σ H (abk sp iR E Q)
def WA (sp:Sp) (iR:List V) (E:XK) (Q:VK) (x:V):List V->Hp->Prop:=fun vs H2=>sp (x::(vs++iR)) H2 Q E
inductive abl (C:Addr) (m:Str) (sp:Sp) (iR:List V) (E:XK) (t:TA) (σ:St) (Q:VK) (x:V) (H1:Hp):Prop
 | mk  (a dx fs:_) (_:x = .ref a) (_:H1 a=some (.ins C dx fs)) (_:fs.lookup m=none) (_:t σ H1 (WA sp iR E Q x))
def Es (C:Addr) (m:Str) (sp:Sp) (iR:List V) (E:XK) (ta:TE) (t:TA):TE:=fun σ H Q=>ta σ H (abl C m sp iR E t σ Q)
def abm (C:Addr) (sp:Sp) (iR:List V) (E:XK) (Q:VK):List V->Hp->Prop:=fun vs H1=>∀x dx,H1 x=none->H1 dx=none->dx≠x->sp (.ref x::(vs++iR)) (upd (upd H1 dx (.own x)) x (.ins C dx [])) (fun v H2=>v = .cg/\Q (.ref x) H2) E
def KC (C:Addr) (sp:Sp) (iR:List V) (E:XK) (t:TA):TE:=fun σ H Q=>t σ H (abm C sp iR E Q)
def Binds (K:Fg) (fd:FuncData) (ps:List Str) (ds:List Value):Prop:=
 ∀(s:Shared) (us:List Value),K.In s.heap->(us++ds).length=ps.length->BindsTo s fd ⟨us,[]⟩ (ps.zip (us++ds))
theorem Binds.all (h:∀us:List Value,us.length=ps.length->bindArgs fd ⟨us,[]⟩=pure (ps.zip us)):Binds K fd ps [] :=fun s us _ hl=>by
 rw [rO] at hl ⊢
 exact .of_eq (h us hl)
def Passes (CX:zV) (X:Cx) (E:XK):Prop:=∀(pins:AO) (σ:St) (H:Hp) (s:Shared) (e:Value) (s':Shared),Inv X pins σ H s->CX X.stack H s E e s'->X.xe e s'
variable {vs:List V}
section
variable {X:Cx} {CX:zV} {k:Nat} {f C:Addr} {fd:FuncData} {ps:List Str} {sp:Sp} {iR:List V} {ds:List Value} {E:XK} {x m:Str} {p pos apos:Pos} {e o:Expr} {es:List Expr} {ta:TE} {t:TA}
theorem K_ {Q:VK} (F:iA X.prog X.w X.K X.mg X.base CX k f fd ps sp) (hr:dI k X.A) (hb:Binds X.K fd ps ds) (hd:Vals iR ds) (hx:Passes CX X E)
  (I:Inv X pins σ H s) (r:Vals vs us) (h:sp (vs++iR) H Q E):wpAny (model X.prog X.w) X.A (call (.ref f) us) (EP X pins σ Q) X.xe s:=by
 have r2:Vals (vs++iR) (us++ds):=r.append hd
 have hl:(us++ds).length=ps.length:=by rw [<-r2.length];exact F.len _ _ _ _ h
 refine wpAny_call (BI (F.run X.A X.stack s H ⟨us,[]⟩ (us++ds) (vs++iR) Q E hr I.Wz (hb s us I.iP hl) r2 h) fun r s' hq=>?_)
 cases r with
 | error e=>exact hx pins σ H s e s' I hq
 | ok fl=>
   cases fl with
   | ret u=>exact I.after hq
   | next=>exact False.elim hq
   | brk=>exact False.elim hq
   | cont=>exact False.elim hq
theorem Zq (F:iA X.prog X.w X.K X.mg X.base CX k f fd ps sp) (hr:dI k X.A) (hg:Gl X x) (hm:X.mg x=some (.ref f)) (hk:PySem.W.keepIn X.K (.ref f)=true) (hb:Binds X.K fd ps ds) (hd:Vals iR ds) (hx:Passes CX X E)
  (ha:PA X (e::es) t) (hdb:(x==("__debug__":Str))=false:=by decide) (he:starEach (e::es) X.env=(false,eval e X.env)::starEach es X.env:=by rfl) (hpl:(backTo pos (starEach es X.env)).any (·.1)=false:=by rfl):
  PE X (.Call (.Name x p) (e::es) [] pos) (Yn sp iR E t):=by
 intro pins s σ H Q I h
 refine Gx (qO I hg hm ?_ hdb)
 refine Rc (h₀:=X.base) I.ok.mod.Pp hk (bq (ha pos pins s σ H _ I h) fun us s1 ⟨vs,H1,I1,r,q⟩=>⟨I1.iP,?_⟩) he hpl
 exact K_ F hr hb hd hx I1 r q
theorem PB (he:PE X o ta) (c:oU X.K C) (hm:Meth X.K C m f) (F:iA X.prog X.w X.K X.mg X.base CX k f fd ps sp) (hr:dI k X.A) (hb:Binds X.K fd ps ds) (hd:Vals iR ds) (hx:Passes CX X E) (ha:PA X (e::es) t)
  (hst:starEach (e::es) X.env=(false,eval e X.env)::starEach es X.env:=by rfl) (hpl:(backTo pos (starEach es X.env)).any (·.1)=false:=by rfl)
  (ht:eval (.Call (.Attribute o m apos) (e::es) [] pos) X.env=(do
    let ov <-eval o X.env
    standAt apos.atName
    let (f,first) <-holding [ov] (getMethod ov m pl)
    callWith pos f first (backTo pos (starEach (e::es) X.env)) (backToKw pos (keywordEach [] X.env))):=by rfl):
  PE X (.Call (.Attribute o m apos) (e::es) [] pos) (Es C m sp iR E ta t):=by
 intro pins s σ H Q I h
 refine PySem.W.methodCall_KW (pl:=pl) (bq (he pins s σ H _ I h) fun u s1 ⟨x,H1,I1,rx,a,dx,fs,ex,ea,l,q⟩=>?_) ht
 subst ex
 obtain rfl:u=Value.ref a:=rx
 refine Ep I1 ea c hm l ?_
 refine Rc (first:=[.ref a]) (h₀:=X.base) I.ok.mod.Pp hm.kp (bq (ha pos pins s1 σ H1 _ I1 q) fun us s2 ⟨vs,H2,I2,r,q2⟩=>⟨I2.iP,?_⟩) hst hpl
 exact K_ (us:= .ref a::us) (vs:= .ref a::vs) F hr hb hd hx I2 (.cons rfl r) q2
theorem WB (he:PE X o ta) (c:oU X.K C) (hm:Meth X.K C m f) (F:iA X.prog X.w X.K X.mg X.base CX k f fd ps sp) (hr:dI k X.A) (hb:Binds X.K fd ps ds) (hd:Vals iR ds) (hx:Passes CX X E)
  (ht:eval (.Call (.Attribute o m apos) [] [] pos) X.env=(do
    let ov <-eval o X.env
    standAt apos.atName
    let (f,first) <-holding [ov] (getMethod ov m pl)
    callWith pos f first (backTo pos (starEach [] X.env)) (backToKw pos (keywordEach [] X.env))):=by rfl):
  PE X (.Call (.Attribute o m apos) [] [] pos) (Es C m sp iR E ta m_):=by
 intro pins s σ H Q I h
 refine PySem.W.methodCall_KW (pl:=pl) (bq (he pins s σ H _ I h) fun u s1 ⟨x,H1,I1,rx,a,dx,fs,ex,ea,l,q⟩=>?_) ht
 subst ex
 obtain rfl:u=Value.ref a:=rx
 refine Ep I1 ea c hm l ?_
 exact PySem.W.callWith_K0 (first:=[.ref a]) I1.iP hm.kp (K_ (us:=[.ref a]) (vs:=[.ref a]) F hr hb hd hx I1 (.cons rfl .nil) q)
structure Mk (K:Fg) (C f:Addr):Prop where
 makes:PySem.W.makesIn K C=true
 init:PySem.W.findIn K (.ref C) "__init__"=some (some (.ref f))
 fn:PySem.W.isFn K (.ref f)=true
 kp:PySem.W.keepIn K (.ref C)=true
theorem La {Q:VK} (M:Mk X.K C f) (F:iA X.prog X.w X.K X.mg X.base CX k f fd ps sp) (hr:dI (k+1) X.A) (hb:Binds X.K fd ps ds) (hd:Vals iR ds)
  (hx:Passes CX X E) (I:Inv X pins σ H s) (r:Vals vs us)
  (h:∀x dx,H x=none->H dx=none->dx≠x->sp (.ref x::(vs++iR)) (upd (upd H dx (.own x)) x (.ins C dx [])) (fun v H2=>v = .cg/\Q (.ref x) H2) E):
  wpAny (model X.prog X.w) X.A (call (.ref C) us) (EP X pins σ Q) X.xe s:=by
 have hq:=h (s.heap.objs.size+1) s.heap.objs.size (I.hok.fresh (Nat.le_succ _)) (I.hok.fresh (aS _)) (dS (Nat.lt_succ_self _))
 have I2:=Inv.made (C:=C) I
 have r2:Vals (V.ref (s.heap.objs.size+1)::(vs++iR)) (Value.ref (s.heap.objs.size+1)::(us++ds)):= .cons rfl (r.append hd)
 have hl:(Value.ref (s.heap.objs.size+1)::us++ds).length=ps.length:=by
  have e:=r2.length
  rw [F.len _ _ _ _ hq] at e
  exact e.symm
 refine wpAny_call (Ww (f:=f) I.iP M.makes M.init (nM.mp M.fn) (BI (F.run _ X.stack _ _ ⟨Value.ref (s.heap.objs.size+1)::us,[]⟩ (Value.ref (s.heap.objs.size+1)::(us++ds)) _ _ E (hr.make C us [])
  (I2.Wz.make C us []) (hb _ (Value.ref (s.heap.objs.size+1)::us) I2.iP hl) r2 hq) fun r s' hq'=>?_))
 cases r with
 | error e=>exact hx pins σ _ _ e s' I2 hq'
 | ok fl=>
   cases fl with
   | ret u=>
     obtain ⟨v,H',I3,rv,ev,q3⟩:=I2.after hq'
     subst ev
     exact ⟨rv,⟨V.ref (s.heap.objs.size+1),H',I3,Z,q3⟩⟩
   | next=>exact False.elim hq'
   | brk=>exact False.elim hq'
   | cont=>exact False.elim hq'
theorem Zr (M:Mk X.K C f) (F:iA X.prog X.w X.K X.mg X.base CX k f fd ps sp) (hr:dI (k+1) X.A) (hg:Gl X x) (hm:X.mg x=some (.ref C)) (hb:Binds X.K fd ps ds) (hd:Vals iR ds) (hx:Passes CX X E)
  (ha:PA X (e::es) t) (hdb:(x==("__debug__":Str))=false:=by decide) (he:starEach (e::es) X.env=(false,eval e X.env)::starEach es X.env:=by rfl) (hpl:(backTo pos (starEach es X.env)).any (·.1)=false:=by rfl):
  PE X (.Call (.Name x p) (e::es) [] pos) (KC C sp iR E t):=by
 intro pins s σ H Q I h
 refine Gx (qO I hg hm ?_ hdb)
 refine Rc (h₀:=X.base) I.ok.mod.Pp M.kp (bq (ha pos pins s σ H _ I h) fun us s1 ⟨vs,H1,I1,r,q⟩=>⟨I1.iP,?_⟩) he hpl
 exact La M F hr hb hd hx I1 r q
theorem WC (M:Mk X.K C f) (F:iA X.prog X.w X.K X.mg X.base CX k f fd ps sp) (hr:dI (k+1) X.A) (hg:Gl X x) (hm:X.mg x=some (.ref C)) (hb:Binds X.K fd ps ds) (hd:Vals iR ds) (hx:Passes CX X E)
  (hdb:(x==("__debug__":Str))=false:=by decide):PE X (.Call (.Name x p) [] [] pos) (KC C sp iR E m_):=by
 intro pins s σ H Q I h
 refine Gx (qO I hg hm ?_ hdb)
 exact PySem.W.callWith_K0 I.iP M.kp (La (us:=[]) M F hr hb hd hx I .nil h)
end
section
variable {X:Cx} {CX:zV} {k:Nat} {f C:Addr} {fd:FuncData} {ps ks:List Str} {sp:Sp} {E:XK} {x m:Str} {p pos apos kpos:Pos} {e o:Expr} {es:List Expr} {kws:List Keyword} {te ta:TE} {t tk:TA} {nm:Option Str}
variable {g:List Value->List Value->List Value} {gV:List V->List V->List V}
end
structure aJ (N P:List Str) (sc:Scope):Prop where
 kind:sc.kind = .function
 co:sc.isCoroutine=false
 gen:sc.isGenerator=false
 nd:N.Nodup
 pre:N.take P.length=P
 par:∀x∈P,sc.names.lookup x=some .local\/sc.names.lookup x=some .cell
 abn:∀y∈sc.names,y.2 ≠ .free
theorem Iu {kindOf:Str->Option NameKind} {x:Str}:∀{binds:List (Str×Value)} {m:SO},(∀v,(x,v)∉binds)->bindL kindOf binds m x=m x
 | [],_,_=>rfl
 | (n,v)::r,m,h=>by
   unfold bindL
   rw [Iu fun w hw=>h w (cL _ hw)]
   split
   . have:x≠n:=by rintro rfl;exact h v cO
     simp [this]
   . rfl
theorem Iw {kindOf:Str->Option NameKind} {x:Str}:∀{binds:List (Str×Value)} {m:SO},(∀v,(x,v)∉binds)->bindC kindOf binds m x=m x
 | [],_,_=>rfl
 | (n,v)::r,m,h=>by
   unfold bindC
   rw [Iw fun w hw=>h w (cL _ hw)]
   split
   . rfl
   . have:x≠n:=by rintro rfl;exact h v cO
     simp [this]
theorem Iz {kindOf:Str->Option NameKind} {x:Str} {v:Value}:∀{P:List Str} {vs:List Value} {i:Nat} {m:SO},P.Nodup->P[i]?=some x->vs[i]?=some v->kindOf x=some .local->
  bindL kindOf (P.zip vs) m x=some v
 | [],_,_,_,_,h,_,_=>by simp at h
 | _::_,[],_,_,_,_,h,_=>by simp at h
 | p::P,w::vs,0,m,nd,h1,h2,hk=>by
   simp at h1 h2;subst h1;subst h2
   show bindL kindOf ((p,w)::P.zip vs) m p=_
   unfold bindL
   rw [Iu fun v hv=>(gX.mp nd).1 (List.of_mem_zip hv).1,aB hk]
   simp
 | p::P,w::vs,i+1,m,nd,h1,h2,hk=>by
   show bindL kindOf ((p,w)::P.zip vs) m x=_
   unfold bindL
   exact Iz (i:=i) (gX.mp nd).2 (by simpa using h1) (by simpa using h2) hk
theorem IA {kindOf:Str->Option NameKind} {x:Str} {v:Value}:∀{P:List Str} {vs:List Value} {i:Nat} {m:SO},P.Nodup->P[i]?=some x->vs[i]?=some v->kindOf x≠some .local->
  bindC kindOf (P.zip vs) m x=some v
 | [],_,_,_,_,h,_,_=>by simp at h
 | _::_,[],_,_,_,_,h,_=>by simp at h
 | p::P,w::vs,0,m,nd,h1,h2,hk=>by
   simp at h1 h2;subst h1;subst h2
   show bindC kindOf ((p,w)::P.zip vs) m p=_
   unfold bindC
   rw [Iw fun v hv=>(gX.mp nd).1 (List.of_mem_zip hv).1,az hk]
   simp
 | p::P,w::vs,i+1,m,nd,h1,h2,hk=>by
   show bindC kindOf ((p,w)::P.zip vs) m x=_
   unfold bindC
   exact IA (i:=i) (gX.mp nd).2 (by simpa using h1) (by simpa using h2) hk
def start (N:List Str) (vs:List V):St:=vs.map some++List.replicate (N.length-vs.length) none
def dz (CX:zV) (P:Program) (w:World) (K:Fg) (mg:SO) (base:Heap) (N:List Str) (qual:Str) (scope:Scope) (f:Addr) (cd:Value) (A:Around) (outer:List Env) (s:Shared) (H:Hp) (E:XK):Cx where
 prog:=P
 w:=w
 K:=K
 mg:=mg
 base:=base
 A:=A.deeper (envOfC qual scope s.heap.objs.size f cd)
 N:=N
 s₀:=s
 H₀:=H
 env:=envOfC qual scope s.heap.objs.size f cd
 outer:=outer
 stack:=envOfC qual scope s.heap.objs.size f cd::outer
 ex:=[]
 calm:=true
 fn:=fun _=>true
 pn:=[]
 xe:=fun e s'=>wpAny (model P w) (A.deeper (envOfC qual scope s.heap.objs.size f cd)) (leaving (envOfC qual scope s.heap.objs.size f cd) e) (fun _ s''=>CX outer H s E e s'') (fun e' s''=>CX outer H s E e' s'') s'
theorem Lb {sc:Scope} (h:sc.names.lookup x=some .cell):∃c,(cellsFrom n sc.names []).lookup x=some c:=by
 have q:=PySem.W.cellsFrom_some sc.names n [] (.inl h)
 exact Option.isSome_iff_exists.mp q
variable {qual:Str} {scope:Scope} {E:XK}
theorem TQ {w:World} {cd:Value} {outer:List Env} {s1:Shared}
  (S:aJ N ps scope) (hd:A.handled=none) (e0:C6 P w K mg base A outer s H) (hl:vs.length=ps.length) (r:Vals vs us)
  (x:InCallC s s.heap.objs.size (bindL (envOfC qual scope s.heap.objs.size f cd).kindOf (ps.zip us) fun _=>none) (cellsFrom (s.heap.objs.size+1) scope.names []) (bindC (envOfC qual scope s.heap.objs.size f cd).kindOf (ps.zip us) fun _=>none) s1):
  Inv (dz CX P w K mg base N qual scope f cd A outer s H E) [] (start N vs) H s1:=by
 have hpl:ps.length<=N.length:=by have:=iw List.length S.pre;rw [lu] at this;omega
 obtain ⟨h1,tk,rfl,hk⟩:=x.done
 have TR:∀b:Addr,b∉(dz CX P w K mg base N qual scope f cd A outer s H E).ex:=fun b z=>absurd (show b∈([] :List Addr) from z) (by simp)
 refine ⟨⟨e0.mod,S.kind,Z,Z,aS _,fun y z c h1 h2=>?_,fun y hy=>?_,fun y c _ h=>?_,fun _=>hd,Around.frames_deeper e0.frames, .inr ⟨Z,Z⟩,fun b z=>absurd z (TR b),e0.bs,e0.Eg,fun b _ _=>TR b,fun b z=>absurd z (TR b),e0.oh,e0.Im⟩,
  rfl,e0.bare,Un.kept hk,⟨_,x.toInCall.ns,fun i y v h1 h2 h3=>?_⟩,fun y c h=>⟨_,x.cell y c h⟩,e0.hok.fresh (aS _),fun y c h=>?_,fun p hp=>absurd (show p∈([] :AO) from hp) (by simp),e0.hok.kept hk,?_⟩
 . exact name_of_addr x.apart (yx h1) (yx h2)
 . have hy:scope.names.lookup y=some .cell\/scope.names.lookup y=some .free:=hy
   rcases hy with hy|hy
   . exact Lb hy
   . exact absurd rfl (S.abn _ (yx hy))
 . exact Ed (x.above y c (yx h))
 . have hi:i<vs.length:=by
    unfold start at h2
    by_cases hi:i<vs.length
    . exact hi
    . rw [KO (by simpa using hi)] at h2
      rw [List.getElem?_replicate] at h2
      split at h2 <;> cases h2
   have ha:vs[i]?=some v:=by
    unfold start at h2
    rw [KP (by simpa using hi),bK] at h2
    cases e:vs[i]? with
    | none=>rw [e] at h2;cases h2
    | some a=>rw [e] at h2;cases h2;rfl
   obtain ⟨u,hu,rv⟩:=r.get ha
   have hp:ps[i]?=some y:=by
    rw [<-S.pre,List.getElem?_take_of_lt (by omega)];exact h1
   have ndP:ps.Nodup:=by rw [<-S.pre];exact S.nd.sublist (List.take_sublist _ _)
   refine ⟨u,rv,?_⟩
   rcases S.par y (bJ hp) with k|k
   . exact .inl ⟨k,Iz ndP hp hu k⟩
   . obtain ⟨c,e⟩:=Lb (n:=s.heap.objs.size+1) k
     refine .inr ⟨.inl k,c,e,?_⟩
     have q:=x.cell y c e
     rw [IA ndP hp hu (by show scope.names.lookup y≠_;rw [k];decide)] at q
     exact q
 . exact e0.hok.fresh (Ed (x.above y c (yx h)))
 . unfold start
   show _=N.length
   rw [cY,aF,mZ]
   omega
variable {body:List Stmt} {doc pm cdv ct oc:Value} {an od:Option Addr}
theorem Ry {w:World} {k:Nat} {name:Str} {params:Arguments} {dV kV:Value}
  {osl:Array (Option Value)} {N ps:List Str} {sp:Sp} (lk:K.lookup f=some ⟨oc,od, .func (PySem.W.fnOf name qual params body scope dV kV doc pm an cdv ct),osl⟩) (hcd:PySem.W.codeIn K cdv qual=true) (S:aJ N ps scope)
  (len:∀vs H Q E,sp vs H Q E->vs.length=ps.length)
  (hbody:∀(A:Around) (outer:List Env) (s:Shared) (H:Hp) (vs:List V) (Q:VK) (E:XK),dI k (A.deeper (envOfC qual scope s.heap.objs.size f cdv))->sp vs H Q E->
    ∃t,qI (dz CX P w K mg base N qual scope f cdv A outer s H E) body t/\t { nx:=fun _ H'=>Q .cg H',rt:=Q } (start N vs) H):
  iA P w K mg base CX (k+1) f (PySem.W.fnOf name qual params body scope dV kV doc pm an cdv ct) ps sp:=by
 refine ⟨len,fun A outer s H args us vs Q E hr e0 hb r pM=>?_⟩
 have hl:=len _ _ _ _ pM
 have KX:K.In s.heap:=e0.mod.Pp.keeps fun b o e=>(e0.bs b o e).1
 have lim:s.heap.NoLimit:=e0.mod.nolimit.keeps fun b o e=>(e0.bs b o e).1
 have hkind:∀y∈ps.zip us,scope.names.lookup y.1=some .local\/(scope.names.lookup y.1=some .cell/\((cellsFrom (s.heap.objs.size+1) scope.names []).lookup y.1).isSome=true):=fun ⟨n,v⟩ hy=>by
  rcases S.par n (List.of_mem_zip hy).1 with q|q
  . exact .inl q
  . exact .inr ⟨q,PySem.W.cellsFrom_some _ _ _ (.inl q)⟩
 refine codeAny_call_function hr.depth (KX _ _ lk) rfl S.co S.gen rfl (PySem.W.codeRec_of KX hcd) (hb _ _ _ _ ?_)
 refine wpAny_newFunctionEnv_cells S.kind hkind fun env he s1 x=>?_
 subst he
 refine ⟨lim.keeps x.toInCall.keep,codeAny_func ?_⟩
 obtain ⟨t,ht,hq⟩:=hbody A outer s H vs Q E (hr.deeper _) pM
 have I:Inv (dz CX P w K mg base N qual scope f cdv A outer s H E) [] (start N vs) H s1:=TQ S hr.hd e0 hl r x
 refine gY (ht [] s1 (start N vs) H _ I hq) (fun fl s' hs=>?_) fun e s' hs=>hs
 have fin:∀{σ':St} {H':Hp} {v:V} {u:Value},Inv (dz CX P w K mg base N qual scope f cdv A outer s H E) [] σ' H' s'->RelV v u->Q v H'->CE outer P w H s Q u s':=
  fun {σ' H' v u} J rv q=>⟨v,H',J.os,J.bare,J.base,J.hok,rv,q⟩
 cases fl with
 | ret u=>
   obtain ⟨v,σ',H',J,rv,q⟩:=hs
   exact fin J rv q
 | next=>
   obtain ⟨σ',H',J,q⟩:=hs
   exact fin (v:=V.cg) (u:=Value.none) J rfl q
 | brk=>
   obtain ⟨_,_,_,q⟩:=hs
   exact False.elim q
 | cont=>
   obtain ⟨_,_,_,q⟩:=hs
   exact False.elim q
section
variable {X:Cx} {x:Str} {p pos:Pos} {e:Expr} {es:List Expr} {t:TA} {id T:String} {r:List V->Hp->VK->Prop}
def ahH (r:List V->Hp->VK->Prop) (Q:VK):List V->Hp->Prop:=fun vs H1=>r vs H1 Q
def tCB (r:List V->Hp->VK->Prop) (t:TA):TE:=fun σ H Q=>t σ H (ahH r Q)
end
end L2
namespace HT
open PySem PyProof.Rows
section
open PySem.SeqAt
open PySem.AutoSeq1 (wpAny_loadPart')
open PySem.MeetsSeq PySem.MeetsSeq2 PySem.MeetsSeq3
end
section
variable {prog:Program} {w:World} {A:Around} {E:VS} {s:Shared}
theorem Zs {t b:Addr} {vs ws:List Value} {Q:VS} (ht:IsTup s.heap t vs.toArray) (hb:IsTup s.heap b ws.toArray) (hv:vs≠[])
  (h1:ws=[]->Q (.ref t) s) (h2:ws≠[]->Q (.ref s.heap.objs.size) { s with heap:=s.heap.push { cls:= .type "tuple",data:= .seq (vs++ws).toArray } })
  (hsz:vs.length+ws.length<=sizeLine):wpAny (model prog w) A (binaryOp .Add (.ref t) (.ref b)) Q E s:=by
 obtain ⟨⟨cls,dd,data,sl⟩,ho,hc,n,hd⟩:=id ht
 obtain ⟨⟨ahI,dd2,data2,sl2⟩,ho2,hc2,n2,hd2⟩:=id hb
 simp only at hc hd hc2 hd2
 subst hc hd hc2 hd2
 have e:vs.toArray++ws.toArray=(vs++ws).toArray:=by simp
 by_cases hw:ws=[]
 . exact concat_meets ⟨_,ho,Z⟩ ⟨_,ho2,Z⟩ noFill_tuple_add seq_tuple_add PySem.F.slot_tuple_add PySem.F.entry_tuple_add (PySem.F.args_tuple_add_2 _ _)
    (tuple_addW1 t b vs.toArray ws.toArray n n2 dd dd2 sl sl2 (by simpa using hv) (by simp [hw])) ⟨ho,ho2,h1 hw⟩
 . refine concat_meets ⟨_,ho,Z⟩ ⟨_,ho2,Z⟩ noFill_tuple_add seq_tuple_add PySem.F.slot_tuple_add PySem.F.entry_tuple_add (PySem.F.args_tuple_add_2 _ _)
    (tuple_addW2 t b vs.toArray ws.toArray n n2 dd dd2 sl sl2 (by simpa using hv) (by simpa using hw) (by rw [iz,iz];exact hsz)) ⟨ho,ho2,?_⟩
   rw [e]
   exact h2 hw
def dP (n d:Nat):Option Int->Nat
 | none=>d
 | some v=>if v<0 then (v+(n:Int)).toNat else min v.toNat n
theorem C7 (n d:Nat):dP n d none=d:=rfl
theorem x6 (n d k:Nat):dP n d (some (k:Int))=min k n:=by
 show (if (k:Int)<0 then ((k:Int)+(n:Int)).toNat else min (k:Int).toNat n)=min k n
 rw [az (by omega),xj]
theorem TU (n d:Nat) (hd:d<=n) (o:Option Int):dP n d o<=n:=by
 cases o with
 | none=>exact hd
 | some v=>
   show (if v<0 then (v+(n:Int)).toNat else min v.toNat n)<=n
   by_cases hv:v<0
   . rw [aB hv];omega
   . rw [az hv];exact Nat.min_le_right _ _
theorem PD (v:Int) (n d:Nat):(if v<0 then max (v+(n:Int)) 0 else min v (n:Int))=((dP n d (some v):Nat):Int):=by
 show (if v<0 then max (v+(n:Int)) 0 else min v (n:Int))=(((if v<0 then (v+(n:Int)).toNat else min v.toNat n):Nat):Int)
 by_cases hv:v<0
 . simp only [aB hv];omega
 . simp only [az hv];omega
theorem Rz (lo hi:Option Int) (n:Nat):Builtin.Slice.sliceAdjust lo hi 1 (n:Int)=(((dP n 0 lo:Nat):Int),((dP n n hi:Nat):Int)):=by
 have h1:¬ ((1:Int)<0):=by omega
 unfold Builtin.Slice.sliceAdjust
 simp only [h1,lF]
 refine Prod.ext ?_ ?_
 . cases lo with
   | none=>rfl
   | some v=>exact PD v n 0
 . cases hi with
   | none=>rfl
   | some v=>exact PD v n n
theorem RA (i j:Nat):Builtin.Slice.slicePlaces (i:Int) (j:Int) 1=j-i:=by
 unfold Builtin.Slice.slicePlaces
 have h1:(1:Int)>0:=by omega
 simp only [h1,rS,BJ]
 split <;> omega
theorem Et {v:Value} {o:Option Int} {Q:Option Int->Shared->Prop} (p:IsPart v o) (h:Q o s):wpAny (model prog w) A (Builtin.Slice.slicePartIndex v) Q E s:=by
 cases p with
 | none=>exact slicePart_none h
 | int i t=>exact slicePart_int h
theorem C8 {sl:Addr} {vl vu:Value} {lo hi:Option Int} {n:Nat} {Q:Int×Int×Nat->Shared->Prop} (hs:s.heap.IsSliceOf sl vl vu .none) (pl:IsPart vl lo) (pu:IsPart vu hi)
  (h:Q (((dP n 0 lo:Nat):Int),1,dP n n hi-dP n 0 lo) s):wpAny (model prog w) A (Builtin.Slice.sliceApplied (.ref sl) (pure (n:Int))) Q E s:=by
 obtain ⟨os,hos,hcs,hds⟩:=id hs
 unfold Builtin.Slice.sliceApplied Builtin.Slice.sliceFields
 refine aq (aq (kF hos hds (x:=vl) rfl (aq (kF hos hds (x:=vu) rfl (aq (kF hos hds (x:= .none) rfl (aL ?_)))))))
 refine aq (slicePart_none ?_)
 show wpAny _ _ (if ((1:Int)==0)=true then _ else _) _ _ s
 rw [az (by decide)]
 refine aq (Et pl (aq (Et pu (aq (aL ?_)))))
 show wpAny _ _ (match Builtin.Slice.sliceAdjust lo hi 1 (n:Int) with|(lo,hi)=>pure (lo,(1:Int),Builtin.Slice.slicePlaces lo hi 1)) _ _ s
 rw [Rz lo hi n]
 show wpAny _ _ (pure (((dP n 0 lo:Nat):Int),(1:Int),Builtin.Slice.slicePlaces ((dP n 0 lo:Nat):Int) ((dP n n hi:Nat):Int) 1)) _ _ s
 rw [RA]
 exact aL h
theorem WD (xs:Array Value) (i k:Nat):((List.range k).filterMap fun (m:Nat)=>xs[((i:Int)+(m:Int)*1).toNat]?).toArray=((xs.toList.drop i).take k).toArray:=by
 have e:(fun (m:Nat)=>xs[((i:Int)+(m:Int)*1).toNat]?)=fun m=>xs[i+m]?:=by
  funext m
  have:((i:Int)+(m:Int)*1).toNat=i+m:=by omega
  rw [this]
 rw [e]
 have:=pick_run xs i k
 rw [List.filterMap_map] at this
 have e2:((fun x=>xs[x]?) ∘ fun x=>i+x)=fun m=>xs[i+m]?:=rfl
 rw [e2] at this
 rw [this]
theorem B_ {t sl:Addr} {items:Array Value} {vl vu:Value} {lo hi:Option Int} {Q:VS} (ht:IsTup s.heap t items) (hs:s.heap.IsSliceOf sl vl vu .none) (pl:IsPart vl lo) (pu:IsPart vu hi)
  (hw:¬ (dP items.size 0 lo=0/\dP items.size items.size hi=items.size))
  (h:Q (.ref s.heap.objs.size) { s with heap:=s.heap.push { cls:= .type "tuple",data:= .seq ((items.toList.drop (dP items.size 0 lo)).take (dP items.size items.size hi-dP items.size 0 lo)).toArray } })
  (hsz:items.size<=sizeLine):wpAny (model prog w) A (getItem (.ref t) (.ref sl)) Q E s:=by
 have KD:sizeOk (.seq ((items.toList.drop (dP items.size 0 lo)).take (dP items.size items.size hi-dP items.size 0 lo)).toArray):=by
  show ((items.toList.drop (dP items.size 0 lo)).take (dP items.size items.size hi-dP items.size 0 lo)).toArray.size<=sizeLine
  rw [iz,lu,K1,Array.length_toList]
  omega
 have hj:dP items.size items.size hi<=items.size:=TU _ _ (aS _) hi
 obtain ⟨os,hos,hcs,hds⟩:=id hs
 have hTs:s.TypeIs (.ref sl) "slice":=⟨os,hos,hcs⟩
 unfold getItem
 try with_reducible refine yF ?_
 first|refine aq (aL ?_)|skip
 refine aq (wpAny_sequenceKey ht.typeIs (by decide) ?_)
 refine aq (yv (name:=Str.ofString "__getitem__") ht.typeIs PyProof.Rows.slot_tuple_getitem
  (yz PyProof.Rows.slot_tuple_getitem ht.typeIs entry_tuple_getitem ?_ (args_tuple_getitem _ _)))
 show wpAny _ _ (Builtin.Tuple.tupleItemsOf (.ref t) >>= _) _ _ s
 refine aq (tupleItemsOf_ ht ?_)
 refine aq (wpAny_typeOf hTs ?_)
 rw [aB (by decide)]
 refine aq (C8 hs pl pu ?_)
 have hno:¬ ((((dP items.size 0 lo:Nat):Int)==0 && (1:Int)==1 && (dP items.size items.size hi-dP items.size 0 lo)==items.size)=true):=by
  intro q
  rw [GB,GB] at q
  have q1:((dP items.size 0 lo:Nat):Int)=0:=eq_of_beq q.1.1
  have q2:dP items.size items.size hi-dP items.size 0 lo=items.size:=eq_of_beq q.2
  exact hw ⟨by omega,by omega⟩
 show wpAny _ _ (if (((dP items.size 0 lo:Nat):Int)==0 && (1:Int)==1 && (dP items.size items.size hi-dP items.size 0 lo)==items.size)=true then _ else _) _ _ s
 rw [az hno,WD]
 first
  | exact aq (m:=Builtin.Tuple.tupleExact _) (qN (aL ⟨_,Z,aL h⟩) KD)
  | exact aq (m:=Builtin.Tuple.tupleExact _) (qN (aq (aL (aL ⟨_,Z,aL h⟩))) KD)
  | exact aq (aq (m:=Builtin.Tuple.tupleExact _) (qN (aL (aL ⟨_,Z,aL h⟩)) KD))
  | exact aq (aq (m:=Builtin.Tuple.tupleExact _) (qN (aL ⟨_,Z,aL h⟩) KD))
end
end HT
namespace L2
open PySem PySem.Spec PyProof.Rows
abbrev TO:=St->Hp->(Option Int->Hp->Prop)->Prop
def PO (X:Cx) (e:Option Expr) (t:TO):Prop:=
 ∀(pins:AO) (s:Shared) (σ:St) (H:Hp) (Q:Option Int->Hp->Prop),Inv X pins σ H s->t σ H Q->
  wpAny (model X.prog X.w) X.A (evalPart e X.env) (fun u s'=>∃o H',Inv X pins σ H' s'/\IsPart u o/\Q o H') X.xe s
def Zt:TO:=fun _ H Q=>Q none H
inductive abp (Q:Option Int->Hp->Prop) (x:V) (H1:Hp):Prop
 | mk  (i:_) (_:x = .int i) (_:Q (some i:_) H1)
def aen (t:TE):TO:=fun σ H Q=>t σ H (abp Q)
variable {ns:List Int}
theorem intsAre_of:∀{us:List Value},Vals (ns.map V.int) us->IntsAre us ns:=by
 induction ns with
 | nil=>intro us r;rw [List.map_nil] at r;cases r;exact .nil
 | cons n ns ih=>
   intro us r
   rw [bF] at r
   cases r with
   | cons r1 r2=>
     obtain ⟨t,e⟩:=r1
     subst e
     exact .cons n t (ih r2)
variable {xs:List V} {us:List Value}
section
variable {X:Cx} {e:Expr} {te:TE} {lo hi:Option Expr} {tl th:TO} {pos p2:Pos}
def TV (X:Cx) (r:V->Option Int->Option Int->Hp->VK->Prop):Prop:=
 ∀(pins:AO) (s:Shared) (σ:St) (H:Hp) (x:V) (v vl vu:Value) (lo hi:Option Int) (sl:Addr) (Q:VK),Inv X pins σ H s->RelV x v->s.heap.IsSliceOf sl vl vu .none->IsPart vl lo->IsPart vu hi->r x lo hi H Q->
  ∃T id,typeLookup (.type T) "__getitem__"=pure (some (.builtin id))/\s.TypeIs v T/\wpAny (model X.prog X.w) X.A (getItem v (.ref sl)) (EP X pins σ Q) X.xe s
def abq (r:V->Option Int->Option Int->Hp->VK->Prop) (Q:VK) (x:V) (l:Option Int):Option Int->Hp->Prop:=fun u H3=>r x l u H3 Q
def abr (r:V->Option Int->Option Int->Hp->VK->Prop) (th:TO) (σ:St) (Q:VK) (x:V):Option Int->Hp->Prop:=fun l H2=>th σ H2 (abq r Q x l)
def ahJ (r:V->Option Int->Option Int->Hp->VK->Prop) (tl:TO) (th:TO) (σ:St) (Q:VK):V->Hp->Prop:=fun x H1=>tl σ H1 (abr r th σ Q x)
def tSl (r:V->Option Int->Option Int->Hp->VK->Prop) (te:TE) (tl th:TO):TE:=fun σ H Q=>te σ H (ahJ r tl th σ Q)
def xr (xs:List V) (lo hi:Option Int):List V:=(xs.drop (HT.dP xs.length 0 lo)).take (HT.dP xs.length xs.length hi-HT.dP xs.length 0 lo)
theorem Oc (xs:List V) (lo hi:Option Int):(xr xs lo hi).length<=xs.length:=by
 unfold xr
 rw [lu,K1]
 omega
inductive abt (K:Fg) (x:V) (lo:Option Int) (hi:Option Int) (H:Hp) (Q:VK):Prop
 | mk  (a xs:_) (_:x = .ref a) (_:cJ K H a xs) (_:¬ (HT.dP xs.length 0 lo=0/\HT.dP xs.length xs.length hi=xs.length)) (_:∀p,H p=none->Q (.ref p) (upd H p (.tup (xr xs lo hi))))
theorem abu:TV X (abt X.K):=by
 intro pins s σ H x v vl vu lo hi sl Q I rx hs pl pu h
 obtain ⟨a,xs,rfl,hx,hw,q⟩:=h
 cases rx
 obtain ⟨its,r,ht,hz⟩:=I.tuple hx
 have hlen:its.toArray.size=xs.length:=by rw [iz];exact r.length.symm
 refine ⟨"tuple",_,PyProof.Rows.slot_tuple_getitem.lookup,ht.typeIs,?_⟩
 refine HT.B_ ht hs pl pu (by rw [hlen];exact hw) ?_ (by rw [hlen];exact hz)
 rw [hlen]
 refine ⟨.ref s.heap.objs.size,_,I.laid (t':=s.toks) (o:= .tup (xr xs lo hi)) (fun b ob q=>cD _ q) (aS _) ?_,Z,q _ (I.hok.fresh (aS _))⟩
 exact ⟨eX (Oc xs lo hi) hz,_,(r.drop (HT.dP xs.length 0 lo)).take (HT.dP xs.length xs.length hi-HT.dP xs.length 0 lo),IsTup.new _ _⟩
inductive aeo (K:Fg) (x:V) (y:V) (H:Hp) (Q:VK):Prop
 | mk  (a b xs ys:_) (_:x = .ref a) (_:y = .ref b) (_:cJ K H a xs) (_:cJ K H b ys) (_:xs≠[]) (_:xs.length+ys.length<=sizeLine) (_:(ys=[]->Q (.ref a) H)) (_:(ys≠[]->∀p,H p=none->Q (.ref p) (upd H p (.tup (xs++ys)))))
theorem Vals.BQ (r:Vals xs us):us=[]↔xs=[] :=by
 cases r with
 | nil=>simp
 | cons _ _=>simp
theorem Zu:gZ X (binaryOp .Add) (aeo X.K):=by
 intro pins s σ H x y v u Q I rx ry h
 obtain ⟨a,b,xs,ys,rfl,rfl,ha,hb,hx,hz,q1,q2⟩:=h
 cases rx
 cases ry
 obtain ⟨its,r1,p1,_⟩:=I.tuple ha
 obtain ⟨its2,r2,p2,_⟩:=I.tuple hb
 refine HT.Zs p1 p2 (fun z=>hx (r1.BQ.mp z)) (fun z=>⟨.ref a,H,I,Z,q1 (r2.BQ.mp z)⟩) (fun z=>?_) (by rw [<-r1.length,<-r2.length];exact hz)
 refine ⟨.ref s.heap.objs.size,_,I.laid (t':=s.toks) (o:= .tup (xs++ys)) (fun b ob q=>cD _ q) (aS _) ?_,Z,q2 (fun w=>z (r2.BQ.mpr w)) _ (I.hok.fresh (aS _))⟩
 exact ⟨by rw [cY];exact hz,_,r1.append r2,IsTup.new _ _⟩
end
def Cu (n:Nat) (i:Int):Option Nat:=if 0<=i then (if i<n then some i.toNat else none) else if -(n:Int)<=i then some (i+n).toNat else none
def lG {α:Type} (xs:List α) (i:Int):Option α:=(Cu xs.length i).bind fun j=>xs[j]?
variable {n j:Nat}
theorem PF {i:Int} (h:Cu n i=some j):seqIndex? i n=some j/\j<n/\-(n:Int)<=i/\i<n:=by
 unfold Cu at h
 by_cases h0:0<=i
 . rw [aB h0] at h
   by_cases h1:i<n
   . rw [aB h1] at h
     have e:i.toNat=j:=iG h
     exact ⟨by rw [seqIndex_of h0 h1,e],by omega,by omega,h1⟩
   . rw [az h1] at h;cases h
 . rw [az h0] at h
   by_cases h1:-(n:Int)<=i
   . rw [aB h1] at h
     have e:(i+n).toNat=j:=iG h
     exact ⟨by rw [seqIndex_neg (by omega) h1,e],by omega,h1,by omega⟩
   . rw [az h1] at h;cases h
theorem GG {α:Type} {xs:List α} {i:Int} {v:α} (h:lG xs i=some v):∃j,seqIndex? i xs.length=some j/\xs[j]?=some v/\j<xs.length/\-(xs.length:Int)<=i/\i<xs.length:=by
 unfold lG at h
 cases e:Cu xs.length i with
 | none=>rw [e] at h;cases h
 | some j=>
   rw [e] at h
   obtain ⟨h1,h2,h3,h4⟩:=PF e
   exact ⟨j,h1,h,h2,h3,h4⟩
theorem aP {α:Type} {xs:List α} {v:α} (h:xs[j]?=some v):lG xs (j:Int)=some v:=by
 have hj:j<xs.length:=(d7.mp h).1
 have e:Cu xs.length (j:Int)=some j:=by
  unfold Cu
  rw [aB (by omega),aB (by omega)];simp
 unfold lG;rw [e];exact h
def Zv (b:Expr):Prop:=∀o i,subscripted b false o i=operate [o,i] (getItem o i)
def zW (X:Cx) (r:R2):Prop:=
 ∀(value slice:Expr) (pins:AO) (s:Shared) (σ:St) (H:Hp) (x y:V) (v u:Value) (Q:VK),Inv X pins σ H s->RelV x v->RelV y u->r x y H Q->
  subscripted slice false v u=operate [v,u] (getItem v u)->wpAny (model X.prog X.w) X.A (subscriptTail value slice v u) (EP X pins σ Q) X.xe s
def MtR (X:Cx) (id:String) (r:V->List V->Hp->VK->Prop):Prop:=
 ∀(pins:AO) (s:Shared) (σ:St) (H:Hp) (x:V) (xs:List V) (v:Value) (us:List Value) (Q:VK),Inv X pins σ H s->RelV x v->Vals xs us->r x xs H Q->
  wpAny (model X.prog X.w) X.A (call (.builtin id) (v::us)) (EP X pins σ Q) X.xe s
variable {pins:AO} {σ:St} {H:Hp} {s:Shared} {ys:List V} {its its':List Value} {A:Around} {u:Value}
section
variable {X:Cx} {a b:Expr} {ta tb:TE} {pos:Pos}
theorem zW.or {r r':R2} (h:zW X r) (h':zW X r'):zW X (fun x y H Q=>r x y H Q\/r' x y H Q):=by
 intro value slice pins s σ H x y v u Q I rx ry q hs
 rcases q with q|q
 . exact h value slice pins s σ H x y v u Q I rx ry q hs
 . exact h' value slice pins s σ H x y v u Q I rx ry q hs
inductive WE (K:Fg) (x:V) (y:V) (H:Hp) (Q:VK):Prop
 | mk  (p xs i v:_) (_:x = .ref p) (_:y = .int i) (_:aC K H p xs) (_:lG xs i=some v) (_:Q v H)
inductive RB (K:Fg) (x:V) (y:V) (H:Hp) (Q:VK):Prop
 | mk  (p xs i v:_) (_:x = .ref p) (_:y = .int i) (_:cJ K H p xs) (_:lG xs i=some v) (_:Q v H)
inductive abv (x:V) (y:V) (H:Hp) (Q:VK):Prop
 | mk  (z i c:_) (_:x = .str z) (_:y = .int i) (_:z.length<=sizeLine) (_:lG z.cps.toList i=some c) (_:Q (.str ⟨#[c]⟩) H)
theorem PJ:zW X (WE X.K):=by
 intro value slice pins s σ H x y v u Q I rx ry h hs
 obtain ⟨p,xs,i,z,rfl,rfl,hq,he,q⟩:=h
 cases rx
 obtain ⟨t,rfl⟩:=ry
 obtain ⟨its,r,pl,hz⟩:=I.list hq
 obtain ⟨j,h1,h2,h3,h4,h5⟩:=GG he
 obtain ⟨w,ew,rw'⟩:=r.get h2
 have hl:=r.length
 have hn:=xZ
 have fin:EP X pins σ Q w s:=⟨z,H,I,rw',q⟩
 by_cases h0:0<=i
 . have hj:i.toNat=j:=by
    rw [seqIndex_of h0 h5] at h1
    exact iG h1
   exact item_listR pl.isList h0 (by omega) (by rw [hj];simpa using ew) fin hs
 . have hj:(i+(its.toArray.size:Int)).toNat=j:=by
    rw [seqIndex_neg (by omega) h4] at h1
    rw [iz,<-hl]
    exact iG h1
   exact subscriptTail_builtinR (x:=w) pl.isList.typeIs slot_list_getitem.lookup
    (wpAny_getItem_list_neg (Q:=fun r s'=>r=w/\EP X pins σ Q r s') pl.isList (by omega) (by rw [iz] <;> omega) (by omega) (by rw [hj];simpa using ew) ⟨Z,fin⟩) hs
theorem TY:zW X (RB X.K):=by
 intro value slice pins s σ H x y v u Q I rx ry h hs
 obtain ⟨p,xs,i,z,rfl,rfl,hq,he,q⟩:=h
 cases rx
 obtain ⟨t,rfl⟩:=ry
 obtain ⟨its,r,pl,hz⟩:=I.tuple hq
 obtain ⟨j,h1,h2,h3,h4,h5⟩:=GG he
 obtain ⟨w,ew,rw'⟩:=r.get h2
 have hl:=r.length
 have hn:=xZ
 have fin:EP X pins σ Q w s:=⟨z,H,I,rw',q⟩
 exact subscriptTail_builtinR (x:=w) pl.typeIs slot_tuple_getitem.lookup
  (getItem_tuple (j:=j) (Q:=fun r s'=>r=w/\EP X pins σ Q r s') pl (by omega) (by omega) (by rw [iz,<-hl];exact h1) (by simpa using ew) ⟨Z,fin⟩) hs
theorem TZ:zW X abv:=by
 intro value slice pins s σ H x y v u Q I rx ry h hs
 obtain ⟨z,i,c,rfl,rfl,hz,he,q⟩:=h
 obtain ⟨t,rfl⟩:=rx
 obtain ⟨t',rfl⟩:=ry
 obtain ⟨j,h1,h2,h3,h4,h5⟩:=GG he
 have hl:z.cps.toList.length=z.length:=by simp [Str.length]
 rw [hl] at h1 h4 h5
 have hn:=xZ
 exact tail_any (typeIs_str s z t) slot_str_getitem.lookup (getItem_str (c:=c) (by
  have e1:decide (i < -(2 ^ 63:Int))=false:=dO (by omega)
  have e2:decide (i≥2 ^ 63)=false:=dO (by omega)
  rw [e1,e2,Bool.or_false]) (by rw [h1];simpa using h2) ⟨.str ⟨#[c]⟩,H,I.tok _,⟨_,Z⟩,q⟩) hs
def rIx (K:Fg):R2:=fun x y H Q=>WE K x y H Q\/RB K x y H Q\/abv x y H Q
theorem abx:zW X (rIx X.K):=PJ.or (TY.or TZ)
theorem RC (its:List Value) (n j:Nat) (u:Value):Obj.mapSeq (·.setIfInBounds j u) { cls:= .type "list",data:= .seq its.toArray n }={ cls:= .type "list",data:= .seq (its.set j u).toArray n }:=by
 simp [Obj.mapSeq]
theorem Inv.lst {pins:AO} {σ:St} {H:Hp} {s:Shared} {p:Addr} {xs:List V} (I:Inv X pins σ H s) (h:H p=some (.lst xs)):
  ∃(its:List Value) (n:Nat),Vals xs its/\s.heap.get? p=some { cls:= .type "list",data:= .seq its.toArray n }/\xs.length<=sizeLine:=by
 obtain ⟨z,its,n,r,e⟩:=I.hok p _ h
 exact ⟨its,n,r,e,z⟩
theorem Inv.aby {p:Addr} {n':Nat} {f:Obj->Obj} (I:Inv X pins σ H s) (h:H p=some (.lst xs))
  (ho:s.heap.get? p=some { cls:= .type "list",data:= .seq its.toArray n }) (hf:f { cls:= .type "list",data:= .seq its.toArray n }={ cls:= .type "list",data:= .seq its'.toArray n' }) (r:Vals ys its') (hz:ys.length<=sizeLine) (t:Nat):
  Inv X pins σ (upd H p (.lst ys)) { s with heap:=s.heap.update p f,toks:=t }:=by
 have e:(s.heap.update p f).get? p=some { cls:= .type "list",data:= .seq its'.toArray n' }:=by
  rw [CV f ho (by rw [hf] <;> rfl),hf]
 refine I.write (x:=p) (e:=p) (by rw [h];trivial) (.inl rfl) (fun b u hb q=>(KQ _ _ (cy hb)).trans q) ⟨_,e⟩ ?_
 exact ⟨hz,its',n',r,e⟩
inductive aep (o:V) (i:V) (v:V) (H:Hp) (Q:Hp->Prop):Prop
 | mk  (p xs k j:_) (_:o = .ref p) (_:i = .int k) (_:H p=some (.lst xs)) (_:Cu xs.length k=some j) (_:Q (upd H p (.lst (xs.set j v))))
theorem set_list:aa2 X aep:=by
 intro pins s σ H o i v ov iv u Q I ro ri rv h
 obtain ⟨p,xs,k,j,rfl,rfl,hp,hj,q⟩:=h
 cases ro
 obtain ⟨t,rfl⟩:=ri
 obtain ⟨its,n,r,ho,hz⟩:=I.lst hp
 obtain ⟨h1,h2,h3,h4⟩:=PF hj
 have hl:=r.length
 have hn:=xZ
 have I':Inv X pins σ (upd H p (.lst (xs.set j v))) { s with heap:=s.heap.update p (Obj.mapSeq (·.setIfInBounds j u)) }:=
  I.aby hp ho (RC its n j u) (r.set rv j) (by rw [jN];exact hz) s.toks
 by_cases h0:0<=k
 . have hk:k.toNat=j:=by
    rw [seqIndex_of h0 h4] at h1
    exact iG h1
   exact PySem.W.ki_setAt ho h0 (by omega) (by rw [iz,<-hl];exact h4) (by rw [hk];exact ⟨_,I',q⟩)
 . have hk:(k+(its.toArray.size:Int)).toNat=j:=by
    rw [seqIndex_neg (by omega) h3] at h1
    rw [iz,<-hl]
    exact iG h1
   exact PySem.W.ki_setBack ho (by omega) (by rw [iz,<-hl];exact h3) (by omega) (by rw [hk];exact ⟨_,I',q⟩)
def rT:V->Bool
 | .cg=>true
 | .bl _=>true
 | .int _=>true
 | .str _=>true
 | _=>false
def zX:V->V->Bool
 | .cg, .cg=>true
 | .bl a, .bl b=>a==b
 | .bl a, .int b=>(if a then 1 else 0)==b
 | .int a, .bl b=>a==(if b then 1 else 0)
 | .int a, .int b=>a==b
 | .str a, .str b=>a==b
 | _,_=>false
theorem abz {y x:V} {v:Value} (ry:RelV y u) (rx:RelV x v) (fy:rT y=true) (fx:rT x=true):SeqAt.EqAt A s u v (zX y x):=by
 cases y with
 | cg=>
   cases ry
   cases x with
   | cg=>cases rx;exact SeqAt.EqAt.same _
   | bl b=>cases rx;exact SeqAt.EqAt.none_bool b
   | int b=>obtain ⟨t,rfl⟩:=rx;exact SeqAt.EqAt.none_int b t
   | str b=>obtain ⟨t,rfl⟩:=rx;exact SeqAt.EqAt.none_str b t
   | _=>exact absurd (show false=true from fx) fF
 | bl a=>
   cases ry
   cases x with
   | cg=>cases rx;exact SeqAt.EqAt.bool_none a
   | bl b=>cases rx;exact SeqAt.EqAt.bool_bool a b
   | int b=>obtain ⟨t,rfl⟩:=rx;exact SeqAt.EqAt.bool_int a b t
   | str b=>obtain ⟨t,rfl⟩:=rx;exact SeqAt.EqAt.bool_str a b t
   | _=>exact absurd (show false=true from fx) fF
 | int a=>
   obtain ⟨t',rfl⟩:=ry
   cases x with
   | cg=>cases rx;exact SeqAt.EqAt.int_none a t'
   | bl b=>cases rx;exact SeqAt.EqAt.int_bool a t' b
   | int b=>obtain ⟨t,rfl⟩:=rx;exact SeqAt.EqAt.int_int a t' b t
   | str b=>obtain ⟨t,rfl⟩:=rx;exact SeqAt.EqAt.int_str a t' b t
   | _=>exact absurd (show false=true from fx) fF
 | str a=>
   obtain ⟨t',rfl⟩:=ry
   cases x with
   | cg=>cases rx;exact SeqAt.EqAt.str_none a t'
   | bl b=>cases rx;exact SeqAt.EqAt.str_bool a t' b
   | int b=>obtain ⟨t,rfl⟩:=rx;exact SeqAt.EqAt.str_int a t' b t
   | str b=>obtain ⟨t,rfl⟩:=rx;exact SeqAt.EqAt.str_str a t' b t
   | _=>exact absurd (show false=true from fx) fF
 | _=>exact absurd (show false=true from fy) fF
def Eu (x:V) (u:Value):Bool:=match u with
 | .none=>zX .cg x
 | .bool b=>zX (.bl b) x
 | .int i _=>zX (.int i) x
 | .str z _=>zX (.str z) x
 | _=>false
theorem T3 {x y:V} (r:RelV y u) (f:rT y=true):Eu x u=zX y x:=by
 cases y with
 | cg=>cases r;rfl
 | bl b=>cases r;rfl
 | int i=>obtain ⟨t,rfl⟩:=r;rfl
 | str z=>obtain ⟨t,rfl⟩:=r;rfl
 | _=>exact absurd (show false=true from f) fF
theorem GH {x:V}:∀{xs:List V} {us:List Value},Vals xs us->xs.all rT=true->us.any (Eu x)=xs.any fun y=>zX y x
 | _,_, .nil,_=>rfl
 | y::xs,u::us, .cons r t,f=>by
   rw [List.all_cons,GB] at f
   rw [Ea,Ea,T3 r f.1,GH t f.2]
theorem C9 {A:Around} {s:Shared} {x:V} {v:Value} (rx:RelV x v) (fx:rT x=true):∀{xs:List V} {us:List Value},Vals xs us->xs.all rT=true->∀u∈us,SeqAt.EqAt A s u v (Eu x u)
 | _,_, .nil,_=>fun u hu=>by cases hu
 | y::xs,u::us, .cons r t,f=>fun u' hu=>by
   rw [List.all_cons,GB] at f
   rcases dg.mp hu with rfl|hu
   . rw [T3 r f.1];exact abz r rx f.1 fx
   . exact C9 rx fx t f.2 u' hu
def Lc (x:V) (xs:List V):Bool:=xs.any fun y=>zX y x
inductive rIn (K:Fg) (neg:Bool) (x:V) (y:V) (H:Hp) (Q:VK):Prop
 | mk  (p xs:_) (_:y = .ref p) (_:(aC K H p xs\/cJ K H p xs)) (_:rT x=true) (_:xs.all rT=true) (_:Q (.bl (if neg then !Lc x xs else Lc x xs)) H)
theorem IB:gZ X (compareOp .In) (rIn X.K false):=by
 intro pins s σ H x y v u Q I rx ry h
 obtain ⟨p,xs,rfl,hq,fx,fs,q⟩:=h
 cases ry
 rcases hq with hq|hq
 . obtain ⟨its,r,pl,hz⟩:=I.list hq
   refine SeqAt.in_listAt (Eu x) pl.isList (fun w hw=>C9 rx fx r fs w (by simpa using hw)) ⟨.bl _,H,I,Z,?_⟩
   rw [show its.toArray.any (Eu x)=its.any (Eu x) by simp,GH r fs]
   exact q
 . obtain ⟨its,r,pl,hz⟩:=I.tuple hq
   refine SeqAt.in_tupleAt (Eu x) pl (fun w hw=>C9 rx fx r fs w (by simpa using hw)) ⟨.bl _,H,I,Z,?_⟩
   rw [show its.toArray.any (Eu x)=its.any (Eu x) by simp,GH r fs]
   exact q
theorem Ld:gI X (.builtin "len") (fun xs H Q=>∃p ys,xs=[.ref p]/\(aC X.K H p ys\/cJ X.K H p ys)/\Q (.int ys.length) H):=by
 intro pins s σ H xs us Q I r h
 obtain ⟨p,ys,rfl,hq,q⟩:=h
 obtain ⟨u,rfl,rx⟩:=vals1 r
 cases rx
 have hn:=xZ
 rcases hq with hq|hq
 . obtain ⟨its,r',pl,hz⟩:=I.list hq
   have hlen:=r'.length
   exact Calls.call_len_list pl.isList (by simp only [iz] <;> omega) ⟨.int ys.length,H,I.tok _,⟨s.toks+1,by rw [iz,hlen]⟩,q⟩
 . obtain ⟨its,r',pl,hz⟩:=I.tuple hq
   have hlen:=r'.length
   exact len_tuple pl (by simp only [iz] <;> omega) ⟨.int ys.length,H,I.tok _,⟨s.toks+1,by rw [iz,hlen]⟩,q⟩
theorem uV:gI X (.builtin "len") (fun xs H Q=>∃z,xs=[.str z]/\z.length<=sizeLine/\Q (.int z.length) H):=by
 intro pins s σ H xs us Q I r h
 obtain ⟨z,rfl,hz,q⟩:=h
 obtain ⟨u,rfl,t,rfl⟩:=vals1 r
 have hn:=xZ
 exact len_str (by omega) ⟨.int z.length,H,I.tok _,⟨_,Z⟩,q⟩
theorem Le:gI X (.type "list") (fun xs H Q=>∃p ys,xs=[.ref p]/\(aC X.K H p ys\/cJ X.K H p ys)/\∀l,H l=none->Q (.ref l) (upd H l (.lst ys))):=by
 intro pins s σ H xs us Q I r h
 obtain ⟨p,ys,rfl,hq,q⟩:=h
 obtain ⟨u,rfl,rx⟩:=vals1 r
 cases rx
 have fin:∀(its:List Value),Vals ys its->ys.length<=sizeLine->∀(h':Heap) (c':Nat),(∀b o',s.heap.get? b=some o'->h'.get? b=some o')->
   h'.get? s.heap.objs.size=some { cls:= .type "list",dict:=none,data:= .seq its.toArray c',slots:=#[] }->EP X pins σ Q (.ref s.heap.objs.size) { s with heap:=h' }:=fun its r' hz h' c' kp e=>
  ⟨.ref s.heap.objs.size,_,I.laid (t':=s.toks) kp (aS _) (show dQ X.prog X.w _ h' _ (.lst ys) from ⟨hz,its,c',r',e⟩),Z,q _ (I.hok.fresh (aS _))⟩
 rcases hq with hq|hq
 . obtain ⟨its,r',pl,hz⟩:=I.list hq
   have hlen:=r'.length
   obtain ⟨o,ho,hc,n,hd⟩:=pl.isList
   exact call_list_seq p (.inl rfl) ho hc hd (fun h' c' kp e=>fin its r' hz h' c' kp e) (by simp only [iz] <;> omega)
 . obtain ⟨its,r',pl,hz⟩:=I.tuple hq
   have hlen:=r'.length
   obtain ⟨o,ho,hc,n,hd⟩:=pl
   exact call_list_seq p (.inr rfl) ho hc hd (fun h' c' kp e=>fin its r' hz h' c' kp e) (by simp only [iz] <;> omega)
def tyV (K:Fg) (T:String) (x:V) (H:Hp):Prop:=match x with
 | .str _=>T = "str"
 | .int _=>T = "int"
 | .ref p=>(T = "list"/\∃xs,aC K H p xs)\/(T = "tuple"/\∃o,K.lookup p=some o/\o.cls = .type "tuple"/\o.dict=none)\/
     (T = "dict"/\((∃kvs,H p=some (.dK kvs))\/∃kvs,H p=some (.dT kvs)))\/(T = "set"/\∃S n,H p=some (.set S n))
 | _=>False
theorem abA {T:String} {x:V} {v:Value} (I:Inv X pins σ H s) (r:RelV x v) (ty:tyV X.K T x H):
  s.TypeIs v T/\∀a,v = .ref a->∃ob,s.heap.get? a=some ob/\ob.dict=none:=by
 cases x with
 | str z=>
   obtain ⟨t,rfl⟩:=r
   cases (show T = "str" from ty)
   exact ⟨typeIs_str s z t,fun _ e=>nomatch e⟩
 | int i=>
   obtain ⟨t,rfl⟩:=r
   cases (show T = "int" from ty)
   exact ⟨typeIs_int s i t,fun _ e=>nomatch e⟩
 | ref p=>
   cases r
   rcases ty with ⟨rfl,xs,hq⟩|⟨rfl,o,hk,hc,hd⟩|⟨rfl,hk⟩|⟨rfl,S,n,hk⟩
   . obtain ⟨its,_,pl,_⟩:=I.list hq
     refine ⟨pl.isList.typeIs,fun a e=>?_⟩
     cases e
     obtain ⟨o,n,e,c,hd,_⟩:=pl
     exact ⟨o,e,hd⟩
   . refine ⟨⟨o,I.iP p o hk,hc⟩,fun a e=>?_⟩
     cases e
     exact ⟨o,I.iP _ o hk,hd⟩
   . have z:∃o,s.heap.get? p=some o/\o.ExactDict:=by
      rcases hk with ⟨kvs,hk⟩|⟨kvs,hk⟩
      . obtain ⟨_,_,_,_,o,_,_,e,ex,_⟩:=I.hok p _ hk
        exact ⟨o,e,ex⟩
      . obtain ⟨_,_,_,_,o,_,_,e,ex,_⟩:=I.hok p _ hk
        exact ⟨o,e,ex⟩
     obtain ⟨o,e,ex⟩:=z
     refine ⟨⟨o,e,ex.1⟩,fun a e2=>?_⟩
     cases e2
     exact ⟨o,e,ex.2.1⟩
   . obtain ⟨o,_,_,_,e,ex,_⟩:=I.hok p _ hk
     refine ⟨⟨o,e,ex.1⟩,fun a e2=>?_⟩
     cases e2
     exact ⟨o,e,ex.2.1⟩
 | _=>exact False.elim ty
def abB (r:V->List V->Hp->VK->Prop) (Q:VK) (x:V):List V->Hp->Prop:=fun xs H2=>r x xs H2 Q
inductive ahK (K:Fg) (T:String) (r:V->List V->Hp->VK->Prop) (t:TA) (σ:St) (Q:VK) (x:V) (H1:Hp):Prop
 | mk  (_:tyV K T x H1) (_:t σ H1 (abB r Q x))
def tBM (K:Fg) (T:String) (r:V->List V->Hp->VK->Prop) (to:TE) (t:TA):TE:=fun σ H Q=>to σ H (ahK K T r t σ Q)
variable {o e:Expr} {es:List Expr} {to:TE} {t:TA} {name:Str} {apos cpos:Pos} {T id:String} {r:V->List V->Hp->VK->Prop}
end
def MtM (X:Cx) (id:String) (r:V->List V->Hp->VK->Prop):Prop:=
 ∀(pins:AO) (s:Shared) (σ:St) (H:Hp) (x:V) (xs:List V) (v:Value) (us:List Value) (Q:VK),Inv X pins σ H s->RelV x v->Vals xs us->r x xs H Q->
  wpAny (model X.prog X.w) X.A (call (.builtin id) (v::us)) (EP X pins σ Q) X.xe s
theorem Vals.one:∀{x:V} {us:List Value},Vals [x] us->∃u,us=[u]/\RelV x u
 | _,_, .cons r .nil=>⟨_,Z,r⟩
theorem Vals.reverse (h:Vals xs us):Vals xs.reverse us.reverse:=by
 induction h with
 | nil=>exact .nil
 | cons r t ih=>rw [List.reverse_cons,List.reverse_cons];exact Vals.append ih (.cons r .nil)
theorem Vals.rep {xs:List V} {us:List Value} (h:Vals xs us):∀k:Nat,Vals (List.replicate k xs).flatten (List.replicate k us).flatten
 | 0=> .nil
 | k+1=>by
   rw [CW,CW,Rj,Rj]
   exact Vals.append h (Vals.rep h k)
theorem foldl_rep (its:List Value):∀(k:Nat) (acc:List Value),
  List.foldl (fun x1 x2=>x1++x2) acc.toArray (List.replicate k its.toArray)=(acc++(List.replicate k its).flatten).toArray
 | 0,acc=>by simp
 | k+1,acc=>by
   have e:acc.toArray++its.toArray=(acc++its).toArray:=by simp
   have e2:(acc++its)++(List.replicate k its).flatten=acc++(List.replicate (k+1) its).flatten:=by
    rw [CW,Rj,KY]
   rw [<-e2,<-foldl_rep its k (acc++its),<-e,CW,mG]
variable {t':Nat}
section
variable {X:Cx} {pins:AO} {σ:St} {H:Hp} {s:Shared} {l b:Addr} {xs ys zs:List V}
theorem Inv.ahL {f:Array Value->Array Value} (I:Inv X pins σ H s) (hH:H l=some (.lst xs))
  (e:s.heap.get? l=some { cls:= .type "list",data:= .seq its.toArray n }) (hf:f its.toArray=its'.toArray) (hv:Vals ys its') (hz:ys.length<=sizeLine):
  Inv X pins σ (upd H l (.lst ys)) { s with heap:=s.heap.update l (Obj.mapSeq f),toks:=t' }:=by
 have q:=PySem.IsL.update e f
 rw [hf] at q
 refine I.write (x:=l) (e:=l) (by rw [hH];exact trivial) (.inl rfl) (fun b' u hb hu=>(KQ s.heap (Obj.mapSeq f) (cy hb)).trans hu) ⟨_,q⟩ ?_
 exact ⟨hz,its',_,hv,q⟩
theorem Inv.abC (I:Inv X pins σ H s) (hv:Vals ys its) (hz:ys.length<=sizeLine):
  Inv X pins σ (upd H s.heap.objs.size (.lst ys)) { s with heap:=s.heap.push { cls:= .type "list",data:= .seq its.toArray },toks:=t' }:=
 I.laid (fun _ _ q=>cD _ q) (aS _) ⟨hz,its,0,hv,d_ _ rfl⟩
theorem Inv.fresh (I:Inv X pins σ H s):H s.heap.objs.size=none:=I.hok.fresh (aS _)
theorem Inv.RD (I:Inv X pins σ H s) (hH:H l=some (.lst xs)):xs.length<=sizeLine/\∃(its:List Value) (n:Nat),Vals xs its/\xs.length=its.length/\s.heap.get? l=some { cls:= .type "list",data:= .seq its.toArray n }:=by
 obtain ⟨z,its,n,r,e⟩:=I.hok l _ hH
 exact ⟨z,its,n,r,r.length,e⟩
theorem WG (h:n<=sizeLine):Builtin.List.listTooLong n=false:=by
 unfold Builtin.List.listTooLong
 exact dO (by omega)
end
section
variable {X:Cx}
inductive Zw (x:V) (vs:List V) (H:Hp) (Q:VK):Prop
 | mk  (l xs y:_) (_:x = .ref l) (_:vs=[y]) (_:H l=some (.lst xs)) (_:xs.length<sizeLine) (_:Q .cg (upd H l (.lst (xs++[y]))))
theorem fY:MtM X "list.append" Zw:=by
 intro pins s σ H x vs v us Q I rx rv h
 obtain ⟨l,xs,y,rfl,rfl,hH,hz,q⟩:=h
 cases rx
 obtain ⟨u,rfl,ru⟩:=rv.one
 obtain ⟨z,its,n,r,hl,e⟩:=I.RD hH
 refine call_meets F.slot_list_append ⟨_,e,Z⟩ F.entry_list_append (F.args_list_append_2 _ _) (PySem.list_append l its.toArray n u (by rw [iz];omega)) ⟨e,?_⟩
 refine ⟨.cg,_,I.ahL (its':=its++[u]) hH e (by simp) (r.append (.cons ru .nil)) ?_,Z,q⟩
 rw [cY,List.length_singleton]
 omega
inductive WH (x:V) (y:V) (H:Hp) (Q:VK):Prop
 | mk  (l b xs zs:_) (_:x = .ref l) (_:y = .ref b) (_:H l=some (.lst xs)) (_:H b=some (.lst zs)) (_:xs.length+zs.length<=sizeLine) (_:∀p,H p=none->Q (.ref p) (upd H p (.lst (xs++zs))))
theorem nE:gZ X (binaryOp .Add) WH:=by
 intro pins s σ H x y v u Q I rx ry h
 obtain ⟨l,b,xs,zs,rfl,rfl,hH,hB,hz,q⟩:=h
 cases rx
 cases ry
 obtain ⟨z,its,n,r,hl,e⟩:=I.RD hH
 obtain ⟨z2,its2,n2,r2,hl2,e2⟩:=I.RD hB
 refine PySem.P.add_list e e2 ?_ (by rw [iz,iz];omega)
 have ea:its.toArray++its2.toArray=(its++its2).toArray:=by simp
 rw [ea]
 exact ⟨.ref _,_,I.abC (t':=s.toks) (r.append r2) (by rw [cY];omega),Z,q _ I.fresh⟩
inductive ahM (x:V) (y:V) (H:Hp) (Q:VK):Prop
 | mk  (l k xs:_) (_:x = .ref l) (_:y = .int k) (_:H l=some (.lst xs)) (_:-(2 ^ 63)<=k) (_:k<2 ^ 63) (_:xs.length*k.toNat<=sizeLine) (_:∀p,H p=none->Q (.ref p) (upd H p (.lst (List.replicate k.toNat xs).flatten)))
theorem len_rep {α:Type} (xs:List α) (k:Nat):(List.replicate k xs).flatten.length=k*xs.length:=by
 induction k with
 | zero=>simp
 | succ k ih=>rw [CW,Rj,cY,ih,Nat.succ_mul,Nat.add_comm]
theorem abD:gZ X (binaryOp .Mult) ahM:=by
 intro pins s σ H x y v u Q I rx ry h
 obtain ⟨l,k,xs,rfl,rfl,hH,h1,h2,hz,q⟩:=h
 cases rx
 obtain ⟨t,rfl⟩:=ry
 obtain ⟨z,its,n,r,hl,e⟩:=I.RD hH
 have hlen:its.toArray.size*k.toNat<=sizeLine:=by rw [iz,<-hl];exact hz
 have hcap:¬ its.toArray.size*k.toNat>(2 ^ 63-1) / 8:=by
  have:(sizeLine:Nat)<=(2 ^ 63-1) / 8:=by decide
  omega
 have hfit:¬ (!Builtin.List.listFitsIndex k)=true:=by
  rw [fitsIndex_both h1 h2]
  exact fF
 have aeq:¬ Builtin.List.listTooLong (its.toArray.size*k.toNat)=true:=by
  rw [WG hlen]
  exact fF
 have hnew:List.foldl (fun x1 x2=>x1++x2) #[] (List.replicate (if its.toArray.isEmpty=true then 0 else k.toNat) its.toArray)=(List.replicate k.toNat its).flatten.toArray:=by
  have f0:∀m:Nat,List.foldl (fun x1 x2=>x1++x2) #[] (List.replicate m its.toArray)=(List.replicate m its).flatten.toArray:=fun m=>by
   have:=foldl_rep its m []
   rw [Kr] at this
   exact this
  rw [f0]
  cases its with
  | nil=>simp
  | cons a r'=>rw [az (by simp)]
 refine wpAny_binaryOp_repeat_ref (T:="list") (U:="int") (by decide) ⟨_,e,Z⟩ (fun s'=>typeIs_int s' k t) noFill_list_mul F.fills_int_mul F.slot_int_rmul repeat_list F.slot_int_index.lookup
  (call_meets F.slot_int_rmul (typeIs_int s k t) F.entry_int_rmul (F.args_int_rmul_2 _ _) (int___rmul___int_list k t l its.toArray n)
    ⟨e,Z,⟨_,e,Z⟩,call_meets F.slot_list_mul ⟨_,e,Z⟩ F.entry_list_mul (F.args_list_mul_2 _ _) (AutoListH.list___mul___list_int_3 l its.toArray n k t hfit hcap aeq) ⟨e,?_⟩⟩)
 rw [hnew]
 exact ⟨.ref _,_,I.abC (t':=s.toks) (r.rep k.toNat) (by rw [len_rep,Nat.mul_comm];exact hz),Z,q _ I.fresh⟩
end
section
variable {prog:Program} {w:World} {A:Around} {E:VS} {s:Shared}
set_option maxRecDepth 100000 in
end
section
variable {X:Cx}
end
section
variable {κ:Type} [DecidableEq κ]
def ef (kvs:List (κ×V)) (k:κ):Option V:=(kvs.find? fun kv=>decide (kv.1=k)).map (·.2)
def putK (kvs:List (κ×V)) (k:κ) (v:V):List (κ×V):=
 if (kvs.any fun kv=>decide (kv.1=k))=true then kvs.map (fun kv=>if kv.1=k then (kv.1,v) else kv) else kvs++[(k,v)]
def nN (kvs:List (κ×V)) (k:κ):List (κ×V):=kvs.filter fun kv=>decide (kv.1≠k)
theorem gk {p:κ×V} {r:List (κ×V)} {k:κ} (e:p.1=k):ef (p::r) k=some p.2:=by simp [ef,pH,e]
theorem eU {p:κ×V} {r:List (κ×V)} {k:κ} (e:¬ p.1=k):ef (p::r) k=ef r k:=by simp [ef,pH,e]
theorem qQ (k:κ):∀kvs:List (κ×V),(kvs.any fun kv=>decide (kv.1=k))=(ef kvs k).isSome
 | []=>rfl
 | p::r=>by
   rw [Ea]
   by_cases e:p.1=k
   . simp only [gk e,bM e,Bool.true_or,Option.isSome_some]
   . rw [eU e,dO e,Bool.false_or];exact qQ k r
theorem Lf (k j:κ) (y:V):∀kvs:List (κ×V),ef (kvs.map fun kv=>if kv.1=k then (kv.1,y) else kv) j=(ef kvs j).map fun x=>if j=k then y else x
 | []=>rfl
 | p::r=>by
   have ih:=Lf k j y r
   rw [bF]
   by_cases h:p.1=k
   . rw [aB h]
     by_cases e:p.1=j
     . rw [gk (p:=(p.1,y)) e,gk e,Ks,aB (e.symm.trans h)]
     . rw [eU (p:=(p.1,y)) e,eU e,ih]
   . rw [az h]
     by_cases e:p.1=j
     . rw [gk (p:=p) e,gk e,Ks,az (fun z=>h (e.trans z))]
     . rw [eU (p:=p) e,eU e,ih]
theorem IC (k j:κ) (y:V):∀kvs:List (κ×V),ef kvs k=none->ef (kvs++[(k,y)]) j=if j=k then some y else ef kvs j
 | [],_=>by
   by_cases e:k=j
   . rw [aB e.symm];exact gk (p:=(k,y)) e
   . rw [az (fun z=>e z.symm)];exact eU (p:=(k,y)) e
 | p::r,hn=>by
   rw [Kq]
   have hk:¬ p.1=k:=fun z=>by rw [gk z] at hn;cases hn
   rw [eU hk] at hn
   have ih:=IC k j y r hn
   by_cases e:p.1=j
   . rw [gk e,gk e,az (fun z=>hk (e.trans z))]
   . rw [eU e,eU e,ih]
theorem WI (kvs:List (κ×V)) (k j:κ) (y:V):ef (putK kvs k y) j=if j=k then some y else ef kvs j:=by
 unfold putK
 by_cases a:(kvs.any fun kv=>decide (kv.1=k))=true
 . rw [aB a,Lf]
   rw [qQ] at a
   by_cases e:j=k
   . obtain ⟨x,hx⟩:=Option.isSome_iff_exists.mp a
     rw [aB e,e,hx,Ks,aB rfl]
   . rw [az e]
     cases ef kvs j with
     | none=>rfl
     | some x=>rw [Ks,az e]
 . rw [az a]
   refine IC k j y kvs ?_
   rw [qQ] at a
   cases q:ef kvs k with
   | none=>rfl
   | some x=>rw [q] at a;exact (a rfl).elim
theorem xu (kvs:List (κ×V)) (k:κ) (v:V):(putK kvs k v).length<=kvs.length+1:=by
 unfold putK
 split
 . rw [aF];omega
 . rw [cY,m7,List.length_nil];omega
theorem oj {kvs:List (κ×V)} {k:κ} (v:V) (h:ef kvs k=none):putK kvs k v=kvs++[(k,v)] :=by
 unfold putK
 rw [qQ,h]
 exact az (by decide)
theorem m8.oV {o:Option V} {u:Option Value} (r:m8 o u):o.isSome=u.isSome:=by
 cases o with
 | none=>cases u with
   | none=>rfl
   | some _=>exact (show False from r).elim
 | some _=>cases u with
   | none=>exact (show False from r).elim
   | some _=>rfl
theorem KV.val {kvs:List (κ×V)} {vs:List (κ×Value)} (r:KV kvs vs) (k:κ):m8 (ef kvs k) (valueAt vs k):=by
 unfold KV at r
 induction r with
 | nil=>exact True.intro
 | @cons p q ps qs h t ih=>
   obtain ⟨h1,h2⟩:=h
   by_cases e:p.1=k
   . have e':q.1=k:=h1.symm.trans e
     have b:valueAt (q::qs) k=some q.2:=by simp [valueAt,pH,e']
     rw [gk e,b];exact h2
   . have e':¬ q.1=k:=fun z=>e (h1.trans z)
     have b:valueAt (q::qs) k=valueAt qs k:=by simp [valueAt,pH,e']
     rw [eU e,b];exact ih
theorem KV.any {kvs:List (κ×V)} {vs:List (κ×Value)} (r:KV kvs vs) (k:κ):(kvs.any fun kv=>decide (kv.1=k))=vs.any fun kv=>decide (kv.1=k):=by
 unfold KV at r
 induction r with
 | nil=>rfl
 | cons h t ih=>rw [Ea,Ea,ih,h.1]
theorem KV.repl {kvs:List (κ×V)} {vs:List (κ×Value)} (r:KV kvs vs) (k:κ) {y:V} (ry:RelV y u):
  KV (kvs.map fun kv=>if kv.1=k then (kv.1,y) else kv) (vs.map fun kv=>if kv.1=k then (kv.1,u) else kv):=by
 unfold KV at r ⊢
 induction r with
 | nil=>exact .nil
 | @cons p q ps qs h t ih=>
   rw [bF,bF]
   refine .cons ?_ ih
   obtain ⟨h1,h2⟩:=h
   by_cases e:p.1=k
   . rw [aB e,aB (h1.symm.trans e)];exact ⟨h1,ry⟩
   . rw [az e,az (fun z=>e (h1.trans z))];exact ⟨h1,h2⟩
theorem KV.put {kvs:List (κ×V)} {vs:List (κ×Value)} (r:KV kvs vs) (k:κ) {y:V} (ry:RelV y u):KV (putK kvs k y) (stored vs k u):=by
 unfold putK stored
 rw [r.any k]
 by_cases e:(vs.any fun kv=>decide (kv.1=k))=true
 . rw [aB e,aB e];exact r.repl k ry
 . rw [az e,az e];exact Paired.snoc r ⟨Z,ry⟩
theorem KV.drop {kvs:List (κ×V)} {vs:List (κ×Value)} (r:KV kvs vs) (k:κ):KV (nN kvs k) (without vs k):=by
 unfold KV at r ⊢
 unfold nN without
 induction r with
 | nil=>exact .nil
 | @cons p q ps qs h t ih=>
   obtain ⟨h1,h2⟩:=h
   rw [iF,iF]
   by_cases e:p.1=k
   . have a:¬ decide (p.1≠k)=true:=by simp [e]
     have b:¬ decide (q.1≠k)=true:=by simp [h1.symm.trans e]
     rw [az a,az b];exact ih
   . have e':¬ q.1=k:=fun z=>e (h1.trans z)
     have a:decide (p.1≠k)=true:=by simp [e]
     have b:decide (q.1≠k)=true:=by simp [e']
     rw [aB a,aB b];exact .cons ⟨h1,h2⟩ ih
theorem KV.length {kvs:List (κ×V)} {vs:List (κ×Value)} (r:KV kvs vs):kvs.length=vs.length:=Paired.length r
theorem WJ (kvs:List (κ×V)) (k:κ):(nN kvs k).length<=kvs.length:=Q7 _ _
end
variable {P:Program}
theorem yL {w:World} {k:Key} (r:RelV (kV k) u):(c9 P w).is k u=true:=by
 cases k with
 | inl i=>obtain ⟨t,e⟩:=(show ∃t,u=Value.int i t from r);subst e;exact Oa P w i t
 | inr x=>obtain ⟨t,e⟩:=(show ∃t,u=Value.str x t from r);subst e;exact Ob P w x t
theorem ID {P:Program} {w:World}:∀{ks:List Key} {us:List Value},Vals (ks.map kV) us->ItemsAre (c9 P w) ks us
 | [],_,r=>by rw [List.map_nil] at r;cases r;exact .nil
 | k::ks,_,r=>by
   rw [bF] at r
   cases r with
   | cons h t=>exact .cons (yL h) (ID t)
abbrev KT (H:Hp):List (List Key×V)->List (List Key×Addr×Value)->Prop:=Paired fun p q=>p.1=q.1/\H q.2.1=some (.tup (p.1.map kV))/\RelV p.2 q.2.2
theorem KT.val {kvs:List (List Key×V)} {xs:List (List Key×Addr×Value)} (r:KT H kvs xs) (k:List Key):m8 (ef kvs k) ((atKey xs k).map (·.2)):=by
 induction r with
 | nil=>exact True.intro
 | @cons p q ps qs h t ih=>
   obtain ⟨h1,_,h2⟩:=h
   by_cases e:p.1=k
   . have e':q.1=k:=h1.symm.trans e
     have b:atKey (q::qs) k=some q.2:=by simp [atKey,pH,e']
     rw [gk e,b];exact h2
   . have e':¬ q.1=k:=fun z=>e (h1.trans z)
     have b:atKey (q::qs) k=atKey qs k:=by simp [atKey,pH,e']
     rw [eU e,b];exact ih
theorem KT.repl {kvs:List (List Key×V)} {xs:List (List Key×Addr×Value)} (r:KT H kvs xs) (k:List Key) {y:V} (ry:RelV y u):
  KT H (kvs.map fun kv=>if kv.1=k then (kv.1,y) else kv) (xs.map (putAt k u)):=by
 induction r with
 | nil=>exact .nil
 | @cons p q ps qs h t ih=>
   rw [bF,bF]
   refine .cons ?_ ih
   obtain ⟨h1,h2,h3⟩:=h
   unfold putAt
   by_cases e:p.1=k
   . rw [aB e,aB (h1.symm.trans e)];exact ⟨h1,h2,ry⟩
   . rw [az e,az (fun z=>e (h1.trans z))];exact ⟨h1,h2,h3⟩
theorem KT.put {kvs:List (List Key×V)} {xs:List (List Key×Addr×Value)} (r:KT H kvs xs) (k:List Key) {b:Addr} {y:V} (hb:H b=some (.tup (k.map kV))) (ry:RelV y u):
  KT H (putK kvs k y) (storedH xs k b u):=by
 have e:(kvs.any fun kv=>decide (kv.1=k))=(atKey xs k).isSome:=by
  rw [qQ,(r.val k).oV,Option.isSome_map]
 unfold putK storedH
 rw [e]
 by_cases q:(atKey xs k).isSome=true
 . rw [aB q,aB q];exact r.repl k ry
 . rw [az q,az q];exact Paired.snoc r ⟨Z,hb,ry⟩
variable {H':Hp}
theorem KT.keeps {kvs:List (List Key×V)} {xs:List (List Key×Addr×Value)} (r:KT H kvs xs) (ht:∀b ys,H b=some (.tup ys)->H' b=some (.tup ys)):KT H' kvs xs:=
 Paired.Wn r fun _ _ z=>⟨z.1,ht _ _ z.2.1,z.2.2⟩
variable {kvs:List (Key×V)}
section
variable {P:Program} {w:World} {H:Hp} {h:Heap} {a:Addr}
theorem Yo {u:HO} (ok:gU P w H h) (e:Rd H a u):dQ P w H h a u:=e.ok ok
theorem rV (ok:gU P w H h) (e:Rd H a (.dK kvs)):kvs.length<=sizeLine/\(a==sysModules)=false/\∃vs,KV kvs vs/\h.DictOf (c9 P w) a vs:=
 show dQ P w H h a (.dK kvs) from Yo ok e
theorem Ew (ok:gU P w H h) (e:H a=some (.dK kvs)):kvs.length<=sizeLine/\(a==sysModules)=false/\∃vs,KV kvs vs/\h.DictOf (c9 P w) a vs:=rV ok (.inl e)
theorem Ar {ks:List Key} (ok:gU P w H h) (e:H a=some (.tup (ks.map kV))):(tupleKind (c9 P w)).is h ks a:=by
 obtain ⟨_,its,r,o,h1,h2,n,h3⟩:=(show dQ P w H h a (.tup (ks.map kV)) from ok a _ e)
 exact ⟨o,its.toArray,n,h1,h2,h3,by simpa using ID r⟩
theorem BR {kvs:List (List Key×V)} (ok:gU P w H h) (e:Rd H a (.dT kvs)):kvs.length<=sizeLine/\(a==sysModules)=false/\
  ∃xs,KT H kvs xs/\h.DictOfH (tupleKind (c9 P w)) a xs:=by
 obtain ⟨z,y,xs,r,o,es,ep,h1,h2,h3,h4,h5⟩:=(show dQ P w H h a (.dT kvs) from Yo ok e)
 refine ⟨z,y,xs,r,o,es,ep,h1,h2,h3,h4,fun x hx=>?_,h5⟩
 have all:∀{l:List (List Key×V)} {m:List (List Key×Addr×Value)},KT H l m->∀x∈m,(tupleKind (c9 P w)).is h x.1 x.2.1:=by
  intro l m q
  induction q with
  | nil=>intro x hx;exact nomatch hx
  | @cons p q ps qs hq t ih=>
    intro x hx
    rcases dg.mp hx with e|hx
    . subst e
      exact Ar ok (by rw [<-hq.1];exact hq.2.1)
    . exact ih x hx
 exact all r x hx
theorem aer {kvs:List (List Key×V)} (ok:gU P w H h) (e:H a=some (.dT kvs)):kvs.length<=sizeLine/\(a==sysModules)=false/\
  ∃xs,KT H kvs xs/\h.DictOfH (tupleKind (c9 P w)) a xs:=BR ok (.inl e)
end
def cN (H:Hp) (a:Addr) (y:V) (r:Option V):Prop:=
 (∃kvs k,Rd H a (.dK kvs)/\y=kV k/\r=ef kvs k)\/∃kvs k b,Rd H a (.dT kvs)/\y = .ref b/\H b=some (.tup (k.map kV))/\r=ef kvs k
def s_ (H:Hp) (a:Addr) (y v:V) (H':Hp):Prop:=
 (∃kvs k,H a=some (.dK kvs)/\y=kV k/\kvs.length<sizeLine/\H'=upd H a (.dK (putK kvs k v)))\/
 ∃kvs k b,H a=some (.dT kvs)/\y = .ref b/\H b=some (.tup (k.map kV))/\kvs.length<sizeLine/\H'=upd H a (.dT (putK kvs k v))
variable {a:Addr}
theorem cN.k {k:Key} (e:H a=some (.dK kvs)):cN H a (kV k) (ef kvs k):= .inl ⟨kvs,k, .inl e,Z,Z⟩
theorem s_.k {k:Key} {v:V} (e:H a=some (.dK kvs)) (hl:kvs.length<sizeLine):s_ H a (kV k) v (upd H a (.dK (putK kvs k v))):= .inl ⟨kvs,k,e,Z,hl,Z⟩
variable {h':Heap} {Q:Unit->Shared->Prop}
section
variable {X:Cx} {pins:AO} {σ:St} {H:Hp} {s:Shared} {a:Addr} {y v:V} {u r:Value} {o:Option V} {A:Around} {E:VS}
theorem Inv.big (I:Inv X pins σ H s):sysModules<s.heap.objs.size:=by
 have h:mainGlobals<s.heap.objs.size:=(I.mod.glob.keeps I.bk).lt
 exact Nat.lt_trans (by decide) h
theorem T4 {Q:VS} (hu:A.units+1<cLine) (I:Inv X pins σ H s) (g:cN H a y (some v)) (ry:RelV y u) (h:∀w' s',Inv X pins σ H s'->RelV v w'->Q w' s'):
  wpAny (model X.prog X.w) A (getItem (.ref a) u) Q E s:=by
 rcases g with ⟨kvs,k,e,ey,l⟩|⟨kvs,k,b,e,ey,eb,l⟩
 . subst ey
   obtain ⟨z,hd,vs,rel,dd⟩:=rV I.hok e
   obtain ⟨w',hw,rw'⟩:=m8.some_of (v:=v) (o:=valueAt vs k) (by rw [l];exact rel.val k)
   exact wpAny_getItem_of (yL ry) dd.mapOf hw (h w' _ (I.tok _) rw')
 . subst ey
   cases (show u=Value.ref b from ry)
   obtain ⟨z,hd,xs,rel,dd⟩:=BR I.hok e
   obtain ⟨w',hw,rw'⟩:=m8.some_of (v:=v) (o:=(atKey xs k).map (·.2)) (by rw [l];exact rel.val k)
   obtain ⟨p,hp,hp2⟩:=lS.mp hw
   refine wpAny_getItem_heap (Rg hu) (Ar I.hok eb) dd hp ?_
   rw [hp2]
   exact h w' _ (I.tok _) rw'
theorem ahN {Q:VS} (hu:A.units+1<cLine) (I:Inv X pins σ H s) (g:cN H a y o) (ry:RelV y u) (h:∀s',Inv X pins σ H s'->Q (.bool o.isSome) s'):
  wpAny (model X.prog X.w) A (compareOp .In u (.ref a)) Q E s:=by
 rcases g with ⟨kvs,k,e,ey,l⟩|⟨kvs,k,b,e,ey,eb,l⟩
 . subst ey
   obtain ⟨z,hd,vs,rel,dd⟩:=rV I.hok e
   refine wpAny_in_of (yL ry) hd dd.mapOf ?_
   rw [<-(rel.val k).oV,<-l]
   exact h _ (I.tok _)
 . subst ey
   cases (show u=Value.ref b from ry)
   obtain ⟨z,hd,xs,rel,dd⟩:=BR I.hok e
   refine wpAny_in_heap (Rg hu) (Ar I.hok eb) hd dd ?_
   have q:=(rel.val k).oV
   rw [Option.isSome_map] at q
   rw [<-q,<-l]
   exact h _ (I.tok _)
theorem Zx {Q:VS} (hu:A.units+1<cLine) (I:Inv X pins σ H s) (g:cN H a y o) (ry:RelV y u) (h:∀s',Inv X pins σ H s'->Q (.bool (!o.isSome)) s'):
  wpAny (model X.prog X.w) A (compareOp .NotIn u (.ref a)) Q E s:=by
 rcases g with ⟨kvs,k,e,ey,l⟩|⟨kvs,k,b,e,ey,eb,l⟩
 . subst ey
   obtain ⟨z,hd,vs,rel,dd⟩:=rV I.hok e
   refine wpAny_notIn_of (yL ry) hd dd.mapOf ?_
   rw [<-(rel.val k).oV,<-l]
   exact h _ (I.tok _)
 . subst ey
   cases (show u=Value.ref b from ry)
   obtain ⟨z,hd,xs,rel,dd⟩:=BR I.hok e
   refine wpAny_notIn_heap (Rg hu) (Ar I.hok eb) hd dd ?_
   have q:=(rel.val k).oV
   rw [Option.isSome_map] at q
   rw [<-q,<-l]
   exact h _ (I.tok _)
theorem BU (I:Inv X pins σ H s) (mu:Th (H a)) (hs:Heap.SameBut a s.heap h') (he:∃q,h'.get? a=some q) (new:dQ X.prog X.w (upd H a ob) h' a ob):
  Inv X pins σ (upd H a ob) { s with heap:=h',toks:=t' }:=
 I.write (x:=a) (e:=a) mu (.inl rfl) (fun b q hb z=>(hs.2 b hb).trans z) he new
theorem Lg {w:World} {vs:List (Key×Value)} (z:kvs.length<=sizeLine) (hd:(a==sysModules)=false) (rel:KV kvs vs) (dd:h'.DictOf (c9 P w) a vs):
  dQ P w H' h' a (.dK kvs):=⟨z,hd,vs,rel,dd⟩
theorem T5 (hu:A.units+1<cLine) (I:Inv X pins σ H s) (g:s_ H a y v H') (ry:RelV y u) (rv:RelV v r) (h:∀s',Inv X pins σ H' s'->Q () s'):
  wpAny (model X.prog X.w) A (setItem (.ref a) u r) Q E s:=by
 rcases g with ⟨kvs,k,e,ey,l,eH⟩|⟨kvs,k,b,e,ey,eb,l,eH⟩
 . subst ey eH
   obtain ⟨z,hd,vs,rel,dd⟩:=Ew I.hok e
   have hz:vs.length<=sizeLine:=by rw [<-rel.length];exact z
   have hl:(putK kvs k v).length<=sizeLine:=by have:=xu kvs k v;omega
   refine wpAny_setItem_pairs (hsz:=hz) (yL ry) dd fun h' Cv hs=>h _ ?_
   have he:∃q,h'.get? a=some q:=let ⟨q,_,_,hq,_⟩:=Cv;⟨q,hq⟩
   exact BU I (by rw [e];exact True.intro) hs he (Lg hl hd (rel.put k rv) Cv)
 . subst ey eH
   cases (show u=Value.ref b from ry)
   obtain ⟨z,hd,xs,rel,dd⟩:=aer I.hok e
   have hz:xs.length<=sizeLine:=by rw [<-Paired.length rel];exact z
   have hl:(putK kvs k v).length<=sizeLine:=by have:=xu kvs k v;omega
   refine wpAny_setItem_heap (hsz:=hz) (Rg hu) (Ar I.hok eb) dd fun h' Cv hs=>h _ ?_
   obtain ⟨q,es,ep,hq,h2,h3,h4,_,h5⟩:=Cv
   refine BU I (by rw [e];exact True.intro) hs ⟨q,hq⟩ ⟨hl,hd,_,(rel.put k eb rv).keeps fun c ys ec=>?_,q,es,ep,hq,h2,h3,h4,h5⟩
   rw [av (iZ ec e (fun z=>nomatch z))]
   exact ec
end
section
variable {X:Cx} {pins:AO} {σ:St} {H:Hp} {s:Shared} {a:Addr} {kvs:List (Key×V)} {k:Key} {u:Value} {A:Around} {E:VS}
theorem T6 (I:Inv X pins σ H s) (e:H a=some (.dK kvs)) (ry:RelV (kV k) u) (l:(ef kvs k).isSome=true) (h:∀s',Inv X pins σ (upd H a (.dK (nN kvs k))) s'->Q () s'):
  wpAny (model X.prog X.w) A (delItem (.ref a) u) Q E s:=by
 obtain ⟨z,hd,vs,rel,dd⟩:=Ew I.hok e
 refine wpAny_delItem_slot dd.typeIs (by decide) PySem.F.slot_dict_delitem
  (call_meetsIn PySem.F.slot_dict_delitem dd.typeIs PySem.F.entry_dict_delitem (PySem.F.args_dict_delitem_2 _ _) (meets_dict_delitem_pairs (c9 X.prog X.w) a (yL ry)) ⟨vs,dd,by rw [<-rel.length];exact z,by rw [<-(rel.val k).oV];exact l,fun h' Cv hs=>h _ ?_⟩)
 have he:∃q,h'.get? a=some q:=let ⟨q,_,_,hq,_⟩:=Cv;⟨q,hq⟩
 exact BU I (by rw [e];exact True.intro) hs he (Lg (eX (WJ kvs k) z) hd (rel.drop k) Cv)
theorem aes {Q:VS} (I:Inv X pins σ H s) (e:Rd H a (.dK kvs)) (h:∀t s',Inv X pins σ H s'->Q (.int kvs.length t) s'):wpAny (model X.prog X.w) A (call (.builtin "len") [.ref a]) Q E s:=by
 obtain ⟨z,hd,vs,rel,dd⟩:=rV I.hok e
 refine call_len_dict hd dd (by rw [<-rel.length];rw [fj] at z;omega) ?_
 rw [<-rel.length]
 exact h _ _ (I.tok _)
end
def abE (i:Expr):Prop:=∀ov iv,subscripted i false ov iv=operate [ov,iv] (getItem ov iv)
variable {env:Env} {value:Expr} {pos:Pos}
theorem Zy {prog:Program} {w:World} {E:VS} {slice:Expr} {T id:String} {Q:VS}
  (hl:typeLookup (.type T) "__getitem__"=pure (some (.builtin id))) (hs:abE slice)
  (h:wpAny (model prog w) A (eval value env) (fun o s₁=>wpAny (model prog w) A (eval slice env) (fun i s₂=>s₂.TypeIs o T/\wpAny (model prog w) A (getItem o i) Q E s₂) E s₁) E s):
  wpAny (model prog w) A (eval (.Subscript value slice pos) env) Q E s:=by
 refine Subscript_ (gY h (fun o s₁ h₁=>gY h₁ (fun i s₂ h₂=>?_) fun _ _ x=>x) fun _ _ x=>x)
 obtain ⟨hT,h₂⟩:=h₂
 unfold subscriptTail
 refine aq ?_
 rw [getitemInPython_of_ne hT.not_modules]
 refine aq (wpAny_specialOf hT hl ?_)
 have fin:wpAny (model prog w) A (subscripted slice false o i) (fun r s₃=>wpAny (model prog w) A (letTemporaryGo value o r >>= fun _=>pure r) Q E s₃) E s₂:=by
  rw [hs o i]
  exact wpAny_operating (gY h₂ (fun r s₃ h₃=>aq (wpAny_letTemporaryGo (aL h₃))) fun _ _ x=>x)
 first
  | exact aL (aq fin)
  | exact aq (aL (aq fin))
  | exact aq fin
variable {X:Cx}
theorem Od {y:V} {o:Option V} (I:Inv X pins σ H s) (g:cN H a y o):s.TypeIs (.ref a) "dict":=by
 rcases g with ⟨kvs,k,e,_,_⟩|⟨kvs,k,b,e,_,_,_⟩
 . obtain ⟨_,_,vs,_,dd⟩:=rV I.hok e
   exact dd.typeIs
 . obtain ⟨_,_,xs,_,dd⟩:=BR I.hok e
   exact dd.typeIs
inductive WK (Q:VK) (x:V) (y:V) (H2:Hp):Prop
 | mk  (a v:_) (_:x = .ref a) (_:cN H2 a y (some v)) (_:Q v H2)
def abF (ty:TE) (σ:St) (Q:VK):V->Hp->Prop:=fun x H1=>ty σ H1 (WK Q x)
def aet (td ty:TE):TE:=fun σ H Q=>td σ H (abF ty σ Q)
inductive Zz (Q:VK) (y:V) (x:V) (H2:Hp):Prop
 | mk  (a o:_) (_:x = .ref a) (_:cN H2 a y o) (_:Q (.bl o.isSome) H2)
def aeu (td:TE) (σ:St) (Q:VK):V->Hp->Prop:=fun y H1=>td σ H1 (Zz Q y)
def ahO (ty td:TE):TE:=fun σ H Q=>ty σ H (aeu td σ Q)
inductive RE (Q:VK) (y:V) (x:V) (H2:Hp):Prop
 | mk  (a o:_) (_:x = .ref a) (_:cN H2 a y o) (_:Q (.bl (!o.isSome)) H2)
def WL (td:TE) (σ:St) (Q:VK):V->Hp->Prop:=fun y H1=>td σ H1 (RE Q y)
def ZA (ty td:TE):TE:=fun σ H Q=>ty σ H (WL td σ Q)
inductive WM (D:Ends) (σ:St) (v:V) (x:V) (y:V) (H3:Hp):Prop
 | mk  (a H4:_) (_:x = .ref a) (_:s_ H3 a y v H4) (_:D.nx σ H4)
def WN (ty:TE) (D:Ends) (σ:St) (v:V):V->Hp->Prop:=fun x H2=>ty σ H2 (WM D σ v x)
def abG (td:TE) (ty:TE) (D:Ends) (σ:St):V->Hp->Prop:=fun v H1=>td σ H1 (WN ty D σ v)
def aev (td ty tv:TE):TS:=fun D σ H=>tv σ H (abG td ty D σ)
inductive WO (D:Ends) (σ:St) (x:V) (y:V) (H2:Hp):Prop
 | mk  (a kvs k:_) (_:x = .ref a) (_:H2 a=some (.dK kvs)) (_:y=kV k) (_:(ef kvs k).isSome=true) (_:D.nx σ (upd H2 a (.dK (nN kvs k))))
def abH (ty:TE) (D:Ends) (σ:St):V->Hp->Prop:=fun x H1=>ty σ H1 (WO D σ x)
def aew (td ty:TE):TS:=fun D σ H=>td σ H (abH ty D σ)
section
variable {X:Cx} {o i e value:Expr} {pos pos' tpos:Pos} {td ty tv:TE}
end
theorem Lh {w:World} (h:Heap) (hb:sysModules<h.objs.size):dQ P w H (h.push { cls:= .type "dict",data:= .dict #[] }) h.objs.size (.dK []):=
 ⟨fT _,Gs.mpr (cy (dS hb)),[], .nil,Heap.DictOf.new h⟩
def abI:TE:=fun _ H Q=>∀p,H p=none->Q (.ref p) (upd H p (.dK []))
section
variable {X:Cx} {pos:Pos}
end
def As:List (TE×TE)->St->Hp->(List (V×V)->Hp->Prop)->Prop
 | [],_,H,Q=>Q [] H
 | (tk,tv)::r,σ,H,Q=>tk σ H fun x H1=>tv σ H1 fun y H2=>As r σ H2 fun ps H3=>Q ((x,y)::ps) H3
abbrev VV:List (V×V)->List (Value×Value)->Prop:=Paired fun p q=>RelV p.1 q.1/\RelV p.2 q.2
def PPs (X:Cx) (pos:Pos) (keys:List (Option Expr)) (values:List Expr) (Ex:List (TE×TE)):Prop:=
 ∀(pins:AO) (s:Shared) (σ:St) (H:Hp) (Q:List (V×V)->Hp->Prop),Inv X pins σ H s->As Ex σ H Q->
  wpAny (model X.prog X.w) X.A (evalPairs (pairTrees keys values X.env pos)) (fun vs s'=>∃ps H',Inv X pins σ H' s'/\VV ps vs/\Q ps H') X.xe s
def x8 (kvs more:List (Key×V)):List (Key×V):=more.foldl (fun acc kv=>putK acc kv.1 kv.2) kvs
theorem KV.merge:∀{more:List (Key×V)} {rs:List (Key×Value)} {kvs:List (Key×V)} {vs:List (Key×Value)},KV more rs->KV kvs vs->KV (x8 kvs more) (merged vs rs):=by
 intro more rs kvs vs r
 unfold KV at r
 induction r generalizing kvs vs with
 | nil=>intro q;exact q
 | @cons p q ps qs h t ih=>
   intro r0
   have e:KV (putK kvs p.1 p.2) (stored vs q.1 q.2):=by
    have:=r0.put p.1 h.2
    rw [<-h.1];exact this
   exact ih e
theorem zY:∀(more kvs:List (Key×V)),(x8 kvs more).length<=kvs.length+more.length
 | [],kvs=>by show kvs.length<=kvs.length+0;omega
 | p::r,kvs=>by
   have h1:=zY r (putK kvs p.1 p.2)
   have h2:=xu kvs p.1 p.2
   show (x8 (putK kvs p.1 p.2) r).length<=_
   rw [m7];omega
theorem Ey {P:Program} {w:World}:∀{kvs:List (Key×V)} {ws:List (Value×Value)},VV (kvs.map fun kv=>(kV kv.1,kv.2)) ws->∃rs,Carries (c9 P w) ws rs/\KV kvs rs
 | [],_,r=>by rw [List.map_nil] at r;cases r;exact ⟨[],True.intro, .nil⟩
 | p::kvs,_,r=>by
   rw [bF] at r
   cases r with
   | @cons a b as bs h t=>
     obtain ⟨rs,c,q⟩:=Ey (P:=P) (w:=w) t
     obtain ⟨b1,b2⟩:=b
     exact ⟨(p.1,b2)::rs,⟨yL h.1,Z,c⟩, .cons ⟨Z,h.2⟩ q⟩
def aex (Ex:List (TE×TE)):TE:=fun σ H Q=>∀p,H p=none->As Ex σ (upd H p (.dK [])) fun ps H2=>H2 p=some (.dK [])/\∃kvs:List (Key×V),ps=kvs.map (fun kv=>(kV kv.1,kv.2))/\kvs.length<=15/\Q (.ref p) (upd H2 p (.dK (x8 [] kvs)))
def IsD (H:Hp) (a:Addr):Prop:=(∃kvs,Rd H a (.dK kvs))\/∃kvs,Rd H a (.dT kvs)
theorem Li (I:Inv X pins σ H s) (d:IsD H a):
  s.TypeIs (.ref a) "dict"/\(∀b,Value.ref a = .ref b->∃ob,s.heap.get? b=some ob/\ob.dict=none)/\(a==sysModules)=false:=by
 rcases d with ⟨kvs,e⟩|⟨kvs,e⟩
 . obtain ⟨_,hd,vs,_,dd⟩:=rV I.hok e
   refine ⟨dd.typeIs,fun b q=>?_,hd⟩
   cases q
   obtain ⟨ob,_,_,h1,h2,_⟩:=dd
   exact ⟨ob,h1,h2.2.1⟩
 . obtain ⟨_,hd,xs,_,dd⟩:=BR I.hok e
   refine ⟨dd.typeIs,fun b q=>?_,hd⟩
   cases q
   obtain ⟨ob,_,_,h1,h2,_⟩:=dd
   exact ⟨ob,h1,h2.2.1⟩
section
variable {X:Cx} {pins:AO} {σ:St} {H:Hp} {s:Shared} {a:Addr} {y d:V} {u r:Value} {o:Option V} {A:Around} {E:VS}
end
section
variable {X:Cx} {o e f:Expr} {apos cpos:Pos} {td ty tx:TE}
end
section
variable {X:Cx} {pins:AO} {σ:St} {H:Hp} {s:Shared} {a:Addr} {kvs:List (Key×V)} {A:Around} {E:VS}
end
section
variable {X:Cx} {pins:AO} {σ:St} {H:Hp} {s:Shared} {a:Addr} {y:V} {u:Value} {A:Around} {E:VS}
end
end L2
namespace Att
open PySem PySem.W PySem.Calls PyProof.Rows
theorem Ez {P:Params} {h:Heap}:∀(ns:List Int) (vs:List Value),WellAll P h vs (ns.map WData.int)->IntsAre vs ns:=by
 intro ns
 induction ns with
 | nil=>
   intro vs w
   rw [List.map_nil] at w
   cases w
   exact .nil
 | cons n ns ih=>
   intro vs w
   rw [bF] at w
   cases w with
   | cons a b=>
     cases a
     exact .cons _ _ (ih _ b)
theorem T7 {l:OpenLaw} {n:Nat} (hn:l.most=some n) {P:Params} {h:Heap} {args:List WData} {vals:List Value}
  (hpre:l.row.toRowW.claim.pre args=true) (hwl:WellAll P h vals args):
  ∃a vs ns,vals=[Value.ref a]/\args=[WData.list (ns.map WData.int)]/\h.get? a=some { cls:= .type "list",data:= .seq vs.toArray }/\IntsAre vs ns/\ns.length<=n:=by
 have hsh:WShape.hasAll [] args [.list .int]=true:=(pre_splitW hpre).1
 have hc:l.pre.holds [] { args:=args }=true:=(pre_splitW hpre).2
 obtain ⟨d,r,rfl,h1,h2⟩:=hasAllW_cons hsh
 obtain rfl:=hasAllW_nil h2
 obtain ⟨xs,rfl,h3⟩:=hasW_list h1
 obtain ⟨ns,rfl⟩:=items_int h3
 have hlen:ns.length<=n:=by
  unfold OpenLaw.pre at hc
  have h4:(WTm.not (.lt (.lit (.int (n:Int))) (.len (.arg 0)))).holds [] { args:=[.list (ns.map .int)] }=true:=by
   have h4:=(holds_andW hc).1
   rw [hn] at h4
   exact h4
  have h5:=condW_of h4 (w_not (w_lt w_lit (w_len_list (w_arg rfl))))
  rw [aF] at h5
  refine Nat.le_of_not_lt fun q=>?_
  have q':(n:Int)<((ns.length:Nat):Int):=by omega
  first
   | (rw [bM q'] at h5;exact absurd h5 (by decide))
   | (simp at h5;omega)
 cases hwl with
 | cons w1 w2=>
   cases w2
   cases w1 with
   | list ho hall=>exact ⟨_,_,ns,Z,Z,ho,Ez ns _ hall,hlen⟩
theorem T8 (l:OpenLaw) (args:List WData):l.row.toRowW.claim.post args (.bool true) args=true:=
 postW_of (r:=l.row.toRowW) (X:=(true==true))
  (show WShape.has [] (.bool true) .bool=true by first|rfl|decide|simp [WShape.has,WShape.arms,WShape.armsAll])
  (show (WTm.eq .res (.lit (.bool true))).value [] { args:=args,res:=some (.bool true),after:=args }=some (.bool (true==true)) from w_eq_bool (w_res rfl) w_lit) rfl
theorem Oe {l:OpenLaw} {n:Nat} {q:Program} {loose:List Str} {XP:(Str->Option Value)->Heap->Prop} {YP:World->Heap->Prop} {d:DefRec}
  (hn:l.most=some n) (hdf:d.params.defaults=[])
  (call:∀(w:World) (s₀ s₁:Shared) (mg mb:SO) (fa:Addr) (o:Obj) (pm cd doc:Value) (a:Addr) (vs:List Value) (ns:List Int),
    Ground q loose [] XP w s₀ mg mb s₁.heap->YP w s₁.heap->
    s₁.heap.get? fa=some o->o.data = .func (docDef d.name d.params d.body d.scope pm cd doc)->s₁.heap.CodeRec cd d.name->mg d.name=some (.ref fa)->
    s₁.heap.get? a=some { cls:= .type "list",data:= .seq vs.toArray }->IntsAre vs ns->ns.length<=n->s₁.gens=#[]->
    codeAny (model l.prog w) callerA (.call (.ref fa) ⟨[.ref a],[]⟩) (fun r s'=>r = .ok (.ret (.bool true))/\OldK s₁.heap s'.heap/\s'.os=s₁.os/\AllBare s'.gens) s₁):
  WalkO q loose XP YP l.row.toRowW d [] (fun f vs=>PySem.call f vs):=by
 intro w s₀ s₁ mg mb G Y fa o pm cd doc dV kV ho hd hcd hD hmg hg args vals as hpre hlay hrd hwl hlo
 obtain rfl:dV = .none:=Dflts.none hD hdf
 obtain rfl:kV = .none:=Dflts.noKw hD
 obtain ⟨a,vs,ns,rfl,rfl,hobj,hints,hlen⟩:=T7 hn hpre hwl
 refine enter_call (BI (call w s₀ s₁ mg mb fa o pm cd doc a vs ns G Y ho (fd_plain hd) hcd hmg hobj hints hlen hg) fun r s' hq=>?_)
 obtain ⟨rfl,h2,h3,h4⟩:=hq
 exact ⟨.inl ⟨.bool true, .bool true,[],Z,fun _=>rfl, .bool true,T8 l _,fun _=>⟨List.Pairwise.nil,fun _ hm=>(nomatch hm)⟩⟩,h2,h3,h4⟩
section
variable {prog:Program} {w:World} {A:Around} {E:VS} {s:Shared} {K:Frag}
end
end Att
namespace L2
open PySem PySem.Spec PyProof.Rows
theorem IE:∀{vs:List Value} {ns:List Int},IntsAre vs ns->Vals (ns.map V.int) vs
 | _,_, .nil=> .nil
 | _,_, .cons n t h=> .cons ⟨t,Z⟩ (IE h)
def WQ (H:Hp):Prop:=∀b,H b=none\/∃o xs,H b=some (.fE o (.lst xs))
variable {P:Program} {K:Fg} {mg:SO} {CX:zV} {a:Addr} {fd:FuncData} {x:Str} {sp:Sp} {ns:List Int}
theorem WR {w:World} {mb:SO} {k:Nat} {fa:Addr} {s₁:Shared} {vs:List Value}
  (KX:K.In s₁.heap) (hns:s₁.heap.Ns mainGlobals mg) (hb:s₁.heap.Ns builtinsNs mb) (hbb:∀x:Str,x ≠ "__name__"->mb x=bootBuiltins x) (hlim:s₁.heap.NoLimit) (hg:s₁.gens=#[])
  (ha:s₁.heap.get? a=some { cls:= .type "list",data:= .seq vs.toArray }) (hi:IntsAre vs ns) (hl:ns.length<=sizeLine) (hr:dI k callerA)
  (F:∀base:Heap,K.In base->base.Ns mainGlobals mg->iA P w K mg base CX k fa fd [x] sp) (hbind:∀(s:Shared) (u:Value),BindsTo s fd ⟨[u],[]⟩ [(x,u)])
  (pM:∀H:Hp,WQ H->aC K H a (ns.map V.int)->sp [.ref a] H (fun v _=>v = .bl true) fun _ _ _=>False)
  (hCX:∀H e s',CX [] H s₁ (fun _ _ _=>False) e s'->False):
  codeAny (model P w) callerA (.call (.ref fa) ⟨[.ref a],[]⟩) (fun r s'=>r = .ok (.ret (.bool true))/\OldK s₁.heap s'.heap/\s'.os=s₁.os/\AllBare s'.gens) s₁:=by
 have rv:=IE hi
 have ahP:=hi.length
 have core:∀H:Hp,WQ H->aC K H a (ns.map V.int)->gU P w H s₁.heap->(∀b,H b≠none->b=a)->(H a≠none->K.lookup a=none)->
   codeAny (model P w) callerA (.call (.ref fa) ⟨[.ref a],[]⟩) (fun r s'=>r = .ok (.ret (.bool true))/\OldK s₁.heap s'.heap/\s'.os=s₁.os/\AllBare s'.gens) s₁:=by
  intro H hO hS hok hA hK
  have PK:∀{b:Addr} {o:Obj},s₁.heap.get? b=some o->H b=none->(yJ s₁.heap H).get? b=some o:=fun e n=>Wo e n
  have TR:∀{b:Addr} {o:Obj} {es:Array DictEntry} {ep:Nat},s₁.heap.get? b=some o->o.data = .dict es ep->H b=none:=fun {b o es ep} e d=>by
   cases q:H b with
   | none=>rfl
   | some u=>
     have e':b=a:=hA b (by rw [q];simp)
     subst e'
     rw [ha] at e;cases e
     have d':Data.seq vs.toArray _=Data.dict es ep:=d
     cases d'
  have Yp:∀{b:Addr} {m:SO},s₁.heap.Ns b m->(yJ s₁.heap H).Ns b m:=fun {b m} ⟨o,es,ep,e,d,r⟩=>⟨o,es,ep,PK e (TR e d),d,r⟩
  have hKb:K.In (yJ s₁.heap H):=fun b o e=>PK (KX b o e) (by
   cases q:H b with
   | none=>rfl
   | some u=>
     have e':b=a:=hA b (by rw [q];simp)
     subst e'
     rw [hK (by rw [q];simp)] at e;cases e)
  have hM:Mod K mg (yJ s₁.heap H):=⟨hKb,Yp hns,⟨mb,Yp hb,hbb⟩,let ⟨mc,h1,h2⟩:=hlim;⟨mc,Yp h1,h2⟩⟩
  have e0:C6 P w K mg (yJ s₁.heap H) callerA [] s₁ H:=⟨Z,hM,fun b o e=>Zh e,Nat.le_of_eq (Ti _ _),trivial,fun b hb=>absurd (show b∈([] :List Addr) from hb) (by simp),hok, .of_eq hg⟩
  refine BI ((F _ hKb (Yp hns)).run callerA [] s₁ H ⟨[.ref a],[]⟩ [.ref a] [.ref a] _ _ hr e0 (hbind s₁ (.ref a)) (.cons rfl .nil) (pM H hO hS)) fun r s' h=>?_
  cases r with
  | error e=>exact (hCX H e s' h).elim
  | ok fl=>
    cases fl with
    | next=>exact False.elim h
    | brk=>exact False.elim h
    | cont=>exact False.elim h
    | ret u=>
      obtain ⟨v,H',os,bare,un,ahQ,r',q⟩:=h
      have q':v = .bl true:=q
      subst q'
      obtain rfl:u=Value.bool true:=r'
      refine ⟨Z,OldK.of_keep fun b o e=>?_,os,bare⟩
      cases q:H b with
      | none=>exact un.keep b o e q (by intro z;exact absurd (show b∈([] :List Addr) from z) (by simp)) (by simp)
      | some u=>
        rcases hO b with z|⟨ob,xs,z⟩
        . rw [q] at z;cases z
        . have z2:=un.m9 b ob _ z
          obtain ⟨e1,_⟩:=hok b _ z
          obtain ⟨e2,_⟩:=ahQ b _ z2
          rw [e] at e1;cases e1
          exact e2
 cases hk:K.lookup a with
 | some o=>
   have e:=KX a o hk
   rw [ha] at e
   cases e
   refine core (fun _=>none) (fun _=> .inl rfl) (.inr ⟨_,vs.toArray,_,hk,Z,Z,Z,by rw [iz,ahP];exact hl,by simpa using rv⟩) (fun b u z=>by have z':(none:Option HO)=some u:=z;cases z') (fun b z=>absurd rfl z) fun z=>absurd rfl z
 | none=>
   refine core (fun b=>if b=a then some (.fE { cls:= .type "list",data:= .seq vs.toArray } (.lst (ns.map V.int))) else none) (fun b=>?_) (.inl (.inr ⟨{ cls:= .type "list",data:= .seq vs.toArray },aB rfl⟩)) (fun b u z=>?_) (fun b z=>?_) fun _=>hk
   . by_cases hb:b=a
     . exact .inr ⟨_,_,aB hb⟩
     . exact .inl (az hb)
   . by_cases hb:b=a
     . have z':=(aB hb).symm.trans z
       cases z'
       subst hb
       exact ⟨ha,by rw [aF];exact hl,vs,_,rv,ha⟩
     . have z':=(az hb).symm.trans z
       cases z'
   . by_cases hb:b=a
     . exact hb
     . exact absurd (az hb) z
variable {n:Nat} {XP:(Str->Option Value)->Heap->Prop} {YP:World->Heap->Prop}
theorem ZC {l:PySem.W.OpenLaw} {k:Nat} {q:Program} {loose:List Str} {d:DefRec} {K:Params->Fg} {CX:World->zV} {sp:World->Sp}
  (hn:l.most=some n) (hn2:n<=sizeLine) (hdf:d.params.defaults=[]) (hr:dI k callerA)
  (hY:∀(w:World) (h:Heap),YP w h->(K w.params).In h)
  (F:∀(w:World) (mg:SO) (fa:Addr) (h:Heap),(K w.params).In h->h.Ns mainGlobals mg->mg d.name=some (.ref fa)->
    ∃fd:FuncData,(∀(s:Shared) (u:Value),BindsTo s fd ⟨[u],[]⟩ [(x,u)])/\
     ∀base:Heap,(K w.params).In base->base.Ns mainGlobals mg->iA l.prog w (K w.params) mg base (CX w) k fa fd [x] (sp w))
  (pM:∀(w:World) (H:Hp) (a:Addr) (ns:List Int),ns.length<=n->WQ H->aC (K w.params) H a (ns.map V.int)->sp w [.ref a] H (fun v _=>v = .bl true) fun _ _ _=>False)
  (hCX:∀(w:World) (H:Hp) (s:Shared) (e:Value) (s':Shared),CX w [] H s (fun _ _ _=>False) e s'->False):
  PySem.W.WalkO q loose XP YP l.row.toRowW d [] (fun f vs=>PySem.call f vs):=by
 refine Att.Oe hn hdf fun w s₀ s₁ mg mb fa o pm cd doc a vs ns G Y ho hd hcd hmg hobj hints hlen hg=>?_
 have KX:=hY w _ Y
 obtain ⟨fd,hb,hF⟩:=F w mg fa _ KX G.T.g hmg
 exact WR KX G.T.g G.T.b G.T.builtins G.T.nolimit hg hobj hints (eX hlen hn2) hr hF hb (fun H hO hS=>pM w H a ns hlen hO hS) fun H e s'=>hCX w H s₁ e s'
def inClass (s:Stmt) (j:Nat):Stmt:=match s with
 | .ClassDef _ _ _ body _ _ _ _ _ _ _=>body.getD j (.Pass ⟨0,0,0,0⟩)
 | _=> .Pass ⟨0,0,0,0⟩
def dY (s:Stmt):Arguments:=match s with
 | .FunctionDef _ a _ _ _ _ _ _ _ _=>a
 | _=>{ posonlyargs:=[],args:=[],vararg:=none,kwonlyargs:=[],kw_defaults:=[],kwarg:=none,defaults:=[] }
def cG (s:Stmt):List Stmt:=match s with
 | .FunctionDef _ _ b _ _ _ _ _ _ _=>b
 | _=>[]
def ay (s:Stmt):Scope:=match s with
 | .FunctionDef _ _ _ _ _ _ sc _ _ _=>sc
 | _=>{ kind:= .function,names:=[],isGenerator:=false,isCoroutine:=false }
abbrev ug:zV:=fun _ _ _ _ _ _=>False
abbrev E0:XK:=fun _ _ _=>False
structure IF (K:Fg) (x qual:Str) (st:Stmt) (f:Addr) (fd:FuncData):Prop where
 ex:∃(oc:Value) (od:Option Addr) (kV doc pm:Value) (an:Option Addr) (cdv ct:Value) (osl:Array (Option Value)),
  fd=PySem.W.fnOf x qual (dY st) (cG st) (ay st) .none kV doc pm an cdv ct/\K.lookup f=some ⟨oc,od, .func fd,osl⟩/\PySem.W.codeIn K cdv qual=true
 kp:PySem.W.keepIn K (.ref f)=true
variable {qual:Str} {f:Addr} {N ps:List Str} {oc doc pm cdv ct:Value} {od an:Option Addr} {osl:Array (Option Value)}
section
variable {P:Program} {w:World} {K:Fg} {mg:SO} {base:Heap}
theorem IF.ok {st:Stmt} {k:Nat} (F:IF K x qual st f fd) (S:aJ N ps (ay st)) (len:∀vs H Q E,sp vs H Q E->vs.length=ps.length)
  (hbody:∀(cdv:Value) (A:Around) (outer:List Env) (s:Shared) (H:Hp) (vs:List V) (Q:VK) (E:XK),dI k (A.deeper (envOfC qual (ay st) s.heap.objs.size f cdv))->sp vs H Q E->
    ∃t,qI (dz ug P w K mg base N qual (ay st) f cdv A outer s H E).Cr (cG st) t/\t { nx:=fun _ H'=>Q .cg H',rt:=Q } (start N vs) H):iA P w K mg base ug (k+1) f fd ps sp:=by
 obtain ⟨oc,od,kV,doc,pm,an,cdv,ct,osl,rfl,lk,hcd⟩:=F.ex
 refine Ry lk hcd S len fun A outer s H vs Q E hr pM=>?_
 obtain ⟨t,h,q⟩:=hbody cdv A outer s H vs Q E hr pM
 exact ⟨t,h.Cr,q⟩
theorem IF.binds {st:Stmt} (F:IF K x qual st f fd)
  (h:∀(kV doc pm:Value) (an:Option Addr) (cdv ct:Value) (us:List Value),us.length=ps.length->bindArgs (PySem.W.fnOf x qual (dY st) (cG st) (ay st) .none kV doc pm an cdv ct) ⟨us,[]⟩=pure (ps.zip us)):Binds K fd ps [] :=by
 obtain ⟨oc,od,kV,doc,pm,an,cdv,ct,osl,rfl,lk,hcd⟩:=F.ex
 exact .all (h kV doc pm an cdv ct)
theorem Lj {st:Stmt} {kV:Value} (l:K.lookup f=some ⟨oc,od, .func (PySem.W.fnOf x qual (dY st) (cG st) (ay st) .none kV doc pm an cdv ct),osl⟩)
  (c:PySem.W.codeIn K cdv qual=true) (k:PySem.W.keepIn K (.ref f)=true):IF K x qual st f (PySem.W.fnOf x qual (dY st) (cG st) (ay st) .none kV doc pm an cdv ct):=⟨⟨oc,od,kV,doc,pm,an,cdv,ct,osl,Z,l,c⟩,k⟩
end
variable {A:Around}
theorem bU {k:Nat} (hr:dI k A):A.units+1<cLine:=KS (Nat.add_le_add_left (by decide:1<=64) _) hr.units
theorem dW (h:n<=1000):n<sizeLine:=KS h (by decide)
section
variable {X:Cx}
end
theorem cM {A B:Prop} (h:B):if false=true then A else B:=by
 rw [az fF]
 exact h
theorem jX {A B:Prop} (h:A):if true=true then A else B:=by
 rw [aB rfl]
 exact h
theorem dm {c A B:Prop} [Decidable c] (h1:c->A) (h2:¬ c->B):if c then A else B:=by
 by_cases h:c
 . rw [aB h]
   exact h1 h
 . rw [az h]
   exact h2 h
def aI (H H':Hp):Prop:=∀b o,H b=some o->H' b=some o
theorem aI.refl (H:Hp):aI H H:=fun _ _ h=>h
variable {H H1 H2:Hp}
theorem aI.trans (a:aI H H1) (b:aI H1 H2):aI H H2:=fun c o h=>b c o (a c o h)
variable {H':Hp}
theorem aI.free (e:aI H H') {l:Addr} (h:H' l=Option.none):H l=Option.none:=by
 cases q:H l with
 | none=>rfl
 | some o=>
   rw [e l o q] at h
   cases h
variable {xs:List V}
theorem aI.seq (e:aI H H') (h:aC K H a xs):aC K H' a xs:=by
 rcases h with (h|⟨o,h⟩)|h
 . exact .inl (.inl (e _ _ h))
 . exact .inl (.inr ⟨o,e _ _ h⟩)
 . exact .inr h
section
variable {X:Cx}
theorem Au:gI X (.builtin "len") (fun xs H Q=>∃a kvs,xs=[V.ref a]/\H a=some (.dK kvs)/\Q (.int kvs.length) H):=by
 intro pins s σ H xs us Q I r h
 obtain ⟨a,kvs,rfl,ha,q⟩:=h
 obtain ⟨u,rfl,ru⟩:=vals1 r
 cases ru
 exact aes I (.inl ha) fun t s' I'=>⟨.int kvs.length,H,I',⟨t,Z⟩,q⟩
end
section
variable {κ:Type} [DecidableEq κ]
theorem WS {kvs:List (κ×V)} {k:κ} (h:ef kvs k=none):¬ k∈kvs.map (·.1):=by
 intro m
 obtain ⟨p,hp,e⟩:=bN.mp m
 have q:(kvs.any fun kv=>decide (kv.1=k))=true:=List.any_eq_true.mpr ⟨p,hp,bM e⟩
 rw [qQ,h] at q
 exact absurd q (by simp)
theorem mK:∀{l:List κ} {k:κ},l.Nodup->¬ k∈l->(l++[k]).Nodup
 | [],k,_,_=>by simp
 | a::r,k,h,hk=>by
   obtain ⟨h1,h2⟩:=gX.mp h
   show (a::(r++[k])).Nodup
   refine gX.mpr ⟨fun m=>?_,mK h2 fun m=>hk (dg.mpr (Or.inr m))⟩
   rcases eV.mp m with q|q
   . exact h1 q
   . exact hk (dg.mpr (Or.inl (ee.mp q).symm))
theorem ZD {kvs:List (κ×V)} {k:κ} (v:V) (hn:(kvs.map (·.1)).Nodup) (h:ef kvs k=none):((putK kvs k v).map (·.1)).Nodup:=by
 rw [oj v h,bD]
 exact mK hn (WS h)
end
end L2
set_option maxHeartbeats 4000000
namespace L2
open PySem PySem.Spec PyProof.Rows
variable {n:Nat} {K:Fg}
section
variable {X:Cx}
def BV (_ j:Int):Prop:=0<j/\j.natAbs.log2<9000
theorem gQ:gZ X (binaryOp .FloorDiv) (rI BV fun i j=> .int (i / j)):=Tq fun i j _ _ _ _ _ hc q=>by
 have h1:(0:Int)<j:=hc.1
 exact floordiv_int (by omega) (by rw [Int.fdiv_eq_ediv_of_nonneg i (by omega)];exact q) (.inl (PyProof.noPylong_of_log2 hc.2))
theorem Av {i j:Int} (h:(decide (0<j) && decide (j.natAbs.log2<9000))=true):BV i j:=by
 obtain ⟨a,b⟩:=lg.mp h
 exact ⟨dU a,dU b⟩
theorem WT {i j:Int} (h0:0<j) (h:j<2 ^ n) (hn:n<=9000):BV i j:=by
 refine ⟨h0,?_⟩
 have e:(j.natAbs:Int)=j:=by omega
 have h2:j.natAbs<2 ^ n:=by
  have:(j.natAbs:Int)<((2 ^ n:Nat):Int):=by rw [e];simpa using h
  exact Int.ofNat_lt.mp this
 have:=(Nat.log2_lt (n:=j.natAbs) (k:=n) (by omega)).mpr h2
 omega
def RG (i j:Int):Prop:=∃m n:Nat,i.natAbs<2 ^ m/\j.natAbs<2 ^ n/\m+n<=134217728
theorem jY:gZ X (binaryOp .Mult) (rI RG fun i j=> .int (i*j)):=Tq fun _ _ _ _ _ _ _ hc q=>by
 obtain ⟨m,n,h1,h2,h3⟩:=hc
 exact mul_int q (IntMulOk.of_le (Q_.mpr h1) (Q_.mpr h2) h3)
theorem Of:gI X (.builtin "isinstance") (fun xs H Q=>∃x n t b,xs=[x, .ty n]/\gH X.K H x t/\PySem.W.kitOne X.K t (.type n)=some b/\Q (.bl b) H):=by
 intro pins s σ H xs us Q I r h
 obtain ⟨x,n,t,b,rfl,ty,e,q⟩:=h
 obtain ⟨u,w',rfl,ru,rw'⟩:=vals2 r
 have rw2:w'=Value.type n:=rw'
 subst rw2
 exact TL I ru ty e fun tk=>⟨.bl b,H,I.tok _,Z,q⟩
theorem iB {n:String}:PySem.W.kitOne K (.type n) (.type n)=some true:=by
 unfold PySem.W.kitOne
 rw [aB (D5 _)]
theorem Lk:PySem.W.kitOne K (.type "int") (.type "bool")=some false:=by rfl
mutual
inductive Dt (K:Fg) (H:Hp):V->PyData->Prop
 | cg:Dt K H .cg .none
 | bl (b:Bool):Dt K H (.bl b) (.bool b)
 | int (i:Int):Dt K H (.int i) (.int i)
 | str (x:Str):Dt K H (.str x) (.str x)
 | lst {a:Addr} {xs:List V} {ds:List PyData}:aC K H a xs->x9 K H xs ds->Dt K H (.ref a) (.list ds)
 | tup {a:Addr} {xs:List V} {ds:List PyData}:cJ K H a xs->x9 K H xs ds->Dt K H (.ref a) (.tuple ds)
inductive x9 (K:Fg) (H:Hp):List V->List PyData->Prop
 | nil:x9 K H [] []
 | cons {x:V} {xs:List V} {d:PyData} {ds:List PyData}:Dt K H x d->x9 K H xs ds->x9 K H (x::xs) (d::ds)
end
section
variable {pins:AO} {σ:St} {H:Hp} {s:Shared}
mutual
theorem Dt.reads (I:Inv X pins σ H s):∀{x:V} {d:PyData} {u:Value},Dt X.K H x d->RelV x u->∃as,Reads s.heap u d as
 | _,_,u, .cg,r=>by cases (show u=Value.none from r);exact ⟨_, .none⟩
 | _,_,u, .bl b,r=>by cases (show u=Value.bool b from r);exact ⟨_, .bool b⟩
 | _,_,u, .int i,r=>by obtain ⟨t,rfl⟩:=(show ∃t,u=Value.int i t from r);exact ⟨_, .int i t⟩
 | _,_,u, .str x,r=>by obtain ⟨t,rfl⟩:=(show ∃t,u=Value.str x t from r);exact ⟨_, .str x t⟩
 | _,_,u,@Dt.lst _ _ a xs ds h hd,r=>by
   cases (show u=Value.ref a from r)
   obtain ⟨its,rv,⟨o,n,e,c,_,d⟩,hz⟩:=I.list h
   obtain ⟨as,ra⟩:=x9.reads I hd rv
   exact ⟨_, .list e c d (by simpa using ra)⟩
 | _,_,u,@Dt.tup _ _ a xs ds h hd,r=>by
   cases (show u=Value.ref a from r)
   obtain ⟨its,rv,⟨o,e,c,n,d⟩,hz⟩:=I.tuple h
   obtain ⟨as,ra⟩:=x9.reads I hd rv
   exact ⟨_, .tuple e c d (by simpa using ra)⟩
theorem x9.reads (I:Inv X pins σ H s):∀{xs:List V} {ds:List PyData} {us:List Value},x9 X.K H xs ds->Vals xs us->∃as,ReadsAll s.heap us ds as
 | _,_,_, .nil, .nil=>⟨_, .nil⟩
 | _,_,_, .cons h t, .cons r rs=>by
   obtain ⟨as,ra⟩:=Dt.reads I h r
   obtain ⟨bs,rb⟩:=x9.reads I t rs
   exact ⟨_, .cons ra rb⟩
end
end
inductive WU (K:Fg) (x:V) (y:V) (H:Hp) (Q:VK):Prop
 | mk  (d e:_) (_:Dt K H x d) (_:Dt K H y e) (_:SeqAt.shaped d=true) (_:SeqAt.shaped e=true) (_:Q (.bl (PyData.eqv d e)) H)
inductive abL (K:Fg) (x:V) (y:V) (H:Hp) (Q:VK):Prop
 | mk  (d e:_) (_:Dt K H x d) (_:Dt K H y e) (_:SeqAt.shaped d=true) (_:SeqAt.shaped e=true) (_:Q (.bl (!PyData.eqv d e)) H)
theorem abM (hu:X.A.units+64<cLine):gZ X (compareOp .Eq) (WU X.K):=by
 intro pins s σ H x y v u Q I rx ry h
 obtain ⟨d,e,hd,he,sd,se,q⟩:=h
 obtain ⟨as,ra⟩:=hd.reads I rx
 obtain ⟨bs,rb⟩:=he.reads I ry
 exact eq_dataH ra rb sd se hu ⟨.bl _,H,I,Z,q⟩
theorem abN (hu:X.A.units+64<cLine):gZ X (compareOp .NotEq) (abL X.K):=by
 intro pins s σ H x y v u Q I rx ry h
 obtain ⟨d,e,hd,he,sd,se,q⟩:=h
 obtain ⟨as,ra⟩:=hd.reads I rx
 obtain ⟨bs,rb⟩:=he.reads I ry
 exact ne_dataH ra rb sd se hu ⟨.bl _,H,I,Z,q⟩
structure Bx (p:Prop):Prop where
 ex:p
def bx (f:Sp):Sp:=fun vs H Q E=>Bx (f vs H Q E)
structure Dn (P:Program) (w:World) (K:Fg) (mg:SO) (base:Heap) (k:Nat) (x:Str) (ps:List Str) (sp:Sp):Prop where
 ex:∃f fd,iA P w K mg base ug k f fd ps sp/\Binds K fd ps []/\PySem.W.keepIn K (.ref f)=true/\mg x=some (.ref f)
end
structure At (K:Fg) (mg:SO) (x:Str) (st:Stmt) (f:Addr) (fd:FuncData):Prop where
 fn:IF K x x st f fd
 name:mg x=some (.ref f)
variable {P:Program} {mg:SO} {base:Heap} {x:Str} {f:Addr} {fd:FuncData} {N ps:List Str} {sp:Sp}
theorem At.ok {w:World} {st:Stmt} {k:Nat} (F:At K mg x st f fd) (S:aJ N ps (ay st)) (len:∀vs H Q E,sp vs H Q E->vs.length=ps.length)
  (hbody:∀(cdv:Value) (A:Around) (outer:List Env) (s:Shared) (H:Hp) (vs:List V) (Q:VK) (E:XK),dI k (A.deeper (envOfC x (ay st) s.heap.objs.size f cdv))->sp vs H Q E->
    ∃t,qI (dz ug P w K mg base N x (ay st) f cdv A outer s H E).Cr (cG st) t/\t { nx:=fun _ H'=>Q .cg H',rt:=Q } (start N vs) H)
  (h:∀(kV doc pm:Value) (an:Option Addr) (cdv ct:Value) (us:List Value),us.length=ps.length->bindArgs (PySem.W.fnOf x x (dY st) (cG st) (ay st) .none kV doc pm an cdv ct) ⟨us,[]⟩=pure (ps.zip us)):
  Dn P w K mg base (k+1) x ps sp:=⟨f,fd,F.fn.ok S len hbody,F.fn.binds h,F.fn.kp,F.name⟩
variable {h:Heap} {oc doc pm cdv ct:Value} {od an:Option Addr} {osl:Array (Option Value)}
theorem Yq {st:Stmt} {kV:Value} (X:K.In h) (G:h.Ns mainGlobals mg)
  (a:PySem.W.nsIn K mainGlobals x=some (some (.ref f))) (l:K.lookup f=some ⟨oc,od, .func (PySem.W.fnOf x x (dY st) (cG st) (ay st) .none kV doc pm an cdv ct),osl⟩)
  (c:PySem.W.codeIn K cdv x=true) (k:PySem.W.keepIn K (.ref f)=true):At K mg x st f (PySem.W.fnOf x x (dY st) (cG st) (ay st) .none kV doc pm an cdv ct):=⟨Lj l c k,kD X G a⟩
theorem aI.tup {H H':Hp} {K:Fg} {a:Addr} {xs:List V} (e:aI H H') (h:cJ K H a xs):cJ K H' a xs:=by
 rcases h with (h|⟨o,h⟩)|h
 . exact .inl (.inl (e _ _ h))
 . exact .inl (.inr ⟨o,e _ _ h⟩)
 . exact .inr h
variable {H:Hp}
theorem aA {p:Addr} (h:H p=none) (o:HO):aI H (upd H p o):=fun b u q=>by rw [av (aE q h)];exact q
theorem small (h:n<=1000):n<=sizeLine:=Ed (dW h)
end L2
namespace Jm
def cf (a b:Int):Int:=(Int.gcd a b:Int)
theorem PL (a:Int) (h:0<=a):cf a 0=a:=by
 unfold cf;rw [Int.gcd_zero_right];omega
theorem GI (a b:Int) (h:0<b):cf b (a % b)=cf a b:=by
 unfold cf
 rw [Int.emod_def,Int.gcd_sub_mul_left_right,Int.gcd_comm]
theorem EA (a b:Int) (h:0<a\/0<b):0<cf a b:=by
 unfold cf
 have:0<Int.gcd a b:=by
  rcases h with h|h
  . exact Int.gcd_pos_of_ne_zero_left _ (by omega)
  . exact Int.gcd_pos_of_ne_zero_right _ (by omega)
 omega
theorem PM (a b:Int):cf a b=cf b a:=by unfold cf;rw [Int.gcd_comm]
theorem abO (a b:Int):cf a (if b<0 then -b else b)=cf a b:=by
 unfold cf;split
 . rw [Int.gcd_neg]
 . rfl
abbrev fr (t b:Int):Rat:=Rat.divInt t b
theorem T9 (t b:Int) (h:0<b):(fr t b).num=t / cf b t:=by
 unfold fr cf
 rw [Rat.num_divInt,Int.sign_eq_one_of_pos h,Int.one_mul]
theorem Ll (t b:Int) (h:0<b):((fr t b).den:Int)=b / cf b t:=by
 unfold fr cf
 rw [Rat.den_divInt,az (by omega)]
 rw [Int.natCast_ediv];congr 1;omega
theorem rW (a b:Int):cf a b∣a:=Int.gcd_dvd_left ..
theorem pN (a b:Int):cf a b∣b:=Int.gcd_dvd_right ..
theorem den_pos (q:Rat):(0:Int)<q.den:=by have:=q.den_pos;omega
theorem ZE (q:Rat):fr q.num q.den=q:=Rat.num_divInt_den q
theorem Yr {t b t' b':Int} (h:0<b) (h':0<b') (e:t*b'=t'*b):fr t b=fr t' b':=
 (Rat.divInt_eq_divInt_iff (by omega) (by omega)).mpr e
theorem T_ {n d:Int} (h:0<d) (c:cf n d=1):(fr n d).num=n/\((fr n d).den:Int)=d:=by
 rw [T9 n d h,Ll n d h,PM,c,BJ,BJ];exact ⟨Z,Z⟩
theorem Ua (t b:Int) (h:0<b):((fr t b).den:Int)<=b:=by
 rw [Ll t b h]
 exact Int.ediv_le_self _ (yH h)
def Sz (n:Nat) (x:Int):Prop:=x.natAbs<2 ^ n
theorem Sz.mono {m n:Nat} {x:Int} (h:Sz m x) (hn:m<=n):Sz n x:=lq h (Nat.pow_le_pow_right (by decide) hn)
theorem Sz.of_le {n:Nat} {x y:Int} (h:Sz n y) (hx:x.natAbs<=y.natAbs):Sz n x:=KS hx h
theorem Sz.mul {m n:Nat} {x y:Int} (hx:Sz m x) (hy:Sz n y):Sz (m+n) (x*y):=by
 unfold Sz at *
 rw [D9,Nat.pow_add]
 exact Nat.mul_lt_mul'' hx hy
theorem Sz.add {m n:Nat} {x y:Int} (hx:Sz m x) (hy:Sz n y):Sz (max m n+1) (x+y):=by
 have h1:=hx.mono (Nat.le_max_left m n)
 have h2:=hy.mono (Nat.le_max_right m n)
 unfold Sz at *
 rw [Nat.pow_succ]
 omega
theorem Sz.ahR {n:Nat} {x y:Int} (hx:Sz n x) (hy:Sz n y):Sz (n+1) (x+y):=by
 have:=hx.add hy
 rwa [Nat.max_self] at this
theorem Sz.pO {n:Nat} {x B:Int} (h0:-B<=x) (h1:x<=B) (hB:Sz n B):Sz n x:=hB.of_le (by omega)
theorem Sz.ediv {n:Nat} {x y:Int} (h:Sz n x) (hy:0<y):Sz n (x / y):=by
 refine h.of_le ?_
 have e:=Int.emod_add_mul_ediv x y
 have m0:=nK x (b:=y) (by omega)
 have m1:=yy x hy
 rcases Ef x 0 with hx|hx
 . have q0:x / y<0:=Int.ediv_neg_of_neg_of_pos hx hy
   have z:y*(x / y)<=1*(x / y):=Int.mul_le_mul_of_nonpos_right (by omega) (by omega)
   rcases Ef (x / y) x with k|k
   . exfalso
     have z2:y*(x / y)<=y*(x-1):=Ij (by omega) (by omega)
     have z3:y*(x-1)<=1*(x-1)-(y-1):=by
      have z4:(y-1)*(x-1)<=(y-1)*(-2):=Ij (by omega) (by omega)
      have z5:y*(x-1)=(y-1)*(x-1)+(x-1):=by grind
      omega
     omega
   . omega
 . have q0:0<=x / y:=Int.ediv_nonneg hx (by omega)
   have:=Int.ediv_le_self y hx
   omega
theorem Sz.dvd {n:Nat} {x y:Int} (h:Sz n y) (hy:0<y) (hx:0<=x) (d:x∣y):Sz n x:=h.of_le (by have:=Int.le_of_dvd hy d;omega)
theorem Ub {n:Nat}:∀{ws:List Int},(∀m∈ws,Sz n m)->Sz (n+ws.length) ws.sum
 | [],_=>by unfold Sz;show 0<_;exact Nat.two_pow_pos _
 | x::r,h=>by
   have h1:=Ub (ws:=r) fun m hm=>h m (cL _ hm)
   have h2:=((h x cO).mono (D6 n r.length)).ahR h1
   rw [cX]
   exact h2.mono (by rw [m7];omega)
def EB (c:Int):Nat->Int
 | 0=>c
 | i+1=>EB c i / 10000000000
def cellOf (ns:List Int) (k:Int):Int:=if 0<(ns.length:Int) then ns.getD (k % ns.length).toNat 0 else 0
def Aw (ns:List Int) (k:Int):Int:=if 0<(ns.length:Int) then k / ns.length else 1
def mixed (c k j many:Int):Int:=
 let one:=(c*7919+k*104729+j*1299709+31) % 1000000007
 let two:=(one*48271+c / 1009) % 998244353
 let three:=(two*(one % 9973+1)+j) % 1000000009
 (one*69621+three*40692+three / 1013) % 2147483647 % many
def draw (ns:List Int) (k j many:Int):Int:=
 if Aw ns k=0/\1000000000000000000<=cellOf ns k/\0<EB (cellOf ns k) j.toNat then EB (cellOf ns k) j.toNat % 10000000000 % many
 else mixed (cellOf ns k) k j many
theorem ZF (ns:List Int) (k j many:Int) (h:0<many):0<=draw ns k j many:=by
 unfold draw;split
 . exact nK _ (by omega)
 . exact nK _ (by omega)
theorem ZG (ns:List Int) (k j many:Int) (h:0<many):draw ns k j many<many:=by
 unfold draw;split
 . exact yy _ h
 . exact yy _ h
end Jm
namespace L2
open PySem PySem.Spec PyProof.Rows
inductive aey (K:Fg) (vs:List V) (H:Hp) (Q:VK) (E:XK):Prop
 | mk (a:Addr) (ns:List Int) (k j many:Int) (_:vs=[.ref a, .int k, .int j, .int many]) (_:aC K H a (ns.map V.int)) (_:ns.length<=63) (_:0<=k) (_:0<=j) (_:j<2 ^ 62) (_:0<many) (_:Q (.int (Jm.draw ns k j many)) H)
def lU (K:Fg):Sp:=bx (aey K)
variable {K:Fg} {H:Hp} {E:XK} {a:Addr} {ns:List Int}
theorem cU {Q:VK} {k j many:Int} (hS:aC K H a (ns.map V.int)) (h63:ns.length<=63) (h1:0<=k) (h2:0<=j) (h3:j<2 ^ 62) (h4:0<many)
  (h:∀d:Int,d=Jm.draw ns k j many->0<=d->d<many->Q (.int d) H):lU K [.ref a, .int k, .int j, .int many] H Q E:=
 ⟨a,ns,k,j,many,Z,hS,h63,h1,h2,h3,h4,h _ rfl (Jm.ZF ns k j many h4) (Jm.ZG ns k j many h4)⟩
def WV:Sp:=fun vs H Q _=>∃a b:Int,vs=[.int a, .int b]/\0<=a/\0<=b/\Q (.int (Jm.cf a b)) H
abbrev pP (q:Rat):HO:= .tup [.int q.num, .int (q.den:Int)]
def EC:Sp:=fun vs H Q _=>∃i:Int,vs=[.int i]/\Q (.bl true) H
def KG (K:Fg):Sp:=fun vs H Q _=>∃(a:Addr) (ns:List Int),vs=[.ref a]/\aC K H a (ns.map V.int)/\ns.length<=63/\∀H',Q (.bl true) H'
section
variable {X:Cx} {pos:Pos}
def Ends.too (D:Ends) (J:St->Hp->Prop):Ends:={ D with nx:=J }
def aez (t u:TS) (D:Ends) (σ:St) (J:St->Hp->Prop):Bool->Hp->Prop:=fun b H1=>if b=true then t (D.too J) σ H1 else u (D.too J) σ H1
inductive abP (c:TT) (t u:TS) (D:Ends) (σ:St) (H:Hp):Prop
 | mk (J:St->Hp->Prop) (_:c σ H (aez t u D σ J)) (_:∀σ' H',J σ' H'->D.nx σ' H')
end
theorem uW {i j:Int} (h0:0<j) (h:Jm.Sz 9000 j):BV i j:=by
 refine ⟨h0,?_⟩
 exact (Nat.log2_lt (by omega)).mpr h
variable {m n:Nat}
theorem jj {i j:Int} (hi:Jm.Sz m i) (hj:Jm.Sz n j) (h:m+n<=134217728:=by decide):RG i j:=⟨m,n,hi,hj,h⟩
theorem pQ {x:Int} (h:decide (x.natAbs<2 ^ n)=true):Jm.Sz n x:=by
 unfold Jm.Sz
 exact dU h
theorem ZH {k:Int} (h0:0<=k) (h:k<(ns.length:Int)):lG (ns.map V.int) k=some (.int (ns.getD k.toNat 0)):=by
 have hk:k.toNat<ns.length:=by omega
 have ek:k=((k.toNat:Nat):Int):=by omega
 have q:lG (ns.map V.int) ((k.toNat:Nat):Int)=some (.int (ns.getD k.toNat 0)):=aP (by rw [bK,jf,a_ hk] <;> rfl)
 rw [<-ek] at q
 exact q
variable {elt iter:Expr} {scope:Scope} {pos:Pos} {env:Env}
section
variable {prog:Program} {w:World} {A:Around} {R:Result->Shared->Prop} {s:Shared}
theorem Lm {target:Expr} {it acc:Value} (J:Nat->Shared->Prop)
  (turn:∀n s,J n s->wpAny (model prog w) A (pyNext it) (fun r s₁=>match r with
    | none=>R (.ok .next) s₁
    | some v=>wpAny (model prog w) A (letOwnedTupleGo target it v) (fun _ s₂=>wpAny (model prog w) A (assign target env v) (fun _ s₃=>wpAny (model prog w) A (eval elt env) (fun x s₄=>
            wpAny (model prog w) A (call (.builtin "list.append") [acc,x]) (fun _ s₅=>∃m,m<n/\J m s₅) (fun _ _=>False) s₄) (fun _ _=>False) s₃) (fun _ _=>False) s₂) (fun _ _=>False) s₁) (fun _ _=>False) s)
  (n:Nat) (h:J n s):codeAny (model prog w) A (.compLoop (.ListComp elt [⟨target,iter,[],0⟩] scope pos) 0 it acc env) R s:=by
 refine codeAny_loop rfl J (fun n s hI=>?_) n h
 show wpAny _ A ((compTurn (.ListComp elt [⟨target,iter,[],0⟩] scope pos) 0 it acc env).onRaise (fun x=>do noteFrame x env;theTreesLotGoes x)) _ _ s
 refine wpAny_noted ?_
 rw [compTurn_list1]
 refine aq (BG (aq (gY (turn n s hI) (fun r s₁ h₁=>?_) fun _ _ h'=>h'.elim)))
 cases r with
 | none=>exact aL h₁
 | some v=>
   refine aq (gY h₁ (fun _ s₂ h₂=>aq (gY h₂ (fun _ s₃ h₃=>?_) fun _ _ h'=>h'.elim)) fun _ _ h'=>h'.elim)
   exact aq (aq (gY h₃ (fun x s₄ h₄=>aq (gY h₄ (fun _ s₅ h₅=>aL (aL ⟨Z,h₅⟩)) fun _ _ h'=>h'.elim)) fun _ _ h'=>h'.elim))
end
theorem uy (h:∀y∈scope.names,y.2 = .free->∃c,env.cells.lookup y.1=some c):
  ∃cl,closureFor scope env=pure cl/\(∀y c,(y,c)∈cl->env.cells.lookup y=some c/\(y,NameKind.free)∈scope.names)/\∀y,(y,NameKind.free)∈scope.names->∃c,(y,c)∈cl:=by
 have gen:∀(names:List (Str×NameKind)) (acc:List (Str×Addr)),(∀y∈names,y.2 = .free->∃c,env.cells.lookup y.1=some c)->
   ∃cl,(forIn names acc fun (x:Str×NameKind) (cs:List (Str×Addr))=>(if (x.2==NameKind.free)=true then do let a <-cellOf env x.1;pure (ForInStep.yield ((x.1,a)::cs)) else pure (ForInStep.yield cs):Sem _))=pure cl/\
    (∀y c,(y,c)∈cl->(env.cells.lookup y=some c/\(y,NameKind.free)∈names)\/(y,c)∈acc)/\(∀p∈acc,p∈cl)/\∀y,(y,NameKind.free)∈names->∃c,(y,c)∈cl:=by
  intro names
  induction names with
  | nil=>intro acc _;exact ⟨acc,by rw [D_],fun y c m=> .inr m,fun p hp=>hp,fun y m=>nomatch m⟩
  | cons x r ih=>
    intro acc hc
    obtain ⟨n,k⟩:=x
    by_cases hk:k = .free
    . subst hk
      obtain ⟨c,ec⟩:=hc (n, .free) cO rfl
      obtain ⟨cl,e,h1,h2,h3⟩:=ih ((n,c)::acc) fun y hy=>hc y (cL _ hy)
      refine ⟨cl,?_,fun y d m=>?_,fun p hp=>h2 p (cL _ hp),fun y m=>?_⟩
      . rw [Ku,<-e]
        have aeA:cellOf env n=pure c:=by unfold cellOf;rw [ec]
        simp only [D5,rS,aeA,pure_bind]
      . rcases h1 y d m with ⟨a,b⟩|b
        . exact .inl ⟨a,cL _ b⟩
        . rcases dg.mp b with z|z
          . cases z;exact .inl ⟨ec,cO⟩
          . exact .inr z
      . rcases dg.mp m with z|z
        . cases z;exact ⟨c,h2 _ cO⟩
        . exact h3 y z
    . obtain ⟨cl,e,h1,h2,h3⟩:=ih acc fun y hy=>hc y (cL _ hy)
      have hb:(k==NameKind.free)=false:=by simpa using hk
      refine ⟨cl,?_,fun y d m=>?_,h2,fun y m=>?_⟩
      . rw [Ku,<-e]
        simp only [hb,Gy,lF,pure_bind]
      . rcases h1 y d m with ⟨a,b⟩|b
        . exact .inl ⟨a,cL _ b⟩
        . exact .inr b
      . rcases dg.mp m with z|z
        . cases z;exact absurd rfl hk
        . exact h3 y z
 obtain ⟨cl,e,h1,_,h3⟩:=gen scope.names [] h
 refine ⟨cl,?_,fun y c m=>(h1 y c m).elim id (fun z=>nomatch z),h3⟩
 have e2:closureFor scope env=((forIn scope.names ([] :List (Str×Addr)) fun (x:Str×NameKind) (cs:List (Str×Addr))=>(if (x.2==NameKind.free)=true then do let a <-cellOf env x.1;pure (ForInStep.yield ((x.1,a)::cs)) else pure (ForInStep.yield cs):Sem _)) >>= fun r=>pure r):=rfl
 rw [e2,e]
 rfl
variable {y:Str}
theorem lookup_mem {α:Type} {l:List (Str×α)} {c:α} (h:(y,c)∈l):∃d,l.lookup y=some d:=by
 induction l with
 | nil=>cases h
 | cons p r ih=>
   obtain ⟨k,v⟩:=p
   rw [lE]
   cases hb:y==k with
   | true=>exact ⟨v,Z⟩
   | false=>
     rcases dg.mp h with z|z
     . cases z;simp at hb
     . exact ih z
theorem mL:∀(names:List (Str×NameKind)) (n:Nat) (acc:List (Str×Addr)) {x:Str} {c:Addr},(cellsFrom n names acc).lookup x=some c->n<=c\/acc.lookup x=some c
 | [],_,_,_,_,h=> .inr h
 | (name,kind)::r,n,acc,x,c,h=>by
   unfold cellsFrom at h
   split at h
   . rcases mL r (n+1) _ h with z|z
     . exact .inl (by omega)
     . rw [lE] at z
       cases hb:x==name with
       | true=>rw [hb] at z;cases z;exact .inl (aS _)
       | false=>rw [hb] at z;exact .inr z
   . exact mL r n acc h
theorem Jv:∀(names:List (Str×NameKind)) (n n0:Nat) (acc:List (Str×Addr)) {x:Str} {c:Addr},n0<=n->(∀d,acc.lookup x=some d->n0<=d)->(cellsFrom n names acc).lookup x=some c->n0<=c:=by
 intro names n n0 acc x c hn ha h
 rcases mL names n acc h with z|z
 . omega
 . exact ha c z
theorem tD:∀(names:List (Str×NameKind)) (n:Nat) (acc:List (Str×Addr)) {x:Str} {c:Addr},(x,NameKind.cell)∈names->(cellsFrom n names acc).lookup x=some c->n<=c
 | [],_,_,_,_,m,_=>nomatch m
 | (name,kind)::r,n,acc,x,c,m,h=>by
   unfold cellsFrom at h
   rcases dg.mp m with z|z
   . cases z
     rw [aB (by rfl)] at h
     refine Jv r (n+1) n _ (by omega) (fun d hd=>?_) h
     rw [lE,D5] at hd
     cases hd
     exact aS _
   . split at h
     . exact eX (Nat.le_succ _) (tD r (n+1) _ z h)
     . exact tD r n acc z h
theorem mO:∀(names:List (Str×NameKind)) (n:Nat) (acc:List (Str×Addr)) {x:Str},(∃c,acc.lookup x=some c)->∃c,(cellsFrom n names acc).lookup x=some c
 | [],_,_,_,h=>h
 | (name,kind)::r,n,acc,x,h=>by
   unfold cellsFrom
   split
   . refine mO r (n+1) _ ?_
     rw [lE]
     cases x==name with
     | true=>exact ⟨_,Z⟩
     | false=>exact h
   . exact mO r n acc h
theorem tE:∀(names:List (Str×NameKind)) (n:Nat) (acc:List (Str×Addr)) {x:Str},(x,NameKind.cell)∈names->∃c,(cellsFrom n names acc).lookup x=some c
 | [],_,_,_,m=>nomatch m
 | (name,kind)::r,n,acc,x,m=>by
   unfold cellsFrom
   rcases dg.mp m with z|z
   . cases z
     rw [aB (by rfl)]
     refine mO r (n+1) _ ⟨n,?_⟩
     rw [lE,D5]
   . split
     . exact tE r (n+1) _ z
     . exact tE r n acc z
theorem tF:∀(names:List (Str×NameKind)) (n:Nat) (acc:List (Str×Addr)) {x:Str},(x,NameKind.cell)∉names->(cellsFrom n names acc).lookup x=acc.lookup x
 | [],_,_,_,_=>rfl
 | (name,kind)::r,n,acc,x,m=>by
   have m2:(x,NameKind.cell)∉r:=fun z=>m (cL _ z)
   unfold cellsFrom
   split
   . rename_i hk
     rw [tF r (n+1) _ m2,lE]
     cases hb:x==name with
     | true=>
       have e1:=nM.mp hb
       have e2:kind=NameKind.cell:=by simpa using hk
       subst e1 e2
       exact absurd cO m
     | false=>rfl
   . exact tF r n acc m2
theorem tG:∀(names:List (Str×NameKind)) (n:Nat) (acc:List (Str×Addr)),(∀x y c,acc.lookup x=some c->acc.lookup y=some c->x=y)->(∀x c,acc.lookup x=some c->c<n)->
  ∀x y c,(cellsFrom n names acc).lookup x=some c->(cellsFrom n names acc).lookup y=some c->x=y
 | [],_,_,h,_=>h
 | (name,kind)::r,n,acc,h,hlt=>by
   intro x y c hx hy
   unfold cellsFrom at hx hy
   split at hx
   . rename_i hk
     rw [aB hk] at hy
     refine tG r (n+1) _ (fun x y c hx hy=>?_) (fun x c hx=>?_) x y c hx hy
     . rw [lE] at hx hy
       cases hb:x==name with
       | true=>
         cases hb2:y==name with
         | true=>rw [nM.mp hb,nM.mp hb2]
         | false=>
           rw [hb] at hx;rw [hb2] at hy
           cases hx
           exact absurd (hlt _ _ hy) (ju _)
       | false=>
         cases hb2:y==name with
         | true=>
           rw [hb] at hx;rw [hb2] at hy
           cases hy
           exact absurd (hlt _ _ hx) (ju _)
         | false=>
           rw [hb] at hx;rw [hb2] at hy
           exact h x y c hx hy
     . rw [lE] at hx
       cases hb:x==name with
       | true=>rw [hb] at hx;cases hx;exact Nat.lt_succ_self _
       | false=>rw [hb] at hx;exact Rk (hlt _ _ hx)
   . rename_i hk
     rw [az hk] at hy
     exact tG r n acc h hlt x y c hx hy
theorem xw:∀(names:List (Str×NameKind)) (h:Heap) (acc:List (Str×Addr)),(∀x c,acc.lookup x=some c->∃v,h.IsCell c v)->∀x c,(cellsFrom h.objs.size names acc).lookup x=some c->∃v,(pushCells h names).IsCell c v
 | [],_,_,ha=>ha
 | (name,kind)::r,h,acc,ha=>by
   intro x c hx
   unfold cellsFrom at hx
   unfold pushCells
   split at hx
   . rename_i hk
     rw [aB hk]
     have q:=xw r (h.push { cls:= .type "cell",data:= .cell none }) ((name,h.objs.size)::acc) (fun x c hx=>by
      rw [lE] at hx
      cases hb:x==name with
      | true=>rw [hb] at hx;cases hx;exact ⟨none,_,d_ _ rfl,Z⟩
      | false=>
        rw [hb] at hx
        obtain ⟨v,z⟩:=ha x c hx
        exact ⟨v,z.keeps fun b o e=>cD _ e⟩) x c
     rw [mH] at q
     exact q hx
   . rename_i hk
     rw [az hk]
     exact xw r h acc ha x c hx
def c6 (X:Cx) (N2:List Str) (scope:Scope) (cl:List (Str×Addr)) (s₂:Shared) (H₂:Hp) (fp:List Addr):Cx where
 prog:=X.prog
 w:=X.w
 K:=X.K
 mg:=X.mg
 base:=X.base
 A:=X.A
 N:=N2
 s₀:=s₂
 H₀:=H₂
 env:={ scope:=relabel scope X.env,locals:=s₂.heap.objs.size,globals:=X.env.globals,cells:=cellsFrom (s₂.heap.objs.size+1) scope.names cl,qual:=X.env.qual,func:=none,code:=X.env.code,frame:=X.env.frame,builtins:=X.env.builtins }
 outer:=X.stack
 stack:=X.stack
 ex:=fp
 fn:=fun x=>decide (scope.names.lookup x=some .cell)
 calm:=X.calm
 pn:=[]
 xe:=fun _ _=>False
def nF (XN:List Str) (xn sn:List (Str×NameKind)) (N2:List Str) (ix:List (Option Nat)):Bool:=
 (ix.length==N2.length) &&
 ((ix.zip N2).all fun p=>match p.1 with
   | none=>true
   | some j=>XN[j]?==some p.2 && sn.lookup p.2==some .free && (xn.lookup p.2==some .cell || xn.lookup p.2==some .free)) &&
 (sn.all fun y=>y.2 != .free || (xn.lookup y.1==some .cell || xn.lookup y.1==some .free)) &&
 (sn.all fun y=>y.2 != .local || sn.lookup y.1==some .local) &&
 (sn.all fun y=>y.2 != .free || sn.all fun z=>z.2 != .cell || z.1 != y.1)
variable {x:Str}
theorem Cw {k:NameKind} (h:(relabel scope env).names.lookup x=some k) (hk:k = .cell\/k = .free):(x,NameKind.cell)∈scope.names\/(x,NameKind.free)∈scope.names:=by
 have m:=yx h
 obtain ⟨y,hy,e⟩:=bN.mp m
 obtain ⟨n,k0⟩:=y
 dsimp only at e
 split at e
 . rename_i hc
   cases e
   have h1:k0=NameKind.free:=by
    have:=(lg.mp (lg.mp hc).1).1
    simpa using this
   subst h1
   exact .inr hy
 . cases e
   rcases hk with rfl|rfl
   . exact .inl hy
   . exact .inr hy
theorem Ln:∀{x:Str},scope.names.lookup x=some .free->(relabel scope env).names.lookup x=some .cell\/(relabel scope env).names.lookup x=some .free:=by
 intro x h
 have gen:∀(l:List (Str×NameKind)),l.lookup x=some .free->(l.map fun (n,k)=>if (k==NameKind.free && env.scope.kind == .function && env.kindOf n==some .cell) then (n,NameKind.cell) else (n,k)).lookup x=some .cell\/
   (l.map fun (n,k)=>if (k==NameKind.free && env.scope.kind == .function && env.kindOf n==some .cell) then (n,NameKind.cell) else (n,k)).lookup x=some .free:=by
  intro l
  induction l with
  | nil=>intro h;cases h
  | cons p r ih=>
    intro h
    obtain ⟨n,k⟩:=p
    rw [lE] at h
    rw [bF]
    dsimp only
    cases hb:x==n with
    | true=>
      rw [hb] at h
      cases h
      split
      . rw [lE,hb];exact .inl rfl
      . rw [lE,hb];exact .inr rfl
    | false=>
      rw [hb] at h
      split
      . rw [lE,hb];exact ih h
      . rw [lE,hb];exact ih h
 exact gen scope.names h
variable {X:Cx} {pins:AO} {σ σ2:St} {s:Shared} {N2:List Str} {cl:List (Str×Addr)} {fp:List Addr}
theorem ED (I:Inv X pins σ H s) (hk:scope.kind = .function)
  (Lo:∀y c,(y,c)∈cl->X.env.cells.lookup y=some c) (GJ:∀y,(y,NameKind.free)∈scope.names->∃c,(y,c)∈cl) (hfp:∀b∈fp,pK X pins H b) (hfo:∀b∈fp,b<s.heap.objs.size) (hl:σ2.length=N2.length)
  (hσ:∀(i:Nat) (x:Str) (v:V),N2[i]?=some x->σ2[i]?=some (some v)->scope.names.lookup x=some .free/\(X.env.kindOf x=some .cell\/X.env.kindOf x=some .free)/\∃j:Nat,X.N[j]?=some x/\σ[j]?=some (some v))
  (hd:∀x,(x,NameKind.free)∈scope.names->(x,NameKind.cell)∉scope.names):
  Inv (c6 X N2 scope cl s H fp) [] σ2 H { s with heap:=pushCells (s.heap.push { cls:= .type "dict",data:= .dict #[] }) scope.names }:=by
 have keeps:∀b o,s.heap.get? b=some o->(pushCells (s.heap.push { cls:= .type "dict",data:= .dict #[] }) scope.names).get? b=some o:=fun b o e=>Kv _ _ b o (cD _ e)
 have hsz:(s.heap.push { cls:= .type "dict",data:= .dict #[] }).objs.size=s.heap.objs.size+1:=mH ..
 have BW:∀x c,cl.lookup x=some c->X.env.cells.lookup x=some c:=fun x c e=>Lo x c (yx e)
 have clt:∀x c,cl.lookup x=some c->c<s.heap.objs.size:=fun x c e=>by
  obtain ⟨v,z⟩:=I.cell x c (BW x c e)
  exact z.lt
 have there:=xw scope.names (s.heap.push { cls:= .type "dict",data:= .dict #[] }) cl (fun x c e=>by
  obtain ⟨v,z⟩:=I.cell x c (BW x c e)
  exact ⟨v,z.keeps fun b o e=>cD _ e⟩)
 rw [hsz] at there
 have cells:∀x c,(cellsFrom (s.heap.objs.size+1) scope.names cl).lookup x=some c->s.heap.objs.size+1<=c\/X.env.cells.lookup x=some c:=fun x c e=>by
  rcases mL _ _ _ e with z|z
  . exact .inl z
  . exact .inr (BW x c z)
 have okY:(c6 X N2 scope cl s H fp).Ok:=by
  refine ⟨I.ok.mod,hk,I.ok.glob,I.ok.blt,aS _,?_,?_,?_,I.ok.hd,I.ok.frames, .inl rfl,?_,I.bs,eX I.ok.Eg I.sz,?_,?_,I.stack,I.xV⟩
  . exact tG _ _ _ (fun x y c hx hy=>I.ok.inj x y c (BW x c hx) (BW y c hy)) fun x c e=>Rk (clt x c e)
  . intro x hx
    have m:(x,NameKind.cell)∈scope.names\/(x,NameKind.free)∈scope.names:=by
     rcases hx with z|z
     . exact Cw z (.inl rfl)
     . exact Cw z (.inr rfl)
    rcases m with m|m
    . exact tE _ _ _ m
    . obtain ⟨c,mc⟩:=GJ x m
      exact mO _ _ _ (lookup_mem mc)
  . intro x c hf e
    have hf':scope.names.lookup x=some .cell:=dU hf
    exact eX (Nat.le_succ _) (tD _ _ _ (yx hf') e)
  . intro b hb
    refine ⟨dS (hfo b hb),fun x c e z=>?_⟩
    have hlt:=hfo b hb
    rcases cells x c e with k|k
    . exact absurd (lq hlt (eX (Nat.le_succ _) (z▸k))) (ju _)
    . exact (hfp b hb).2.2.2.2.1 x c k z
  . intro b o e hb
    rcases (hfp b hb).2.2.2.1 with z|z
    . exact I.ok.GC b o e z
    . exact absurd (lq (bQ (I.ok.bs b o e).1) z) (ju _)
  . intro b hb hbs
    rcases dg.mp (I.K4 b hbs) with z|z
    . exact (hfp b hb).2.1 z
    . exact (hfp b hb).2.2.1 z
 refine ⟨okY,Z,I.bare,Un.kept keeps,?_,there,I.hok.fresh (aS _),?_,(fun p hp=>nomatch hp),I.hok.kept keeps,hl⟩
 . refine ⟨fun _=>none,(Heap.Ns.new s.heap (.type "dict")).keeps (Kv _ _),fun i x v e1 e2 _=>?_⟩
   obtain ⟨hf,hx,j,j1,j2⟩:=hσ i x v e1 e2
   obtain ⟨m,_,hloc⟩:=I.loc
   have hv:Tj X.env.scope x:=hx.elim (fun z=> .inr (.inl z)) fun z=> .inr (.inr z)
   obtain ⟨u,r,lk⟩:=hloc j x v j1 j2 hv
   refine ⟨u,r, .inr ⟨Ln hf,?_⟩⟩
   rcases lk with ⟨k,_⟩|⟨_,c,ec,ic⟩
   . rcases hx with z|z <;> rw [z] at k <;> cases k
   . refine ⟨c,?_,ic.keeps keeps⟩
     have mf:=yx hf
     show (cellsFrom (s.heap.objs.size+1) scope.names cl).lookup x=some c
     rw [tF _ _ _ (hd x mf)]
     obtain ⟨c',mc⟩:=GJ x mf
     obtain ⟨d,ed⟩:=lookup_mem mc
     rw [ed]
     have:=BW x d ed
     rw [ec] at this
     exact this.symm
 . intro x c e
   rcases cells x c e with k|k
   . exact I.hok.fresh (by omega)
   . exact I.jP x c k
variable {tg:Expr} {g:TG} {te:TE}
section
variable {X:Cx}
def BX (J:It) (g:TG) (te:TE) (acc:Addr) (σ₀:St) (H:Hp) (Q:VK):Prop:=∃W:Nat->Nat->St->Hp->Prop,
 (∃m,W 0 m σ₀ (upd H acc (.lst [])))/\∀i m σ2 H2,W i m σ2 H2->
   (J.stop i H2/\Q (.ref acc) H2)\/(J.go i H2/\∃(S:St->Prop) (N:V->Hp->Prop),(∀σ3 v H4,S σ3->N v H4->∃xs,H4 acc=some (.lst xs)/\xs.length<sizeLine/\∃m',m'<m/\W (i+1) m' σ3 (upd H4 acc (.lst (xs++[v]))))/\∀x H',J.Ei i H2 x H'->g x σ2 H' fun σ3 H3=>S σ3/\te σ3 H3 N)
inductive uX (Pv:Nat->List V->Hp->Prop) (i:Nat) (acc:Addr) (out:List V) (v:V) (H4:Hp):Prop
 | mk (_:H4 acc=some (.lst out)) (_:Pv (i+1) (out++[v]) (upd H4 acc (.lst (out++[v]))))
def Ys (te:TE) (σ:St) (Pv:Nat->List V->Hp->Prop) (i:Nat) (acc:Addr) (out:List V):Bool->Hp->Prop:=fun b H2=>if b=true then te σ H2 (uX Pv i acc out) else H2 acc=some (.lst out)/\Pv (i+1) out H2
def pick (ix:List (Option Nat)) (σ:St):St:=ix.map fun o=>o.bind fun j=>(σ[j]?).join
def abQ (ix:List (Option Nat)) (g:TG) (te:TE) (σ:St) (Q:VK):It->Hp->Prop:=fun J H1=>∀acc,H1 acc=none->BX J g te acc (pick ix σ) H1 Q
def Yt (wi:TI) (ix:List (Option Nat)) (g:TG) (te:TE):TE:=fun σ H Q=>wi σ H (abQ ix g te σ Q)
theorem mP {XN:List Str} {xn sn:List (Str×NameKind)} {ix:List (Option Nat)} (h:nF XN xn sn N2 ix=true):
  ix.length=N2.length/\(∀(i:Nat) (x:Str) (j:Nat),N2[i]?=some x->ix[i]?=some (some j)->XN[j]?=some x/\sn.lookup x=some .free/\(xn.lookup x=some .cell\/xn.lookup x=some .free))/\
  (∀y∈sn,y.2 = .free->xn.lookup y.1=some .cell\/xn.lookup y.1=some .free)/\(∀y∈sn,y.2 = .local->sn.lookup y.1=some .local)/\∀x,(x,NameKind.free)∈sn->(x,NameKind.cell)∉sn:=by
 unfold nF at h
 obtain ⟨h,h5⟩:=lg.mp h
 obtain ⟨h,h4⟩:=lg.mp h
 obtain ⟨h,h3⟩:=lg.mp h
 obtain ⟨h1,h2⟩:=lg.mp h
 have e1:ix.length=N2.length:=by simpa using h1
 refine ⟨e1,fun i x j a b=>?_,fun y hy e=>?_,fun y hy e=>?_,fun x m1 m2=>?_⟩
 . have m:(some j,x)∈ix.zip N2:=by
    refine bJ (i:=i) ?_
    rw [List.getElem?_zip_eq_some]
    exact ⟨b,a⟩
   have q:=pF.mp h2 _ m
   dsimp only at q
   obtain ⟨q,q3⟩:=lg.mp q
   obtain ⟨q1,q2⟩:=lg.mp q
   exact ⟨by simpa using q1,by simpa using q2,(Gu.mp q3).imp (fun z=>by simpa using z) fun z=>by simpa using z⟩
 . have q:=pF.mp h3 y hy
   rcases Gu.mp q with z|z
   . rw [e] at z;simp at z
   . exact (Gu.mp z).imp (fun z=>by simpa using z) fun z=>by simpa using z
 . have q:=pF.mp h4 y hy
   rcases Gu.mp q with z|z
   . rw [e] at z;simp at z
   . simpa using z
 . have q:=pF.mp h5 _ m1
   rcases Gu.mp q with z|z
   . simp at z
   . have q2:=pF.mp z _ m2
     simp at q2
theorem EE {ix:List (Option Nat)} {E:VS} {Q:VK}
  {RR:Value->Addr->Result->Shared->Prop} (hc:X.calm=true) (hg:∀cl s₂ H₂ fp,PG (c6 X N2 scope cl s₂ H₂ fp) tg g) (he:∀cl s₂ H₂ fp,PE (c6 X N2 scope cl s₂ H₂ fp) elt te)
  (hk:scope.kind = .function) (hn:nF X.N X.env.scope.names scope.names N2 ix=true)
  (Lo:∀y c,(y,c)∈cl->X.env.cells.lookup y=some c) (GJ:∀y,(y,NameKind.free)∈scope.names->∃c,(y,c)∈cl)
  {it:Addr} {fp:List Addr} {tn:Nat->Heap->Prop} {J:It} (I:Inv X pins σ H s) (T:Turn X.prog X.w X.K tg J fp it tn) (st:tn 0 s.heap) (f:∀b∈fp,pK X pins H b)
  (h:∀acc,H acc=none->BX J g te acc (ix.map fun o=>o.bind fun j=>(σ[j]?).join) H Q)
  (hR:∀acc C H' s' m,Inv X pins σ H' s'->s'.heap.Ns C m->H' C=none->C≠X.env.locals->X.s₀.heap.objs.size<=C->(∀x c,X.env.cells.lookup x=some c->c≠C)->(∀p∈X.pn++pins,p.1≠C)->Q (.ref acc) H'->RR (.ref acc) C (.ok .next) s'):
  wpAny (model X.prog X.w) X.A (newList []) (fun acc s₃=>wpAny (model X.prog X.w) X.A (newFunctionEnv scope X.env.globals cl [] X.env.qual none .none (some X.env)) (fun cenv s₄=>
   codeAny (model X.prog X.w) X.A (.compStart (.ListComp elt [⟨tg,iter,[],0⟩] scope pos) 0 (.ref it) acc { cenv with scope:=relabel scope X.env }) (RR acc cenv.locals) s₄) E s₃) E s:=by
 obtain ⟨k1,k2,k3,k4,k5⟩:=mP hn
 refine qN ?_
 have I3:Inv X pins σ (upd H s.heap.objs.size (.lst [])) { s with heap:=s.heap.push { cls:= .type "list",data:= .seq ([] :List Value).toArray } }:=
  I.laid (a:=s.heap.objs.size) (o:= .lst []) (t':=s.toks) (fun _ _ q=>cD _ q) (aS _) ⟨fT _,[],_, .nil,d_ _ rfl⟩
 obtain ⟨W,⟨m0,w0⟩,turn⟩:=h s.heap.objs.size I.fresh
 have fo:∀b∈fp,b<s.heap.objs.size:=fun b hb=>by
  obtain ⟨o,e,_⟩:=T.obj 0 _ st b hb
  exact bQ e
 have st3:tn 0 (s.heap.push { cls:= .type "list",data:= .seq ([] :List Value).toArray }):=T.keep _ _ _ st fun b _ o e=>cD _ e
 have f3:∀b∈fp,pK X pins (upd H s.heap.objs.size (.lst [])) b:=fun b hb=>⟨by rw [av (dS (fo b hb))];exact (f b hb).1,(f b hb).2⟩
 have Uc:∀b∈fp,b<(s.heap.push { cls:= .type "list",data:= .seq ([] :List Value).toArray }).objs.size:=fun b hb=>by rw [mH];exact Rk (fo b hb)
 generalize es3:({ s with heap:=s.heap.push { cls:= .type "list",data:= .seq ([] :List Value).toArray } }:Shared)=s3 at *
 have eh3:s3.heap=s.heap.push { cls:= .type "list",data:= .seq ([] :List Value).toArray }:=by rw [<-es3]
 rw [<-eh3] at st3 Uc
 generalize s.heap.objs.size=acc at *
 generalize eH3:upd H acc (.lst [])=H3 at *
 have IY:=ED (N2:=N2) (scope:=scope) (cl:=cl) (fp:=fp) (σ2:=ix.map fun o=>o.bind fun j=>(σ[j]?).join) I3 hk Lo GJ f3 Uc (by rw [aF];exact k1) (fun i x v e1 e2=>by
  rw [bK] at e2
  cases ei:ix[i]? with
  | none=>rw [ei] at e2;cases e2
  | some o=>
    rw [ei] at e2
    cases o with
    | none=>cases e2
    | some j=>
      obtain ⟨a1,a2,a3⟩:=k2 i x j e1 ei
      refine ⟨a2,a3,j,a1,?_⟩
      have e3:(σ[j]?).join=some v:=iG e2
      cases ej:σ[j]? with
      | none=>rw [ej] at e3;cases e3
      | some z=>rw [ej] at e3;exact iw some e3) k5
 have ne:wpAny (model X.prog X.w) X.A (newFunctionEnv scope X.env.globals cl [] X.env.qual none .none (some X.env)) (fun cenv s₄=>
   cenv={ scope:=scope,locals:=s3.heap.objs.size,globals:=X.env.globals,cells:=cellsFrom (s3.heap.objs.size+1) scope.names cl,qual:=X.env.qual,func:=none,code:=X.env.code,frame:=X.env.frame,builtins:=X.env.builtins }/\
   s₄={ s3 with heap:=pushCells (s3.heap.push { cls:= .type "dict",data:= .dict #[] }) scope.names }) E s3:=by
  simp only [newFunctionEnv,Option.isSome_some,rS]
  refine aq (wpAny_alloc ?_)
  refine aq (wpAny_layCells _ (fun name kind cells=>by cases hkc:kind==NameKind.cell <;> simp [hkc]) _ _ _ _ ?_)
  rw [D_]
  refine aq (aL (aL ⟨?_,Z⟩))
  rw [show ({ s3 with heap:=s3.heap.push { cls:= .type "dict",data:= .dict #[] } }:Shared).heap.objs.size=s3.heap.objs.size+1 from mH ..]
 refine bq ne fun cenv s4 ⟨e1,e2⟩=>?_
 subst e1 e2
 have Ud:tn 0 (pushCells (s3.heap.push { cls:= .type "dict",data:= .dict #[] }) scope.names):=T.keep _ _ _ st3 fun b _ o e=>Kv _ _ b o (cD _ e)
 have Ax:s3.heap.objs.size≠X.env.locals:=yG I3.lt
 have uY:∀{H':Hp},(∀b∈fp,H' b=none)->∀b∈fp,pK (c6 X N2 scope cl s3 H3 fp) [] H' b:=fun {H'} hn b hb=>
  ⟨hn b hb,(IY.ok.K3 b hb).1,IY.ok.C0 b hb, .inl hb,(IY.ok.K3 b hb).2,fun p hp=>nomatch hp⟩
 have loop:codeAny (model X.prog X.w) X.A (.compLoop (.ListComp elt [⟨tg,iter,[],0⟩] scope pos) 0 (.ref it) (.ref acc) (c6 X N2 scope cl s3 H3 fp).env) (RR (.ref acc) s3.heap.objs.size)
   { s3 with heap:=pushCells (s3.heap.push { cls:= .type "dict",data:= .dict #[] }) scope.names }:=by
  refine Lm (fun n s'=>∃i σ' H',Inv (c6 X N2 scope cl s3 H3 fp) [] σ' H' s'/\tn i s'.heap/\(∀b∈fp,H' b=none)/\W i n σ' H') ?_ m0 ⟨0,_,H3,IY,Ud,fun b hb=>(f3 b hb).1,w0⟩
  rintro n s5 ⟨i,σ5,H5,I5,Ay,Lp,w5⟩
  rcases turn i n σ5 H5 w5 with ⟨stop,qn⟩|⟨go,S,N,hSN,step⟩
  . refine bq (T.done (c6 X N2 scope cl s3 H3 fp) rfl rfl rfl hc i [] s5 σ5 H5 (fun _ _=>False) I5 (uY Lp) Ay stop) fun r s6 ⟨hr,I6⟩=>?_
    subst hr
    obtain ⟨m6,ns6,_⟩:=id I6.loc
    have IX:Inv X pins σ H5 s6:=I3.Kz (ch:=fp) I6.os I6.base I6.hok I6.bare fun b hb=>⟨(f3 b hb).2.2.2.1,(f3 b hb).2.1,(f3 b hb).2.2.2.2.1,(f3 b hb).2.2.2.2.2⟩
    refine hR acc s3.heap.objs.size H5 s6 m6 IX ns6 I6.free Ax I3.sz (fun x c e z=>?_) (fun p hp z=>?_) qn
    . obtain ⟨v,q⟩:=I3.cell x c e
      exact absurd q.lt (by rw [z];exact ju _)
    . exact absurd (bQ (I3.pin p hp).1) (by rw [z];exact ju _)
  . refine bq (T.item (c6 X N2 scope cl s3 H3 fp) rfl rfl rfl hc i [] s5 σ5 H5 (fun _ _=>False) I5 (uY Lp) Ay go) fun r s6 ⟨u,hr,h6⟩=>?_
    subst hr
    refine bq h6 fun _ s7 ⟨x,H7,I7,r7,y7,EF,Ue⟩=>?_
    have I7':=I7.pinned (uY Ue) (T.obj _ _ EF)
    refine bq (hg cl s3 H3 fp _ s7 σ5 H7 x u _ I7' r7 (step x H7 y7)) fun _ s8 ⟨σ8,H8,I8,Yu,q8⟩=>?_
    refine bq (he cl s3 H3 fp _ s8 σ8 H8 _ I8 q8) fun y s9 ⟨v,H9,I9,r9,q9⟩=>?_
    obtain ⟨xs,hxs,hxl,m',hm,w9⟩:=hSN σ8 v H9 Yu q9
    refine bq (fY _ s9 σ8 H9 (.ref acc) [v] (.ref acc) [y] (fun z Lq=>z = .cg/\Lq=upd H9 acc (.lst (xs++[v]))) I9 rfl (.cons r9 .nil) ⟨acc,xs,v,Z,Z,hxs,hxl,Z,Z⟩) fun z Yv ⟨zv,Lq,Lr,r10,ez,eH⟩=>?_
    subst eH
    refine ⟨m',hm,i+1,σ8,_,Lr.qP,T.keep _ _ _ EF fun b hb o e=>(Lr.pin (b,o) (jg _ (jg _ (jv hb e)))).1,fun b hb=>?_,w9⟩
    obtain ⟨o,e,d⟩:=T.obj _ _ EF b hb
    exact (Lr.pin (b,o) (jg _ (jg _ (jv hb e)))).2.1
 exact codeAny_compStart_list loop (T.self _ 0 _ _ _ Ud loop)
end
variable {acc:Addr}
theorem RH {lo:Int} {k:Nat} {Q:VK} (Pv:Nat->List V->Hp->Prop) (hn:n<=100000) (h0:Pv 0 [] (upd H acc (.lst [])))
  (hs:∀(i:Nat) (out:List V) (H1:Hp),i<n->out.length=i->H1 acc=some (.lst out)->Pv i out H1->te (σ2.set k (some (.int (lo+i)))) H1 (uX Pv i acc out))
  (hd:∀(out:List V) (H1:Hp),out.length=n->H1 acc=some (.lst out)->Pv n out H1->Q (.ref acc) H1):
  BX (Ip lo n) (gh k) te acc σ2 H Q:=by
 refine ⟨fun i m σ' H'=>m=n-i/\i<=n/\(∀v,σ'.set k (some v)=σ2.set k (some v))/\∃out,out.length=i/\H' acc=some (.lst out)/\Pv i out H',⟨n,by simp,fT _,fun _=>rfl,[],Z,ak,h0⟩,?_⟩
 rintro i m σ' H' ⟨rfl,hi,hσ,out,ho,ha,p⟩
 by_cases hlt:i<n
 . refine .inr ⟨hlt,fun σ3=>∀v,σ3.set k (some v)=σ2.set k (some v),(uX Pv i acc out),fun σ3 v H4 hS ⟨a,b⟩=>?_,fun x H1 y=>?_⟩
   . refine ⟨out,a,?_,n-(i+1),by omega,Z,hlt,hS,out++[v],by rw [cY,ho];rfl,ak,b⟩
     have:sizeLine=16777216:=fj
     omega
   . obtain ⟨e,y⟩:=y
     subst e y
     refine ⟨fun v=>by rw [rP];exact hσ v,?_⟩
     have q:=hs i out _ hlt ho ha p
     rw [<-hσ] at q
     exact q
 . have e:i=n:=by omega
   subst e
   exact .inl ⟨aS _,hd out H' ho ha p⟩
variable {H':Hp}
theorem aI.cI {p:Addr} (e:aI H H') (h:H p=none) (o:HO):aI H (upd H' p o):=fun b u q=>by rw [av (aE q h)];exact e b u q
theorem Cy (n d:Int):SeqAt.shaped (.tuple [.int n, .int d])=true:=rfl
theorem WW (n d:Int):PyData.eqv (.tuple [.int n, .int d]) (.tuple [.int n, .int d])=true:=by simp [PyData.eqv,PyData.eqvAll]
variable {q:Rat}
theorem Ug {p:Addr} (h:H p=some (pP q)):Dt K H (.ref p) (.tuple [.int q.num, .int (q.den:Int)]):= .tup (cJ.of h) (.cons (.int _) (.cons (.int _) .nil))
inductive abX (vs:List V) (H:Hp) (Q:VK) (E:XK):Prop
 | mk (t b:Int) (_:vs=[.int t, .int b]) (_:0<b) (_:Jm.Sz 9000 b) (_:∀(r:Addr) (H':Hp),aI H H'->H' r=some (pP (Jm.fr t b))->Q (.ref r) H')
def BY:Sp:=bx (abX)
theorem IG {Q:VK} {t b:Int} (h0:0<b) (h1:Jm.Sz 9000 b) (h:∀(r:Addr) (H':Hp),aI H H'->H' r=some (pP (Jm.fr t b))->Q (.ref r) H'):BY [.int t, .int b] H Q E:=⟨t,b,Z,h0,h1,h⟩
inductive xIs (vs:List V) (H:Hp) (Q:VK) (E:XK):Prop
 | mk (p:Addr) (q:Rat) (t b:Int) (_:vs=[.ref p, .int t, .int b]) (_:H p=some (pP q)) (_:0<b) (_:Jm.Sz 9000 b) (_:q=Jm.fr t b) (_:∀H',aI H H'->Q (.bl true) H')
def WX:Sp:=bx (xIs)
theorem abY {Q:VK} {p:Addr} {t b:Int} (hp:H p=some (pP q)) (h0:0<b) (h1:Jm.Sz 9000 b) (e:q=Jm.fr t b) (h:∀H',aI H H'->Q (.bl true) H'):WX [.ref p, .int t, .int b] H Q E:=⟨p,q,t,b,Z,hp,h0,h1,e,h⟩
section
variable {X:Cx}
theorem WY (hc:X.calm=true):gI X (.builtin "sum") (fun xs H Q=>∃(a:Addr) (ns:List Int),xs=[.ref a]/\aC X.K H a (ns.map V.int)/\Q (.int ns.sum) H):=by
 intro pins s σ H xs us Q I r h
 obtain ⟨a,ns,rfl,hS,q⟩:=h
 obtain ⟨u,rfl,ru⟩:=vals1 r
 cases ru
 obtain ⟨its,rv,p,hz⟩:=I.list hS
 have hi:=intsAre_of rv
 have hl:=p.isList
 obtain ⟨o,ho,_⟩:=id hl
 have hne:a≠s.heap.objs.size:=dS (bQ ho)
 have W:=(Walks.list (prog:=X.prog) (w:=X.w) (A:=X.A.in1) (I.ok.hd hc) s.heap.objs.size a hne its.toArray).toS
 have EG:its.length=ns.length:=by rw [<-rv.length,aF]
 refine call_sum_walkAnyS (Ri hl ?_)
 refine ⟨s.heap.objs.size,_,_,_,_,_,_,fun i=>ns.getD i 0,Z,W,⟨⟨_,d_ _ rfl,Z,Z⟩,hl.at fun o e=>cD _ e⟩,fun b hb=>?_,fun i v hP=>?_,fun s' t' hm=>?_⟩
 . rcases dg.mp hb with rfl|hb
   . exact bQ (d_ _ rfl)
   . obtain rfl:=ee.mp hb
     exact bQ (cD _ ho)
 . have Uh:its[i]?=some v:=by simpa using hP
   have hil:i<ns.length:=by
    have:=(d7.mp Uh).1
    omega
   obtain ⟨u,hu,ru⟩:=rv.get (i:=i) (x:=V.int ns[i]) (by rw [bK,a_ hil];rfl)
   rw [Uh] at hu
   cases hu
   obtain ⟨t,e⟩:=ru
   refine ⟨t,?_⟩
   rw [e]
   show Value.int ns[i] t=Value.int (ns.getD i 0) t
   rw [jf,a_ hil]
   rfl
 . obtain ⟨h',g',d',tk',os'⟩:=s'
   have e1:g'=s.gens:=hm.gens
   have e2:d'=s.drawn:=hm.drawn
   have e3:os'=s.os:=hm.os
   subst e1 e2 e3
   have hsz:its.toArray.size=ns.length:=by rw [iz,EG]
   rw [hsz,preSum_getD,Aj (aS _)]
   exact ⟨.int ns.sum,H,I.kept (h':=h') (t':=tk') fun b o e=>hm.heap b o (fun hb=>absurd (bQ e) ((ee.mp hb)▸ju _)) (cD _ e),⟨t',Z⟩,q⟩
theorem WZ (hc:X.calm=true):gI X (.builtin "all") (fun xs H Q=>∃(a:Addr) (bs:List Bool),xs=[.ref a]/\aC X.K H a (bs.map V.bl)/\Q (.bl (bs.all id)) H):=by
 intro pins s σ H xs us Q I r h
 obtain ⟨a,bs,rfl,hS,q⟩:=h
 obtain ⟨u,rfl,ru⟩:=vals1 r
 cases ru
 obtain ⟨its,rv,p,hz⟩:=I.list hS
 have hl:=p.isList
 obtain ⟨o,ho,_⟩:=id hl
 have hne:a≠s.heap.objs.size:=dS (bQ ho)
 have EG:its.length=bs.length:=by rw [<-rv.length,aF]
 refine call_all_walk (Ri hl ?_)
 refine ⟨s.heap.objs.size,_,_,_,_,_,fun i=>bs.getD i false,Z,Walks.list (prog:=X.prog) (w:=X.w) (A:=X.A.in1) (I.ok.hd hc) s.heap.objs.size a hne its.toArray,⟨⟨_,d_ _ rfl,Z,Z⟩,hl.at fun o e=>cD _ e⟩,fun i v s' Q' E' hP hQ=>?_,fun h' tk hk=>?_⟩
 . have Uh:its[i]?=some v:=by simpa using hP
   have hil:i<bs.length:=by
    have:=(d7.mp Uh).1
    omega
   obtain ⟨u,hu,ru⟩:=rv.get (i:=i) (x:=V.bl bs[i]) (by rw [bK,a_ hil];rfl)
   rw [Uh] at hu
   cases hu
   have e:v=Value.bool bs[i] :=ru
   subst e
   refine Am ?_
   have hQ2:Q' (bs.getD i false) s':=hQ
   rw [jf,a_ hil] at hQ2
   exact hQ2
 . have hsz:its.toArray.size=bs.length:=by rw [iz,EG]
   have e:(List.range its.toArray.size).all (fun i=>bs.getD i false)=bs.all id:=by
    rw [hsz,BC,pF,pF]
    refine ⟨fun z x hx=>?_,fun z i hi=>?_⟩
    . obtain ⟨i,hi,e⟩:=List.mem_iff_getElem.mp hx
      have:=z i (yE.mpr hi)
      rw [jf,a_ hi] at this
      rw [<-e]
      exact this
    . have hi':=yE.mp hi
      rw [jf,a_ hi']
      exact z _ (uw hi')
   rw [e]
   exact ⟨.bl (bs.all id),H,I.kept (h':=h') (t':=tk) fun b o e=>hk b o (fun hb=>absurd (bQ e) ((ee.mp hb)▸ju _)) (cD _ e),Z,q⟩
end
section
variable {X:Cx} (K:Fg)
theorem br (hK:X.K=K:=by rfl):zW X (RB K):=hK▸TY
theorem aK (hK:X.K=K:=by rfl):zW X (WE K):=hK▸PJ
theorem GK (hu:X.A.units+64<cLine) (hK:X.K=K:=by rfl):gZ X (compareOp .Eq) (WU K):=hK▸abM hu
theorem PN (hu:X.A.units+64<cLine) (hK:X.K=K:=by rfl):gZ X (compareOp .NotEq) (abL K):=hK▸abN hu
theorem lV (hc:X.calm=true) (hK:X.K=K:=by rfl):gI X (.builtin "sum") (fun xs H Q=>∃(a:Addr) (ns:List Int),xs=[.ref a]/\aC K H a (ns.map V.int)/\Q (.int ns.sum) H):=hK▸WY hc
theorem Ui (hc:X.calm=true) (hK:X.K=K:=by rfl):gI X (.builtin "all") (fun xs H Q=>∃(a:Addr) (bs:List Bool),xs=[.ref a]/\aC K H a (bs.map V.bl)/\Q (.bl (bs.all id)) H):=hK▸WZ hc
theorem bY (hK:X.K=K:=by rfl):gI X (.builtin "len") (fun xs H Q=>∃p ys,xs=[.ref p]/\(aC K H p ys\/cJ K H p ys)/\Q (.int ys.length) H):=hK▸Ld
theorem kR (hK:X.K=K:=by rfl):gI X (.type "list") (fun xs H Q=>∃p ys,xs=[.ref p]/\(aC K H p ys\/cJ K H p ys)/\∀l,H l=none->Q (.ref l) (upd H l (.lst ys))):=hK▸Le
theorem c7 (hK:X.K=K:=by rfl):gI X (.builtin "isinstance") (fun xs H Q=>∃x n t b,xs=[x, .ty n]/\gH K H x t/\PySem.W.kitOne K t (.type n)=some b/\Q (.bl b) H):=hK▸Of
end
theorem Og {l1 l2:Nat} (h1:l1<n) (h2:l2<n):ZipApart (n+4) (n+2) (n+3) n (n+1) l1 l2:=by
 have nn:∀i j:Nat,i≠j->n+i≠n+j:=fun i j h e=>h (Nat.add_left_cancel e)
 have ne:∀(c k:Nat),c<n->c≠n+k:=fun c k h=>by omega
 exact ⟨nn 2 4 (by decide),nn 3 4 (by decide),nn 0 4 (by decide),nn 1 4 (by decide),nn 2 3 (by decide),nn 2 0 (by decide),nn 2 1 (by decide),nn 3 0 (by decide),nn 3 1 (by decide),nn 0 1 (by decide),ne _ 4 h1,ne _ 3 h1,ne _ 0 h1,ne _ 1 h1,ne _ 4 h2,ne _ 3 h2,ne _ 0 h2,ne _ 1 h2⟩
section
variable {X:Cx} {elts:List Expr} {kk:Nat} {tpos:Pos}
end
inductive aeB (K:Fg) (vs:List V) (H:Hp) (Q:VK) (E:XK):Prop
 | mk (a:Addr) (ns:List Int) (k j:Int) (_:vs=[.ref a, .int k, .int j]) (_:aC K H a (ns.map V.int)) (_:ns.length<=63) (_:0<=k) (_:0<=j) (_:j<2 ^ 61) (_:∀(m:Int) (H':Hp),1<=m->m<=1000000000->aI H H'->Q (.int m) H')
def Ls (K:Fg):Sp:=bx (aeB K)
theorem W0 {Q:VK} {k j:Int} (hS:aC K H a (ns.map V.int)) (h63:ns.length<=63) (h1:0<=k) (h2:0<=j) (h3:j<2 ^ 61)
  (h:∀(m:Int) (H':Hp),1<=m->m<=1000000000->aI H H'->Q (.int m) H'):Ls K [.ref a, .int k, .int j] H Q E:=⟨a,ns,k,j,Z,hS,h63,h1,h2,h3,h⟩
variable {xs:List V} {i:Nat}
theorem jk {v:V} (h:xs[i]?=some v):lG xs (i:Int)=some v:=aP h
section
variable {X:Cx}
inductive aeC (Q:VK) (vs:List V) (H1:Hp):Prop
 | mk  (j:Int) (_:vs=[.int j]) (_:∀p,H1 p=none->Q (.ref p) (upd H1 p (.wC 0 j)))
def ahS (ta:TA):TE:=fun σ H Q=>ta σ H (aeC Q)
def upTo (n:Nat):List Int:=(List.range n).map fun i=>((i:Nat):Int)
theorem Jw (hc:X.calm=true):gI X (.type "list") (fun xs H Q=>∃(r:Addr) (n:Nat),xs=[.ref r]/\H r=some (.wC 0 (n:Int))/\n<=1000/\∀l,H l=none->Q (.ref l) (upd H l (.lst ((upTo n).map V.int)))):=by
 intro pins s σ H xs us Q I r h
 obtain ⟨a,n,rfl,hr,hn,q⟩:=h
 obtain ⟨u,rfl,ru⟩:=vals1 r
 cases ru
 obtain ⟨t,t2,t3,e⟩:=(show dQ X.prog X.w H s.heap a (.wC 0 (n:Int)) from I.hok a _ hr)
 refine call_list_range (n:=n) (I.ok.hd hc) e (small_one (by decide) (by decide) (by omega) (by omega)) (by rw [rangeSize_one];split <;> omega) (by omega) fun h' tk acc' c' hk hS hI=>?_
 obtain ⟨hsz,hit⟩:=hI
 have hv:Vals ((upTo n).map V.int) acc'.toList:=by
  have gen:∀(m:Nat) (us:List Value) (k:Nat),us.length=m->(∀(j:Nat) (v:Value),us[j]?=some v->∃t,v = .int ((0:Int)+((k+j:Nat):Int)*1) t)->Vals (((List.range' k m).map fun i=>((i:Nat):Int)).map V.int) us:=by
   intro m
   induction m with
   | zero=>intro us k hl _;rw [List.length_eq_zero_iff.mp hl];exact .nil
   | succ m ih=>
     intro us k hl hu
     cases us with
     | nil=>cases hl
     | cons v r=>
       obtain ⟨t,e⟩:=hu 0 v rfl
       refine .cons ⟨t,?_⟩ (ih r (k+1) (by simpa using hl) fun j v' hj=>?_)
       . rw [e]
         show Value.int _ t=Value.int ((k:Nat):Int) t
         congr 1
         omega
       . obtain ⟨t,e⟩:=hu (j+1) v' (by simpa using hj)
         exact ⟨t,by rw [e];congr 1;omega⟩
  have:=gen n acc'.toList 0 (by simpa using hsz) fun j v hj=>by
   obtain ⟨t,e⟩:=hit j v (by simpa using hj)
   exact ⟨t,by rw [e];congr 1;omega⟩
  unfold upTo
  rw [List.range_eq_range']
  exact this
 have hlen:((upTo n).map V.int).length<=sizeLine:=by unfold upTo;simp;exact small (by omega)
 exact ⟨.ref s.heap.objs.size,_,I.laid (a:=s.heap.objs.size) (o:= .lst ((upTo n).map V.int)) (h':=h') (t':=tk) hk (aS _) ⟨hlen,acc'.toList,c',hv,by simpa using hS⟩,Z,q _ I.fresh⟩
inductive ZI (K:Fg) (Q:VK) (x:V) (y:V) (H2:Hp):Prop
 | mk  (_:y = .int (-1)) (a xs:_) (_:x = .ref a) (_:aC K H2 a xs) (_:∀p,H2 p=none->Q (.ref p) (upd H2 p (.lst xs.reverse)))
def aeD (K:Fg) (ts:TE) (σ:St) (Q:VK):V->Hp->Prop:=fun x H1=>ts σ H1 (ZI K Q x)
def ahT (K:Fg) (te ts:TE):TE:=fun σ H Q=>te σ H (aeD K ts σ Q)
end
theorem BZ {k:Nat} (h:k<n):Cu n (k:Int)=some k:=by
 unfold Cu
 rw [aB (by omega),aB (by omega)]
 rfl
abbrev tx (cs:List Nat):Str:=⟨cs.toArray⟩
theorem x_ (x:Str):tx x.cps.toList=x:=by cases x;rfl
theorem g_ (cs:List Nat):(tx cs).length=cs.length:=by show cs.toArray.size=_;rw [iz]
theorem Uj (a b:List Nat):(tx a++tx b:Str)=tx (a++b):=by
 show (⟨a.toArray++b.toArray⟩:Str)=_
 simp [tx]
def Uk (cs:List Nat):It:=⟨fun i _=>i<cs.length,fun i H v H'=>H'=H/\∃c,cs[i]?=some c/\v = .str (tx [c]),fun i _=>cs.length<=i⟩
theorem RI {P:Program} {w:World} {K:Fg} {tg:Expr} (x:Str) (t:Tok) (it:Addr):Turn P w K tg (Uk x.cps.toList) [it] it (fun i h=>h.IsStrIter it "str_ascii_iterator" x t i) where
 mem:=by simp
 obj:=fun i h st b hb=>by
  have e:b=it:=by simpa using hb
  subst e
  obtain ⟨o,e,c,d⟩:=st
  exact ⟨o,e,fun v z=>by rw [d] at z;cases z⟩
 keep:=fun i h h' st k=>let ⟨o,ho,r⟩:=st;⟨o,k it (by simp) o ho,r⟩
 item:=by
  intro X hP hw hK hc i pins s σ H E I hf st hg
  subst hP hw hK
  have hi:i<x.cps.size:=by have hg':i<x.cps.toList.length:=hg;simpa using hg'
  obtain ⟨f0,f1,f2,f3,f4,f5⟩:=hf it (by simp)
  refine wpAny_pyNext_ascii_item st (c:=x.cps[i]) (by simp [hi]) fun h' st' sb=>?_
  have I1:Inv X pins σ H { s with heap:=h',toks:=s.toks+1 }:=I.turned (t':=s.toks+1) (fun b o hb e=>sb.extBut b o hb e) f0 f1 f3 f4 f5
  obtain ⟨o,e,c,d⟩:=id st'
  exact ⟨_,Z,Ej (s:={ s with heap:=h',toks:=s.toks+1 }) e c d (by decide) ⟨.str (tx [x.cps[i]]),H,I1,⟨_,Z⟩,⟨Z,x.cps[i],by simp [hi],Z⟩,st',fun b hb=>(hf b hb).1⟩⟩
 done:=by
  intro X hP hw hK hc i pins s σ H E I hf st hg
  subst hP hw hK
  have hi:x.cps.size<=i:=by have hg':x.cps.toList.length<=i:=hg;simpa using hg'
  obtain ⟨f0,f1,f2,f3,f4,f5⟩:=hf it (by simp)
  exact wpAny_pyNext_ascii_end (I.ok.hd hc) st (by simp;omega) fun h' eb=>⟨Z,I.turned (t':=s.toks) (fun b o hb e=>eb b o hb e) f0 f1 f3 f4 f5⟩
 self:=fun _ _ _ _ _ st h=>wpAny_pyIter_striter_ascii st h
theorem Ul {P:Program} {w:World} {K:Fg} {tg:Expr} (x:Str) (t:Tok) (it:Addr):Turn P w K tg (Uk x.cps.toList) [it] it (fun i h=>h.IsStrIter it "str_iterator" x t i) where
 mem:=by simp
 obj:=fun i h st b hb=>by
  have e:b=it:=by simpa using hb
  subst e
  obtain ⟨o,e,c,d⟩:=st
  exact ⟨o,e,fun v z=>by rw [d] at z;cases z⟩
 keep:=fun i h h' st k=>let ⟨o,ho,r⟩:=st;⟨o,k it (by simp) o ho,r⟩
 item:=by
  intro X hP hw hK hc i pins s σ H E I hf st hg
  subst hP hw hK
  have hi:i<x.cps.size:=by have hg':i<x.cps.toList.length:=hg;simpa using hg'
  obtain ⟨f0,f1,f2,f3,f4,f5⟩:=hf it (by simp)
  refine wpAny_pyNext_wide_item st (c:=x.cps[i]) (by simp [hi]) fun h' st' sb=>?_
  have I1:Inv X pins σ H { s with heap:=h',toks:=s.toks+1 }:=I.turned (t':=s.toks+1) (fun b o hb e=>sb.extBut b o hb e) f0 f1 f3 f4 f5
  obtain ⟨o,e,c,d⟩:=id st'
  exact ⟨_,Z,Ej (s:={ s with heap:=h',toks:=s.toks+1 }) e c d (by decide) ⟨.str (tx [x.cps[i]]),H,I1,⟨_,Z⟩,⟨Z,x.cps[i],by simp [hi],Z⟩,st',fun b hb=>(hf b hb).1⟩⟩
 done:=by
  intro X hP hw hK hc i pins s σ H E I hf st hg
  subst hP hw hK
  have hi:x.cps.size<=i:=by have hg':x.cps.toList.length<=i:=hg;simpa using hg'
  obtain ⟨f0,f1,f2,f3,f4,f5⟩:=hf it (by simp)
  exact wpAny_pyNext_wide_end (I.ok.hd hc) st (by simp;omega) fun h' eb=>⟨Z,I.turned (t':=s.toks) (fun b o hb e=>eb b o hb e) f0 f1 f3 f4 f5⟩
 self:=fun _ _ _ _ _ st h=>wpAny_pyIter_striter_wide st h
variable {cs:List Nat} {tb:TS} {D:Ends}
section
variable {X:Cx} {tg:Expr}
inductive aeE (R:It->Hp->Prop) (x:V) (H1:Hp):Prop
 | mk  (cs:List Nat) (_:x = .str (tx cs)) (_:R (Uk cs:_) H1)
def abZ (te:TE):TI:=fun σ H R=>te σ H (aeE R)
theorem ab0 {l:Expr} {tl:TE} (hl:PE X l tl):PI X tg l (abZ tl):=by
 intro pins s σ H R I h
 refine bq (hl pins s σ H _ I h) fun v s1 ⟨x,H1,I1,r1,q1⟩=>?_
 obtain ⟨cs,e,q⟩:=q1
 subst e
 obtain ⟨t,rfl⟩:=r1
 have fp:∀b∈[s1.heap.objs.size],pK X pins H1 b:=fun b hb=>by
  have e:b=s1.heap.objs.size:=by simpa using hb
  subst e
  exact I1.GF (aS _) (I1.hok.fresh (aS _))
 have tw:=@Ul X.prog X.w X.K tg (tx cs) t s1.heap.objs.size
 have ta:=@RI X.prog X.w X.K tg (tx cs) t s1.heap.objs.size
 cases ha:(tx cs).cps.all (·<128)
 . exact wpAny_pyIter_wide ha ⟨s1.heap.objs.size,[s1.heap.objs.size],_,_,H1,Z,I1.kept (t':=s1.toks) fun b o e=>cD _ e,tw,⟨_,d_ _ rfl,Z,Z⟩,fp,q⟩
 . exact wpAny_pyIter_ascii ha ⟨s1.heap.objs.size,[s1.heap.objs.size],_,_,H1,Z,I1.kept (t':=s1.toks) fun b o e=>cD _ e,ta,⟨_,d_ _ rfl,Z,Z⟩,fp,q⟩
theorem ZJ (Pv:Nat->St->Hp->Prop) (h0:Pv 0 σ H)
  (hs:∀i c σ H,cs[i]?=some c->Pv i σ H->g (.str (tx [c])) σ H (tb (D.lp (Pv (i+1))))) (hd:∀σ H,Pv cs.length σ H->D.nx σ H):
  Ek g tb D σ (Uk cs) H:=by
 refine ⟨fun i m σ H=>m=cs.length-i/\i<=cs.length/\Pv i σ H,⟨cs.length,by simp,fT _,h0⟩,?_⟩
 rintro i m σ H ⟨rfl,hi,p⟩
 by_cases hlt:i<cs.length
 . refine .inr ⟨hlt,fun σ' H'=>Pv (i+1) σ' H',fun σ' H' q=>⟨cs.length-(i+1),by omega,Z,hlt,q⟩,?_⟩
   rintro x H' ⟨rfl,c,hc,rfl⟩
   exact hs i c σ _ hc p
 . have e:i=cs.length:=by omega
   subst e
   exact .inl ⟨aS _,hd σ H p⟩
theorem W6 {k:Nat} {Q:VK} (Pv:Nat->List V->Hp->Prop) (hn:cs.length<=100000) (h0:Pv 0 [] (upd H acc (.lst [])))
  (hs:∀(i:Nat) (c:Nat) (out:List V) (H1:Hp),cs[i]?=some c->out.length=i->H1 acc=some (.lst out)->Pv i out H1->te (σ2.set k (some (.str (tx [c])))) H1 (uX Pv i acc out))
  (hd:∀(out:List V) (H1:Hp),out.length=cs.length->H1 acc=some (.lst out)->Pv cs.length out H1->Q (.ref acc) H1):
  BX (Uk cs) (gh k) te acc σ2 H Q:=by
 refine ⟨fun i m σ' H'=>m=cs.length-i/\i<=cs.length/\(∀v,σ'.set k (some v)=σ2.set k (some v))/\∃out,out.length=i/\H' acc=some (.lst out)/\Pv i out H',⟨cs.length,by simp,fT _,fun _=>rfl,[],Z,ak,h0⟩,?_⟩
 rintro i m σ' H' ⟨rfl,hi,hσ,out,ho,ha,p⟩
 by_cases hlt:i<cs.length
 . refine .inr ⟨hlt,fun σ3=>∀v,σ3.set k (some v)=σ2.set k (some v),(uX Pv i acc out),fun σ3 v H4 hS ⟨a,b⟩=>?_,fun x H1 y=>?_⟩
   . refine ⟨out,a,?_,cs.length-(i+1),by omega,Z,hlt,hS,out++[v],by rw [cY,ho];rfl,ak,b⟩
     have:sizeLine=16777216:=fj
     omega
   . obtain ⟨e,c,hc,ex⟩:=y
     subst e ex
     refine ⟨fun v=>by rw [rP];exact hσ v,?_⟩
     have q2:=hs i c out _ hc ho ha p
     rw [<-hσ] at q2
     exact q2
 . have e:i=cs.length:=by omega
   subst e
   exact .inl ⟨aS _,hd out H' ho ha p⟩
def xx (cs:List Nat) (lo hi:Option Int):List Nat:=(cs.drop (HT.dP cs.length 0 lo)).take (HT.dP cs.length cs.length hi-HT.dP cs.length 0 lo)
theorem Cz (cs:List Nat) (lo hi:Option Int):(xx cs lo hi).length<=cs.length:=by
 unfold xx
 rw [lu,K1]
 omega
theorem RJ (cs:List Nat) (lo hi:Option Int):Builtin.Str.strSliceIndices lo hi 1 cs.length=(List.range (HT.dP cs.length cs.length hi-HT.dP cs.length 0 lo)).map (HT.dP cs.length 0 lo+·):=by
 rw [<-sliceRange_one]
 unfold Builtin.Str.strSliceIndices
 simp only [show ((1:Int)>0)=True from by simp,rS]
 congr 1
 . cases lo with
   | none=>rfl
   | some i=>
     simp only [HT.dP]
     by_cases h:i<0
     . simp only [h,rS] <;> omega
     . simp only [h,lF] <;> omega
 . cases hi with
   | none=>rfl
   | some i=>
     simp only [HT.dP]
     by_cases h:i<0
     . simp only [h,rS] <;> omega
     . simp only [h,lF] <;> omega
inductive ahU (x:V) (lo:Option Int) (hi:Option Int) (H:Hp) (Q:VK):Prop
 | mk  (cs:_) (_:x = .str (tx cs)) (_:cs.length<=sizeLine) (_:Q (.str (tx (xx cs lo hi))) H)
theorem ab1:TV X ahU:=by
 intro pins s σ H x v vl vu lo hi sl Q I rx hs pl pu h
 obtain ⟨cs,rfl,hz,q⟩:=h
 obtain ⟨t,rfl⟩:=rx
 refine ⟨"str",_,F.slot_str_getitem.lookup,typeIs_str s _ t,?_⟩
 obtain ⟨l,rfl,el⟩:∃l:Option (Int×Tok),vl=partValue l/\l.map (·.1)=lo:=by
  cases pl with
  | none=>exact ⟨none,Z,Z⟩
  | int i t=>exact ⟨some (i,t),Z,Z⟩
 obtain ⟨u,rfl,eu⟩:∃u:Option (Int×Tok),vu=partValue u/\u.map (·.1)=hi:=by
  cases pu with
  | none=>exact ⟨none,Z,Z⟩
  | int i t=>exact ⟨some (i,t),Z,Z⟩
 refine wpAny_getItem_str_slice (l:=l) (u:=u) (st:=none) hs rfl ?_
 have e1:slicePicked (tx cs) l u none=(List.range (HT.dP cs.length cs.length hi-HT.dP cs.length 0 lo)).map (HT.dP cs.length 0 lo+·):=by
  unfold slicePicked
  rw [el,eu,g_]
  exact RJ cs lo hi
 have e2:(slicePicked (tx cs) l u none).filterMap ((tx cs).cps[·]?)=xx cs lo hi:=by
  rw [e1,pick_run]
  rfl
 unfold sliceMade
 split
 . rename_i hc
   have hl:(slicePicked (tx cs) l u none).length=cs.length:=by
    have:=(lg.mp hc).2
    rw [g_] at this
    simpa using this
   have ahV:xx cs lo hi=cs:=by
    rw [e1,aF,CZ] at hl
    unfold xx
    have h1:=HT.TU cs.length cs.length (aS _) hi
    have h0:HT.dP cs.length 0 lo=0\/cs.length=0:=by omega
    rcases h0 with h0|h0
    . rw [h0] at hl ⊢
      rw [List.drop_zero,hl,cA]
    . have:cs=[] :=List.length_eq_zero_iff.mp h0
      subst this
      simp
   rw [ahV] at q
   exact ⟨.str (tx cs),H,I,⟨t,Z⟩,q⟩
 . show (Made.str ⟨_⟩).post _ _
   rw [e2]
   refine ⟨?_, .str (tx (xx cs lo hi)),H,I.tok _,⟨_,Z⟩,q⟩
   show (tx (xx cs lo hi)).length<=sizeLine
   rw [g_]
   exact eX (Cz cs lo hi) hz
end
theorem ZK (cs:List Nat) (k:Nat):xx cs none (some (k:Int))=cs.take k:=by
 unfold xx
 rw [HT.C7,HT.x6,List.drop_zero,Nat.sub_zero]
 rcases Nat.le_total k cs.length with h|h
 . rw [Nat.min_eq_left h]
 . rw [Nat.min_eq_right h,cA,Aj h]
def sP (signs:Str) (c:Nat):Bool:=!(Builtin.Str.occurrences signs (tx [c]) 0 signs.length 1).isEmpty
def lH (c:Int) (n:Nat):List Nat:=(List.range n).map fun i=>97+((c / 26 ^ i) % 26).toNat
theorem yM (c:Int) (n:Nat):(lH c n).length=n:=by unfold lH;rw [aF,CZ]
theorem W7 (c:Int) (n:Nat):lH c (n+1)=lH c n++[97+((c / 26 ^ n) % 26).toNat] :=by
 unfold lH
 rw [List.range_succ,bD]
 rfl
theorem Um {k:Int} (h0:0<=k) (h1:k<26):lG (("abcdefghijklmnopqrstuvwxyz":Str).cps.toList) k=some (97+k.toNat):=by
 have h:∀n:Nat,n<26->("abcdefghijklmnopqrstuvwxyz":Str).cps.toList[n]?=some (97+n):=by decide +kernel
 have e:k=((k.toNat:Nat):Int):=by omega
 have:=aP (h k.toNat (by omega))
 rw [<-e] at this
 exact this
structure GL (vs:List V) (H:Hp) (Q:VK) (E:XK):Prop where
 ex:∃(c:Int) (n:Nat),vs=[.int c, .int (n:Int)]/\0<=c/\n<=1000/\Q (.str (tx (lH c n))) H
theorem Lu {Q:VK} {c ni:Int} (e:ni=(n:Int)) (hc:0<=c) (hn:n<=1000) (q:Q (.str (tx (lH c n))) H):GL [.int c, .int ni] H Q E:=by
 subst e
 exact ⟨c,n,Z,hc,hn,q⟩
inductive ZL (vs:List V) (H:Hp) (Q:VK) (E:XK):Prop
 | mk (cs:List Nat) (signs:Str) (_:vs=[.str (tx cs), .str signs]) (_:cs.length<=100000) (_:∀H',aI H H'->Q (.bl (cs.all (sP signs))) H')
def C_:Sp:=bx (ZL)
theorem RK {H:Hp} {Q:VK} {E:XK} {cs:List Nat} {signs:Str} (hl:cs.length<=100000) (q:∀H',aI H H'->Q (.bl (cs.all (sP signs))) H'):C_ [.str (tx cs), .str signs] H Q E:=⟨cs,signs,Z,hl,q⟩
def isName (cs:List Nat):Bool:=decide (1<=(cs.length:Int)) && decide ((cs.length:Int)<=8) && cs.all (sP "abcdefghijklmnopqrstuvwxyz")
inductive ZM (vs:List V) (H:Hp) (Q:VK) (E:XK):Prop
 | mk (cs:List Nat) (_:vs=[.str (tx cs)]) (_:cs.length<=100000) (_:∀H',aI H H'->Q (.bl (isName cs)) H')
def yN:Sp:=bx (ZM)
theorem EH {Q:VK} (hl:cs.length<=100000) (q:∀H',aI H H'->Q (.bl (isName cs)) H'):yN [.str (tx cs)] H Q E:=⟨cs,Z,hl,q⟩
theorem EI {p q:Prop} (h:if true=true then p else q):p:=by rwa [aB rfl] at h
theorem EJ {p q:Prop} (h:if false=true then p else q):q:=by rwa [az fF] at h
variable {cond:Expr}
section
variable {prog:Program} {w:World} {A:Around} {R:Result->Shared->Prop} {s:Shared}
theorem Jx {target:Expr} {it acc:Value} (J:Nat->Shared->Prop)
  (turn:∀n s,J n s->wpAny (model prog w) A (pyNext it) (fun r s₁=>match r with
    | none=>R (.ok .next) s₁
    | some v=>wpAny (model prog w) A (letOwnedTupleGo target it v) (fun _ s₂=>wpAny (model prog w) A (assign target env v) (fun _ s₃=>wpAny (model prog w) A (isTrue cond env (eval cond env)) (fun ok s₃'=>if ok=true then
       wpAny (model prog w) A (eval elt env) (fun x s₄=>wpAny (model prog w) A (call (.builtin "list.append") [acc,x]) (fun _ s₅=>∃m,m<n/\J m s₅) (fun _ _=>False) s₄) (fun _ _=>False) s₃'
       else ∃m,m<n/\J m s₃') (fun _ _=>False) s₃) (fun _ _=>False) s₂) (fun _ _=>False) s₁) (fun _ _=>False) s)
  (n:Nat) (h:J n s):codeAny (model prog w) A (.compLoop (.ListComp elt [⟨target,iter,[cond],0⟩] scope pos) 0 it acc env) R s:=by
 refine codeAny_loop rfl J (fun n s hI=>?_) n h
 show wpAny _ A ((compTurn (.ListComp elt [⟨target,iter,[cond],0⟩] scope pos) 0 it acc env).onRaise (fun x=>do noteFrame x env;theTreesLotGoes x)) _ _ s
 refine wpAny_noted ?_
 rw [compTurn_list]
 refine aq (BG (aq (gY (turn n s hI) (fun r s₁ h₁=>?_) fun _ _ h'=>h'.elim)))
 cases r with
 | none=>exact aL h₁
 | some v=>
   refine aq (gY h₁ (fun _ s₂ h₂=>aq (gY h₂ (fun _ s₃ h₃=>?_) fun _ _ h'=>h'.elim)) fun _ _ h'=>h'.elim)
   refine aq (wpAny_tests_one (gY h₃ (fun ok s₃' h₃'=>?_) fun _ _ h'=>h'.elim))
   cases ok with
   | false=>exact aL ⟨Z,EJ h₃'⟩
   | true=>exact aq (aq (gY (EI h₃') (fun x s₄ h₄=>aq (gY h₄ (fun _ s₅ h₅=>aL (aL ⟨Z,h₅⟩)) fun _ _ h'=>h'.elim)) fun _ _ h'=>h'.elim))
end
variable {tc:TT} {wi:TI} {px pos':Pos}
section
variable {X:Cx}
def EK (J:It) (g:TG) (tc:TT) (te:TE) (acc:Addr) (σ₀:St) (H:Hp) (Q:VK):Prop:=∃W:Nat->Nat->St->Hp->Prop,
 (∃m,W 0 m σ₀ (upd H acc (.lst [])))/\∀i m σ2 H2,W i m σ2 H2->
   (J.stop i H2/\Q (.ref acc) H2)\/(J.go i H2/\∃(S:St->Prop) (N:V->Hp->Prop) (N0:Hp->Prop),(∀σ3 v H4,S σ3->N v H4->∃xs,H4 acc=some (.lst xs)/\xs.length<sizeLine/\∃m',m'<m/\W (i+1) m' σ3 (upd H4 acc (.lst (xs++[v]))))/\
     (∀σ3 H4,S σ3->N0 H4->∃m',m'<m/\W (i+1) m' σ3 H4)/\∀x H',J.Ei i H2 x H'->g x σ2 H' fun σ3 H3=>S σ3/\tc σ3 H3 fun b H4=>if b=true then te σ3 H4 N else N0 H4)
def ZN (ix:List (Option Nat)) (g:TG) (tc:TT) (te:TE) (σ:St) (Q:VK):It->Hp->Prop:=fun J H1=>∀acc,H1 acc=none->EK J g tc te acc (pick ix σ) H1 Q
def EL (wi:TI) (ix:List (Option Nat)) (g:TG) (tc:TT) (te:TE):TE:=fun σ H Q=>wi σ H (ZN ix g tc te σ Q)
theorem CA {ix:List (Option Nat)} {E:VS} {Q:VK}
  {RR:Value->Addr->Result->Shared->Prop} (hc:X.calm=true) (hg:∀cl s₂ H₂ fp,PG (c6 X N2 scope cl s₂ H₂ fp) tg g) (he:∀cl s₂ H₂ fp,PE (c6 X N2 scope cl s₂ H₂ fp) elt te)
  (ht:∀cl s₂ H₂ fp,PT (c6 X N2 scope cl s₂ H₂ fp) cond tc) (hk:scope.kind = .function) (hn:nF X.N X.env.scope.names scope.names N2 ix=true)
  (Lo:∀y c,(y,c)∈cl->X.env.cells.lookup y=some c) (GJ:∀y,(y,NameKind.free)∈scope.names->∃c,(y,c)∈cl)
  {it:Addr} {fp:List Addr} {tn:Nat->Heap->Prop} {J:It} (I:Inv X pins σ H s) (T:Turn X.prog X.w X.K tg J fp it tn) (st:tn 0 s.heap) (f:∀b∈fp,pK X pins H b)
  (h:∀acc,H acc=none->EK J g tc te acc (ix.map fun o=>o.bind fun j=>(σ[j]?).join) H Q)
  (hR:∀acc C H' s' m,Inv X pins σ H' s'->s'.heap.Ns C m->H' C=none->C≠X.env.locals->X.s₀.heap.objs.size<=C->(∀x c,X.env.cells.lookup x=some c->c≠C)->(∀p∈X.pn++pins,p.1≠C)->Q (.ref acc) H'->RR (.ref acc) C (.ok .next) s'):
  wpAny (model X.prog X.w) X.A (newList []) (fun acc s₃=>wpAny (model X.prog X.w) X.A (newFunctionEnv scope X.env.globals cl [] X.env.qual none .none (some X.env)) (fun cenv s₄=>
   codeAny (model X.prog X.w) X.A (.compStart (.ListComp elt [⟨tg,iter,[cond],0⟩] scope pos) 0 (.ref it) acc { cenv with scope:=relabel scope X.env }) (RR acc cenv.locals) s₄) E s₃) E s:=by
 obtain ⟨k1,k2,k3,k4,k5⟩:=mP hn
 refine qN ?_
 have I3:Inv X pins σ (upd H s.heap.objs.size (.lst [])) { s with heap:=s.heap.push { cls:= .type "list",data:= .seq ([] :List Value).toArray } }:=
  I.laid (a:=s.heap.objs.size) (o:= .lst []) (t':=s.toks) (fun _ _ q=>cD _ q) (aS _) ⟨fT _,[],_, .nil,d_ _ rfl⟩
 obtain ⟨W,⟨m0,w0⟩,turn⟩:=h s.heap.objs.size I.fresh
 have fo:∀b∈fp,b<s.heap.objs.size:=fun b hb=>by
  obtain ⟨o,e,_⟩:=T.obj 0 _ st b hb
  exact bQ e
 have st3:tn 0 (s.heap.push { cls:= .type "list",data:= .seq ([] :List Value).toArray }):=T.keep _ _ _ st fun b _ o e=>cD _ e
 have f3:∀b∈fp,pK X pins (upd H s.heap.objs.size (.lst [])) b:=fun b hb=>⟨by rw [av (dS (fo b hb))];exact (f b hb).1,(f b hb).2⟩
 have Uc:∀b∈fp,b<(s.heap.push { cls:= .type "list",data:= .seq ([] :List Value).toArray }).objs.size:=fun b hb=>by rw [mH];exact Rk (fo b hb)
 generalize es3:({ s with heap:=s.heap.push { cls:= .type "list",data:= .seq ([] :List Value).toArray } }:Shared)=s3 at *
 have eh3:s3.heap=s.heap.push { cls:= .type "list",data:= .seq ([] :List Value).toArray }:=by rw [<-es3]
 rw [<-eh3] at st3 Uc
 generalize s.heap.objs.size=acc at *
 generalize eH3:upd H acc (.lst [])=H3 at *
 have IY:=ED (N2:=N2) (scope:=scope) (cl:=cl) (fp:=fp) (σ2:=ix.map fun o=>o.bind fun j=>(σ[j]?).join) I3 hk Lo GJ f3 Uc (by rw [aF];exact k1) (fun i x v e1 e2=>by
  rw [bK] at e2
  cases ei:ix[i]? with
  | none=>rw [ei] at e2;cases e2
  | some o=>
    rw [ei] at e2
    cases o with
    | none=>cases e2
    | some j=>
      obtain ⟨a1,a2,a3⟩:=k2 i x j e1 ei
      refine ⟨a2,a3,j,a1,?_⟩
      have e3:(σ[j]?).join=some v:=iG e2
      cases ej:σ[j]? with
      | none=>rw [ej] at e3;cases e3
      | some z=>rw [ej] at e3;exact iw some e3) k5
 have ne:wpAny (model X.prog X.w) X.A (newFunctionEnv scope X.env.globals cl [] X.env.qual none .none (some X.env)) (fun cenv s₄=>
   cenv={ scope:=scope,locals:=s3.heap.objs.size,globals:=X.env.globals,cells:=cellsFrom (s3.heap.objs.size+1) scope.names cl,qual:=X.env.qual,func:=none,code:=X.env.code,frame:=X.env.frame,builtins:=X.env.builtins }/\
   s₄={ s3 with heap:=pushCells (s3.heap.push { cls:= .type "dict",data:= .dict #[] }) scope.names }) E s3:=by
  simp only [newFunctionEnv,Option.isSome_some,rS]
  refine aq (wpAny_alloc ?_)
  refine aq (wpAny_layCells _ (fun name kind cells=>by cases hkc:kind==NameKind.cell <;> simp [hkc]) _ _ _ _ ?_)
  rw [D_]
  refine aq (aL (aL ⟨?_,Z⟩))
  rw [show ({ s3 with heap:=s3.heap.push { cls:= .type "dict",data:= .dict #[] } }:Shared).heap.objs.size=s3.heap.objs.size+1 from mH ..]
 refine bq ne fun cenv s4 ⟨e1,e2⟩=>?_
 subst e1 e2
 have Ud:tn 0 (pushCells (s3.heap.push { cls:= .type "dict",data:= .dict #[] }) scope.names):=T.keep _ _ _ st3 fun b _ o e=>Kv _ _ b o (cD _ e)
 have Ax:s3.heap.objs.size≠X.env.locals:=yG I3.lt
 have uY:∀{H':Hp},(∀b∈fp,H' b=none)->∀b∈fp,pK (c6 X N2 scope cl s3 H3 fp) [] H' b:=fun {H'} hn b hb=>
  ⟨hn b hb,(IY.ok.K3 b hb).1,IY.ok.C0 b hb, .inl hb,(IY.ok.K3 b hb).2,fun p hp=>nomatch hp⟩
 have loop:codeAny (model X.prog X.w) X.A (.compLoop (.ListComp elt [⟨tg,iter,[cond],0⟩] scope pos) 0 (.ref it) (.ref acc) (c6 X N2 scope cl s3 H3 fp).env) (RR (.ref acc) s3.heap.objs.size)
   { s3 with heap:=pushCells (s3.heap.push { cls:= .type "dict",data:= .dict #[] }) scope.names }:=by
  refine Jx (fun n s'=>∃i σ' H',Inv (c6 X N2 scope cl s3 H3 fp) [] σ' H' s'/\tn i s'.heap/\(∀b∈fp,H' b=none)/\W i n σ' H') ?_ m0 ⟨0,_,H3,IY,Ud,fun b hb=>(f3 b hb).1,w0⟩
  rintro n s5 ⟨i,σ5,H5,I5,Ay,Lp,w5⟩
  rcases turn i n σ5 H5 w5 with ⟨stop,qn⟩|⟨go,S,N,N0,hSN,hS0,step⟩
  . refine bq (T.done (c6 X N2 scope cl s3 H3 fp) rfl rfl rfl hc i [] s5 σ5 H5 (fun _ _=>False) I5 (uY Lp) Ay stop) fun r s6 ⟨hr,I6⟩=>?_
    subst hr
    obtain ⟨m6,ns6,_⟩:=id I6.loc
    have IX:Inv X pins σ H5 s6:=I3.Kz (ch:=fp) I6.os I6.base I6.hok I6.bare fun b hb=>⟨(f3 b hb).2.2.2.1,(f3 b hb).2.1,(f3 b hb).2.2.2.2.1,(f3 b hb).2.2.2.2.2⟩
    refine hR acc s3.heap.objs.size H5 s6 m6 IX ns6 I6.free Ax I3.sz (fun x c e z=>?_) (fun p hp z=>?_) qn
    . obtain ⟨v,q⟩:=I3.cell x c e
      exact absurd q.lt (by rw [z];exact ju _)
    . exact absurd (bQ (I3.pin p hp).1) (by rw [z];exact ju _)
  . refine bq (T.item (c6 X N2 scope cl s3 H3 fp) rfl rfl rfl hc i [] s5 σ5 H5 (fun _ _=>False) I5 (uY Lp) Ay go) fun r s6 ⟨u,hr,h6⟩=>?_
    subst hr
    refine bq h6 fun _ s7 ⟨x,H7,I7,r7,y7,EF,Ue⟩=>?_
    have I7':=I7.pinned (uY Ue) (T.obj _ _ EF)
    refine bq (hg cl s3 H3 fp _ s7 σ5 H7 x u _ I7' r7 (step x H7 y7)) fun _ s8 ⟨σ8,H8,I8,Yu,q8⟩=>?_
    refine bq (ht cl s3 H3 fp _ s8 σ8 H8 _ I8 q8) fun ok s9' ⟨H9',Yw,q9'⟩=>?_
    cases ok with
    | false=>
      obtain ⟨m',hm,w9⟩:=hS0 σ8 H9' Yu (EJ q9')
      refine ite_ff ⟨m',hm,i+1,σ8,_,Yw.qP,T.keep _ _ _ EF fun b hb o e=>(Yw.pin (b,o) (jg _ (jg _ (jv hb e)))).1,fun b hb=>?_,w9⟩
      obtain ⟨o,e,d⟩:=T.obj _ _ EF b hb
      exact (Yw.pin (b,o) (jg _ (jg _ (jv hb e)))).2.1
    | true=>
      refine ite_tt ?_
      refine bq (he cl s3 H3 fp _ s9' σ8 H9' _ Yw (EI q9')) fun y s9 ⟨v,H9,I9,r9,q9⟩=>?_
      obtain ⟨xs,hxs,hxl,m',hm,w9⟩:=hSN σ8 v H9 Yu q9
      refine bq (fY _ s9 σ8 H9 (.ref acc) [v] (.ref acc) [y] (fun z Lq=>z = .cg/\Lq=upd H9 acc (.lst (xs++[v]))) I9 rfl (.cons r9 .nil) ⟨acc,xs,v,Z,Z,hxs,hxl,Z,Z⟩) fun z Yv ⟨zv,Lq,Lr,r10,ez,eH⟩=>?_
      subst eH
      refine ⟨m',hm,i+1,σ8,_,Lr.qP,T.keep _ _ _ EF fun b hb o e=>(Lr.pin (b,o) (jg _ (jg _ (jv hb e)))).1,fun b hb=>?_,w9⟩
      obtain ⟨o,e,d⟩:=T.obj _ _ EF b hb
      exact (Lr.pin (b,o) (jg _ (jg _ (jv hb e)))).2.1
 exact codeAny_compStart_list loop (T.self _ 0 _ _ _ Ud loop)
theorem W8 (N2:List Str) (ix:List (Option Nat)) (hc:X.calm=true) (hi:PI X tg iter wi)
  (hg:∀cl s₂ H₂ fp,PG (c6 X N2 scope cl s₂ H₂ fp) tg g) (he:∀cl s₂ H₂ fp,PE (c6 X N2 scope cl s₂ H₂ fp) elt te)
  (ht:∀cl s₂ H₂ fp,PT (c6 X N2 scope cl s₂ H₂ fp) cond tc) (hk:scope.kind = .function) (hn:nF X.N X.env.scope.names scope.names N2 ix=true) (hs:∀x,foldedSetIterable iter X.env x=pure x:=by intro _;rfl):
  PE X (.ListComp elt [⟨tg,iter,[cond],0⟩] scope pos) (EL wi ix g tc te):=by
 intro pins s σ H Q I h
 obtain ⟨k1,k2,k3,k4,k5⟩:=mP hn
 obtain ⟨cl,Lv,c1,c2⟩:=uy (scope:=scope) (env:=X.env) fun y hy e=>I.ok.has y.1 (k3 y hy e)
 rw [eval_ListComp]
 refine Q0 (use:=none) rfl hs Lv hk k4 (bq (hi pins s σ H _ I h) fun v s1 h1=>bq h1 fun itv s2 h2=>?_)
 obtain ⟨it,fp,tn,J,H2,e,I2,T,st2,f2,h2⟩:=h2
 subst e
 refine CA (RR:=fun acc C=>compPost (model X.prog X.w) X.A X.xe none (EP X pins σ Q) acc C) (Q:=Q) hc hg he ht hk hn (fun y c m=>(c1 y c m).1) c2 I2 T st2 f2 h2 ?_
 intro acc C H' s' m I' ns Ax hL hsz pR yO q
 exact ⟨m,ns,fun h' hs'=>⟨.ref acc,H',I'.turned (it:=C) (t':=s'.toks) (fun b o hb e=>(hs'.2 b hb).trans e) Ax hL (.inr hsz) pR yO,Z,q⟩⟩
theorem W9 (N2:List Str) (ix:List (Option Nat)) (hN:X.N.Nodup) (hi:X.N[i]?=some x) (hx:X.env.scope.names.lookup x=some .local) (hc:X.calm=true) (hit:PI X tg iter wi)
  (hg:∀cl s₂ H₂ fp,PG (c6 X N2 scope cl s₂ H₂ fp) tg g) (he:∀cl s₂ H₂ fp,PE (c6 X N2 scope cl s₂ H₂ fp) elt te)
  (ht:∀cl s₂ H₂ fp,PT (c6 X N2 scope cl s₂ H₂ fp) cond tc) (hk:scope.kind = .function) (hn:nF X.N X.env.scope.names scope.names N2 ix=true) (hw:swapsWith (.ListComp elt [⟨tg,iter,[cond],0⟩] scope pos) (some (.Name x px)) pos'.line X.env=pure true) (hs:∀x,foldedSetIterable iter X.env x=pure x:=by intro _;rfl):
  PS X (.Assign [.Name x px] (.ListComp elt [⟨tg,iter,[cond],0⟩] scope pos) pos') (Ao (EL wi ix g tc te) (gh i)):=by
 intro pins s σ H D I h
 obtain ⟨k1,k2,k3,k4,k5⟩:=mP hn
 obtain ⟨cl,Lv,c1,c2⟩:=uy (scope:=scope) (env:=X.env) fun y hy e=>I.ok.has y.1 (k3 y hy e)
 rw [exec_Assign_Name_used _ _ _ _ hw]
 refine aq (BG (aq ?_))
 show wpAny _ X.A (do let _ <-comprehension (.ListComp elt [⟨tg,iter,[cond],0⟩] scope pos) scope X.env _ (newList []) false (eval iter X.env) (some (assign (.Name x px) X.env))) _ _ s
 refine aq (bq (Q0 (use:=some (assign (.Name x px) X.env)) (Q:=fun _ s'=>SP X pins D .next s') rfl hs Lv hk k4 (bq (hit pins s σ H _ I h) fun v s1 h1=>bq h1 fun itv s2 h2=>?_)) fun _ s' hq=>aL (aL hq))
 obtain ⟨it,fp,tn,J,H2,e,I2,T,st2,f2,h2⟩:=h2
 subst e
 refine CA (RR:=fun acc C=>compPost (model X.prog X.w) X.A X.xe (some (assign (.Name x px) X.env)) (fun _ s'=>SP X pins D .next s') acc C) (Q:=fun v H'=>D.nx (σ.set i (some v)) H') hc hg he ht hk hn (fun y c m=>(c1 y c m).1) c2 I2 T st2 f2 h2 ?_
 intro acc C H' s' m I' ns Ax hL hsz pR yO q
 show wpAny _ X.A (assign (.Name x px) X.env (.ref acc)) _ _ _
 refine wpAny_assign_Name (An I' hN hi (.inl hx) (v:= .ref acc) rfl (fun s3 I3 ⟨a,sb,ha⟩=>?_) (.inr hx))
 have ca:C≠a:=by
  rcases ha with z|z
  . rw [z];exact hL
  . exact fun e=>pR x a z e.symm
 exact ⟨m,ns.sameBut sb ca,fun h' hs'=>⟨_,H',I3.turned (it:=C) (t':=s3.toks) (fun b o hb e=>(hs'.2 b hb).trans e) Ax hL (.inr hsz) pR yO,q⟩⟩
end
theorem Lw {α:Type} [DecidableEq α] :∀{l m:List α},l.Nodup->(∀x∈l,x∈m)->l.length<=m.length
 | [],_,_,_=>fT _
 | x::r,m,h,hs=>by
   have hn:=gX.mp h
   have hx:=hs x cO
   have:=Lw (l:=r) (m:=m.erase x) hn.2 fun y hy=>by
    have hne:y≠x:=fun e=>hn.1 (e▸hy)
    exact (List.mem_erase_of_ne hne).mpr (hs y (cL _ hy))
   rw [List.length_erase_of_mem hx] at this
   have hp:0<m.length:=List.length_pos_of_mem hx
   rw [m7]
   omega
theorem Uo (c:Int) (h:i<n):(lH c n)[i]?=some (97+((c / 26 ^ i) % 26).toNat):=by
 unfold lH
 rw [bK,List.getElem?_range h]
 rfl
theorem ZO {c c':Int} {d:Nat} (h:d<n) (e:lH c n=lH c' n):(c / 26 ^ d) % 26=(c' / 26 ^ d) % 26:=by
 have h1:=Uo c h
 rw [e,Uo c' h] at h1
 have h2:=iG h1
 have a0:0<=(c / 26 ^ d) % 26:=nK _ (by decide)
 have b0:0<=(c' / 26 ^ d) % 26:=nK _ (by decide)
 omega
structure pS (x:List Nat):Prop where
 lo:1<=x.length
 hi:x.length<=8
 PR:∀c∈x,97<=c/\c<123
theorem ab3 (c:Int) (h1:1<=n) (h2:n<=8):pS (lH c n):=by
 refine ⟨by rw [yM];exact h1,by rw [yM];exact h2,fun x hx=>?_⟩
 obtain ⟨i,_,rfl⟩:=bN.mp hx
 have a0:0<=(c / 26 ^ i) % 26:=nK _ (by decide)
 have a1:(c / 26 ^ i) % 26<26:=yy _ (by decide)
 omega
def sQ (nss:List (List Nat)):List V:=nss.map fun x=>V.str (tx x)
theorem W_ (nss:List (List Nat)):(sQ nss).all rT=true:=by
 unfold sQ
 rw [List.all_map,pF]
 exact fun _ _=>rfl
theorem Up {a b:List Nat} (h:tx a=tx b):a=b:=by
 have:a.toArray=b.toArray:=by injection h
 simpa using this
theorem PU (x:List Nat) (nss:List (List Nat)):Lc (.str (tx x)) (sQ nss)=decide (x∈nss):=by
 unfold Lc sQ
 rw [List.any_map,BC,List.any_eq_true,decide_eq_true_eq]
 constructor
 . rintro ⟨y,hy,e⟩
   have e2:zX (.str (tx y)) (.str (tx x))=true:=e
   have e3:tx y=tx x:=by
    unfold zX at e2
    simpa using e2
   rw [<-Up e3]
   exact hy
 . intro h
   refine ⟨x,h,?_⟩
   show zX (.str (tx x)) (.str (tx x))=true
   unfold zX
   simp
theorem ZP (x:Str):PyData.eqv (.str x) (.str x)=true:=by unfold PyData.eqv;exact D5 x
open PySem.NumText
section
variable {X:Cx}
end
section
variable {X:Cx} {tg:Expr}
end
theorem ZQ (signs:Str) (c:Nat):sP signs c=decide (c∈signs.cps.toList):=PySem.StrLaws.found_one signs c
open Builtin Builtin.Str
section
variable {X:Cx}
end
theorem PV (c:Int) (j d:Nat):(c+(j:Int)*26 ^ d) / 26 ^ d=c / 26 ^ d+(j:Int):=by
 have hp:(26:Int) ^ d≠0:=Int.ne_of_gt (Int.pow_pos (by decide))
 rw [Int.add_mul_ediv_right _ _ hp]
variable {nss:List (List Nat)} {t:Nat}
theorem Uq {c:Int} {d:Nat} (h2:d<n) (ht:t<=26) (h:∀j:Nat,j<t->lH (c+(j:Int)*26 ^ d) n∈nss):t<=nss.length:=by
 have hn:((List.range t).map fun j=>lH (c+((j:Nat):Int)*26 ^ d) n).Nodup:=by
  have:(List.range t).Pairwise (fun a b=>a<b):=List.pairwise_lt_range
  refine List.Pairwise.map _ ?_ (List.Pairwise.and_mem.mp this)
  rintro a b ⟨ha,hb,hab⟩ e
  have ha':=yE.mp ha
  have hb':=yE.mp hb
  have:=ZO h2 e
  rw [PV,PV] at this
  omega
 have:=Lw hn fun x hx=>by
  obtain ⟨j,hj,rfl⟩:=bN.mp hx
  exact h j (yE.mp hj)
 rw [aF,CZ] at this
 exact this
inductive ab4 (K:Fg) (vs:List V) (H:Hp) (Q:VK) (E:XK):Prop
 | mk (a:Addr) (ms:List Int) (k:Int) (many:Nat) (_:vs=[.ref a, .int k, .int (many:Int)]) (_:aC K H a (ms.map V.int)) (_:ms.length<=63) (_:0<=k) (_:many<=25) (_:∀(z:Addr) (nss:List (List Nat)) (H':Hp),aI H H'->H' z=some (.lst (sQ nss))->H z=none->nss.length=many->nss.Nodup->(∀x∈nss,pS x)->Q (.ref z) H')
def GN (K:Fg):Sp:=bx (ab4 K)
theorem II {Q:VK} {ms:List Int} {k mi:Int} {many:Nat} (hmi:mi=(many:Int)) (hS:aC K H a (ms.map V.int)) (h63:ms.length<=63) (h1:0<=k) (h2:many<=25)
  (h:∀(z:Addr) (nss:List (List Nat)) (H':Hp),aI H H'->H' z=some (.lst (sQ nss))->H z=none->nss.length=many->nss.Nodup->(∀x∈nss,pS x)->Q (.ref z) H'):GN K [.ref a, .int k, .int mi] H Q E:=by
 subst hmi
 exact ⟨a,ms,k,many,Z,hS,h63,h1,h2,h⟩
theorem ya {a:List (Key×V)} {b:List (Key×Value)} (r:KV a b):∀{j:Nat} {p:Key×V},a[j]?=some p->∃q,b[j]?=some q/\p.1=q.1/\RelV p.2 q.2:=by
 induction r with
 | nil=>intro j p z;simp at z
 | cons r1 _ ih=>
   intro j p z
   cases j with
   | zero=>simp at z;subst z;exact ⟨_,Z,r1⟩
   | succ j=>simp at z;obtain ⟨q,a1,a2⟩:=ih z;exact ⟨q,by simpa using a1,a2⟩
abbrev oW (H:Hp) (d:Addr) (o:Obj) (kvs:List (Key×V)):Prop:=H d=some (.fE o (.dK kvs))
section
variable {X:Cx} {pins:AO} {σ σ':St} {H H':Hp} {s s':Shared} {d:Addr} {kvs:List (Key×V)} {o:Obj}
theorem Inv.freeze (I:Inv X pins σ H s) (e:H d=some (.dK kvs)) (ho:s.heap.get? d=some o):Inv X pins σ (upd H d (.fE o (.dK kvs))) s:=by
 have nd:∀{b:Addr},H b=none->b≠d:=fun h z=>by rw [z,e] at h;cases h
 have dn:∀{b:Addr},H b=none->upd H d (.fE o (.dK kvs)) b=none:=fun h=>by rw [av (nd h)];exact h
 have un:∀{b:Addr} {u:HO},H b=some u->(∀k,u ≠ .dK k)->b≠d:=fun h k z=>by rw [z,e] at h;cases h;exact k _ rfl
 refine ⟨I.ok,I.os,I.bare,⟨I.base.keep,I.base.slot,fun b ob q n x=>dn (I.base.free b ob q n x),I.base.there,fun b xs q=>?_,fun b ob u q=>?_,fun b ps q=>?_⟩,I.loc,I.cell,dn I.free,fun x c q=>dn (I.jP x c q),fun p hp=>?_,fun b ob q=>?_,I.len⟩
 . have:=I.base.tups b xs q
   rw [av (un this fun k z=>by cases z)];exact this
 . have:=I.base.m9 b ob u q
   rw [av (un this fun k z=>by cases z)];exact this
 . obtain ⟨more,this⟩:=I.base.pJ b ps q
   exact ⟨more,by rw [av (un this fun k z=>by cases z)];exact this⟩
 . obtain ⟨h1,h2,h3⟩:=I.pin p hp
   exact ⟨h1,dn h2,h3⟩
 . by_cases hb:b=d
   . subst hb
     rw [ak] at q;cases q
     have:=I.hok b _ e
     exact ⟨ho,this⟩
   . rw [av hb] at q
     refine (I.hok b ob q).stay (fun c u _ z=>z) (fun c z=>?_) fun c xs z=>?_
     . rw [av (un z fun k z=>by cases z)];exact z
     . rw [av (un z fun k z=>by cases z)];exact z
theorem Inv.Dc (I:Inv X pins σ H s) (e:oW H d o kvs) (h0:∀o u,X.H₀ d≠some (.fE o u)):Inv X pins σ (upd H d (.dK kvs)) s:=by
 have nd:∀{b:Addr},H b=none->b≠d:=fun h z=>by rw [z] at h;exact absurd (h.symm.trans e) (by simp)
 have dn:∀{b:Addr},H b=none->upd H d (.dK kvs) b=none:=fun h=>by rw [av (nd h)];exact h
 have un:∀{b:Addr} {u:HO},H b=some u->(∀o k,u ≠ .fE o k)->b≠d:=fun h k z=>by rw [z] at h;have:=h.symm.trans e;cases this;exact k _ _ rfl
 refine ⟨I.ok,I.os,I.bare,⟨I.base.keep,I.base.slot,fun b ob q n x=>dn (I.base.free b ob q n x),I.base.there,fun b xs q=>?_,fun b ob u q=>?_,fun b ps q=>?_⟩,I.loc,I.cell,dn I.free,fun x c q=>dn (I.jP x c q),fun p hp=>?_,fun b ob q=>?_,I.len⟩
 . have:=I.base.tups b xs q
   rw [av (un this fun _ k z=>by cases z)];exact this
 . have:=I.base.m9 b ob u q
   rw [av (fun (z:b=d)=>h0 ob u (by rw [<-z];exact q))];exact this
 . obtain ⟨more,this⟩:=I.base.pJ b ps q
   exact ⟨more,by rw [av (un this fun _ k z=>by cases z)];exact this⟩
 . obtain ⟨h1,h2,h3⟩:=I.pin p hp
   exact ⟨h1,dn h2,h3⟩
 . by_cases hb:b=d
   . subst hb
     rw [ak] at q;cases q
     exact (I.hok b _ e).2
   . rw [av hb] at q
     refine (I.hok b ob q).stay (fun c u _ z=>z) (fun c z=>?_) fun c xs z=>?_
     . rw [av (un z fun _ k z=>by cases z)];exact z
     . rw [av (un z fun _ k z=>by cases z)];exact z
theorem Inv.Ur (I:Inv X pins σ H s) (e:H d=some (.dK kvs)):∀o u,X.H₀ d≠some (.fE o u):=fun o u z=>by
 have:=I.base.m9 d o u z
 rw [e] at this;cases this
theorem Inv.rX (I:Inv X pins σ H s) (e:oW H d o kvs):s.heap.get? d=some o/\kvs.length<=sizeLine/\(d==sysModules)=false/\∃vs ep,KV kvs vs/\s.heap.DictAt (c9 X.prog X.w) d vs ep:=by
 obtain ⟨ho,hz,hs,vs,r,dd⟩:=(show dQ X.prog X.w H s.heap d (.fE o (.dK kvs)) from I.hok d _ e)
 obtain ⟨ep,da⟩:=dd.dictAt
 exact ⟨ho,hz,hs,vs,ep,r,da⟩
end
def Ends.Dc (D:Ends) (d:Addr) (o:Obj) (kvs:List (Key×V)):Ends where
 nx:=fun σ H=>oW H d o kvs/\D.nx σ (upd H d (.dK kvs))
 rt:=fun v H=>oW H d o kvs/\D.rt v (upd H d (.dK kvs))
 bk:=fun σ H=>oW H d o kvs/\D.bk σ (upd H d (.dK kvs))
 ct:=fun σ H=>oW H d o kvs/\D.ct σ (upd H d (.dK kvs))
inductive ahW (t:TS) (D:Ends) (σ:St) (H:Hp):Prop
 | mk  (d kvs:_) (_:H d=some (.dK kvs)) (_:∀o,t (D.Dc d o kvs) σ (upd H d (.fE o (.dK kvs))))
def ahX (t:TE):TE:=fun σ H Q=>∃d kvs,H d=some (.dK kvs)/\∀o,t σ (upd H d (.fE o (.dK kvs))) fun v H'=>oW H' d o kvs/\Q v (upd H' d (.dK kvs))
def Itv (d:Addr) (o:Obj) (kvs:List (Key×V)):It:=⟨fun i H=>oW H d o kvs/\i<kvs.length,fun i H x H'=>H'=H/\∃p,kvs[i]?=some p/\x=p.2,fun i H=>oW H d o kvs/\kvs.length<=i⟩
def Iti (d:Addr) (o:Obj) (kvs:List (Key×V)):It:=⟨fun i H=>oW H d o kvs/\i<kvs.length,fun i H x H'=>∃a p,H a=none/\kvs[i]?=some p/\x = .ref a/\H'=upd H a (.tup [kV p.1,p.2]),fun i H=>oW H d o kvs/\kvs.length<=i⟩
variable {h:Heap} {P:Program} {d:Addr}
theorem B0 {w:World} {vs:List (Key×Value)} {e1 e2:Nat} {o:Obj} {es:Array DictEntry} (da:h.DictAt (c9 P w) d vs e1) (ho:h.get? d=some o) (hd:o.data = .dict es e2):e1=e2:=by
 obtain ⟨o',es',h1,_,h2,_⟩:=da
 rw [ho] at h1;cases h1
 rw [hd] at h2;cases h2;rfl
theorem Lx {w:World} {k:Key} {v:Value} (h:(c9 P w).is k v=true):RelV (kV k) v:=by
 rw [Rm] at h
 rcases gj h with ⟨i,t,rfl,rfl⟩|⟨x,t,rfl,rfl⟩
 . exact ⟨t,Z⟩
 . exact ⟨t,Z⟩
variable {it:Addr} {kvs:List (Key×V)} {ep:Nat}
theorem Us {w:World} {o:Obj} {es:Array DictEntry} (hd:o.data = .dict es ep):
  Turn P w K tg (Itv d o kvs) [it] it (fun i h=>h.IsValIter it d i kvs.length ep) where
 mem:=by simp
 obj:=fun i h st b hb=>by
  have e:b=it:=by simpa using hb
  subst e
  obtain ⟨o,e,c,d⟩:=st
  exact ⟨o,e,fun v z=>by rw [d] at z;cases z⟩
 keep:=fun i h h' st k=>st.at fun o e=>k it (by simp) o e
 item:=by
  intro X hP hw hK hc i pins s σ H E I hf st hg
  subst hP hw hK
  obtain ⟨hz,hlt⟩:=hg
  obtain ⟨ho,_,_,vs,xX,r,da⟩:=I.rX hz
  cases B0 da ho hd
  have hl:kvs.length=vs.length:=r.length
  obtain ⟨q,hq,_,rq⟩:=ya r (a_ hlt)
  obtain ⟨qk,qv⟩:=q
  rw [hl] at st
  obtain ⟨f0,f1,f2,f3,f4,f5⟩:=hf it (by simp)
  refine wpAny_pyNext_values_item st da hq fun h' st' sb=>?_
  have I1:Inv X pins σ H { s with heap:=h' }:=I.turned (t':=s.toks) (fun b o hb e=>(sb.2 b hb).trans e) f0 f1 f3 f4 f5
  obtain ⟨oi,e,c,dd⟩:=id st'
  exact ⟨_,Z,Ej (s:={ s with heap:=h' }) e c dd (by decide) ⟨kvs[i].2,H,I1,rq,⟨Z,kvs[i],a_ hlt,Z⟩,by rw [hl];exact st',fun b hb=>(hf b hb).1⟩⟩
 done:=by
  intro X hP hw hK hc i pins s σ H E I hf st hg
  subst hP hw hK
  obtain ⟨hz,hle⟩:=hg
  obtain ⟨ho,_,_,vs,xX,r,da⟩:=I.rX hz
  cases B0 da ho hd
  have hl:kvs.length=vs.length:=r.length
  rw [hl] at st
  obtain ⟨f0,f1,f2,f3,f4,f5⟩:=hf it (by simp)
  exact wpAny_pyNext_values_end (I.ok.hd hc) st da (by rw [uQ];omega) fun h' eb=>⟨Z,I.turned (t':=s.toks) (fun b o hb e=>eb b o hb e) f0 f1 f3 f4 f5⟩
 self:=fun _ _ _ _ _ st h=>wpAny_pyIter_valiter st h
variable {elts:List Expr}
theorem RL {w:World} {kk:Nat} {o:Obj} {es:Array DictEntry} (hd:o.data = .dict es ep):
  Turn P w K (.Tuple elts kk pos) (Iti d o kvs) [it] it (fun i h=>∃ok ov,IsItemIter h it d i kvs.length ep ok ov) where
 mem:=by simp
 obj:=fun i h st b hb=>by
  have e:b=it:=by simpa using hb
  subst e
  obtain ⟨ok,ov,e⟩:=st
  exact ⟨_,e,fun v z=>by cases z⟩
 keep:=fun i h h' ⟨ok,ov,st⟩ k=>⟨ok,ov,k it (by simp) _ st⟩
 item:=by
  intro X hP hw hK hc i pins s σ H E I hf st hg
  subst hP hw hK
  obtain ⟨hz,hlt⟩:=hg
  obtain ⟨ok,ov,st⟩:=st
  obtain ⟨ho,_,_,vs,xX,r,da⟩:=I.rX hz
  cases B0 da ho hd
  have hl:kvs.length=vs.length:=r.length
  obtain ⟨q,hq,ek,rq⟩:=ya r (a_ hlt)
  obtain ⟨qk,qv⟩:=q
  rw [hl] at st
  obtain ⟨f0,f1,f2,f3,f4,f5⟩:=hf it (by simp)
  refine wpAny_pyNext_items_item st da hq fun key h1 hk st1 ht hsz hkeep=>?_
  refine ⟨_,Z,wpAny_letOwnedTupleGo_items (s:={ s with heap:=h1 }) st1 fun h2 st2 sb=>?_⟩
  have rk:RelV (kV kvs[i].1) key:=by rw [ek];exact Lx hk
  have hil:it≠s.heap.objs.size:=dS (bQ st)
  have wF:∀b o,b≠it->s.heap.get? b=some o->h2.get? b=some o:=fun b o hb e=>sb.extBut b o hb (hkeep b o hb e)
  have I1:Inv X pins σ (upd H s.heap.objs.size (.tup [kV kvs[i].1,kvs[i].2])) { s with heap:=h2 }:=by
   have J:Inv X pins σ H { s with heap:=h2 }:=I.turned (t':=s.toks) wF f0 f1 f3 f4 f5
   have hn:=I.fresh
   have J2:Inv X pins σ (upd H s.heap.objs.size (.tup [kV kvs[i].1,kvs[i].2])) { s with heap:=h2,gens:=s.gens,drawn:=s.drawn,toks:=s.toks }:=by
    refine I.step (ch:=[it]) (fun b hb=>⟨(hf b hb).2.2.2.1,(hf b hb).2.1,(hf b hb).2.2.2.2.1,(hf b hb).2.2.2.2.2⟩) (fun b o _ _ hc' e _=>wF b o (by simpa using hc') e) (fun b o _ _ hc' e _=>⟨o.slots,wF b o (by simpa using hc') e⟩) (fun b o _ e n=>by rw [av (dS (bQ e))];exact n) (fun b o hc' e=>⟨o,wF b o (by simpa using hc') e⟩)
     (fun b zs q=>by rw [av (aE q hn)];exact q) (fun b o zs q=>by rw [av (aE q hn)];exact q) (fun b ps q=>⟨#[],by rw [av (aE q hn),q];simp⟩) (fun m hm=>?_) (fun b ob e=>?_) I.bare
    . obtain ⟨o,es,ep,ho,r⟩:=hm
      exact ⟨o,es,ep,wF _ o (fun q=>f1 q.symm) ho,r⟩
    . by_cases hb:b=s.heap.objs.size
      . subst hb
        rw [ak] at e;cases e
        exact ⟨by show 2<=sizeLine;decide,[key,qv], .cons rk (.cons rq .nil),_,sb.extBut _ _ hil.symm ht,Z,0,Z⟩
      . rw [av hb] at e
        refine (I.hok b ob e).stay (fun c v Ut q=>?_) (fun c q=>by rw [av (aE q hn)];exact q) fun c zs q=>by rw [av (aE q hn)];exact q
        refine wF c v (fun z=>?_) q
        rcases Ut with r|r
        . rw [r] at z;rw [z,f0] at e;cases e
        . rw [z,f0] at r;cases r
   exact J2
  refine ⟨.ref s.heap.objs.size,_,I1,Z,⟨_,kvs[i],I.fresh,a_ hlt,Z,Z⟩,⟨key,qv,by rw [hl];exact st2⟩,fun b hb=>?_⟩
  have eb:b=it:=by simpa using hb
  subst eb
  rw [av hil]
  exact f0
 done:=by
  intro X hP hw hK hc i pins s σ H E I hf st hg
  subst hP hw hK
  obtain ⟨hz,hle⟩:=hg
  obtain ⟨ok,ov,st⟩:=st
  obtain ⟨ho,_,_,vs,xX,r,da⟩:=I.rX hz
  cases B0 da ho hd
  have hl:kvs.length=vs.length:=r.length
  rw [hl] at st
  obtain ⟨f0,f1,f2,f3,f4,f5⟩:=hf it (by simp)
  exact wpAny_pyNext_items_end (I.ok.hd hc) st da (by rw [uQ];omega) fun h' eb=>⟨Z,I.turned (t':=s.toks) (fun b o hb e=>eb b o hb e) f0 f1 f3 f4 f5⟩
 self:=fun A i s Q E ⟨ok,ov,st⟩ h=>PySem.W.kcp_self st h
section
variable {X:Cx} {tg:Expr}
inductive ab5 (R:It->Hp->Prop) (x:V) (H1:Hp):Prop
 | mk  (d o kvs:_) (_:x = .ref d) (_:oW H1 d o kvs) (_:R (Itv d o kvs:_) H1)
def aeF (td:TE):TI:=fun σ H R=>td σ H (ab5 R)
inductive ZR (R:It->Hp->Prop) (x:V) (H1:Hp):Prop
 | mk  (d o kvs:_) (_:x = .ref d) (_:oW H1 d o kvs) (_:R (Iti d o kvs:_) H1)
def ab6 (td:TE):TI:=fun σ H R=>td σ H (ZR R)
end
variable {J:It}
theorem uZ (Pv:Nat->St->Hp->Prop) (h0:Pv 0 σ H) (hgo:∀i σ H,i<n->Pv i σ H->J.go i H) (hst:∀σ H,Pv n σ H->J.stop n H)
  (hs:∀i x σ H H',i<n->Pv i σ H->J.Ei i H x H'->g x σ H' (tb (D.lp (Pv (i+1))))) (hd:∀σ H,Pv n σ H->D.nx σ H):
  Ek g tb D σ (J) H:=by
 refine ⟨fun i m σ H=>m=n-i/\i<=n/\Pv i σ H,⟨n,by simp,fT _,h0⟩,?_⟩
 rintro i m σ H ⟨rfl,hi,p⟩
 by_cases hlt:i<n
 . exact .inr ⟨hgo i σ H hlt p,Pv (i+1),fun σ' H' p'=>⟨n-(i+1),by omega,Z,hlt,p'⟩,fun x H' y=>hs i x σ H H' hlt p y⟩
 . have e:i=n:=by omega
   subst e
   exact .inl ⟨hst σ H p,hd σ H p⟩
section
variable {prog:Program} {w:World} {K:Type} [DecidableEq K] {knd:KeyKind prog w K} {A:Around} {E:VS} {s:Shared}
theorem Oh {kvs:List (K×Value)} {k:K} {v:Value} {Q:VS} (hit:s.heap.IsKeyIter it d i kvs.length ep)
  (hm:s.heap.DictAt knd d kvs ep) (hx:kvs[i]?=some (k,v)) (hQ:∀key h',knd.is k key=true->h'.IsKeyIter it d (i+1) kvs.length ep->Heap.SameBut it s.heap h'->Q key { s with heap:=h' }):
  wpAny (model prog w) A (Builtin.SmallTypes.nextOf (.ref it)) Q E s:=by
 obtain ⟨o,ho,hc,hd⟩:=id hit;obtain ⟨od,es,hod,hcd,Az,hk,hp,hn⟩:=id hm
 unfold Builtin.SmallTypes.nextOf
 refine aq (yv (name:=Str.ofString "__next__") hit.typeIs Yc (yz Yc hit.typeIs F.entry_dict_keyiterator_next ?_ (F.args_dict_keyiterator_next_1 _)))
 refine aq (aL ?_);refine aq (aq ?_)
 first|(refine aq (X_ hit.typeIs (aL ?_));refine aq (wk ho hd ?_))|(refine aq (Q2 hit.typeIs (aL ?_));refine aq (wk ho hd ?_))
 have own:Builtin.Dict_items.ownsTuple "dict_keyiterator"=false:=by decide
 simp only [own,Gy,lF]
 show wpAny _ _ (if (Value.ref d==Value.none)=true then _ else _) _ _ _
 rw [az (fun z=>fF z:¬ ((Value.ref d==Value.none)=true))];refine aq (aL ?_)
 have sz:es.size=kvs.length:=by have:=hp.length;simpa using this
 refine aq (Rl hod Az ?_);rw [az (by rw [sz];simp)]
 refine aq (aL ?_);refine aq (Kw hod Az ?_)
 rw [az (by simp)];refine aL ?_
 have lt:i<kvs.length:=(d7.mp hx).1
 have lt':i<es.size:=by omega
 have kv:=hp.get? (e:=es[i]) (by simp [lt']) hx
 simp only [show ¬ ((i:Int)<0) from by omega,lF,xj,Array.getElem?_eq_getElem lt'];refine aq ?_
 first|(refine aq (X_ hit.typeIs (aL ?_));refine aq (wpAny_isOneOf_keyiter hit.typeIs ?_))|(refine aq (Q2 hit.typeIs (aL ?_));refine aq (wpAny_isOneOf_keyiter hit.typeIs ?_))
 show wpAny _ _ (setField (.ref it) 1 (rawInt ((i:Int)+1)) >>= _) _ _ _
 refine aq (BF ho hd (by simp) ?_)
 have GO:(s.heap.update it (Obj.mapFields (·.setIfInBounds 1 (rawInt ((i:Int)+1))))).IsKeyIter it d (i+1) kvs.length ep:=⟨_,CV _ ho (Obj.isFreed_of_fields (Gz hd _)),(Obj.cls_mapFields ..).trans hc,by rw [Gz hd];simp [rawInt]⟩
 refine aq (yF (aq (wpAny_isOneOf_keyiter (s:={ s with heap:=s.heap.update it (Obj.mapFields (·.setIfInBounds 1 (rawInt ((i:Int)+1)))) }) GO.typeIs ?_)))
 exact aL (aL ⟨_,Z,aL (hQ _ _ kv.1 GO (Gv ..))⟩)
theorem RM {kvs:List (K×Value)} {Q:VS} (hh:A.handled=none) (hit:s.heap.IsKeyIter it d i kvs.length ep)
  (hm:s.heap.DictAt knd d kvs ep) (hx:kvs[i]?=none) (hE:∀h' e,Heap.ExtBut it s.heap h'->(∃o,h'.get? e=some o/\o.cls = .type "StopIteration")->E (.ref e) { s with heap:=h' }):
  wpAny (model prog w) A (Builtin.SmallTypes.nextOf (.ref it)) Q E s:=by
 obtain ⟨o,ho,hc,hd⟩:=id hit;obtain ⟨od,es,hod,hcd,Az,hk,hp,hn⟩:=id hm
 unfold Builtin.SmallTypes.nextOf
 refine aq (yv (name:=Str.ofString "__next__") hit.typeIs Yc (yz Yc hit.typeIs F.entry_dict_keyiterator_next ?_ (F.args_dict_keyiterator_next_1 _)))
 refine aq (aL ?_);refine aq (aq ?_)
 first|(refine aq (X_ hit.typeIs (aL ?_));refine aq (wk ho hd ?_))|(refine aq (Q2 hit.typeIs (aL ?_));refine aq (wk ho hd ?_))
 have own:Builtin.Dict_items.ownsTuple "dict_keyiterator"=false:=by decide
 simp only [own,Gy,lF]
 show wpAny _ _ (if (Value.ref d==Value.none)=true then _ else _) _ _ _
 rw [az (fun z=>fF z:¬ ((Value.ref d==Value.none)=true))];refine aq (aL ?_)
 have sz:es.size=kvs.length:=by have:=hp.length;simpa using this
 refine aq (Rl hod Az ?_);rw [az (by rw [sz];simp)]
 refine aq (aL ?_);refine aq (Kw hod Az ?_)
 rw [az (by simp)];refine aL ?_
 have ge:es.size<=i:=by rw [sz];simpa using hx
 simp only [show ¬ ((i:Int)<0) from by omega,lF,xj,Array.getElem?_eq_none ge];refine aq ?_
 first|(refine aq (X_ hit.typeIs (aL ?_));show wpAny _ _ (setField (.ref it) 0 .none >>= _) _ _ _)|(refine aq (Q2 hit.typeIs (aL ?_));show wpAny _ _ (setField (.ref it) 0 .none >>= _) _ _ _)
 refine aq (BF ho hd (by simp) ?_);show wpAny _ _ (newExc (.type "StopIteration") [] >>= _) _ _ _
 refine aq ?_;simp only [newExc,newTuple]
 refine aq (qN ?_ (by size_fits));refine aq (m:=firstArgMember _ _) (wpAny_of_eq (a:=Value.none) (by first|rfl|(simp only [firstArgMember];rfl)) ?_)
 refine qN ?_ (by size_fits);simp only [raiseNew]
 refine aq (wpAny_handled ?_);rw [show A.in1.handled=none from hh]
 exact aq (aL (wpAny_throw (hE _ _ (((Gv ..).extBut.push _).push _) ⟨_,d_ _ rfl,Z⟩)))
theorem Oi {kvs:List (K×Value)} {k:K} {v:Value} {Q:VS} (hit:s.heap.IsValIter it d i kvs.length ep)
  (hm:s.heap.DictAt knd d kvs ep) (hx:kvs[i]?=some (k,v)) (hQ:∀h',h'.IsValIter it d (i+1) kvs.length ep->Heap.SameBut it s.heap h'->Q v { s with heap:=h' }):
  wpAny (model prog w) A (Builtin.SmallTypes.nextOf (.ref it)) Q E s:=by
 obtain ⟨o,ho,hc,hd⟩:=id hit;obtain ⟨od,es,hod,hcd,Az,hk,hp,hn⟩:=id hm
 unfold Builtin.SmallTypes.nextOf
 refine aq (yv (name:=Str.ofString "__next__") hit.typeIs X8 (yz X8 hit.typeIs F.entry_dict_valueiterator_next ?_ (F.args_dict_valueiterator_next_1 _)))
 refine aq (aL ?_);refine aq (aq ?_)
 first|(refine aq (Yb hit.typeIs (aL ?_));refine aq (wk ho hd ?_))|(refine aq (Q3 hit.typeIs (aL ?_));refine aq (wk ho hd ?_))
 have own:Builtin.Dict_items.ownsTuple "dict_valueiterator"=false:=by decide
 simp only [own,Gy,lF]
 show wpAny _ _ (if (Value.ref d==Value.none)=true then _ else _) _ _ _
 rw [az (fun z=>fF z:¬ ((Value.ref d==Value.none)=true))];refine aq (aL ?_)
 have sz:es.size=kvs.length:=by have:=hp.length;simpa using this
 refine aq (Rl hod Az ?_);rw [az (by rw [sz];simp)]
 refine aq (aL ?_);refine aq (Kw hod Az ?_)
 rw [az (by simp)];refine aL ?_
 have lt:i<kvs.length:=(d7.mp hx).1
 have lt':i<es.size:=by omega
 have kv:=hp.get? (e:=es[i]) (by simp [lt']) hx
 simp only [show ¬ ((i:Int)<0) from by omega,lF,xj,Array.getElem?_eq_getElem lt'];refine aq ?_
 first|(refine aq (Yb hit.typeIs (aL ?_));refine aq (Q8 hit.typeIs ?_))|(refine aq (Q3 hit.typeIs (aL ?_));refine aq (Q8 hit.typeIs ?_))
 show wpAny _ _ (setField (.ref it) 1 (rawInt ((i:Int)+1)) >>= _) _ _ _
 refine aq (BF ho hd (by simp) ?_)
 have GO:(s.heap.update it (Obj.mapFields (·.setIfInBounds 1 (rawInt ((i:Int)+1))))).IsValIter it d (i+1) kvs.length ep:=⟨_,CV _ ho (Obj.isFreed_of_fields (Gz hd _)),(Obj.cls_mapFields ..).trans hc,by rw [Gz hd];simp [rawInt]⟩
 refine aq (yF (aq (Q8 (s:={ s with heap:=s.heap.update it (Obj.mapFields (·.setIfInBounds 1 (rawInt ((i:Int)+1)))) }) GO.typeIs ?_)))
 refine aq (Q8 (s:={ s with heap:=s.heap.update it (Obj.mapFields (·.setIfInBounds 1 (rawInt ((i:Int)+1)))) }) GO.typeIs ?_)
 exact aL (aL ⟨_,Z,aL (kv.2▸hQ _ GO (Gv ..))⟩)
theorem RN {kvs:List (K×Value)} {Q:VS} (hh:A.handled=none) (hit:s.heap.IsValIter it d i kvs.length ep)
  (hm:s.heap.DictAt knd d kvs ep) (hx:kvs[i]?=none) (hE:∀h' e,Heap.ExtBut it s.heap h'->(∃o,h'.get? e=some o/\o.cls = .type "StopIteration")->E (.ref e) { s with heap:=h' }):
  wpAny (model prog w) A (Builtin.SmallTypes.nextOf (.ref it)) Q E s:=by
 obtain ⟨o,ho,hc,hd⟩:=id hit;obtain ⟨od,es,hod,hcd,Az,hk,hp,hn⟩:=id hm
 unfold Builtin.SmallTypes.nextOf
 refine aq (yv (name:=Str.ofString "__next__") hit.typeIs X8 (yz X8 hit.typeIs F.entry_dict_valueiterator_next ?_ (F.args_dict_valueiterator_next_1 _)))
 refine aq (aL ?_);refine aq (aq ?_)
 first|(refine aq (Yb hit.typeIs (aL ?_));refine aq (wk ho hd ?_))|(refine aq (Q3 hit.typeIs (aL ?_));refine aq (wk ho hd ?_))
 have own:Builtin.Dict_items.ownsTuple "dict_valueiterator"=false:=by decide
 simp only [own,Gy,lF]
 show wpAny _ _ (if (Value.ref d==Value.none)=true then _ else _) _ _ _
 rw [az (fun z=>fF z:¬ ((Value.ref d==Value.none)=true))];refine aq (aL ?_)
 have sz:es.size=kvs.length:=by have:=hp.length;simpa using this
 refine aq (Rl hod Az ?_);rw [az (by rw [sz];simp)]
 refine aq (aL ?_);refine aq (Kw hod Az ?_)
 rw [az (by simp)];refine aL ?_
 have ge:es.size<=i:=by rw [sz];simpa using hx
 simp only [show ¬ ((i:Int)<0) from by omega,lF,xj,Array.getElem?_eq_none ge];refine aq ?_
 first|(refine aq (Yb hit.typeIs (aL ?_));show wpAny _ _ (setField (.ref it) 0 .none >>= _) _ _ _)|(refine aq (Q3 hit.typeIs (aL ?_));show wpAny _ _ (setField (.ref it) 0 .none >>= _) _ _ _)
 refine aq (BF ho hd (by simp) ?_);show wpAny _ _ (newExc (.type "StopIteration") [] >>= _) _ _ _
 refine aq ?_;simp only [newExc,newTuple]
 refine aq (qN ?_ (by size_fits));refine aq (m:=firstArgMember _ _) (wpAny_of_eq (a:=Value.none) (by first|rfl|(simp only [firstArgMember];rfl)) ?_)
 refine qN ?_ (by size_fits);simp only [raiseNew]
 refine aq (wpAny_handled ?_);rw [show A.in1.handled=none from hh]
 exact aq (aL (wpAny_throw (hE _ _ (((Gv ..).extBut.push _).push _) ⟨_,d_ _ rfl,Z⟩)))
end
structure AA (P:Program) (w:World) (K:Fg) (S:Hp->Prop) (xs:List V) (it l:Addr) (tn:Nat->Heap->Prop) (src:Heap->Prop):Prop where
 obj:∀i h,tn i h->∃o,h.get? it=some o/\∀v,o.data ≠ .cell v
 keep:∀i h h',tn i h->(∀o,h.get? it=some o->h'.get? it=some o)->tn i h'
 wG:∀h h',src h->(∀o,h.get? l=some o->h'.get? l=some o)->src h'
 IJ:∀(X:Cx),X.prog=P->X.w=w->X.K=K->∀(pins:AO) (σ:St) (H:Hp) (s:Shared),Inv X pins σ H s->S H->src s.heap
 item:∀(A:Around) (i:Nat) (x:V) (s:Shared) (Q:VS) (E:VS),tn i s.heap->src s.heap->xs[i]?=some x->(∀u h',RelV x u->tn (i+1) h'->Heap.SameBut it s.heap h'->Q u { s with heap:=h' })->wpAny (model P w) A (Builtin.SmallTypes.nextOf (.ref it)) Q E s
 done:∀(A:Around) (i:Nat) (s:Shared) (Q:VS) (E:VS),A.handled=none->tn i s.heap->src s.heap->xs.length<=i->(∀h' e,Heap.ExtBut it s.heap h'->(∃o,h'.get? e=some o/\o.cls = .type "StopIteration")->E (.ref e) { s with heap:=h' })->wpAny (model P w) A (Builtin.SmallTypes.nextOf (.ref it)) Q E s
theorem Xa {w:World} {l:Addr}:AA P w K (fun H=>aC K H l xs) xs it l (fun i h=>h.IsListIter it l i) (fun h=>∃its:List Value,Vals xs its/\h.IsList l its.toArray) where
 obj:=fun i h ⟨o,e,c,d⟩=>⟨o,e,fun v z=>by rw [d] at z;cases z⟩
 keep:=fun i h h' st k=>st.at k
 wG:=fun h h' ⟨its,r,hl⟩ k=>⟨its,r,hl.at k⟩
 IJ:=fun X hP hw hK pins σ H s I h=>by
  subst hP hw hK
  obtain ⟨its,rv,p,_⟩:=I.list h
  exact ⟨its,rv,p.isList⟩
 item:=fun A i x s Q E st ⟨its,r,hl⟩ hx hQ=>by
  obtain ⟨u,hu,ru⟩:=r.get hx
  exact wpAny_nextOf_list_item st hl (by simpa using hu) fun h' st' sb=>hQ u h' ru st' sb
 done:=fun A i s Q E hh st ⟨its,r,hl⟩ hx hE=>wpAny_nextOf_list_end hh st hl (by have:=r.length;simp;omega) hE
theorem Xb {w:World} {o:Obj} {es:Array DictEntry} (hd:o.data = .dict es ep):
  AA P w K (fun H=>oW H d o kvs) (kvs.map fun p=>kV p.1) it d (fun i h=>h.IsKeyIter it d i kvs.length ep) (fun h=>∃vs,KV kvs vs/\h.DictAt (c9 P w) d vs ep) where
 obj:=fun i h ⟨o,e,c,d⟩=>⟨o,e,fun v z=>by rw [d] at z;cases z⟩
 keep:=fun i h h' st k=>st.at k
 wG:=fun h h' ⟨vs,r,hl⟩ k=>⟨vs,r,hl.at' k⟩
 IJ:=fun X hP hw hK pins σ H s I h=>by
  subst hP hw hK
  obtain ⟨ho,_,_,vs,xX,r,da⟩:=I.rX h
  cases B0 da ho hd
  exact ⟨vs,r,da⟩
 item:=fun A i x s Q E st ⟨vs,r,da⟩ hx hQ=>by
  rw [bK] at hx
  obtain ⟨p,hp,rfl⟩:=lS.mp hx
  obtain ⟨q,hq,ek,rq⟩:=ya r hp
  obtain ⟨qk,qv⟩:=q
  have hl:kvs.length=vs.length:=r.length
  rw [hl] at st
  exact Oh st da hq fun key h' hk st' sb=>hQ key h' (by rw [ek];exact Lx hk) (by rw [hl];exact st') sb
 done:=fun A i s Q E hh st ⟨vs,r,da⟩ hx hE=>by
  have hl:kvs.length=vs.length:=r.length
  rw [aF] at hx
  rw [hl] at st
  exact RM hh st da (by rw [uQ];omega) hE
theorem Xc {w:World} {o:Obj} {es:Array DictEntry} (hd:o.data = .dict es ep):
  AA P w K (fun H=>oW H d o kvs) (kvs.map fun p=>p.2) it d (fun i h=>h.IsValIter it d i kvs.length ep) (fun h=>∃vs,KV kvs vs/\h.DictAt (c9 P w) d vs ep) where
 obj:=fun i h ⟨o,e,c,d⟩=>⟨o,e,fun v z=>by rw [d] at z;cases z⟩
 keep:=fun i h h' st k=>st.at k
 wG:=fun h h' ⟨vs,r,hl⟩ k=>⟨vs,r,hl.at' k⟩
 IJ:=fun X hP hw hK pins σ H s I h=>by
  subst hP hw hK
  obtain ⟨ho,_,_,vs,xX,r,da⟩:=I.rX h
  cases B0 da ho hd
  exact ⟨vs,r,da⟩
 item:=fun A i x s Q E st ⟨vs,r,da⟩ hx hQ=>by
  rw [bK] at hx
  obtain ⟨p,hp,rfl⟩:=lS.mp hx
  obtain ⟨q,hq,ek,rq⟩:=ya r hp
  obtain ⟨qk,qv⟩:=q
  have hl:kvs.length=vs.length:=r.length
  rw [hl] at st
  exact Oi st da hq fun h' st' sb=>hQ qv h' rq (by rw [hl];exact st') sb
 done:=fun A i s Q E hh st ⟨vs,r,da⟩ hx hE=>by
  have hl:kvs.length=vs.length:=r.length
  rw [aF] at hx
  rw [hl] at st
  exact RN hh st da (by rw [uQ];omega) hE
section
variable {P:Program} {w:World} {A:Around} {E:VS} {s:Shared} {K:Fg} {S1 S2:Hp->Prop} {xs ys:List V} {z TI TO i1 i2 l1 l2:Addr} {t1 t2:Nat->Heap->Prop} {c1 c2:Heap->Prop} {i:Nat}
theorem Uu {x y:V} {a b:Value} {Q:VS} (D:ZipApart z TI TO i1 i2 l1 l2) (C1:AA P w K S1 xs i1 l1 t1 c1) (C2:AA P w K S2 ys i2 l2 t2 c2)
  (hz:IsZip s.heap z TI TO .none) (hTI:IsPair s.heap TI (.ref i1) (.ref i2)) (hTO:IsPair s.heap TO a b) (h1:t1 i s.heap) (h2:t2 i s.heap) (hc1:c1 s.heap) (hc2:c2 s.heap) (hx:xs[i]?=some x) (hy:ys[i]?=some y)
  (hQ:∀u v h',RelV x u->RelV y v->IsZip h' z TI TO (rawInt s.heap.objs.size)->IsPair h' TO u v->t1 (i+1) h'->t2 (i+1) h'->IsPair h' s.heap.objs.size u v->h'.objs.size=s.heap.objs.size+1->
    (∀c o,c≠z->c≠TO->c≠i1->c≠i2->s.heap.get? c=some o->h'.get? c=some o)->Q (.ref s.heap.objs.size) { s with heap:=h' }):
  wpAny (model P w) A (Builtin.«zip.__next__» ⟨[.ref z],[]⟩) (fun fin s'=>∃v,fin = .done (.ret v)/\Q v s') E s:=by
 show wpAny _ _ (field (.ref z) 2 >>= _) _ _ _
 refine aq (kF hz rfl (x:= .bool false) rfl ?_);show wpAny _ _ (field (.ref z) 3 >>= _) _ _ _
 refine aq (kF hz rfl (x:= .ref TI) rfl ?_);refine aq (ux hTI rfl ?_)
 show wpAny _ _ (Builtin.SmallTypes.ownedTupleIsFree (.ref z) >>= _) _ _ _
 refine aq ?_;unfold Builtin.SmallTypes.ownedTupleIsFree
 refine aq (kF hz rfl (x:= .none) rfl (aL ?_));simp only [rS]
 refine aq (wpAny_rule ?_);refine aq (kF hz rfl (x:= .ref TO) rfl ?_)
 refine aq (GA hz (by simp) fun hA oX sA=>?_)
 replace oX:IsZip hA z TI TO .ellipsis:=oX
 refine aq ?_;simp only [List.zipIdx_cons,List.zipIdx_nil,Ku,D_]
 refine aq (aq (wpAny_onRaise ?_));show wpAny _ _ (Builtin.SmallTypes.nextOf (.ref i1) >>= _) _ _ _
 refine aq (C1.item _ i x { s with heap:=hA } _ _ (C1.keep _ _ _ h1 fun o e=>sA.extBut _ _ D.i1z e) (C1.wG _ _ hc1 fun o e=>sA.extBut _ _ D.l1z e) hx fun u hB ru h1B sB=>aL ?_)
 have Uv:IsPair hB TO a b:=sB.extBut _ _ D.TOi1 (sA.extBut _ _ D.TOz hTO)
 refine aq (ux Uv rfl ?_);refine aq (wpAny_updateSeq_pair Uv fun hC Yx sC=>?_)
 replace Yx:IsPair hC TO u b:=Yx
 refine aq (wpAny_letGo (aL ?_));refine aq (aq (wpAny_onRaise ?_))
 show wpAny _ _ (Builtin.SmallTypes.nextOf (.ref i2) >>= _) _ _ _
 refine aq (C2.item _ i y { s with heap:=hC } _ _ (C2.keep _ _ _ h2 fun o e=>sC.extBut _ _ D.TOi2.symm (sB.extBut _ _ D.i12.symm (sA.extBut _ _ D.i2z e))) (C2.wG _ _ hc2 fun o e=>sC.extBut _ _ D.l2TO (sB.extBut _ _ D.l2i1 (sA.extBut _ _ D.l2z e))) hy fun v hD rv h2D sD=>aL ?_)
 have TOD:IsPair hD TO u b:=sD.extBut _ _ D.TOi2 Yx
 refine aq (ux TOD rfl ?_);refine aq (wpAny_updateSeq_pair TOD fun hE Yy sE=>?_)
 replace Yy:IsPair hE TO u v:=Yy
 refine aq (wpAny_letGo (aL (aL ?_)));refine aq (ux Yy rfl ?_)
 refine aq (wpAny_newTuple ?_)
 have sz:hE.objs.size=s.heap.objs.size:=by rw [sE.1,sD.1,sC.1,sB.1,sA.1]
 have zE:IsZip hE z TI TO .ellipsis:=sE.extBut _ _ D.TOz.symm (sD.extBut _ _ D.i2z.symm (sC.extBut _ _ D.TOz.symm (sB.extBut _ _ D.i1z.symm oX)))
 have kE:∀c o,c≠z->c≠TO->c≠i1->c≠i2->s.heap.get? c=some o->hE.get? c=some o:=fun c o c1 c2 c3 c4 e=>sE.extBut _ _ c2 (sD.extBut _ _ c4 (sC.extBut _ _ c2 (sB.extBut _ _ c3 (sA.extBut _ _ c1 e))))
 have t1E:t1 (i+1) hE:=C1.keep _ _ _ h1B fun o e=>sE.extBut _ _ D.TOi1.symm (sD.extBut _ _ D.i12 (sC.extBut _ _ D.TOi1.symm e))
 have t2E:t2 (i+1) hE:=C2.keep _ _ _ h2D fun o e=>sE.extBut _ _ D.TOi2.symm e
 have zlt:z<hE.objs.size:=bQ zE
 show wpAny _ _ (Builtin.SmallTypes.ownedTupleHandOut (.ref z) (.ref hE.objs.size) >>= _) _ _ _
 refine aq ?_;unfold Builtin.SmallTypes.ownedTupleHandOut
 have zF:IsZip (hE.push { cls:= .type "tuple",data:= .seq #[u,v] }) z TI TO .ellipsis:=cD _ zE
 refine aq (GA zF (by simp) fun hG zG sG=>?_)
 replace zG:IsZip hG z TI TO (rawInt hE.objs.size):=zG
 refine GA zG (by simp) fun hI zI sI=>?_
 replace zI:IsZip hI z TI TO (rawInt hE.objs.size):=zI
 have up:∀c o,c≠z->hE.get? c=some o->hI.get? c=some o:=fun c o c1 e=>sI.extBut _ _ c1 (sG.extBut _ _ c1 (cD _ e))
 have TI':IsPair hI hE.objs.size u v:=sI.extBut _ _ (yG zlt) (sG.extBut _ _ (yG zlt) (d_ _ rfl))
 have szI:hI.objs.size=hE.objs.size+1:=by rw [sI.1,sG.1,mH]
 rw [sz] at zI TI' szI
 refine aL ⟨_,Z,?_⟩
 show Q (.ref hE.objs.size) _
 rw [sz]
 exact hQ u v hI ru rv zI (up _ _ D.TOz Yy) (C1.keep _ _ _ t1E fun o e=>up _ o D.i1z e) (C2.keep _ _ _ t2E fun o e=>up _ o D.i2z e) TI' szI fun c o c1 c2 c3 c4 e=>up c o c1 (kE c o c1 c2 c3 c4 e)
theorem Xd {a b:Value} {Q:Fin->Shared->Prop} (hh:A.handled=none) (D:ZipApart z TI TO i1 i2 l1 l2) (C1:AA P w K S1 xs i1 l1 t1 c1) (C2:AA P w K S2 ys i2 l2 t2 c2)
  (hz:IsZip s.heap z TI TO .none) (hTI:IsPair s.heap TI (.ref i1) (.ref i2)) (hTO:IsPair s.heap TO a b) (h1:t1 i s.heap) (h2:t2 i s.heap) (hc1:c1 s.heap) (hc2:c2 s.heap) (hend:xs.length<=i\/ys.length<=i)
  (hE:∀h' e,(∀c o,c≠z->c≠TO->c≠i1->c≠i2->s.heap.get? c=some o->h'.get? c=some o)->(∃o,h'.get? e=some o/\o.cls = .type "StopIteration")->E (.ref e) { s with heap:=h' }):
  wpAny (model P w) A (Builtin.«zip.__next__» ⟨[.ref z],[]⟩) Q E s:=by
 show wpAny _ _ (field (.ref z) 2 >>= _) _ _ _
 refine aq (kF hz rfl (x:= .bool false) rfl ?_);show wpAny _ _ (field (.ref z) 3 >>= _) _ _ _
 refine aq (kF hz rfl (x:= .ref TI) rfl ?_);refine aq (ux hTI rfl ?_)
 show wpAny _ _ (Builtin.SmallTypes.ownedTupleIsFree (.ref z) >>= _) _ _ _
 refine aq ?_;unfold Builtin.SmallTypes.ownedTupleIsFree
 refine aq (kF hz rfl (x:= .none) rfl (aL ?_));simp only [rS]
 refine aq (wpAny_rule ?_);refine aq (kF hz rfl (x:= .ref TO) rfl ?_)
 refine aq (GA hz (by simp) fun hA oX sA=>?_)
 replace oX:IsZip hA z TI TO .ellipsis:=oX
 refine aq ?_;simp only [List.zipIdx_cons,List.zipIdx_nil,Ku,D_]
 refine aq (aq (wpAny_onRaise ?_));show wpAny _ _ (Builtin.SmallTypes.nextOf (.ref i1) >>= _) _ _ _
 have k1:=C1.keep _ _ _ h1 fun o e=>sA.extBut _ _ D.i1z e
 have k2:=C1.wG _ _ hc1 fun o e=>sA.extBut _ _ D.l1z e
 by_cases hx:xs.length<=i
 . refine aq (C1.done _ i { s with heap:=hA } _ _ hh k1 k2 hx fun hB e sB he=>?_)
   obtain ⟨oe,EM,hce⟩:=he
   have zB:IsZip hB z TI TO .ellipsis:=sB _ _ D.i1z.symm oX
   have ez:e≠z:=fun x=>by subst x;rw [zB] at EM;cases EM;simp at hce
   exact GA zB (by simp) fun hC _ sC=>hE hC e (fun c o c1 _ c3 _ x=>sC.extBut _ _ c1 (sB _ _ c3 (sA.extBut _ _ c1 x))) ⟨oe,sC.extBut _ _ ez EM,hce⟩
 . have hy:ys.length<=i:=hend.resolve_left hx
   refine aq (C1.item _ i xs[i] { s with heap:=hA } _ _ k1 k2 (a_ (by omega)) fun u hB ru h1B sB=>aL ?_)
   have Uv:IsPair hB TO a b:=sB.extBut _ _ D.TOi1 (sA.extBut _ _ D.TOz hTO)
   refine aq (ux Uv rfl ?_);refine aq (wpAny_updateSeq_pair Uv fun hC Yx sC=>?_)
   refine aq (wpAny_letGo (aL ?_));refine aq (aq (wpAny_onRaise ?_))
   show wpAny _ _ (Builtin.SmallTypes.nextOf (.ref i2) >>= _) _ _ _
   refine aq (C2.done _ i { s with heap:=hC } _ _ hh (C2.keep _ _ _ h2 fun o e=>sC.extBut _ _ D.TOi2.symm (sB.extBut _ _ D.i12.symm (sA.extBut _ _ D.i2z e))) (C2.wG _ _ hc2 fun o e=>sC.extBut _ _ D.l2TO (sB.extBut _ _ D.l2i1 (sA.extBut _ _ D.l2z e))) hy fun hD e sD he=>?_)
   obtain ⟨oe,EM,hce⟩:=he
   have zD:IsZip hD z TI TO .ellipsis:=sD _ _ D.i2z.symm (sC.extBut _ _ D.TOz.symm (sB.extBut _ _ D.i1z.symm oX))
   have ez:e≠z:=fun x=>by subst x;rw [zD] at EM;cases EM;simp at hce
   exact GA zD (by simp) fun hF _ sF=>hE hF e (fun c o c1 c2 c3 c4 x=>sF.extBut _ _ c1 (sD _ _ c4 (sC.extBut _ _ c2 (sB.extBut _ _ c3 (sA.extBut _ _ c1 x))))) ⟨oe,sF.extBut _ _ ez EM,hce⟩
end
def ab7 (S1 S2:Hp->Prop) (xs ys:List V):It:=
 ⟨fun i H=>S1 H/\S2 H/\i<xs.length/\i<ys.length,fun i H v H'=>∃p x y,H p=none/\v = .ref p/\H'=upd H p (.tup [x,y])/\xs[i]?=some x/\ys[i]?=some y,fun i H=>S1 H/\S2 H/\(xs.length<=i\/ys.length<=i)⟩
variable {ys:List V} {z:Addr}
theorem Uw {w:World} {kk:Nat} {S1 S2:Hp->Prop} {TI TO i1 i2 l1 l2:Addr} {t1 t2:Nat->Heap->Prop} {c1 c2:Heap->Prop} (D:ZipApart z TI TO i1 i2 l1 l2)
  (C1:AA P w K S1 xs i1 l1 t1 c1) (C2:AA P w K S2 ys i2 l2 t2 c2):
  Turn P w K (.Tuple elts kk pos) (ab7 S1 S2 xs ys) [z,TI,TO,i1,i2] z (fun i h=>IsZip h z TI TO .none/\IsPair h TI (.ref i1) (.ref i2)/\(∃a b,IsPair h TO a b)/\t1 i h/\t2 i h) where
 mem:=by simp
 obj:=fun i h st b hb=>by
  obtain ⟨hz,hTI,⟨a,b',hTO⟩,h1,h2⟩:=st
  have hb':b=z\/b=TI\/b=TO\/b=i1\/b=i2:=by simpa using hb
  rcases hb' with rfl|rfl|rfl|rfl|rfl
  . exact ⟨_,hz,fun v q=>by cases q⟩
  . exact ⟨_,hTI,fun v q=>by cases q⟩
  . exact ⟨_,hTO,fun v q=>by cases q⟩
  . exact C1.obj i h h1
  . exact C2.obj i h h2
 keep:=fun i h h' st k=>by
  obtain ⟨hz,hTI,⟨a,b',hTO⟩,h1,h2⟩:=st
  exact ⟨k z (by simp) _ hz,k TI (by simp) _ hTI,⟨a,b',k TO (by simp) _ hTO⟩,C1.keep _ _ _ h1 fun o e=>k i1 (by simp) o e,C2.keep _ _ _ h2 fun o e=>k i2 (by simp) o e⟩
 item:=by
  intro X hP hw hK hc i pins s σ H E I hf st hg
  subst hP hw hK
  obtain ⟨hz,hTI,⟨a,b,hTO⟩,h1,h2⟩:=st
  obtain ⟨g1,g2,lx,ly⟩:=hg
  have hT:s.TypeIs (.ref z) "zip":=⟨_,hz,Z⟩
  unfold pyNext
  refine aq (wpAny_attempt (yv (name:=Str.ofString "__next__") hT Ky (yz Ky hT F.entry_zip_next
   (Uu D C1 C2 hz hTI hTO h1 h2 (C1.IJ X rfl rfl rfl pins σ H s I g1) (C2.IJ X rfl rfl rfl pins σ H s I g2) (a_ lx) (a_ ly) fun u u2 h' ru ru2 a1 a2 a3 a4 a5 a6 hk=>aL ?_) (F.args_zip_next_1 _))))
  refine ⟨_,Z,wpAny_letOwnedTupleGo_zip (s:={ s with heap:=h' }) a1 fun h'' b1 hs=>?_⟩
  have hTz:s.heap.objs.size≠z:=yG (bQ hz)
  have wF:∀c o,c≠z->c≠TO->c≠i1->c≠i2->s.heap.get? c=some o->h''.get? c=some o:=fun c o c1 c2 c3 c4 e=>hs.extBut _ _ c1 (hk c o c1 c2 c3 c4 e)
  have hn:=I.fresh
  have nf:∀b u,H b=some u->b≠z/\b≠TO/\b≠i1/\b≠i2:=fun b u e=>by
   have g:∀c∈[z,TI,TO,i1,i2],b≠c:=fun c hc q=>by
    have:=(hf c hc).1
    rw [<-q,e] at this
    cases this
   exact ⟨g z (by simp),g TO (by simp),g i1 (by simp),g i2 (by simp)⟩
  have xW:∀c,c∉[z,TI,TO,i1,i2]->c≠z/\c≠TO/\c≠i1/\c≠i2:=fun c hc=>⟨fun q=>hc (by simp [q]),fun q=>hc (by simp [q]),fun q=>hc (by simp [q]),fun q=>hc (by simp [q])⟩
  have ahY:IsPair h'' s.heap.objs.size u u2:=hs.extBut _ _ hTz a5
  have hok:gU X.prog X.w (upd H s.heap.objs.size (.tup [xs[i],ys[i]])) h'':=fun b ob e=>by
   by_cases hb:b=s.heap.objs.size
   . subst hb
     rw [ak] at e
     cases e
     exact ⟨by show 2<=sizeLine;decide,[u,u2], .cons ru (.cons ru2 .nil),_,ahY,Z,0,Z⟩
   . rw [av hb] at e
     refine (I.hok b ob e).stay (fun c v Ut q=>?_) (fun c q=>by rw [av (aE q hn)];exact q) fun c zs q=>by rw [av (aE q hn)];exact q
     rcases Ut with r|r
     . obtain ⟨n1,n2,n3,n4⟩:=nf b ob e
       rw [r]
       rw [r] at q
       exact wF b v n1 n2 n3 n4 q
     . obtain ⟨n1,n2,n3,n4⟩:=nf c _ r
       exact wF c v n1 n2 n3 n4 q
  have I2:Inv X pins σ (upd H s.heap.objs.size (.tup [xs[i],ys[i]])) { s with heap:=h'',gens:=s.gens,drawn:=s.drawn,toks:=s.toks }:=by
   refine I.step (ch:=[z,TI,TO,i1,i2]) (fun b hb=>⟨(hf b hb).2.2.2.1,(hf b hb).2.1,(hf b hb).2.2.2.2.1,(hf b hb).2.2.2.2.2⟩) (fun b o _ _ hc' e _=>?_) (fun b o _ _ hc' e _=>?_) (fun b o _ e n=>?_) (fun b o hc' e=>?_)
    (fun b zs q=>by rw [av (aE q hn)];exact q) (fun b o zs q=>by rw [av (aE q hn)];exact q) (fun b ps q=>⟨#[],by rw [av (aE q hn),q];simp⟩) (fun m hm=>?_) hok I.bare
   . obtain ⟨n1,n2,n3,n4⟩:=xW b hc'
     exact wF b o n1 n2 n3 n4 e
   . obtain ⟨n1,n2,n3,n4⟩:=xW b hc'
     exact ⟨o.slots,wF b o n1 n2 n3 n4 e⟩
   . rw [av (dS (bQ e))]
     exact n
   . obtain ⟨n1,n2,n3,n4⟩:=xW b hc'
     exact ⟨o,wF b o n1 n2 n3 n4 e⟩
   . obtain ⟨o,es,ep,ho,r⟩:=hm
     have nl:∀c∈[z,TI,TO,i1,i2],X.env.locals≠c:=fun c hc' q=>(hf c hc').2.1 q.symm
     exact ⟨o,es,ep,wF _ o (nl z (by simp)) (nl TO (by simp)) (nl i1 (by simp)) (nl i2 (by simp)) ho,r⟩
  refine ⟨.ref s.heap.objs.size,_,I2,Z,⟨s.heap.objs.size,xs[i],ys[i],hn,Z,Z,a_ lx,a_ ly⟩,⟨b1,?_,⟨u,u2,?_⟩,?_,?_⟩,fun b hb=>?_⟩
  . exact wF _ _ D.TIz D.TITO D.TIi1 D.TIi2 hTI
  . exact hs.extBut _ _ D.TOz a2
  . exact C1.keep _ _ _ a3 fun o e=>hs.extBut _ _ D.i1z e
  . exact C2.keep _ _ _ a4 fun o e=>hs.extBut _ _ D.i2z e
  . have hlt:b≠s.heap.objs.size:=by
     have hb':b=z\/b=TI\/b=TO\/b=i1\/b=i2:=by simpa using hb
     obtain ⟨_,e1,_⟩:=C1.obj _ _ h1
     obtain ⟨_,e2,_⟩:=C2.obj _ _ h2
     rcases hb' with rfl|rfl|rfl|rfl|rfl
     . exact dS (bQ hz)
     . exact dS (bQ hTI)
     . exact dS (bQ hTO)
     . exact dS (bQ e1)
     . exact dS (bQ e2)
    rw [av hlt]
    exact (hf b hb).1
 done:=by
  intro X hP hw hK hc i pins s σ H E I hf st hg
  subst hP hw hK
  obtain ⟨hz,hTI,⟨a,b,hTO⟩,h1,h2⟩:=st
  obtain ⟨g1,g2,hend⟩:=hg
  have hT:s.TypeIs (.ref z) "zip":=⟨_,hz,Z⟩
  unfold pyNext
  refine aq (wpAny_attempt (yv (name:=Str.ofString "__next__") hT Ky (yz Ky hT F.entry_zip_next
   (Xd (I.ok.hd hc) D C1 C2 hz hTI hTO h1 h2 (C1.IJ X rfl rfl rfl pins σ H s I g1) (C2.IJ X rfl rfl rfl pins σ H s I g2) hend fun h' e hk he=>?_) (F.args_zip_next_1 _))))
  obtain ⟨oe,EM,hce⟩:=he
  refine aq (wpAny_isInstance (T:="StopIteration") (b:=true) ⟨oe,EM,hce⟩ isSubtype_stop (aL ⟨Z,?_⟩))
  have xW:∀c,c∉[z,TI,TO,i1,i2]->c≠z/\c≠TO/\c≠i1/\c≠i2:=fun c hc=>⟨fun q=>hc (by simp [q]),fun q=>hc (by simp [q]),fun q=>hc (by simp [q]),fun q=>hc (by simp [q])⟩
  have nf:∀b u,H b=some u->b≠z/\b≠TO/\b≠i1/\b≠i2:=fun b u e=>by
   have g:∀c∈[z,TI,TO,i1,i2],b≠c:=fun c hc q=>by
    have:=(hf c hc).1
    rw [<-q,e] at this
    cases this
   exact ⟨g z (by simp),g TO (by simp),g i1 (by simp),g i2 (by simp)⟩
  have I2:Inv X pins σ H { s with heap:=h',gens:=s.gens,drawn:=s.drawn,toks:=s.toks }:=by
   refine I.step (ch:=[z,TI,TO,i1,i2]) (fun b hb=>⟨(hf b hb).2.2.2.1,(hf b hb).2.1,(hf b hb).2.2.2.2.1,(hf b hb).2.2.2.2.2⟩) (fun b o _ _ hc' e _=>?_) (fun b o _ _ hc' e _=>?_) (fun b o _ e n=>n) (fun b o hc' e=>?_)
    (fun b zs q=>q) (fun b o zs q=>q) (fun b ps q=>⟨#[],by rw [q];simp⟩) (fun m hm=>?_) (fun b ob e=>?_) I.bare
   . obtain ⟨n1,n2,n3,n4⟩:=xW b hc'
     exact hk b o n1 n2 n3 n4 e
   . obtain ⟨n1,n2,n3,n4⟩:=xW b hc'
     exact ⟨o.slots,hk b o n1 n2 n3 n4 e⟩
   . obtain ⟨n1,n2,n3,n4⟩:=xW b hc'
     exact ⟨o,hk b o n1 n2 n3 n4 e⟩
   . obtain ⟨o,es,ep,ho,r⟩:=hm
     have nl:∀c∈[z,TI,TO,i1,i2],X.env.locals≠c:=fun c hc' q=>(hf c hc').2.1 q.symm
     exact ⟨o,es,ep,hk _ o (nl z (by simp)) (nl TO (by simp)) (nl i1 (by simp)) (nl i2 (by simp)) ho,r⟩
   . refine (I.hok b ob e).stay (fun c v Ut q=>?_) (fun c q=>q) fun c zs q=>q
     rcases Ut with r|r
     . obtain ⟨n1,n2,n3,n4⟩:=nf b ob e
       rw [r]
       rw [r] at q
       exact hk b v n1 n2 n3 n4 q
     . obtain ⟨n1,n2,n3,n4⟩:=nf c _ r
       exact hk c v n1 n2 n3 n4 q
  exact I2
 self:=fun _ _ _ _ _ st h=>wpAny_pyIter_zip st.1 h
def Ly (P:Program) (w:World) (u:Value) (o:Obj) (pre:Heap->Prop):Prop:=∀(A:Around) (E:VS) (s:Shared) (Q:VS),pre s.heap->Q (.ref s.heap.objs.size) { s with heap:=s.heap.push o }->wpAny (model P w) A (pyIter u) Q E s
theorem RO {w:World} {p1 p2:Heap->Prop} (s1:Ly P w u1 o1 p1) (s2:Ly P w u2 o2 p2):
  MeetsIn P w (Builtin.«zip.__new__» ⟨[.type "zip",u1,u2],[]⟩) (fun _ R s=>p1 s.heap/\p2 (s.heap.push o1)/\
   R (.ok (.ret (.ref ((((s.heap.push o1).push o2).push { cls:= .type "tuple",data:= .seq #[.ref s.heap.objs.size, .ref (s.heap.push o1).objs.size] }).push { cls:= .type "tuple",data:= .seq #[.none, .none] }).objs.size)))
     { s with heap:=((((s.heap.push o1).push o2).push { cls:= .type "tuple",data:= .seq #[.ref s.heap.objs.size, .ref (s.heap.push o1).objs.size] }).push { cls:= .type "tuple",data:= .seq #[.none, .none] }).push { cls:= .type "zip",data:= .fields #[.none, .bool false, .bool false, .ref ((s.heap.push o1).push o2).objs.size, .ref (((s.heap.push o1).push o2).push { cls:= .type "tuple",data:= .seq #[.ref s.heap.objs.size, .ref (s.heap.push o1).objs.size] }).objs.size] } }):=
 .of_wp fun A R s h=>by
   obtain ⟨hp,g,d,tk,os⟩:=s;obtain ⟨q1,q2,h⟩:=h
   have hsub:=sub_zip
   have i1:=fun (A:Around) (E:VS) (Q:VS)=>s1 A E ⟨hp,g,d,tk,os⟩ Q q1
   have i2:=fun (A:Around) (E:VS) (Q:VS)=>s2 A E ⟨hp.push o1,g,d,tk,os⟩ Q q2
   wp_walk using i1 _ _ _,i2 _ _ _
   exact ⟨_,Z,h⟩
section
variable {prog:Program} {w:World} {A:Around} {E:VS} {s:Shared} {it t:Addr} {i:Nat} {items:Array Value} {Q:VS}
theorem Oj {x:Value} (hit:s.heap.IsTupleIter it t i) (ht:s.heap.IsTuple t items) (hx:items[i]?=some x) (hQ:∀h',h'.IsTupleIter it t (i+1)->Heap.SameBut it s.heap h'->Q x { s with heap:=h' }):wpAny (model prog w) A (Builtin.SmallTypes.nextOf (.ref it)) Q E s:=by
 obtain ⟨o,ho,hc,hd⟩:=id hit;obtain ⟨ol,ff,_,nl,hdl⟩:=ht;unfold Builtin.SmallTypes.nextOf
 refine aq (yv (name:=Str.ofString "__next__") hit.typeIs QY (yz QY hit.typeIs F.entry_tuple_iterator_next ?_ (F.args_tuple_iterator_next_1 _)))
 show wpAny _ _ (field (.ref it) 0 >>= _) _ _ s;refine aq (kF ho hd (x:= .ref t) rfl ?_);show wpAny _ _ (if (Value.ref t==Value.none)=true then _ else _) _ _ s
 rw [az (fun z=>fF z:¬ ((Value.ref t==Value.none)=true))];show wpAny _ _ (field (.ref it) 1 >>= _) _ _ s
 refine aq (kF ho hd (x:= .int i 0) rfl ?_);show wpAny _ _ (seqItems? (.ref t) >>= _) _ _ s;refine aq (ux ff hdl ?_);simp only [xj,hx]
 refine aq (BF ho hd (by simp) (aL ⟨x,Z,aL (hQ _ ?_ (Gv ..))⟩));refine ⟨_,CV _ ho (Obj.isFreed_of_fields (Gz hd _)),(Obj.cls_mapFields ..).trans hc,?_⟩;rw [Gz hd];simp [rawInt]
theorem RP (hh:A.handled=none) (hit:s.heap.IsTupleIter it t i) (ht:s.heap.IsTuple t items) (hx:items[i]?=none) (hE:∀h' e,Heap.ExtBut it s.heap h'->(∃o,h'.get? e=some o/\o.cls = .type "StopIteration")->E (.ref e) { s with heap:=h' }):wpAny (model prog w) A (Builtin.SmallTypes.nextOf (.ref it)) Q E s:=by
 obtain ⟨o,ho,hc,hd⟩:=id hit;obtain ⟨ol,ff,_,nl,hdl⟩:=ht;unfold Builtin.SmallTypes.nextOf
 refine aq (yv (name:=Str.ofString "__next__") hit.typeIs QY (yz QY hit.typeIs F.entry_tuple_iterator_next ?_ (F.args_tuple_iterator_next_1 _)))
 show wpAny _ _ (field (.ref it) 0 >>= _) _ _ s;refine aq (kF ho hd (x:= .ref t) rfl ?_);show wpAny _ _ (if (Value.ref t==Value.none)=true then _ else _) _ _ s
 rw [az (fun z=>fF z:¬ ((Value.ref t==Value.none)=true))];show wpAny _ _ (field (.ref it) 1 >>= _) _ _ s
 refine aq (kF ho hd (x:= .int i 0) rfl ?_);show wpAny _ _ (seqItems? (.ref t) >>= _) _ _ s;refine aq (ux ff hdl ?_);simp only [xj,hx]
 refine aq (wpAny_rule (aq (BF ho hd (by simp) ?_)));show wpAny _ _ (newExc (.type "StopIteration") [] >>= _) _ _ _;refine aq ?_;simp only [newExc,newTuple]
 refine aq (qN ?_ (by size_fits));refine aq (m:=firstArgMember _ _) (wpAny_of_eq (a:=Value.none) (by first|rfl|(simp only [firstArgMember];rfl)) ?_);refine qN ?_ (by size_fits);simp only [raiseNew]
 refine aq (wpAny_handled ?_);first|rw [show A.in1.handled=none from hh]|rw [hh]
 refine aq (aL (wpAny_throw ?_));exact hE _ _ (((Gv ..).extBut.push _).push _) ⟨_,d_ _ rfl,Z⟩
end
theorem ZS {w:World} {l:Addr}:AA P w K (fun H=>cJ K H l xs) xs it l (fun i h=>h.IsTupleIter it l i) (fun h=>∃its:List Value,Vals xs its/\h.IsTuple l its.toArray) where
 obj:=fun i h ⟨o,e,c,d⟩=>⟨o,e,fun v z=>by rw [d] at z;cases z⟩
 keep:=fun i h h' st k=>st.at k
 wG:=fun h h' ⟨its,r,o,e,q⟩ k=>⟨its,r,o,k o e,q⟩
 IJ:=fun X hP hw hK pins σ H s I h=>by
  subst hP hw hK
  obtain ⟨its,rv,p,_⟩:=I.tuple h
  exact ⟨its,rv,p⟩
 item:=fun A i x s Q E st ⟨its,r,hl⟩ hx hQ=>by
  obtain ⟨u,hu,ru⟩:=r.get hx
  exact Oj st hl (by simpa using hu) fun h' st' sb=>hQ u h' ru st' sb
 done:=fun A i s Q E hh st ⟨its,r,hl⟩ hx hE=>RP hh st hl (by have:=r.length;simp;omega) hE
theorem Xe:typeLookup (.type "dict") "__len__"=pure (some (.builtin "dict.__len__")):=by rw [typeLookup_type,builtinLookup_eq_fast];kernel_rfl
variable {R:Result->Shared->Prop}
section
variable {prog:Program} {w:World} {A:Around} {E:VS} {s:Shared} {K:Type} [DecidableEq K] {knd:KeyKind prog w K}
theorem Ca (hh:A.handled=none) {kvs:List (K×Value)} (hd:(d==sysModules)=false) (hm:s.heap.DictAt knd d kvs ep) (S:Addr) (hSd:S≠d) (res:Value) (c₀:Nat) (hS:s.heap.get? S=some { cls:= .type "list",data:= .seq #[] c₀ })
  (hR:∀h' tk acc' c',(∀b o,b≠S->s.heap.get? b=some o->h'.get? b=some o)->h'.get? S=some { cls:= .type "list",dict:=none,data:= .seq acc' c',slots:=#[] }->
    ItemsOf (fun i v=>∃k x,kvs[i]?=some (k,x)/\knd.is k v=true) acc' kvs.length->R (.ok (.ret res)) { s with heap:=h',toks:=tk }) (hn:kvs.length<=sizeLine):
  wpAny (model prog w) A.in1 (Builtin.List.listExtendWith (.ref S) (.ref d) res)
   (fun fin s'=>match fin with | .done f=>R (.ok f) s' | .again c'=>c'.quiet=true/\codeAny (model prog w) A c' R s') (fun e s'=>R (.error e) s') s:=by
 have hSI:S≠s.heap.objs.size:=dS (bQ hS)
 have hT:s.TypeIs (.ref d) "dict":=hm.dictOf.typeIs
 unfold Builtin.List.listExtendWith
 refine aq (wpAny_typeOf (T:="dict") (v:= .ref d) hT ?_)
 have h1:Builtin.List.listSameRef (.ref S) (.ref d)=false:=by
  show (S==d)=false
  simpa using hSd
 have h2:(Value.type "dict"==Value.type "list")=false:=by decide
 have h3:(Value.type "dict"==Value.type "tuple")=false:=by decide
 simp only [h1,h2,h3,Bool.or_false,Gy,lF]
 refine aq (wpAny_pyIter_dict hd hm ?_)
 refine aq (yF ?_)
 unfold Builtin.List.listLengthHint
 have hT2:({ s with heap:=s.heap.push { cls:= .type "dict_keyiterator",data:= .fields #[.ref d, .int 0 0, .int kvs.length 0, .int ep 0] } }:Shared).TypeIs (.ref d) "dict":=(hm.push _).dictOf.typeIs
 refine aq (wpAny_specialOf (T:="dict") (v:= .ref d) hT2 Xe ?_)
 wp_delta
 refine aq (wpAny_isInstance (T:="dict") (v:= .ref d) (b:=true) hT2 (by rw [isSubtype_type];kernel_rfl) ?_)
 show wpAny _ _ (typeOf (Value.ref d) >>= _) _ _ _
 refine aq (wpAny_typeOf (T:="dict") (v:= .ref d) hT2 ?_)
 refine aL ?_
 have hne:d≠s.heap.objs.size:=dS hm.lt_size
 have hSf:S∉[s.heap.objs.size,d] :=fun hm'=>by
  rcases dg.mp hm' with z|z
  . exact hSI z
  . exact hSd (ee.mp z)
 show wpAny _ A.in1 (rule "list.extend.makes-room" >>= fun _=>Builtin.List.listTouch (.ref S) >>= fun _=>
  again (.builtin "list.extend.loop" ⟨[.ref S, .ref s.heap.objs.size,res],[]⟩)) _ _ _
 refine aq (wpAny_rule ?_)
 refine aq ?_
 show wpAny _ A.in1 (updateSeq S (·.push .none) >>= fun _=>updateSeq S (·.pop)) _ _ _
 have hS₁:=cD { cls:= .type "dict_keyiterator",data:= .fields #[.ref d, .int 0 0, .int kvs.length 0, .int ep 0] } hS
 refine aq (wpAny_updateSeq hS₁ rfl ?_)
 have Yz:=CV (Obj.mapSeq (·.push Value.none)) hS₁ rfl
 refine wpAny_updateSeq (hz:=by seq_fits) Yz rfl ?_
 have hS₃:=CV (Obj.mapSeq (·.pop)) Yz rfl
 have PY:∀b o,b≠S->(s.heap.push { cls:= .type "dict_keyiterator",data:= .fields #[.ref d, .int 0 0, .int kvs.length 0, .int ep 0] }).get? b=some o->(((s.heap.push { cls:= .type "dict_keyiterator",data:= .fields #[.ref d, .int 0 0, .int kvs.length 0, .int ep 0] }).update S (Obj.mapSeq (·.push Value.none))).update S (Obj.mapSeq (·.pop))).get? b=some o:=
  fun b o hb e=>(KQ _ _ (cy hb)).trans ((KQ _ _ (cy hb)).trans e)
 refine aL ⟨plainId_quiet F.plain_extend_loop _,codeAny_extend_loopS (Walks.dictKeys (prog:=prog) (w:=w) (A:=A.in1) (knd:=knd) hh s.heap.objs.size d hne kvs ep).toS hn _ hSf _ kvs.length 0 _ _ _ rfl (fT _) ⟨⟨_,PY _ _ (cy hSI) (d_ _ rfl),Z,Z⟩,(hm.push _).at' fun o e=>PY d o (cy hSd) e⟩ hS₃ (ItemsOf.nil _) fun s' acc' c' hm2 hS' hacc=>?_⟩
 rw [Moved.eq_with hm2]
 refine hR s'.heap s'.toks acc' c' (fun b ob hb e=>hm2.heap b ob (fun hmem=>?_) (PY b ob hb (cD _ e))) hS' hacc
 rcases dg.mp hmem with e'|hmem
 . exact hb e'
 . exact absurd (bQ e) (by rw [ee.mp hmem];exact ju _)
theorem GP {Q:VS} (hh:A.handled=none) {kvs:List (K×Value)} (hd:(d==sysModules)=false) (hm:s.heap.DictAt knd d kvs ep) (hn:kvs.length<=sizeLine)
  (hQ:∀h' tk acc' c',(∀b o,s.heap.get? b=some o->h'.get? b=some o)->
    h'.get? s.heap.objs.size=some { cls:= .type "list",dict:=none,data:= .seq acc' c',slots:=#[] }->ItemsOf (fun i v=>∃k x,kvs[i]?=some (k,x)/\knd.is k v=true) acc' kvs.length->Q (.ref s.heap.objs.size) { s with heap:=h',toks:=tk }):
  wpAny (model prog w) A (call (.type "list") [.ref d]) Q E s:=by
 refine callType_codes (Q₁:=fun obj s₁=>obj = .ref s.heap.objs.size/\s₁={ s with heap:=s.heap.push { cls:= .type "list",data:= .seq #[] } }) F.called_list (F.typeCall_list_1 _) F.entry_list_init
  (code_list_new _ ⟨Z,Z⟩) fun obj s₁ h₁=>?_
 obtain ⟨rfl,rfl⟩:=h₁
 have hS:(s.heap.push { cls:= .type "list",data:= .seq #[] }).get? s.heap.objs.size=some { cls:= .type "list",data:= .seq #[] }:=d_ _ rfl
 have hne:s.heap.objs.size≠d:=yG hm.lt_size
 refine ⟨⟨_,hS,Z⟩,F.args_list_init_2 _ _,?_⟩
 show wpAny _ _ (do let old <-Builtin.List.listItems (.ref s.heap.objs.size);Builtin.List.listUpdate (.ref s.heap.objs.size) (fun _=>#[]);letGo old.toList.reverse;Builtin.List.listExtendWith (.ref s.heap.objs.size) (.ref d) .none) _ _ _
 refine aq ?_
 unfold Builtin.List.listItems
 refine aq (ux hS rfl (aL ?_))
 show wpAny _ _ (updateSeq s.heap.objs.size (fun _=>#[]) >>= fun _=>letGo (#[] :Array Value).toList.reverse >>= fun _=>Builtin.List.listExtendWith (.ref s.heap.objs.size) (.ref d) .none) _ _ _
 refine aq (wpAny_updateSeq hS rfl ?_)
 have Yz:=CV (Obj.mapSeq (fun _=>(#[] :Array Value))) hS rfl
 have PY:∀b o,b≠s.heap.objs.size->(s.heap.push { cls:= .type "list",data:= .seq #[] }).get? b=some o->((s.heap.push { cls:= .type "list",data:= .seq #[] }).update s.heap.objs.size (Obj.mapSeq (fun _=>(#[] :Array Value)))).get? b=some o:=
  fun b o hb e=>(KQ _ _ (cy hb)).trans e
 refine aq (wpAny_letGo ?_)
 refine Ca (A:=A.in1) hh hd (hm.push _ |>.at' fun o e=>PY d o hne.symm e) s.heap.objs.size hne .none _ Yz (fun h' tk acc' c' hk hS' hacc=>?_) hn
 exact ⟨Z,hQ h' tk acc' c' (fun b o e=>hk b o (dS (bQ e)) (PY b o (dS (bQ e)) (cD _ e))) hS' hacc⟩
end
theorem IK {α β:Type} {F:α->β->Prop}:∀{l₁:List α} {l₂:List β},l₁.length=l₂.length->(∀(i:Nat) (x:α) (y:β),l₁[i]?=some x->l₂[i]?=some y->F x y)->Paired F l₁ l₂
 | [],[],_,_=> .nil
 | x::xs,y::ys,h,f=> .cons (f 0 x y rfl rfl) (IK (by simpa using h) fun i a b ha hb=>f (i+1) a b (by simpa using ha) (by simpa using hb))
def lI (v d:Addr):HO:= .ext fun h=>h.IsValuesView v d
section
variable {X:Cx}
inductive ab8 (Q:VK) (x:V) (H1:Hp):Prop
 | mk  (d kvs:_) (_:x = .ref d) (_:Rd H1 d (.dK kvs)) (_:∀v,H1 v=none->Q (.ref v) (upd H1 v (lI v d)))
def aeG (td:TE):TE:=fun σ H Q=>td σ H (ab8 Q)
inductive Wk (K:Fg) (H:Hp):V->(Hp->Prop)->List V->Prop
 | lst {l:Addr} {xs:List V}:aC K H l xs->Wk K H (.ref l) (fun H=>aC K H l xs) xs
 | tup {l:Addr} {xs:List V}:cJ K H l xs->Wk K H (.ref l) (fun H=>cJ K H l xs) xs
 | keys {d:Addr} {o:Obj} {kvs:List (Key×V)}:oW H d o kvs->Wk K H (.ref d) (fun H=>oW H d o kvs) (kvs.map fun p=>kV p.1)
 | vals {v d:Addr} {o:Obj} {kvs:List (Key×V)}:H v=some (lI v d)->oW H d o kvs->Wk K H (.ref v) (fun H=>oW H d o kvs) (kvs.map fun p=>p.2)
theorem Wk.ok {u:V} {S:Hp->Prop} (k:Wk X.K H u S xs) (I:Inv X pins σ H s) (r:RelV u uv):
  S H/\∃(l:Addr) (o:Obj) (p:Heap->Prop),l<s.heap.objs.size/\p s.heap/\(∀h (ob:Obj),p h->p (h.push ob))/\(∀h:Heap,(h.push o).get? h.objs.size=some o)/\Ly X.prog X.w uv o p/\∀it:Addr,∃tn src,AA X.prog X.w X.K S xs it l tn src/\∀h:Heap,h.get? it=some o->tn 0 h:=by
 cases k with
 | @lst l xs hS=>
   cases r
   obtain ⟨its,rv,p,_⟩:=I.list hS
   obtain ⟨ol,ff,_⟩:=id p.isList
   refine ⟨hS,l,_,fun h=>h.IsList l its.toArray,bQ ff,p.isList,fun h ob q=>q.push ob,fun h=>d_ _ rfl,fun A E s Q q h=>Ri q h,fun it=>⟨_,_,Xa,fun h e=>⟨_,e,Z,Z⟩⟩⟩
 | @tup l xs hS=>
   cases r
   obtain ⟨its,rv,p,_⟩:=I.tuple hS
   obtain ⟨ol,ff,q0⟩:=id p
   refine ⟨hS,l,_,fun h=>h.IsTuple l its.toArray,bQ ff,p,fun h ob ⟨o1,a,b⟩=>⟨o1,cD _ a,b⟩,fun h=>d_ _ rfl,fun A E s Q q h=>wpAny_pyIter_tuple q h,fun it=>⟨_,_,ZS,fun h e=>⟨_,e,Z,Z⟩⟩⟩
 | @keys d o kvs hz=>
   cases r
   obtain ⟨ho,hl,hsys,vs,ep,rel,da⟩:=I.rX hz
   obtain ⟨o',es,h1,_,h2,_⟩:=id da
   rw [ho] at h1;cases h1
   have el:kvs.length=vs.length:=rel.length
   refine ⟨hz,d,_,fun h=>h.DictAt (c9 X.prog X.w) d vs ep,bQ ho,da,fun h ob q=>q.push ob,fun h=>d_ _ rfl,fun A E s Q q h=>wpAny_pyIter_dict hsys q h,fun it=>⟨_,_,Xb h2,fun h e=>?_⟩⟩
   rw [el]
   exact ⟨_,e,Z,Z⟩
 | @vals v d o kvs hv hz=>
   cases r
   obtain ⟨ho,hl,hsys,vs,ep,rel,da⟩:=I.rX hz
   obtain ⟨o',es,h1,_,h2,_⟩:=id da
   rw [ho] at h1;cases h1
   have el:kvs.length=vs.length:=rel.length
   obtain ⟨hv',_⟩:=(show dQ X.prog X.w H s.heap v (lI v d) from I.hok v _ hv)
   refine ⟨hz,d,_,fun h=>h.IsValuesView v d/\h.DictAt (c9 X.prog X.w) d vs ep,bQ ho,⟨hv',da⟩,fun h ob ⟨⟨o1,a,b⟩,q⟩=>⟨⟨o1,cD _ a,b⟩,q.push ob⟩,fun h=>d_ _ rfl,fun A E s Q q h=>wpAny_pyIter_values q.1 q.2 h,fun it=>⟨_,_,Xc h2,fun h e=>?_⟩⟩
   rw [el]
   exact ⟨_,e,Z,Z⟩
variable {elts:List Expr} {kk:Nat} {tpos:Pos}
inductive ab9 (K:Fg) (R:It->Hp->Prop) (vs:List V) (H1:Hp):Prop
 | mk  (u1 u2 S1 S2 xs ys:_) (_:vs=[u1,u2]) (_:Wk K H1 u1 S1 xs) (_:Wk K H1 u2 S2 ys) (_:R (ab7 S1 S2 xs ys:_) H1)
def aeH (K:Fg) (ta:TA):TI:=fun σ H R=>ta σ H (ab9 K R)
theorem IL (hc:X.calm=true):gI X (.builtin "sum") (fun xs H Q=>∃(v d:Addr) (kvs:List (Key×V)) (ns:List Int),xs=[.ref v]/\H v=some (lI v d)/\Rd H d (.dK kvs)/\kvs.map (·.2)=ns.map V.int/\Q (.int ns.sum) H):=by
 intro pins s σ H xs us Q I r h
 obtain ⟨v,d,kvs,ns,rfl,hv,hz,en,q⟩:=h
 obtain ⟨u,rfl,ru⟩:=vals1 r
 cases ru
 obtain ⟨_,hsys,vs,rel,dd⟩:=rV I.hok hz
 obtain ⟨ep,da⟩:=dd.dictAt
 obtain ⟨hv',_⟩:=(show dQ X.prog X.w H s.heap v (lI v d) from I.hok v _ hv)
 have hl:kvs.length=vs.length:=rel.length
 have hlt:=da.lt_size
 have hne:d≠s.heap.objs.size:=dS hlt
 have W:=(Walks.dictValues (prog:=X.prog) (w:=X.w) (A:=X.A.in1) (knd:=c9 X.prog X.w) (I.ok.hd hc) s.heap.objs.size d hne vs ep).toS
 have EG:kvs.length=ns.length:=by have:=iw List.length en;simpa using this
 refine call_sum_walkAnyS (wpAny_pyIter_values hv' da ?_)
 refine ⟨s.heap.objs.size,_,_,_,_,_,_,fun i=>ns.getD i 0,Z,W,⟨⟨_,d_ _ rfl,Z,Z⟩,da.push _⟩,fun b hb=>?_,fun i x hP=>?_,fun s' t' hm=>?_⟩
 . rcases dg.mp hb with rfl|hb
   . exact bQ (d_ _ rfl)
   . obtain rfl:=ee.mp hb
     exact (da.push _).lt_size
 . obtain ⟨k,hk⟩:=hP
   have hil:i<ns.length:=by
    have:=(d7.mp hk).1
    omega
   have hik:i<kvs.length:=by omega
   obtain ⟨q',hq',_,rq⟩:=ya rel (a_ hik)
   rw [hk] at hq'
   cases hq'
   have e1:kvs[i].2=V.int (ns.getD i 0):=by
    have:=iw (fun l=>l[i]?) en
    simp only [bK,a_ hik,a_ hil] at this
    rw [jf,a_ hil]
    exact iG this
   rw [e1] at rq
   exact rq
 . obtain ⟨h',g',d',tk',os'⟩:=s'
   have e1:g'=s.gens:=hm.gens
   have e2:d'=s.drawn:=hm.drawn
   have e3:os'=s.os:=hm.os
   subst e1 e2 e3
   have hsz:vs.length=ns.length:=by omega
   rw [hsz,preSum_getD,Aj (aS _)]
   exact ⟨.int ns.sum,H,I.kept (h':=h') (t':=tk') fun b o e=>hm.heap b o (fun hb=>absurd (bQ e) ((ee.mp hb)▸ju _)) (cD _ e),⟨t',Z⟩,q⟩
theorem RQ (hc:X.calm=true):gI X (.type "list") (fun xs H Q=>∃(d:Addr) (kvs:List (Key×V)),xs=[.ref d]/\Rd H d (.dK kvs)/\∀l,H l=none->Q (.ref l) (upd H l (.lst (kvs.map fun p=>kV p.1)))):=by
 intro pins s σ H xs us Q I r h
 obtain ⟨d,kvs,rfl,hz,q⟩:=h
 obtain ⟨u,rfl,ru⟩:=vals1 r
 cases ru
 obtain ⟨hsz,hsys,vs,rel,dd⟩:=rV I.hok hz
 obtain ⟨ep,da⟩:=dd.dictAt
 have hl:kvs.length=vs.length:=rel.length
 refine GP (I.ok.hd hc) hsys da (by omega) fun h' tk acc' c' kp e it=>?_
 refine ⟨.ref s.heap.objs.size,_,I.laid (t':=tk) kp (aS _) (show dQ X.prog X.w _ h' _ (.lst (kvs.map fun p=>kV p.1)) from ⟨by rw [aF];exact hsz,acc'.toList,c',?_,by rw [e]⟩),Z,q _ I.fresh⟩
 obtain ⟨sz,hit⟩:=it
 have hA:acc'.toList.length=acc'.size:=by simp
 have hB:(kvs.map fun p=>kV p.1).length=acc'.toList.length:=by rw [aF];omega
 refine IK hB fun i x y hx hy=>?_
 rw [bK] at hx
 obtain ⟨p,hp,rfl⟩:=lS.mp hx
 obtain ⟨k,v,hk,hkk⟩:=hit i y (by simpa using hy)
 obtain ⟨q',hq',ek,_⟩:=ya rel hp
 rw [hk] at hq'
 cases hq'
 rw [ek]
 exact Lx hkk
end
def eE:St->List Nat->List V->St
 | σ,k::ks,v::vs=>eE (σ.set k (some v)) ks vs
 | σ,_,_=>σ
theorem EN {k:Nat} {v:Option V}:∀{ks:List Nat} {vs:List V} {σ:St},k∉ks->(eE σ ks vs).set k v=eE (σ.set k v) ks vs
 | [],_,_,_=>by unfold eE;rfl
 | _::_,[],_,_=>by unfold eE;rfl
 | j::ks,w::vs,σ,h=>by
   have hj:k≠j:=fun e=>h (by rw [e];exact cO)
   show (eE (σ.set j (some w)) ks vs).set k v=eE ((σ.set k v).set j (some w)) ks vs
   rw [EN (fun m=>h (cL _ m)),List.set_comm _ _ hj]
theorem u6:∀{ks:List Nat} {vs ws:List V} {σ:St},ks.Nodup->vs.length=ks.length->ws.length=ks.length->eE (eE σ ks vs) ks ws=eE σ ks ws
 | [],[],[],_,_,_,_=>rfl
 | k::ks,v::vs,w::ws,σ,nd,h1,h2=>by
   have nk:=(gX.mp nd).1
   show eE ((eE (σ.set k (some v)) ks vs).set k (some w)) ks ws=eE (σ.set k (some w)) ks ws
   rw [EN nk,rP,u6 (gX.mp nd).2 (by simpa using h1) (by simpa using h2)]
def YA:List Nat->Eh
 | []=>aa3
 | k::ks=>Yl (gh k) (YA ks)
theorem Lz {Q:St->Hp->Prop} {H:Hp}:∀{ks:List Nat} {vs:List V} {σ:St},vs.length=ks.length->Q (eE σ ks vs) H->YA ks vs σ H Q
 | [],[],_,_,q=>⟨Z,q⟩
 | k::ks,v::vs,σ,h,q=>⟨v,vs,Z,Lz (by simpa using h) q⟩
theorem AD (ks:List Nat) {Q:VK} (Pv:Nat->List V->Hp->Prop) (nd:ks.Nodup) (hn:n<=100000) (h0:Pv 0 [] (upd H acc (.lst [])))
  (hgo:∀i out H1,i<n->H1 acc=some (.lst out)->Pv i out H1->J.go i H1) (hst:∀out H1,H1 acc=some (.lst out)->Pv n out H1->J.stop n H1)
  (hs:∀(i:Nat) (x:V) (out:List V) (H1 H2:Hp),i<n->out.length=i->H1 acc=some (.lst out)->Pv i out H1->J.Ei i H1 x H2->
    ∃t vs,x = .ref t/\cJ K H2 t vs/\vs.length=ks.length/\te (eE σ2 ks vs) H2 (uX Pv i acc out))
  (hd:∀(out:List V) (H1:Hp),out.length=n->H1 acc=some (.lst out)->Pv n out H1->Q (.ref acc) H1):
  BX J (C4 K ks.length (YA ks)) te acc σ2 H Q:=by
 refine ⟨fun i m σ' H'=>m=n-i/\i<=n/\(∀ws,ws.length=ks.length->eE σ' ks ws=eE σ2 ks ws)/\∃out,out.length=i/\H' acc=some (.lst out)/\Pv i out H',⟨n,by simp,fT _,fun _ _=>rfl,[],Z,ak,h0⟩,?_⟩
 rintro i m σ' H' ⟨rfl,hi,hσ,out,ho,ha,p⟩
 by_cases hlt:i<n
 . refine .inr ⟨hgo i out H' hlt ha p,fun σ3=>∀ws,ws.length=ks.length->eE σ3 ks ws=eE σ2 ks ws,(uX Pv i acc out),fun σ3 v H4 hS ⟨a,b⟩=>?_,fun x H1 y=>?_⟩
   . refine ⟨out,a,?_,n-(i+1),by omega,Z,hlt,hS,out++[v],by rw [cY,ho];rfl,ak,b⟩
     have:sizeLine=16777216:=fj
     omega
   . obtain ⟨t,vs,rfl,sq,hl,q⟩:=hs i x out H' H1 hlt ho ha p y
     refine ⟨t,vs,Z,sq,hl,Lz hl ⟨fun ws hw=>?_,?_⟩⟩
     . rw [u6 nd hl hw];exact hσ ws hw
     . rw [hσ vs hl];exact q
 . have e:i=n:=by omega
   subst e
   exact .inl ⟨hst out H' ha p,hd out H' ho ha p⟩
theorem ZT (ks:List Nat) {Q:VK} (Pv:Nat->List V->Hp->Prop) (nd:ks.Nodup) (hn:n<=100000) (h0:Pv 0 [] (upd H acc (.lst [])))
  (hgo:∀i out H1,i<n->H1 acc=some (.lst out)->Pv i out H1->J.go i H1) (hst:∀out H1,H1 acc=some (.lst out)->Pv n out H1->J.stop n H1)
  (hs:∀(i:Nat) (x:V) (out:List V) (H1 H2:Hp),i<n->out.length<=i->H1 acc=some (.lst out)->Pv i out H1->J.Ei i H1 x H2->
    ∃t vs,x = .ref t/\cJ K H2 t vs/\vs.length=ks.length/\tc (eE σ2 ks vs) H2 (Ys te (eE σ2 ks vs) Pv i acc out))
  (hd:∀(out:List V) (H1:Hp),out.length<=n->H1 acc=some (.lst out)->Pv n out H1->Q (.ref acc) H1):
  EK J (C4 K ks.length (YA ks)) tc te acc σ2 H Q:=by
 refine ⟨fun i m σ' H'=>m=n-i/\i<=n/\(∀ws,ws.length=ks.length->eE σ' ks ws=eE σ2 ks ws)/\∃out,out.length<=i/\H' acc=some (.lst out)/\Pv i out H',⟨n,by simp,fT _,fun _ _=>rfl,[],aS _,ak,h0⟩,?_⟩
 rintro i m σ' H' ⟨rfl,hi,hσ,out,ho,ha,p⟩
 by_cases hlt:i<n
 . refine .inr ⟨hgo i out H' hlt ha p,fun σ3=>∀ws,ws.length=ks.length->eE σ3 ks ws=eE σ2 ks ws,(uX Pv i acc out),fun H3=>H3 acc=some (.lst out)/\Pv (i+1) out H3,fun σ3 v H4 hS ⟨a,b⟩=>?_,fun σ3 H4 hS ⟨a,b⟩=>?_,fun x H1 y=>?_⟩
   . refine ⟨out,a,?_,n-(i+1),by omega,Z,hlt,hS,out++[v],by rw [cY];exact Nat.succ_le_succ ho,ak,b⟩
     have:sizeLine=16777216:=fj
     omega
   . exact ⟨n-(i+1),by omega,Z,hlt,hS,out,by omega,a,b⟩
   . obtain ⟨t,vs,rfl,sq,hl,q⟩:=hs i x out H' H1 hlt ho ha p y
     refine ⟨t,vs,Z,sq,hl,Lz hl ⟨fun ws hw=>?_,?_⟩⟩
     . rw [u6 nd hl hw];exact hσ ws hw
     . rw [hσ vs hl];exact q
 . have e:i=n:=by omega
   subst e
   exact .inl ⟨hst out H' ha p,hd out H' ho ha p⟩
theorem iS (k:Nat) {Q:VK} (Pv:Nat->List V->Hp->Prop) (hn:n<=100000) (h0:Pv 0 [] (upd H acc (.lst [])))
  (hgo:∀i out H1,i<n->H1 acc=some (.lst out)->Pv i out H1->J.go i H1) (hst:∀out H1,H1 acc=some (.lst out)->Pv n out H1->J.stop n H1)
  (hs:∀(i:Nat) (x:V) (out:List V) (H1 H2:Hp),i<n->out.length=i->H1 acc=some (.lst out)->Pv i out H1->J.Ei i H1 x H2->
    te (σ2.set k (some x)) H2 (uX Pv i acc out))
  (hd:∀(out:List V) (H1:Hp),out.length=n->H1 acc=some (.lst out)->Pv n out H1->Q (.ref acc) H1):
  BX J (gh k) te acc σ2 H Q:=by
 refine ⟨fun i m σ' H'=>m=n-i/\i<=n/\(∀w:Option V,σ'.set k w=σ2.set k w)/\∃out,out.length=i/\H' acc=some (.lst out)/\Pv i out H',⟨n,by simp,fT _,fun _=>rfl,[],Z,ak,h0⟩,?_⟩
 rintro i m σ' H' ⟨rfl,hi,hσ,out,ho,ha,p⟩
 by_cases hlt:i<n
 . refine .inr ⟨hgo i out H' hlt ha p,fun σ3=>∀w:Option V,σ3.set k w=σ2.set k w,(uX Pv i acc out),fun σ3 v H4 hS ⟨a,b⟩=>?_,fun x H1 y=>?_⟩
   . refine ⟨out,a,?_,n-(i+1),by omega,Z,hlt,hS,out++[v],by rw [cY,ho];rfl,ak,b⟩
     have:sizeLine=16777216:=fj
     omega
   . refine ⟨fun w=>by rw [rP];exact hσ w,?_⟩
     rw [hσ]
     exact hs i x out H' H1 hlt ho ha p y
 . have e:i=n:=by omega
   subst e
   exact .inl ⟨hst out H' ha p,hd out H' ho ha p⟩
theorem GQ (k:Nat) {Q:VK} (Pv:Nat->List V->Hp->Prop) (hn:n<=100000) (h0:Pv 0 [] (upd H acc (.lst [])))
  (hgo:∀i out H1,i<n->H1 acc=some (.lst out)->Pv i out H1->J.go i H1) (hst:∀out H1,H1 acc=some (.lst out)->Pv n out H1->J.stop n H1)
  (hs:∀(i:Nat) (x:V) (out:List V) (H1 H2:Hp),i<n->out.length<=i->H1 acc=some (.lst out)->Pv i out H1->J.Ei i H1 x H2->
    tc (σ2.set k (some x)) H2 (Ys te (σ2.set k (some x)) Pv i acc out))
  (hd:∀(out:List V) (H1:Hp),out.length<=n->H1 acc=some (.lst out)->Pv n out H1->Q (.ref acc) H1):
  EK J (gh k) tc te acc σ2 H Q:=by
 refine ⟨fun i m σ' H'=>m=n-i/\i<=n/\(∀w:Option V,σ'.set k w=σ2.set k w)/\∃out,out.length<=i/\H' acc=some (.lst out)/\Pv i out H',⟨n,by simp,fT _,fun _=>rfl,[],aS _,ak,h0⟩,?_⟩
 rintro i m σ' H' ⟨rfl,hi,hσ,out,ho,ha,p⟩
 by_cases hlt:i<n
 . refine .inr ⟨hgo i out H' hlt ha p,fun σ3=>∀w:Option V,σ3.set k w=σ2.set k w,(uX Pv i acc out),fun H3=>H3 acc=some (.lst out)/\Pv (i+1) out H3,fun σ3 v H4 hS ⟨a,b⟩=>?_,fun σ3 H4 hS ⟨a,b⟩=>?_,fun x H1 y=>?_⟩
   . refine ⟨out,a,?_,n-(i+1),by omega,Z,hlt,hS,out++[v],by rw [cY];exact Nat.succ_le_succ ho,ak,b⟩
     have:sizeLine=16777216:=fj
     omega
   . exact ⟨n-(i+1),by omega,Z,hlt,hS,out,by omega,a,b⟩
   . refine ⟨fun w=>by rw [rP];exact hσ w,?_⟩
     rw [hσ]
     exact hs i x out H' H1 hlt ho ha p y
 . have e:i=n:=by omega
   subst e
   exact .inl ⟨hst out H' ha p,hd out H' ho ha p⟩
structure Mn (P:Program) (w:World) (K:Fg) (mg:SO) (base:Heap) (k:Nat) (C:Addr) (m:Str) (ps:List Str) (sp:Sp):Prop where
 ex:∃f fd,iA P w K mg base ug k f fd ps sp/\Binds K fd ps []/\Meth K C m f/\oU K C
structure Cn (P:Program) (w:World) (K:Fg) (mg:SO) (base:Heap) (k:Nat) (x:Str) (C:Addr) (ps:List Str) (sp:Sp):Prop where
 ex:∃f fd,iA P w K mg base ug k f fd ps sp/\Binds K fd ps []/\Mk K C f/\mg x=some (.ref C)
section
variable {X:Cx}
inductive aeI (x:V) (y:V) (H:Hp) (Q:VK):Prop
 | mk  (i j:_) (_:x = .int i) (_:y = .int j) (_:RG i j) (_:Q (.int (i*j)) H)
theorem ZU:Rr X .Mult aeI:=by
 rintro pins s σ H x y u v Q I rx ry ⟨i,j,rfl,rfl,⟨m,n,h1,h2,h3⟩,q⟩
 obtain ⟨t,rfl⟩:=(show ∃t,u=Value.int i t from rx)
 obtain ⟨t',rfl⟩:=(show ∃t',v=Value.int j t' from ry)
 exact PyProof.Rows.imul_int ⟨.int (i*j),H,I.tok _,⟨_,Z⟩,q⟩ (IntMulOk.of_le (Q_.mpr h1) (Q_.mpr h2) h3)
end
structure jb (K:Fg) (C:Addr) (m qual:Str) (st:Stmt) (f:Addr) (fd:FuncData):Prop where
 fn:IF K m qual st f fd
 me:Meth K C m f
 cl:oU K C
variable {mg:SO} {base:Heap} {C f:Addr} {qual:Str} {fd:FuncData} {N ps:List Str} {sp:Sp}
theorem jb.ok {w:World} {m:Str} {st:Stmt} {k:Nat} (F:jb K C m qual st f fd) (S:aJ N ps (ay st)) (len:∀vs H Q E,sp vs H Q E->vs.length=ps.length)
  (hbody:∀(cdv:Value) (A:Around) (outer:List Env) (s:Shared) (H:Hp) (vs:List V) (Q:VK) (E:XK),dI k (A.deeper (envOfC qual (ay st) s.heap.objs.size f cdv))->sp vs H Q E->
    ∃t,qI (dz ug P w K mg base N qual (ay st) f cdv A outer s H E).Cr (cG st) t/\t { nx:=fun _ H'=>Q .cg H',rt:=Q } (start N vs) H)
  (h:∀(kV doc pm:Value) (an:Option Addr) (cdv ct:Value) (us:List Value),us.length=ps.length->bindArgs (PySem.W.fnOf m qual (dY st) (cG st) (ay st) .none kV doc pm an cdv ct) ⟨us,[]⟩=pure (ps.zip us)):
  Mn P w K mg base (k+1) C m ps sp:=⟨f,fd,F.fn.ok S len hbody,F.fn.binds h,F.me,F.cl⟩
structure IM (K:Fg) (mg:SO) (x:Str) (C:Addr) (qual:Str) (st:Stmt) (f:Addr) (fd:FuncData):Prop where
 fn:IF K "__init__" qual st f fd
 mks:Mk K C f
 name:mg x=some (.ref C)
theorem IM.ok {w:World} {st:Stmt} {k:Nat} (F:IM K mg x C qual st f fd) (S:aJ N ps (ay st)) (len:∀vs H Q E,sp vs H Q E->vs.length=ps.length)
  (hbody:∀(cdv:Value) (A:Around) (outer:List Env) (s:Shared) (H:Hp) (vs:List V) (Q:VK) (E:XK),dI k (A.deeper (envOfC qual (ay st) s.heap.objs.size f cdv))->sp vs H Q E->
    ∃t,qI (dz ug P w K mg base N qual (ay st) f cdv A outer s H E).Cr (cG st) t/\t { nx:=fun _ H'=>Q .cg H',rt:=Q } (start N vs) H)
  (h:∀(kV doc pm:Value) (an:Option Addr) (cdv ct:Value) (us:List Value),us.length=ps.length->bindArgs (PySem.W.fnOf "__init__" qual (dY st) (cG st) (ay st) .none kV doc pm an cdv ct) ⟨us,[]⟩=pure (ps.zip us)):
  Cn P w K mg base (k+1) x C ps sp:=⟨f,fd,F.fn.ok S len hbody,F.fn.binds h,F.mks,F.name⟩
abbrev uh:=Nat×Nat×Str
abbrev fK:=Addr->Option uh
abbrev col (n t:Nat):Option uh:=some (n,t,(⟨#[]⟩:Str))
def isTup:HO->Bool
 | .tup _=>true
 | _=>false
def Gh (ρ:fK) (H:Hp):Prop:=∀b c,ρ b=some c->∃o,H b=some o/\isTup o=false
def Fr (n:Nat) (ρ:fK) (H:Hp) (ρ':fK) (H':Hp):Prop:=∀b o,H b=some o->(∀t x,ρ b≠some (n,t,x))->H' b=some o/\ρ' b=ρ b
def bZ (ρ:fK) (a:Addr) (c:uh):fK:=fun b=>if b=a then some c else ρ b
variable {ρ:fK}
theorem dD {c:uh}:bZ ρ a c a=some c:=aB rfl
theorem cu {b:Addr} {c:uh} (h:b≠a):bZ ρ a c b=ρ b:=az h
def out (ρ:fK) (H:Hp):Hp:=fun b=>if ρ b=none then H b else none
variable {o:HO}
theorem EO {b:Addr} (h:H b=some o) (c:ρ b=none):out ρ H b=some o:=by
 unfold out;rw [aB c];exact h
theorem yP {b:Addr} (h:out ρ H b=some o):H b=some o/\ρ b=none:=by
 unfold out at h
 split at h
 . next c=>exact ⟨h,c⟩
 . cases h
theorem Gh.none (g:Gh ρ H) {b:Addr} (h:H b=Option.none):ρ b=Option.none:=by
 cases e:ρ b with
 | none=>rfl
 | some c=>obtain ⟨o,q,_⟩:=g b c e;rw [h] at q;cases q
theorem Gh.tup {ρ:fK} {H:Hp} (g:Gh ρ H) {b:Addr} {xs:List V} (h:H b=some (.tup xs)):ρ b=Option.none:=by
 cases e:ρ b with
 | none=>rfl
 | some c=>obtain ⟨o,q,t⟩:=g b c e;rw [h] at q;cases q;cases t
theorem Gh.same (g:Gh ρ H) (s:aI H H'):Gh ρ H':=fun b c e=>let ⟨o,h,t⟩:=g b c e;⟨o,s b o h,t⟩
theorem Gh.wr (g:Gh ρ H) (t:isTup o=false):Gh ρ (upd H a o):=fun b c e=>by
 by_cases h:b=a
 . rw [h,ak];exact ⟨o,Z,t⟩
 . rw [av h];exact g b c e
theorem Gh.alloc (g:Gh ρ H) (h:H a=Option.none):Gh ρ (upd H a o):=g.same (aA h o)
theorem Gh.color (g:Gh ρ H) {c:uh} (h:H a=some o) (t:isTup o=false):Gh (bZ ρ a c) H:=fun b d e=>by
 by_cases z:b=a
 . rw [z];exact ⟨o,h,t⟩
 . rw [cu z] at e;exact g b d e
theorem Fr.refl:Fr n ρ H ρ H:=fun _ _ h _=>⟨h,Z⟩
variable {H1 H2:Hp}
theorem Fr.trans {ρ1 ρ2:fK} (a:Fr n ρ H ρ1 H1) (b:Fr n ρ1 H1 ρ2 H2):Fr n ρ H ρ2 H2:=fun c o h k=>by
 obtain ⟨h1,e1⟩:=a c o h k
 obtain ⟨h2,e2⟩:=b c o h1 (by rw [e1];exact k)
 exact ⟨h2,e2.trans e1⟩
theorem Fr.of_same (s:aI H H'):Fr n ρ H ρ H':=fun b o h _=>⟨s b o h,Z⟩
theorem Fr.write (c:ρ a=some (n,t,x)):Fr n ρ H ρ (upd H a o):=fun b u h k=>by
 have:b≠a:=fun e=>k t x (by rw [e];exact c)
 rw [av this];exact ⟨h,Z⟩
theorem Fr.color {c:uh} (h:H a=none) (s:aI H H'):Fr n ρ H (bZ ρ a c) H':=fun b u e k=>by
 rw [cu (aE e h)];exact ⟨s b u e,Z⟩
variable {ρ':fK}
theorem Fr.out (f:Fr n ρ H ρ' H'):aI (out ρ H) (out ρ' H'):=fun b o h=>by
 obtain ⟨h1,c⟩:=yP h
 obtain ⟨h2,e⟩:=f b o h1 (fun t x=>by rw [c];intro z;cases z)
 exact EO h2 (e.trans c)
theorem iT (s:aI H H'):aI (out ρ H) (out ρ H'):=fun b o h=>by
 obtain ⟨h1,c⟩:=yP h
 exact EO (s b o h1) c
structure Pt where
 nm:Str
 ow:Str
 wo:Int
 we:Int
 sc:Int
 row:List Int
structure qJ where
 nm:Str
 ow:Str
 wo:Int
 sh:List (Str×Rat)
structure HS where
 own:List Str
 ah:List Pt
 jZ:List qJ
 nms:List Str
 stp:List Int
 prod:Int
 kn:Nat
 bR:List Int
 dj:List Int
structure HA where
 a:Addr
 dx:Addr
 pl:Addr
 ab:Addr
 as:Addr
 nm:Addr
 bt:Addr
 db:Addr
 cm:Addr
 pu:Addr
 sp:Addr
 kn:Addr
 qs:List (Addr×Addr×Addr)
structure TC where
 hold:Addr
 part:Addr
 bot:Addr
def fP:Nat->List Str->List (Key×V)
 | _,[]=>[]
 | i,o::r=>(Sum.inr o, .int i)::fP (i+1) r
def cZ (ps:List Pt) (qs:List (Addr×Addr×Addr)):List (Key×V):=List.zipWith (fun p q=>((Sum.inr p.nm:Key),V.ref q.1)) ps qs
def u7 (l:List Str):List (Key×V):=l.map fun x=>(Sum.inr x, .bl true)
def nc (A:HA):List (Str×V):=[("places", .ref A.pl),("aboard", .ref A.ab),("ashore", .ref A.as),("names", .ref A.nm),("bottom", .ref A.bt),("common", .ref A.cm),("purses", .ref A.pu)]
def gm (p:Pt) (r:Addr):List (Str×V):=[("name", .str p.nm),("owner", .str p.ow),("worth", .int p.wo),("weight", .int p.we),("scale", .int p.sc),("row", .ref r)]
def yQ (sp:Addr) (prod:Int) (kn:Addr):List (Str×V):=[("steps", .ref sp),("product", .int prod),("known", .ref kn)]
def LA (H:Hp) (kvs:List (Key×V)) (prod:Int):Prop:=∀p∈kvs,∃(t:Int) (r:Addr),p=(Sum.inl t,V.ref r)/\H r=some (pP (Jm.fr t prod))
inductive jh (H:Hp):List V->List (Str×Rat)->Prop
 | nil:jh H [] []
 | cons {r f:Addr} {x:Str} {q:Rat} {vs:List V} {l:List (Str×Rat)}:H r=some (.tup [.str x, .ref f])->H f=some (pP q)->jh H vs l->jh H (.ref r::vs) ((x,q)::l)
inductive pT (n:Nat) (ρ:fK) (H:Hp):List V->List qJ->Prop
 | nil:pT n ρ H [] []
 | cons {r l:Addr} {x:qJ} {ss:List V} {vs:List V} {as:List qJ}:H r=some (.tup [.str x.nm, .str x.ow, .int x.wo, .ref l])->H l=some (.lst ss)->ρ l=some (n,30,x.nm)->jh H ss x.sh->pT n ρ H vs as->pT n ρ H (.ref r::vs) (x::as)
structure aZ (T:TC) (n:Nat) (ρ:fK) (A:HA) (H:Hp) (st:HS):Prop where
 oa:H A.a=some (.ins T.hold A.dx (nc A))
 ca:ρ A.a=col n 0
 jc:H A.pl=some (.dK (fP 0 st.own))
 jL:ρ A.pl=col n 1
 eY:H A.ab=some (.dK (cZ st.ah A.qs))
 gW:ρ A.ab=col n 2
 wH:∃vs,H A.as=some (.lst vs)/\pT n ρ H vs st.jZ
 ku:ρ A.as=col n 3
 u9:H A.nm=some (.dK (u7 st.nms))
 j0:ρ A.nm=col n 4
 oY:H A.bt=some (.ins T.bot A.db (yQ A.sp st.prod A.kn))
 j5:ρ A.bt=col n 5
 j6:H A.cm=some (.lst (st.bR.map V.int))
 kT:ρ A.cm=col n 6
 qK:H A.pu=some (.lst (st.dj.map V.int))
 cpu:ρ A.pu=col n 7
 um:H A.sp=some (.lst (st.stp.map V.int))
 j7:ρ A.sp=col n 8
 okn:∃kvs,H A.kn=some (.dK kvs)/\LA H kvs st.prod/\kvs.length<=st.kn/\(kvs.map (·.1)).Nodup
 j8:ρ A.kn=col n 9
 ql:A.qs.length=st.ah.length
 opt:∀(i:Nat) (p:Pt) (q:Addr×Addr×Addr),st.ah[i]?=some p->A.qs[i]?=some q->H q.1=some (.ins T.part q.2.1 (gm p q.2.2))/\H q.2.2=some (.lst (p.row.map V.int))/\ρ q.1=some (n,20,p.nm)/\ρ q.2.2=some (n,21,p.nm)
theorem ER {b:Addr} {c d:uh} (ha:ρ a=some c) (hb:ρ b=some d) (h:c≠d):a≠b:=fun e=>by
 rw [e,hb] at ha;cases ha;exact h rfl
theorem CB {b:Addr} {c:uh} (ha:ρ a=none) (hb:ρ b=some c):a≠b:=fun e=>by rw [e,hb] at ha;cases ha
variable {vs:List V}
theorem jh.mono {l:List (Str×Rat)} (h:jh H vs l) (g:∀b xs,H b=some (.tup xs)->H' b=some (.tup xs)):jh H' vs l:=by
 induction h with
 | nil=>exact .nil
 | cons a b _ ih=>exact .cons (g _ _ a) (g _ _ b) ih
def Kp (n:Nat) (ρ ρ':fK) (H H':Hp) (ts:Nat->Bool):Prop:=(∀b xs,H b=some (.tup xs)->H' b=some (.tup xs))/\∀b t x o,ts t=true->ρ b=some (n,t,x)->H b=some o->H' b=some o/\ρ' b=some (n,t,x)
variable {ts:Nat->Bool}
theorem pT.keep {l:List qJ} (h:pT n ρ H vs l) (k:Kp n ρ ρ' H H' ts) (e:ts 30=true):pT n ρ' H' vs l:=by
 induction h with
 | nil=>exact .nil
 | cons a b c d _ ih=>exact .cons (k.1 _ _ a) (k.2 _ _ _ _ e c b).1 (k.2 _ _ _ _ e c b).2 (d.mono k.1) ih
theorem fH (g:Gh ρ H) (c:ρ a=some (n,t,x)):Kp n ρ ρ H (upd H a o) (fun u=>decide (u≠t)):=by
 refine ⟨fun b xs h=>?_,fun b u y w hu hc h=>⟨?_,hc⟩⟩
 . rw [av (CB (g.tup h) c)];exact h
 . rw [av (ER hc c (fun e=>by cases e;exact absurd hu (by simp)))];exact h
theorem kz (k:Kp n ρ ρ' H H' ts) {b:Addr} (c:ρ b=some (n,t,x)) (e:H b=some o) (u:ts t=true:=by decide):H' b=some o:=(k.2 b t x o u c e).1
theorem PZ (s:aI H H'):Kp n ρ ρ H H' ts:=⟨fun b xs h=>s _ _ h,fun b u y w _ hc h=>⟨s _ _ h,hc⟩⟩
variable {T:TC} {st:HS}
theorem aZ.same {A:HA} (h:aZ T n ρ A H st) (k:Kp n ρ ρ' H H' fun _=>true):aZ T n ρ' A H' st:=by
 have z:=fun {b:Addr} {t:Nat} {x:Str} {o:HO} (c:ρ b=some (n,t,x)) (e:H b=some o)=>k.2 b t x o rfl c e
 obtain ⟨vs,h1,h2⟩:=h.wH
 obtain ⟨kvs,k1,k2,k3⟩:=h.okn
 exact ⟨(z h.ca h.oa).1,(z h.ca h.oa).2,(z h.jL h.jc).1,(z h.jL h.jc).2,(z h.gW h.eY).1,(z h.gW h.eY).2,⟨vs,(z h.ku h1).1,h2.keep k rfl⟩,(z h.ku h1).2,(z h.j0 h.u9).1,(z h.j0 h.u9).2,(z h.j5 h.oY).1,(z h.j5 h.oY).2,
  (z h.kT h.j6).1,(z h.kT h.j6).2,(z h.cpu h.qK).1,(z h.cpu h.qK).2,(z h.j7 h.um).1,(z h.j7 h.um).2,⟨kvs,(z h.j8 k1).1,fun p hp=>let ⟨t,r,e,q⟩:=k2 p hp;⟨t,r,e,k.1 _ _ q⟩,k3⟩,(z h.j8 k1).2,h.ql,
  fun i p q e1 e2=>let ⟨a,b,c,d⟩:=h.opt i p q e1 e2;⟨(z c a).1,(z d b).1,(z c a).2,(z d b).2⟩⟩
theorem aZ.mono {A:HA} (h:aZ T n ρ A H st) (s:aI H H'):aZ T n ρ A H' st:=h.same (PZ s)
theorem aZ.other {A:HA} (h:aZ T m ρ A H st) (f:Fr n ρ H ρ' H') (g:Gh ρ H) (e:m≠n):aZ T m ρ' A H' st:=
 h.same ⟨fun b xs q=>(f b _ q fun t x=>by rw [g.tup q];intro z;cases z).1,fun b t x o _ c q=>by
   obtain ⟨a,b'⟩:=f b o q fun t' x'=>by rw [c];intro z;cases z;exact e rfl
   exact ⟨a,b'.trans c⟩⟩
theorem GR {p0 p1:Pt}:∀{ps:List Pt} {qs:List (Addr×Addr×Addr)} {i:Nat},ps[i]?=some p0->p1.nm=p0.nm->cZ (ps.set i p1) qs=cZ ps qs
 | [],_,_,h,_=>by simp at h
 | _::_,[],_,_,_=>by simp [cZ]
 | p::ps,q::qs,0,h,e=>by
   have:p=p0:=by simpa using h
   simp [cZ,e,this]
 | p::ps,q::qs,i+1,h,e=>by
   have:=GR (qs:=qs) (by simpa using h:ps[i]?=some p0) e
   simp only [cZ,KU,xh] at this ⊢
   rw [this]
variable {j:Nat} {p:Pt}
theorem LB {ps:List Pt} (nd:(ps.map (·.nm)).Nodup) {q:Pt} (h1:ps[i]?=some p) (h2:ps[j]?=some q) (e:p.nm=q.nm):i=j:=by
 have a:(ps.map (·.nm))[i]?=some p.nm:=by rw [bK,h1];rfl
 have b:(ps.map (·.nm))[j]?=some p.nm:=by rw [bK,h2,e];rfl
 exact yK nd a b
variable {p0:Pt} {q0:Addr×Addr×Addr}
theorem ZV {A:HA} (h:aZ T n ρ A H st) (k:Kp n ρ ρ H H' ts) (nd:(st.ah.map (·.nm)).Nodup) {p1:Pt} (ep:st.ah[i]?=some p0) (eq:A.qs[i]?=some q0) (e1:p1.nm=p0.nm)
  (hw:H' q0.1=some (.ins T.part q0.2.1 (gm p1 q0.2.2))) (hs:∀{b:Addr} {t:Nat} {x:Str} {o:HO},ρ b=some (n,t,x)->t≠20\/x≠p0.nm->H b=some o->H' b=some o) (er:(.lst (p0.row.map V.int):HO) = .lst (p1.row.map V.int)):
  ∀(j:Nat) (p:Pt) (q:Addr×Addr×Addr),(st.ah.set i p1)[j]?=some p->A.qs[j]?=some q->H' q.1=some (.ins T.part q.2.1 (gm p q.2.2))/\H' q.2.2=some (.lst (p.row.map V.int))/\ρ q.1=some (n,20,p.nm)/\ρ q.2.2=some (n,21,p.nm):=by
 intro j p q ej eq'
 by_cases hj:i=j
 . subst hj
   rw [eq] at eq';cases eq'
   rw [kC (d7.mp ep).1] at ej
   cases ej
   obtain ⟨a,b,c,d⟩:=h.opt i p0 q0 ep eq
   exact ⟨hw,by rw [<-er];exact hs d (.inl (by decide)) b,by rw [e1];exact c,by rw [e1];exact d⟩
 . rw [Ak hj] at ej
   obtain ⟨a,b,c,d⟩:=h.opt j p q ej eq'
   exact ⟨hs c (.inr fun e=>hj (LB nd ep ej e.symm)) a,hs d (.inl (by decide)) b,c,d⟩
theorem Xf {A:HA} (h:aZ T n ρ A H st) (nd:(st.ah.map (·.nm)).Nodup) {l:List Int} (ep:st.ah[i]?=some p0) (eq:A.qs[i]?=some q0)
  (hw:H' q0.2.2=some (.lst (l.map V.int))) (hs:∀{b:Addr} {t:Nat} {x:Str} {o:HO},ρ b=some (n,t,x)->t≠21\/x≠p0.nm->H b=some o->H' b=some o):
  ∀(j:Nat) (p:Pt) (q:Addr×Addr×Addr),(st.ah.set i { p0 with row:=l })[j]?=some p->A.qs[j]?=some q->H' q.1=some (.ins T.part q.2.1 (gm p q.2.2))/\H' q.2.2=some (.lst (p.row.map V.int))/\ρ q.1=some (n,20,p.nm)/\ρ q.2.2=some (n,21,p.nm):=by
 intro j p q ej eq'
 by_cases hj:i=j
 . subst hj
   rw [eq] at eq';cases eq'
   rw [kC (d7.mp ep).1] at ej
   cases ej
   obtain ⟨a,b,c,d⟩:=h.opt i p0 q0 ep eq
   exact ⟨hs c (.inl (by decide)) a,hw,c,d⟩
 . rw [Ak hj] at ej
   obtain ⟨a,b,c,d⟩:=h.opt j p q ej eq'
   exact ⟨hs c (.inl (by decide)) a,hs d (.inr fun e=>hj (LB nd ep ej e.symm)) b,c,d⟩
theorem IP (c:ρ a=some (n,t,x)):∀{b:Addr} {u:Nat} {y:Str} {w:HO},ρ b=some (n,u,y)->u≠t\/y≠x->H b=some w->upd H a o b=some w:=fun {b u y w} hc hu h=>by
 rw [av (ER hc c (fun e=>by cases e;rcases hu with z|z <;> exact z rfl))];exact h
theorem aZ.ab_ {A:HA} (h:aZ T n ρ A H st) (g:Gh ρ H) (l:List Str):aZ T n ρ A (upd H A.pl (.dK (fP 0 l))) { st with own:=l }:=by
 have k:=fH (o:= .dK (fP 0 l)) g h.jL
 obtain ⟨vs,h1,h2⟩:=h.wH
 obtain ⟨kvs,k1,k2,k3⟩:=h.okn
 exact ⟨kz k h.ca h.oa,h.ca,ak,h.jL,kz k h.gW h.eY,h.gW,⟨vs,kz k h.ku h1,h2.keep k (by decide)⟩,h.ku,kz k h.j0 h.u9,h.j0,kz k h.j5 h.oY,h.j5,kz k h.kT h.j6,h.kT,kz k h.cpu h.qK,h.cpu,kz k h.j7 h.um,h.j7,⟨kvs,kz k h.j8 k1,fun p hp=>let ⟨t,r,e,q⟩:=k2 p hp;⟨t,r,e,k.1 _ _ q⟩,k3⟩,h.j8,h.ql,fun i p q e1 e2=>let ⟨a,b,c,d⟩:=h.opt i p q e1 e2;⟨kz k c a,kz k d b,c,d⟩⟩
theorem aZ.Ux {A:HA} (h:aZ T n ρ A H st) (g:Gh ρ H) (ps:List Pt) (qs:List (Addr×Addr×Addr)) (el:qs.length=ps.length) (hp:∀(i:Nat) (p:Pt) (q:Addr×Addr×Addr),ps[i]?=some p->qs[i]?=some q->H q.1=some (.ins T.part q.2.1 (gm p q.2.2))/\H q.2.2=some (.lst (p.row.map V.int))/\ρ q.1=some (n,20,p.nm)/\ρ q.2.2=some (n,21,p.nm)):aZ T n ρ { A with qs:=qs } (upd H A.ab (.dK (cZ ps qs))) { st with ah:=ps }:=by
 have k:=fH (o:= .dK (cZ ps qs)) g h.gW
 obtain ⟨vs,h1,h2⟩:=h.wH
 obtain ⟨kvs,k1,k2,k3⟩:=h.okn
 exact ⟨kz k h.ca h.oa,h.ca,kz k h.jL h.jc,h.jL,ak,h.gW,⟨vs,kz k h.ku h1,h2.keep k (by decide)⟩,h.ku,kz k h.j0 h.u9,h.j0,kz k h.j5 h.oY,h.j5,kz k h.kT h.j6,h.kT,kz k h.cpu h.qK,h.cpu,kz k h.j7 h.um,h.j7,⟨kvs,kz k h.j8 k1,fun p hp=>let ⟨t,r,e,q⟩:=k2 p hp;⟨t,r,e,k.1 _ _ q⟩,k3⟩,h.j8,el,fun i p q e1 e2=>let ⟨a,b,c,d⟩:=hp i p q e1 e2;⟨kz k c a,kz k d b,c,d⟩⟩
theorem aZ.acd {A:HA} (h:aZ T n ρ A H st) (g:Gh ρ H) (l:List Str):aZ T n ρ A (upd H A.nm (.dK (u7 l))) { st with nms:=l }:=by
 have k:=fH (o:= .dK (u7 l)) g h.j0
 obtain ⟨vs,h1,h2⟩:=h.wH
 obtain ⟨kvs,k1,k2,k3⟩:=h.okn
 exact ⟨kz k h.ca h.oa,h.ca,kz k h.jL h.jc,h.jL,kz k h.gW h.eY,h.gW,⟨vs,kz k h.ku h1,h2.keep k (by decide)⟩,h.ku,ak,h.j0,kz k h.j5 h.oY,h.j5,kz k h.kT h.j6,h.kT,kz k h.cpu h.qK,h.cpu,kz k h.j7 h.um,h.j7,⟨kvs,kz k h.j8 k1,fun p hp=>let ⟨t,r,e,q⟩:=k2 p hp;⟨t,r,e,k.1 _ _ q⟩,k3⟩,h.j8,h.ql,fun i p q e1 e2=>let ⟨a,b,c,d⟩:=h.opt i p q e1 e2;⟨kz k c a,kz k d b,c,d⟩⟩
theorem aZ.ace {A:HA} (h:aZ T n ρ A H st) (g:Gh ρ H) (l:List Int):aZ T n ρ A (upd H A.cm (.lst (l.map V.int))) { st with bR:=l }:=by
 have k:=fH (o:= .lst (l.map V.int)) g h.kT
 obtain ⟨vs,h1,h2⟩:=h.wH
 obtain ⟨kvs,k1,k2,k3⟩:=h.okn
 exact ⟨kz k h.ca h.oa,h.ca,kz k h.jL h.jc,h.jL,kz k h.gW h.eY,h.gW,⟨vs,kz k h.ku h1,h2.keep k (by decide)⟩,h.ku,kz k h.j0 h.u9,h.j0,kz k h.j5 h.oY,h.j5,ak,h.kT,kz k h.cpu h.qK,h.cpu,kz k h.j7 h.um,h.j7,⟨kvs,kz k h.j8 k1,fun p hp=>let ⟨t,r,e,q⟩:=k2 p hp;⟨t,r,e,k.1 _ _ q⟩,k3⟩,h.j8,h.ql,fun i p q e1 e2=>let ⟨a,b,c,d⟩:=h.opt i p q e1 e2;⟨kz k c a,kz k d b,c,d⟩⟩
theorem aZ.acf {A:HA} (h:aZ T n ρ A H st) (g:Gh ρ H) (l:List Int):aZ T n ρ A (upd H A.pu (.lst (l.map V.int))) { st with dj:=l }:=by
 have k:=fH (o:= .lst (l.map V.int)) g h.cpu
 obtain ⟨vs,h1,h2⟩:=h.wH
 obtain ⟨kvs,k1,k2,k3⟩:=h.okn
 exact ⟨kz k h.ca h.oa,h.ca,kz k h.jL h.jc,h.jL,kz k h.gW h.eY,h.gW,⟨vs,kz k h.ku h1,h2.keep k (by decide)⟩,h.ku,kz k h.j0 h.u9,h.j0,kz k h.j5 h.oY,h.j5,kz k h.kT h.j6,h.kT,ak,h.cpu,kz k h.j7 h.um,h.j7,⟨kvs,kz k h.j8 k1,fun p hp=>let ⟨t,r,e,q⟩:=k2 p hp;⟨t,r,e,k.1 _ _ q⟩,k3⟩,h.j8,h.ql,fun i p q e1 e2=>let ⟨a,b,c,d⟩:=h.opt i p q e1 e2;⟨kz k c a,kz k d b,c,d⟩⟩
theorem aZ.acg {A:HA} (h:aZ T n ρ A H st) (g:Gh ρ H) (l:List Int):aZ T n ρ A (upd H A.sp (.lst (l.map V.int))) { st with stp:=l }:=by
 have k:=fH (o:= .lst (l.map V.int)) g h.j7
 obtain ⟨vs,h1,h2⟩:=h.wH
 obtain ⟨kvs,k1,k2,k3⟩:=h.okn
 exact ⟨kz k h.ca h.oa,h.ca,kz k h.jL h.jc,h.jL,kz k h.gW h.eY,h.gW,⟨vs,kz k h.ku h1,h2.keep k (by decide)⟩,h.ku,kz k h.j0 h.u9,h.j0,kz k h.j5 h.oY,h.j5,kz k h.kT h.j6,h.kT,kz k h.cpu h.qK,h.cpu,ak,h.j7,⟨kvs,kz k h.j8 k1,fun p hp=>let ⟨t,r,e,q⟩:=k2 p hp;⟨t,r,e,k.1 _ _ q⟩,k3⟩,h.j8,h.ql,fun i p q e1 e2=>let ⟨a,b,c,d⟩:=h.opt i p q e1 e2;⟨kz k c a,kz k d b,c,d⟩⟩
theorem aZ.ach {A:HA} (h:aZ T n ρ A H st) (g:Gh ρ H) (q:Addr) (l:List Int) (e:H q=some (.lst (l.map V.int))) (c:ρ q=col n 6):aZ T n ρ { A with cm:=q } (upd H A.a (.ins T.hold A.dx (nc { A with cm:=q }))) { st with bR:=l }:=by
 have k:=fH (o:= .ins T.hold A.dx (nc { A with cm:=q })) g h.ca
 obtain ⟨vs,h1,h2⟩:=h.wH
 obtain ⟨kvs,k1,k2,k3⟩:=h.okn
 exact ⟨ak,h.ca,kz k h.jL h.jc,h.jL,kz k h.gW h.eY,h.gW,⟨vs,kz k h.ku h1,h2.keep k (by decide)⟩,h.ku,kz k h.j0 h.u9,h.j0,kz k h.j5 h.oY,h.j5,kz k c e,c,kz k h.cpu h.qK,h.cpu,kz k h.j7 h.um,h.j7,⟨kvs,kz k h.j8 k1,fun p hp=>let ⟨t,r,e,q⟩:=k2 p hp;⟨t,r,e,k.1 _ _ q⟩,k3⟩,h.j8,h.ql,fun i p q e1 e2=>let ⟨a,b,c,d⟩:=h.opt i p q e1 e2;⟨kz k c a,kz k d b,c,d⟩⟩
theorem aZ.aci {A:HA} (h:aZ T n ρ A H st) (g:Gh ρ H) (q:Addr) (l:List Int) (e:H q=some (.lst (l.map V.int))) (c:ρ q=col n 7):aZ T n ρ { A with pu:=q } (upd H A.a (.ins T.hold A.dx (nc { A with pu:=q }))) { st with dj:=l }:=by
 have k:=fH (o:= .ins T.hold A.dx (nc { A with pu:=q })) g h.ca
 obtain ⟨vs,h1,h2⟩:=h.wH
 obtain ⟨kvs,k1,k2,k3⟩:=h.okn
 exact ⟨ak,h.ca,kz k h.jL h.jc,h.jL,kz k h.gW h.eY,h.gW,⟨vs,kz k h.ku h1,h2.keep k (by decide)⟩,h.ku,kz k h.j0 h.u9,h.j0,kz k h.j5 h.oY,h.j5,kz k h.kT h.j6,h.kT,kz k c e,c,kz k h.j7 h.um,h.j7,⟨kvs,kz k h.j8 k1,fun p hp=>let ⟨t,r,e,q⟩:=k2 p hp;⟨t,r,e,k.1 _ _ q⟩,k3⟩,h.j8,h.ql,fun i p q e1 e2=>let ⟨a,b,c,d⟩:=h.opt i p q e1 e2;⟨kz k c a,kz k d b,c,d⟩⟩
theorem aZ.acj {A:HA} (h:aZ T n ρ A H st) (g:Gh ρ H) (m:Int) (q:Addr) (e:H q=some (.dK [])) (c:ρ q=col n 9):aZ T n ρ { A with kn:=q } (upd H A.bt (.ins T.bot A.db (yQ A.sp m q))) { st with prod:=m,kn:=0 }:=by
 have k:=fH (o:= .ins T.bot A.db (yQ A.sp m q)) g h.j5
 obtain ⟨vs,h1,h2⟩:=h.wH
 obtain ⟨kvs,k1,k2,k3⟩:=h.okn
 exact ⟨kz k h.ca h.oa,h.ca,kz k h.jL h.jc,h.jL,kz k h.gW h.eY,h.gW,⟨vs,kz k h.ku h1,h2.keep k (by decide)⟩,h.ku,kz k h.j0 h.u9,h.j0,ak,h.j5,kz k h.kT h.j6,h.kT,kz k h.cpu h.qK,h.cpu,kz k h.j7 h.um,h.j7,⟨[],kz k c e,(fun p hp=>absurd hp (by simp)),aS _,wm⟩,c,h.ql,fun i p q e1 e2=>let ⟨a,b,c,d⟩:=h.opt i p q e1 e2;⟨kz k c a,kz k d b,c,d⟩⟩
theorem aZ.pU {A:HA} (h:aZ T n ρ A H st) (g:Gh ρ H) {p1:Pt} (ep:st.ah[i]?=some p0) (eq:A.qs[i]?=some q0) (e1:p1.nm=p0.nm) (e2:p1.row=p0.row) (nd:(st.ah.map (·.nm)).Nodup):aZ T n ρ A (upd H q0.1 (.ins T.part q0.2.1 (gm p1 q0.2.2))) { st with ah:=st.ah.set i p1 }:=by
 have k:=fH (o:= .ins T.part q0.2.1 (gm p1 q0.2.2)) g (h.opt i p0 q0 ep eq).2.2.1
 obtain ⟨vs,h1,h2⟩:=h.wH
 obtain ⟨kvs,k1,k2,k3⟩:=h.okn
 exact ⟨kz k h.ca h.oa,h.ca,kz k h.jL h.jc,h.jL,by rw [GR ep e1];exact kz k h.gW h.eY,h.gW,⟨vs,kz k h.ku h1,h2.keep k (by decide)⟩,h.ku,kz k h.j0 h.u9,h.j0,kz k h.j5 h.oY,h.j5,kz k h.kT h.j6,h.kT,kz k h.cpu h.qK,h.cpu,kz k h.j7 h.um,h.j7,⟨kvs,kz k h.j8 k1,fun p hp=>let ⟨t,r,e,q⟩:=k2 p hp;⟨t,r,e,k.1 _ _ q⟩,k3⟩,h.j8,by rw [jN];exact h.ql,ZV h k nd ep eq e1 ak (IP (h.opt i p0 q0 ep eq).2.2.1) (by rw [e2])⟩
theorem aZ.ZW {A:HA} (h:aZ T n ρ A H st) (g:Gh ρ H) (l:List Int) (ep:st.ah[i]?=some p0) (eq:A.qs[i]?=some q0) (nd:(st.ah.map (·.nm)).Nodup):aZ T n ρ A (upd H q0.2.2 (.lst (l.map V.int))) { st with ah:=st.ah.set i { p0 with row:=l } }:=by
 have k:=fH (o:= .lst (l.map V.int)) g (h.opt i p0 q0 ep eq).2.2.2
 obtain ⟨vs,h1,h2⟩:=h.wH
 obtain ⟨kvs,k1,k2,k3⟩:=h.okn
 exact ⟨kz k h.ca h.oa,h.ca,kz k h.jL h.jc,h.jL,by show _=some (HO.dK (cZ (st.ah.set i { p0 with row:=l }) A.qs));rw [GR (p1:={ p0 with row:=l }) ep rfl];exact kz k h.gW h.eY,h.gW,⟨vs,kz k h.ku h1,h2.keep k (by decide)⟩,h.ku,kz k h.j0 h.u9,h.j0,kz k h.j5 h.oY,h.j5,kz k h.kT h.j6,h.kT,kz k h.cpu h.qK,h.cpu,kz k h.j7 h.um,h.j7,⟨kvs,kz k h.j8 k1,fun p hp=>let ⟨t,r,e,q⟩:=k2 p hp;⟨t,r,e,k.1 _ _ q⟩,k3⟩,h.j8,by rw [jN];exact h.ql,Xf h nd ep eq ak (IP (h.opt i p0 q0 ep eq).2.2.2)⟩
structure Txt (K:Fg) (T:TC):Prop where
 cH:oU K T.hold
 cP:oU K T.part
 cB:oU K T.bot
 hpl:fm K T.hold "places"
 hab:fm K T.hold "aboard"
 has:fm K T.hold "ashore"
 hnm:fm K T.hold "names"
 ES:fm K T.hold "bottom"
 CC:fm K T.hold "common"
 LC:fm K T.hold "purses"
 YB:fm K T.part "name"
 pow:fm K T.part "owner"
 ET:fm K T.part "worth"
 Uy:fm K T.part "weight"
 P0:fm K T.part "scale"
 Uz:fm K T.part "row"
 bst:fm K T.bot "steps"
 YC:fm K T.bot "product"
 UA:fm K T.bot "known"
structure Wf (st:HS):Prop where
 yR:st.own.Nodup
 De:st.nms.Nodup
 j9:(st.ah.map (·.nm)).Nodup
 sub:∀p∈st.ah,p.nm∈st.nms
 rows:∀p∈st.ah,p.row.length=st.own.length
 ow:∀p∈st.ah,p.ow∈st.own
 ji:st.bR.length=st.own.length
 yS:st.dj.length=st.own.length
 i7:1<=st.prod
 wI:st.prod=st.stp.foldl (·*·) 1
 AE:∀s∈st.stp,2<=s
 tH:st.own.length<=100
 Df:st.nms.length<=1000
 xy:st.ah.length<=1000
 GS:st.stp.length<=100
 AF:st.jZ.length<=1000
 UB:st.kn<=1000000
 big:Jm.Sz 8000 st.prod
 tK:∀c∈st.bR,0<=c/\c<=st.prod
 u_:∀p∈st.ah,1<=p.sc/\p.sc<=st.prod
 qR:∀p∈st.ah,∀r∈p.row,-st.prod<=r/\r<=st.prod
 yT:∀p∈st.ah,∀t∈List.zipWith (fun r c=>p.sc*r+c) p.row st.bR,0<=t/\t<=st.prod
 vc:∀p∈st.ah,1<=p.wo/\0<=p.we
 LD:∀u∈st.dj,Jm.Sz 9000 u
structure HH (T:TC) (n:Nat) (ρ:fK) (A:HA) (H:Hp) (st:HS):Prop where
 g:Gh ρ H
 h:aZ T n ρ A H st
 wf:Wf st
def B3 (T:TC) (n:Nat) (ρ:fK) (A:HA) (H:Hp) (st:HS) (Q:Hp->Prop):Prop:=∀ρ' A' H',HH T n ρ' A' H' st->A'.a=A.a->Fr n ρ H ρ' H'->Q H'
def hs0:HS:=⟨[],[],[],[],[],1,0,[],[]⟩
theorem wf0:Wf hs0:=by
 refine ⟨wm,wm,wm,?_,?_,?_,Z,Z,?_,Z,?_,?_,?_,?_,?_,?_,?_,?_,?_,?_,?_,?_,?_,?_⟩ <;> first|(intro _ h;exact absurd h (by simp [hs0]))|decide|(show Jm.Sz 8000 1;exact pQ (by decide +kernel))
theorem P_:∀{l:List Str} {i:Nat} {o:Str},o∈l->ef (fP i l) (Sum.inr o)=some (.int ((i+l.idxOf o:Nat):Int))
 | [],_,_,h=>by simp at h
 | x::l,i,o,h=>by
   by_cases e:x=o
   . subst e
     rw [show fP i (x::l)=(Sum.inr x, .int i)::fP (i+1) l from rfl,gk rfl]
     simp
   . rw [show fP i (x::l)=(Sum.inr x, .int i)::fP (i+1) l from rfl,eU (by intro z;exact e (rR z))]
     have hm:o∈l:=by
      rcases dg.mp h with z|z
      . exact absurd z.symm e
      . exact z
     rw [P_ hm]
     have eb:(x==o)=false:=by simpa using e
     have:(x::l).idxOf o=l.idxOf o+1:=by rw [List.idxOf_cons,eb];rfl
     rw [this]
     show some (V.int ((i+1+l.idxOf o:Nat):Int))=some (V.int ((i+(l.idxOf o+1):Nat):Int))
     rw [show i+1+l.idxOf o=i+(l.idxOf o+1) from by omega]
theorem vd:∀{l:List Str} {i:Nat} {o:Str},o∉l->ef (fP i l) (Sum.inr o)=none
 | [],_,_,_=>rfl
 | x::l,i,o,h=>by
   rw [show fP i (x::l)=(Sum.inr x, .int i)::fP (i+1) l from rfl,eU (fun z=>h (by rw [<-rR z];exact cO))]
   exact vd fun m=>h (cL _ m)
theorem uz:∀(l:List Str) (i:Nat),(fP i l).length=l.length
 | [],_=>rfl
 | _::l,i=>by rw [show ∀x,fP i (x::l)=(Sum.inr x, .int i)::fP (i+1) l from fun _=>rfl,m7,m7,uz l]
theorem LF:∀(l:List Str) (i:Nat) (o:Str),fP i (l++[o])=fP i l++[(Sum.inr o, .int ((i+l.length:Nat):Int))]
 | [],i,o=>rfl
 | x::l,i,o=>by
   show (Sum.inr x,V.int i)::fP (i+1) (l++[o])=_
   rw [LF l (i+1) o]
   show _=(Sum.inr x,V.int i)::(fP (i+1) l++_)
   rw [m7,show i+1+l.length=i+(l.length+1) from by omega]
theorem Dg:∀(l:List Str) (i:Nat),(fP i l).map (fun p=>kV p.1)=l.map V.str
 | [],_=>rfl
 | x::l,i=>by
   show kV (Sum.inr x)::(fP (i+1) l).map _=V.str x::l.map V.str
   rw [Dg l]
   rfl
variable {qs:List (Addr×Addr×Addr)}
theorem yb {ps:List Pt} {q:Addr×Addr×Addr} (h1:ps[i]?=some p) (h2:qs[i]?=some q):(cZ ps qs)[i]?=some (Sum.inr p.nm, .ref q.1):=by
 unfold cZ
 rw [Q9,h1,h2]
theorem yc {ps:List Pt} (h:qs.length=ps.length):(cZ ps qs).length=ps.length:=by
 unfold cZ
 rw [qM,h,Nat.min_self]
theorem yd:∀{ps:List Pt} {qs:List (Addr×Addr×Addr)} {i:Nat} {p:Pt} {q:Addr×Addr×Addr},(ps.map (·.nm)).Nodup->ps[i]?=some p->qs[i]?=some q->ef (cZ ps qs) (Sum.inr p.nm)=some (.ref q.1)
 | [],_,_,_,_,_,h,_=>by simp at h
 | _::_,[],_,_,_,_,_,h=>by simp at h
 | a::ps,b::qs,0,p,q,_,h1,h2=>by
   have e1:a=p:=by simpa using h1
   have e2:b=q:=by simpa using h2
   subst e1 e2
   exact gk rfl
 | a::ps,b::qs,i+1,p,q,nd,h1,h2=>by
   have nd':=gX.mp (show (a.nm::ps.map (·.nm)).Nodup from nd)
   have YD:ps[i]?=some p:=by simpa using h1
   rw [show cZ (a::ps) (b::qs)=(Sum.inr a.nm, .ref b.1)::cZ ps qs from rfl,eU (fun z=>nd'.1 (bN.mpr ⟨p,bJ YD,(rR z).symm⟩))]
   exact yd nd'.2 YD (by simpa using h2)
theorem vf:∀{ps:List Pt} {qs:List (Addr×Addr×Addr)} {x:Str},(∀p∈ps,p.nm≠x)->ef (cZ ps qs) (Sum.inr x)=none
 | [],_,_,_=>rfl
 | _::_,[],_,_=>rfl
 | a::ps,b::qs,x,h=>by
   rw [show cZ (a::ps) (b::qs)=(Sum.inr a.nm, .ref b.1)::cZ ps qs from rfl,eU (fun z=>h a cO (rR z))]
   exact vf fun p hp=>h p (cL _ hp)
theorem Xg {ps:List Pt} (h:qs.length=ps.length) (p:Pt) (q:Addr×Addr×Addr):cZ (ps++[p]) (qs++[q])=cZ ps qs++[(Sum.inr p.nm, .ref q.1)] :=by
 unfold cZ
 rw [List.zipWith_append h.symm]
 rfl
theorem AG {l:List Str} (h:x∉l):ef (u7 l) (Sum.inr x)=none:=by
 unfold u7
 induction l with
 | nil=>rfl
 | cons a l ih=>
   rw [bF,eU (fun z=>h (by rw [<-rR z];exact cO))]
   exact ih fun m=>h (cL _ m)
theorem LG {l:List Str} (h:x∈l):ef (u7 l) (Sum.inr x)=some (.bl true):=by
 unfold u7
 induction l with
 | nil=>simp at h
 | cons a l ih=>
   rw [bF]
   by_cases e:a=x
   . exact gk (by rw [e])
   . rw [eU (fun z=>e (rR z))]
     exact ih ((dg.mp h).resolve_left fun z=>e z.symm)
theorem aZ.find {A:HA} (h:aZ T n ρ A H st) (e:st.ah[i]?=some p):∃q,A.qs[i]?=some q/\H q.1=some (.ins T.part q.2.1 (gm p q.2.2))/\H q.2.2=some (.lst (p.row.map V.int))/\ρ q.1=some (n,20,p.nm)/\ρ q.2.2=some (n,21,p.nm):=by
 have hi:i<A.qs.length:=by rw [h.ql];exact (d7.mp e).1
 exact ⟨A.qs[i],a_ hi,h.opt i p _ e (a_ hi)⟩
def gJ (st:HS) (o:Str):HS:={ st with own:=st.own++[o],bR:=st.bR++[0],dj:=st.dj++[0],ah:=st.ah.map fun p=>{ p with row:=p.row++[0] } }
def b_ (st:HS) (p:Pt):List Int:=List.zipWith (fun r c=>p.sc*r+c) p.row st.bR
def AH (st:HS) (tops:List Int):List Int:=List.zipWith (fun t c=>t-c) tops st.bR
def yU (st:HS) (p:Pt):HS:={ st with ah:=st.ah++[p],nms:=st.nms++[p.nm] }
def yV (st:HS) (x o:Str) (wo we:Int):HS:=yU st ⟨x,o,wo,we,1,AH st ((List.replicate st.own.length 0).set (st.own.idxOf o) st.prod)⟩
def bH (st:HS):Int:=(st.ah.map (·.wo)).sum
def AI (st:HS) (p:Pt):List (Str×Rat):=(List.zip st.own (b_ st p)).filterMap fun x=>if 0<x.2 then some (x.1,Jm.fr x.2 st.prod) else none
def B7 (p:Pt):HO:= .tup [.str p.nm, .str p.ow, .int p.wo, .int p.we]
inductive jR (H:Hp):List V->List Pt->Prop
 | nil:jR H [] []
 | cons {r:Addr} {p:Pt} {vs:List V} {ps:List Pt}:H r=some (B7 p)->jR H vs ps->jR H (.ref r::vs) (p::ps)
def LH (n:Nat) (q1 q2:Addr) (ρ:fK) (H:Hp) (ρ':fK) (H':Hp):Prop:=∀b o,H b=some o->(∀t x,ρ b≠some (n,t,x))->b≠q1->b≠q2->H' b=some o/\ρ' b=ρ b
theorem LH.trans {ρ1 ρ2:fK} (a:LH n q1 q2 ρ H ρ1 H1) (b:Fr n ρ1 H1 ρ2 H2):LH n q1 q2 ρ H ρ2 H2:=fun c o h k x y=>by
 obtain ⟨h1,e1⟩:=a c o h k x y
 obtain ⟨h2,e2⟩:=b c o h1 (by rw [e1];exact k)
 exact ⟨h2,e2.trans e1⟩
theorem LH.fr {ρ1 ρ2:fK} (b:LH n q1 q2 ρ1 H1 ρ2 H2) (a:Fr n ρ H ρ1 H1) (h1:H q1=none) (h2:H q2=none):Fr n ρ H ρ2 H2:=fun c o h k=>by
 obtain ⟨e1,e2⟩:=a c o h k
 obtain ⟨e3,e4⟩:=b c o e1 (by rw [e2];exact k) (aE h h1) (aE h h2)
 exact ⟨e3,e4.trans e2⟩
def isNm (o:Str):Bool:=isName o.cps.toList
inductive acm (T:TC) (vs:List V) (H:Hp) (Q:VK) (E:XK):Prop
 | mk (p dx:_) (_:vs=[.ref p]) (_:H p=some (.ins T.bot dx [])) (_:∀sp kn H',H sp=none->H kn=none->sp≠kn->(∀b o,H b=some o->b≠p->H' b=some o)->H' p=some (.ins T.bot dx (yQ sp 1 kn))->H' sp=some (.lst [])->H' kn=some (.dK [])->Q .cg H')
def Qa (T:TC):Sp:=bx (acm T)
inductive acn (T:TC) (K:Fg) (vs:List V) (H:Hp) (Q:VK) (E:XK):Prop
 | mk (p dx l:Addr) (pt:Pt) (_:vs=[.ref p, .str pt.nm, .str pt.ow, .int pt.wo, .int pt.we, .int pt.sc, .ref l]) (_:H p=some (.ins T.part dx [])) (_:aC K H l (pt.row.map V.int)) (_:∀r H',H r=none->(∀b o,H b=some o->b≠p->H' b=some o)->H' p=some (.ins T.part dx (gm pt r))->H' r=some (.lst (pt.row.map V.int))->Q .cg H')
def GU (T:TC) (K:Fg):Sp:=bx (acn T K)
inductive aco (T:TC) (vs:List V) (H:Hp) (Q:VK) (E:XK):Prop
 | mk (p dx ρ n:_) (_:vs=[.ref p]) (_:H p=some (.ins T.hold dx [])) (_:Gh ρ H) (_:ρ p=none) (_:∀ρ' A H',A.a=p->HH T n ρ' A H' hs0->(∀b o,H b=some o->b≠p->H' b=some o/\ρ' b=ρ b)->Q .cg H')
def Qc (T:TC):Sp:=bx (aco T)
inductive acp (T:TC) (vs:List V) (H:Hp) (Q:VK) (E:XK):Prop
 | mk (n ρ A st o:_) (_:vs=[.ref A.a, .str o]) (_:aZ T n ρ A H st) (_:o∈st.own) (_:Q (.int (st.own.idxOf o:Int)) H)
def Qd (T:TC):Sp:=bx (acp T)
inductive ZX (T:TC) (vs:List V) (H:Hp) (Q:VK) (E:XK):Prop
 | mk (n ρ A st:_) (i:Nat) (p:Pt) (q:Addr×Addr×Addr) (_:vs=[.ref A.a, .str p.nm]) (_:aZ T n ρ A H st) (_:(st.ah.map (·.nm)).Nodup) (_:st.ah[i]?=some p) (_:A.qs[i]?=some q) (_:Q (.ref q.1) H)
def Dh (T:TC):Sp:=bx (ZX T)
inductive UC (T:TC) (vs:List V) (H:Hp) (Q:VK) (E:XK):Prop
 | mk (n ρ A st x:_) (_:vs=[.ref A.a, .str x]) (_:aZ T n ρ A H st) (_:isNm x=true) (_:x∉st.nms) (_:∀H',aI H H'->Q .cg H')
def EU (T:TC):Sp:=bx (UC T)
inductive ahZ (T:TC) (K:Fg) (vs:List V) (H:Hp) (Q:VK) (E:XK):Prop
 | mk (n ρ A st l:_) (tops:List Int) (_:vs=[.ref A.a, .ref l]) (_:aZ T n ρ A H st) (_:aC K H l (tops.map V.int)) (_:tops.length=st.bR.length) (_:tops.length<=1000) (_:∀r H',aI H H'->H r=none->H' r=some (.lst ((AH st tops).map V.int))->Q (.ref r) H')
def YE (T:TC) (K:Fg):Sp:=bx (ahZ T K)
inductive acq (T:TC) (vs:List V) (H:Hp) (Q:VK) (E:XK):Prop
 | mk (n ρ A st:_) (i:Nat) (p:Pt) (q:Addr×Addr×Addr) (_:vs=[.ref A.a, .ref q.1]) (_:aZ T n ρ A H st) (_:Wf st) (_:st.ah[i]?=some p) (_:A.qs[i]?=some q) (_:∀r H',aI H H'->H r=none->H' r=some (.lst ((b_ st p).map V.int))->Q (.ref r) H')
def Qe (T:TC):Sp:=bx (acq T)
inductive aeJ (T:TC) (vs:List V) (H:Hp) (Q:VK) (E:XK):Prop
 | mk (n ρ A st:_) (q:Addr×Addr×Addr) (p:Pt) (_:vs=[.ref A.a, .ref q.1]) (_:HH T n ρ A H st) (_:H q.1=some (.ins T.part q.2.1 (gm p q.2.2))) (_:H q.2.2=some (.lst (p.row.map V.int))) (_:ρ q.1=none) (_:ρ q.2.2=none) (_:p.nm∉st.nms) (_:Wf (yU st p)) (_:∀ρ' A' H',HH T n ρ' A' H' (yU st p:_)->A'.a=A.a->LH n q.1 q.2.2 ρ H ρ' H'->Q .cg H')
def LI (T:TC):Sp:=bx (aeJ T)
inductive acr (T:TC) (vs:List V) (H:Hp) (Q:VK) (E:XK):Prop
 | mk (n ρ A st o:_) (_:vs=[.ref A.a, .str o]) (_:HH T n ρ A H st) (_:isNm o=true) (_:o∉st.own) (_:st.own.length<100) (_:B3 T n ρ A H (gJ st o:_) fun H'=>Q .cg H')
def Qf (T:TC):Sp:=bx (acr T)
inductive aeK (T:TC) (vs:List V) (H:Hp) (Q:VK) (E:XK):Prop
 | mk (n ρ A st x o wo we:_) (_:vs=[.ref A.a, .str x, .str o, .int wo, .int we]) (_:HH T n ρ A H st) (_:isNm x=true) (_:x∉st.nms) (_:o∈st.own) (_:1<=wo) (_:0<=we) (_:st.nms.length<1000) (_:st.ah.length<1000) (_:B3 T n ρ A H (yV st x o wo we:_) fun H'=>Q .cg H')
def UD (T:TC):Sp:=bx (aeK T)
inductive acs (T:TC) (vs:List V) (H:Hp) (Q:VK) (E:XK):Prop
 | mk (n ρ A st:_) (_:vs=[.ref A.a]) (_:aZ T n ρ A H st) (_:st.ah.length<=1000) (_:∀r ws H',aI H H'->H r=none->H' r=some (.lst ws)->jR H' ws st.ah->Q (.ref r) H')
def Qg (T:TC):Sp:=bx (acs T)
inductive acu (T:TC) (vs:List V) (H:Hp) (Q:VK) (E:XK):Prop
 | mk (n ρ A st:_) (_:vs=[.ref A.a]) (_:aZ T n ρ A H st) (_:st.ah.length<=1000) (_:∀H',aI H H'->Q (.int (bH st)) H')
def GV (T:TC):Sp:=bx (acu T)
inductive ZY (T:TC) (vs:List V) (H:Hp) (Q:VK) (E:XK):Prop
 | mk (n ρ A st:_) (_:vs=[.ref A.a]) (_:aZ T n ρ A H st) (_:∀r,H r=none->Q (.ref r) (upd H r (.lst (st.own.map V.str))))
def LJ (T:TC):Sp:=bx (ZY T)
inductive acv (T:TC) (vs:List V) (H:Hp) (Q:VK) (E:XK):Prop
 | mk (bt db sp kn:Addr) (stp:List Int) (prod top:Int) (_:vs=[.ref bt, .int top]) (_:H bt=some (.ins T.bot db (yQ sp prod kn))) (_:H sp=some (.lst (stp.map V.int))) (_:prod=stp.foldl (·*·) 1) (_:(∀s∈stp,2<=s)) (_:Jm.Sz 8000 prod) (_:∀r H',aI H H'->H' r=some (pP (Jm.fr top prod))->Q (.ref r) H')
def Qh (T:TC):Sp:=bx (acv T)
inductive ZZ (T:TC) (vs:List V) (H:Hp) (Q:VK) (E:XK):Prop
 | mk (bt db sp kn:Addr) (stp:List Int) (prod top:Int) (kvs:List (Key×V)) (_:vs=[.ref bt, .int top]) (_:H bt=some (.ins T.bot db (yQ sp prod kn))) (_:H sp=some (.lst (stp.map V.int))) (_:prod=stp.foldl (·*·) 1) (_:(∀s∈stp,2<=s)) (_:Jm.Sz 8000 prod) (_:H kn=some (.dK kvs)) (_:LA H kvs prod) (_:kvs.length<10000000) (_:(kvs.map (·.1)).Nodup) (_:∀r H' kvs',(∀b o,H b=some o->b≠kn->H' b=some o)->H' kn=some (.dK kvs')->LA H' kvs' prod->kvs'.length<=kvs.length+1->(kvs'.map (·.1)).Nodup->H' r=some (pP (Jm.fr top prod))->Q (.ref r) H')
def LK (T:TC):Sp:=bx (ZZ T)
inductive Xh (T:TC) (vs:List V) (H:Hp) (Q:VK) (E:XK):Prop
 | mk (n ρ A st:_) (i:Nat) (p:Pt) (_:vs=[.ref A.a, .str p.nm]) (_:HH T n ρ A H st) (_:st.ah[i]?=some p) (_:st.kn+100<=1000000) (_:∀r ws ρ' A' H',HH T n ρ' A' H' { st with kn:=st.kn+100 }->A'.a=A.a->Fr n ρ H ρ' H'->H r=none->H' r=some (.lst ws)->ρ' r=none->jh H' ws (AI st p:_)->Q (.ref r) H')
def IQ (T:TC):Sp:=bx (Xh T)
inductive AJ (ρ:fK) (H:Hp):List V->List qJ->Prop
 | nil:AJ ρ H [] []
 | cons {r l:Addr} {x:qJ} {ss:List V} {vs:List V} {as:List qJ}:H r=some (.tup [.str x.nm, .str x.ow, .int x.wo, .ref l])->H l=some (.lst ss)->ρ l=none->jh H ss x.sh->AJ ρ H vs as->AJ ρ H (.ref r::vs) (x::as)
inductive Z0 (T:TC) (vs:List V) (H:Hp) (Q:VK) (E:XK):Prop
 | mk (n ρ A st:_) (_:vs=[.ref A.a]) (_:HH T n ρ A H st) (_:∀r ws H',aI H H'->H r=none->H' r=some (.lst ws)->AJ ρ H' ws st.jZ->Q (.ref r) H')
def LL (T:TC):Sp:=bx (Z0 T)
theorem jR.mono {l:List Pt} (h:jR H vs l) (g:∀b xs,H b=some (.tup xs)->H' b=some (.tup xs)):jR H' vs l:=by
 induction h with
 | nil=>exact .nil
 | cons a _ ih=>exact .cons (g _ _ a) ih
theorem jR.snoc {l:List Pt} {r:Addr} (h:jR H vs l) (e:H r=some (B7 p)):jR H (vs++[.ref r]) (l++[p]):=by
 induction h with
 | nil=>exact .cons e .nil
 | cons a _ ih=>exact .cons a ih
theorem jh.snoc {l:List (Str×Rat)} {r:Addr} (h:jh H vs l) (e:H r=some (.tup [.str x, .ref f])) (e2:H f=some (pP q)):jh H (vs++[.ref r]) (l++[(x,q)]):=by
 induction h with
 | nil=>exact .cons e e2 .nil
 | cons a b _ ih=>exact .cons a b ih
theorem kY {p:Addr} (h:H p=none\/∃u,H p=some u/\isTup u=false):∀b xs,H b=some (.tup xs)->upd H p o b=some (.tup xs):=fun b xs e=>by
 rw [av (fun z=>?_)]
 . exact e
 . rw [z] at e
   rcases h with h|⟨u,h,t⟩
   . rw [h] at e;cases e
   . rw [h] at e;cases e;cases t
theorem Xi (h:isNm x=true):x.cps.toList.length<=100000:=by
 unfold isNm isName at h
 have:=dU (lg.mp (lg.mp h).1).2
 omega
theorem vg {o:Obj} (e:H d=some (.dK kvs)) (s:aI (upd H d (.fE o (.dK kvs))) H1):aI H (upd H1 d (.dK kvs)):=fun b u q=>by
 by_cases h:b=d
 . rw [h,e] at q;cases q;rw [h];exact ak
 . rw [av h];exact s b u (by rw [av h];exact q)
theorem fq {b:Addr} {o:Obj} {u:HO} (e:H d=some (.dK kvs)) (q:H b=some u) (h:∀k,u ≠ .dK k):upd H d (.fE o (.dK kvs)) b=some u:=by
 rw [av (fun z=>by rw [z,e] at q;cases q;exact h _ rfl)];exact q
theorem oq {b:Addr} {o:Obj} (e:H d=some (.dK kvs)) (q:upd H d (.fE o (.dK kvs)) b=none):H b=none:=by
 by_cases h:b=d
 . rw [h,ak] at q;cases q
 . rw [av h] at q;exact q
theorem aI.tups (s:aI H H'):∀b xs,H b=some (.tup xs)->H' b=some (.tup xs):=fun b xs h=>s b _ h
theorem take_snoc {α:Type} {l:List α} {x:α} (h:l[i]?=some x):l.take (i+1)=l.take i++[x] :=by rw [List.take_add_one,h];rfl
theorem oZ {α β γ:Type} (f:α->β->γ) {xs:List α} {ys:List β} {x:α} {y:β} (h1:xs[i]?=some x) (h2:ys[i]?=some y):List.zipWith f (xs.take (i+1)) (ys.take (i+1))=List.zipWith f (xs.take i) (ys.take i)++[f x y] :=by
 have l1:=(d7.mp h1).1
 have l2:=(d7.mp h2).1
 rw [take_snoc h1,take_snoc h2,List.zipWith_append (by rw [lu,lu];omega)]
 rfl
theorem gR {l:List Int} {v:V} (h:(l.map V.int)[i]?=some v):∃z,v = .int z/\l[i]?=some z:=by
 rw [bK] at h
 obtain ⟨z,hz,rfl⟩:=lS.mp h
 exact ⟨z,Z,hz⟩
theorem HH.mono {A:HA} (h:HH T n ρ A H st) (s:aI H H'):HH T n ρ A H' st:=⟨h.g.same s,h.h.mono s,h.wf⟩
theorem UE {u:HO} (c:ρ a=none) (h:H a=some u) (t:isTup u=false):Kp n ρ ρ H (upd H a o) ts:=
 ⟨kY (.inr ⟨u,h,t⟩),fun b x y w _ hc e=>⟨by rw [av (fun z=>by rw [z,c] at hc;cases hc)];exact e,hc⟩⟩
theorem HH.KH {A:HA} {u:HO} (h:HH T n ρ A H st) (c:ρ a=none) (e:H a=some u) (t:isTup u=false) (t2:isTup o=false):HH T n ρ A (upd H a o) st:=⟨h.g.wr t2,h.h.same (UE c e t),h.wf⟩
theorem Fr.new (f:Fr n ρ H ρ' H') (h:H a=none):Fr n ρ H ρ' (upd H' a o):=fun b u e k=>by
 rw [av (aE e h)];exact f b u e k
theorem UG {α β γ:Type} (f:α->β->γ) {xs:List α} {ys:List β} (h:xs.length=ys.length) (x:α) (y:β):List.zipWith f (xs++[x]) (ys++[y])=List.zipWith f xs ys++[f x y] :=by
 rw [List.zipWith_append h];rfl
theorem Z1 (w:Wf st) {o:Str} (h:o∉st.own) (hl:st.own.length<100):Wf (gJ st o):=by
 have P:∀p∈(gJ st o).ah,∃p0∈st.ah,p={ p0 with row:=p0.row++[0] }:=fun p hp=>by
  obtain ⟨p0,h0,rfl⟩:=bN.mp (show p∈st.ah.map _ from hp)
  exact ⟨p0,h0,Z⟩
 have p1:=w.i7
 refine ⟨?_,w.De,?_,fun p hp=>?_,fun p hp=>?_,fun p hp=>?_,?_,?_,w.i7,w.wI,w.AE,?_,w.Df,?_,w.GS,w.AF,w.UB,w.big,fun c hc=>?_,fun p hp=>?_,fun p hp r hr=>?_,fun p hp t ht=>?_,fun p hp=>?_,fun u hu=>?_⟩
 . exact mK w.yR h
 . show ((st.ah.map fun p=>{ p with row:=p.row++[0] }).map (·.nm)).Nodup
   rw [fJ]
   exact w.j9
 . obtain ⟨p0,h0,rfl⟩:=P p hp
   exact w.sub p0 h0
 . obtain ⟨p0,h0,rfl⟩:=P p hp
   show (p0.row++[0]).length=(st.own++[o]).length
   rw [cY,cY,w.rows p0 h0]
   rfl
 . obtain ⟨p0,h0,rfl⟩:=P p hp
   exact Gr _ (w.ow p0 h0)
 . show (st.bR++[0]).length=(st.own++[o]).length
   rw [cY,cY,w.ji]
   rfl
 . show (st.dj++[0]).length=(st.own++[o]).length
   rw [cY,cY,w.yS]
   rfl
 . show (st.own++[o]).length<=100
   rw [cY]
   exact hl
 . show (st.ah.map _).length<=1000
   rw [aF]
   exact w.xy
 . rcases eV.mp (show c∈st.bR++[0] from hc) with z|z
   . exact w.tK c z
   . rw [ee.mp z];exact ⟨mJ _,by show (0:Int)<=st.prod;omega⟩
 . obtain ⟨p0,h0,rfl⟩:=P p hp
   exact w.u_ p0 h0
 . obtain ⟨p0,h0,rfl⟩:=P p hp
   rcases eV.mp (show r∈p0.row++[0] from hr) with z|z
   . exact w.qR p0 h0 r z
   . rw [ee.mp z];show -st.prod<=0/\0<=st.prod;omega
 . obtain ⟨p0,h0,rfl⟩:=P p hp
   have el:p0.row.length=st.bR.length:=by rw [w.rows p0 h0,w.ji]
   have ht:t∈List.zipWith (fun r c=>p0.sc*r+c) (p0.row++[0]) (st.bR++[0]):=ht
   rw [UG _ el _ _] at ht
   rcases eV.mp ht with z|z
   . exact w.yT p0 h0 t z
   . rw [ee.mp z];show 0<=p0.sc*0+0/\p0.sc*0+0<=st.prod;omega
 . obtain ⟨p0,h0,rfl⟩:=P p hp
   exact w.vc p0 h0
 . rcases eV.mp (show u∈st.dj++[0] from hu) with z|z
   . exact w.LD u z
   . rw [ee.mp z];exact pQ (by decide +kernel)
theorem Qi (w:Wf st) (h1:p.nm∉st.nms) (h2:st.nms.length<1000) (h3:st.ah.length<1000) (h4:p.row.length=st.own.length) (h5:p.ow∈st.own) (h6:1<=p.sc/\p.sc<=st.prod) (h7:∀r∈p.row,-st.prod<=r/\r<=st.prod)
  (h8:∀t∈List.zipWith (fun r c=>p.sc*r+c) p.row st.bR,0<=t/\t<=st.prod) (h9:1<=p.wo/\0<=p.we):Wf (yU st p):=by
 have P:∀{M:Pt->Prop},(∀x∈st.ah,M x)->M p->∀x∈st.ah++[p],M x:=fun a b x hx=>by
  rcases eV.mp hx with z|z
  . exact a x z
  . rw [ee.mp z];exact b
 refine ⟨w.yR,mK w.De h1,?_,P (fun x hx=>Gr _ (w.sub x hx)) (jg _ (ee.mpr rfl)),P w.rows h4,P w.ow h5,w.ji,w.yS,w.i7,w.wI,w.AE,w.tH,?_,?_,w.GS,w.AF,w.UB,w.big,w.tK,P w.u_ h6,P w.qR h7,P w.yT h8,P w.vc h9,w.LD⟩
 . show ((st.ah++[p]).map (·.nm)).Nodup
   rw [bD]
   refine mK w.j9 fun m=>?_
   obtain ⟨x,hx,e⟩:=bN.mp m
   have e:x.nm=p.nm:=e
   exact h1 (by rw [<-e];exact w.sub x hx)
 . show (st.nms++[p.nm]).length<=1000
   rw [cY];exact h2
 . show (st.ah++[p]).length<=1000
   rw [cY];exact h3
theorem yW {α β γ:Type} {f:α->β->γ} {t:γ}:∀{xs:List α} {ys:List β},t∈List.zipWith f xs ys->∃x∈xs,∃y∈ys,t=f x y
 | [],_,h=>by simp at h
 | _::_,[],h=>by simp at h
 | x::xs,y::ys,h=>by
   rcases dg.mp (show t∈f x y::List.zipWith f xs ys from h) with e|m
   . exact ⟨x,cO,y,cO,e⟩
   . obtain ⟨a,ha,b,hb,e⟩:=yW m
     exact ⟨a,cL _ ha,b,cL _ hb,e⟩
theorem Di:∀{ts cs:List Int},List.zipWith (fun r c=>1*r+c) (List.zipWith (fun t c=>t-c) ts cs) cs=ts.take cs.length
 | [],_=>by simp
 | _::_,[]=>by simp
 | t::ts,c::cs=>by
   show (1*(t-c)+c)::List.zipWith _ (List.zipWith _ ts cs) cs=t::ts.take cs.length
   rw [Di]
   congr 1
   omega
theorem yX {b t:Int} (h:t∈(List.replicate n 0).set i b):t=0\/t=b:=by
 rcases List.mem_or_eq_of_mem_set h with z|z
 . exact .inl (List.eq_of_mem_replicate z)
 . exact .inr z
variable {wo we:Int}
theorem Z2 (w:Wf st) {o:Str} (h1:x∉st.nms) (h2:st.nms.length<1000) (h3:st.ah.length<1000) (ho:o∈st.own) (h4:1<=wo) (h5:0<=we):Wf (yV st x o wo we):=by
 have p1:=w.i7
 refine Qi w h1 h2 h3 ?_ ho ⟨mJ 1,w.i7⟩ (fun r hr=>?_) (fun t ht=>?_) ⟨h4,h5⟩
 . show (List.zipWith _ ((List.replicate st.own.length 0).set _ _) st.bR).length=_
   rw [qM,jN,mZ,w.ji,Nat.min_self]
 . obtain ⟨t,ht,c,hc,rfl⟩:=yW (show r∈List.zipWith _ _ st.bR from hr)
   have:=w.tK c hc
   rcases yX ht with rfl|rfl <;> omega
 . have e:List.zipWith (fun r c=>1*r+c) (AH st ((List.replicate st.own.length 0).set (st.own.idxOf o) st.prod)) st.bR=_:=Di
   have ht:t∈List.zipWith (fun r c=>1*r+c) (AH st ((List.replicate st.own.length 0).set (st.own.idxOf o) st.prod)) st.bR:=ht
   rw [e] at ht
   rcases yX (List.mem_of_mem_take ht) with rfl|rfl <;> omega
theorem kG {b:Addr} {u:HO} (h:a≠b):upd (upd H a o) b u=upd (upd H b u) a o:=by
 funext c
 unfold upd
 by_cases e1:c=b
 . rw [aB e1,az (fun z=>h (z.symm.trans e1)),aB e1]
 . rw [az e1]
   by_cases e2:c=a
   . rw [aB e2,aB e2]
   . rw [az e2,az e2,az e1]
theorem yY (h:H a=some o):upd H a o=H:=by
 funext c
 unfold upd
 by_cases e:c=a
 . rw [aB e,e,h]
 . rw [az e]
theorem LM {α:Type} (g:α->α) {l:List α} {p:α} (h:l[i]?=some p):((l.take i).map g++l.drop i)[i]?=some p:=by
 have hi:=(d7.mp h).1
 have e:((l.take i).map g).length=i:=by rw [aF,lu];omega
 rw [KO (by omega),e,BK,List.getElem?_drop]
 exact h
theorem LN {α:Type} (g:α->α) {l:List α} {p:α} (h:l[i]?=some p):((l.take i).map g++l.drop i).set i (g p)=(l.take (i+1)).map g++l.drop (i+1):=by
 have hi:=(d7.mp h).1
 have e:((l.take i).map g).length=i:=by rw [aF,lu];omega
 have ep:l[i]=p:=by rw [a_ hi] at h;exact iG h
 rw [List.set_append_right _ _ (by omega),e,BK,QZ hi,KW,take_snoc h,bD,KY]
 rfl
theorem qS {α β:Type} (g:α->α) (f:α->β) (hf:∀x,f (g x)=f x) (l:List α) (i:Nat):((l.take i).map g++l.drop i).map f=l.map f:=by
 rw [bD,fJ,show f ∘ g=f from funext hf,<-bD,List.take_append_drop]
theorem o6 {ps ps':List Pt} (h:ps.map (·.nm)=ps'.map (·.nm)):cZ ps qs=cZ ps' qs:=by
 have:∀{ps:List Pt},cZ ps qs=List.zipWith (fun (x:Str) q=>((Sum.inr x:Key),V.ref q.1)) (ps.map (·.nm)) qs:=fun {ps}=>by unfold cZ;rw [List.zipWith_map_left]
 rw [this,this,h]
structure jy (p:Addr) (H:Hp) (ρ:fK) (H':Hp) (ρ':fK) (l:List (Addr×HO×uh)):Prop where
 m:∀e∈l,H' e.1=some e.2.1/\ρ' e.1=some e.2.2/\e.1≠p
 k:∀b o,H b=some o->b≠p->H' b=some o/\ρ' b=ρ b
 g:Gh ρ' H'
 pp:∃u,H' p=some u
variable {l:List (Addr×HO×uh)}
theorem jy.new {p:Addr} {c:uh} (h:jy p H ρ H' ρ' l) (ha:H' a=none) (t:isTup o=false):jy p H ρ (upd H' a o) (bZ ρ' a c) ((a,o,c)::l):=by
 obtain ⟨u,hu⟩:=h.pp
 refine ⟨fun e he=>?_,fun b w hb hp=>?_,(h.g.alloc ha).color ak t,u,by rw [av (aE hu ha)];exact hu⟩
 . rcases dg.mp he with rfl|he
   . exact ⟨ak,dD,fun z=>by rw [show a=p from z,hu] at ha;cases ha⟩
   . obtain ⟨x,y,z⟩:=h.m e he
     have:e.1≠a:=aE x ha
     rw [av this,cu this]
     exact ⟨x,y,z⟩
 . obtain ⟨x,y⟩:=h.k b w hb hp
   have:b≠a:=aE x ha
   rw [av this,cu this]
   exact ⟨x,y⟩
theorem jy.wr {p:Addr} {u:HO} (h:jy p H ρ H' ρ' l) (t:isTup u=false):jy p H ρ (upd H' p u) ρ' l:=by
 refine ⟨fun e he=>?_,fun b w hb hp=>?_,h.g.wr t,u,ak⟩
 . obtain ⟨x,y,z⟩:=h.m e he
   rw [av z];exact ⟨x,y,z⟩
 . obtain ⟨x,y⟩:=h.k b w hb hp
   rw [av hp];exact ⟨x,y⟩
theorem jy.same {p:Addr} {EV:Hp} (h:jy p H ρ H' ρ' l) (s:aI H' EV):jy p H ρ EV ρ' l:=by
 obtain ⟨u,hu⟩:=h.pp
 exact ⟨fun e he=>let ⟨x,y,z⟩:=h.m e he;⟨s _ _ x,y,z⟩,fun b w hb hp=>let ⟨x,y⟩:=h.k b w hb hp;⟨s _ _ x,y⟩,h.g.same s,u,s _ _ hu⟩
theorem jy.add {p:Addr} {H0:Hp} {ρ0:fK} {l0:List (Addr×HO×uh)} {c:uh} (h:jy p H ρ H' ρ' l) (ha:H' a=some o) (t:isTup o=false) (h0:jy p H ρ H0 ρ0 l0) (hn:H0 a=none) (hl:∀e∈l,e.1≠a):jy p H ρ H' (bZ ρ' a c) ((a,o,c)::l):=by
 refine ⟨fun e he=>?_,fun b w hb hp=>?_,h.g.color ha t,h.pp⟩
 . rcases dg.mp he with rfl|he
   . obtain ⟨u,hu⟩:=h0.pp
     exact ⟨ha,dD,fun z=>by rw [show a=p from z,hu] at hn;cases hn⟩
   . obtain ⟨x,y,z⟩:=h.m e he
     rw [cu (hl e he)]
     exact ⟨x,y,z⟩
 . obtain ⟨x,y⟩:=h.k b w hb hp
   obtain ⟨x0,_⟩:=h0.k b w hb hp
   rw [cu (aE x0 hn)]
   exact ⟨x,y⟩
theorem LO:∀(l:List Int) (a:Int),l.foldl (·*·) a=a*l.foldl (·*·) 1
 | [],a=>by simp
 | s::l,a=>by
   rw [mG,LO l (a*s),mG,LO l (1*s),Int.one_mul,jO]
theorem GW (s:Int) (l:List Int):(s::l).foldl (·*·) 1=s*l.foldl (·*·) 1:=by rw [mG,LO,Int.one_mul]
theorem Z3 (s:Int) (l:List Int):(l++[s]).foldl (·*·) 1=l.foldl (·*·) 1*s:=by rw [KZ];rfl
theorem LP:∀{l:List Int},(∀s∈l,2<=s)->1<=l.foldl (·*·) 1
 | [],_=>by decide
 | s::l,h=>by
   rw [GW]
   have h1:=h s cO
   have h2:=LP (l:=l) fun x hx=>h x (cL _ hx)
   have:=Int.mul_le_mul (a:=1) (b:=1) (c:=s) (d:=l.foldl (·*·) 1) (by omega) h2 (by decide) (by omega)
   omega
theorem YF:∀{l:List Int} {s:Int},(∀s∈l,2<=s)->s∈l->s<=l.foldl (·*·) 1
 | [],_,_,h=>by simp at h
 | a::l,s,h,m=>by
   rw [GW]
   have h1:=h a cO
   have h2:=LP (l:=l) fun x hx=>h x (cL _ hx)
   rcases dg.mp m with rfl|m
   . have:=Ij h2 (by omega:0<=s)
     omega
   . have h3:=YF (fun x hx=>h x (cL _ hx)) m
     have:=Te (by omega:1<=a) (by omega:0<=l.foldl (·*·) 1)
     omega
theorem UH {t d s:Int} (hd:0<d) (hs:0<s) (c:Jm.cf t d=1):Jm.cf (t / Jm.cf t s) (d*(s / Jm.cf t s))=1/\0<d*(s / Jm.cf t s):=by
 have gp:0<Jm.cf t s:=Jm.EA t s (.inr hs)
 obtain ⟨u,hu⟩:=Jm.rW t s
 obtain ⟨v,hv⟩:=Jm.pN t s
 generalize eg:Jm.cf t s=g at *
 have e1:t / g=u:=by rw [hu,Gp _ (by omega)]
 have e2:s / g=v:=by rw [hv,Gp _ (by omega)]
 have vp:0<v:=by
  rcases Ef 0 v with z|z
  . exact z
  . have:=Ij z (by omega:0<=g)
    omega
 rw [e1,e2]
 have c0:Nat.Coprime t.natAbs d.natAbs:=by unfold Jm.cf at c;exact_mod_cast c
 have c1:Nat.Coprime u.natAbs d.natAbs:=Nat.Coprime.coprime_dvd_left ⟨g.natAbs,by rw [hu,D9,Nat.mul_comm]⟩ c0
 have c2:Nat.Coprime u.natAbs v.natAbs:=by
  have hg:Int.gcd t s=g.natAbs:=by unfold Jm.cf at eg;omega
  have YG:Nat.gcd t.natAbs s.natAbs=g.natAbs:=hg
  have:=Nat.coprime_div_gcd_div_gcd (m:=t.natAbs) (n:=s.natAbs) (by rw [YG];omega)
  rw [YG] at this
  have gn:0<g.natAbs:=by omega
  rw [hu,hv,D9,D9,Nat.mul_div_cancel_left _ gn,Nat.mul_div_cancel_left _ gn] at this
  exact this
 refine ⟨?_,Int.mul_pos hd vp⟩
 have:=Nat.Coprime.mul_right c1 c2
 rw [<-D9] at this
 unfold Jm.cf
 exact_mod_cast this
theorem Xj {κ:Type} [DecidableEq κ] {kvs:List (κ×V)} {k:κ} {v:V} (h:ef kvs k=some v):(k,v)∈kvs:=by
 unfold ef at h
 obtain ⟨p,hp,rfl⟩:=lS.mp h
 have:=List.find?_some hp
 have e:p.1=k:=dU this
 rw [<-e]
 exact List.mem_of_find?_eq_some hp
theorem aZ.Xk {A:HA} (h:aZ T n ρ A H st) (k:∀b o,H b=some o->b≠A.kn->H' b=some o) (e1:H' A.kn=some (.dK kvs)) (e2:LA H' kvs st.prod) (e3:kvs.length<=m) (e4:(kvs.map (·.1)).Nodup):aZ T n ρ A H' { st with kn:=m }:=by
 obtain ⟨kv0,k0,_⟩:=h.okn
 have z:=fun {b:Addr} {t:Nat} {x:Str} {o:HO} (u:t≠9) (c:ρ b=some (n,t,x)) (e:H b=some o)=>k b o e (ER c h.j8 (fun w=>by cases w;exact u rfl))
 have tp:∀b xs,H b=some (.tup xs)->H' b=some (.tup xs):=fun b xs e=>k b _ e (iZ e k0 (by intro w;cases w))
 obtain ⟨vs,h1,h2⟩:=h.wH
 have kp:Kp n ρ ρ H H' fun t=>decide (t≠9):=⟨tp,fun b t x o u c e=>⟨z (dU u) c e,c⟩⟩
 exact ⟨z (by decide) h.ca h.oa,h.ca,z (by decide) h.jL h.jc,h.jL,z (by decide) h.gW h.eY,h.gW,⟨vs,z (by decide) h.ku h1,h2.keep kp (by decide)⟩,h.ku,z (by decide) h.j0 h.u9,h.j0,z (by decide) h.j5 h.oY,h.j5,z (by decide) h.kT h.j6,h.kT,z (by decide) h.cpu h.qK,h.cpu,z (by decide) h.j7 h.um,h.j7,⟨kvs,e1,e2,e3,e4⟩,h.j8,h.ql,
  fun i p q a b=>let ⟨x,y,c,d⟩:=h.opt i p q a b;⟨z (by decide) c x,z (by decide) d y,c,d⟩⟩
theorem aeL (w:Wf st) (h:m<=1000000):Wf { st with kn:=m }:=⟨w.yR,w.De,w.j9,w.sub,w.rows,w.ow,w.ji,w.yS,w.i7,w.wI,w.AE,w.tH,w.Df,w.xy,w.GS,w.AF,h,w.big,w.tK,w.u_,w.qR,w.yT,w.vc,w.LD⟩
theorem pT.length {l:List qJ} (h:pT n ρ H vs l):vs.length=l.length:=by
 induction h with
 | nil=>rfl
 | cons _ _ _ _ _ ih=>simp [ih]
theorem pT.get {l:List qJ} (h:pT n ρ H vs l):∀{i:Nat} {x:V},vs[i]?=some x->∃r q y ss,x = .ref r/\l[i]?=some y/\H r=some (.tup [.str y.nm, .str y.ow, .int y.wo, .ref q])/\H q=some (.lst ss)/\ρ q=some (n,30,y.nm)/\jh H ss y.sh:=by
 induction h with
 | nil=>intro i x e;simp at e
 | @cons r q y ss vs as a b c d _ ih=>
   intro i x e
   cases i with
   | zero=>simp at e;subst e;exact ⟨r,q,y,ss,Z,Z,a,b,c,d⟩
   | succ i=>simp at e;obtain ⟨r',q',y',ss',e1,e2,e3⟩:=ih e;exact ⟨r',q',y',ss',e1,by simpa using e2,e3⟩
inductive kH (a:Addr) (ρ:fK) (H:Hp):List V->List qJ->Prop
 | nil:kH a ρ H [] []
 | cons {r l:Addr} {x:qJ} {ss:List V} {vs:List V} {as:List qJ}:H r=some (.tup [.str x.nm, .str x.ow, .int x.wo, .ref l])->H l=some (.lst ss)->ρ l=none->l≠a->jh H ss x.sh->kH a ρ H vs as->kH a ρ H (.ref r::vs) (x::as)
theorem kH.to {l:List qJ} (h:kH a ρ H vs l):AJ ρ H vs l:=by
 induction h with
 | nil=>exact .nil
 | cons x y z _ w _ ih=>exact .cons x y z w ih
theorem kH.mono {l:List qJ} (h:kH a ρ H vs l) (g:aI H H'):kH a ρ H' vs l:=by
 induction h with
 | nil=>exact .nil
 | cons x y z n w _ ih=>exact .cons (g _ _ x) (g _ _ y) z n (w.mono g.tups) ih
theorem kH.upd {l:List qJ} (h:kH a ρ H vs l) (ha:H a=some (.lst xs)):kH a ρ (L2.upd H a (.lst ys)) vs l:=by
 induction h with
 | nil=>exact .nil
 | cons x y z n w _ ih=>exact .cons (kY (.inr ⟨_,ha,Z⟩) _ _ x) (by rw [av n];exact y) z n (w.mono (kY (.inr ⟨_,ha,Z⟩))) ih
theorem kH.snoc {as:List qJ} {r l:Addr} {x:qJ} {ss:List V} (h:kH a ρ H vs as) (e1:H r=some (.tup [.str x.nm, .str x.ow, .int x.wo, .ref l])) (e2:H l=some (.lst ss)) (e3:ρ l=none) (e5:l≠a) (e4:jh H ss x.sh):kH a ρ H (vs++[.ref r]) (as++[x]):=by
 induction h with
 | nil=>exact .cons e1 e2 e3 e5 e4 .nil
 | cons x y z n w _ ih=>exact .cons x y z n w ih
def Sq (K:Fg) (H:Hp) (r:Addr) (xs:List V):Prop:=aC K H r xs\/cJ K H r xs
theorem aI.sq {r:Addr} (g:aI H H') (h:Sq K H r xs):Sq K H' r xs:=h.elim (fun z=> .inl (g.seq z)) fun z=> .inr (g.tup z)
structure AK (K:Fg) (H:Hp) (us:List V) (ps:List Pt):Prop where
 len:us.length=ps.length
 at_:∀(i:Nat) (p:Pt),ps[i]?=some p->∃r xs,us[i]?=some (.ref r)/\Sq K H r xs/\xs[0]?=some (.str p.nm)/\xs[1]?=some (.str p.ow)/\xs[2]?=some (.int p.wo)/\xs[3]?=some (.int p.we)
theorem AK.mono {us:List V} {ps:List Pt} (h:AK K H us ps) (g:aI H H'):AK K H' us ps:=⟨h.len,fun i p e=>let ⟨r,xs,a,b,c⟩:=h.at_ i p e;⟨r,xs,a,g.sq b,c⟩⟩
def acw (ps:List Pt):Prop:=∀p∈ps,PyData.strOk p.nm=true/\PyData.strOk p.ow=true
inductive UI (K:Fg) (vs:List V) (H:Hp) (Q:VK) (E:XK):Prop
 | mk (r l:Addr) (ws us:List V) (ps:List Pt) (_:vs=[.ref r, .ref l]) (_:H r=some (.lst ws)) (_:jR H ws ps) (_:aC K H l us) (_:AK K H us ps) (_:acw ps) (_:ps.length<=1000) (_:∀H',aI H H'->Q (.bl true) H')
def EW (K:Fg):Sp:=bx (UI K)
def fL (own:List Str) (tops:List Int) (b:Int):List (Str×Rat):=(List.zip own tops).filterMap fun x=>if 0<x.2 then some (x.1,Jm.fr x.2 b) else none
inductive RS (K:Fg) (vs:List V) (H:Hp) (Q:VK) (E:XK):Prop
 | mk (r lo lt:Addr) (ws:List V) (own:List Str) (tops:List Int) (b:Int) (_:vs=[.ref r, .ref lo, .ref lt, .int b]) (_:H r=some (.lst ws)) (_:jh H ws (fL own tops b)) (_:aC K H lo (own.map V.str)) (_:aC K H lt (tops.map V.int)) (_:own.length=tops.length) (_:own.length<=1000) (_:0<b) (_:Jm.Sz 9000 b) (_:∀H',aI H H'->Q (.bl true) H')
def xA (K:Fg):Sp:=bx (RS K)
theorem jR.length {l:List Pt} (h:jR H vs l):vs.length=l.length:=by
 induction h with
 | nil=>rfl
 | cons _ _ ih=>simp [ih]
theorem jR.get {l:List Pt} (h:jR H vs l):∀{i:Nat} {p:Pt},l[i]?=some p->∃r,vs[i]?=some (.ref r)/\H r=some (B7 p):=by
 induction h with
 | nil=>intro i p e;simp at e
 | @cons r q vs ps a _ ih=>
   intro i p e
   cases i with
   | zero=>simp at e;subst e;exact ⟨r,Z,a⟩
   | succ i=>simp at e;obtain ⟨r',e1,e2⟩:=ih e;exact ⟨r',by simpa using e1,e2⟩
theorem jh.length {l:List (Str×Rat)} (h:jh H vs l):vs.length=l.length:=by
 induction h with
 | nil=>rfl
 | cons _ _ _ ih=>simp [ih]
theorem jh.get {l:List (Str×Rat)} (h:jh H vs l):∀{i:Nat} {x:Str} {q:Rat},l[i]?=some (x,q)->∃r f,vs[i]?=some (.ref r)/\H r=some (.tup [.str x, .ref f])/\H f=some (pP q):=by
 induction h with
 | nil=>intro i x q e;simp at e
 | @cons r f x q vs l a b _ ih=>
   intro i y p e
   cases i with
   | zero=>simp at e;obtain ⟨rfl,rfl⟩:=e;exact ⟨r,f,Z,a,b⟩
   | succ i=>simp at e;obtain ⟨r',f',e1,e2⟩:=ih e;exact ⟨r',f',by simpa using e1,e2⟩
def B8 (p:Pt):PyData:= .tuple [.str p.nm, .str p.ow, .int p.wo, .int p.we]
theorem Qj {r:Addr} (h:H r=some (B7 p)):Dt K H (.ref r) (B8 p):= .tup (cJ.of h) (.cons (.str _) (.cons (.str _) (.cons (.int _) (.cons (.int _) .nil))))
theorem CD (h1:PyData.strOk p.nm=true) (h2:PyData.strOk p.ow=true):SeqAt.shaped (B8 p)=true:=by
 unfold B8 SeqAt.shaped
 refine lg.mpr ⟨?_,Z⟩
 simp [PyData.canLay0,PyData.canLayAll0,h1,h2]
theorem Xl (p:Pt):PyData.eqv (B8 p) (B8 p)=true:=by
 unfold B8
 simp [PyData.eqv,PyData.eqvAll]
def yZ (x:Str):Prop:=pS x.cps.toList
theorem RT:∀i:Fin 26,sP "abcdefghijklmnopqrstuvwxyz" (97+i.val)=true:=by decide +kernel
theorem yZ.isNm (h:yZ x):L2.isNm x=true:=by
 unfold L2.isNm isName
 have h1:=h.lo
 have h2:=h.hi
 refine lg.mpr ⟨lg.mpr ⟨bM (by omega),bM (by omega)⟩,pF.mpr fun c hc=>?_⟩
 have h3:=h.PR c hc
 have:=RT ⟨c-97,by omega⟩
 rw [show 97+(c-97)=c from by omega] at this
 exact this
theorem yZ.strOk (h:yZ x):PyData.strOk x=true:=by
 unfold PyData.strOk
 rw [Array.all_eq_true']
 intro c hc
 have:=h.PR c (by simpa using hc)
 exact bM (by omega)
inductive acy (T:TC) (K:Fg) (vs:List V) (H:Hp) (Q:VK) (E:XK):Prop
 | mk (l:Addr) (own:List Str) (n:Nat) (ρ:fK) (_:vs=[.ref l]) (_:aC K H l (own.map V.str)) (_:ρ l=none) (_:own.Nodup) (_:(∀o∈own,isNm o=true)) (_:own.length<=100) (_:Gh ρ H) (_:∀ρ' A H',HH T n ρ' A H' (own.foldl gJ hs0)->Fr n ρ H ρ' H'->Q (.ref A.a) H')
def Qk (T:TC) (K:Fg):Sp:=bx (acy T K)
theorem AL:∀(l:List Str) (st:HS),(l.foldl gJ st).own=st.own++l
 | [],st=>by simp
 | o::l,st=>by
   rw [mG,AL l]
   show (st.own++[o])++l=_
   rw [KY]
   rfl
theorem o7 (K:Fg) (hK:X.K=K:=by rfl):zW X (rIx K):=hK▸abx
theorem Sq.ix {r:Addr} {v:V} {Q:VK} (h:Sq K H r xs) (e:xs[i]?=some v) (q:Q v H):rIx K (.ref r) (.int (i:Int)) H Q:=by
 rcases h with h|h
 . exact .inl ⟨r,xs,i,v,Z,Z,h,aP e,q⟩
 . exact .inr (.inl ⟨r,xs,i,v,Z,Z,h,aP e,q⟩)
theorem Jy {own:List Str} {tops:List Int} {b:Int} (hb:0<b) (hz:Jm.Sz m b) (h:(x,q)∈fL own tops b):Jm.Sz m (q.den:Int):=by
 unfold fL at h
 obtain ⟨y,_,e⟩:=Gw.mp h
 by_cases c:0<y.2
 . rw [aB c] at e
   cases e
   refine hz.of_le ?_
   have:=Jm.Ua y.2 b hb
   omega
 . rw [az c] at e;cases e
theorem Fr.at (f:Fr n ρ H ρ' H') {b:Addr} (e:H b=some o) (c:ρ b=none):H' b=some o/\ρ' b=none:=by
 obtain ⟨a,d⟩:=f b o e (fun t x=>by rw [c];intro z;cases z)
 exact ⟨a,d.trans c⟩
theorem Fr.seq (f:Fr n ρ H ρ' H') {l:Addr} (h:aC K H l xs) (c:ρ l=none):aC K H' l xs:=by
 rcases h with (h|⟨o,h⟩)|h
 . exact .inl (.inl (f.at h c).1)
 . exact .inl (.inr ⟨o,(f.at h c).1⟩)
 . exact .inr h
theorem Fr.tup {n:Nat} {ρ ρ':fK} {H H':Hp} (f:Fr n ρ H ρ' H') (g:Gh ρ H):∀b xs,H b=some (.tup xs)->H' b=some (.tup xs):=fun b xs e=>(f.at e (g.tup e)).1
def EX (nss:List (List Nat)):List Str:=nss.map tx
theorem Z4 (nss:List (List Nat)):sQ nss=(EX nss).map V.str:=by unfold sQ EX;rw [fJ];rfl
theorem IS (h:nss.Nodup):(EX nss).Nodup:=by
 unfold EX
 exact List.Pairwise.map tx (fun a b hab e=>hab (Up e)) h
theorem UJ (h:∀x∈nss,pS x):∀o∈EX nss,yZ o:=fun o ho=>by
 obtain ⟨x,hx,rfl⟩:=bN.mp ho
 show pS (tx x).cps.toList
 rw [show (tx x).cps.toList=x from by simp]
 exact h x hx
theorem Ql (nss:List (List Nat)):(EX nss).length=nss.length:=by unfold EX;rw [aF]
theorem Xm (x:Str) (l:List Str):Lc (.str x) (l.map V.str)=decide (x∈l):=by
 have:=PU x.cps.toList (l.map fun y=>y.cps.toList)
 rw [x_] at this
 rw [show sQ (l.map fun y=>y.cps.toList)=l.map V.str from by unfold sQ;rw [fJ];congr 1;] at this
 rw [this]
 congr 1
 refine propext ⟨fun m=>?_,fun m=>bN.mpr ⟨x,m,Z⟩⟩
 obtain ⟨y,hy,e⟩:=bN.mp m
 have:tx y.cps.toList=tx x.cps.toList:=by rw [e]
 rw [x_,x_] at this
 rw [<-this];exact hy
theorem UK (l:List Str):(l.map V.str).all rT=true:=by
 rw [List.all_map]
 exact pF.mpr fun _ _=>rfl
theorem Xn {l:List Str} {d:Int} (h0:0<=d) (h1:d<(l.length:Int)):∃(j:Nat) (o:Str),d=(j:Int)/\l[j]?=some o/\lG (l.map V.str) d=some (.str o):=by
 obtain ⟨j,rfl⟩:∃j:Nat,d=(j:Int):=⟨d.toNat,by omega⟩
 have hj:j<l.length:=by omega
 exact ⟨j,l[j],Z,a_ hj,aP (by rw [bK,a_ hj];rfl)⟩
section
variable {T:TC} {n:Nat} {L H:Hp} {x lp:Addr} {st:HS} {ps:List Pt}
end
theorem j_ {α:Type} {l:List α} (nd:l.Nodup) {x:α} (h:l[i]?=some x):x∉l.take i:=fun m=>by
 have h2:(l.take (i+1)).Nodup:=nd.sublist (List.take_sublist _ _)
 rw [take_snoc h] at h2
 exact (List.nodup_append.mp h2).2.2 x m x (ee.mpr rfl) rfl
abbrev Row:=Str×Int
def AM (r:Row):HO:= .tup [.str r.1, .int r.2]
inductive gq (H:Hp):List V->List Row->Prop
 | nil:gq H [] []
 | cons {a:Addr} {r:Row} {vs:List V} {rs:List Row}:H a=some (AM r)->gq H vs rs->gq H (.ref a::vs) (r::rs)
theorem gq.mono {l:List Row} (h:gq H vs l) (g:∀b xs,H b=some (.tup xs)->H' b=some (.tup xs)):gq H' vs l:=by
 induction h with
 | nil=>exact .nil
 | cons a _ ih=>exact .cons (g _ _ a) ih
theorem gq.length {l:List Row} (h:gq H vs l):vs.length=l.length:=by
 induction h with
 | nil=>rfl
 | cons _ _ ih=>simp [ih]
theorem gq.get {l:List Row} (h:gq H vs l):∀{i:Nat} {x:V},vs[i]?=some x->∃a r,x = .ref a/\l[i]?=some r/\H a=some (AM r):=by
 induction h with
 | nil=>intro i x e;simp at e
 | @cons a r vs rs e0 _ ih=>
   intro i x e
   cases i with
   | zero=>simp at e;subst e;exact ⟨a,r,Z,Z,e0⟩
   | succ i=>simp at e;obtain ⟨a',r',e1,e2,e3⟩:=ih e;exact ⟨a',r',e1,by simpa using e2,e3⟩
variable {r:Row}
theorem gq.snoc {l:List Row} (h:gq H vs l) (e:H a=some (AM r)):gq H (vs++[.ref a]) (l++[r]):=by
 induction h with
 | nil=>exact .cons e .nil
 | cons a _ ih=>exact .cons a ih
def h_ (rs:List Row):List (Key×V):=rs.map fun r=>((Sum.inr r.1:Key),V.int r.2)
theorem y9 (rs:List Row):(h_ rs).length=rs.length:=by unfold h_;rw [aF]
variable {rs:List Row}
theorem IT (h:x∉rs.map (·.1)):ef (h_ rs) (Sum.inr x)=none:=by
 unfold h_
 induction rs with
 | nil=>rfl
 | cons a l ih=>
   rw [bF,eU (fun z=>h (by rw [bF,<-rR z];exact cO))]
   exact ih fun m=>h (by rw [bF];exact cL _ m)
def bu (rs:List Row):Int:=(rs.map (·.2)).sum
def cQ (st:HS) (x:Str):Pt:=(st.ah.find? fun p=>decide (p.nm=x)).getD ⟨x,x,0,0,1,[]⟩
theorem Qm (nd:(st.ah.map (·.nm)).Nodup) (h:st.ah[i]?=some p):cQ st p.nm=p:=by
 unfold cQ
 have:st.ah.find? (fun q=>decide (q.nm=p.nm))=some p:=by
  generalize st.ah=ps at *
  induction ps generalizing i with
  | nil=>simp at h
  | cons a ps ih=>
    obtain ⟨h1,h2⟩:=gX.mp (show (a.nm::ps.map (·.nm)).Nodup from nd)
    cases i with
    | zero=>
      have:a=p:=by simpa using h
      subst this
      rw [pH,bM rfl]
    | succ i=>
      have h':ps[i]?=some p:=by simpa using h
      rw [pH,dO (fun e=>h1 (bN.mpr ⟨p,bJ h',e.symm⟩))]
      exact ih h2 h'
 rw [this]
 rfl
def jI (st:HS) (sums:List Int) (r:Row):List Int:=List.zipWith (fun old own=>old+(r.2*(cQ st r.1).sc)*own) sums (cQ st r.1).row
def fZ (st:HS) (rs:List Row):List Int:=rs.foldl (jI st) (st.bR.map fun c=>bu rs*c)
def pV (s:Int) (ts:List Int):Int:=ts.foldl (fun s t=>Jm.cf t s) s
def iJ (st:HS) (kept:Int):List Int:=st.ah.map fun p=>p.sc*kept
def fW (st:HS) (kept:Int) (added:List Int):List Int:=List.zipWith (fun t m=>t*kept+m) st.bR added
def c_ (st:HS) (kept whole:Int) (added:List Int):Int:=pV whole (iJ st kept++fW st kept added)
def fU (st:HS) (s:Int):HS:=if 1<s then { st with stp:=st.stp++[s],prod:=st.prod*s,kn:=0 } else st
def cV (st:HS) (kept whole:Int) (added:List Int):HS:=
 fU { st with ah:=st.ah.map (fun p=>{ p with sc:=p.sc*kept / c_ st kept whole added }),bR:=(fW st kept added).map (· / c_ st kept whole added),dj:=st.dj.map (·*(whole / c_ st kept whole added)) } (whole / c_ st kept whole added)
def nO (ps:List Pt) (x:Str) (a:Int):List Pt:=(ps.map fun p=>if p.nm=x then { p with wo:=p.wo-a } else p).filter fun p=>decide (p.wo≠0)
def gi (st:HS) (r:Row):HS:={ st with ah:=nO st.ah r.1 r.2 }
def kI (st:HS) (rs:List Row):HS:=rs.foldl gi (cV st (bH st-bu rs) (bH st) (fZ st rs))
inductive ah0 (vs:List V) (H:Hp) (Q:VK) (E:XK):Prop
 | mk (a:Int) (_:vs=[.int a]) (_:1<=a) (_:Q .cg H)
def YH:Sp:=bx (ah0)
inductive ah1 (vs:List V) (H:Hp) (Q:VK) (E:XK):Prop
 | mk (m a:Int) (_:vs=[.int m, .int a]) (_:1<=a) (_:a<=m) (_:Q .cg H)
def YI:Sp:=bx (ah1)
inductive aeM (K:Fg) (vs:List V) (H:Hp) (Q:VK) (E:XK):Prop
 | mk (l:Addr) (us:List V) (rs:List Row) (_:vs=[.ref l]) (_:aC K H l us) (_:gq H us rs) (_:(rs.map (·.1)).Nodup) (_:rs≠[]) (_:rs.length<=1000) (_:∀d H',aI H H'->H d=none->H' d=some (.dK (h_ rs))->Q (.ref d) H')
def UL (K:Fg):Sp:=bx (aeM K)
inductive aeN (K:Fg) (vs:List V) (H:Hp) (Q:VK) (E:XK):Prop
 | mk (s:Int) (l:Addr) (ts:List Int) (_:vs=[.int s, .ref l]) (_:aC K H l (ts.map V.int)) (_:0<=s) (_:(∀t∈ts,0<=t)) (_:Q (.int (pV s ts)) H)
def UM (K:Fg):Sp:=bx (aeN K)
inductive aeO (T:TC) (vs:List V) (H:Hp) (Q:VK) (E:XK):Prop
 | mk (n ρ A st s:_) (_:vs=[.ref A.bt, .int s]) (_:Gh ρ H) (_:aZ T n ρ A H st) (_:st.stp.length<=1000) (_:Jm.Sz 9000 st.prod) (_:Jm.Sz 9000 s) (_:∀ρ' A' H',Gh ρ' H'->aZ T n ρ' A' H' (fU st s:_)->A'.a=A.a->Fr n ρ H ρ' H'->Q .cg H')
def UN (T:TC):Sp:=bx (aeO T)
inductive acz (T:TC) (vs:List V) (H:Hp) (Q:VK) (E:XK):Prop
 | mk (n ρ A st:_) (d:Addr) (rs:List Row) (_:vs=[.ref A.a, .ref d]) (_:aZ T n ρ A H st) (_:Wf st) (_:H d=some (.dK (h_ rs))) (_:ρ d=none) (_:rs.length<=1000) (_:(∀r∈rs,Jm.Sz 60 r.2/\∃p∈st.ah,p.nm=r.1)) (_:∀l H',aI H H'->H l=none->H' l=some (.lst ((fZ st rs).map V.int))->Q (.ref l) H')
def Qn (T:TC):Sp:=bx (acz T)
inductive acA (T:TC) (K:Fg) (vs:List V) (H:Hp) (Q:VK) (E:XK):Prop
 | mk (n ρ A st:_) (kept whole:Int) (l:Addr) (added:List Int) (_:vs=[.ref A.a, .int kept, .int whole, .ref l]) (_:HH T n ρ A H st) (_:aC K H l (added.map V.int)) (_:added.length=st.bR.length) (_:0<kept) (_:0<whole) (_:Jm.Sz 60 kept) (_:Jm.Sz 60 whole) (_:(∀m∈added,0<=m/\Jm.Sz 8900 m)) (_:(∀u∈st.dj,Jm.Sz 8900 u)) (_:st.stp.length<100) (_:Wf (cV st kept whole added)) (_:B3 T n ρ A H (cV st kept whole added:_) fun H'=>Q .cg H')
def Qo (T:TC) (K:Fg):Sp:=bx (acA T K)
inductive aeP (T:TC) (vs:List V) (H:Hp) (Q:VK) (E:XK):Prop
 | mk (n ρ A st:_) (r:Row) (_:vs=[.ref A.a, .str r.1, .int r.2]) (_:HH T n ρ A H st) (_:(∃p∈st.ah,p.nm=r.1/\r.2<=p.wo)) (_:Wf (gi st r)) (_:B3 T n ρ A H (gi st r:_) fun H'=>Q .cg H')
def UO (T:TC):Sp:=bx (aeP T)
structure pW (st:HS) (rs:List Row):Prop where
 nd:(rs.map (·.1)).Nodup
 ne:rs≠[]
 len:rs.length<=1000
 row:∀r∈rs,1<=r.2/\Jm.Sz 60 r.2/\∃p∈st.ah,p.nm=r.1/\r.2<=p.wo
 lost:bu rs<bH st
 big:Jm.Sz 60 (bH st)
 prod:Jm.Sz 7900 st.prod
 dj:∀u∈st.dj,Jm.Sz 8900 u
 stp:st.stp.length<100
inductive aeQ (T:TC) (K:Fg) (vs:List V) (H:Hp) (Q:VK) (E:XK):Prop
 | mk (n ρ A st:_) (l:Addr) (us:List V) (rs:List Row) (_:vs=[.ref A.a, .ref l]) (_:HH T n ρ A H st) (_:aC K H l us) (_:gq H us rs) (_:pW st rs) (_:B3 T n ρ A H (kI st rs:_) fun H'=>Q .cg H')
def UP (T:TC) (K:Fg):Sp:=bx (aeQ T K)
theorem LQ:∀{ps:List Pt} {qs:List (Addr×Addr×Addr)} {i:Nat} {p:Pt},(ps.map (·.nm)).Nodup->qs.length=ps.length->ps[i]?=some p->nN (cZ ps qs) (Sum.inr p.nm)=cZ (ps.eraseIdx i) (qs.eraseIdx i)
 | [],_,_,_,_,_,h=>by simp at h
 | _::_,[],_,_,_,hl,_=>by simp at hl
 | a::ps,b::qs,0,p,nd,hl,h=>by
   have e:a=p:=by simpa using h
   subst e
   obtain ⟨h1,h2⟩:=gX.mp (show (a.nm::ps.map (·.nm)).Nodup from nd)
   show nN ((Sum.inr a.nm,V.ref b.1)::cZ ps qs) (Sum.inr a.nm)=cZ ps qs
   unfold nN
   rw [iF,az (by simp)]
   refine List.filter_eq_self.mpr fun kv hkv=>?_
   unfold cZ at hkv
   obtain ⟨x,hx,y,hy,rfl⟩:=yW hkv
   exact bM fun z=>h1 (bN.mpr ⟨x,hx,rR z⟩)
 | a::ps,b::qs,i+1,p,nd,hl,h=>by
   obtain ⟨h1,h2⟩:=gX.mp (show (a.nm::ps.map (·.nm)).Nodup from nd)
   have h':ps[i]?=some p:=by simpa using h
   have ih:=LQ h2 (by simpa using hl) h'
   show nN ((Sum.inr a.nm,V.ref b.1)::cZ ps qs) (Sum.inr p.nm)=(Sum.inr a.nm,V.ref b.1)::cZ (ps.eraseIdx i) (qs.eraseIdx i)
   rw [<-ih]
   unfold nN
   have hne:¬ (Sum.inr a.nm:Key)=Sum.inr p.nm:=fun z=>h1 (bN.mpr ⟨p,bJ h',(rR z).symm⟩)
   rw [iF,aB (by simpa using fun e:a.nm=p.nm=>hne (by rw [e]))]
theorem LR:∀{ps:List Pt} {i:Nat} {p:Pt} {a:Int},(ps.map (·.nm)).Nodup->(∀q∈ps,q.wo≠0)->ps[i]?=some p->nO ps p.nm a=if p.wo-a=0 then ps.eraseIdx i else ps.set i { p with wo:=p.wo-a }
 | [],_,_,_,_,_,h=>by simp at h
 | x::ps,0,p,a,nd,hw,h=>by
   have e:x=p:=by simpa using h
   subst e
   obtain ⟨h1,h2⟩:=gX.mp (show (x.nm::ps.map (·.nm)).Nodup from nd)
   have rest:nO ps x.nm a=ps:=by
    unfold nO
    rw [show (ps.map fun p=>if p.nm=x.nm then { p with wo:=p.wo-a } else p)=ps from by
     conv=>rhs;rw [<-List.map_id ps]
     exact CY fun y hy=>az fun z=>h1 (bN.mpr ⟨y,hy,z⟩)]
    exact List.filter_eq_self.mpr fun y hy=>bM (hw y (cL _ hy))
   show ((x::ps).map fun p=>if p.nm=x.nm then { p with wo:=p.wo-a } else p).filter _=_
   rw [bF,aB rfl,iF]
   by_cases c:x.wo-a=0
   . rw [aB c,az (by simp [c])]
     exact rest
   . rw [az c,aB (by simpa using c)]
     show _::nO ps x.nm a=_
     rw [rest]
     rfl
 | x::ps,i+1,p,a,nd,hw,h=>by
   obtain ⟨h1,h2⟩:=gX.mp (show (x.nm::ps.map (·.nm)).Nodup from nd)
   have h':ps[i]?=some p:=by simpa using h
   have ih:=LR (a:=a) h2 (fun q hq=>hw q (cL _ hq)) h'
   have xn:¬ x.nm=p.nm:=fun z=>h1 (bN.mpr ⟨p,bJ h',z.symm⟩)
   show ((x::ps).map fun q=>if q.nm=p.nm then { q with wo:=q.wo-a } else q).filter _=_
   rw [bF,az xn,iF,aB (bM (hw x cO))]
   show x::nO ps p.nm a=_
   rw [ih]
   by_cases c:p.wo-a=0
   . rw [aB c,aB c];rfl
   . rw [az c,az c];rfl
theorem sS {α:Type}:∀{l:List α} {i:Nat} {x:α},l[i]?=some x->l.set i x=l
 | [],_,_,h=>by simp at h
 | a::l,0,x,h=>by
   have:a=x:=by simpa using h
   rw [this];rfl
 | a::l,i+1,x,h=>by rw [KU,sS (by simpa using h)]
theorem LS {α β:Type} {l:List α} {m:List β} {x:α} {y:β} (h1:(l.eraseIdx i)[j]?=some x) (h2:(m.eraseIdx i)[j]?=some y):∃k:Nat,l[k]?=some x/\m[k]?=some y:=by
 rw [List.getElem?_eraseIdx] at h1 h2
 by_cases c:j<i
 . rw [aB c] at h1 h2;exact ⟨j,h1,h2⟩
 . rw [az c] at h1 h2;exact ⟨j+1,h1,h2⟩
theorem AN:∀(ts:List Int) (s:Int),pV s ts∣s/\∀t∈ts,pV s ts∣t
 | [],s=>⟨Int.dvd_refl _,fun _ h=>absurd h (by simp)⟩
 | t::ts,s=>by
   obtain ⟨h1,h2⟩:=AN ts (Jm.cf t s)
   refine ⟨Int.dvd_trans h1 (Jm.pN t s),fun u hu=>?_⟩
   rcases dg.mp hu with rfl|hu
   . exact Int.dvd_trans h1 (Jm.rW u s)
   . exact h2 u hu
theorem AQ:∀(ts:List Int) (s:Int),0<s->0<pV s ts
 | [],_,h=>h
 | t::ts,s,h=>AQ ts _ (Jm.EA t s (.inr h))
theorem IU {A:HA} (h:aZ T n ρ A H st) (g:Gh ρ H) (c:ρ a=none) (e:H a=some o) (ht:isTup o=false):
  aZ T n (bZ ρ a (n,t,⟨#[]⟩)) A H st/\Gh (bZ ρ a (n,t,⟨#[]⟩)) H:=
 ⟨h.same ⟨fun _ _ e=>e,fun b u x w _ hc he=>⟨he,by rw [cu (fun z=>by rw [z,c] at hc;cases hc)];exact hc⟩⟩,g.color e ht⟩
theorem Fr.qT (f:Fr n ρ H ρ' H') (h:H a=none):Fr n ρ H (bZ ρ' a (n,t,x)) H':=fun b o e k=>by
 obtain ⟨e1,e2⟩:=f b o e k
 exact ⟨e1,by rw [cu (aE e h)];exact e2⟩
theorem IV {d a b:Int} (hd:0<d) (h:a<=d*b):a / d<=b:=by
 have:=Int.ediv_le_ediv hd h
 rwa [Gp _ (by omega)] at this
theorem EY {s:Int} (h:1<=s):(fU st s).prod=st.prod*s:=by
 unfold fU
 by_cases c:1<s
 . rw [aB c]
 . rw [az c,show s=1 by omega,Int.mul_one]
theorem AR (st:HS) (s:Int):(fU st s).ah=st.ah:=by unfold fU;split <;> rfl
theorem UQ (st:HS) (s:Int):(fU st s).bR=st.bR:=by unfold fU;split <;> rfl
theorem UR (st:HS) (s:Int):(fU st s).dj=st.dj:=by unfold fU;split <;> rfl
theorem US (st:HS) (s:Int):(fU st s).own=st.own:=by unfold fU;split <;> rfl
theorem UT (st:HS) (s:Int):(fU st s).nms=st.nms:=by unfold fU;split <;> rfl
theorem UU (st:HS) (s:Int):(fU st s).jZ=st.jZ:=by unfold fU;split <;> rfl
theorem jz {α β γ:Type} {f:α->β->γ} {t:γ}:∀{xs:List α} {ys:List β},t∈List.zipWith f xs ys->∃(i:Nat) (x:α) (y:β),xs[i]?=some x/\ys[i]?=some y/\t=f x y:=fun {xs ys} h=>by
 obtain ⟨i,hi,e⟩:=pC h
 rw [qM] at hi
 have h1:i<xs.length:=by omega
 have h2:i<ys.length:=by omega
 exact ⟨i,xs[i],ys[i],a_ h1,a_ h2,by rw [<-e,List.getElem_zipWith]⟩
theorem Qp {α β γ:Type} {f:α->β->γ} {xs:List α} {ys:List β} {x:α} {y:β} (h1:xs[i]?=some x) (h2:ys[i]?=some y):(List.zipWith f xs ys)[i]?=some (f x y):=by
 rw [Q9,h1,h2]
theorem Dj {a b c:Int} (h:a<=b) (hc:0<=c):a*c<=b*c:=Te h hc
structure uG (st:HS) (kept whole lost:Int) (added:List Int):Prop where
 k:0<kept
 l:0<=lost
 w:whole=kept+lost
 len:added.length=st.bR.length
 add:∀m∈added,0<=m/\m<=lost*st.prod
 prod:Jm.Sz 7900 st.prod
 big:Jm.Sz 60 whole
 dj:∀u∈st.dj,Jm.Sz 8900 u
 stp:st.stp.length<100
variable {lost:Int} {added:List Int}
theorem uG.dvds {kept whole:Int} (b:uG st kept whole lost added):
  0<c_ st kept whole added/\c_ st kept whole added∣whole/\(∀p∈st.ah,c_ st kept whole added∣p.sc*kept)/\∀c∈fW st kept added,c_ st kept whole added∣c:=by
 have hw:0<whole:=by have:=b.k;have:=b.l;have:=b.w;omega
 have d:=AN (iJ st kept++fW st kept added) whole
 exact ⟨AQ _ _ hw,d.1,fun p hp=>d.2 _ (Gr _ (bN.mpr ⟨p,hp,Z⟩)),fun c hc=>d.2 _ (jg _ hc)⟩
theorem Xo {kept whole:Int} (wf:Wf st) (b:uG st kept whole lost added):Wf (cV st kept whole added):=by
 obtain ⟨hs,hsw,pM,hsc⟩:=b.dvds
 have hk:=b.k
 have hl:=b.l
 have hw:=b.w
 have p1:=wf.i7
 have eB:cV st kept whole added=fU { st with ah:=st.ah.map (fun p=>{ p with sc:=p.sc*kept / c_ st kept whole added }),bR:=(fW st kept added).map (· / c_ st kept whole added),dj:=st.dj.map (·*(whole / c_ st kept whole added)) } (whole / c_ st kept whole added):=rfl
 rw [eB]
 generalize c_ st kept whole added=d at *
 obtain ⟨s,es⟩:=hsw
 have hs1:1<=s:=by
  rcases Int.lt_trichotomy s 0 with z|z|z
  . have:=Int.mul_neg_of_pos_of_neg hs z;omega
  . rw [z,Int.mul_zero] at es;omega
  . omega
 have ed:whole / d=s:=by rw [es,Gp _ (by omega)]
 rw [ed]
 have ak9:s<=whole:=by rw [es];have:=Te (show 1<=d by omega) (show 0<=s by omega);omega
 have zs:Jm.Sz 60 s:=b.big.of_le (by omega)
 have zp:Jm.Sz 8000 (st.prod*s):=(b.prod.mul zs).mono (by decide)
 have pp:st.prod<=st.prod*s:=by have:=Ij hs1 (show 0<=st.prod by omega);omega
 have Xp:∀c∈(fW st kept added).map (· / d),0<=c/\c<=st.prod*s:=fun c hc=>by
  obtain ⟨x,hx,rfl⟩:=bN.mp hc
  obtain ⟨i,t,m,et,em,rfl⟩:=jz (show x∈List.zipWith (fun t m=>t*kept+m) st.bR added from hx)
  have ht:=wf.tK t (bJ et)
  have hm:=b.add m (bJ em)
  have a1:0<=t*kept:=nL ht.1 (by omega)
  have a2:t*kept<=st.prod*kept:=Dj ht.2 (by omega)
  have a3:st.prod*kept+lost*st.prod=d*(st.prod*s):=by
   rw [rQ lost,<-pI,<-hw,es,<-jO,<-jO,rQ st.prod d]
  exact ⟨Int.ediv_nonneg (by omega) (by omega),IV hs (by omega)⟩
 have sc':∀p∈st.ah,1<=p.sc*kept / d/\p.sc*kept / d<=st.prod*s/\d*(p.sc*kept / d)=p.sc*kept:=fun p hp=>by
  have h0:=wf.u_ p hp
  obtain ⟨z,ez⟩:=pM p hp
  have a1:0<p.sc*kept:=Int.mul_pos (by omega) hk
  have ez':p.sc*kept / d=z:=by rw [ez,Gp _ (by omega)]
  have hz:1<=z:=by
   rcases Int.lt_trichotomy z 0 with y|y|y
   . have:=Int.mul_neg_of_pos_of_neg hs y;omega
   . rw [y,Int.mul_zero] at ez;omega
   . omega
  have a2:p.sc*kept<=st.prod*kept:=Dj h0.2 (by omega)
  have a3:st.prod*kept<=st.prod*whole:=Ij (by omega) (by omega)
  have a4:st.prod*whole=d*(st.prod*s):=by rw [es,<-jO,<-jO,rQ st.prod d]
  refine ⟨by rw [ez'];exact hz,IV hs (by omega),by rw [ez',ez]⟩
 have P:∀{M:Pt->Prop},(∀p∈st.ah,M { p with sc:=p.sc*kept / d })->∀p∈st.ah.map (fun p=>{ p with sc:=p.sc*kept / d }),M p:=fun h p hp=>by
  obtain ⟨x,hx,rfl⟩:=bN.mp hp
  exact h x hx
 have top':∀p∈st.ah,∀t∈List.zipWith (fun r c=>(p.sc*kept / d)*r+c) p.row ((fW st kept added).map (· / d)),0<=t/\t<=st.prod*s:=fun p hp t ht=>by
  obtain ⟨i,r,c,er,ec,rfl⟩:=jz ht
  rw [bK] at ec
  obtain ⟨x,ex,rfl⟩:=lS.mp ec
  obtain ⟨y,ey⟩:=hsc x (bJ ex)
  have eyd:x / d=y:=by rw [ey,Gp _ (by omega)]
  have ex':(List.zipWith (fun t m=>t*kept+m) st.bR added)[i]?=some x:=ex
  rw [Q9] at ex'
  cases e1:st.bR[i]? with
  | none=>rw [e1] at ex';simp at ex'
  | some t0=>
    cases e2:added[i]? with
    | none=>rw [e1,e2] at ex';simp at ex'
    | some m=>
      rw [e1,e2] at ex'
      have ex2:t0*kept+m=x:=by simpa using ex'
      have hm:=b.add m (bJ e2)
      have hT:=wf.yT p hp (p.sc*r+t0) (bJ (Qp (f:=fun r c=>p.sc*r+c) er e1))
      have hz:=(sc' p hp).2.2
      have key:d*((p.sc*kept / d)*r+x / d)=(p.sc*r+t0)*kept+m:=by
       rw [pI,<-jO,hz,eyd,<-ey,<-ex2]
       rw [BL,jO,jO,rQ kept r]
       omega
      have k1:0<=(p.sc*r+t0)*kept:=nL hT.1 (by omega)
      have k2:(p.sc*r+t0)*kept<=st.prod*kept:=Dj hT.2 (by omega)
      have a3:st.prod*kept+lost*st.prod=d*(st.prod*s):=by
       rw [rQ lost,<-pI,<-hw,es,<-jO,<-jO,rQ st.prod d]
      generalize (p.sc*kept / d)*r+x / d=W at *
      constructor
      . rcases Ef W 0 with z|z
        . have:=Int.mul_neg_of_pos_of_neg hs z;omega
        . exact z
      . have:d*W<=d*(st.prod*s):=by omega
        exact Int.le_of_mul_le_mul_left this hs
 have nm':(st.ah.map (fun p:Pt=>{ p with sc:=p.sc*kept / d })).map (fun p:Pt=>p.nm)=st.ah.map (fun p:Pt=>p.nm):=by rw [fJ];rfl
 have e0:(fW st kept added).length=st.bR.length:=by unfold fW;rw [qM,b.len];omega
 have pu':∀u∈st.dj.map (·*s),Jm.Sz 9000 u:=fun u hu=>by
  obtain ⟨x,hx,rfl⟩:=bN.mp hu
  exact ((b.dj x hx).mul zs).mono (by decide)
 have acB:∀p∈st.ah,∀r∈p.row,-(st.prod*s)<=r/\r<=st.prod*s:=fun p hp r hr=>by have:=wf.qR p hp r hr;omega
 unfold fU
 by_cases c:1<s
 . rw [aB c]
   refine ⟨wf.yR,wf.De,by rw [nm'];exact wf.j9,P wf.sub,P wf.rows,P wf.ow,?_,?_,by show 1<=st.prod*s;omega,?_,fun x hx=>?_,wf.tH,wf.Df,?_,?_,wf.AF,fT _,zp,Xp,P fun p hp=>⟨(sc' p hp).1,(sc' p hp).2.1⟩,P acB,P top',P wf.vc,pu'⟩
   . show (List.map _ (fW st kept added)).length=_
     rw [aF,e0,wf.ji]
   . show (List.map _ st.dj).length=_
     rw [aF,wf.yS]
   . show st.prod*s=(st.stp++[s]).foldl (·*·) 1
     rw [Z3,<-wf.wI]
   . rcases eV.mp (show x∈st.stp++[s] from hx) with z|z
     . exact wf.AE x z
     . rw [ee.mp z];omega
   . show (List.map _ st.ah).length<=1000
     rw [aF];exact wf.xy
   . show (st.stp++[s]).length<=100
     rw [cY];exact b.stp
 . rw [az c]
   have e1:s=1:=by omega
   subst e1
   rw [Int.mul_one] at Xp sc' acB top'
   refine ⟨wf.yR,wf.De,by rw [nm'];exact wf.j9,P wf.sub,P wf.rows,P wf.ow,?_,?_,wf.i7,wf.wI,wf.AE,wf.tH,wf.Df,?_,wf.GS,wf.AF,wf.UB,wf.big,Xp,P fun p hp=>⟨(sc' p hp).1,(sc' p hp).2.1⟩,P wf.qR,P fun p hp t ht=>?_,P wf.vc,pu'⟩
   . show (List.map _ (fW st kept added)).length=_
     rw [aF,e0,wf.ji]
   . show (List.map _ st.dj).length=_
     rw [aF,wf.yS]
   . show (List.map _ st.ah).length<=1000
     rw [aF];exact wf.xy
   . exact top' p hp t ht
def y_ (st:HS) (acc:List Int) (rs:List Row):List Int:=rs.foldl (fun s r=>List.zipWith (fun x t=>x+r.2*t) s (b_ st (cQ st r.1))) acc
theorem IW:∀(acc bR row:List Int) (a sc L:Int),List.zipWith (fun old own=>old+(a*sc)*own) (List.zipWith (fun s c=>s+(a+L)*c) acc bR) row=List.zipWith (fun s c=>s+L*c) (List.zipWith (fun x t=>x+a*t) acc (List.zipWith (fun r c=>sc*r+c) row bR)) bR
 | [],_,_,_,_,_=>by simp
 | _::_,[],_,_,_,_=>by simp
 | _::_,_::_,[],_,_,_=>by simp
 | x::acc,c::bR,r::row,a,sc,L=>by
   simp only [xh]
   rw [IW acc bR row a sc L]
   congr 1
   grind
theorem LU {st:HS}:∀(rs:List Row) (acc:List Int),rs.foldl (jI st) (List.zipWith (fun s c=>s+bu rs*c) acc st.bR)=List.zipWith (fun s c=>s+0*c) (y_ st acc rs) st.bR
 | [],acc=>by show List.zipWith _ acc st.bR=_;rfl
 | r::rs,acc=>by
   rw [mG]
   have e:jI st (List.zipWith (fun s c=>s+bu (r::rs)*c) acc st.bR) r=List.zipWith (fun s c=>s+bu rs*c) (List.zipWith (fun x t=>x+r.2*t) acc (b_ st (cQ st r.1))) st.bR:=by
    unfold jI
    rw [show bu (r::rs)=r.2+bu rs from by unfold bu;rw [bF,cX]]
    exact IW acc st.bR (cQ st r.1).row r.2 (cQ st r.1).sc (bu rs)
   rw [e,LU rs]
   rfl
theorem IZ:∀(l:List Int) (L:Int),List.zipWith (fun s c=>s+L*c) (List.replicate l.length 0) l=l.map fun c=>L*c
 | [],_=>rfl
 | x::l,L=>by
   rw [m7,CW,xh,IZ l L,Int.zero_add]
   rfl
theorem LV:∀(s l:List Int),s.length<=l.length->List.zipWith (fun s c=>s+0*c) s l=s
 | [],_,_=>by simp
 | _::_,[],h=>by simp at h
 | x::s,c::l,h=>by
   rw [xh,LV s l (by simpa using h),Int.zero_mul,Int.add_zero]
theorem AS {st:HS}:∀(rs:List Row) (acc:List Int),(∀r∈rs,(b_ st (cQ st r.1)).length=acc.length)->(y_ st acc rs).length=acc.length
 | [],_,_=>rfl
 | r::rs,acc,h=>by
   have e:(List.zipWith (fun x t=>x+r.2*t) acc (b_ st (cQ st r.1))).length=acc.length:=by rw [qM,h r cO];omega
   show (y_ st (List.zipWith (fun x t=>x+r.2*t) acc (b_ st (cQ st r.1))) rs).length=_
   rw [AS rs _ (fun x hx=>by rw [e];exact h x (cL _ hx)),e]
theorem CF {st:HS} (hP:0<=st.prod):∀(rs:List Row) (acc:List Int) (B:Int),(∀r∈rs,0<=r.2/\∀t∈b_ st (cQ st r.1),0<=t/\t<=st.prod)->(∀x∈acc,0<=x/\x<=B)->∀x∈y_ st acc rs,0<=x/\x<=B+bu rs*st.prod
 | [],acc,B,_,ha,x,hx=>by
   have:=ha x hx
   show 0<=x/\x<=B+0*st.prod
   omega
 | r::rs,acc,B,h,ha,x,hx=>by
   have hr:=h r cO
   have:=CF hP rs (List.zipWith (fun x t=>x+r.2*t) acc (b_ st (cQ st r.1))) (B+r.2*st.prod) (fun y hy=>h y (cL _ hy)) (fun y hy=>by
    obtain ⟨i,a,t,ea,et,rfl⟩:=jz hy
    have h1:=ha a (bJ ea)
    have h2:=hr.2 t (bJ et)
    have h3:0<=r.2*t:=nL hr.1 h2.1
    have h4:r.2*t<=r.2*st.prod:=Ij h2.2 hr.1
    omega) x hx
   rw [show bu (r::rs)=r.2+bu rs from by unfold bu;rw [bF,cX],BL]
   omega
theorem ze (wf:Wf st) (h:p∈st.ah):(b_ st p).length=st.bR.length:=by
 unfold b_
 rw [qM,wf.rows p h,wf.ji]
 omega
theorem jJ (wf:Wf st) (h:p∈st.ah) (e:p.nm=x):cQ st x=p:=by
 obtain ⟨i,hi,ei⟩:=pC h
 rw [<-e]
 exact Qm wf.j9 (i:=i) (by rw [a_ hi,ei])
theorem I0 (wf:Wf st) (h:∀r∈rs,∃p∈st.ah,p.nm=r.1):fZ st rs=y_ st (List.replicate st.bR.length 0) rs:=by
 unfold fZ
 rw [<-IZ st.bR (bu rs),LU]
 refine LV _ _ ?_
 rw [AS rs _ (fun r hr=>by
  obtain ⟨p,hp,e⟩:=h r hr
  rw [jJ wf hp e,mZ,ze wf hp]),mZ]
 exact aS _
theorem UW (wf:Wf st) (h:∀r∈rs,1<=r.2/\∃p∈st.ah,p.nm=r.1):(fZ st rs).length=st.bR.length/\∀m∈fZ st rs,0<=m/\m<=bu rs*st.prod:=by
 rw [I0 wf (fun r hr=>(h r hr).2)]
 have p1:=wf.i7
 constructor
 . rw [AS rs _ (fun r hr=>by
    obtain ⟨p,hp,e⟩:=(h r hr).2
    rw [jJ wf hp e,mZ,ze wf hp]),mZ]
 . intro m hm
   have:=CF (st:=st) (by omega) rs (List.replicate st.bR.length 0) 0 (fun r hr=>by
    obtain ⟨h1,p,hp,e⟩:=h r hr
    refine ⟨by omega,?_⟩
    rw [jJ wf hp e]
    exact wf.yT p hp) (fun x hx=>by rw [(List.mem_replicate.mp hx).2];omega) m hm
   omega
theorem RU {ps:List Pt} {a:Int} (h:p∈ps) (hn:p.nm≠x) (hw:p.wo≠0):p∈nO ps x a:=
 mF.mpr ⟨bN.mpr ⟨p,h,by rw [az hn]⟩,bM hw⟩
theorem Dk {ps:List Pt} {a:Int} (h:p∈nO ps x a):p.wo≠0/\∃q∈ps,p=if q.nm=x then { q with wo:=q.wo-a } else q:=by
 obtain ⟨h1,h2⟩:=mF.mp h
 obtain ⟨q,hq,e⟩:=bN.mp h1
 exact ⟨dU h2,q,hq,e.symm⟩
theorem EZ {ps:List Pt} {a:Int}:((nO ps x a).map (fun p:Pt=>p.nm)).Sublist (ps.map (fun p:Pt=>p.nm)):=by
 unfold nO
 have e:(ps.map fun p=>if p.nm=x then { p with wo:=p.wo-a } else p).map (fun p:Pt=>p.nm)=ps.map (fun p:Pt=>p.nm):=by
  rw [fJ]
  exact CY fun p _=>by show (if p.nm=x then _ else p:Pt).nm=p.nm;split <;> rfl
 rw [<-e]
 exact List.filter_sublist.map _
theorem Z5 (wf:Wf st) (h:∀p∈st.ah,p.nm=r.1->r.2<=p.wo):Wf (gi st r):=by
 have P:∀{M:Pt->Prop},(∀p∈st.ah,M p)->(∀(p:Pt) (w:Int),M p->M { p with wo:=w })->∀p∈nO st.ah r.1 r.2,M p:=fun h1 h2 p hp=>by
  obtain ⟨_,q,hq,e⟩:=Dk hp
  rw [e]
  split
  . exact h2 _ _ (h1 q hq)
  . exact h1 q hq
 refine ⟨wf.yR,wf.De,wf.j9.sublist EZ,P wf.sub (fun _ _ z=>z),P wf.rows (fun _ _ z=>z),P wf.ow (fun _ _ z=>z),wf.ji,wf.yS,wf.i7,wf.wI,wf.AE,wf.tH,wf.Df,?_,wf.GS,wf.AF,wf.UB,wf.big,wf.tK,P wf.u_ (fun _ _ z=>z),P wf.qR (fun _ _ z=>z),P wf.yT (fun _ _ z=>z),fun p hp=>?_,wf.LD⟩
 . have:=EZ (ps:=st.ah) (x:=r.1) (a:=r.2) |>.length_le
   rw [aF,aF] at this
   exact eX this wf.xy
 . obtain ⟨h0,q,hq,e⟩:=Dk hp
   have:=wf.vc q hq
   by_cases c:q.nm=r.1
   . rw [aB c] at e
     subst e
     have:=h q hq c
     have h0:q.wo-r.2≠0:=h0
     exact ⟨by show 1<=q.wo-r.2;omega,by show 0<=q.we;omega⟩
   . rw [az c] at e
     rw [e];exact this
def Due (st:HS) (rs:List Row):Prop:=∀r∈rs,∃p∈st.ah,p.nm=r.1/\r.2<=p.wo
theorem uH (wf:Wf st) {q:Pt} (hp:p∈st.ah) (hq:q∈st.ah) (e:p.nm=q.nm):p=q:=(jJ wf hp rfl).symm.trans (by rw [e];exact jJ wf hq rfl)
theorem acC (wf:Wf st) (d:Due st (r::rs)):Wf (gi st r):=by
 obtain ⟨p,hp,e,hle⟩:=d r cO
 exact Z5 wf fun q hq eq=>by rw [uH wf hq hp (eq.trans e.symm)];exact hle
theorem Xq (wf:Wf st) (d:Due st (r::rs)) (nd:((r::rs).map (fun r:Row=>r.1)).Nodup):Due (gi st r) rs:=fun x hx=>by
 obtain ⟨p,hp,e,hle⟩:=d x (cL _ hx)
 have hn:p.nm≠r.1:=fun z=>(gX.mp nd).1 (bN.mpr ⟨x,hx,e.symm.trans z⟩)
 have:=wf.vc p hp
 exact ⟨p,RU hp hn (by omega),e,hle⟩
theorem UX {kept whole:Int} (d:Due st rs):Due (cV st kept whole added) rs:=fun r hr=>by
 obtain ⟨p,hp,e,hle⟩:=d r hr
 refine ⟨{ p with sc:=p.sc*kept / c_ st kept whole added },?_,e,hle⟩
 unfold cV
 rw [AR]
 exact bN.mpr ⟨p,hp,Z⟩
theorem pW.due (c:pW st rs):Due st rs:=fun r hr=>(c.row r hr).2.2
theorem Dl:∀{rs:List Row},(∀r∈rs,1<=r.2)->0<=bu rs
 | [],_=>mJ _
 | r::rs,h=>by
   have:=h r cO
   have:=Dl (rs:=rs) fun x hx=>h x (cL _ hx)
   rw [show bu (r::rs)=r.2+bu rs from by unfold bu;rw [bF,cX]]
   omega
theorem pW.blend (wf:Wf st) (c:pW st rs):uG st (bH st-bu rs) (bH st) (bu rs) (fZ st rs):=by
 have g:=UW wf (rs:=rs) (fun r hr=>⟨(c.row r hr).1,by obtain ⟨p,hp,e,_⟩:=(c.row r hr).2.2;exact ⟨p,hp,e⟩⟩)
 have l0:=Dl (rs:=rs) fun r hr=>(c.row r hr).1
 have:=c.lost
 exact ⟨by omega,l0,by omega,g.1,g.2,c.prod,c.big,c.dj,c.stp⟩
structure BP where
 nm:Str
 ow:Str
 wo:Int
 we:Int
 tops:List Int
structure BE where
 nm:Str
 ow:Str
 wo:Int
 tops:List Int
 bot:Int
structure BS where
 own:List Str
 ah:List BP
 bot:Int
 jZ:List BE
 cS:List Str
structure BA where
 m:Addr
 lo:Addr
 lp:Addr
 la:Addr
 lk:Addr
 qs:List (Addr×Addr)
def eZ (B:BA) (bot:Int):List (Key×V):=[(Sum.inr "owners", .ref B.lo),(Sum.inr "parts", .ref B.lp),(Sum.inr "bottom", .int bot),(Sum.inr "ashore", .ref B.la),(Sum.inr "known", .ref B.lk)]
def fQ (p:BP) (t:Addr):HO:= .lst [.str p.nm, .str p.ow, .int p.wo, .int p.we, .ref t]
inductive Dm (n:Nat) (ρ:fK) (H:Hp):List V->List BE->Prop
 | nil:Dm n ρ H [] []
 | cons {r t:Addr} {e:BE} {vs:List V} {es:List BE}:H r=some (.lst [.str e.nm, .str e.ow, .int e.wo, .ref t, .int e.bot])->ρ r=some (n,27,e.nm)->H t=some (.lst (e.tops.map V.int))->ρ t=some (n,28,e.nm)->Dm n ρ H vs es->Dm n ρ H (.ref r::vs) (e::es)
structure aV (n:Nat) (ρ:fK) (B:BA) (H:Hp) (b:BS):Prop where
 om:H B.m=some (.dK (eZ B b.bot))
 cm:ρ B.m=some (n,20,⟨#[]⟩)
 oo:H B.lo=some (.lst (b.own.map V.str))
 co:ρ B.lo=some (n,21,⟨#[]⟩)
 op:H B.lp=some (.lst (B.qs.map fun q=>V.ref q.1))
 cp:ρ B.lp=some (n,22,⟨#[]⟩)
 oa:∃vs,H B.la=some (.lst vs)/\Dm n ρ H vs b.jZ
 ca:ρ B.la=some (n,25,⟨#[]⟩)
 ok:H B.lk=some (.lst (b.cS.map V.str))
 ck:ρ B.lk=some (n,26,⟨#[]⟩)
 ql:B.qs.length=b.ah.length
 pt:∀(i:Nat) (p:BP) (q:Addr×Addr),b.ah[i]?=some p->B.qs[i]?=some q->H q.1=some (fQ p q.2)/\H q.2=some (.lst (p.tops.map V.int))/\ρ q.1=some (n,23,p.nm)/\ρ q.2=some (n,24,p.nm)
theorem Dm.keep {l:List BE} (h:Dm n ρ H vs l) (k:Kp n ρ ρ' H H' ts) (e1:ts 27=true) (e2:ts 28=true):Dm n ρ' H' vs l:=by
 induction h with
 | nil=>exact .nil
 | cons a b c d _ ih=>exact .cons (k.2 _ _ _ _ e1 b a).1 (k.2 _ _ _ _ e1 b a).2 (k.2 _ _ _ _ e2 d c).1 (k.2 _ _ _ _ e2 d c).2 ih
variable {B:BA} {b:BS}
theorem aV.same (h:aV n ρ B H b) (k:Kp n ρ ρ' H H' fun _=>true):aV n ρ' B H' b:=by
 have z:=fun {b:Addr} {t:Nat} {x:Str} {o:HO} (c:ρ b=some (n,t,x)) (e:H b=some o)=>k.2 b t x o rfl c e
 obtain ⟨vs,h1,h2⟩:=h.oa
 exact ⟨(z h.cm h.om).1,(z h.cm h.om).2,(z h.co h.oo).1,(z h.co h.oo).2,(z h.cp h.op).1,(z h.cp h.op).2,⟨vs,(z h.ca h1).1,h2.keep k rfl rfl⟩,(z h.ca h1).2,(z h.ck h.ok).1,(z h.ck h.ok).2,h.ql,
  fun i p q e1 e2=>let ⟨a,b,c,d⟩:=h.pt i p q e1 e2;⟨(z c a).1,(z d b).1,(z c a).2,(z d b).2⟩⟩
theorem aV.mono (h:aV n ρ B H b) (s:aI H H'):aV n ρ B H' b:=h.same (PZ s)
theorem aV.other (h:aV m ρ B H b) (f:Fr n ρ H ρ' H') (g:Gh ρ H) (e:m≠n):aV m ρ' B H' b:=
 h.same ⟨fun b xs q=>(f b _ q fun t x=>by rw [g.tup q];intro z;cases z).1,fun b t x o _ c q=>by
   obtain ⟨a,b'⟩:=f b o q fun t' x'=>by rw [c];intro z;cases z;exact e rfl
   exact ⟨a,b'.trans c⟩⟩
theorem aV.col (h:aV n ρ B H b) (c:ρ a=none):aV n (bZ ρ a (n,t,x)) B H b:=
 h.same ⟨fun _ _ e=>e,fun b u y w _ hc he=>⟨he,by rw [cu (fun z=>by rw [z,c] at hc;cases hc)];exact hc⟩⟩
theorem aV.find (h:aV n ρ B H b) {p:BP} (e:b.ah[i]?=some p):∃q,B.qs[i]?=some q/\H q.1=some (fQ p q.2)/\H q.2=some (.lst (p.tops.map V.int))/\ρ q.1=some (n,23,p.nm)/\ρ q.2=some (n,24,p.nm):=by
 have hi:i<B.qs.length:=by rw [h.ql];exact (d7.mp e).1
 exact ⟨B.qs[i],a_ hi,h.pt i p _ e (a_ hi)⟩
theorem aV.Z6 (h:aV n ρ B H b) (g:Gh ρ H) (x:Int):aV n ρ B (upd H B.m (.dK (eZ B x))) { b with bot:=x }:=by
 have k:=fH (o:= .dK (eZ B x)) g h.cm
 obtain ⟨vs,h1,h2⟩:=h.oa
 exact ⟨ak,h.cm,kz k h.co h.oo,h.co,kz k h.cp h.op,h.cp,⟨vs,kz k h.ca h1,h2.keep k (by decide) (by decide)⟩,h.ca,kz k h.ck h.ok,h.ck,h.ql,
  fun i p q e1 e2=>let ⟨a,b,c,d⟩:=h.pt i p q e1 e2;⟨kz k c a,kz k d b,c,d⟩⟩
theorem aV.pU (h:aV n ρ B H b) (g:Gh ρ H) {p0 p1:BP} {q0:Addr×Addr} {t1:Addr} (ep:b.ah[i]?=some p0) (eq:B.qs[i]?=some q0) (e1:p1.nm=p0.nm) (nd:(b.ah.map (fun p:BP=>p.nm)).Nodup)
  (ht:H t1=some (.lst (p1.tops.map V.int))) (ct:ρ t1=some (n,24,p1.nm)):aV n ρ { B with qs:=B.qs.set i (q0.1,t1) } (upd H q0.1 (fQ p1 t1)) { b with ah:=b.ah.set i p1 }:=by
 obtain ⟨x1,x2,x3,x4⟩:=h.pt i p0 q0 ep eq
 have k:=fH (o:=fQ p1 t1) g x3
 obtain ⟨vs,h1,h2⟩:=h.oa
 have hi:i<B.qs.length:=(d7.mp eq).1
 have hi2:i<b.ah.length:=(d7.mp ep).1
 have em:(B.qs.set i (q0.1,t1)).map (fun q=>V.ref q.1)=B.qs.map fun q=>V.ref q.1:=by
  rw [wu]
  exact sS (by rw [bK,eq];rfl)
 refine ⟨kz k h.cm h.om,h.cm,kz k h.co h.oo,h.co,?_,h.cp,⟨vs,kz k h.ca h1,h2.keep k (by decide) (by decide)⟩,h.ca,kz k h.ck h.ok,h.ck,?_,fun j p q CG Qq=>?_⟩
 . show upd H q0.1 _ B.lp=some (.lst ((B.qs.set i (q0.1,t1)).map _))
   rw [em];exact kz k h.cp h.op
 . show (B.qs.set i (q0.1,t1)).length=(b.ah.set i p1).length
   rw [jN,jN];exact h.ql
 . have CG:(b.ah.set i p1)[j]?=some p:=CG
   have Qq:(B.qs.set i (q0.1,t1))[j]?=some q:=Qq
   by_cases hj:i=j
   . subst hj
     rw [kC hi2] at CG
     rw [kC hi] at Qq
     cases CG;cases Qq
     exact ⟨ak,kz k ct ht,by rw [e1];exact x3,ct⟩
   . rw [Ak hj] at CG Qq
     obtain ⟨a1,a2,a3,a4⟩:=h.pt j p q CG Qq
     have hnm:p.nm≠p0.nm:=fun e=>by
      have hj2:j<b.ah.length:=(d7.mp CG).1
      have r1:(b.ah.map (fun p:BP=>p.nm))[j]?=some p.nm:=by rw [bK,CG];rfl
      have r2:(b.ah.map (fun p:BP=>p.nm))[i]?=some p0.nm:=by rw [bK,ep];rfl
      have Qs:j<(b.ah.map (fun p:BP=>p.nm)).length:=by rw [aF];exact hj2
      exact hj ((K0 Qs nd).mp (r1.trans (by rw [e];exact r2.symm))).symm
     have hq:q.1≠q0.1:=fun e=>by rw [e,x3] at a3;exact hnm (iw (fun c:uh=>c.2.2) (iG a3)).symm
     exact ⟨by rw [av hq];exact a1,kz k a4 a2,a3,a4⟩
theorem aV.UY (h:aV n ρ B H b) (g:Gh ρ H) {lp:Addr} {qs:List (Addr×Addr)} {ps:List BP} (e:H lp=some (.lst (qs.map fun q=>V.ref q.1))) (c:ρ lp=some (n,22,⟨#[]⟩)) (hl:qs.length=ps.length)
  (hp:∀(i:Nat) (p:BP) (q:Addr×Addr),ps[i]?=some p->qs[i]?=some q->H q.1=some (fQ p q.2)/\H q.2=some (.lst (p.tops.map V.int))/\ρ q.1=some (n,23,p.nm)/\ρ q.2=some (n,24,p.nm)):
  aV n ρ { { B with lp:=lp } with qs:=qs } (upd H B.m (.dK (eZ { B with lp:=lp } b.bot))) { b with ah:=ps }:=by
 have k:=fH (o:= .dK (eZ { B with lp:=lp } b.bot)) g h.cm
 obtain ⟨vs,h1,h2⟩:=h.oa
 exact ⟨ak,h.cm,kz k h.co h.oo,h.co,kz k c e,c,⟨vs,kz k h.ca h1,h2.keep k (by decide) (by decide)⟩,h.ca,kz k h.ck h.ok,h.ck,hl,
  fun i p q e1 e2=>let ⟨a,b,c,d⟩:=hp i p q e1 e2;⟨kz k c a,kz k d b,c,d⟩⟩
theorem aV.UZ (h:aV n ρ B H b) (g:Gh ρ H) {p:BP} {q:Addr×Addr} (e1:H q.1=some (fQ p q.2)) (e2:H q.2=some (.lst (p.tops.map V.int))) (c1:ρ q.1=some (n,23,p.nm)) (c2:ρ q.2=some (n,24,p.nm)):
  aV n ρ { B with qs:=B.qs++[q] } (upd H B.lp (.lst ((B.qs++[q]).map fun q=>V.ref q.1))) { b with ah:=b.ah++[p] }:=by
 have k:=fH (o:= .lst ((B.qs++[q]).map fun q=>V.ref q.1)) g h.cp
 obtain ⟨vs,h1,h2⟩:=h.oa
 refine ⟨kz k h.cm h.om,h.cm,kz k h.co h.oo,h.co,ak,h.cp,⟨vs,kz k h.ca h1,h2.keep k (by decide) (by decide)⟩,h.ca,kz k h.ck h.ok,h.ck,?_,fun i x y ex ey=>?_⟩
 . show (B.qs++[q]).length=(b.ah++[p]).length
   rw [cY,cY,h.ql];rfl
 . have ex:(b.ah++[p])[i]?=some x:=ex
   have ey:(B.qs++[q])[i]?=some y:=ey
   by_cases c:i<b.ah.length
   . rw [KP c] at ex
     rw [KP (by rw [h.ql];exact c)] at ey
     obtain ⟨a1,a2,a3,a4⟩:=h.pt i x y ex ey
     exact ⟨kz k a3 a1,kz k a4 a2,a3,a4⟩
   . have hi:i=b.ah.length:=by
      have:=(d7.mp ex).1
      rw [cY] at this
      have:i<b.ah.length+1:=this
      omega
     subst hi
     rw [KO (aS _),BK] at ex
     rw [KO (by rw [h.ql];exact aS _),h.ql,BK] at ey
     cases ex;cases ey
     exact ⟨kz k c1 e1,kz k c2 e2,c1,c2⟩
theorem aV.Qt (h:aV n ρ B H b) (g:Gh ρ H) (l:List Str):aV n ρ B (upd H B.lk (.lst (l.map V.str))) { b with cS:=l }:=by
 have k:=fH (o:= .lst (l.map V.str)) g h.ck
 obtain ⟨vs,h1,h2⟩:=h.oa
 exact ⟨kz k h.cm h.om,h.cm,kz k h.co h.oo,h.co,kz k h.cp h.op,h.cp,⟨vs,kz k h.ca h1,h2.keep k (by decide) (by decide)⟩,h.ca,ak,h.ck,h.ql,
  fun i p q e1 e2=>let ⟨a,b,c,d⟩:=h.pt i p q e1 e2;⟨kz k c a,kz k d b,c,d⟩⟩
structure RV (K:Fg) (H:Hp) (us:List V) (ws:List Row):Prop where
 len:us.length=ws.length
 at_:∀(i:Nat) (r:Row),ws[i]?=some r->∃a xs,us[i]?=some (.ref a)/\Sq K H a xs/\xs[0]?=some (.str r.1)/\xs[2]?=some (.int r.2)
def lW (b:BS):List Row:=b.ah.map fun p=>(p.nm,p.wo)
theorem aV.nw (h:aV n ρ B H b):RV K H (B.qs.map fun q=>V.ref q.1) (lW b):=by
 refine ⟨by unfold lW;rw [aF,aF];exact h.ql,fun i r e=>?_⟩
 unfold lW at e
 rw [bK] at e
 obtain ⟨p,ep,rfl⟩:=lS.mp e
 obtain ⟨q,eq,a1,_⟩:=h.find ep
 exact ⟨q.1,_,by rw [bK,eq];rfl, .inl (aC.of a1),Z,Z⟩
def bw (b:BS):Int:=(b.ah.map fun p=>p.wo).sum
theorem I_:∀{l:List Str} {o:Str},o∈l->l[l.idxOf o]?=some o
 | [],_,h=>by simp at h
 | x::l,o,h=>by
   by_cases e:x=o
   . subst e;simp
   . have ho:o∈l:=by
      rcases dg.mp h with z|z
      . exact absurd z.symm e
      . exact z
     rw [List.idxOf_cons,show (x==o)=false from Gs.mpr e]
     simpa using I_ ho
inductive acD (K:Fg) (vs:List V) (H:Hp) (Q:VK) (E:XK):Prop
 | mk (l:Addr) (own:List Str) (n:Nat) (ρ:fK) (_:vs=[.ref l]) (_:aC K H l (own.map V.str)) (_:Gh ρ H) (_:own.length<=1000) (_:∀ρ' B H',Gh ρ' H'->aV n ρ' B H' ⟨own,[],1,[],[]⟩->(∀b o,H b=some o->H' b=some o/\ρ' b=ρ b)->Q (.ref B.m) H')
def Qu (K:Fg):Sp:=bx (acD K)
inductive aeR (K:Fg) (vs:List V) (H:Hp) (Q:VK) (E:XK):Prop
 | mk (l:Addr) (own:List Str) (o:Str) (_:vs=[.ref l, .str o]) (_:aC K H l (own.map V.str)) (_:o∈own) (_:own.length<=1000) (_:Q (.int (own.idxOf o:Int)) H)
def U0 (K:Fg):Sp:=bx (aeR K)
def zf (b:BS) (x o:Str) (wo we:Int):BS:={ b with ah:=b.ah++[⟨x,o,wo,we,(List.replicate b.own.length 0).set (b.own.idxOf o) b.bot⟩],cS:=b.cS++[x] }
inductive Xr (vs:List V) (H:Hp) (Q:VK) (E:XK):Prop
 | mk (n ρ B b:_) (x o:Str) (wo we:Int) (_:vs=[.ref B.m, .str x, .str o, .int wo, .int we]) (_:Gh ρ H) (_:aV n ρ B H b) (_:o∈b.own) (_:b.own.length<=1000) (_:b.ah.length<=1000) (_:b.cS.length<=1000) (_:∀ρ' B' H',Gh ρ' H'->aV n ρ' B' H' (zf b x o wo we:_)->B'.m=B.m->Fr n ρ H ρ' H'->Q .cg H')
def Jb:Sp:=bx (Xr)
inductive ah2 (K:Fg) (vs:List V) (H:Hp) (Q:VK) (E:XK):Prop
 | mk (l:Addr) (us:List V) (ws:List Row) (i:Nat) (r:Row) (_:vs=[.ref l, .str r.1]) (_:aC K H l us) (_:RV K H us ws) (_:(ws.map (fun r:Row=>r.1)).Nodup) (_:ws.length<=1000) (_:ws[i]?=some r) (_:Q (.int (i:Int)) H)
def YJ (K:Fg):Sp:=bx (ah2 K)
structure U1 (ws rs:List Row):Prop where
 nd:(rs.map (fun r:Row=>r.1)).Nodup
 row:∀r∈rs,1<=r.2/\r.2<=1000000000/\∃w∈ws,w.1=r.1/\r.2<=w.2
 lost:bu rs<bu ws\/rs=[]
 len:rs.length<=ws.length
inductive acE (K:Fg) (vs:List V) (H:Hp) (Q:VK) (E:XK):Prop
 | mk (a l:Addr) (ns:List Int) (k:Int) (us:List V) (ws:List Row) (_:vs=[.ref a, .int k, .ref l]) (_:aC K H a (ns.map V.int)) (_:ns.length<=63) (_:0<=k) (_:k<=1000000) (_:aC K H l us) (_:RV K H us ws) (_:(ws.map (fun r:Row=>r.1)).Nodup) (_:ws.length<=1000) (_:(∀w∈ws,1<=w.2)) (_:∀z zs rs H',aI H H'->H z=none->H' z=some (.lst zs)->gq H' zs rs->U1 ws rs->Q (.ref z) H')
def Qv (K:Fg):Sp:=bx (acE K)
section
variable {X:Cx}
def vh (i j k:Int):Int:=if j<i then (if k<j then k else j) else (if k<i then k else i)
theorem Z7 (i j k:Int):vh i j k<=i/\vh i j k<=j/\vh i j k<=k:=by unfold vh;split <;> split <;> omega
theorem Z8 {i j k m:Int} (h1:m<=i) (h2:m<=j) (h3:m<=k):m<=vh i j k:=by unfold vh;split <;> split <;> omega
theorem U3 (hc:X.calm=true):gI X (.builtin "min") (fun xs H Q=>∃i j k,xs=[.int i, .int j, .int k]/\Q (.int (vh i j k)) H):=by
 intro pins s σ H xs us Q I r h
 obtain ⟨i,j,k,rfl,q⟩:=h
 obtain ⟨u,us,rfl,⟨t,rfl⟩,r2⟩:∃u us',us=u::us'/\RelV (.int i) u/\Vals [.int j, .int k] us':=by cases r with|cons a b=>exact ⟨_,_,rfl,a,b⟩
 obtain ⟨u2,u3,rfl,⟨t',rfl⟩,⟨t'',rfl⟩⟩:=vals2 r2
 refine min_three_ints (I.ok.hd hc) fun h' tk kk=>⟨_,H,I.kept kk,?_,q⟩
 unfold vh
 by_cases hj:j<i
 . rw [aB hj,aB hj]
   by_cases hk:k<j
   . rw [aB hk,aB hk];exact ⟨_,Z⟩
   . rw [az hk,az hk];exact ⟨_,Z⟩
 . rw [az hj,az hj]
   by_cases hk:k<i
   . rw [aB hk,aB hk];exact ⟨_,Z⟩
   . rw [az hk,az hk];exact ⟨_,Z⟩
end
def ng (given:List Int) (kept:Int) (p:BP) (a:Int):BP:={ p with tops:=List.zipWith (fun t g=>t*kept+g) p.tops given,wo:=p.wo-a }
def iK (ps:List BP) (as:List Int) (i:Nat):Int:=(List.zipWith (fun (p:BP) (a:Int)=>p.tops.getD i 0*a) ps as).sum
def gr (b:BS) (as:List Int):List Int:=(List.range b.own.length).map (iK b.ah as)
def ia (b:BS) (as:List Int) (seat:Nat) (aw:Int):List Int:=if 0<aw then (gr b as).set seat ((gr b as).getD seat 0+aw*b.bot) else gr b as
def dw (b:BS) (as:List Int) (seat:Nat) (aw:Int):List BP:=List.zipWith (ng (ia b as seat aw) (bw b-aw-as.sum)) b.ah as
def i8 (b:BS) (as:List Int) (seat:Nat) (aw:Int):BS:={ b with bot:=b.bot*bw b,ah:=(dw b as seat aw).filter fun p=>decide (0<p.wo) }
structure vj (b:BS):Prop where
 nd:(b.ah.map (fun p:BP=>p.nm)).Nodup
 tl:∀p∈b.ah,p.tops.length=b.own.length
 t0:∀p∈b.ah,∀t∈p.tops,0<=t/\t<=b.bot
 b1:1<=b.bot
 bz:Jm.Sz 7000 b.bot
 w1:∀p∈b.ah,1<=p.wo
 ol:b.own.length<=100
 pl:b.ah.length<=1000
 kl:b.cS.length<=1000
structure lX (b:BS) (as:List Int) (seat:Nat) (aw:Int):Prop where
 len:as.length=b.ah.length
 a0:∀a∈as,0<=a
 seat:seat<b.own.length
 CH:0<=aw
 kept:0<bw b-aw-as.sum
 big:Jm.Sz 60 (bw b)
inductive aeS (K:Fg) (vs:List V) (H:Hp) (Q:VK) (E:XK):Prop
 | mk (n ρ B b:_) (l:Addr) (as:List Int) (seat:Nat) (aw:Int) (_:vs=[.ref B.m, .ref l, .int (seat:Int), .int aw]) (_:Gh ρ H) (_:aV n ρ B H b) (_:vj b) (_:aC K H l (as.map V.int)) (_:ρ l=none) (_:lX b as seat aw) (_:∀ρ' B' H',Gh ρ' H'->aV n ρ' B' H' (i8 b as seat aw:_)->B'.m=B.m->Fr n ρ H ρ' H'->Q .cg H')
def U4 (K:Fg):Sp:=bx (aeS K)
variable {as:List Int} {seat:Nat} {aw:Int}
theorem wJ (h:as.length=b.ah.length):(dw b as seat aw).length=b.ah.length:=by
 unfold dw;rw [qM,h];omega
theorem LW {p:BP} {a:Int} (h1:b.ah[i]?=some p) (h2:as[i]?=some a):(dw b as seat aw)[i]?=some (ng (ia b as seat aw) (bw b-aw-as.sum) p a):=Qp h1 h2
theorem wK (h:∀a∈as,0<=a):∀{x:Int},x∈as->x<=as.sum:=by
 induction as with
 | nil=>intro x hx;simp at hx
 | cons a l ih=>
   intro x hx
   have h0:=h a cO
   have hl:0<=l.sum:=by
    clear ih hx
    have:∀(l:List Int),(∀a∈l,0<=a)->0<=l.sum:=fun l=>by
     induction l with
     | nil=>intro _;exact mJ _
     | cons a l ih=>intro h;rw [cX];have:=h a cO;have:=ih fun x hx=>h x (cL _ hx);omega
    exact this l fun x hx=>h x (cL _ hx)
   rw [cX]
   rcases dg.mp hx with e|e
   . omega
   . have:=ih (fun y hy=>h y (cL _ hy)) e
     omega
theorem mQ (b:BS) (as:List Int):(gr b as).length=b.own.length:=by unfold gr;rw [aF,CZ]
theorem zg (b:BS) (as:List Int) (seat:Nat) (aw:Int):(ia b as seat aw).length=b.own.length:=by
 unfold ia;split
 . rw [jN,mQ]
 . exact mQ b as
theorem LX {ps:List BP} {p:BP} {a:Int} (h1:ps[j]?=some p) (h2:as[j]?=some a):(List.zipWith (fun (p:BP) (a:Int)=>p.tops.getD i 0*a) (ps.take (j+1)) (as.take (j+1)))=List.zipWith (fun (p:BP) (a:Int)=>p.tops.getD i 0*a) (ps.take j) (as.take j)++[p.tops.getD i 0*a] :=oZ _ h1 h2
theorem Z9 {α:Type} {xs ys:List α} {p:α} (hx:i<=xs.length) (h:ys[i]?=some p):(xs.take i++ys.drop i)[i]?=some p:=by
 have hl:(xs.take i).length=i:=by rw [lu];omega
 rw [KO (by omega),hl,BK,List.getElem?_drop]
 exact h
theorem Z_ {α:Type} {xs ys:List α} {x:α} (hx:xs[i]?=some x) (hy:i<ys.length):(xs.take i++ys.drop i).set i x=xs.take (i+1)++ys.drop (i+1):=by
 have hi:=(d7.mp hx).1
 have hl:(xs.take i).length=i:=by rw [lu];omega
 rw [List.set_append_right _ _ (by omega),hl,BK,QZ hy,KW,take_snoc hx,KY]
 rfl
theorem U5 {b:BS} {as:List Int} (h:as.length=b.ah.length) (i:Nat):((dw b as seat aw).take i++b.ah.drop i).map (fun p:BP=>p.nm)=b.ah.map (fun p:BP=>p.nm):=by
 have e:(dw b as seat aw).map (fun p:BP=>p.nm)=b.ah.map (fun p:BP=>p.nm):=by
  unfold dw
  generalize ia b as seat aw=g
  generalize bw b-aw-as.sum=k
  generalize b.ah=ps at *
  clear b
  induction ps generalizing as with
  | nil=>rfl
  | cons p ps ih=>
    cases as with
    | nil=>simp at h
    | cons a as=>
      rw [xh,bF,bF,ih (by simpa using h)]
      rfl
 rw [bD,BH,e,<-BH,<-bD,List.take_append_drop]
theorem U6 (B:BA) (x y:Int):putK (eZ B x) (Sum.inr "bottom") (.int y)=eZ B y:=rfl
theorem LY (B:BA) (x:Int) (l:Addr):putK (eZ B x) (Sum.inr "parts") (.ref l)=eZ { B with lp:=l } x:=rfl
def jA:List BP->List (Addr×Addr)->List (Addr×Addr)
 | p::ps,q::qs=>if 0<p.wo then q::jA ps qs else jA ps qs
 | _,_=>[]
theorem AU:∀{ps:List BP} {qs:List (Addr×Addr)},qs.length=ps.length->(jA ps qs).length=(ps.filter fun p=>decide (0<p.wo)).length
 | [],[],_=>rfl
 | [],_::_,h=>by simp at h
 | _::_,[],h=>by simp at h
 | p::ps,q::qs,h=>by
   have ih:=AU (ps:=ps) (qs:=qs) (by simpa using h)
   unfold jA
   by_cases c:0<p.wo
   . rw [aB c,iF,aB (bM c),m7,m7,ih]
   . rw [az c,iF,az (by simpa using c),ih]
theorem zh:∀{ps:List BP} {qs:List (Addr×Addr)} {i:Nat} {p:BP} {q:Addr×Addr},(ps.filter fun p=>decide (0<p.wo))[i]?=some p->(jA ps qs)[i]?=some q->qs.length=ps.length->∃j:Nat,ps[j]?=some p/\qs[j]?=some q
 | [],_,_,_,_,h,_,_=>by simp at h
 | _::_,[],_,_,_,_,_,h=>by simp at h
 | x::ps,y::qs,i,p,q,h1,h2,hl=>by
   unfold jA at h2
   by_cases c:0<x.wo
   . rw [aB c] at h2
     rw [iF,aB (bM c)] at h1
     cases i with
     | zero=>simp at h1 h2;exact ⟨0,by simpa using h1,by simpa using h2⟩
     | succ i=>
       obtain ⟨j,a,b⟩:=zh (ps:=ps) (qs:=qs) (i:=i) (by simpa using h1) (by simpa using h2) (by simpa using hl)
       exact ⟨j+1,by simpa using a,by simpa using b⟩
   . rw [az c] at h2
     rw [iF,az (by simpa using c)] at h1
     obtain ⟨j,a,b⟩:=zh (ps:=ps) (qs:=qs) (i:=i) h1 h2 (by simpa using hl)
     exact ⟨j+1,by simpa using a,by simpa using b⟩
theorem zj:∀{ps:List BP} {qs:List (Addr×Addr)} {j:Nat} {p:BP} {q:Addr×Addr},ps[j]?=some p->qs[j]?=some q->jA (ps.take (j+1)) (qs.take (j+1))=jA (ps.take j) (qs.take j)++(if 0<p.wo then [q] else [])
 | [],_,_,_,_,h,_=>by simp at h
 | _::_,[],_,_,_,_,h=>by simp at h
 | x::ps,y::qs,0,p,q,h1,h2=>by
   have e1:x=p:=by simpa using h1
   have e2:y=q:=by simpa using h2
   subst e1 e2
   show jA (x::ps.take 0) (y::qs.take 0)=[]++_
   unfold jA
   split <;> rfl
 | x::ps,y::qs,j+1,p,q,h1,h2=>by
   have ih:=zj (ps:=ps) (qs:=qs) (j:=j) (by simpa using h1) (by simpa using h2)
   show jA (x::ps.take (j+1)) (y::qs.take (j+1))=jA (x::ps.take j) (y::qs.take j)++_
   unfold jA
   rw [ih]
   split <;> rfl
def dG (rs:List Row) (x:Str):Int:=((rs.find? fun r=>decide (r.1=x)).map (fun r:Row=>r.2)).getD 0
theorem Jc (x:Str):dG [] x=0:=rfl
theorem mR (r:Row) (rs:List Row) (x:Str):dG (r::rs) x=if r.1=x then r.2 else dG rs x:=by
 unfold dG
 rw [pH]
 by_cases c:r.1=x
 . rw [bM c,aB c];rfl
 . rw [dO c,az c]
theorem uA:∀{rs:List Row} {x:Str},x∉rs.map (fun r:Row=>r.1)->dG rs x=0
 | [],_,_=>rfl
 | r::rs,x,h=>by
   rw [mR,az (fun e=>h (by rw [bF,e];exact cO))]
   exact uA fun m=>h (by rw [bF];exact cL _ m)
theorem mS:∀{rs:List Row} {r:Row} {x:Str},r.1∉rs.map (fun r:Row=>r.1)->dG (rs++[r]) x=if r.1=x then r.2 else dG rs x
 | [],r,x,_=>by rw [Kr,mR]
 | y::rs,r,x,h=>by
   rw [bF] at h
   have h1:r.1≠y.1:=fun e=>h (by rw [e];exact cO)
   rw [Kq,mR,mS (fun m=>h (cL _ m)),mR]
   by_cases c:y.1=x
   . rw [aB c,aB c,az (fun e=>h1 (e.trans c.symm))]
   . rw [az c,az c]
theorem Xs (h:∀r∈rs,1<=r.2) (x:Str):0<=dG rs x:=by
 induction rs with
 | nil=>exact mJ _
 | cons r rs ih=>
   rw [mR]
   split
   . have:=h r cO;omega
   . exact ih fun y hy=>h y (cL _ hy)
def dh (b:BS) (rs:List Row):List Int:=b.ah.map fun p=>dG rs p.nm
theorem AV (b:BS) (rs:List Row):(dh b rs).length=b.ah.length:=by unfold dh;rw [aF]
theorem E1 (nd:(b.ah.map (fun p:BP=>p.nm)).Nodup) {p:BP} (hp:b.ah[j]?=some p) (e:p.nm=r.1) (h:r.1∉rs.map (fun r:Row=>r.1)):dh b (rs++[r])=(dh b rs).set j r.2/\(dh b rs)[j]?=some 0:=by
 have hj:=(d7.mp hp).1
 constructor
 . refine List.ext_getElem? fun k=>?_
   by_cases c:j=k
   . subst c
     rw [kC (by rw [AV];exact hj)]
     unfold dh
     rw [bK,hp]
     show some (dG (rs++[r]) p.nm)=_
     rw [mS h,aB e.symm]
   . rw [Ak c]
     unfold dh
     rw [bK,bK]
     cases ek:b.ah[k]? with
     | none=>rfl
     | some x=>
       show some (dG (rs++[r]) x.nm)=some (dG rs x.nm)
       rw [mS h,az]
       intro z
       have r1:(b.ah.map (fun p:BP=>p.nm))[k]?=some x.nm:=by rw [bK,ek];rfl
       have r2:(b.ah.map (fun p:BP=>p.nm))[j]?=some p.nm:=by rw [bK,hp];rfl
       exact c ((K0 (by rw [aF];exact hj) nd).mp (r2.trans (by rw [e,z];exact r1.symm)))
 . unfold dh
   rw [bK,hp]
   show some (dG rs p.nm)=_
   rw [e,uA h]
theorem LZ:∀{l:List Int} {j:Nat} {x:Int},l[j]?=some 0->(l.set j x).sum=l.sum+x
 | [],_,_,h=>by simp at h
 | a::l,0,x,h=>by
   have:a=0:=by simpa using h
   rw [KW,cX,cX];omega
 | a::l,j+1,x,h=>by
   rw [KU,cX,cX,LZ (by simpa using h)];omega
structure wL (b:BS) (rs:List Row):Prop where
 nd:(rs.map (fun r:Row=>r.1)).Nodup
 row:∀r∈rs,1<=r.2/\∃(j:Nat) (p:BP),b.ah[j]?=some p/\p.nm=r.1/\r.2<=p.wo
theorem Jd (nd:(b.ah.map (fun p:BP=>p.nm)).Nodup) (h:wL b rs):∀i≤rs.length,(dh b (rs.take i)).sum=bu (rs.take i):=by
 intro i
 induction i with
 | zero=>
   intro _
   rw [List.take_zero]
   unfold dh
   show (b.ah.map fun p=>(0:Int)).sum=0
   clear nd h
   generalize b.ah=ps
   induction ps with
   | nil=>rfl
   | cons p ps ih=>rw [bF,cX,ih];rfl
 | succ i ih=>
   intro hi
   have ei:=a_ (show i<rs.length by omega)
   rw [take_snoc ei]
   obtain ⟨_,j,p,hp,e,_⟩:=h.row _ (bJ ei)
   have hn:(rs[i]).1∉(rs.take i).map (fun r:Row=>r.1):=by
    rw [BH]
    exact j_ h.nd (by rw [bK,ei];rfl)
   obtain ⟨s1,s2⟩:=E1 nd hp e hn
   rw [s1,LZ s2,ih (by omega)]
   unfold bu
   rw [bD,List.sum_append]
   simp
abbrev Q4:=Str×Str×Int×Int
def i9 (st:HS):List Q4:=st.ah.map fun p=>(p.nm,p.ow,p.wo,p.we)
def nP (b:BS):List Q4:=b.ah.map fun p=>(p.nm,p.ow,p.wo,p.we)
def rY (qs:List Q4) (r:Row):List Q4:=(qs.map fun q=>if q.1=r.1 then (q.1,q.2.1,q.2.2.1-r.2,q.2.2.2) else q).filter fun q=>decide (q.2.2.1≠0)
def nG (rs:List Row) (qs:List Q4):List Q4:=(qs.map fun q=>(q.1,q.2.1,q.2.2.1-dG rs q.1,q.2.2.2)).filter fun q=>decide (0<q.2.2.1)
theorem U7 (st:HS) (r:Row):i9 (gi st r)=rY (i9 st) r:=by
 unfold i9 gi nO rY
 generalize st.ah=ps
 show List.map _ (List.filter _ (List.map _ ps))=_
 induction ps with
 | nil=>rfl
 | cons p ps ih=>
   rw [bF,bF,bF]
   by_cases c:p.nm=r.1
   . rw [aB c,aB (show (p.nm,p.ow,p.wo,p.we).1=r.1 from c),iF,iF]
     by_cases d:p.wo-r.2=0
     . rw [az (by simpa using d),az (by simpa using d),ih]
     . rw [aB (by simpa using d),aB (by simpa using d),bF,ih]
   . rw [az c,az (show ¬ (p.nm,p.ow,p.wo,p.we).1=r.1 from c),iF,iF]
     by_cases d:p.wo=0
     . rw [az (by simpa using d),az (by simpa using d),ih]
     . rw [aB (by simpa using d),aB (by simpa using d),bF,ih]
theorem RW (st:HS) (kept whole:Int) (added:List Int):i9 (cV st kept whole added)=i9 st:=by
 unfold i9 cV
 rw [AR,fJ]
 rfl
theorem E2:∀(rs:List Row) (st:HS),i9 (rs.foldl gi st)=rs.foldl rY (i9 st)
 | [],_=>rfl
 | r::rs,st=>by rw [mG,mG,E2 rs,U7]
theorem E3:∀(qs:List Q4) (r:Row) (rs:List Row),r.1∉rs.map (fun r:Row=>r.1)->(∀q∈qs,1<=q.2.2.1)->(∀q∈qs,q.1=r.1->r.2<=q.2.2.1)->nG rs (rY qs r)=nG (r::rs) qs
 | [],_,_,_,_,_=>rfl
 | q::qs,r,rs,hn,h1,h2=>by
   have ih:=E3 qs r rs hn (fun x hx=>h1 x (cL _ hx)) (fun x hx=>h2 x (cL _ hx))
   have w1:=h1 q cO
   have e1:rY (q::qs) r=(if q.1=r.1 then (if q.2.2.1-r.2=0 then [] else [(q.1,q.2.1,q.2.2.1-r.2,q.2.2.2)]) else [q])++rY qs r:=by
    unfold rY
    rw [bF,iF]
    by_cases c:q.1=r.1
    . rw [aB c,aB c]
      by_cases d:q.2.2.1-r.2=0
      . rw [aB d,az (by simpa using d)];rfl
      . rw [az d,aB (by simpa using d)];rfl
    . rw [az c,az c,aB (bM (show q.2.2.1≠0 by omega))];rfl
   have e2:∀(us:List Row) (x:Q4) (l:List Q4),nG us (x::l)=(if 0<x.2.2.1-dG us x.1 then [(x.1,x.2.1,x.2.2.1-dG us x.1,x.2.2.2)] else [])++nG us l:=fun us x l=>by
    unfold nG
    rw [bF,iF]
    by_cases c:0<x.2.2.1-dG us x.1
    . rw [aB c,aB (bM c)];rfl
    . rw [az c,az (by simpa using c)];rfl
   rw [e1,e2 (r::rs),mR]
   by_cases c:q.1=r.1
   . have am:dG rs q.1=0:=by rw [c];exact uA hn
     have le:=h2 q cO c
     rw [aB c,aB c.symm]
     by_cases d:q.2.2.1-r.2=0
     . rw [aB d,az (by omega),<-ih];rfl
     . rw [az d,aB (by omega),<-ih,Kq,Kr,e2 rs]
       show (if 0<q.2.2.1-r.2-dG rs q.1 then [(q.1,q.2.1,q.2.2.1-r.2-dG rs q.1,q.2.2.2)] else [])++_=_
       rw [am,Int.sub_zero,aB (by omega)]
   . rw [az c,show (if r.1=q.1 then r.2 else dG rs q.1)=dG rs q.1 from az (fun z=>c z.symm),<-ih,Kq,Kr,e2 rs]
theorem Je {qs:List Q4} {x:Q4} (h:x∈rY qs r):x.2.2.1≠0/\∃q∈qs,x=if q.1=r.1 then (q.1,q.2.1,q.2.2.1-r.2,q.2.2.2) else q:=by
 obtain ⟨h1,h2⟩:=mF.mp h
 obtain ⟨q,hq,e⟩:=bN.mp h1
 exact ⟨dU h2,q,hq,e.symm⟩
theorem Jf:∀(rs:List Row) (qs:List Q4),(rs.map (fun r:Row=>r.1)).Nodup->(∀q∈qs,1<=q.2.2.1)->(∀r∈rs,∀q∈qs,q.1=r.1->r.2<=q.2.2.1)->rs.foldl rY qs=nG rs qs
 | [],qs,_,h1,_=>by
   show qs=nG [] qs
   unfold nG
   induction qs with
   | nil=>rfl
   | cons q qs ih=>
     have:=h1 q cO
     rw [bF,iF,aB (bM (show 0<q.2.2.1-dG [] q.1 by rw [Jc];omega)),<-ih (fun x hx=>h1 x (cL _ hx)) (fun r hr=>absurd hr (by simp)),Jc,Int.sub_zero]
 | r::rs,qs,nd,h1,h2=>by
   obtain ⟨n1,n2⟩:=gX.mp (show (r.1::rs.map (fun r:Row=>r.1)).Nodup from nd)
   rw [mG,Jf rs (rY qs r) n2 ?_ ?_]
   . exact E3 qs r rs n1 h1 (h2 r cO)
   . intro x hx
     obtain ⟨a,q,hq,e⟩:=Je hx
     have:=h1 q hq
     by_cases c:q.1=r.1
     . rw [aB c] at e
       have:=h2 r cO q hq c
       rw [e] at a ⊢
       have a:q.2.2.1-r.2≠0:=a
       show 1<=q.2.2.1-r.2
       omega
     . rw [az c] at e;rw [e];exact this
   . intro y hy x hx ex
     obtain ⟨_,q,hq,e⟩:=Je hx
     by_cases c:q.1=r.1
     . rw [aB c] at e
       rw [e] at ex
       exact absurd (bN.mpr ⟨y,hy,ex.symm.trans c⟩) n1
     . rw [az c] at e
       rw [e] at ex ⊢
       exact h2 y (cL _ hy) q hq ex
theorem U8 (b:BS) (rs:List Row) (seat:Nat) (aw:Int):nP (i8 b (dh b rs) seat aw)=nG rs (nP b):=by
 unfold nP i8 dw nG
 show List.map _ (List.filter _ (List.zipWith (ng (ia b (dh b rs) seat aw) (bw b-aw-(dh b rs).sum)) b.ah (dh b rs)))=_
 generalize ia b (dh b rs) seat aw=g
 generalize bw b-aw-(dh b rs).sum=k
 unfold dh
 generalize b.ah=ps
 induction ps with
 | nil=>rfl
 | cons p ps ih=>
   rw [bF,xh,bF,bF,iF,iF]
   by_cases c:0<p.wo-dG rs p.nm
   . rw [aB (bM (show 0<(ng g k p (dG rs p.nm)).wo from c)),aB (bM (show 0<p.wo-dG rs p.nm from c)),bF,ih]
     rfl
   . rw [az (by simpa using (show ¬ 0<(ng g k p (dG rs p.nm)).wo from c)),az (by simpa using c),ih]
structure iU (st:HS) (b:BS):Prop where
 own:st.own=b.own
 qd:i9 st=nP b
theorem Xu (st:HS) (rs:List Row):(kI st rs).own=st.own:=by
 unfold kI
 have:∀(rs:List Row) (s:HS),(rs.foldl gi s).own=s.own:=fun rs=>by
  induction rs with
  | nil=>intro s;rfl
  | cons r rs ih=>intro s;rw [mG,ih];rfl
 rw [this]
 unfold cV
 rw [US]
theorem U9 (r:iU st b) (wf:Wf st) (c:pW st rs):iU (kI st rs) (i8 b (dh b rs) 0 0):=by
 refine ⟨by rw [Xu,r.own];rfl,?_⟩
 rw [U8,<-r.qd]
 unfold kI
 rw [E2,RW]
 refine Jf rs (i9 st) c.nd (fun q hq=>?_) (fun x hx q hq e=>?_)
 . obtain ⟨p,hp,rfl⟩:=bN.mp hq
   exact (wf.vc p hp).1
 . obtain ⟨p,hp,rfl⟩:=bN.mp hq
   obtain ⟨_,_,p',lY,e',le⟩:=c.row x hx
   have:p=p':=uH wf hp lY (e.trans e'.symm)
   rw [this]
   exact le
theorem U_ (r:iU st b) (x o:Str) (wo we:Int):iU (yV st x o wo we) (zf b x o wo we):=by
 refine ⟨r.own,?_⟩
 unfold i9 nP yV yU zf
 show List.map _ (st.ah++[_])=List.map _ (b.ah++[_])
 rw [bD,bD,show st.ah.map (fun p=>(p.nm,p.ow,p.wo,p.we))=b.ah.map (fun p=>(p.nm,p.ow,p.wo,p.we)) from r.qd]
 rfl
theorem iU.whole (r:iU st b):bH st=bw b:=by
 unfold bH bw
 have:=iw (List.map fun q:Q4=>q.2.2.1) r.qd
 unfold i9 nP at this
 rw [fJ,fJ] at this
 exact iw List.sum this
theorem iU.len (r:iU st b):st.ah.length=b.ah.length:=by
 have:=iw List.length r.qd
 unfold i9 nP at this
 rw [aF,aF] at this
 exact this
theorem iU.at (r:iU st b) {q:BP} (h:b.ah[i]?=some q):∃p,st.ah[i]?=some p/\p.nm=q.nm/\p.ow=q.ow/\p.wo=q.wo/\p.we=q.we:=by
 have e:=iw (fun l:List Q4=>l[i]?) r.qd
 unfold i9 nP at e
 have e:(st.ah.map fun p=>(p.nm,p.ow,p.wo,p.we))[i]?=(b.ah.map fun p=>(p.nm,p.ow,p.wo,p.we))[i]?:=e
 rw [bK,bK,h] at e
 obtain ⟨p,ep,e2⟩:=lS.mp e
 have e2:(p.nm,p.ow,p.wo,p.we)=(q.nm,q.ow,q.wo,q.we):=e2
 simp only [Prod.mk.injEq] at e2
 exact ⟨p,ep,e2⟩
theorem iU.at' (r:iU st b) (h:st.ah[i]?=some p):∃q,b.ah[i]?=some q/\p.nm=q.nm/\p.ow=q.ow/\p.wo=q.wo/\p.we=q.we:=by
 have hi:i<b.ah.length:=by rw [<-r.len];exact (d7.mp h).1
 have eq:=a_ hi
 obtain ⟨p',e',z⟩:=r.at eq
 rw [h] at e'
 cases e'
 exact ⟨_,eq,z⟩
theorem iU.rows (r:iU st b) (h:aV n ρ B H b):AK K H (B.qs.map fun q=>V.ref q.1) st.ah:=by
 refine ⟨by rw [aF,h.ql,r.len],fun i p e=>?_⟩
 obtain ⟨q,eq,e1,e2,e3,e4⟩:=r.at' e
 obtain ⟨a,ea,k1,_⟩:=h.find eq
 refine ⟨a.1,_,by rw [bK,ea];rfl, .inl (aC.of k1),?_,?_,?_,?_⟩
 . rw [e1];rfl
 . rw [e2];rfl
 . rw [e3];rfl
 . rw [e4];rfl
theorem Jg {B:Int} (hB:0<=B):∀{ps:List BP} {as:List Int},(∀p∈ps,∀t∈p.tops,0<=t/\t<=B)->(∀a∈as,0<=a)->∀i,0<=iK ps as i/\iK ps as i<=B*as.sum
 | [],as,_,ha,i=>by
   have:0<=as.sum:=by
    cases as with
    | nil=>exact mJ _
    | cons a l=>exact Int.le_trans (ha a cO) (wK ha cO)
   exact ⟨by show (0:Int)<=0;omega,nL hB this⟩
 | _::_,[],_,_,i=>by
   show 0<=(0:Int)/\(0:Int)<=B*0
   omega
 | p::ps,a::as,h,ha,i=>by
   have ih:=Jg hB (ps:=ps) (as:=as) (fun x hx=>h x (cL _ hx)) (fun x hx=>ha x (cL _ hx)) i
   have a0:=ha a cO
   have ht:0<=p.tops.getD i 0/\p.tops.getD i 0<=B:=by
    rw [jf]
    cases e:p.tops[i]? with
    | none=>exact ⟨mJ _,hB⟩
    | some t=>exact h p cO t (bJ e)
   have e:iK (p::ps) (a::as) i=p.tops.getD i 0*a+iK ps as i:=by unfold iK;rw [xh,cX]
   have k1:0<=p.tops.getD i 0*a:=nL ht.1 a0
   have k2:p.tops.getD i 0*a<=B*a:=Te ht.2 a0
   rw [e,cX,pI]
   omega
theorem Va (wf:vj b) (ok:lX b as seat aw):∀g∈ia b as seat aw,0<=g/\g<=b.bot*(as.sum+aw):=by
 have b1:=wf.b1
 have cb:=Jg (B:=b.bot) (by omega) wf.t0 ok.a0
 have CH:=ok.CH
 have m0:0<=b.bot*aw:=nL (by omega) CH
 have hg:∀g∈gr b as,0<=g/\g<=b.bot*as.sum:=fun g h=>by
  obtain ⟨i,_,rfl⟩:=bN.mp h
  exact cb i
 intro g h
 rw [pI]
 unfold ia at h
 split at h
 . rcases List.mem_or_eq_of_mem_set h with z|z
   . have:=hg g z;omega
   . have hs:seat<(gr b as).length:=by rw [mQ];exact ok.seat
     have e:(gr b as).getD seat 0=(gr b as)[seat] :=by rw [jf,a_ hs];rfl
     have:=hg _ (uw hs)
     rw [z,e,rQ aw]
     omega
 . have:=hg g h;omega
theorem Xv (wf:vj b) (ok:lX b as seat aw) (hz:Jm.Sz 7000 (b.bot*bw b)):vj (i8 b as seat aw):=by
 have b1:=wf.b1
 have gb:=Va wf ok
 have kp:=ok.kept
 have as0:0<=as.sum:=by
  cases has:as with
  | nil=>exact mJ _
  | cons a l=>exact Int.le_trans (ok.a0 a (by rw [has];exact cO)) (by rw [<-has];exact wK ok.a0 (by rw [has];exact cO))
 have CH:=ok.CH
 have Dp:∀p∈(dw b as seat aw).filter (fun p=>decide (0<p.wo)),0<p.wo/\∃p0∈b.ah,∃a,p=ng (ia b as seat aw) (bw b-aw-as.sum) p0 a:=fun p hp=>by
  obtain ⟨h1,h2⟩:=mF.mp hp
  obtain ⟨i,x,a,ex,_,e⟩:=jz (show p∈List.zipWith (ng (ia b as seat aw) (bw b-aw-as.sum)) b.ah as from h1)
  exact ⟨dU h2,x,bJ ex,a,e⟩
 have nmE:(dw b as seat aw).map (fun p:BP=>p.nm)=b.ah.map (fun p:BP=>p.nm):=by
  have:=U5 (seat:=seat) (aw:=aw) ok.len b.ah.length
  rw [D7,rO,show (dw b as seat aw).take b.ah.length=dw b as seat aw from by rw [<-wJ ok.len];exact cA] at this
  exact this
 refine ⟨?_,fun p hp=>?_,fun p hp t ht=>?_,?_,hz,fun p hp=>?_,wf.ol,?_,wf.kl⟩
 . have:(((dw b as seat aw).filter fun p=>decide (0<p.wo)).map (fun p:BP=>p.nm)).Sublist ((dw b as seat aw).map (fun p:BP=>p.nm)):=List.filter_sublist.map _
   rw [nmE] at this
   exact wf.nd.sublist this
 . obtain ⟨_,p0,h0,a,rfl⟩:=Dp p hp
   show (List.zipWith _ p0.tops (ia b as seat aw)).length=b.own.length
   rw [qM,wf.tl p0 h0,zg]
   omega
 . obtain ⟨_,p0,h0,a,rfl⟩:=Dp p hp
   obtain ⟨i,x,g,ex,eg,rfl⟩:=jz (show t∈List.zipWith (fun t g=>t*(bw b-aw-as.sum)+g) p0.tops (ia b as seat aw) from ht)
   have hx:=wf.t0 p0 h0 x (bJ ex)
   have hg:=gb g (bJ eg)
   have k1:0<=x*(bw b-aw-as.sum):=nL hx.1 (by omega)
   have k2:x*(bw b-aw-as.sum)<=b.bot*(bw b-aw-as.sum):=Te hx.2 (by omega)
   have k3:b.bot*(bw b-aw-as.sum)+b.bot*(as.sum+aw)=b.bot*bw b:=by rw [<-pI];congr 1;omega
   exact ⟨by omega,by show _<=b.bot*bw b;omega⟩
 . show 1<=b.bot*bw b
   have:b.bot*1<=b.bot*bw b:=Ij (by omega) (by omega)
   omega
 . exact (Dp p hp).1
 . have:=Q7 (fun p:BP=>decide (0<p.wo)) (dw b as seat aw)
   rw [wJ ok.len] at this
   exact eX this wf.pl
theorem aaa (wf:vj b) (h:wL b rs) (hl:bu rs<bw b) (ho:0<b.own.length) (hz:Jm.Sz 60 (bw b)):lX b (dh b rs) 0 0:=by
 have hs:=Jd wf.nd h rs.length (aS _)
 rw [cA] at hs
 refine ⟨AV b rs,fun a ha=>?_,ho,mJ _,by rw [hs];omega,hz⟩
 obtain ⟨p,_,rfl⟩:=bN.mp ha
 exact Xs (fun r hr=>(h.row r hr).1) p.nm
inductive acG (K:Fg) (vs:List V) (H:Hp) (Q:VK) (E:XK):Prop
 | mk (n ρ B b:_) (l:Addr) (us:List V) (rs:List Row) (_:vs=[.ref B.m, .ref l]) (_:Gh ρ H) (_:aV n ρ B H b) (_:vj b) (_:aC K H l us) (_:gq H us rs) (_:ρ l=none) (_:wL b rs) (_:rs.length<=1000) (_:lX b (dh b rs:_) 0 0) (_:∀ρ' B' H',Gh ρ' H'->aV n ρ' B' H' (i8 b (dh b rs:_) 0 0)->B'.m=B.m->Fr n ρ H ρ' H'->Q .cg H')
def Qw (K:Fg):Sp:=bx (acG K)
theorem aab (wf:vj b) {o:Str} (h1:x∉b.ah.map (fun p:BP=>p.nm)) (h2:1<=wo) (h3:b.ah.length<1000) (h4:b.cS.length<1000):vj (zf b x o wo we):=by
 have P:∀{M:BP->Prop},(∀p∈b.ah,M p)->M ⟨x,o,wo,we,(List.replicate b.own.length 0).set (b.own.idxOf o) b.bot⟩->∀p∈(zf b x o wo we).ah,M p:=fun a c p hp=>by
  rcases eV.mp (show p∈b.ah++[_] from hp) with z|z
  . exact a p z
  . rw [ee.mp z];exact c
 have b1:=wf.b1
 refine ⟨?_,P wf.tl (by show ((List.replicate b.own.length (0:Int)).set _ _).length=_;rw [jN,mZ];rfl),P wf.t0 (fun t ht=>?_),wf.b1,wf.bz,P wf.w1 h2,wf.ol,?_,?_⟩
 . show ((b.ah++[_]).map (fun p:BP=>p.nm)).Nodup
   rw [bD]
   exact mK wf.nd h1
 . rcases yX ht with z|z
   . rw [z];show 0<=0/\0<=b.bot;omega
   . rw [z];show 0<=b.bot/\b.bot<=b.bot;omega
 . show (b.ah++[_]).length<=1000
   rw [cY];show b.ah.length+1<=1000;omega
 . show (b.cS++[_]).length<=1000
   rw [cY];show b.cS.length+1<=1000;omega
theorem wM:∀(rs:List Row) (s:HS),rs.foldl gi s={ s with ah:=(rs.foldl gi s).ah }
 | [],_=>rfl
 | r::rs,s=>by
   rw [mG,wM rs (gi s r)]
   rfl
def Dq (st:HS) (b:BS):Prop:=∀p∈st.ah,∀q∈b.ah,p.nm=q.nm->∀j,q.tops.getD j 0*st.prod=(b_ st p).getD j 0*b.bot
theorem vm {f:Int->Int->Int} (hf:f 0 0=0) {xs ys:List Int} (h:xs.length=ys.length) (j:Nat):(List.zipWith f xs ys).getD j 0=f (xs.getD j 0) (ys.getD j 0):=by
 rw [jf,jf,jf,Q9]
 by_cases c:j<xs.length
 . rw [a_ c,a_ (by omega)];rfl
 . rw [uQ (by omega),uQ (by omega)];exact hf.symm
def vn (rs:List Row) (f:Str->Int):Int:=(rs.map fun r=>r.2*f r.1).sum
theorem L6 {st:HS}:∀(rs:List Row) (acc:List Int),(∀r∈rs,(b_ st (cQ st r.1)).length=acc.length)->∀j,(y_ st acc rs).getD j 0=acc.getD j 0+vn rs fun x=>(b_ st (cQ st x)).getD j 0
 | [],acc,_,j=>by show acc.getD j 0=_+0;omega
 | r::rs,acc,h,j=>by
   have hr:=h r cO
   have e:(List.zipWith (fun x t=>x+r.2*t) acc (b_ st (cQ st r.1))).length=acc.length:=by rw [qM,hr];omega
   show (y_ st (List.zipWith (fun x t=>x+r.2*t) acc (b_ st (cQ st r.1))) rs).getD j 0=_
   rw [L6 rs _ (fun x hx=>by rw [e];exact h x (cL _ hx)),vm (f:=fun x t=>x+r.2*t) (by show (0:Int)+r.2*0=0;omega) hr.symm]
   unfold vn
   rw [bF,cX]
   show acc.getD j 0+r.2*(b_ st (cQ st r.1)).getD j 0+(rs.map fun r=>r.2*(b_ st (cQ st r.1)).getD j 0).sum=acc.getD j 0+(r.2*(b_ st (cQ st r.1)).getD j 0+(rs.map fun r=>r.2*(b_ st (cQ st r.1)).getD j 0).sum)
   omega
theorem RX (nd:(b.ah.map (fun p:BP=>p.nm)).Nodup) (h:wL b rs) (f:Str->Int):∀i≤rs.length,(b.ah.map fun p=>f p.nm*dG (rs.take i) p.nm).sum=vn (rs.take i) f:=by
 intro i
 induction i with
 | zero=>
   intro _
   rw [List.take_zero]
   show (b.ah.map fun p=>f p.nm*0).sum=0
   clear nd h
   generalize b.ah=ps
   induction ps with
   | nil=>rfl
   | cons p ps ih=>rw [bF,cX,ih];omega
 | succ i ih=>
   intro hi
   have ei:=a_ (show i<rs.length by omega)
   obtain ⟨_,j,p,hp,e,_⟩:=h.row _ (bJ ei)
   have hn:(rs[i]).1∉(rs.take i).map (fun r:Row=>r.1):=by
    rw [BH]
    exact j_ h.nd (by rw [bK,ei];rfl)
   rw [take_snoc ei]
   generalize rs[i]=r at *
   replace ih:=ih (by omega)
   generalize rs.take i=us at *
   have:vn (us++[r]) f=vn us f+r.2*f r.1:=by unfold vn;rw [bD,List.sum_append];simp
   rw [this,<-ih]
   clear this ih hi ei
   have hm:=bJ hp
   clear hp
   generalize b.ah=ps at *
   clear h
   induction ps with
   | nil=>simp at hm
   | cons x ps ihp=>
     obtain ⟨n1,n2⟩:=gX.mp (show (x.nm::ps.map (fun p:BP=>p.nm)).Nodup from nd)
     rw [bF,bF,cX,cX]
     rcases dg.mp hm with z|z
     . subst z
       have rest:(ps.map fun p=>f p.nm*dG (us++[r]) p.nm)=ps.map fun p=>f p.nm*dG us p.nm:=CY fun y hy=>by
        rw [mS hn,az (fun z=>n1 (bN.mpr ⟨y,hy,z.symm.trans e.symm⟩))]
       rw [rest,mS hn,aB e.symm,e,uA hn,Int.mul_zero,rQ r.2]
       omega
     . have ne:x.nm≠r.1:=fun z'=>n1 (bN.mpr ⟨p,z,e.trans z'.symm⟩)
       rw [ihp n2 z,mS hn,az (fun z=>ne z.symm)]
       omega
theorem L7:∀(rs:List Row) {s:HS} {p':Pt},p'∈(rs.foldl gi s).ah->∃p∈s.ah,p'.nm=p.nm/\p'.row=p.row/\p'.sc=p.sc
 | [],_,p',h=>⟨p',h,Z,Z,Z⟩
 | r::rs,s,p',h=>by
   obtain ⟨p,hp,e1,e2,e3⟩:=L7 rs (s:=gi s r) h
   obtain ⟨_,q,hq,e⟩:=Dk hp
   refine ⟨q,hq,?_⟩
   rw [e1,e2,e3,e]
   split <;> exact ⟨Z,Z,Z⟩
theorem aac {ps:List BP} (j:Nat):iK ps (ps.map fun p=>dG rs p.nm) j=(ps.map fun p=>p.tops.getD j 0*dG rs p.nm).sum:=by
 unfold iK
 induction ps with
 | nil=>rfl
 | cons p ps ih=>rw [bF,xh,cX,bF,cX,ih]
theorem Jh (k:Int) {α:Type} (l:List α) (f g:α->Int) (h:∀x∈l,f x*k=g x):(l.map f).sum*k=(l.map g).sum:=by
 induction l with
 | nil=>show (0:Int)*k=0;omega
 | cons x l ih=>
   rw [bF,bF,cX,cX,BL,ih fun y hy=>h y (cL _ hy),h x cO]
theorem Vb {st st':HS} {kept whole:Int} {added:List Int} (wf:Wf st) (bl:uG st kept whole lost added) (ec:st'.bR=(cV st kept whole added).bR) (ep:st'.prod=(cV st kept whole added).prod) {p':Pt} (hp:p∈st.ah) (e2:p'.row=p.row) (e3:p'.sc=p.sc*kept / c_ st kept whole added)
  {t0 gB B:Int} {j:Nat} (tj:t0*st.prod=(b_ st p).getD j 0*B) (eB:gB*st.prod=added.getD j 0*B):(t0*kept+gB)*st'.prod=(b_ st' p').getD j 0*(B*whole):=by
 obtain ⟨hd,hdw,hds,hdc⟩:=bl.dvds
 have ah3:st'.bR=(fW st kept added).map (· / c_ st kept whole added):=by
  rw [ec];unfold cV;rw [UQ]
 have s1:1<=whole / c_ st kept whole added:=by
  have w1:0<whole:=by have:=bl.l;have:=bl.w;have:=bl.k;omega
  have:=Int.le_of_dvd w1 hdw
  exact Int.le_ediv_of_mul_le hd (by omega)
 have YK:st'.prod=st.prod*(whole / c_ st kept whole added):=by
  rw [ep];unfold cV;rw [EY s1]
 have hds:=hds p hp
 have hrl:=wf.rows p hp
 have hcl:=wf.ji
 have gl:=bl.len
 have ewd:c_ st kept whole added*(whole / c_ st kept whole added)=whole:=Int.mul_ediv_cancel' hdw
 have a5:c_ st kept whole added*p'.sc=p.sc*kept:=by rw [e3];exact Int.mul_ediv_cancel' hds
 rw [YK]
 clear ec ep YK e3 bl hdw hds s1
 generalize c_ st kept whole added=d at *
 have etop:d*(b_ st' p').getD j 0=(b_ st p).getD j 0*kept+added.getD j 0:=by
  have a1:(b_ st' p').getD j 0=p'.sc*p.row.getD j 0+((fW st kept added).map (· / d)).getD j 0:=by
   unfold b_
   rw [ah3,e2,vm (f:=fun r c=>p'.sc*r+c) (by show p'.sc*0+0=0;omega)]
   rw [aF]
   unfold fW
   rw [qM,gl,hrl,hcl]
   omega
  have a2:(b_ st p).getD j 0=p.sc*p.row.getD j 0+st.bR.getD j 0:=by
   unfold b_
   exact vm (f:=fun r c=>p.sc*r+c) (by show p.sc*0+0=0;omega) (by rw [hrl,hcl]) j
  have a3:(fW st kept added).getD j 0=st.bR.getD j 0*kept+added.getD j 0:=by
   unfold fW
   exact vm (f:=fun t m=>t*kept+m) (by show (0:Int)*_+0=0;omega) gl.symm j
  have a4:d*((fW st kept added).map (· / d)).getD j 0=(fW st kept added).getD j 0:=by
   rw [jf,jf,bK]
   cases ec:(fW st kept added)[j]? with
   | none=>show _*0=(0:Int);omega
   | some x=>exact Int.mul_ediv_cancel' (hdc x (bJ ec))
  rw [a1,pI,<-jO,a5,a4,a3,a2]
  grind
 generalize whole / d=Vc at *
 generalize (b_ st' p').getD j 0=T' at *
 generalize (b_ st p).getD j 0=T at *
 generalize added.getD j 0=gS at *
 refine Int.eq_of_mul_eq_mul_left (a:=d) (by omega) ?_
 have l1:d*((t0*kept+gB)*(st.prod*Vc))=(t0*st.prod*kept+gB*st.prod)*(d*Vc):=by grind
 have l2:d*(T'*(B*whole))=(d*T')*(B*whole):=by grind
 rw [l1,l2,ewd,tj,eB,etop]
 grind
theorem Vd (t:Dq st b) (rl:iU st b) (wf:Wf st) (wb:vj b) (c:pW st rs) (rb:wL b rs) (bo:lX b (dh b rs) 0 0):Dq (kI st rs) (i8 b (dh b rs) 0 0):=by
 intro p' lY q' hq' en j
 have bl:=c.blend wf
 have ew:=rl.whole
 have zZ:∀r∈rs,∃p∈st.ah,p.nm=r.1:=fun r hr=>by obtain ⟨p,hp,e,_⟩:=(c.row r hr).2.2;exact ⟨p,hp,e⟩
 have eG:=I0 wf zZ
 have gl:(fZ st rs).length=st.bR.length:=bl.len
 obtain ⟨p1,hp1,e1,e2,e3⟩:=L7 rs (s:=cV st (bH st-bu rs) (bH st) (fZ st rs)) lY
 have eK:=wM rs (cV st (bH st-bu rs) (bH st) (fZ st rs))
 have ah4:p1∈st.ah.map (fun p:Pt=>{ p with sc:=p.sc*(bH st-bu rs) / c_ st (bH st-bu rs) (bH st) (fZ st rs) }):=by
  have h:=hp1
  unfold cV at h
  rw [AR] at h
  exact h
 obtain ⟨p,hp,rfl⟩:=bN.mp ah4
 have e1:p'.nm=p.nm:=e1
 have e2:p'.row=p.row:=e2
 have e3:p'.sc=p.sc*(bH st-bu rs) / c_ st (bH st-bu rs) (bH st) (fZ st rs):=e3
 have hcl:=wf.ji
 obtain ⟨h1,_⟩:=mF.mp (show q'∈(dw b (dh b rs) 0 0).filter _ from hq')
 obtain ⟨k,q,a,eq,_,CI⟩:=jz (show q'∈List.zipWith (ng (ia b (dh b rs) 0 0) (bw b-0-(dh b rs).sum)) b.ah (dh b rs) from h1)
 have hq:=bJ eq
 have enq:p.nm=q.nm:=by rw [<-e1,en,CI];rfl
 have tj:=t p hp q hq enq j
 have hs:=Jd wb.nd rb rs.length (aS _)
 rw [cA] at hs
 have eqt:q'.tops.getD j 0=q.tops.getD j 0*(bw b-bu rs)+(gr b (dh b rs)).getD j 0:=by
  rw [CI]
  show (List.zipWith _ q.tops (ia b (dh b rs) 0 0)).getD j 0=_
  rw [vm (f:=fun t g=>t*(bw b-0-(dh b rs).sum)+g) (by show (0:Int)*_+0=0;omega) (by rw [wb.tl q hq,zg]),hs,Int.sub_zero]
  rfl
 have eGj:(fZ st rs).getD j 0=vn rs fun x=>(b_ st (cQ st x)).getD j 0:=by
  rw [eG,L6 rs _ (fun r hr=>by
   obtain ⟨x,hx,e⟩:=zZ r hr
   rw [jJ wf hx e,mZ,ze wf hx])]
  have:(List.replicate st.bR.length (0:Int)).getD j 0=0:=by
   rw [jf,List.getElem?_replicate]
   split <;> rfl
  omega
 have eBj:(gr b (dh b rs)).getD j 0*st.prod=(fZ st rs).getD j 0*b.bot:=by
  have pr:=RX wb.nd rb (fun x=>(b_ st (cQ st x)).getD j 0) rs.length (aS _)
  rw [cA] at pr
  rw [eGj,<-pr]
  by_cases cj:j<b.own.length
  . have e:(gr b (dh b rs)).getD j 0=(b.ah.map fun p=>p.tops.getD j 0*dG rs p.nm).sum:=by
     unfold gr
     rw [jf,bK,List.getElem?_range cj]
     exact aac j
    rw [e,Jh st.prod b.ah (fun p=>p.tops.getD j 0*dG rs p.nm) (fun p=>((b_ st (cQ st p.nm)).getD j 0*dG rs p.nm)*b.bot) (fun x hx=>?_)]
    . exact (Jh b.bot b.ah (fun p=>(b_ st (cQ st p.nm)).getD j 0*dG rs p.nm) _ fun x _=>rfl).symm
    . obtain ⟨i,hi,ei⟩:=pC hx
      obtain ⟨y,hy,ey,_⟩:=rl.at (i:=i) (q:=x) (by rw [a_ hi,ei])
      have hy:=bJ hy
      have:=t y hy x hx ey j
      rw [jJ wf hy ey,Int.mul_right_comm,this,Int.mul_right_comm]
  . have z1:(gr b (dh b rs)).getD j 0=0:=by
     rw [jf,uQ (by rw [mQ];omega)];rfl
    have z2:(fZ st rs).getD j 0=0:=by
     rw [jf,uQ (by rw [gl,hcl,rl.own];omega)];rfl
    rw [z1,pr,<-eGj,z2]
    omega
 rw [eqt,<-ew]
 show _=(b_ (kI st rs) p').getD j 0*(b.bot*bw b)
 rw [<-ew]
 exact Vb wf bl (by unfold kI;rw [eK]) (by unfold kI;rw [eK]) hp e2 e3 tj eBj
theorem Ve (t:Dq st b) (rl:iU st b) (wf:Wf st) (wb:vj b) {o:Str} (h1:x∉b.ah.map (fun p:BP=>p.nm)):Dq (yV st x o wo we) (zf b x o wo we):=by
 intro p hp q hq en j
 have nmE:∀y∈st.ah,y.nm∈b.ah.map (fun p:BP=>p.nm):=fun y hy=>by
  obtain ⟨i,hi,ei⟩:=pC hy
  obtain ⟨z,hz,ez,_⟩:=rl.at' (i:=i) (p:=y) (by rw [a_ hi,ei])
  rw [ez]
  exact bN.mpr ⟨z,bJ hz,Z⟩
 show q.tops.getD j 0*st.prod=(b_ st p).getD j 0*b.bot
 rcases eV.mp (show p∈st.ah++[_] from hp) with zp|zp
 . rcases eV.mp (show q∈b.ah++[_] from hq) with zq|zq
   . exact t p zp q zq en j
   . rw [ee.mp zq] at en
     have en:p.nm=x:=en
     exact absurd (by rw [<-en];exact nmE p zp) h1
 . rcases eV.mp (show q∈b.ah++[_] from hq) with zq|zq
   . rw [ee.mp zp] at en
     have en:x=q.nm:=en
     exact absurd (by rw [en];exact bN.mpr ⟨q,zq,Z⟩) h1
   . rw [ee.mp zp,ee.mp zq]
     have e1:b_ st ⟨x,o,wo,we,1,AH st ((List.replicate st.own.length 0).set (st.own.idxOf o) st.prod)⟩=(List.replicate st.own.length 0).set (st.own.idxOf o) st.prod:=by
      show List.zipWith (fun r c=>1*r+c) (List.zipWith (fun t c=>t-c) ((List.replicate st.own.length 0).set (st.own.idxOf o) st.prod) st.bR) st.bR=_
      rw [Di,wf.ji]
      exact Aj (by rw [jN,mZ];exact aS _)
     rw [e1,rl.own]
     show ((List.replicate b.own.length 0).set (b.own.idxOf o) b.bot).getD j 0*st.prod=((List.replicate b.own.length 0).set (b.own.idxOf o) st.prod).getD j 0*b.bot
     have key:∀v:Int,((List.replicate b.own.length 0).set (b.own.idxOf o) v).getD j 0=if b.own.idxOf o=j/\j<b.own.length then v else 0:=fun v=>by
      rw [jf,List.getElem?_set]
      by_cases c:b.own.idxOf o=j
      . rw [aB c]
        by_cases d:b.own.idxOf o<(List.replicate b.own.length (0:Int)).length
        . rw [aB d,aB ⟨c,by rw [mZ] at d;omega⟩];rfl
        . rw [az d,az (fun z=>d (by rw [mZ];omega))];rfl
      . rw [az c,az (fun z=>c z.1),List.getElem?_replicate]
        split <;> rfl
     rw [key,key]
     split
     . exact rQ _ _
     . omega
theorem RY {st:HS} {b:BS} (t:Dq st b) (rl:iU st b) (wf:Wf st) (wb:vj b) {p:Pt} {q:BP} (hp:p∈st.ah) (hq:q∈b.ah) (e:p.nm=q.nm):AI st p=fL b.own q.tops b.bot:=by
 have p1:=wf.i7
 have b1:=wb.b1
 have l1:(b_ st p).length=b.own.length:=by rw [ze wf hp,wf.ji,rl.own]
 have l2:q.tops.length=b.own.length:=wb.tl q hq
 have tj:=t p hp q hq e
 unfold AI fL
 rw [rl.own]
 generalize b_ st p=xs at *
 generalize q.tops=ys at *
 generalize b.own=own at *
 have step:∀(own:List Str) (xs ys:List Int),xs.length=own.length->ys.length=own.length->(∀j,ys.getD j 0*st.prod=xs.getD j 0*b.bot)->(List.zip own xs).filterMap (fun x=>if 0<x.2 then some (x.1,Jm.fr x.2 st.prod) else none)=(List.zip own ys).filterMap fun x=>if 0<x.2 then some (x.1,Jm.fr x.2 b.bot) else none:=by
  intro own
  induction own with
  | nil=>intro xs ys _ _ _;simp
  | cons o own ih=>
    intro xs ys h1 h2 h3
    cases xs with
    | nil=>simp at h1
    | cons x xs=>
      cases ys with
      | nil=>simp at h2
      | cons y ys=>
        have h0:y*st.prod=x*b.bot:=by simpa using h3 0
        have ih:=ih xs ys (by simpa using h1) (by simpa using h2) (fun j=>by simpa using h3 (j+1))
        rw [List.zip_cons_cons,List.zip_cons_cons,Al,Al,ih]
        by_cases c:0<x
        . have c2:0<y:=by
           rcases Ef 0 y with z|z
           . exact z
           . have k1:y*st.prod<=0:=Int.mul_nonpos_of_nonpos_of_nonneg z (by omega)
             have k2:0<x*b.bot:=Int.mul_pos c (by omega)
             omega
          simp only [aB c,aB c2]
          rw [Jm.Yr (t:=x) (b:=st.prod) (t':=y) (b':=b.bot) (by omega) (by omega) h0.symm]
        . have c2:¬ 0<y:=fun z=>by
           have k1:0<y*st.prod:=Int.mul_pos z (by omega)
           have k2:x*b.bot<=0:=Int.mul_nonpos_of_nonpos_of_nonneg (by omega) (by omega)
           omega
          simp only [az c,az c2]
 exact step own xs ys l1 l2 tj
theorem CJ {α:Type} (f g:α->Int):∀l:List α,(l.map fun x=>f x+g x).sum=(l.map f).sum+(l.map g).sum
 | []=>rfl
 | a::l=>by rw [bF,bF,bF,cX,cX,cX,CJ f g l];omega
theorem xB {α:Type} (f:α->Int) (k:Int):∀l:List α,(l.map fun x=>f x*k).sum=(l.map f).sum*k
 | []=>by simp
 | a::l=>by rw [bF,bF,cX,cX,xB f k l,BL]
theorem Ol:∀(l:List Int) (n:Nat),l.length=n->(List.range n).map (fun i=>l.getD i 0)=l:=fun l n h=>by
 refine List.ext_getElem? fun i=>?_
 rw [bK]
 by_cases hi:i<n
 . rw [List.getElem?_range hi,a_ (by omega)]
   show some (l.getD i 0)=_
   rw [jf,a_ (by omega)];rfl
 . rw [uQ (by rw [CZ];omega),uQ (by omega)];rfl
theorem Ji {B:Int} {n:Nat}:∀(ps:List BP) (as:List Int),(∀p∈ps,p.tops.length=n/\p.tops.sum=B)->as.length=ps.length->((List.range n).map (iK ps as)).sum=B*as.sum
 | [],[],_,_=>by
   have:(List.range n).map (iK [] [])=(List.range n).map fun _=>(0:Int)*0:=by congr 1
   rw [this,xB];simp
 | [],_::_,_,h=>by simp at h
 | _::_,[],_,h=>by simp at h
 | p::ps,a::as,hp,hl=>by
   have e:(List.range n).map (iK (p::ps) (a::as))=(List.range n).map fun i=>p.tops.getD i 0*a+iK ps as i:=by
    congr 1
   obtain ⟨h1,h2⟩:=hp p cO
   have ih:=Ji ps as (fun x hx=>hp x (cL _ hx)) (by simpa using hl)
   rw [e,CJ,xB,Ol _ _ h1,ih,h2,cX,pI]
theorem xC:∀{l:List Int} {i:Nat} {x:Int},i<l.length->(l.set i (l.getD i 0+x)).sum=l.sum+x
 | a::l,0,x,_=>by rw [KW,cX,cX];show a+x+_=_;omega
 | a::l,i+1,x,h=>by
   rw [KU,cX,cX]
   have:=xC (l:=l) (i:=i) (x:=x) (by simpa using h)
   have e:(a::l).getD (i+1) 0=l.getD i 0:=rfl
   rw [e,this];omega
 | [],_,_,h=>by simp at h
theorem Qx (k:Int):∀{ts gs:List Int},ts.length=gs.length->(List.zipWith (fun t g=>t*k+g) ts gs).sum=ts.sum*k+gs.sum
 | [],[],_=>by simp
 | t::ts,g::gs,h=>by
   have:=Qx k (ts:=ts) (gs:=gs) (by simpa using h)
   rw [xh,cX,cX,cX,this,BL];omega
 | [],_::_,h=>by simp at h
 | _::_,[],h=>by simp at h
theorem Xw (wf:vj b) (ok:lX b as seat aw) (hs:∀p∈b.ah,p.tops.sum=b.bot):∀p∈(i8 b as seat aw).ah,p.tops.sum=(i8 b as seat aw).bot:=fun p hp=>by
 obtain ⟨h1,_⟩:=mF.mp (show p∈(dw b as seat aw).filter _ from hp)
 obtain ⟨i,x,a,ex,ea,rfl⟩:=jz (show p∈List.zipWith (ng (ia b as seat aw) (bw b-aw-as.sum)) b.ah as from h1)
 have hx:=bJ ex
 show (List.zipWith (fun t g=>t*(bw b-aw-as.sum)+g) x.tops (ia b as seat aw)).sum=b.bot*bw b
 rw [Qx _ (by rw [wf.tl x hx,zg]),hs x hx]
 have eg:(gr b as).sum=b.bot*as.sum:=Ji b.ah as (fun p hp=>⟨wf.tl p hp,hs p hp⟩) ok.len
 have e2:(ia b as seat aw).sum=b.bot*(as.sum+aw):=by
  unfold ia
  by_cases h:0<aw
  . rw [aB h,xC (by rw [mQ];exact ok.seat),eg,pI,rQ aw]
  . have:aw=0:=by have:=ok.CH;omega
    rw [az h,eg,this,Int.add_zero]
 rw [e2,<-pI]
 congr 1
 omega
structure fM (c:Nat) (st:HS) (b:BS):Prop where
 jM:vj b
 rel:iU st b
 AW:Dq st b
 dj:∀u∈st.dj,Jm.Sz (60*c+60) u
 stp:st.stp.length<=c
 prod:Jm.Sz (60*c+1) st.prod
 bot:Jm.Sz (60*c+1) b.bot
 wo:∀p∈b.ah,p.wo<=1000000000*((c:Int)+1)
 we:∀p∈b.ah,p.we<=1000000000
 pl:b.ah.length<=50+c
 kl:b.cS.length<=900+c
 own:0<b.own.length
 nm:∀p∈b.ah,PyData.strOk p.nm=true/\PyData.strOk p.ow=true
 jZ:st.jZ=[]/\b.jZ=[]
 cS:st.nms=b.cS
 nk:∀x∈b.cS,isNm x=true
 on:∀o∈b.own,isNm o=true
 sum:∀p∈b.ah,p.tops.sum=b.bot
variable {c:Nat}
theorem fM.mono (g:fM c st b):fM (c+1) st b:=⟨g.jM,g.rel,g.AW,fun u hu=>(g.dj u hu).mono (by omega),by have:=g.stp;omega,g.prod.mono (by omega),g.bot.mono (by omega),fun p hp=>by have:=g.wo p hp;omega,g.we,by have:=g.pl;omega,by have:=g.kl;omega,g.own,g.nm,g.jZ,g.cS,g.nk,g.on,g.sum⟩
theorem fM.nms (g:fM c st b):acw st.ah:=fun p hp=>by
 obtain ⟨i,hi,e⟩:=pC hp
 obtain ⟨q,eq,e1,e2,_⟩:=g.rel.at' (i:=i) (p:=p) (by rw [a_ hi,e])
 rw [e1,e2]
 exact g.nm q (bJ eq)
theorem CK:∀{ps:List BP} {m:Int},(∀p∈ps,1<=p.wo/\p.wo<=m)->0<=(ps.map fun p=>p.wo).sum/\(ps.map fun p=>p.wo).sum<=m*(ps.length:Int)
 | [],m,_=>by show 0<=(0:Int)/\(0:Int)<=m*0;omega
 | p::ps,m,h=>by
   have h0:=h p cO
   have ih:=CK (ps:=ps) (m:=m) fun x hx=>h x (cL _ hx)
   rw [bF,cX,m7,show (((ps.length+1:Nat)):Int)=(ps.length:Int)+1 from by omega,pI,Int.mul_one]
   omega
theorem fM.whole (g:fM c st b) (hc:c<=100):0<=bw b/\Jm.Sz 60 (bw b):=by
 have h:=CK (ps:=b.ah) (m:=101000000000) fun p hp=>⟨g.jM.w1 p hp,by have:=g.wo p hp;omega⟩
 refine ⟨h.1,?_⟩
 have hl:=g.pl
 have h2:(101000000000:Int)*(b.ah.length:Int)<=15150000000000:=by omega
 have h3:bw b<=15150000000000:=Int.le_trans h.2 h2
 have h1:0<=bw b:=h.1
 have:Jm.Sz 60 (15150000000000:Int):=pQ (by decide +kernel)
 exact this.of_le (by omega)
theorem aad {st':HS} {kept:Int} (g:fM c st b) (bl:uG st kept (bH st) lost added) (bo:lX b as seat aw) (hc:c<=90) (eC:st'={ cV st kept (bH st) added with ah:=st'.ah }) (rw':iU st' (i8 b as seat aw)) (rt:Dq st' (i8 b as seat aw)):fM (c+1) st' (i8 b as seat aw):=by
 have zw:=g.whole (by omega)
 have ew:=g.rel.whole
 obtain ⟨hs,hsw,_,_⟩:=bl.dvds
 have w1:0<bH st:=by have:=bl.k;have:=bl.l;have:=bl.w;omega
 have s1:1<=bH st / c_ st kept (bH st) added:=by
  have:=Int.le_of_dvd w1 hsw
  exact Int.le_ediv_of_mul_le hs (by omega)
 have s2:bH st / c_ st kept (bH st) added<=bH st:=Int.ediv_le_self _ (by omega)
 have zs:Jm.Sz 60 (bH st / c_ st kept (bH st) added):=by
  have:=zw.2
  rw [<-ew] at this
  exact this.of_le (by omega)
 have Dp:∀p∈(i8 b as seat aw).ah,∃p0∈b.ah,∃a,a∈as/\p=ng (ia b as seat aw) (bw b-aw-as.sum) p0 a:=fun p hp=>by
  obtain ⟨h1,_⟩:=mF.mp (show p∈(dw b as seat aw).filter _ from hp)
  obtain ⟨i,x,a,ex,ea,e⟩:=jz (show p∈List.zipWith (ng (ia b as seat aw) (bw b-aw-as.sum)) b.ah as from h1)
  exact ⟨x,bJ ex,a,bJ ea,e⟩
 have zb:Jm.Sz (60*(c+1)+1) (b.bot*bw b):=(g.bot.mul zw.2).mono (by omega)
 refine ⟨Xv g.jM bo (zb.mono (by omega)),rw',rt,fun u hu=>?_,?_,?_,zb,fun p hp=>?_,(fun p hp=>by obtain ⟨p0,h0,a,_,rfl⟩:=Dp p hp;exact g.we p0 h0),?_,(by show b.cS.length<=_;have:=g.kl;omega),g.own,fun p hp=>?_,⟨?_,g.jZ.2⟩,?_,g.nk,g.on,Xw g.jM bo g.sum⟩
 . rw [eC] at hu
   have hu:u∈(cV st kept (bH st) added).dj:=hu
   unfold cV at hu
   rw [UR] at hu
   obtain ⟨x,hx,rfl⟩:=bN.mp hu
   exact ((g.dj x hx).mul zs).mono (by omega)
 . rw [eC]
   show (cV st kept (bH st) added).stp.length<=c+1
   unfold cV fU
   split
   . show (st.stp++[_]).length<=c+1
     rw [cY];have:=g.stp;show st.stp.length+1<=c+1;omega
   . show st.stp.length<=c+1
     have:=g.stp;omega
 . rw [eC]
   show Jm.Sz _ (cV st kept (bH st) added).prod
   unfold cV
   rw [EY s1]
   exact (g.prod.mul zs).mono (by omega)
 . obtain ⟨p0,h0,a,ha,rfl⟩:=Dp p hp
   have:=g.wo p0 h0
   have:=bo.a0 a ha
   show p0.wo-a<=1000000000*(((c+1:Nat):Int)+1)
   omega
 . have:=Q7 (fun p:BP=>decide (0<p.wo)) (dw b as seat aw)
   rw [wJ bo.len] at this
   have:=g.pl
   show (List.filter _ _).length<=_
   omega
 . obtain ⟨p0,h0,a,_,rfl⟩:=Dp p hp
   exact g.nm p0 h0
 . rw [eC]
   show (cV st kept (bH st) added).jZ=[]
   unfold cV
   rw [UU]
   exact g.jZ.1
 . rw [eC]
   show (cV st kept (bH st) added).nms=b.cS
   unfold cV
   rw [UT]
   exact g.cS
theorem aae (g:fM c st b) (wf:Wf st) (ok:pW st rs) (rb:wL b rs) (bo:lX b (dh b rs) 0 0) (hc:c<=90):fM (c+1) (kI st rs) (i8 b (dh b rs) 0 0):=
 aad g (ok.blend wf) bo hc (wM rs (cV st (bH st-bu rs) (bH st) (fZ st rs))) (U9 g.rel wf ok) (Vd g.AW g.rel wf g.jM ok rb bo)
theorem aaf (st:HS) (rs:List Row):(kI st rs).kn<=st.kn:=by
 unfold kI
 rw [wM]
 show (cV st (bH st-bu rs) (bH st) (fZ st rs)).kn<=st.kn
 unfold cV fU
 split
 . exact fT _
 . exact aS _
theorem GX (h:isNm x=true):PyData.strOk x=true:=by
 unfold PyData.strOk
 rw [Array.all_eq_true']
 intro c hc
 unfold isNm isName at h
 have h1:=pF.mp (lg.mp h).2 c (by simpa using hc)
 rw [ZQ] at h1
 have hm:=dU h1
 have:∀c∈("abcdefghijklmnopqrstuvwxyz":Str).cps.toList,c<1000:=by decide +kernel
 have:=this c hm
 exact bM (by omega)
theorem Xx (n:Nat):(List.replicate n (0:Int)).sum=0:=by
 induction n with
 | zero=>rfl
 | succ n ih=>rw [CW,cX,ih];rfl
theorem aag (g:fM c st b) (wf:Wf st) {o:Str} (h1:x∉b.ah.map (fun p:BP=>p.nm)) (h2:1<=wo) (h2':wo<=1000000000) (h3:b.ah.length<50) (h4:b.cS.length<900) (hx:isNm x=true) (ho:o∈b.own) (h5:we<=1000000000):fM c (yV st x o wo we) (zf b x o wo we):=by
 have P:∀{M:BP->Prop},(∀p∈b.ah,M p)->M ⟨x,o,wo,we,(List.replicate b.own.length 0).set (b.own.idxOf o) b.bot⟩->∀p∈(zf b x o wo we).ah,M p:=fun a c p hp=>by
  rcases eV.mp (show p∈b.ah++[_] from hp) with z|z
  . exact a p z
  . rw [ee.mp z];exact c
 refine ⟨aab g.jM h1 h2 (by omega) (by omega),U_ g.rel x o wo we,Ve g.AW g.rel wf g.jM h1,g.dj,g.stp,g.prod,g.bot,P g.wo (by show wo<=_;omega),P g.we h5,by show (b.ah++[_]).length<=50+c;rw [cY];show b.ah.length+1<=50+c;omega,by show (b.cS++[_]).length<=900+c;rw [cY];show b.cS.length+1<=900+c;omega,g.own,P g.nm ⟨GX hx,GX (g.on o ho)⟩,g.jZ,?_,?_,g.on,P g.sum ?_⟩
 . show st.nms++[x]=b.cS++[x];rw [g.cS]
 . intro y hy
   rcases eV.mp (show y∈b.cS++[x] from hy) with z|z
   . exact g.nk y z
   . rw [ee.mp z];exact hx
 . show ((List.replicate b.own.length 0).set (b.own.idxOf o) b.bot).sum=b.bot
   have hi:b.own.idxOf o<(List.replicate b.own.length (0:Int)).length:=by rw [mZ];exact List.idxOf_lt_length_iff.mpr ho
   have:=xC (x:=b.bot) hi
   rw [show (List.replicate b.own.length (0:Int)).getD (b.own.idxOf o) 0=0 from by rw [jf,a_ hi,List.getElem_replicate];rfl,Int.zero_add,Xx,Int.zero_add] at this
   exact this
theorem E4:∀(l:List Str) (st:HS),st.ah=[]->(∀u∈st.dj,u=0)->(l.foldl gJ st).ah=[]/\(l.foldl gJ st).nms=st.nms/\(l.foldl gJ st).stp=st.stp/\(l.foldl gJ st).prod=st.prod/\(l.foldl gJ st).jZ=st.jZ/\∀u∈(l.foldl gJ st).dj,u=0
 | [],_,h,hp=>⟨h,Z,Z,Z,Z,hp⟩
 | o::l,st,h,hp=>by
   rw [mG]
   exact E4 l (gJ st o) (by show st.ah.map _=[];rw [h];rfl) (fun u hu=>by
    rcases eV.mp (show u∈st.dj++[0] from hu) with z|z
    . exact hp u z
    . exact ee.mp z)
theorem gd0 {own:List Str} (h0:0<own.length) (h1:own.length<=100) (hon:∀o∈own,isNm o=true):fM 0 (own.foldl gJ hs0) ⟨own,[],1,[],[]⟩/\(own.foldl gJ hs0).nms=[] :=by
 obtain ⟨k1,k2,k3,k4,k5,k6⟩:=E4 own hs0 rfl (fun u hu=>absurd hu (by simp [hs0]))
 refine ⟨⟨⟨wm,fun p hp=>absurd hp (by simp),fun p hp=>absurd hp (by simp),mJ _,(by show Jm.Sz 7000 1;exact pQ (by decide +kernel)),fun p hp=>absurd hp (by simp),h1,fT _,fT _⟩,⟨by rw [AL];rfl,by unfold i9 nP;rw [k1];rfl⟩,(fun p hp=>by rw [k1] at hp;exact absurd hp (by simp)),(fun u hu=>by rw [k6 u hu];exact pQ (by decide +kernel)),by rw [k3];exact aS _,(by rw [k4];show Jm.Sz (60*0+1) 1;exact pQ (by decide +kernel)),(by show Jm.Sz (60*0+1) 1;exact pQ (by decide +kernel)),fun p hp=>absurd hp (by simp),fun p hp=>absurd hp (by simp),fT _,fT _,h0,fun p hp=>absurd hp (by simp),⟨k5,Z⟩,k2,(fun x hx=>nomatch hx),hon,fun p hp=>absurd hp (by simp)⟩,k2⟩
theorem Om (g:fM c st b) (wf:Wf st) (h:U1 (lW b) rs) (hne:rs≠[]) (hc:c<=90):pW st rs/\wL b rs/\lX b (dh b rs) 0 0:=by
 have eW:bu (lW b)=bw b:=by unfold bu lW bw;rw [fJ];rfl
 have hl:bu rs<bw b:=by
  rcases h.lost with z|z
  . rw [<-eW];exact z
  . exact absurd z hne
 have rb:wL b rs:=⟨h.nd,fun r hr=>by
  obtain ⟨r1,_,w,hw,e,le⟩:=h.row r hr
  obtain ⟨p,hp,rfl⟩:=bN.mp hw
  obtain ⟨j,hj,ej⟩:=pC hp
  exact ⟨r1,j,p,by rw [a_ hj,ej],e,le⟩⟩
 have zw:=g.whole (by omega)
 refine ⟨⟨h.nd,hne,?_,fun r hr=>?_,by rw [g.rel.whole];exact hl,by rw [g.rel.whole];exact zw.2,g.prod.mono (by omega),fun u hu=>(g.dj u hu).mono (by omega),by have:=g.stp;omega⟩,rb,aaa g.jM rb hl g.own zw.2⟩
 . have:=h.len
   unfold lW at this
   rw [aF] at this
   have:=g.pl
   omega
 . obtain ⟨r1,j,q,hq,e,le⟩:=rb.row r hr
   obtain ⟨p,hp,e1,_,e3,_⟩:=g.rel.at hq
   have r2:=(h.row r hr).2.1
   have:Jm.Sz 60 (1000000000:Int):=pQ (by decide +kernel)
   exact ⟨r1,this.of_le (by omega),p,bJ hp,e1.trans e,by rw [e3];exact le⟩
def wN (K:Fg) (ρ:fK) (H:Hp) (z:Addr) (xs:List V):Prop:=∀(ρ':fK) (H':Hp),aI (out ρ H) (out ρ' H')->aC K H' z xs
theorem wN.of (h:aC K H z xs):wN K (fun _=>none) H z xs:=fun ρ' H' s=>by
 rcases h with (h|⟨o,h⟩)|h
 . exact .inl (.inl (yP (s _ _ (EO h rfl))).1)
 . exact .inl (.inr ⟨o,(yP (s _ _ (EO h rfl))).1⟩)
 . exact .inr h
theorem wN.go (h:wN K ρ H z xs) (s:aI (out ρ H) (out ρ' H')):wN K ρ' H' z xs:=fun _ _ s'=>h _ _ (s.trans s')
inductive acI (T:TC) (K:Fg) (vs:List V) (H:Hp) (Q:VK) (E:XK):Prop
 | mk (n m ρ A B st b:_) (a ln:Addr) (ns:List Int) (k:Int) (nms:List Str) (many:Nat) (_:vs=[.ref a, .int k, .ref A.a, .ref B.m, .ref ln, .int (many:Int)]) (_:n≠m) (_:HH T n ρ A H st) (_:aV m ρ B H b) (_:fM 0 st b) (_:wN K ρ H a (ns.map V.int)) (_:ns.length<=63) (_:0<=k) (_:k<=1000000) (_:wN K ρ H ln (nms.map V.str)) (_:nms.Nodup) (_:(∀x∈nms,yZ x)) (_:(∀o∈b.own,yZ o)) (_:many<=nms.length) (_:many<=50) (_:st.nms=[]) (_:b.ah=[]) (_:b.cS=[]) (_:∀ρ' A' B' H' st' b',HH T n ρ' A' H' st'->aV m ρ' B' H' b'->fM 0 st' b'->A'.a=A.a->B'.m=B.m->b'.own=b.own->b'.ah.length=many->st'.kn=st.kn->aI (out ρ H:_) (out ρ' H':_)->Q .cg H')
def Qy (T:TC) (K:Fg):Sp:=bx (acI T K)
theorem HH.other {A:HA} (h:HH T n ρ A H st) (f:Fr m ρ H ρ' H') (g:Gh ρ' H') (e:n≠m):HH T n ρ' A H' st:=⟨g,h.h.other f h.g e,h.wf⟩
theorem YL (g:fM c st b) (k:Nat):fM c { st with kn:=k } b:=⟨g.jM,⟨g.rel.own,g.rel.qd⟩,g.AW,g.dj,g.stp,g.prod,g.bot,g.wo,g.we,g.pl,g.kl,g.own,g.nm,g.jZ,g.cS,g.nk,g.on,g.sum⟩
theorem L8:∀(l:List Str) (st:HS),(l.foldl gJ st).kn=st.kn
 | [],_=>rfl
 | o::l,st=>by rw [mG,L8 l];rfl
theorem Xy (ps:List Str) (hk:∀r∈ps,PyData.strOk r=true):PyData.canLayAll0 (ps.map PyData.str)=true:=by
 induction ps with
 | nil=>rfl
 | cons q r ih=>
   rw [bF]
   unfold PyData.canLayAll0
   rw [ih fun p hp=>hk p (cL _ hp),Bool.and_true]
   unfold PyData.canLay0
   exact hk q cO
theorem RZ (ps:List Str):PyData.depthAll (ps.map PyData.str)<=1:=by
 induction ps with
 | nil=>exact fT _
 | cons q r ih=>
   rw [bF]
   unfold PyData.depthAll
   have:PyData.depth (.str q)<=1:=Nat.le_of_ble_eq_true rfl
   omega
theorem CL (ps:List Str) (hk:∀r∈ps,PyData.strOk r=true):SeqAt.shaped (.list (ps.map PyData.str))=true:=by
 unfold SeqAt.shaped PyData.canLay0 PyData.depth
 rw [Xy ps hk]
 have:=RZ ps
 simp only [Eb,decide_eq_true_eq]
 omega
theorem Xz (ps:List Str):PyData.eqv (.list (ps.map PyData.str)) (.list (ps.map PyData.str))=true:=by
 unfold PyData.eqv
 induction ps with
 | nil=>rfl
 | cons q r ih=>
   rw [bF]
   unfold PyData.eqvAll
   rw [ih,Bool.and_true]
   exact ZP q
theorem GY {K:Fg} {H:Hp}:∀(l:List Str),x9 K H (l.map V.str) (l.map PyData.str)
 | []=> .nil
 | x::l=> .cons (.str x) (GY l)
inductive acJ (d:Nat) (T:TC) (K:Fg) (vs:List V) (H:Hp) (Q:VK) (E:XK):Prop
 | mk (n m ρ A B st b:_) (c:Nat) (_:vs=[.ref A.a, .ref B.m]) (_:n≠m) (_:HH T n ρ A H st) (_:aV m ρ B H b) (_:fM c st b) (_:c<=100) (_:(∀o∈b.own,PyData.strOk o=true)) (_:st.kn+15000*d<=1000000) (_:∀ρ' A' H' k,HH T n ρ' A' H' { st with kn:=k }->k<=st.kn+15000*d->aV m ρ' B H' b->A'.a=A.a->aI (out ρ H:_) (out ρ' H':_)->Q (.bl true) H')
def uI (d:Nat) (T:TC) (K:Fg):Sp:=bx (acJ d T K)
structure cE (K:Fg) (x:Str) (st:Stmt):Prop where
 ex:∃(f:Addr) (oc:Value) (od an:Option Addr) (sl:Array (Option Value)) (kV dc pm cd ct:Value),PySem.W.nsIn K mainGlobals x=some (some (.ref f))/\K.lookup f=some ⟨oc,od, .func (PySem.W.fnOf x x (dY st) (cG st) (ay st) .none kV dc pm an cd ct),sl⟩/\PySem.W.codeIn K cd x=true/\PySem.W.keepIn K (.ref f)=true
theorem cE.at {st:Stmt} (d:cE K x st) (X:K.In h) (G:h.Ns mainGlobals mg):∃f fd,At K mg x st f fd:=by
 obtain ⟨f,oc,od,an,sl,kV,dc,pm,cd,ct,a,l,c,k⟩:=d.ex
 exact ⟨f,_,Yq X G a l c k⟩
structure d8 (K:Fg) (C:Addr) (n qual:Str) (st:Stmt):Prop where
 ex:∃(f:Addr) (oc:Value) (od an:Option Addr) (sl:Array (Option Value)) (kV dc pm cd ct:Value),PySem.W.findIn K (.ref C) n=some (some (.ref f))/\PySem.W.isFn K (.ref f)=true/\K.lookup f=some ⟨oc,od, .func (PySem.W.fnOf n qual (dY st) (cG st) (ay st) .none kV dc pm an cd ct),sl⟩/\PySem.W.codeIn K cd qual=true/\PySem.W.keepIn K (.ref f)=true
theorem d8.at {n:Str} {st:Stmt} (d:d8 K C n qual st) (cl:oU K C):∃f fd,jb K C n qual st f fd:=by
 obtain ⟨f,oc,od,an,sl,kV,dc,pm,cd,ct,a,i,l,c,k⟩:=d.ex
 exact ⟨f,_,Lj l c k,⟨a,i,k⟩,cl⟩
theorem d8.made {st:Stmt} (d:d8 K C "__init__" qual st) (X:K.In h) (G:h.Ns mainGlobals mg) (a0:PySem.W.nsIn K mainGlobals x=some (some (.ref C))) (m:PySem.W.makesIn K C=true) (kc:PySem.W.keepIn K (.ref C)=true):∃f fd,IM K mg x C qual st f fd:=by
 obtain ⟨f,oc,od,an,sl,kV,dc,pm,cd,ct,a,i,l,c,k⟩:=d.ex
 exact ⟨f,_,Lj l c k,⟨m,a,i,kc⟩,kD X G a0⟩
variable {oc pm ct:Value} {od an:Option Addr} {sl:Array (Option Value)}
theorem cE.of {st:Stmt} {kV dc cd:Value} (a:PySem.W.nsIn K mainGlobals x=some (some (.ref f))) (l:K.lookup f=some ⟨oc,od, .func (PySem.W.fnOf x x (dY st) (cG st) (ay st) .none kV dc pm an cd ct),sl⟩) (c:PySem.W.codeIn K cd x=true) (k:PySem.W.keepIn K (.ref f)=true):cE K x st:=⟨⟨_,_,_,_,_,_,_,_,_,_,a,l,c,k⟩⟩
theorem d8.of {n:Str} {st:Stmt} {kV dc cd:Value} (a:PySem.W.findIn K (.ref C) n=some (some (.ref f))) (i:PySem.W.isFn K (.ref f)=true) (l:K.lookup f=some ⟨oc,od, .func (PySem.W.fnOf n qual (dY st) (cG st) (ay st) .none kV dc pm an cd ct),sl⟩) (c:PySem.W.codeIn K cd qual=true) (k:PySem.W.keepIn K (.ref f)=true):d8 K C n qual st:=⟨⟨_,_,_,_,_,_,_,_,_,_,a,i,l,c,k⟩⟩
section
variable {X:Cx}
inductive aeT (K:Fg) (x:V) (y:V) (H:Hp) (Q:VK):Prop
 | mk  (a b xs ys:_) (_:x = .ref a) (_:y = .ref b) (_:cJ K H a xs) (_:cJ K H b ys) (_:xs.length+ys.length<=sizeLine) (_:(xs=[]->Q (.ref b) H)) (_:(xs≠[]->ys=[]->Q (.ref a) H)) (_:(xs≠[]->ys≠[]->∀p,H p=none->Q (.ref p) (upd H p (.tup (xs++ys)))))
theorem GZ (K:Fg) (hK:X.K=K:=by rfl):gZ X (binaryOp .Add) (aeT K):=by
 subst hK
 intro pins s σ H x y v u Q I rx ry h
 obtain ⟨a,b,xs,ys,rfl,rfl,ha,hb,hz,q0,q1,q2⟩:=h
 by_cases hx:xs=[]
 . cases rx
   cases ry
   obtain ⟨its,r1,ht,_⟩:=I.tuple ha
   obtain ⟨its2,r2,hb',_⟩:=I.tuple hb
   obtain ⟨⟨cls,dd,data,sl⟩,ho,hc,n,hd⟩:=id ht
   obtain ⟨⟨ahI,dd2,data2,sl2⟩,ho2,hc2,n2,hd2⟩:=id hb'
   simp only at hc hd hc2 hd2
   subst hc hd hc2 hd2
   exact concat_meets ⟨_,ho,Z⟩ ⟨_,ho2,Z⟩ noFill_tuple_add seq_tuple_add PySem.F.slot_tuple_add PySem.F.entry_tuple_add (PySem.F.args_tuple_add_2 _ _)
    (tuple_addW0 a b its.toArray its2.toArray n n2 dd dd2 sl sl2 (by rw [r1.BQ.mpr hx];rfl)) ⟨ho,ho2,⟨.ref b,H,I,Z,q0 hx⟩⟩
 . exact Zu pins s σ H _ _ v u Q I rx ry ⟨a,b,xs,ys,Z,Z,ha,hb,hx,hz,q1 hx,q2 hx⟩
variable {o i:Expr} {pos:Pos} {td ty:TE}
end
theorem Qz (K:Fg) (hK:X.K=K:=by rfl):TV X (abt K):=hK▸abu
theorem Oo:PySem.W.kitOne K (.type "int") (.type "str")=some false:=by rfl
theorem aah (xs:List V) (k:Nat):xr xs none (some (k:Int))=xs.take k:=by
 unfold xr
 rw [HT.C7,HT.x6,List.drop_zero,Nat.sub_zero]
 rcases Nat.le_total k xs.length with h|h
 . rw [Nat.min_eq_left h]
 . rw [Nat.min_eq_right h,cA,Aj h]
theorem Vf (xs:List V) (k:Nat):xr xs (some (k:Int)) none=xs.drop k:=by
 unfold xr
 rw [HT.C7,HT.x6]
 rcases Nat.le_total k xs.length with h|h
 . rw [Nat.min_eq_left h]
   exact Aj (by rw [K1];omega)
 . rw [Nat.min_eq_right h,D7,List.drop_of_length_le h,List.take_nil]
section
variable {a b:List Nat} {m v:Int} (ha:pS a) (hb:pS b) (hm:1<=m) (hm2:m<=1000000000) (hv:0<=v) (hv2:v<=1000000000)
include ha hb hm hm2 hv hv2 in
end
inductive R0 (vs:List V) (H:Hp) (Q:VK) (E:XK):Prop
 | mk (cs:List Nat) (_:vs=[.str (tx cs)]) (_:cs.length<=100000) (_:Q (.bl (isName cs)) H)
def xD:Sp:=bx (R0)
theorem Jz {Q:VK} (hl:cs.length<=100000) (q:Q (.bl (isName cs)) H):xD [.str (tx cs)] H Q E:=⟨cs,Z,hl,q⟩
section
variable {X:Cx}
end
section
variable {X:Cx}
end
inductive aeU (x:V) (y:V) (H:Hp) (Q:VK):Prop
 | mk  (a b:List Nat) (_:x = .str (tx a)) (_:y = .str (tx b)) (_:a.length+b.length<=10000000) (_:Q (.str (tx (a++b))) H)
theorem aai:gZ X (binaryOp .Add) aeU:=by
 intro pins s σ H x y v u Q I rx ry h
 obtain ⟨a,b,rfl,rfl,hz,q⟩:=h
 exact En pins s σ H _ _ v u Q I rx ry ⟨tx a,tx b,Z,Z,by rw [g_,g_,fj];omega,by rw [Uj];exact q⟩
def Trc (h:Heap) (x T C:Addr):Prop:=∃oe vs a0 oT ts,h.get? x=some oe/\oe.cls = .ref C/\vs[0]?=some a0/\oe.data = .fields vs/\vs[1]?=some (.ref T)/\T≠x/\h.get? T=some oT/\oT.data = .fields ts/\ts[3]?=some .none
def iC (P:Program) (w:World):zV:=fun outer H s E e s'=>∃(x T C:Addr) (H':Hp),e = .ref x/\s'.os=s.os/\AllBare s'.gens/\Un (frs outer) [] H H' s.heap s'.heap/\gU P w H' s'.heap/\Trc s'.heap x T C/\
 s.heap.get? x=none/\s.heap.get? T=none/\H' x=none/\H' T=none/\E e (some C) H'
variable {h':Heap}
theorem gU.L_ {w:World} (x:gU P w H h) (k:∀b o u,H b=some o->h.get? b=some u->h'.get? b=some u):gU P w H h':=fun a o e=>
 (x a o e).stay (fun b u hb q=>by
   rcases hb with rfl|hb
   . exact k _ _ _ e q
   . exact k _ _ _ hb q) (fun _ q=>q) fun _ _ q=>q
theorem dQ.isAt {w:World} (x:dQ P w H h a o):∃u,h.get? a=some u:=by
 cases o with
 | lst xs=>obtain ⟨_,_,_,_,e⟩:=x;exact ⟨_,e⟩
 | tup xs=>obtain ⟨_,_,_,p⟩:=x;obtain ⟨o,e,_⟩:=p;exact ⟨_,e⟩
 | dK kvs=>obtain ⟨_,_,_,_,o,_,_,e,_⟩:=x;exact ⟨_,e⟩
 | dT kvs=>obtain ⟨_,_,_,_,o,_,_,e,_⟩:=x;exact ⟨_,e⟩
 | set S n=>obtain ⟨o,_,_,_,e,_⟩:=x;exact ⟨_,e⟩
 | ins C dx fs=>obtain ⟨_,_,_,e,_⟩:=x;exact ⟨_,e⟩
 | own y=>obtain ⟨_,e⟩:=x;exact ⟨_,e⟩
 | xd fs=>obtain ⟨_,⟨_,_,_,e,_⟩,_⟩:=x;exact ⟨_,e⟩
 | wC lo hi=>obtain ⟨_,_,_,e⟩:=x;exact ⟨_,e⟩
 | fE ob u=>obtain ⟨e,_⟩:=x;exact ⟨_,e⟩
 | Il ps=>exact ⟨_,(show h.get? a=some _ from x)⟩
 | met f y=>exact ⟨_,(show h.get? a=some _ from x)⟩
 | ext φ=>obtain ⟨_,⟨_,e⟩,_⟩:=x;exact ⟨_,e⟩
section
variable {P:Program} {w:World} {K:Fg} {mg:SO} {base:Heap} {N:List Str} {qual:Str} {scope:Scope} {f:Addr} {cd:Value} {A:Around} {outer:List Env} {s0:Shared} {H0:Hp} {E:XK} {CX:zV}
theorem QA {x:Addr} {a0:Value} {B:Heap} (I:Inv (dz CX P w K mg base N qual scope f cd A outer s0 H0 E) pins σ H s)
  (hB:∀b o,s.heap.get? b=some o->b∉frs (envOfC qual scope s0.heap.objs.size f cd::outer)->s0.heap.get? b≠none\/H b≠none->B.get? b=some o)
  (hfl:Heap.FlyingW B outer x (.ref C) a0 h') (hup:s.heap.UpToSlots h') (hx:s0.heap.get? x=none) (CM:H x=none)
  (q:E (.ref x) (some C) H):iC P w outer H0 s0 E (.ref x) { s with heap:=h' }:=by
 obtain ⟨st,bx,fr,oe,vs,T,oT,ts,h1,⟨h2,h3⟩,h4,h5,h6,h7,h8,h9,z6⟩:=hfl
 have KI:T∉frs outer:=fun m=>by
  obtain ⟨_,o,ho,hd⟩:=fr.mem m
  rw [h8] at ho;cases ho
  exact hd _ h9
 have L0:s0.heap.get? s0.heap.objs.size=none:=Heap.get?_none_of_le (aS _)
 have big:∀b o,s0.heap.get? b=some o->b∉frs outer->b∉frs (envOfC qual scope s0.heap.objs.size f cd::outer):=fun b o e n m=>by
  have m':b∈s0.heap.objs.size::frs outer:=m
  rcases dg.mp m' with z|z
  . rw [z,L0] at e;cases e
  . exact n z
 have hT0:s0.heap.get? T=none:=by
  cases e:s0.heap.get? T with
  | none=>rfl
  | some o=>
    obtain ⟨o',ho'⟩:=I.base.there T o e (by simp [dz])
    have:=hB T o' ho' (big T o e KI) (.inl (by rw [e];exact fun z=>nomatch z))
    rw [h6] at this;cases this
 have AX:H T=none:=by
  cases e:H T with
  | none=>rfl
  | some o=>
    have lt:=I.hok.lt e
    have nst:T∉frs (envOfC qual scope s0.heap.objs.size f cd::outer):=fun m=>by
     have:=I.xV T m
     rw [e] at this;cases this
    have hob:∃u,s.heap.get? T=some u:=(I.hok T o e).isAt
    obtain ⟨u,hu⟩:=hob
    have:=hB T u hu nst (.inr (by rw [e];exact fun z=>nomatch z))
    rw [h6] at this;cases this
 refine ⟨x,T,C,H,Z,I.os,I.bare,⟨fun b o e n nf _=>?_,fun b o e n m _=>?_,fun b o e n _=>?_,fun b o e _=>?_,I.base.tups,I.base.m9,I.base.pJ⟩,?_,⟨oe,vs,a0,oT,ts,h1,h2,h3,h4,h5,h7,h8,h9,z6⟩,hx,hT0,CM,AX,q⟩
 . exact st b o (hB b o (I.base.keep b o e n nf (by simp [dz])) (big b o e nf) (.inl (by rw [e];exact fun z=>nomatch z)))
 . obtain ⟨sl,hs⟩:=I.base.slot b o e n m (by simp [dz])
   have fr0:=I.ok.oh
   obtain ⟨_,o',ho',hd'⟩:=fr0.mem m
   obtain ⟨K5,hs'⟩:=hup b _ hs (fun vs z=>by
    have ho2:s0.heap.get? b=some o':=ho'
    rw [e] at ho2;cases ho2
    exact hd' vs z)
   exact ⟨K5,hs'⟩
 . exact I.base.free b o e n (by simp [dz])
 . obtain ⟨o',ho'⟩:=I.base.there b o e (by simp [dz])
   by_cases m:b∈frs outer
   . have fr0:=I.ok.oh
     obtain ⟨_,o2,ho2,hd2⟩:=fr.mem m
     exact ⟨o2,ho2⟩
   . exact ⟨o',st b o' (hB b o' ho' (big b o e m) (.inl (by rw [e];exact fun z=>nomatch z)))⟩
 . exact I.hok.L_ fun b o u e hu=>st b u (hB b u hu (fun m=>by have:=I.xV b m;rw [e] at this;cases this) (.inr (by rw [e];exact fun z=>nomatch z)))
theorem XA {x T:Addr} (I:Inv (dz (iC P w) P w K mg base N qual scope f cd A outer s0 H0 E) pins σ H s) (t:Trc s.heap x T C) (hx:s0.heap.get? x=none) (hT:s0.heap.get? T=none) (CM:H x=none) (AX:H T=none)
  (q:E (.ref x) (some C) H):(dz (iC P w) P w K mg base N qual scope f cd A outer s0 H0 E).xe (.ref x) s:=by
 obtain ⟨oe,vs,a0,oT,ts,h1,h2,h3,h4,h5,h6,h7,h8,h9⟩:=t
 have hst:=I.stack
 have XC:s.heap.FunFrames base (envOfC qual scope s0.heap.objs.size f cd::outer):=hst
 have hin:∀env∈(envOfC qual scope s0.heap.objs.size f cd::outer),∀b,env.frame=some b->b∈x::T::frs (envOfC qual scope s0.heap.objs.size f cd::outer):=fun env he b hb=>cL _ (cL _ (Gw.mpr ⟨env,he,hb⟩))
 refine wpAny_leaves_onW (base:=PySem.W.hideAll s.heap (x::T::frs (envOfC qual scope s0.heap.objs.size f cd::outer))) (L:=s0.heap.objs.size) (cls:= .ref C) (a0:=a0) (outer:=outer) I.ok.frames rfl ⟨fun b o e=>Rb _ e,KR _ cO,PySem.W.funFrames_hide XC hin,oe,vs,T,oT,ts,h1,⟨h2,h3⟩,h4,h5,KR _ (cL _ cO),h6,h7,h8,h9⟩ fun h' fl up=>?_
 refine QA I (fun b o e n hb=>Ra _ e fun m=>?_) fl up hx CM q
 rcases dg.mp m with z|m
 . rw [z] at hb
   rcases hb with hb|hb
   . exact hb hx
   . exact hb CM
 . rcases dg.mp m with z|m
   . rw [z] at hb
     rcases hb with hb|hb
     . exact hb hT
     . exact hb AX
   . exact n m
theorem aeV:Passes (iC P w) (dz (iC P w) P w K mg base N qual scope f cd A outer s0 H0 E) E:=fun pins σ H s e s' I h=>by
 obtain ⟨x,T,C,H',rfl,os,bare,un,hok,t,hx,hT,CM,AX,q⟩:=h
 have I':Inv (dz (iC P w) P w K mg base N qual scope f cd A outer s0 H0 E) pins σ H' s':=I.Kz (ch:=[]) os un hok bare (fun b z=>absurd z (by simp))
 have old:∀b,s.heap.get? b=none->s0.heap.get? b=none:=fun b e=>by
  cases q:s0.heap.get? b with
  | none=>rfl
  | some o=>
    obtain ⟨o',ho'⟩:=I.base.there b o q (by simp [dz])
    rw [e] at ho';cases ho'
 exact XA I' t (old x hx) (old T hT) CM AX q
theorem R1 {x:Addr} {args:List Value} (I:Inv (dz (iC P w) P w K mg base N qual scope f cd A outer s0 H0 E) pins σ H s) (hm:Heap.MadeExcOf s.heap h1 x (.ref C) args)
  (q:E (.ref x) (some C) H):(dz (iC P w) P w K mg base N qual scope f cd A outer s0 H0 E).xe (.ref x) { s with heap:=h1 }:=by
 have XC:s.heap.FunFrames base (envOfC qual scope s0.heap.objs.size f cd::outer):=I.stack
 have hin:∀env∈(envOfC qual scope s0.heap.objs.size f cd::outer),∀b,env.frame=some b->b∈frs (envOfC qual scope s0.heap.objs.size f cd::outer):=fun env he b hb=>Gw.mpr ⟨env,he,hb⟩
 have I1:Inv (dz (iC P w) P w K mg base N qual scope f cd A outer s0 H0 E) pins σ H { s with heap:=h1 }:=I.kept (t':=s.toks) hm.keeps
 have CM:H x=none:=by
  cases e:H x with
  | none=>rfl
  | some o=>
    obtain ⟨u,hu⟩:=(I.hok x o e).isAt
    rw [hm.new] at hu;cases hu
 have Ma:s0.heap.get? x=none:=by
  cases e:s0.heap.get? x with
  | none=>rfl
  | some o=>
    obtain ⟨o',ho'⟩:=I.base.there x o e (by simp [dz])
    rw [hm.new] at ho';cases ho'
 refine wpAny_leaves_madeW (base:=PySem.W.hideAll s.heap (frs (envOfC qual scope s0.heap.objs.size f cd::outer))) (h:=s.heap) (L:=s0.heap.objs.size) (outer:=outer) I.ok.frames rfl (fun b o e=>Rb _ e) (PySem.W.funFrames_hide XC hin) hm fun h' t fl _ _ up=>?_
 refine QA I1 (fun b o e n hb=>Ra _ ?_ n) fl up Ma CM q
 rcases hb with hb|hb
 . cases e0:s0.heap.get? b with
   | none=>exact absurd e0 hb
   | some o0=>
     obtain ⟨o',ho'⟩:=I.base.there b o0 e0 (by simp [dz])
     have e':h1.get? b=some o:=e
     have:=hm.keeps b o' ho'
     rw [e'] at this;cases this
     exact ho'
 . cases e0:H b with
   | none=>exact absurd e0 hb
   | some o0=>
     obtain ⟨o',ho'⟩:=(I.hok b o0 e0).isAt
     have e':h1.get? b=some o:=e
     have:=hm.keeps b o' ho'
     rw [e'] at this;cases this
     exact ho'
end
def acL:List Value:=[.type "ValueError", .type "Exception", .type "BaseException", .type "object"]
structure kg (K:Fg) (C:Addr):Prop where
 ex:∃(nm q:Str) (N:Addr) (bs bm:List Value) (hdct:Bool) (sn:List Str) (sub:List Value) (ab:Bool) (col:Option Bool) (dd:Option Addr) (k0 k1 k2 k3 k5:Option Value) (mN:SO),mN "__init__"=none/\bm.contains (.type "BaseException")=true/\∀h:Heap,K.In h->
  h.get? C=some (excClassObj nm q C N bs bm hdct sn sub ab col dd k0 k1 k2 k3 k5 "ValueError.__new__")/\h.Ns N mN/\OwnTail h acL bm
section
variable {P:Program} {w:World} {K:Fg} {mg:SO} {base:Heap} {N:List Str} {qual:Str} {scope:Scope} {f:Addr} {cd:Value} {A:Around} {outer:List Env} {s0:Shared} {H0:Hp} {E:XK}
def acM (C:Addr) (E:XK):TS:=fun _ _ H=>∀x,E (.ref x) (some C) H
structure Dx (P:Program) (w:World) (K:Fg) (mg:SO) (base:Heap) (k:Nat) (x:Str) (ps:List Str) (sp:Sp):Prop where
 ex:∃f fd,iA P w K mg base (iC P w) k f fd ps sp/\Binds K fd ps []/\PySem.W.keepIn K (.ref f)=true/\mg x=some (.ref f)
theorem At.okX {st:Stmt} {f:Addr} {N:List Str} {k:Nat} (F:At K mg x st f fd) (S:aJ N ps (ay st)) (len:∀vs H Q E,sp vs H Q E->vs.length=ps.length)
  (hbody:∀(cdv:Value) (A:Around) (outer:List Env) (s:Shared) (H:Hp) (vs:List V) (Q:VK) (E:XK),dI k (A.deeper (envOfC x (ay st) s.heap.objs.size f cdv))->sp vs H Q E->
    ∃t,qI (dz (iC P w) P w K mg base N x (ay st) f cdv A outer s H E) (cG st) t/\t { nx:=fun _ H'=>Q .cg H',rt:=Q } (start N vs) H)
  (h:∀(kV doc pm:Value) (an:Option Addr) (cdv ct:Value) (us:List Value),us.length=ps.length->bindArgs (PySem.W.fnOf x x (dY st) (cG st) (ay st) .none kV doc pm an cdv ct) ⟨us,[]⟩=pure (ps.zip us)):
  Dx P w K mg base (k+1) x ps sp:=by
 refine ⟨f,fd,?_,F.fn.binds h,F.fn.kp,F.name⟩
 obtain ⟨oc,od,kV,doc,pm,an,cdv,ct,osl,rfl,lk,hcd⟩:=F.fn.ex
 exact Ry lk hcd S len fun A outer s H vs Q E hr pM=>hbody cdv A outer s H vs Q E hr pM
end
def ah5 (h:Heap) (x T C:Addr) (fl:Value):Prop:=∃oe vs a0 oT ts,h.get? x=some oe/\oe.cls = .ref C/\vs[0]?=some a0/\oe.data = .fields vs/\vs[1]?=some (.ref T)/\T≠x/\h.get? T=some oT/\oT.data = .fields ts/\ts[3]?=some fl
structure vo (X:Cx) (pins:AO) (σ:St) (Hc:Hp) (sc:Shared) (H:Hp) (x C:Addr) (fl:Value) (s:Shared):Prop where
 ic:Inv X pins σ Hc sc
 os:s.os=sc.os
 bare:AllBare s.gens
 un:Un (frs X.stack) [] Hc H sc.heap s.heap
 hok:gU X.prog X.w H s.heap
 nx:sc.heap.get? x=none
 hx:H x=none
 tr:∃T,ah5 s.heap x T C fl/\sc.heap.get? T=none/\H T=none
variable {M:Model} {A:Around} {Q:Unit->Shared->Prop}
section
variable {X:Cx} {pins:AO} {σ:St} {Hc H:Hp} {sc s:Shared} {x C:Addr} {fl:Value}
theorem vo.inv (F:vo X pins σ Hc sc H x C fl s):Inv X pins σ H s:=F.ic.Kz (ch:=[]) F.os F.un F.hok F.bare (fun b z=>absurd z (by simp))
theorem vo.step {B:Heap} {fl' a0:Value} (F:vo X pins σ Hc sc H x C fl s) (hB:∀b o,s.heap.get? b=some o->b∉frs X.stack->sc.heap.get? b≠none\/H b≠none->B.get? b=some o)
  (st:B.StaysIn h') (fr:h'.FunFrames B X.stack) (tr:h'.TracedAtW B x (.ref C) a0 fl') (up:s.heap.UpToSlots h'):vo X pins σ Hc sc H x C fl' { s with heap:=h' }:=by
 have I:=F.inv
 obtain ⟨oe,vs,T,oT,ts,h1,⟨h2,h3⟩,h4,h5,h6,h7,h8,h9,z6⟩:=tr
 have KI:T∉frs X.stack:=fun m=>by
  obtain ⟨_,o,ho,hd⟩:=fr.mem m
  rw [h8] at ho;cases ho
  exact hd _ h9
 have hT0:sc.heap.get? T=none:=by
  cases e:sc.heap.get? T with
  | none=>rfl
  | some o=>
    obtain ⟨o',ho'⟩:=F.un.there T o e (by simp)
    have:=hB T o' ho' KI (.inl (by rw [e];exact fun z=>nomatch z))
    rw [h6] at this;cases this
 have AX:H T=none:=by
  cases e:H T with
  | none=>rfl
  | some o=>
    obtain ⟨u,hu⟩:=(F.hok T o e).isAt
    have:=hB T u hu KI (.inr (by rw [e];exact fun z=>nomatch z))
    rw [h6] at this;cases this
 refine ⟨F.ic,F.os,F.bare,⟨fun b o e n nf _=>?_,fun b o e n m _=>?_,F.un.free,fun b o e _=>?_,F.un.tups,F.un.m9,F.un.pJ⟩,?_,F.nx,F.hx,T,⟨oe,vs,a0,oT,ts,h1,h2,h3,h4,h5,h7,h8,h9,z6⟩,hT0,AX⟩
 . exact st b o (hB b o (F.un.keep b o e n nf (by simp)) nf (.inl (by rw [e];exact fun z=>nomatch z)))
 . obtain ⟨sl,hs⟩:=F.un.slot b o e n m (by simp)
   obtain ⟨_,o',ho',hd'⟩:=F.ic.stack.mem m
   obtain ⟨K5,hs'⟩:=up b _ hs (fun vs z=>by
    rw [e] at ho';cases ho'
    exact hd' vs z)
   exact ⟨K5,hs'⟩
 . obtain ⟨o',ho'⟩:=F.un.there b o e (by simp)
   by_cases m:b∈frs X.stack
   . obtain ⟨_,o2,ho2,hd2⟩:=fr.mem m
     exact ⟨o2,ho2⟩
   . exact ⟨o',st b o' (hB b o' ho' m (.inl (by rw [e];exact fun z=>nomatch z)))⟩
 . exact F.hok.L_ fun b o u e hu=>st b u (hB b u hu (fun m=>by have:=I.xV b m;rw [e] at this;cases this) (.inr (by rw [e];exact fun z=>nomatch z)))
theorem vo.hid (F:vo X pins σ Hc sc H x C fl s):∃(a0:Value) (B:Heap),(∀b o,s.heap.get? b=some o->b∉frs X.stack->sc.heap.get? b≠none\/H b≠none->B.get? b=some o)/\B.StaysIn s.heap/\B.get? x=none/\s.heap.FunFrames B X.stack/\s.heap.TracedAtW B x (.ref C) a0 fl:=by
 obtain ⟨T,⟨oe,vs,a0,oT,ts,h1,h2,h3,h4,h5,h6,h7,h8,h9⟩,hT,AX⟩:=F.tr
 have hin:∀env∈X.stack,∀b,env.frame=some b->b∈x::T::frs X.stack:=fun env he b hb=>cL _ (cL _ (Gw.mpr ⟨env,he,hb⟩))
 refine ⟨a0,PySem.W.hideAll s.heap (x::T::frs X.stack),fun b o e n hb=>Ra _ e fun m=>?_,fun b o e=>Rb _ e,KR _ cO,PySem.W.funFrames_hide F.inv.stack hin,oe,vs,T,oT,ts,h1,⟨h2,h3⟩,h4,h5,KR _ (cL _ cO),h6,h7,h8,h9⟩
 rcases dg.mp m with z|m
 . rw [z] at hb
   rcases hb with hb|hb
   . exact hb F.nx
   . exact hb F.hx
 . rcases dg.mp m with z|m
   . rw [z] at hb
     rcases hb with hb|hb
     . exact hb hT
     . exact hb AX
   . exact n m
theorem XD {E:VS} (F:vo X pins σ Hc sc H x C .none s) (hA:A.frames=some X.stack) (hs:X.stack=X.env::X.outer) (hf:X.env.frame=some X.env.locals)
  (h:∀s',vo X pins σ Hc sc H x C (rawInt X.env.locals) s'->Q () s'):wpAny M A (noteFrame (.ref x) X.env) Q E s:=by
 obtain ⟨a0,B,hB,st,bx,fr,tr⟩:=F.hid
 rw [hs] at fr hA
 refine wpAny_looks_onW (base:=B) hA hf ⟨st,bx,fr,tr⟩ fun h' hh up=>?_
 obtain ⟨k1,k2,k3,k4⟩:=hh
 rw [<-hs] at k3
 exact h _ (F.step hB k1 k3 k4 up)
theorem Mb {E:VS} (F:vo X pins σ Hc sc H x C fl s)
  (h:∀s',vo X pins σ Hc sc H x C .none s'->Q () s'):wpAny M A (setFlight (.ref x) none) Q E s:=by
 obtain ⟨a0,B,hB,st,bx,fr,tr⟩:=F.hid
 refine wpAny_setFlight_noneW (base:=B) st fr tr fun h' k1 k2 k3 k4=>h _ (F.step hB k1 k2 k3 fun b o hb hn=>⟨o.slots,k4 b o hb hn⟩)
end
def Dr (x C:Addr):HO:= .ext fun h=>∃o,h.get? x=some o/\o.cls = .ref C
variable {e:Expr} {es:List Expr} {t':Nat}
section
variable {X:Cx} {pins:AO} {σ:St} {Hc H:Hp} {sc s:Shared} {x C:Addr} {fl:Value}
theorem aeW {k:Nat} {g:Str} {t:TA} {p:Pos} (D:Dx X.prog X.w X.K X.mg X.base j g ps sp) (hr:dI k X.A) (hno:∀e s,X.xe e s->False) (ha:PA X (e::es) t) (hj:j<=k) (hg:Gl X g)
  (hdb:(g==("__debug__":Str))=false) (he:starEach (e::es) X.env=(false,eval e X.env)::starEach es X.env) (hpl:(backTo pos (starEach es X.env)).any (·.1)=false)
  {Q:VK} {R:Addr->Hp->Prop} (I:Inv X pins σ H s) (h:t σ H fun vs H1=>sp (vs++[]) H1 Q fun _ c H'=>∃C,c=some C/\R C H'):
  wpAny (model X.prog X.w) X.A (eval (.Call (.Name g p) (e::es) [] pos) X.env) (EP X pins σ Q) (fun ev s'=>∃x C Hc sc H',ev = .ref x/\vo X pins σ Hc sc H' x C .none s'/\R C H') s:=by
 obtain ⟨f,fd,F,hb,kp,m⟩:=D.ex
 refine Gx (qO I hg m ?_ hdb)
 refine Rc (h₀:=X.base) I.ok.mod.Pp kp (gY (ha pos pins s σ H _ I h) (fun us s1 ⟨vs,H1,I1,r,q⟩=>⟨I1.iP,?_⟩) fun _ _ z=>(hno _ _ z).elim) he hpl
 have r2:Vals (vs++[]) (us++[]):=r.append .nil
 have hl:(us++[]).length=ps.length:=by rw [<-r2.length];exact F.len _ _ _ _ q
 refine wpAny_call (BI (F.run X.A X.stack s1 H1 ⟨us,[]⟩ (us++[]) (vs++[]) Q _ (hr.mono hj) I1.Wz (hb s1 us I1.iP hl) r2 q) fun r s' hq=>?_)
 cases r with
 | error e=>
   have hq':iC X.prog X.w X.stack H1 s1 (fun _ c H'=>∃C,c=some C/\R C H') e s':=hq
   obtain ⟨x,T,C,H',rfl,os,bare,un,hok,tr,hx,hT,CM,AX,C',ec,hR⟩:=hq'
   cases ec
   exact ⟨x,C,H1,s1,H',Z,⟨I1,os,bare,un,hok,hx,CM,T,tr,hT,AX⟩,hR⟩
 | ok fl=>
   cases fl with
   | ret u=>exact I1.after hq
   | next=>exact False.elim hq
   | brk=>exact False.elim hq
   | cont=>exact False.elim hq
abbrev Cx.held (X:Cx) (x:Addr):Cx:={ X with A:=X.A.mark (some (.ref x)),calm:=false }
theorem Inv.held (I:Inv X pins σ H s) (x:Addr):Inv (X.held x) pins σ H s:=
 ⟨⟨I.ok.mod,I.ok.kind,I.ok.glob,I.ok.blt,I.ok.above,I.ok.inj,I.ok.has,I.ok.gW,(fun z=>nomatch z),I.ok.frames,I.ok.stk,I.ok.K3,I.ok.bs,I.ok.Eg,I.ok.GC,I.ok.C0,I.ok.oh,I.ok.Im⟩,I.os,I.bare,I.base,I.loc,I.cell,I.free,I.jP,I.pin,I.hok,I.len⟩
theorem vo.known (F:vo X pins σ Hc sc H x C fl s):Inv X pins σ (upd H x (Dr x C)) s:=by
 have I:=F.inv
 have ne:∀{b o},sc.heap.get? b=some o->b≠x:=fun e z=>by rw [z,F.nx] at e;cases e
 have ne0:∀{b o},X.s₀.heap.get? b=some o->b∉X.ex->b≠x:=fun {b o} e n=>by
  obtain ⟨o',ho'⟩:=F.ic.base.there b o e n
  exact ne ho'
 have Vg:∀{b o},H b=some o->b≠x:=fun e z=>by rw [z,F.hx] at e;cases e
 obtain ⟨T,⟨oe,vs,a0,oT,ts,h1,h2,_⟩,_⟩:=F.tr
 refine ⟨I.ok,I.os,I.bare,⟨I.base.keep,I.base.slot,fun b o e n nx=>?_,I.base.there,fun b xs e=>?_,fun b o u e=>?_,fun b ps e=>?_⟩,I.loc,I.cell,?_,fun y c e=>?_,fun p hp=>?_,fun b o e=>?_,I.len⟩
 . rw [av (ne0 e nx)];exact I.base.free b o e n nx
 . have z:=I.base.tups b xs e
   rw [av (Vg z)];exact z
 . have z:=I.base.m9 b o u e
   rw [av (Vg z)];exact z
 . obtain ⟨more,z⟩:=I.base.pJ b ps e
   exact ⟨more,by rw [av (Vg z)];exact z⟩
 . obtain ⟨m,⟨o,_,_,ho,_⟩,_⟩:=F.ic.loc
   rw [av (ne ho)];exact I.free
 . obtain ⟨v,o,ho,_⟩:=F.ic.cell y c e
   rw [av (ne ho)];exact I.jP y c e
 . obtain ⟨a,b,c⟩:=I.pin p hp
   obtain ⟨a',_⟩:=F.ic.pin p hp
   exact ⟨a,by rw [av (ne a')];exact b,c⟩
 . by_cases z:b=x
   . subst z
     rw [ak] at e
     cases e
     exact ⟨⟨oe,h1,h2⟩,⟨oe,h1⟩,fun h1 h2 ⟨o,a,c⟩ k=>⟨o,k o a,c⟩⟩
   . rw [av z] at e
     exact (F.hok b o e).stay (fun _ _ _ q=>q) (fun c q=>by rw [av (Vg q)];exact q) fun c xs q=>by rw [av (Vg q)];exact q
theorem Inv.gone {n:Str} {v:Option Value} {m:SO} (I:Inv X pins σ H s) (hN:X.N.Nodup) (hj:X.N[j]?=some n) (hm:s.heap.Ns X.env.locals m) (hl:∀(i:Nat) (x:Str) (v:V),X.N[i]?=some x->σ[i]?=some (some v)->Tj X.env.scope x->∃u,RelV v u/\Look X.env s.heap m x u)
  (hn:h'.Ns X.env.locals (fun x=>if x=n then v else m x)) (hs:Heap.SameBut X.env.locals s.heap h'):Inv X pins (σ.set j none) H { s with heap:=h',toks:=t' }:=by
 have Pq:∀b o,X.s₀.heap.get? b=some o->b≠X.env.locals:=fun b o e=>dS (lq (bQ e) I.ok.above)
 have kp:∀b o,b≠X.env.locals->s.heap.get? b=some o->h'.get? b=some o:=fun b o ne e=>(hs.2 b ne).trans e
 have cellK:∀x c,X.env.cells.lookup x=some c->∀v,s.heap.IsCell c v->h'.IsCell c v:=fun x c e v ⟨o,ho,hd⟩=>⟨o,kp c o (I.Io x c e) ho,hd⟩
 refine ⟨I.ok,I.os,I.bare,⟨fun b o e n hb hx=>kp b o (Pq b o e) (I.base.keep b o e n hb hx),fun b o e n hb hx=>?_,I.base.free,fun b o e hx=>?_,I.base.tups,I.base.m9,I.base.pJ⟩,?_,fun x c e=>?_,I.free,I.jP,fun p hp=>?_,?_,by rw [jN];exact I.len⟩
 . obtain ⟨sl,e1⟩:=I.base.slot b o e n hb hx
   exact ⟨sl,kp b _ (Pq b o e) e1⟩
 . obtain ⟨o',e1⟩:=I.base.there b o e hx
   exact ⟨o',kp b o' (Pq b o e) e1⟩
 . refine ⟨_,hn,fun i y w e1 e2 e3=>?_⟩
   by_cases z:i=j
   . subst z
     rw [List.getElem?_set_self'] at e2
     cases q:σ[i]? with
     | none=>rw [q] at e2;cases e2
     | some a=>rw [q] at e2;cases e2
   . rw [Ak (cy z)] at e2
     obtain ⟨u,r,l⟩:=hl i y w e1 e2 e3
     refine ⟨u,r,?_⟩
     rcases l with ⟨k,l⟩|⟨k,c,e,zc⟩
     . have hne:y≠n:=fun q=>z (yK hN e1 (q▸hj))
       exact .inl ⟨k,by show (if y=n then v else m y)=some u;rw [az hne];exact l⟩
     . exact .inr ⟨k,c,e,cellK y c e _ zc⟩
 . obtain ⟨v,z⟩:=I.cell x c e
   exact ⟨v,cellK x c e v z⟩
 . obtain ⟨e,n,ne,nf,d⟩:=I.pin p hp
   exact ⟨kp p.1 p.2 ne e,n,ne,nf,d⟩
 . exact I.hok.L_ fun b o u e hu=>kp b u (fun z=>by rw [z,I.free] at e;cases e) hu
end
def FX (X:Cx) (pins:AO) (R:Addr->St->Hp->Prop) (ev:Value) (s:Shared):Prop:=
 ∃x C σ Hc sc H',ev = .ref x/\vo X pins σ Hc sc H' x C .none s/\R C σ H'
abbrev TX:=Ends->(Addr->St->Hp->Prop)->St->Hp->Prop
def PX (X:Cx) (st:List Stmt) (t:TX):Prop:=
 ∀(pins:AO) (s:Shared) (σ:St) (H:Hp) (D:Ends) (R:Addr->St->Hp->Prop),Inv X pins σ H s->t D R σ H->wpAny (model X.prog X.w) X.A (execs st X.env) (SP X pins D) (FX X pins R) s
def aeX (sp:Sp) (t:TA):TX:=fun D R σ H=>t σ H fun vs H1=>sp (vs++[]) H1 (fun v H'=>v = .cg/\D.nx σ H') fun _ c H'=>∃C,c=some C/\R C σ H'
def ah6 (K:Fg) (J:Addr) (j:Nat) (t:TX) (u:TS):TS:=fun D σ H=>
 t D (fun C σ' H'=>PySem.W.exmOne K (.ref C) (.ref J)=some true/\∀x,H' x=none->u { nx:=fun σ2 H2=>D.nx (σ2.set j none) H2,rt:=D.rt,bk:=fun σ2 H2=>D.bk (σ2.set j none) H2,ct:=fun σ2 H2=>D.ct (σ2.set j none) H2 } (σ'.set j (some (.ref x))) (upd H' x (Dr x C))) σ H
section
variable {X:Cx} {pins:AO} {σ:St} {Hc H:Hp} {sc s:Shared} {x C:Addr} {fl:Value}
theorem Inv.acO (I':Inv (X.held x) pins σ H s) (ok:X.Ok):Inv X pins σ H s:=
 ⟨ok,I'.os,I'.bare,I'.base,I'.loc,I'.cell,I'.free,I'.jP,I'.pin,I'.hok,I'.len⟩
end
open PySem.W PySem.Calls Builtin.ObjectAttr Builtin.Getset_descriptor
structure nH (K:Frag) (C:Addr):Prop where
 ga:findIn K (.ref C) "__getattribute__"=some (some (.builtin "BaseException.__getattribute__"))
 gn:findIn K (.ref C) "__getattr__"=some none
 ca:findIn K (.ref C) "__class__"=some (some (.builtin "object.__class__"))
 mo:mroIn K C (.type "object")=some true
 mb:mroIn K C (.type "BaseException")=some true
 is:(clsIn K C).isSome=true
section
variable {prog:Program} {w:World} {A:Around} {E:VS} {h:Heap} {g:Array GenState} {d:Drawn} {t:Nat} {os:OsState} {x C:Addr} {o:Obj} {K:Frag} {R:Result->Shared->Prop}
theorem E5 (hx:h.get? x=some o) (hc:o.cls = .ref C):Looks M h (typeOf (.ref x)) (.ref C):=hc▸(Looks.ld hx).andThen .now
theorem acP {tp:Value} (X:K.In h) (ec:nH K C) (hx:h.get? x=some o) (hc:o.cls = .ref C) (hq:R (.ok (.ret (.ref C))) ⟨h,g,d,t,os⟩):
  codeAny (model prog w) A (.call (.builtin "getset_descriptor.__get__") ⟨[.builtin "object.__class__", .ref x,tp],[]⟩) R ⟨h,g,d,t,os⟩:=by
 have L0:=E5 (M:=model prog w) hx hc
 have L1:=looks_mroIn (M:=model prog w) X ec.mo
 refine codeAny_call_builtin KF.slot_gs.plain KF.entry_gs (KF.slot_gs.check _ _ _ _ _ _ _ _ KF.type_class (KF.args_gs _ _ _) ?_)
 unfold Builtin.«getset_descriptor.__get__» descrGet
 rw [dga_obj]
 refine aq (aL ?_)
 unfold descrGetter descrCheckInstance descrNameAndClass isInstance
 simp only [KF.owner_class]
 repeat lk
 refine ⟨Code.quiet_builtin _ (by decide +kernel),codeAny_builtin KF.entry_class ?_⟩
 unfold Builtin.«object.__class__» shownTypeOf
 repeat lk
 exact hq
theorem XE {tk:Tok} {Q:Fin->Shared->Prop} (X:K.In h) (ec:nH K C) (hx:h.get? x=some o) (hc:o.cls = .ref C) (hq:Q (.done (.ret (.ref C))) ⟨h,g,d,t,os⟩):
  wpAny (model prog w) A (Builtin.«object.__getattribute__» ⟨[.ref x, .str "__class__" tk],[]⟩) Q E ⟨h,g,d,t,os⟩:=by
 have L0:=E5 (M:=model prog w) hx hc
 have L1:=looks_findIn (M:=model prog w) X ec.ca
 have hT5:(⟨h,g,d,t,os⟩:Shared).TypeIs (.builtin "object.__class__") "getset_descriptor":=F.typeOf_object_class
 have f5:=F.typeOf_object_class
 have f6:=F.slot_gs_get.lookup
 have f7:=F.slot_gs_set.lookup
 repeat (any_goals (first|assumption|with_reducible refine Looks.at L0 ?_|with_reducible refine Looks.at L1 ?_|wp_step))
 refine acP X ec hx hc ?_
 repeat (any_goals (first|assumption|wp_step))
theorem XF {nameV:Value} (X:K.In h) (ec:nH K C) (hx:h.get? x=some o) (hc:o.cls = .ref C) (hq:Q () ⟨h,g,d,t,os⟩):
  wpAny M A (checkBuiltinCall "BaseException.__getattribute__" ⟨[.ref x,nameV],[]⟩) Q E ⟨h,g,d,t,os⟩:=by
 have hk:builtinKind "BaseException.__getattribute__"=some .slot:=by decide +kernel
 have hsplit:splitId "BaseException.__getattribute__"=some ("BaseException","__getattribute__"):=by decide +kernel
 have L0:=E5 (M:=M) hx hc
 have L1:=looks_mroIn (M:=M) X ec.mb
 have ha:=F.args_bexc_ga (.ref x) nameV
 simp only [checkBuiltinCall,hk,hsplit]
 refine aq ?_
 . unfold isInstance
   repeat (first|with_reducible refine Looks.at L0 ?_|with_reducible refine Looks.at L1 ?_|wp_step)
   exact hq
theorem aaj {tk:Tok} (X:K.In h) (ec:nH K C) (hx:h.get? x=some o) (hc:o.cls = .ref C) (hq:R (.ok (.ret (.ref C))) ⟨h,g,d,t,os⟩):
  codeAny (model prog w) A (.call (.builtin "BaseException.__getattribute__") ⟨[.ref x, .str "__class__" tk],[]⟩) R ⟨h,g,d,t,os⟩:=
 codeAny_call_builtin F.excAttr_ValueError.ga.plain F.entry_bexc_ga (XF X ec hx hc (XE X ec hx hc hq))
theorem aeY {tk:Tok} {fill expr:Bool} {Q:VS} (X:K.In h) (ec:nH K C) (hx:h.get? x=some o) (hc:o.cls = .ref C) (hq:Q (.ref C) ⟨h,g,d,t,os⟩):
  wpAny (model prog w) A (getAttrBy (.ref x) (.str "__class__" tk) fill expr) Q E ⟨h,g,d,t,os⟩:=by
 have L0:=E5 (M:=model prog w) hx hc
 have L1:=looks_findIn (M:=model prog w) X ec.ga
 have L2:=looks_findIn (M:=model prog w) X ec.gn
 have f3:=F.excAttr_ValueError.ga.bind (.ref x)
 have Ma:(expr && onTheHeap (Value.builtin "BaseException.__getattribute__"))=false:=by cases expr <;> rfl
 have hx2:(Value.builtin "BaseException.__getattribute__"==Value.builtin "object.__getattribute__")=false:=by decide +kernel
 have Vh:(onTheHeap (Value.ref C) && Value.builtin "BaseException.__getattribute__"==Value.builtin "object.__getattribute__")=false:=by rw [hx2];rfl
 repeat (any_goals (first|assumption|with_reducible refine Looks.at L0 ?_|with_reducible refine Looks.at L1 ?_|with_reducible refine Looks.at L2 ?_|wp_step))
 refine aaj X ec hx hc ?_
 repeat (any_goals (first|assumption|wp_step))
theorem aak {Q:Option Value->Shared->Prop} (X:K.In h) (ec:nH K C) (hx:h.get? x=some o) (hc:o.cls = .ref C) (hq:Q (some (.ref C)) ⟨h,g,d,t+1,os⟩):
  wpAny (model prog w) A (getAttr? (.ref x) "__class__") Q E ⟨h,g,d,t,os⟩:=by
 unfold getAttr? getAttrBy?
 repeat (any_goals (first|assumption|with_reducible apply aeY X ec hx hc|wp_step))
theorem XG (ec:nH K C):KitX K (.ref x) (.ref C) (fun h=>∃o,h.get? x=some o/\o.cls = .ref C) where
 ty:=fun _ _ _ ⟨o,hx,hc⟩=>E5 hx hc
 it:=fun _ _ X _=>by
  have:=ec.is
  unfold clsIn at this
  split at this
  . rename_i c' d' cd' K5 ho
    intro A' Q' E' s' k q
    unfold isType loadHead
    exact aq (wpAny_loadPart (k _ _ (X _ _ ho)) (aL q))
  . cases this
 ne:=fun h tp dd its n sl X htp=>by
  have:=ec.is
  refine pD.mpr fun q=>?_
  have e:C=tp:=Value.ref.inj (nM.mp q)
  subst e
  unfold clsIn at this
  split at this
  . rename_i c' d' cd' K5 ho
    have z:=(X _ _ ho).symm.trans htp
    cases z
  . cases this
 ca:=fun {_ _ _ _ _ s} X ⟨o,hx,hc⟩ k=>by
  obtain ⟨h,g,d,t,os⟩:=s
  exact aak X ec hx hc k
end
theorem Mc {K:Frag} {bmB:List Value} {x:Value} (hb:bmB.contains x=true):∀{l:List Value},tailIn K bmB l=true->l.contains x=true
 | [],e=>by rw [nM.mp (show (bmB==[])=true from e)] at hb;exact hb
 | v::r,e=>by
   unfold tailIn at e
   rcases Gu.mp e with q|q
   . rw [nM.mp q];exact hb
   . split at q
     . split at q
       . simp only [GB] at q
         rw [List.contains_cons,Mc hb q.2,Bool.or_true]
       . cases q
     . cases q
def ye (K:Frag) (N:Addr) (x:Str):Option Value:=match K.lookup N with
 | some o=>(match o.data with | .dict es _=>nsFind es x|_=>none)
 | none=>none
theorem R3 {K:Frag} {N:Addr} (X:K.In h) (e:nsOkIn K N=true):h.nsMap N=ye K N:=by
 unfold nsOkIn at e
 split at e
 . rename_i ho
   funext x
   unfold ye Heap.nsMap
   rw [X _ _ ho,ho]
 . cases e
theorem Me {K:Frag} {N:Addr} (q:nsIn K N x=some none):ye K N x=none:=by
 unfold nsIn at q
 unfold ye
 split at q
 . rename_i c d es n sl ho
   rw [ho]
   show nsFind es x=none
   split at q
   . cases q
   . rename_i he
     unfold nsFind findBy
     rw [<-Array.find?_toList,he]
     rfl
 . cases q
theorem kg.of {K:Frag} (q:excIn K C acL "ValueError.__new__"=true):kg K C:=by
 unfold excIn at q
 split at q
 . rename_i dd cd sl ho
   split at q
   . rename_i C' bm k0 k1 k2 k3 n k5 hm hs
     simp only [GB,nM,Bool.not_eq_true'] at q
     obtain ⟨⟨⟨⟨⟨rfl,rfl⟩,acQ⟩,ht⟩,hok⟩,hni⟩:=q
     obtain ⟨nm,bs,mro,ns,qn,hd,sn,sub,ab,col,del⟩:=cd
     dsimp only at hm acQ hok hni
     subst hm acQ
     have hsl:sl=#[k0,k1,k2,k3,some (.builtin "ValueError.__new__"),k5] :=by
      obtain ⟨l⟩:=sl
      simp only at hs
      rw [hs]
     subst hsl
     refine ⟨nm,qn,ns,bs,bm,hd,sn,sub,ab,col,dd,k0,k1,k2,k3,k5,ye K ns,Me hni,Mc (by decide +kernel) ht,fun h X=>⟨X _ _ ho,?_,tail_of_in X ht⟩⟩
     have:=Heap.Ns.of_isNs (isNs_of_in X hok)
     rw [R3 X hok] at this
     exact this
   . cases q
 . cases q
def Mf:V->Value
 | .ref a=> .ref a
 | .ty n=> .type n
 | _=> .none
section
variable {X:Cx}
theorem fu (K:Frag) (hK:X.K=K):gI X (.builtin "isinstance") (fun xs H Q=>∃x C c b,xs=[.ref x,c]/\H x=some (Dr x C)/\nH K C/\RelV c (Mf c)/\kitOne K (.ref C) (Mf c)=some b/\Q (.bl b) H):=by
 subst hK
 intro pins s σ H xs us Q I r h
 obtain ⟨x,C,c,b,rfl,hx,ec,rc,e,q⟩:=h
 obtain ⟨u,w',rfl,ru,rw'⟩:=vals2 r
 have e1:u = .ref x:=ru
 subst e1
 have e2:w'=Mf c:=by
  cases c with
  | ref a=>exact rw'
  | ty n=>exact rw'
  | cg=>exact rw'
  | bl b=>exact nomatch (show Value.none=Value.bool b from rc)
  | int i=>obtain ⟨t,z⟩:=(show ∃t,Value.none=Value.int i t from rc);cases z
  | str i=>obtain ⟨t,z⟩:=(show ∃t,Value.none=Value.str i t from rc);cases z
  | xU i=>obtain ⟨t,z⟩:=(show ∃t,Value.none=Value.bytes i t from rc);cases z
  | Ik i=>obtain ⟨t,z⟩:=(show ∃t,Value.none=Value.float i t from rc);cases z
 subst e2
 exact kia_one (XG ec) I.iP (I.hok x _ hx).1 e (fun z=>nomatch z) fun tk=>⟨.bl b,H,I.tok _,Z,q⟩
end
structure Ec where
 (bad twice E6 sU E7 sV AY rows Mg E8 XH:Addr)
structure Told (K:Frag) (e:Ec) (C:Addr) (i:Nat):Prop where
 ec:nH K C
 jt:exmOne K (.ref C) (.ref e.XH)=some true
 ve:kitOne K (.ref C) (.type "ValueError")=some true
 k0:kitOne K (.ref C) (.ref e.bad)=some (decide (0=i))
 k1:kitOne K (.ref C) (.ref e.twice)=some (decide (1=i))
 k2:kitOne K (.ref C) (.ref e.E6)=some (decide (2=i))
 k3:kitOne K (.ref C) (.ref e.sU)=some (decide (3=i))
 k4:kitOne K (.ref C) (.ref e.E7)=some (decide (4=i))
 k5:kitOne K (.ref C) (.ref e.sV)=some (decide (5=i))
 k6:kitOne K (.ref C) (.ref e.AY)=some (decide (6=i))
 k7:kitOne K (.ref C) (.ref e.rows)=some (decide (7=i))
 k8:kitOne K (.ref C) (.ref e.Mg)=some (decide (8=i))
 k9:kitOne K (.ref C) (.ref e.E8)=some (decide (9=i))
def Mh (i:Nat):List Bool:=true::(List.range 10).map fun k=>decide (k=i)
def G0 (i:Nat):List V:=(Mh i).map V.bl
theorem Told.of {K:Frag} {e:Ec} {b0 b1 b2 b3 b4 b5 b6 b7 b8 b9:Bool} (ga:findIn K (.ref C) "__getattribute__"=some (some (.builtin "BaseException.__getattribute__"))) (gn:findIn K (.ref C) "__getattr__"=some none) (ca:findIn K (.ref C) "__class__"=some (some (.builtin "object.__class__")))
  (mo:mroIn K C (.type "object")=some true) (mb:mroIn K C (.type "BaseException")=some true) (jt:exmOne K (.ref C) (.ref e.XH)=some true) (ve:kitOne K (.ref C) (.type "ValueError")=some true)
  (k0:kitOne K (.ref C) (.ref e.bad)=some b0) (k1:kitOne K (.ref C) (.ref e.twice)=some b1) (k2:kitOne K (.ref C) (.ref e.E6)=some b2) (k3:kitOne K (.ref C) (.ref e.sU)=some b3) (k4:kitOne K (.ref C) (.ref e.E7)=some b4)
  (k5:kitOne K (.ref C) (.ref e.sV)=some b5) (k6:kitOne K (.ref C) (.ref e.AY)=some b6) (k7:kitOne K (.ref C) (.ref e.rows)=some b7) (k8:kitOne K (.ref C) (.ref e.Mg)=some b8) (k9:kitOne K (.ref C) (.ref e.E8)=some b9)
  (h:[b0,b1,b2,b3,b4,b5,b6,b7,b8,b9]=(List.range 10).map fun k=>decide (k=i)):Told K e C i:=by
 have h':[b0,b1,b2,b3,b4,b5,b6,b7,b8,b9]=[decide (0=i),decide (1=i),decide (2=i),decide (3=i),decide (4=i),decide (5=i),decide (6=i),decide (7=i),decide (8=i),decide (9=i)] :=h
 simp only [List.cons.injEq,and_true] at h'
 obtain ⟨rfl,rfl,rfl,rfl,rfl,rfl,rfl,rfl,rfl,rfl⟩:=h'
 have is:(clsIn K C).isSome=true:=by
  unfold mroIn at mo
  obtain ⟨cd,a,b⟩:=Option.bind_eq_some_iff.mp mo
  rw [a];rfl
 exact ⟨⟨ga,gn,ca,mo,mb,is⟩,jt,ve,k0,k1,k2,k3,k4,k5,k6,k7,k8,k9⟩
def vq (K:Frag) (j:Nat) (c:V):TE:=tCB (fun xs H Q=>∃x C c b,xs=[.ref x,c]/\H x=some (Dr x C)/\nH K C/\RelV c (Mf c)/\kitOne K (.ref C) (Mf c)=some b/\Q (.bl b) H) (jQ (C3 j) (jQ (tC c) m_))
def aeZ (K:Frag) (e:Ec) (i j:Nat):TS:=
 xo (Ao (Rx (jQ (vq K j (.ty "ValueError")) (jQ (vq K j (.ref e.bad)) (jQ (vq K j (.ref e.twice)) (jQ (vq K j (.ref e.E6)) m_))))) (gh i))
  (xo (Ao (Em WH (C3 i) (Rx (jQ (vq K j (.ref e.sU)) (jQ (vq K j (.ref e.E7)) (jQ (vq K j (.ref e.sV)) m_))))) (gh i))
    (Ao (Em WH (C3 i) (Rx (jQ (vq K j (.ref e.AY)) (jQ (vq K j (.ref e.rows)) (jQ (vq K j (.ref e.Mg)) (jQ (vq K j (.ref e.E8)) m_)))))) (gh i)))
section
theorem R4 {K:Frag} {e:Ec} {σ:St} {x:Addr} (to:Told K e C n) (hj:σ[j]?=some (some (.ref x))) (hi:i<σ.length) (hij:i≠j) (hx:H x=some (Dr x C))
  (q:∀l H',aI H H'->H' l=some (.lst (G0 n))->D.nx (σ.set i (some (.ref l))) H'):aeZ K e i j D σ H:=by
 have YM:∀(σ:St) (v:V),i<σ.length->(σ.set i (some v))[i]?=some (some v):=fun σ v h=>kC h
 have YN:∀(σ:St) (v:V),σ[j]?=some (some (.ref x))->(σ.set i (some v))[j]?=some (some (.ref x)):=fun σ v h=>by rw [Ak hij];exact h
 refine ⟨_,hj,x,C,_,_,Z,hx,to.ec,Z,to.ve,?_⟩
 refine ⟨_,hj,x,C,_,_,Z,hx,to.ec,Z,to.k0,?_⟩
 refine ⟨_,hj,x,C,_,_,Z,hx,to.ec,Z,to.k1,?_⟩
 refine ⟨_,hj,x,C,_,_,Z,hx,to.ec,Z,to.k2,?_⟩
 refine ⟨(show 4<=sizeLine from by rw [fj];decide),fun p1 hp1=>?_⟩
 generalize hH1:upd H p1 (HO.lst _)=H1
 have XI:upd H p1 (.lst [V.bl true,V.bl (decide (0=n)),V.bl (decide (1=n)),V.bl (decide (2=n))])=H1:=hH1
 have g1:aI H H1:=XI▸aA hp1 _
 have h1:H1 p1=some (.lst [V.bl true,V.bl (decide (0=n)),V.bl (decide (1=n)),V.bl (decide (2=n))]):=by rw [<-XI,ak]
 clear hH1 XI
 have hj1:=YN σ (.ref p1) hj
 have Vh:=g1 _ _ hx
 refine ⟨_,YM _ _ hi,?_⟩
 refine ⟨_,hj1,x,C,_,_,Z,Vh,to.ec,Z,to.k3,?_⟩
 refine ⟨_,hj1,x,C,_,_,Z,Vh,to.ec,Z,to.k4,?_⟩
 refine ⟨_,hj1,x,C,_,_,Z,Vh,to.ec,Z,to.k5,?_⟩
 refine ⟨(show 3<=sizeLine from by rw [fj];decide),fun p2 hp2=>?_⟩
 generalize hH2:upd H1 p2 (HO.lst _)=H2
 have XJ:upd H1 p2 (.lst [V.bl (decide (3=n)),V.bl (decide (4=n)),V.bl (decide (5=n))])=H2:=hH2
 have g2:aI H1 H2:=XJ▸aA hp2 _
 have h2:H2 p2=some (.lst [V.bl (decide (3=n)),V.bl (decide (4=n)),V.bl (decide (5=n))]):=by rw [<-XJ,ak]
 clear hH2 XJ
 refine ⟨p1,p2,_,_,Z,Z,g2 _ _ h1,h2,(show 4+3<=sizeLine from by rw [fj];decide),fun p3 hp3=>?_⟩
 generalize Jj:upd H2 p3 (HO.lst _)=H3
 have tL:upd H2 p3 (.lst [V.bl true,V.bl (decide (0=n)),V.bl (decide (1=n)),V.bl (decide (2=n)),V.bl (decide (3=n)),V.bl (decide (4=n)),V.bl (decide (5=n))])=H3:=Jj
 have g3:aI H2 H3:=tL▸aA hp3 _
 have h3:H3 p3=some (.lst [V.bl true,V.bl (decide (0=n)),V.bl (decide (1=n)),V.bl (decide (2=n)),V.bl (decide (3=n)),V.bl (decide (4=n)),V.bl (decide (5=n))]):=by rw [<-tL,ak]
 clear Jj tL
 have Qs:=YN _ (.ref p3) hj1
 have QB:=g3 _ _ (g2 _ _ Vh)
 refine ⟨_,YM _ _ (by rw [jN];exact hi),?_⟩
 refine ⟨_,Qs,x,C,_,_,Z,QB,to.ec,Z,to.k6,?_⟩
 refine ⟨_,Qs,x,C,_,_,Z,QB,to.ec,Z,to.k7,?_⟩
 refine ⟨_,Qs,x,C,_,_,Z,QB,to.ec,Z,to.k8,?_⟩
 refine ⟨_,Qs,x,C,_,_,Z,QB,to.ec,Z,to.k9,?_⟩
 refine ⟨(show 4<=sizeLine from by rw [fj];decide),fun p4 Mi=>?_⟩
 generalize Vi:upd H3 p4 (HO.lst _)=H4
 have Ds:upd H3 p4 (.lst [V.bl (decide (6=n)),V.bl (decide (7=n)),V.bl (decide (8=n)),V.bl (decide (9=n))])=H4:=Vi
 have g4:aI H3 H4:=Ds▸aA Mi _
 have h4:H4 p4=some (.lst [V.bl (decide (6=n)),V.bl (decide (7=n)),V.bl (decide (8=n)),V.bl (decide (9=n))]):=by rw [<-Ds,ak]
 clear Vi Ds
 refine ⟨p3,p4,_,_,Z,Z,g4 _ _ h3,h4,(show 7+4<=sizeLine from by rw [fj];decide),fun p5 hp5=>?_⟩
 have g5:=aA hp5 (.lst (G0 n))
 have:=q p5 (upd H4 p5 (.lst (G0 n))) (g1.trans (g2.trans (g3.trans (g4.trans g5)))) ak
 show D.nx (((σ.set i _).set i _).set i _) _
 rw [rP,rP]
 exact this
end
structure Mx (P:Program) (w:World) (K:Fg) (mg:SO) (base:Heap) (k:Nat) (C:Addr) (m:Str) (ps:List Str) (sp:Sp):Prop where
 ex:∃f fd,iA P w K mg base (iC P w) k f fd ps sp/\Binds K fd ps []/\Meth K C m f/\oU K C
theorem jb.okX {w:World} {m:Str} {st:Stmt} {k:Nat} (F:jb K C m qual st f fd) (S:aJ N ps (ay st)) (len:∀vs H Q E,sp vs H Q E->vs.length=ps.length)
  (hbody:∀(cdv:Value) (A:Around) (outer:List Env) (s:Shared) (H:Hp) (vs:List V) (Q:VK) (E:XK),dI k (A.deeper (envOfC qual (ay st) s.heap.objs.size f cdv))->sp vs H Q E->
    ∃t,qI (dz (iC P w) P w K mg base N qual (ay st) f cdv A outer s H E) (cG st) t/\t { nx:=fun _ H'=>Q .cg H',rt:=Q } (start N vs) H)
  (h:∀(kV doc pm:Value) (an:Option Addr) (cdv ct:Value) (us:List Value),us.length=ps.length->bindArgs (PySem.W.fnOf m qual (dY st) (cG st) (ay st) .none kV doc pm an cdv ct) ⟨us,[]⟩=pure (ps.zip us)):
  Mx P w K mg base (k+1) C m ps sp:=by
 refine ⟨f,fd,?_,F.fn.binds h,F.me,F.cl⟩
 obtain ⟨oc,od,kV,doc,pm,an,cdv,ct,osl,rfl,lk,hcd⟩:=F.fn.ex
 exact Ry lk hcd S len fun A outer s H vs Q E hr pM=>hbody cdv A outer s H vs Q E hr pM
theorem iA.noX {w:World} {k:Nat} {Vj:Sp} (F:iA P w K mg base (iC P w) k f fd ps sp) (h:∀vs H Q E,Vj vs H Q E->sp vs H Q E0):iA P w K mg base ug k f fd ps Vj:=
 ⟨fun vs H Q E q=>F.len _ _ _ _ (h _ _ _ _ q),fun A outer s H args us vs Q E hr he hb hv hs=>BI (F.run A outer s H args us vs Q E0 hr he hb hv (h _ _ _ _ hs)) fun r s' q=>by
   cases r with
   | error e=>
     obtain ⟨x,T,C,H',_,_,_,_,_,_,_,_,_,_,z⟩:=(show iC P w outer H s E0 e s' from q)
     exact z.elim
   | ok fl=>cases fl <;> exact q⟩
theorem Mx.mn {w:World} {k:Nat} {m:Str} {Vj:Sp} (D:Mx P w K mg base k C m ps sp) (h:∀vs H Q E,Vj vs H Q E->sp vs H Q E0):Mn P w K mg base k C m ps Vj:=by
 obtain ⟨f,fd,F,b,me,c⟩:=D.ex
 exact ⟨f,fd,F.noX h,b,me,c⟩
section
variable {P:Program} {w:World} {K:Fg} {mg:SO} {base:Heap} {N:List Str} {qual:Str} {scope:Scope} {f:Addr} {cd:Value} {A:Around} {outer:List Env} {s0:Shared} {H0:Hp} {E:XK}
end
section
variable {X:Cx}
end
def Ec.at (e:Ec):Nat->Addr
 | 0=>e.bad|1=>e.twice|2=>e.E6|3=>e.sU|4=>e.E7|5=>e.sV|6=>e.AY|7=>e.rows|8=>e.Mg|_=>e.E8
def Rf (e:Ec) (E:XK) (H:Hp) (i:Nat):Prop:=∀x H',aI H H'->E (.ref x) (some (e.at i)) H'
structure DoX (T:TC) (e:Ec) (n:Nat) (ρ:fK) (A:HA) (H:Hp) (r:Option Nat) (st':HS) (Q:VK) (E:XK):Prop where
 no:∀i,r=some i->Rf e E H i
 ok:r=none->B3 T n ρ A H st' fun H'=>Q .cg H'
def newR (st:HS) (x:Str):Option Nat:=if isNm x=true then (if x∈st.nms then some 1 else none) else some 0
def R5 (st:HS) (o:Str):Option Nat:=if isNm o=true then (if o∈st.own then some 1 else none) else some 0
def R6 (st:HS) (x o:Str) (wo we:Int):Option Nat:=match newR st x with
 | some i=>some i
 | none=>if o∈st.own then (if wo<1\/we<0 then some 5 else none) else some 2
inductive XM (T:TC) (e:Ec) (vs:List V) (H:Hp) (Q:VK) (E:XK):Prop
 | mk (n ρ A st x:_) (_:vs=[.ref A.a, .str x]) (_:aZ T n ρ A H st) (_:(st.ah.map (·.nm)).Nodup) (_:((∀p∈st.ah,p.nm≠x)->Rf e E H 3)) (_:∀(i:Nat) (p:Pt) (q:Addr×Addr×Addr),p.nm=x->st.ah[i]?=some p->A.qs[i]?=some q->Q (.ref q.1) H)
def AZ (T:TC) (e:Ec):Sp:=bx (XM T e)
inductive R7 (T:TC) (e:Ec) (vs:List V) (H:Hp) (Q:VK) (E:XK):Prop
 | mk (n ρ A st x:_) (_:vs=[.ref A.a, .str x]) (_:aZ T n ρ A H st) (_:x.cps.toList.length<=100000) (_:(∀i,newR st x=some i->Rf e E H i)) (_:(newR st x=none->∀H',aI H H'->Q .cg H'))
def xE (T:TC) (e:Ec):Sp:=bx (R7 T e)
theorem Vk (h1:isNm x=true) (h2:x∉st.nms):newR st x=none:=by unfold newR;rw [aB h1,az h2]
inductive ah7 (vs:List V) (H:Hp) (Q:VK) (E:XK):Prop
 | mk (n:Nat) (_:vs=[.int (n:Int)]) (_:∀p H',aI H H'->H' p=some (.lst (G0 n))->Q (.ref p) H')
def R8:Sp:=bx (ah7)
theorem aal {Q:VK} {i:Int} (e:i=(n:Int)) (q:∀p H',aI H H'->H' p=some (.lst (G0 n))->Q (.ref p) H'):R8 [.int i] H Q E:=⟨n,by rw [e],q⟩
theorem Mj {K:Fg} {H:Hp}:∀bs:List Bool,x9 K H (bs.map V.bl) (bs.map PyData.bool)
 | []=> .nil
 | b::bs=> .cons (.bl b) (Mj bs)
inductive Dd where
 | sign (o:Str)|load (x o:Str) (wo we:Int)|cast (rs:List Row)|award (o:Str) (a:Int)|mishap (x:Str) (a:Int)|rise (x:Str) (a:Int)|hand (x o:Str)|land (x:Str)|sever (x y:Str) (a we:Int)|still
def YO:List Row->List V
 | []=>[]
 | r::rs=> .str r.1 :: .int r.2::YO rs
def Dd.v:Dd->List V
 | .sign o=>[.str "sign", .str o]
 | .load x o wo we=>[.str "load", .str x, .str o, .int wo, .int we]
 | .cast rs=> .str "cast"::YO rs
 | .award o a=>[.str "award", .str o, .int a]
 | .mishap x a=>[.str "mishap", .str x, .int a]
 | .rise x a=>[.str "rise", .str x, .int a]
 | .hand x o=>[.str "hand", .str x, .str o]
 | .land x=>[.str "land", .str x]
 | .sever x y a we=>[.str "sever", .str x, .str y, .int a, .int we]
 | .still=>[.str "still"]
def kJ (st:HS):List Str:=st.ah.map fun p=>p.nm
def Ml (st:HS) (r:Row):Option Nat:=if r.1∈kJ st then (if r.2<1 then some 5 else if (cQ st r.1).wo<r.2 then some 6 else none) else some 3
def R9 (st:HS) (rs:List Row):Option Nat:=if rs≠[]/\(rs.map fun r:Row=>r.1).Nodup then (match rs.findSome? (Ml st) with
 | some i=>some i
 | none=>if bH st<=bu rs then some 6 else none) else some 7
def Mm (st:HS) (o:Str) (a:Int):Option Nat:=if o∈st.own then (if a<1 then some 5 else if bH st<=a then some 6 else none) else some 2
def R_ (st:HS) (x:Str) (a:Int):Option Nat:=if x∈kJ st then (if a<1 then some 5 else none) else some 3
def Sa (st:HS) (x o:Str):Option Nat:=if x∈kJ st then (if o∈st.own then none else some 2) else some 3
def Sb (st:HS) (x:Str):Option Nat:=if x∈kJ st then none else some 3
def gM (st:HS) (x y:Str) (a we:Int):Option Nat:=if x∈kJ st then (match newR st y with
 | some i=>some i
 | none=>if a<1\/we<0 then some 5 else if (cQ st x).wo<=a\/(cQ st x).we<we then some 6 else none) else some 3
def lz (st:HS):Dd->Option Nat
 | .sign o=>R5 st o
 | .load x o wo we=>R6 st x o wo we
 | .cast rs=>R9 st rs
 | .award o a=>Mm st o a
 | .mishap x a=>Ml st (x,a)
 | .rise x a=>R_ st x a
 | .hand x o=>Sa st x o
 | .land x=>Sb st x
 | .sever x y a we=>gM st x y a we
 | .still=>none
def acS (st:HS) (o:Str) (a:Int):HS:=cV st (bH st-a) (bH st) ((List.replicate st.own.length 0).set (st.own.idxOf o) (a*st.prod))
def qL (st:HS) (x:Str) (f:Pt->Pt):HS:={ st with ah:=st.ah.map fun p=>if p.nm=x then f p else p }
def ae0 (st:HS) (x:Str) (a:Int):HS:=qL st x fun p=>{ p with wo:=p.wo+a }
def ae1 (st:HS) (p:Pt) (o:Str):List Int:=((b_ st p).set (st.own.idxOf o) ((b_ st p).getD (st.own.idxOf o) 0+(b_ st p).getD (st.own.idxOf p.ow) 0)).set (st.own.idxOf p.ow) 0
def ae2 (st:HS) (x o:Str):HS:=if st.own.idxOf o=st.own.idxOf (cQ st x).ow then st else qL st x fun p=>{ p with ow:=o,sc:=1,row:=AH st (ae1 st p o) }
def YQ (st:HS) (p:Pt):List Int:=List.zipWith (fun u t=>u+p.wo*t) st.dj (b_ st p)
def ae3 (st:HS) (x:Str):HS:=
 { st with ah:=st.ah.filter (fun p=>decide (p.nm≠x))
           jZ:=st.jZ++[⟨x,(cQ st x).ow,(cQ st x).wo,AI st (cQ st x)⟩]
           kn:=st.kn+100
           dj:=(YQ st (cQ st x)).set (st.own.idxOf (cQ st x).ow) ((YQ st (cQ st x)).getD (st.own.idxOf (cQ st x).ow) 0-(cQ st x).wo*st.prod) }
def vt (st:HS) (x y:Str) (a we:Int):HS:=yU (qL st x fun p=>{ p with wo:=p.wo-a,we:=p.we-we }) ⟨y,(cQ st x).ow,a,we,(cQ st x).sc,(cQ st x).row⟩
def wO (st:HS):Dd->HS
 | .sign o=>gJ st o
 | .load x o wo we=>yV st x o wo we
 | .cast rs=>kI st rs
 | .award o a=>acS st o a
 | .mishap x a=>gi st (x,a)
 | .rise x a=>ae0 st x a
 | .hand x o=>ae2 st x o
 | .land x=>ae3 st x
 | .sever x y a we=>vt st x y a we
 | .still=>st
inductive aam (T:TC) (e:Ec) (al:HS->Dd->Prop) (K:Fg) (vs:List V) (H:Hp) (Q:VK) (E:XK):Prop
 | mk (n ρ A st z d:_) (_:vs=[.ref A.a, .ref z]) (_:cJ K H z (Dd.v d)) (_:HH T n ρ A H st) (_:al st d) (_:DoX T e n ρ A H (lz st d:_) (wO st d:_) Q E)
def Mp (T:TC) (e:Ec) (al:HS->Dd->Prop) (K:Fg):Sp:=bx (aam T e al K)
inductive acT (T:TC) (al:HS->Dd->Prop) (K:Fg) (vs:List V) (H:Hp) (Q:VK) (E:XK):Prop
 | mk (n ρ A st z d:_) (_:vs=[.ref A.a, .ref z]) (_:cJ K H z (Dd.v d)) (_:HH T n ρ A H st) (_:al st d) (_:(∀i,lz st d=some i->∀l H',aI H H'->H' l=some (.lst (G0 i))->Q (.ref l) H')) (_:(lz st d=none->∀l ρ' A' H',HH T n ρ' A' H' (wO st d:_)->A'.a=A.a->Fr n ρ H ρ' H'->H' l=some (.lst [])->ρ' l=none->H l=none->Q (.ref l) H'))
def G_ (T:TC) (al:HS->Dd->Prop) (K:Fg):Sp:=bx (acT T al K)
theorem Oq {o:Str} (h:R5 st o=some i):i=0\/i=1:=by
 unfold R5 at h
 split at h
 . split at h <;> cases h;exact .inr rfl
 . cases h;exact .inl rfl
def wl (s:Str):Nat:=s.cps.toList.length
theorem Sd (cs:List Nat):wl (tx cs)=cs.length:=by unfold wl;show cs.toArray.toList.length=_;simp
section
variable {X:Cx}
inductive ae4 (x:V) (y:V) (H:Hp) (Q:VK):Prop
 | mk  (i j:Str) (_:x = .str i) (_:y = .str j) (_:wl i+wl j<=10000) (_:∀r:Str,wl r=wl i+wl j->Q (.str r) H)
theorem qU:gZ X (binaryOp .Add) ae4:=by
 intro pins s σ H x y v u Q I rx ry h
 obtain ⟨i,j,rfl,rfl,hz,q⟩:=h
 rw [<-x_ i] at rx
 rw [<-x_ j] at ry
 exact aai pins s σ H _ _ v u Q I rx ry ⟨_,_,Z,Z,eX hz (by decide),q _ (by rw [Sd,cY];rfl)⟩
inductive ah8 (x:V) (lo:Option Int) (hi:Option Int) (H:Hp) (Q:VK):Prop
 | mk  (i:Str) (_:x = .str i) (_:wl i<=10000) (_:∀r:Str,wl r<=wl i->(∀n:Nat,lo=none->hi=some (n:Int)->wl r<=n)->Q (.str r) H)
theorem yf:TV X ah8:=by
 intro pins s σ H x v vl vu lo hi sl Q I rx hs pl pu h
 obtain ⟨i,rfl,hz,q⟩:=h
 rw [<-x_ i] at rx
 refine ab1 pins s σ H _ v vl vu lo hi sl Q I rx hs pl pu ⟨_,Z,by rw [fj];exact eX hz (by decide),q _ ?_ ?_⟩
 . rw [Sd];exact Cz _ _ _
 . rintro n rfl rfl
   rw [Sd,ZK,lu]
   omega
end
theorem Mq {α:Type} {xs:List α} {i:Int} (h1:-(xs.length:Int)<=i) (h2:i<(xs.length:Int)):∃v∈xs,lG xs i=some v:=by
 unfold lG Cu
 by_cases h0:0<=i
 . rw [aB h0,aB h2]
   have hj:i.toNat<xs.length:=by omega
   exact ⟨xs[i.toNat],uw hj,a_ hj⟩
 . rw [az h0,aB h1]
   have hj:(i+xs.length).toNat<xs.length:=by omega
   exact ⟨xs[(i+xs.length).toNat],uw hj,a_ hj⟩
theorem acU:∀i:Fin 10,SeqAt.shaped (.list ((Mh i.val).map PyData.bool))=true/\PyData.eqv (.list ((Mh i.val).map PyData.bool)) (.list ((Mh i.val).map PyData.bool))=true:=by decide +kernel
def told (r:Option Nat):List Bool:=match r with
 | some i=>Mh i
 | none=>[]
def KJ (r:Option Nat):List V:=(told r).map V.bl
theorem QC (r:Option Nat):x9 K H (KJ r) ((told r).map PyData.bool):=Mj _
theorem Hf {r:Option Nat} (h:∀i,r=some i->i<10):SeqAt.shaped (.list ((told r).map PyData.bool))=true/\PyData.eqv (.list ((told r).map PyData.bool)) (.list ((told r).map PyData.bool))=true:=by
 cases r with
 | none=>exact ⟨Z,Z⟩
 | some i=>exact acU ⟨i,h i rfl⟩
def vv (st:HS) (d:Dd):HS:=match lz st d with
 | some _=>st
 | none=>wO st d
theorem aan {l l':Addr} {r:Option Nat} {Q:VK} (h1:H l=some (.lst (KJ r))) (h2:H l'=some (.lst (KJ r))) (h:∀i,r=some i->i<10) (q:Q (.bl true) H):WU K (.ref l) (.ref l') H Q:=
 ⟨_,_, .lst (aC.of h1) (QC r), .lst (aC.of h2) (QC r),(Hf h).1,(Hf h).1,by rw [(Hf h).2];exact q⟩
section
variable {P:Program} {w:World} {K:Fg} {mg:SO} {base:Heap} {k:Nat} {T:TC} {e:Ec} {ps:List Str}
theorem Vl (D:Mx P w K mg base k T.hold "part_of" ps (AZ T e)):Mn P w K mg base k T.hold "part_of" ps (Dh T):=
 D.mn fun vs H Q E h=>by
   obtain ⟨⟨n,ρ,A,st,i,p,qq,rfl,hx,nd,ep,eq,q⟩⟩:=h
   refine ⟨n,ρ,A,st,p.nm,Z,hx,nd,fun z=>absurd rfl (z p (bJ ep)),fun j p' q' e1 e2 e3=>?_⟩
   have:j=i:=LB nd e2 ep e1
   subst this
   rw [eq] at e3;cases e3
   exact q
end
def nB (i:Int):Prop:=-1000000000<=i/\i<=1000000000
def QD:Dd->Prop
 | .sign o=>wl o<=20
 | .load x o wo we=>wl x<=20/\wl o<=20/\nB wo/\nB we
 | .cast rs=>rs.length<=60/\∀r∈rs,wl r.1<=20/\nB r.2
 | .award o a=>wl o<=20/\nB a
 | .mishap x a=>wl x<=20/\nB a
 | .rise x a=>wl x<=20/\nB a
 | .hand x o=>wl x<=20/\wl o<=20
 | .land x=>wl x<=20
 | .sever x y a we=>wl x<=20/\wl y<=20/\nB a/\nB we
 | .still=>True
def Dd.k:Dd->Nat
 | .sign _=>0 | .load .. =>1 | .cast _=>2 | .award .. =>3 | .mishap .. =>4 | .rise .. =>5 | .hand .. =>6 | .land _=>7 | .sever .. =>8 | .still=>9
def Se (n:Nat):Str:=(["sign","load","cast","award","mishap","rise","hand","land","sever","still"] :List Str).getD n "still"
def Dd.w (d:Dd):Str:=Se d.k
theorem Dd.v0 (d:Dd):d.v[0]?=some (.str d.w):=by cases d <;> rfl
theorem Dd.k_lt (d:Dd):d.k<10:=by cases d <;> simp [Dd.k]
theorem ae5:∀m n:Fin 10,m≠n->Se m.val≠Se n.val:=by decide +kernel
theorem Dd.acV {d:Dd} (h:d.k≠n) (hn:n<10):d.w≠Se n:=ae5 ⟨d.k,d.k_lt⟩ ⟨n,hn⟩ fun e=>h (iw Fin.val e)
theorem Dd.acW {d:Dd} (h:d.k≠2):d.w ≠ "cast":=d.acV h (by decide)
theorem Dd.aao {d:Dd} (h:d.k≠9):d.w ≠ "still":=d.acV h (by decide)
def alike (v w:V):Prop:=(∃s s',v = .str s/\w = .str s'/\wl s'<=20)\/∃i i',v = .int i/\w = .int i'/\nB i'
theorem Jk {s:Str} {w:V} (h:alike (.str s) w):∃s',w = .str s'/\wl s'<=20:=by
 rcases h with ⟨_,s',e,h1,h2⟩|⟨i,i',e,_⟩
 . exact ⟨s',h1,h2⟩
 . cases e
theorem Jl {i:Int} {w:V} (h:alike (.int i) w):∃i',w = .int i'/\nB i':=by
 rcases h with ⟨_,s',e,h1,h2⟩|⟨_,i',e,h1,h2⟩
 . cases e
 . exact ⟨i',h1,h2⟩
structure Bk (b:BS):Prop where
 own:∀x∈b.own,wl x<=20
 cS:∀x∈b.cS,wl x<=20
 ah:∀p∈b.ah,wl p.nm<=20
 wo:∀p∈b.ah,0<=p.wo/\0<=p.we
 ol:b.own.length<=100
 kl:b.cS.length<=1000
 pl:b.ah.length<=1000
inductive Sf (K:Fg) (vs:List V) (H:Hp) (Q:VK) (E:XK):Prop
 | mk (a:Addr) (ms:List Int) (k:Int) (n:Nat) (ρ:fK) (B:BA) (b:BS) (x:Str) (_:vs=[.ref a, .int k, .ref B.m, .str x]) (_:aC K H a (ms.map V.int)) (_:ms.length<=63) (_:0<=k) (_:aV n ρ B H b) (_:Bk b) (_:wl x<=20) (_:∀r H',aI H H'->wl r<=20->Q (.str r) H')
def CN (K:Fg):Sp:=bx (Sf K)
inductive Mr (K:Fg) (vs:List V) (H:Hp) (Q:VK) (E:XK):Prop
 | mk (a:Addr) (ms:List Int) (k:Int) (n:Nat) (ρ:fK) (B:BA) (b:BS) (i:Int) (_:vs=[.ref a, .int k, .ref B.m, .int i]) (_:aC K H a (ms.map V.int)) (_:ms.length<=63) (_:0<=k) (_:aV n ρ B H b) (_:Bk b) (_:nB i) (_:∀r H',aI H H'->nB r->Q (.int r) H')
def z7 (K:Fg):Sp:=bx (Mr K)
def Ms:Option Nat->Int
 | none=>-1
 | some i=>i
def KL (b:BS) (x:Str):Option Nat:=if isNm x=true then (if x∈b.cS then some 1 else none) else some 0
theorem XO (h:st.nms=b.cS):KL b x=newR st x:=by unfold KL newR;rw [h]
inductive aap (vs:List V) (H:Hp) (Q:VK) (E:XK):Prop
 | mk (n:Nat) (ρ:fK) (B:BA) (b:BS) (x:Str) (_:vs=[.ref B.m, .str x]) (_:aV n ρ B H b) (_:wl x<=1000) (_:Q (.int (Ms (KL b x))) H)
def Mt:Sp:=bx (aap)
inductive ah9 (al:HS->Dd->Prop) (K:Fg) (vs:List V) (H:Hp) (Q:VK) (E:XK):Prop
 | mk (n:Nat) (ρ:fK) (B:BA) (b:BS) (st:HS) (z:Addr) (d:Dd) (_:vs=[.ref B.m, .ref z]) (_:cJ K H z d.v) (_:aV n ρ B H b) (_:iU st b) (_:Wf st) (_:vj b) (_:st.nms=b.cS) (_:al st d) (_:QD d) (_:∀H',aI H H'->Q (.int (Ms (lz st d))) H')
def KN (al:HS->Dd->Prop) (K:Fg):Sp:=bx (ah9 al K)
theorem zm {o:Str} (h:newR st o=some i):i=0\/i=1:=by
 unfold newR at h
 split at h
 . split at h <;> cases h;exact .inr rfl
 . cases h;exact .inl rfl
theorem Ot {o:Str} (h:R6 st x o wo we=some i):i=0\/i=1\/i=2\/i=5:=by
 unfold R6 at h
 cases hn:newR st x with
 | some j=>
   rw [hn] at h
   cases h
   rcases zm hn with rfl|rfl
   . exact .inl rfl
   . exact .inr (.inl rfl)
 | none=>
   rw [hn] at h
   have h':(if o∈st.own then (if wo<1\/we<0 then some 5 else none) else some 2)=some i:=h
   split at h'
   . split at h' <;> cases h';exact .inr (.inr (.inr rfl))
   . cases h';exact .inr (.inr (.inl rfl))
def kh (m:Nat) (vs:List V):Prop:=∀v∈vs,∃s:Str,v = .str s/\wl s<=m
theorem kh.nil:kh m [] :=fun _ h=>nomatch h
theorem kh.cons {m:Nat} {s:Str} {vs:List V} (h:wl s<=m) (hs:kh m vs):kh m (.str s::vs):=fun v hv=>by
 rcases dg.mp hv with rfl|hv
 . exact ⟨s,Z,h⟩
 . exact hs v hv
theorem kh.append {us:List V} (h:kh m vs) (hu:kh m us):kh m (vs++us):=fun v hv=>(eV.mp hv).elim (h v) (hu v)
theorem kh.map {xs:List Str} (h:∀x∈xs,wl x<=m):kh m (xs.map V.str):=fun v hv=>by
 obtain ⟨x,hx,rfl⟩:=bN.mp hv
 exact ⟨x,Z,h x hx⟩
def vz (vs:List V):Prop:=∀v∈vs,∃i:Int,v = .int i/\-1000000000<=i
theorem vz.nil:vz [] :=fun _ h=>nomatch h
theorem vz.cons {i:Int} {vs:List V} (h:-1000000000<=i) (hs:vz vs):vz (.int i::vs):=fun v hv=>by
 rcases dg.mp hv with rfl|hv
 . exact ⟨i,Z,h⟩
 . exact hs v hv
theorem vz.append {us:List V} (h:vz vs) (hu:vz us):vz (vs++us):=fun v hv=>(eV.mp hv).elim (h v) (hu v)
theorem Vm:∀{l:List Int},(∀x∈l,0<=x)->0<=l.sum
 | [],_=>mJ _
 | a::l,h=>by
   rw [cX]
   have:=h a cO
   have:=Vm (l:=l) fun x hx=>h x (cL _ hx)
   omega
theorem yg (h:isNm x=true):wl x<=20:=by
 unfold isNm isName at h
 have:=dU (lg.mp (lg.mp h).1).2
 unfold wl
 omega
theorem fM.sub (g:fM c st b) (wf:Wf st) {p:BP} (hp:p∈b.ah):p.nm∈b.cS/\p.ow∈b.own/\1<=p.wo/\0<=p.we:=by
 obtain ⟨j,hj,ej⟩:=pC hp
 obtain ⟨p',lY,e1,e2,e3,e4⟩:=g.rel.at (i:=j) (q:=p) (by rw [a_ hj,ej])
 have hm:=bJ lY
 have h1:=wf.sub p' hm
 have h2:=wf.ow p' hm
 have h3:=wf.vc p' hm
 rw [e1,g.cS] at h1
 rw [e2,g.rel.own] at h2
 rw [e3,e4] at h3
 exact ⟨h1,h2,h3.1,h3.2⟩
theorem fM.bk (g:fM c st b) (wf:Wf st):Bk b:=
 ⟨fun x hx=>yg (g.on x hx),fun x hx=>yg (g.nk x hx),fun p hp=>yg (g.nk _ (g.sub wf hp).1),fun p hp=>⟨by have:=(g.sub wf hp).2.2.1;omega,(g.sub wf hp).2.2.2⟩,g.jM.ol,g.jM.kl,g.jM.pl⟩
end L2
set_option autoImplicit true
namespace L2
open PySem PySem.Spec PyProof.Rows
structure bE (X:Cx) (e:Expr) (t:TE):Prop where h:PE X e t
structure bT (X:Cx) (e:Expr) (t:TT):Prop where h:PT X e t
structure bW (X:Cx) (e:Expr) (t:TT):Prop where h:PW X e t
structure bA (X:Cx) (es:List Expr) (t:TA):Prop where h:PA X es t
structure bS (X:Cx) (s:Stmt) (t:TS):Prop where h:PS X s t
structure cF (X:Cx) (s:List Stmt) (t:TS):Prop where h:qI X s t
structure bC (X:Cx) (op:CmpOp) (a b:Expr) (t:TE):Prop where h:PC X op a b t
structure bG (X:Cx) (e:Expr) (t:TG):Prop where h:PG X e t
structure YR (X:Cx) (e:List Expr) (t:Eh):Prop where h:PGs X e t
structure bI (X:Cx) (tg iter:Expr) (wi:TI):Prop where h:PI X tg iter wi
structure bO (X:Cx) (e:Option Expr) (t:TO):Prop where h:PO X e t
structure bX (X:Cx) (e:List Stmt) (t:TX):Prop where h:PX X e t
structure YS (X:Cx) (pos:Pos) (ks:List (Option Expr)) (vs:List Expr) (t:List (TE×TE)):Prop where h:PPs X pos ks vs t
theorem bW.pt {X:Cx} {e:Expr} {t:TT} (h:bW X e t):bT X e t:=⟨h.h.pt⟩
theorem E9 {op} {t:TE} (h:bE X a t):bE X (.BoolOp op [a] pos) t:=by
 have h:=h.h;exact ⟨fun pins s σ H Q I hw=>BoolOp_one (h pins s σ H Q I hw)⟩
theorem dB {e:Expr} {t:TE} (h:bE X e t) (he:∀whole,isTrue e X.env whole=(do let v <-whole;standAt e.pos;holding [v] (truthy v)):=by intro _;rfl):bT X e (tB t):=by
 have h:=h.h;constructor
 intro pins s σ H Q I hw
 refine isTrue_plain (bq (h pins s σ H _ I hw) fun v s1 ⟨x,H1,I1,r1,q1⟩=>?_) (he _)
 obtain ⟨d,rfl,q⟩:=q1
 cases r1
 exact Am ⟨H1,I1,q⟩
theorem aG {r:R2} (hr:zW X r) (ha:bE X a ta) (hb:bE X b tb) (hs:Zv b:=by exact fun _ _=>rfl):bE X (.Subscript a b pos) (Em r ta tb):=by
 have ha:=ha.h;have hb:=hb.h;constructor
 intro pins s σ H Q I h
 exact Subscript_ (Ws ha hb I h fun v u s2 x y H2 I2 rx ry q=>hr a b pins s2 σ H2 x y v u Q I2 rx ry q (hs _ _))
theorem qV (h:bE X e te):bO X (some e) (aen te):=by
 have h:=h.h;constructor
 intro pins s σ H Q I hw
 rw [evalPart_some]
 refine bq (h pins s σ H _ I hw) fun u s1 ⟨x,H1,I1,r1,q1⟩=>?_
 obtain ⟨i,rfl,q⟩:=q1
 obtain ⟨t,rfl⟩:=r1
 exact ⟨some i,H1,I1, .int i t,q⟩
theorem jl:YR X [] aa3:=by
 constructor
 intro pins s σ H vs us Q I r h
 obtain ⟨e,h⟩:=h
 subst e
 cases r
 exact assignInOrder_nil ⟨σ,H,I,h⟩
theorem qW:bO X none Zt:=by
 constructor
 intro pins s σ H Q I h
 rw [evalPart_none]
 exact aL ⟨none,H,I, .none,h⟩
theorem jB {x:Str} {n:String} {pos:Pos} (hv:bootBuiltins x=some (.type n)) (hg:Gl X x) (hm:X.mg x=none) (hn:x ≠ "__name__":=by decide) (hd:(x==("__debug__":Str))=false:=by decide):bE X (.Name x pos) (tC (.ty n)):=by
 exact ⟨Zi hg hm hv rfl hn hd⟩
theorem aR {i:Nat} {x:Str} (hN:X.N.Nodup) (hi:X.N[i]?=some x:=by rfl) (hx:Loc X.env.scope x:=by first|exact Or.inl rfl|exact Or.inr rfl) (hf:X.fn x=true\/X.env.scope.names.lookup x=some .local:=by first|exact .inl rfl|exact .inr rfl|assumption):bG X (.Name x pos) (gh i):=by
 constructor
 intro pins s σ H v u Q I r h
 exact wpAny_assign_Name (uS I hN hi hx r (fun s' I'=>⟨_,H,I',h⟩) hf)
theorem Du {c:Expr} {body:List Stmt} {tc:TT} {tb:TS} (hp:PassesOwn (model X.prog X.w) X.A X.env X.xe) (hc:bT X c tc) (hb:cF X body tb):bS X (.While c body [] pos) (aa6 tc tb):=by
 have hc:=hc.h;have hb:=hb.h;constructor
 intro pins s σ H D I h
 obtain ⟨W,⟨m0,w0⟩,turn⟩:=h
 refine wpAny_While (codeAny_whileLoop (fun n s'=>∃σ' H',Inv X pins σ' H' s'/\W n σ' H') ?_ m0 ⟨σ,H,I,w0⟩)
 rintro n s1 ⟨σ1,H1,I1,w1⟩
 refine yC hp (bq (hc pins s1 σ1 H1 _ I1 (turn n σ1 H1 w1)) fun b s2 ⟨H2,I2,q2⟩=>?_)
 cases b with
 | true=>
   obtain ⟨N,hN,q2⟩:=q2
   rw [aB rfl]
   refine yC hp (bq (hb pins s2 σ1 H2 _ I2 q2) fun f s3 q3=>?_)
   cases f with
   | next=>
     obtain ⟨σ3,H3,I3,n3⟩:=q3
     obtain ⟨m',hm,w3⟩:=hN σ3 H3 n3
     exact ⟨m',hm,σ3,H3,I3,w3⟩
   | cont=>
     obtain ⟨σ3,H3,I3,n3⟩:=q3
     obtain ⟨m',hm,w3⟩:=hN σ3 H3 n3
     exact ⟨m',hm,σ3,H3,I3,w3⟩
   | brk=>exact q3
   | ret v=>exact q3
 | false=>
   rw [az fF]
   exact yD ⟨σ1,H2,I2,q2⟩
theorem B9 {tg:Expr} {ob:Expr} {td:TE} {apos cpos:Pos} (hob:bE X ob td) (hbase:attributeBase ob "values" X.env (eval ob X.env)=eval ob X.env:=by rfl) (hline:(apos.endLine==cpos.line)=true:=by rfl):bI X tg (.Call (.Attribute ob "values" apos) [] [] cpos) (aeF td):=by
 have hob:=hob.h;constructor
 intro pins s σ H R I h
 refine wpAny_Call_method0_late hbase hline (bq (hob pins s σ H _ I h) fun v s1 ⟨x,H1,I1,r1,q1⟩=>?_)
 obtain ⟨d,o,kvs,rfl,e,fin⟩:=q1
 cases r1
 obtain ⟨ho,hz,hsys,vs,ep,rel,da⟩:=I1.rX e
 obtain ⟨t1,t2,_⟩:=Li I1 (.inl ⟨kvs, .inr ⟨o,e⟩⟩)
 have dd:=da.dictOf
 refine ⟨"dict",_,F.plainAttrs_dict,Rh,F.type_dict_values,t1,t2,Q6 rfl (PySem.evalArgs_none ?_)⟩
 refine call_meetsIn Rh dd.typeIs F.entry_dict_values (F.args_dict_values_1 _) (meets_dict_values (c9 X.prog X.w) d hsys) ⟨⟨vs,dd⟩,?_⟩
 refine wpAny_pyIter_values (s:={ s1 with heap:=s1.heap.push { cls:= .type "dict_values",data:= .fields #[.ref d] } }) ⟨_,d_ _ rfl,Z,Z⟩ (da.push _) ?_
 have Iv:Inv X pins σ H1 { s1 with heap:=s1.heap.push { cls:= .type "dict_values",data:= .fields #[.ref d] } }:=I1.kept (t':=s1.toks) fun b o e=>cD _ e
 generalize ({ s1 with heap:=s1.heap.push { cls:= .type "dict_values",data:= .fields #[.ref d] } }:Shared)=sv at *
 have I2:Inv X pins σ H1 { sv with heap:=sv.heap.push { cls:= .type "dict_valueiterator",data:= .fields #[.ref d, .int 0 0, .int vs.length 0, .int ep 0] } }:=Iv.kept (t':=sv.toks) fun b o e=>cD _ e
 have hl:kvs.length=vs.length:=rel.length
 obtain ⟨o',es,h1,_,h2,_⟩:=id da
 rw [ho] at h1;cases h1
 refine ⟨sv.heap.objs.size,[sv.heap.objs.size],_,_,H1,Z,I2,Us h2,?_,fun b hb=>?_,fin⟩
 . rw [hl];exact ⟨_,d_ _ rfl,Z,Z⟩
 . have eb:b=sv.heap.objs.size:=by simpa using hb
   subst eb
   exact Iv.GF (aS _) (Iv.hok.fresh (aS _))
theorem pX {id:String} (pa:PlainAttrs T) (slot:Slot T name id) (hty:typeOf (.builtin id)=pure (.type "method_descriptor")) (hm:MtR X id r) (ho:bE X o to) (ha:bA X (e::es) t) (hbase:attributeBase o name X.env (eval o X.env)=eval o X.env:=by rfl) (hfew:((backTo cpos (starEach (e::es) X.env)).all (fun x=>!x.1) && (backToKw cpos (keywordEach [] X.env)).all (fun x=>x.1.isSome)
   && decide ((e::es).length+([] :List Keyword).length+(if ([] :List Keyword).isEmpty then 0 else 1)<30))=true:=by rfl) (hline:(apos.endLine==cpos.line)=true:=by rfl) (hs:starEach (e::es) X.env=(false,eval e X.env)::starEach es X.env:=by rfl) (hplain:(backTo cpos (starEach es X.env)).any (·.1)=false:=by rfl):bE X (.Call (.Attribute o name apos) (e::es) [] cpos) (tBM X.K T r to t):=by
 have ho:=ho.h;have ha:=ha.h;constructor
 intro pins s σ H Q I h
 refine wpAny_Call_method_late hbase hfew hline rfl (bq (ho pins s σ H _ I h) fun v s1 ⟨x,H1,I1,r1,ty,q1⟩=>?_)
 obtain ⟨h1,h2⟩:=abA I1 r1 ty
 refine ⟨T,id,pa,slot,hty,h1,h2,?_⟩
 have hA:=ha cpos pins s1 σ H1 _ I1 q1
 rw [hs] at hA ⊢
 refine Q6 (by show (false || (backTo cpos (starEach es X.env)).any (·.1))=false;rw [hplain] <;> rfl) (Calls.evalArgs_plain ?_)
 exact bq hA fun us s2 ⟨vs,H2,I2,r2,q2⟩=>hm pins s2 σ H2 x vs v us Q I2 r1 r2 q2
theorem aaq {X:Cx} {pos:Pos}:YS X pos [] [] [] :=by
 exact ⟨fun pins s σ H Q I h=>pairTrees_nil_walk ⟨[],H,I, .nil,h⟩⟩
theorem Mu {X:Cx} {e:Expr} {t:TE} (h:bE X e t):bE X e (ahX t):=by
 have h:=h.h;constructor
 intro pins s σ H Q I hw
 obtain ⟨d,kvs,e,hw⟩:=hw
 obtain ⟨ho,es,ep,h1,_⟩:=(Ew I.hok e).2.2.choose_spec.2
 have h0:=I.Ur e
 exact bq (h pins s σ _ _ (I.freeze e h1) (hw ho)) fun u s' ⟨v,H',I',r,q1,q2⟩=>⟨v,_,I'.Dc q1 h0,r,q2⟩
theorem XQ {op op':CmpOp} {r r':R2} (ho:gZ X (compareOp op) r) (ho':gZ X (compareOp op') r') (ha:bE X a ta) (hb:bE X b tb) (hc:bE X c tc) (hm:lastMarks [op,op'] [b,c]=false:=by with_unfolding_all rfl):bE X (.Compare a [op,op'] [b,c] pos) (abd r r' ta tb tc):=by
 have ha:=ha.h;have hb:=hb.h;have hc:=hc.h;constructor
 intro pins s σ H Q I h
 refine Compare_chain (bq (ha pins s σ H _ I h) fun v s1 ⟨x,H1,I1,r1,q1⟩=>chain_link (bq (hb pins s1 σ H1 _ I1 q1) fun u s2 ⟨y,H2,I2,r2,q2⟩=>
  bq (ho pins s2 σ H2 x y v u _ I2 r1 r2 q2) fun d s3 ⟨z,H3,I3,r3,k,e,q3⟩=>?_)) hm
 subst e
 cases r3
 refine Am ?_
 cases k with
 | false=>exact ite_ff ⟨.bl false,H3,I3,Z,q3⟩
 | true=>exact ite_tt (chain_last (bq (hc pins s3 σ H3 _ I3 q3) fun w' s4 ⟨z',H4,I4,r4,q4⟩=>ho' pins s4 σ H4 y z' u w' Q I4 r2 r4 q4))
theorem jC {x1} (h:bA X es t):bE X (.Tuple es x1 pos) (ahG t):=by
 have h:=h.h;constructor
 intro pins s σ H Q I hq
 refine wpAny_Tuple_spliced (bq (h pos pins s σ H _ I hq) fun us s1 ⟨xs,H1,I1,r,z,q⟩=>⟨by rw [<-r.length];exact z,?_⟩)
 have hf:H1 s1.heap.objs.size=none:=I1.hok.fresh (aS _)
 refine ⟨.ref s1.heap.objs.size,upd H1 s1.heap.objs.size (.tup xs),I1.laid (t':=s1.toks) (fun b u e=>cD _ e) (aS _) ?_,Z,q _ hf⟩
 exact ⟨z,us,r,⟨_,d_ _ rfl,Z,_,Z⟩⟩
theorem Dv {tg iter elt cond:Expr} {scope:Scope} {pos:Pos} (N2:List Str) (ix:List (Option Nat)) {wi:TI} {g:TG} {tc:TT} {te:TE} (hc:X.calm=true) (hi:bI X tg iter wi) (hg:∀cl s₂ H₂ fp,bG (c6 X N2 scope cl s₂ H₂ fp) tg g) (he:∀cl s₂ H₂ fp,bE (c6 X N2 scope cl s₂ H₂ fp) elt te) (ht:∀cl s₂ H₂ fp,bT (c6 X N2 scope cl s₂ H₂ fp) cond tc) (hk:scope.kind = .function) (hn:nF X.N X.env.scope.names scope.names N2 ix=true) (hs:∀x,foldedSetIterable iter X.env x=pure x:=by intro _;rfl):bE X (.ListComp elt [⟨tg,iter,[cond],0⟩] scope pos) (EL wi ix g tc te):=⟨W8 N2 ix hc hi.h (fun cl s₂ H₂ fp=>(hg cl s₂ H₂ fp).h) (fun cl s₂ H₂ fp=>(he cl s₂ H₂ fp).h) (fun cl s₂ H₂ fp=>(ht cl s₂ H₂ fp).h) hk hn hs⟩
theorem aD {op:Operator} {r:R2} (ho:gZ X (binaryOp op) r) (ha:bE X a ta) (hb:bE X b tb):bE X (.BinOp a op b pos) (Em r ta tb):=by
 have ha:=ha.h;have hb:=hb.h;constructor
 intro pins s σ H Q I h
 exact wpAny_BinOp (Ws ha hb I h fun v u s2 x y H2 I2 rx ry q=>ho pins s2 σ H2 x y v u Q I2 rx ry q)
theorem yh {op:CmpOp} {t:TE} (h:bC X op a b t) (h1:behindInMarks op b=false:=by first|exact K6 _ (by decide) (by decide)|rfl):bT X (.Compare a [op] [b] pos) (tB t):=by
 have h:=h.h;constructor
 intro pins s σ H Q I hw
 refine wpAny_isTrue_Compare1 (bq (h pins s σ H _ I hw) fun v s1 h1=>bq h1 fun u s2 h2=>bq h2 fun c s3 ⟨x,H1,I1,r1,q1⟩=>?_) h1
 obtain ⟨d,rfl,q⟩:=q1
 cases r1
 exact Am ⟨H1,I1,q⟩
theorem dR {tg:Expr} {iter:Expr} {body:List Stmt} {wi:TI} {g:TG} {tb:TS} {pos:Pos} (hp:PassesOwn (model X.prog X.w) X.A X.env X.xe) (hc:X.calm=true) (hi:bI X tg iter wi) (hg:bG X tg g) (hb:cF X body tb) (hs:∀x,foldedSetIterable iter X.env x=pure x:=by intro _;rfl):bS X (.For tg iter body [] pos) (ahC wi g tb):=by
 have hi:=hi.h;have hg:=hg.h;have hb:=hb.h;constructor
 intro pins s σ H D I h
 refine wpAny_For (bq (hi pins s σ H _ I h) fun v s1 h1=>bq h1 fun itv s2 h2=>?_) hs
 obtain ⟨it,fp,tn,J,H2,e,I2,T,st2,f2,W,⟨m0,w0⟩,turn⟩:=h2
 subst e
 have uY:∀{H':Hp},(∀b∈fp,H' b=none)->∀b∈fp,pK X pins H' b:=fun hn b hb=>⟨hn b hb,(f2 b hb).2⟩
 refine codeAny_forLoop_any (fun n s'=>∃i σ' H',Inv X pins σ' H' s'/\tn i s'.heap/\(∀b∈fp,H' b=none)/\W i n σ' H') ?_ m0 ⟨0,σ,H2,I2,st2,fun b hb=>(f2 b hb).1,w0⟩
 rintro n s3 ⟨i,σ3,H3,I3,st3,fr3,w3⟩
 rcases turn i n σ3 H3 w3 with ⟨stop,qn⟩|⟨go,N,hN,step⟩
 . refine yC hp (bq (T.done X rfl rfl rfl hc i pins s3 σ3 H3 X.xe I3 (uY fr3) st3 stop) fun r s4 ⟨hr,I4⟩=>?_)
   subst hr
   exact yD ⟨σ3,H3,I4,qn⟩
 . refine yC hp (bq (T.item X rfl rfl rfl hc i pins s3 σ3 H3 X.xe I3 (uY fr3) st3 go) fun r s4 ⟨u,hr,h4⟩=>?_)
   subst hr
   refine yC hp (bq h4 fun _ s5 ⟨x,H5,I5,r5,y5,Ay,Lp⟩=>?_)
   have I5':=I5.pinned (uY Lp) (T.obj _ _ Ay)
   refine yC hp (bq (hg _ s5 σ3 H5 x u _ I5' r5 (step x H5 y5)) fun _ s6 ⟨σ6,H6,I6,q6⟩=>?_)
   refine yC hp (bq (hb _ s6 σ6 H6 _ I6 q6) fun f s7 q7=>?_)
   have again:∀{σ7:St} {H7:Hp},Inv X (pins++El fp s5.heap) σ7 H7 s7->N σ7 H7->∃m,m<n/\∃i σ' H',Inv X pins σ' H' s7/\tn i s7.heap/\(∀b∈fp,H' b=none)/\W i m σ' H':=fun {σ7 H7} I7 n7=>by
    obtain ⟨m',hm,w7⟩:=hN σ7 H7 n7
    refine ⟨m',hm,i+1,σ7,H7,I7.qP,T.keep _ _ _ Ay fun b hb o e=>(I7.pin (b,o) (jg _ (jg _ (jv hb e)))).1,fun b hb=>?_,w7⟩
    obtain ⟨o,e,d⟩:=T.obj _ _ Ay b hb
    exact (I7.pin (b,o) (jg _ (jg _ (jv hb e)))).2.1
   cases f with
   | next=>obtain ⟨σ7,H7,I7,n7⟩:=q7;exact again I7 n7
   | cont=>obtain ⟨σ7,H7,I7,n7⟩:=q7;exact again I7 n7
   | brk=>obtain ⟨σ7,H7,I7,q7⟩:=q7;exact ⟨σ7,H7,I7.qP,q7⟩
   | ret v=>obtain ⟨x7,σ7,H7,I7,r7,q7⟩:=q7;exact ⟨x7,σ7,H7,I7.qP,r7,q7⟩
theorem ou {lo:Option Expr} {hi:Option Expr} {r:V->Option Int->Option Int->Hp->VK->Prop} (hr:TV X r) (he:bE X e te) (hl:bO X lo tl) (hu:bO X hi th):bE X (.Subscript e (.Slice lo hi none p2) pos) (tSl r te tl th):=by
 have he:=he.h;have hl:=hl.h;have hu:=hu.h;constructor
 intro pins s σ H Q I h
 refine Subscript_ (bq (he pins s σ H _ I h) fun v s1 ⟨x,H1,I1,r1,q1⟩=>?_)
 refine wpAny_Slice (bq (hl pins s1 σ H1 _ I1 q1) fun vl s2 ⟨l,H2,I2,pl,q2⟩=>bq (hu pins s2 σ H2 _ I2 q2) fun vu s3 ⟨u,H3,I3,pu,q3⟩=>?_)
 rw [evalPart_none]
 refine aL ?_
 have I4:Inv X pins σ H3 { s3 with heap:=s3.heap.push { cls:= .type "slice",data:= .fields #[vl,vu, .none] } }:=I3.kept (t':=s3.toks) fun b ob q=>cD _ q
 obtain ⟨T,id,hT,ht,hg⟩:=hr pins { s3 with heap:=s3.heap.push { cls:= .type "slice",data:= .fields #[vl,vu, .none] } } σ H3 x v vl vu l u s3.heap.objs.size Q I4 r1 (Heap.IsSliceOf.new ..) pl pu q3
 show wpAny (model X.prog X.w) X.A (subscriptTail e (.Slice lo hi none p2) v (.ref s3.heap.objs.size)) (EP X pins σ Q) X.xe { s3 with heap:=s3.heap.push { cls:= .type "slice",data:= .fields #[vl,vu, .none] } }
 exact tail_any (ops:=[.ref s3.heap.objs.size,v]) ht hT hg (by with_unfolding_all rfl)
theorem gC {tg iter elt:Expr} {scope:Scope} {pos:Pos} (N2:List Str) (ix:List (Option Nat)) {wi:TI} {g:TG} {te:TE} (hc:X.calm=true) (hi:bI X tg iter wi) (hg:∀cl s₂ H₂ fp,bG (c6 X N2 scope cl s₂ H₂ fp) tg g) (he:∀cl s₂ H₂ fp,bE (c6 X N2 scope cl s₂ H₂ fp) elt te) (hk:scope.kind = .function) (hn:nF X.N X.env.scope.names scope.names N2 ix=true) (hs:∀x,foldedSetIterable iter X.env x=pure x:=by intro _;rfl):bE X (.ListComp elt [⟨tg,iter,[],0⟩] scope pos) (Yt wi ix g te):=by
 have hi:=hi.h;have hg:=fun cl s₂ H₂ fp=>(hg cl s₂ H₂ fp).h;have he:=fun cl s₂ H₂ fp=>(he cl s₂ H₂ fp).h;constructor
 intro pins s σ H Q I h
 obtain ⟨k1,k2,k3,k4,k5⟩:=mP hn
 obtain ⟨cl,Lv,c1,c2⟩:=uy (scope:=scope) (env:=X.env) fun y hy e=>I.ok.has y.1 (k3 y hy e)
 rw [eval_ListComp]
 refine Q0 (use:=none) rfl hs Lv hk k4 (bq (hi pins s σ H _ I h) fun v s1 h1=>bq h1 fun itv s2 h2=>?_)
 obtain ⟨it,fp,tn,J,H2,e,I2,T,st2,f2,h2⟩:=h2
 subst e
 refine EE (RR:=fun acc C=>compPost (model X.prog X.w) X.A X.xe none (EP X pins σ Q) acc C) (Q:=Q) hc hg he hk hn (fun y c m=>(c1 y c m).1) c2 I2 T st2 f2 h2 ?_
 intro acc C H' s' m I' ns Ax hL hsz pR yO q
 exact ⟨m,ns,fun h' hs'=>⟨.ref acc,H',I'.turned (it:=C) (t':=s'.toks) (fun b o hb e=>(hs'.2 b hb).trans e) Ax hL (.inr hsz) pR yO,Z,q⟩⟩
theorem Mv (hu:X.A.units+1<cLine) (hi:bE X i ty) (ho:bE X o td):bC X .In i o (ahO ty td):=by
 have hi:=hi.h;have ho:=ho.h;constructor
 intro pins s σ H Q I h
 refine bq (hi pins s σ H _ I h) fun iv s1 ⟨y,H1,I1,ry,q1⟩=>bq (ho pins s1 σ H1 _ I1 q1) fun u s2 ⟨x,H2,I2,rx,a,ov,ex,g,q2⟩=>?_
 subst ex
 obtain rfl:u=Value.ref a:=rx
 exact ahN hu I2 g ry fun s3 I3=>⟨.bl ov.isSome,H2,I3,Z,q2⟩
theorem acX (ha:bE X a ta):bE X (.UnaryOp .Not a pos) (aea ta):=by
 have ha:=ha.h;constructor
 intro pins s σ H Q I h
 refine UnaryOp_ (bq (ha pins s σ H _ I h) fun v s1 ⟨x,H1,I1,r1,q1⟩=>?_)
 obtain ⟨c,rfl,q1⟩:=q1
 cases r1
 exact not_of (Am ⟨.bl (!c),H1,I1,Z,q1⟩)
theorem bg {x j pos}:bE X (.Constant (.str x) j pos) (tC (.str x)):=⟨Tn⟩
theorem zu {op:UnaryOp} {r:V->Hp->VK->Prop} (ho:UnR X (unaryOp op) r) (ha:bE X a ta):bE X (.UnaryOp op a pos) (tUn r ta):=by
 have ha:=ha.h;constructor
 intro pins s σ H Q I h
 exact UnaryOp_ (bq (ha pins s σ H _ I h) fun v s1 ⟨x,H1,I1,r1,q1⟩=>ho pins s1 σ H1 x v Q I1 r1 q1)
theorem uJ (K:Fg) {a b:Expr} {ta:TA} {p pos:Pos} (hg:Gl X "zip") (hm:X.mg "zip"=none) (ha:bA X [a,b] ta) (hK:X.K=K:=by rfl) (hs:starEach [a,b] X.env=[(false,eval a X.env),(false,eval b X.env)] :=by rfl) (hs2:starEach [b] X.env=[(false,eval b X.env)] :=by rfl):bI X (.Tuple elts kk tpos) (.Call (.Name "zip" p) [a,b] [] pos) (aeH K ta):=by
 have ha:=ha.h;constructor
 subst hK
 intro pins s σ H R I h
 refine Call_ (xY I hg hm boot_zip (Yd (bq (ha pos pins s σ H _ I h) fun us s1 ⟨vs,H1,I1,r1,q1⟩=>?_) (by rw [hs,hs2]) (by rw [hs2];rfl)))
 obtain ⟨u1,u2,S1,S2,xs,ys,e,k1,k2,q⟩:=q1
 subst e
 obtain ⟨u,w',rfl,ru,rw'⟩:=vals2 r1
 obtain ⟨g1,l1,o1,p1,lt1,b1,ak8,at1,st1,c1⟩:=k1.ok I1 ru
 obtain ⟨g2,l2,o2,p2,lt2,b2,ae6,at2,st2,c2⟩:=k2.ok I1 rw'
 refine callType_newIn F.called_zip (by decide) (F.typeCall_zip_2 _ _) (F.newCall_zip_2 _ _) (fun obj=>F.args_object_init_3 obj _ _) F.entry_zip_new (RO st1 st2) ⟨b1,ae6 _ _ b2,?_⟩
 have z1:(s1.heap.push o1).objs.size=s1.heap.objs.size+1:=mH ..
 have z2:((s1.heap.push o1).push o2).objs.size=s1.heap.objs.size+2:=by rw [mH,z1]
 generalize e3:({ cls:= .type "tuple",data:= .seq #[.ref s1.heap.objs.size, .ref (s1.heap.push o1).objs.size] }:Obj)=o3
 have z3:(((s1.heap.push o1).push o2).push o3).objs.size=s1.heap.objs.size+3:=by rw [mH,z2]
 generalize e4:({ cls:= .type "tuple",data:= .seq #[.none, .none] }:Obj)=o4
 have z4:((((s1.heap.push o1).push o2).push o3).push o4).objs.size=s1.heap.objs.size+4:=by rw [mH,z3]
 generalize e5:({ cls:= .type "zip",data:= .fields #[.none, .bool false, .bool false, .ref ((s1.heap.push o1).push o2).objs.size, .ref (((s1.heap.push o1).push o2).push o3).objs.size] }:Obj)=o5
 have g5:(((((s1.heap.push o1).push o2).push o3).push o4).push o5).get? ((((s1.heap.push o1).push o2).push o3).push o4).objs.size=some o5:=d_ _ (by rw [<-e5];rfl)
 have g4:(((((s1.heap.push o1).push o2).push o3).push o4).push o5).get? (((s1.heap.push o1).push o2).push o3).objs.size=some o4:=cD _ (d_ _ (by rw [<-e4];rfl))
 have g3:(((((s1.heap.push o1).push o2).push o3).push o4).push o5).get? ((s1.heap.push o1).push o2).objs.size=some o3:=cD _ (cD _ (d_ _ (by rw [<-e3];rfl)))
 have g2':(((((s1.heap.push o1).push o2).push o3).push o4).push o5).get? (s1.heap.push o1).objs.size=some o2:=cD _ (cD _ (cD _ (at2 _)))
 have g1':(((((s1.heap.push o1).push o2).push o3).push o4).push o5).get? s1.heap.objs.size=some o1:=cD _ (cD _ (cD _ (cD _ (at1 _))))
 have kp:∀c o,s1.heap.get? c=some o->(((((s1.heap.push o1).push o2).push o3).push o4).push o5).get? c=some o:=fun c o x=>cD _ (cD _ (cD _ (cD _ (cD _ x))))
 rw [z4] at g5 ⊢
 rw [z3] at g4 e5
 rw [z2] at g3 e5
 rw [z1] at g2' e3
 generalize (((((s1.heap.push o1).push o2).push o3).push o4).push o5)=hN at *
 show _/\_
 subst e3 e4 e5
 refine ⟨⟨_,g5,Z⟩,wpAny_pyIter_zip (s:={ s1 with heap:=hN }) g5 ?_⟩
 have I2:Inv X pins σ H1 { s1 with heap:=hN }:=I1.kept (t':=s1.toks) kp
 obtain ⟨t1,ak_,C1,n1⟩:=c1 s1.heap.objs.size
 obtain ⟨t2,ala,C2,n2⟩:=c2 (s1.heap.objs.size+1)
 refine ⟨s1.heap.objs.size+4,[s1.heap.objs.size+4,s1.heap.objs.size+2,s1.heap.objs.size+3,s1.heap.objs.size,s1.heap.objs.size+1],_,_,H1,Z,I2,Uw (Og lt1 lt2) C1 C2,⟨g5,g3,⟨_,_,g4⟩,n1 _ g1',n2 _ g2'⟩,fun b hb=>?_,q⟩
 have hb':b=s1.heap.objs.size+4\/b=s1.heap.objs.size+2\/b=s1.heap.objs.size+3\/b=s1.heap.objs.size\/b=s1.heap.objs.size+1:=by simpa using hb
 have le:s1.heap.objs.size<=b:=by
  rcases hb' with r|r|r|r|r
  . rw [r];exact D6 _ _
  . rw [r];exact D6 _ _
  . rw [r];exact D6 _ _
  . rw [r];exact aS _
  . rw [r];exact D6 _ _
 exact I1.GF le (I1.hok.fresh le)
theorem aU {op:CmpOp} {r:R2} (ho:gZ X (compareOp op) r) (ha:bE X a ta) (hb:bE X b tb) (hm:behindInMarks op b=false):bT X (.Compare a [op] [b] pos) (Rq (Em r ta tb)):=by
 have ha:=ha.h;have hb:=hb.h;constructor
 intro pins s σ H Q I h
 refine wpAny_isTrue_Compare1 (bq (ha pins s σ H _ I h) fun v s1 ⟨x,H1,I1,r1,q1⟩=>bq (hb pins s1 σ H1 _ I1 q1) fun u s2 ⟨y,H2,I2,r2,q2⟩=>
  bq (ho pins s2 σ H2 x y v u _ I2 r1 r2 q2) fun c s3 ⟨z,H3,I3,r3,k,e,q3⟩=>?_) hm
 subst e
 cases r3
 exact Am ⟨H3,I3,q3⟩
theorem aN {i:Nat} {x:Str} {e:Expr} {te:TE} {pos':Pos} (hN:X.N.Nodup) (he:bE X e te) (hi:X.N[i]?=some x:=by rfl) (hx:Loc X.env.scope x:=by first|exact Or.inl rfl|exact Or.inr rfl) (hs:swapsWith e (some (.Name x pos')) pos.line X.env=pure false:=by rfl) (hf:X.fn x=true\/X.env.scope.names.lookup x=some .local:=by first|exact .inl rfl|exact .inr rfl|assumption):bS X (.Assign [.Name x pos'] e pos) (Ao te (gh i)):=by
 have he:=he.h;constructor
 intro pins s σ H D I h
 refine wpAny_Assign_Name (bq (he pins s σ H _ I h) fun v s1 ⟨y,H1,I1,r1,q1⟩=>?_) hs
 exact uS I1 hN hi hx r1 (fun s2 I2=>⟨_,H1,I2,q1⟩) hf
theorem aar {X:Cx} {pos:Pos} {keys:List (Option Expr)} {values:List Expr} {Ex:List (TE×TE)} (h:YS X pos keys values Ex) (hall:keys.all (·.isSome)=true) (hl:keys.length=values.length) (h0:keys≠[]) (h15:keys.length<=15):bE X (.Dict keys values pos) (aex Ex):=by
 have h:=h.h;constructor
 intro pins s σ H Q I q
 have hn:=I.hok.fresh (aS s.heap.objs.size)
 have I1:=I.laid (a:=s.heap.objs.size) (o:= .dK []) (h':=s.heap.push { cls:= .type "dict",data:= .dict #[] }) (t':=s.toks) (fun _ _ q=>cD _ q) (aS _) (Lh s.heap I.big)
 refine wpAny_Dict_walk (knd:=c9 X.prog X.w) hall hl h0 h15 (bq (h pins _ σ _ _ I1 (q _ hn)) fun ws s2 ⟨ps,H2,I2,rel,e,kvs,ep,lk,q2⟩=>?_)
 subst ep
 obtain ⟨rs,c,rk⟩:=Ey (P:=X.prog) (w:=X.w) rel
 obtain ⟨z,hd,vs0,r0,dd⟩:=Ew I2.hok e
 cases r0
 refine ⟨rs,c,dd,fun h' Cv hs=>⟨.ref s.heap.objs.size,_,?_,Z,q2⟩⟩
 have hz:(x8 [] kvs).length<=sizeLine:=by
  have h1:=zY kvs []
  rw [List.length_nil] at h1
  rw [fj];omega
 have he:∃q,h'.get? s.heap.objs.size=some q:=let ⟨q,_,_,hq,_⟩:=Cv;⟨q,hq⟩
 exact BU I2 (by rw [e];exact True.intro) hs he (Lg hz hd (rk.merge .nil) Cv)
theorem dN (K:Fg) {tg l:Expr} {tl:TE} (hl:bE X l tl) (hK:X.K=K:=by rfl):bI X tg l (Ym K tl):=by
 have hl:=hl.h;exact ⟨hK▸Zl hl⟩
theorem dZ {X:Cx} {e:Expr} {t:TT} (h:bT X e t):bT X e (fun σ H Q=>∃b:Bool,t σ H (fun b' H'=>b'=b/\H'=H)/\Q b H):=by
 have h:=h.h;constructor
 intro pins s σ H Q I hw
 obtain ⟨b,hb,q⟩:=hw
 refine bq (h pins s σ H _ I hb) fun b' s' ⟨H',I',e1,e2⟩=>?_
 subst e1 e2
 exact ⟨_,I',q⟩
theorem au {st:Stmt} (h1:bS X st t):cF X [st] t:=by
 have h1:=h1.h;constructor
 intro pins s σ H D I h
 refine wpAny_execs_cons (bq (h1 pins s σ H D I h) fun f s1 q=>?_)
 cases f with
 | next=>exact yD q
 | ret v=>exact q
 | brk=>exact q
 | cont=>exact q
theorem aas (ho:bE X o td) (hi:bE X i ty):bS X (.Delete [.Subscript o i tpos] pos) (aew td ty):=by
 have ho:=ho.h;have hi:=hi.h;constructor
 intro pins s σ H D I h
 refine wpAny_Delete (wpAny_deleteEach_cons (wpAny_delete_Subscript (bq (ho pins s σ H _ I h) fun u s1 ⟨x,H1,I1,rx,q1⟩=>bq (hi pins s1 σ H1 _ I1 q1) fun iv s2 ⟨y,H2,I2,ry,a,kvs,k,ex,e,ey,l,q2⟩=>?_)))
 subst ex ey
 obtain rfl:u=Value.ref a:=rx
 exact T6 I2 e ry l fun s3 I3=>wpAny_deleteEach_nil ⟨σ,_,I3,q2⟩
theorem dJ (ha:bT X a tA):bT X (.UnaryOp .Not a pos) (ahx tA):=by
 have ha:=ha.h;constructor
 intro pins s σ H Q I h
 exact isTrue_not (ha pins s σ H (fun c H1=>Q (!c) H1) I h)
theorem cT (he:bE X e te) (hs:swapsWith e none pos.line X.env=pure false:=by rfl):bS X (.Expr e pos) (aec te):=by
 have he:=he.h;constructor
 intro pins s σ H D I h
 exact wpAny_Expr_any (bq (he pins s σ H _ I h) fun v s1 ⟨x,H1,I1,r1,q1⟩=>⟨σ,H1,I1,q1⟩) I.quiet hs
theorem gO {pl:Sem Bool} {j k:Nat} {C:Addr} {m:Str} {ps:List Str} {sp:Sp} {o e:Expr} {es:List Expr} {ta:TE} {t:TA} {apos pos:Pos} (D:Mn X.prog X.w X.K X.mg X.base j C m ps sp) (hr:dI k X.A) (ho:bE X o ta) (ha:bA X (e::es) t) (hj:j<=k:=by decide) (hst:starEach (e::es) X.env=(false,eval e X.env)::starEach es X.env:=by rfl) (hpl:(backTo pos (starEach es X.env)).any (·.1)=false:=by rfl) (ht:eval (.Call (.Attribute o m apos) (e::es) [] pos) X.env=(do
   let ov <-eval o X.env
   standAt apos.atName
   let (f,first) <-holding [ov] (getMethod ov m pl)
   callWith pos f first (backTo pos (starEach (e::es) X.env)) (backToKw pos (keywordEach [] X.env))):=by rfl):bE X (.Call (.Attribute o m apos) (e::es) [] pos) (Es C m sp [] E0 ta t):=by
 have ho:=ho.h;have ha:=ha.h;constructor
 obtain ⟨f,fd,F,b,hm,c⟩:=D.ex
 exact PB (pl:=pl) ho c hm F (hr.mono hj) b .nil (fun _ _ _ _ _ _ _ h=>h.elim) ha hst hpl ht
theorem cW {e:Expr} {es:List Expr} {t:TG} {u:Eh} (h1:bG X e t) (h2:YR X es u) (hs:(assignEach (e::es) X.env).map (·.2)=assign e X.env::(assignEach es X.env).map (·.2):=by rfl):YR X (e::es) (Yl t u):=by
 have h1:=h1.h;have h2:=h2.h;constructor
 intro pins s σ H vs us Q I r h
 obtain ⟨v,vr,e1,h⟩:=h
 subst e1
 cases r with
 | cons r rr=>
   rw [hs]
   refine assignInOrder_cons (bq (h1 pins s σ H _ _ _ I r h) fun _ s1 ⟨σ1,H1,I1,q1⟩=>?_)
   exact h2 pins s1 σ1 H1 _ _ Q I1 rr q1
theorem uK {i:Nat} {x:Str} {px pos':Pos} {tg iter elt:Expr} {scope:Scope} {pos:Pos} (N2:List Str) (ix:List (Option Nat)) {wi:TI} {g:TG} {te:TE} (hN:X.N.Nodup) (hi:X.N[i]?=some x) (hx:X.env.scope.names.lookup x=some .local) (hc:X.calm=true) (hit:bI X tg iter wi) (hg:∀cl s₂ H₂ fp,bG (c6 X N2 scope cl s₂ H₂ fp) tg g) (he:∀cl s₂ H₂ fp,bE (c6 X N2 scope cl s₂ H₂ fp) elt te) (hk:scope.kind = .function) (hn:nF X.N X.env.scope.names scope.names N2 ix=true) (hw:swapsWith (.ListComp elt [⟨tg,iter,[],0⟩] scope pos) (some (.Name x px)) pos'.line X.env=pure true) (hs:∀x,foldedSetIterable iter X.env x=pure x:=by intro _;rfl):bS X (.Assign [.Name x px] (.ListComp elt [⟨tg,iter,[],0⟩] scope pos) pos') (Ao (Yt wi ix g te) (gh i)):=by
 have hit:=hit.h;have hg:=fun cl s₂ H₂ fp=>(hg cl s₂ H₂ fp).h;have he:=fun cl s₂ H₂ fp=>(he cl s₂ H₂ fp).h;constructor
 intro pins s σ H D I h
 obtain ⟨k1,k2,k3,k4,k5⟩:=mP hn
 obtain ⟨cl,Lv,c1,c2⟩:=uy (scope:=scope) (env:=X.env) fun y hy e=>I.ok.has y.1 (k3 y hy e)
 rw [exec_Assign_Name_used _ _ _ _ hw]
 refine aq (BG (aq ?_))
 show wpAny _ X.A (do let _ <-comprehension (.ListComp elt [⟨tg,iter,[],0⟩] scope pos) scope X.env _ (newList []) false (eval iter X.env) (some (assign (.Name x px) X.env))) _ _ s
 refine aq (bq (Q0 (use:=some (assign (.Name x px) X.env)) (Q:=fun _ s'=>SP X pins D .next s') rfl hs Lv hk k4 (bq (hit pins s σ H _ I h) fun v s1 h1=>bq h1 fun itv s2 h2=>?_)) fun _ s' hq=>aL (aL hq))
 obtain ⟨it,fp,tn,J,H2,e,I2,T,st2,f2,h2⟩:=h2
 subst e
 refine EE (RR:=fun acc C=>compPost (model X.prog X.w) X.A X.xe (some (assign (.Name x px) X.env)) (fun _ s'=>SP X pins D .next s') acc C) (Q:=fun v H'=>D.nx (σ.set i (some v)) H') hc hg he hk hn (fun y c m=>(c1 y c m).1) c2 I2 T st2 f2 h2 ?_
 intro acc C H' s' m I' ns Ax hL hsz pR yO q
 show wpAny _ X.A (assign (.Name x px) X.env (.ref acc)) _ _ _
 refine wpAny_assign_Name (An I' hN hi (.inl hx) (v:= .ref acc) rfl (fun s3 I3 ⟨a,sb,ha⟩=>?_) (.inr hx))
 have ca:C≠a:=by
  rcases ha with z|z
  . rw [z];exact hL
  . exact fun e=>pR x a z e.symm
 exact ⟨m,ns.sameBut sb ca,fun h' hs'=>⟨_,H',I3.turned (it:=C) (t':=s3.toks) (fun b o hb e=>(hs'.2 b hb).trans e) Ax hL (.inr hsz) pR yO,q⟩⟩
theorem vA {X:Cx} {pos:Pos} {k v:Expr} {ks:List (Option Expr)} {vs:List Expr} {tk tv:TE} {Ex:List (TE×TE)} (hk:bE X k tk) (hv:bE X v tv) (hr:YS X pos ks vs Ex):YS X pos (some k::ks) (v::vs) ((tk,tv)::Ex):=by
 have hk:=hk.h;have hv:=hv.h;have hr:=hr.h;exact ⟨fun pins s σ H Q I h=>
 pairTrees_cons_walk (bq (hk pins s σ H _ I h) fun u s1 ⟨x,H1,I1,rx,q1⟩=>bq (hv pins s1 σ H1 _ I1 q1) fun w2 s2 ⟨y,H2,I2,ry,q2⟩=>
  bq (hr pins s2 σ H2 _ I2 q2) fun ws s3 ⟨ps,H3,I3,rel,q3⟩=>⟨(x,y)::ps,H3,I3, .cons ⟨rx,ry⟩ rel,q3⟩)⟩
theorem A0 (hu:X.A.units+1<cLine) (hi:bE X i ty) (ho:bE X o td):bC X .NotIn i o (ZA ty td):=by
 have hi:=hi.h;have ho:=ho.h;constructor
 intro pins s σ H Q I h
 refine bq (hi pins s σ H _ I h) fun iv s1 ⟨y,H1,I1,ry,q1⟩=>bq (ho pins s1 σ H1 _ I1 q1) fun u s2 ⟨x,H2,I2,rx,a,ov,ex,g,q2⟩=>?_
 subst ex
 obtain rfl:u=Value.ref a:=rx
 exact Zx hu I2 g ry fun s3 I3=>⟨.bl (!ov.isSome),H2,I3,Z,q2⟩
theorem fk {b j pos}:bE X (.Constant (.bool b) j pos) (tC (.bl b)):=by
 exact ⟨fun _ _ _ H _ I h=>Constant_bool ⟨.bl b,H,I,Z,h⟩⟩
theorem yi {pl:Sem Bool} {j k:Nat} {C:Addr} {m:Str} {ps:List Str} {sp:Sp} {o:Expr} {ta:TE} {apos pos:Pos} (D:Mn X.prog X.w X.K X.mg X.base j C m ps sp) (hr:dI k X.A) (ho:bE X o ta) (hj:j<=k:=by decide) (ht:eval (.Call (.Attribute o m apos) [] [] pos) X.env=(do
   let ov <-eval o X.env
   standAt apos.atName
   let (f,first) <-holding [ov] (getMethod ov m pl)
   callWith pos f first (backTo pos (starEach [] X.env)) (backToKw pos (keywordEach [] X.env))):=by rfl):bE X (.Call (.Attribute o m apos) [] [] pos) (Es C m sp [] E0 ta m_):=by
 have ho:=ho.h;constructor
 obtain ⟨f,fd,F,b,hm,c⟩:=D.ex
 exact WB (pl:=pl) ho c hm F (hr.mono hj) b .nil (fun _ _ _ _ _ _ _ h=>h.elim) ht
theorem aO (he:bE X e te):bS X (.Return (some e) pos) (ahz te):=by
 have he:=he.h;constructor
 intro pins s σ H D I h
 exact wpAny_Return_some (bq (he pins s σ H _ I h) fun v s1 ⟨x,H1,I1,r1,q1⟩=>⟨x,σ,H1,I1,r1,q1⟩)
theorem dX {tg:Expr} {a:Expr} {ta:TA} {p pos:Pos} (hg:Gl X "range") (hm:X.mg "range"=none) (ha:bA X [a] ta) (hs:starEach [a] X.env=[(false,eval a X.env)] :=by rfl):bI X tg (.Call (.Name "range" p) [a] [] pos) (aeh ta):=by
 have ha:=ha.h;constructor
 intro pins s σ H R I h
 refine Call_ (xY I hg hm boot_range (Yd (bq (ha pos pins s σ H _ I h) fun us s1 ⟨vs,H1,I1,r1,q1⟩=>?_) hs rfl))
 obtain ⟨j,e,q1,q2,q⟩:=q1
 subst e
 cases r1 with
 | cons r rr=>
   cases rr
   obtain ⟨t,rfl⟩:=r
   exact call_range_1 (Wr I1 (by omega) (by omega) q1 q2 (by simpa using q))
theorem acY {j:Nat} {n J:Str} {Ja:Addr} {t:TX} {u:TS} {body:List Stmt} {b0:Stmt} {suite:List Stmt} {p hp pos:Pos} (hN:X.N.Nodup) (hj:X.N[j]?=some n) (hl:X.env.scope.names.lookup n=some .local) (hno:∀e s,X.xe e s->False) (hst:X.stack=X.env::X.outer) (hfr:X.env.frame=some X.env.locals) (hb:bX X body t) (hg:Gl X J) (hm:X.mg J=some (.ref Ja)) (hs:∀x,cF (X.held x) (b0::suite) u) (hd:(J==("__debug__":Str))=false:=by decide):bS X (.Try body [.ExceptHandler (some (.Name J p)) (some n) (b0::suite) hp] [] [] pos) (ah6 X.K Ja j t u):=by
 have hb:=hb.h;have hs:=fun x=>(hs x).h;constructor
 intro pins s σ H D I h
 refine wpAny_Try_except (gY (hb pins s σ H _ _ I h) (fun f s1 q=>?_) fun ev s1 q=>?_)
 . cases f with
   | next=>exact yD q
   | brk=>exact q
   | cont=>exact q
   | ret u=>exact q
 . obtain ⟨x,C,σ',Hc,sc,H',rfl,F,hk,hR⟩:=q
   refine XD F I.ok.frames hst hfr fun s2 F2=>Mb F2 fun s3 F3=>?_
   have I3:Inv (X.held x) pins σ' H' s3:=F3.inv.held x
   refine wpAny_handleBy_cons (codeAny_handlers_test (qO (X:=X.held x) I3 hg hm ?_ hd)) (by intro z;cases z)
   obtain ⟨T,⟨oe,vs,a0,oT,ts,h1,h2,_⟩,_⟩:=F3.tr
   have LT:PySem.W.Looks (model X.prog X.w) s3.heap (typeOf (.ref x)) (.ref C):=by
    have:=(PySem.W.Looks.ld (M:=model X.prog X.w) (part:=none) h1).andThen (f:=fun o=>(pure o.cls:Sem Value)) (PySem.W.Looks.now)
    rw [h2] at this
    exact this
   refine (PySem.W.exm_one I3.iP LT hk).here ?_
   refine codeAny_handlers_suite_as (Mb F3 fun s4 F4=>?_)
   have I4:Inv (X.held x) pins σ' (upd H' x (Dr x C)) s4:=F4.known.held x
   refine uS (X:=X.held x) I4 hN hj (.inl hl) (v:= .ref x) rfl (fun s5 I5=>?_) (.inr hl)
   refine gY (hs x pins s5 _ _ _ I5 (hR x F4.hx)) (fun f s6 q=>?_) fun e s6 z=>(hno e s6 z).elim
   have goes:∀{σ2 H2} {Q:Prop} {G:Shared->Prop} {p:Pos},Inv (X.held x) pins σ2 H2 s6->(∀s',Inv X pins (σ2.set j none) H2 s'->G s')->wpAny (model X.prog X.w) X.A (do bindName X.env n .none;unbindBehindTheSuite X.env n p) (fun _ s'=>G s') X.xe s6:=by
    intro σ2 H2 _ G p I6 k
    have I7:=I6.acO I.ok
    obtain ⟨m,hm,hlo⟩:=I7.loc
    refine wpAny_nameGoes_keeps (m:=m) (by unfold Env.kindOf;exact hl) hm (by rw [I.ok.kind];rfl) fun h' v hn hs=>k _ (I7.gone hN hj hm hlo hn hs)
   cases f with
   | next=>obtain ⟨σ2,H2,I6,q⟩:=q;exact goes (Q:=True) I6 fun s' I'=>⟨_,H2,I',q⟩
   | brk=>obtain ⟨σ2,H2,I6,q⟩:=q;exact goes (Q:=True) I6 fun s' I'=>⟨_,H2,I',q⟩
   | cont=>obtain ⟨σ2,H2,I6,q⟩:=q;exact goes (Q:=True) I6 fun s' I'=>⟨_,H2,I',q⟩
   | ret u=>obtain ⟨v,σ2,H2,I6,r,q⟩:=q;exact goes (Q:=True) I6 fun s' I'=>⟨v,_,H2,I',r,q⟩
theorem aT:cF X [] aeb:=by
 exact ⟨fun _ _ σ H _ I h=>yD ⟨σ,H,I,h⟩⟩
theorem fh (K:Fg) {o value:Expr} {f:Str} {ta tv:TE} {pos pos':Pos} (ha:bE X o ta) (hv:bE X value tv) (hs:swapsWith value (some (.Attribute o f pos')) pos.line X.env=pure false:=by rfl) (hK:X.K=K:=by rfl):bS X (.Assign [.Attribute o f pos'] value pos) (abf K ta tv f):=by
 have ha:=ha.h;have hv:=hv.h;exact ⟨hK▸abi ha hv hs⟩
theorem acZ {j k:Nat} {g:Str} {ps:List Str} {sp:Sp} {e:Expr} {es:List Expr} {t:TA} {p pos p2 p3 p4:Pos} {kd:Nat} {body:List Stmt} (D:Dx X.prog X.w X.K X.mg X.base j g ps sp) (hr:dI k X.A) (hno:∀e s,X.xe e s->False) (ha:bA X (e::es) t) (hj:j<=k:=by decide) (hg:Gl X g:=by rfl) (hdb:(g==("__debug__":Str))=false:=by decide) (he:starEach (e::es) X.env=(false,eval e X.env)::starEach es X.env:=by rfl) (hpl:(backTo pos (starEach es X.env)).any (·.1)=false:=by rfl):bX X [.If (.Compare (.Call (.Name g p) (e::es) [] pos) [.IsNot] [.Constant .none kd p2] p3) body [] p4] (aeX sp t):=by
 have ha:=ha.h;constructor
 intro pins s σ H Dn R I h
 refine wpAny_execs_cons (wpAny_If (wpAny_isTrue_Compare1 (gY (aeW D hr hno ha hj hg hdb he hpl I h) (fun v s1 ⟨y,H1,I1,r1,ey,q1⟩=>?_) fun ev s1 ⟨x,C,Hc,sc,H',ev',F,hR⟩=>⟨x,C,σ,Hc,sc,H',ev',F,hR⟩) (K6 _ (by decide) (by decide))))
 subst ey
 cases r1
 exact Constant_none (isnot_none_gen (Am (yD (yD ⟨_,H1,I1,q1⟩))))
theorem Vn {a:Expr} {ta:TA} {p pos:Pos} (hg:Gl X "range") (hm:X.mg "range"=none) (ha:bA X [a] ta) (hs:starEach [a] X.env=[(false,eval a X.env)] :=by rfl):bE X (.Call (.Name "range" p) [a] [] pos) (ahS ta):=by
 have ha:=ha.h;constructor
 intro pins s σ H Q I h
 refine Call_ (xY I hg hm boot_range (Yd (bq (ha pos pins s σ H _ I h) fun us s1 ⟨vs,H1,I1,r1,q1⟩=>?_) hs rfl))
 obtain ⟨j,e,q⟩:=q1
 subst e
 obtain ⟨u,rfl,ru⟩:=vals1 r1
 obtain ⟨t,rfl⟩:=ru
 exact call_range_1 ⟨.ref s1.heap.objs.size,_,I1.laid (a:=s1.heap.objs.size) (o:= .wC 0 j) (fun b o e=>cD _ e) (aS _) ⟨_,_,_,d_ _ rfl⟩,Z,q _ I1.fresh⟩
theorem eF (h:bA X es t):bE X (.List es pos) (Rx t):=by
 have h:=h.h;constructor
 intro pins s σ H Q I hq
 refine wpAny_List_spliced (bq (h pos pins s σ H _ I hq) fun us s1 ⟨xs,H1,I1,r,z,q⟩=>⟨by rw [<-r.length];exact z,?_⟩)
 have hf:H1 s1.heap.objs.size=none:=I1.hok.fresh (aS _)
 refine ⟨.ref s1.heap.objs.size,upd H1 s1.heap.objs.size (.lst xs),I1.laid (t':=s1.toks) (fun b u e=>cD _ e) (aS _) ?_,Z,q _ hf⟩
 exact ⟨z,us,0,r,d_ _ rfl⟩
theorem uB (K:Fg) {o value:Expr} {f:Str} {ta tv:TE} {pos tpos:Pos} {op:Operator} {rd:V->V->Hp->VK->Prop} (ha:bE X o ta) (hv:bE X value tv) (hop:Rr X op rd) (hK:X.K=K:=by rfl):bS X (.AugAssign (.Attribute o f tpos) op value pos) (Py K ta tv rd f):=by
 have ha:=ha.h;have hv:=hv.h;exact ⟨hK▸TJ ha hv hop⟩
theorem ac0 {j pos}:bE X (.Constant .none j pos) (tC .cg):=by
 exact ⟨fun _ _ _ H _ I h=>Constant_none ⟨.cg,H,I,Z,h⟩⟩
theorem XR {i:Nat} {x:Str} {px pos':Pos} {tg iter elt cond:Expr} {scope:Scope} {pos:Pos} (N2:List Str) (ix:List (Option Nat)) {wi:TI} {g:TG} {tc:TT} {te:TE} (hN:X.N.Nodup) (hi:X.N[i]?=some x) (hx:X.env.scope.names.lookup x=some .local) (hc:X.calm=true) (hit:bI X tg iter wi) (hg:∀cl s₂ H₂ fp,bG (c6 X N2 scope cl s₂ H₂ fp) tg g) (he:∀cl s₂ H₂ fp,bE (c6 X N2 scope cl s₂ H₂ fp) elt te) (ht:∀cl s₂ H₂ fp,bT (c6 X N2 scope cl s₂ H₂ fp) cond tc) (hk:scope.kind = .function) (hn:nF X.N X.env.scope.names scope.names N2 ix=true) (hw:swapsWith (.ListComp elt [⟨tg,iter,[cond],0⟩] scope pos) (some (.Name x px)) pos'.line X.env=pure true) (hs:∀x,foldedSetIterable iter X.env x=pure x:=by intro _;rfl):bS X (.Assign [.Name x px] (.ListComp elt [⟨tg,iter,[cond],0⟩] scope pos) pos') (Ao (EL wi ix g tc te) (gh i)):=⟨W9 N2 ix hN hi hx hc hit.h (fun cl s₂ H₂ fp=>(hg cl s₂ H₂ fp).h) (fun cl s₂ H₂ fp=>(he cl s₂ H₂ fp).h) (fun cl s₂ H₂ fp=>(ht cl s₂ H₂ fp).h) hk hn hw hs⟩
theorem Hg {ob:Expr} {td:TE} {apos cpos:Pos} (hob:bE X ob td) (hbase:attributeBase ob "values" X.env (eval ob X.env)=eval ob X.env:=by rfl) (hline:(apos.endLine==cpos.line)=true:=by rfl):bE X (.Call (.Attribute ob "values" apos) [] [] cpos) (aeG td):=by
 have hob:=hob.h;constructor
 intro pins s σ H Q I h
 refine wpAny_Call_method0_late hbase hline (bq (hob pins s σ H _ I h) fun v s1 ⟨x,H1,I1,r1,q1⟩=>?_)
 obtain ⟨d,kvs,rfl,e,fin⟩:=q1
 cases r1
 obtain ⟨t1,t2,hsys⟩:=Li I1 (.inl ⟨kvs,e⟩)
 obtain ⟨hz,_,vs,rel,dd⟩:=rV I1.hok e
 refine ⟨"dict",_,F.plainAttrs_dict,Rh,F.type_dict_values,t1,t2,Q6 rfl (PySem.evalArgs_none ?_)⟩
 refine call_meetsIn Rh dd.typeIs F.entry_dict_values (F.args_dict_values_1 _) (meets_dict_values (c9 X.prog X.w) d hsys) ⟨⟨vs,dd⟩,?_⟩
 refine ⟨.ref s1.heap.objs.size,_,I1.laid (t':=s1.toks) (o:=lI s1.heap.objs.size d) (fun b u e=>cD _ e) (aS _) ?_,Z,fin _ I1.fresh⟩
 refine ⟨⟨_,d_ _ rfl,Z,Z⟩,⟨_,d_ _ rfl⟩,fun h1 h2 ⟨o,a,b⟩ k=>⟨o,k o a,b⟩⟩
theorem YT {j k:Nat} {x:Str} {C:Addr} {ps:List Str} {sp:Sp} {e:Expr} {es:List Expr} {t:TA} {p pos:Pos} (D:Cn X.prog X.w X.K X.mg X.base j x C ps sp) (hr:dI k X.A) (ha:bA X (e::es) t) (hj:j+1<=k:=by decide) (hg:Gl X x:=by rfl) (hdb:(x==("__debug__":Str))=false:=by decide) (he:starEach (e::es) X.env=(false,eval e X.env)::starEach es X.env:=by rfl) (hpl:(backTo pos (starEach es X.env)).any (·.1)=false:=by rfl):bE X (.Call (.Name x p) (e::es) [] pos) (KC C sp [] E0 t):=by
 have ha:=ha.h;constructor
 obtain ⟨f,fd,F,b,M,m⟩:=D.ex
 exact Zr M F (hr.mono hj) hg m b .nil (fun _ _ _ _ _ _ _ h=>h.elim) ha hdb he hpl
theorem ki {x:Str} {v:V} {u:Value} {pos:Pos} (hg:Gl X x) (hm:X.mg x=some u) (r:RelV v u) (hd:(x==("__debug__":Str))=false:=by decide):bE X (.Name x pos) (tC v):=by
 exact ⟨fun _ _ _ H _ I h=>qO I hg hm ⟨v,H,I,r,h⟩ hd⟩
theorem lZ (hc:gI X (.type T) r) (hg:Gl X x) (hm:X.mg x=none) (hv:bootBuiltins x=some (.type T)) (ha:bA X (e::es) t) (hn:x ≠ "__name__":=by decide) (hdb:(x==("__debug__":Str))=false:=by decide) (he:starEach (e::es) X.env=(false,eval e X.env)::starEach es X.env:=by rfl) (hpl:(backTo pos (starEach es X.env)).any (·.1)=false:=by rfl):bE X (.Call (.Name x p) (e::es) [] pos) (tCB r t):=by
 have ha:=ha.h;constructor
 intro pins s σ H Q I h
 refine Gx (xY I hg hm hv ?_ hn hdb)
 exact Yd (bq (ha pos pins s σ H _ I h) fun us s1 ⟨vs,H1,I1,r1,q1⟩=>hc pins s1 σ H1 vs us Q I1 r1 q1) he hpl
theorem gK {rest:List Expr} (ha:bT X a tA) (hb:bW X (.BoolOp .Or (b::rest) pos) Yj):bW X (.BoolOp .Or (a::b::rest) pos) (tOr tA Yj):=by
 have ha:=ha.h;have hb:=hb.h;constructor
 intro wh pins s σ H Q I h
 refine isTrue_or (bq (ha pins s σ H _ I h) fun c s1 ⟨H1,I1,q1⟩=>?_)
 cases c with
 | true=>exact ⟨H1,I1,q1⟩
 | false=>exact hb wh pins s1 σ H1 Q I1 q1
theorem yj (ha:bT X a tA):bW X (.BoolOp .And [a] pos) tA:=by
 have ha:=ha.h;constructor
 intro wh pins s σ H Q I h
 refine isTrue_and (bq (ha pins s σ H Q I h) fun c s1 e=>?_)
 cases c with
 | true=>exact isTrue_and_nil e
 | false=>exact e
theorem cC {c:Expr} {a b:List Stmt} {tc:TT} (hc:bT X c tc) (ha:cF X a t) (hb:cF X b u):bS X (.If c a b pos) (aa0 tc t u):=⟨Yk hc.h ha.h hb.h⟩
theorem Vo {i j:Nat} {x y:Str} {a b:Expr} {ta:TA} {px py pt:Pos} {kt k2 pt2} (hc:X.calm=true) (hN:X.N.Nodup) (hi:X.N[i]?=some x) (hj:X.N[j]?=some y) (hij:i≠j) (hx:X.env.scope.names.lookup x=some .local) (hy:X.env.scope.names.lookup y=some .local) (ha:bA X [a,b] ta) (hw:swappedStores [.Tuple [.Name x px, .Name y py] kt pt] (.Tuple [a,b] k2 pt2) X.env=pure (some [x,y])) (hs:swapsWithSole [.Tuple [.Name x px, .Name y py] kt pt] (.Tuple [a,b] k2 pt2) pos.line X.env=pure false:=by rfl):bS X (.Assign [.Tuple [.Name x px, .Name y py] kt pt] (.Tuple [a,b] k2 pt2) pos) (ahB i j ta):=by
 have ha:=ha.h;constructor
 intro pins s σ H D I h
 rw [exec_Assign_arm]
 refine aq (BG ?_)
 rw [hs]
 refine aq (aL ?_)
 rw [az (by decide)]
 refine aq (Tuple_ (bq (ha _ pins s σ H _ I h) fun us s1 ⟨vs,H1,I1,r1,q1⟩=>?_))
 obtain ⟨v,w,e1,q1⟩:=q1
 subst e1
 obtain ⟨u1,u2,rfl,rv,rw'⟩:∃u1 u2,us=[u1,u2]/\RelV v u1/\RelV w u2:=by
  cases r1 with
  | cons p q=>
    cases q with
    | cons p' q'=>
      cases q'
      exact ⟨_,_,Z,p,p'⟩
 refine qN ?_ (by show 2<=sizeLine;decide)
 have I2:Inv X pins σ H1 { s1 with heap:=s1.heap.push { cls:= .type "tuple",data:= .seq [u1,u2].toArray } }:=I1.kept (t':=s1.toks) fun b o e=>cD _ e
 rw [hw]
 refine aq (aL ?_)
 show wpAny (model X.prog X.w) X.A (do rule "assign.swapped-stores";let items <-unpackItems (.ref s1.heap.objs.size) 2 none;assignInOrder [fun v=>bindName X.env y v,fun v=>bindName X.env x v] items.reverse;pure Flow.next) _ _ _
 refine aq (wpAny_rule (aq (unpackItems_tuple (items:=#[u1,u2]) (I.ok.hd hc) (IsTup.new s1.heap _) fun h' hx'=>?_)))
 have I3:=I2.kept (h':=h') (t':=s1.toks) fun b o e=>hx' b o (dS (bQ e)) e
 show wpAny _ _ (assignInOrder [fun v=>bindName X.env y v,fun v=>bindName X.env x v] [u2,u1] >>= fun _=>pure Flow.next) _ _ _
 refine aq (assignInOrder_cons (wpAny_bindName (uS I3 hN hj (.inl hy) rw' (fun s2 I4=>?_) (.inr hy))))
 refine assignInOrder_cons (wpAny_bindName (uS I4 hN hi (.inl hx) rv (fun s3 I5=>assignInOrder_nil (aL ?_)) (.inr hx)))
 rw [List.set_comm _ _ (cy hij)] at I5
 exact ⟨_,H1,I5,q1⟩
theorem ie {c:Expr} {a b:List Stmt} {tc:TT} {t u:TS} (hc:bT X c tc) (ha:cF X a t) (hb:cF X b u):bS X (.If c a b pos) (abP tc t u):=by
 have hc:=hc.h;have ha:=ha.h;have hb:=hb.h;constructor
 intro pins s σ H D I h
 obtain ⟨J,h,hJ⟩:=h
 refine bq (Yk hc ha hb pins s σ H { D with nx:=J } I h) fun f s' q=>?_
 cases f with
 | next=>obtain ⟨σ',H',I',q⟩:=q;exact ⟨σ',H',I',hJ _ _ q⟩
 | cont=>exact q
 | brk=>exact q
 | ret v=>exact q
theorem aj {st:Stmt} {rest:List Stmt} (h1:bS X st t) (h2:cF X rest u):cF X (st::rest) (xo t u):=by
 have h1:=h1.h;have h2:=h2.h;constructor
 intro pins s σ H D I h
 refine wpAny_execs_cons (bq (h1 pins s σ H { D with nx:=u D } I h) fun f s1 q=>?_)
 cases f with
 | next=>
   obtain ⟨σ',H',I',q⟩:=q
   exact h2 pins s1 σ' H' D I' q
 | ret v=>exact q
 | brk=>exact q
 | cont=>exact q
theorem ac2 (K:Fg) {e st:Expr} {te ts:TE} {pos p2:Pos} (he:bE X e te) (hst:bE X st ts) (hK:X.K=K:=by rfl):bE X (.Subscript e (.Slice none none (some st) p2) pos) (ahT K te ts):=by
 have he:=he.h;have hst:=hst.h;constructor
 subst hK
 intro pins s σ H Q I h
 refine Subscript_ (bq (he pins s σ H _ I h) fun v s1 ⟨x,H1,I1,r1,q1⟩=>?_)
 refine wpAny_Slice ?_
 rw [evalPart_none]
 refine aL (aL ?_)
 rw [evalPart_some]
 refine bq (hst pins s1 σ H1 _ I1 q1) fun w3 s3 ⟨y,H3,I3,r3,q3⟩=>?_
 obtain ⟨ey,a,xs,rfl,hx,q⟩:=q3
 subst ey
 obtain ⟨t,rfl⟩:=r3
 cases r1
 have I4:Inv X pins σ H3 { s3 with heap:=s3.heap.push { cls:= .type "slice",data:= .fields #[.none, .none, .int (-1) t] } }:=I3.kept (t':=s3.toks) fun b ob q=>cD _ q
 obtain ⟨its,r,ht,hz⟩:=I4.list hx
 have hlen:=r.length
 refine tail_any (ops:=[.ref a, .ref s3.heap.objs.size]) ht.isList.typeIs slot_list_getitem.lookup ?_ (by with_unfolding_all rfl)
 refine wpAny_getItem_list_slice ht.isList (Heap.IsSliceOf.new ..) .none .none (.int (-1) t) (by decide) ?_ (by rw [iz] <;> omega)
 rw [PySem.W.krv_pick]
 refine ⟨.ref _,_,I4.laid (t':=s3.toks) (o:= .lst xs.reverse) (fun b ob q=>cD _ q) (aS _) ?_,Z,q _ I4.fresh⟩
 exact ⟨by rw [List.length_reverse];exact hz,its.reverse,0,r.reverse,d_ _ rfl⟩
theorem jm (K:Fg) {X:Cx} {es:List Expr} {k:Nat} {t:Eh} {n:Nat} {pos:Pos} (hc:X.calm=true) (h:YR X es t) (hK:X.K=K:=by rfl) (hn:(assignEach es X.env).length=n:=by rfl) (hst:(assignEach es X.env).findIdx? (·.1)=none:=by rfl):bG X (.Tuple es k pos) (C4 K n t):=by
 have h:=h.h;exact ⟨hK▸aa5 hc h hn hst⟩
theorem bP (hu:X.A.units+1<cLine) (ho:bE X o td) (hi:bE X i ty) (hs:abE i:=by exact fun _ _=>rfl):bE X (.Subscript o i pos) (aet td ty):=by
 have ho:=ho.h;have hi:=hi.h;constructor
 intro pins s σ H Q I h
 refine Zy PySem.F.slot_dict_getitem.lookup hs (bq (ho pins s σ H _ I h) fun u s1 ⟨x,H1,I1,rx,q1⟩=>bq (hi pins s1 σ H1 _ I1 q1) fun iv s2 ⟨y,H2,I2,ry,a,v,ex,g,q2⟩=>?_)
 subst ex
 obtain rfl:u=Value.ref a:=rx
 exact ⟨Od I2 g,T4 hu I2 g ry fun w' s3 I3 rw'=>⟨v,H2,I3,rw',q2⟩⟩
theorem ao:bA X [] m_:=⟨TM⟩
theorem Hh {K:Fg} {pl:Sem Bool} {j k:Nat} {C:Addr} {m:Str} {ps:List Str} {sp:Sp} {o e:Expr} {es:List Expr} {ta:TE} {t:TA} {apos pos:Pos} (D:Mx P w K mg base j C m ps sp) (hr:dI k (dz (iC P w) P w K mg base N qual scope f cd A outer s0 H0 E).A) (ho:bE (dz (iC P w) P w K mg base N qual scope f cd A outer s0 H0 E) o ta) (ha:bA (dz (iC P w) P w K mg base N qual scope f cd A outer s0 H0 E) (e::es) t) (hj:j<=k:=by decide) (hst:starEach (e::es) (dz (iC P w) P w K mg base N qual scope f cd A outer s0 H0 E).env=(false,eval e (dz (iC P w) P w K mg base N qual scope f cd A outer s0 H0 E).env)::starEach es (dz (iC P w) P w K mg base N qual scope f cd A outer s0 H0 E).env:=by rfl) (hpl:(backTo pos (starEach es (dz (iC P w) P w K mg base N qual scope f cd A outer s0 H0 E).env)).any (·.1)=false:=by rfl) (ht:eval (.Call (.Attribute o m apos) (e::es) [] pos) (dz (iC P w) P w K mg base N qual scope f cd A outer s0 H0 E).env=(do
   let ov <-eval o (dz (iC P w) P w K mg base N qual scope f cd A outer s0 H0 E).env
   standAt apos.atName
   let (f2,first) <-holding [ov] (getMethod ov m pl)
   callWith pos f2 first (backTo pos (starEach (e::es) (dz (iC P w) P w K mg base N qual scope f cd A outer s0 H0 E).env)) (backToKw pos (keywordEach [] (dz (iC P w) P w K mg base N qual scope f cd A outer s0 H0 E).env))):=by rfl):bE (dz (iC P w) P w K mg base N qual scope f cd A outer s0 H0 E) (.Call (.Attribute o m apos) (e::es) [] pos) (Es C m sp [] E ta t):=by
 have ho:=ho.h;have ha:=ha.h;constructor
 obtain ⟨f',fd,F,b,hm,c⟩:=D.ex
 exact PB (pl:=pl) ho c hm F (hr.mono hj) b .nil aeV ha hst hpl ht
theorem ai {i j pos}:bE X (.Constant (.int i) j pos) (tC (.int i)):=by
 exact ⟨fun _ _ _ H _ I h=>wpAny_Constant_int ⟨.int i,H,I.tok _,⟨_,Z⟩,h⟩⟩
theorem E_ {rest:List Expr} (ha:bE X a ta) (hb:bE X (.BoolOp .And (b::rest) pos) tb):bE X (.BoolOp .And (a::b::rest) pos) (ad_ ta tb):=by
 have ha:=ha.h;have hb:=hb.h;constructor
 intro pins s σ H Q I h
 refine BoolOp_and (bq (ha pins s σ H _ I h) fun v s1 ⟨x,H1,I1,r1,q1⟩=>?_)
 obtain ⟨c,rfl,q1⟩:=q1
 cases r1
 refine Am ?_
 cases c with
 | true=>exact hb pins s1 σ H1 Q I1 q1
 | false=>exact ⟨.bl false,H1,I1,Z,q1⟩
theorem qX:bE X (.Dict [] [] pos) abI:=by
 exact ⟨fun pins s σ H Q I h=>
 wpAny_Dict_empty ⟨.ref s.heap.objs.size,_,I.laid (a:=s.heap.objs.size) (o:= .dK []) (t':=s.toks) (fun _ _ q=>cD _ q) (aS _) (Lh s.heap I.big),Z,h _ (I.hok.fresh (aS _))⟩⟩
theorem sW {tg e:Expr} {te:TE} {g:TG} (he:bE X e te) (hg:bG X tg g) (hs:swapsWithSole [tg] e pos.line X.env=pure false:=by rfl) (hw:swappedStores [tg] e X.env=pure none:=by rfl) (h1:(assignEach [tg] X.env).map (·.2)=[assign tg X.env] :=by rfl):bS X (.Assign [tg] e pos) (Ao te g):=by
 have he:=he.h;have hg:=hg.h;constructor
 intro pins s σ H D I h
 refine wpAny_Assign_stores (bq (he pins s σ H _ I h) fun v s1 ⟨x,H1,I1,r1,q1⟩=>?_) hs hw
 rw [h1]
 exact bq (hg pins s1 σ H1 x v _ I1 r1 q1) fun _ s2 q=>q
theorem Dw {elts:List Expr} {kk:Nat} {tpos:Pos} {ob:Expr} {td:TE} {apos cpos:Pos} (hob:bE X ob td) (hbase:attributeBase ob "items" X.env (eval ob X.env)=eval ob X.env:=by rfl) (hline:(apos.endLine==cpos.line)=true:=by rfl):bI X (.Tuple elts kk tpos) (.Call (.Attribute ob "items" apos) [] [] cpos) (ab6 td):=by
 have hob:=hob.h;constructor
 intro pins s σ H R I h
 refine wpAny_Call_method0_late hbase hline (bq (hob pins s σ H _ I h) fun v s1 ⟨x,H1,I1,r1,q1⟩=>?_)
 obtain ⟨d,o,kvs,rfl,e,fin⟩:=q1
 cases r1
 obtain ⟨ho,hz,hsys,vs,ep,rel,da⟩:=I1.rX e
 obtain ⟨t1,t2,_⟩:=Li I1 (.inl ⟨kvs, .inr ⟨o,e⟩⟩)
 have dd:=da.dictOf
 refine ⟨"dict",_,F.plainAttrs_dict,F.slot_dict_items,F.type_dict_items,t1,t2,Q6 rfl (PySem.evalArgs_none ?_)⟩
 refine call_meetsIn F.slot_dict_items dd.typeIs F.entry_dict_items (F.args_dict_items_1 _) (meets_dict_items (c9 X.prog X.w) d hsys) ⟨⟨vs,dd⟩,?_⟩
 refine wpAny_pyIter_items (s:={ s1 with heap:=s1.heap.push { cls:= .type "dict_items",data:= .fields #[.ref d] } }) ⟨_,d_ _ rfl,Z,Z⟩ (da.push _) ?_
 have Iv:Inv X pins σ H1 { s1 with heap:=s1.heap.push { cls:= .type "dict_items",data:= .fields #[.ref d] } }:=I1.kept (t':=s1.toks) fun b o e=>cD _ e
 generalize ({ s1 with heap:=s1.heap.push { cls:= .type "dict_items",data:= .fields #[.ref d] } }:Shared)=sv at *
 have I2:Inv X pins σ H1 { sv with heap:=sv.heap.push { cls:= .type "dict_itemiterator",data:= .fields #[.none, .bool false, .ref d, .int 0 0, .int vs.length 0, .int ep 0, .none, .none] } }:=Iv.kept (t':=sv.toks) fun b o e=>cD _ e
 have hl:kvs.length=vs.length:=rel.length
 obtain ⟨o',es,h1,_,h2,_⟩:=id da
 rw [ho] at h1;cases h1
 refine ⟨sv.heap.objs.size,[sv.heap.objs.size],_,_,H1,Z,I2,RL h2,?_,fun b hb=>?_,fin⟩
 . rw [hl];exact ⟨_,_,d_ _ rfl⟩
 . have eb:b=sv.heap.objs.size:=by simpa using hb
   subst eb
   exact Iv.GF (aS _) (Iv.hok.fresh (aS _))
theorem Vp {tg:Expr} {l:Expr} {tl:TE} (hl:bE X l tl):bI X tg l (abZ tl):=⟨ab0 hl.h⟩
theorem f_ (ha:bT X a tA):bW X (.BoolOp .Or [a] pos) tA:=by
 have ha:=ha.h;constructor
 intro wh pins s σ H Q I h
 refine isTrue_or (bq (ha pins s σ H Q I h) fun c s1 e=>?_)
 cases c with
 | false=>exact isTrue_or_nil e
 | true=>exact e
theorem yk {X:Cx} {st:Stmt} {t:TS} (h:bS X st t):bS X st (ahW t):=by
 have h:=h.h;constructor
 intro pins s σ H D I hw
 obtain ⟨d,kvs,e,hw⟩:=hw
 obtain ⟨ho,es,ep,h1,_⟩:=(Ew I.hok e).2.2.choose_spec.2
 have h0:=I.Ur e
 refine bq (h pins s σ _ _ (I.freeze e h1) (hw ho)) fun f s' q=>?_
 cases f with
 | next=>obtain ⟨σ',H',I',q1,q2⟩:=q;exact ⟨σ',_,I'.Dc q1 h0,q2⟩
 | brk=>obtain ⟨σ',H',I',q1,q2⟩:=q;exact ⟨σ',_,I'.Dc q1 h0,q2⟩
 | cont=>obtain ⟨σ',H',I',q1,q2⟩:=q;exact ⟨σ',_,I'.Dc q1 h0,q2⟩
 | ret u=>obtain ⟨v,σ',H',I',r,q1,q2⟩:=q;exact ⟨v,σ',_,I'.Dc q1 h0,r,q2⟩
theorem o8 (hu:X.A.units+1<cLine) (ho:bE X o td) (hi:bE X i ty) (hv:bE X value tv) (hs:swapsWith value (some (.Subscript o i pos')) pos.line X.env=pure false):bS X (.Assign [.Subscript o i pos'] value pos) (aev td ty tv):=by
 have ho:=ho.h;have hi:=hi.h;have hv:=hv.h;constructor
 intro pins s σ H D I h
 refine wpAny_Assign_Subscript (bq (hv pins s σ H _ I h) fun r s1 ⟨v,H1,I1,rv,q1⟩=>bq (ho pins s1 σ H1 _ I1 q1) fun u s2 ⟨x,H2,I2,rx,q2⟩=>bq (hi pins s2 σ H2 _ I2 q2) fun iv s3 ⟨y,H3,I3,ry,a,H4,ex,g,q3⟩=>?_) hs
 subst ex
 obtain rfl:u=Value.ref a:=rx
 exact T5 hu I3 g ry rv fun s4 I4=>⟨σ,H4,I4,q3⟩
theorem qv (i:Nat) {x:Str} {pos:Pos} (hN:X.N[i]?=some x:=by rfl) (hv:Tj X.env.scope x:=by first|exact Or.inl rfl|exact Or.inr (Or.inl rfl)|exact Or.inr (Or.inr rfl)) (hd:(x==("__debug__":Str))=false:=by decide) (hcd:(x==("__classdict__":Str))=false:=by decide):bE X (.Name x pos) (C3 i):=by
 exact ⟨aaV hN hv hd hcd⟩
theorem aH {id:String} (hc:gI X (.builtin id) r) (hg:Gl X x) (hm:X.mg x=none) (hv:bootBuiltins x=some (.builtin id)) (ha:bA X (e::es) t) (hn:x ≠ "__name__":=by decide) (hdb:(x==("__debug__":Str))=false:=by decide) (he:starEach (e::es) X.env=(false,eval e X.env)::starEach es X.env:=by rfl) (hpl:(backTo pos (starEach es X.env)).any (·.1)=false:=by rfl):bE X (.Call (.Name x p) (e::es) [] pos) (tCB r t):=by
 have ha:=ha.h;constructor
 intro pins s σ H Q I h
 refine Gx (xY I hg hm hv ?_ hn hdb)
 exact PyProof.Rows.callWith_builtin1 (bq (ha pos pins s σ H _ I h) fun us s1 ⟨vs,H1,I1,r1,q1⟩=>hc pins s1 σ H1 vs us Q I1 r1 q1) he hpl
theorem vB {K:Fg} {x:Str} {C:Addr} {t:Str} {kd:Nat} {p0 p1 cpos pos:Pos} (oc:kg K C) (hg:Gl (dz (iC P w) P w K mg base N qual scope f cd A outer s0 H0 E) x) (hm:mg x=some (.ref C)) (hd:(x==("__debug__":Str))=false:=by decide):bS (dz (iC P w) P w K mg base N qual scope f cd A outer s0 H0 E) (.Raise (some (.Call (.Name x p0) [.Constant (.str t) kd p1] [] cpos)) none pos) (acM C E):=by
 constructor
 intro pins s σ H D I h
 obtain ⟨nm,q,Nn,bs,bm,hdct,sn,sub,ab,col,dd,k0,k1,k2,k3,k5,mN,hni,hb,fx⟩:=oc.ex
 refine wpAny_Raise_call_subT (bm:=bm) (C:=C) (nm:=nm) (q:=q) (N:=Nn) (bs:=bs) (hdct:=hdct) (sn:=sn) (sub:=sub) (ab:=ab) (col:=col) (dd:=dd) (k0:=k0) (k1:=k1) (k2:=k2) (k3:=k3) (k5:=k5) F.excBase_ValueError hb (I.ok.hd rfl) rfl hni ?_
 refine qO I hg hm ⟨Z,?_⟩ hd
 have pa:PA (dz (iC P w) P w K mg base N qual scope f cd A outer s0 H0 E) [.Constant (.str t) kd p1] (jQ (tC (.str t)) m_):=Pz Tn TM
 refine PySem.Calls.evalArgs_plain (bq (pa cpos pins s σ H (fun vs H1=>vs.length=1/\H1=H) I ⟨Z,Z⟩) fun us s1 ⟨vs,H1,I1,r,hv,e⟩=>?_)
 subst e
 obtain ⟨hC,hN,T⟩:=fx s1.heap I1.iP
 exact ⟨Z,by show us.length<=sizeLine;rw [<-r.length,hv,fj];decide,hC,hN,T,fun h' e hm=>R1 I1 hm (h e)⟩
theorem sX {o i:Expr} {to ti:TE} {t:K7} (ho:bE X o to) (hi:bE X i ti) (hs:aa2 X t) (ha:∀v,assign (.Subscript o i pos) X.env v=(do
   let ov <-holding [v] (eval o X.env)
   let iv <-holding [v,ov] (eval i X.env)
   standAt pos
   holding [v,ov,iv] (setItem ov iv v)
   release [v,ov,iv] []):=by intro _;rfl):bG X (.Subscript o i pos) (ahA to ti t):=by
 have ho:=ho.h;have hi:=hi.h;constructor
 intro pins s σ H v u Q I r h
 rw [ha]
 refine aq (yF (bq (ho pins s σ H _ I h) fun ov s1 ⟨x,H1,I1,r1,q1⟩=>?_))
 refine aq (yF (bq (hi pins s1 σ H1 _ I1 q1) fun iv s2 ⟨y,H2,I2,r2,q2⟩=>?_))
 refine aq (BG (aq (yF (bq (hs pins s2 σ H2 x y v ov iv u _ I2 r1 r2 r q2) fun _ s3 ⟨H3,I3,q3⟩=>?_))))
 exact wpAny_release ⟨σ,H3,I3,q3⟩
theorem jK {st:Stmt}:bS X st aa1:=by
 exact ⟨fun _ _ _ _ _ _ h=>h.elim⟩
theorem Vq {j k:Nat} {x:Str} {C:Addr} {ps:List Str} {sp:Sp} {p pos:Pos} (D:Cn X.prog X.w X.K X.mg X.base j x C ps sp) (hr:dI k X.A) (hj:j+1<=k:=by decide) (hg:Gl X x:=by rfl) (hdb:(x==("__debug__":Str))=false:=by decide):bE X (.Call (.Name x p) [] [] pos) (KC C sp [] E0 m_):=by
 constructor
 obtain ⟨f,fd,F,b,M,m⟩:=D.ex
 exact WC M F (hr.mono hj) hg m b .nil (fun _ _ _ _ _ _ _ h=>h.elim) hdb
theorem af (ha:bE X e te) (hr:bA X es t) (hs:starEach (e::es) X.env=(false,eval e X.env)::starEach es X.env:=by rfl):bA X (e::es) (jQ te t):=⟨Pz ha.h hr.h hs⟩
theorem aY (K:Fg) {e:Expr} {f:Str} {ta:TE} {pos:Pos} (he:bE X e ta) (hb:attributeBase e f X.env (eval e X.env)=eval e X.env:=by rfl) (hK:X.K=K:=by rfl):bE X (.Attribute e f pos) (abe K ta f):=by
 have he:=he.h;exact ⟨hK▸abh he hb⟩
theorem o9 {op:CmpOp} {r:R2} (ho:gZ X (compareOp op) r) (ha:bE X a ta) (hb:bE X b tb) (hm:behindInMarks op b=false):bE X (.Compare a [op] [b] pos) (Em r ta tb):=by
 have ha:=ha.h;have hb:=hb.h;constructor
 intro pins s σ H Q I h
 exact wpAny_Compare1 (Ws ha hb I h fun v u s2 x y H2 I2 rx ry q=>ho pins s2 σ H2 x y v u Q I2 rx ry q) hm
theorem bf {j k:Nat} {x:Str} {ps:List Str} {sp:Sp} {e:Expr} {es:List Expr} {t:TA} {p pos:Pos} (D:Dn X.prog X.w X.K X.mg X.base j x ps sp) (hr:dI k X.A) (ha:bA X (e::es) t) (hj:j<=k:=by decide) (hg:Gl X x:=by rfl) (hdb:(x==("__debug__":Str))=false:=by decide) (he:starEach (e::es) X.env=(false,eval e X.env)::starEach es X.env:=by rfl) (hpl:(backTo pos (starEach es X.env)).any (·.1)=false:=by rfl):bE X (.Call (.Name x p) (e::es) [] pos) (Yn sp [] E0 t):=by
 have ha:=ha.h;constructor
 obtain ⟨f,fd,F,b,kp,m⟩:=D.ex
 exact Zq F (hr.mono hj) hg m kp b .nil (fun _ _ _ _ _ _ _ h=>h.elim) ha hdb he hpl
theorem yl {rest:List Expr} (ha:bT X a tA) (hb:bW X (.BoolOp .And (b::rest) pos) Yj):bW X (.BoolOp .And (a::b::rest) pos) (aaW tA Yj):=by
 have ha:=ha.h;have hb:=hb.h;constructor
 intro wh pins s σ H Q I h
 refine isTrue_and (bq (ha pins s σ H _ I h) fun c s1 ⟨H1,I1,q1⟩=>?_)
 cases c with
 | true=>exact hb wh pins s1 σ H1 Q I1 q1
 | false=>exact ⟨H1,I1,q1⟩
section
variable {P:Program} {w:World} {K:Fg} {mg:SO} {base:Heap} {f C:Addr} {fd:FuncData} {N ps:List Str} {k:Nat} {sp:Sp} {x m qual:Str} {st:Stmt}
theorem c5 {N P:List Str} {sc:Scope} (a:sc.kind = .function:=by rfl) (b:sc.isCoroutine=false:=by rfl) (c:sc.isGenerator=false:=by rfl) (d:N.Nodup:=by decide +kernel) (e:N.take P.length=P:=by rfl) (f:∀x∈P,sc.names.lookup x=some .local\/sc.names.lookup x=some .cell:=by decide +kernel) (g:∀y∈sc.names,y.2 ≠ .free:=by decide +kernel):aJ N P sc:=⟨a,b,c,d,e,f,g⟩
theorem At.oA (F:At K mg x st f fd) (S:aJ N ps (ay st))
  (hbody:∀(cdv:Value) (A:Around) (outer:List Env) (s:Shared) (H:Hp) (vs:List V) (Q:VK) (E:XK),dI k (A.deeper (envOfC x (ay st) s.heap.objs.size f cdv))->sp vs H Q E->
    ∃t,qI (dz ug P w K mg base N x (ay st) f cdv A outer s H E).Cr (cG st) t/\t { nx:=fun _ H'=>Q .cg H',rt:=Q } (start N vs) H)
  (len:∀vs H Q E,sp vs H Q E->vs.length=ps.length:=by intro vs H Q E h;first|(cases h.ex;subst_vars;rfl)|(have h:=h.ex;(repeat first|(obtain ⟨rfl,_⟩:=h;rfl)|(obtain ⟨_,h⟩:=h));done)|(repeat first|(obtain ⟨rfl,_⟩:=h;rfl)|(obtain ⟨_,h⟩:=h)))
  (h:∀(kV doc pm:Value) (an:Option Addr) (cdv ct:Value) (us:List Value),us.length=ps.length->bindArgs (PySem.W.fnOf x x (dY st) (cG st) (ay st) .none kV doc pm an cdv ct) ⟨us,[]⟩=pure (ps.zip us):=by intro _ _ _ _ _ _ us hl;repeat' (first|rfl|(simp at hl;done)|(rcases us with _|⟨_,us⟩))):Dn P w K mg base (k+1) x ps sp:=F.ok S len hbody h
theorem At.Vr (F:At K mg x st f fd) (S:aJ N ps (ay st))
  (hbody:∀(cdv:Value) (A:Around) (outer:List Env) (s:Shared) (H:Hp) (vs:List V) (Q:VK) (E:XK),dI k (A.deeper (envOfC x (ay st) s.heap.objs.size f cdv))->sp vs H Q E->
    ∃t,qI (dz (iC P w) P w K mg base N x (ay st) f cdv A outer s H E) (cG st) t/\t { nx:=fun _ H'=>Q .cg H',rt:=Q } (start N vs) H)
  (len:∀vs H Q E,sp vs H Q E->vs.length=ps.length:=by intro vs H Q E h;first|(cases h.ex;subst_vars;rfl)|(have h:=h.ex;(repeat first|(obtain ⟨rfl,_⟩:=h;rfl)|(obtain ⟨_,h⟩:=h));done)|(repeat first|(obtain ⟨rfl,_⟩:=h;rfl)|(obtain ⟨_,h⟩:=h)))
  (h:∀(kV doc pm:Value) (an:Option Addr) (cdv ct:Value) (us:List Value),us.length=ps.length->bindArgs (PySem.W.fnOf x x (dY st) (cG st) (ay st) .none kV doc pm an cdv ct) ⟨us,[]⟩=pure (ps.zip us):=by intro _ _ _ _ _ _ us hl;repeat' (first|rfl|(simp at hl;done)|(rcases us with _|⟨_,us⟩))):Dx P w K mg base (k+1) x ps sp:=F.okX S len hbody h
theorem jb.oA (F:jb K C m qual st f fd) (S:aJ N ps (ay st))
  (hbody:∀(cdv:Value) (A:Around) (outer:List Env) (s:Shared) (H:Hp) (vs:List V) (Q:VK) (E:XK),dI k (A.deeper (envOfC qual (ay st) s.heap.objs.size f cdv))->sp vs H Q E->
    ∃t,qI (dz ug P w K mg base N qual (ay st) f cdv A outer s H E).Cr (cG st) t/\t { nx:=fun _ H'=>Q .cg H',rt:=Q } (start N vs) H)
  (len:∀vs H Q E,sp vs H Q E->vs.length=ps.length:=by intro vs H Q E h;first|(cases h.ex;subst_vars;rfl)|(have h:=h.ex;(repeat first|(obtain ⟨rfl,_⟩:=h;rfl)|(obtain ⟨_,h⟩:=h));done)|(repeat first|(obtain ⟨rfl,_⟩:=h;rfl)|(obtain ⟨_,h⟩:=h)))
  (h:∀(kV doc pm:Value) (an:Option Addr) (cdv ct:Value) (us:List Value),us.length=ps.length->bindArgs (PySem.W.fnOf m qual (dY st) (cG st) (ay st) .none kV doc pm an cdv ct) ⟨us,[]⟩=pure (ps.zip us):=by intro _ _ _ _ _ _ us hl;repeat' (first|rfl|(simp at hl;done)|(rcases us with _|⟨_,us⟩))):Mn P w K mg base (k+1) C m ps sp:=F.ok S len hbody h
theorem jb.Vr (F:jb K C m qual st f fd) (S:aJ N ps (ay st))
  (hbody:∀(cdv:Value) (A:Around) (outer:List Env) (s:Shared) (H:Hp) (vs:List V) (Q:VK) (E:XK),dI k (A.deeper (envOfC qual (ay st) s.heap.objs.size f cdv))->sp vs H Q E->
    ∃t,qI (dz (iC P w) P w K mg base N qual (ay st) f cdv A outer s H E) (cG st) t/\t { nx:=fun _ H'=>Q .cg H',rt:=Q } (start N vs) H)
  (len:∀vs H Q E,sp vs H Q E->vs.length=ps.length:=by intro vs H Q E h;first|(cases h.ex;subst_vars;rfl)|(have h:=h.ex;(repeat first|(obtain ⟨rfl,_⟩:=h;rfl)|(obtain ⟨_,h⟩:=h));done)|(repeat first|(obtain ⟨rfl,_⟩:=h;rfl)|(obtain ⟨_,h⟩:=h)))
  (h:∀(kV doc pm:Value) (an:Option Addr) (cdv ct:Value) (us:List Value),us.length=ps.length->bindArgs (PySem.W.fnOf m qual (dY st) (cG st) (ay st) .none kV doc pm an cdv ct) ⟨us,[]⟩=pure (ps.zip us):=by intro _ _ _ _ _ _ us hl;repeat' (first|rfl|(simp at hl;done)|(rcases us with _|⟨_,us⟩))):Mx P w K mg base (k+1) C m ps sp:=F.okX S len hbody h
theorem IM.oA (F:IM K mg x C qual st f fd) (S:aJ N ps (ay st))
  (hbody:∀(cdv:Value) (A:Around) (outer:List Env) (s:Shared) (H:Hp) (vs:List V) (Q:VK) (E:XK),dI k (A.deeper (envOfC qual (ay st) s.heap.objs.size f cdv))->sp vs H Q E->
    ∃t,qI (dz ug P w K mg base N qual (ay st) f cdv A outer s H E).Cr (cG st) t/\t { nx:=fun _ H'=>Q .cg H',rt:=Q } (start N vs) H)
  (len:∀vs H Q E,sp vs H Q E->vs.length=ps.length:=by intro vs H Q E h;first|(cases h.ex;subst_vars;rfl)|(have h:=h.ex;(repeat first|(obtain ⟨rfl,_⟩:=h;rfl)|(obtain ⟨_,h⟩:=h));done)|(repeat first|(obtain ⟨rfl,_⟩:=h;rfl)|(obtain ⟨_,h⟩:=h)))
  (h:∀(kV doc pm:Value) (an:Option Addr) (cdv ct:Value) (us:List Value),us.length=ps.length->bindArgs (PySem.W.fnOf "__init__" qual (dY st) (cG st) (ay st) .none kV doc pm an cdv ct) ⟨us,[]⟩=pure (ps.zip us):=by intro _ _ _ _ _ _ us hl;repeat' (first|rfl|(simp at hl;done)|(rcases us with _|⟨_,us⟩))):Cn P w K mg base (k+1) x C ps sp:=F.ok S len hbody h
end
def QE (b:BS) (x:Str) (F:BP->BP):BS:={ b with ah:=(b.ah.map fun p=>if p.nm=x then F p else p).filter fun p=>decide (0<p.wo) }
def vC (b:BS) (x:Str):BP:=(b.ah.find? fun p=>decide (p.nm=x)).getD ⟨x,x,0,0,[]⟩
def ae7 (b:BS) (o:Str) (p:BP):BP:={ p with ow:=o,tops:=(p.tops.set (b.own.idxOf p.ow) 0).set (b.own.idxOf o) ((p.tops.set (b.own.idxOf p.ow) 0).getD (b.own.idxOf o) 0+p.tops.getD (b.own.idxOf p.ow) 0) }
def vD (b:BS) (x y:Str) (a we:Int):BS:={ b with
 ah:=((b.ah.map fun p:BP=>if p.nm=x then { p with wo:=p.wo-a,we:=p.we-we } else p)++[BP.mk y (vC b x).ow a we (vC b x).tops]).filter fun p=>decide (0<p.wo)
 cS:=b.cS++[y] }
def ae8 (b:BS) (x:Str):BS:={ QE b x fun p=>{ p with wo:=0 } with jZ:=b.jZ++[⟨x,(vC b x).ow,(vC b x).wo,(vC b x).tops,b.bot⟩] }
def Fb (b:BS):Dd->BS
 | .sign _=>b
 | .load x o wo we=>zf b x o wo we
 | .cast rs=>i8 b (dh b rs) 0 0
 | .award o a=>i8 b (List.replicate b.ah.length 0) (b.own.idxOf o) a
 | .mishap x a=>QE b x fun p=>{ p with wo:=p.wo-a }
 | .rise x a=>QE b x fun p=>{ p with wo:=p.wo+a }
 | .hand x o=>QE b x (ae7 b o)
 | .land x=>ae8 b x
 | .sever x y a we=>vD b x y a we
 | .still=>b
theorem Vs (b:BS) (d:Dd):(Fb b d).own=b.own:=by cases d <;> rfl
inductive ae9 (K:Fg) (vs:List V) (H:Hp) (Q:VK) (E:XK):Prop
 | mk (l:Addr) (us:List V) (ws:List Row) (x:Str) (_:vs=[.ref l, .str x]) (_:aC K H l us) (_:RV K H us ws) (_:(ws.map (fun r:Row=>r.1)).Nodup) (_:ws.length<=1000) (_:(∀(i:Nat) (r:Row),ws[i]?=some r->r.1=x->Q (.int (i:Int)) H)) (_:((∀r∈ws,r.1≠x)->Q (.int (-1)) H))
def A8 (K:Fg):Sp:=bx (ae9 K)
inductive XS (al:HS->Dd->Prop) (K:Fg) (vs:List V) (H:Hp) (Q:VK) (E:XK):Prop
 | mk (n c:Nat) (ρ:fK) (B:BA) (b:BS) (st:HS) (z:Addr) (d:Dd) (_:vs=[.ref B.m, .ref z]) (_:H z=some (.tup d.v)) (_:Gh ρ H) (_:aV n ρ B H b) (_:fM c st b) (_:c<=90) (_:Wf st) (_:al st d) (_:QD d) (_:lz st d=none) (_:∀ρ' B' H',Gh ρ' H'->aV n ρ' B' H' (Fb b d:_)->B'.m=B.m->Fr n ρ H ρ' H'->Q .cg H')
def wQ (al:HS->Dd->Prop) (K:Fg):Sp:=bx (XS al K)
inductive aat (T:TC) (al:HS->Dd->Prop) (K:Fg) (vs:List V) (H:Hp) (Q:VK) (E:XK):Prop
 | mk (n m c:Nat) (ρ:fK) (A:HA) (B:BA) (st:HS) (b:BS) (v0 v1:V) (z:Addr) (d:Dd) (_:vs=[v0,v1, .ref A.a, .ref B.m, .ref z]) (_:n≠m) (_:H z=some (.tup d.v)) (_:HH T n ρ A H st) (_:aV m ρ B H b) (_:fM c st b) (_:c<=90) (_:al st d) (_:QD d) (_:∀ρ' A' B' H' st' b',HH T n ρ' A' H' st'->aV m ρ' B' H' b'->fM (c+1) st' b'->A'.a=A.a->B'.m=B.m->b'.own=b.own->st'.kn<=st.kn+100->(b'=b\/(lz st d=none/\b'=Fb b d))->aI (out ρ H:_) (out ρ' H':_)->Q (.bl true) H')
def Mw (T:TC) (al:HS->Dd->Prop) (K:Fg):Sp:=bx (aat T al K)
inductive ae_ (T:TC) (K:Fg) (vs:List V) (H:Hp) (Q:VK) (E:XK):Prop
 | mk (n m ρ A B st b:_) (a ln:Addr) (ns:List Int) (nms:List Str) (_:vs=[.ref a, .ref A.a, .ref B.m, .ref ln]) (_:n≠m) (_:HH T n ρ A H st) (_:aV m ρ B H b) (_:fM 0 st b) (_:wN K ρ H a (ns.map V.int)) (_:ns.length<=63) (_:wN K ρ H ln (nms.map V.str)) (_:nms.Nodup) (_:(∀x∈nms,yZ x)) (_:(∀o∈b.own,yZ o)) (_:nms.length=6) (_:st.nms=[]) (_:b.ah=[]) (_:b.cS=[]) (_:∀ρ' A' B' H' st' b',HH T n ρ' A' H' st'->aV m ρ' B' H' b'->fM 1 st' b'->A'.a=A.a->B'.m=B.m->b'.own=b.own->st'.kn<=st.kn->0<b'.ah.length->aI (out ρ H:_) (out ρ' H':_)->Q .cg H')
def Vt (T:TC) (K:Fg):Sp:=bx (ae_ T K)
theorem Dn.imp {P:Program} {w:World} {K:Fg} {mg:SO} {base:Heap} {k:Nat} {x:Str} {ps:List Str} {sp TN:Sp} (D:Dn P w K mg base k x ps sp) (h:∀vs H Q E,TN vs H Q E->sp vs H Q E):Dn P w K mg base k x ps TN:=by
 obtain ⟨f,fd,F,b,kp,m⟩:=D.ex
 exact ⟨f,fd,F.imp h,b,kp,m⟩
theorem ac3 {P:Program} {w:World} {K:Fg} {mg:SO} {base:Heap} {k:Nat} {ps:List Str} (D:Dn P w K mg base k "_law_at" ps (A8 K)):Dn P w K mg base k "_law_at" ps (YJ K):=
 D.imp fun vs H Q E h=>by
   obtain ⟨⟨l,us,ws,j,r,rfl,hl,hW,nd,hle,ej,q⟩⟩:=h
   refine ⟨l,us,ws,r.1,Z,hl,hW,nd,hle,fun i r' e1 e2=>?_,fun z=>absurd rfl (z r (bJ ej))⟩
   have hi:i<ws.length:=(d7.mp e1).1
   have r1:(ws.map (fun r:Row=>r.1))[i]?=some r'.1:=by rw [bK,e1];rfl
   have r2:(ws.map (fun r:Row=>r.1))[j]?=some r.1:=by rw [bK,ej];rfl
   have:i=j:=(K0 (by rw [aF];exact hi) nd).mp (r1.trans (by rw [e2];exact r2.symm))
   rw [this];exact q
theorem Sg {st:HS} {x:Str} (h:x∈kJ st):∃(i:Nat) (p:Pt),st.ah[i]?=some p/\p.nm=x:=by
 obtain ⟨p,hp,e⟩:=bN.mp h
 obtain ⟨i,hi,ei⟩:=pC hp
 exact ⟨i,p,by rw [a_ hi,ei],e⟩
theorem afa {st:HS} {i:Nat} {p:Pt} (h:st.ah[i]?=some p):p.nm∈kJ st:=bN.mpr ⟨p,bJ h,Z⟩
theorem zx {α:Type} {nm:α->Str} {f:α->α}:∀{l:List α} {i:Nat} {p:α},(l.map nm).Nodup->l[i]?=some p->(l.map fun q=>if nm q=nm p then f q else q)=l.set i (f p)
 | [],_,_,_,h=>by simp at h
 | a::l,0,p,nd,h=>by
   have e:a=p:=by simpa using h
   subst e
   obtain ⟨h1,_⟩:=gX.mp (show (nm a::l.map nm).Nodup from nd)
   rw [bF,aB rfl,KW]
   congr 1
   refine (CY (g:=id) (fun q hq=>az fun z=>h1 (bN.mpr ⟨q,hq,z⟩))).trans (List.map_id l)
 | a::l,i+1,p,nd,h=>by
   obtain ⟨h1,h2⟩:=gX.mp (show (nm a::l.map nm).Nodup from nd)
   have h':l[i]?=some p:=by simpa using h
   rw [bF,az (fun z=>h1 (bN.mpr ⟨p,bJ h',z.symm⟩)),KU,zx h2 h']
theorem QF {st:HS} (nd:(st.ah.map (·.nm)).Nodup) {i:Nat} {p:Pt} (h:st.ah[i]?=some p) (f:Pt->Pt):qL st p.nm f={ st with ah:=st.ah.set i (f p) }:=by
 unfold qL
 rw [zx (nm:=fun p:Pt=>p.nm) nd h]
theorem Fc {st:HS} (wf:Wf st) {x:Str} {f:Pt->Pt} (h:∀p∈st.ah,p.nm=x->(f p).nm=p.nm/\(f p).ow=p.ow/\(f p).sc=p.sc/\(f p).row=p.row/\1<=(f p).wo/\0<=(f p).we):Wf (qL st x f):=by
 have P:∀{M:Pt->Prop},(∀p∈st.ah,p.nm=x->M (f p))->(∀p∈st.ah,M p)->∀p∈(qL st x f).ah,M p:=fun a c p hp=>by
  obtain ⟨q,hq,rfl⟩:=bN.mp (show p∈st.ah.map _ from hp)
  by_cases e:q.nm=x
  . rw [aB e];exact a q hq e
  . rw [az e];exact c q hq
 have en:(qL st x f).ah.map (fun p:Pt=>p.nm)=st.ah.map (fun p:Pt=>p.nm):=by
  show (st.ah.map _).map _=_
  rw [fJ]
  refine CY fun p hp=>?_
  show (if p.nm=x then f p else p).nm=p.nm
  by_cases e:p.nm=x
  . rw [aB e];exact (h p hp e).1
  . rw [az e]
 refine ⟨wf.yR,wf.De,?_,P (fun p hp e=>?_) wf.sub,P (fun p hp e=>?_) wf.rows,P (fun p hp e=>?_) wf.ow,wf.ji,wf.yS,wf.i7,wf.wI,wf.AE,wf.tH,wf.Df,?_,wf.GS,wf.AF,wf.UB,wf.big,wf.tK,P (fun p hp e=>?_) wf.u_,P (fun p hp e=>?_) wf.qR,P (fun p hp e=>?_) wf.yT,P (fun p hp e=>?_) wf.vc,wf.LD⟩
 . show ((qL st x f).ah.map (fun p:Pt=>p.nm)).Nodup;rw [en];exact wf.j9
 . show (f p).nm∈st.nms;rw [(h p hp e).1];exact wf.sub p hp
 . rw [(h p hp e).2.2.2.1];exact wf.rows p hp
 . show (f p).ow∈st.own;rw [(h p hp e).2.1];exact wf.ow p hp
 . show (st.ah.map _).length<=1000;rw [aF];exact wf.xy
 . rw [(h p hp e).2.2.1];exact wf.u_ p hp
 . rw [(h p hp e).2.2.2.1];exact wf.qR p hp
 . rw [(h p hp e).2.2.2.1,(h p hp e).2.2.1];exact wf.yT p hp
 . exact (h p hp e).2.2.2.2
def zy (p:BP):Q4:=(p.nm,p.ow,p.wo,p.we)
theorem aau {l:List BP} {F:BP->BP} {f:Q4->Q4} (h:∀p∈l,zy (F p)=f (zy p)):((l.map F).filter fun p=>decide (0<p.wo)).map zy=((l.map zy).map f).filter fun q=>decide (0<q.2.2.1):=by
 induction l with
 | nil=>rfl
 | cons p l ih=>
   have ih:=ih fun q hq=>h q (cL _ hq)
   have e:=h p cO
   rw [bF,bF,bF,<-e]
   by_cases c:0<(F p).wo
   . rw [List.filter_cons_of_pos (p:=fun p:BP=>decide (0<p.wo)) (bM c),List.filter_cons_of_pos (p:=fun q:Q4=>decide (0<q.2.2.1)) (bM (show 0<(zy (F p)).2.2.1 from c)),bF,ih]
   . rw [List.filter_cons_of_neg (p:=fun p:BP=>decide (0<p.wo)) (by simpa using c),List.filter_cons_of_neg (p:=fun q:Q4=>decide (0<q.2.2.1)) (by simpa using (show ¬ 0<(zy (F p)).2.2.1 from c)),ih]
theorem afb {c:Nat} {st:HS} {b:BS} (g:fM c st b) {ps:List Pt} {bs:List BP} (qd:i9 { st with ah:=ps }=nP { b with ah:=bs }) (hp:∀p'∈ps,∃p∈st.ah,p'.nm=p.nm/\p'.sc=p.sc/\p'.row=p.row)
  (hb:∀q'∈bs,∃q∈b.ah,q'.nm=q.nm/\q'.ow=q.ow/\q'.tops=q.tops/\1<=q'.wo/\q'.wo<=q.wo+1000000000/\q'.we<=q.we) (sb:(bs.map fun p:BP=>p.nm).Sublist (b.ah.map fun p:BP=>p.nm)):fM (c+1) { st with ah:=ps } { b with ah:=bs }:=by
 have hl:bs.length<=b.ah.length:=by have:=sb.length_le;rwa [aF,aF] at this
 have wb:=g.jM
 refine ⟨⟨wb.nd.sublist sb,fun q hq=>?_,fun q hq=>?_,wb.b1,wb.bz,fun q hq=>?_,wb.ol,eX hl wb.pl,wb.kl⟩,⟨g.rel.own,qd⟩,fun p lY q hq e j=>?_,fun u hu=>(g.dj u hu).mono (by omega),eX g.stp (by omega),g.prod.mono (by omega),g.bot.mono (by omega),fun q hq=>?_,(fun q hq=>by obtain ⟨q0,h0,e1,e2,e3,e4,e5,e6⟩:=hb q hq;have:=g.we q0 h0;omega),(by have:=g.pl;show bs.length<=_;omega),(by have:=g.kl;show b.cS.length<=_;omega),g.own,fun q hq=>?_,g.jZ,g.cS,g.nk,g.on,fun q hq=>?_⟩
 . obtain ⟨q0,h0,e1,e2,e3,e4,e5⟩:=hb q hq;rw [e3];exact wb.tl q0 h0
 . obtain ⟨q0,h0,e1,e2,e3,e4,e5⟩:=hb q hq;rw [e3];exact wb.t0 q0 h0
 . obtain ⟨q0,h0,e1,e2,e3,e4,e5⟩:=hb q hq;exact e4
 . obtain ⟨q0,h0,e1,e2,e3,e4,e5⟩:=hb q hq
   obtain ⟨p0,k0,k1,k2,k3⟩:=hp p lY
   have:=g.AW p0 k0 q0 h0 (by rw [<-k1,<-e1];exact e) j
   rw [e3]
   show _=(b_ { st with ah:=ps } p).getD j 0*b.bot
   have et:b_ { st with ah:=ps } p=b_ st p0:=by unfold b_;rw [k2,k3]
   rw [et];exact this
 . obtain ⟨q0,h0,e1,e2,e3,e4,e5⟩:=hb q hq
   have:=g.wo q0 h0
   omega
 . obtain ⟨q0,h0,e1,e2,e3,e4,e5⟩:=hb q hq;rw [e1,e2];exact g.nm q0 h0
 . obtain ⟨q0,h0,e1,e2,e3,e4,e5⟩:=hb q hq;rw [e3];exact g.sum q0 h0
theorem aav (b:BS) (x:Str) (F:BP->BP) (h:∀p∈b.ah,(F p).nm=p.nm):(((b.ah.map fun p=>if p.nm=x then F p else p).filter fun p=>decide (0<p.wo)).map fun p:BP=>p.nm).Sublist (b.ah.map fun p:BP=>p.nm):=by
 have e:(b.ah.map fun p=>if p.nm=x then F p else p).map (fun p:BP=>p.nm)=b.ah.map fun p:BP=>p.nm:=by
  rw [fJ]
  refine CY fun p hp=>?_
  show (if p.nm=x then F p else p).nm=p.nm
  by_cases c:p.nm=x
  . rw [aB c];exact h p hp
  . rw [az c]
 rw [<-e]
 exact (List.filter_sublist).map _
theorem XT {c:Nat} {st:HS} {b:BS} (g:fM c st b):st.ah.map (fun p=>((p.nm,p.ow,p.wo,p.we):Q4))=b.ah.map zy:=g.rel.qd
theorem Fd {st:HS} {r:Row} {i:Nat} (h:Ml st r=some i):i=3\/i=5\/i=6:=by
 unfold Ml at h
 split at h
 . split at h
   . cases h;exact .inr (.inl rfl)
   . split at h <;> cases h;exact .inr (.inr rfl)
 . cases h;exact .inl rfl
theorem Ou {st:HS} {x:Str} {a:Int} {i:Nat} (h:R_ st x a=some i):i=3\/i=5:=by
 unfold R_ at h
 split at h
 . split at h <;> cases h;exact .inr rfl
 . cases h;exact .inl rfl
theorem aaw {st:HS} {d:Dd} {i:Nat} (h:lz st d=some i):i<10:=by
 have cR:∀{rs:List Row} {i:Nat},R9 st rs=some i->i<10:=fun {rs i} h=>by
  unfold R9 at h
  split at h
  . cases hf:rs.findSome? (Ml st) with
    | some j=>
      rw [hf] at h;cases h
      obtain ⟨r,_,hr⟩:=List.exists_of_findSome?_eq_some hf
      rcases Fd hr with rfl|rfl|rfl <;> decide
    | none=>
      rw [hf] at h
      have h':(if bH st<=bu rs then some 6 else none)=some i:=h
      split at h' <;> cases h';decide
  . cases h;decide
 have sR:∀{x y:Str} {a we:Int} {i:Nat},gM st x y a we=some i->i<10:=fun {x y a we i} h=>by
  unfold gM at h
  split at h
  . cases hf:newR st y with
    | some j=>
      rw [hf] at h;cases h
      rcases zm hf with rfl|rfl <;> decide
    | none=>
      rw [hf] at h
      have h':(if a<1\/we<0 then some 5 else if (cQ st x).wo<=a\/(cQ st x).we<we then some 6 else none)=some i:=h
      split at h'
      . cases h';decide
      . split at h' <;> cases h';decide
  . cases h;decide
 cases d with
 | sign o=>rcases Oq h with rfl|rfl <;> decide
 | load x o wo we=>rcases Ot h with rfl|rfl|rfl|rfl <;> decide
 | cast rs=>exact cR h
 | award o a=>
   have h:Mm st o a=some i:=h
   unfold Mm at h
   split at h
   . split at h
     . cases h;decide
     . split at h <;> cases h;decide
   . cases h;decide
 | mishap x a=>rcases Fd h with rfl|rfl|rfl <;> decide
 | rise x a=>rcases Ou h with rfl|rfl <;> decide
 | hand x o=>
   have h:Sa st x o=some i:=h
   unfold Sa at h
   split at h
   . split at h <;> cases h;decide
   . cases h;decide
 | land x=>
   have h:Sb st x=some i:=h
   unfold Sb at h
   split at h <;> cases h;decide
 | sever x y a we=>exact sR h
 | still=>cases h
theorem My {st:HS} {b:BS} (r:iU st b) (wf:Wf st) {x:Str} (h:x∈kJ st):∃(i:Nat) (p:Pt) (q:BP),st.ah[i]?=some p/\b.ah[i]?=some q/\p.nm=x/\q.nm=x/\q.ow=p.ow/\q.wo=p.wo/\q.we=p.we/\cQ st x=p:=by
 obtain ⟨i,p,h1,h2⟩:=Sg h
 obtain ⟨q,k1,k2,k3,k4,k5⟩:=r.at' h1
 exact ⟨i,p,q,h1,k1,h2,k2.symm.trans h2,k3.symm,k4.symm,k5.symm,jJ wf (bJ h1) h2⟩
theorem Mz {st:HS} {b:BS} (r:iU st b):(lW b).map (fun r:Row=>r.1)=kJ st:=by
 have:(i9 st).map (fun q:Q4=>q.1)=(nP b).map (fun q:Q4=>q.1):=by rw [r.qd]
 unfold i9 nP at this
 rw [fJ,fJ] at this
 unfold lW kJ
 rw [fJ]
 exact this.symm
theorem QG {K:Fg} {H:Hp} {Q:VK} {E:XK} {n:Nat} {ρ:fK} {B:BA} {b:BS} {st:HS} {x:Str} (hb:aV n ρ B H b) (r:iU st b) (wf:Wf st) (wb:vj b)
  (q:∀(i:Nat) (p:Pt) (q:BP),st.ah[i]?=some p->b.ah[i]?=some q->p.nm=x->q.nm=x->q.ow=p.ow->q.wo=p.wo->q.we=p.we->cQ st x=p->x∈kJ st->Q (.int (i:Int)) H) (q2:x∉kJ st->Q (.int (-1)) H):A8 K [.ref B.lp, .str x] H Q E:=by
 have nd:((lW b).map (fun r:Row=>r.1)).Nodup:=by unfold lW;rw [fJ];exact wb.nd
 refine ⟨B.lp,_,lW b,x,Z,aC.of hb.op,hb.nw,nd,by unfold lW;rw [aF];exact wb.pl,fun i r' e1 e2=>?_,fun h=>q2 fun z=>?_⟩
 . have hm:x∈kJ st:=by rw [<-Mz r];exact bN.mpr ⟨r',bJ e1,e2⟩
   obtain ⟨j,p,q',k1,k2,k3,k4,k5,k6,k7,k8⟩:=My r wf hm
   have r1:((lW b).map (fun r:Row=>r.1))[i]?=some x:=by rw [bK,e1];show some r'.1=_;rw [e2]
   have r2:((lW b).map (fun r:Row=>r.1))[j]?=some x:=by unfold lW;rw [fJ,bK,k2];show some q'.nm=_;rw [k4]
   have:i=j:=(K0 (d7.mp r1).1 nd).mp (r1.trans r2.symm)
   subst this
   exact q i p q' k1 k2 k3 k4 k5 k6 k7 k8 hm
 . rw [<-Mz r] at z
   obtain ⟨r',hr',e⟩:=bN.mp z
   exact h r' hr' e
theorem Sh {T:TC} {al:HS->Dd->Prop} {K:Fg} {H:Hp} {Q:VK} {E:XK} {n:Nat} {ρ:fK} {A:HA} {st:HS} {x z:Addr} {d:Dd} (ea:A.a=x) (hz:cJ K H z (Dd.v d)) (hh:HH T n ρ A H st) (ha:al st d)
  (q:∀l ρ' A' H',HH T n ρ' A' H' (vv st d)->A'.a=x->Fr n ρ H ρ' H'->(lz st d=none->ρ' l=none)->H' l=some (.lst (KJ (lz st d)))->Q (.ref l) H'):G_ T al K [.ref x, .ref z] H Q E:=by
 subst ea
 refine ⟨n,ρ,A,st,z,d,Z,hz,hh,ha,fun i hi l H' g hl=>q l ρ A H' ?_ rfl (Fr.of_same g) (fun z=>by rw [hi] at z;cases z) ?_,fun hi l ρ' A' H' Fe ea' F hl cl _=>q l ρ' A' H' ?_ ea' F (fun _=>cl) ?_⟩
 . unfold vv;rw [hi];exact hh.mono g
 . rw [hi];exact hl
 . unfold vv;rw [hi];exact Fe
 . rw [hi];exact hl
theorem Ff:∀{l:List Int},0<l.sum->∃x∈l,0<x
 | [],h=>by simp at h
 | a::l,h=>by
   by_cases c:0<a
   . exact ⟨a,cO,c⟩
   . rw [cX] at h
     obtain ⟨x,hx,h2⟩:=Ff (l:=l) (by omega)
     exact ⟨x,cL _ hx,h2⟩
theorem CO:∀{ps:List BP} {as:List Int},as.length=ps.length->(List.zipWith (fun (p:BP) (a:Int)=>p.wo-a) ps as).sum=(ps.map fun p=>p.wo).sum-as.sum
 | [],[],_=>rfl
 | p::ps,a::as,h=>by
   rw [xh,cX,bF,cX,cX,CO (by simpa using h)];omega
 | [],_::_,h=>by simp at h
 | _::_,[],h=>by simp at h
theorem Vu {b:BS} {as:List Int} {seat:Nat} {aw:Int} (ok:lX b as seat aw):0<(i8 b as seat aw).ah.length:=by
 have h1:=CO ok.len
 have h2:0<(List.zipWith (fun (p:BP) (a:Int)=>p.wo-a) b.ah as).sum:=by
  rw [h1]
  have:=ok.kept
  have:=ok.CH
  unfold bw at this
  have k:bw b=(b.ah.map fun p=>p.wo).sum:=rfl
  omega
 obtain ⟨x,hx,h3⟩:=Ff h2
 obtain ⟨i,p,a,ep,ea,rfl⟩:=jz hx
 have hm:ng (ia b as seat aw) (bw b-aw-as.sum) p a∈(i8 b as seat aw).ah:=mF.mpr ⟨bJ (LW ep ea),bM h3⟩
 exact List.length_pos_of_mem hm
structure Vv (ok:Dd->Prop):Prop where
 len:∀d,ok d->2<=d.v.length/\d.v.length<=115
 kind:∀d,ok d->d.k≠2/\d.k≠9
 at_:∀d n v,ok d->d.v[n+1]?=some v->(∃s,v = .str s/\wl s<=20)\/∃i,v = .int i/\nB i
 set:∀d n v w,ok d->d.v[n+1]?=some v->alike v w->∃d',d'.v=d.v.set (n+1) w/\ok d'
inductive ac4 (ok:Dd->Prop) (K:Fg) (vs:List V) (H:Hp) (Q:VK) (E:XK):Prop
 | mk (a:Addr) (ms:List Int) (k:Int) (n:Nat) (ρ:fK) (B:BA) (b:BS) (z:Addr) (d:Dd) (_:vs=[.ref a, .int k, .ref B.m, .ref z]) (_:aC K H a (ms.map V.int)) (_:ms.length<=63) (_:0<=k) (_:aV n ρ B H b) (_:Bk b) (_:cJ K H z d.v) (_:ok d) (_:∀z' d' H',aI H H'->H' z'=some (.tup (Dd.v d'))->ok d'->Q (.ref z') H')
def Hi (ok:Dd->Prop) (K:Fg):Sp:=bx (ac4 ok K)
theorem Jo {ok:Dd->Prop} {K:Fg} {H:Hp} {Q:VK} {E:XK} {a z mm:Addr} {ms:List Int} {k:Int} {n:Nat} {ρ:fK} {B:BA} {b:BS} {d:Dd} (em:B.m=mm) (hS:aC K H a (ms.map V.int)) (h63:ms.length<=63) (hk:0<=k) (hb:aV n ρ B H b) (bk:Bk b) (hz:cJ K H z d.v) (hd:ok d)
  (q:∀z' d' H',aI H H'->H' z'=some (.tup (Dd.v d'))->ok d'->Q (.ref z') H'):Hi ok K [.ref a, .int k, .ref mm, .ref z] H Q E:=⟨a,ms,k,n,ρ,B,b,z,d,by rw [em],hS,h63,hk,hb,bk,hz,hd,q⟩
inductive aax (T:TC) (e:Ec) (vs:List V) (H:Hp) (Q:VK) (E:XK):Prop
 | mk (n ρ A st x y a we:_) (_:vs=[.ref A.a, .str x, .str y, .int a, .int we]) (_:HH T n ρ A H st) (_:y.cps.toList.length<=100000) (_:st.nms.length<1000) (_:st.ah.length<1000) (_:DoX T e n ρ A H (gM st x y a we:_) (vt st x y a we:_) Q E)
def MA (T:TC) (e:Ec):Sp:=bx (aax T e)
theorem qY {H:Hp} {a b:Addr} {o:HO} (h:upd H a o b=none):H b=none:=by
 by_cases z:b=a
 . rw [z,ak] at h;cases h
 . rw [av z] at h;exact h
def qZ (st:HS):Dd->Prop
 | .sever _ y _ _=>y.cps.toList.length<=100000/\st.nms.length<1000/\st.ah.length<1000
 | _=>False
theorem MB {st:HS} {x y:Str} {a we:Int} {i:Nat} (h:gM st x y a we=some i):i=3\/i=0\/i=1\/i=5\/i=6:=by
 unfold gM at h
 split at h
 . cases hf:newR st y with
   | some j=>
     rw [hf] at h;cases h
     rcases zm hf with rfl|rfl
     . exact .inr (.inl rfl)
     . exact .inr (.inr (.inl rfl))
   | none=>
     rw [hf] at h
     have h':(if a<1\/we<0 then some 5 else if (cQ st x).wo<=a\/(cQ st x).we<we then some 6 else none)=some i:=h
     split at h'
     . cases h';exact .inr (.inr (.inr (.inl rfl)))
     . split at h' <;> cases h';exact .inr (.inr (.inr (.inr rfl)))
 . cases h;exact .inl rfl
theorem XU {st:HS} {y:Str} (h:newR st y=none):isNm y=true/\y∉st.nms:=by
 unfold newR at h
 split at h
 . split at h
   . cases h
   . exact ⟨by assumption,by assumption⟩
 . cases h
theorem pY {st:HS} {x y:Str} {a we:Int} (h:gM st x y a we=none):x∈kJ st/\(isNm y=true/\y∉st.nms)/\1<=a/\0<=we/\a<(cQ st x).wo/\we<=(cQ st x).we:=by
 unfold gM at h
 split at h
 . cases hf:newR st y with
   | some j=>rw [hf] at h;cases h
   | none=>
     rw [hf] at h
     have h':(if a<1\/we<0 then some 5 else if (cQ st x).wo<=a\/(cQ st x).we<we then some 6 else none)=none:=h
     split at h'
     . cases h'
     . split at h'
       . cases h'
       . exact ⟨by assumption,XU hf,by omega,by omega,by omega,by omega⟩
 . cases h
theorem Vw {K:Fg} {e:Ec} {st:HS} {d:Dd} {i:Nat} (t0:Told K e e.bad 0) (t1:Told K e e.twice 1) (t3:Told K e e.sU 3) (t5:Told K e e.sV 5) (t6:Told K e e.AY 6) (ha:qZ st d) (hr:lz st d=some i):Told K e (e.at i) i:=by
 cases d with
 | sever x y a we=>rcases MB hr with rfl|rfl|rfl|rfl|rfl <;> assumption
 | _=>exact ha.elim
theorem aay (st:HS) (d:Dd) (i:Nat) (_:qZ st d) (h:lz st d=some i):i<10:=aaw h
theorem XW {st:HS} {x y:Str} {a we:Int} (wf:Wf st) (h:gM st x y a we=none) (h2:st.nms.length<1000) (h3:st.ah.length<1000):Wf (vt st x y a we):=by
 obtain ⟨hx,⟨_,hy⟩,h4,h5,h6,h7⟩:=pY h
 obtain ⟨i,p0,ei,e0⟩:=Sg hx
 have hp:=bJ ei
 have eg:=jJ wf hp e0
 have w1:Wf (qL st x fun p=>{ p with wo:=p.wo-a,we:=p.we-we }):=Fc wf fun p lY e=>by
  rw [uH wf lY hp (e.trans e0.symm)]
  rw [eg] at h6 h7
  exact ⟨Z,Z,Z,Z,by show 1<=p0.wo-a;omega,by show 0<=p0.we-we;omega⟩
 unfold vt
 rw [eg]
 exact Qi w1 hy h2 (by show (st.ah.map _).length<1000;rw [aF];exact h3) (wf.rows p0 hp) (wf.ow p0 hp) (wf.u_ p0 hp) (wf.qR p0 hp) (wf.yT p0 hp) ⟨h4,h5⟩
theorem ac5 {c:Nat} {st:HS} {b:BS} (g:fM c st b) (wf:Wf st) {p0:Pt} {q0:BP} (hp0:p0∈st.ah) (A_:q0∈b.ah) (en:p0.nm=q0.nm) (eo:p0.ow=q0.ow) {y:Str} {a we:Int} (hy:y∉st.nms) (hn:isNm y=true) (h1:1<=a) (h2:a<=1000000000) (h2w:we<=1000000000) (h3:b.ah.length<50+c) (h4:b.cS.length<900+c) (hc:c<=91):fM c (yU st ⟨y,p0.ow,a,we,p0.sc,p0.row⟩) { b with ah:=b.ah++[⟨y,q0.ow,a,we,q0.tops⟩],cS:=b.cS++[y] }:=by
 have wb:=g.jM
 have P:∀{M:BP->Prop},(∀p∈b.ah,M p)->M ⟨y,q0.ow,a,we,q0.tops⟩->∀p∈b.ah++[BP.mk y q0.ow a we q0.tops],M p:=fun a c p hp=>by
  rcases eV.mp hp with z|z
  . exact a p z
  . rw [ee.mp z];exact c
 have nB:∀q∈b.ah,q.nm≠y:=fun q hq e=>by
  obtain ⟨i,hi,ei⟩:=pC hq
  obtain ⟨p,hp,k1,_⟩:=g.rel.at (i:=i) (q:=q) (by rw [a_ hi,ei])
  exact hy (by rw [<-e,<-k1];exact wf.sub p (bJ hp))
 have nS:∀p∈st.ah,p.nm≠y:=fun p hp e=>hy (by rw [<-e];exact wf.sub p hp)
 refine ⟨⟨?_,P wb.tl (wb.tl q0 A_),P wb.t0 (wb.t0 q0 A_),wb.b1,wb.bz,P wb.w1 h1,wb.ol,?_,?_⟩,⟨g.rel.own,?_⟩,?_,g.dj,g.stp,g.prod,g.bot,P g.wo (by show a<=_;omega),P g.we h2w,?_,?_,g.own,P g.nm ⟨GX hn,(g.nm q0 A_).2⟩,g.jZ,?_,?_,g.on,P g.sum (g.sum q0 A_)⟩
 . show ((b.ah++[_]).map (fun p:BP=>p.nm)).Nodup
   rw [bD]
   refine mK wb.nd fun m=>?_
   obtain ⟨q,hq,e⟩:=bN.mp m
   exact nB q hq e
 . show (b.ah++[_]).length<=1000
   rw [cY];show b.ah.length+1<=1000;omega
 . show (b.cS++[_]).length<=1000
   rw [cY];show b.cS.length+1<=1000;omega
 . show (st.ah++[_]).map _=(b.ah++[_]).map _
   rw [bD,bD,show st.ah.map (fun p=>((p.nm,p.ow,p.wo,p.we):Q4))=b.ah.map (fun p=>((p.nm,p.ow,p.wo,p.we):Q4)) from g.rel.qd]
   show _++[((y,p0.ow,a,we):Q4)]=_++[((y,q0.ow,a,we):Q4)]
   rw [eo]
 . intro p hp q hq e j
   show q.tops.getD j 0*st.prod=(b_ st p).getD j 0*b.bot
   rcases eV.mp (show p∈st.ah++[_] from hp) with zp|zp
   . rcases eV.mp (show q∈b.ah++[_] from hq) with zq|zq
     . exact g.AW p zp q zq e j
     . rw [ee.mp zq] at e
       exact absurd e (nS p zp)
   . rcases eV.mp (show q∈b.ah++[_] from hq) with zq|zq
     . rw [ee.mp zp] at e
       exact absurd e.symm (nB q zq)
     . rw [ee.mp zp,ee.mp zq]
       exact g.AW p0 hp0 q0 A_ en j
 . show (b.ah++[_]).length<=50+c
   rw [cY];show b.ah.length+1<=50+c;omega
 . show (b.cS++[_]).length<=900+c
   rw [cY];show b.cS.length+1<=900+c;omega
 . show st.nms++[y]=b.cS++[y];rw [g.cS]
 . intro z hz
   rcases eV.mp (show z∈b.cS++[y] from hz) with k|k
   . exact g.nk z k
   . rw [ee.mp k];exact hn
theorem ac6 {c:Nat} {st:HS} {b:BS} {x:Str} {a we:Int} (g:fM c st b) (wf:Wf st) (h0:1<=a) (h00:0<=we) (le:∀p∈st.ah,p.nm=x->a<p.wo):fM (c+1) (qL st x fun p=>{ p with wo:=p.wo-a,we:=p.we-we }) (QE b x fun p=>{ p with wo:=p.wo-a,we:=p.we-we }):=by
 have leB:∀q∈b.ah,q.nm=x->a<q.wo:=fun q hq e=>by
  obtain ⟨j,hj,ej⟩:=pC hq
  obtain ⟨p,hp,k1,_,k3,_⟩:=g.rel.at (i:=j) (q:=q) (by rw [a_ hj,ej])
  rw [<-k3];exact le p (bJ hp) (k1.trans e)
 refine afb g ?_ (fun p hp=>?_) (fun q hq=>?_) (aav b x _ fun _ _=>rfl)
 . show (st.ah.map _).map _=List.map zy ((b.ah.map _).filter _)
   rw [aau (f:=fun q:Q4=>if q.1=x then (q.1,q.2.1,q.2.2.1-a,q.2.2.2-we) else q) (fun p hp=>by
    show zy (if p.nm=x then _ else _)=if p.nm=x then _ else _
    by_cases e:p.nm=x
    . rw [aB e,aB e];rfl
    . rw [az e,az e]),<-XT g,List.filter_eq_self.mpr (fun q hq=>by
      obtain ⟨q0,A_,rfl⟩:=bN.mp hq
      obtain ⟨p,hp,rfl⟩:=bN.mp A_
      have w1:=(wf.vc p hp).1
      refine bM ?_
      show 0<(if p.nm=x then _ else _:Q4).2.2.1
      by_cases e:p.nm=x
      . have:=le p hp e
        rw [aB e];show 0<p.wo-a;omega
      . rw [az e];show 0<p.wo;omega),fJ,fJ]
   refine CY fun p hp=>?_
   show (fun p:Pt=>((p.nm,p.ow,p.wo,p.we):Q4)) (if p.nm=x then _ else _)=if p.nm=x then _ else _
   by_cases e:p.nm=x
   . rw [aB e,aB e]
   . rw [az e,az e]
 . obtain ⟨q,hq,rfl⟩:=bN.mp hp
   refine ⟨q,hq,?_⟩
   by_cases e:q.nm=x
   . rw [aB e];exact ⟨Z,Z,Z⟩
   . rw [az e];exact ⟨Z,Z,Z⟩
 . obtain ⟨h3,h4⟩:=mF.mp hq
   obtain ⟨q0,A_,rfl⟩:=bN.mp h3
   have w1:=g.jM.w1 q0 A_
   refine ⟨q0,A_,?_⟩
   by_cases e:q0.nm=x
   . have:=leB q0 A_ e
     rw [aB e];exact ⟨Z,Z,Z,by show 1<=q0.wo-a;omega,by show q0.wo-a<=_;omega,by show q0.we-we<=_;omega⟩
   . rw [az e];exact ⟨Z,Z,Z,w1,by omega,mJ _⟩
theorem Hj:∀{l:List BP} {i:Nat} {q:BP},(l.map fun p:BP=>p.nm).Nodup->l[i]?=some q->(l.find? fun p=>decide (p.nm=q.nm))=some q
 | [],_,_,_,h=>by simp at h
 | p::l,0,q,_,h=>by
   have e:p=q:=by simpa using h
   subst e
   rw [pH,bM rfl]
 | p::l,i+1,q,nd,h=>by
   obtain ⟨h1,h2⟩:=gX.mp (show (p.nm::l.map fun p:BP=>p.nm).Nodup from nd)
   have h':l[i]?=some q:=by simpa using h
   rw [pH,dO (fun e=>h1 (bN.mpr ⟨q,bJ h',e.symm⟩))]
   exact Hj h2 h'
theorem XX {c:Nat} {st:HS} {b:BS} {x y:Str} {a we:Int} (g:fM c st b) (wf:Wf st) (hc:c<=90) (h:gM st x y a we=none) (h9:a<=1000000000) (z6:we<=1000000000) (h3:st.ah.length<1000):fM (c+1) (vt st x y a we) (vD b x y a we):=by
 obtain ⟨hx,⟨hn,hy⟩,h4,h5,h6,h7⟩:=pY h
 obtain ⟨i,p0,q0,e1,e2,k1,k2,k3,k4,k5,k6⟩:=My g.rel wf hx
 have hp:=bJ e1
 have hq:=bJ e2
 rw [k6] at h6 h7
 have uq:∀p∈st.ah,p.nm=x->p=p0:=fun p lY e=>uH wf lY hp (e.trans k1.symm)
 have g1:=ac6 (we:=we) g wf h4 h5 fun p lY e=>by rw [uq p lY e];exact h6
 have w1:Wf (qL st x fun p=>{ p with wo:=p.wo-a,we:=p.we-we }):=Fc wf fun p lY e=>by
  rw [uq p lY e]
  exact ⟨Z,Z,Z,Z,by show 1<=p0.wo-a;omega,by show 0<=p0.we-we;omega⟩
 have hp1:({ p0 with wo:=p0.wo-a,we:=p0.we-we }:Pt)∈(qL st x fun p=>{ p with wo:=p.wo-a,we:=p.we-we }).ah:=bN.mpr ⟨p0,hp,aB k1⟩
 have hq1:({ q0 with wo:=q0.wo-a,we:=q0.we-we }:BP)∈(QE b x fun p=>{ p with wo:=p.wo-a,we:=p.we-we }).ah:=mF.mpr ⟨bN.mpr ⟨q0,hq,aB k2⟩,bM (by show 0<q0.wo-a;omega)⟩
 have pl:=g.pl
 have kl:=g.kl
 have l1:=(Q7 (fun p:BP=>decide (0<p.wo)) (b.ah.map fun p=>if p.nm=x then { p with wo:=p.wo-a,we:=p.we-we } else p))
 rw [aF] at l1
 have g2:=ac5 g1 w1 (y:=y) (a:=a) (we:=we) hp1 hq1 (k1.trans k2.symm) k3.symm hy hn h4 h9 z6 (KS l1 (by omega)) (by show b.cS.length<_;omega) (by omega)
 have eb:vC b x=q0:=by
  unfold vC
  rw [<-k2,Hj g.jM.nd e2]
  rfl
 unfold vt vD
 rw [k6,eb,List.filter_append,List.filter_cons_of_pos (p:=fun p:BP=>decide (0<p.wo)) (bM (by show 0<a;omega)),List.filter_nil]
 exact g2
theorem Vx (c:Nat) (st:HS) (b:BS) (d:Dd) (g:fM c st b) (hc:c<=90) (wf:Wf st) (ha:qZ st d) (db:QD d) (hr:lz st d=none):fM (c+1) (wO st d) (Fb b d)/\(wO st d).kn<=st.kn+100:=by
 cases d with
 | sever x y a we=>exact ⟨XX g wf hc hr db.2.2.1.2 db.2.2.2.2 ha.2.2,by show st.kn<=_;omega⟩
 | _=>exact ha.elim
def Si (st:HS) (y:Str) (a we vc we0:Int):Option Nat:=match newR st y with
 | some i=>some i
 | none=>if a<1\/we<0 then some 5 else if vc<=a\/we0<we then some 6 else none
theorem Sj {st:HS} {x y:Str} {a we:Int} {p:Pt} (h:x∈kJ st) (e:cQ st x=p):gM st x y a we=Si st y a we p.wo p.we:=by unfold gM Si;rw [aB h,e];first|done|(cases newR st y <;> rfl)
inductive aaz (K:Fg) (vs:List V) (H:Hp) (Q:VK) (E:XK):Prop
 | mk (n:Nat) (ρ:fK) (B:BA) (b:BS) (st:HS) (r l z:Addr) (q:BP) (x y:Str) (a we:Int) (_:vs=[.ref B.m, .ref r, .ref z]) (_:cJ K H z (Dd.v (.sever x y a we))) (_:aV n ρ B H b) (_:H r=some (fQ q l)) (_:st.nms=b.cS) (_:wl y<=20) (_:Q (.int (Ms (Si st y a we q.wo q.we))) H)
def MC (K:Fg):Sp:=bx (aaz K)
theorem MD {α β:Type} {f:α->β} {l:List α} {i:Nat} {x:α} (h:l[i]?=some x):(l.map f).set i (f x)=l.map f:=sS (by rw [bK,h];rfl)
def Dy (d:Dd):Prop:=∃x y a we,d = .sever x y a we/\wl x<=20/\wl y<=20/\nB a/\nB we
theorem ac7 {d:Dd} (h:Dy d):QD d:=by rcases h with ⟨x,y,a,we,rfl,h1,h2,h3,h4⟩;exact ⟨h1,h2,h3,h4⟩
theorem ac8:Vv Dy:=by
 refine ⟨fun d h=>?_,fun d h=>?_,fun d n v h e=>?_,fun d n v w h e al=>?_⟩ <;> obtain ⟨x,y,a,we,rfl,h1,h2,h3,h4⟩:=h
 . exact ⟨by show 2<=5;decide,by show 5<=115;decide⟩
 . exact ⟨by show 8≠2;decide,by show 8≠9;decide⟩
 . match n,e with
   | 0,e=>cases e;exact .inl ⟨_,Z,h1⟩
   | 1,e=>cases e;exact .inl ⟨_,Z,h2⟩
   | 2,e=>cases e;exact .inr ⟨_,Z,h3⟩
   | 3,e=>cases e;exact .inr ⟨_,Z,h4⟩
 . match n,e with
   | 0,e=>cases e;obtain ⟨s,rfl,h⟩:=Jk al;exact ⟨.sever s y a we,Z,s,y,a,we,Z,h,h2,h3,h4⟩
   | 1,e=>cases e;obtain ⟨s,rfl,h⟩:=Jk al;exact ⟨.sever x s a we,Z,x,s,a,we,Z,h1,h,h3,h4⟩
   | 2,e=>cases e;obtain ⟨s,rfl,h⟩:=Jl al;exact ⟨.sever x y s we,Z,x,y,s,we,Z,h1,h2,h,h4⟩
   | 3,e=>cases e;obtain ⟨s,rfl,h⟩:=Jl al;exact ⟨.sever x y a s,Z,x,y,a,s,Z,h1,h2,h3,h⟩
theorem Vy {b:BS} {x y:Str} {a we:Int} (h:1<=a):0<(vD b x y a we).ah.length:=by
 have hm:BP.mk y (vC b x).ow a we (vC b x).tops∈(vD b x y a we).ah:=mF.mpr ⟨jg _ (ee.mpr rfl),bM (by show 0<a;omega)⟩
 exact List.length_pos_of_mem hm
theorem ac9 {P:Program} {w:World} {K:Fg} {mg:SO} {base:Heap} {k:Nat} {T:TC} {e:Ec} {ps:List Str} (D:Mx P w K mg base k T.hold "check_new" ps (xE T e)):Mn P w K mg base k T.hold "check_new" ps (EU T):=
 D.mn fun vs H Q E h=>by
   obtain ⟨⟨n,ρ,A,st,x,rfl,h,h1,h2,q⟩⟩:=h
   have hn:newR st x=none:=by unfold newR;rw [aB h1,az h2]
   refine ⟨n,ρ,A,st,x,Z,h,eX (yg h1) (by decide),fun i hi=>?_,fun _=>q⟩
   rw [hn] at hi;cases hi
end L2
set_option autoImplicit false
namespace Law
open PySem L2
theorem iV (n:Nat) (h:n<=1000:=by decide):n<=sizeLine:=by rw [fj];omega
def top (i:Nat):Stmt:=PySem.Challenge.pw_jettison_k25_parts_severed.main.body.getD i (.Pass ⟨0,0,0,0⟩)
section
variable {P:Program} {w:World} {K:Fg} {mg:SO} {base:Heap} {f:Addr} {fd:FuncData}
abbrev oz:Stmt:=top 2
abbrev jD:List Str:=["one","other"]
abbrev Fi:List Str:=jD
theorem vE:aJ Fi jD (ay oz):=c5
theorem Dz (F:At K mg "common_factor" oz f fd):Dn P w K mg base 1 "common_factor" jD WV:=by
 refine F.oA vE fun cdv A outer s H vs Q E hr h=>?_
 obtain ⟨a,b,rfl,ha,hb,q⟩:=h
 refine ⟨_,(@cF.h _ _ _ (aj (Du eL (aU iH (qv 1) ai (aX _)) (au (Vo (i:=0) (j:=1) rfl vE.nd rfl rfl (by decide) rfl rfl (af (qv 1) (af (aD jx (qv 0) (qv 1)) ao)) (by rfl))))
  (au (aO (qv 0))))),?_⟩
 refine ⟨fun m σ H'=>∃x y:Int,m=y.toNat/\σ=[some (.int x),some (.int y)]/\H'=H/\0<=x/\0<=y/\Jm.cf x y=Jm.cf a b,⟨_,a,b,Z,Z,Z,ha,hb,Z⟩,?_⟩
 rintro m σ H' ⟨x,y,rfl,rfl,rfl,hx,hy,e⟩
 refine ⟨_,Z,_,_,Z,Z,_,Z,?_⟩
 refine dm (fun c=>?_) (fun c=>?_)
 . have c':0<y:=dU c
   refine ⟨_,fun _ _ z=>z,?_⟩
   refine ⟨_,Z,_,Z,_,Z,_,_,Z,Z,c',_,_,Z,?_⟩
   have h1:0<=x % y:=nK _ (by omega)
   have h2:x % y<y:=yy _ c'
   exact ⟨_,(by omega:(x % y).toNat<y.toNat),y,x % y,Z,Z,Z,hy,h1,(Jm.GI x y c').trans e⟩
 . have c':¬ 0<y:=uR (pD.mpr c)
   have ey:y=0:=by omega
   subst ey
   rw [Jm.PL x hx] at e
   refine ⟨_,Z,?_⟩
   rw [e]
   exact q
abbrev zz:Stmt:=top 21
abbrev wR:List Str:=["text","signs"]
abbrev Vz:List Str:=wR
theorem Sk:aJ Vz wR (ay zz):=c5
theorem Sl (F:At K mg "made_of" zz f fd) (Sm:mg "all"=none):Dn P w K mg base 1 "made_of" wR C_:=by
 refine F.oA Sk fun cdv A outer s H vs Q E hr h=>?_
 obtain ⟨⟨cs,signs,rfl,hl,q⟩⟩:=h
 refine ⟨_,(@cF.h _ _ _ (au (aO (aH (Ui K rfl) (by rfl) Sm PyProof.Rows.boot_all (af (gC ["sign","signs"] [none,some 1] rfl (Vp (qv 0)) (fun _ _ _ _=>(aR (i:=0) (show List.Nodup (["sign","signs"] :List Str) from by decide +kernel))) (fun _ _ _ _=>(o9 Tt (qv 0) (qv 1) (by with_unfolding_all rfl))) rfl (by rfl)) ao))))),?_⟩
 refine ⟨_,Z,cs,Z,fun acc hacc=>?_⟩
 refine W6 (fun i out H1=>aI H H1/\out=((cs.take i).map (sP signs)).map V.bl) hl ⟨aA hacc _,Z⟩ ?_ ?_
 . rintro i c out H1 hx ff ha ⟨g,e⟩
   refine ⟨_,Z,_,Z,_,_,Z,Z,ha,g.cI hacc _,?_⟩
   rw [e,List.take_add_one,hx,bD,bD]
   rfl
 rintro out H1 ff ha ⟨g,e⟩
 rw [cA] at e
 refine ⟨acc,cs.map (sP signs),Z,aC.of (by rw [ha,e]),?_⟩
 have e2:(cs.map (sP signs)).all id=cs.all (sP signs):=by rw [List.all_map];rfl
 rw [e2]
 exact q H1 g
abbrev zA:Stmt:=top 20
abbrev sY:List Str:=["text"]
abbrev VA:List Str:=sY
theorem Sn:aJ VA sY (ay zA):=c5
theorem So {tk:Tok} (F:At K mg "is_name" zA f fd) (Ba:Dn P w K mg base 1 "made_of" wR C_) (bh:mg "len"=none) (Bb:mg "LETTERS"=some (.str "abcdefghijklmnopqrstuvwxyz" tk)):Dn P w K mg base 2 "is_name" sY yN:=by
 refine F.oA Sn fun cdv A outer s H vs Q E hr h=>?_
 obtain ⟨⟨cs,rfl,hl,q⟩⟩:=h
 refine ⟨_,(@cF.h _ _ _ (au (aO (E_ (XQ KA KA ai (aH uV (by rfl) bh dF (af (qv 0) ao)) ai) (E9 (bf Ba hr (af (qv 0) (af (ki (v:= .str "abcdefghijklmnopqrstuvwxyz") (by rfl) Bb ⟨_,Z⟩) ao)))))))),?_⟩
 have hz:(tx cs).length<=sizeLine:=by rw [g_,fj];omega
 refine ⟨_,Z,_,Z,hz,_,_,Z,Z,_,Z,?_⟩
 rw [g_]
 refine dm (fun c=>?_) (fun c=>?_)
 . refine ⟨_,_,Z,Z,_,Z,dm (fun c2=>?_) (fun c2=>?_)⟩
   . refine ⟨_,Z,RK hl fun H' g=>?_⟩
     have:=q H' g
     unfold isName at this
     rw [c,c2,Eb,Eb] at this
     exact this
   . have:=q H (aI.refl _)
     unfold isName at this
     rw [c,pD.mpr c2,Eb,D8] at this
     exact this
 . have:=q H (aI.refl _)
   unfold isName at this
   rw [pD.mpr c,D8,D8] at this
   exact ⟨_,Z,cM this⟩
abbrev pZ:Stmt:=top 26
abbrev mT:List Str:=["amount"]
abbrev Hl:List Str:=mT
theorem Fj:aJ Hl mT (ay pZ):=c5
theorem Fl (F:At K mg "check_amount" pZ f fd):Dn P w K mg base 1 "check_amount" mT YH:=by
 refine F.oA Fj fun cdv A outer s H vs Q E hr h=>?_
 obtain ⟨⟨a,rfl,h1,q⟩⟩:=h
 refine ⟨_,(@cF.h _ _ _ (au (cC (aU wD (qv 0) ai (aX _)) (au jK) aT))),?_⟩
 exact ⟨_,Z,_,_,Z,Z,_,Z,dm (fun c=>absurd (dU c) (by omega)) fun _=>q⟩
abbrev tM:Stmt:=top 27
abbrev p_:List Str:=["most","amount"]
abbrev ME:List Str:=p_
theorem JA:aJ ME p_ (ay tM):=c5
theorem JB (F:At K mg "check_loss" tM f fd) (q_:Dn P w K mg base 1 "check_amount" mT YH):Dn P w K mg base 2 "check_loss" p_ YI:=by
 refine F.oA JA fun cdv A outer s H vs Q E hr h=>?_
 obtain ⟨⟨m,a,rfl,h1,h2,q⟩⟩:=h
 refine ⟨_,(@cF.h _ _ _ (aj (cT (bf q_ hr (af (qv 1) ao)))
  (au (cC (aU iH (qv 1) (qv 0) (aX _)) (au jK) aT)))),?_⟩
 exact ⟨_,Z,⟨⟨a,Z,h1,_,Z,_,Z,_,_,Z,Z,_,Z,dm (fun c=>absurd (dU c) (by omega)) fun _=>q⟩⟩⟩
abbrev tN:Stmt:=top 25
abbrev qa:List Str:=["rows"]
abbrev MF:List Str:=qa.append ["amounts","name","amount"]
theorem nQ:aJ MF qa (ay tN):=c5
theorem JC (F:At K mg "amounts_of" tN f fd) (bh:mg "len"=none):Dn P w K mg base 1 "amounts_of" qa (UL K):=by
 refine F.oA nQ fun cdv A outer s H vs Q E hr h=>?_
 obtain ⟨⟨l,us,rs,rfl,hl,hR,nd,hne,hle,q⟩⟩:=h
 refine ⟨_,(@cF.h _ _ _ (aj (aN (i:=1) nQ.nd qX)
  (aj (dR eL rfl (dN K (qv 0)) (jm K (n:=2) rfl (cW (aR (i:=2) nQ.nd) (cW (aR (i:=3) nQ.nd) jl))) (aj (cC (yh (Mv (bU hr) (qv 2) (qv 1))) (au jK) aT)
  (au (o8 (bU hr) (qv 1) (qv 2) (qv 3) rfl))))
  (aj (cC (aU i6 (aH Au (by rfl) bh dF (af (qv 1) ao)) ai (aX _)) (au jK) aT)
  (au (aO (qv 1))))))),?_⟩
 intro d hd
 have g0:=aA hd (.dK [])
 have hd0:upd H d (.dK []) d=some (.dK (h_ (rs.take 0))):=ak
 generalize upd H d (.dK [])=H0 at *
 have VB:=hR.length
 refine ⟨_,Z,l,Z,⟨us,g0.seq hl⟩,?_⟩
 refine lT (K:=K) (xs:=us) (fun i σ H'=>aI H H'/\H' d=some (.dK (h_ (rs.take i)))/\∃s2 s3,σ=[some (.ref l),some (.ref d),s2,s3]) ⟨g0,hd0,_,_,Z⟩ (fun i σ H' _ hp=>hp.1.seq hl) ?_ ?_
 . rintro i x σ H' hx ⟨g,hd',s2,s3,rfl⟩
   obtain ⟨a,r,rfl,er,ha⟩:=hR.get hx
   have hnot:r.1∉(rs.take i).map (·.1):=by
    rw [BH]
    exact j_ nd (by rw [bK,er];rfl)
   have hlt:(h_ (rs.take i)).length<sizeLine:=by rw [y9,lu];exact dW (by omega)
   refine ⟨a,_,Z,cJ.of (g _ _ ha),Z,_,_,Z,_,_,Z,Z,?_⟩
   refine ⟨_,Z,_,Z,d,_,Z,cN.k (k:=Sum.inr r.1) hd',_,Z,?_⟩
   rw [IT hnot]
   refine cM ?_
   refine ⟨_,Z,_,Z,_,Z,d,_,Z,s_.k (k:=Sum.inr r.1) hd' hlt,g.cI hd _,?_,_,_,Z⟩
   rw [ak,oj _ (IT hnot),take_snoc er]
   unfold h_
   rw [bD]
   rfl
 rintro σ H' ⟨g,hd',s2,s3,rfl⟩
 rw [VB,cA] at hd'
 refine ⟨_,Z,d,_,Z,hd',Z,_,Z,?_⟩
 rw [y9]
 have hpos:0<rs.length:=List.length_pos_iff.mpr hne
 rw [dO (fun e=>by have:=V.int.inj e;omega)]
 exact cM ⟨_,Z,q d H' g hd hd'⟩
abbrev oE:Stmt:=top 5
abbrev lJ:List Str:=["step","tops"]
abbrev Fo:List Str:=lJ.append ["top"]
theorem oF:aJ Fo lJ (ay oE):=c5
theorem DA (F:At K mg "factor_of_all" oE f fd) (iy:Dn P w K mg base 1 "common_factor" jD WV):Dn P w K mg base 2 "factor_of_all" lJ (UM K):=by
 refine F.oA oF fun cdv A outer s H vs Q E hr h=>?_
 obtain ⟨⟨s,l,ts,rfl,hl,h0,h1,q⟩⟩:=h
 refine ⟨_,(@cF.h _ _ _ (aj (dR eL rfl (dN K (qv 1)) (aR (i:=2) oF.nd) (au (aN (i:=0) oF.nd (bf iy hr (af (qv 2) (af (qv 0) ao))))))
  (au (aO (qv 0))))),?_⟩
 refine ⟨_,Z,l,Z,⟨_,hl⟩,?_⟩
 refine lT (K:=K) (xs:=ts.map V.int) (fun i σ H'=>H'=H/\0<=pV s (ts.take i)/\∃s2,σ=[some (.int (pV s (ts.take i))),some (.ref l),s2]) ⟨Z,h0,_,Z⟩ (fun i σ H' _ hp=>by rw [hp.1];exact hl) ?_ ?_
 . rintro i x σ H' hx ⟨rfl,hf,s2,rfl⟩
   obtain ⟨t,rfl,et⟩:=gR hx
   have e1:pV s (ts.take (i+1))=Jm.cf t (pV s (ts.take i)):=by
    unfold pV
    rw [take_snoc et,KZ]
    rfl
   refine ⟨_,Z,_,Z,t,_,Z,h1 t (bJ et),hf,Z,?_,some (.int t),?_⟩
   . rw [e1];unfold Jm.cf;omega
   . rw [e1];rfl
 rintro σ H' ⟨rfl,hf,s2,rfl⟩
 rw [aF,cA]
 exact ⟨_,Z,q⟩
abbrev rj:Stmt:=inClass (top 4) 0
abbrev tO:List Str:=["self"]
abbrev JD:List Str:=tO
theorem Ho:aJ JD tO (ay rj):=c5
theorem Hq {T:TC} (F:IM K mg "Bottom" T.bot "Bottom.__init__" rj f fd) (X:Txt K T):Cn P w K mg base 1 "Bottom" T.bot tO (Qa T):=by
 refine F.oA Ho fun cdv A outer s H vs Q E hr h=>?_
 obtain ⟨⟨p,dx,rfl,hp,q⟩⟩:=h
 refine ⟨_,(@cF.h _ _ _ (aj (fh K (qv 0) (eF ao))
  (aj (fh K (qv 0) ai)
  (au (fh K (qv 0) qX))))),?_⟩
 refine ⟨(iV 0),fun l hl=>?_⟩
 have n1:p≠l:=aE hp hl
 refine ⟨_,Z,p,T.bot,dx,_,Z,by rw [av n1];exact hp,X.cB,X.bst,by show 0<1000;decide,?_⟩
 refine ⟨_,Z,p,T.bot,dx,_,Z,ak,X.cB,X.YC,by show 1<1000;decide,?_⟩
 intro d hd
 have n2:d≠p:=fun e=>by rw [e,ak] at hd;cases hd
 have n3:d≠l:=fun e=>by rw [e,av (cy n1),av (cy n1),ak] at hd;cases hd
 have hd0:H d=none:=by rw [av n2,av n2,av n3] at hd;exact hd
 refine ⟨_,Z,p,T.bot,dx,_,Z,by rw [av (cy n2)];exact ak,X.cB,X.UA,by show 2<1000;decide,?_⟩
 refine q l d _ hl hd0 (cy n3) (fun b o e hb=>?_) ak ?_ ?_
 . rw [av hb,av (aE e hd0),av hb,av hb,av (aE e hl)];exact e
 . rw [av (cy n1),av (cy n3),av (cy n1),av (cy n1)];exact ak
 . rw [av n2];exact ak
abbrev vF:Stmt:=inClass (top 23) 0
abbrev xF:List Str:=["self","name","owner","worth","weight","scale","row"]
abbrev Ov:List Str:=xF
theorem MG:aJ Ov xF (ay vF):=c5
theorem MH {T:TC} (F:IM K mg "Part" T.part "Part.__init__" vF f fd) (X:Txt K T) (c8:mg "list"=none):Cn P w K mg base 1 "Part" T.part xF (GU T K):=by
 refine F.oA MG fun cdv A outer s H vs Q E hr h=>?_
 obtain ⟨⟨p,dx,l,pt,rfl,hp,hl,q⟩⟩:=h
 refine ⟨_,(@cF.h _ _ _ (aj (fh K (qv 0) (qv 1))
  (aj (fh K (qv 0) (qv 2))
  (aj (fh K (qv 0) (qv 3))
  (aj (fh K (qv 0) (qv 4))
  (aj (fh K (qv 0) (qv 5))
  (au (fh K (qv 0) (lZ (kR K) (by rfl) c8 uP (af (qv 6) ao)))))))))),?_⟩
 refine ⟨_,Z,_,Z,p,T.part,dx,_,Z,hp,X.cP,X.YB,by show 0<1000;decide,?_⟩
 refine ⟨_,Z,_,Z,p,T.part,dx,_,Z,ak,X.cP,X.pow,by show 1<1000;decide,?_⟩
 refine ⟨_,Z,_,Z,p,T.part,dx,_,Z,ak,X.cP,X.ET,by show 2<1000;decide,?_⟩
 refine ⟨_,Z,_,Z,p,T.part,dx,_,Z,ak,X.cP,X.Uy,by show 3<1000;decide,?_⟩
 refine ⟨_,Z,_,Z,p,T.part,dx,_,Z,ak,X.cP,X.P0,by show 4<1000;decide,?_⟩
 simp only [uF]
 have hl1:∀o,aC K (upd H p o) l (pt.row.map V.int):=fun o=>by
  rcases hl with (h|⟨ob,h⟩)|h
  . exact .inl (.inl (by rw [av (iZ h hp (by intro z;cases z))];exact h))
  . exact .inl (.inr ⟨ob,by rw [av (iZ h hp (by intro z;cases z))];exact h⟩)
  . exact .inr h
 refine ⟨_,Z,l,_,Z, .inl (hl1 _),fun r hr2=>?_⟩
 have n1:r≠p:=fun e=>by rw [e,ak] at hr2;cases hr2
 refine ⟨_,Z,p,T.part,dx,_,Z,by rw [av (cy n1)];exact ak,X.cP,X.Uz,by show 5<1000;decide,?_⟩
 have hr0:H r=none:=by rw [av n1] at hr2;exact hr2
 refine q r _ hr0 (fun b o e hb=>?_) ak ?_
 . rw [av hb,av (aE e hr0),av hb];exact e
 . rw [av n1];exact ak
abbrev rm:Stmt:=inClass (top 4) 1
abbrev nR:List Str:=["self","step"]
abbrev JE:List Str:=nR
theorem Hr:aJ JE nR (ay rm):=c5
theorem Hs {T:TC} (F:jb K T.bot "grow" "Bottom.grow" rm f fd) (X:Txt K T):Mn P w K mg base 1 T.bot "grow" nR (UN T):=by
 refine F.oA Hr fun cdv A outer s H vs Q E hr h=>?_
 obtain ⟨⟨n,ρ,A,st,s,rfl,g,h,hl,z1,z2,q⟩⟩:=h
 refine ⟨_,(@cF.h _ _ _ (au (ie (aU iH (qv 1) ai (aX _)) (aj (cT (pX uO uM uN fY (aY K (qv 0)) (af (qv 1) ao)))
  (aj (uB K (qv 0) (qv 1) ZU)
  (au (fh K (qv 0) qX)))) aT))),?_⟩
 refine ⟨fun σ' H'=>Q .cg H',⟨_,Z,_,_,Z,Z,_,Z,dm (fun c=>?_) (fun c=>?_)⟩,fun _ _ z=>z⟩
 . have c':1<s:=dU c
   refine ⟨_,Z,A.bt,T.bot,A.db,_,_,Z,h.oY,X.cB,X.bst,Z, .inl ⟨Z,_,aC.of h.um⟩,_,Z,A.sp,_,_,Z,Z,h.um,by rw [aF];exact dW hl,?_⟩
   rw [show st.stp.map V.int++[V.int s]=(st.stp++[s]).map V.int from by rw [bD];rfl]
   have h1:=h.acg g (st.stp++[s])
   have g1:=g.wr (a:=A.sp) (o:= .lst ((st.stp++[s]).map V.int)) rfl
   have F1:Fr n ρ H ρ (upd H A.sp (.lst ((st.stp++[s]).map V.int))):=Fr.write h.j7
   generalize upd H A.sp (.lst ((st.stp++[s]).map V.int))=H1 at *
   refine ⟨_,Z,A.bt,T.bot,A.db,_,_,Z,h1.oY,X.cB,X.YC,Z,_,Z,_,_,Z,Z,jj z1 z2,A.db,_,h1.oY,by show 3<1000;decide,?_⟩
   intro kn hkn
   have nb:kn≠A.bt:=fun e=>by rw [e,ak] at hkn;cases hkn
   have DB:H1 kn=none:=by rw [av nb] at hkn;exact hkn
   have j8:ρ kn=none:=g1.none DB
   refine ⟨_,Z,A.bt,T.bot,A.db,_,Z,by rw [av (cy nb)];exact ak,X.cB,X.UA,by show 3<1000;decide,?_⟩
   have eH:upd (upd (upd H1 A.bt (.ins T.bot A.db (aW "product" (.int (st.prod*s)) (yQ A.sp st.prod A.kn)))) kn (.dK [])) A.bt (.ins T.bot A.db (aW "known" (.ref kn) (aW "product" (.int (st.prod*s)) (yQ A.sp st.prod A.kn))))=upd (upd H1 kn (.dK [])) A.bt (.ins T.bot A.db (yQ A.sp (st.prod*s) kn)):=by
    rw [kG (cy nb),uF]
    rfl
   have k2:Kp n ρ (bZ ρ kn (n,9,⟨#[]⟩)) H1 (upd H1 kn (.dK [])) (fun _=>true):=⟨(aA DB _).tups,fun b t x o _ c e=>⟨aA DB _ _ _ e,by rw [cu (aE e DB)];exact c⟩⟩
   have h2:=h1.same k2
   have g2:Gh (bZ ρ kn (n,9,⟨#[]⟩)) (upd H1 kn (.dK [])):=(g1.alloc DB).color ak rfl
   have F2:Fr n ρ H1 (bZ ρ kn (n,9,⟨#[]⟩)) (upd H1 kn (.dK [])):=Fr.color DB (aA DB _)
   have h3:=h2.acj g2 (st.prod*s) kn ak dD
   have es:fU st s={ { st with stp:=st.stp++[s] } with prod:=st.prod*s,kn:=0 }:=by
    unfold fU
    rw [aB c']
   rw [es] at q
   show Q .cg _
   refine (show _=_ from eH)▸?_
   exact q _ _ _ (g2.wr rfl) h3 rfl (F1.trans (F2.trans (Fr.write h2.j5)))
 . have c':¬ 1<s:=uR (pD.mpr c)
   have es:fU st s=st:=by unfold fU;rw [az c']
   rw [es] at q
   exact q ρ A H g h rfl Fr.refl
abbrev oG:Stmt:=inClass (top 24) 19
abbrev lK:List Str:=["self","owner"]
abbrev Fp:List Str:=lK
theorem DC:aJ Fp lK (ay oG):=c5
theorem DE {T:TC} (F:jb K T.hold "place_of" "Hold.place_of" oG f fd) (X:Txt K T):Mn P w K mg base 1 T.hold "place_of" lK (Qd T):=by
 refine F.oA DC fun cdv A outer s H vs Q E hr h=>?_
 obtain ⟨⟨n,ρ,A,st,o,rfl,h,ho,q⟩⟩:=h
 refine ⟨_,(@cF.h _ _ _ (aj (cC (yh (A0 (bU hr) (qv 1) (aY K (qv 0)))) (au jK) aT)
  (au (aO (bP (bU hr) (aY K (qv 0)) (qv 1)))))),?_⟩
 have hv:=P_ (i:=0) ho
 refine ⟨_,Z,_,Z,A.a,T.hold,A.dx,_,_,Z,h.oa,X.cH,X.hpl,Z,A.pl,_,Z,cN.k (k:=Sum.inr o) h.jc,_,Z,?_⟩
 rw [hv]
 refine cM ?_
 refine ⟨_,Z,A.a,T.hold,A.dx,_,_,Z,h.oa,X.cH,X.hpl,Z,_,Z,A.pl,_,Z,hv▸cN.k (k:=Sum.inr o) h.jc,?_⟩
 rw [Nat.zero_add]
 exact q
abbrev qb:Stmt:=inClass (top 24) 20
abbrev iL:List Str:=["self","name"]
abbrev Ht:List Str:=iL
theorem Fq:aJ Ht iL (ay qb):=c5
theorem DF {T:TC} {e:Ec} (F:jb K T.hold "part_of" "Hold.part_of" qb f fd) (X:Txt K T) (Bc:kg K e.sU) (rA:mg "NoPart"=some (.ref e.sU)):Mx P w K mg base 1 T.hold "part_of" iL (AZ T e):=by
 refine F.Vr Fq fun cdv A outer s H vs Q E hr h=>?_
 obtain ⟨⟨n,ρ,A,st,x,rfl,hA,nd,q2,k⟩⟩:=h
 refine ⟨_,(@cF.h _ _ _ (aj (cC (yh (A0 (bU hr) (qv 1) (aY K (qv 0)))) (au (vB Bc (by rfl) rA)) aT)
  (au (aO (bP (bU hr) (aY K (qv 0)) (qv 1)))))),?_⟩
 refine ⟨_,Z,_,Z,A.a,T.hold,A.dx,_,_,Z,hA.oa,X.cH,X.hab,Z,A.ab,_,Z,cN.k (k:=Sum.inr x) hA.eY,_,Z,?_⟩
 by_cases hx:∃p∈st.ah,p.nm=x
 . obtain ⟨p,hp,rfl⟩:=hx
   obtain ⟨i,hi,ep⟩:=List.mem_iff_getElem.mp hp
   have xX:st.ah[i]?=some p:=by rw [a_ hi,ep]
   obtain ⟨qq,eq,_⟩:=hA.find xX
   have hv:=yd nd xX eq
   rw [hv]
   refine cM ?_
   exact ⟨_,Z,A.a,T.hold,A.dx,_,_,Z,hA.oa,X.cH,X.hab,Z,_,Z,A.ab,_,Z,hv▸cN.k (k:=Sum.inr p.nm) hA.eY,k i p qq rfl xX eq⟩
 . have hn:∀p∈st.ah,p.nm≠x:=fun p hp z=>hx ⟨p,hp,z⟩
   rw [vf hn]
   exact jX fun y=>q2 hn y H (aI.refl _)
abbrev nh:Stmt:=inClass (top 24) 21
abbrev iW:List Str:=["self","name"]
abbrev DG:List Str:=iW
theorem Cb:aJ DG iW (ay nh):=c5
theorem Bd {T:TC} {e:Ec} (F:jb K T.hold "check_new" "Hold.check_new" nh f fd) (X:Txt K T) (o_:Dn P w K mg base 2 "is_name" sY yN) (zC:kg K e.bad) (pe:mg "BadName"=some (.ref e.bad)) (DH:kg K e.twice) (uL:mg "Twice"=some (.ref e.twice)):Mx P w K mg base 3 T.hold "check_new" iW (xE T e):=by
 refine F.Vr Cb fun cdv A outer s H vs Q E hr h=>?_
 obtain ⟨⟨n,ρ,A,st,x,rfl,h,hx,q2,q⟩⟩:=h
 refine ⟨_,(@cF.h _ _ _ (aj (cC (dJ (dB (bf o_ hr (af (qv 1) ao)))) (au (vB zC (by rfl) pe)) aT)
  (au (cC (yh (Mv (bU hr) (qv 1) (aY K (qv 0)))) (au (vB DH (by rfl) uL)) aT)))),?_⟩
 refine ⟨_,Z,EH (cs:=x.cps.toList) hx fun H1 g1=>⟨_,Z,?_⟩⟩
 cases hn:isName x.cps.toList with
 | false=>exact jX fun y=>q2 0 (by unfold newR isNm;rw [hn];rfl) y H1 g1
 | true=>
   refine cM ?_
   have h1:=h.mono g1
   refine ⟨_,Z,_,Z,A.a,T.hold,A.dx,_,_,Z,h1.oa,X.cH,X.hnm,Z,A.nm,_,Z,cN.k (k:=Sum.inr x) h1.u9,_,Z,?_⟩
   by_cases hm:x∈st.nms
   . rw [LG hm]
     exact jX fun y=>q2 1 (by unfold newR isNm;rw [hn,aB rfl,aB hm]) y H1 g1
   . rw [AG hm]
     exact cM (q (Vk hn hm) H1 g1)
abbrev rB:Stmt:=inClass (top 24) 10
abbrev nT:List Str:=["self"]
abbrev JF:List Str:=nT
theorem Hu:aJ JF nT (ay rB):=c5
theorem Hv {T:TC} (F:jb K T.hold "roster" "Hold.roster" rB f fd) (X:Txt K T) (c8:mg "list"=none):Mn P w K mg base 1 T.hold "roster" nT (LJ T):=by
 refine F.oA Hu fun cdv A outer s H vs Q E hr h=>?_
 obtain ⟨⟨n,ρ,A,st,rfl,h,q⟩⟩:=h
 refine ⟨_,(@cF.h _ _ _ (au (aO (lZ (RQ rfl) (by rfl) c8 uP (af (aY K (qv 0)) ao))))),?_⟩
 refine ⟨_,Z,A.a,T.hold,A.dx,_,_,Z,h.oa,X.cH,X.hpl,Z,A.pl,_,Z, .inl h.jc,fun l hl=>?_⟩
 rw [Dg]
 exact q l hl
abbrev tP:Stmt:=inClass (top 24) 11
abbrev qc:List Str:=["self"]
abbrev MI:List Str:=qc
theorem JG:aJ MI qc (ay tP):=c5
theorem JH {T:TC} (F:jb K T.hold "parts" "Hold.parts" tP f fd) (X:Txt K T):Mn P w K mg base 1 T.hold "parts" qc (Qg T):=by
 refine F.oA JG fun cdv A outer s H vs Q E hr h=>?_
 obtain ⟨⟨n,ρ,A,st,rfl,h,hl,q⟩⟩:=h
 refine ⟨_,(@cF.h _ _ _ (au (aO (Mu (gC ["part"] [none] rfl (B9 (aY K (qv 0))) (fun _ _ _ _=>(aR (i:=0) (show List.Nodup (["part"] :List Str) from by decide +kernel))) (fun _ _ _ _=>(jC (af (aY K (qv 0)) (af (aY K (qv 0)) (af (aY K (qv 0)) (af (aY K (qv 0)) ao)))))) rfl (by rfl)))))),?_⟩
 refine ⟨A.ab,_,h.eY,fun o=>?_⟩
 refine ⟨_,Z,A.a,T.hold,A.dx,_,_,Z,fq h.eY h.oa (fun k z=>by cases z),X.cH,X.hab,Z,A.ab,o,_,Z,ak,fun acc hacc=>?_⟩
 have el:=yc h.ql
 refine iS (n:=st.ah.length) 0 (fun i out H1=>aI (upd H A.ab (.fE o (.dK (cZ st.ah A.qs)))) H1/\jR H1 out (st.ah.take i)) (by omega) ⟨aA hacc _, .nil⟩ (fun i out H1 hi _ hp=>⟨hp.1 _ _ ak,by rw [el];exact hi⟩) (fun out H1 _ hp=>⟨hp.1 _ _ ak,by rw [el];exact aS _⟩) ?_ ?_
 . rintro i x out H1 H2 hi ff ha ⟨g,hP⟩ ⟨rfl,kv,hkv,rfl⟩
   have ep:=a_ hi
   obtain ⟨qq,eq,h1,h2,_⟩:=h.find ep
   rw [yb ep eq] at hkv
   cases hkv
   have hq:=g _ _ (fq h.eY h1 (fun k z=>by cases z))
   refine ⟨_,Z,qq.1,T.part,qq.2.1,_,_,Z,hq,X.cP,X.YB,Z,_,Z,qq.1,T.part,qq.2.1,_,_,Z,hq,X.cP,X.pow,Z,_,Z,qq.1,T.part,qq.2.1,_,_,Z,hq,X.cP,X.ET,Z,_,Z,qq.1,T.part,qq.2.1,_,_,Z,hq,X.cP,X.Uy,Z,(iV 4),fun t ht=>?_⟩
   have g1:=aA ht (B7 st.ah[i])
   refine ⟨g1 _ _ ha,(g.trans g1).cI hacc _,?_⟩
   rw [take_snoc ep]
   exact ((hP.mono g1.tups).snoc ak).mono (kY (.inr ⟨_,g1 _ _ ha,Z⟩))
 rintro out H1 ff ha ⟨g,hP⟩
 rw [cA] at hP
 have hz:=g _ _ (ak (H:=H) (a:=A.ab) (o:= .fE o (.dK (cZ st.ah A.qs))))
 have na:acc≠A.ab:=fun e=>by rw [e,hz] at ha;cases ha
 exact ⟨hz,q acc out _ (vg h.eY g) (oq h.eY hacc) (by rw [av na];exact ha) (hP.mono (kY (.inr ⟨_,hz,Z⟩)))⟩
abbrev tQ:Stmt:=inClass (top 24) 13
abbrev l_:List Str:=["self"]
abbrev MJ:List Str:=l_
theorem JI:aJ MJ l_ (ay tQ):=c5
theorem JJ {T:TC} (F:jb K T.hold "whole" "Hold.whole" tQ f fd) (X:Txt K T) (fV:mg "sum"=none):Mn P w K mg base 1 T.hold "whole" l_ (GV T):=by
 refine F.oA JI fun cdv A outer s H vs Q E hr h=>?_
 obtain ⟨⟨n,ρ,A,st,rfl,h,hl,q⟩⟩:=h
 refine ⟨_,(@cF.h _ _ _ (au (aO (aH (lV K rfl) (by rfl) fV yw (af (Mu (gC ["part"] [none] rfl (B9 (aY K (qv 0))) (fun _ _ _ _=>(aR (i:=0) (show List.Nodup (["part"] :List Str) from by decide +kernel))) (fun _ _ _ _=>(aY K (qv 0))) rfl (by rfl))) ao))))),?_⟩
 refine ⟨A.ab,_,h.eY,fun o=>?_⟩
 refine ⟨_,Z,A.a,T.hold,A.dx,_,_,Z,fq h.eY h.oa (fun k z=>by cases z),X.cH,X.hab,Z,A.ab,o,_,Z,ak,fun acc hacc=>?_⟩
 have el:=yc h.ql
 refine iS (n:=st.ah.length) 0 (fun i out H1=>aI (upd H A.ab (.fE o (.dK (cZ st.ah A.qs)))) H1/\out=((st.ah.take i).map (·.wo)).map V.int) (by omega) ⟨aA hacc _,Z⟩ (fun i out H1 hi _ hp=>⟨hp.1 _ _ ak,by rw [el];exact hi⟩) (fun out H1 _ hp=>⟨hp.1 _ _ ak,by rw [el];exact aS _⟩) ?_ ?_
 . rintro i x out H1 H2 hi ff ha ⟨g,e⟩ ⟨rfl,kv,hkv,rfl⟩
   have ep:=a_ hi
   obtain ⟨qq,eq,h1,h2,_⟩:=h.find ep
   rw [yb ep eq] at hkv
   cases hkv
   have hq:=g _ _ (fq h.eY h1 (fun k z=>by cases z))
   refine ⟨_,Z,qq.1,T.part,qq.2.1,_,_,Z,hq,X.cP,X.ET,Z,ha,g.cI hacc _,?_⟩
   rw [take_snoc ep,e,bD,bD]
   rfl
 rintro out H1 ff ha ⟨g,e⟩
 rw [cA] at e
 have hz:=g _ _ (ak (H:=H) (a:=A.ab) (o:= .fE o (.dK (cZ st.ah A.qs))))
 have na:acc≠A.ab:=fun e=>by rw [e,hz] at ha;cases ha
 exact ⟨hz,acc,st.ah.map (fun p:Pt=>p.wo),Z,aC.of (by rw [av na,ha,e]),q _ (vg h.eY g)⟩
abbrev kj:Stmt:=inClass (top 24) 25
abbrev iI:List Str:=["self","tops"]
abbrev zH:List Str:=iI
theorem ym:aJ zH iI (ay kj):=c5
theorem yo {T:TC} (F:jb K T.hold "beyond_common" "Hold.beyond_common" kj f fd) (X:Txt K T) (jS:mg "zip"=none):Mn P w K mg base 1 T.hold "beyond_common" iI (YE T K):=by
 refine F.oA ym fun cdv A outer s H vs Q E hr h=>?_
 obtain ⟨⟨n,ρ,A,st,l,tops,rfl,h,hS,YU,hle,q⟩⟩:=h
 refine ⟨_,(@cF.h _ _ _ (au (aO (gC ["top","common"] [none,none] rfl (uJ K (by rfl) jS (af (qv 1) (af (aY K (qv 0)) ao))) (fun _ _ _ _=>(jm K (n:=2) rfl (cW (aR (i:=0) (show List.Nodup (["top","common"] :List Str) from by decide +kernel)) (cW (aR (i:=1) (show List.Nodup (["top","common"] :List Str) from by decide +kernel)) jl)))) (fun _ _ _ _=>(aD iQ (qv 0) (qv 1))) rfl (by rfl))))),?_⟩
 refine ⟨_,Z,_,Z,A.a,T.hold,A.dx,_,_,Z,h.oa,X.cH,X.CC,Z,_,_,_,_,_,_,Z, .lst hS, .lst (aC.of h.j6),fun acc hacc=>?_⟩
 refine AD (K:=K) (n:=tops.length) [0,1] (fun i out H1=>aI H H1/\out=(List.zipWith (fun t c=>t-c) (tops.take i) (st.bR.take i)).map V.int) (by decide) (by omega) ⟨aA hacc _,Z⟩ (fun i out H1 hi _ hp=>⟨hp.1.seq hS,hp.1.seq (aC.of h.j6),by rw [aF];exact hi,by rw [aF];omega⟩)
  (fun out H1 _ hp=>⟨hp.1.seq hS,hp.1.seq (aC.of h.j6), .inl (by rw [aF];exact aS _)⟩) ?_ ?_
 . rintro i x out H1 H2 hi ff ha ⟨g,e⟩ ⟨p,x1,y1,hp,rfl,rfl,e1,e2⟩
   obtain ⟨t,rfl,et⟩:=gR e1
   obtain ⟨c,rfl,ec⟩:=gR e2
   have g1:=aA hp (.tup [.int t, .int c])
   refine ⟨p,_,Z,cJ.of ak,Z,_,Z,_,Z,_,_,Z,Z,g1 _ _ ha,(g.trans g1).cI hacc _,?_⟩
   rw [oZ _ et ec,e,bD]
   rfl
 rintro out H1 ff ha ⟨g,e⟩
 rw [cA,YU,cA] at e
 exact q acc H1 g hacc (by rw [ha,e];rfl)
abbrev qe:Stmt:=inClass (top 24) 24
abbrev mU:List Str:=["self","part"]
abbrev Hw:List Str:=mU
theorem Ft:aJ Hw mU (ay qe):=c5
theorem Fv {T:TC} (F:jb K T.hold "tops_of" "Hold.tops_of" qe f fd) (X:Txt K T) (jS:mg "zip"=none):Mn P w K mg base 1 T.hold "tops_of" mU (Qe T):=by
 refine F.oA Ft fun cdv A outer s H vs Q E hr h=>?_
 obtain ⟨⟨n,ρ,A,st,ip,pt,qq,rfl,h,wf,ep,eq,q⟩⟩:=h
 obtain ⟨h1,h2,_⟩:=h.opt ip pt qq ep eq
 have iD:=bJ ep
 refine ⟨_,(@cF.h _ _ _ (au (aO (gC ["own","common","part"] [none,none,some 1] rfl (uJ K (by rfl) jS (af (aY K (qv 1)) (af (aY K (qv 0)) ao))) (fun _ _ _ _=>(jm K (n:=2) rfl (cW (aR (i:=0) (show List.Nodup (["own","common","part"] :List Str) from by decide +kernel)) (cW (aR (i:=1) (show List.Nodup (["own","common","part"] :List Str) from by decide +kernel)) jl)))) (fun _ _ _ _=>(aD bV (aD jY (aY K (qv 2)) (qv 0)) (qv 1))) rfl (by rfl))))),?_⟩
 have erl:pt.row.length=st.bR.length:=by rw [wf.rows pt iD,wf.ji]
 have hcl:st.bR.length<=100:=by rw [wf.ji];exact wf.tH
 refine ⟨_,Z,qq.1,T.part,qq.2.1,_,_,Z,h1,X.cP,X.Uz,Z,_,Z,A.a,T.hold,A.dx,_,_,Z,h.oa,X.cH,X.CC,Z,_,_,_,_,_,_,Z, .lst (aC.of h2), .lst (aC.of h.j6),fun acc hacc=>?_⟩
 refine AD (K:=K) (n:=pt.row.length) [0,1] (fun i out H1=>aI H H1/\out=(List.zipWith (fun r c=>pt.sc*r+c) (pt.row.take i) (st.bR.take i)).map V.int) (by decide) (by omega) ⟨aA hacc _,Z⟩ (fun i out H1 hi _ hp=>⟨hp.1.seq (aC.of h2),hp.1.seq (aC.of h.j6),by rw [aF];exact hi,by rw [aF];omega⟩)
  (fun out H1 _ hp=>⟨hp.1.seq (aC.of h2),hp.1.seq (aC.of h.j6), .inl (by rw [aF];exact aS _)⟩) ?_ ?_
 . rintro i x out H1 H2 hi ff ha ⟨g,e⟩ ⟨p,x1,y1,hp,rfl,rfl,e1,e2⟩
   obtain ⟨t,rfl,et⟩:=gR e1
   obtain ⟨c,rfl,ec⟩:=gR e2
   have g1:=aA hp (.tup [.int t, .int c])
   have s1:Jm.Sz 8000 pt.sc:=Jm.Sz.pO (by have:=wf.u_ pt iD;have:=wf.i7;omega) (wf.u_ pt iD).2 wf.big
   have s2:Jm.Sz 8000 t:=Jm.Sz.pO (wf.qR pt iD t (bJ et)).1 (wf.qR pt iD t (bJ et)).2 wf.big
   refine ⟨p,_,Z,cJ.of ak,Z,_,Z,qq.1,T.part,qq.2.1,_,_,Z,(g.trans g1) _ _ h1,X.cP,X.P0,Z,_,Z,_,_,Z,Z,jj s1 s2,_,Z,_,_,Z,Z,g1 _ _ ha,(g.trans g1).cI hacc _,?_⟩
   rw [oZ _ et ec,e,bD]
   rfl
 rintro out H1 ff ha ⟨g,e⟩
 rw [cA,erl,cA] at e
 exact q acc H1 g hacc (by rw [ha,e];rfl)
abbrev vG:Stmt:=inClass (top 24) 22
abbrev nI:List Str:=["self","part"]
abbrev Ow:List Str:=nI
theorem MK:aJ Ow nI (ay vG):=c5
theorem ML {T:TC} (F:jb K T.hold "stow" "Hold.stow" vG f fd) (X:Txt K T):Mn P w K mg base 1 T.hold "stow" nI (LI T):=by
 refine F.oA MK fun cdv A outer s H vs Q E hr h=>?_
 obtain ⟨⟨n,ρ,A,st,qq,p,rfl,hh,h1,h2,c1,c2,hn,wf',q⟩⟩:=h
 have h:=hh.h
 refine ⟨_,(@cF.h _ _ _ (aj (o8 (bU hr) (aY K (qv 0)) (aY K (qv 1)) (qv 1) rfl)
  (au (o8 (bU hr) (aY K (qv 0)) (aY K (qv 1)) fk rfl)))),?_⟩
 have Be:∀x∈st.ah,x.nm≠p.nm:=fun x hx e=>hn (by rw [<-e];exact hh.wf.sub x hx)
 have lab:(cZ st.ah A.qs).length<sizeLine:=by rw [yc h.ql];exact dW hh.wf.xy
 refine ⟨_,Z,_,Z,A.a,T.hold,A.dx,_,_,Z,h.oa,X.cH,X.hab,Z,_,Z,qq.1,T.part,qq.2.1,_,_,Z,h1,X.cP,X.YB,Z,A.ab,_,Z,s_.k (k:=Sum.inr p.nm) h.eY lab,?_⟩
 rw [oj _ (vf Be),<-Xg h.ql p qq]
 have k1:qq.1≠qq.2.2:=iZ h1 h2 (by intro z;cases z)
 have f1:Kp n ρ (bZ (bZ ρ qq.1 (n,20,p.nm)) qq.2.2 (n,21,p.nm)) H H (fun _=>true):=⟨fun _ _ e=>e,fun b t x o _ c e=>⟨e,by
  rw [cu (fun z=>by rw [z,c2] at c;cases c),cu (fun z=>by rw [z,c1] at c;cases c)];exact c⟩⟩
 have hc:=h.same f1
 have g1:Gh (bZ (bZ ρ qq.1 (n,20,p.nm)) qq.2.2 (n,21,p.nm)) H:=(hh.g.color h1 rfl).color h2 rfl
 have fr1:LH n qq.1 qq.2.2 ρ H (bZ (bZ ρ qq.1 (n,20,p.nm)) qq.2.2 (n,21,p.nm)) H:=fun b o e k n1 n2=>⟨e,by rw [cu n2,cu n1]⟩
 have hs:=hc.Ux g1 (st.ah++[p]) (A.qs++[qq]) (by rw [cY,cY,h.ql];rfl) (fun i x y ex ey=>by
  by_cases hi:i<st.ah.length
  . rw [KP hi] at ex
    rw [KP (by rw [h.ql];exact hi)] at ey
    exact hc.opt i x y ex ey
  . rw [KO (by omega)] at ex
    rw [KO (by rw [h.ql];omega),h.ql] at ey
    have e0:i-st.ah.length=0:=by
     rcases Nat.eq_zero_or_pos (i-st.ah.length) with z|z
     . exact z
     . rw [uQ (by show 1<=_;exact z)] at ex;cases ex
    rw [e0] at ex ey
    cases ex;cases ey
    exact ⟨h1,h2,by rw [cu k1];exact dD,dD⟩)
 have g2:=g1.wr (a:=A.ab) (o:= .dK (cZ (st.ah++[p]) (A.qs++[qq]))) rfl
 have fr2:Fr n _ H _ (upd H A.ab (.dK (cZ (st.ah++[p]) (A.qs++[qq])))):=Fr.write hc.gW
 have YD:upd H A.ab (.dK (cZ (st.ah++[p]) (A.qs++[qq]))) qq.1=some (.ins T.part qq.2.1 (gm p qq.2.2)):=by rw [av (iZ h1 h.eY (by intro z;cases z))];exact h1
 refine ⟨_,Z,A.a,T.hold,A.dx,_,_,Z,hs.oa,X.cH,X.hnm,Z,_,Z,qq.1,T.part,qq.2.1,_,_,Z,YD,X.cP,X.YB,Z,A.nm,_,Z,s_.k (k:=Sum.inr p.nm) hs.u9 (by unfold u7;rw [aF];exact dW hh.wf.Df),?_⟩
 rw [oj _ (AG hn),show u7 st.nms++[(Sum.inr p.nm,V.bl true)]=u7 (st.nms++[p.nm]) from by unfold u7;rw [bD];rfl]
 have hs2:=hs.acd g2 (st.nms++[p.nm])
 exact q _ _ _ ⟨g2.wr rfl,hs2,wf'⟩ rfl (fr1.trans (fr2.trans (Fr.write hs.j0)))
abbrev vH:Stmt:=inClass (top 24) 1
abbrev rZ:List Str:=["self","owner"]
abbrev Ox:List Str:=rZ.append ["part"]
theorem Bf:aJ Ox rZ (ay vH):=c5
theorem MM {T:TC} (F:jb K T.hold "sign" "Hold.sign" vH f fd) (X:Txt K T) (o_:Dn P w K mg base 2 "is_name" sY yN) (bh:mg "len"=none):Mn P w K mg base 3 T.hold "sign" rZ (Qf T):=by
 refine F.oA Bf fun cdv A outer s H vs Q E hr h=>?_
 obtain ⟨⟨n,ρ,A,st,o,rfl,hh,hx,hn,hl,q⟩⟩:=h
 refine ⟨_,(@cF.h _ _ _ (aj (cC (dJ (dB (bf o_ hr (af (qv 1) ao)))) (au jK) aT)
  (aj (cC (yh (Mv (bU hr) (qv 1) (aY K (qv 0)))) (au jK) aT)
  (aj (o8 (bU hr) (aY K (qv 0)) (qv 1) (aH Au (by rfl) bh dF (af (aY K (qv 0)) ao)) rfl)
  (aj (cT (pX uO uM uN fY (aY K (qv 0)) (af ai ao)))
  (aj (cT (pX uO uM uN fY (aY K (qv 0)) (af ai ao)))
  (au (yk (dR eL rfl (B9 (aY K (qv 0))) (aR (i:=2) Bf.nd) (au (cT (pX uO uM uN fY (aY K (qv 2)) (af ai ao))))))))))))),?_⟩
 refine ⟨_,Z,EH (cs:=o.cps.toList) (Xi hx) fun H1 g1=>⟨_,Z,?_⟩⟩
 rw [show isName o.cps.toList=true from hx]
 refine cM ?_
 have gG:=hh.mono g1
 have h1:=gG.h
 have F1:Fr n ρ H ρ H1:=Fr.of_same g1
 refine ⟨_,Z,_,Z,A.a,T.hold,A.dx,_,_,Z,h1.oa,X.cH,X.hpl,Z,A.pl,_,Z,cN.k (k:=Sum.inr o) h1.jc,_,Z,?_⟩
 rw [vd hn]
 refine cM ?_
 have QH:=uz st.own 0
 refine ⟨_,Z,A.a,T.hold,A.dx,_,_,Z,h1.oa,X.cH,X.hpl,Z,A.pl,_,Z,h1.jc,_,Z,A.a,T.hold,A.dx,_,_,Z,h1.oa,X.cH,X.hpl,Z,_,Z,A.pl,_,Z,s_.k (k:=Sum.inr o) h1.jc (dW (by rw [QH];omega)),?_⟩
 rw [oj _ (vd hn),QH,show fP 0 st.own++[(Sum.inr o,V.int (st.own.length:Int))]=fP 0 (st.own++[o]) from by rw [LF,Nat.zero_add]]
 have h2:=h1.ab_ gG.g (st.own++[o])
 have G2:=gG.g.wr (a:=A.pl) (o:= .dK (fP 0 (st.own++[o]))) rfl
 have F2:=F1.trans (Fr.write (o:= .dK (fP 0 (st.own++[o]))) h1.jL)
 generalize upd H1 A.pl (.dK (fP 0 (st.own++[o])))=H2 at *
 have lcm:(st.bR.map V.int).length<sizeLine:=by rw [aF,hh.wf.ji];exact dW (by omega)
 refine ⟨_,Z,A.a,T.hold,A.dx,_,_,Z,h2.oa,X.cH,X.CC,Z, .inl ⟨Z,_,aC.of h2.j6⟩,A.cm,_,_,Z,Z,h2.j6,lcm,?_⟩
 rw [show st.bR.map V.int++[V.int 0]=(st.bR++[0]).map V.int from by rw [bD];rfl]
 have h3:=h2.ace G2 (st.bR++[0])
 have G3:=G2.wr (a:=A.cm) (o:= .lst ((st.bR++[0]).map V.int)) rfl
 have F3:=F2.trans (Fr.write (o:= .lst ((st.bR++[0]).map V.int)) h2.kT)
 generalize upd H2 A.cm (.lst ((st.bR++[0]).map V.int))=H3 at *
 have lpu:(st.dj.map V.int).length<sizeLine:=by rw [aF,hh.wf.yS];exact dW (by omega)
 refine ⟨_,Z,A.a,T.hold,A.dx,_,_,Z,h3.oa,X.cH,X.LC,Z, .inl ⟨Z,_,aC.of h3.qK⟩,A.pu,_,_,Z,Z,h3.qK,lpu,?_⟩
 rw [show st.dj.map V.int++[V.int 0]=(st.dj++[0]).map V.int from by rw [bD];rfl]
 have h4:=h3.acf G3 (st.dj++[0])
 have G4:=G3.wr (a:=A.pu) (o:= .lst ((st.dj++[0]).map V.int)) rfl
 have F4:=F3.trans (Fr.write (o:= .lst ((st.dj++[0]).map V.int)) h3.cpu)
 generalize upd H3 A.pu (.lst ((st.dj++[0]).map V.int))=H4 at *
 clear h1 h2 h3 G2 G3 F2 F3 gG
 have hpl:=hh.wf.xy
 refine ⟨A.ab,_,h4.eY,fun ob=>?_⟩
 refine ⟨_,Z,A.a,T.hold,A.dx,_,_,Z,fq h4.eY h4.oa (fun k z=>by cases z),X.cH,X.hab,Z,A.ab,ob,_,Z,ak,?_⟩
 have el:=yc h4.ql
 have el0:(cZ st.ah A.qs).length=st.ah.length:=el
 refine uZ (n:=st.ah.length) (fun i σ H'=>(∃s2,σ=[some (.ref A.a),some (.str o),s2])/\oW H' A.ab ob (cZ st.ah A.qs)/\∃H5,H'=upd H5 A.ab (.fE ob (.dK (cZ st.ah A.qs)))/\Gh ρ H5/\Fr n ρ H ρ H5/\
   aZ T n ρ A H5 { st with own:=st.own++[o],bR:=st.bR++[0],dj:=st.dj++[0],ah:=(st.ah.take i).map (fun p=>{ p with row:=p.row++[0] })++st.ah.drop i })
  ⟨⟨_,Z⟩,ak,H4,Z,G4,F4,h4⟩ (fun i σ H' hi hp=>⟨hp.2.1,by rw [el0];exact hi⟩) (fun σ H' hp=>⟨hp.2.1,by rw [el0];exact aS _⟩) ?_ ?_
 . rintro i x σ H' EV hi ⟨⟨s2,rfl⟩,hz,H5,rfl,G5,F5,h5⟩ ⟨rfl,kv,hkv,rfl⟩
   have ep:=a_ hi
   have CP:=LM (fun p:Pt=>{ p with row:=p.row++[0] }) ep
   obtain ⟨qq,eq,k1,k2,k3,k4⟩:=h5.find CP
   rw [yb ep eq] at hkv
   cases hkv
   have YV:=qS (fun p:Pt=>{ p with row:=p.row++[0] }) (fun p:Pt=>p.nm) (fun _=>rfl) st.ah i
   have nd5:(((st.ah.take i).map (fun p:Pt=>{ p with row:=p.row++[0] })++st.ah.drop i).map (fun p:Pt=>p.nm)).Nodup:=by rw [YV];exact hh.wf.j9
   have z1:=fq (o:=ob) h5.eY k1 (fun k z=>by cases z)
   have z2:=fq (o:=ob) h5.eY k2 (fun k z=>by cases z)
   rw [show cZ ({ st with own:=st.own++[o],bR:=st.bR++[0],dj:=st.dj++[0],ah:=(st.ah.take i).map (fun p:Pt=>{ p with row:=p.row++[0] })++st.ah.drop i }:HS).ah A.qs=cZ st.ah A.qs from o6 YV] at z1 z2
   have hrl:((st.ah[i]).row.map V.int).length<sizeLine:=by rw [aF,hh.wf.rows _ (uw hi)];exact dW (by omega)
   refine ⟨_,Z,qq.1,T.part,qq.2.1,_,_,Z,z1,X.cP,X.Uz,Z, .inl ⟨Z,_,aC.of z2⟩,qq.2.2,_,_,Z,Z,z2,hrl,?_⟩
   have na:A.ab≠qq.2.2:=(iZ k2 h5.eY (by intro z;cases z)).symm
   rw [show (st.ah[i]).row.map V.int++[V.int 0]=((st.ah[i]).row++[0]).map V.int from by rw [bD];rfl]
   have h6:=h5.ZW G5 ((st.ah[i]).row++[0]) CP eq nd5
   rw [show ({ st with own:=st.own++[o],bR:=st.bR++[0],dj:=st.dj++[0],ah:=(st.ah.take i).map (fun p:Pt=>{ p with row:=p.row++[0] })++st.ah.drop i }:HS).ah.set i { st.ah[i] with row:=(st.ah[i]).row++[0] }=_ from LN (fun p:Pt=>{ p with row:=p.row++[0] }) ep] at h6
   exact ⟨⟨_,Z⟩,(av na).trans hz,_,kG na,G5.wr rfl,F5.trans (Fr.write k4),h6⟩
 . rintro σ H' ⟨_,hz,H5,rfl,G5,F5,h5⟩
   have YV:=qS (fun p:Pt=>{ p with row:=p.row++[0] }) (fun p:Pt=>p.nm) (fun _=>rfl) st.ah st.ah.length
   have e5:cZ ({ st with own:=st.own++[o],bR:=st.bR++[0],dj:=st.dj++[0],ah:=(st.ah.take st.ah.length).map (fun p:Pt=>{ p with row:=p.row++[0] })++st.ah.drop st.ah.length }:HS).ah A.qs=cZ st.ah A.qs:=o6 YV
   have h5':=h5.eY
   rw [e5] at h5'
   refine ⟨hz,?_⟩
   rw [uF,yY h5']
   have es:({ st with own:=st.own++[o],bR:=st.bR++[0],dj:=st.dj++[0],ah:=(st.ah.take st.ah.length).map (fun p:Pt=>{ p with row:=p.row++[0] })++st.ah.drop st.ah.length }:HS)=gJ st o:=by
    unfold gJ
    rw [cA,D7,rO]
   rw [es] at h5
   exact q ρ A H5 ⟨G5,h5,Z1 hh.wf hn hl⟩ rfl F5
abbrev vI:Stmt:=inClass (top 24) 2
abbrev r_:List Str:=["self","part","owner","worth","weight"]
abbrev Oz:List Str:=r_.append ["place","tops"]
theorem vJ:aJ Oz r_ (ay vI):=c5
theorem MN {T:TC} (F:jb K T.hold "load" "Hold.load" vI f fd) (X:Txt K T) (oH:Mn P w K mg base 3 T.hold "check_new" iW (EU T)) (qf:Mn P w K mg base 1 T.hold "place_of" lK (Qd T))
  (kK:Mn P w K mg base 1 T.hold "beyond_common" iI (YE T K)) (kZ:Mn P w K mg base 1 T.hold "stow" nI (LI T)) (yp:Cn P w K mg base 1 "Part" T.part ["self","name","owner","worth","weight","scale","row"] (GU T K)) (bh:mg "len"=none):Mn P w K mg base 4 T.hold "load" r_ (UD T):=by
 refine F.oA vJ fun cdv A outer s H vs Q E hr h=>?_
 obtain ⟨⟨n,ρ,A,st,x,o,wo,we,rfl,hh,hx,hn,ho,h4,h5,h6,h7,q⟩⟩:=h
 refine ⟨_,(@cF.h _ _ _ (aj (cT (gO oH hr (qv 0) (af (qv 1) ao)))
  (aj (aN (i:=5) vJ.nd (gO qf hr (qv 0) (af (qv 2) ao)))
  (aj (cC (dZ (bW.pt (gK (aU wD (qv 3) ai (aX _)) (f_ (aU wD (qv 4) ai (aX _)))))) (au jK) aT)
  (aj (aN (i:=6) vJ.nd (aD abD (eF (af ai ao)) (aH Au (by rfl) bh dF (af (aY K (qv 0)) ao))))
  (aj (sW (aY K (aY K (qv 0))) (sX (qv 6) (qv 5) set_list))
  (au (cT (gO kZ hr (qv 0) (af (YT yp hr (af (qv 1) (af (qv 2) (af (qv 3) (af (qv 4) (af ai (af (gO kK hr (qv 0) (af (qv 6) ao)) ao))))))) ao)))))))))),?_⟩
 refine ⟨_,Z,A.a,A.dx,_,Z,hh.h.oa,Z,_,Z,⟨⟨n,ρ,A,st,x,Z,hh.h,hx,hn,fun H1 g1=>?_⟩⟩⟩
 have gG:=hh.mono g1
 have F1:Fr n ρ H ρ H1:=Fr.of_same g1
 clear hh
 refine ⟨_,Z,A.a,A.dx,_,Z,gG.h.oa,Z,_,Z,⟨⟨n,ρ,A,st,o,Z,gG.h,ho,?_⟩⟩⟩
 refine ⟨false,⟨_,Z,_,_,Z,Z,_,Z,dm (fun c=>absurd (dU c) (by omega)) fun _=>⟨_,Z,_,_,Z,Z,_,Z,dO (by omega),Z⟩⟩,cM ?_⟩
 refine ⟨(iV 1),fun p0 hp0=>?_⟩
 have g2:=aA hp0 (.lst [.int 0])
 have kU:=gG.mono g2
 have F2:=F1.trans (Fr.of_same (ρ:=ρ) g2)
 have ah_:upd H1 p0 (.lst [.int 0]) p0=some (.lst [.int 0]):=ak
 generalize upd H1 p0 (.lst [.int 0])=H2 at *
 clear gG F1
 have QH:=uz st.own 0
 have ff:=kU.wf.tH
 refine ⟨_,Z,A.a,T.hold,A.dx,_,_,Z,kU.h.oa,X.cH,X.hpl,Z,A.pl,_,Z,kU.h.jc,p0,_,_,Z,Z,ah_,by omega,by rw [QH];omega,by rw [QH];show 1*_<=_;rw [xj,Nat.one_mul];exact small (by omega),fun p1 hp1=>?_⟩
 rw [QH,xj,show (List.replicate st.own.length [V.int 0]).flatten=(List.replicate st.own.length (0:Int)).map V.int from by rw [List.map_replicate,List.flatten_replicate_singleton]]
 have g3:=aA hp1 (.lst ((List.replicate st.own.length (0:Int)).map V.int))
 have kW:=kU.mono g3
 have F3:=F2.trans (Fr.of_same (ρ:=ρ) g3)
 have n1:H p1=none:=(g1.trans g2).free hp1
 have c1:ρ p1=none:=kU.g.none hp1
 have MO:upd H2 p1 (.lst ((List.replicate st.own.length (0:Int)).map V.int)) p1=_:=ak
 generalize upd H2 p1 (.lst ((List.replicate st.own.length (0:Int)).map V.int))=H3 at *
 have hi:=List.idxOf_lt_length_iff.mpr ho
 refine ⟨_,Z,A.a,T.hold,A.dx,_,_,Z,kW.h.oa,X.cH,X.ES,Z,A.bt,T.bot,A.db,_,_,Z,kW.h.oY,X.cB,X.YC,Z,_,Z,_,Z,p1,_,_,st.own.idxOf o,Z,Z,MO,by rw [aF,mZ];exact BZ hi,?_⟩
 rw [show ((List.replicate st.own.length (0:Int)).map V.int).set (st.own.idxOf o) (V.int st.prod)=((List.replicate st.own.length (0:Int)).set (st.own.idxOf o) st.prod).map V.int from by rw [wu]]
 have nJ:=kW.KH (o:= .lst (((List.replicate st.own.length (0:Int)).set (st.own.idxOf o) st.prod).map V.int)) c1 MO rfl rfl
 have F4:=F3.new (o:= .lst (((List.replicate st.own.length (0:Int)).set (st.own.idxOf o) st.prod).map V.int)) n1
 have aia:upd H3 p1 (.lst (((List.replicate st.own.length (0:Int)).set (st.own.idxOf o) st.prod).map V.int)) p1=_:=ak
 have s4:aI H (upd H3 p1 (.lst (((List.replicate st.own.length (0:Int)).set (st.own.idxOf o) st.prod).map V.int))):=((g1.trans g2).trans g3).cI n1 _
 generalize upd H3 p1 (.lst (((List.replicate st.own.length (0:Int)).set (st.own.idxOf o) st.prod).map V.int))=H4 at *
 clear kU kW F2 F3
 refine ⟨_,Z,A.a,A.dx,_,Z,nJ.h.oa,Z,_,Z,_,Z,_,Z,_,Z,_,Z,A.a,A.dx,_,Z,nJ.h.oa,Z,_,Z,⟨⟨n,ρ,A,st,p1,_,Z,nJ.h,aC.of aia,by rw [jN,mZ,nJ.wf.ji],by rw [jN,mZ];omega,fun r H5 g5 hr5 XY=>?_⟩⟩⟩
 intro y dy hy hdy hyd
 have VC:upd (upd H5 dy (.own y)) y (.ins T.part dy []) r=some (.lst ((AH st ((List.replicate st.own.length 0).set (st.own.idxOf o) st.prod)).map V.int)):=by rw [av (aE XY hy),av (aE XY hdy)];exact XY
 refine ⟨⟨y,dy,r,⟨x,o,wo,we,1,AH st ((List.replicate st.own.length 0).set (st.own.idxOf o) st.prod)⟩,Z,ak,aC.of VC,fun rr H6 hrr k6 hy6 XZ=>⟨Z,?_⟩⟩⟩
 have MP:H5 rr=none:=by
  have e1:rr≠y:=fun e=>by rw [e,ak] at hrr;cases hrr
  have e2:rr≠dy:=fun e=>by rw [e,av hyd,ak] at hrr;cases hrr
  rw [av e1,av e2] at hrr;exact hrr
 have g6:aI H5 H6:=fun b u e=>k6 b u (by rw [av (aE e hy),av (aE e hdy)];exact e) (aE e hy)
 have wU:=nJ.mono g5
 have CQ:=wU.mono g6
 have F6:=F4.trans (Fr.of_same (ρ:=ρ) (g5.trans g6))
 exact ⟨⟨n,ρ,A,st,(y,dy,rr),_,Z,CQ,hy6,XZ,wU.g.none hy,wU.g.none MP,hn,Z2 nJ.wf hn h6 h7 ho h4 h5,fun ρ' A' H' a1 a2 a3=>q ρ' A' H' a1 a2 (a3.fr F6 ((s4.trans g5).free hy) ((s4.trans g5).free MP))⟩⟩
abbrev vK:Stmt:=inClass (top 24) 0
abbrev xG:List Str:=["self"]
abbrev OA:List Str:=xG
theorem MQ:aJ OA xG (ay vK):=c5
theorem MR {T:TC} (F:IM K mg "Hold" T.hold "Hold.__init__" vK f fd) (X:Txt K T) (DI:Cn P w K mg base 1 "Bottom" T.bot ["self"] (Qa T)):Cn P w K mg base 3 "Hold" T.hold xG (Qc T):=by
 refine F.oA MQ fun cdv A outer s H vs Q E hr h=>?_
 obtain ⟨⟨p,dx,ρ,n,rfl,hp,g,hρ,q⟩⟩:=h
 refine ⟨_,(@cF.h _ _ _ (aj (fh K (qv 0) qX)
  (aj (fh K (qv 0) qX)
  (aj (fh K (qv 0) (eF ao))
  (aj (fh K (qv 0) qX)
  (aj (fh K (qv 0) (Vq DI hr))
  (aj (fh K (qv 0) (eF ao))
  (au (fh K (qv 0) (eF ao)))))))))),?_⟩
 have M0:jy p H ρ H ρ [] :=⟨(fun _ m=>absurd m (by simp)),fun b o e _=>⟨e,Z⟩,g,_,hp⟩
 intro pl hpl
 have M1:=(M0.new (o:= .dK []) (c:=(n,1,⟨#[]⟩)) hpl rfl)
 refine ⟨_,Z,p,T.hold,dx,_,Z,by rw [av (aE hp hpl)];exact hp,X.cH,X.hpl,by show 0<1000;decide,?_⟩
 have M2:=M1.wr (u:= .ins T.hold dx (aW "places" (.ref pl) [])) rfl
 have hp2:upd (upd H pl (.dK [])) p (.ins T.hold dx (aW "places" (.ref pl) [])) p=_:=ak
 generalize upd (upd H pl (.dK [])) p (.ins T.hold dx (aW "places" (.ref pl) []))=H2 at *
 clear M0 M1
 intro ab hab
 have M3:=(M2.new (o:= .dK []) (c:=(n,2,⟨#[]⟩)) hab rfl)
 refine ⟨_,Z,p,T.hold,dx,_,Z,by rw [av (aE hp2 hab)];exact hp2,X.cH,X.hab,by show 1<1000;decide,?_⟩
 have M4:=M3.wr (u:= .ins T.hold dx (aW "aboard" (.ref ab) (aW "places" (.ref pl) []))) rfl
 have Mi:upd (upd H2 ab (.dK [])) p (.ins T.hold dx (aW "aboard" (.ref ab) (aW "places" (.ref pl) []))) p=_:=ak
 generalize upd (upd H2 ab (.dK [])) p (.ins T.hold dx (aW "aboard" (.ref ab) (aW "places" (.ref pl) [])))=H4 at *
 clear M2 M3
 refine ⟨(iV 0),fun as has=>?_⟩
 have M5:=(M4.new (o:= .lst []) (c:=(n,3,⟨#[]⟩)) has rfl)
 refine ⟨_,Z,p,T.hold,dx,_,Z,by rw [av (aE Mi has)];exact Mi,X.cH,X.has,by show 2<1000;decide,?_⟩
 have M6:=M5.wr (u:= .ins T.hold dx (aW "ashore" (.ref as) (aW "aboard" (.ref ab) (aW "places" (.ref pl) [])))) rfl
 have Jp:upd (upd H4 as (.lst [])) p (.ins T.hold dx (aW "ashore" (.ref as) (aW "aboard" (.ref ab) (aW "places" (.ref pl) [])))) p=_:=ak
 generalize upd (upd H4 as (.lst [])) p (.ins T.hold dx (aW "ashore" (.ref as) (aW "aboard" (.ref ab) (aW "places" (.ref pl) []))))=H6 at *
 clear M4 M5
 intro nm hnm
 have M7:=(M6.new (o:= .dK []) (c:=(n,4,⟨#[]⟩)) hnm rfl)
 refine ⟨_,Z,p,T.hold,dx,_,Z,by rw [av (aE Jp hnm)];exact Jp,X.cH,X.hnm,by show 3<1000;decide,?_⟩
 have M8:=M7.wr (u:= .ins T.hold dx (aW "names" (.ref nm) (aW "ashore" (.ref as) (aW "aboard" (.ref ab) (aW "places" (.ref pl) []))))) rfl
 have VD:upd (upd H6 nm (.dK [])) p (.ins T.hold dx (aW "names" (.ref nm) (aW "ashore" (.ref as) (aW "aboard" (.ref ab) (aW "places" (.ref pl) []))))) p=_:=ak
 generalize upd (upd H6 nm (.dK [])) p (.ins T.hold dx (aW "names" (.ref nm) (aW "ashore" (.ref as) (aW "aboard" (.ref ab) (aW "places" (.ref pl) [])))))=H8 at *
 clear M6 M7
 intro bt db ES hdb hne
 refine ⟨⟨bt,db,Z,ak,fun sp kn H9 pM hkn hsk k9 hb9 hs9 hk9=>⟨Z,?_⟩⟩⟩
 have s9:aI H8 H9:=fun b o e=>k9 b o (by rw [av (aE e ES),av (aE e hdb)];exact e) (aE e ES)
 have fr:∀{c:Addr},upd (upd H8 db (.own bt)) bt (.ins T.bot db []) c=none->H8 c=none:=fun {c} e=>by
  have e1:c≠bt:=fun z=>by rw [z,ak] at e;cases e
  have e2:c≠db:=fun z=>by rw [z,av hne,ak] at e;cases e
  rw [av e1,av e2] at e;exact e
 have adh:=fr pM
 have adi:=fr hkn
 have M9:=M8.same s9
 have M10:=M9.add (c:=(n,5,⟨#[]⟩)) hb9 rfl M8 ES (fun e he=>aE (M8.m e he).1 ES)
 have M11:=M10.add (c:=(n,8,⟨#[]⟩)) hs9 rfl M8 adh (fun e he=>by
  rcases dg.mp he with rfl|he
  . exact iZ hb9 hs9 (by intro z;cases z)
  . exact aE (M8.m e he).1 adh)
 have M12:=M11.add (c:=(n,9,⟨#[]⟩)) hk9 rfl M8 adi (fun e he=>by
  rcases dg.mp he with rfl|he
  . exact iZ hs9 hk9 (by intro z;cases z)
  rcases dg.mp he with rfl|he
  . exact iZ hb9 hk9 (by intro z;cases z)
  . exact aE (M8.m e he).1 adi)
 have hp9:=s9 _ _ VD
 refine ⟨_,Z,p,T.hold,dx,_,Z,hp9,X.cH,X.ES,by show 4<1000;decide,?_⟩
 have M13:=M12.wr (u:= .ins T.hold dx (aW "bottom" (.ref bt) (aW "names" (.ref nm) (aW "ashore" (.ref as) (aW "aboard" (.ref ab) (aW "places" (.ref pl) [])))))) rfl
 have MO:upd H9 p (.ins T.hold dx (aW "bottom" (.ref bt) (aW "names" (.ref nm) (aW "ashore" (.ref as) (aW "aboard" (.ref ab) (aW "places" (.ref pl) [])))))) p=_:=ak
 generalize upd H9 p (.ins T.hold dx (aW "bottom" (.ref bt) (aW "names" (.ref nm) (aW "ashore" (.ref as) (aW "aboard" (.ref ab) (aW "places" (.ref pl) []))))))=H13 at *
 clear M8 M9 M10 M11 M12
 refine ⟨(iV 0),fun cm CC=>?_⟩
 have M14:=(M13.new (o:= .lst []) (c:=(n,6,⟨#[]⟩)) CC rfl)
 refine ⟨_,Z,p,T.hold,dx,_,Z,by rw [av (aE MO CC)];exact MO,X.cH,X.CC,by show 5<1000;decide,?_⟩
 have M15:=M14.wr (u:= .ins T.hold dx (aW "common" (.ref cm) (aW "bottom" (.ref bt) (aW "names" (.ref nm) (aW "ashore" (.ref as) (aW "aboard" (.ref ab) (aW "places" (.ref pl) []))))))) rfl
 have adk:upd (upd H13 cm (.lst [])) p (.ins T.hold dx (aW "common" (.ref cm) (aW "bottom" (.ref bt) (aW "names" (.ref nm) (aW "ashore" (.ref as) (aW "aboard" (.ref ab) (aW "places" (.ref pl) []))))))) p=_:=ak
 generalize upd (upd H13 cm (.lst [])) p (.ins T.hold dx (aW "common" (.ref cm) (aW "bottom" (.ref bt) (aW "names" (.ref nm) (aW "ashore" (.ref as) (aW "aboard" (.ref ab) (aW "places" (.ref pl) [])))))))=H15 at *
 clear M13 M14
 refine ⟨(iV 0),fun pu LC=>?_⟩
 have M16:=(M15.new (o:= .lst []) (c:=(n,7,⟨#[]⟩)) LC rfl)
 refine ⟨_,Z,p,T.hold,dx,_,Z,by rw [av (aE adk LC)];exact adk,X.cH,X.LC,by show 6<1000;decide,?_⟩
 have M17:=M16.wr (u:= .ins T.hold dx (aW "purses" (.ref pu) (aW "common" (.ref cm) (aW "bottom" (.ref bt) (aW "names" (.ref nm) (aW "ashore" (.ref as) (aW "aboard" (.ref ab) (aW "places" (.ref pl) [])))))))) rfl
 have adm:upd (upd H15 pu (.lst [])) p (.ins T.hold dx (aW "purses" (.ref pu) (aW "common" (.ref cm) (aW "bottom" (.ref bt) (aW "names" (.ref nm) (aW "ashore" (.ref as) (aW "aboard" (.ref ab) (aW "places" (.ref pl) [])))))))) p=_:=ak
 generalize upd (upd H15 pu (.lst [])) p (.ins T.hold dx (aW "purses" (.ref pu) (aW "common" (.ref cm) (aW "bottom" (.ref bt) (aW "names" (.ref nm) (aW "ashore" (.ref as) (aW "aboard" (.ref ab) (aW "places" (.ref pl) []))))))))=H17 at *
 clear M15 M16
 have m:=M17.m
 have Be:∀{a:Addr} {o:HO} {c:uh} {ρ2:fK},(H17 a=some o/\ρ2 a=some c/\a≠p)->H17 a=some o/\bZ ρ2 p (n,0,⟨#[]⟩) a=some c:=fun h=>⟨h.1,by rw [cu h.2.2];exact h.2.1⟩
 have a1:=Be (m _ (.head _))
 have a2:=Be (m _ (.tail _ (.head _)))
 have a3:=Be (m _ (.tail _ (.tail _ (.head _))))
 have a4:=Be (m _ (.tail _ (.tail _ (.tail _ (.head _)))))
 have a5:=Be (m _ (.tail _ (.tail _ (.tail _ (.tail _ (.head _))))))
 have a6:=Be (m _ (.tail _ (.tail _ (.tail _ (.tail _ (.tail _ (.head _)))))))
 have a7:=Be (m _ (.tail _ (.tail _ (.tail _ (.tail _ (.tail _ (.tail _ (.head _))))))))
 have a8:=Be (m _ (.tail _ (.tail _ (.tail _ (.tail _ (.tail _ (.tail _ (.tail _ (.head _)))))))))
 have a9:=Be (m _ (.tail _ (.tail _ (.tail _ (.tail _ (.tail _ (.tail _ (.tail _ (.tail _ (.head _))))))))))
 refine q (bZ _ p (n,0,⟨#[]⟩)) ⟨p,dx,pl,ab,as,nm,bt,db,cm,pu,sp,kn,[]⟩ H17 rfl ⟨M17.g.color adm rfl,⟨adm,dD,a9.1,a9.2,a8.1,a8.2,⟨[],a7.1, .nil⟩,a7.2,a6.1,a6.2,a5.1,a5.2,a2.1,a2.2,a1.1,a1.2,a4.1,a4.2,⟨[],a3.1,(fun x hx=>absurd hx (by simp)),aS _,wm⟩,a3.2,Z,fun i x y ex=>by simp [hs0] at ex⟩,wf0⟩ (fun b o e hb=>?_)
 obtain ⟨x,y⟩:=M17.k b o e hb
 exact ⟨x,by rw [cu hb];exact y⟩
abbrev oJ:Stmt:=inClass (top 24) 27
abbrev lM:List Str:=["self","amounts"]
abbrev Fw:List Str:=lM.append ["lost","sums","name","amount","part","many"]
theorem fB:aJ Fw lM (ay oJ):=c5
theorem DJ {T:TC} (F:jb K T.hold "given_up" "Hold.given_up" oJ f fd) (X:Txt K T) (fV:mg "sum"=none) (jS:mg "zip"=none):Mn P w K mg base 1 T.hold "given_up" lM (Qn T):=by
 refine F.oA fB fun cdv A outer s H vs Q E hr h=>?_
 obtain ⟨⟨n,ρ,A,st,d,rs,rfl,h,wf,hd,cd,hle,DK,q⟩⟩:=h
 refine ⟨_,(@cF.h _ _ _ (aj (aN (i:=2) fB.nd (aH (IL rfl) (by rfl) fV yw (af (Hg (qv 1)) ao)))
  (aj (uK (i:=3) ["common","lost"] [none,some 2] fB.nd rfl rfl rfl (dN K (aY K (qv 0))) (fun _ _ _ _=>(aR (i:=0) (show List.Nodup (["common","lost"] :List Str) from by decide +kernel))) (fun _ _ _ _=>(aD jY (qv 1) (qv 0))) rfl (by rfl) (by rfl))
  (aj (yk (dR eL rfl (Dw (qv 1)) (jm K (n:=2) rfl (cW (aR (i:=4) fB.nd) (cW (aR (i:=5) fB.nd) jl))) (aj (aN (i:=6) fB.nd (bP (bU hr) (aY K (qv 0)) (qv 4)))
  (aj (aN (i:=7) fB.nd (aD jY (qv 5) (aY K (qv 6))))
  (au (uK (i:=3) ["old","own","many"] [none,none,some 7] fB.nd rfl rfl rfl (uJ K (by rfl) jS (af (qv 3) (af (aY K (qv 6)) ao))) (fun _ _ _ _=>(jm K (n:=2) rfl (cW (aR (i:=0) (show List.Nodup (["old","own","many"] :List Str) from by decide +kernel)) (cW (aR (i:=1) (show List.Nodup (["old","own","many"] :List Str) from by decide +kernel)) jl)))) (fun _ _ _ _=>(aD bV (qv 0) (aD jY (qv 2) (qv 1)))) rfl (by rfl) (by rfl)))))))
  (au (aO (qv 3))))))),?_⟩
 have hcl:st.bR.length<=100:=by rw [wf.ji];exact wf.tH
 have zl:Jm.Sz 1100 (bu rs):=by
  have:=Jm.Ub (n:=60) (ws:=rs.map (·.2)) (fun m hm=>by obtain ⟨r,hr,rfl⟩:=bN.mp hm;exact (DK r hr).1)
  exact this.mono (by rw [aF];omega)
 have zc:∀c∈st.bR,Jm.Sz 8000 c:=fun c hc=>Jm.Sz.pO (by have:=wf.tK c hc;have:=wf.i7;omega) (wf.tK c hc).2 wf.big
 refine ⟨_,Z,d,_,Z, .inl hd,fun v hv=>⟨v,d,_,rs.map (·.2),Z,ak, .inl (by rw [av (aE hd hv)];exact hd),by unfold h_;rw [fJ,fJ];rfl,?_⟩⟩
 have g1:=aA hv (lI v d)
 have hd1:=g1 _ _ hd
 have h1:=h.mono g1
 generalize upd H v (lI v d)=H1 at *
 refine ⟨_,Z,A.a,T.hold,A.dx,_,_,Z,h1.oa,X.cH,X.CC,Z,A.cm,Z,⟨_,aC.of h1.j6⟩,fun l0 je=>?_⟩
 refine iS (J:=uT K A.cm) (n:=(st.bR.map V.int).length) 0 (fun i o H'=>aI H1 H'/\o=((st.bR.take i).map fun c=>bu rs*c).map V.int) (by rw [aF];omega) ⟨aA je _,Z⟩ (fun i o H' hi _ hp=>⟨_,_,aC.of (hp.1 _ _ h1.j6),a_ hi⟩) (fun o H' _ hp=>⟨_,aC.of (hp.1 _ _ h1.j6),aS _⟩) ?_ ?_
 . rintro i y o H2 H3 hi ff ha ⟨g,e⟩ ⟨rfl,hy⟩
   obtain ⟨c,rfl,ec⟩:=gR (hy _ (aC.of (g _ _ h1.j6)))
   refine ⟨_,Z,_,Z,_,_,Z,Z,jj zl (zc c (bJ ec)),ha,g.cI je _,?_⟩
   subst e
   rw [take_snoc ec,bD,bD]
   rfl
 rintro o H2 ff ha ⟨g2,e⟩
 rw [aF,cA] at e
 subst e
 have VE:=g1.trans g2
 have hd2:=g2 _ _ hd1
 have h2:=h1.mono g2
 have hn0:H l0=none:=g1.free je
 refine ⟨d,_,hd2,fun ob=>⟨_,Z,d,ob,_,Z,ak,?_⟩⟩
 have al:=y9 rs
 refine uZ (n:=(h_ rs).length) (fun i σ H'=>aI (upd H2 d (.fE ob (.dK (h_ rs)))) H'/\∃l s4 s5 s6 s7,σ=[some (.ref A.a),some (.ref d),some (.int (bu rs)),some (.ref l),s4,s5,s6,s7]/\H l=none/\H' l=some (.lst (((rs.take i).foldl (jI st) (st.bR.map fun c=>bu rs*c)).map V.int))/\((rs.take i).foldl (jI st) (st.bR.map fun c=>bu rs*c)).length=st.bR.length)
  ⟨aI.refl _,l0,_,_,_,_,Z,hn0,fq hd2 ha (fun k z=>by cases z),by rw [List.take_zero,List.foldl_nil,aF]⟩ (fun i σ H' hi hp=>⟨hp.1 _ _ ak,hi⟩) (fun σ H' hp=>⟨hp.1 _ _ ak,aS _⟩) ?_ ?_
 . rintro i x σ H3 H4 hi ⟨g,l,s4,s5,s6,s7,rfl,EG,hl,hsl⟩ ⟨pp,kv,hpp,hkv,rfl,rfl⟩
   unfold h_ at hkv
   rw [bK] at hkv
   obtain ⟨r,er,rfl⟩:=lS.mp hkv
   have hrm:=bJ er
   obtain ⟨zr,p,iD,Fx⟩:=DK r hrm
   obtain ⟨ip,z8,VF⟩:=pC iD
   have ep:st.ah[ip]?=some p:=by rw [a_ z8,VF]
   have epg:cQ st r.1=p:=by rw [<-Fx];exact Qm wf.j9 ep
   have g4:=aA hpp (.tup [.str r.1, .int r.2])
   have gg:=g.trans g4
   have h2z:∀{b:Addr} {u:HO},H2 b=some u->(∀k,u ≠ .dK k)->upd H3 pp (.tup [.str r.1, .int r.2]) b=some u:=fun e k=>gg _ _ (fq hd2 e k)
   have nab:A.ab≠d:=(CB cd h.gW).symm
   obtain ⟨qq,eq,k1,k2,_,_⟩:=h2.find ep
   have hab:upd H3 pp (.tup [.str r.1, .int r.2]) A.ab=some (.dK (cZ st.ah A.qs)):=gg _ _ (by rw [av nab];exact h2.eY)
   have hv:=yd wf.j9 ep eq
   have hq1:=h2z k1 (fun k z=>by cases z)
   have hq2:=h2z k2 (fun k z=>by cases z)
   have MS:upd H3 pp (.tup [.str r.1, .int r.2]) pp=some (.tup [.str r.1, .int r.2]):=ak
   have Jq:=g4 _ _ hl
   have hno:∀{b:Addr},upd H3 pp (.tup [.str r.1, .int r.2]) b=none->H b=none:=fun {b} e=>by
    have e1:=oq hd2 (gg.free e)
    exact VE.free e1
   have VG:upd H3 pp (.tup [.str r.1, .int r.2]) A.a=some (.ins T.hold A.dx (nc A)):=h2z h2.oa (fun k z=>by cases z)
   show C4 K 2 _ _ _ (upd H3 pp (.tup [.str r.1, .int r.2])) _
   generalize upd H3 pp (.tup [.str r.1, .int r.2])=H4 at *
   refine ⟨pp,_,Z,cJ.of MS,Z,_,_,Z,_,_,Z,Z,?_⟩
   refine ⟨_,Z,A.a,T.hold,A.dx,_,_,Z,VG,X.cH,X.hab,Z,_,Z,A.ab,_,Z,by rw [<-Fx];exact hv▸cN.k (k:=Sum.inr p.nm) hab,?_⟩
   have zs:Jm.Sz 8000 p.sc:=Jm.Sz.pO (by have:=wf.u_ p iD;have:=wf.i7;omega) (wf.u_ p iD).2 wf.big
   refine ⟨_,Z,_,Z,qq.1,T.part,qq.2.1,_,_,Z,hq1,X.cP,X.P0,Z,_,_,Z,Z,jj zr zs,?_⟩
   have erl:p.row.length=st.bR.length:=by rw [wf.rows p iD,wf.ji]
   generalize eS:(rs.take i).foldl (jI st) (st.bR.map fun c=>bu rs*c)=S at *
   refine ⟨_,Z,_,Z,qq.1,T.part,qq.2.1,_,_,Z,hq1,X.cP,X.Uz,Z,_,_,_,_,_,_,Z, .lst (aC.of Jq), .lst (aC.of hq2),fun acc hacc=>?_⟩
   refine AD (K:=K) (n:=S.length) [0,1] (fun j out H5=>aI H4 H5/\out=(List.zipWith (fun old own=>old+(r.2*p.sc)*own) (S.take j) (p.row.take j)).map V.int) (by decide) (by omega) ⟨aA hacc _,Z⟩ (fun j out H5 hj _ hp=>⟨aC.of (hp.1 _ _ Jq),aC.of (hp.1 _ _ hq2),by rw [aF];exact hj,by rw [aF];omega⟩)
    (fun out H5 _ hp=>⟨aC.of (hp.1 _ _ Jq),aC.of (hp.1 _ _ hq2), .inl (by rw [aF];exact aS _)⟩) ?_ ?_
   . rintro j x out H5 H6 hj Hx ha2 ⟨g5,e5⟩ ⟨p2,x1,y1,hp2,rfl,rfl,e1,e2⟩
     obtain ⟨t,rfl,et⟩:=gR e1
     obtain ⟨c,rfl,ec⟩:=gR e2
     have g6:=aA hp2 (.tup [.int t, .int c])
     have zw:Jm.Sz 8000 c:=Jm.Sz.pO (wf.qR p iD c (bJ ec)).1 (wf.qR p iD c (bJ ec)).2 wf.big
     refine ⟨p2,_,Z,cJ.of ak,Z,_,Z,_,Z,_,Z,_,_,Z,Z,jj (zr.mul zs) zw,_,_,Z,Z,g6 _ _ ha2,(g5.trans g6).cI hacc _,?_⟩
     rw [oZ _ et ec,e5,bD]
     rfl
   rintro out H5 Hx ha2 ⟨g5,e5⟩
   rw [cA,hsl,<-erl,cA] at e5
   have eN:(rs.take (i+1)).foldl (jI st) (st.bR.map fun c=>bu rs*c)=List.zipWith (fun old own=>old+(r.2*p.sc)*own) S p.row:=by
    rw [take_snoc er,KZ,eS]
    show jI st S r=_
    unfold jI
    rw [epg]
   refine ⟨gg.trans g5,acc,_,_,_,_,Z,hno hacc,?_,?_⟩
   . rw [eN,ha2,e5]
   . rw [eN,qM];omega
 rintro σ H3 ⟨g,l,s4,s5,s6,s7,rfl,EG,hl,hsl⟩
 rw [al,cA] at hl
 refine ⟨g _ _ ak,_,Z,?_⟩
 have nl:l≠d:=fun e=>by rw [e,hd] at EG;cases EG
 exact q l _ (VE.trans (vg hd2 g)) EG (by rw [av nl];exact hl)
abbrev rC:Stmt:=inClass (top 24) 23
abbrev nU:List Str:=["self","name","amount"]
abbrev JK:List Str:=nU.append ["part"]
theorem yq:aJ JK nU (ay rC):=c5
theorem Hy {T:TC} (F:jb K T.hold "lessen" "Hold.lessen" rC f fd) (X:Txt K T):Mn P w K mg base 1 T.hold "lessen" nU (UO T):=by
 refine F.oA yq fun cdv A outer s H vs Q E hr h=>?_
 obtain ⟨⟨n,ρ,A,st,r,rfl,hh,⟨p,iD,Fx,hle⟩,wf',q⟩⟩:=h
 have h:=hh.h
 have nd:=hh.wf.j9
 refine ⟨_,(@cF.h _ _ _ (aj (aN (i:=3) yq.nd (bP (bU hr) (aY K (qv 0)) (qv 1)))
  (aj (uB K (qv 3) (qv 2) K9)
  (au (ie (aU i6 (aY K (qv 3)) ai (aX _)) (au (aas (aY K (qv 0)) (qv 1))) aT))))),?_⟩
 obtain ⟨ip,z8,VF⟩:=pC iD
 have ep:st.ah[ip]?=some p:=by rw [a_ z8,VF]
 obtain ⟨qq,eq,k1,k2,k3,k4⟩:=h.find ep
 have hv:=yd nd ep eq
 refine ⟨_,Z,A.a,T.hold,A.dx,_,_,Z,h.oa,X.cH,X.hab,Z,_,Z,A.ab,_,Z,by rw [<-Fx];exact hv▸cN.k (k:=Sum.inr p.nm) h.eY,?_⟩
 refine ⟨_,Z,qq.1,T.part,qq.2.1,_,_,Z,k1,X.cP,X.ET,Z,_,Z,_,_,Z,Z,qq.2.1,_,k1,by show 6<1000;decide,?_⟩
 have h1:=h.pU (p1:={ p with wo:=p.wo-r.2 }) hh.g ep eq rfl rfl nd
 have g1:=hh.g.wr (a:=qq.1) (o:= .ins T.part qq.2.1 (gm { p with wo:=p.wo-r.2 } qq.2.2)) rfl
 have F1:Fr n ρ H ρ (upd H qq.1 (.ins T.part qq.2.1 (gm { p with wo:=p.wo-r.2 } qq.2.2))):=Fr.write k3
 show abP _ _ _ _ _ (upd H qq.1 (.ins T.part qq.2.1 (gm { p with wo:=p.wo-r.2 } qq.2.2)))
 have QI:upd H qq.1 (.ins T.part qq.2.1 (gm { p with wo:=p.wo-r.2 } qq.2.2)) qq.1=some (.ins T.part qq.2.1 (gm { p with wo:=p.wo-r.2 } qq.2.2)):=ak
 generalize upd H qq.1 (.ins T.part qq.2.1 (gm { p with wo:=p.wo-r.2 } qq.2.2))=H1 at *
 have el:gi st r={ st with ah:=if p.wo-r.2=0 then st.ah.eraseIdx ip else st.ah.set ip { p with wo:=p.wo-r.2 } }:=by
  unfold gi
  rw [<-Fx,LR nd (fun x hx=>by have:=hh.wf.vc x hx;omega) ep]
 rw [el] at wf' q
 refine ⟨fun σ' H'=>Q .cg H',?_,fun _ _ z=>z⟩
 refine ⟨_,Z,qq.1,T.part,qq.2.1,_,_,Z,QI,X.cP,X.ET,Z,Z,_,Z,dm (fun c=>?_) (fun c=>?_)⟩
 . have c':p.wo-r.2=0:=V.int.inj (dU c)
   rw [aB c'] at wf' q
   have YW:((st.ah.set ip { p with wo:=p.wo-r.2 }).map (fun x:Pt=>x.nm)).Nodup:=by
    rw [wu,show ({ p with wo:=p.wo-r.2 }:Pt).nm=p.nm from rfl,sS (by rw [bK,ep];rfl)]
    exact nd
   have ep1:(st.ah.set ip { p with wo:=p.wo-r.2 })[ip]?=some { p with wo:=p.wo-r.2 }:=kC z8
   have dk:=LQ YW h1.ql ep1
   rw [List.eraseIdx_set_eq] at dk
   have hv1:=yd YW ep1 eq
   refine ⟨_,Z,A.a,T.hold,A.dx,_,_,Z,h1.oa,X.cH,X.hab,Z,_,Z,A.ab,_,Sum.inr r.1,Z,h1.eY,Z,?_,?_⟩
   . rw [<-Fx]
     show (ef (cZ (st.ah.set ip { p with wo:=p.wo-r.2 }) A.qs) (Sum.inr p.nm)).isSome=true
     rw [show ef (cZ (st.ah.set ip { p with wo:=p.wo-r.2 }) A.qs) (Sum.inr p.nm)=_ from hv1]
     rfl
   . show Q .cg (upd H1 A.ab (.dK (nN (cZ (st.ah.set ip { p with wo:=p.wo-r.2 }) A.qs) (Sum.inr r.1))))
     rw [<-Fx,show nN (cZ (st.ah.set ip { p with wo:=p.wo-r.2 }) A.qs) (Sum.inr p.nm)=_ from dk]
     have hi2:ip<A.qs.length:=by rw [h.ql];exact z8
     have h2:=h1.Ux g1 (st.ah.eraseIdx ip) (A.qs.eraseIdx ip) (by rw [List.length_eraseIdx_of_lt z8,List.length_eraseIdx_of_lt hi2,h.ql]) (fun j x y ex ey=>by
      rw [<-List.eraseIdx_set_eq (l:=st.ah) (i:=ip) (a:={ p with wo:=p.wo-r.2 })] at ex
      obtain ⟨k,a1,a2⟩:=LS ex ey
      exact h1.opt k x y a1 a2)
     exact q ρ _ _ ⟨g1.wr rfl,h2,wf'⟩ rfl (F1.trans (Fr.write h1.gW))
 . have c':¬ p.wo-r.2=0:=fun e=>c (bM (by rw [e]))
   rw [az c'] at wf' q
   exact q ρ A H1 ⟨g1,h1,wf'⟩ rfl F1
abbrev tR:Stmt:=inClass (top 24) 28
abbrev qg:List Str:=["self","kept","whole","added"]
abbrev MT:List Str:=qg.append ["scales","common","shared","part","scale"]
theorem jn:aJ MT qg (ay tR):=c5
theorem JL {T:TC} (F:jb K T.hold "blend" "Hold.blend" tR f fd) (X:Txt K T) (qh:Dn P w K mg base 2 "factor_of_all" lJ (UM K)) (tS:Mn P w K mg base 1 T.bot "grow" nR (UN T)) (jS:mg "zip"=none):Mn P w K mg base 3 T.hold "blend" qg (Qo T K):=by
 refine F.oA jn fun cdv A outer s H vs Q E hr h=>?_
 obtain ⟨⟨n,ρ,A,st,kept,whole,la,added,rfl,hh,hla,hal,k0,w0,kz,wz,haz,hpz,hsl,wf',q⟩⟩:=h
 refine ⟨_,(@cF.h _ _ _ (aj (yk (uK (i:=4) ["part","kept"] [none,some 1] jn.nd rfl rfl rfl (B9 (aY K (qv 0))) (fun _ _ _ _=>(aR (i:=0) (show List.Nodup (["part","kept"] :List Str) from by decide +kernel))) (fun _ _ _ _=>(aD jY (aY K (qv 0)) (qv 1))) rfl (by rfl) (by rfl)))
  (aj (uK (i:=5) ["top","more","kept"] [none,none,some 1] jn.nd rfl rfl rfl (uJ K (by rfl) jS (af (aY K (qv 0)) (af (qv 3) ao))) (fun _ _ _ _=>(jm K (n:=2) rfl (cW (aR (i:=0) (show List.Nodup (["top","more","kept"] :List Str) from by decide +kernel)) (cW (aR (i:=1) (show List.Nodup (["top","more","kept"] :List Str) from by decide +kernel)) jl)))) (fun _ _ _ _=>(aD bV (aD jY (qv 0) (qv 2)) (qv 1))) rfl (by rfl) (by rfl))
  (aj (aN (i:=6) jn.nd (bf qh hr (af (qv 2) (af (aD nE (qv 4) (qv 5)) ao))))
  (aj (yk (dR eL rfl (uJ K (by rfl) jS (af (Hg (aY K (qv 0))) (af (qv 4) ao))) (jm K (n:=2) rfl (cW (aR (i:=7) jn.nd) (cW (aR (i:=8) jn.nd) jl))) (au (fh K (qv 7) (aD gQ (qv 8) (qv 6))))))
  (aj (fh K (qv 0) (gC ["top","shared"] [none,some 6] rfl (dN K (qv 5)) (fun _ _ _ _=>(aR (i:=0) (show List.Nodup (["top","shared"] :List Str) from by decide +kernel))) (fun _ _ _ _=>(aD gQ (qv 0) (qv 1))) rfl (by rfl)))
  (aj (fh K (qv 0) (gC ["purse","whole","shared"] [none,some 2,some 6] rfl (dN K (aY K (qv 0))) (fun _ _ _ _=>(aR (i:=0) (show List.Nodup (["purse","whole","shared"] :List Str) from by decide +kernel))) (fun _ _ _ _=>(aD jY (qv 0) (aD gQ (qv 1) (qv 2)))) rfl (by rfl)))
  (au (cT (gO tS hr (aY K (qv 0)) (af (aD gQ (qv 2) (qv 6)) ao))))))))))),?_⟩
 have hpl:=hh.wf.xy
 have nd:=hh.wf.j9
 have hcl:st.bR.length<=100:=by rw [hh.wf.ji];exact hh.wf.tH
 have zsc:∀p∈st.ah,Jm.Sz 8000 p.sc:=fun p hp=>Jm.Sz.pO (by have:=hh.wf.u_ p hp;have:=hh.wf.i7;omega) (hh.wf.u_ p hp).2 hh.wf.big
 have zcm:∀c∈st.bR,Jm.Sz 8000 c:=fun c hc=>Jm.Sz.pO (by have:=hh.wf.tK c hc;have:=hh.wf.i7;omega) (hh.wf.tK c hc).2 hh.wf.big
 have h:=hh.h
 refine ⟨A.ab,_,h.eY,fun ob=>?_⟩
 refine ⟨_,Z,A.a,T.hold,A.dx,_,_,Z,fq h.eY h.oa (fun k z=>by cases z),X.cH,X.hab,Z,A.ab,ob,_,Z,ak,fun l1 hl1=>?_⟩
 have el:=yc h.ql
 refine iS (n:=st.ah.length) 0 (fun i out H1=>aI (upd H A.ab (.fE ob (.dK (cZ st.ah A.qs)))) H1/\out=((st.ah.take i).map fun p:Pt=>p.sc*kept).map V.int) (by omega) ⟨aA hl1 _,Z⟩ (fun i out H1 hi _ hp=>⟨hp.1 _ _ ak,by rw [el];exact hi⟩) (fun out H1 _ hp=>⟨hp.1 _ _ ak,by rw [el];exact aS _⟩) ?_ ?_
 . rintro i x out H1 H2 hi ff ha ⟨g,e⟩ ⟨rfl,kv,hkv,rfl⟩
   have ep:=a_ hi
   obtain ⟨qq,eq,k1,k2,_⟩:=h.find ep
   rw [yb ep eq] at hkv
   cases hkv
   have hq:=g _ _ (fq h.eY k1 (fun k z=>by cases z))
   refine ⟨_,Z,qq.1,T.part,qq.2.1,_,_,Z,hq,X.cP,X.P0,Z,_,Z,_,_,Z,Z,jj (zsc _ (uw hi)) kz,ha,g.cI hl1 _,?_⟩
   subst e
   rw [take_snoc ep,bD,bD]
   rfl
 rintro o1 H1 alb ha1 ⟨g1,e1⟩
 rw [cA] at e1
 have hz1:=g1 _ _ (ak (H:=H) (a:=A.ab) (o:= .fE ob (.dK (cZ st.ah A.qs))))
 have na1:l1≠A.ab:=fun e=>by rw [e,hz1] at ha1;cases ha1
 refine ⟨hz1,?_⟩
 have s2:aI H (upd H1 A.ab (.dK (cZ st.ah A.qs))):=vg h.eY g1
 have alc:H l1=none:=oq h.eY hl1
 have ha2:upd H1 A.ab (.dK (cZ st.ah A.qs)) l1=some (.lst ((iJ st kept).map V.int)):=by rw [av na1,ha1,e1];rfl
 generalize upd H1 A.ab (.dK (cZ st.ah A.qs))=H2 at *
 clear g1 hz1 ha1 e1
 have h2:=h.mono s2
 have Ss:=s2.seq hla
 refine ⟨_,Z,A.a,T.hold,A.dx,_,_,Z,h2.oa,X.cH,X.CC,Z,_,Z,_,_,_,_,_,_,Z, .lst (aC.of h2.j6), .lst Ss,fun l2 hl2=>?_⟩
 refine AD (K:=K) (n:=st.bR.length) [0,1] (fun i out H3=>aI H2 H3/\out=(List.zipWith (fun t m=>t*kept+m) (st.bR.take i) (added.take i)).map V.int) (by decide) (by omega) ⟨aA hl2 _,Z⟩ (fun i out H3 hi _ hp=>⟨aC.of (hp.1 _ _ h2.j6),hp.1.seq Ss,by rw [aF];exact hi,by rw [aF];omega⟩)
  (fun out H3 _ hp=>⟨aC.of (hp.1 _ _ h2.j6),hp.1.seq Ss, .inl (by rw [aF];exact aS _)⟩) ?_ ?_
 . rintro i x out H3 H4 hi ff ha ⟨g,e⟩ ⟨p,x1,y1,hp,rfl,rfl,e1,e2⟩
   obtain ⟨t,rfl,et⟩:=gR e1
   obtain ⟨c,rfl,ec⟩:=gR e2
   have g1:=aA hp (.tup [.int t, .int c])
   refine ⟨p,_,Z,cJ.of ak,Z,_,Z,_,Z,_,_,Z,Z,jj (zcm t (bJ et)) kz,_,Z,_,_,Z,Z,g1 _ _ ha,(g.trans g1).cI hl2 _,?_⟩
   rw [oZ _ et ec,e,bD]
   rfl
 rintro o2 H3 Hx MU ⟨g3,e3⟩
 rw [cA,<-hal,cA] at e3
 have ec3:o2=(fW st kept added).map V.int:=e3
 subst ec3
 have s3:=s2.trans g3
 have h3:=h.mono s3
 have X0:=g3 _ _ ha2
 have ald:H l2=none:=s2.free hl2
 have n12:l1≠l2:=fun e=>by rw [e,hl2] at ha2;cases ha2
 clear e3 h2 Ss g3 ha2 s2
 have lsc:(iJ st kept).length=st.ah.length:=by unfold iJ;rw [aF]
 have lcm:(fW st kept added).length=st.bR.length:=by unfold fW;rw [qM,hal,Nat.min_self]
 refine ⟨_,Z,_,Z,_,Z,l1,l2,_,_,Z,Z,X0,MU,by rw [aF,aF,lsc,lcm];exact eX (Nat.add_le_add hpl hcl) (by rw [fj];decide),fun p3 hp3=>?_⟩
 rw [<-bD]
 have g4:=aA hp3 (.lst ((iJ st kept++fW st kept added).map V.int))
 refine ⟨⟨whole,p3,_,Z,aC.of ak,by omega,?_,?_⟩⟩
 . intro t ht
   rcases eV.mp ht with z|z
   . unfold iJ at z
     obtain ⟨p,hp,rfl⟩:=bN.mp z
     exact nL (by have:=hh.wf.u_ p hp;omega) (by omega)
   . obtain ⟨c,hc,m,hm,rfl⟩:=yW (show t∈List.zipWith _ st.bR added from z)
     have a1:=nL (hh.wf.tK c hc).1 (by omega:0<=kept)
     have a2:=(haz m hm).1
     omega
 have s4:=s3.trans g4
 have h4:=h.mono s4
 have G4:=hh.g.same s4
 have F4:Fr n ρ H ρ (upd H3 p3 (.lst ((iJ st kept++fW st kept added).map V.int))):=Fr.of_same s4
 have b1:=g4 _ _ X0
 have b2:=g4 _ _ MU
 generalize upd H3 p3 (.lst ((iJ st kept++fW st kept added).map V.int))=H4 at *
 clear X0 MU s3 h3 g4
 obtain ⟨sd,YX⟩:∃sd,sd=c_ st kept whole added:=⟨_,rfl⟩
 rw [show pV whole (iJ st kept++fW st kept added)=sd from YX.symm]
 have sp:0<sd:=by rw [YX];exact AQ _ _ w0
 have Vc:sd∣whole:=by rw [YX];exact (AN _ _).1
 have sz:Jm.Sz 60 sd:=wz.dvd w0 (by omega) Vc
 have wq:0<whole / sd:=Int.ediv_pos_of_pos_of_dvd w0 (by omega) Vc
 have wqz:Jm.Sz 60 (whole / sd):=wz.ediv sp
 have YY:∀{i:Int},BV i sd:=fun {i}=>uW sp (sz.mono (by decide))
 refine ⟨A.ab,_,h4.eY,fun VH=>?_⟩
 refine ⟨_,Z,A.a,T.hold,A.dx,_,_,Z,fq h4.eY h4.oa (fun k z=>by cases z),X.cH,X.hab,Z,A.ab,_,Z, .inr ⟨VH,ak⟩,fun v hv=>?_⟩
 have nva:v≠A.ab:=fun e=>by rw [e,ak] at hv;cases hv
 have hv4:H4 v=none:=oq h4.eY hv
 have g5:=aA hv4 (lI v A.ab)
 have hv5:upd H4 v (lI v A.ab) v=some (lI v A.ab):=ak
 rw [kG (cy nva)]
 have h5:=h4.mono g5
 have G5:=G4.same g5
 have F5:=F4.trans (Fr.of_same (ρ:=ρ) g5)
 have s5:=s4.trans g5
 have c1:=g5 _ _ b1
 have c2:=g5 _ _ b2
 generalize upd H4 v (lI v A.ab)=H5 at *
 clear h4 G4 F4 s4 b1 b2 g5
 refine ⟨_,Z,_,_,_,_,_,_,Z, .vals (fq h5.eY hv5 (fun k z=>by cases z)) ak, .lst (aC.of (fq h5.eY c1 (fun k z=>by cases z))),?_⟩
 have exl:((cZ st.ah A.qs).map fun p=>p.2).length=st.ah.length:=by rw [aF];exact el
 have eyl:((iJ st kept).map V.int).length=st.ah.length:=by rw [aF];exact lsc
 refine uZ (n:=st.ah.length) (fun i σ H'=>(∃s7 s8,σ=[some (.ref A.a),some (.int kept),some (.int whole),some (.ref la),some (.ref l1),some (.ref l2),some (.int sd),s7,s8])/\∃H6,H'=upd H6 A.ab (.fE VH (.dK (cZ st.ah A.qs)))/\Gh ρ H6/\Fr n ρ H ρ H6/\aZ T n ρ A H6 { st with ah:=(st.ah.take i).map (fun p=>{ p with sc:=p.sc*kept / sd })++st.ah.drop i }/\H6 l1=some (.lst ((iJ st kept).map V.int))/\H6 l2=some (.lst ((fW st kept added).map V.int))/\(∀b,H6 b=none->H b=none))
  ⟨⟨_,_,Z⟩,H5,Z,G5,F5,h5,c1,c2,fun b e=>s5.free e⟩ ?_ ?_ ?_ ?_
 . rintro i σ H' hi ⟨_,H6,rfl,G6,F6,h6,d1,d2,fr⟩
   have e6:cZ ({ st with ah:=(st.ah.take i).map (fun p:Pt=>{ p with sc:=p.sc*kept / sd })++st.ah.drop i }:HS).ah A.qs=cZ st.ah A.qs:=o6 (qS (fun p:Pt=>{ p with sc:=p.sc*kept / sd }) (fun p:Pt=>p.nm) (fun _=>rfl) st.ah i)
   have rD:=h6.eY
   rw [e6] at rD
   exact ⟨ak,aC.of (fq rD d1 (fun k z=>by cases z)),by rw [exl];exact hi,by rw [eyl];exact hi⟩
 . rintro σ H' ⟨_,H6,rfl,G6,F6,h6,d1,d2,fr⟩
   have e6:cZ ({ st with ah:=(st.ah.take st.ah.length).map (fun p:Pt=>{ p with sc:=p.sc*kept / sd })++st.ah.drop st.ah.length }:HS).ah A.qs=cZ st.ah A.qs:=o6 (qS (fun p:Pt=>{ p with sc:=p.sc*kept / sd }) (fun p:Pt=>p.nm) (fun _=>rfl) st.ah _)
   have rD:=h6.eY
   rw [e6] at rD
   exact ⟨ak,aC.of (fq rD d1 (fun k z=>by cases z)), .inl (by rw [exl];exact aS _)⟩
 . rintro i x σ H' EV hi ⟨⟨s7,s8,rfl⟩,H6,rfl,G6,F6,h6,d1,d2,fr⟩ ⟨pp,x1,y1,hpp,rfl,rfl,ex,ey⟩
   have ep:=a_ hi
   have ep6:=LM (fun p:Pt=>{ p with sc:=p.sc*kept / sd }) ep
   obtain ⟨qq,eq,k1,k2,k3,k4⟩:=h6.find ep6
   have nm6:=qS (fun p:Pt=>{ p with sc:=p.sc*kept / sd }) (fun p:Pt=>p.nm) (fun _=>rfl) st.ah i
   have e6:cZ ({ st with ah:=(st.ah.take i).map (fun p:Pt=>{ p with sc:=p.sc*kept / sd })++st.ah.drop i }:HS).ah A.qs=cZ st.ah A.qs:=o6 nm6
   have rD:=h6.eY
   rw [e6] at rD
   rw [bK,yb ep eq] at ex
   cases ex
   obtain ⟨sc,rfl,esc⟩:=gR ey
   have aib:sc=(st.ah[i]).sc*kept:=by
    unfold iJ at esc
    rw [bK,ep] at esc
    exact (iG esc).symm
   subst aib
   have npa:pp≠A.ab:=fun e=>by rw [e,ak] at hpp;cases hpp
   have aic:H6 pp=none:=oq rD hpp
   have g7:=aA aic (.tup [.ref qq.1, .int ((st.ah[i]).sc*kept)])
   rw [kG (cy npa)]
   have MS:upd H6 pp (.tup [.ref qq.1, .int ((st.ah[i]).sc*kept)]) pp=some (.tup [.ref qq.1, .int ((st.ah[i]).sc*kept)]):=ak
   have h7:=h6.mono g7
   have G7:=G6.same g7
   have F7:=F6.trans (Fr.of_same (ρ:=ρ) g7)
   have X3:=g7 _ _ rD
   have f1:=g7 _ _ d1
   have f2:=g7 _ _ d2
   have Ue:∀b,upd H6 pp (.tup [.ref qq.1, .int ((st.ah[i]).sc*kept)]) b=none->H b=none:=fun b e=>fr b (g7.free e)
   have QI:=g7 _ _ k1
   generalize upd H6 pp (.tup [.ref qq.1, .int ((st.ah[i]).sc*kept)])=H7 at *
   refine ⟨pp,_,Z,cJ.of (fq X3 MS (fun k z=>by cases z)),Z,_,_,Z,_,_,Z,Z,?_⟩
   refine ⟨_,Z,_,Z,_,_,Z,Z,YY,_,Z,qq.1,T.part,qq.2.1,_,Z,fq X3 QI (fun k z=>by cases z),X.cP,X.P0,by show 6<1000;decide,?_⟩
   have nd7:(((st.ah.take i).map (fun p:Pt=>{ p with sc:=p.sc*kept / sd })++st.ah.drop i).map (fun p:Pt=>p.nm)).Nodup:=by rw [nm6];exact nd
   have h8:=h7.pU (p1:={ st.ah[i] with sc:=(st.ah[i]).sc*kept / sd }) G7 ep6 eq rfl rfl nd7
   rw [show ({ st with ah:=(st.ah.take i).map (fun p:Pt=>{ p with sc:=p.sc*kept / sd })++st.ah.drop i }:HS).ah.set i { st.ah[i] with sc:=(st.ah[i]).sc*kept / sd }=_ from LN (fun p:Pt=>{ p with sc:=p.sc*kept / sd }) ep] at h8
   have nqa:A.ab≠qq.1:=(iZ QI X3 (by intro z;cases z)).symm
   have nq1:l1≠qq.1:=iZ f1 QI (by intro z;cases z)
   have nq2:l2≠qq.1:=iZ f2 QI (by intro z;cases z)
   refine ⟨⟨_,_,Z⟩,_,kG nqa,G7.wr rfl,F7.trans (Fr.write k3),h8,by rw [av nq1];exact f1,by rw [av nq2];exact f2,fun b e=>Ue b ?_⟩
   by_cases z:b=qq.1
   . rw [z,ak] at e;cases e
   . rw [av z] at e;exact e
 rintro σ H' ⟨⟨s7,s8,rfl⟩,H6,rfl,G6,F6,h6,d1,d2,fr⟩
 have e6:cZ ({ st with ah:=(st.ah.take st.ah.length).map (fun p:Pt=>{ p with sc:=p.sc*kept / sd })++st.ah.drop st.ah.length }:HS).ah A.qs=cZ st.ah A.qs:=o6 (qS (fun p:Pt=>{ p with sc:=p.sc*kept / sd }) (fun p:Pt=>p.nm) (fun _=>rfl) st.ah _)
 have rD:=h6.eY
 rw [e6] at rD
 refine ⟨ak,?_⟩
 rw [uF,yY rD]
 rw [show ({ st with ah:=(st.ah.take st.ah.length).map (fun p:Pt=>{ p with sc:=p.sc*kept / sd })++st.ah.drop st.ah.length }:HS)={ st with ah:=st.ah.map fun p:Pt=>{ p with sc:=p.sc*kept / sd } } from by rw [cA,D7,rO]] at h6
 clear e6 rD h5 G5 F5 s5 c1 c2 hv5
 refine ⟨_,Z,l2,Z,⟨_,aC.of d2⟩,fun l3 hl3=>?_⟩
 refine iS (J:=uT K l2) (n:=((fW st kept added).map V.int).length) 0 (fun i o H'=>aI H6 H'/\o=(((fW st kept added).take i).map (· / sd)).map V.int) (by rw [aF];omega) ⟨aA hl3 _,Z⟩ (fun i o H' hi _ hp=>⟨_,_,aC.of (hp.1 _ _ d2),a_ hi⟩) (fun o H' _ hp=>⟨_,aC.of (hp.1 _ _ d2),aS _⟩) ?_ ?_
 . rintro i y o Ha Hb hi ff ha ⟨g,e⟩ ⟨rfl,hy⟩
   obtain ⟨c,rfl,ec⟩:=gR (hy _ (aC.of (g _ _ d2)))
   refine ⟨_,Z,_,Z,_,_,Z,Z,YY,ha,g.cI hl3 _,?_⟩
   subst e
   rw [take_snoc ec,bD,bD]
   rfl
 rintro o3 H8 ale MV ⟨g8,e8⟩
 rw [aF,cA] at e8
 subst e8
 have h8:=h6.mono g8
 have G8:=G6.same g8
 have F8:=F6.trans (Fr.of_same (ρ:=ρ) g8)
 have fr8:∀b,H8 b=none->H b=none:=fun b e=>fr b (g8.free e)
 have c3:ρ l3=none:=G6.none hl3
 have n3:H l3=none:=fr l3 hl3
 refine ⟨_,Z,A.a,T.hold,A.dx,_,Z,h8.oa,X.cH,X.CC,by show 7<1000;decide,?_⟩
 obtain ⟨h9,G9⟩:=IU (t:=6) h8 G8 c3 MV rfl
 have F9:Fr n ρ H (bZ ρ l3 (n,6,⟨#[]⟩)) H8:=F8.qT n3
 have z6:=h9.ach G9 l3 _ MV dD
 have G10:=G9.wr (a:=A.a) (o:= .ins T.hold A.dx (nc { A with cm:=l3 })) rfl
 have F10:=F9.trans (Fr.write (o:= .ins T.hold A.dx (nc { A with cm:=l3 })) h9.ca)
 show xo _ _ _ _ (upd H8 A.a (.ins T.hold A.dx (nc { A with cm:=l3 })))
 have aid:∀b,upd H8 A.a (.ins T.hold A.dx (nc { A with cm:=l3 })) b=none->H b=none:=fun b e=>fr8 b (by
  by_cases z:b=A.a
  . rw [z,ak] at e;cases e
  . rw [av z] at e;exact e)
 generalize upd H8 A.a (.ins T.hold A.dx (nc { A with cm:=l3 }))=Lq at *
 clear h6 G6 F6 h8 G8 F8 h9 G9 F9 MV g8 fr8 fr d1 d2
 refine ⟨_,Z,A.a,T.hold,A.dx,_,_,Z,z6.oa,X.cH,X.LC,Z,A.pu,Z,⟨_,aC.of z6.qK⟩,fun l4 Jq=>?_⟩
 have alf:st.dj.length<=100:=by rw [hh.wf.yS];exact hh.wf.tH
 refine iS (J:=uT K A.pu) (n:=(st.dj.map V.int).length) 0 (fun i o H'=>aI Lq H'/\o=((st.dj.take i).map (·*(whole / sd))).map V.int) (by rw [aF];omega) ⟨aA Jq _,Z⟩ (fun i o H' hi _ hp=>⟨_,_,aC.of (hp.1 _ _ z6.qK),a_ hi⟩) (fun o H' _ hp=>⟨_,aC.of (hp.1 _ _ z6.qK),aS _⟩) ?_ ?_
 . rintro i y o Ha Hb hi ff ha ⟨g,e⟩ ⟨rfl,hy⟩
   obtain ⟨c,rfl,ec⟩:=gR (hy _ (aC.of (g _ _ z6.qK)))
   refine ⟨_,Z,_,Z,_,Z,_,_,Z,Z,YY,_,_,Z,Z,jj (hpz c (bJ ec)) wqz,ha,g.cI Jq _,?_⟩
   subst e
   rw [take_snoc ec,bD,bD]
   rfl
 rintro o4 H11 alg ads ⟨g11,e11⟩
 rw [aF,cA] at e11
 subst e11
 have h11:=z6.mono g11
 have G11:=G10.same g11
 have F11:=F10.trans (Fr.of_same (ρ:=bZ ρ l3 (n,6,⟨#[]⟩)) g11)
 have c4:bZ ρ l3 (n,6,⟨#[]⟩) l4=none:=G10.none Jq
 have n4:H l4=none:=aid l4 Jq
 refine ⟨_,Z,A.a,T.hold,A.dx,_,Z,h11.oa,X.cH,X.LC,by show 7<1000;decide,?_⟩
 obtain ⟨h12,G12⟩:=IU (t:=7) h11 G11 c4 ads rfl
 have F12:Fr n ρ H (bZ (bZ ρ l3 (n,6,⟨#[]⟩)) l4 (n,7,⟨#[]⟩)) H11:=F11.qT n4
 have Jr:=h12.aci G12 l4 _ ads dD
 have G13:=G12.wr (a:=A.a) (o:= .ins T.hold A.dx (nc { { A with cm:=l3 } with pu:=l4 })) rfl
 have F13:=F12.trans (Fr.write (o:= .ins T.hold A.dx (nc { { A with cm:=l3 } with pu:=l4 })) h12.ca)
 rw [show aW "purses" (V.ref l4) (nc { A with cm:=l3 })=nc { { A with cm:=l3 } with pu:=l4 } from rfl]
 generalize upd H11 A.a (.ins T.hold A.dx (nc { { A with cm:=l3 } with pu:=l4 }))=H13 at *
 refine ⟨_,Z,A.a,T.hold,A.dx,_,_,Z,Jr.oa,X.cH,X.ES,Z,A.bt,A.db,_,Z,Jr.oY,Z,_,Z,_,Z,_,_,Z,Z,YY,?_⟩
 refine ⟨⟨n,_,{ { A with cm:=l3 } with pu:=l4 },{ st with ah:=st.ah.map (fun p:Pt=>{ p with sc:=p.sc*kept / sd }),bR:=(fW st kept added).map (· / sd),dj:=st.dj.map (·*(whole / sd)) },whole / sd,Z,G13,Jr,by show st.stp.length<=1000;omega,hh.wf.big.mono (by decide),wqz.mono (by decide),fun ρ' A' H' a1 a2 a3 a4=>?_⟩⟩
 have eb:cV st kept whole added=fU { st with ah:=st.ah.map (fun p:Pt=>{ p with sc:=p.sc*kept / sd }),bR:=(fW st kept added).map (· / sd),dj:=st.dj.map (·*(whole / sd)) } (whole / sd):=by
  unfold cV
  rw [YX]
 rw [eb] at wf' q
 exact q ρ' A' H' ⟨a1,a2,wf'⟩ a3 (F13.trans a4)
abbrev vL:Stmt:=inClass (top 24) 3
abbrev sf:List Str:=["self","rows"]
abbrev OB:List Str:=sf.append ["amounts","name","amount","whole","lost"]
theorem ig:aJ OB sf (ay vL):=c5
theorem MW {T:TC} (F:jb K T.hold "cast" "Hold.cast" vL f fd) (X:Txt K T) (vM:Dn P w K mg base 1 "amounts_of" qa (UL K)) (vN:Dn P w K mg base 2 "check_loss" p_ YI) (iM:Mn P w K mg base 1 T.hold "part_of" iL (Dh T)) (ko:Mn P w K mg base 1 T.hold "whole" l_ (GV T)) (vO:Mn P w K mg base 3 T.hold "blend" qg (Qo T K)) (qi:Mn P w K mg base 1 T.hold "given_up" lM (Qn T)) (tT:Mn P w K mg base 1 T.hold "lessen" nU (UO T)) (fV:mg "sum"=none):Mn P w K mg base 4 T.hold "cast" sf (UP T K):=by
 refine F.oA ig fun cdv A outer s H vs Q E hr h=>?_
 obtain ⟨⟨n,ρ,A,st,l,us,rs,rfl,hh,hl,hR,ok,q⟩⟩:=h
 have wf:=hh.wf
 have nd:=ok.nd
 refine ⟨_,(@cF.h _ _ _ (aj (aN (i:=2) ig.nd (bf vM hr (af (qv 1) ao)))
  (aj (yk (dR eL rfl (Dw (qv 2)) (jm K (n:=2) rfl (cW (aR (i:=3) ig.nd) (cW (aR (i:=4) ig.nd) jl))) (au (cT (bf vN hr (af (aY K (gO iM hr (qv 0) (af (qv 3) ao))) (af (qv 4) ao)))))))
  (aj (aN (i:=5) ig.nd (yi ko hr (qv 0)))
  (aj (aN (i:=6) ig.nd (aH (IL rfl) (by rfl) fV yw (af (Hg (qv 2)) ao)))
  (aj (cC (aU BN (qv 6) (qv 5) (aX _)) (au jK) aT)
  (aj (cT (gO vO hr (qv 0) (af (aD iQ (qv 5) (qv 6)) (af (qv 5) (af (gO qi hr (qv 0) (af (qv 2) ao)) ao)))))
  (au (yk (dR eL rfl (Dw (qv 2)) (jm K (n:=2) rfl (cW (aR (i:=3) ig.nd) (cW (aR (i:=4) ig.nd) jl))) (au (cT (gO tT hr (qv 0) (af (qv 3) (af (qv 4) ao))))))))))))))),?_⟩
 refine ⟨_,Z,⟨⟨l,us,rs,Z,hl,hR,nd,ok.ne,ok.len,fun d H1 g1 hdn hd1=>?_⟩⟩⟩
 have gG:=hh.mono g1
 have F1:Fr n ρ H ρ H1:=Fr.of_same g1
 have cd:ρ d=none:=hh.g.none hdn
 have al:=y9 rs
 refine ⟨d,_,hd1,fun ob=>⟨_,Z,d,ob,_,Z,ak,?_⟩⟩
 refine uZ (n:=(h_ rs).length) (fun i σ H'=>aI (upd H1 d (.fE ob (.dK (h_ rs)))) H'/\∃s3 s4 s5 s6,σ=[some (.ref A.a),some (.ref l),some (.ref d),s3,s4,s5,s6])
  ⟨aI.refl _,_,_,_,_,Z⟩ (fun i σ H' hi hp=>⟨hp.1 _ _ ak,hi⟩) (fun σ H' hp=>⟨hp.1 _ _ ak,aS _⟩) ?_ ?_
 . rintro i x σ H3 H4 hi ⟨g,s3,s4,s5,s6,rfl⟩ ⟨pp,kv,hpp,hkv,rfl,rfl⟩
   unfold h_ at hkv
   rw [bK] at hkv
   obtain ⟨r,er,rfl⟩:=lS.mp hkv
   have hrm:=bJ er
   obtain ⟨r1,zr,p,iD,Fx,hle⟩:=ok.row r hrm
   obtain ⟨ip,z8,VF⟩:=pC iD
   have ep:st.ah[ip]?=some p:=by rw [a_ z8,VF]
   have g4:=aA hpp (.tup [.str r.1, .int r.2])
   have gg:=g.trans g4
   have hf:HH T n ρ A (upd H1 d (.fE ob (.dK (h_ rs)))) st:=gG.KH cd hd1 rfl rfl
   have h4:=hf.mono gg
   have MS:upd H3 pp (.tup [.str r.1, .int r.2]) pp=some (.tup [.str r.1, .int r.2]):=ak
   show C4 K 2 _ _ _ (upd H3 pp (.tup [.str r.1, .int r.2])) _
   generalize upd H3 pp (.tup [.str r.1, .int r.2])=H4 at *
   obtain ⟨qq,eq,k1,k2,_,_⟩:=h4.h.find ep
   refine ⟨pp,_,Z,cJ.of MS,Z,_,_,Z,_,_,Z,Z,?_⟩
   refine ⟨_,Z,A.a,A.dx,_,Z,h4.h.oa,Z,_,Z,⟨⟨n,ρ,A,st,ip,p,qq,by rw [<-Fx];rfl,h4.h,wf.j9,ep,eq,?_⟩⟩⟩
   refine ⟨qq.1,T.part,qq.2.1,_,_,Z,k1,X.cP,X.ET,Z,_,Z,⟨⟨p.wo,r.2,Z,r1,hle,?_⟩⟩⟩
   exact ⟨gg,_,_,_,_,Z⟩
 rintro σ H2 ⟨g2,s3,s4,s5,s6,rfl⟩
 refine ⟨g2 _ _ ak,?_⟩
 have gB:=vg hd1 g2
 have kU:=gG.mono gB
 have F2:Fr n ρ H ρ (upd H2 d (.dK (h_ rs))):=F1.trans (Fr.of_same gB)
 have hd2:upd H2 d (.dK (h_ rs)) d=some (.dK (h_ rs)):=ak
 generalize upd H2 d (.dK (h_ rs))=H2' at *
 refine ⟨_,Z,A.a,A.dx,_,Z,kU.h.oa,Z,⟨⟨n,ρ,A,st,Z,kU.h,wf.xy,fun H3 g3=>?_⟩⟩⟩
 have kW:=kU.mono g3
 have QJ:=g3 _ _ hd2
 have F3:=F2.trans (Fr.of_same (ρ:=ρ) g3)
 refine ⟨_,Z,d,_,Z, .inl QJ,fun v hv=>⟨v,d,_,rs.map (·.2),Z,ak, .inl (by rw [av (aE QJ hv)];exact QJ),by unfold h_;rw [fJ,fJ];rfl,?_⟩⟩
 have g4:=aA hv (lI v d)
 have nJ:=kW.mono g4
 have hd4:=g4 _ _ QJ
 have F4:=F3.trans (Fr.of_same (ρ:=ρ) g4)
 generalize upd H3 v (lI v d)=H4 at *
 have bo:=ok.blend wf
 refine ⟨_,Z,_,Z,_,_,Z,Z,_,Z,dm (fun c=>absurd (dU c) (by have:=ok.lost;show ¬ bH st<=bu rs;omega)) fun _=>?_⟩
 refine ⟨_,Z,A.a,A.dx,_,Z,nJ.h.oa,Z,_,Z,_,Z,_,_,Z,Z,_,Z,_,Z,A.a,A.dx,_,Z,nJ.h.oa,Z,_,Z,⟨⟨n,ρ,A,st,d,rs,Z,nJ.h,wf,hd4,cd,ok.len,fun r hr=>⟨(ok.row r hr).2.1,by obtain ⟨p,hp,e,_⟩:=(ok.row r hr).2.2;exact ⟨p,hp,e⟩⟩,fun l5 H5 g5 hn5 hl5=>?_⟩⟩⟩
 have wU:=nJ.mono g5
 have hd5:=g5 _ _ hd4
 have F5:=F4.trans (Fr.of_same (ρ:=ρ) g5)
 have zk:Jm.Sz 60 (bH st-bu rs):=bo.big.of_le (by have:=bo.k;have:=bo.l;omega)
 have zG:∀m∈fZ st rs,0<=m/\Jm.Sz 8900 m:=fun m hm=>by
  have h1:=bo.add m hm
  have h2:=wf.i7
  have zl:Jm.Sz 60 (bu rs):=bo.big.of_le (by have:=bo.k;have:=bo.l;omega)
  exact ⟨h1.1,Jm.Sz.pO (by have:=nL bo.l (show 0<=st.prod by omega);omega) h1.2 ((zl.mul bo.prod).mono (by decide))⟩
 refine ⟨⟨n,ρ,A,st,bH st-bu rs,bH st,l5,fZ st rs,Z,wU,aC.of hl5,bo.len,bo.k,by have:=bo.k;have:=bo.l;omega,zk,bo.big,zG,ok.dj,ok.stp,Xo wf bo,fun ρ6 A6 H6 CQ e6 f6=>?_⟩⟩
 obtain ⟨hd6,cd6⟩:=f6 d _ hd5 (fun t x=>by rw [cd];intro z;cases z)
 rw [cd] at cd6
 have F6:=F5.trans f6
 refine ⟨d,_,hd6,fun VH=>⟨_,Z,d,VH,_,Z,ak,?_⟩⟩
 generalize eB:cV st (bH st-bu rs) (bH st) (fZ st rs)=QK at *
 have aie:Due QK rs:=by rw [<-eB];exact UX ok.due
 have afc:kI st rs=rs.foldl gi QK:=by unfold kI;rw [eB]
 refine uZ (n:=(h_ rs).length) (fun i σ H'=>∃ρ' A',HH T n ρ' A' H' ((rs.take i).foldl gi QK)/\A'.a=A.a/\H' d=some (.fE VH (.dK (h_ rs)))/\ρ' d=none/\Fr n ρ H ρ' H'/\Due ((rs.take i).foldl gi QK) (rs.drop i)/\∃s3 s4 s5 s6,σ=[some (.ref A.a),some (.ref l),some (.ref d),s3,s4,s5,s6])
  ⟨ρ6,A6,CQ.KH cd6 hd6 rfl rfl,e6,ak,cd6,F6.new hdn,aie,_,_,_,_,Z⟩ (fun i σ H' hi hp=>by obtain ⟨_,_,_,_,e,_⟩:=hp;exact ⟨e,hi⟩) (fun σ H' hp=>by obtain ⟨_,_,_,_,e,_⟩:=hp;exact ⟨e,aS _⟩) ?_ ?_
 . rintro i x σ H7 H8 hi ⟨ρ7,A7,QL,e7,YZ,Y0,F7,due,s3,s4,s5,s6,rfl⟩ ⟨pp,kv,hpp,hkv,rfl,rfl⟩
   unfold h_ at hkv
   rw [bK] at hkv
   obtain ⟨r,er,rfl⟩:=lS.mp hkv
   have hir:i<rs.length:=by rw [<-al];exact hi
   have edr:rs.drop i=r::rs.drop (i+1):=by
    rw [QZ hir]
    rw [a_ hir] at er
    rw [iG er]
   rw [edr] at due
   have g4:=aA hpp (.tup [.str r.1, .int r.2])
   have hh8:=QL.mono g4
   have hd8:=g4 _ _ YZ
   have F8:=F7.trans (Fr.of_same (ρ:=ρ7) g4)
   have MS:upd H7 pp (.tup [.str r.1, .int r.2]) pp=some (.tup [.str r.1, .int r.2]):=ak
   show C4 K 2 _ _ _ (upd H7 pp (.tup [.str r.1, .int r.2])) _
   generalize upd H7 pp (.tup [.str r.1, .int r.2])=H8 at *
   refine ⟨pp,_,Z,cJ.of MS,Z,_,_,Z,_,_,Z,Z,?_⟩
   have eN:(rs.take (i+1)).foldl gi QK=gi ((rs.take i).foldl gi QK) r:=by rw [take_snoc er,KZ];rfl
   have ndr:((r::rs.drop (i+1)).map (fun r:Row=>r.1)).Nodup:=by rw [<-edr,List.map_drop];exact nd.sublist (List.drop_sublist _ _)
   refine ⟨_,Z,A.a,A7.dx,_,Z,by rw [<-e7];exact hh8.h.oa,Z,_,Z,_,Z,⟨⟨n,ρ7,A7,_,r,by rw [e7];rfl,hh8,due r cO,acC QL.wf due,fun ρ9 A9 H9 hh9 e9 f9=>?_⟩⟩⟩
   obtain ⟨hd9,cd9⟩:=f9 d _ hd8 (fun t x=>by rw [Y0];intro z;cases z)
   rw [Y0] at cd9
   rw [<-eN] at hh9
   exact ⟨ρ9,A9,hh9,e9.trans e7,hd9,cd9,F8.trans f9,by rw [eN];exact Xq QL.wf due ndr,_,_,_,_,Z⟩
 rintro σ H7 ⟨ρ7,A7,QL,e7,YZ,Y0,F7,due,s3,s4,s5,s6,rfl⟩
 rw [al,cA,<-afc] at QL
 exact ⟨YZ,q ρ7 A7 _ (QL.KH Y0 YZ rfl rfl) e7 (F7.new hdn)⟩
abbrev rE:Stmt:=inClass (top 4) 2
abbrev nV:List Str:=["self","top"]
abbrev JM:List Str:=nV.append ["rest","step","shared"]
theorem iN:aJ JM nV (ay rE):=c5
theorem Hz {T:TC} (F:jb K T.bot "over" "Bottom.over" rE f fd) (X:Txt K T) (iy:Dn P w K mg base 1 "common_factor" jD WV):Mn P w K mg base 2 T.bot "over" nV (Qh T):=by
 refine F.oA iN fun cdv A outer s H vs Q E hr h=>?_
 obtain ⟨⟨bt,db,sp,kn,stp,prod,top,rfl,hb,hs,ep,h2,hz,q⟩⟩:=h
 refine ⟨_,(@cF.h _ _ _ (aj (aN (i:=2) iN.nd (aY K (qv 0)))
  (aj (dR eL rfl (dN K (aY K (qv 0))) (aR (i:=3) iN.nd) (aj (aN (i:=4) iN.nd (bf iy hr (af (qv 3) (af (aD jx (qv 1) (qv 3)) ao))))
  (au (ie (aU iH (qv 4) ai (aX _)) (aj (aN (i:=1) iN.nd (aD gQ (qv 1) (qv 4)))
  (au (aN (i:=2) iN.nd (aD gQ (qv 2) (qv 4))))) aT))))
  (au (aO (jC (af (qv 1) (af (qv 2) ao)))))))),?_⟩
 have p1:1<=prod:=by rw [ep];exact LP h2
 refine ⟨_,Z,bt,T.bot,db,_,_,Z,hb,X.cB,X.YC,Z,?_⟩
 refine ⟨_,Z,bt,T.bot,db,_,_,Z,hb,X.cB,X.bst,Z,sp,Z,⟨_,aC.of hs⟩,?_⟩
 refine lT (K:=K) (xs:=stp.map V.int) (fun i σ H'=>H'=H/\∃(t r d:Int) (s3 s4:Option V),σ=[some (.ref bt),some (.int t),some (.int r),s3,s4]/\t*prod=top*r/\r=d*(stp.drop i).foldl (·*·) 1/\0<d/\Jm.cf t d=1)
  ⟨Z,top,prod,1,none,none,Z,Z,by rw [List.drop_zero,Int.one_mul];exact ep,by decide,by unfold Jm.cf;rw [Int.gcd_one];rfl⟩ (fun i σ H' _ hp=>by rw [hp.1];exact aC.of hs) ?_ ?_
 . rintro i x σ H' hx ⟨rfl,t,r,d,s3,s4,rfl,e1,e2,d0,c⟩
   obtain ⟨st,rfl,es⟩:=gR hx
   have hm:=bJ es
   have s2:=h2 st hm
   have hi:=(d7.mp es).1
   have hdr:stp.drop i=st::stp.drop (i+1):=by
    rw [QZ hi]
    congr 1
    rw [a_ hi] at es
    exact iG es
   rw [hdr,GW] at e2
   have r0:0<=t % st:=nK _ (by omega)
   refine ⟨_,Z,_,Z,_,Z,_,_,Z,Z,(by show 0<st;omega),st,t % st,Z,by omega,r0,?_⟩
   rw [Jm.GI t st (by omega)]
   obtain ⟨o1,o2⟩:=UH d0 (by omega:0<st) c
   have gp:0<Jm.cf t st:=Jm.EA t st (.inr (by omega))
   have gz:Jm.Sz 9000 (Jm.cf t st):=((hz.of_le (by have:=YF h2 hm;rw [<-ep] at this;omega)).dvd (by omega:0<st) (by omega) (Jm.pN t st)).mono (by decide)
   obtain ⟨u,hu⟩:=Jm.rW t st
   obtain ⟨v,hv⟩:=Jm.pN t st
   have e3:t / Jm.cf t st*prod=top*(r / Jm.cf t st):=by
    have a1:t / Jm.cf t st=u:=by rw [Ye (by omega) hu]
    have a2:r=Jm.cf t st*(d*v*(stp.drop (i+1)).foldl (·*·) 1):=by
     rw [e2]
     conv=>lhs;rw [hv]
     rw [jO (Jm.cf t st),Int.mul_left_comm,jO d]
    have a3:r / Jm.cf t st=d*v*(stp.drop (i+1)).foldl (·*·) 1:=by rw [Ye (by omega) a2]
    rw [a1,a3]
    have CG:Jm.cf t st*(u*prod)=Jm.cf t st*(top*(d*v*(stp.drop (i+1)).foldl (·*·) 1)):=by
     rw [<-jO,<-hu,e1]
     conv=>lhs;rw [a2]
     rw [Int.mul_left_comm]
    exact Int.eq_of_mul_eq_mul_left (by omega) CG
   have e4:r / Jm.cf t st=d*(st / Jm.cf t st)*(stp.drop (i+1)).foldl (·*·) 1:=by
    have a4:st / Jm.cf t st=v:=by rw [Ye (by omega) hv]
    have a2:r=Jm.cf t st*(d*v*(stp.drop (i+1)).foldl (·*·) 1):=by
     rw [e2]
     conv=>lhs;rw [hv]
     rw [jO (Jm.cf t st),Int.mul_left_comm,jO d]
    rw [a4,Ye (by omega) a2]
   refine ⟨fun σ' H2=>H2=H'/\σ'=[some (.ref bt),some (.int (t / Jm.cf t st)),some (.int (r / Jm.cf t st)),some (.int st),some (.int (Jm.cf t st))],?_,?_⟩
   . refine ⟨_,Z,_,_,Z,Z,_,Z,dm (fun c=>?_) (fun c=>?_)⟩
     . exact ⟨_,Z,_,Z,_,_,Z,Z,uW gp gz,_,Z,_,Z,_,_,Z,Z,uW gp gz,Z,Z⟩
     . have c':¬ 1<Jm.cf t st:=uR (pD.mpr c)
       have g1:Jm.cf t st=1:=by omega
       refine ⟨Z,?_⟩
       rw [g1,BJ,BJ]
       rfl
   rintro σ' H2 ⟨rfl,rfl⟩
   exact ⟨Z,_,_,_,_,_,Z,e3,e4,o2,o1⟩
 rintro σ H' ⟨rfl,t,r,d,s3,s4,rfl,e1,e2,d0,c⟩
 rw [List.drop_of_length_le (by rw [aF];exact aS _),List.foldl_nil,Int.mul_one] at e2
 subst e2
 refine ⟨_,Z,_,Z,(iV 2),fun p hp=>?_⟩
 refine q p _ (aA hp _) ?_
 rw [ak]
 obtain ⟨a1,a2⟩:=Jm.T_ d0 c
 have:Jm.fr top prod=Jm.fr t r:=Jm.Yr (by omega) d0 e1.symm
 unfold pP
 rw [this,a1,a2]
abbrev qj:Stmt:=inClass (top 4) 3
abbrev mV:List Str:=["self","top"]
abbrev HE:List Str:=mV
theorem Fy:aJ HE mV (ay qj):=c5
theorem Fz {T:TC} (F:jb K T.bot "share" "Bottom.share" qj f fd) (X:Txt K T) (tU:Mn P w K mg base 2 T.bot "over" nV (Qh T)):Mn P w K mg base 3 T.bot "share" mV (LK T):=by
 refine F.oA Fy fun cdv A outer s H vs Q E hr h=>?_
 obtain ⟨⟨bt,db,sp,kn,stp,prod,top,kvs,rfl,hb,hs,ep,h2,hz,hk,kat,kl,knd,q⟩⟩:=h
 refine ⟨_,(@cF.h _ _ _ (aj (ie (yh (A0 (bU hr) (qv 1) (aY K (qv 0)))) (au (o8 (bU hr) (aY K (qv 0)) (qv 1) (gO tU hr (qv 0) (af (qv 1) ao)) rfl)) aT)
  (au (aO (bP (bU hr) (aY K (qv 0)) (qv 1)))))),?_⟩
 refine ⟨fun σ' H'=>σ'=[some (.ref bt),some (.int top)]/\(∀b o,H b=some o->b≠kn->H' b=some o)/\∃kvs' r,H' kn=some (.dK kvs')/\LA H' kvs' prod/\kvs'.length<=kvs.length+1/\(kvs'.map (·.1)).Nodup/\ef kvs' (Sum.inl top)=some (.ref r)/\H' r=some (pP (Jm.fr top prod)),?_,?_⟩
 . refine ⟨_,Z,_,Z,bt,T.bot,db,_,_,Z,hb,X.cB,X.UA,Z,kn,_,Z,cN.k (k:=Sum.inl top) hk,_,Z,?_⟩
   cases e:ef kvs (Sum.inl top) with
   | some v=>
     refine cM ⟨Z,fun b o e _=>e,kvs,?_⟩
     obtain ⟨t,r,e2,hr2⟩:=kat _ (Xj e)
     cases e2
     exact ⟨r,hk,kat,Nat.le_succ _,knd,e,hr2⟩
   | none=>
     refine jX ?_
     refine ⟨_,Z,bt,db,_,Z,hb,Z,_,Z,⟨⟨bt,db,sp,kn,stp,prod,top,Z,hb,hs,ep,h2,hz,fun r H1 g1 hr1=>?_⟩⟩⟩
     have sl:kvs.length<sizeLine:=by rw [fj];omega
     refine ⟨_,Z,bt,T.bot,db,_,_,Z,g1 _ _ hb,X.cB,X.UA,Z,_,Z,kn,_,Z,s_.k (k:=Sum.inl top) (g1 _ _ hk) sl,Z,fun b o e hb=>by rw [av hb];exact g1 _ _ e,_,r,ak,?_,?_,ZD _ knd e,by rw [WI,aB rfl],by rw [av (iZ hr1 (g1 _ _ hk) (by intro z;cases z))];exact hr1⟩
     . rw [oj _ e]
       intro p hp
       rcases eV.mp hp with z|z
       . obtain ⟨t,r',e2,hr2⟩:=kat p z
         exact ⟨t,r',e2,by rw [av (iZ (g1 _ _ hr2) (g1 _ _ hk) (by intro z;cases z))];exact g1 _ _ hr2⟩
       . rw [ee.mp z]
         exact ⟨top,r,Z,by rw [av (iZ hr1 (g1 _ _ hk) (by intro z;cases z))];exact hr1⟩
     . rw [oj _ e,cY]
       exact aS _
 rintro σ' H' ⟨rfl,k1,kvs',r,e1,e2,e3,e4,e5,e6⟩
 exact ⟨_,Z,bt,T.bot,db,_,_,Z,k1 _ _ hb (iZ hb hk (by intro z;cases z)),X.cB,X.UA,Z,_,Z,kn,_,Z,e5▸cN.k (k:=Sum.inl top) e1,q r H' kvs' k1 e1 e2 e3 e4 e6⟩
abbrev rF:Stmt:=inClass (top 24) 12
abbrev nW:List Str:=["self","part"]
abbrev JN:List Str:=nW.append ["tops"]
theorem yr:aJ JN nW (ay rF):=c5
theorem HF {T:TC} (F:jb K T.hold "shares" "Hold.shares" rF f fd) (X:Txt K T) (iM:Mn P w K mg base 1 T.hold "part_of" iL (Dh T)) (rG:Mn P w K mg base 1 T.hold "tops_of" mU (Qe T)) (rH:Mn P w K mg base 3 T.bot "share" mV (LK T)) (jS:mg "zip"=none):Mn P w K mg base 4 T.hold "shares" nW (IQ T):=by
 refine F.oA yr fun cdv A outer s H vs Q E hr h=>?_
 obtain ⟨⟨n,ρ,A,st,ip,pt,rfl,hh,ep,hkn,q⟩⟩:=h
 obtain ⟨qq,eq,k1,k2,k3,k4⟩:=hh.h.find ep
 have iD:=bJ ep
 refine ⟨_,(@cF.h _ _ _ (aj (aN (i:=2) yr.nd (gO rG hr (qv 0) (af (gO iM hr (qv 0) (af (qv 1) ao)) ao)))
  (au (aO (Mu (Dv ["owner","top","self"] [none,none,some 0] rfl (uJ K (by rfl) jS (af (aY K (qv 0)) (af (qv 2) ao))) (fun _ _ _ _=>(jm K (n:=2) rfl (cW (aR (i:=0) (show List.Nodup (["owner","top","self"] :List Str) from by decide +kernel)) (cW (aR (i:=1) (show List.Nodup (["owner","top","self"] :List Str) from by decide +kernel)) jl)))) (fun _ _ _ _=>(jC (af (qv 0) (af (gO rH hr (aY K (qv 2)) (af (qv 1) ao)) ao)))) (fun _ _ _ _=>(aU iH (qv 1) ai (aX _))) rfl (by rfl))))))),?_⟩
 refine ⟨_,Z,A.a,A.dx,_,Z,hh.h.oa,Z,_,Z,A.a,A.dx,_,Z,hh.h.oa,Z,_,Z,⟨⟨n,ρ,A,st,ip,pt,qq,Z,hh.h,hh.wf.j9,ep,eq,?_⟩⟩⟩
 refine ⟨⟨n,ρ,A,st,ip,pt,qq,Z,hh.h,hh.wf,ep,eq,fun l H1 g1 hl hl1=>?_⟩⟩
 have gG:=hh.mono g1
 have cl:ρ l=none:=hh.g.none hl
 have tl:(b_ st pt).length=st.own.length:=by
  unfold b_
  rw [qM,hh.wf.rows pt iD,hh.wf.ji,Nat.min_self]
 have ff:=hh.wf.tH
 refine ⟨A.pl,_,gG.h.jc,fun ob=>?_⟩
 have hl2:upd H1 A.pl (.fE ob (.dK (fP 0 st.own))) l=some (.lst ((b_ st pt).map V.int)):=fq gG.h.jc hl1 (fun k z=>by cases z)
 refine ⟨_,Z,A.a,T.hold,A.dx,_,_,Z,fq gG.h.jc gG.h.oa (fun k z=>by cases z),X.cH,X.hpl,Z,_,Z,_,_,_,_,_,_,Z, .keys ak, .lst (aC.of hl2),fun acc hacc=>?_⟩
 have wV:H1 acc=none:=oq gG.h.jc hacc
 have ca:ρ acc=none:=gG.g.none wV
 have QM:acc≠A.pl:=fun e=>by rw [e,ak] at hacc;cases hacc
 have nal:acc≠l:=fun e=>by rw [e,hl1] at wV;cases wV
 refine ZT (K:=K) (n:=st.own.length) [0,1] (fun i out Hc=>∃H5,Hc=upd H5 A.pl (.fE ob (.dK (fP 0 st.own)))/\Gh ρ H5/\Fr n ρ H ρ H5/\aZ T n ρ A H5 { st with kn:=st.kn+i }/\H5 l=some (.lst ((b_ st pt).map V.int))/\jh H5 out (((List.zip st.own (b_ st pt)).take i).filterMap fun x=>if 0<x.2 then some (x.1,Jm.fr x.2 st.prod) else none))
  (by decide) (by omega) ⟨upd H1 acc (.lst []),kG (cy QM),gG.g.alloc wV,(Fr.of_same (ρ:=ρ) g1).trans (Fr.of_same (aA wV _)),gG.h.mono (aA wV _),by rw [av (cy nal)];exact hl1, .nil⟩ ?_ ?_ ?_ ?_
 . rintro i out Hc hi ha ⟨H5,rfl,G5,F5,h5,l5,S5⟩
   exact ⟨ak,aC.of (fq h5.jc l5 (fun k z=>by cases z)),by rw [aF,uz];exact hi,by rw [aF,tl];exact hi⟩
 . rintro out Hc ha ⟨H5,rfl,G5,F5,h5,l5,S5⟩
   exact ⟨ak,aC.of (fq h5.jc l5 (fun k z=>by cases z)), .inr (by rw [aF,tl];exact aS _)⟩
 . rintro i x out Hc H2 hi Hx ha ⟨H5,rfl,G5,F5,h5,l5,S5⟩ ⟨pp,x1,y1,hpp,rfl,rfl,e1,e2⟩
   obtain ⟨t,rfl,et⟩:=gR e2
   rw [Dg,bK] at e1
   obtain ⟨o,eo,rfl⟩:=lS.mp e1
   have npl:pp≠A.pl:=fun e=>by rw [e,ak] at hpp;cases hpp
   have aif:H5 pp=none:=oq h5.jc hpp
   have ez:(List.zip st.own (b_ st pt))[i]?=some (o,t):=by rw [List.getElem?_zip_eq_some];exact ⟨eo,et⟩
   have g6:=aA aif (.tup [.str o, .int t])
   have e6:upd (upd H5 A.pl (.fE ob (.dK (fP 0 st.own)))) pp (.tup [.str o, .int t])=upd (upd H5 pp (.tup [.str o, .int t])) A.pl (.fE ob (.dK (fP 0 st.own))):=kG (cy npl)
   rw [e6]
   have G6:=G5.same g6
   have F6:=F5.trans (Fr.of_same (ρ:=ρ) g6)
   have h6:=h5.mono g6
   have l6:=g6 _ _ l5
   have S6:=S5.mono g6.tups
   have t6:upd H5 pp (.tup [.str o, .int t]) pp=some (.tup [.str o, .int t]):=ak
   have CS:upd H5 pp (.tup [.str o, .int t]) acc=some (.lst out):=by
    rw [av QM] at ha
    exact g6 _ _ ha
   generalize upd H5 pp (.tup [.str o, .int t])=H6 at *
   have fz:∀{b:Addr} {u:HO},H6 b=some u->(∀k,u ≠ .dK k)->upd H6 A.pl (.fE ob (.dK (fP 0 st.own))) b=some u:=fun e k=>fq h6.jc e k
   refine ⟨pp,_,Z,cJ.of (fz t6 (fun k z=>by cases z)),Z,_,Z,_,_,Z,Z,_,Z,?_⟩
   refine dm (fun c=>?_) (fun c=>?_)
   . have c':0<t:=dU c
     obtain ⟨kvs,j1,j2,j3,j4⟩:=h6.okn
     have Y3:A.kn≠A.pl:=ER h6.j8 h6.jL (by intro z;cases z)
     refine ⟨_,Z,_,Z,A.a,T.hold,A.dx,_,_,Z,fz h6.oa (fun k z=>by cases z),X.cH,X.ES,Z,A.bt,A.db,_,Z,fz h6.oY (fun k z=>by cases z),Z,_,Z,
      ⟨⟨A.bt,A.db,A.sp,A.kn,st.stp,st.prod,t,kvs,Z,fz h6.oY (fun k z=>by cases z),fz h6.um (fun k z=>by cases z),hh.wf.wI,hh.wf.AE,hh.wf.big,by rw [av Y3];exact j1,(fun p hp=>let ⟨t,r,e,w⟩:=j2 p hp;⟨t,r,e,fz w (fun k z=>by cases z)⟩),KS j3 (by show st.kn+i<_;omega),j4,fun r H7 kvs' b1 b2 b3 b4 b5 b6=>?_⟩⟩⟩
     have Y4:H7 A.pl=some (.fE ob (.dK (fP 0 st.own))):=b1 _ _ ak (cy Y3)
     refine ⟨(iV 2),fun tt Y5=>?_⟩
     have ntp:tt≠A.pl:=fun e=>by rw [e,Y4] at Y5;cases Y5
     have k8:∀b u,H6 b=some u->b≠A.kn->upd H7 A.pl (.dK (fP 0 st.own)) b=some u:=fun b u e hb=>by
      by_cases z:b=A.pl
      . rw [z] at e ⊢
        rw [show H6 A.pl=some (.dK (fP 0 st.own)) from h6.jc] at e
        cases e;exact ak
      . rw [av z];exact b1 _ _ (by rw [av z];exact e) hb
     have h8:=h6.Xk (m:=st.kn+i+1) k8 (by rw [av Y3];exact b2) (fun p hp=>let ⟨t,r,e,w⟩:=b3 p hp;⟨t,r,e,kY (.inr ⟨_,Y4,Z⟩) _ _ w⟩) (eX b4 (Nat.succ_le_succ j3)) b5
     have G8:Gh ρ (upd H7 A.pl (.dK (fP 0 st.own))):=fun b cc e=>by
      by_cases z:b=A.pl
      . rw [z];exact ⟨_,ak,Z⟩
      by_cases z2:b=A.kn
      . rw [z2,av Y3];exact ⟨_,b2,Z⟩
      obtain ⟨u,a1,a2⟩:=G6 b cc e
      exact ⟨u,k8 b u a1 z2,a2⟩
     have F8:Fr n ρ H6 ρ (upd H7 A.pl (.dK (fP 0 st.own))):=fun b u e k=>⟨k8 b u e (fun z=>k 9 ⟨#[]⟩ (by rw [z];exact h6.j8)),Z⟩
     have tp8:∀b xs,H6 b=some (.tup xs)->upd H7 A.pl (.dK (fP 0 st.own)) b=some (.tup xs):=fun b xs e=>k8 b _ e (iZ e j1 (by intro z;cases z))
     have aih:upd H7 A.pl (.dK (fP 0 st.own)) tt=none:=by rw [av ntp];exact Y5
     have back:H7=upd (upd H7 A.pl (.dK (fP 0 st.own))) A.pl (.fE ob (.dK (fP 0 st.own))):=by rw [uF,yY Y4]
     have hr8:upd H7 A.pl (.dK (fP 0 st.own)) r=some (pP (Jm.fr t st.prod)):=kY (.inr ⟨_,Y4,Z⟩) _ _ b6
     have l8:=k8 _ _ l6 (fun z=>by rw [z,j1] at l6;cases l6)
     have MV:=k8 _ _ CS (fun z=>by rw [z,j1] at CS;cases CS)
     have S8:=S6.mono tp8
     have F08:=F6.trans F8
     rw [back] at Y5 ⊢
     generalize upd H7 A.pl (.dK (fP 0 st.own))=H8 at *
     have g9:=aA aih (.tup [.str o, .ref r])
     rw [kG (cy ntp)]
     refine ⟨by rw [av QM];exact g9 _ _ MV,_,kG (cy QM),(G8.same g9).wr rfl,(F08.trans (Fr.of_same (ρ:=ρ) g9)).new (g1.free wV),?_,?_,?_⟩
     . exact (h8.mono g9).same (UE ca (g9 _ _ MV) rfl)
     . rw [av (cy nal)];exact g9 _ _ l8
     . rw [take_snoc ez,List.filterMap_append,Al]
       simp only [c',rS,List.filterMap_nil]
       exact ((S8.mono g9.tups).snoc ak (g9 _ _ hr8)).mono (kY (.inr ⟨_,g9 _ _ MV,Z⟩))
   . have c':¬ 0<t:=uR (pD.mpr c)
     refine ⟨by rw [av QM];exact CS,H6,Z,G6,F6,?_,l6,?_⟩
     . obtain ⟨kvs,j1,j2,j3,j4⟩:=h6.okn
       exact h6.Xk (m:=st.kn+i+1) (fun b u e _=>e) j1 j2 (Nat.le_succ_of_le j3) j4
     . rw [take_snoc ez,List.filterMap_append,Al]
       simp only [c',lF,List.filterMap_nil,rO]
       exact S6
 . rintro out Hc Hx ha ⟨H5,rfl,G5,F5,h5,l5,S5⟩
   rw [Aj (by rw [List.length_zip,tl];omega)] at S5
   refine ⟨ak,?_⟩
   rw [uF,yY (show H5 A.pl=some (.dK (fP 0 st.own)) from h5.jc)]
   rw [av QM] at ha
   obtain ⟨kvs,j1,j2,j3,j4⟩:=h5.okn
   have h9:=h5.Xk (m:=st.kn+100) (fun b u e _=>e) j1 j2 (eX j3 (by show st.kn+st.own.length<=st.kn+100;omega)) j4
   exact q acc out ρ A H5 ⟨G5,h9,aeL hh.wf hkn⟩ rfl F5 (g1.free wV) ha ca S5
abbrev rJ:Stmt:=inClass (top 24) 17
abbrev nX:List Str:=["self"]
abbrev JO:List Str:=nX
theorem HG:aJ JO nX (ay rJ):=c5
theorem HJ {T:TC} (F:jb K T.hold "landed" "Hold.landed" rJ f fd) (X:Txt K T) (c8:mg "list"=none):Mn P w K mg base 1 T.hold "landed" nX (LL T):=by
 refine F.oA HG fun cdv A outer s H vs Q E hr h=>?_
 obtain ⟨⟨n,ρ,A,st,rfl,hh,q⟩⟩:=h
 obtain ⟨ws,hw,hA⟩:=hh.h.wH
 have hl:=hA.length
 have hal:=hh.wf.AF
 refine ⟨_,(@cF.h _ _ _ (au (aO (gC ["name","owner","worth","shares"] [none,none,none,none] rfl (dN K (aY K (qv 0))) (fun _ _ _ _=>(jm K (n:=4) rfl (cW (aR (i:=0) (show List.Nodup (["name","owner","worth","shares"] :List Str) from by decide +kernel)) (cW (aR (i:=1) (show List.Nodup (["name","owner","worth","shares"] :List Str) from by decide +kernel)) (cW (aR (i:=2) (show List.Nodup (["name","owner","worth","shares"] :List Str) from by decide +kernel)) (cW (aR (i:=3) (show List.Nodup (["name","owner","worth","shares"] :List Str) from by decide +kernel)) jl)))))) (fun _ _ _ _=>(jC (af (qv 0) (af (qv 1) (af (qv 2) (af (lZ (kR K) (by rfl) c8 uP (af (qv 3) ao)) ao)))))) rfl (by rfl))))),?_⟩
 refine ⟨_,Z,A.a,T.hold,A.dx,_,_,Z,hh.h.oa,X.cH,X.has,Z,A.as,Z,⟨_,aC.of hw⟩,fun acc hacc=>?_⟩
 refine AD (K:=K) (n:=ws.length) [0,1,2,3] (fun i out H1=>aI H H1/\kH acc ρ H1 out (st.jZ.take i)) (by decide) (by omega) ⟨aA hacc _, .nil⟩ (fun i out H1 hi _ hp=>⟨ws,_,aC.of (hp.1 _ _ hw),a_ hi⟩) (fun out H1 _ hp=>⟨ws,aC.of (hp.1 _ _ hw),aS _⟩) ?_ ?_
 . rintro i x out H1 H2 hi ff ha ⟨g,hL⟩ ⟨rfl,hy⟩
   have ex:=hy ws (aC.of (g _ _ hw))
   obtain ⟨r,l,y,ss,rfl,ey,a1,a2,a3,a4⟩:=hA.get ex
   refine ⟨r,_,Z,cJ.of (g _ _ a1),Z,_,Z,_,Z,_,Z,_,Z,l,ss,Z, .inl (aC.of (g _ _ a2)),fun l2 hl2=>⟨(iV 4),fun t ht=>?_⟩⟩
   have g2:=aA hl2 (.lst ss)
   have g3:=aA ht (.tup [.str y.nm, .str y.ow, .int y.wo, .ref l2])
   have hl3:upd H2 l2 (.lst ss) l2=some (.lst ss):=ak
   have c2:ρ l2=none:=hh.g.none (g.free hl2)
   refine ⟨(g2.trans g3) _ _ ha,((g.trans g2).trans g3).cI hacc _,?_⟩
   rw [take_snoc ey]
   have n1:l2≠acc:=fun e=>by rw [e,ha] at hl2;cases hl2
   exact ((hL.mono (g2.trans g3)).snoc (x:=y) ak (g3 _ _ hl3) c2 n1 (a4.mono ((g.trans g2).trans g3).tups)).upd ((g2.trans g3) _ _ ha)
 rintro out H1 ff ha ⟨g,hL⟩
 rw [hl,cA] at hL
 exact q acc out H1 g hacc ha hL.to
abbrev tV:Stmt:=inClass (top 24) 9
abbrev qm:List Str:=["self","part","name","amount","weight"]
abbrev MX:List Str:=qm.append ["source"]
theorem z9:aJ MX qm (ay tV):=c5
theorem HK {T:TC} {e:Ec} (F:jb K T.hold "sever" "Hold.sever" tV f fd) (X:Txt K T) (lN:Mx P w K mg base 1 T.hold "part_of" iL (AZ T e)) (jT:Mx P w K mg base 3 T.hold "check_new" iW (xE T e)) (kZ:Mn P w K mg base 1 T.hold "stow" nI (LI T)) (yp:Cn P w K mg base 1 "Part" T.part ["self","name","owner","worth","weight","scale","row"] (GU T K)) (vP:kg K e.sV) (k_:mg "BadNumber"=some (.ref e.sV)) (zJ:kg K e.AY) (pA:mg "TooMuch"=some (.ref e.AY)):Mx P w K mg base 4 T.hold "sever" qm (MA T e):=by
 refine F.Vr z9 fun cdv A outer s H vs Q E hr h=>?_
 obtain ⟨⟨n,ρ,A,st,x,y,a,we,rfl,MY,hy0,hl1,hl2,dq⟩⟩:=h
 refine ⟨_,(@cF.h _ _ _ (aj (aN (i:=5) z9.nd (Hh lN hr (qv 0) (af (qv 1) ao)))
  (aj (cT (Hh jT hr (qv 0) (af (qv 2) ao)))
  (aj (cC (dZ (bW.pt (gK (aU wD (qv 3) ai (aX _)) (f_ (aU wD (qv 4) ai (aX _)))))) (au (vB vP (by rfl) k_)) aT)
  (aj (cC (dZ (bW.pt (gK (aU BN (qv 3) (aY K (qv 5)) (aX _)) (f_ (aU iH (qv 4) (aY K (qv 5)) (aX _)))))) (au (vB zJ (by rfl) pA)) aT)
  (aj (uB K (qv 5) (qv 3) K9)
  (aj (uB K (qv 5) (qv 4) K9)
  (au (cT (gO kZ hr (qv 0) (af (YT yp hr (af (qv 2) (af (aY K (qv 5)) (af (qv 3) (af (qv 4) (af (aY K (qv 5)) (af (aY K (qv 5)) ao))))))) ao))))))))))),?_⟩
 refine ⟨_,Z,A.a,A.dx,_,Z,MY.h.oa,Z,_,Z,⟨⟨n,ρ,A,st,x,Z,MY.h,MY.wf.j9,fun hn=>dq.no 3 ?_,fun i p qq e1 e2 e3=>?_⟩⟩⟩
 . unfold gM;rw [az (fun z=>?_)]
   obtain ⟨j,p,h1,h2⟩:=Sg z
   exact hn p (bJ h1) h2
 have iD:=bJ e2
 have eg:cQ st x=p:=jJ MY.wf iD e1
 subst e1
 have hm:=afa e2
 have eR:gM st p.nm y a we=match newR st y with
  | some i=>some i
  | none=>if a<1\/we<0 then some 5 else if p.wo<=a\/p.we<we then some 6 else none:=by unfold gM;rw [aB hm,eg];first|done|(cases newR st y <;> rfl)
 refine ⟨_,Z,A.a,A.dx,_,Z,MY.h.oa,Z,_,Z,⟨⟨n,ρ,A,st,y,Z,MY.h,hy0,fun i hi=>dq.no i (by rw [eR,hi]),fun hnew H1 g1=>?_⟩⟩⟩
 rw [hnew] at eR
 have eR:gM st p.nm y a we=if a<1\/we<0 then some 5 else if p.wo<=a\/p.we<we then some 6 else none:=eR
 have hh:=MY.mono g1
 obtain ⟨k1,k2,k3,k4⟩:=hh.h.opt i p qq e2 e3
 by_cases hb:a<1\/we<0
 . have rq:=dq.no 5 (by rw [eR,aB hb])
   refine ⟨true,⟨_,Z,_,_,Z,Z,_,Z,dm (fun c=>⟨Z,Z⟩) fun c=>⟨_,Z,_,_,Z,Z,_,Z,bM (hb.resolve_left fun z=>c (bM z)),Z⟩⟩,jX fun y=>rq y H1 g1⟩
 rw [az hb] at eR
 refine ⟨false,⟨_,Z,_,_,Z,Z,_,Z,dm (fun c=>absurd (dU c) (by omega)) fun _=>⟨_,Z,_,_,Z,Z,_,Z,dO (by omega),Z⟩⟩,cM ?_⟩
 by_cases hb2:p.wo<=a\/p.we<we
 . have rq:=dq.no 6 (by rw [eR,aB hb2])
   refine ⟨true,⟨_,Z,_,Z,qq.1,T.part,qq.2.1,_,_,Z,k1,X.cP,X.ET,Z,_,_,Z,Z,_,Z,dm (fun c=>⟨Z,Z⟩) fun c=>⟨_,Z,_,Z,qq.1,T.part,qq.2.1,_,_,Z,k1,X.cP,X.Uy,Z,_,_,Z,Z,_,Z,bM (hb2.resolve_left fun z=>c (bM z)),Z⟩⟩,jX fun y=>rq y H1 g1⟩
 rw [az hb2] at eR
 have q:=dq.ok eR
 refine ⟨false,⟨_,Z,_,Z,qq.1,T.part,qq.2.1,_,_,Z,k1,X.cP,X.ET,Z,_,_,Z,Z,_,Z,dm (fun c=>absurd (dU c) (by show ¬ p.wo<=a;omega)) fun _=>⟨_,Z,_,Z,qq.1,T.part,qq.2.1,_,_,Z,k1,X.cP,X.Uy,Z,_,_,Z,Z,_,Z,dO (by show ¬ p.we<we;omega),Z⟩⟩,cM ?_⟩
 refine ⟨_,Z,qq.1,T.part,qq.2.1,_,_,Z,k1,X.cP,X.ET,Z,_,Z,_,_,Z,Z,qq.2.1,_,k1,by show 6<1000;decide,?_⟩
 have wA:Wf (qL st p.nm fun p=>{ p with wo:=p.wo-a }):=Fc hh.wf fun p' lY e=>by
  rw [uH hh.wf lY iD e];exact ⟨Z,Z,Z,Z,by show 1<=p.wo-a;omega,(hh.wf.vc p iD).2⟩
 have wB:Wf (qL st p.nm fun p=>{ p with wo:=p.wo-a,we:=p.we-we }):=Fc hh.wf fun p' lY e=>by
  rw [uH hh.wf lY iD e];exact ⟨Z,Z,Z,Z,by show 1<=p.wo-a;omega,by show 0<=p.we-we;omega⟩
 have wS:=XW hh.wf eR hl1 hl2
 have esA:qL st p.nm (fun p=>{ p with wo:=p.wo-a })={ st with ah:=st.ah.set i { p with wo:=p.wo-a } }:=QF hh.wf.j9 e2 _
 have esB:qL st p.nm (fun p=>{ p with wo:=p.wo-a,we:=p.we-we })={ st with ah:=st.ah.set i { p with wo:=p.wo-a,we:=p.we-we } }:=QF hh.wf.j9 e2 _
 have hi:i<st.ah.length:=(d7.mp e2).1
 have hA:=hh.h.pU (p1:={ p with wo:=p.wo-a }) hh.g e2 e3 rfl rfl hh.wf.j9
 have gA:Gh ρ (upd H1 qq.1 (.ins T.part qq.2.1 (gm { p with wo:=p.wo-a } qq.2.2))):=hh.g.wr rfl
 have FA:Fr n ρ H ρ (upd H1 qq.1 (.ins T.part qq.2.1 (gm { p with wo:=p.wo-a } qq.2.2))):=(Fr.of_same g1).trans (Fr.write k3)
 have kA:upd H1 qq.1 (.ins T.part qq.2.1 (gm { p with wo:=p.wo-a } qq.2.2)) qq.1=some (.ins T.part qq.2.1 (gm { p with wo:=p.wo-a } qq.2.2)):=ak
 have nA:∀b,upd H1 qq.1 (.ins T.part qq.2.1 (gm { p with wo:=p.wo-a } qq.2.2)) b=none->H b=none:=fun b h=>g1.free (qY h)
 show xo _ _ _ _ (upd H1 qq.1 (.ins T.part qq.2.1 (gm { p with wo:=p.wo-a } qq.2.2)))
 generalize upd H1 qq.1 (.ins T.part qq.2.1 (gm { p with wo:=p.wo-a } qq.2.2))=H2 at *
 refine ⟨_,Z,qq.1,T.part,qq.2.1,_,_,Z,kA,X.cP,X.Uy,Z,_,Z,_,_,Z,Z,qq.2.1,_,kA,by show 6<1000;decide,?_⟩
 have hB:=hA.pU (i:=i) (p1:={ p with wo:=p.wo-a,we:=p.we-we }) gA (kC hi) e3 rfl rfl (by have:=wA.j9;rw [esA] at this;exact this)
 have eSS:(st.ah.set i { p with wo:=p.wo-a }).set i { p with wo:=p.wo-a,we:=p.we-we }=st.ah.set i { p with wo:=p.wo-a,we:=p.we-we }:=rP ..
 have gB:Gh ρ (upd H2 qq.1 (.ins T.part qq.2.1 (gm { p with wo:=p.wo-a,we:=p.we-we } qq.2.2))):=gA.wr rfl
 have FB:Fr n ρ H ρ (upd H2 qq.1 (.ins T.part qq.2.1 (gm { p with wo:=p.wo-a,we:=p.we-we } qq.2.2))):=FA.trans (Fr.write k3)
 have kB:upd H2 qq.1 (.ins T.part qq.2.1 (gm { p with wo:=p.wo-a,we:=p.we-we } qq.2.2)) qq.1=some (.ins T.part qq.2.1 (gm { p with wo:=p.wo-a,we:=p.we-we } qq.2.2)):=ak
 generalize Jj:upd H2 qq.1 (HO.ins T.part qq.2.1 (aW _ _ _))=H3
 have tL:upd H2 qq.1 (.ins T.part qq.2.1 (gm { p with wo:=p.wo-a,we:=p.we-we } qq.2.2))=H3:=Jj
 have nB:∀b,H3 b=none->H b=none:=fun b h=>nA b (qY (by rw [tL];exact h))
 rw [tL] at hB gB FB kB
 have kW:HH T n ρ A H3 (qL st p.nm fun p=>{ p with wo:=p.wo-a,we:=p.we-we }):=⟨gB,by rw [esB,<-eSS];exact hB,wB⟩
 obtain ⟨_,r3,_,_⟩:=hB.opt i { p with wo:=p.wo-a,we:=p.we-we } qq (by show ((st.ah.set i _).set i _)[i]?=_;rw [eSS];exact kC hi) e3
 clear hA hB gA FA kA Jj tL
 refine ⟨_,Z,A.a,A.dx,_,Z,kW.h.oa,Z,_,Z,_,Z,qq.1,T.part,qq.2.1,_,_,Z,kB,X.cP,X.pow,Z,_,Z,_,Z,_,Z,qq.1,T.part,qq.2.1,_,_,Z,kB,X.cP,X.P0,Z,_,Z,qq.1,T.part,qq.2.1,_,_,Z,kB,X.cP,X.Uz,Z,?_⟩
 intro v dv hv hdv hvd
 have VC:upd (upd H3 dv (.own v)) v (.ins T.part dv []) qq.2.2=some (.lst (p.row.map V.int)):=by rw [av (aE r3 hv),av (aE r3 hdv)];exact r3
 refine ⟨⟨v,dv,qq.2.2,⟨y,p.ow,a,we,p.sc,p.row⟩,Z,ak,aC.of VC,fun rr H6 hrr k6 hy6 XZ=>⟨Z,?_⟩⟩⟩
 have MP:H3 rr=none:=qY (qY hrr)
 have g6:aI H3 H6:=fun b u e=>k6 b u (by rw [av (aE e hv),av (aE e hdv)];exact e) (aE e hv)
 have CQ:=kW.mono g6
 have F6:=FB.trans (Fr.of_same (ρ:=ρ) g6)
 unfold vt at wS q
 rw [eg] at wS q
 exact ⟨⟨n,ρ,A,_,(v,dv,rr),_,Z,CQ,hy6,XZ,kW.g.none hv,kW.g.none MP,(pY eR).2.1.2,wS,fun ρ' A' H' a1 a2 a3=>q ρ' A' H' a1 a2 (a3.fr F6 (nB _ hv) (nB _ MP))⟩⟩
abbrev vQ:Stmt:=top 29
abbrev fD:List Str:=["_law_script","_law_k","_law_j","_law_many"]
abbrev OC:List Str:=fD.append ["_law_cell","_law_turn","_law_rest","_law_step","_law_one","_law_two"]
theorem fC:aJ OC fD (ay vQ):=c5
theorem MZ (F:At K mg "_law_draw" vQ f fd) (bh:mg "len"=none) (bL:mg "range"=none):Dn P w K mg base 1 "_law_draw" fD (lU K):=by
 refine F.oA fC fun cdv A outer s H vs Q E hr h=>?_
 obtain ⟨⟨a,ns,k,j,many,rfl,hS,h63,hk,hj,hj2,hm,q⟩⟩:=h
 refine ⟨_,(@cF.h _ _ _ (aj (aN (i:=4) fC.nd ai)
  (aj (aN (i:=5) fC.nd ai)
  (aj (ie (aU iH (aH (bY K) (by rfl) bh dF (af (qv 0) ao)) ai (aX _)) (aj (aN (i:=4) fC.nd (aG (aK K) (qv 0) (aD jx (qv 1) (aH (bY K) (by rfl) bh dF (af (qv 0) ao)))))
  (au (aN (i:=5) fC.nd (aD gQ (qv 1) (aH (bY K) (by rfl) bh dF (af (qv 0) ao)))))) aT)
  (aj (aN (i:=6) fC.nd (qv 4))
  (aj (dR eL rfl (dX (by rfl) bL (af (qv 2) ao)) (aR (i:=7) fC.nd) (au (aN (i:=6) fC.nd (aD gQ (qv 6) (aD nD ai ai)))))
  (aj (cC (dZ (bW.pt (yl (aU i6 (qv 5) ai (aX _)) (yl (aU BN (qv 4) (aD nD ai ai) (aX _)) (yj (aU iH (qv 6) ai (aX _))))))) (au (aO (aD jx (aD jx (qv 6) (aD nD ai ai)) (qv 3)))) aT)
  (aj (aN (i:=8) fC.nd (aD jx (aD bV (aD bV (aD bV (aD jw (qv 4) ai) (aD jw (qv 1) ai)) (aD jw (qv 2) ai)) ai) ai))
  (aj (aN (i:=9) fC.nd (aD jx (aD bV (aD jw (qv 8) ai) (aD gQ (qv 4) ai)) ai))
  (aj (aN (i:=9) fC.nd (aD jx (aD bV (aD jw (qv 9) (aD bV (aD jx (qv 8) ai) ai)) (qv 2)) ai))
  (au (aO (aD jx (aD jx (aD bV (aD bV (aD jw (qv 8) ai) (aD jw (qv 9) ai)) (aD gQ (qv 9) ai)) ai) (qv 3)))))))))))))),?_⟩
 have hl:(ns.map V.int).length=ns.length:=aF _
 refine ⟨fun σ H'=>H'=H/\σ=[some (.ref a),some (.int k),some (.int j),some (.int many),some (.int (Jm.cellOf ns k)),some (.int (Jm.Aw ns k)),none,none,none,none],?_,?_⟩
 . refine ⟨_,Z,a,_,Z, .inl hS,_,_,Z,Z,_,Z,?_⟩
   refine dm (fun c=>?_) (fun c=>?_)
   . have c':0<(((ns.map V.int).length:Nat):Int):=dU c
     rw [hl] at c'
     have i0:0<=k % (ns.length:Int):=nK _ (by omega)
     have i1:k % (ns.length:Int)<(ns.length:Int):=yy _ c'
     refine ⟨_,Z,_,Z,_,Z,a,_,Z, .inl hS,_,_,Z,Z,(by show (0:Int)<_;rw [hl];exact c'),a,_,_, .int (ns.getD (k % ns.length).toNat 0),Z,Z,hS,?_,?_⟩
     . rw [hl]
       exact ZH i0 i1
     refine ⟨_,Z,_,Z,a,_,Z, .inl hS,_,_,Z,Z,WT (n:=10) (by rw [hl];exact c') (by rw [hl];omega) (by decide),Z,?_⟩
     unfold Jm.cellOf Jm.Aw
     rw [aB c',aB c',hl]
     rfl
   . have c':¬ 0<(((ns.map V.int).length:Nat):Int):=uR (pD.mpr c)
     rw [hl] at c'
     refine ⟨Z,?_⟩
     unfold Jm.cellOf Jm.Aw
     rw [az c',az c']
     rfl
 rintro σ H' ⟨rfl,rfl⟩
 generalize ec:Jm.cellOf ns k=cell at *
 generalize et:Jm.Aw ns k=turn at *
 refine ⟨_,Z,_,Z,j,Z,by omega,hj2,?_⟩
 refine fX (lo:=0) (n:=j.toNat) (fun i σ EV=>EV=H'/\∃st:Option V,σ=[some (.ref a),some (.int k),some (.int j),some (.int many),some (.int cell),some (.int turn),some (.int (Jm.EB cell i)),st,none,none]) ⟨Z,none,Z⟩ ?_ ?_
 . rintro i σ EV hi ⟨rfl,st,rfl⟩
   refine ⟨_,Z,_,_,Z,Z,⟨by decide,by decide,by decide⟩,_,_,Z,Z,Av (by decide +kernel),Z,?_⟩
   exact ⟨_,Z⟩
 rintro σ EV ⟨rfl,st,rfl⟩
 have full:Q (.int (Jm.draw ns k j many)) EV:=q
 unfold Jm.draw at full
 rw [ec,et] at full
 generalize er:Jm.EB cell j.toNat=rest at *
 refine ⟨decide (turn=0/\1000000000000000000<=cell/\0<rest),?_,?_⟩
 . refine ⟨_,Z,Z,_,Z,?_⟩
   by_cases h1:turn=0
   . rw [bM (by rw [h1] :V.int turn=V.int 0)]
     refine jX ⟨_,Z,_,_,Z,Z,⟨by decide,by decide,by decide⟩,_,_,Z,Z,_,Z,?_⟩
     by_cases h2:1000000000000000000<=cell
     . rw [bM (show (10:Int) ^ (18:Int).toNat<=cell from h2)]
       refine jX ⟨_,Z,_,_,Z,Z,_,Z,?_,Z⟩
       by_cases h3:0<rest
       . rw [bM h3,bM ⟨h1,h2,h3⟩]
       . rw [dO h3,dO fun z=>h3 z.2.2]
     . rw [dO (show ¬ (10:Int) ^ (18:Int).toNat<=cell from h2)]
       exact cM ⟨(dO fun z=>h2 z.2.1).symm,Z⟩
   . rw [dO (fun z=>h1 (V.int.inj z))]
     exact cM ⟨(dO fun z=>h1 z.1).symm,Z⟩
 by_cases h:turn=0/\1000000000000000000<=cell/\0<rest
 . rw [bM h]
   rw [aB h] at full
   refine jX ⟨_,Z,_,_,Z,Z,⟨by decide,by decide,by decide⟩,_,_,Z,Z,(by show (0:Int)<_;decide),_,Z,_,_,Z,Z,hm,?_⟩
   exact full
 . rw [dO h]
   rw [az h] at full
   refine cM ?_
   refine ⟨_,Z,_,_,Z,Z, .inr ⟨by decide,by decide⟩,_,Z,_,_,Z,Z, .inr ⟨by decide,by decide⟩,_,_,Z,Z,_,Z,_,_,Z,Z, .inr ⟨by decide,by decide⟩,_,_,Z,Z,_,_,Z,Z,_,_,Z,Z,(by show (0:Int)<_;decide),?_⟩
   refine ⟨_,Z,_,_,Z,Z, .inr ⟨by decide,by decide⟩,_,Z,_,_,Z,Z,Av (by decide +kernel),_,_,Z,Z,_,_,Z,Z,(by show (0:Int)<_;decide),?_⟩
   unfold Jm.mixed at full
   dsimp only at full ⊢
   generalize e1:(cell*7919+k*104729+j*1299709+31) % 1000000007=one at *
   generalize e2:(one*48271+cell / 1009) % 998244353=two at *
   have b1:0<=one % 9973:=nK _ (by decide)
   have b2:one % 9973<9973:=yy _ (by decide)
   refine ⟨_,Z,_,Z,_,_,Z,Z,(by show (0:Int)<_;decide),_,_,Z,Z,_,_,Z,Z, .inr ⟨by omega,by omega⟩,_,Z,_,_,Z,Z,_,_,Z,Z,(by show (0:Int)<_;decide),?_⟩
   refine ⟨_,Z,_,_,Z,Z, .inr ⟨by decide,by decide⟩,_,Z,_,_,Z,Z, .inr ⟨by decide,by decide⟩,_,_,Z,Z,_,Z,_,_,Z,Z,Av (by decide +kernel),_,_,Z,Z,_,_,Z,Z,(by show (0:Int)<_;decide),_,Z,_,_,Z,Z,hm,?_⟩
   exact full
abbrev vR:Stmt:=top 30
abbrev sj:List Str:=["_law_code","_law_size"]
abbrev OD:List Str:=sj.append ["_law_word","_law_at_here"]
theorem mh:aJ OD sj (ay vR):=c5
theorem M_ (F:At K mg "_law_name" vR f fd) (bL:mg "range"=none):Dn P w K mg base 1 "_law_name" sj GL:=by
 refine F.oA mh fun cdv A outer s H vs Q E hr h=>?_
 obtain ⟨⟨c,n,rfl,hc,hn,q⟩⟩:=h
 refine ⟨_,(@cF.h _ _ _ (aj (aN (i:=2) mh.nd bg)
  (aj (dR eL rfl (dX (by rfl) bL (af (qv 1) ao)) (aR (i:=3) mh.nd) (aj (aN (i:=2) mh.nd (aD En (qv 2) (aG TZ bg (aD jx (qv 0) ai))))
  (au (aN (i:=0) mh.nd (aD gQ (qv 0) ai)))))
  (au (aO (qv 2)))))),?_⟩
 refine ⟨_,Z,_,Z,by omega,by omega,?_⟩
 refine fX (lo:=0) (n:=(n:Int).toNat) (fun i σ H'=>H'=H/\∃(s1:Option V),σ=[some (.int (c / 26 ^ i)),some (.int n),some (.str (tx (lH c i))),s1]) ⟨Z,none,by rw [Int.pow_zero,BJ];rfl⟩ ?_ ?_
 . rintro i σ H' hi ⟨rfl,s1,rfl⟩
   have hp:(0:Int)<26 ^ i:=Int.pow_pos (by decide)
   have hd0:0<=c / 26 ^ i:=Int.ediv_nonneg hc (yH hp)
   have hm0:0<=c / 26 ^ i % 26:=nK _ (by decide)
   have hm1:c / 26 ^ i % 26<26:=yy _ (by decide)
   refine ⟨_,Z,_,Z,_,_,Z,Z,(by show (0:Int)<26;decide),_,_,_,Z,Z,(by decide +kernel),Um hm0 hm1,?_⟩
   refine ⟨_,_,Z,Z,?_,?_⟩
   . rw [g_,yM]
     show i+1<=sizeLine
     exact Ed (dW (by omega))
   refine ⟨_,Z,_,_,Z,Z,uW (by decide) (pQ (by decide +kernel)),Z,some (.int ((0:Int)+(i:Int))),?_⟩
   have e1:c / 26 ^ i / 26=c / 26 ^ (i+1):=by rw [Int.ediv_ediv_of_nonneg (yH hp),Int.pow_succ]
   have e2:(tx (lH c i)++tx [97+(c / 26 ^ i % 26).toNat] :Str)=tx (lH c (i+1)):=by rw [Uj,W7]
   rw [<-e1,<-e2]
   rfl
 rintro σ H' ⟨rfl,s1,rfl⟩
 refine ⟨_,Z,?_⟩
 rw [xj]
 exact q
abbrev tW:Stmt:=top 31
abbrev qo:List Str:=["_law_script","_law_k","_law_many"]
abbrev Na:List Str:=qo.append ["_law_alike","_law_size","_law_first","_law_shift","_law_at_here","_law_names_here","_law_code"]
theorem dH:aJ Na qo (ay tW):=c5
theorem JP (F:At K mg "_law_names" tW f fd) (aQ:Dn P w K mg base 1 "_law_draw" fD (lU K)) (sr:Dn P w K mg base 1 "_law_name" sj GL) (bL:mg "range"=none):Dn P w K mg base 2 "_law_names" qo (GN K):=by
 refine F.oA dH fun cdv A outer s H vs Q E hr h=>?_
 obtain ⟨⟨a,ms,k,many,rfl,hS,h63,hk,hm,q⟩⟩:=h
 refine ⟨_,(@cF.h _ _ _ (aj (aN (i:=3) dH.nd (o9 i6 (bf aQ hr (af (qv 0) (af (qv 1) (af ai (af ai ao))))) ai (aX _)))
  (aj (aN (i:=4) dH.nd (aD bV ai (bf aQ hr (af (qv 0) (af (qv 1) (af ai (af ai ao)))))))
  (aj (aN (i:=5) dH.nd (bf aQ hr (af (qv 0) (af (qv 1) (af ai (af (aD nD ai ai) ao))))))
  (aj (aN (i:=6) dH.nd ai)
  (aj (ie (dB (qv 3)) (au (dR eL rfl (dX (by rfl) bL (af (bf aQ hr (af (qv 0) (af (qv 1) (af ai (af (qv 4) ao))))) ao)) (aR (i:=7) dH.nd) (au (aN (i:=6) dH.nd (aD jw (qv 6) ai))))) aT)
  (aj (aN (i:=8) dH.nd (eF ao))
  (aj (dR eL rfl (dX (by rfl) bL (af (qv 2) ao)) (aR (i:=7) dH.nd) (aj (aN (i:=9) dH.nd (aD bV (qv 5) (aD jw (qv 6) (bf aQ hr (af (qv 0) (af (qv 1) (af (aD bV ai (aD jw ai (qv 7))) (af ai ao))))))))
  (aj (ie (dJ (dB (qv 3))) (aj (aN (i:=4) dH.nd (aD bV ai (bf aQ hr (af (qv 0) (af (qv 1) (af (aD bV ai (aD jw ai (qv 7))) (af ai ao)))))))
  (au (aN (i:=9) dH.nd (bf aQ hr (af (qv 0) (af (qv 1) (af (aD bV ai (aD jw ai (qv 7))) (af (aD nD ai ai) ao)))))))) aT)
  (aj (Du eL (aU IB (bf sr hr (af (qv 9) (af (qv 4) ao))) (qv 8) (by with_unfolding_all rfl)) (au (aN (i:=9) dH.nd (aD bV (qv 9) (qv 6)))))
  (au (cT (pX uO uM uN fY (qv 8) (af (bf sr hr (af (qv 9) (af (qv 4) ao))) ao))))))))
  (au (aO (qv 8))))))))))),?_⟩
 have P10:Rp 10 10:=⟨by decide,by decide,by decide +kernel⟩
 refine ⟨_,Z,_,Z,cU hS h63 hk (by decide) (by decide) (by decide) fun al _ _ _=>⟨Z,?_⟩⟩
 refine ⟨_,Z,_,Z,cU hS h63 hk (by decide) (by decide) (by decide) fun sd _ s0 s1=>⟨_,_,Z,Z,?_⟩⟩
 refine ⟨_,Z,_,Z,_,_,Z,Z,P10,cU hS h63 hk (by decide) (by decide) (by decide +kernel) fun fc _ f0 f1=>?_⟩
 generalize hal:decide (V.int al=V.int 0)=alike
 obtain ⟨n0,en0⟩:∃n:Nat,1+sd=(n:Int):=⟨(1+sd).toNat,by omega⟩
 refine ⟨fun σ H'=>H'=H/\∃(d:Nat) (s7:Option V),(alike=true->d<n0)/\(alike=false->d=0)/\d<8/\σ=[some (.ref a),some (.int k),some (.int many),some (.bl alike),some (.int (1+sd)),some (.int fc),some (.int ((26:Int) ^ d)),s7,none,none],?_,?_⟩
 . refine ⟨_,Z,_,Z,dm (fun c=>?_) (fun c=>?_)⟩
   . refine ⟨_,Z,_,Z,_,Z,cU hS h63 hk (by decide) (by decide) (by omega) fun dd _ d0 d1=>⟨dd,Z,by omega,by omega,?_⟩⟩
     refine fX (lo:=0) (n:=dd.toNat) (fun i σ H'=>H'=H/\∃s7:Option V,σ=[some (.ref a),some (.int k),some (.int many),some (.bl alike),some (.int (1+sd)),some (.int fc),some (.int ((26:Int) ^ i)),s7,none,none]) ⟨Z,none,Z⟩ ?_ ?_
     . rintro i σ H' hi ⟨rfl,s7,rfl⟩
       refine ⟨_,Z,_,_,Z,Z, .inr ⟨by decide,by decide⟩,Z,some (.int ((0:Int)+(i:Int))),?_⟩
       rw [Int.pow_succ]
       rfl
     . rintro σ H' ⟨rfl,s7,rfl⟩
       exact ⟨Z,dd.toNat,s7,fun _=>by omega,fun z=>absurd c (by rw [z];exact fF),by omega,Z⟩
   . exact ⟨Z,0,none,fun z=>absurd z c,fun _=>rfl,by decide,Z⟩
 rintro σ H' ⟨rfl,d,s7,hd1,hd2,hd8,rfl⟩
 refine ⟨(iV 0),fun pn zZ=>?_⟩
 have g0:=aA zZ (.lst [])
 refine ⟨_,Z,(many:Int),Z,by omega,by omega,?_⟩
 refine fX (lo:=0) (n:=(many:Int).toNat) (fun i σ H2=>aI H' H2/\∃(nss:List (List Nat)) (n:Nat) (s1 s2:Option V),d<n/\n<=8/\σ=[some (.ref a),some (.int k),some (.int many),some (.bl alike),some (.int (n:Int)),some (.int fc),some (.int ((26:Int) ^ d)),s1,some (.ref pn),s2]/\H2 pn=some (.lst (sQ nss))/\nss.length=i/\nss.Nodup/\∀x∈nss,pS x)
  ⟨g0,[],n0,s7,none,?_,by omega,by rw [<-en0];rfl,ak,Z,wm,fun _ m=>nomatch m⟩ ?_ ?_
 . cases alike with
   | true=>exact hd1 rfl
   | false=>rw [hd2 rfl];omega
 . rintro i σ H2 hi ⟨g,nss,n,s1,s2,hdn,QN,rfl,hn,hnl,hnd,hok⟩
   have hsl:(sQ nss).length=i:=by unfold sQ;rw [aF];exact hnl
   have hSg:=g.seq hS
   have hp:(0:Int)<26 ^ d:=Int.pow_pos (by decide)
   have VD:(26:Int) ^ d<2 ^ 64:=by
    rcases (by omega:d=0\/d=1\/d=2\/d=3\/d=4\/d=5\/d=6\/d=7) with e|e|e|e|e|e|e|e <;> (rw [e];decide +kernel)
   refine ⟨_,Z,_,Z,_,Z,_,Z,_,Z,_,_,Z,Z, .inl ⟨by decide,by decide⟩,_,_,Z,Z,cU hSg h63 hk (by omega) (by omega) (by decide) fun cd _ c0 c1=>⟨_,_,Z,Z, .inl ⟨by omega,VD⟩,_,_,Z,Z,?_⟩⟩
   have hcode:0<=fc+26 ^ d*cd:=Int.add_nonneg f0 (nL (yH hp) c0)
   refine ⟨fun σ H3=>H3=H2/\∃(n:Nat) (c:Int),0<=c/\d<n/\n<=8/\σ=[some (.ref a),some (.int k),some (.int many),some (.bl alike),some (.int (n:Int)),some (.int fc),some (.int ((26:Int) ^ d)),some (.int ((0:Int)+(i:Int))),some (.ref pn),some (.int c)],?_,?_⟩
   . refine ⟨_,Z,_,Z,?_⟩
     cases hb:alike with
     | true=>exact cM ⟨Z,n,_,hcode,hdn,QN,Z⟩
     | false=>
       refine jX ?_
       have hd0:=hd2 hb
       refine ⟨_,Z,_,Z,_,Z,_,_,Z,Z, .inl ⟨by decide,by decide⟩,_,_,Z,Z,cU hSg h63 hk (by omega) (by omega) (by decide) fun zd _ z0 z1=>⟨_,_,Z,Z,?_⟩⟩
       refine ⟨_,Z,_,Z,_,Z,_,_,Z,Z, .inl ⟨by decide,by decide⟩,_,_,Z,Z,_,_,Z,Z,P10,cU hSg h63 hk (by omega) (by omega) (by decide +kernel) fun cd2 _ e0 _=>?_⟩
       refine ⟨Z,(1+zd).toNat,cd2,e0,by omega,by omega,?_⟩
       rw [show (((1+zd).toNat:Nat):Int)=1+zd from by omega]
       rfl
   clear hdn QN hcode
   rintro σ H3 ⟨rfl,n,wW,cc0,hdn,QN,rfl⟩
   refine ⟨fun m σ H4=>H4=H3/\∃t:Nat,m=nss.length+1-t/\t<=nss.length/\σ=[some (.ref a),some (.int k),some (.int many),some (.bl alike),some (.int (n:Int)),some (.int fc),some (.int ((26:Int) ^ d)),some (.int ((0:Int)+(i:Int))),some (.ref pn),some (.int (wW+(t:Int)*26 ^ d))]/\∀j:Nat,j<t->lH (wW+(j:Int)*26 ^ d) n∈nss,
    ⟨_,Z,0,Z,fT _,by rw [show wW+((0:Nat):Int)*26 ^ d=wW from by simp],fun j hj=>absurd hj (Nat.not_lt_zero _)⟩,?_⟩
   rintro m σ H4 ⟨rfl,t,rfl,ht,rfl,htr⟩
   have hct:0<=wW+(t:Int)*26 ^ d:=Int.add_nonneg cc0 (nL (by omega) (yH hp))
   refine ⟨_,Z,_,Z,Lu rfl hct (by omega) ?_⟩
   refine ⟨_,Z,pn,_,Z, .inl (aC.of hn),Z,W_ nss,?_⟩
   show Tu _ (V.bl (if false=true then !Lc (.str (tx (lH (wW+(t:Int)*26 ^ d) n))) (sQ nss) else Lc (.str (tx (lH (wW+(t:Int)*26 ^ d) n))) (sQ nss))) _
   rw [az fF,PU]
   refine ⟨_,Z,dm (fun c=>?_) (fun c=>?_)⟩
   . have hmem:lH (wW+(t:Int)*26 ^ d) n∈nss:=dU c
     have adx:∀j:Nat,j<t+1->lH (wW+(j:Int)*26 ^ d) n∈nss:=fun j hj=>by
      rcases Nat.lt_succ_iff_lt_or_eq.mp hj with z|z
      . exact htr j z
      . rw [z];exact hmem
     have hle:=Uq (c:=wW) (n:=n) (t:=t+1) hdn (by omega) adx
     refine ⟨_,fun _ _ z=>z,?_⟩
     refine ⟨_,Z,_,Z,_,_,Z,Z,?_⟩
     refine ⟨_,(by omega:nss.length+1-(t+1)<nss.length+1-t),Z,t+1,Z,hle,?_,adx⟩
     rw [show wW+((t+1:Nat):Int)*26 ^ d=wW+(t:Int)*26 ^ d+26 ^ d from by rw [Int.natCast_add,BL];show _+(_+1*_)=_;rw [Int.one_mul,Int.add_assoc]]
     rfl
   . have hnm:lH (wW+(t:Int)*26 ^ d) n∉nss:=uR (pD.mpr c)
     refine ⟨_,Z, .inl ⟨Z,_,aC.of hn⟩,?_⟩
     refine ⟨_,Z,_,Z,Lu rfl hct (by omega) ?_⟩
     refine ⟨pn,sQ nss,_,Z,Z,hn,dW (by omega),g.cI zZ _,nss++[lH (wW+(t:Int)*26 ^ d) n],n,_,_,hdn,QN,Z,?_,?_,mK hnd hnm,fun x hx=>?_⟩
     . rw [ak]
       unfold sQ
       rw [bD]
       rfl
     . rw [cY,hnl]
       rfl
     . rcases eV.mp hx with z|z
       . exact hok x z
       . rw [ee.mp z]
         exact ab3 _ (by omega) QN
 rintro σ H2 ⟨g,nss,n,s1,s2,hdn,QN,rfl,hn,hnl,hnd,hok⟩
 exact ⟨_,Z,q pn nss H2 g hn zZ (by omega) hnd hok⟩
abbrev vS:Stmt:=top 33
abbrev su:List Str:=["_law_script","_law_k","_law_j"]
abbrev OE:List Str:=su.append ["_law_size"]
theorem Bg:aJ OE su (ay vS):=c5
theorem Nb (F:At K mg "_law_much" vS f fd) (aQ:Dn P w K mg base 1 "_law_draw" fD (lU K)):Dn P w K mg base 2 "_law_much" su (Ls K):=by
 refine F.oA Bg fun cdv A outer s H vs Q E hr h=>?_
 obtain ⟨⟨a,ns,k,j,rfl,hS,h63,hk,hj,hj2,q⟩⟩:=h
 refine ⟨_,(@cF.h _ _ _ (aj (aN (i:=3) Bg.nd (aG (aK K) (eF (af ai (af ai (af ai (af (aD nD ai ai) ao))))) (bf aQ hr (af (qv 0) (af (qv 1) (af (qv 2) (af ai ao)))))))
  (au (aO (aD bV ai (bf aQ hr (af (qv 0) (af (qv 1) (af (aD bV (qv 2) ai) (af (qv 3) ao)))))))))),?_⟩
 refine ⟨_,_,Z,Z,⟨by decide,by decide,by decide⟩,(iV 4),fun p1 hp1=>?_⟩
 have g1:=aA hp1 (.lst [V.int 9,V.int 40,V.int 1000,V.int (10 ^ (9:Int).toNat)])
 refine ⟨_,Z,_,Z,_,Z,cU (g1.seq hS) h63 hk hj (by omega) (by decide) fun d _ d0 d1=>?_⟩
 obtain ⟨B,hB,hB0,hB1⟩:∃B:Int,lG [V.int 9,V.int 40,V.int 1000,V.int (10 ^ (9:Int).toNat)] d=some (.int B)/\0<B/\B<=1000000000:=by
  rcases (by omega:d=0\/d=1\/d=2\/d=3) with e|e|e|e
  . exact ⟨9,by rw [e];rfl,by decide,by decide⟩
  . exact ⟨40,by rw [e];rfl,by decide,by decide⟩
  . exact ⟨1000,by rw [e];rfl,by decide,by decide⟩
  . exact ⟨10 ^ (9:Int).toNat,by rw [e];rfl,by decide,by decide⟩
 refine ⟨p1,_,_,_,Z,Z,aC.of ak,hB,?_⟩
 refine ⟨_,Z,_,Z,_,Z,_,_,Z,Z,_,Z,cU (g1.seq hS) h63 hk (by omega) (by omega) hB0 fun e _ e0 e1=>⟨_,_,Z,Z,?_⟩⟩
 exact q (1+e) _ (by omega) (by omega) g1
abbrev xH:Stmt:=top 56
abbrev kL:List Str:=["_law_found"]
abbrev Su:List Str:=kL
theorem OF:aJ Su kL (ay xH):=c5
theorem OG (F:At K mg "_law_int" xH f fd) (aM:mg "isinstance"=none) (Sv:mg "int"=none) (Nc:mg "bool"=none):Dn P w K mg base 1 "_law_int" kL EC:=by
 refine F.oA OF fun cdv A outer s H vs Q E hr h=>?_
 obtain ⟨i,rfl,q⟩:=h
 refine ⟨_,(@cF.h _ _ _ (au (aO (E_ (aH (c7 K) (by rfl) aM jW (af (qv 0) (af (jB PyProof.Rows.boot_int rfl Sv) ao))) (E9 (acX (aH (c7 K) (by rfl) aM jW (af (qv 0) (af (jB PyProof.Rows.boot_bool rfl Nc) ao))))))))),?_⟩
 refine ⟨_,Z,_,_,_,_,Z,gH.int i,iB,_,Z,jX ?_⟩
 refine ⟨_,Z,_,_,_,_,Z,gH.int i,Lk,_,Z,?_⟩
 exact q
abbrev tX:Stmt:=top 58
abbrev mj:List Str:=["_law_top","_law_bottom"]
abbrev Nd:List Str:=mj.append ["_law_one","_law_other"]
theorem nY:aJ Nd mj (ay tX):=c5
theorem JQ (F:At K mg "_law_least" tX f fd) (Sw:mg "abs"=none):Dn P w K mg base 1 "_law_least" mj BY:=by
 refine F.oA nY fun cdv A outer s H vs Q E hr h=>?_
 obtain ⟨⟨t,b,rfl,hb,hb2,q⟩⟩:=h
 refine ⟨_,(@cF.h _ _ _ (aj (aN (i:=2) nY.nd (aH Wu (by rfl) Sw PyProof.Rows.boot_abs (af (qv 0) ao)))
  (aj (aN (i:=3) nY.nd (qv 1))
  (aj (Du eL (aU pL (qv 3) ai (aX _)) (au (Vo (i:=2) (j:=3) rfl nY.nd rfl rfl (by decide) rfl rfl (af (qv 3) (af (aD jx (qv 2) (qv 3)) ao)) (by rfl))))
  (au (aO (jC (af (aD gQ (qv 0) (qv 2)) (af (aD gQ (qv 1) (qv 2)) ao))))))))),?_⟩
 refine ⟨_,Z,_,Z,_,Z,?_⟩
 refine ⟨fun m σ H'=>∃x y:Int,m=y.toNat/\σ=[some (.int t),some (.int b),some (.int x),some (.int y)]/\H'=H/\0<=x/\0<=y/\Jm.cf x y=Jm.cf b t,
  ⟨_,(if t<0 then -t else t),b,Z,Z,Z,(by split <;> omega),yH hb,(by rw [Jm.PM,Jm.abO])⟩,?_⟩
 rintro m σ H' ⟨x,y,rfl,rfl,rfl,hx,hy,e⟩
 refine ⟨_,Z,Z,_,Z,dm (fun c=>?_) (fun c=>?_)⟩
 . have c1:¬ V.int y=V.int 0:=uR (by simpa using c)
   have c':0<y:=by
    have:y≠0:=fun z=>c1 (by rw [z])
    omega
   refine ⟨_,fun _ _ z=>z,?_⟩
   refine ⟨_,Z,_,Z,_,Z,_,_,Z,Z,c',_,_,Z,?_⟩
   have h1:0<=x % y:=nK _ (by omega)
   have h2:x % y<y:=yy _ c'
   exact ⟨_,(by omega:(x % y).toNat<y.toNat),y,x % y,Z,Z,Z,hy,h1,(Jm.GI x y c').trans e⟩
 . have c1:V.int y=V.int 0:=by simpa using c
   have ey:y=0:=V.int.inj c1
   subst ey
   rw [Jm.PL x hx] at e
   subst e
   have g0:0<Jm.cf b t:=Jm.EA _ _ (.inl hb)
   have g1:Jm.Sz 9000 (Jm.cf b t):=hb2.dvd hb (yH g0) (Jm.rW b t)
   have gd:∀i,BV i (Jm.cf b t):=fun i=>uW g0 g1
   refine ⟨_,Z,_,Z,_,_,Z,Z,gd _,_,Z,_,Z,_,_,Z,Z,gd _,(iV 2),fun p hp=>?_⟩
   refine q p _ (aA hp _) ?_
   rw [ak]
   show some (HO.tup [V.int (t / Jm.cf b t),V.int (b / Jm.cf b t)])=some (HO.tup [V.int (Jm.fr t b).num,V.int ((Jm.fr t b).den:Int)])
   rw [Jm.T9 t b hb,Jm.Ll t b hb]
abbrev zK:Stmt:=top 59
abbrev wX:List Str:=["_law_found","_law_top","_law_bottom"]
abbrev VI:List Str:=wX
theorem Sx:aJ VI wX (ay zK):=c5
theorem Sy (F:At K mg "_law_is" zK f fd) (e_:Dn P w K mg base 1 "_law_int" kL EC) (kq:Dn P w K mg base 1 "_law_least" mj BY)
  (aM:mg "isinstance"=none) (jq:mg "tuple"=none) (bh:mg "len"=none):Dn P w K mg base 2 "_law_is" wX WX:=by
 refine F.oA Sx fun cdv A outer s H vs Q E hr h=>?_
 obtain ⟨⟨p,q,t,b,rfl,hp,h0,h1,e,hq⟩⟩:=h
 refine ⟨_,(@cF.h _ _ _ (aj (cC (dZ (bW.pt (gK (dJ (dB (aH (c7 K) (by rfl) aM jW (af (qv 0) (af (jB Q5 rfl jq) ao))))) (f_ (aU pL (aH (bY K) (by rfl) bh dF (af (qv 0) ao)) ai (aX _)))))) (au (aO fk)) aT)
  (aj (cC (dZ (bW.pt (gK (dJ (dB (bf e_ hr (af (aG (br K) (qv 0) ai) ao)))) (f_ (dJ (dB (bf e_ hr (af (aG (br K) (qv 0) ai) ao)))))))) (au (aO fk)) aT)
  (au (aO (o9 (GK K hr.units) (qv 0) (bf kq hr (af (qv 1) (af (qv 2) ao))) (aX _))))))),?_⟩
 refine ⟨false,?_,cM ?_⟩
 . refine ⟨_,Z,_,_,_,_,Z,gH.tup hp,iB,_,Z,cM ?_⟩
   exact ⟨_,Z,_,_,Z, .inr (cJ.of hp),Z,_,Z,Z,Z⟩
 refine ⟨false,?_,cM ?_⟩
 . refine ⟨_,Z,p,_,_,_,Z,Z,cJ.of hp,Z,_,Z,_,Z,cM ?_⟩
   exact ⟨_,Z,p,_,_,_,Z,Z,cJ.of hp,Z,_,Z,_,Z,Z,Z⟩
 refine ⟨_,Z,_,Z,_,Z,IG h0 h1 fun r H1 g1 hr1=>?_⟩
 rw [<-e] at hr1
 refine ⟨_,_,Ug (g1 _ _ hp),Ug hr1,Cy _ _,Cy _ _,?_⟩
 rw [WW]
 exact hq H1 g1
abbrev nj:Stmt:=top 57
abbrev kM:List Str:=["_law_found","_law_parts"]
abbrev DL:List Str:=kM.append ["_law_at_here","_law_one"]
theorem nq:aJ DL kM (ay nj):=c5
theorem Cc (F:At K mg "_law_part_list" nj f fd) (e_:Dn P w K mg base 1 "_law_int" kL EC) (aM:mg "isinstance"=none) (c8:mg "list"=none) (jq:mg "tuple"=none) (lO:mg "str"=none) (bL:mg "range"=none) (bh:mg "len"=none):Dn P w K mg base 2 "_law_part_list" kM (EW K):=by
 refine F.oA nq fun cdv A outer s H vs Q E hr h=>?_
 obtain ⟨⟨r,l,ws,us,ps,rfl,hr0,hP,hl,hR,hN,hle,q⟩⟩:=h
 refine ⟨_,(@cF.h _ _ _ (aj (cC (dZ (bW.pt (gK (dJ (dB (aH (c7 K) (by rfl) aM jW (af (qv 0) (af (jB uP rfl c8) ao))))) (f_ (aU pL (aH (bY K) (by rfl) bh dF (af (qv 0) ao)) (aH (bY K) (by rfl) bh dF (af (qv 1) ao)) (aX _)))))) (au (aO fk)) aT)
  (aj (dR eL rfl (dX (by rfl) bL (af (aH (bY K) (by rfl) bh dF (af (qv 1) ao)) ao)) (aR (i:=2) nq.nd) (aj (aN (i:=3) nq.nd (aG (aK K) (qv 0) (qv 2)))
  (aj (cC (dZ (bW.pt (gK (dJ (dB (aH (c7 K) (by rfl) aM jW (af (qv 3) (af (jB Q5 rfl jq) ao))))) (f_ (aU pL (aH (bY K) (by rfl) bh dF (af (qv 3) ao)) ai (aX _)))))) (au (aO fk)) aT)
  (aj (cC (dZ (bW.pt (gK (dJ (dB (aH (c7 K) (by rfl) aM jW (af (aG (br K) (qv 3) ai) (af (jB Gq rfl lO) ao))))) (f_ (dJ (dB (aH (c7 K) (by rfl) aM jW (af (aG (br K) (qv 3) ai) (af (jB Gq rfl lO) ao))))))))) (au (aO fk)) aT)
  (aj (cC (dZ (bW.pt (gK (dJ (dB (bf e_ hr (af (aG (br K) (qv 3) ai) ao)))) (f_ (dJ (dB (bf e_ hr (af (aG (br K) (qv 3) ai) ao)))))))) (au (aO fk)) aT)
  (au (cC (aU (PN K hr.units) (qv 3) (jC (af (aG (o7 K) (aG (aK K) (qv 1) (qv 2)) ai) (af (aG (o7 K) (aG (aK K) (qv 1) (qv 2)) ai) (af (aG (o7 K) (aG (aK K) (qv 1) (qv 2)) ai) (af (aG (o7 K) (aG (aK K) (qv 1) (qv 2)) ai) ao))))) (aX _)) (au (aO fk)) aT)))))))
  (au (aO fk))))),?_⟩
 have hwl:=hP.length
 have VB:=hR.len
 refine ⟨false,?_,cM ?_⟩
 . refine ⟨_,Z,_,_,_,_,Z,gH.lst hr0,iB,_,Z,cM ?_⟩
   refine ⟨_,Z,_,_,Z, .inl (aC.of hr0),_,Z,_,_,Z, .inl hl,Z,_,Z,?_,Z⟩
   show (!decide (V.int (ws.length:Int)=V.int (us.length:Int)))=false
   rw [bM (by rw [hwl,VB])]
   rfl
 refine ⟨_,Z,l,us,Z, .inl hl,_,Z,by omega,by omega,?_⟩
 refine fX (lo:=0) (n:=((us.length:Nat):Int).toNat) (fun i σ H'=>aI H H'/\∃(s1 s2:Option V),σ=[some (.ref r),some (.ref l),s1,s2]) ⟨aI.refl _,none,none,Z⟩ ?_ ?_
 . rintro i σ H' hi ⟨g,s1,s2,rfl⟩
   have e0:(0:Int)+(i:Int)=((i:Nat):Int):=by omega
   rw [e0]
   have hi':i<ps.length:=by omega
   have ep:=a_ hi'
   obtain ⟨t,et,ht⟩:=hP.get ep
   obtain ⟨u,xs,eu,hu,x0,x1,x2,x3⟩:=(hR.mono g).at_ i _ ep
   have ht':=g _ _ ht
   obtain ⟨n1,n2⟩:=hN _ (uw hi')
   have hr1:=g _ _ hr0
   have hl1:=g.seq hl
   refine ⟨_,Z,_,Z,r,ws,i, .ref t,Z,Z,aC.of hr1,jk et,?_⟩
   refine ⟨false,⟨_,Z,_,_,_,_,Z,gH.tup ht',iB,_,Z,cM ⟨_,Z,_,_,Z, .inr (cJ.of ht'),Z,_,Z,Z,Z⟩⟩,cM ?_⟩
   refine ⟨false,⟨_,Z,t,_,_,_,Z,Z,cJ.of ht',Z,_,_,_,_,Z,gH.str _,iB,_,Z,cM ⟨_,Z,t,_,_,_,Z,Z,cJ.of ht',Z,_,_,_,_,Z,gH.str _,iB,_,Z,Z,Z⟩⟩,cM ?_⟩
   refine ⟨false,⟨_,Z,t,_,_,_,Z,Z,cJ.of ht',Z,_,Z,_,Z,cM ⟨_,Z,t,_,_,_,Z,Z,cJ.of ht',Z,_,Z,_,Z,Z,Z⟩⟩,cM ?_⟩
   refine ⟨_,Z,_,Z,_,Z,l,us,i, .ref u,Z,Z,hl1,jk eu,hu.ix (i:=0) x0 ?_⟩
   refine ⟨_,Z,_,Z,l,us,i, .ref u,Z,Z,hl1,jk eu,hu.ix (i:=1) x1 ?_⟩
   refine ⟨_,Z,_,Z,l,us,i, .ref u,Z,Z,hl1,jk eu,hu.ix (i:=2) x2 ?_⟩
   refine ⟨_,Z,_,Z,l,us,i, .ref u,Z,Z,hl1,jk eu,hu.ix (i:=3) x3 ?_⟩
   refine ⟨(iV 4),fun p1 hp1=>?_⟩
   have g1:=aA hp1 (B7 ps[i])
   refine ⟨_,_,Qj (g1 _ _ ht'),Qj (p:=ps[i]) ak,CD n1 n2,CD n1 n2,_,Z,?_⟩
   rw [Xl]
   exact cM ⟨g.trans g1,_,_,Z⟩
 rintro σ H' ⟨g,s1,s2,rfl⟩
 exact q H' g
abbrev mq:Stmt:=top 60
abbrev iE:List Str:=["_law_found","_law_owners","_law_tops","_law_bottom"]
abbrev Cd:List Str:=iE.append ["_law_due_here","_law_at_here","_law_pair"]
theorem jE:aJ Cd iE (ay mq):=c5
theorem Bh (F:At K mg "_law_share_list" mq f fd) (kq:Dn P w K mg base 1 "_law_least" mj BY) (Bj:Dn P w K mg base 2 "_law_is" wX WX) (aM:mg "isinstance"=none) (c8:mg "list"=none) (jq:mg "tuple"=none) (lO:mg "str"=none) (bL:mg "range"=none) (bh:mg "len"=none):Dn P w K mg base 3 "_law_share_list" iE (xA K):=by
 refine F.oA jE fun cdv A outer s H vs Q E hr h=>?_
 obtain ⟨⟨r,lo,lt,ws,own,tops,b,rfl,hr0,hS,ho,ht,hlen,hle,b0,bz,q⟩⟩:=h
 refine ⟨_,(@cF.h _ _ _ (aj (XR (i:=4) ["_law_at_here","_law_tops","_law_owners","_law_bottom"] [none,some 2,some 1,some 3] jE.nd rfl rfl rfl (dX (by rfl) bL (af (aH (bY K) (by rfl) bh dF (af (qv 2) ao)) ao)) (fun _ _ _ _=>(aR (i:=0) (show List.Nodup (["_law_at_here","_law_tops","_law_owners","_law_bottom"] :List Str) from by decide +kernel))) (fun _ _ _ _=>(jC (af (aG (aK K) (qv 2) (qv 0)) (af (bf kq hr (af (aG (aK K) (qv 1) (qv 0)) (af (qv 3) ao))) ao)))) (fun _ _ _ _=>(aU iH (aG (aK K) (qv 1) (qv 0)) ai (aX _))) rfl (by rfl) (by rfl))
  (aj (cC (dZ (bW.pt (gK (dJ (dB (aH (c7 K) (by rfl) aM jW (af (qv 0) (af (jB uP rfl c8) ao))))) (f_ (aU pL (aH (bY K) (by rfl) bh dF (af (qv 0) ao)) (aH (bY K) (by rfl) bh dF (af (qv 4) ao)) (aX _)))))) (au (aO fk)) aT)
  (aj (dR eL rfl (dX (by rfl) bL (af (aH (bY K) (by rfl) bh dF (af (qv 4) ao)) ao)) (aR (i:=5) jE.nd) (aj (aN (i:=6) jE.nd (aG (aK K) (qv 0) (qv 5)))
  (aj (cC (dZ (bW.pt (gK (dJ (dB (aH (c7 K) (by rfl) aM jW (af (qv 6) (af (jB Q5 rfl jq) ao))))) (gK (aU pL (aH (bY K) (by rfl) bh dF (af (qv 6) ao)) ai (aX _)) (f_ (aU pL (aG (br K) (qv 6) ai) (aG (br K) (aG (aK K) (qv 4) (qv 5)) ai) (aX _))))))) (au (aO fk)) aT)
  (au (cC (bW.pt (gK (dJ (dB (aH (c7 K) (by rfl) aM jW (af (aG (br K) (qv 6) ai) (af (jB Gq rfl lO) ao))))) (f_ (dJ (dB (bf Bj hr (af (aG (br K) (qv 6) ai) (af (aG (br K) (aG (br K) (aG (aK K) (qv 4) (qv 5)) ai) ai) (af (aG (br K) (aG (br K) (aG (aK K) (qv 4) (qv 5)) ai) ai) ao))))))))) (au (aO fk)) aT)))))
  (au (aO fk)))))),?_⟩
 have tml:(tops.map V.int).length=tops.length:=aF ..
 have oml:(own.map V.str).length=own.length:=aF ..
 refine ⟨_,Z,lt,_,Z, .inl ht,_,Z,by omega,by omega,fun acc hacc=>?_⟩
 refine GQ (J:=Ip 0 _) (n:=tops.length) 0 (fun i out H1=>aI H H1/\jh H1 out (fL (own.take i) (tops.take i) b)) (by omega) ⟨aA hacc _, .nil⟩ (fun i out H1 hi _ _=>by show i<((tops.map V.int).length:Int).toNat;omega) (fun out H1 _ _=>by show ((tops.map V.int).length:Int).toNat<=tops.length;omega) ?_ ?_
 . rintro i x out H1 H2 hi ff ha ⟨g,S⟩ ⟨rfl,rfl⟩
   have e0:(0:Int)+(i:Int)=((i:Nat):Int):=by omega
   rw [e0]
   have et:=a_ hi
   have eo:=a_ (show i<own.length from by omega)
   have et':(tops.map V.int)[i]?=some (.int tops[i]):=by rw [bK,et];rfl
   have eo':(own.map V.str)[i]?=some (.str own[i]):=by rw [bK,eo];rfl
   have Y6:fL (own.take (i+1)) (tops.take (i+1)) b=fL (own.take i) (tops.take i) b++(if 0<tops[i] then [(own[i],Jm.fr tops[i] b)] else []):=by
    unfold fL
    rw [take_snoc eo,take_snoc et,List.zip_append (by rw [lu,lu];omega),List.filterMap_append]
    congr 1
    show List.filterMap _ [(own[i],tops[i])]=_
    rw [Al]
    by_cases c:0<tops[i]
    . simp [c]
    . simp [c]
   refine ⟨_,Z,_,Z,lt,_,i,_,Z,Z,g.seq ht,jk et',_,_,Z,Z,_,Z,dm (fun c=>?_) (fun c=>?_)⟩
   . have c':0<tops[i] :=dU c
     rw [aB c'] at Y6
     refine ⟨_,Z,_,Z,lo,_,i,_,Z,Z,g.seq ho,jk eo',_,Z,_,Z,lt,_,i,_,Z,Z,g.seq ht,jk et',_,Z,IG b0 bz fun p2 H3 g3 hp2=>⟨(iV 2),fun p3 hp3=>?_⟩⟩
     have g4:=aA hp3 (.tup [.str own[i], .ref p2])
     have QO:=g3.trans g4
     refine ⟨QO _ _ ha,(g.trans QO).cI hacc _,?_⟩
     rw [Y6]
     exact ((S.mono QO.tups).snoc ak (g4 _ _ hp2)).mono (kY (.inr ⟨_,QO _ _ ha,Z⟩))
   . have c':¬ 0<tops[i] :=uR (pD.mpr c)
     rw [az c',rO] at Y6
     exact ⟨ha,g,by rw [Y6];exact S⟩
 rintro du H1 ff ha ⟨g1,D1⟩
 rw [cA,<-hlen,cA] at D1
 have hr1:=g1 _ _ hr0
 have yt:=hS.mono g1.tups
 have l1:=yt.length
 have l2:=D1.length
 have l3:(fL own tops b).length<=1000:=by
  unfold fL
  refine eX (List.length_filterMap_le _ _) ?_
  rw [List.length_zip]
  omega
 have aii:∀x q,(x,q)∈fL own tops b->Jm.Sz 9000 (q.den:Int):=fun x q m=>Jy b0 bz m
 generalize fL own tops b=sh at *
 refine ⟨false,?_,cM ?_⟩
 . refine ⟨_,Z,_,_,_,_,Z,gH.lst hr1,iB,_,Z,cM ?_⟩
   refine ⟨_,Z,_,_,Z, .inl (aC.of hr1),_,Z,_,_,Z, .inl (aC.of ha),Z,_,Z,?_,Z⟩
   show (!decide (V.int (ws.length:Int)=V.int (du.length:Int)))=false
   rw [bM (by rw [l1,l2])]
   rfl
 refine ⟨_,Z,acc,du,Z, .inl (aC.of ha),_,Z,by omega,by omega,?_⟩
 refine fX (lo:=0) (n:=((du.length:Nat):Int).toNat) (fun i σ H'=>aI H1 H'/\∃(s1 s2:Option V),σ=[some (.ref r),some (.ref lo),some (.ref lt),some (.int b),some (.ref acc),s1,s2]) ⟨aI.refl _,none,none,Z⟩ ?_ ?_
 . rintro i σ H' hi ⟨g,s1,s2,rfl⟩
   have e0:(0:Int)+(i:Int)=((i:Nat):Int):=by omega
   rw [e0]
   have hi':i<sh.length:=by omega
   obtain ⟨xq,exq⟩:∃xq,sh[i]?=some xq:=⟨_,a_ hi'⟩
   obtain ⟨x,qq⟩:=xq
   obtain ⟨r1,f1,a1,a2,a3⟩:=yt.get exq
   obtain ⟨r2,f2,b1,b2,b3⟩:=D1.get exq
   have a2':=g _ _ a2
   have a3':=g _ _ a3
   have b2':=g _ _ b2
   have b3':=g _ _ b3
   have SA:=g _ _ ha
   refine ⟨_,Z,_,Z,r,ws,i, .ref r1,Z,Z,aC.of (g _ _ hr1),jk a1,?_⟩
   refine ⟨false,⟨_,Z,_,_,_,_,Z,gH.tup a2',iB,_,Z,cM ⟨_,Z,_,_,Z, .inr (cJ.of a2'),Z,_,Z,cM ?_⟩⟩,cM ?_⟩
   . refine ⟨_,Z,r1,_,_,_,Z,Z,cJ.of a2',Z,_,Z,_,Z,acc,du,i, .ref r2,Z,Z,aC.of SA,jk b1,r2,_,_,_,Z,Z,cJ.of b2',Z,Z,_,Z,?_,Z⟩
     show (!decide (V.str x=V.str x))=false
     rw [bM rfl];rfl
   refine ⟨_,Z,r1,_,_,_,Z,Z,cJ.of a2',Z,_,_,_,_,Z,gH.str _,iB,_,Z,cM ?_⟩
   refine ⟨_,Z,r1,_,_,_,Z,Z,cJ.of a2',Z,?_⟩
   refine ⟨_,Z,_,Z,acc,du,i, .ref r2,Z,Z,aC.of SA,jk b1,r2,_,_,_,Z,Z,cJ.of b2',Z,f2,_,_,_,Z,Z,cJ.of b3',Z,?_⟩
   refine ⟨_,Z,_,Z,acc,du,i, .ref r2,Z,Z,aC.of SA,jk b1,r2,_,_,_,Z,Z,cJ.of b2',Z,f2,_,_,_,Z,Z,cJ.of b3',Z,?_⟩
   exact abY a3' (Jm.den_pos _) (aii _ _ (bJ exq)) (Jm.ZE _).symm fun H3 g3=>⟨_,Z,cM ⟨g.trans g3,_,_,Z⟩⟩
 rintro σ H' ⟨g,s1,s2,rfl⟩
 exact q H' (g1.trans g)
abbrev tY:Stmt:=top 32
abbrev qp:List Str:=["_law_owners"]
abbrev Nf:List Str:=qp
theorem JR:aJ Nf qp (ay tY):=c5
theorem JS (F:At K mg "_law_model" tY f fd) (c8:mg "list"=none):Dn P w K mg base 1 "_law_model" qp (Qu K):=by
 refine F.oA JR fun cdv A outer s H vs Q E hr h=>?_
 obtain ⟨⟨l,own,n,ρ,rfl,hl,G,hle,q⟩⟩:=h
 refine ⟨_,(@cF.h _ _ _ (au (aO (aar (vA bg (lZ (kR K) (by rfl) c8 uP (af (qv 0) ao)) (vA bg (eF ao) (vA bg ai (vA bg (eF ao) (vA bg (eF ao) aaq))))) (by rfl) (by rfl) (fun z=>nomatch z) (by with_unfolding_all decide))))),?_⟩
 intro m hm
 have g0:=aA hm (.dK [])
 have em0:upd H m (.dK []) m=some (.dK []):=ak
 have je:=g0.seq hl
 generalize upd H m (.dK [])=H0 at *
 refine ⟨_,Z,l,_,Z, .inl je,fun lo hlo=>?_⟩
 have g1:=aA hlo (.lst (own.map V.str))
 have CT:upd H0 lo (.lst (own.map V.str)) lo=some (.lst (own.map V.str)):=ak
 have wY:=g1 _ _ em0
 generalize upd H0 lo (.lst (own.map V.str))=H1 at *
 refine ⟨(iV 0),fun lp uo=>?_⟩
 have g2:=aA uo (.lst [])
 have ep2:upd H1 lp (.lst []) lp=some (.lst []):=ak
 have eo2:=g2 _ _ CT
 have QS:=g2 _ _ wY
 show As _ _ (upd H1 lp (.lst [])) _
 generalize upd H1 lp (.lst [])=H2 at *
 refine ⟨(iV 0),fun la hla=>?_⟩
 have g3:=aA hla (.lst [])
 have Y7:upd H2 la (.lst []) la=some (.lst []):=ak
 have ep3:=g3 _ _ ep2
 have eo3:=g3 _ _ eo2
 have em3:=g3 _ _ QS
 show As _ _ (upd H2 la (.lst [])) _
 generalize upd H2 la (.lst [])=H3 at *
 refine ⟨(iV 0),fun lk hlk=>?_⟩
 have g4:=aA hlk (.lst [])
 have ek4:upd H3 lk (.lst []) lk=some (.lst []):=ak
 have VJ:=g4 _ _ Y7
 have ep4:=g4 _ _ ep3
 have eo4:=g4 _ _ eo3
 have VL:=g4 _ _ em3
 show upd H3 lk (.lst []) m=_/\_
 generalize upd H3 lk (.lst [])=H4 at *
 have gA:=((g0.trans g1).trans g2).trans (g3.trans g4)
 have n1:lo≠m:=fun e=>by rw [e,em0] at hlo;cases hlo
 have n2:lp≠m:=fun e=>by rw [e,wY] at uo;cases uo
 have n3:lp≠lo:=fun e=>by rw [e,CT] at uo;cases uo
 have n4:la≠m:=fun e=>by rw [e,QS] at hla;cases hla
 have n5:la≠lo:=fun e=>by rw [e,eo2] at hla;cases hla
 have n6:la≠lp:=fun e=>by rw [e,ep2] at hla;cases hla
 have n7:lk≠m:=fun e=>by rw [e,em3] at hlk;cases hlk
 have n8:lk≠lo:=fun e=>by rw [e,eo3] at hlk;cases hlk
 have n9:lk≠lp:=fun e=>by rw [e,ep3] at hlk;cases hlk
 have nA:lk≠la:=fun e=>by rw [e,Y7] at hlk;cases hlk
 refine ⟨VL,[(Sum.inr "owners", .ref lo),(Sum.inr "parts", .ref lp),(Sum.inr "bottom", .int 1),(Sum.inr "ashore", .ref la),(Sum.inr "known", .ref lk)],Z,by show 5<=15;decide,?_⟩
 have eK:x8 [] [(Sum.inr "owners", .ref lo),(Sum.inr "parts", .ref lp),(Sum.inr "bottom", .int 1),(Sum.inr "ashore", .ref la),(Sum.inr "known", .ref lk)]=eZ ⟨m,lo,lp,la,lk,[]⟩ 1:=rfl
 rw [eK]
 have u1:upd H4 m (.dK (eZ ⟨m,lo,lp,la,lk,[]⟩ 1)) m=some (.dK (eZ ⟨m,lo,lp,la,lk,[]⟩ 1)):=ak
 have u2:upd H4 m (.dK (eZ ⟨m,lo,lp,la,lk,[]⟩ 1)) lo=some (.lst (own.map V.str)):=by rw [av n1];exact eo4
 have u3:upd H4 m (.dK (eZ ⟨m,lo,lp,la,lk,[]⟩ 1)) lp=some (.lst []):=by rw [av n2];exact ep4
 have u4:upd H4 m (.dK (eZ ⟨m,lo,lp,la,lk,[]⟩ 1)) la=some (.lst []):=by rw [av n4];exact VJ
 have u5:upd H4 m (.dK (eZ ⟨m,lo,lp,la,lk,[]⟩ 1)) lk=some (.lst []):=by rw [av n7];exact ek4
 have G4:=(G.same gA).wr (a:=m) (o:= .dK (eZ ⟨m,lo,lp,la,lk,[]⟩ 1)) rfl
 have hz:∀b o,H b=some o->upd H4 m (.dK (eZ ⟨m,lo,lp,la,lk,[]⟩ 1)) b=some o:=fun b o e=>by
  rw [av (fun z=>by rw [z,hm] at e;cases e)];exact gA _ _ e
 have y1:H lo=none:=g0.free hlo
 have y2:H lp=none:=(g0.trans g1).free uo
 have y3:H la=none:=((g0.trans g1).trans g2).free hla
 have y4:H lk=none:=(((g0.trans g1).trans g2).trans g3).free hlk
 generalize upd H4 m (.dK (eZ ⟨m,lo,lp,la,lk,[]⟩ 1))=H5 at *
 refine q (bZ (bZ (bZ (bZ (bZ ρ m (n,20,⟨#[]⟩)) lo (n,21,⟨#[]⟩)) lp (n,22,⟨#[]⟩)) la (n,25,⟨#[]⟩)) lk (n,26,⟨#[]⟩)) ⟨m,lo,lp,la,lk,[]⟩ H5 (((((G4.color u1 rfl).color u2 rfl).color u3 rfl).color u4 rfl).color u5 rfl) ⟨u1,?_,u2,?_,u3,?_,⟨[],u4, .nil⟩,?_,u5,dD,Z,fun i p q e=>by simp at e⟩ (fun b o e=>⟨hz b o e,?_⟩)
 . show bZ _ lk _ m=_
   rw [cu (cy n7),cu (cy n4),cu (cy n2),cu (cy n1),dD]
 . show bZ _ lk _ lo=_
   rw [cu (cy n8),cu (cy n5),cu (cy n3),dD]
 . show bZ _ lk _ lp=_
   rw [cu (cy n9),cu (cy n6),dD]
 . show bZ _ lk _ la=_
   rw [cu (cy nA),dD]
 . rw [cu (aE e y4),cu (aE e y3),cu (aE e y2),cu (aE e y1),cu (aE e hm)]
abbrev vU:Stmt:=top 34
abbrev sy:List Str:=["_law_owners","_law_name_here"]
abbrev OH:List Str:=sy.append ["_law_at_here"]
theorem Bl:aJ OH sy (ay vU):=c5
theorem Ng (F:At K mg "_law_seat" vU f fd) (bh:mg "len"=none) (bL:mg "range"=none):Dn P w K mg base 1 "_law_seat" sy (U0 K):=by
 refine F.oA Bl fun cdv A outer s H vs Q E hr h=>?_
 obtain ⟨⟨l,own,o,rfl,hl,ho,hle,q⟩⟩:=h
 refine ⟨_,(@cF.h _ _ _ (aj (dR eL rfl (dX (by rfl) bL (af (aH (bY K) (by rfl) bh dF (af (qv 0) ao)) ao)) (aR (i:=2) Bl.nd) (au (cC (aU i6 (aG (aK K) (qv 0) (qv 2)) (qv 1) (aX _)) (au (aO (qv 2))) aT)))
  (au (aO (zu uU ai))))),?_⟩
 have ll:(own.map V.str).length=own.length:=aF _
 refine ⟨_,Z,l,_,Z, .inl hl,_,Z,by omega,by omega,?_⟩
 refine fX (lo:=0) (n:=(((own.map V.str).length:Nat):Int).toNat) (fun i σ H'=>H'=H/\o∉own.take i/\∃s2,σ=[some (.ref l),some (.str o),s2]) ⟨Z,by simp,_,Z⟩ ?_ ?_
 . rintro i σ H' hi ⟨rfl,hn,s2,rfl⟩
   have e0:(0:Int)+(i:Int)=((i:Nat):Int):=by omega
   rw [e0]
   have hio:i<own.length:=by omega
   have ei:=a_ hio
   refine ⟨_,Z,_,Z,l,_,_,_,Z,Z,hl,aP (by rw [bK,ei];rfl),_,Z,Z,_,Z,dm (fun c=>?_) (fun c=>?_)⟩
   . have c':own[i]=o:=V.str.inj (dU c)
     refine ⟨_,Z,?_⟩
     have:own.idxOf o=i:=by
      have h1:own.idxOf o<=i:=by
       rcases Nat.lt_or_ge i (own.idxOf o) with z|z
       . exact absurd c' (by simpa using List.not_of_lt_findIdx z)
       . exact z
      rcases Nat.lt_or_ge (own.idxOf o) i with z|z
      . exact absurd (bJ (i:=own.idxOf o) (by rw [List.getElem?_take,aB z];exact I_ ho)) hn
      . omega
     rw [<-this];exact q
   . refine ⟨Z,fun m=>?_,_,Z⟩
     rw [take_snoc ei] at m
     rcases eV.mp m with z|z
     . exact hn z
     . exact c (bM (by rw [ee.mp z]))
 rintro σ H' ⟨rfl,hn,s2,rfl⟩
 rw [show (((own.map V.str).length:Nat):Int).toNat=own.length from by omega,cA] at hn
 exact absurd ho hn
abbrev oK:Stmt:=top 35
abbrev lP:List Str:=["_law_model_here","_law_name_here","_law_owner","_law_worth","_law_weight"]
abbrev FE:List Str:=lP.append ["_law_tops"]
theorem vV:aJ FE lP (ay oK):=c5
theorem DM (F:At K mg "_law_new_part" oK f fd) (xJ:Dn P w K mg base 1 "_law_seat" sy (U0 K)):Dn P w K mg base 2 "_law_new_part" lP Jb:=by
 refine F.oA vV fun cdv A outer s H vs Q E hr h=>?_
 obtain ⟨⟨n,ρ,B,b,x,o,wo,we,rfl,G,h,ho,ff,hpl,hkl,q⟩⟩:=h
 refine ⟨_,(@cF.h _ _ _ (aj (uK (i:=5) ["_law_one"] [none] vV.nd rfl rfl rfl (dN K (bP (bU hr) (qv 0) bg)) (fun _ _ _ _=>(aR (i:=0) (show List.Nodup (["_law_one"] :List Str) from by decide +kernel))) (fun _ _ _ _=>ai) rfl (by rfl) (by rfl))
  (aj (sW (bP (bU hr) (qv 0) bg) (sX (qv 5) (bf xJ hr (af (bP (bU hr) (qv 0) bg) (af (qv 2) ao))) set_list))
  (aj (cT (pX uO uM uN fY (bP (bU hr) (qv 0) bg) (af (eF (af (qv 1) (af (qv 2) (af (qv 3) (af (qv 4) (af (qv 5) ao)))))) ao)))
  (au (cT (pX uO uM uN fY (bP (bU hr) (qv 0) bg) (af (qv 1) ao)))))))),?_⟩
 refine ⟨_,Z,B.m,_,Z,cN.k (k:=Sum.inr "owners") h.om,B.lo,Z,⟨_,aC.of h.oo⟩,fun l0 je=>?_⟩
 have Hx:(b.own.map V.str).length=b.own.length:=aF _
 refine iS (J:=uT K B.lo) (n:=(b.own.map V.str).length) 0 (fun i o H'=>aI H H'/\o=(List.replicate i (0:Int)).map V.int) (by omega) ⟨aA je _,Z⟩ (fun i o H' hi _ hp=>⟨_,_,aC.of (hp.1 _ _ h.oo),a_ hi⟩) (fun o H' _ hp=>⟨_,aC.of (hp.1 _ _ h.oo),aS _⟩) ?_ ?_
 . rintro i y o H2 H3 hi ff ha ⟨g,e⟩ ⟨rfl,hy⟩
   refine ⟨ha,g.cI je _,?_⟩
   subst e
   rw [List.replicate_succ',bD]
   rfl
 rintro o1 H1 _ ha ⟨g1,e⟩
 subst e
 rw [Hx] at ha
 have h1:=h.mono g1
 have il:b.own.idxOf o<b.own.length:=List.idxOf_lt_length_of_mem ho
 have rl:((List.replicate b.own.length (0:Int)).map V.int).length=b.own.length:=by rw [aF,mZ]
 refine ⟨_,Z,B.m,_,Z,cN.k (k:=Sum.inr "bottom") h1.om,_,Z,_,Z,B.m,_,Z,cN.k (k:=Sum.inr "owners") h1.om,_,Z,⟨⟨B.lo,b.own,o,Z,aC.of h1.oo,ho,ff,?_⟩⟩⟩
 refine ⟨l0,_,_,_,Z,Z,ha,by rw [rl];exact BZ il,?_⟩
 rw [<-wu]
 have g2:=g1.cI je (.lst (((List.replicate b.own.length (0:Int)).set (b.own.idxOf o) b.bot).map V.int))
 have ha2:upd H1 l0 (.lst (((List.replicate b.own.length (0:Int)).set (b.own.idxOf o) b.bot).map V.int)) l0=some (.lst (((List.replicate b.own.length (0:Int)).set (b.own.idxOf o) b.bot).map V.int)):=ak
 show xo _ _ _ _ (upd H1 l0 (.lst (((List.replicate b.own.length (0:Int)).set (b.own.idxOf o) b.bot).map V.int)))
 generalize upd H1 l0 (.lst (((List.replicate b.own.length (0:Int)).set (b.own.idxOf o) b.bot).map V.int))=H2 at *
 have h2:=h.mono g2
 refine ⟨_,Z,B.m,_,Z,cN.k (k:=Sum.inr "parts") h2.om, .inl ⟨Z,_,aC.of h2.op⟩,_,Z,_,Z,_,Z,_,Z,_,Z,(iV 5),fun p hp=>?_⟩
 have g3:=aA hp (fQ ⟨x,o,wo,we,(List.replicate b.own.length (0:Int)).set (b.own.idxOf o) b.bot⟩ l0)
 have hp3:upd H2 p (fQ ⟨x,o,wo,we,(List.replicate b.own.length (0:Int)).set (b.own.idxOf o) b.bot⟩ l0) p=some (fQ ⟨x,o,wo,we,(List.replicate b.own.length (0:Int)).set (b.own.idxOf o) b.bot⟩ l0):=ak
 show m_ _ (upd H2 p (fQ ⟨x,o,wo,we,(List.replicate b.own.length (0:Int)).set (b.own.idxOf o) b.bot⟩ l0)) _
 generalize upd H2 p (fQ ⟨x,o,wo,we,(List.replicate b.own.length (0:Int)).set (b.own.idxOf o) b.bot⟩ l0)=H3 at *
 have zZ:H p=none:=g2.free hp
 have FF:=g2.trans g3
 have cl0:ρ l0=none:=G.none je
 have np:p≠l0:=fun e=>by rw [e,ha2] at hp;cases hp
 have cp:bZ ρ l0 (n,24,x) p=none:=by rw [cu np];exact G.none zZ
 have h3:aV n (bZ (bZ ρ l0 (n,24,x)) p (n,23,x)) B H3 b:=((h.mono FF).col cl0).col cp
 have G3:Gh (bZ (bZ ρ l0 (n,24,x)) p (n,23,x)) H3:=((G.same FF).color (g3 _ _ ha2) rfl).color hp3 rfl
 have F3:Fr n ρ H (bZ (bZ ρ l0 (n,24,x)) p (n,23,x)) H3:=((Fr.of_same FF).qT je).qT zZ
 have c1:bZ (bZ ρ l0 (n,24,x)) p (n,23,x) p=some (n,23,x):=dD
 have c2:bZ (bZ ρ l0 (n,24,x)) p (n,23,x) l0=some (n,24,x):=by rw [cu (cy np),dD]
 have MU:=g3 _ _ ha2
 refine ⟨B.lp,_,_,Z,Z,h3.op,by rw [aF,h.ql];exact dW hpl,?_⟩
 rw [show B.qs.map (fun q=>V.ref q.1)++[V.ref p]=(B.qs++[(p,l0)]).map (fun q=>V.ref q.1) from by rw [bD];rfl]
 have h4:=h3.UZ G3 (p:=⟨x,o,wo,we,(List.replicate b.own.length (0:Int)).set (b.own.idxOf o) b.bot⟩) (q:=(p,l0)) hp3 MU c1 c2
 have G4:=G3.wr (a:=B.lp) (o:= .lst ((B.qs++[(p,l0)]).map fun q=>V.ref q.1)) rfl
 have F4:=F3.trans (Fr.write (o:= .lst ((B.qs++[(p,l0)]).map fun q=>V.ref q.1)) h3.cp)
 generalize upd H3 B.lp (.lst ((B.qs++[(p,l0)]).map fun q=>V.ref q.1))=H4 at *
 refine ⟨_,Z,B.m,_,Z,cN.k (k:=Sum.inr "known") h4.om, .inl ⟨Z,_,aC.of h4.ok⟩,_,Z,B.lk,_,_,Z,Z,h4.ok,by rw [aF];exact dW hkl,?_⟩
 rw [show b.cS.map V.str++[V.str x]=(b.cS++[x]).map V.str from by rw [bD];rfl]
 exact q _ _ _ (G4.wr rfl) (h4.Qt G4 (b.cS++[x])) rfl (F4.trans (Fr.write h4.ck))
abbrev lA:Stmt:=top 61
abbrev jF:List Str:=["_law_hold","_law_model_here"]
abbrev Bm:List Str:=jF.append ["_law_whole","_law_part"]
theorem lB:aJ Bm jF (ay lA):=c5
theorem Ac {T:TC} (F:At K mg "_law_tells_parts" lA f fd) (e_:Dn P w K mg base 1 "_law_int" kL EC) (oM:Dn P w K mg base 2 "_law_part_list" kM (EW K)) (gF:Dn P w K mg base 3 "_law_share_list" iE (xA K))
  (vW:Mn P w K mg base 1 T.hold "parts" qc (Qg T)) (ko:Mn P w K mg base 1 T.hold "whole" l_ (GV T)) (tZ:Mn P w K mg base 4 T.hold "shares" nW (IQ T)) (fV:mg "sum"=none):Dn P w K mg base 5 "_law_tells_parts" jF (uI 1 T K):=by
 refine F.oA lB fun cdv A outer s H vs Q E hr h=>?_
 obtain ⟨⟨n,m,ρ,A,B,st,b,c,rfl,nm,hh,hb,gd,hc,FG,hkn,q⟩⟩:=h
 refine ⟨_,(@cF.h _ _ _ (aj (aN (i:=2) lB.nd (yi ko hr (qv 0)))
  (aj (cC (bW.pt (gK (dJ (dB (bf e_ hr (af (qv 2) ao)))) (f_ (aU pL (qv 2) (aH (lV K rfl) (by rfl) fV yw (af (gC ["_law_part"] [none] rfl (dN K (bP (bU hr) (qv 1) bg)) (fun _ _ _ _=>(aR (i:=0) (show List.Nodup (["_law_part"] :List Str) from by decide +kernel))) (fun _ _ _ _=>(aG (aK K) (qv 0) ai)) rfl (by rfl)) ao)) (aX _))))) (au (aO fk)) aT)
  (aj (cC (dJ (dB (bf oM hr (af (yi vW hr (qv 0)) (af (bP (bU hr) (qv 1) bg) ao))))) (au (aO fk)) aT)
  (aj (dR eL rfl (dN K (bP (bU hr) (qv 1) bg)) (aR (i:=3) lB.nd) (au (cC (dJ (dB (bf gF hr (af (gO tZ hr (qv 0) (af (aG (aK K) (qv 3) ai) ao)) (af (bP (bU hr) (qv 1) bg) (af (aG (aK K) (qv 3) ai) (af (bP (bU hr) (qv 1) bg) ao))))))) (au (aO fk)) aT)))
  (au (aO fk))))))),?_⟩
 have pl:=gd.pl
 have rl:=gd.rel.len
 have wl:=gd.rel.whole
 refine ⟨_,Z,A.a,A.dx,_,Z,hh.h.oa,Z,⟨⟨n,ρ,A,st,Z,hh.h,by omega,fun H1 g1=>?_⟩⟩⟩
 have gG:=hh.mono g1
 have hb1:=hb.mono g1
 have VM:=hb1.op
 have ur:(B.qs.map fun q=>V.ref q.1).length=b.ah.length:=by rw [aF];exact hb.ql
 refine ⟨_,Z,_,Z,_,Z,cM ?_⟩
 refine ⟨_,Z,_,Z,B.m,_,Z,cN.k (k:=Sum.inr "parts") hb1.om,B.lp,Z,⟨_,aC.of VM⟩,fun ac hac=>?_⟩
 refine iS (J:=uT K B.lp) (n:=b.ah.length) 0 (fun i o H'=>aI H1 H'/\o=((b.ah.take i).map (fun p:BP=>p.wo)).map V.int) (by omega) ⟨aA hac _,Z⟩ (fun i o H' hi _ hp=>⟨_,_,aC.of (hp.1 _ _ VM),a_ (by rw [ur];exact hi)⟩) (fun o H' _ hp=>⟨_,aC.of (hp.1 _ _ VM),by rw [ur];exact aS _⟩) ?_ ?_
 . rintro j y o H2 H3 hj ff ha ⟨g,e⟩ ⟨rfl,hy⟩
   have ej:=a_ hj
   obtain ⟨qq,eq,k1,k2,_,_⟩:=hb1.find ej
   have ey:=hy _ (aC.of (g _ _ VM))
   rw [bK,eq] at ey
   cases ey
   refine ⟨_,Z,qq.1,_,_,_,Z,Z,aC.of (g _ _ k1),aP (j:=2) rfl,ha,g.cI hac _,?_⟩
   subst e
   rw [take_snoc ej,bD,bD]
   rfl
 rintro o H2 _ ha ⟨g2,e⟩
 rw [cA] at e
 subst e
 refine ⟨ac,b.ah.map (fun p:BP=>p.wo),Z,aC.of ha,Z,_,Z,?_⟩
 have ew:bH st=(b.ah.map (fun p:BP=>p.wo)).sum:=wl
 rw [show (!decide (V.int (bH st)=V.int (b.ah.map (fun p:BP=>p.wo)).sum))=false from by rw [bM (by rw [ew])];rfl]
 refine cM ?_
 have kU:=gG.mono g2
 have hb2:=hb1.mono g2
 refine ⟨_,Z,A.a,A.dx,_,Z,kU.h.oa,Z,⟨⟨n,ρ,A,st,Z,kU.h,by omega,fun r ws H3 g3 hr hw3 hP3=>?_⟩⟩⟩
 have Bo:=hb2.mono g3
 refine ⟨_,Z,B.m,_,Z,cN.k (k:=Sum.inr "parts") Bo.om,⟨⟨r,B.lp,ws,_,st.ah,Z,hw3,hP3,aC.of Bo.op,gd.rel.rows Bo,gd.nms,by omega,fun H4 g4=>⟨_,Z,cM ?_⟩⟩⟩⟩
 have nJ:=(kU.mono g3).mono g4
 have CU:=Bo.mono g4
 have o4:aI (out ρ H) (out ρ H4):=iT (((g1.trans g2).trans g3).trans g4)
 clear gG hb1 kU hb2 Bo hw3 hP3 ha hac hr g1 g2 g3 g4 VM
 refine ⟨_,Z,B.m,_,Z,cN.k (k:=Sum.inr "parts") CU.om,B.lp,Z,⟨_,aC.of CU.op⟩,?_⟩
 refine lT (K:=K) (xs:=B.qs.map fun q=>V.ref q.1) (fun i σ H'=>∃ρ' A' s3,σ=[some (.ref A.a),some (.ref B.m),some (.int (bH st)),s3]/\HH T n ρ' A' H' { st with kn:=st.kn+100*i }/\aV m ρ' B H' b/\A'.a=A.a/\aI (out ρ H) (out ρ' H'))
  ⟨ρ,A,_,Z,nJ,CU,Z,o4⟩ (fun i σ H' _ hp=>by obtain ⟨_,_,_,_,_,h,_⟩:=hp;exact aC.of h.op) ?_ ?_
 . rintro i y σ H5 hy ⟨ρ5,A5,s3,rfl,wU,FH,FI,o5⟩
   rw [bK] at hy
   obtain ⟨qq,eq,rfl⟩:=lS.mp hy
   have hib:i<b.ah.length:=by rw [<-hb.ql];exact (d7.mp eq).1
   have ei:=a_ hib
   obtain ⟨p,ep,e1,e2,_⟩:=gd.rel.at ei
   have iD:=bJ ep
   have hqm:=bJ ei
   obtain ⟨k1,k2,_,_⟩:=FH.pt i _ qq ei eq
   refine ⟨_,Z,A.a,A5.dx,_,Z,by rw [<-FI];exact wU.h.oa,Z,_,Z,qq.1,_,_,_,Z,Z,aC.of k1,aP (j:=0) rfl,⟨⟨n,ρ5,A5,_,i,p,by rw [FI,e1];rfl,wU,ep,by show st.kn+100*i+100<=1000000;omega,fun r ws ρ6 A6 H6 CQ VN f6 hr VC cr hSh=>?_⟩⟩⟩
   have wZ:=FH.other f6 wU.g (cy nm)
   obtain ⟨k16,k26,_,_⟩:=wZ.pt i _ qq ei eq
   have esh:AI { st with kn:=st.kn+100*i } p=fL b.own (b.ah[i]).tops b.bot:=RY gd.AW gd.rel hh.wf gd.jM iD hqm e1
   rw [esh] at hSh
   have b1:=gd.jM.b1
   refine ⟨_,Z,B.m,_,Z,cN.k (k:=Sum.inr "owners") wZ.om,_,Z,qq.1,_,_,_,Z,Z,aC.of k16,aP (j:=4) rfl,_,Z,B.m,_,Z,cN.k (k:=Sum.inr "bottom") wZ.om,⟨⟨r,B.lo,qq.2,ws,b.own,(b.ah[i]).tops,b.bot,Z,VC,hSh,aC.of wZ.oo,aC.of k26,(gd.jM.tl _ hqm).symm,by have:=gd.jM.ol;omega,by omega,gd.jM.bz.mono (by decide),fun H7 g7=>⟨_,Z,cM ?_⟩⟩⟩⟩
   refine ⟨ρ6,A6,_,Z,?_,wZ.mono g7,VN.trans FI,(o5.trans f6.out).trans (iT g7)⟩
   have:=CQ.mono g7
   rw [show st.kn+100*(i+1)=st.kn+100*i+100 by omega]
   exact this
 rintro σ H5 ⟨ρ5,A5,s3,rfl,wU,FH,FI,o5⟩
 refine q ρ5 A5 H5 _ wU ?_ FH FI o5
 rw [ur];omega
abbrev kN:Stmt:=top 62
abbrev i_:List Str:=["_law_hold","_law_model_here"]
abbrev Ad:List Str:=i_.append ["_law_found","_law_at_here","_law_one","_law_due_here"]
theorem gu:aJ Ad i_ (ay kN):=c5
theorem zL {T:TC} (F:At K mg "_law_tells_landed" kN f fd) (e_:Dn P w K mg base 1 "_law_int" kL EC) (gF:Dn P w K mg base 3 "_law_share_list" iE (xA K)) (t7:Mn P w K mg base 1 T.hold "landed" nX (LL T)) (aM:mg "isinstance"=none) (c8:mg "list"=none) (jq:mg "tuple"=none) (lO:mg "str"=none) (bL:mg "range"=none) (bh:mg "len"=none):Dn P w K mg base 4 "_law_tells_landed" i_ (uI 1 T K):=by
 refine F.oA gu fun cdv A outer s H vs Q E hr h=>?_
 obtain ⟨⟨n,m,ρ,A,B,st,b,c,rfl,nm,hh,hb,gd,hc,FG,hkn,q⟩⟩:=h
 refine ⟨_,(@cF.h _ _ _ (aj (aN (i:=2) gu.nd (yi t7 hr (qv 0)))
  (aj (cC (dZ (bW.pt (gK (dJ (dB (aH (c7 K) (by rfl) aM jW (af (qv 2) (af (jB uP rfl c8) ao))))) (f_ (aU pL (aH (bY K) (by rfl) bh dF (af (qv 2) ao)) (aH (bY K) (by rfl) bh dF (af (bP (bU hr) (qv 1) bg) ao)) (aX _)))))) (au (aO fk)) aT)
  (aj (dR eL rfl (dX (by rfl) bL (af (aH (bY K) (by rfl) bh dF (af (qv 2) ao)) ao)) (aR (i:=3) gu.nd) (aj (aN (i:=4) gu.nd (aG (br K) (qv 2) (qv 3)))
  (aj (aN (i:=5) gu.nd (aG (aK K) (bP (bU hr) (qv 1) bg) (qv 3)))
  (aj (cC (dZ (bW.pt (gK (dJ (dB (aH (c7 K) (by rfl) aM jW (af (qv 4) (af (jB Q5 rfl jq) ao))))) (gK (aU pL (aH (bY K) (by rfl) bh dF (af (qv 4) ao)) ai (aX _)) (f_ (dJ (dB (bf e_ hr (af (aG (br K) (qv 4) ai) ao))))))))) (au (aO fk)) aT)
  (aj (cC (dZ (bW.pt (gK (dJ (dB (aH (c7 K) (by rfl) aM jW (af (aG (br K) (qv 4) ai) (af (jB Gq rfl lO) ao))))) (f_ (dJ (dB (aH (c7 K) (by rfl) aM jW (af (aG (br K) (qv 4) ai) (af (jB Gq rfl lO) ao))))))))) (au (aO fk)) aT)
  (aj (cC (aU pL (jC (af (aG (br K) (qv 4) ai) (af (aG (br K) (qv 4) ai) (af (aG (br K) (qv 4) ai) ao)))) (jC (af (aG (aK K) (qv 5) ai) (af (aG (aK K) (qv 5) ai) (af (aG (aK K) (qv 5) ai) ao)))) (aX _)) (au (aO fk)) aT)
  (au (cC (dJ (dB (bf gF hr (af (aG (br K) (qv 4) ai) (af (bP (bU hr) (qv 1) bg) (af (aG (aK K) (qv 5) ai) (af (aG (aK K) (qv 5) ai) ao))))))) (au (aO fk)) aT))))))))
  (au (aO fk)))))),?_⟩
 refine ⟨_,Z,A.a,A.dx,_,Z,hh.h.oa,Z,⟨⟨n,ρ,A,st,Z,hh,fun r ws H1 g1 hr hr1 hL=>?_⟩⟩⟩
 rw [gd.jZ.1] at hL
 cases hL
 have hb1:=hb.mono g1
 obtain ⟨vs,hv,hA⟩:=hb1.oa
 rw [gd.jZ.2] at hA
 cases hA
 refine ⟨false,?_,cM ?_⟩
 . refine ⟨_,Z,_,_,_,_,Z,gH.lst hr1,iB,_,Z,cM ?_⟩
   exact ⟨_,Z,_,_,Z, .inl (aC.of hr1),_,Z,B.m,_,Z,cN.k (k:=Sum.inr "ashore") hb1.om,_,_,Z, .inl (aC.of hv),Z,_,Z,Z,Z⟩
 refine ⟨_,Z,r,_,Z, .inl (aC.of hr1),_,Z,by decide,by decide,?_⟩
 refine fX (lo:=0) (n:=0) (fun i σ H'=>H'=H1/\σ=[some (.ref A.a),some (.ref B.m),some (.ref r),none,none,none]) ⟨Z,Z⟩ ?_ ?_
 . intro i σ H' hi
   omega
 rintro σ H' ⟨rfl,rfl⟩
 exact q ρ A H' st.kn (hh.mono g1) (by omega) hb1 rfl (iT g1)
abbrev t8:Stmt:=top 63
abbrev qt:List Str:=["_law_hold","_law_model_here"]
abbrev Nh:List Str:=qt.append ["_law_roster"]
theorem z_:aJ Nh qt (ay t8):=c5
theorem JT {T:TC} (F:At K mg "_law_tells" t8 f fd) (mw:Dn P w K mg base 5 "_law_tells_parts" jF (uI 1 T K)) (lC:Dn P w K mg base 4 "_law_tells_landed" i_ (uI 1 T K)) (t9:Mn P w K mg base 1 T.hold "roster" nT (LJ T)) (aM:mg "isinstance"=none) (c8:mg "list"=none):Dn P w K mg base 6 "_law_tells" qt (uI 2 T K):=by
 refine F.oA z_ fun cdv A outer s H vs Q E hr h=>?_
 obtain ⟨⟨n,m,ρ,A,B,st,b,c,rfl,nm,hh,hb,gd,hc,FG,hkn,q⟩⟩:=h
 refine ⟨_,(@cF.h _ _ _ (aj (aN (i:=2) z_.nd (yi t9 hr (qv 0)))
  (aj (cC (dZ (bW.pt (gK (dJ (dB (aH (c7 K) (by rfl) aM jW (af (qv 2) (af (jB uP rfl c8) ao))))) (f_ (aU (PN K hr.units) (qv 2) (bP (bU hr) (qv 1) bg) (aX _)))))) (au (aO fk)) aT)
  (au (aO (E_ (bf mw hr (af (qv 0) (af (qv 1) ao))) (E9 (bf lC hr (af (qv 0) (af (qv 1) ao)))))))))),?_⟩
 refine ⟨_,Z,A.a,A.dx,_,Z,hh.h.oa,Z,⟨⟨n,ρ,A,st,Z,hh.h,fun r hr=>?_⟩⟩⟩
 have g1:=aA hr (.lst (st.own.map V.str))
 have hr1:upd H r (.lst (st.own.map V.str)) r=some (.lst (st.own.map V.str)):=ak
 have gG:=hh.mono g1
 have hb1:=hb.mono g1
 have eo:=gd.rel.own
 show gh 2 (.ref r) _ (upd H r (.lst (st.own.map V.str))) _
 generalize upd H r (.lst (st.own.map V.str))=H1 at *
 rw [eo] at hr1
 refine ⟨false,?_,cM ?_⟩
 . refine ⟨_,Z,_,_,_,_,Z,gH.lst hr1,iB,_,Z,cM ?_⟩
   refine ⟨_,Z,_,Z,B.m,_,Z,cN.k (k:=Sum.inr "owners") hb1.om,_,_, .lst (aC.of hr1) (GY b.own), .lst (aC.of hb1.oo) (GY b.own),CL b.own FG,CL b.own FG,_,Z,?_,Z⟩
   rw [Xz]
   rfl
 refine ⟨_,Z,_,Z,⟨⟨n,m,ρ,A,B,st,b,c,Z,nm,gG,hb1,gd,hc,FG,by omega,fun ρ2 A2 H2 k kU hk hb2 ea2 o2=>⟨true,Z,jX ?_⟩⟩⟩⟩
 refine ⟨_,Z,_,Z,⟨⟨n,m,ρ2,A2,B,_,b,c,by rw [ea2];rfl,nm,kU,hb2,YL gd k,hc,FG,by show k+15000*1<=1000000;omega,fun ρ3 A3 H3 k3 kW hk3 Bo Y7 o3=>?_⟩⟩⟩
 have hk3:k3<=k+15000*1:=hk3
 exact q ρ3 A3 H3 k3 kW (by omega) Bo (Y7.trans ea2) (((iT g1).trans o2).trans o3)
abbrev t_:Stmt:=top 64
abbrev qu:List Str:=["_law_owners"]
abbrev Ni:List Str:=qu.append ["_law_hold","_law_owner"]
theorem ua:aJ Ni qu (ay t_):=c5
theorem JU {T:TC} (F:At K mg "_law_begin" t_ f fd) (Nj:Cn P w K mg base 3 "Hold" T.hold ["self"] (Qc T)) (xK:Mn P w K mg base 3 T.hold "sign" rZ (Qf T)):Dn P w K mg base 5 "_law_begin" qu (Qk T K):=by
 refine F.oA ua fun cdv A outer s H vs Q E hr h=>?_
 obtain ⟨⟨l,own,n,ρ,rfl,hl,cl,nd,hnm,hle,g,q⟩⟩:=h
 refine ⟨_,(@cF.h _ _ _ (aj (aN (i:=1) ua.nd (Vq Nj hr))
  (aj (dR eL rfl (dN K (qv 0)) (aR (i:=2) ua.nd) (au (cT (gO xK hr (qv 1) (af (qv 2) ao)))))
  (au (aO (qv 1)))))),?_⟩
 intro x dx hx hdx hne
 refine ⟨⟨x,dx,ρ,n,Z,ak,(g.alloc hdx).alloc (by rw [av (cy hne)];exact hx),g.none hx,fun ρ1 A H1 ea hh k=>⟨Z,?_⟩⟩⟩
 have F1:Fr n ρ H ρ1 H1:=fun b o e _=>k b o (by rw [av (aE e hx),av (aE e hdx)];exact e) (aE e hx)
 refine ⟨_,Z,l,Z,⟨_,F1.seq hl cl⟩,?_⟩
 refine lT (K:=K) (xs:=own.map V.str) (fun i σ H'=>∃ρ' A' s2,σ=[some (.ref l),some (.ref x),s2]/\A'.a=x/\HH T n ρ' A' H' ((own.take i).foldl gJ hs0)/\Fr n ρ H ρ' H')
  ⟨ρ1,A,none,Z,ea,hh,F1⟩ (fun i σ H' _ hp=>by obtain ⟨_,_,_,_,_,_,f⟩:=hp;exact f.seq hl cl) ?_ ?_
 . rintro i y σ H' hy ⟨ρ',A',s2,rfl,ea',Fe,F'⟩
   rw [bK] at hy
   obtain ⟨o,eo,rfl⟩:=lS.mp hy
   have hi:=(d7.mp eo).1
   have hos:=AL (own.take i) hs0
   have adC:((own.take i).foldl gJ hs0).own=own.take i:=by rw [hos];rfl
   refine ⟨_,Z,x,A'.dx,_,Z,ea'▸Fe.h.oa,Z,_,Z,⟨⟨n,ρ',A',_,o,by rw [ea'];rfl,Fe,hnm o (bJ eo),?_,?_,fun ρ2 A2 H2 h2 e2 F2=>?_⟩⟩⟩
   . rw [adC]
     intro m
     have h2:(own.take (i+1)).Nodup:=nd.sublist (List.take_sublist _ _)
     rw [take_snoc eo] at h2
     exact (List.nodup_append.mp h2).2.2 o m o (ee.mpr rfl) rfl
   . rw [adC,lu]
     omega
   . rw [take_snoc eo,KZ]
     exact ⟨ρ2,A2,_,Z,e2.trans ea',h2,F'.trans F2⟩
 rintro σ H' ⟨ρ',A',s2,rfl,ea',Fe,F'⟩
 rw [aF,cA] at Fe
 have:=q ρ' A' H' Fe F'
 rw [ea'] at this
 exact ⟨_,Z,this⟩
abbrev xM:Stmt:=top 49
abbrev uC:List Str:=["_law_at_here"]
abbrev SD:List Str:=uC
theorem OI:aJ SD uC (ay xM):=c5
theorem OJ (F:At K mg "_law_hot" xM f fd) (bL:mg "range"=none):Dn P w K mg base 1 "_law_hot" uC R8:=by
 refine F.oA OI fun cdv A outer s H vs Q E hr h=>?_
 obtain ⟨⟨n,rfl,q⟩⟩:=h
 refine ⟨_,(@cF.h _ _ _ (au (aO (aD nE (eF (af fk ao)) (gC ["_law_k","_law_at_here"] [none,some 0] rfl (dX (by rfl) bL (af ai ao)) (fun _ _ _ _=>(aR (i:=0) (show List.Nodup (["_law_k","_law_at_here"] :List Str) from by decide +kernel))) (fun _ _ _ _=>(o9 i6 (qv 0) (qv 1) (aX _))) rfl (by rfl)))))),?_⟩
 refine ⟨(iV 1),fun p1 hp1=>?_⟩
 have g1:aI H (upd H p1 (.lst [.bl true])):=aA hp1 _
 have h1:upd H p1 (.lst [.bl true]) p1=some (.lst [.bl true]):=ak
 generalize upd H p1 (.lst [.bl true])=H1 at g1 h1
 refine ⟨10,Z,(by decide),(by decide),fun acc hacc=>?_⟩
 refine RH (n:=(10:Int).toNat) (fun i out H'=>aI H1 H'/\out=((List.range i).map fun k=>V.bl (decide (k=n)))) (by decide) ⟨aA hacc _,Z⟩ ?_ ?_
 . rintro i out H' hi ff ha ⟨g,e⟩
   refine ⟨_,Z,_,Z,Z,ha,g.cI hacc _,?_⟩
   rw [List.range_succ,bD,e]
   congr 1
   show [V.bl (decide (V.int (0+(i:Int))=V.int (n:Int)))]=[V.bl (decide (i=n))]
   congr 2
   exact decide_eq_decide.mpr ⟨fun z=>by have:=V.int.inj z;omega,fun z=>by rw [z];congr 1;omega⟩
 rintro out H' ff ha ⟨g,e⟩
 refine ⟨p1,acc,_,_,Z,Z,g _ _ h1,ha,(by rw [ff,fj];decide),fun p hp=>q p _ (g1.trans (g.trans (aA hp _))) ?_⟩
 rw [ak,e]
 show some (HO.lst (V.bl true::_))=some (HO.lst ((true::(List.range 10).map fun k=>decide (k=n)).map V.bl))
 rw [bF,fJ]
 rfl
abbrev zM:Stmt:=top 38
abbrev pB:List Str:=["_law_parts","_law_name_here"]
abbrev VO:List Str:=pB.append ["_law_at_here"]
theorem FJ:aJ VO pB (ay zM):=c5
theorem SE (F:At K mg "_law_at" zM f fd) (bh:mg "len"=none) (bL:mg "range"=none):Dn P w K mg base 1 "_law_at" pB (A8 K):=by
 refine F.oA FJ fun cdv A outer s H vs Q E hr h=>?_
 obtain ⟨⟨l,us,ws,x,rfl,hl,hW,nd,hle,q,q2⟩⟩:=h
 refine ⟨_,(@cF.h _ _ _ (aj (dR eL rfl (dX (by rfl) bL (af (aH (bY K) (by rfl) bh dF (af (qv 0) ao)) ao)) (aR (i:=2) FJ.nd) (au (cC (aU i6 (aG (o7 K) (aG (aK K) (qv 0) (qv 2)) ai) (qv 1) (aX _)) (au (aO (qv 2))) aT)))
  (au (aO (zu uU ai))))),?_⟩
 have ll:=hW.len
 refine ⟨_,Z,l,_,Z, .inl hl,_,Z,by omega,by omega,?_⟩
 refine fX (lo:=0) (n:=((us.length:Nat):Int).toNat) (fun i σ H'=>H'=H/\(∀r∈ws.take i,r.1≠x)/\∃s2,σ=[some (.ref l),some (.str x),s2]) ⟨Z,(fun _ m=>nomatch m),_,Z⟩ ?_ ?_
 . rintro i σ H' hi ⟨rfl,hn,s2,rfl⟩
   have e0:(0:Int)+(i:Int)=((i:Nat):Int):=by omega
   rw [e0]
   have hio:i<ws.length:=by omega
   have ei:=a_ hio
   obtain ⟨a,xs,ea,QT,x0,_⟩:=hW.at_ i _ ei
   refine ⟨_,Z,_,Z,l,_,_,_,Z,Z,hl,aP ea,QT.ix (i:=0) x0 ?_⟩
   refine ⟨_,Z,Z,_,Z,dm (fun c=>?_) (fun c=>?_)⟩
   . exact ⟨_,Z,q i _ ei (V.str.inj (dU c))⟩
   . refine ⟨Z,fun r hr=>?_,_,Z⟩
     rw [take_snoc ei] at hr
     rcases eV.mp hr with z|z
     . exact hn r z
     . rw [ee.mp z]
       intro e
       exact c (bM (by rw [e]))
 rintro σ H' ⟨rfl,hn,s2,rfl⟩
 refine ⟨1,Z,q2 fun r hr=>hn r ?_⟩
 rw [Aj (by omega)]
 exact hr
abbrev vX:Stmt:=top 37
abbrev sH:List Str:=["_law_script","_law_k","_law_parts"]
abbrev OL:List Str:=sH.append ["_law_spare","_law_order","_law_rows_here","_law_at_here","_law_way","_law_amount"]
theorem fR:aJ OL sH (ay vX):=c5
theorem Nk (F:At K mg "_law_rows" vX f fd) (aQ:Dn P w K mg base 1 "_law_draw" fD (lU K)) (bh:mg "len"=none) (bL:mg "range"=none) (c8:mg "list"=none) (fV:mg "sum"=none) (uD:mg "min"=none):Dn P w K mg base 2 "_law_rows" sH (Qv K):=by
 refine F.oA fR fun cdv A outer s H vs Q E hr h=>?_
 obtain ⟨⟨a,l,ns,k,us,ws,rfl,hS,h63,hk0,hk1,hl,hW,nd,hle,hw1,q⟩⟩:=h
 refine ⟨_,(@cF.h _ _ _ (aj (aN (i:=3) fR.nd (aD iQ (aH (lV K rfl) (by rfl) fV yw (af (gC ["_law_part"] [none] rfl (dN K (qv 2)) (fun _ _ _ _=>(aR (i:=0) (show List.Nodup (["_law_part"] :List Str) from by decide +kernel))) (fun _ _ _ _=>(aG (o7 K) (qv 0) ai)) rfl (by rfl)) ao)) ai))
  (aj (aN (i:=4) fR.nd (lZ (Jw rfl) (by rfl) c8 uP (af (Vn (by rfl) bL (af (aH (bY K) (by rfl) bh dF (af (qv 2) ao)) ao)) ao)))
  (aj (ie (aU i6 (bf aQ hr (af (qv 0) (af (qv 1) (af ai (af ai ao))))) ai (aX _)) (au (aN (i:=4) fR.nd (ac2 K (qv 4) (zu uU ai)))) aT)
  (aj (aN (i:=5) fR.nd (eF ao))
  (aj (dR eL rfl (dN K (qv 4)) (aR (i:=6) fR.nd) (aj (aN (i:=7) fR.nd (bf aQ hr (af (qv 0) (af (qv 1) (af (aD bV ai (aD jw ai (qv 6))) (af ai ao))))))
  (aj (aN (i:=8) fR.nd (aH (U3 rfl) (by rfl) uD PyProof.Rows.boot_min (af (aG (o7 K) (aG (aK K) (qv 2) (qv 6)) ai) (af (qv 3) (af (aD nD ai ai) ao)))))
  (aj (ie (dZ (bW.pt (yl (aU i6 (qv 7) ai (aX _)) (yj (aU iH (qv 8) ai (aX _)))))) (au (aN (i:=8) fR.nd (aD bV ai (bf aQ hr (af (qv 0) (af (qv 1) (af (aD bV ai (aD jw ai (qv 6))) (af (qv 8) ao)))))))) aT)
  (au (ie (dZ (bW.pt (yl (aU iH (qv 7) ai (aX _)) (yj (aU iH (qv 8) ai (aX _)))))) (aj (cT (pX uO uM uN fY (qv 5) (af (jC (af (aG (o7 K) (aG (aK K) (qv 2) (qv 6)) ai) (af (qv 8) ao))) ao)))
  (au (aN (i:=3) fR.nd (aD iQ (qv 3) (qv 8))))) aT))))))
  (au (aO (qv 5))))))))),?_⟩
 have ll:=hW.len
 refine ⟨_,Z,l,Z,⟨_,hl⟩,fun l0 je=>?_⟩
 refine iS (J:=uT K l) (n:=us.length) 0 (fun i o H'=>aI H H'/\o=((ws.take i).map (fun r:Row=>r.2)).map V.int) (by omega) ⟨aA je _,Z⟩ (fun i o H' hi _ hp=>⟨_,_,hp.1.seq hl,a_ hi⟩) (fun o H' _ hp=>⟨_,hp.1.seq hl,aS _⟩) ?_ ?_
 . rintro i y o H2 H3 hi ff ha ⟨g,e⟩ ⟨rfl,hy⟩
   have hiw:i<ws.length:=by omega
   have ei:=a_ hiw
   obtain ⟨ar,xs,ea,QT,x0,x2⟩:=hW.at_ i _ ei
   have ey:=hy _ (g.seq hl)
   rw [ea] at ey
   cases ey
   refine ⟨_,Z,(g.sq QT).ix (i:=2) x2 ?_⟩
   refine ⟨ha,g.cI je _,?_⟩
   subst e
   rw [take_snoc ei,bD,bD]
   rfl
 rintro o1 H1 _ ha ⟨g1,e⟩
 rw [ll,cA] at e
 subst e
 refine ⟨l0,ws.map (fun r:Row=>r.2),Z,aC.of ha,_,_,Z,Z,?_⟩
 show gh 3 (.int (bu ws-1)) _ _ _
 refine ⟨_,Z,l,_,Z, .inl (g1.seq hl),_,Z,fun pr hpr=>?_⟩
 refine ⟨pr,ws.length,Z,?_,by omega,fun po hpo=>?_⟩
 . rw [ak,ll]
 have gA:=(aA hpr (.wC 0 ((us.length:Nat):Int))).trans (aA hpo (.lst ((L2.upTo ws.length).map V.int)))
 have gB:=g1.trans gA
 have hord:upd (upd H1 pr (.wC 0 ((us.length:Nat):Int))) po (.lst ((L2.upTo ws.length).map V.int)) po=some (.lst ((L2.upTo ws.length).map V.int)):=ak
 generalize upd (upd H1 pr (.wC 0 ((us.length:Nat):Int))) po (.lst ((L2.upTo ws.length).map V.int))=H2 at *
 have ndo:(L2.upTo ws.length).Nodup:=by
  unfold L2.upTo
  refine List.Pairwise.map _ (fun x y h e=>h (by omega)) List.nodup_range
 have wC:∀x∈L2.upTo ws.length,0<=x/\x<(ws.length:Int):=fun x hx=>by
  unfold L2.upTo at hx
  obtain ⟨i,hi,rfl⟩:=bN.mp hx
  have:=yE.mp hi
  omega
 have lup:(L2.upTo ws.length).length=ws.length:=by unfold L2.upTo;rw [aF,CZ]
 refine ⟨fun σ H3=>aI H H3/\∃(pq:Addr) (os:List Int),σ=[some (.ref a),some (.int k),some (.ref l),some (.int (bu ws-1)),some (.ref pq),none,none,none,none]/\H3 pq=some (.lst (os.map V.int))/\os.Nodup/\os.length=ws.length/\∀x∈os,0<=x/\x<(ws.length:Int),?_,?_⟩
 . refine ⟨_,Z,_,Z,cU (gB.seq hS) h63 hk0 (by decide) (by decide) (by decide) fun d _ d0 d1=>⟨Z,_,Z,dm (fun c=>?_) (fun c=>?_)⟩⟩
   . refine ⟨_,Z,_,Z,Z,po,_,Z,aC.of hord,fun pz hpz=>?_⟩
     have g3:=aA hpz (.lst ((L2.upTo ws.length).map V.int).reverse)
     exact ⟨gB.trans g3,pz,(L2.upTo ws.length).reverse,Z,by rw [ak,List.map_reverse],List.pairwise_reverse.mpr (List.Pairwise.imp (fun h=>cy h) ndo),by rw [List.length_reverse,lup],fun x hx=>wC x (List.mem_reverse.mp hx)⟩
   . exact ⟨gB,po,L2.upTo ws.length,Z,hord,ndo,lup,wC⟩
 rintro σ H3 ⟨g3,pq,os,rfl,hos,hnd,ff,hrg⟩
 refine ⟨(iV 0),fun z hz=>?_⟩
 have g4:=aA hz (.lst [])
 have hzz:upd H3 z (.lst []) z=some (.lst []):=ak
 have adD:=g4 _ _ hos
 have nz:pq≠z:=fun e=>by rw [e,hz] at hos;cases hos
 have hzH:H z=none:=g3.free hz
 have QO:=g3.trans g4
 show xo _ _ _ _ (upd H3 z (.lst []))
 generalize upd H3 z (.lst [])=H4 at *
 have w1:ws≠[]->1<=bu ws:=fun hne=>by
  cases ws with
  | nil=>exact absurd rfl hne
  | cons r rs=>
    have h1:=hw1 r cO
    have h2:=Dl (rs:=rs) fun x hx=>hw1 x (cL _ hx)
    rw [show bu (r::rs)=r.2+bu rs from by unfold bu;rw [bF,cX]]
    omega
 refine ⟨_,Z,pq,Z,⟨_,aC.of adD⟩,?_⟩
 refine lT (K:=K) (xs:=os.map V.int) (fun i σ H'=>aI H H'/\H' pq=some (.lst (os.map V.int))/\∃(zs:List V) (rs:List Row) (sp:Int) (s6 s7 s8:Option V),σ=[some (.ref a),some (.int k),some (.ref l),some (.int sp),some (.ref pq),some (.ref z),s6,s7,s8]/\H' z=some (.lst zs)/\gq H' zs rs/\rs.length<=i/\(rs.map (fun r:Row=>r.1)).Nodup/\
   sp=bu ws-1-bu rs/\(ws≠[]->0<=sp)/\∀r∈rs,1<=r.2/\r.2<=1000000000/\∃j:Nat,((j:Nat):Int)∈os.take i/\∃w,ws[j]?=some w/\w.1=r.1/\r.2<=w.2)
  ⟨QO,adD,[],[],bu ws-1,none,none,none,Z,hzz, .nil,aS _,wm,by show _=bu ws-1-0;omega,fun hne=>by have:=w1 hne;omega,fun r hr=>absurd hr (by simp)⟩ ?_ ?_ ?_
 . rintro i σ H' _ ⟨_,h,_⟩
   exact aC.of h
 . rintro i x σ H5 hx ⟨g5,hq5,zs,rs,sp,s6,s7,s8,rfl,Js,hR,hrl,Y8,pM,SG,DK⟩
   rw [bK] at hx
   obtain ⟨at',hat,rfl⟩:=lS.mp hx
   have hio:=(d7.mp hat).1
   obtain ⟨t0,t1⟩:=hrg at' (bJ hat)
   obtain ⟨jt,hjt⟩:∃jt:Nat,((jt:Nat):Int)=at':=⟨at'.toNat,by omega⟩
   subst hjt
   have hjl:jt<ws.length:=by omega
   have hne:ws≠[] :=fun e=>by rw [e] at hjl;simp at hjl
   have aij:=SG hne
   have hnot:((jt:Nat):Int)∉os.take i:=fun m=>by
    obtain ⟨j,hj,ej⟩:=List.mem_iff_getElem.mp m
    rw [List.getElem_take] at ej
    rw [lu] at hj
    have e2:=(d7.mp hat).2
    have:=(List.getElem_inj hnd).mp (ej.trans e2.symm)
    omega
   have ej:=a_ hjl
   have hwj:=hw1 _ (bJ ej)
   generalize ws[jt]=wj at *
   obtain ⟨ar,xs,ea,QT,x0,x2⟩:=hW.at_ jt _ ej
   refine ⟨_,Z,_,Z,_,Z,_,_,Z,Z, .inl ⟨by decide,by decide⟩,_,_,Z,Z,cU (g5.seq hS) h63 hk0 (by omega) (by omega) (by decide) fun way _ v0 v1=>?_⟩
   refine ⟨_,Z,_,Z,l,_,_,_,Z,Z,g5.seq hl,aP ea,(g5.sq QT).ix (i:=2) x2 ?_⟩
   refine ⟨_,Z,_,_,Z,Z,⟨by decide,by decide,by decide⟩,_,_,_,Z,?_⟩
   obtain ⟨m1,m2,m3⟩:=Z7 wj.2 sp ((10:Int) ^ (9:Int).toNat)
   have m0:0<=vh wj.2 sp ((10:Int) ^ (9:Int).toNat):=Z8 (by omega) aij (by decide)
   have m3:vh wj.2 sp ((10:Int) ^ (9:Int).toNat)<=1000000000:=m3
   generalize vh wj.2 sp ((10:Int) ^ (9:Int).toNat)=m at *
   refine ⟨fun σ H6=>H5=H6/\∃m:Int,0<=m/\m<=sp/\m<=wj.2/\m<=1000000000/\σ=[some (.ref a),some (.int k),some (.ref l),some (.int sp),some (.ref pq),some (.ref z),some (.int (jt:Int)),some (.int way),some (.int m)],?_,?_⟩
   . refine ⟨decide (way=2/\0<m),?_,?_⟩
     . refine ⟨_,Z,Z,_,Z,?_⟩
       by_cases h1:way=2
       . rw [bM (by rw [h1] :V.int way=V.int 2)]
         refine jX ⟨_,Z,_,_,Z,Z,_,Z,?_,Z⟩
         by_cases h2:0<m
         . rw [bM h2,bM ⟨h1,h2⟩]
         . rw [dO h2,dO fun z=>h2 z.2]
       . rw [dO (fun z=>h1 (V.int.inj z))]
         exact cM ⟨(dO fun z=>h1 z.1).symm,Z⟩
     refine dm (fun c=>?_) (fun c=>?_)
     . obtain ⟨_,c2⟩:=dU c
       refine ⟨_,Z,_,Z,_,Z,_,_,Z,Z, .inl ⟨by decide,by decide⟩,_,_,Z,Z,_,Z,cU (g5.seq hS) h63 hk0 (by omega) (by omega) c2 fun d _ d0 d1=>⟨_,_,Z,Z,Z,1+d,by omega,by omega,by omega,by omega,Z⟩⟩
     . exact ⟨Z,m,m0,m2,m1,m3,Z⟩
   rintro σ H6 ⟨rfl,o,o0,o1,o2,o3,rfl⟩
   have grow:∀r∈rs,1<=r.2/\r.2<=1000000000/\∃j:Nat,((j:Nat):Int)∈os.take (i+1)/\∃w,ws[j]?=some w/\w.1=r.1/\r.2<=w.2:=fun r hr=>by
    obtain ⟨a1,a2,j,a3,a4⟩:=DK r hr
    exact ⟨a1,a2,j,by rw [take_snoc hat];exact Gr _ a3,a4⟩
   refine ⟨fun σ H6=>aI H H6/\H6 pq=some (.lst (os.map V.int))/\∃(zs:List V) (rs:List Row) (sp:Int) (s6 s7 s8:Option V),σ=[some (.ref a),some (.int k),some (.ref l),some (.int sp),some (.ref pq),some (.ref z),s6,s7,s8]/\H6 z=some (.lst zs)/\gq H6 zs rs/\rs.length<=i+1/\(rs.map (fun r:Row=>r.1)).Nodup/\
    sp=bu ws-1-bu rs/\(ws≠[]->0<=sp)/\∀r∈rs,1<=r.2/\r.2<=1000000000/\∃j:Nat,((j:Nat):Int)∈os.take (i+1)/\∃w,ws[j]?=some w/\w.1=r.1/\r.2<=w.2,?_,fun _ _ h=>h⟩
   refine ⟨decide (0<way/\0<o),?_,?_⟩
   . refine ⟨_,Z,_,_,Z,Z,_,Z,?_⟩
     by_cases h1:0<way
     . rw [bM h1]
       refine jX ⟨_,Z,_,_,Z,Z,_,Z,?_,Z⟩
       by_cases h2:0<o
       . rw [bM h2,bM ⟨h1,h2⟩]
       . rw [dO h2,dO fun z=>h2 z.2]
     . rw [dO h1]
       exact cM ⟨(dO fun z=>h1 z.1).symm,Z⟩
   refine dm (fun c=>?_) (fun c=>?_)
   . obtain ⟨_,c2⟩:=dU c
     refine ⟨_,Z, .inl ⟨Z,_,aC.of Js⟩,_,Z,_,Z,l,_,_,_,Z,Z,g5.seq hl,aP ea,(g5.sq QT).ix (i:=0) x0 ?_⟩
     refine ⟨_,Z,(iV 2),fun p hp=>?_⟩
     have g6:=aA hp (AM (wj.1,o))
     have hz6:=g6 _ _ Js
     have hq6:=g6 _ _ hq5
     have Jp:upd H5 p (AM (wj.1,o)) p=some (AM (wj.1,o)):=ak
     have aik:=hR.length
     show m_ _ (upd H5 p (AM (wj.1,o))) _
     generalize upd H5 p (AM (wj.1,o))=H6 at *
     refine ⟨z,_,_,Z,Z,hz6,by rw [aik];exact dW (by omega),?_⟩
     have np:p≠z:=fun e=>by rw [e,Js] at hp;cases hp
     have tu:∀b ys,H6 b=some (.tup ys)->upd H6 z (.lst (zs++[.ref p])) b=some (.tup ys):=kY (.inr ⟨_,hz6,Z⟩)
     refine ⟨_,Z,_,Z,_,_,Z,Z,(g5.trans g6).cI hzH _,by rw [av nz];exact hq6,zs++[.ref p],rs++[(wj.1,o)],sp-o,_,_,_,Z,ak,((hR.mono g6.tups).snoc Jp).mono tu,by rw [cY];show rs.length+1<=i+1;omega,?_,?_,fun _=>by omega,?_⟩
     . rw [bD]
       refine mK Y8 fun hm=>?_
       obtain ⟨r,hr,er⟩:=bN.mp hm
       obtain ⟨_,_,j,hj,w,adF,e1,_⟩:=DK r hr
       have hj2:j<ws.length:=(d7.mp adF).1
       have r1:(ws.map (fun r:Row=>r.1))[j]?=some w.1:=by rw [bK,adF];rfl
       have r2:(ws.map (fun r:Row=>r.1))[jt]?=some wj.1:=by rw [bK,ej];rfl
       have er:r.1=wj.1:=er
       have:j=jt:=(K0 (by rw [aF];exact hj2) nd).mp (r1.trans (by rw [e1,er];exact r2.symm))
       rw [this] at hj
       exact hnot hj
     . rw [show bu (rs++[(wj.1,o)])=bu rs+o from by unfold bu;rw [bD,List.sum_append];simp]
       omega
     . intro r hr
       rcases eV.mp hr with h1|h1
       . exact grow r h1
       . rw [ee.mp h1]
         exact ⟨by show 1<=o;omega,o3,jt,by rw [take_snoc hat];exact jg _ (ee.mpr rfl),wj,ej,Z,o2⟩
   . exact ⟨g5,hq5,zs,rs,sp,_,_,_,Z,Js,hR,by omega,Y8,pM,SG,grow⟩
 rintro σ H5 ⟨g5,hq5,zs,rs,sp,s6,s7,s8,rfl,Js,hR,hrl,Y8,pM,SG,DK⟩
 rw [aF,ff] at hrl
 refine ⟨_,Z,q z zs rs H5 g5 hzH Js hR ⟨Y8,fun r hr=>?_,?_,hrl⟩⟩
 . obtain ⟨a1,a2,j,_,w,hw,e1,e2⟩:=DK r hr
   exact ⟨a1,a2,w,bJ hw,e1,e2⟩
 . by_cases c:ws=[]
   . right
     rw [c] at hrl
     exact List.length_eq_zero_iff.mp (by simpa using hrl)
   . left
     have:=SG c
     omega
abbrev vY:Stmt:=top 39
abbrev sJ:List Str:=["_law_model_here","_law_amounts","_law_seat_here","_law_award"]
abbrev OM:List Str:=sJ.append ["_law_parts","_law_whole","_law_kept","_law_given","_law_at_here","_law_k"]
theorem iX:aJ OM sJ (ay vY):=c5
theorem Nl (F:At K mg "_law_bear" vY f fd) (bh:mg "len"=none) (bL:mg "range"=none) (fV:mg "sum"=none):Dn P w K mg base 1 "_law_bear" sJ (U4 K):=by
 refine F.oA iX fun cdv A outer s H vs Q E hr h=>?_
 obtain ⟨⟨n,ρ,B,b,l,as,seat,aw,rfl,G,h,wf,hl,cl,ok,q⟩⟩:=h
 refine ⟨_,(@cF.h _ _ _ (aj (aN (i:=4) iX.nd (bP (bU hr) (qv 0) bg))
  (aj (aN (i:=5) iX.nd (aH (lV K rfl) (by rfl) fV yw (af (gC ["_law_part"] [none] rfl (dN K (qv 4)) (fun _ _ _ _=>(aR (i:=0) (show List.Nodup (["_law_part"] :List Str) from by decide +kernel))) (fun _ _ _ _=>(aG (aK K) (qv 0) ai)) rfl (by rfl)) ao)))
  (aj (aN (i:=6) iX.nd (aD iQ (aD iQ (qv 5) (qv 3)) (aH (lV K rfl) (by rfl) fV yw (af (qv 1) ao))))
  (aj (aN (i:=7) iX.nd (eF ao))
  (aj (dR eL rfl (dX (by rfl) bL (af (aH (bY K) (by rfl) bh dF (af (bP (bU hr) (qv 0) bg) ao)) ao)) (aR (i:=8) iX.nd) (au (cT (pX uO uM uN fY (qv 7) (af (aH (lV K rfl) (by rfl) fV yw (af (gC ["_law_k","_law_parts","_law_at_here","_law_amounts"] [none,some 4,some 8,some 1] rfl (dX (by rfl) bL (af (aH (bY K) (by rfl) bh dF (af (qv 4) ao)) ao)) (fun _ _ _ _=>(aR (i:=0) (show List.Nodup (["_law_k","_law_parts","_law_at_here","_law_amounts"] :List Str) from by decide +kernel))) (fun _ _ _ _=>(aD jY (aG (aK K) (aG (aK K) (aG (aK K) (qv 1) (qv 0)) ai) (qv 2)) (aG (aK K) (qv 3) (qv 0)))) rfl (by rfl)) ao)) ao)))))
  (aj (ie (aU iH (qv 3) ai (aX _)) (au (sW (aD bV (aG (aK K) (qv 7) (qv 2)) (aD jY (qv 3) (bP (bU hr) (qv 0) bg))) (sX (qv 7) (qv 2) set_list))) aT)
  (aj (dR eL rfl (dX (by rfl) bL (af (aH (bY K) (by rfl) bh dF (af (qv 4) ao)) ao)) (aR (i:=9) iX.nd) (aj (sW (gC ["_law_at_here","_law_parts","_law_k","_law_kept","_law_given"] [none,some 4,some 9,some 6,some 7] rfl (dX (by rfl) bL (af (aH (bY K) (by rfl) bh dF (af (qv 7) ao)) ao)) (fun _ _ _ _=>(aR (i:=0) (show List.Nodup (["_law_at_here","_law_parts","_law_k","_law_kept","_law_given"] :List Str) from by decide +kernel))) (fun _ _ _ _=>(aD bV (aD jY (aG (aK K) (aG (aK K) (aG (aK K) (qv 1) (qv 2)) ai) (qv 0)) (qv 3)) (aG (aK K) (qv 4) (qv 0)))) rfl (by rfl)) (sX (aG (aK K) (qv 4) (qv 9)) ai set_list))
  (au (sW (aD iQ (aG (aK K) (aG (aK K) (qv 4) (qv 9)) ai) (aG (aK K) (qv 1) (qv 9))) (sX (aG (aK K) (qv 4) (qv 9)) ai set_list)))))
  (aj (o8 (bU hr) (qv 0) bg (aD jY (bP (bU hr) (qv 0) bg) (qv 5)) rfl)
  (au (o8 (bU hr) (qv 0) bg (Dv ["_law_part"] [none] rfl (dN K (qv 4)) (fun _ _ _ _=>(aR (i:=0) (show List.Nodup (["_law_part"] :List Str) from by decide +kernel))) (fun _ _ _ _=>(qv 0)) (fun _ _ _ _=>(aU iH (aG (aK K) (qv 0) ai) ai (aX _))) rfl (by rfl)) rfl))))))))))),?_⟩
 have pl:=wf.pl
 have ur:(B.qs.map fun q=>V.ref q.1).length=b.ah.length:=by rw [aF];exact h.ql
 refine ⟨_,Z,B.m,_,Z,cN.k (k:=Sum.inr "parts") h.om,?_⟩
 refine ⟨_,Z,B.lp,Z,⟨_,aC.of h.op⟩,fun l0 je=>?_⟩
 refine iS (J:=uT K B.lp) (n:=b.ah.length) 0 (fun i o H'=>aI H H'/\o=((b.ah.take i).map (fun p:BP=>p.wo)).map V.int) (by omega) ⟨aA je _,Z⟩ (fun i o H' hi _ hp=>⟨_,_,aC.of (hp.1 _ _ h.op),a_ (by rw [ur];exact hi)⟩) (fun o H' _ hp=>⟨_,aC.of (hp.1 _ _ h.op),by rw [ur];exact aS _⟩) ?_ ?_
 . rintro i y o H2 H3 hi ff ha ⟨g,e⟩ ⟨rfl,hy⟩
   have ei:=a_ hi
   obtain ⟨qq,eq,k1,k2,_,_⟩:=h.find ei
   have ey:=hy _ (aC.of (g _ _ h.op))
   rw [bK,eq] at ey
   cases ey
   refine ⟨_,Z,qq.1,_,_,_,Z,Z,aC.of (g _ _ k1),aP (j:=2) rfl,ha,g.cI je _,?_⟩
   subst e
   rw [take_snoc ei,bD,bD]
   rfl
 rintro o1 H1 _ ha ⟨g1,e⟩
 rw [cA] at e
 subst e
 refine ⟨l0,b.ah.map (fun p:BP=>p.wo),Z,aC.of ha,?_⟩
 show gh 5 (.int (bw b)) _ _ _
 refine ⟨_,Z,_,Z,_,_,Z,Z,_,Z,l,as,Z,g1.seq hl,_,_,Z,Z,?_⟩
 show gh 6 (.int (bw b-aw-as.sum)) _ _ _
 generalize ekp:bw b-aw-as.sum=kept at *
 have hkp:0<kept:=by rw [<-ekp];exact ok.kept
 have zw:=ok.big
 have as0:0<=as.sum:=by
  cases has:as with
  | nil=>exact mJ _
  | cons a l=>exact Int.le_trans (ok.a0 a (by rw [has];exact cO)) (by rw [<-has];exact wK ok.a0 (by rw [has];exact cO))
 have zk:Jm.Sz 60 kept:=zw.of_le (by have:=ok.CH;omega)
 have za:∀a∈as,Jm.Sz 60 a:=fun a hm=>zw.of_le (by have:=ok.a0 a hm;have:=wK ok.a0 hm;have:=ok.CH;omega)
 have zaw:Jm.Sz 60 aw:=zw.of_le (by have:=ok.CH;omega)
 have zt:∀p∈b.ah,∀t∈p.tops,Jm.Sz 7000 t:=fun p hp t ht=>Jm.Sz.pO (by have:=wf.t0 p hp t ht;have:=wf.b1;omega) (wf.t0 p hp t ht).2 wf.bz
 have h1:=h.mono g1
 have hl1:=g1.seq hl
 refine ⟨(iV 0),fun gv hgv=>?_⟩
 have g2:=aA hgv (.lst [])
 have YG:upd H1 gv (.lst []) gv=some (.lst []):=ak
 have X4:H gv=none:=g1.free hgv
 have VE:=g1.trans g2
 show xo _ _ _ _ (upd H1 gv (.lst []))
 generalize upd H1 gv (.lst [])=H2 at *
 have h2:=h.mono VE
 have ol:=wf.ol
 have oml:(b.own.map V.str).length=b.own.length:=aF _
 refine ⟨_,Z,B.m,_,Z,cN.k (k:=Sum.inr "owners") h2.om,B.lo,_,Z, .inl (aC.of h2.oo),_,Z,by omega,by omega,?_⟩
 refine fX (lo:=0) (n:=(((b.own.map V.str).length:Nat):Int).toNat) (fun i σ H'=>aI H H'/\H' gv=some (.lst (((List.range i).map (iK b.ah as)).map V.int))/\∃s8,σ=[some (.ref B.m),some (.ref l),some (.int (seat:Int)),some (.int aw),some (.ref B.lp),some (.int (bw b)),some (.int kept),some (.ref gv),s8,none])
  ⟨VE,YG,_,Z⟩ ?_ ?_
 . rintro i σ H3 hi ⟨g3,FL,s8,rfl⟩
   have e0:(0:Int)+(i:Int)=((i:Nat):Int):=by omega
   rw [e0]
   have hio:i<b.own.length:=by omega
   refine ⟨_,Z, .inl ⟨Z,_,aC.of FL⟩,_,Z,B.lp,_,Z, .inl (aC.of (g3 _ _ h.op)),_,Z,by omega,by omega,fun c hc=>?_⟩
   refine iS (J:=Ip 0 _) (n:=b.ah.length) 0 (fun j o H'=>aI H3 H'/\o=(List.zipWith (fun (p:BP) (a:Int)=>p.tops.getD i 0*a) (b.ah.take j) (as.take j)).map V.int) (by omega) ⟨aA hc _,Z⟩ (fun j o H' hj _ _=>by show j<(((B.qs.map fun q=>V.ref q.1).length:Nat):Int).toNat;omega) (fun o H' _ _=>by show (((B.qs.map fun q=>V.ref q.1).length:Nat):Int).toNat<=b.ah.length;omega) ?_ ?_
   . rintro j x o H4 H5 hj ff VG ⟨g4,e4⟩ ⟨rfl,rfl⟩
     have e0:(0:Int)+(j:Int)=((j:Nat):Int):=by omega
     rw [e0]
     have ej:=a_ hj
     have hja:j<as.length:=by rw [ok.len];exact hj
     have ea:=a_ hja
     obtain ⟨qq,eq,k1,k2,_,_⟩:=h.find ej
     have gg:=g3.trans g4
     have hti:i<(b.ah[j]).tops.length:=by rw [wf.tl _ (bJ ej)];exact hio
     have et:=a_ hti
     have eD:(b.ah[j]).tops.getD i 0=(b.ah[j]).tops[i] :=by rw [jf,et];rfl
     refine ⟨_,Z,_,Z,B.lp,_,_,_,Z,Z,aC.of (gg _ _ h.op),aP (by rw [bK,eq];rfl),qq.1,_,_,_,Z,Z,aC.of (gg _ _ k1),aP (j:=4) rfl,_,Z,qq.2,_,_,_,Z,Z,aC.of (gg _ _ k2),aP (by rw [bK,et];rfl),?_⟩
     refine ⟨_,Z,_,Z,l,_,_,_,Z,Z,gg.seq hl,aP (by rw [bK,ea];rfl),_,_,Z,Z,jj (zt _ (bJ ej) _ (bJ et)) (za _ (bJ ea)),VG,g4.cI hc _,?_⟩
     rw [LX ej ea,e4,bD,eD]
     rfl
   rintro o H4 _ VG ⟨g4,e4⟩
   have e5:List.zipWith (fun (p:BP) (a:Int)=>p.tops.getD i 0*a) (b.ah.take b.ah.length) (as.take b.ah.length)=List.zipWith (fun (p:BP) (a:Int)=>p.tops.getD i 0*a) b.ah as:=by rw [cA,<-ok.len,cA]
   rw [e5] at e4
   subst e4
   refine ⟨c,_,Z,aC.of VG,gv,_,_,Z,Z,g4 _ _ FL,by rw [aF,aF,CZ];exact dW (by omega),(g3.trans g4).cI X4 _,?_,_,Z⟩
   rw [ak,List.range_succ,bD,bD]
   rfl
 rintro σ H3 ⟨g3,FL,s8,rfl⟩
 rw [show (((b.own.map V.str).length:Nat):Int).toNat=b.own.length from by omega] at FL
 have FL:H3 gv=some (.lst ((gr b as).map V.int)):=FL
 have h3:=h.mono g3
 have gl:=mQ b as
 refine ⟨fun σ H'=>aI H H'/\H' gv=some (.lst ((ia b as seat aw).map V.int))/\σ=[some (.ref B.m),some (.ref l),some (.int (seat:Int)),some (.int aw),some (.ref B.lp),some (.int (bw b)),some (.int kept),some (.ref gv),s8,none],?_,?_⟩
 . refine ⟨_,Z,_,_,Z,Z,_,Z,dm (fun c=>?_) (fun c=>?_)⟩
   . have c':0<aw:=dU c
     have hsl:seat<(gr b as).length:=by rw [gl];exact ok.seat
     have es:=a_ hsl
     have eD:(gr b as).getD seat 0=(gr b as)[seat] :=by rw [jf,es];rfl
     refine ⟨_,Z,_,Z,gv,_,_,_,Z,Z,aC.of FL,aP (by rw [bK,es];rfl),_,Z,_,Z,B.m,_,Z,cN.k (k:=Sum.inr "bottom") h3.om,_,_,Z,Z,jj zaw wf.bz,_,_,Z,Z,_,Z,_,Z,gv,_,_,_,Z,Z,FL,by rw [aF];exact BZ hsl,g3.cI X4 _,?_,Z⟩
     rw [ak]
     unfold ia
     rw [aB c',wu,eD]
   . have c':¬ 0<aw:=uR (pD.mpr c)
     refine ⟨g3,?_,Z⟩
     unfold ia
     rw [az c']
     exact FL
 rintro σ H4 ⟨g4,hg4,rfl⟩
 have gvl:=zg b as seat aw
 generalize egv:ia b as seat aw=given at *
 have h4:=h.mono g4
 have gmn:(given.map V.int).length=b.own.length:=by rw [aF];exact gvl
 have cgv:ρ gv=none:=G.none X4
 have bl:(dw b as seat aw).length=b.ah.length:=wJ ok.len
 refine ⟨_,Z,B.lp,_,Z, .inl (aC.of h4.op),_,Z,by omega,by omega,?_⟩
 refine fX (lo:=0) (n:=(((B.qs.map fun q=>V.ref q.1).length:Nat):Int).toNat) (fun i σ H'=>∃ρ' B' s8 s9,σ=[some (.ref B.m),some (.ref l),some (.int (seat:Int)),some (.int aw),some (.ref B.lp),some (.int (bw b)),some (.int kept),some (.ref gv),s8,s9]/\Gh ρ' H'/\aV n ρ' B' H' { b with ah:=(dw b as seat aw).take i++b.ah.drop i }/\B'.m=B.m/\B'.lp=B.lp/\Fr n ρ H ρ' H'/\H' gv=some (.lst (given.map V.int))/\ρ' gv=none)
  ⟨ρ,B,_,_,Z,G.same g4,h4,Z,Z,Fr.of_same g4,hg4,cgv⟩ ?_ ?_
 . rintro i σ H5 hi ⟨ρ5,B5,s8,s9,rfl,G5,h5,yu,CP,F5,QU,cg5⟩
   have e0:(0:Int)+(i:Int)=((i:Nat):Int):=by omega
   rw [e0]
   have z8:i<b.ah.length:=by omega
   have ei:=a_ z8
   have iD:=bJ ei
   have hia:i<as.length:=by rw [ok.len];exact z8
   have ea:=a_ hia
   have em:((dw b as seat aw).take i++b.ah.drop i)[i]?=some b.ah[i] :=Z9 (by omega) ei
   have ebp:=LW (seat:=seat) (aw:=aw) ei ea
   rw [egv,ekp] at ebp
   have YU:=wf.tl _ iD
   have VP:=zt _ iD
   generalize b.ah[i]=p at *
   have hza:=za _ (bJ ea)
   generalize as[i]=a at *
   obtain ⟨qq,eq,k1,k2,c1,c2⟩:=h5.find em
   have op5:H5 B.lp=some (.lst (B5.qs.map fun q=>V.ref q.1)):=by rw [<-CP];exact h5.op
   have Jt:(B5.qs.map fun q=>V.ref q.1)[i]?=some (.ref qq.1):=by rw [bK,eq];rfl
   refine ⟨_,Z,gv,_,Z, .inl (aC.of QU),_,Z,by omega,by omega,fun t1 ht1=>?_⟩
   refine iS (J:=Ip 0 _) (n:=b.own.length) 0 (fun j o H'=>aI H5 H'/\o=(List.zipWith (fun t g=>t*kept+g) (p.tops.take j) (given.take j)).map V.int) (by omega) ⟨aA ht1 _,Z⟩ (fun j o H' hj _ _=>by show j<(((given.map V.int).length:Nat):Int).toNat;omega) (fun o H' _ _=>by show (((given.map V.int).length:Nat):Int).toNat<=b.own.length;omega) ?_ ?_
   . rintro j x o H6 H7 hj ff CS ⟨g6,e6⟩ ⟨rfl,rfl⟩
     have e0:(0:Int)+(j:Int)=((j:Nat):Int):=by omega
     rw [e0]
     have et:=a_ (show j<p.tops.length by rw [YU];exact hj)
     have eg:=a_ (show j<given.length by rw [gvl];exact hj)
     refine ⟨_,Z,_,Z,B.lp,_,_,_,Z,Z,aC.of (g6 _ _ op5),aP Jt,qq.1,_,_,_,Z,Z,aC.of (g6 _ _ k1),aP (j:=4) rfl,_,Z,qq.2,_,_,_,Z,Z,aC.of (g6 _ _ k2),aP (by rw [bK,et];rfl),?_⟩
     refine ⟨_,Z,_,_,Z,Z,jj (VP _ (bJ et)) zk,_,Z,_,Z,gv,_,_,_,Z,Z,aC.of (g6 _ _ QU),aP (by rw [bK,eg];rfl),_,_,Z,Z,CS,g6.cI ht1 _,?_⟩
     rw [oZ _ et eg,e6,bD]
     rfl
   rintro o H6 _ CS ⟨g6,e6⟩
   rw [show p.tops.take b.own.length=p.tops from by rw [<-YU];exact cA,show given.take b.own.length=given from by rw [<-gvl];exact cA] at e6
   subst e6
   have h6:=h5.mono g6
   have G6:=G5.same g6
   have ct1:ρ5 t1=none:=G5.none ht1
   have h7:aV n (bZ ρ5 t1 (n,24,p.nm)) B5 H6 { b with ah:=(dw b as seat aw).take i++b.ah.drop i }:=h6.col ct1
   have G7:Gh (bZ ρ5 t1 (n,24,p.nm)) H6:=G6.color CS rfl
   have F7:Fr n ρ H (bZ ρ5 t1 (n,24,p.nm)) H6:=F5.trans (Fr.color ht1 g6)
   have ct:bZ ρ5 t1 (n,24,p.nm) t1=some (n,24,p.nm):=dD
   have cg7:bZ ρ5 t1 (n,24,p.nm) gv=none:=by rw [cu (fun z=>by rw [z] at QU;rw [QU] at ht1;cases ht1)];exact cg5
   have hg6:=g6 _ _ QU
   have Aa:=g6 _ _ op5
   have k16:=g6 _ _ k1
   have VQ:bZ ρ5 t1 (n,24,p.nm) qq.1=some (n,23,p.nm):=by rw [cu (aE k1 ht1)];exact c1
   generalize bZ ρ5 t1 (n,24,p.nm)=ρ7 at *
   have ndm:(((dw b as seat aw).take i++b.ah.drop i).map (fun p:BP=>p.nm)).Nodup:=by rw [U5 ok.len];exact wf.nd
   have nqg:gv≠qq.1:=fun z=>by rw [z,VQ] at cg7;cases cg7
   generalize eT:List.zipWith (fun t g=>t*kept+g) p.tops given=T at *
   refine ⟨_,Z,_,Z,B.lp,_,_,_,Z,Z,aC.of Aa,aP Jt,qq.1,_,_,4,Z,Z,k16,Z,?_⟩
   have h8:=h7.pU G7 (p1:={ p with tops:=T }) (t1:=t1) em eq rfl ndm CS ct
   have G8:=G7.wr (a:=qq.1) (o:=fQ { p with tops:=T } t1) rfl
   have F8:=F7.trans (Fr.write (o:=fQ { p with tops:=T } t1) VQ)
   have k18:upd H6 qq.1 (fQ { p with tops:=T } t1) qq.1=some (fQ { p with tops:=T } t1):=ak
   have hg8:upd H6 qq.1 (fQ { p with tops:=T } t1) gv=some (.lst (given.map V.int)):=by rw [av nqg];exact hg6
   have nlp:B.lp≠qq.1:=fun z=>by
    have:=h7.cp
    rw [CP,z,VQ] at this
    cases this
   have op8:upd H6 qq.1 (fQ { p with tops:=T } t1) B.lp=some (.lst (B5.qs.map fun q=>V.ref q.1)):=by rw [av nlp];exact Aa
   have ntq:t1≠qq.1:=fun z=>by rw [z,VQ] at ct;cases ct
   have ht8:upd H6 qq.1 (fQ { p with tops:=T } t1) t1=some (.lst (T.map V.int)):=by rw [av ntq];exact CS
   generalize hH8:upd H6 qq.1 (HO.lst _)=H8
   have adK:upd H6 qq.1 (fQ { p with tops:=T } t1)=H8:=hH8
   rw [adK] at h8 G8 F8 k18 hg8 op8 ht8
   clear hH8 adK
   refine ⟨_,Z,_,Z,B.lp,_,_,_,Z,Z,aC.of op8,aP Jt,qq.1,_,_,_,Z,Z,aC.of k18,aP (j:=2) rfl,?_⟩
   refine ⟨_,Z,_,Z,l,_,_,_,Z,Z,F8.seq hl cl,aP (by rw [bK,ea];rfl),_,_,Z,Z,?_⟩
   refine ⟨_,Z,_,Z,B.lp,_,_,_,Z,Z,aC.of op8,aP Jt,qq.1,_,_,2,Z,Z,k18,Z,?_⟩
   have VR:i<B5.qs.length:=(d7.mp eq).1
   have him:i<((dw b as seat aw).take i++b.ah.drop i).length:=(d7.mp em).1
   have h9:=h8.pU G8 (i:=i) (p0:={ p with tops:=T }) (p1:=ng given kept p a) (q0:=(qq.1,t1)) (t1:=t1) (kC him) (kC VR) rfl (by
    show ((((dw b as seat aw).take i++b.ah.drop i).set i { p with tops:=T }).map (fun p:BP=>p.nm)).Nodup
    rw [wu,sS (by rw [bK,em];rfl)]
    exact ndm) (by show H8 t1=some (.lst ((List.zipWith (fun t g=>t*kept+g) p.tops given).map V.int));rw [eT];exact ht8) ct
   have e9:(((dw b as seat aw).take i++b.ah.drop i).set i { p with tops:=T }).set i (ng given kept p a)=(dw b as seat aw).take (i+1)++b.ah.drop (i+1):=by rw [rP];exact Z_ ebp z8
   have h9':aV n ρ7 { B5 with qs:=(B5.qs.set i (qq.1,t1)).set i (qq.1,t1) } (upd H8 qq.1 (fQ (ng given kept p a) t1)) { b with ah:=(((dw b as seat aw).take i++b.ah.drop i).set i { p with tops:=T }).set i (ng given kept p a) }:=h9
   rw [e9] at h9'
   exact ⟨ρ7,{ B5 with qs:=(B5.qs.set i (qq.1,t1)).set i (qq.1,t1) },_,_,Z,G8.wr rfl,h9',yu,CP,F8.trans (Fr.write VQ),by rw [av nqg];exact hg8,cg7⟩
 rintro σ H5 ⟨ρ5,B5,s8,s9,rfl,G5,h5,yu,CP,F5,QU,cg5⟩
 rw [show (((B.qs.map fun q=>V.ref q.1).length:Nat):Int).toNat=b.ah.length from by omega,show (dw b as seat aw).take b.ah.length=dw b as seat aw from by rw [<-bl];exact cA,D7,rO] at h5
 obtain ⟨m5,VT,lp5,VU,VW,Bp⟩:=B5
 have yu:m5=B.m:=yu
 have CP:lp5=B.lp:=CP
 subst yu CP
 refine ⟨_,Z,B.m,_,Z,cN.k (k:=Sum.inr "bottom") h5.om,_,Z,_,_,Z,Z,jj wf.bz zw,_,Z,B.m,_,Z,s_.k (k:=Sum.inr "bottom") h5.om (by show 5<sizeLine;decide),?_⟩
 rw [U6]
 have h6:=h5.Z6 G5 (b.bot*bw b)
 have G6:=G5.wr (a:=B.m) (o:= .dK (eZ ⟨B.m,VT,B.lp,VU,VW,Bp⟩ (b.bot*bw b))) rfl
 have F6:=F5.trans (Fr.write (o:= .dK (eZ ⟨B.m,VT,B.lp,VU,VW,Bp⟩ (b.bot*bw b))) h5.cm)
 generalize hH6:upd H5 B.m (HO.dK _)=H6
 have adL:upd H5 B.m (.dK (eZ ⟨B.m,VT,B.lp,VU,VW,Bp⟩ (b.bot*bw b)))=H6:=hH6
 have h6:aV n ρ5 ⟨B.m,VT,B.lp,VU,VW,Bp⟩ (upd H5 B.m (.dK (eZ ⟨B.m,VT,B.lp,VU,VW,Bp⟩ (b.bot*bw b)))) { b with ah:=dw b as seat aw,bot:=b.bot*bw b }:=h6
 rw [adL] at h6 G6 F6
 clear hH6 adL
 have FN:Bp.length=(dw b as seat aw).length:=h5.ql
 have VX:(Bp.map fun q=>V.ref q.1).length=(dw b as seat aw).length:=by rw [aF];exact FN
 have Aa:H6 B.lp=some (.lst (Bp.map fun q=>V.ref q.1)):=h6.op
 refine ⟨_,Z,B.lp,Z,⟨_,aC.of Aa⟩,fun lp uo=>?_⟩
 refine GQ (J:=uT K B.lp) (n:=(dw b as seat aw).length) 0 (fun i o H'=>aI H6 H'/\o=(jA ((dw b as seat aw).take i) (Bp.take i)).map fun q=>V.ref q.1) (by omega) ⟨aA uo _,Z⟩ (fun i o H' hi _ hp=>⟨_,_,aC.of (hp.1 _ _ Aa),a_ (by rw [VX];exact hi)⟩) (fun o H' _ hp=>⟨_,aC.of (hp.1 _ _ Aa),by rw [VX];exact aS _⟩) ?_ ?_
 . rintro i y o H7 H8 hi ff ha ⟨g,e⟩ ⟨rfl,hy⟩
   have ei:=a_ hi
   obtain ⟨qq,eq,k1,k2,_,_⟩:=h6.find ei
   have eq:Bp[i]?=some qq:=eq
   have ey:=hy _ (aC.of (g _ _ Aa))
   rw [bK,eq] at ey
   cases ey
   have es:=zj ei eq
   refine ⟨_,Z,qq.1,_,_,_,Z,Z,aC.of (g _ _ k1),aP (j:=2) rfl,_,_,Z,Z,_,Z,dm (fun c=>?_) (fun c=>?_)⟩
   . rw [aB (dU c)] at es
     refine ⟨_,Z,ha,g.cI uo _,?_⟩
     rw [es,e,bD]
     rfl
   . rw [az (uR (pD.mpr c))] at es
     exact ⟨ha,g,by rw [es,e,rO]⟩
 rintro o H7 _ ha ⟨g7,e⟩
 rw [cA,<-FN,cA] at e
 subst e
 have h7:=h6.mono g7
 have G7:=G6.same g7
 have clp:ρ5 lp=none:=G6.none uo
 have h8:=h7.col (t:=22) (x:=⟨#[]⟩) clp
 have G8:Gh (bZ ρ5 lp (n,22,⟨#[]⟩)) H7:=G7.color ha rfl
 have F8:Fr n ρ H (bZ ρ5 lp (n,22,⟨#[]⟩)) H7:=F6.trans (Fr.color uo g7)
 have h9:=h8.UY G8 (lp:=lp) (qs:=jA (dw b as seat aw) Bp) (ps:=(dw b as seat aw).filter fun p=>decide (0<p.wo)) ha dD (AU FN) (fun i x y ex ey=>by
  obtain ⟨j,a1,a2⟩:=zh ex ey FN
  exact h8.pt j x y a1 a2)
 refine ⟨_,Z,B.m,_,Z,s_.k (k:=Sum.inr "parts") h7.om (by show 5<sizeLine;decide),?_⟩
 rw [LY]
 exact q _ _ _ (G8.wr rfl) h9 rfl (F8.trans (Fr.write h8.cm))
abbrev mz:Stmt:=top 40
abbrev jU:List Str:=["_law_model_here","_law_rows_here"]
abbrev Ce:List Str:=jU.append ["_law_amounts","_law_name_here","_law_amount"]
theorem jG:aJ Ce jU (ay mz):=c5
theorem Bq (F:At K mg "_law_model_cast" mz f fd) (mC:Dn P w K mg base 1 "_law_at" pB (YJ K)) (xN:Dn P w K mg base 1 "_law_bear" sJ (U4 K)):Dn P w K mg base 2 "_law_model_cast" jU (Qw K):=by
 refine F.oA jG fun cdv A outer s H vs Q E hr h=>?_
 obtain ⟨⟨n,ρ,B,b,l,us,rs,rfl,G,h,wf,hl,hR,cl,rb,hle,bo,q⟩⟩:=h
 refine ⟨_,(@cF.h _ _ _ (aj (uK (i:=2) ["_law_part"] [none] jG.nd rfl rfl rfl (dN K (bP (bU hr) (qv 0) bg)) (fun _ _ _ _=>(aR (i:=0) (show List.Nodup (["_law_part"] :List Str) from by decide +kernel))) (fun _ _ _ _=>ai) rfl (by rfl) (by rfl))
  (aj (dR eL rfl (dN K (qv 1)) (jm K (n:=2) rfl (cW (aR (i:=3) jG.nd) (cW (aR (i:=4) jG.nd) jl))) (au (sW (qv 4) (sX (qv 2) (bf mC hr (af (bP (bU hr) (qv 0) bg) (af (qv 3) ao))) set_list))))
  (au (cT (bf xN hr (af (qv 0) (af (qv 2) (af ai (af ai ao)))))))))),?_⟩
 have pl:=wf.pl
 have ur:(B.qs.map fun q=>V.ref q.1).length=b.ah.length:=by rw [aF];exact h.ql
 refine ⟨_,Z,B.m,_,Z,cN.k (k:=Sum.inr "parts") h.om,B.lp,Z,⟨_,aC.of h.op⟩,fun l0 je=>?_⟩
 refine iS (J:=uT K B.lp) (n:=b.ah.length) 0 (fun i o H'=>aI H H'/\o=((b.ah.take i).map fun _=>(0:Int)).map V.int) (by omega) ⟨aA je _,Z⟩ (fun i o H' hi _ hp=>⟨_,_,aC.of (hp.1 _ _ h.op),a_ (by rw [ur];exact hi)⟩) (fun o H' _ hp=>⟨_,aC.of (hp.1 _ _ h.op),by rw [ur];exact aS _⟩) ?_ ?_
 . rintro i y o H2 H3 hi ff ha ⟨g,e⟩ ⟨rfl,hy⟩
   refine ⟨ha,g.cI je _,?_⟩
   subst e
   rw [take_snoc (a_ hi),bD,bD]
   rfl
 rintro o1 H1 _ ha ⟨g1,e⟩
 rw [cA] at e
 subst e
 have VB:=hR.length
 refine ⟨_,Z,l,Z,⟨us,g1.seq hl⟩,?_⟩
 refine lT (K:=K) (xs:=us) (fun i σ H'=>aI H H'/\H' l0=some (.lst ((dh b (rs.take i)).map V.int))/\∃s3 s4,σ=[some (.ref B.m),some (.ref l),some (.ref l0),s3,s4]) ⟨g1,ha,_,_,Z⟩ (fun i σ H' _ hp=>hp.1.seq hl) ?_ ?_
 . rintro i x σ H2 hx ⟨g2,ha2,s3,s4,rfl⟩
   obtain ⟨a,r,rfl,er,har⟩:=hR.get hx
   obtain ⟨r1,j,p,hp,e,le⟩:=rb.row r (bJ er)
   have hj:=(d7.mp hp).1
   have hn:r.1∉(rs.take i).map (fun r:Row=>r.1):=by
    rw [BH]
    exact j_ rb.nd (by rw [bK,er];rfl)
   obtain ⟨s1,s2⟩:=E1 wf.nd hp e hn
   have h2:=h.mono g2
   refine ⟨a,_,Z,cJ.of (g2 _ _ har),Z,_,_,Z,_,_,Z,Z,?_⟩
   refine ⟨_,Z,_,Z,_,Z,B.m,_,Z,cN.k (k:=Sum.inr "parts") h2.om,_,Z,⟨⟨B.lp,_,lW b,j,(p.nm,p.wo),by rw [<-e];rfl,aC.of h2.op,h2.nw,?_,by unfold lW;rw [aF];exact pl,by unfold lW;rw [bK,hp];rfl,?_⟩⟩⟩
   . unfold lW;rw [fJ];exact wf.nd
   . refine ⟨l0,_,_,j,Z,Z,ha2,by rw [aF,AV];exact BZ hj,g2.cI je _,?_,_,_,Z⟩
     rw [ak,take_snoc er,s1,wu]
 rintro σ H2 ⟨g2,ha2,s3,s4,rfl⟩
 rw [VB,cA] at ha2
 refine ⟨_,Z,_,Z,⟨⟨n,ρ,B,b,l0,dh b rs,0,0,Z,G.same g2,h.mono g2,wf,aC.of ha2,G.none je,bo,fun ρ' B' H' a1 a2 a3 a4=>q ρ' B' H' a1 a2 a3 ((Fr.of_same g2).trans a4)⟩⟩⟩
abbrev uc:Stmt:=top 36
abbrev qw:List Str:=["_law_script","_law_k","_law_hold","_law_model_here","_law_names_here","_law_many"]
abbrev Nm:List Str:=qw.append ["_law_at_here","_law_owner","_law_worth","_law_weight"]
theorem kX:aJ Nm qw (ay uc):=c5
theorem JV {T:TC} (F:At K mg "_law_loads" uc f fd) (aQ:Dn P w K mg base 1 "_law_draw" fD (lU K)) (xO:Dn P w K mg base 2 "_law_much" su (Ls K)) (qx:Dn P w K mg base 2 "_law_new_part" lP Jb)
  (xP:Mn P w K mg base 4 T.hold "load" r_ (UD T)) (bh:mg "len"=none) (bL:mg "range"=none):Dn P w K mg base 5 "_law_loads" qw (Qy T K):=by
 refine F.oA kX fun cdv A outer s H vs Q E hr h=>?_
 obtain ⟨⟨n,m,ρ,A,B,st,b,a,ln,ns,k,nms,many,rfl,nm,hh,hb,gd,hS,h63,hk0,hk1,hN,VY,u7,FG,hml,alh,en,ep,ek,q⟩⟩:=h
 refine ⟨_,(@cF.h _ _ _ (au (dR eL rfl (dX (by rfl) bL (af (qv 5) ao)) (aR (i:=6) kX.nd) (aj (aN (i:=7) kX.nd (aG (aK K) (bP (bU hr) (qv 3) bg) (bf aQ hr (af (qv 0) (af (aD bV (qv 1) (qv 6)) (af ai (af (aH (bY K) (by rfl) bh dF (af (bP (bU hr) (qv 3) bg) ao)) ao)))))))
  (aj (aN (i:=8) kX.nd (bf xO hr (af (qv 0) (af (aD bV (qv 1) (qv 6)) (af ai ao)))))
  (aj (aN (i:=9) kX.nd (bf aQ hr (af (qv 0) (af (aD bV (qv 1) (qv 6)) (af ai (af ai ao))))))
  (aj (cT (gO xP hr (qv 2) (af (aG (aK K) (qv 4) (qv 6)) (af (qv 7) (af (qv 8) (af (qv 9) ao))))))
  (au (cT (bf qx hr (af (qv 3) (af (aG (aK K) (qv 4) (qv 6)) (af (qv 7) (af (qv 8) (af (qv 9) ao))))))))))))))),?_⟩
 refine ⟨_,Z,_,Z,by omega,by omega,?_⟩
 refine fX (lo:=0) (n:=((many:Nat):Int).toNat) (fun i σ H'=>∃ρ' A' B' st' b' s6 s7 s8 s9,σ=[some (.ref a),some (.int k),some (.ref A.a),some (.ref B.m),some (.ref ln),some (.int (many:Int)),s6,s7,s8,s9]/\HH T n ρ' A' H' st'/\aV m ρ' B' H' b'/\fM 0 st' b'/\A'.a=A.a/\B'.m=B.m/\b'.own=b.own/\b'.ah.length=i/\b'.cS.length=i/\st'.nms=nms.take i/\st'.kn=st.kn/\aI (out ρ H) (out ρ' H'))
  ⟨ρ,A,B,st,b,_,_,_,_,Z,hh,hb,gd,Z,Z,Z,by rw [ep];rfl,by rw [ek];rfl,by rw [en];rfl,Z,aI.refl _⟩ ?_ ?_
 . rintro i σ H1 hi ⟨ρ1,A1,B1,st1,b1,s6,s7,s8,s9,rfl,gG,hb1,sZ,Br,wY,CT,Y9,ekl,Y_,ekn,o1⟩
   have e0:(0:Int)+(i:Int)=((i:Nat):Int):=by omega
   rw [e0]
   have him:i<many:=by omega
   have hin:i<nms.length:=by omega
   have ex:=a_ hin
   have exm:=bJ ex
   have Ma:=u7 _ exm
   have hxn:nms[i]∉nms.take i:=j_ VY ex
   generalize nms[i]=x at *
   have yt:=hS _ _ o1
   have hN1:=hN _ _ o1
   have omH:H1 B.m=some (.dK (eZ B1 b1.bot)):=by rw [<-wY];exact hb1.om
   have ol1:(b1.own.map V.str).length=b1.own.length:=aF _
   have ow0:=sZ.own
   refine ⟨_,Z,B.m,_,Z,cN.k (k:=Sum.inr "owners") omH,_,Z,_,Z,_,Z,_,_,Z,Z,_,Z,B.m,_,Z,cN.k (k:=Sum.inr "owners") omH,B1.lo,_,Z, .inl (aC.of hb1.oo),cU yt h63 (by omega) (by decide) (by decide) (by omega) fun d _ d0 d1=>?_⟩
   obtain ⟨jo,o,ejo,eo,eat⟩:=Xn (l:=b1.own) d0 (by omega)
   have hom:o∈b1.own:=bJ eo
   refine ⟨B1.lo,_,_,_,Z,Z,aC.of hb1.oo,eat,?_⟩
   refine ⟨_,Z,_,Z,_,Z,_,_,Z,Z,W0 yt h63 (by omega) (by decide) (by decide) fun wo H2 w1 w2 g2=>?_⟩
   refine ⟨_,Z,_,Z,_,Z,_,_,Z,Z,cU (g2.seq yt) h63 (by omega) (by decide) (by decide) (by decide) fun we _ v0 v1=>?_⟩
   have kU:=gG.mono g2
   have o2:=o1.trans (iT (ρ:=ρ1) g2)
   have hN2:=hN _ _ o2
   have exv:(nms.map V.str)[i]?=some (.str x):=by rw [bK,ex];rfl
   have hxs:x∉st1.nms:=by rw [Y_];exact hxn
   have eow:=sZ.rel.own
   have hnl:st1.nms.length=i:=by rw [Y_,lu];omega
   refine ⟨_,Z,A.a,A1.dx,_,Z,by rw [<-Br];exact kU.h.oa,Z,_,Z,_,Z,ln,_,_,_,Z,Z,hN2,aP exv,_,Z,_,Z,_,Z,⟨⟨n,ρ1,A1,st1,x,o,wo,we,by rw [Br];rfl,kU,Ma.isNm,hxs,by rw [eow];exact hom,w1,v0,by omega,by rw [sZ.rel.len];omega,fun ρ3 A3 H3 kW e3 f3=>?_⟩⟩⟩
   have Bo:=(hb1.mono g2).other f3 kU.g (cy nm)
   have o3:=o2.trans f3.out
   have hN3:=hN _ _ o3
   refine ⟨_,Z,_,Z,_,Z,ln,_,_,_,Z,Z,hN3,aP exv,_,Z,_,Z,_,Z,⟨⟨m,ρ3,B1,b1,x,o,wo,we,by rw [wY];rfl,kW.g,Bo,hom,by have:=sZ.jM.ol;omega,by omega,by omega,fun ρ4 B4 H4 G4 CU e4 f4=>?_⟩⟩⟩
   have nJ:=kW.other f4 G4 nm
   refine ⟨ρ4,A3,B4,_,_,_,_,_,_,Z,nJ,CU,aag sZ gG.wf ?_ w1 w2 (by omega) (by omega) Ma.isNm hom (by omega),e3.trans Br,e4.trans wY,CT,?_,?_,?_,ekn,o3.trans f4.out⟩
   . intro hm
     obtain ⟨p,hp,e⟩:=bN.mp hm
     obtain ⟨j,hj,ej⟩:=pC hp
     obtain ⟨p',lY,e1,_⟩:=sZ.rel.at (i:=j) (q:=p) (by rw [a_ hj,ej])
     have:=gG.wf.sub p' (bJ lY)
     rw [e1] at this
     have e:p.nm=x:=e
     rw [e] at this
     exact hxs this
   . show (b1.ah++[_]).length=i+1
     rw [cY,Y9];rfl
   . show (b1.cS++[_]).length=i+1
     rw [cY,ekl];rfl
   . show st1.nms++[x]=nms.take (i+1)
     rw [Y_,take_snoc ex]
 rintro σ H1 ⟨ρ1,A1,B1,st1,b1,s6,s7,s8,s9,rfl,gG,hb1,sZ,Br,wY,CT,Y9,ekl,Y_,ekn,o1⟩
 exact q ρ1 A1 B1 H1 st1 b1 gG hb1 sZ Br wY CT (by rw [Y9];omega) ekn o1
abbrev vZ:Stmt:=top 41
abbrev sL:List Str:=["_law_script","_law_hold","_law_model_here","_law_names_here"]
abbrev ON:List Str:=sL.append ["_law_rows_here"]
theorem Bs:aJ ON sL (ay vZ):=c5
theorem Np {T:TC} (F:At K mg "_law_prep" vZ f fd) (aQ:Dn P w K mg base 1 "_law_draw" fD (lU K)) (v5:Dn P w K mg base 5 "_law_loads" qw (Qy T K)) (xQ:Dn P w K mg base 2 "_law_rows" sH (Qv K)) (nt:Dn P w K mg base 2 "_law_model_cast" jU (Qw K)) (xR:Mn P w K mg base 4 T.hold "cast" sf (UP T K)) (bh:mg "len"=none) (c8:mg "list"=none):Dn P w K mg base 6 "_law_prep" sL (Vt T K):=by
 refine F.oA Bs fun cdv A outer s H vs Q E hr h=>?_
 obtain ⟨⟨n,m,ρ,A,B,st,b,a,ln,ns,nms,rfl,nm,hh,hb,gd,hS,h63,hN,VY,u7,FG,h6,en,ep,ek,q⟩⟩:=h
 refine ⟨_,(@cF.h _ _ _ (aj (cT (bf v5 hr (af (qv 0) (af ai (af (qv 1) (af (qv 2) (af (qv 3) (af (aD bV ai (bf aQ hr (af (qv 0) (af ai (af ai (af ai ao)))))) ao))))))))
  (au (ie (aU iH (bf aQ hr (af (qv 0) (af ai (af ai (af ai ao))))) ai (aX _)) (aj (aN (i:=4) Bs.nd (bf xQ hr (af (qv 0) (af ai (af (bP (bU hr) (qv 2) bg) ao)))))
  (au (ie (aU iH (aH (bY K) (by rfl) bh dF (af (qv 4) ao)) ai (aX _)) (aj (cT (gO xR hr (qv 1) (af (lZ (kR K) (by rfl) c8 uP (af (qv 4) ao)) ao)))
  (au (cT (bf nt hr (af (qv 2) (af (qv 4) ao)))))) aT))) aT)))),?_⟩
 refine ⟨_,Z,_,Z,_,Z,_,Z,_,Z,cU (hS _ _ (aI.refl _)) h63 (by decide) (by decide) (by decide) (by decide) fun md _ m0 m1=>⟨_,_,Z,Z,?_⟩⟩
 obtain ⟨many,afd⟩:∃many:Nat,2+md=(many:Int):=⟨(2+md).toNat,by omega⟩
 refine ⟨⟨n,m,ρ,A,B,st,b,a,ln,ns,4,nms,many,by rw [<-afd];rfl,nm,hh,hb,gd,hS,h63,by decide,by decide,hN,VY,u7,FG,by omega,by omega,en,ep,ek,fun ρ1 A1 B1 H1 st1 b1 gG hb1 sZ Br wY CT Y9 ek1 o1=>?_⟩⟩
 have yt:=hS _ _ o1
 have pl:=sZ.pl
 refine ⟨fun σ' H'=>Q .cg H',?_,fun _ _ y=>y⟩
 refine ⟨_,Z,cU yt h63 (by decide) (by decide) (by decide) (by decide) fun cd _ _ _=>⟨_,_,Z,Z,_,Z,dm (fun _=>?_) (fun _=>?_)⟩⟩
 rotate_left
 . exact q ρ1 A1 B1 H1 st1 b1 gG hb1 sZ.mono Br wY CT (by omega) (by omega) o1
 have om1:H1 B.m=some (.dK (eZ B1 b1.bot)):=by rw [<-wY];exact hb1.om
 refine ⟨_,Z,_,Z,B.m,_,Z,cN.k (k:=Sum.inr "parts") om1,⟨⟨a,B1.lp,ns,10,_,lW b1,Z,yt,h63,by decide,by decide,aC.of hb1.op,hb1.nw,by unfold lW;rw [fJ];exact sZ.jM.nd,by unfold lW;rw [aF];omega,fun w hw=>by obtain ⟨p,hp,rfl⟩:=bN.mp hw;exact sZ.jM.w1 p hp,fun z zs rs H2 g2 hz hz2 hR rok=>?_⟩⟩⟩
 have zl:=hR.length
 have kU:=gG.mono g2
 have hb2:=hb1.mono g2
 have cz:ρ1 z=none:=gG.g.none hz
 refine ⟨fun σ' H'=>Q .cg H',?_,fun _ _ y=>y⟩
 refine ⟨_,Z,z,_,Z, .inl (aC.of hz2),_,_,Z,Z,_,Z,dm (fun c0=>?_) (fun c0=>?_)⟩
 rotate_left
 . exact q ρ1 A1 B1 H2 st1 b1 kU hb2 sZ.mono Br wY CT (by omega) (by omega) (o1.trans (iT g2))
 have c1:0<rs.length:=by have:(0:Int)<((zs.length:Nat):Int):=dU c0;omega
 have hne:rs≠[] :=fun e=>by rw [e] at c1;simp at c1
 obtain ⟨cok,rb,bo⟩:=Om sZ gG.wf rok hne (by decide)
 refine ⟨_,Z,A.a,A1.dx,_,Z,by rw [<-Br];exact kU.h.oa,Z,_,Z,z,_,Z, .inl (aC.of hz2),fun hd hhd=>?_⟩
 have g3:=aA hhd (.lst zs)
 have QJ:upd H2 hd (.lst zs) hd=some (.lst zs):=ak
 have hz3:=g3 _ _ hz2
 have hR3:=hR.mono g3.tups
 have kW:=kU.mono g3
 have Bo:=hb2.mono g3
 have o3:aI (out ρ H) (out ρ1 (upd H2 hd (.lst zs))):=o1.trans (iT (g2.trans g3))
 show m_ _ (upd H2 hd (.lst zs)) _
 generalize upd H2 hd (.lst zs)=H3 at *
 refine ⟨⟨n,ρ1,A1,st1,hd,zs,rs,by rw [Br];rfl,kW,aC.of QJ,hR3,cok,fun ρ4 A4 H4 nJ e4 f4=>?_⟩⟩
 have CU:=Bo.other f4 kW.g (cy nm)
 obtain ⟨ez,cz4⟩:=f4.at hz3 cz
 have hR4:=hR3.mono (f4.tup kW.g)
 refine ⟨_,Z,_,Z,⟨⟨m,ρ4,B1,b1,z,zs,rs,by rw [wY];rfl,nJ.g,CU,sZ.jM,aC.of ez,hR4,cz4,rb,cok.len,bo,fun ρ5 B5 H5 G5 FH e5 f5=>?_⟩⟩⟩
 exact q ρ5 A4 B5 H5 _ _ (nJ.other f5 G5 nm) FH (aae sZ gG.wf cok rb bo (by decide)) (e4.trans Br) (e5.trans wY) CT (by have:=aaf st1 rs;omega) (Vu bo) ((o3.trans f4.out).trans f5.out)
abbrev qy:Stmt:=top 42
abbrev mW:List Str:=["_law_word"]
abbrev HL:List Str:=mW.append ["_law_sign"]
theorem w6:aJ HL mW (ay qy):=c5
theorem FO (F:At K mg "_law_is_name" qy f fd) (bh:mg "len"=none):Dn P w K mg base 1 "_law_is_name" mW xD:=by
 refine F.oA w6 fun cdv A outer s H vs Q E hr h=>?_
 obtain ⟨⟨cs,rfl,hl,q⟩⟩:=h
 refine ⟨_,(@cF.h _ _ _ (aj (dR eL rfl (Vp (qv 0)) (aR (i:=1) w6.nd) (au (cC (aU K8 (qv 1) bg (by with_unfolding_all rfl)) (au (aO fk)) aT)))
  (au (aO (E_ (o9 KA ai (aH uV (by rfl) bh dF (af (qv 0) ao)) (aX _)) (E9 (o9 KA (aH uV (by rfl) bh dF (af (qv 0) ao)) ai (aX _)))))))),?_⟩
 have hz:(tx cs).length<=sizeLine:=by rw [g_,fj];omega
 refine ⟨_,Z,cs,Z,?_⟩
 refine ZJ (fun i σ H2=>H2=H/\(cs.take i).all (sP "abcdefghijklmnopqrstuvwxyz")=true/\∃(s1:Option V),σ=[some (.str (tx cs)),s1]) ⟨Z,Z,none,Z⟩ ?_ ?_
 . rintro i ch σ H2 hc ⟨rfl,ha,s1,rfl⟩
   have e:(cs.take (i+1)).all (sP "abcdefghijklmnopqrstuvwxyz")=((cs.take i).all (sP "abcdefghijklmnopqrstuvwxyz") && sP "abcdefghijklmnopqrstuvwxyz" ch):=by
    rw [List.take_add_one,hc,List.all_append]
    show (_ && (sP _ ch && true))=_
    rw [Bool.and_true]
   refine ⟨_,Z,_,_,Z,Z,_,Z,?_⟩
   show if (!sP "abcdefghijklmnopqrstuvwxyz" ch)=true then _ else _
   cases hb:sP "abcdefghijklmnopqrstuvwxyz" ch with
   | true=>exact cM ⟨Z,by rw [e,ha,hb];rfl,_,Z⟩
   | false=>
     refine jX ?_
     have hf:isName cs=false:=by
      unfold isName
      rw [show cs.all (sP "abcdefghijklmnopqrstuvwxyz")=false by rw [List.all_eq_false];exact ⟨ch,bJ hc,by rw [hb];exact fF⟩,Bool.and_false]
     rw [hf] at q
     exact q
 rintro σ H2 ⟨rfl,ha,s1,rfl⟩
 rw [cA] at ha
 have hf:isName cs=(decide (1<=(cs.length:Int)) && decide ((cs.length:Int)<=8)):=by unfold isName;rw [ha,Bool.and_true]
 rw [hf] at q
 refine ⟨_,Z,_,Z,hz,_,_,Z,Z,_,Z,?_⟩
 rw [g_]
 refine dm (fun c=>?_) (fun c=>?_)
 . refine ⟨_,Z,_,Z,hz,_,_,Z,Z,?_⟩
   rw [g_]
   rw [c,Eb] at q
   exact q
 . rw [pD.mpr c,D8] at q
   exact q
abbrev qz:Stmt:=top 43
abbrev mX:List Str:=["_law_model_here","_law_name_here"]
abbrev HM:List Str:=mX
theorem FP:aJ HM mX (ay qz):=c5
theorem FQ (F:At K mg "_law_due_new" qz f fd) (rK:Dn P w K mg base 1 "_law_is_name" mW xD):Dn P w K mg base 2 "_law_due_new" mX Mt:=by
 refine F.oA FP fun cdv A outer s H vs Q E hr h=>?_
 obtain ⟨⟨n,ρ,B,b,x,rfl,hb,hx,q⟩⟩:=h
 refine ⟨_,(@cF.h _ _ _ (aj (cC (dJ (dB (bf rK hr (af (qv 1) ao)))) (au (aO ai)) aT)
  (aj (cC (aU IB (qv 1) (bP (bU hr) (qv 0) bg) (by with_unfolding_all rfl)) (au (aO ai)) aT)
  (au (aO (zu uU ai)))))),?_⟩
 refine ⟨_,Z,Jz (cs:=x.cps.toList) (by have:x.cps.toList.length<=1000:=hx;omega) ⟨_,Z,?_⟩⟩
 unfold KL isNm at q
 cases hn:isName x.cps.toList with
 | false=>
   rw [hn,az fF] at q
   exact jX q
 | true=>
   rw [hn,aB rfl] at q
   refine cM ?_
   refine ⟨_,Z,_,Z,B.m,_,Z,cN.k (k:=Sum.inr "known") hb.om,B.lk,_,Z, .inl (aC.of hb.ok),Z,UK _,_,Z,?_⟩
   rw [Xm]
   by_cases hm:x∈b.cS
   . rw [aB hm] at q
     rw [bM hm]
     exact jX q
   . rw [az hm] at q
     rw [dO hm]
     exact cM ⟨1,Z,q⟩
abbrev nu:Stmt:=top 44
abbrev kO:List Str:=["_law_model_here","_law_part","_law_deed"]
abbrev DN:List Str:=kO.append ["_law_found"]
theorem uu:aJ DN kO (ay nu):=c5
theorem Cf (F:At K mg "_law_due_sever" nu f fd) (rL:Dn P w K mg base 2 "_law_due_new" mX Mt):Dn P w K mg base 3 "_law_due_sever" kO (MC K):=by
 refine F.oA uu fun cdv A outer s H vs Q E hr h=>?_
 obtain ⟨⟨n,ρ,B,b,st,r,l,z,q0,x,y,a,we,rfl,hz,hb,hr0,kn,hy,q⟩⟩:=h
 refine ⟨_,(@cF.h _ _ _ (aj (aN (i:=3) uu.nd (bf rL hr (af (qv 0) (af (aG (br K) (qv 2) ai) ao))))
  (aj (cC (aU BN (qv 3) ai (aX _)) (au (aO (qv 3))) aT)
  (aj (cC (dZ (bW.pt (gK (aU wD (aG (br K) (qv 2) ai) ai (aX _)) (f_ (aU wD (aG (br K) (qv 2) ai) ai (aX _)))))) (au (aO ai)) aT)
  (aj (cC (dZ (bW.pt (gK (aU BN (aG (br K) (qv 2) ai) (aG (aK K) (qv 1) ai) (aX _)) (f_ (aU iH (aG (br K) (qv 2) ai) (aG (aK K) (qv 1) ai) (aX _)))))) (au (aO ai)) aT)
  (au (aO (zu uU ai)))))))),?_⟩
 have e2:lG (Dd.v (.sever x y a we)) 2=some (.str y):=aP (j:=2) rfl
 have e3:lG (Dd.v (.sever x y a we)) 3=some (.int a):=aP (j:=3) rfl
 have e4:lG (Dd.v (.sever x y a we)) 4=some (.int we):=aP (j:=4) rfl
 refine ⟨_,Z,_,Z,z,_,_,_,Z,Z,hz,e2,⟨⟨n,ρ,B,b,y,Z,hb,by omega,?_⟩⟩⟩
 rw [XO kn]
 unfold Si at q
 refine ⟨_,Z,_,_,Z,Z,_,Z,?_⟩
 cases hn:newR st y with
 | some i=>
   rw [hn] at q
   exact dm (fun _=>⟨_,Z,q⟩) (fun c=>absurd (bM (by show (0:Int)<=(i:Int);omega)) c)
 | none=>
   rw [hn] at q
   refine dm (fun c=>absurd (dU c) (by show ¬ (0:Int)<=-1;decide)) (fun _=>?_)
   have q:Q (.int (Ms (if a<1\/we<0 then some 5 else if q0.wo<=a\/q0.we<we then some 6 else none))) H:=q
   by_cases hw:a<1\/we<0
   . rw [aB hw] at q
     exact ⟨true,⟨_,Z,z,_,_,_,Z,Z,hz,e3,_,_,Z,Z,_,Z,dm (fun c=>⟨Z,Z⟩) fun c=>⟨_,Z,z,_,_,_,Z,Z,hz,e4,_,_,Z,Z,_,Z,bM (hw.resolve_left fun y=>c (bM y)),Z⟩⟩,jX q⟩
   rw [az hw] at q
   refine ⟨false,⟨_,Z,z,_,_,_,Z,Z,hz,e3,_,_,Z,Z,_,Z,dm (fun c=>absurd (dU c) (by omega)) fun c=>⟨_,Z,z,_,_,_,Z,Z,hz,e4,_,_,Z,Z,_,Z,dO (by omega),Z⟩⟩,cM ?_⟩
   have r2:lG [V.str q0.nm,V.str q0.ow,V.int q0.wo,V.int q0.we,V.ref l] 2=some (.int q0.wo):=aP (j:=2) rfl
   have r3:lG [V.str q0.nm,V.str q0.ow,V.int q0.wo,V.int q0.we,V.ref l] 3=some (.int q0.we):=aP (j:=3) rfl
   by_cases hv:q0.wo<=a\/q0.we<we
   . rw [aB hv] at q
     exact ⟨true,⟨_,Z,z,_,_,_,Z,Z,hz,e3,_,Z,r,_,_,_,Z,Z,aC.of hr0,r2,_,_,Z,Z,_,Z,dm (fun c=>⟨Z,Z⟩) fun c=>⟨_,Z,z,_,_,_,Z,Z,hz,e4,_,Z,r,_,_,_,Z,Z,aC.of hr0,r3,_,_,Z,Z,_,Z,bM (hv.resolve_left fun y=>c (bM y)),Z⟩⟩,jX q⟩
   . rw [az hv] at q
     exact ⟨false,⟨_,Z,z,_,_,_,Z,Z,hz,e3,_,Z,r,_,_,_,Z,Z,aC.of hr0,r2,_,_,Z,Z,_,Z,dm (fun c=>absurd (dU c) (by omega)) fun c=>⟨_,Z,z,_,_,_,Z,Z,hz,e4,_,Z,r,_,_,_,Z,Z,aC.of hr0,r3,_,_,Z,Z,_,Z,dO (by omega),Z⟩⟩,cM ⟨1,Z,q⟩⟩
abbrev oN:Stmt:=top 45
abbrev lQ:List Str:=["_law_model_here","_law_deed"]
abbrev FT:List Str:=lQ.append ["_law_at_here","_law_part"]
theorem oO:aJ FT lQ (ay oN):=c5
theorem DO (F:At K mg "_law_due_part" oN f fd) (mC:Dn P w K mg base 1 "_law_at" pB (A8 K)) (oQ:Dn P w K mg base 3 "_law_due_sever" kO (MC K)):Dn P w K mg base 4 "_law_due_part" lQ (KN qZ K):=by
 refine F.oA oO fun cdv A outer s H vs Q E hr h=>?_
 obtain ⟨⟨n,ρ,B,b,st,z,d,rfl,hz,hb,rl,wf,wb,kn,ha,db,q⟩⟩:=h
 refine ⟨_,(@cF.h _ _ _ (aj (aN (i:=2) oO.nd (bf mC hr (af (bP (bU hr) (qv 0) bg) (af (aG (br K) (qv 1) ai) ao))))
  (aj (cC (aU wD (qv 2) ai (aX _)) (au (aO ai)) aT)
  (aj (aN (i:=3) oO.nd (aG (aK K) (bP (bU hr) (qv 0) bg) (qv 2)))
  (aj (cC (aU i6 (aG (br K) (qv 1) ai) bg (aX _)) (au (aO (bf oQ hr (af (qv 0) (af (qv 3) (af (qv 1) ao)))))) aT)
  (au (aO (zu uU ai)))))))),?_⟩
 obtain ⟨x,y,a,we,rfl⟩:∃x y a we,d = .sever x y a we:=by
  cases d with
  | sever x y a we=>exact ⟨x,y,a,we,Z⟩
  | _=>exact ha.elim
 have q:=q H (aI.refl _)
 have q:Q (.int (Ms (gM st x y a we))) H:=q
 refine ⟨_,Z,B.m,_,Z,cN.k (k:=Sum.inr "parts") hb.om,_,Z,z,_,_,_,Z,Z,hz,aP (j:=1) rfl,QG hb rl wf wb (fun i p q' k1 k2 k3 k4 k5 k6 k7 k8 hm=>?_) fun hm=>?_⟩
 rotate_left
 . refine ⟨_,Z,_,_,Z,Z,_,Z,dm (fun _=>?_) (fun c=>absurd (bM (by show (-1:Int)<0;decide)) c)⟩
   unfold gM at q;rw [az hm] at q;exact q
 refine ⟨_,Z,_,_,Z,Z,_,Z,dm (fun c=>absurd (dU c) (by show ¬ (i:Int)<0;omega)) (fun _=>?_)⟩
 obtain ⟨qq,CI,r1,_⟩:=hb.find k2
 have Jt:lG (B.qs.map fun q=>V.ref q.1) (i:Int)=some (.ref qq.1):=aP (by rw [bK,CI];rfl)
 refine ⟨_,Z,B.m,_,Z,cN.k (k:=Sum.inr "parts") hb.om,_,Z,B.lp,_,_,_,Z,Z,aC.of hb.op,Jt,?_⟩
 refine ⟨_,Z,z,_,_,_,Z,Z,hz,aP (j:=0) rfl,Z,_,Z,dm (fun _=>?_) (fun c=>absurd (bM rfl) c)⟩
 rw [Sj hm k8,<-k6,<-k7] at q
 exact ⟨_,Z,_,Z,_,Z,⟨⟨n,ρ,B,b,st,qq.1,qq.2,z,q',x,y,a,we,Z,hz,hb,r1,kn,db.2.1,q⟩⟩⟩
abbrev xS:Stmt:=top 46
abbrev uE:List Str:=["_law_model_here","_law_deed"]
abbrev SH:List Str:=uE
theorem OO:aJ SH uE (ay xS):=c5
theorem OP (F:At K mg "_law_due" xS f fd) (qA:Dn P w K mg base 4 "_law_due_part" lQ (KN qZ K)):Dn P w K mg base 5 "_law_due" uE (KN qZ K):=by
 refine F.oA OO fun cdv A outer s H vs Q E hr h=>?_
 obtain ⟨⟨n,ρ,B,b,st,z,d,rfl,a1,a2,a3,a4,a5,a6,a7,a8,a9⟩⟩:=h
 refine ⟨_,(@cF.h _ _ _ (au (aO (bf qA hr (af (qv 0) (af (qv 1) ao)))))),?_⟩
 exact ⟨_,Z,_,Z,⟨⟨n,ρ,B,b,st,z,d,Z,a1,a2,a3,a4,a5,a6,a7,a8,a9⟩⟩⟩
abbrev qB:Stmt:=top 47
abbrev mY:List Str:=["_law_hold","_law_deed"]
abbrev HN:List Str:=mY
theorem FU:aJ HN mY (ay qB):=c5
theorem FW {T:TC} {e:Ec} (F:At K mg "_law_hold_do" qB f fd) (ud:Mx P w K mg base 4 T.hold "sever" qm (MA T e)):Dx P w K mg base 6 "_law_hold_do" mY (Mp T e qZ K):=by
 refine F.Vr FU fun cdv A outer s H vs Q E hr h=>?_
 obtain ⟨⟨n,ρ,A,st,z,d,rfl,hz,hh,ha,dq⟩⟩:=h
 refine ⟨_,(@cF.h _ _ _ (aj (cC (aU i6 (aG (br K) (qv 1) ai) bg (aX _)) (au (aO (Hh ud hr (qv 0) (af (aG (br K) (qv 1) ai) (af (aG (br K) (qv 1) ai) (af (aG (br K) (qv 1) ai) (af (aG (br K) (qv 1) ai) ao))))))) aT)
  (au (aO ac0)))),?_⟩
 cases d with
 | sever x y a we=>
   refine ⟨_,Z,z,_,_,_,Z,Z,hz,aP (j:=0) rfl,Z,_,Z,dm (fun c=>?_) (fun c=>absurd (bM rfl) c)⟩
   exact ⟨_,Z,A.a,A.dx,_,Z,hh.h.oa,Z,_,Z,z,_,_,_,Z,Z,hz,aP (j:=1) rfl,_,Z,z,_,_,_,Z,Z,hz,aP (j:=2) rfl,_,Z,z,_,_,_,Z,Z,hz,aP (j:=3) rfl,_,Z,z,_,_,_,Z,Z,hz,aP (j:=4) rfl,⟨⟨n,ρ,A,st,x,y,a,we,Z,hh,ha.1,ha.2.1,ha.2.2,dq⟩⟩⟩
 | _=>exact ha.elim
abbrev ue:Stmt:=top 48
abbrev qC:List Str:=["_law_hold","_law_deed"]
abbrev Nq:List Str:=qC.append ["_law_told","e"]
theorem jr:aJ Nq qC (ay ue):=c5
theorem JW {T:TC} {e:Ec} {al:HS->Dd->Prop} (F:At K mg "_law_tried" ue f fd) (qD:Dx P w K mg base 6 "_law_hold_do" mY (Mp T e al K)) (to:∀st d i,al st d->lz st d=some i->Told K e (e.at i) i) (aM:mg "isinstance"=none) (v7:mg "ValueError"=none)
  (pe:mg "BadName"=some (.ref e.bad)) (uL:mg "Twice"=some (.ref e.twice)) (Bt:mg "NoOwner"=some (.ref e.E6)) (rA:mg "NoPart"=some (.ref e.sU)) (zN:mg "NoVoyage"=some (.ref e.E7)) (k_:mg "BadNumber"=some (.ref e.sV))
  (pA:mg "TooMuch"=some (.ref e.AY)) (Bu:mg "BadRows"=some (.ref e.rows)) (DP:mg "NoDeed"=some (.ref e.Mg)) (zO:mg "BadPaper"=some (.ref e.E8)) (qE:mg "JettisonError"=some (.ref e.XH)):Dn P w K mg base 7 "_law_tried" qC (G_ T al K):=by
 refine F.oA jr fun cdv A outer s H vs Q E hr h=>?_
 obtain ⟨⟨n,ρ,A,st,z,d,rfl,hz,hh,ha,q2,q⟩⟩:=h
 refine ⟨_,(@cF.h _ _ _ (aj (aN (i:=2) jr.nd (eF ao))
  (aj (acY (j:=3) jr.nd rfl rfl (fun _ _ z=>z) rfl rfl (acZ qD hr (fun _ _ z=>z) (af (qv 0) (af (qv 1) ao))) (by rfl) qE (fun _=>(aj (aN (i:=2) jr.nd (eF (af (aH (fu K rfl) (by rfl) aM jW (af (qv 3) (af (jB (n:="ValueError") (by rfl) rfl v7) ao))) (af (aH (fu K rfl) (by rfl) aM jW (af (qv 3) (af (ki (v:= .ref _) (by rfl) pe rfl) ao))) (af (aH (fu K rfl) (by rfl) aM jW (af (qv 3) (af (ki (v:= .ref _) (by rfl) uL rfl) ao))) (af (aH (fu K rfl) (by rfl) aM jW (af (qv 3) (af (ki (v:= .ref _) (by rfl) Bt rfl) ao))) ao))))))
  (aj (aN (i:=2) jr.nd (aD nE (qv 2) (eF (af (aH (fu K rfl) (by rfl) aM jW (af (qv 3) (af (ki (v:= .ref _) (by rfl) rA rfl) ao))) (af (aH (fu K rfl) (by rfl) aM jW (af (qv 3) (af (ki (v:= .ref _) (by rfl) zN rfl) ao))) (af (aH (fu K rfl) (by rfl) aM jW (af (qv 3) (af (ki (v:= .ref _) (by rfl) k_ rfl) ao))) ao))))))
  (au (aN (i:=2) jr.nd (aD nE (qv 2) (eF (af (aH (fu K rfl) (by rfl) aM jW (af (qv 3) (af (ki (v:= .ref _) (by rfl) pA rfl) ao))) (af (aH (fu K rfl) (by rfl) aM jW (af (qv 3) (af (ki (v:= .ref _) (by rfl) Bu rfl) ao))) (af (aH (fu K rfl) (by rfl) aM jW (af (qv 3) (af (ki (v:= .ref _) (by rfl) DP rfl) ao))) (af (aH (fu K rfl) (by rfl) aM jW (af (qv 3) (af (ki (v:= .ref _) (by rfl) zO rfl) ao))) ao))))))))))))
  (au (aO (qv 2)))))),?_⟩
 refine ⟨fT _,fun l0 je=>?_⟩
 have g0:aI H (upd H l0 (.lst [])):=aA je _
 have h0:upd H l0 (.lst []) l0=some (.lst []):=ak
 generalize upd H l0 (.lst [])=H0 at g0 h0
 refine ⟨_,Z,_,Z,⟨⟨n,ρ,A,st,z,d,Z,g0.tup hz,hh.mono g0,ha,⟨fun i hi x H1 g1=>⟨_,Z,(to st d i ha hi).jt,fun y hy=>?_⟩,fun hn ρ' A' H' Fe ea F'=>⟨Z,?_⟩⟩⟩⟩⟩
 . have g2:=aA hy (Dr y (e.at i))
   refine R4 (i:=2) (j:=3) (to st d i ha hi) rfl (show 2<4 from by decide) (by decide) ak fun l H2 g3 hl2=>?_
   exact ⟨_,Z,q2 i hi l _ (g0.trans (g1.trans (g2.trans g3))) hl2⟩
 . obtain ⟨a1,a2⟩:=F'.at h0 (hh.g.none je)
   exact ⟨_,Z,q hn l0 ρ' A' H' Fe ea ((Fr.of_same g0).trans F') a1 a2 je⟩
abbrev nv:Stmt:=top 50
abbrev kP:List Str:=["_law_model_here","_law_deed"]
abbrev DQ:List Str:=kP.append ["_law_at_here","_law_part"]
theorem ny:aJ DQ kP (ay nv):=c5
theorem Cg (F:At K mg "_law_model_one" nv f fd) (mC:Dn P w K mg base 1 "_law_at" pB (A8 K)) (c8:mg "list"=none):Dn P w K mg base 4 "_law_model_one" kP (wQ qZ K):=by
 refine F.oA ny fun cdv A outer s H vs Q E hr h=>?_
 obtain ⟨⟨n,c,ρ,B,b,st,z,d,rfl,hz,G,hb,gd,hc,wf,ha,db,hr0,q⟩⟩:=h
 refine ⟨_,(@cF.h _ _ _ (aj (aN (i:=2) ny.nd (bf mC hr (af (bP (bU hr) (qv 0) bg) (af (aG (br K) (qv 1) ai) ao))))
  (aj (aN (i:=3) ny.nd (aG (aK K) (bP (bU hr) (qv 0) bg) (qv 2)))
  (aj (ie (aU i6 (aG (br K) (qv 1) ai) bg (aX _)) (aj (sW (aD iQ (aG (aK K) (qv 3) ai) (aG (br K) (qv 1) ai)) (sX (qv 3) ai set_list))
  (aj (sW (aD iQ (aG (aK K) (qv 3) ai) (aG (br K) (qv 1) ai)) (sX (qv 3) ai set_list))
  (aj (cT (pX uO uM uN fY (bP (bU hr) (qv 0) bg) (af (eF (af (aG (br K) (qv 1) ai) (af (aG (aK K) (qv 3) ai) (af (aG (br K) (qv 1) ai) (af (aG (br K) (qv 1) ai) (af (lZ (kR K) (by rfl) c8 uP (af (aG (aK K) (qv 3) ai) ao)) ao)))))) ao)))
  (au (cT (pX uO uM uN fY (bP (bU hr) (qv 0) bg) (af (aG (br K) (qv 1) ai) ao))))))) aT)
  (au (o8 (bU hr) (qv 0) bg (Dv ["_law_one"] [none] rfl (dN K (bP (bU hr) (qv 0) bg)) (fun _ _ _ _=>(aR (i:=0) (show List.Nodup (["_law_one"] :List Str) from by decide +kernel))) (fun _ _ _ _=>(qv 0)) (fun _ _ _ _=>(aU iH (aG (aK K) (qv 0) ai) ai (aX _))) rfl (by rfl)) rfl)))))),?_⟩
 have rl:=gd.rel
 have wb:=gd.jM
 obtain ⟨x,y,a,we,rfl⟩:∃x y a we,d = .sever x y a we:=by
  cases d with
  | sever x y a we=>exact ⟨x,y,a,we,Z⟩
  | _=>exact ha.elim
 obtain ⟨hm,⟨_,hy⟩,s4,s5,s6,s7⟩:=pY hr0
 have VP:cJ K H z (Dd.v (.sever x y a we)):=cJ.of hz
 refine ⟨_,Z,B.m,_,Z,cN.k (k:=Sum.inr "parts") hb.om,_,Z,z,_,_,_,Z,Z,VP,aP (j:=1) rfl,QG hb rl wf wb (fun i p q' k1 k2 k3 k4 k5 k6 k7 k8 _=>?_) fun hn=>absurd hm hn⟩
 obtain ⟨qq,CI,r1,r2,c1,c2⟩:=hb.find k2
 have Jt:lG (B.qs.map fun q=>V.ref q.1) (i:Int)=some (.ref qq.1):=aP (by rw [bK,CI];rfl)
 refine ⟨_,Z,B.m,_,Z,cN.k (k:=Sum.inr "parts") hb.om,_,Z,B.lp,_,_,_,Z,Z,aC.of hb.op,Jt,?_⟩
 have pl:=gd.pl
 have kl:=gd.kl
 have eb:vC b x=q':=by unfold vC;rw [<-k4,Hj wb.nd k2];rfl
 have hi:i<b.ah.length:=(d7.mp k2).1
 have VR:i<B.qs.length:=(d7.mp CI).1
 obtain ⟨bb,ebb⟩:∃bb:BS,bb={ b with ah:=b.ah.set i { q' with wo:=q'.wo-a,we:=q'.we-we }++[⟨y,q'.ow,a,we,q'.tops⟩],cS:=b.cS++[y] }:=⟨_,rfl⟩
 have eS:(b.ah.map fun p=>if p.nm=x then { p with wo:=p.wo-a,we:=p.we-we } else p)=b.ah.set i { q' with wo:=q'.wo-a,we:=q'.we-we }:=by rw [<-k4];exact zx (nm:=fun p:BP=>p.nm) (f:=fun p:BP=>{ p with wo:=p.wo-a,we:=p.we-we }) wb.nd k2
 have q:∀ρ' B' H',Gh ρ' H'->aV n ρ' B' H' { bb with ah:=bb.ah.filter fun p=>decide (0<p.wo) }->B'.m=B.m->Fr n ρ H ρ' H'->Q .cg H':=by
  have q:∀ρ' B' H',Gh ρ' H'->aV n ρ' B' H' (vD b x y a we)->B'.m=B.m->Fr n ρ H ρ' H'->Q .cg H':=q
  unfold vD at q
  rw [eb,eS] at q
  rw [ebb]
  exact q
 refine ⟨fun σ' H'=>∃ρ5 B5,σ'=[some (.ref B.m),some (.ref z),some (.int (i:Int)),some (.ref qq.1)]/\Gh ρ5 H'/\aV n ρ5 B5 H' bb/\B5.m=B.m/\Fr n ρ H ρ5 H',?_,?_⟩
 . refine ⟨_,Z,z,_,_,_,Z,Z,VP,aP (j:=0) rfl,Z,_,Z,dm (fun _=>?_) (fun c=>absurd (bM rfl) c)⟩
   refine ⟨_,Z,qq.1,_,_,_,Z,Z,aC.of r1,aP (j:=2) rfl,_,Z,z,_,_,_,Z,Z,VP,aP (j:=3) rfl,_,_,Z,Z,_,Z,qq.1,_,_,2,Z,Z,r1,Z,?_⟩
   have st1:aV n ρ { B with qs:=B.qs.set i (qq.1,qq.2) } (upd H qq.1 (fQ { q' with wo:=q'.wo-a } qq.2)) { b with ah:=b.ah.set i { q' with wo:=q'.wo-a } }:=hb.pU G k2 CI rfl wb.nd r2 c2
   have G1:=G.wr (a:=qq.1) (o:=fQ { q' with wo:=q'.wo-a } qq.2) rfl
   have F1:Fr n ρ H ρ (upd H qq.1 (fQ { q' with wo:=q'.wo-a } qq.2)):=Fr.write c1
   have r11:upd H qq.1 (fQ { q' with wo:=q'.wo-a } qq.2) qq.1=some (fQ { q' with wo:=q'.wo-a } qq.2):=ak
   have QV:z≠qq.1:=fun e=>by rw [e,r1] at hz;cases hz
   have hz1:upd H qq.1 (fQ { q' with wo:=q'.wo-a } qq.2) z=some (.tup (Dd.v (.sever x y a we))):=by rw [av QV];exact hz
   have hn1:∀b,upd H qq.1 (fQ { q' with wo:=q'.wo-a } qq.2) b=none->H b=none:=fun b h=>qY h
   have YW:((b.ah.set i { q' with wo:=q'.wo-a }).map fun p:BP=>p.nm).Nodup:=by
    have:(b.ah.set i { q' with wo:=q'.wo-a }).map (fun p:BP=>p.nm)=b.ah.map (fun p:BP=>p.nm):=by rw [wu];exact MD (f:=fun p:BP=>p.nm) (x:=q') k2
    rw [this];exact wb.nd
   show xo _ _ _ _ (upd H qq.1 (fQ { q' with wo:=q'.wo-a } qq.2))
   generalize upd H qq.1 (fQ { q' with wo:=q'.wo-a } qq.2)=H1 at *
   obtain ⟨ali,r12,_,_⟩:=st1.pt i _ _ (kC hi) (kC VR)
   refine ⟨_,Z,qq.1,_,_,_,Z,Z,aC.of r11,aP (j:=3) rfl,_,Z,z,_,_,_,Z,Z,cJ.of hz1,aP (j:=4) rfl,_,_,Z,Z,_,Z,qq.1,_,_,3,Z,Z,r11,Z,?_⟩
   have st2:=st1.pU (i:=i) (p1:={ q' with wo:=q'.wo-a,we:=q'.we-we }) (q0:=(qq.1,qq.2)) (t1:=qq.2) G1 (kC hi) (kC VR) rfl YW r12 c2
   have e2s:(b.ah.set i { q' with wo:=q'.wo-a }).set i { q' with wo:=q'.wo-a,we:=q'.we-we }=b.ah.set i { q' with wo:=q'.wo-a,we:=q'.we-we }:=rP ..
   have G2:=G1.wr (a:=qq.1) (o:=fQ { q' with wo:=q'.wo-a,we:=q'.we-we } qq.2) rfl
   have F2:Fr n ρ H ρ (upd H1 qq.1 (fQ { q' with wo:=q'.wo-a,we:=q'.we-we } qq.2)):=F1.trans (Fr.write c1)
   have r21:upd H1 qq.1 (fQ { q' with wo:=q'.wo-a,we:=q'.we-we } qq.2) qq.1=some (fQ { q' with wo:=q'.wo-a,we:=q'.we-we } qq.2):=ak
   have hz2:upd H1 qq.1 (fQ { q' with wo:=q'.wo-a,we:=q'.we-we } qq.2) z=some (.tup (Dd.v (.sever x y a we))):=by rw [av QV];exact hz1
   have hn2:∀b,upd H1 qq.1 (fQ { q' with wo:=q'.wo-a,we:=q'.we-we } qq.2) b=none->H b=none:=fun b h=>hn1 b (qY h)
   show xo _ _ _ _ (upd H1 qq.1 (fQ { q' with wo:=q'.wo-a,we:=q'.we-we } qq.2))
   generalize upd H1 qq.1 (fQ { q' with wo:=q'.wo-a,we:=q'.we-we } qq.2)=H2 at *
   obtain ⟨B2,eB2⟩:∃B2:BA,B2={ B with qs:=(B.qs.set i (qq.1,qq.2)).set i (qq.1,qq.2) }:=⟨_,rfl⟩
   have h2:aV n ρ B2 H2 { b with ah:=b.ah.set i { q' with wo:=q'.wo-a,we:=q'.we-we } }:=by rw [eB2,<-e2s];exact st2
   have QS:B2.m=B.m:=by rw [eB2]
   have l2:(b.ah.set i { q' with wo:=q'.wo-a,we:=q'.we-we }).length=b.ah.length:=jN
   obtain ⟨_,r22,_,_⟩:=st2.pt i _ _ (by show ((b.ah.set i _).set i _)[i]?=_;rw [e2s];exact kC hi) (kC (by rw [jN];exact VR))
   clear st1 st2 eB2 G1 F1
   have SI:cJ K H2 z (Dd.v (.sever x y a we)):=cJ.of hz2
   have om2:H2 B.m=some (.dK (eZ B2 b.bot)):=by rw [<-QS];exact h2.om
   refine ⟨_,Z,B.m,_,Z,cN.k (k:=Sum.inr "parts") om2, .inl ⟨Z,_,aC.of h2.op⟩,_,Z,z,_,_,_,Z,Z,SI,aP (j:=2) rfl,_,Z,qq.1,_,_,_,Z,Z,aC.of r21,aP (j:=1) rfl,_,Z,z,_,_,_,Z,Z,SI,aP (j:=3) rfl,_,Z,z,_,_,_,Z,Z,SI,aP (j:=4) rfl,_,Z,qq.1,_,_,_,Z,Z,aC.of r21,aP (j:=4) rfl,qq.2,_,Z, .inl (aC.of r22),fun l0 je=>?_⟩
   have g3:=aA je (.lst (q'.tops.map V.int))
   have ha2:upd H2 l0 (.lst (q'.tops.map V.int)) l0=some (.lst (q'.tops.map V.int)):=ak
   show m_ _ (upd H2 l0 (.lst (q'.tops.map V.int))) _
   generalize upd H2 l0 (.lst (q'.tops.map V.int))=H3 at *
   refine ⟨(iV 5),fun p hp=>?_⟩
   have g4:=aA hp (fQ ⟨y,q'.ow,a,we,q'.tops⟩ l0)
   have hp3:upd H3 p (fQ ⟨y,q'.ow,a,we,q'.tops⟩ l0) p=some (fQ ⟨y,q'.ow,a,we,q'.tops⟩ l0):=ak
   show m_ _ (upd H3 p (fQ ⟨y,q'.ow,a,we,q'.tops⟩ l0)) _
   generalize upd H3 p (fQ ⟨y,q'.ow,a,we,q'.tops⟩ l0)=H4 at *
   have zZ:H2 p=none:=g3.free hp
   have FF:=g3.trans g4
   have cl0:ρ l0=none:=G2.none je
   have np:p≠l0:=fun e=>by rw [e,ha2] at hp;cases hp
   have cp:bZ ρ l0 (n,24,y) p=none:=by rw [cu np];exact G2.none zZ
   have h3:aV n (bZ (bZ ρ l0 (n,24,y)) p (n,23,y)) B2 H4 { b with ah:=b.ah.set i { q' with wo:=q'.wo-a,we:=q'.we-we } }:=((h2.mono FF).col cl0).col cp
   have G3:Gh (bZ (bZ ρ l0 (n,24,y)) p (n,23,y)) H4:=((G2.same FF).color (g4 _ _ ha2) rfl).color hp3 rfl
   have F3:Fr n ρ H (bZ (bZ ρ l0 (n,24,y)) p (n,23,y)) H4:=((F2.trans (Fr.of_same FF)).qT (hn2 _ je)).qT (hn2 _ zZ)
   have cc1:bZ (bZ ρ l0 (n,24,y)) p (n,23,y) p=some (n,23,y):=dD
   have cc2:bZ (bZ ρ l0 (n,24,y)) p (n,23,y) l0=some (n,24,y):=by rw [cu (cy np),dD]
   have MU:=g4 _ _ ha2
   have alj:cJ K H4 z (Dd.v (.sever x y a we)):=FF.tup SI
   refine ⟨B2.lp,_,_,Z,Z,h3.op,by rw [aF,h3.ql];show _;exact dW (by rw [l2];omega),?_⟩
   rw [show B2.qs.map (fun q=>V.ref q.1)++[V.ref p]=(B2.qs++[(p,l0)]).map (fun q=>V.ref q.1) from by rw [bD];rfl]
   have h4:=h3.UZ G3 (p:=⟨y,q'.ow,a,we,q'.tops⟩) (q:=(p,l0)) hp3 MU cc1 cc2
   have G4:=G3.wr (a:=B2.lp) (o:= .lst ((B2.qs++[(p,l0)]).map fun q=>V.ref q.1)) rfl
   have F4:=F3.trans (Fr.write (o:= .lst ((B2.qs++[(p,l0)]).map fun q=>V.ref q.1)) h3.cp)
   have VZ:H4 z=some (.tup (Dd.v (.sever x y a we))):=FF _ _ hz2
   have Js:upd H4 B2.lp (.lst ((B2.qs++[(p,l0)]).map fun q=>V.ref q.1)) z=some (.tup (Dd.v (.sever x y a we))):=by
    rw [av (fun e=>by rw [e,h3.op] at VZ;cases VZ)];exact VZ
   generalize upd H4 B2.lp (.lst ((B2.qs++[(p,l0)]).map fun q=>V.ref q.1))=H5 at *
   have om5:H5 B.m=some (.dK (eZ { B2 with qs:=B2.qs++[(p,l0)] } b.bot)):=by rw [<-QS];exact h4.om
   refine ⟨_,Z,B.m,_,Z,cN.k (k:=Sum.inr "known") om5, .inl ⟨Z,_,aC.of h4.ok⟩,_,Z,z,_,_,_,Z,Z,cJ.of Js,aP (j:=2) rfl,B2.lk,_,_,Z,Z,h4.ok,by rw [aF];exact dW (by show b.cS.length<=_;omega),?_⟩
   rw [show b.cS.map V.str++[V.str y]=(b.cS++[y]).map V.str from by rw [bD];rfl]
   exact ⟨_,{ B2 with qs:=B2.qs++[(p,l0)] },Z,G4.wr rfl,by rw [ebb];exact h4.Qt G4 (b.cS++[y]),QS,F4.trans (Fr.write h4.ck)⟩
 rintro σ H5 ⟨ρ5,B5,rfl,G5,h5,yu,F5⟩
 have pl5:bb.ah.length<=1000:=by rw [ebb];show (b.ah.set i _++[_]).length<=1000;rw [cY,jN];show b.ah.length+1<=1000;omega
 have FN:B5.qs.length=bb.ah.length:=h5.ql
 have VX:(B5.qs.map fun q=>V.ref q.1).length=bb.ah.length:=by rw [aF];exact FN
 have Aa:H5 B5.lp=some (.lst (B5.qs.map fun q=>V.ref q.1)):=h5.op
 have Za:H5 B.m=some (.dK (eZ B5 bb.bot)):=by rw [<-yu];exact h5.om
 refine ⟨_,Z,B.m,_,Z,cN.k (k:=Sum.inr "parts") Za,B5.lp,Z,⟨_,aC.of Aa⟩,fun lp uo=>?_⟩
 refine GQ (J:=uT K B5.lp) (n:=bb.ah.length) 0 (fun i o H'=>aI H5 H'/\o=(jA (bb.ah.take i) (B5.qs.take i)).map fun q=>V.ref q.1) (by omega) ⟨aA uo _,Z⟩ (fun i o H' hi _ hp=>⟨_,_,aC.of (hp.1 _ _ Aa),a_ (by rw [VX];exact hi)⟩) (fun o H' _ hp=>⟨_,aC.of (hp.1 _ _ Aa),by rw [VX];exact aS _⟩) ?_ ?_
 . rintro i y o H7 H8 hi ff ha ⟨g,e⟩ ⟨rfl,hy⟩
   have ei:=a_ hi
   obtain ⟨qq,eq,k1,k2,_,_⟩:=h5.find ei
   have ey:=hy _ (aC.of (g _ _ Aa))
   rw [bK,eq] at ey
   cases ey
   have es:=zj ei eq
   refine ⟨_,Z,qq.1,_,_,_,Z,Z,aC.of (g _ _ k1),aP (j:=2) rfl,_,_,Z,Z,_,Z,dm (fun c=>?_) (fun c=>?_)⟩
   . rw [aB (dU c)] at es
     refine ⟨_,Z,ha,g.cI uo _,?_⟩
     rw [es,e,bD]
     rfl
   . rw [az (uR (pD.mpr c))] at es
     exact ⟨ha,g,by rw [es,e,rO]⟩
 rintro o H7 _ ha ⟨g7,e⟩
 rw [cA,<-FN,cA] at e
 subst e
 have h7:=h5.mono g7
 have G7:=G5.same g7
 have clp:ρ5 lp=none:=G5.none uo
 have h8:=h7.col (t:=22) (x:=⟨#[]⟩) clp
 have G8:Gh (bZ ρ5 lp (n,22,⟨#[]⟩)) H7:=G7.color ha rfl
 have F8:Fr n ρ H (bZ ρ5 lp (n,22,⟨#[]⟩)) H7:=F5.trans (Fr.color uo g7)
 have h9:=h8.UY G8 (lp:=lp) (qs:=jA bb.ah B5.qs) (ps:=bb.ah.filter fun p=>decide (0<p.wo)) ha dD (AU FN) (fun i x y ex ey=>by
  obtain ⟨j,a1,a2⟩:=zh ex ey FN
  exact h8.pt j x y a1 a2)
 have cm8:=h8.cm
 rw [yu] at h9 cm8
 refine ⟨_,Z,B.m,_,Z,s_.k (k:=Sum.inr "parts") (by rw [<-yu];exact h7.om) (by show 5<sizeLine;decide),?_⟩
 rw [LY]
 exact q _ _ _ (G8.wr rfl) h9 rfl (F8.trans (Fr.write cm8))
abbrev oR:Stmt:=top 51
abbrev lR:List Str:=["_law_model_here","_law_deed"]
abbrev FY:List Str:=lR
theorem DR:aJ FY lR (ay oR):=c5
theorem DS (F:At K mg "_law_model_do" oR f fd) (oS:Dn P w K mg base 4 "_law_model_one" kP (wQ qZ K)):Dn P w K mg base 5 "_law_model_do" lR (wQ qZ K):=by
 refine F.oA DR fun cdv A outer s H vs Q E hr h=>?_
 obtain ⟨⟨n,c,ρ,B,b,st,z,d,rfl,a1,a2,a3,a4,a5,a6,a7,a8,a9,a10⟩⟩:=h
 refine ⟨_,(@cF.h _ _ _ (au (cT (bf oS hr (af (qv 0) (af (qv 1) ao)))))),?_⟩
 exact ⟨_,Z,_,Z,⟨⟨n,c,ρ,B,b,st,z,d,Z,a1,a2,a3,a4,a5,a6,a7,a8,a9,a10⟩⟩⟩
abbrev rM:Stmt:=top 52
abbrev nZ:List Str:=["_law_script","_law_k","_law_hold","_law_model_here","_law_deed"]
abbrev JX:List Str:=nZ.append ["_law_due_here","_law_found"]
theorem rN:aJ JX nZ (ay rM):=c5
theorem HP {T:TC} {al:HS->Dd->Prop} (hlt:∀st d i,al st d->lz st d=some i->i<10) (afe:∀c st b d,fM c st b->c<=90->Wf st->al st d->QD d->lz st d=none->fM (c+1) (wO st d) (Fb b d)/\(wO st d).kn<=st.kn+100) (F:At K mg "_law_single" rM f fd) (zP:Dn P w K mg base 5 "_law_due" uE (KN al K)) (v8:Dn P w K mg base 7 "_law_tried" qC (G_ T al K)) (zQ:Dn P w K mg base 1 "_law_hot" uC R8) (qF:Dn P w K mg base 5 "_law_model_do" lR (wQ al K)):Dn P w K mg base 8 "_law_single" nZ (Mw T al K):=by
 refine F.oA rN fun cdv A outer s H vs Q E hr h=>?_
 obtain ⟨⟨n,m,c,ρ,A,B,st,b,v0,v1,z,d,rfl,nm,hz,hh,hb,gd,hc,ha,db,q⟩⟩:=h
 refine ⟨_,(@cF.h _ _ _ (aj (aN (i:=5) rN.nd (bf zP hr (af (qv 3) (af (qv 4) ao))))
  (aj (aN (i:=6) rN.nd (bf v8 hr (af (qv 2) (af (qv 4) ao))))
  (aj (cC (aU BN (qv 5) ai (aX _)) (au (aO (o9 (GK K hr.units) (qv 6) (bf zQ hr (af (qv 5) ao)) (aX _)))) aT)
  (aj (cT (bf qF hr (af (qv 3) (af (qv 4) ao))))
  (au (aO (o9 (GK K hr.units) (qv 6) (eF ao) (aX _))))))))),?_⟩
 refine ⟨_,Z,_,Z,⟨⟨m,ρ,B,b,st,z,d,Z,cJ.of hz,hb,gd.rel,hh.wf,gd.jM,gd.cS,ha,db,fun HB gB=>?_⟩⟩⟩
 have hzB:=gB _ _ hz
 have V0:=hh.mono gB
 refine ⟨_,Z,_,Z,Sh rfl (cJ.of hzB) V0 ha fun l ρC AC HC Nr Zb FC sC Zc=>?_⟩
 have oC:aI (out ρ H) (out ρC HC):=(iT gB).trans FC.out
 have Zd:=(hb.mono gB).other FC V0.g (cy nm)
 have hzC:=FC.tup V0.g _ _ hzB
 show gh 6 (.ref l) _ _ _
 cases hr:lz st d with
 | some j=>
   have eaf:vv st d=st:=by unfold vv;rw [hr]
   rw [eaf] at Nr
   rw [hr] at Zc
   refine ⟨_,Z,_,_,Z,Z,_,Z,dm (fun _=>?_) (fun c=>absurd (bM (by show (0:Int)<=(j:Int);omega)) c)⟩
   refine ⟨_,Z,_,Z,aal (n:=j) rfl fun p HD gD hpD=>aan (r:=some j) (gD _ _ Zc) hpD (fun i hi=>by cases hi;exact hlt st d _ ha hr) ?_⟩
   exact q ρC AC B HD st b (Nr.mono gD) (Zd.mono gD) gd.mono Zb rfl rfl (by omega) (.inl rfl) (oC.trans (iT gD))
 | none=>
   have eaf:vv st d=wO st d:=by unfold vv;rw [hr]
   rw [eaf] at Nr
   rw [hr] at Zc
   obtain ⟨gd',hk⟩:=afe c st b d gd hc hh.wf ha db hr
   refine ⟨_,Z,_,_,Z,Z,_,Z,dm (fun c=>absurd (dU c) (by show ¬ (0:Int)<=-1;decide)) (fun _=>?_)⟩
   have cl:ρC l=none:=sC hr
   refine ⟨_,Z,_,Z,⟨⟨m,c,ρC,B,b,st,z,d,Z,hzC,Nr.g,Zd,gd,hc,hh.wf,ha,db,hr,fun ρD BD HD GD hbD emD FD=>?_⟩⟩⟩
   obtain ⟨hlD,_⟩:=FD.at Zc cl
   refine ⟨_,Z,(iV 0),fun p1 hp1=>?_⟩
   have gE:=aA hp1 (.lst [])
   refine ⟨.list [], .list [], .lst (aC.of (gE _ _ hlD)) .nil, .lst (aC.of ak) .nil,Z,Z,?_⟩
   exact q ρD AC BD _ _ _ ((Nr.other FD GD nm).mono gE) (hbD.mono gE) gd' Zb emD (Vs b d) hk (.inr ⟨hr,Z⟩) ((oC.trans FD.out).trans (iT gE))
abbrev mD:Stmt:=top 53
abbrev jV:List Str:=["_law_script","_law_k","_law_model_here","_law_word"]
abbrev Ci:List Str:=jV.append ["_law_some"]
theorem jH:aJ Ci jV (ay mD):=c5
theorem Bv (F:At K mg "_law_other_word" mD f fd) (aQ:Dn P w K mg base 1 "_law_draw" fD (lU K)) (bh:mg "len"=none):Dn P w K mg base 2 "_law_other_word" jV (CN K):=by
 refine F.oA jH fun cdv A outer s H vs Q E hr h=>?_
 obtain ⟨⟨a,ms,k,n,ρ,B,b,x,rfl,hS,h63,hk,hb,bk,hx,q⟩⟩:=h
 refine ⟨_,(@cF.h _ _ _ (aj (aN (i:=4) jH.nd (aD nE (aD nE (aD nE (bP (bU hr) (qv 2) bg) (gC ["_law_part"] [none] rfl (dN K (bP (bU hr) (qv 2) bg)) (fun _ _ _ _=>(aR (i:=0) (show List.Nodup (["_law_part"] :List Str) from by decide +kernel))) (fun _ _ _ _=>(aG (aK K) (qv 0) ai)) rfl (by rfl))) (bP (bU hr) (qv 2) bg)) (eF (af bg ao))))
  (aj (aN (i:=4) jH.nd (aD nE (qv 4) (eF (af (aD qU (qv 3) bg) (af (ou yf (qv 3) qW (qV ai)) (af (ou yf (qv 3) (qV ai) qW) (af (aD qU (qv 3) bg) (af (aD qU bg (ou yf (qv 3) (qV ai) qW)) (af (aD qU (aD qU (qv 3) (qv 3)) bg) ao)))))))))
  (aj (aN (i:=4) jH.nd (aD nE (qv 4) (eF (af (aD qU bg (qv 3)) (af bg (af (aD qU (ou yf (qv 3) qW (qV ai)) bg) ao))))))
  (au (aO (ou yf (aG (aK K) (qv 4) (bf aQ hr (af (qv 0) (af (qv 1) (af ai (af (aH (bY K) (by rfl) bh dF (af (qv 4) ao)) ao)))))) qW (qV ai)))))))),?_⟩
 have ur:(B.qs.map fun q=>V.ref q.1).length=b.ah.length:=by rw [aF];exact hb.ql
 have pl:=bk.pl
 have kl:=bk.kl
 have ol:=bk.ol
 refine ⟨_,Z,B.m,_,Z,cN.k (k:=Sum.inr "known") hb.om,?_⟩
 refine ⟨_,Z,B.m,_,Z,cN.k (k:=Sum.inr "parts") hb.om,B.lp,Z,⟨_,aC.of hb.op⟩,fun ac hac=>?_⟩
 refine iS (J:=uT K B.lp) (n:=b.ah.length) 0 (fun i o H'=>aI H H'/\o=((b.ah.take i).map (fun p:BP=>p.nm)).map V.str) (by omega) ⟨aA hac _,Z⟩ (fun i o H' hi _ hp=>⟨_,_,aC.of (hp.1 _ _ hb.op),a_ (by rw [ur];exact hi)⟩) (fun o H' _ hp=>⟨_,aC.of (hp.1 _ _ hb.op),by rw [ur];exact aS _⟩) ?_ ?_
 . rintro j y o H2 H3 hj ff ha ⟨g,e⟩ ⟨rfl,hy⟩
   have ej:=a_ hj
   obtain ⟨qq,eq,k1,k2,_,_⟩:=hb.find ej
   have ey:=hy _ (aC.of (g _ _ hb.op))
   rw [bK,eq] at ey
   cases ey
   refine ⟨_,Z,qq.1,_,_,_,Z,Z,aC.of (g _ _ k1),aP (j:=0) rfl,ha,g.cI hac _,?_⟩
   subst e
   rw [take_snoc ej,bD,bD]
   rfl
 rintro o H2 _ ha ⟨g2,e⟩
 rw [cA] at e
 subst e
 have sz:∀n:Nat,n<=5000->n<=sizeLine:=fun n h=>by rw [fj];omega
 refine ⟨B.lk,ac,_,_,Z,Z,g2 _ _ hb.ok,ha,sz _ (by rw [aF,aF,aF];omega),fun p1 hp1=>?_⟩
 have g3:=aA hp1 (.lst (b.cS.map V.str++(b.ah.map (fun p:BP=>p.nm)).map V.str))
 have Jr:upd H2 p1 (.lst (b.cS.map V.str++(b.ah.map (fun p:BP=>p.nm)).map V.str)) p1=some (.lst (b.cS.map V.str++(b.ah.map (fun p:BP=>p.nm)).map V.str)):=ak
 generalize upd H2 p1 (.lst (b.cS.map V.str++(b.ah.map (fun p:BP=>p.nm)).map V.str))=H3 at g3 Jr
 have Nt:=g2.trans g3
 refine ⟨_,Z,B.m,_,Z,cN.k (k:=Sum.inr "owners") (Nt _ _ hb.om),?_⟩
 refine ⟨p1,B.lo,_,_,Z,Z,Jr,Nt _ _ hb.oo,sz _ (by rw [cY,aF,aF,aF,aF];omega),fun p2 hp2=>?_⟩
 have W2:kh 100 (b.cS.map V.str++(b.ah.map (fun p:BP=>p.nm)).map V.str++b.own.map V.str):=((kh.map fun x hx=>eX (bk.cS x hx) (by decide)).append (kh.map fun x hx=>by
   obtain ⟨p,hp,rfl⟩:=bN.mp hx
   exact eX (bk.ah p hp) (by decide))).append (kh.map fun x hx=>eX (bk.own x hx) (by decide))
 have l2:(b.cS.map V.str++(b.ah.map (fun p:BP=>p.nm)).map V.str++b.own.map V.str).length<=2100:=by
  rw [cY,cY,aF,aF,aF,aF];omega
 generalize b.cS.map V.str++(b.ah.map (fun p:BP=>p.nm)).map V.str++b.own.map V.str=w_ at *
 have g4:=aA hp2 (.lst w_)
 have V1:upd H3 p2 (.lst w_) p2=some (.lst w_):=ak
 generalize upd H3 p2 (.lst w_)=H4 at g4 V1
 refine ⟨(iV 1),fun p3 hp3=>?_⟩
 have g5:=aA hp3 (.lst [.str ""])
 refine ⟨p2,p3,_,_,Z,Z,g5 _ _ V1,ak,sz _ (by show w_.length+1<=_;omega),fun p4 Mi=>?_⟩
 have g6:=aA Mi (.lst (w_++[.str ""]))
 have h46:upd (upd H4 p3 (.lst [.str ""])) p4 (.lst (w_++[.str ""])) p4=some (.lst (w_++[.str ""])):=ak
 have W3:kh 100 (w_++[.str ""]):=W2.append (kh.cons (by decide +kernel) kh.nil)
 have l3:(w_++[V.str ""]).length<=2101:=by rw [cY];show w_.length+1<=_;omega
 have g06:=Nt.trans (g4.trans (g5.trans g6))
 show gh 4 (.ref p4) _ (upd (upd H4 p3 (.lst [.str ""])) p4 (.lst (w_++[.str ""]))) _
 generalize upd (upd H4 p3 (.lst [.str ""])) p4 (.lst (w_++[.str ""]))=H6 at g06 h46
 generalize w_++[V.str ""]=L3 at *
 clear g6 Mi hp3 g5 V1 g4 hp2 W2 l2
 have l1:wl "a"<=10:=by decide +kernel
 have l22:wl "-"<=10:=by decide +kernel
 have l33:wl "A"<=10:=by decide +kernel
 have l4:wl "abcdefgh"<=10:=by decide +kernel
 have l5:wl " "<=10:=by decide +kernel
 have l6:wl "zzzzzzz"<=10:=by decide +kernel
 have l7:wl "\n"<=10:=by decide +kernel
 refine ⟨_,Z,_,Z,_,_,Z,Z,by omega,fun r1 h1=>?_⟩
 refine ⟨_,Z,_,Z,_,Z,by omega,fun r2 h2 _=>?_⟩
 refine ⟨_,Z,_,Z,_,Z,by omega,fun r3 h3 _=>?_⟩
 refine ⟨_,Z,_,_,Z,Z,by omega,fun r4 h4=>?_⟩
 refine ⟨_,Z,_,Z,_,Z,by omega,fun r5 h5 _=>⟨_,_,Z,Z,by omega,fun r6 h6=>?_⟩⟩
 refine ⟨_,Z,_,Z,_,_,Z,Z,by omega,fun r7 h7=>⟨_,_,Z,Z,by omega,fun r8 h8=>?_⟩⟩
 refine ⟨(iV 6),fun p5 hp5=>?_⟩
 have g7:=aA hp5 (.lst [.str r1, .str r2, .str r3, .str r4, .str r6, .str r8])
 refine ⟨p4,p5,_,_,Z,Z,g7 _ _ h46,ak,sz _ (by show L3.length+6<=_;omega),fun p6 Jp=>?_⟩
 have g8:=aA Jp (.lst (L3++[.str r1, .str r2, .str r3, .str r4, .str r6, .str r8]))
 have h68:upd (upd H6 p5 (.lst [.str r1, .str r2, .str r3, .str r4, .str r6, .str r8])) p6 (.lst (L3++[.str r1, .str r2, .str r3, .str r4, .str r6, .str r8])) p6=some (.lst (L3++[.str r1, .str r2, .str r3, .str r4, .str r6, .str r8])):=ak
 have W4:kh 100 (L3++[.str r1, .str r2, .str r3, .str r4, .str r6, .str r8]):=W3.append (.cons (by omega) (.cons (by omega) (.cons (by omega) (.cons (by omega) (.cons (by omega) (.cons (by omega) .nil))))))
 have l8:(L3++[V.str r1, .str r2, .str r3, .str r4, .str r6, .str r8]).length<=2107:=by rw [cY];show L3.length+6<=_;omega
 have g08:=g06.trans (g7.trans g8)
 show gh 4 (.ref p6) _ (upd (upd H6 p5 (.lst [.str r1, .str r2, .str r3, .str r4, .str r6, .str r8])) p6 (.lst (L3++[.str r1, .str r2, .str r3, .str r4, .str r6, .str r8]))) _
 generalize upd (upd H6 p5 (.lst [.str r1, .str r2, .str r3, .str r4, .str r6, .str r8])) p6 (.lst (L3++[.str r1, .str r2, .str r3, .str r4, .str r6, .str r8]))=H8 at g08 h68
 generalize L3++[V.str r1, .str r2, .str r3, .str r4, .str r6, .str r8]=L4 at *
 refine ⟨_,Z,_,Z,_,_,Z,Z,by omega,fun t1 k1=>?_⟩
 refine ⟨_,Z,_,Z,_,Z,by omega,fun t2 k2 _=>⟨_,_,Z,Z,by omega,fun t3 k3=>?_⟩⟩
 refine ⟨(iV 3),fun p7 hp7=>?_⟩
 have g9:=aA hp7 (.lst [.str t1, .str "zzzzzzz", .str t3])
 refine ⟨p6,p7,_,_,Z,Z,g9 _ _ h68,ak,sz _ (by show L4.length+3<=_;omega),fun p8 VD=>?_⟩
 have g10:=aA VD (.lst (L4++[.str t1, .str "zzzzzzz", .str t3]))
 have hA:upd (upd H8 p7 (.lst [.str t1, .str "zzzzzzz", .str t3])) p8 (.lst (L4++[.str t1, .str "zzzzzzz", .str t3])) p8=some (.lst (L4++[.str t1, .str "zzzzzzz", .str t3])):=ak
 have W5:kh 100 (L4++[.str t1, .str "zzzzzzz", .str t3]):=W4.append (.cons (by omega) (.cons (by omega) (.cons (by omega) .nil)))
 have l9:(L4++[V.str t1, .str "zzzzzzz", .str t3]).length<=2110/\0<(L4++[V.str t1, .str "zzzzzzz", .str t3]).length:=by rw [cY];show L4.length+3<=_/\0<L4.length+3;omega
 have g0A:=g08.trans (g9.trans g10)
 show gh 4 (.ref p8) _ (upd (upd H8 p7 (.lst [.str t1, .str "zzzzzzz", .str t3])) p8 (.lst (L4++[.str t1, .str "zzzzzzz", .str t3]))) _
 generalize upd (upd H8 p7 (.lst [.str t1, .str "zzzzzzz", .str t3])) p8 (.lst (L4++[.str t1, .str "zzzzzzz", .str t3]))=HA at g0A hA
 generalize L4++[V.str t1, .str "zzzzzzz", .str t3]=L5 at *
 refine ⟨_,Z,_,Z,_,Z,_,Z,p8,_,Z, .inl (aC.of hA),cU (g0A.seq hS) h63 hk (by decide) (by decide) (by omega) fun d _ d0 d1=>?_⟩
 obtain ⟨v,hv,hat⟩:=Mq (xs:=L5) (i:=d) (by omega) d1
 obtain ⟨sv,rfl,hsv⟩:=W5 v hv
 exact ⟨p8,_,_,_,Z,Z,aC.of hA,hat,_,Z,sv,Z,by omega,fun r hr1 hr2=>q r _ g0A (hr2 20 rfl rfl)⟩
abbrev kQ:Stmt:=top 54
abbrev ja:List Str:=["_law_script","_law_k","_law_model_here","_law_code"]
abbrev Ae:List Str:=ja.append ["_law_whole","_law_some","_law_part"]
theorem gw:aJ Ae ja (ay kQ):=c5
theorem zR (F:At K mg "_law_other_number" kQ f fd) (aQ:Dn P w K mg base 1 "_law_draw" fD (lU K)) (bh:mg "len"=none) (fV:mg "sum"=none) (uD:mg "min"=none):Dn P w K mg base 2 "_law_other_number" ja (z7 K):=by
 refine F.oA gw fun cdv A outer s H vs Q E hr h=>?_
 obtain ⟨⟨a,ms,k,n,ρ,B,b,i0,rfl,hS,h63,hk,hb,bk,hi,q⟩⟩:=h
 refine ⟨_,(@cF.h _ _ _ (aj (aN (i:=4) gw.nd (aH (lV K rfl) (by rfl) fV yw (af (gC ["_law_part"] [none] rfl (dN K (bP (bU hr) (qv 2) bg)) (fun _ _ _ _=>(aR (i:=0) (show List.Nodup (["_law_part"] :List Str) from by decide +kernel))) (fun _ _ _ _=>(aG (aK K) (qv 0) ai)) rfl (by rfl)) ao)))
  (aj (aN (i:=5) gw.nd (eF (af ai (af (aD iQ ai (qv 3)) (af (zu uU ai) (af (aD bV (qv 3) ai) (af (aD nD ai ai) (af (qv 4) (af (aD iQ (qv 4) ai) (af (aD bV (qv 4) ai) (af ai ao)))))))))))
  (aj (dR eL rfl (dN K (bP (bU hr) (qv 2) bg)) (aR (i:=6) gw.nd) (au (aN (i:=5) gw.nd (aD nE (qv 5) (eF (af (aG (aK K) (qv 6) ai) (af (aD bV (aG (aK K) (qv 6) ai) ai) (af (aD iQ (aG (aK K) (qv 6) ai) ai) (af (aD bV (aG (aK K) (qv 6) ai) ai) ao)))))))))
  (au (aO (aH (Ir rfl) (by rfl) uD PyProof.Rows.boot_min (af (aG (aK K) (qv 5) (bf aQ hr (af (qv 0) (af (qv 1) (af ai (af (aH (bY K) (by rfl) bh dF (af (qv 5) ao)) ao)))))) (af (aD nD ai ai) ao))))))))),?_⟩
 have ur:(B.qs.map fun q=>V.ref q.1).length=b.ah.length:=by rw [aF];exact hb.ql
 have pl:=bk.pl
 have P9:Rp 10 9:=⟨by decide,by decide,by decide +kernel⟩
 have p9:(10:Int) ^ (9:Int).toNat=1000000000:=by decide +kernel
 refine ⟨_,Z,B.m,_,Z,cN.k (k:=Sum.inr "parts") hb.om,B.lp,Z,⟨_,aC.of hb.op⟩,fun ac hac=>?_⟩
 refine iS (J:=uT K B.lp) (n:=b.ah.length) 0 (fun i o H'=>aI H H'/\o=((b.ah.take i).map (fun p:BP=>p.wo)).map V.int) (by omega) ⟨aA hac _,Z⟩ (fun i o H' hi _ hp=>⟨_,_,aC.of (hp.1 _ _ hb.op),a_ (by rw [ur];exact hi)⟩) (fun o H' _ hp=>⟨_,aC.of (hp.1 _ _ hb.op),by rw [ur];exact aS _⟩) ?_ ?_
 . rintro j y o H2 H3 hj ff ha ⟨g,e⟩ ⟨rfl,hy⟩
   have ej:=a_ hj
   obtain ⟨qq,eq,k1,k2,_,_⟩:=hb.find ej
   have ey:=hy _ (aC.of (g _ _ hb.op))
   rw [bK,eq] at ey
   cases ey
   refine ⟨_,Z,qq.1,_,_,_,Z,Z,aC.of (g _ _ k1),aP (j:=2) rfl,ha,g.cI hac _,?_⟩
   subst e
   rw [take_snoc ej,bD,bD]
   rfl
 rintro o H2 _ ha ⟨g2,e⟩
 rw [cA] at e
 subst e
 refine ⟨ac,b.ah.map (fun p:BP=>p.wo),Z,aC.of ha,?_⟩
 have hW:0<=(b.ah.map (fun p:BP=>p.wo)).sum:=Vm fun x hx=>by
  obtain ⟨p,hp,rfl⟩:=bN.mp hx
  exact (bk.wo p hp).1
 generalize (b.ah.map (fun p:BP=>p.wo)).sum=W at *
 refine ⟨_,Z,_,_,Z,Z,_,Z,?_⟩
 refine ⟨_,Z,_,_,Z,Z,_,_,Z,Z,P9,_,Z,_,Z,_,_,Z,Z,_,Z,_,_,Z,Z,(iV 9),fun p1 hp1=>?_⟩
 obtain ⟨i1,i2⟩:=hi
 generalize Jj:upd H2 p1 (HO.lst _)=H3
 have tL:upd H2 p1 (.lst [.int 0, .int (0-i0), .int (-1), .int (i0+1), .int ((10:Int) ^ (9:Int).toNat), .int W, .int (W-1), .int (W+1), .int 1])=H3:=Jj
 rw [p9] at tL
 have g3:aI H2 H3:=tL▸aA hp1 _
 have Jr:H3 p1=some (.lst [.int 0, .int (0-i0), .int (-1), .int (i0+1), .int 1000000000, .int W, .int (W-1), .int (W+1), .int 1]):=by rw [<-tL,ak]
 clear Jj tL
 have N0:vz [.int 0, .int (0-i0), .int (-1), .int (i0+1), .int 1000000000, .int W, .int (W-1), .int (W+1), .int 1] := .cons (by omega) (.cons (by omega) (.cons (by omega) (.cons (by omega) (.cons (by omega) (.cons (by omega) (.cons (by omega) (.cons (by omega) (.cons (by omega) .nil))))))))
 have Nt:=g2.trans g3
 refine ⟨_,Z,B.m,_,Z,cN.k (k:=Sum.inr "parts") (Nt _ _ hb.om),B.lp,Z,⟨_,aC.of (Nt _ _ hb.op)⟩,?_⟩
 refine lT (K:=K) (xs:=B.qs.map fun q=>V.ref q.1) (fun i σ H'=>∃(p:Addr) (vs:List V) (s6:Option V),σ=[some (.ref a),some (.int k),some (.ref B.m),some (.int i0),some (.int W),some (.ref p),s6]/\aI H H'/\H' p=some (.lst vs)/\vz vs/\vs.length=9+4*i)
  ⟨p1,_,_,Z,Nt,Jr,N0,Z⟩ (fun i σ H' _ hp=>by obtain ⟨_,_,_,_,g,_⟩:=hp;exact aC.of (g _ _ hb.op)) ?_ ?_
 . rintro i y σ H' hy ⟨p,vs,s6,rfl,g,hp,hN,hl⟩
   rw [bK] at hy
   obtain ⟨qq,eq,rfl⟩:=lS.mp hy
   have hib:i<b.ah.length:=by rw [<-hb.ql];exact (d7.mp eq).1
   have ei:=a_ hib
   obtain ⟨k1,k2,_,_⟩:=hb.pt i _ qq ei eq
   have kk:=aC.of (K:=K) (g _ _ k1)
   obtain ⟨w1,w2⟩:=bk.wo _ (uw hib)
   refine ⟨_,Z,_,Z,qq.1,_,_,_,Z,Z,kk,aP (j:=2) rfl,_,Z,qq.1,_,_,_,Z,Z,kk,aP (j:=2) rfl,_,_,Z,Z,_,Z,qq.1,_,_,_,Z,Z,kk,aP (j:=2) rfl,_,_,Z,Z,_,Z,qq.1,_,_,_,Z,Z,kk,aP (j:=3) rfl,_,_,Z,Z,(iV 4),fun p2 hp2=>?_⟩
   generalize Vi:upd H' p2 (HO.lst _)=H4
   have Ds:upd H' p2 (.lst [.int (b.ah[i]).wo, .int ((b.ah[i]).wo+1), .int ((b.ah[i]).wo-1), .int ((b.ah[i]).we+1)])=H4:=Vi
   have g4:aI H' H4:=Ds▸aA hp2 _
   have V1:H4 p2=some (.lst [.int (b.ah[i]).wo, .int ((b.ah[i]).wo+1), .int ((b.ah[i]).wo-1), .int ((b.ah[i]).we+1)]):=by rw [<-Ds,ak]
   clear Vi Ds
   refine ⟨p,p2,_,_,Z,Z,g4 _ _ hp,V1,by rw [fj,hl];show 9+4*i+4<=_;omega,fun p3 hp3=>?_⟩
   exact ⟨p3,_,_,Z,g.trans (g4.trans (aA hp3 _)),ak,hN.append (.cons (by omega) (.cons (by omega) (.cons (by omega) (.cons (by omega) .nil)))),by rw [cY,hl];show 9+4*i+4=_;omega⟩
 rintro σ H' ⟨p,vs,s6,rfl,g,hp,hN,hl⟩
 refine ⟨_,Z,_,Z,_,Z,_,Z,p,_,Z, .inl (aC.of hp),cU (g.seq hS) h63 hk (by decide) (by decide) (by omega) fun d _ d0 d1=>?_⟩
 obtain ⟨v,hv,hat⟩:=Mq (xs:=vs) (i:=d) (by omega) d1
 obtain ⟨j,rfl,hj⟩:=hN v hv
 refine ⟨p,_,_,_,Z,Z,aC.of hp,hat,_,_,Z,Z,P9,_,_,Z,q _ _ g ?_⟩
 rw [p9]
 unfold nB
 split <;> omega
abbrev v9:Stmt:=top 55
abbrev sM:List Str:=["_law_script","_law_k","_law_model_here","_law_deed"]
abbrev OQ:List Str:=sM.append ["_law_way","_law_at_here","_law_thing"]
theorem mE:aJ OQ sM (ay v9):=c5
theorem Nu {ok:Dd->Prop} (bo:Vv ok) (F:At K mg "_law_bent" v9 f fd) (aQ:Dn P w K mg base 1 "_law_draw" fD (lU K)) (nC:Dn P w K mg base 2 "_law_other_word" jV (CN K)) (lD:Dn P w K mg base 2 "_law_other_number" ja (z7 K)) (bh:mg "len"=none) (aM:mg "isinstance"=none) (lO:mg "str"=none):Dn P w K mg base 3 "_law_bent" sM (Hi ok K):=by
 refine F.oA mE fun cdv A outer s H vs Q E hr h=>?_
 obtain ⟨⟨a,ms,k,n,ρ,B,b,z,d,rfl,hS,h63,hk,hb,bk,hz,db,q⟩⟩:=h
 refine ⟨_,(@cF.h _ _ _ (aj (cC (aU i6 (aG (br K) (qv 3) ai) bg (aX _)) (au jK) aT)
  (aj (aN (i:=4) mE.nd (bf aQ hr (af (qv 0) (af (qv 1) (af ai (af ai ao))))))
  (aj (cC (dZ (bW.pt (yl (aU i6 (aG (br K) (qv 3) ai) bg (aX _)) (yj (aU i6 (qv 4) ai (aX _)))))) (au (aO (aD (GZ K) (qv 3) (jC (af (aG (br K) (qv 3) ai) (af ai ao)))))) aT)
  (aj (cC (dZ (bW.pt (yl (aU i6 (aG (br K) (qv 3) ai) bg (aX _)) (yj (aU i6 (qv 4) ai (aX _)))))) (au (aO (jC (af bg ao)))) aT)
  (aj (aN (i:=5) mE.nd (aD bV ai (bf aQ hr (af (qv 0) (af (qv 1) (af ai (af (aD iQ (aH (bY K) (by rfl) bh dF (af (qv 3) ao)) ai) ao)))))))
  (aj (ie (dB (aH (c7 K) (by rfl) aM jW (af (aG (br K) (qv 3) (qv 5)) (af (jB Gq rfl lO) ao)))) (au (aN (i:=6) mE.nd (bf nC hr (af (qv 0) (af (qv 1) (af (qv 2) (af (aG (br K) (qv 3) (qv 5)) ao))))))) (au (aN (i:=6) mE.nd (bf lD hr (af (qv 0) (af (qv 1) (af (qv 2) (af (aG (br K) (qv 3) (qv 5)) ao))))))))
  (au (aO (aD (GZ K) (aD (GZ K) (ou (Qz K) (qv 3) qW (qV (qv 5))) (jC (af (qv 6) ao))) (ou (Qz K) (qv 3) (qV (aD bV (qv 5) ai)) qW))))))))))),?_⟩
 have e0:lG (Dd.v d) 0=some (.str d.w):=aP (j:=0) d.v0
 refine ⟨_,Z,z,_,_,_,Z,Z,hz,e0,Z,_,Z,dm (fun c=>absurd (V.str.inj (dU c)) (Dd.aao (bo.kind d db).2)) (fun _=>?_)⟩
 refine ⟨_,Z,_,Z,cU hS h63 hk (by decide) (by decide) (by decide) fun way _ w0 w1=>?_⟩
 have no2:∀u:Int,aaW (Rq (Em rEq (Em (RB K) (C3 3) (tC (.int 0))) (tC (.str "cast")))) (Rq (Em rEq (C3 4) (tC (.int u)))) [some (.ref a),some (.int k),some (.ref B.m),some (.ref z),some (.int way),none,none] H (fun b' H'=>b'=false/\H'=H):=fun u=>
  ⟨_,Z,z,_,_,_,Z,Z,hz,e0,Z,_,Z,dm (fun c=>absurd (V.str.inj (dU c)) (Dd.acW (bo.kind d db).1)) fun _=>⟨Z,Z⟩⟩
 refine ⟨false,no2 1,cM ?_⟩
 refine ⟨false,no2 2,cM ?_⟩
 refine ⟨_,Z,_,Z,_,Z,z,_,Z, .inr hz,_,_,Z,Z,cU hS h63 hk (by decide) (by decide) (by have:=(bo.len d db).1;omega) fun at' _ a0 a1=>⟨_,_,Z,Z,?_⟩⟩
 obtain ⟨dl,dl2⟩:=bo.len d db
 obtain ⟨i,ei⟩:∃i:Nat,1+at'=(i:Int):=⟨(1+at').toNat,by omega⟩
 show gh 5 (.int (1+at')) _ _ _
 rw [ei]
 have hi1:1<=i:=by omega
 have hil:i<d.v.length:=by omega
 obtain ⟨i',ei'⟩:∃i',i=i'+1:=⟨i-1,by omega⟩
 obtain ⟨v,hv⟩:∃v,d.v[i]?=some v:=⟨_,a_ hil⟩
 have hat:lG (Dd.v d) (i:Int)=some v:=aP hv
 refine ⟨fun σ H'=>aI H H'/\∃(t:V),σ=[some (.ref a),some (.int k),some (.ref B.m),some (.ref z),some (.int way),some (.int (i:Int)),some t]/\alike v t,?_,?_⟩
 . rcases bo.at_ d i' v db (by rw [<-ei'];exact hv) with ⟨s,rfl,hs⟩|⟨j,rfl,hj⟩
   . refine ⟨_,Z,_,Z,z,_,_,_,Z,Z,hz,hat,_,_,_,_,Z,gH.str _,iB,_,Z,jX ?_⟩
     exact ⟨_,Z,_,Z,_,Z,_,Z,_,Z,z,_,_,_,Z,Z,hz,hat,⟨⟨a,ms,k,n,ρ,B,b,s,Z,hS,h63,hk,hb,bk,hs,fun r H' g hr=>⟨g,_,Z, .inl ⟨s,r,Z,Z,hr⟩⟩⟩⟩⟩
   . refine ⟨_,Z,_,Z,z,_,_,_,Z,Z,hz,hat,_,_,_,_,Z,gH.int _,Oo,_,Z,cM ?_⟩
     exact ⟨_,Z,_,Z,_,Z,_,Z,_,Z,z,_,_,_,Z,Z,hz,hat,⟨⟨a,ms,k,n,ρ,B,b,j,Z,hS,h63,hk,hb,bk,hj,fun r H' g hr=>⟨g,_,Z, .inr ⟨j,r,Z,Z,hr⟩⟩⟩⟩⟩
 rintro σ H4 ⟨g4,t,rfl,al⟩
 obtain ⟨d',ed,bd⟩:=bo.set d i' v t db (by rw [<-ei'];exact hv) al
 rw [<-ei'] at ed
 have VZ:=g4.tup hz
 have ed':(d.v.take i++[t])++d.v.drop (i+1)=d'.v:=by
  rw [ed,List.set_eq_take_append_cons_drop,aB hil,KY];rfl
 have ail:xr (Dd.v d) none (some (i:Int))=d.v.take i:=aah _ _
 have aim:xr (Dd.v d) (some ((i:Int)+1)) none=d.v.drop (i+1):=by rw [show (i:Int)+1=((i+1:Nat):Int) by omega,Vf]
 have nwL:¬ (HT.dP (Dd.v d).length 0 none=0/\HT.dP (Dd.v d).length (Dd.v d).length (some (i:Int))=(Dd.v d).length):=by rw [HT.x6];omega
 have nwR:¬ (HT.dP (Dd.v d).length 0 (some ((i:Int)+1))=0/\HT.dP (Dd.v d).length (Dd.v d).length none=(Dd.v d).length):=by rw [show (i:Int)+1=((i+1:Nat):Int) by omega,HT.x6];omega
 have hlt:(d.v.take i).length=i:=by rw [lu];omega
 refine ⟨_,Z,_,Z,_,Z,z,_,Z,VZ,nwL,fun p hp=>?_⟩
 rw [ail]
 have g5:=aA hp (.tup (d.v.take i))
 have h5:upd H4 p (.tup (d.v.take i)) p=some (.tup (d.v.take i)):=ak
 generalize upd H4 p (.tup (d.v.take i))=H5 at g5 h5
 refine ⟨_,Z,(iV 1),fun p' lY=>?_⟩
 have g6:=aA lY (.tup [t])
 refine ⟨p,p',_,[t],Z,Z,cJ.of (g6 _ _ h5),cJ.of ak,(by rw [hlt,fj];show _+1<=_;omega),(fun e=>absurd (iw List.length e) (by rw [hlt];show ¬ i=0;omega)),(fun _ e=>nomatch e),fun _ _ u hu=>?_⟩
 have g7:=aA hu (.tup (d.v.take i++[t]))
 have Ze:=g4.trans (g5.trans (g6.trans g7))
 have h7:upd (upd H5 p' (.tup [t])) u (.tup (d.v.take i++[t])) u=some (.tup (d.v.take i++[t])):=ak
 generalize upd (upd H5 p' (.tup [t])) u (.tup (d.v.take i++[t]))=H7 at Ze h7
 refine ⟨_,Z,_,Z,_,_,Z,Z,_,Z,z,_,Z,Ze.tup hz,nwR,fun p3 hp3=>?_⟩
 rw [aim]
 have g8:=aA hp3 (.tup (d.v.drop (i+1)))
 refine ⟨u,p3,_,_,Z,Z,cJ.of (g8 _ _ h7),cJ.of ak,(by rw [cY,hlt,K1,fj];show i+1+_<=_;omega),(fun e=>absurd (iw List.length e) (by rw [cY];show ¬ _+1=0;omega)),(fun _ e=>?_),fun _ _ z2 hz2=>?_⟩
 . rw [e,rO] at ed'
   exact q u d' _ (Ze.trans g8) (by rw [<-ed'];exact g8 _ _ h7) bd
 . exact q z2 d' _ (Ze.trans (g8.trans (aA hz2 _))) (by rw [<-ed'];exact ak) bd
abbrev qG:Stmt:=top 65
abbrev SJ:List Str:=["_law_script"]
abbrev afg:List Str:=SJ.append ["_law_owners","_law_names_here","_law_hold","_law_model_here","_law_at_here","_law_part","_law_amount","_law_name_here","_law_deed","_law_way"]
theorem kr:aJ afg SJ (ay qG):=c5
theorem adW {T:TC} (F:At K mg "law" qG f fd) (aQ:Dn P w K mg base 1 "_law_draw" fD (lU K)) (qH:Dn P w K mg base 2 "_law_names" qo (GN K))
  (v_:Dn P w K mg base 6 "_law_tells" qt (uI 2 T K)) (wc:Dn P w K mg base 5 "_law_begin" qu (Qk T K)) (wg:Dn P w K mg base 1 "_law_model" qp (Qu K)) (xT:Dn P w K mg base 6 "_law_prep" sL (Vt T K))
  (sN:Dn P w K mg base 3 "_law_bent" sM (Hi Dy K)) (uf:Dn P w K mg base 8 "_law_single" nZ (Mw T qZ K))
  (bh:mg "len"=none) (bL:mg "range"=none) (uD:mg "min"=none) (SK:mg "max"=none) (fV:mg "sum"=none):iA P w K mg base ug 9 f fd SJ (KG K):=by
 refine F.fn.ok kr (fun vs H Q E h=>?_) (fun cdv A outer s H vs Q E hr h=>?_)
 . obtain ⟨a,ns,rfl,_⟩:=h
   rfl
 obtain ⟨a,ns,rfl,hS,h63,q⟩:=h
 refine ⟨_,(@cF.h _ _ _ (aj (aN (i:=1) kr.nd (bf qH hr (af (qv 0) (af ai (af (aD bV ai (bf aQ hr (af (qv 0) (af ai (af ai (af ai ao)))))) ao)))))
  (aj (aN (i:=2) kr.nd (bf qH hr (af (qv 0) (af ai (af ai ao)))))
  (aj (aN (i:=3) kr.nd (bf wc hr (af (qv 1) ao)))
  (aj (aN (i:=4) kr.nd (bf wg hr (af (qv 1) ao)))
  (aj (cT (bf xT hr (af (qv 0) (af (qv 3) (af (qv 4) (af (qv 2) ao))))))
  (aj (dR eL rfl (dX (by rfl) bL (af (aD bV ai (bf aQ hr (af (qv 0) (af ai (af ai (af ai ao)))))) ao)) (aR (i:=5) kr.nd) (aj (aN (i:=6) kr.nd (aG (aK K) (bP (bU hr) (qv 4) bg) (bf aQ hr (af (qv 0) (af (aD bV ai (qv 5)) (af ai (af (aH (bY K) (by rfl) bh dF (af (bP (bU hr) (qv 4) bg) ao)) ao)))))))
  (aj (aN (i:=7) kr.nd (aD bV ai (bf aQ hr (af (qv 0) (af (aD bV ai (qv 5)) (af ai (af (aH (Tz rfl) (by rfl) SK PyProof.Rows.boot_max (af (aH (Ir rfl) (by rfl) uD PyProof.Rows.boot_min (af (aD iQ (aG (aK K) (qv 6) ai) ai) (af (aD nD ai ai) ao))) (af ai ao))) ao)))))))
  (aj (aN (i:=8) kr.nd (aG (aK K) (qv 2) (aD iQ ai (aD jx (qv 5) ai))))
  (aj (aN (i:=9) kr.nd (jC (af bg (af (aG (aK K) (qv 6) ai) (af (qv 8) (af (qv 7) (af (bf aQ hr (af (qv 0) (af (aD bV ai (qv 5)) (af ai (af (aD bV (aG (aK K) (qv 6) ai) ai) ao))))) ao)))))))
  (aj (aN (i:=10) kr.nd (bf aQ hr (af (qv 0) (af (aD bV ai (qv 5)) (af ai (af ai ao))))))
  (aj (ie (aU iH (qv 10) ai (aX _)) (au (aN (i:=9) kr.nd (bf sN hr (af (qv 0) (af (aD bV ai (qv 5)) (af (qv 4) (af (qv 9) ao))))))) aT)
  (aj (ie (aU i6 (qv 10) ai (aX _)) (au (aN (i:=9) kr.nd (bf sN hr (af (qv 0) (af (aD bV ai (qv 5)) (af (qv 4) (af (qv 9) ao))))))) aT)
  (au (cC (bW.pt (gK (dJ (dB (bf uf hr (af (qv 0) (af (aD bV ai (qv 5)) (af (qv 3) (af (qv 4) (af (qv 9) ao)))))))) (f_ (dJ (dB (bf v_ hr (af (qv 3) (af (qv 4) ao)))))))) (au (aO fk)) aT))))))))))
  (au (aO fk))))))))),?_⟩
 refine ⟨_,Z,_,Z,cU hS h63 (by decide) (by decide) (by decide) (by decide) fun od _ o0 o1=>⟨_,_,Z,Z,?_⟩⟩
 obtain ⟨no,hno⟩:∃no:Nat,1+od=(no:Int):=⟨(1+od).toNat,by omega⟩
 refine II hno hS h63 (by decide) (by omega) fun zo nso H1 g1 hzo _ alk adX adY=>?_
 have yt:=g1.seq hS
 refine ⟨_,Z,II (show (6:Int)=((6:Nat):Int) from rfl) yt h63 (by decide) (by decide) fun zn nsn H2 g2 QV _ alm adZ ad0=>?_⟩
 have hS2:=g2.seq yt
 have Nv:=g2 _ _ hzo
 rw [Z4] at Nv QV
 have ff:=Ql nso
 have hnl:=Ql nsn
 have yR:=IS adX
 have SM:=UJ adY
 have VY:=IS adZ
 have ad1:=UJ ad0
 generalize EX nso=own at *
 generalize EX nsn=nms at *
 clear adX adY adZ ad0 hzo
 refine ⟨_,Z,⟨⟨zo,own,0,fun _=>none,Z,aC.of Nv,Z,yR,fun o ho=>(SM o ho).isNm,by omega,(fun b c e=>by cases e),fun ρ3 A3 H3 kW F3=>?_⟩⟩⟩
 have o3:aI (out (fun _=>none) H2) (out ρ3 H3):=F3.out
 have QB:=kW
 refine ⟨_,Z,⟨⟨zo,own,1,ρ3,Z,F3.seq (aC.of Nv) rfl,kW.g,by omega,fun ρ4 B4 H4 G4 CU k4=>?_⟩⟩⟩
 have F4:Fr 1 ρ3 H3 ρ4 H4:=fun b o e _=>k4 b o e
 have nJ:=kW.other F4 G4 (by decide)
 have o4:=o3.trans F4.out
 have fS:=(wN.of hS2).go o4
 have fN:=(wN.of (aC.of (K:=K) QV)).go o4
 have hS4:=fS _ _ (aI.refl _)
 have ain:(own.foldl gJ hs0).kn=0:=L8 own hs0
 obtain ⟨gd4,en4⟩:=gd0 (own:=own) (by omega) (by omega) (fun o ho=>(SM o ho).isNm)
 generalize own.foldl gJ hs0=st4 at *
 generalize VJ:A3.a=x
 generalize VL:B4.m=mm
 have fO:=(wN.of (aC.of (K:=K) Nv)).go o4
 have owS:∀o∈own,PyData.strOk o=true:=fun o ho=>(SM o ho).strOk
 clear QB kW o3 F4 k4 o4 F3 hS4 hS2 yt Nv QV
 refine ⟨_,Z,_,Z,_,Z,_,Z,⟨⟨0,1,ρ4,A3,B4,st4,_,a,zn,ns,nms,by rw [VJ,VL];rfl,by decide,nJ,CU,gd4,fS,h63,fN,VY,ad1,SM,by omega,en4,Z,Z,fun ρ5 A5 B5 H5 Ay b5 wU FH gd5 FI yu Zf ek5 aio o5=>?_⟩⟩⟩
 rw [VJ] at FI
 rw [VL] at yu
 have Zf:b5.own=own:=Zf
 have fS5:=fS.go o5
 have fN5:=fN.go o5
 have fO5:=fO.go o5
 rw [ain] at ek5
 clear nJ CU gd4 fS fN fO o5 VJ VL
 refine ⟨_,Z,cU (fS5 _ _ (aI.refl _)) h63 (by decide) (by decide) (by decide) (by decide) fun cd _ c0 c1=>⟨_,_,Z,Z,?_⟩⟩
 refine ⟨_,Z,by omega,by omega,?_⟩
 refine fX (lo:=0) (n:=(1+cd).toNat) (fun i σ H'=>∃ρ' A' B' st' b' s5 s6 s7 s8 s9 Yv,σ=[some (.ref a),some (.ref zo),some (.ref zn),some (.ref x),some (.ref mm),s5,s6,s7,s8,s9,Yv]/\HH T 0 ρ' A' H' st'/\aV 1 ρ' B' H' b'/\fM (1+i) st' b'/\A'.a=x/\B'.m=mm/\b'.own=own/\st'.kn<=40000*i/\0<b'.ah.length/\wN K ρ' H' a (ns.map V.int)/\wN K ρ' H' zn (nms.map V.str))
  ⟨ρ5,A5,B5,Ay,b5,_,_,_,_,_,_,Z,wU,FH,gd5,FI,yu,Zf,by omega,aio,fS5,fN5⟩ ?_ ?_
 . clear wU FH gd5 fS5 fN5 fO5 FI yu Zf
   rintro i σ H6 hi ⟨ρ6,A6,B6,Zg,b6,s5,s6,s7,s8,s9,Yv,rfl,CQ,wZ,Ju,VN,QW,eo6,ek6,Jp,fS6,fN6⟩
   have e0:(0:Int)+(i:Int)=((i:Nat):Int):=by omega
   rw [e0]
   have QX:=fS6 _ _ (aI.refl _)
   have hN6:=fN6 _ _ (aI.refl _)
   have P9:Rp 10 9:=⟨by decide,by decide,by decide +kernel⟩
   have p9:(10:Int) ^ (9:Int).toNat=1000000000:=by decide +kernel
   have bk:=Ju.bk CQ.wf
   have Za:H6 mm=some (.dK (eZ B6 b6.bot)):=by rw [<-QW];exact wZ.om
   have ur:(B6.qs.map fun q=>V.ref q.1).length=b6.ah.length:=by rw [aF];exact wZ.ql
   have pl:=Ju.pl
   refine ⟨_,Z,mm,_,Z,cN.k (k:=Sum.inr "parts") Za,_,Z,_,Z,_,_,Z,Z,_,Z,mm,_,Z,cN.k (k:=Sum.inr "parts") Za,B6.lp,_,Z, .inl (aC.of wZ.op),cU QX h63 (by omega) (by decide) (by decide) (by omega) fun d _ d0 d1=>?_⟩
   obtain ⟨jd,ejd⟩:∃jd:Nat,d=(jd:Int):=⟨d.toNat,by omega⟩
   subst ejd
   have hjd:jd<b6.ah.length:=by omega
   obtain ⟨qq,CI,r1,r2,_,_⟩:=wZ.find (a_ hjd)
   have iD:=uw hjd
   have Ma:=bk.ah _ iD
   have hw0:=Ju.jM.w1 _ iD
   refine ⟨B6.lp,_,_,_,Z,Z,aC.of wZ.op,aP (by rw [bK,CI];rfl),?_⟩
   have hwe:=Ju.we _ iD
   have aln:=(bk.wo _ iD).2
   generalize b6.ah[jd]=pp at *
   have rp:∀{H':Hp},aI H6 H'->aC K H' qq.1 [.str pp.nm, .str pp.ow, .int pp.wo, .int pp.we, .ref qq.2] :=fun g=>aC.of (g _ _ r1)
   refine ⟨_,Z,_,Z,_,_,Z,Z,_,Z,qq.1,_,_,_,Z,Z,rp (aI.refl _),aP (j:=2) rfl,_,_,Z,Z,_,_,Z,Z,P9,_,_,Z,_,_,Z,?_⟩
   rw [p9]
   have mx:∀v:Int,0<(if 1>(if 1000000000<v then 1000000000 else v) then 1 else (if 1000000000<v then 1000000000 else v))/\(if 1>(if 1000000000<v then 1000000000 else v) then 1 else (if 1000000000<v then 1000000000 else v))<=1000000000:=fun v=>by split <;> split <;> omega
   obtain ⟨m1,m2⟩:=mx (pp.wo-1)
   refine cU QX h63 (by omega) (by decide) (by decide) m1 fun mu _ u0 u1=>⟨_,_,Z,Z,?_⟩
   obtain ⟨am,eam⟩:∃am:Int,am=1+mu:=⟨_,rfl⟩
   show gh 7 (.int (1+mu)) _ _ _
   rw [<-eam]
   obtain ⟨v,hv,hat⟩:=Mq (xs:=nms.map V.str) (i:=5-(i:Int) % 4) (by rw [aF];omega) (by rw [aF];omega)
   obtain ⟨y,hy,rfl⟩:=bN.mp hv
   refine ⟨_,Z,_,Z,_,_,Z,Z,(by show (0:Int)<4;decide),_,_,Z,Z,zn,_,_,_,Z,Z,hN6,hat,?_⟩
   have hyl:wl y<=20:=yg (ad1 y hy).isNm
   refine ⟨_,Z,qq.1,_,_,_,Z,Z,rp (aI.refl _),aP (j:=0) rfl,_,Z,_,Z,_,Z,_,Z,_,_,Z,Z,_,Z,qq.1,_,_,_,Z,Z,rp (aI.refl _),aP (j:=3) rfl,_,_,Z,Z,cU QX h63 (by omega) (by decide) (by decide) (by show 0<pp.we+1;omega) fun wd _ w0 w1=>⟨(iV 5),fun z1 hz1=>?_⟩⟩
   have w1:wd<pp.we+1:=w1
   have gA:=aA hz1 (.tup (Dd.v (.sever pp.nm y am wd)))
   have oX:upd H6 z1 (.tup (Dd.v (.sever pp.nm y am wd))) z1=some (.tup (Dd.v (.sever pp.nm y am wd))):=ak
   show gh 9 (.ref z1) _ (upd H6 z1 (.tup (Dd.v (.sever pp.nm y am wd)))) _
   generalize upd H6 z1 (.tup (Dd.v (.sever pp.nm y am wd)))=Ha at oX gA
   have Ab:Dy (.sever pp.nm y am wd):=⟨_,_,_,_,Z,Ma,hyl,by unfold nB;omega,by unfold nB;omega⟩
   generalize Dd.sever pp.nm y am wd=d1 at oX Ab
   have nl:Zg.nms.length<1000:=by rw [Ju.cS];have:=Ju.kl;omega
   have ql:Zg.ah.length<1000:=by rw [Ju.rel.len];omega
   have hal:∀d,Dy d->qZ Zg d:=fun d h=>by obtain ⟨_,_,_,_,rfl,_,h2,_⟩:=h;exact ⟨eX h2 (by decide),nl,ql⟩
   clear hz1
   refine ⟨_,Z,_,Z,_,_,Z,Z,cU (gA.seq QX) h63 (by omega) (by decide) (by decide) (by decide) fun way _ y0' y1'=>?_⟩
   refine ⟨fun σ' Ha=>∃(z:Addr) (d:Dd),σ'=[some (.ref a),some (.ref zo),some (.ref zn),some (.ref x),some (.ref mm),some (.int (i:Int)),some (.ref qq.1),some (.int am),some (.str y),some (.ref z),some (.int way)]/\aI H6 Ha/\Ha z=some (.tup d.v)/\Dy d,?_,?_⟩
   . refine ⟨_,Z,_,_,Z,Z,_,Z,dm (fun _=>?_) (fun _=>?_)⟩
     . exact ⟨_,Z,_,Z,_,_,Z,Z,_,Z,_,Z,Jo QW (gA.seq QX) h63 (by omega) (wZ.mono gA) bk (cJ.of oX) Ab fun z' d' H' g hz bd=>⟨z',d',Z,gA.trans g,hz,bd⟩⟩
     . exact ⟨z1,d1,Z,gA,oX,Ab⟩
   clear oX Ab gA
   clear z1 d1 Ha
   rintro σ Ha ⟨z1,d1,rfl,gA,oX,Ab⟩
   refine ⟨fun σ' Ha=>∃(z:Addr) (d:Dd),σ'=[some (.ref a),some (.ref zo),some (.ref zn),some (.ref x),some (.ref mm),some (.int (i:Int)),some (.ref qq.1),some (.int am),some (.str y),some (.ref z),some (.int way)]/\aI H6 Ha/\Ha z=some (.tup d.v)/\Dy d,?_,?_⟩
   . refine ⟨_,Z,Z,_,Z,dm (fun _=>?_) (fun _=>?_)⟩
     . exact ⟨_,Z,_,Z,_,_,Z,Z,_,Z,_,Z,Jo QW (gA.seq QX) h63 (by omega) (wZ.mono gA) bk (cJ.of oX) Ab fun z' d' H' g hz bd=>⟨z',d',Z,gA.trans g,hz,bd⟩⟩
     . exact ⟨z1,d1,Z,gA,oX,Ab⟩
   clear oX Ab gA
   clear z1 d1 Ha
   rintro σ Ha ⟨z,d,rfl,gA,oX,Ab⟩
   have g6A:=gA
   have hhA:=CQ.mono g6A
   have hbA:=wZ.mono g6A
   have oA:aI (out ρ6 H6) (out ρ6 Ha):=iT g6A
   refine ⟨_,Z,_,Z,_,_,Z,Z,_,Z,_,Z,_,Z,⟨⟨0,1,1+i,ρ6,A6,B6,Zg,b6,_,_,z,d,by rw [VN,QW];rfl,by decide,oX,hhA,hbA,Ju,by omega,hal d Ab,ac7 Ab,fun ρB AB BB HB stB bB V0 hbB gdB eaB emB eoB ekB dnB oB=>⟨_,Z,cM ?_⟩⟩⟩⟩
   have hpB:0<bB.ah.length:=by
    rcases dnB with rfl|⟨hr,rfl⟩
    . exact Jp
    . obtain ⟨_,_,_,_,rfl,_⟩:=Ab
      obtain ⟨_,_,h1,_⟩:=pY hr
      exact Vy h1
   have ad4:bB.own=own:=eoB.trans eo6
   have aip:∀o∈bB.own,PyData.strOk o=true:=fun o ho=>owS o (by rw [<-ad4];exact ho)
   refine ⟨_,Z,_,Z,⟨⟨0,1,ρB,AB,BB,stB,bB,1+i+1,by rw [eaB,VN,emB,QW];rfl,by decide,V0,hbB,gdB,by omega,aip,by omega,fun ρC AC HC k Nr hk Zd Zb oC=>⟨_,Z,cM ?_⟩⟩⟩⟩
   exact ⟨ρC,AC,BB,_,bB,_,_,_,_,_,_,Z,Nr,Zd,by have:=YL gdB k;rw [show 1+(i+1)=1+i+1 by omega];exact this,Zb.trans (eaB.trans VN),emB.trans QW,ad4,by show k<=_;omega,hpB,fS6.go (oA.trans (oB.trans oC)),fN6.go (oA.trans (oB.trans oC))⟩
 rintro σ H6 _
 exact q H6
end
theorem all_mk {l:PySem.W.OpenLaw} {w:World} {K:Fg} {h:Heap} {mg:SO} {fa:Addr} (X:K.In h) (G:h.Ns mainGlobals mg) (hfa:mg "law"=some (.ref fa))
  {f:Addr} {od an:Option Addr} {sl:Array (Option Value)} {oc kV dc pm cd ct:Value}
  (a:PySem.W.nsIn K mainGlobals "law"=some (some (.ref f))) (l1:K.lookup f=some ⟨oc,od, .func (PySem.W.fnOf "law" "law" (dY qG) (cG qG) (ay qG) .none kV dc pm an cd ct),sl⟩) (c:PySem.W.codeIn K cd "law"=true) (k:PySem.W.keepIn K (.ref f)=true)
  (FZ:cE K "common_factor" oz) (V2:cE K "made_of" zz) (V3:cE K "is_name" zA) (HQ:cE K "check_amount" pZ) (Nx:cE K "check_loss" tM) (Ny:cE K "amounts_of" tN) (F0:cE K "factor_of_all" oE) (OR:cE K "_law_draw" vQ) (OS:cE K "_law_name" vR) (Nz:cE K "_law_names" tW) (OT:cE K "_law_much" vS) (SN:cE K "_law_int" xH) (NB:cE K "_law_least" tX) (V4:cE K "_law_is" zK) (DT:cE K "_law_part_list" nj) (Cj:cE K "_law_share_list" mq) (NC:cE K "_law_model" tY) (OU:cE K "_law_seat" vU) (F_:cE K "_law_new_part" oK) (Bw:cE K "_law_tells_parts" lA) (Af:cE K "_law_tells_landed" kN) (ND:cE K "_law_tells" t8) (NF:cE K "_law_begin" t_) (SQ:cE K "_law_hot" xM) (V5:cE K "_law_at" zM) (OV:cE K "_law_rows" vX) (OW:cE K "_law_bear" vY) (Ck:cE K "_law_model_cast" mz) (NG:cE K "_law_loads" uc) (OX:cE K "_law_prep" vZ) (HR:cE K "_law_is_name" qy) (HU:cE K "_law_due_new" qz) (DU:cE K "_law_due_sever" nu) (Ga:cE K "_law_due_part" oN) (SR:cE K "_law_due" xS) (HV:cE K "_law_hold_do" qB) (NH:cE K "_law_tried" ue) (DV:cE K "_law_model_one" nv) (Gb:cE K "_law_model_do" oR) (JY:cE K "_law_single" rM) (Cm:cE K "_law_other_word" mD) (Ag:cE K "_law_other_number" kQ) (OY:cE K "_law_bent" v9)
  (afh:PySem.W.nsIn K mainGlobals "len"=some none)
  (aaA:PySem.W.nsIn K mainGlobals "range"=some none)
  (afi:PySem.W.nsIn K mainGlobals "sum"=some none)
  (ad5:PySem.W.nsIn K mainGlobals "list"=some none)
  (afj:PySem.W.nsIn K mainGlobals "zip"=some none)
  (afk:PySem.W.nsIn K mainGlobals "all"=some none)
  (afl:PySem.W.nsIn K mainGlobals "int"=some none)
  (ad6:PySem.W.nsIn K mainGlobals "bool"=some none)
  (afm:PySem.W.nsIn K mainGlobals "str"=some none)
  (aaB:PySem.W.nsIn K mainGlobals "tuple"=some none)
  (afn:PySem.W.nsIn K mainGlobals "abs"=some none)
  (NI:PySem.W.nsIn K mainGlobals "isinstance"=some none)
  (afo:PySem.W.nsIn K mainGlobals "min"=some none)
  (afp:PySem.W.nsIn K mainGlobals "max"=some none)
  (NJ:PySem.W.nsIn K mainGlobals "ValueError"=some none)
  {SS:Tok} (V6:PySem.W.nsIn K mainGlobals "LETTERS"=some (some (.str "abcdefghijklmnopqrstuvwxyz" SS)))
  {cK:Addr} (aaC:PySem.W.nsIn K mainGlobals "Hold"=some (some (.ref cK))) (aaD:PySem.W.plainGet K cK Str.empty=true) (aaE:PySem.W.hasDictIn K cK=true) (aaF:PySem.W.plainOver K cK=true) (aaG:PySem.W.findIn K (.ref cK) "__setattr__"=some (some (.builtin "object.__setattr__"))) (aaH:PySem.W.makesIn K cK=true) (aaI:PySem.W.keepIn K (.ref cK)=true)
  (OZ:d8 K cK "__init__" "Hold.__init__" vK) (Gd:d8 K cK "place_of" "Hold.place_of" oG) (HW:d8 K cK "part_of" "Hold.part_of" qb) (DW:d8 K cK "check_new" "Hold.check_new" nh) (JZ:d8 K cK "roster" "Hold.roster" rB) (NK:d8 K cK "parts" "Hold.parts" tP) (NL:d8 K cK "whole" "Hold.whole" tQ) (zS:d8 K cK "beyond_common" "Hold.beyond_common" kj) (HX:d8 K cK "tops_of" "Hold.tops_of" qe) (O0:d8 K cK "stow" "Hold.stow" vG) (O1:d8 K cK "sign" "Hold.sign" vH) (O2:d8 K cK "load" "Hold.load" vI) (J0:d8 K cK "shares" "Hold.shares" rF) (J1:d8 K cK "landed" "Hold.landed" rJ) (Ge:d8 K cK "given_up" "Hold.given_up" oJ) (J3:d8 K cK "lessen" "Hold.lessen" rC) (NN:d8 K cK "blend" "Hold.blend" tR) (O3:d8 K cK "cast" "Hold.cast" vL) (NO:d8 K cK "sever" "Hold.sever" tV)
  (J4:PySem.W.findIn K (.ref cK) "places"=some none)
  (J5:PySem.W.findIn K (.ref cK) "aboard"=some none)
  (J6:PySem.W.findIn K (.ref cK) "ashore"=some none)
  (NP:PySem.W.findIn K (.ref cK) "names"=some none)
  (J7:PySem.W.findIn K (.ref cK) "bottom"=some none)
  (J8:PySem.W.findIn K (.ref cK) "common"=some none)
  (J9:PySem.W.findIn K (.ref cK) "purses"=some none)
  {gP:Addr} (aaJ:PySem.W.nsIn K mainGlobals "Part"=some (some (.ref gP))) (aaK:PySem.W.plainGet K gP Str.empty=true) (aaL:PySem.W.hasDictIn K gP=true) (aaM:PySem.W.plainOver K gP=true) (aaN:PySem.W.findIn K (.ref gP) "__setattr__"=some (some (.builtin "object.__setattr__"))) (aaO:PySem.W.makesIn K gP=true) (aaP:PySem.W.keepIn K (.ref gP)=true)
  (O4:d8 K gP "__init__" "Part.__init__" vF)
  (O5:PySem.W.findIn K (.ref gP) "name"=some none)
  (NQ:PySem.W.findIn K (.ref gP) "owner"=some none)
  (NR:PySem.W.findIn K (.ref gP) "worth"=some none)
  (J_:PySem.W.findIn K (.ref gP) "weight"=some none)
  (NS:PySem.W.findIn K (.ref gP) "scale"=some none)
  (SV:PySem.W.findIn K (.ref gP) "row"=some none)
  {d9:Addr} (V7:PySem.W.nsIn K mainGlobals "Bottom"=some (some (.ref d9))) (V8:PySem.W.plainGet K d9 Str.empty=true) (V9:PySem.W.hasDictIn K d9=true) (V_:PySem.W.plainOver K d9=true) (Wa:PySem.W.findIn K (.ref d9) "__setattr__"=some (some (.builtin "object.__setattr__"))) (Wb:PySem.W.makesIn K d9=true) (Wc:PySem.W.keepIn K (.ref d9)=true)
  (Ka:d8 K d9 "__init__" "Bottom.__init__" rj) (Kc:d8 K d9 "over" "Bottom.over" rE) (HY:d8 K d9 "share" "Bottom.share" qj) (Kd:d8 K d9 "grow" "Bottom.grow" rm)
  (HZ:PySem.W.findIn K (.ref d9) "steps"=some none)
  (DX:PySem.W.findIn K (.ref d9) "product"=some none)
  (H_:PySem.W.findIn K (.ref d9) "known"=some none)
  {gc iO ir gT gx eO gf iu iY gy dM:Addr}
  (SW:PySem.W.nsIn K mainGlobals "BadName"=some (some (.ref gc))) (X5:PySem.W.nsIn K mainGlobals "Twice"=some (some (.ref iO))) (SX:PySem.W.nsIn K mainGlobals "NoOwner"=some (some (.ref ir))) (Wd:PySem.W.nsIn K mainGlobals "NoPart"=some (some (.ref gT))) (O6:PySem.W.nsIn K mainGlobals "NoVoyage"=some (some (.ref gx))) (NT:PySem.W.nsIn K mainGlobals "BadNumber"=some (some (.ref eO))) (SY:PySem.W.nsIn K mainGlobals "TooMuch"=some (some (.ref gf))) (S0:PySem.W.nsIn K mainGlobals "BadRows"=some (some (.ref iu))) (We:PySem.W.nsIn K mainGlobals "NoDeed"=some (some (.ref iY))) (O7:PySem.W.nsIn K mainGlobals "BadPaper"=some (some (.ref gy))) (DY:PySem.W.nsIn K mainGlobals "JettisonError"=some (some (.ref dM)))
  (S3:Told K (Ec.mk gc iO ir gT gx eO gf iu iY gy dM) gc 0) (S4:PySem.W.excIn K gc [.type "ValueError", .type "Exception", .type "BaseException", .type "object"] "ValueError.__new__"=true)
  (X6:Told K (Ec.mk gc iO ir gT gx eO gf iu iY gy dM) iO 1) (X7:PySem.W.excIn K iO [.type "ValueError", .type "Exception", .type "BaseException", .type "object"] "ValueError.__new__"=true)
  (Wg:Told K (Ec.mk gc iO ir gT gx eO gf iu iY gy dM) gT 3) (Wh:PySem.W.excIn K gT [.type "ValueError", .type "Exception", .type "BaseException", .type "object"] "ValueError.__new__"=true)
  (NU:Told K (Ec.mk gc iO ir gT gx eO gf iu iY gy dM) eO 5) (NV:PySem.W.excIn K eO [.type "ValueError", .type "Exception", .type "BaseException", .type "object"] "ValueError.__new__"=true)
  (S7:Told K (Ec.mk gc iO ir gT gx eO gf iu iY gy dM) gf 6) (S9:PySem.W.excIn K gf [.type "ValueError", .type "Exception", .type "BaseException", .type "object"] "ValueError.__new__"=true)
  :∃fd:FuncData,(∀(s:Shared) (v:Value),BindsTo s fd ⟨[v],[]⟩ [("_law_script",v)])/\∀base:Heap,K.In base->base.Ns mainGlobals mg->iA l.prog w K mg base ug 9 fa fd ["_law_script"] (KG K):=by
 have e:=hfa.symm.trans (kD X G a)
 cases e
 have afq:=Yq (st:=qG) X G a l1 c k
 have xg:oU K d9:=⟨V8,V9,V_,Wa⟩
 have fG:oU K cK:=⟨aaD,aaE,aaF,aaG⟩
 obtain ⟨_,_,Gf⟩:=FZ.at X G
 obtain ⟨_,_,Wi⟩:=V2.at X G
 obtain ⟨_,_,Wj⟩:=V3.at X G
 obtain ⟨_,_,Ia⟩:=HQ.at X G
 obtain ⟨_,_,NW⟩:=Nx.at X G
 obtain ⟨_,_,NX⟩:=Ny.at X G
 obtain ⟨_,_,Gg⟩:=F0.at X G
 obtain ⟨_,_,O8⟩:=OR.at X G
 obtain ⟨_,_,O9⟩:=OS.at X G
 obtain ⟨_,_,NY⟩:=Nz.at X G
 obtain ⟨_,_,O_⟩:=OT.at X G
 obtain ⟨_,_,S_⟩:=SN.at X G
 obtain ⟨_,_,NZ⟩:=NB.at X G
 obtain ⟨_,_,Wl⟩:=V4.at X G
 obtain ⟨_,_,DZ⟩:=DT.at X G
 obtain ⟨_,_,Co⟩:=Cj.at X G
 obtain ⟨_,_,N1⟩:=NC.at X G
 obtain ⟨_,_,Pa⟩:=OU.at X G
 obtain ⟨_,_,Gi⟩:=F_.at X G
 obtain ⟨_,_,By⟩:=Bw.at X G
 obtain ⟨_,_,Ah⟩:=Af.at X G
 obtain ⟨_,_,N3⟩:=ND.at X G
 obtain ⟨_,_,N4⟩:=NF.at X G
 obtain ⟨_,_,Tc⟩:=SQ.at X G
 obtain ⟨_,_,Wm⟩:=V5.at X G
 obtain ⟨_,_,Pb⟩:=OV.at X G
 obtain ⟨_,_,Pc⟩:=OW.at X G
 obtain ⟨_,_,Cp⟩:=Ck.at X G
 obtain ⟨_,_,N5⟩:=NG.at X G
 obtain ⟨_,_,Pd⟩:=OX.at X G
 obtain ⟨_,_,Ib⟩:=HR.at X G
 obtain ⟨_,_,Ic⟩:=HU.at X G
 obtain ⟨_,_,D0⟩:=DU.at X G
 obtain ⟨_,_,Gj⟩:=Ga.at X G
 obtain ⟨_,_,Td⟩:=SR.at X G
 obtain ⟨_,_,Ie⟩:=HV.at X G
 obtain ⟨_,_,N6⟩:=NH.at X G
 obtain ⟨_,_,D3⟩:=DV.at X G
 obtain ⟨_,_,Gk⟩:=Gb.at X G
 obtain ⟨_,_,Ke⟩:=JY.at X G
 obtain ⟨_,_,Cq⟩:=Cm.at X G
 obtain ⟨_,_,Ai⟩:=Ag.at X G
 obtain ⟨_,_,Pe⟩:=OY.at X G
 have bh:=n_ X G afh
 have bL:=n_ X G aaA
 have fV:=n_ X G afi
 have c8:=n_ X G ad5
 have jS:=n_ X G afj
 have Sm:=n_ X G afk
 have Sv:=n_ X G afl
 have Nc:=n_ X G ad6
 have lO:=n_ X G afm
 have jq:=n_ X G aaB
 have Sw:=n_ X G afn
 have aM:=n_ X G NI
 have uD:=n_ X G afo
 have SK:=n_ X G afp
 have v7:=n_ X G NJ
 have Bb:=kD X G V6
 obtain ⟨_,_,Pf⟩:=OZ.made X G aaC aaH aaI
 obtain ⟨_,_,Gm⟩:=Gd.at fG
 obtain ⟨_,_,Ig⟩:=HW.at fG
 obtain ⟨_,_,D4⟩:=DW.at fG
 obtain ⟨_,_,Kf⟩:=JZ.at fG
 obtain ⟨_,_,N7⟩:=NK.at fG
 obtain ⟨_,_,N8⟩:=NL.at fG
 obtain ⟨_,_,zT⟩:=zS.at fG
 obtain ⟨_,_,Ih⟩:=HX.at fG
 obtain ⟨_,_,Pg⟩:=O0.at fG
 obtain ⟨_,_,Ph⟩:=O1.at fG
 obtain ⟨_,_,Pj⟩:=O2.at fG
 obtain ⟨_,_,Kg⟩:=J0.at fG
 obtain ⟨_,_,Kh⟩:=J1.at fG
 obtain ⟨_,_,Gn⟩:=Ge.at fG
 obtain ⟨_,_,Kl⟩:=J3.at fG
 obtain ⟨_,_,N9⟩:=NN.at fG
 obtain ⟨_,_,Pk⟩:=O3.at fG
 obtain ⟨_,_,N_⟩:=NO.at fG
 obtain ⟨_,_,Pn⟩:=O4.made X G aaJ aaO aaP
 obtain ⟨_,_,Km⟩:=Ka.made X G V7 Wb Wc
 obtain ⟨_,_,Kn⟩:=Kc.at xg
 obtain ⟨_,_,Ii⟩:=HY.at xg
 obtain ⟨_,_,Ko⟩:=Kd.at xg
 have TX:Txt K ⟨cK,gP,d9⟩:=⟨fG,⟨aaK,aaL,aaM,aaN⟩,xg,J4,J5,J6,NP,J7,J8,J9,O5,NQ,NR,J_,NS,SV,HZ,DX,H_⟩
 have pe:=kD X G SW
 have uL:=kD X G X5
 have Bt:=kD X G SX
 have rA:=kD X G Wd
 have zN:=kD X G O6
 have k_:=kD X G NT
 have pA:=kD X G SY
 have Bu:=kD X G S0
 have DP:=kD X G We
 have zO:=kD X G O7
 have qE:=kD X G DY
 have zC:=kg.of S4
 have DH:=kg.of X7
 have Bc:=kg.of Wh
 have vP:=kg.of NV
 have zJ:=kg.of S9
 refine ⟨PySem.W.fnOf "law" "law" (dY qG) (cG qG) (ay qG) .none kV dc pm an cd ct,fun s v=> .of_eq rfl,fun base _ _=>?_⟩
 have iy:=Dz (P:=l.prog) (w:=w) (base:=base) (mg:=mg) Gf
 have Ba:=Sl (P:=l.prog) (w:=w) (base:=base) (mg:=mg) Wi Sm
 have o_:=So Wj Ba bh Bb
 have q_:=Fl (P:=l.prog) (w:=w) (base:=base) (mg:=mg) Ia
 have vN:=JB NW q_
 have vM:=JC (P:=l.prog) (w:=w) (base:=base) (mg:=mg) NX bh
 have qh:=DA Gg iy
 have DI:=Hq (P:=l.prog) (w:=w) (base:=base) (mg:=mg) Km TX
 have yp:=MH (P:=l.prog) (w:=w) (base:=base) (mg:=mg) Pn TX c8
 have Nj:=MR Pf TX DI
 have tS:=Hs (P:=l.prog) (w:=w) (base:=base) (mg:=mg) Ko TX
 have tU:=Hz Kn TX iy
 have rH:=Fz Ii TX tU
 have qf:=DE (P:=l.prog) (w:=w) (base:=base) (mg:=mg) Gm TX
 have lN:=DF (P:=l.prog) (w:=w) (base:=base) (mg:=mg) (e:=⟨gc,iO,ir,gT,gx,eO,gf,iu,iY,gy,dM⟩) Ig TX Bc rA
 have iM:=Vl lN
 have jT:=Bd (e:=⟨gc,iO,ir,gT,gx,eO,gf,iu,iY,gy,dM⟩) D4 TX o_ zC pe DH uL
 have oH:=ac9 jT
 have t9:=Hv (P:=l.prog) (w:=w) (base:=base) (mg:=mg) Kf TX c8
 have vW:=JH (P:=l.prog) (w:=w) (base:=base) (mg:=mg) N7 TX
 have ko:=JJ (P:=l.prog) (w:=w) (base:=base) (mg:=mg) N8 TX fV
 have kK:=yo (P:=l.prog) (w:=w) (base:=base) (mg:=mg) zT TX jS
 have rG:=Fv (P:=l.prog) (w:=w) (base:=base) (mg:=mg) Ih TX jS
 have kZ:=ML (P:=l.prog) (w:=w) (base:=base) (mg:=mg) Pg TX
 have xK:=MM Ph TX o_ bh
 have xP:=MN Pj TX oH qf kK kZ yp bh
 have qi:=DJ (P:=l.prog) (w:=w) (base:=base) (mg:=mg) Gn TX fV jS
 have tT:=Hy (P:=l.prog) (w:=w) (base:=base) (mg:=mg) Kl TX
 have vO:=JL N9 TX qh tS jS
 have xR:=MW Pk TX vM vN iM ko vO qi tT fV
 have tZ:=HF Kg TX iM rG rH jS
 have t7:=HJ (P:=l.prog) (w:=w) (base:=base) (mg:=mg) Kh TX c8
 have ud:=HK (e:=⟨gc,iO,ir,gT,gx,eO,gf,iu,iY,gy,dM⟩) N_ TX lN jT kZ yp vP k_ zJ pA
 have aQ:=MZ (P:=l.prog) (w:=w) (base:=base) (mg:=mg) O8 bh bL
 have sr:=M_ (P:=l.prog) (w:=w) (base:=base) (mg:=mg) O9 bL
 have qH:=JP NY aQ sr bL
 have xO:=Nb O_ aQ
 have e_:=OG (P:=l.prog) (w:=w) (base:=base) (mg:=mg) S_ aM Sv Nc
 have kq:=JQ (P:=l.prog) (w:=w) (base:=base) (mg:=mg) NZ Sw
 have Bj:=Sy Wl e_ kq aM jq bh
 have oM:=Cc DZ e_ aM c8 jq lO bL bh
 have gF:=Bh Co kq Bj aM c8 jq lO bL bh
 have wg:=JS (P:=l.prog) (w:=w) (base:=base) (mg:=mg) N1 c8
 have xJ:=Ng (P:=l.prog) (w:=w) (base:=base) (mg:=mg) Pa bh bL
 have qx:=DM Gi xJ
 have mw:=Ac By e_ oM gF vW ko tZ fV
 have lC:=zL Ah e_ gF t7 aM c8 jq lO bL bh
 have v_:=JT N3 mw lC t9 aM c8
 have wc:=JU (T:=⟨cK,gP,d9⟩) N4 Nj xK
 have zQ:=OJ (P:=l.prog) (w:=w) (base:=base) (mg:=mg) Tc bL
 have zU:=SE (P:=l.prog) (w:=w) (base:=base) (mg:=mg) Wm bh bL
 have mC:=ac3 zU
 have xQ:=Nk Pb aQ bh bL c8 fV uD
 have xN:=Nl (P:=l.prog) (w:=w) (base:=base) (mg:=mg) Pc bh bL fV
 have nt:=Bq Cp mC xN
 have v5:=JV N5 aQ xO qx xP bh bL
 have xT:=Np (T:=⟨cK,gP,d9⟩) Pd aQ v5 xQ nt xR bh c8
 have rK:=FO (P:=l.prog) (w:=w) (base:=base) (mg:=mg) Ib bh
 have rL:=FQ Ic rK
 have oQ:=Cf D0 rL
 have qA:=DO Gj zU oQ
 have zP:=OP Td qA
 have qD:=FW Ie ud
 have ad7:∀st d i,qZ st d->lz st d=some i->Told K (Ec.mk gc iO ir gT gx eO gf iu iY gy dM) ((Ec.mk gc iO ir gT gx eO gf iu iY gy dM).at i) i:=fun st d i ha hr=>Vw S3 X6 Wg NU S7 ha hr
 have v8:=JW N6 qD ad7 aM v7 pe uL Bt rA zN k_ pA Bu DP zO qE
 have oS:=Cg D3 zU c8
 have qF:=DS Gk oS
 have uf:=HP aay Vx Ke zP v8 zQ qF
 have nC:=Bv Cq aQ bh
 have lD:=zR Ai aQ bh fV uD
 have sN:=Nu ac8 Pe aQ nC lD bh aM lO
 exact adW (T:=⟨cK,gP,d9⟩) afq aQ qH v_ wc wg xT sN uf bh bL uD SK fV
theorem walk {l:PySem.W.OpenLaw} {q:Program} {loose:List Str} {XP:(Str->Option Value)->Heap->Prop} {YP:World->Heap->Prop} {d:DefRec} {K:Params->Fg} (hn:l.most=some 63) (hdf:d.params.defaults=[])
  (hY:∀(w:World) (h:Heap),YP w h->(K w.params).In h)
  (F:∀(w:World) (mg:SO) (fa:Addr) (h:Heap),(K w.params).In h->h.Ns mainGlobals mg->mg d.name=some (.ref fa)->
    ∃fd:FuncData,(∀(s:Shared) (u:Value),BindsTo s fd ⟨[u],[]⟩ [("_law_script",u)])/\∀base:Heap,(K w.params).In base->base.Ns mainGlobals mg->iA l.prog w (K w.params) mg base ug 9 fa fd ["_law_script"] (KG (K w.params))):
  PySem.W.WalkO q loose XP YP l.row.toRowW d [] (fun f vs=>PySem.call f vs):=
 L2.ZC (n:=63) (k:=9) (x:="_law_script") (CX:=fun _=>ug) (sp:=fun w=>KG (K w.params)) hn (by decide) hdf ⟨Z,by decide,by decide⟩ hY F (fun _ _ a ns hl _ hS=>⟨a,ns,Z,hS,hl,fun _=>rfl⟩) fun _ _ _ _ _ z=>z
end Law
namespace PySem.W.Fast
abbrev A:=True
theorem a:A:=⟨⟩
theorem tw15244321988294847532:A:=a
theorem tw15599180891343084391:A:=a
theorem tw10504237757511072742:A:=a
theorem tw8621855527650912215:A:=a
theorem tw2289826127710421725:A:=a
theorem tw8535876540082519101:A:=a
theorem tw15339764668918045890:A:=a
theorem tw10488887883791613019:A:=a
theorem tw4004435619103650218:A:=a
theorem tw5006968700867593485:A:=a
theorem tw11249599584590013491:A:=a
theorem tw13267651010368182920:A:=a
theorem tw4686875096821393876:A:=a
theorem tw17880000497247335301:A:=a
theorem tw1399368184129513190:A:=a
theorem tw1707675393478158692:A:=a
theorem tw9043201518406616468:A:=a
theorem tw11300328280595216021:A:=a
theorem tw8305536854760538058:A:=a
theorem tw15215847742256657156:A:=a
theorem tw18006036011000344337:A:=a
theorem tw13181561873784769162:A:=a
theorem tw7814911629456842301:A:=a
theorem tw12504065514240560975:A:=a
theorem tw8416472235760610973:A:=a
theorem tw5092826852323398621:A:=a
theorem tw11519808819530457757:A:=a
theorem tw3422005558764881923:A:=a
theorem tw135945593094647537:A:=a
theorem tw8425268579295897634:A:=a
theorem tw12700068307184632619:A:=a
theorem tw4428810280112843257:A:=a
theorem tw1630229262922036116:A:=a
theorem tw2499306097288715101:A:=a
theorem tw17687920321415743404:A:=a
theorem tw15012012616956648362:A:=a
theorem tw9410014588732245482:A:=a
theorem tw15413727153728092242:A:=a
theorem tw12137229439565723140:A:=a
theorem tw11137590139163663794:A:=a
theorem tw418623128818466087:A:=a
theorem tw7879276559319995477:A:=a
theorem tw5460209580995585746:A:=a
theorem tw17491429388067769446:A:=a
theorem tw2752720191295965985:A:=a
theorem tw8229125559924591740:A:=a
theorem tw2598862030191662536:A:=a
theorem tw15129031668384046757:A:=a
theorem tw1341322352084414655:A:=a
theorem tw2176562012822981844:A:=a
theorem tw472821673977830021:A:=a
theorem tw8820209947374975494:A:=a
theorem tw12556845108773439060:A:=a
theorem tw9857177680501196101:A:=a
theorem tw10786022514107499407:A:=a
theorem tw9471445869782137115:A:=a
theorem tw9435498137923066755:A:=a
theorem tw6757811873824080910:A:=a
theorem tw16804976401845099324:A:=a
theorem tw12390379036245052635:A:=a
theorem tw15012069320522535828:A:=a
theorem tw7871512468161860946:A:=a
theorem tw4603985852301068052:A:=a
theorem tw14437011134347630676:A:=a
theorem tw9746304996466284534:A:=a
theorem tw12184670472566574786:A:=a
theorem tw9548121362133548515:A:=a
theorem tw10986956680409102832:A:=a
theorem tw8164012429257149281:A:=a
theorem tw1399103856643357229:A:=a
theorem tw15331070656243709160:A:=a
theorem tw10731358273316642243:A:=a
theorem tw8181250861656404736:A:=a
theorem tw12216696483278415197:A:=a
theorem tw1795623883669856914:A:=a
theorem tw8920542160128118847:A:=a
theorem tw15079788824990450093:A:=a
theorem tw4915865148663314940:A:=a
theorem tw10941108179373809463:A:=a
theorem tw8833168008952164832:A:=a
theorem tw551757244137138907:A:=a
theorem tw15306256781010965195:A:=a
theorem tw452344093883054573:A:=a
theorem tw6989562870347892700:A:=a
theorem tw6483293595957985803:A:=a
theorem tw9159897846916967001:A:=a
theorem tw16418651695324062404:A:=a
theorem tw16633639745938299506:A:=a
theorem tw12378786198514787046:A:=a
theorem tw6444067701905085258:A:=a
theorem tw12026918232349629404:A:=a
theorem tw1089991168061981829:A:=a
theorem tw1327264563279637973:A:=a
theorem tw13843325219362741745:A:=a
theorem tw15756329048915268417:A:=a
theorem tw3615393434066661725:A:=a
theorem tw10124045210339625226:A:=a
theorem tw712411797745159290:A:=a
theorem tw17273340104889985293:A:=a
theorem tw14150562094711040536:A:=a
theorem tw14862667711051212442:A:=a
theorem tw6603003711804614093:A:=a
theorem tw4002643896622216319:A:=a
theorem tw8922367731936081302:A:=a
theorem tw15849542495189256517:A:=a
theorem tw13350885072636493342:A:=a
theorem tw10537089738871087236:A:=a
theorem tw13002208877533783597:A:=a
theorem tw10133650173521433778:A:=a
theorem tw2960687899432312716:A:=a
theorem tw7411206476582724530:A:=a
theorem tw294408454179035186:A:=a
theorem tw11438990730599013604:A:=a
theorem tw5156668867517701293:A:=a
theorem tw9128463813025862134:A:=a
theorem tw12411670237619799004:A:=a
theorem tw14396594325353640106:A:=a
theorem tw664864956155345802:A:=a
theorem tw2083871108880854725:A:=a
theorem tw12377381087750177629:A:=a
theorem tw15593957372834159610:A:=a
theorem tw4994676547454741024:A:=a
theorem tw13245457790943248617:A:=a
theorem tw9019695821193043976:A:=a
theorem tw10760971768609575890:A:=a
theorem tw17960681366410556246:A:=a
theorem tw3806073509987187316:A:=a
theorem tw7540736278454969751:A:=a
theorem tw2668961894345396085:A:=a
theorem tw3138776043121441495:A:=a
theorem tw11514824017935964549:A:=a
theorem tw18426918902185942001:A:=a
theorem tw2715535623020967600:A:=a
theorem tw1528691354168011129:A:=a
theorem tw15378092307202238927:A:=a
theorem tw13030501386140946574:A:=a
theorem tw7622387016491400068:A:=a
theorem tw15967311173881653401:A:=a
theorem tw667011068768225704:A:=a
theorem tw8235750842637818050:A:=a
theorem tw7151929526848481595:A:=a
theorem tw8482383416782976735:A:=a
theorem tw9223642671022438534:A:=a
theorem tw16655018011815697921:A:=a
theorem tw15726289855808781586:A:=a
theorem tw2394464085014735927:A:=a
theorem tw4772336497810384530:A:=a
theorem tw10913480692771471882:A:=a
theorem tw16313568497881375176:A:=a
theorem tw5398115142373890594:A:=a
theorem tw11292727713593884158:A:=a
theorem tw8362821694865494533:A:=a
theorem tw8750525158059499152:A:=a
theorem tw3358806881015817864:A:=a
theorem tw9245570466104139403:A:=a
theorem tw14614920058336403098:A:=a
theorem tw742505024475476520:A:=a
theorem tw12113397902089310981:A:=a
theorem tw13889635102893576346:A:=a
theorem tw5487727681208768655:A:=a
theorem tw6252782813037373866:A:=a
theorem tw6611174111072667041:A:=a
theorem tw17248331201991973813:A:=a
theorem tw1743948206625325940:A:=a
theorem tw9073259151036007364:A:=a
theorem tw1620716931664985328:A:=a
theorem tw14697809813381567524:A:=a
theorem tw7509755528556812854:A:=a
theorem tw1836091293277601730:A:=a
theorem tw9843745749655095335:A:=a
theorem tw2416435794352949721:A:=a
theorem tw16159544621210377543:A:=a
theorem tw2344830736685736611:A:=a
theorem tw12552865997267520692:A:=a
theorem tw4573134394062515497:A:=a
theorem tw16182242516045005674:A:=a
theorem tw3502819889779569928:A:=a
theorem tw2729616101319291766:A:=a
theorem tw6859609046743707237:A:=a
theorem tw614513956780386339:A:=a
theorem tw13387982432498338373:A:=a
theorem tw690489803624938119:A:=a
theorem tw15723531657767559325:A:=a
theorem tw5657087965845984391:A:=a
theorem tw9494044966302731186:A:=a
theorem tw14011949475234321606:A:=a
theorem tw6146022612256292795:A:=a
theorem tw10494879868883726172:A:=a
theorem tw10796611383474010489:A:=a
theorem tw1906569095945260900:A:=a
theorem tw15946506972654169827:A:=a
theorem tw414355686672500175:A:=a
theorem tw2167367564073298188:A:=a
theorem tw2169345495435494482:A:=a
theorem tw13017411083243040227:A:=a
theorem tw8887706325591373966:A:=a
theorem tw8991000544626235799:A:=a
theorem tw6784542666886647320:A:=a
theorem tw17440635751670501850:A:=a
end PySem.W.Fast
open PySem PySem.W PyProof.Rows
set_option maxRecDepth 100000 in
set_option maxHeartbeats 0 in
theorem PySem.Challenge.cw_jettison_k25_parts_severed_holds : PySem.Challenge.rw_jettison_k25_parts_severed.Holds := by
 w_on;o_law;k_head;(case hw=>w_witness2)
 k_fill
 refine Law.walk (l:=PySem.Challenge.rw_jettison_k25_parts_severed) rfl rfl (fun w h Y=>PySem.W.kIn_of Y) ?F
 case F=>
  intro w mg fa h KX G hmg
  refine' Law.all_mk KX G hmg ?_ ?_ ?_ ?_ ?_ ?_ ?_ ?_ ?_ ?_ ?_ ?_ ?_ ?_ ?_ ?_ ?_ ?_ ?_ ?_ ?_ ?_ ?_ ?_ ?_ ?_ ?_ ?_ ?_ ?_ ?_ ?_ ?_ ?_ ?_ ?_ ?_ ?_ ?_ ?_ ?_ ?_ ?_ ?_ ?_ ?_ ?_ ?_ ?_ ?_ ?_ ?_ ?_ ?_ ?_ ?_ ?_ ?_ ?_ ?_ ?_ ?_ ?_ ?_ ?_ ?_ ?_ ?_ ?_ ?_ ?_ ?_ ?_ ?_ ?_ ?_ ?_ ?_ ?_ ?_ ?_ ?_ ?_ ?_ ?_ ?_ ?_ ?_ ?_ ?_ ?_ ?_ ?_ ?_ ?_ ?_ ?_ ?_ ?_ ?_ ?_ ?_ ?_ ?_ ?_ ?_ ?_ ?_ ?_ ?_ ?_ ?_ ?_ ?_ ?_ ?_ ?_ ?_ ?_ ?_ ?_ ?_ ?_ ?_ ?_ ?_ ?_ ?_ ?_ ?_ ?_ ?_ ?_ ?_ ?_ ?_ ?_ ?_ ?_ ?_ ?_ ?_ ?_ ?_ ?_
  any_goals first|(refine' L2.cE.of ?a ?l ?c ?k;(case a=>k_is);(case l=>k_is);(case c=>k_is);(case k=>k_is))|(refine' L2.d8.of ?a ?i ?l ?c ?k;(case a=>k_is);(case i=>k_is);(case l=>k_is);(case c=>k_is);(case k=>k_is))|(refine' L2.Told.of ?ga ?gn ?ca ?mo ?mb ?jt ?ve ?k0 ?k1 ?k2 ?k3 ?k4 ?k5 ?k6 ?k7 ?k8 ?k9 ?h;(case ga=>k_is);(case gn=>k_is);(case ca=>k_is);(case mo=>k_is);(case mb=>k_is);(case jt=>kts_exm);(case ve=>kit_is);(case k0=>kit_is);(case k1=>kit_is);(case k2=>kit_is);(case k3=>kit_is);(case k4=>kit_is);(case k5=>kit_is);(case k6=>kit_is);(case k7=>kit_is);(case k8=>kit_is);(case k9=>kit_is);(case h=>rfl))|k_is|k_exc
