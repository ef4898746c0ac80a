import PyProof.Rows.All
import Wide.All
import OpenK.AllK
import Wide.FinOn
import Lean
import PyProof.EqAt
import PyProof.EqKinds
import PyProof.TupleCall
import PySem.Challenge.RW_jettison_k21_mishaps_and_rises
set_option Elab.async false
set_option bootstrap.genMatcherCode false
set_option genSizeOf false
set_option genSizeOfSpec false
set_option linter.all false
set_option maxRecDepth 100000
local macro_rules|`(tactic|omega)=>`(tactic|lia)
abbrev Fg:=PySem.W.Frag
abbrev VS:=PySem.Value->PySem.Shared->Prop
abbrev AO:=List (PySem.Addr×PySem.Obj)
abbrev SO:=PySem.Str->Option PySem.Value
set_option autoImplicit true
def WI:=@PySem.F.slot_dict_valueiterator_next
def RZ:=@Int.mul_le_mul_of_nonneg_right
def G_:=@Int.mul_le_mul_of_nonneg_left
def WJ:=@PySem.wpAny_typeNameOfWhole_keyiter
def WK:=@PySem.wpAny_typeNameOfWhole_valiter
def WL:=@PySem.F.slot_dict_keyiterator_next
def jT:=@PyProof.Rows.boot_isinstance
def WM:=@PyProof.Rows.callWith_type1
def WN:=@Int.ediv_eq_of_eq_mul_right
def J0:=@List.getElem?_append_right
def i_:=@List.getD_eq_getElem?_getD
def Qa:=@PySem.F.slot_tuple_iterator_next
def eF:=@List.getElem?_eq_some_iff
def J1:=@List.getElem?_append_left
def Qc:=@List.drop_eq_getElem_cons
def aX:=@List.getElem?_eq_getElem
def Qd:=@PySem.wpAny_comprehension_free
def Qe:=@PySem.wpAny_typeNameOf_keyiter
def Qf:=@PySem.wpAny_typeNameOf_valiter
def Ft:=@Int.mul_ediv_cancel_left
def xK:=@PySem.F.slot_list_append
def xM:=@PySem.F.type_list_append
def xN:=@PySem.wpAny_callSpecial?_slot
def xO:=@PySem.F.plainAttrs_list
def Qg:=@PyProof.Rows.boot_tuple
def ue:=@List.getElem?_set_self
def cA:=@PySem.Heap.get?_push_of_some
def J3:=@PySem.Heap.get?_update_other
def lP:=@Option.map_eq_some_iff
def zj:=@List.take_of_length_le
def v5:=@List.zipWith_cons_cons
def Qh:=@PySem.Calls.callWith_builtin
def v7:=@PyProof.Rows.boot_list
def jE:=@List.mem_append_right
def mS:=@List.length_replicate
def Ci:=@PySem.Heap.get?_update_self
def uf:=@List.getElem?_eq_none
def Qi:=@PySem.wpAny_isOneOf_valiter
def Qj:=@List.getElem?_zipWith
def xP:=@PyProof.Rows.boot_sum
def Fv:=@PyProof.Rows.boot_str
def Qk:=@PyProof.Rows.boot_min
def J4:=@PySem.W.hideAll_none
def cG:=@List.mem_cons_of_mem
def Fw:=@List.mem_append_left
def zm:=@List.getElem?_set_ne
def bN:=@List.mem_of_getElem?
def k_:=@Bool.and_eq_true_iff
def Ql:=@PySem.intBits_le_iff
def Fx:=@beq_eq_false_iff_ne
def Qm:=@PySem.W.hideAll_get
def zu:=@List.filterMap_cons
def dY:=@PySem.Heap.get?_push_size
def xQ:=@PySem.mem_of_lookup
def Cj:=@List.replicate_succ
def Fy:=@Bool.or_eq_true_iff
def Fz:=@PySem.Heap.SameBut.update
def qw:=@List.length_zipWith
def Ck:=@List.map_congr_left
def qx:=@List.getElem_of_mem
def lg:=@Nat.lt_of_lt_of_le
def Qn:=@PySem.W.of_hideAll
def cJ:=@List.mem_cons_self
def FA:=@List.mem_filterMap
def fJ:=@Bool.false_ne_true
def FE:=@PySem.wpAny_Call_Name_kw
def Qo:=@PySem.W.callWith_K
def di:=@List.length_append
def Qp:=@PySem.tupleKind_room_in1
def Qq:=@Nat.lt_of_le_of_lt
def fU:=@List.mem_singleton
def xR:=@Int.emod_lt_of_pos
def FF:=@Bool.false_eq_true
def FG:=@PySem.Obj.data_mapFields
def FH:=@PySem.wpAny_setField_rec
def J5:=@List.set_cons_succ
def J6:=@List.set_cons_zero
def Qs:=@PySem.F.slot_dict_values
def o6:=@of_decide_eq_false
def nU:=@PySem.W.mg_none_of
def Qt:=@PySem.wpAny_pyIter_list
def bJ:=@List.getElem?_map
def iz:=@List.size_toArray
def v8:=@Int.toNat_natCast
def qy:=@PySem.wpAny_newObj_type
def Qu:=@List.flatten_cons
def J7:=@List.append_assoc
def dO:=@of_decide_eq_true
def Qv:=@Nat.lt_succ_of_lt
def zx:=@PySem.wpAny_truthy_bool
def Cm:=@List.length_range
def Qw:=@PySem.wpAny_dictEntries
def J8:=@List.foldl_append
def J9:=@List.getElem?_inj
def mT:=@Bool.eq_false_iff
def mU:=@List.length_cons
def lq:=@List.length_take
def J_:=@List.length_drop
def xS:=@PySem.wpAny_call_entry
def FI:=@Bool.and_eq_true
def JK:=@List.cons_append
def iF:=@List.filter_cons
def Dp:=@beq_self_eq_true
def Dq:=@Nat.le_add_right
def lC:=@List.lookup_cons
def o7:=@List.all_eq_true
def tR:=@List.getElem_mem
def cC:=@List.take_length
def Dr:=@List.drop_length
def d_:=@decide_eq_false
def iG:=@Option.some.inj
def nC:=@List.mem_filter
def fZ:=@List.mem_append
def AK:=@Bool.eq_iff_iff
def aF:=@List.length_map
def o8:=@PySem.W.kia_one
def qZ:=@List.append_nil
def ia:=@List.nodup_cons
def lD:=@List.length_set
def mE:=@List.foldl_cons
def JL:=@List.nil_append
def tS:=@List.find?_cons
def JM:=@Option.map_some
def bL:=@List.map_append
def nD:=@Int.emod_nonneg
def JN:=@List.forIn_cons
def JO:=@PySem.pushCells_keeps
def JP:=@PySem.wpAny_dictEpoch
def JQ:=@PySem.F.slot_zip_next
def xT:=@PySem.wpAny_passesOwn
def xU:=@PySem.wpAny_execs_nil
def ee:=@PySem.PassesOwn.never
def xV:=@List.mem_range
def mF:=@PySem.Heap.size_push
def cg:=@decide_eq_true
def Ds:=@Int.natAbs_mul
def Du:=@List.forIn_nil
def vA:=@PySem.wpAny_fieldsOf
def AL:=@PySem.wpAny_setField
def tT:=@PySem.wpAny_seqItems
def vB:=@List.nodup_nil
def nE:=@Int.mul_nonneg
def dG:=@PySem.boot_len
def jl:=@Nat.lt_irrefl
def c_:=@List.mem_cons
def bD:=@List.map_cons
def xW:=@PySem.wpAny_holding
def Dv:=@List.any_cons
def kr:=@PySem.W.mg_of
def cU:=@List.sum_cons
def AM:=@PySem.wpAny_standAt
def jK:=@Int.mul_assoc
def AN:=@List.map_take
def bP:=@PySem.Heap.lt_size
def dP:=@Nat.ne_of_lt
def fq:=@Nat.le_trans
def Dw:=@Nat.le_of_lt
def xX:=@Nat.ne_of_gt
def AQ:=@PySem.codeAny_mono
def AR:=@Int.ediv_one
def bM:=@List.mem_map
def xY:=@Int.le_of_lt
def Dy:=@Int.lt_or_le
def vC:=@List.set_set
def fF:=@List.map_map
def AS:=@Nat.sub_self
def q_:=@Int.mul_comm
def xZ:=@List.map_set
def tU:=@Sum.inr.inj
def aP:=@Nat.le_refl
def f_:=@Nat.zero_le
def fu:=@PySem.sizeLine_eq
def ku:=@PySem.wpAny_field
def jL:=@Int.le_refl
def o9:=@Int.mul_add
def AU:=@Int.add_mul
def gP:=@PySem.wpAny_mono
def aL:=@PySem.wpAny_pure
def aq:=@PySem.wpAny_bind
def nF:=@beq_iff_eq
def ie:=@congrArg
def lE:=@if_false
def cu:=@Ne.symm
def rj:=@if_true
def aB:=@if_pos
def az:=@if_neg
theorem Z {α:Sort _} {a:α}:a=a:=rfl
namespace L2
open PySem PySem.Spec PyProof.Rows
abbrev Key:=Sum Int Str
def x6:Key->Value->Bool
 | .inl k,v=>Value.isInt k v
 | .inr x,v=>Value.isStrOf x v
def agz (w:World):Key->Int
 | .inl k=>hashInt k
 | .inr x=>hashStr w x
theorem gf:∀{k:Key} {v:Value},x6 k v=true->(∃i t,k=Sum.inl i/\v=Value.int i t)\/(∃x t,k=Sum.inr x/\v=Value.str x t)
 | .inl i,v,h=>by
   obtain ⟨t,e⟩:=Value.isInt_shape (k:=i) (v:=v) h
   exact .inl ⟨i,t,Z,e⟩
 | .inr x,v,h=>by
   obtain ⟨t,e⟩:=Value.isStrOf_shape (x:=x) (v:=v) h
   exact .inr ⟨x,t,Z,e⟩
theorem R0 (i:Int) (t:Tok):x6 (.inl i) (.int i t)=true:=by simp [x6,Value.isInt]
theorem R1 (x:Str) (t:Tok):x6 (.inr x) (.str x t)=true:=by simp [x6,Value.isStrOf]
theorem ZC (a b:Int):decide ((Sum.inl a:Key)=Sum.inl b)=(a==b):=by
 by_cases e:a=b
 . subst e;simp
 . have h:¬ (Sum.inl a:Key)=Sum.inl b:=fun q=>e (Sum.inl.inj q)
   rw [d_ h]
   exact (Fx.mpr e).symm
theorem ZD (a b:Str):decide ((Sum.inr a:Key)=Sum.inr b)=decide (a=b):=by
 by_cases e:a=b
 . subst e;simp
 . have h:¬ (Sum.inr a:Key)=Sum.inr b:=fun q=>e (tU q)
   rw [d_ h,d_ e]
theorem ZE (a:Int) (b:Str):decide ((Sum.inl a:Key)=Sum.inr b)=false:=d_ (fun q=>nomatch q)
theorem ZF (a:Str) (b:Int):decide ((Sum.inr a:Key)=Sum.inl b)=false:=d_ (fun q=>nomatch q)
def c6 (prog:Program) (w:World):PySem.KeyKind prog w Key where
 is:=x6
 hash:=agz w
 inj:=fun v a b ha hb=>by
  rcases gf ha with ⟨i,t,rfl,rfl⟩|⟨x,t,rfl,rfl⟩
  . rcases gf hb with ⟨j,u,rfl,e⟩|⟨y,u,rfl,e⟩
    . injection e with e1 _;rw [e1]
    . exact nomatch e
  . rcases gf hb with ⟨j,u,rfl,e⟩|⟨y,u,rfl,e⟩
    . exact nomatch e
    . injection e with e1 _;rw [e1]
 byValue:=fun k v h=>by
  rcases gf h with ⟨i,t,rfl,rfl⟩|⟨x,t,rfl,rfl⟩ <;> rfl
 pyHash:=fun hv h=>by
  rcases gf hv with ⟨i,t,rfl,rfl⟩|⟨x,t,rfl,rfl⟩
  . exact wpAny_pyHash_int h
  . exact wpAny_pyHash_str h
 eqBool:=fun hu hv h=>by
  rcases gf hu with ⟨i,t,rfl,rfl⟩|⟨x,t,rfl,rfl⟩
  . rcases gf hv with ⟨j,u,rfl,rfl⟩|⟨y,u,rfl,rfl⟩
    . rw [ZC] at h;exact wpAny_eqBool_int h
    . rw [ZE] at h;exact SeqAt.EqAt.int_str i t y u _ _ _ _ h
  . rcases gf hv with ⟨j,u,rfl,rfl⟩|⟨y,u,rfl,rfl⟩
    . rw [ZF] at h;exact SeqAt.EqAt.str_int x t j u _ _ _ _ h
    . rw [ZD] at h;exact wpAny_eqBool_str h
 «strs»:=fun k x t v h=>by
  rcases gf h with ⟨i,u,rfl,e⟩|⟨y,u,rfl,e⟩
  . exact nomatch e
  . injection e with e1 _
    subst e1
    cases v <;> rfl
theorem Qx (prog:Program) (w:World) (k:Key) (v:Value):(c6 prog w).is k v=x6 k v:=rfl
theorem Nh (prog:Program) (w:World) (i:Int) (t:Tok):(c6 prog w).is (.inl i) (.int i t)=true:=R0 i t
theorem Ni (prog:Program) (w:World) (x:Str) (t:Tok):(c6 prog w).is (.inr x) (.str x t)=true:=R1 x t
inductive V where
 | bZ|bl (b:Bool)|int (i:Int)|str (x:Str)|wR (b:Array UInt8)|Hf (b:UInt64)|ref (a:Addr)|ty (n:String)
 deriving DecidableEq
def RelV:V->Value->Prop
 | .bZ,u=>u=Value.none
 | .bl b,u=>u=Value.bool b
 | .int i,u=>∃t,u=Value.int i t
 | .str x,u=>∃t,u=Value.str x t
 | .wR b,u=>∃t,u=Value.bytes b t
 | .Hf b,u=>∃t,u=Value.float b t
 | .ref a,u=>u=Value.ref a
 | .ty n,u=>u=Value.type n
abbrev Vals:List V->List Value->Prop:=Paired RelV
variable {xs:List V} {us:List Value}
theorem Vals.length (r:Vals xs us):xs.length=us.length:=Paired.length r
theorem Vals.get:∀{xs:List V} {us:List Value} {i:Nat} {x:V},Vals xs us->xs[i]?=some x->∃u,us[i]?=some u/\RelV x u
 | _,_,_,_, .nil,e=>by simp at e
 | _,_,0,_, .cons r _,e=>by simp at e;subst e;exact ⟨_,Z,r⟩
 | _,_,i+1,x, .cons _ t,e=>by
   obtain ⟨u,h1,h2⟩:=Vals.get (i:=i) (x:=x) t (by simpa using e)
   exact ⟨u,by simpa using h1,h2⟩
theorem Vals.set {x:V} {u:Value} (r:RelV x u):∀{xs:List V} {us:List Value} (i:Nat),Vals xs us->Vals (xs.set i x) (us.set i u)
 | _,_,_, .nil=> .nil
 | _,_,0, .cons _ t=> .cons r t
 | _,_,i+1, .cons q t=> .cons q (Vals.set r i t)
theorem Vals.append:∀{xs ys:List V} {us ws:List Value},Vals xs us->Vals ys ws->Vals (xs++ys) (us++ws)
 | _,_,_,_, .nil,s=>s
 | _,_,_,_, .cons r t,s=> .cons r (Vals.append t s)
theorem Vals.take:∀{xs:List V} {us:List Value} (n:Nat),Vals xs us->Vals (xs.take n) (us.take n)
 | _,_,0,_=> .nil
 | _,_,_+1, .nil=> .nil
 | _,_,n+1, .cons r t=> .cons r (Vals.take n t)
theorem Vals.drop:∀{xs:List V} {us:List Value} (n:Nat),Vals xs us->Vals (xs.drop n) (us.drop n)
 | _,_,0,r=>r
 | _,_,_+1, .nil=> .nil
 | _,_,n+1, .cons _ t=>Vals.drop n t
def mV:Option V->Option Value->Prop
 | some v,some u=>RelV v u
 | none,none=>True
 | _,_=>False
def KV {κ:Type}:List (κ×V)->List (κ×Value)->Prop:=Paired fun (p:κ×V) (q:κ×Value)=>p.1=q.1/\RelV p.2 q.2
def kV:Key->V
 | .inl i=> .int i
 | .inr x=> .str x
inductive HO where
 | lst (xs:List V)
 | tup (xs:List V)
 | dK (kvs:List (Key×V))|dT (kvs:List (List Key×V))
 | set (S:Int->Bool) (n:Nat)
 | ins (C dx:Addr) (fs:List (Str×V))
 | own (x:Addr)
 | xd (fs:List (Str×V))
 | met (f x:Addr)
 | vD (lo hi:Int)
 | fm (o:Obj) (u:HO)
 | Hg (ps:Array Value)
 | ext (φ:Heap->Prop)
abbrev Hp:=Addr->Option HO
def upd (H:Hp) (a:Addr) (o:HO):Hp:=fun b=>if b=a then some o else H b
variable {H:Hp} {a:Addr} {o:HO}
theorem aj:upd H a o a=some o:=by unfold upd;rw [aB rfl]
theorem av {b:Addr} (h:b≠a):upd H a o b=H b:=by unfold upd;rw [az h]
theorem t8 {u:HO}:upd (upd H a o) a u=upd H a u:=by
 funext b;unfold upd;split <;> rfl
theorem iW {b:Addr} {u:HO} (h:H a=some o) (h':H b=some u) (d:o≠u):a≠b:=by
 intro e;subst e;rw [h] at h';exact d (iG h')
theorem aI {b:Addr} (h:H a=some o) (h':H b=none):a≠b:=by
 intro e;subst e;rw [h] at h';cases h'
section
variable (P:Program) (w:World)
def dN (H:Hp) (h:Heap) (a:Addr):HO->Prop
 | .lst xs=>xs.length<=sizeLine/\∃(its:List Value) (n:Nat),Vals xs its/\h.get? a=some { cls:= .type "list",data:= .seq its.toArray n }
 | .tup xs=>xs.length<=sizeLine/\∃its:List Value,Vals xs its/\IsTup h a its.toArray
 | .dK kvs=>kvs.length<=sizeLine/\(a==sysModules)=false/\∃vs,KV kvs vs/\h.DictOf (c6 P w) a vs
 | .dT kvs=>kvs.length<=sizeLine/\(a==sysModules)=false/\∃xs:List (List Key×Addr×Value),
     Paired (fun (p:List Key×V) (q:List Key×Addr×Value)=>p.1=q.1/\H q.2.1=some (.tup (p.1.map kV))/\RelV p.2 q.2.2) kvs xs/\
     ∃o es ep,h.get? a=some o/\o.ExactDict/\o.data = .dict es ep/\es.toList=xs.map (entryOfKey (tupleKind (c6 P w)))/\(xs.map (·.1)).Nodup
 | .set S n=>h.SetOf (intKind P w) a S n
 | .ins C dx fs=>H dx=some (.own a)/\fs.length<=1000/\dx≠a/\h.get? a=some (PySem.W.instObj C dx)/\
     ∃mA,h.Ns1 dx mA/\(∀f,mV (fs.lookup f) (mA f))/\PySem.Within mA (fs.map (·.1))
 | .own _=>∃o,h.get? a=some o
 | .xd fs=>∃mA,h.Ns1 a mA/\∀f,mV (fs.lookup f) (mA f)
 | .vD lo hi=>∃t u v,h.get? a=some { cls:= .type "range",data:= .fields #[.int lo t, .int hi u, .int 1 v] }
 | .fm o u=>h.get? a=some o/\dN H h a u
 | .Hg ps=>h.get? a=some { cls:= .none,data:= .fields ps }
 | .met f x=>h.get? a=some (PySem.W.methodObj (.ref f) (.ref x))
 | .ext φ=>φ h/\(∃o,h.get? a=some o)/\∀h1 h2:Heap,φ h1->(∀o,h1.get? a=some o->h2.get? a=some o)->φ h2
def gM (H:Hp) (h:Heap):Prop:=∀a o,H a=some o->dN P w H h a o
end
section
variable {P:Program} {w:World} {H H':Hp} {h h':Heap} {a:Addr} {o:HO}
theorem dN.lt (x:dN P w H h a o):a<h.objs.size:=by
 cases o with
 | lst xs=>obtain ⟨_,_,_,_,e⟩:=x;exact bP e
 | tup xs=>obtain ⟨_,_,_,p⟩:=x;exact p.lt
 | dK kvs=>obtain ⟨_,_,_,_,o,_,_,e,_⟩:=x;exact bP e
 | dT kvs=>obtain ⟨_,_,_,_,o,_,_,e,_⟩:=x;exact bP e
 | set S n=>obtain ⟨o,_,_,_,e,_⟩:=x;exact bP e
 | ins C dx fs=>obtain ⟨_,_,_,e,_⟩:=x;exact bP e
 | own y=>obtain ⟨_,e⟩:=x;exact bP e
 | xd fs=>obtain ⟨_,⟨_,_,_,e,_⟩,_⟩:=x;exact bP e
 | vD lo hi=>obtain ⟨_,_,_,e⟩:=x;exact bP e
 | fm ob u=>obtain ⟨e,_⟩:=x;exact bP e
 | Hg ps=>exact bP (show h.get? a=some _ from x)
 | met f y=>exact bP (show h.get? a=some _ from x)
 | ext φ=>obtain ⟨_,⟨_,e⟩,_⟩:=x;exact bP e
theorem Paired.Vg {α β:Type} {F G:α->β->Prop}:∀{l₁:List α} {l₂:List β},Paired F l₁ l₂->(∀a b,F a b->G a b)->Paired G l₁ l₂
 | _,_, .nil,_=> .nil
 | _,_, .cons r t,f=> .cons (f _ _ r) (Paired.Vg t f)
theorem dN.stay (x:dN P w H h a o) (k:∀b u,(b=a\/H b=some (.own a))->h.get? b=some u->h'.get? b=some u)
  (ho:∀b,H b=some (.own a)->H' b=some (.own a)) (ht:∀b xs,H b=some (.tup xs)->H' b=some (.tup xs)):dN P w H' h' a o:=by
 induction o with
 | lst xs=>obtain ⟨z,its,n,r,e⟩:=x;exact ⟨z,its,n,r,k _ _ (.inl rfl) e⟩
 | tup xs=>obtain ⟨z,its,r,ob,e,c⟩:=x;exact ⟨z,its,r,ob,k _ _ (.inl rfl) e,c⟩
 | dK kvs=>obtain ⟨z,y,vs,r,ob,es,ep,e,c⟩:=x;exact ⟨z,y,vs,r,ob,es,ep,k _ _ (.inl rfl) e,c⟩
 | dT kvs=>
   obtain ⟨z,y,xs,r,ob,es,ep,e,c⟩:=x
   exact ⟨z,y,xs,Paired.Vg r fun p q z=>⟨z.1,ht _ _ z.2.1,z.2.2⟩,ob,es,ep,k _ _ (.inl rfl) e,c⟩
 | set S n=>obtain ⟨ob,es,ep,t,e,c⟩:=x;exact ⟨ob,es,ep,t,k _ _ (.inl rfl) e,c⟩
 | ins C dx fs=>
   obtain ⟨d,z,ne,e,mA,⟨od,es,ep,e2,c⟩,r⟩:=x
   exact ⟨ho _ d,z,ne,k _ _ (.inl rfl) e,mA,⟨od,es,ep,k _ _ (.inr d) e2,c⟩,r⟩
 | own y=>obtain ⟨ob,e⟩:=x;exact ⟨ob,k _ _ (.inl rfl) e⟩
 | xd fs=>obtain ⟨mA,⟨od,es,ep,e,c⟩,r⟩:=x;exact ⟨mA,⟨od,es,ep,k _ _ (.inl rfl) e,c⟩,r⟩
 | vD lo hi=>obtain ⟨t,u,v,e⟩:=x;exact ⟨t,u,v,k _ _ (.inl rfl) e⟩
 | fm ob u ih=>obtain ⟨e,q⟩:=x;exact ⟨k _ _ (.inl rfl) e,ih q⟩
 | Hg ps=>
   have e:h.get? a=some { cls:= .none,data:= .fields ps }:=x
   show h'.get? a=some { cls:= .none,data:= .fields ps }
   exact k a _ (.inl rfl) e
 | met f y=>
   have e:h.get? a=some (PySem.W.methodObj (.ref f) (.ref y)):=x
   show h'.get? a=some (PySem.W.methodObj (.ref f) (.ref y))
   exact k a _ (.inl rfl) e
 | ext φ=>obtain ⟨p,⟨o,e⟩,st⟩:=x;exact ⟨st _ _ p fun o q=>k _ _ (.inl rfl) q,⟨o,k _ _ (.inl rfl) e⟩,st⟩
theorem gM.lt (x:gM P w H h) (e:H a=some o):a<h.objs.size:=(x a o e).lt
theorem gM.fresh (x:gM P w H h) (e:h.objs.size<=a):H a=none:=by
 cases q:H a with
 | none=>rfl
 | some u=>exact absurd (lg (x.lt q) e) (jl _)
theorem gM.kept (x:gM P w H h) (k:∀b u,h.get? b=some u->h'.get? b=some u):gM P w H h':=fun a o e=>
 (x a o e).stay (fun b u _ q=>k b u q) (fun _ q=>q) fun _ _ q=>q
theorem gM.laid (x:gM P w H h) (k:∀b u,h.get? b=some u->h'.get? b=some u) (hp:h.objs.size<=a) (new:dN P w (upd H a o) h' a o):gM P w (upd H a o) h':=fun b u e=>by
 have hn:=x.fresh hp
 by_cases hb:b=a
 . subst hb;rw [aj] at e;cases e;exact new
 . rw [av hb] at e
   exact (x b u e).stay (fun c v _ q=>k c v q) (fun c q=>by rw [av (aI q hn)];exact q) fun c xs q=>by rw [av (aI q hn)];exact q
end
def Rd (H:Hp) (a:Addr) (u:HO):Prop:=H a=some u\/∃o,H a=some (.fm o u)
variable {P:Program} {h:Heap}
theorem Rd.ok {w:World} {u:HO} (r:Rd H a u) (x:gM P w H h):dN P w H h a u:=by
 rcases r with r|⟨o,r⟩
 . exact x a u r
 . obtain ⟨_,q⟩:=x a _ r
   exact q
def R3:Option HO->Prop
 | some (.lst _)=>True
 | some (.dK _)=>True
 | some (.dT _)=>True
 | some (.set _ _)=>True
 | some (.ins _ _ _)=>True
 | some (.ext _)=>True
 | _=>False
section
variable {P:Program} {w:World} {H:Hp} {h h':Heap} {x e:Addr} {o':HO}
theorem gM.write (ok:gM P w H h) (mu:R3 (H x)) (he:e=x\/H e=some (.own x)) (k:∀b u,b≠e->h.get? b=some u->h'.get? b=some u) (OA:∃u,h'.get? e=some u)
  (new:dN P w (upd H x o') h' x o'):gM P w (upd H x o') h':=fun b u q=>by
 have ZG:∀c y,H c=some (.own y)->c≠x:=fun c y r z=>by subst z;rw [r] at mu;exact mu
 have agA:∀c xs,H c=some (.tup xs)->c≠x:=fun c xs r z=>by subst z;rw [r] at mu;exact mu
 by_cases hb:b=x
 . subst hb;rw [aj] at q;cases q;exact new
 . rw [av hb] at q
   by_cases Ka:b=e
   . have q':H b=some (.own x):=by
      rcases he with z|z
      . exact absurd (Ka.trans z) hb
      . rw [Ka];exact z
     rw [q] at q';cases q'
     obtain ⟨v,hv⟩:=OA
     exact ⟨v,by rw [Ka];exact hv⟩
   . refine (ok b u q).stay (fun c v hc r=>k c v ?_ r) (fun c r=>by rw [av (ZG c b r)];exact r) fun c xs r=>by rw [av (agA c xs r)];exact r
     rcases hc with rfl|hc
     . exact Ka
     . rintro rfl
       rcases he with z|z
       . exact ZG c b hc z
       . rw [hc] at z;cases z;exact hb rfl
end
structure Un (fs ex:List Addr) (H H':Hp) (h h':Heap):Prop where
 keep:∀b o,h.get? b=some o->H b=none->b∉fs->b∉ex->h'.get? b=some o
 slot:∀b o,h.get? b=some o->H b=none->b∈fs->b∉ex->∃sl,h'.get? b=some { o with slots:=sl }
 free:∀b o,h.get? b=some o->H b=none->b∉ex->H' b=none
 there:∀b o,h.get? b=some o->b∉ex->∃o',h'.get? b=some o'
 tups:∀b xs,H b=some (.tup xs)->H' b=some (.tup xs)
 mW:∀b o u,H b=some (.fm o u)->H' b=some (.fm o u)
 o_:∀b ps,H b=some (.Hg ps)->∃more,H' b=some (.Hg (ps++more))
section
variable {fs fs' ex ex':List Addr} {H H1 H2:Hp} {h h1 h2 h':Heap} {a x e:Addr} {o:HO}
theorem Un.any (u:Un fs ex H H1 h h1) {b:Addr} (q:h.get? b=some ob) (n:H b=none) (hx:b∉ex):∃sl,h1.get? b=some { ob with slots:=sl }:=by
 by_cases hb:b∈fs
 . exact u.slot b ob q n hb hx
 . exact ⟨ob.slots,u.keep b ob q n hb hx⟩
theorem Un.kept (k:∀b u,h.get? b=some u->h'.get? b=some u):Un fs ex H H h h':=
 ⟨fun b ob q _ _ _=>k b ob q,fun b ob q _ _ _=>⟨ob.slots,k b ob q⟩,fun _ _ _ n _=>n,fun b ob q _=>⟨ob,k b ob q⟩,fun _ _ q=>q,fun _ _ _ q=>q,fun _ ps q=>⟨#[],by rw [q];simp⟩⟩
theorem Un.refl:Un fs ex H H h h:=Un.kept fun _ _ q=>q
theorem Un.laid (k:∀b u,h.get? b=some u->h'.get? b=some u) (hp:h.objs.size<=a) (hn:H a=none):Un fs ex H (upd H a o) h h' where
 keep:=fun b u q _ _ _=>k b u q
 slot:=fun b u q _ _ _=>⟨u.slots,k b u q⟩
 free:=fun b u q n _=>by rw [av (dP (lg (bP q) hp))];exact n
 there:=fun b u q _=>⟨u,k b u q⟩
 tups:=fun b xs q=>by rw [av (aI q hn)];exact q
 mW:=fun b u xs q=>by rw [av (aI q hn)];exact q
 o_:=fun b ps q=>⟨#[],by rw [av (aI q hn),q];simp⟩
theorem Un.write (mu:R3 (H x)) (he:e=x\/H e=some (.own x)) (k:∀b u,b≠e->h.get? b=some u->h'.get? b=some u) (OA:∃u,h'.get? e=some u):Un fs ex H (upd H x o) h h':=by
 have hx:∀b,H b=none->b≠x:=fun b n z=>by subst z;rw [n] at mu;exact mu
 have hb:∀b,H b=none->b≠e:=fun b n z=>by
  subst z
  rcases he with r|r
  . exact hx b n r
  . rw [n] at r;cases r
 have hm:∀b u,H b=some u->¬ R3 (some u)->b≠x:=fun b u q nm z=>by subst z;rw [q] at mu;exact nm mu
 refine ⟨fun b u q n _ _=>k b u (hb b n) q,fun b u q n _ _=>⟨u.slots,k b u (hb b n) q⟩,fun b u q n _=>by rw [av (hx b n)];exact n,fun b u q _=>?_,
  fun b xs q=>by rw [av (hm b _ q fun z=>z)];exact q,fun b u xs q=>by rw [av (hm b _ q fun z=>z)];exact q,fun b ps q=>⟨#[],by rw [av (hm b _ q fun z=>z),q];simp⟩⟩
 by_cases Ka:b=e
 . subst Ka;exact OA
 . exact ⟨u,k b u Ka q⟩
end
def WO (h:Heap) (H:Hp):List Addr:=(List.range h.objs.size).filter fun a=>(H a).isSome
def x8 (h:Heap) (H:Hp):Heap:=PySem.W.hideAll h (WO h H)
theorem R4 (h:Heap) (H:Hp):(x8 h H).objs.size=h.objs.size:=PySem.W.hideAll_size _ _
theorem Vh {b:Addr} {o:Obj} (e:h.get? b=some o) (n:H b=none):(x8 h H).get? b=some o:=
 Qm _ e fun hm=>by
  have q:(H b).isSome=true:=(nC.mp hm).2
  rw [n] at q;simp at q
theorem XZ {b:Addr} {o:Obj} (e:(x8 h H).get? b=some o):h.get? b=some o/\H b=none:=by
 have e':h.get? b=some o:=Qn (WO h H) e
 refine ⟨e',?_⟩
 cases q:H b with
 | none=>rfl
 | some x=>
   have hm:b∈WO h H:=nC.mpr ⟨xV.mpr (bP e'),by simp [q]⟩
   have z:(x8 h H).get? b=none:=J4 (WO h H) hm
   rw [z] at e;cases e
structure Mod (K:Fg) (mg:SO) (base:Heap):Prop where
 OB:K.In base
 glob:base.Ns mainGlobals mg
 blt:∃mb,base.Ns builtinsNs mb/\∀x:Str,x ≠ "__name__"->mb x=bootBuiltins x
 nolimit:base.NoLimit
structure Cx where
 prog:Program
 w:World
 K:Fg
 mg:Str->Option Value
 base:Heap
 A:Around
 N:List Str
 s₀:Shared
 H₀:Hp
 env:Env
 outer:List Env
 stack:List Env
 ex:List Addr
 fn:Str->Bool
 calm:Bool
 pn:List (Addr×Obj)
 xe:Value->Shared->Prop
def frs (l:List Env):List Addr:=l.filterMap (·.frame)
abbrev Cx.fs (X:Cx):List Addr:=frs X.outer
def R5 (sc:Scope) (x:Str):Prop:=sc.names.lookup x=some .local\/sc.names.lookup x=some .cell\/sc.names.lookup x=some .free
def Loc (sc:Scope) (x:Str):Prop:=sc.names.lookup x=some .local\/sc.names.lookup x=some .cell
def Look (env:Env) (h:Heap) (m:SO) (x:Str) (u:Value):Prop:=
 (env.kindOf x=some .local/\m x=some u)\/((env.kindOf x=some .cell\/env.kindOf x=some .free)/\∃c,env.cells.lookup x=some c/\h.IsCell c (some u))
structure Cx.Ok (X:Cx):Prop where
 mod:Mod X.K X.mg X.base
 kind:X.env.scope.kind = .function
 glob:X.env.globals=mainGlobals
 blt:X.env.builtins=builtinsNs
 above:X.s₀.heap.objs.size<=X.env.locals
 inj:∀x y c,X.env.cells.lookup x=some c->X.env.cells.lookup y=some c->x=y
 has:∀x,(X.env.kindOf x=some .cell\/X.env.kindOf x=some .free)->∃c,X.env.cells.lookup x=some c
 gO:∀x c,X.fn x=true->X.env.cells.lookup x=some c->X.s₀.heap.objs.size<=c
 hd:X.calm=true->X.A.handled=none
 frames:X.A.frames=some X.stack
 stk:X.stack=X.outer\/(X.stack=X.env::X.outer/\X.env.frame=some X.env.locals)
 Kc:∀b∈X.ex,b≠X.env.locals/\∀x c,X.env.cells.lookup x=some c->c≠b
 bs:∀b o,X.base.get? b=some o->X.s₀.heap.get? b=some o/\X.H₀ b=none
 Dz:X.base.objs.size<=X.s₀.heap.objs.size
 FJ:∀b o,X.base.get? b=some o->b∉X.ex
 Co:∀b∈X.ex,b∉X.fs
 nV:X.s₀.heap.FunFrames X.base X.outer
 Hh:∀b∈X.fs,X.H₀ b=none
structure Inv (X:Cx) (pins:AO) (σ:List (Option V)) (H:Hp) (s:Shared):Prop where
 ok:X.Ok
 os:s.os=X.s₀.os
 bare:AllBare s.gens
 base:Un X.fs X.ex X.H₀ H X.s₀.heap s.heap
 loc:∃m,s.heap.Ns X.env.locals m/\∀(i:Nat) (x:Str) (v:V),X.N[i]?=some x->σ[i]?=some (some v)->R5 X.env.scope x->∃u,RelV v u/\Look X.env s.heap m x u
 cell:∀x c,X.env.cells.lookup x=some c->∃v,s.heap.IsCell c v
 free:H X.env.locals=none
 jM:∀x c,X.env.cells.lookup x=some c->H c=none
 pin:∀p∈X.pn++pins,s.heap.get? p.1=some p.2/\H p.1=none/\p.1≠X.env.locals/\p.1∉X.fs/\∀v,p.2.data ≠ .cell v
 hok:gM X.prog X.w H s.heap
 len:σ.length=X.N.length
variable {g':Array GenState} {t' i j:Nat} {ch:List Addr} {it:Addr} {N:List Str} {x:Str} {M:Model} {A:Around} {E:VS} {u:Value} {Q:Unit->Shared->Prop}
section
variable {X:Cx} {pins:AO} {σ:List (Option V)} {H H':Hp} {s:Shared} {h':Heap}
theorem Cx.Ok.agB (ok:X.Ok) {b:Addr} {o:Obj} (e:X.base.get? b=some o):b∉X.fs:=fun hb=>by
 have:=(ok.nV.mem hb).1
 rw [e] at this;cases this
theorem Inv.bs (I:Inv X pins σ H s):∀b o,X.base.get? b=some o->s.heap.get? b=some o/\H b=none:=fun b o e=>
 ⟨I.base.keep b o (I.ok.bs b o e).1 (I.ok.bs b o e).2 (I.ok.agB e) (I.ok.FJ b o e),I.base.free b o (I.ok.bs b o e).1 (I.ok.bs b o e).2 (I.ok.FJ b o e)⟩
theorem Inv.bk (I:Inv X pins σ H s):∀b o,X.base.get? b=some o->s.heap.get? b=some o:=fun b o e=>(I.bs b o e).1
theorem Inv.mod (I:Inv X pins σ H s):Mod X.K X.mg X.base:=I.ok.mod
theorem Inv.iP (I:Inv X pins σ H s):X.K.In s.heap:=I.ok.mod.OB.keeps I.bk
theorem Inv.lt (I:Inv X pins σ H s):X.env.locals<s.heap.objs.size:=let ⟨_,hn,_⟩:=I.loc;hn.lt
theorem Inv.sz (I:Inv X pins σ H s):X.s₀.heap.objs.size<=s.heap.objs.size:=fq I.ok.above (Dw I.lt)
theorem Inv.agC (I:Inv X pins σ H s) (h:s.heap.objs.size<=a):a∉X.fs:=fun hb=>by
 obtain ⟨_,o,ho,_⟩:=I.ok.nV.mem hb
 exact absurd (lg (bP ho) (fq I.sz h)) (jl _)
theorem Inv.Hi (I:Inv X pins σ H s):∀x c,X.env.cells.lookup x=some c->c≠X.env.locals:=fun x c e z=>by
 obtain ⟨v,o,ho,hd⟩:=I.cell x c e
 obtain ⟨m,⟨o',es,ep,ho',hd',_⟩,_⟩:=I.loc
 rw [z,ho'] at ho;cases ho;rw [hd'] at hd;cases hd
theorem Inv.nV (I:Inv X pins σ H s):s.heap.FunFrames X.base X.outer:=by
 have all:∀(l:List Env),(∀b∈frs l,b∈X.fs)->X.s₀.heap.FunFrames X.base l->s.heap.FunFrames X.base l:=by
  intro l
  induction l with
  | nil=>intro _ _;trivial
  | cons env r ih=>
    intro hs hl
    obtain ⟨hk,⟨L,o,hf,hn,ho,hd⟩,hr⟩:=hl
    have hL:L∈X.fs:=hs L (by unfold frs;rw [zu,hf];exact cJ)
    obtain ⟨sl,e⟩:=I.base.slot L o ho (I.ok.Hh L hL) hL fun z=>I.ok.Co L z hL
    exact ⟨hk,⟨L,_,hf,hn,e,hd⟩,ih (fun b hb=>hs b (by unfold frs;rw [zu,hf];exact cG _ hb)) hr⟩
 exact all X.outer (fun _ hb=>hb) I.ok.nV
theorem Inv.stack (I:Inv X pins σ H s):s.heap.FunFrames X.base X.stack:=by
 rcases I.ok.stk with e|⟨e,hf⟩
 . rw [e];exact I.nV
 . rw [e]
   obtain ⟨m,hn,_⟩:=I.loc
   refine .cons (by rw [I.ok.kind];decide) hf hn ?_ I.nV
   exact Heap.get?_none_of_le (fq I.ok.Dz I.ok.above)
theorem Inv.Kd (I:Inv X pins σ H s):∀b∈frs X.stack,b∈X.env.locals::X.fs:=fun b hb=>by
 rcases I.ok.stk with e|⟨e,hf⟩
 . rw [e] at hb;exact cG _ hb
 . rw [e] at hb
   unfold frs at hb
   rw [zu,hf] at hb
   exact hb
theorem Inv.wU (I:Inv X pins σ H s):∀b∈frs X.stack,H b=none:=fun b hb=>by
 rcases c_.mp (I.Kd b hb) with e|hb
 . rw [e];exact I.free
 . obtain ⟨_,o,ho,_⟩:=I.ok.nV.mem hb
   exact I.base.free b o ho (I.ok.Hh b hb) fun z=>I.ok.Co b z hb
theorem Inv.step {d':Drawn} (I:Inv X pins σ H s)
  (hch:∀b∈ch,(b∈X.ex\/X.s₀.heap.objs.size<=b)/\b≠X.env.locals/\(∀x c,X.env.cells.lookup x=some c->c≠b)/\∀p∈X.pn++pins,p.1≠b)
  (keep:∀b o,b≠X.env.locals->b∉X.fs->b∉ch->s.heap.get? b=some o->H b=none->h'.get? b=some o)
  (slot:∀b o,b≠X.env.locals->b∈X.fs->b∉ch->s.heap.get? b=some o->H b=none->∃sl,h'.get? b=some { o with slots:=sl }) (free:∀b o,b∉ch->s.heap.get? b=some o->H b=none->H' b=none)
  (there:∀b o,b∉ch->s.heap.get? b=some o->∃o',h'.get? b=some o')
  (tups:∀b xs,H b=some (.tup xs)->H' b=some (.tup xs)) (mW:∀b o u,H b=some (.fm o u)->H' b=some (.fm o u)) (o_:∀b ps,H b=some (.Hg ps)->∃more,H' b=some (.Hg (ps++more)))
  (ns:∀m,s.heap.Ns X.env.locals m->h'.Ns X.env.locals m) (hok:gM X.prog X.w H' h') (hg:AllBare g'):
  Inv X pins σ H' { s with heap:=h',gens:=g',drawn:=d',toks:=t' }:=by
 have OC:∀b o,X.s₀.heap.get? b=some o->b≠X.env.locals:=fun b o e=>dP (lg (bP e) I.ok.above)
 have WQ:∀b o,X.s₀.heap.get? b=some o->b∉X.ex->b∉ch:=fun b o e hx hb=>by
  rcases (hch b hb).1 with z|z
  . exact hx z
  . exact absurd (lg (bP e) z) (jl _)
 have cellK:∀x c,X.env.cells.lookup x=some c->∀v,s.heap.IsCell c v->h'.IsCell c v:=fun x c e v ⟨o,ho,hd⟩=>by
  have wV:c∉ch:=fun z=>(hch c z).2.2.1 x c e rfl
  by_cases hc:c∈X.fs
  . obtain ⟨sl,q⟩:=slot c o (I.Hi x c e) hc wV ho (I.jM x c e)
    exact ⟨_,q,hd⟩
  . exact ⟨o,keep c o (I.Hi x c e) hc wV ho (I.jM x c e),hd⟩
 refine ⟨I.ok,I.os,hg,⟨fun b o e n hb hx=>?_,fun b o e n hb hx=>?_,fun b o e n hx=>?_,fun b o e hx=>?_,fun b xs e=>tups b xs (I.base.tups b xs e),fun b o xs e=>mW b o xs (I.base.mW b o xs e),fun b ps e=>?_⟩,?_,fun x c e=>?_,?_,fun x c e=>?_,fun p hp=>?_,hok,I.len⟩
 . exact keep b o (OC b o e) hb (WQ b o e hx) (I.base.keep b o e n hb hx) (I.base.free b o e n hx)
 . obtain ⟨sl,e1⟩:=I.base.slot b o e n hb hx
   obtain ⟨Ke,e2⟩:=slot b _ (OC b o e) hb (WQ b o e hx) e1 (I.base.free b o e n hx)
   exact ⟨Ke,e2⟩
 . obtain ⟨o',e1⟩:=I.base.there b o e hx
   exact free b o' (WQ b o e hx) e1 (I.base.free b o e n hx)
 . obtain ⟨o',e1⟩:=I.base.there b o e hx
   exact there b o' (WQ b o e hx) e1
 . obtain ⟨m1,e1⟩:=I.base.o_ b ps e
   obtain ⟨m2,e2⟩:=o_ b _ e1
   exact ⟨m1++m2,by rw [e2,Array.append_assoc]⟩
 . obtain ⟨m,hn,hl⟩:=I.loc
   refine ⟨m,ns m hn,fun i x v e1 e2 e3=>?_⟩
   obtain ⟨u,r,l⟩:=hl i x v e1 e2 e3
   refine ⟨u,r,?_⟩
   rcases l with l|⟨k,c,e,z⟩
   . exact .inl l
   . exact .inr ⟨k,c,e,cellK x c e _ z⟩
 . obtain ⟨v,z⟩:=I.cell x c e
   exact ⟨v,cellK x c e v z⟩
 . obtain ⟨m,⟨o,_,_,ho,_⟩,_⟩:=I.loc
   exact free _ o (fun z=>(hch _ z).2.1 rfl) ho I.free
 . obtain ⟨v,o,ho,hd⟩:=I.cell x c e
   exact free c o (fun z=>(hch c z).2.2.1 x c e rfl) ho (I.jM x c e)
 . obtain ⟨e,n,ne,nf,d⟩:=I.pin p hp
   have wV:p.1∉ch:=fun z=>(hch p.1 z).2.2.2 p hp rfl
   exact ⟨keep p.1 p.2 ne nf wV e n,free p.1 p.2 wV e n,ne,nf,d⟩
theorem Inv.un (I:Inv X pins σ H s) (u:Un X.fs [] H H' s.heap h') (hok:gM X.prog X.w H' h'):Inv X pins σ H' { s with heap:=h',toks:=t' }:=by
 obtain ⟨m,⟨o,es,ep,ho,r⟩,_⟩:=id I.loc
 obtain ⟨sl,hL⟩:=u.any ho I.free (by simp)
 exact I.step (g':=s.gens) (d':=s.drawn) (ch:=[]) (fun _ z=>nomatch z) (fun b o _ hb _ e n=>u.keep b o e n hb (by simp)) (fun b o _ hb _ e n=>u.slot b o e n hb (by simp)) (fun b o _ e n=>u.free b o e n (by simp)) (fun b o _ e=>u.there b o e (by simp)) u.tups u.mW u.o_ (fun m' hm=>by
  obtain ⟨o',es',wW,ho',r'⟩:=hm
  rw [ho] at ho';cases ho'
  exact ⟨_,es',wW,hL,r'⟩) hok I.bare
theorem Inv.call {d':Drawn} (I:Inv X pins σ H s) (u:Un (frs X.stack) ch H H' s.heap h') (hok:gM X.prog X.w H' h') (hg:AllBare g')
  (hch:∀b∈ch,(b∈X.ex\/X.s₀.heap.objs.size<=b)/\b≠X.env.locals/\(∀x c,X.env.cells.lookup x=some c->c≠b)/\∀p∈X.pn++pins,p.1≠b):
  Inv X pins σ H' { s with heap:=h',gens:=g',drawn:=d',toks:=t' }:=by
 obtain ⟨m,⟨o,es,ep,ho,r⟩,_⟩:=id I.loc
 obtain ⟨sl,hL⟩:=u.any ho I.free fun z=>(hch _ z).2.1 rfl
 exact I.step (ch:=ch) hch (fun b o hL hb hc e n=>u.keep b o e n (fun z=>(c_.mp (I.Kd b z)).elim hL hb) hc) (fun b o _ _ hc e n=>u.any e n hc) (fun b o hc e n=>u.free b o e n hc) (fun b o hc e=>u.there b o e hc) u.tups u.mW u.o_ (fun m' hm=>by
  obtain ⟨o',es',wW,ho',r'⟩:=hm
  rw [ho] at ho';cases ho'
  exact ⟨_,es',wW,hL,r'⟩) hok hg
theorem Inv.turned (I:Inv X pins σ H s) (k:∀b o,b≠it->s.heap.get? b=some o->h'.get? b=some o) (hn:H it=none) (hL:it≠X.env.locals)
  (h1:it∈X.ex\/X.s₀.heap.objs.size<=it) (h2:∀x c,X.env.cells.lookup x=some c->c≠it) (h3:∀p∈X.pn++pins,p.1≠it):Inv X pins σ H { s with heap:=h',toks:=t' }:=by
 have nit:∀b u,H b=some u->b≠it:=fun b u e z=>by rw [z,hn] at e;cases e
 refine I.step (g':=s.gens) (d':=s.drawn) (ch:=[it]) (fun b hb=>?_) (fun b o _ _ hc e _=>k b o (fun z=>hc (by simp [z])) e) (fun b o _ _ hc e _=>⟨o.slots,k b o (fun z=>hc (by simp [z])) e⟩) (fun _ _ _ _ n=>n)
  (fun b o hc e=>⟨o,k b o (fun z=>hc (by simp [z])) e⟩) (fun _ _ e=>e) (fun _ _ _ e=>e) (fun b ps e=>⟨#[],by rw [e];simp⟩) (fun m hm=>?_) (fun b u e=>?_) I.bare
 . have e:b=it:=by simpa using hb
   subst e
   exact ⟨h1,hL,h2,h3⟩
 . obtain ⟨o,es,ep,ho,r⟩:=hm
   exact ⟨o,es,ep,k _ o (cu hL) ho,r⟩
 . refine (I.hok b u e).stay (fun c v hc q=>k c v ?_ q) (fun _ q=>q) fun _ _ q=>q
   rcases hc with z|z
   . rw [z];exact nit b u e
   . exact nit c _ z
theorem Inv.tok (I:Inv X pins σ H s) (t:Nat):Inv X pins σ H { s with toks:=t }:=I.un (h':=s.heap) (t':=t) Un.refl I.hok
theorem Inv.kept (I:Inv X pins σ H s) (k:∀b u,s.heap.get? b=some u->h'.get? b=some u):Inv X pins σ H { s with heap:=h',toks:=t' }:=I.un (Un.kept k) (I.hok.kept k)
theorem Inv.laid (I:Inv X pins σ H s) (k:∀b u,s.heap.get? b=some u->h'.get? b=some u) (hp:s.heap.objs.size<=a) (new:dN X.prog X.w (upd H a o) h' a o):
  Inv X pins σ (upd H a o) { s with heap:=h',toks:=t' }:=I.un (Un.laid k hp (I.hok.fresh hp)) (I.hok.laid k hp new)
theorem Inv.write {x e:Addr} (I:Inv X pins σ H s) (mu:R3 (H x)) (he:e=x\/H e=some (.own x)) (k:∀b u,b≠e->s.heap.get? b=some u->h'.get? b=some u) (OA:∃u,h'.get? e=some u)
  (new:dN X.prog X.w (upd H x o) h' x o):Inv X pins σ (upd H x o) { s with heap:=h',toks:=t' }:=I.un (Un.write mu he k OA) (I.hok.write mu he k OA new)
theorem Inv.OD {WR:AO} (I:Inv X pins σ H s) (h:∀p∈WR,s.heap.get? p.1=some p.2/\H p.1=none/\p.1≠X.env.locals/\p.1∉X.fs/\∀v,p.2.data ≠ .cell v):Inv X WR σ H s:=
 ⟨I.ok,I.os,I.bare,I.base,I.loc,I.cell,I.free,I.jM,fun p hp=>(fZ.mp hp).elim (fun z=>I.pin p (Fw _ z)) (h p),I.hok,I.len⟩
theorem x9 (hN:N.Nodup) (a:N[i]?=some x) (b:N[j]?=some x):i=j:=by
 obtain ⟨h1,e1⟩:=eF.mp a
 obtain ⟨h2,e2⟩:=eF.mp b
 exact (List.getElem_inj hN).mp (e1.trans e2.symm)
theorem zy {v:V} (I:Inv X pins σ H s) (hN:X.N.Nodup) (hi:X.N[i]?=some x) (hx:Loc X.env.scope x) (r:RelV v u)
  (h:∀s',Inv X pins (σ.set i (some v)) H s'->(∃a,Heap.SameBut a s.heap s'.heap/\(a=X.env.locals\/X.env.cells.lookup x=some a))->Q () s') (hf:X.fn x=true\/X.env.scope.names.lookup x=some .local:=by first|exact .inl rfl|exact .inr rfl|assumption):wpAny M A (storeName X.env x u) Q E s:=by
 obtain ⟨m,hn,hl⟩:=id I.loc
 have hcls:(X.env.scope.kind == .class || (X.env.scope.kind == .module && X.env.locals != X.env.globals))=false:=by rw [I.ok.kind];rfl
 have hiσ:i<σ.length:=by rw [I.len];exact (eF.mp hi).1
 have Hi:=I.Hi
 have tracked:∀{a:Addr} {h':Heap},(∃o,s.heap.get? a=some o/\H a=none)->Heap.SameBut a s.heap h'->gM X.prog X.w H h':=fun {a h'} ha hs b ob e=>by
  obtain ⟨_,_,hfree⟩:=ha
  refine (I.hok b ob e).stay (fun c w' hc q=>(hs.2 c ?_).trans q) (fun _ q=>q) fun _ _ q=>q
  rintro rfl
  rcases hc with rfl|hc
  . rw [hfree] at e;cases e
  . rw [hfree] at hc;cases hc
 rcases hx with hk|hk
 . refine wpAny_storeName_local hk hn (fun h' hn' hs=>?_) hcls
   obtain ⟨oL,_,_,hoL,_⟩:=id hn
   refine h _ ⟨I.ok,I.os,I.bare,⟨fun b o e n hb hx=>?_,fun b o e n hb hx=>?_,I.base.free,fun b o e hx=>?_,I.base.tups,I.base.mW,I.base.o_⟩,⟨_,hn',fun j y v' e1 e2 e3=>?_⟩,fun y c e=>?_,I.free,I.jM,fun p hp=>?_,tracked ⟨oL,hoL,I.free⟩ hs,by simpa using I.len⟩ ⟨_,hs, .inl rfl⟩
   . exact (hs.2 b (dP (lg (bP e) I.ok.above))).trans (I.base.keep b o e n hb hx)
   . obtain ⟨sl,e1⟩:=I.base.slot b o e n hb hx
     exact ⟨sl,(hs.2 b (dP (lg (bP e) I.ok.above))).trans e1⟩
   . obtain ⟨o',e1⟩:=I.base.there b o e hx
     exact ⟨o',(hs.2 b (dP (lg (bP e) I.ok.above))).trans e1⟩
   . by_cases hj:j=i
     . subst hj
       rw [hi] at e1;cases e1
       rw [ue hiσ] at e2
       cases e2
       exact ⟨u,r, .inl ⟨hk,by simp⟩⟩
     . rw [zm (cu hj)] at e2
       obtain ⟨u',r',q⟩:=hl j y v' e1 e2 e3
       refine ⟨u',r',?_⟩
       rcases q with ⟨k,e⟩|⟨k,c,e,z⟩
       . refine .inl ⟨k,?_⟩
         have:y≠x:=fun e=>hj (x9 hN e1 (e▸hi))
         simp [this,e]
       . exact .inr ⟨k,c,e,z.sameBut hs (Hi y c e)⟩
   . obtain ⟨w',z⟩:=I.cell y c e
     exact ⟨w',z.sameBut hs (Hi y c e)⟩
   . obtain ⟨e,n,ne,nf,d⟩:=I.pin p hp
     exact ⟨(hs.2 p.1 ne).trans e,n,ne,nf,d⟩
 . have hfn:X.fn x=true:=by
    rcases hf with z|z
    . exact z
    . rw [z] at hk;cases hk
   obtain ⟨c,hc⟩:=I.ok.has x (.inl hk)
   obtain ⟨w',z⟩:=I.cell x c hc
   refine wpAny_storeName_cell I.ok.kind hk hc z (fun h' hc' hs=>?_)
   obtain ⟨oc,hoc,agD⟩:=id z
   refine h { s with heap:=h' } ⟨I.ok,I.os,I.bare,⟨fun b o e n hb hx=>?_,fun b o e n hb hx=>?_,I.base.free,fun b o e hx=>?_,I.base.tups,I.base.mW,I.base.o_⟩,⟨m,hn.sameBut hs (cu (Hi x c hc)),fun j y v' e1 e2 e3=>?_⟩,fun y c' e=>?_,I.free,I.jM,fun p hp=>?_,tracked ⟨oc,hoc,I.jM x c hc⟩ hs,by simpa using I.len⟩ ⟨c,hs, .inr hc⟩
   . exact (hs.2 b (dP (lg (bP e) (I.ok.gO x c hfn hc)))).trans (I.base.keep b o e n hb hx)
   . obtain ⟨sl,e1⟩:=I.base.slot b o e n hb hx
     exact ⟨sl,(hs.2 b (dP (lg (bP e) (I.ok.gO x c hfn hc)))).trans e1⟩
   . obtain ⟨o',e1⟩:=I.base.there b o e hx
     exact ⟨o',(hs.2 b (dP (lg (bP e) (I.ok.gO x c hfn hc)))).trans e1⟩
   . by_cases hj:j=i
     . subst hj
       rw [hi] at e1;cases e1
       rw [ue hiσ] at e2
       cases e2
       exact ⟨u,r, .inr ⟨.inl hk,c,hc,hc'⟩⟩
     . rw [zm (cu hj)] at e2
       obtain ⟨u',r',q⟩:=hl j y v' e1 e2 e3
       refine ⟨u',r',?_⟩
       rcases q with q|⟨k,c',e,z'⟩
       . exact .inl q
       . refine .inr ⟨k,c',e,z'.sameBut hs ?_⟩
         rintro rfl
         exact hj (x9 hN e1 (I.ok.inj _ _ _ e hc▸hi))
   . by_cases hcc:c'=c
     . subst hcc;exact ⟨_,hc'⟩
     . obtain ⟨w2,z2⟩:=I.cell y c' e
       exact ⟨w2,z2.sameBut hs hcc⟩
   . obtain ⟨e,n,ne,nf,d⟩:=I.pin p hp
     refine ⟨(hs.2 p.1 ?_).trans e,n,ne,nf,d⟩
     intro q
     rw [q,hoc] at e
     have q':oc=p.2:=iG e
     exact d w' (by rw [<-q'];exact agD)
theorem ug {v:V} (I:Inv X pins σ H s) (hN:X.N.Nodup) (hi:X.N[i]?=some x) (hx:Loc X.env.scope x) (r:RelV v u)
  (h:∀s',Inv X pins (σ.set i (some v)) H s'->Q () s') (hf:X.fn x=true\/X.env.scope.names.lookup x=some .local:=by first|exact .inl rfl|exact .inr rfl|assumption):wpAny M A (storeName X.env x u) Q E s:=
 zy I hN hi hx r (fun s' I' _=>h s' I') hf
theorem Inv.JR {s':Shared} (I:Inv X pins σ H s) (ho:s'.os=s.os) (u:Un (frs X.stack) ch H H' s.heap s'.heap) (hok:gM X.prog X.w H' s'.heap) (hg:AllBare s'.gens)
  (hch:∀b∈ch,(b∈X.ex\/X.s₀.heap.objs.size<=b)/\b≠X.env.locals/\(∀x c,X.env.cells.lookup x=some c->c≠b)/\∀p∈X.pn++pins,p.1≠b):Inv X pins σ H' s':=by
 obtain ⟨h',g',d',t',o'⟩:=s'
 have e:o'=s.os:=ho
 subst e
 exact I.call (g':=g') (t':=t') (d':=d') u hok hg hch
end
abbrev XK:=Value->Option Addr->Hp->Prop
abbrev St:=List (Option V)
abbrev VK:=V->Hp->Prop
abbrev TE:=St->Hp->VK->Prop
abbrev TT:=St->Hp->(Bool->Hp->Prop)->Prop
abbrev TA:=St->Hp->(List V->Hp->Prop)->Prop
structure Ends where
 nx:St->Hp->Prop
 rt:VK
 bk:St->Hp->Prop:=fun _ _=>False
 ct:St->Hp->Prop:=fun _ _=>False
abbrev TS:=Ends->St->Hp->Prop
def EP (X:Cx) (pins:AO) (σ:St) (Q:VK) (u:Value) (s':Shared):Prop:=∃v H',Inv X pins σ H' s'/\RelV v u/\Q v H'
def TP (X:Cx) (pins:AO) (σ:St) (Q:Bool->Hp->Prop) (b:Bool) (s':Shared):Prop:=∃H',Inv X pins σ H' s'/\Q b H'
def AP (X:Cx) (pins:AO) (σ:St) (Q:List V->Hp->Prop) (us:List Value) (s':Shared):Prop:=∃vs H',Inv X pins σ H' s'/\Vals vs us/\Q vs H'
def SP (X:Cx) (pins:AO) (D:Ends) (f:Flow) (s':Shared):Prop:=
 match f with
 | .next=>∃σ' H',Inv X pins σ' H' s'/\D.nx σ' H'
 | .brk=>∃σ' H',Inv X pins σ' H' s'/\D.bk σ' H'
 | .cont=>∃σ' H',Inv X pins σ' H' s'/\D.ct σ' H'
 | .ret u=>∃v σ' H',Inv X pins σ' H' s'/\RelV v u/\D.rt v H'
def PE (X:Cx) (e:Expr) (t:TE):Prop:=
 ∀(pins:AO) (s:Shared) (σ:St) (H:Hp) (Q:VK),Inv X pins σ H s->t σ H Q->wpAny (model X.prog X.w) X.A (eval e X.env) (EP X pins σ Q) X.xe s
def PT (X:Cx) (e:Expr) (t:TT):Prop:=
 ∀(pins:AO) (s:Shared) (σ:St) (H:Hp) (Q:Bool->Hp->Prop),Inv X pins σ H s->t σ H Q->wpAny (model X.prog X.w) X.A (isTrue e X.env (eval e X.env)) (TP X pins σ Q) X.xe s
def PW (X:Cx) (e:Expr) (t:TT):Prop:=
 ∀(whole:Sem Value) (pins:AO) (s:Shared) (σ:St) (H:Hp) (Q:Bool->Hp->Prop),Inv X pins σ H s->t σ H Q->wpAny (model X.prog X.w) X.A (isTrue e X.env whole) (TP X pins σ Q) X.xe s
variable {X:Cx} {e:Expr}
theorem PW.pt {t:TT} (h:PW X e t):PT X e t:=h _
def PA (X:Cx) (es:List Expr) (t:TA):Prop:=
 ∀(pos:Pos) (pins:AO) (s:Shared) (σ:St) (H:Hp) (Q:List V->Hp->Prop),Inv X pins σ H s->t σ H Q->wpAny (model X.prog X.w) X.A (spliced (backTo pos (starEach es X.env))) (AP X pins σ Q) X.xe s
def PS (X:Cx) (st:Stmt) (t:TS):Prop:=
 ∀(pins:AO) (s:Shared) (σ:St) (H:Hp) (D:Ends),Inv X pins σ H s->t D σ H->wpAny (model X.prog X.w) X.A (exec st X.env) (SP X pins D) X.xe s
def qp (X:Cx) (st:List Stmt) (t:TS):Prop:=
 ∀(pins:AO) (s:Shared) (σ:St) (H:Hp) (D:Ends),Inv X pins σ H s->t D σ H->wpAny (model X.prog X.w) X.A (execs st X.env) (SP X pins D) X.xe s
variable {s:Shared}
theorem bq {α:Type} {t:Sem α} {Q Q':α->Shared->Prop} (h:wpAny M A t Q E s) (hQ:∀a s,Q a s->Q' a s):wpAny M A t Q' E s:=gP h hQ fun _ _ x=>x
variable {pos:Pos} {pins:AO} {σ:St} {op:CmpOp}
section
variable {X:Cx}
inductive Cp (i:Nat) (σ:St) (H:Hp) (Q:VK):Prop
 | mk  (v:_) (_:σ[i]?=some (some v)) (_:Q v H)
def tC (v:V):TE:=fun _ H Q=>Q v H
theorem ZH (hN:X.N[i]?=some x) (hv:R5 X.env.scope x) (hd:(x==("__debug__":Str))=false:=by decide) (hcd:(x==("__classdict__":Str))=false:=by decide):PE X (.Name x pos) (Cp i):=by
 intro pins s σ H Q I h
 obtain ⟨v,e,h⟩:=h
 obtain ⟨m,hn,hl⟩:=I.loc
 obtain ⟨u,r,l⟩:=hl i x v hN e hv
 have fin:EP X pins σ Q u s:=⟨v,H,I,r,h⟩
 rcases l with ⟨hk,hm⟩|⟨hk,c,hc,hcell⟩
 . exact wpAny_Name (wpAny_loadName_local I.ok.kind hk hn hm fin) hd
 . rcases hk with hk|hk
   . exact wpAny_Name (wpAny_loadName_cell I.ok.kind hk hc hcell fin) hd
   . exact wpAny_Name (wpAny_loadName_free I.ok.kind hk hc hcell fin hcd) hd
theorem R6 {x j pos}:PE X (.Constant (.str x) j pos) (tC (.str x)):=fun _ _ _ H _ I h=>Calls.Constant_str ⟨.str x,H,I.tok _,⟨_,Z⟩,h⟩
def Gl (X:Cx) (x:Str):Prop:=X.env.kindOf x=some .globalImplicit
theorem qz {Q:VS} (I:Inv X pins σ H s) (hg:Gl X x) (hm:X.mg x=some u) (h:Q u s)
  (hd:(x==("__debug__":Str))=false:=by decide):wpAny (model X.prog X.w) X.A (eval (.Name x pos) X.env) Q E s:=
 Calls.Name_function_global I.ok.kind hg (Calls.loadGlobal_global (by rw [I.ok.glob];exact I.mod.glob.keeps I.bk) hm h) hd
theorem wX {Q:VS} (I:Inv X pins σ H s) (hg:Gl X x) (hm:X.mg x=none) (hv:bootBuiltins x=some u) (h:Q u s)
  (hn:x ≠ "__name__":=by decide) (hd:(x==("__debug__":Str))=false:=by decide):wpAny (model X.prog X.w) X.A (eval (.Name x pos) X.env) Q E s:=by
 obtain ⟨mb,h1,h2⟩:=I.mod.blt
 exact Calls.Name_function_global I.ok.kind hg (Calls.loadGlobal_builtin (by rw [I.ok.glob];exact I.mod.glob.keeps I.bk) hm (by rw [I.ok.blt];exact h1.keeps I.bk) ((h2 x hn).trans hv) h) hd
theorem X0 {v:V} (hg:Gl X x) (hm:X.mg x=none) (hv:bootBuiltins x=some u) (r:RelV v u) (hn:x ≠ "__name__":=by decide) (hd:(x==("__debug__":Str))=false:=by decide):PE X (.Name x pos) (tC v):=
 fun _ _ _ H _ I h=>wX I hg hm hv ⟨v,H,I,r,h⟩ hn hd
variable {a b:Expr} {ta tb:TE} {pos:Pos}
def PC (X:Cx) (op:CmpOp) (a b:Expr) (t:TE):Prop:=
 ∀(pins:AO) (s:Shared) (σ:St) (H:Hp) (Q:VK),Inv X pins σ H s->t σ H Q->
  wpAny (model X.prog X.w) X.A (eval a X.env) (fun v s₁=>wpAny (model X.prog X.w) X.A (eval b X.env) (fun u s₂=>wpAny (model X.prog X.w) X.A (compareOp op v u) (EP X pins σ Q) X.xe s₂) X.xe s₁) X.xe s
theorem Kf (b:Expr) (h:op ≠ .In) (h2:op ≠ .NotIn):behindInMarks op b=false:=by
 have e1:(op==CmpOp.In)=false:=by cases op <;> first|rfl|exact absurd rfl h
 have e2:(op==CmpOp.NotIn)=false:=by cases op <;> first|rfl|exact absurd rfl h2
 cases b <;> simp [behindInMarks,e1,e2]
inductive yTB (Q:Bool->Hp->Prop) (x:V) (H1:Hp):Prop
 | mk  (c:_) (_:x = .bl c) (_:Q c H1)
def tB (t:TE):TT:=fun σ H Q=>t σ H (yTB Q)
variable {tA WS:TT} {rest:List Expr}
def ac6 (u:TT) (σ:St) (Q:Bool->Hp->Prop):Bool->Hp->Prop:=fun c H1=>if c=true then u σ H1 Q else Q false H1
def ZI (t u:TT):TT:=fun σ H Q=>t σ H (ac6 u σ Q)
def agE (u:TT) (σ:St) (Q:Bool->Hp->Prop):Bool->Hp->Prop:=fun c H1=>if c=true then Q true H1 else u σ H1 Q
def tOr (t u:TT):TT:=fun σ H Q=>t σ H (agE u σ Q)
abbrev ac7 (Q:Bool->Hp->Prop):Bool->Hp->Prop:=fun c H1=>Q (!c) H1
def agF (t:TT):TT:=fun σ H Q=>t σ H (ac7 Q)
inductive ZJ (tb:TE) (σ:St) (Q:VK) (x:V) (H1:Hp):Prop
 | mk  (c:_) (_:x = .bl c) (_:if c=true then tb σ H1 Q else Q (.bl false) H1)
def ac8 (ta tb:TE):TE:=fun σ H Q=>ta σ H (ZJ tb σ Q)
inductive ZK (Q:VK) (x:V) (H1:Hp):Prop
 | mk  (c:_) (_:x = .bl c) (_:Q (.bl (!c)) H1)
def ac9 (ta:TE):TE:=fun σ H Q=>ta σ H (ZK Q)
end
def aC (K:Fg) (H:Hp) (a:Addr) (xs:List V):Prop:=
 Rd H a (.lst xs)\/
  ∃(o:Obj) (its:Array Value) (n:Nat),K.lookup a=some o/\o.cls = .type "list"/\o.dict=none/\o.data = .seq its n/\its.size<=sizeLine/\Vals xs its.toList
def cR (K:Fg) (H:Hp) (a:Addr) (xs:List V):Prop:=
 Rd H a (.tup xs)\/
  ∃(o:Obj) (its:Array Value) (n:Nat),K.lookup a=some o/\o.cls = .type "tuple"/\o.data = .seq its n/\its.size<=sizeLine/\Vals xs its.toList
def agG:Value->Option V
 | .none=>some .bZ
 | .bool b=>some (.bl b)
 | .int i _=>some (.int i)
 | .str x _=>some (.str x)
 | .bytes b _=>some (.wR b)
 | .float b _=>some (.Hf b)
 | .ref a=>some (.ref a)
 | .type n=>some (.ty n)
 | _=>none
theorem RelV.abs {x:V} (r:RelV x u):agG u=some x:=by
 cases x with
 | bZ=>cases r;rfl
 | bl _=>cases r;rfl
 | int _=>obtain ⟨t,rfl⟩:=r;rfl
 | str _=>obtain ⟨t,rfl⟩:=r;rfl
 | wR _=>obtain ⟨t,rfl⟩:=r;rfl
 | Hf _=>obtain ⟨t,rfl⟩:=r;rfl
 | ref _=>cases r;rfl
 | ty _=>cases r;rfl
variable {y:V}
theorem RelV.inj {x:V} (r:RelV x u) (q:RelV y u):x=y:=iG (r.abs.symm.trans q.abs)
theorem Vals.inj:∀{xs ys:List V} {us:List Value},Vals xs us->Vals ys us->xs=ys
 | _,_,_, .nil, .nil=>rfl
 | _,_,_, .cons r t, .cons r' t'=>by rw [r.inj r',Vals.inj t t']
variable {K:Fg}
section
variable {X:Cx} {pins:AO} {σ:St} {H:Hp} {s:Shared} {a:Addr} {xs ys:List V}
theorem aC.of (h:H a=some (.lst xs)):aC K H a xs:= .inl (.inl h)
theorem cR.of (h:H a=some (.tup xs)):cR K H a xs:= .inl (.inl h)
theorem Inv.list (I:Inv X pins σ H s) (h:aC X.K H a xs):∃its:List Value,Vals xs its/\PlainL s.heap a its.toArray/\xs.length<=sizeLine:=by
 rcases h with h|⟨o,its,n,hk,hc,hd,hs,hz,r⟩
 . obtain ⟨z,its,n,r,e⟩:=h.ok I.hok
   exact ⟨its,r,⟨_,n,e,Z,Z,Z⟩,z⟩
 . refine ⟨its.toList,r,⟨o,n,I.iP a o hk,hc,hd,by simpa using hs⟩,?_⟩
   have e:=r.length
   simp only [Array.length_toList] at e
   omega
theorem Inv.tuple (I:Inv X pins σ H s) (h:cR X.K H a xs):∃its:List Value,Vals xs its/\IsTup s.heap a its.toArray/\xs.length<=sizeLine:=by
 rcases h with h|⟨o,its,n,hk,hc,hs,hz,r⟩
 . obtain ⟨z,its,r,p⟩:=h.ok I.hok
   exact ⟨its,r,p,z⟩
 . refine ⟨its.toList,r,⟨o,I.iP a o hk,hc,n,by simpa using hs⟩,?_⟩
   have e:=r.length
   simp only [Array.length_toList] at e
   omega
theorem Inv.Vi (I:Inv X pins σ H s) (h:aC X.K H a xs) (h':aC X.K H a ys):xs=ys:=by
 obtain ⟨its,r,⟨o,n,e,_,_,d⟩,_⟩:=I.list h
 obtain ⟨its',r',⟨o',n',e',_,_,d'⟩,_⟩:=I.list h'
 rw [e] at e';cases e'
 rw [d] at d'
 injection d' with d1 _
 have:its=its':=by simpa using ie Array.toList d1
 subst this
 exact r.inj r'
end
abbrev Cx.v9 (X:Cx) (E:VS):Cx:={ X with xe:=E }
abbrev Cx.BI (X:Cx):Cx:=X.v9 fun _ _=>False
theorem Cx.Ok.v9 (ok:X.Ok) (E:VS):(X.v9 E).Ok:=
 ⟨ok.mod,ok.kind,ok.glob,ok.blt,ok.above,ok.inj,ok.has,ok.gO,ok.hd,ok.frames,ok.stk,ok.Kc,ok.bs,ok.Dz,ok.FJ,ok.Co,ok.nV,ok.Hh⟩
theorem Cx.Ok.rS (ok:(X.v9 E).Ok):X.Ok:=
 ⟨ok.mod,ok.kind,ok.glob,ok.blt,ok.above,ok.inj,ok.has,ok.gO,ok.hd,ok.frames,ok.stk,ok.Kc,ok.bs,ok.Dz,ok.FJ,ok.Co,ok.nV,ok.Hh⟩
variable {D:Ends}
section
variable {X:Cx} {pins:AO} {σ:St} {H:Hp} {s:Shared} {E:VS}
theorem Inv.v9 (I:Inv X pins σ H s) (E:VS):Inv (X.v9 E) pins σ H s:=⟨I.ok.v9 E,I.os,I.bare,I.base,I.loc,I.cell,I.free,I.jM,I.pin,I.hok,I.len⟩
theorem Inv.rS (I:Inv (X.v9 E) pins σ H s):Inv X pins σ H s:=⟨I.ok.rS,I.os,I.bare,I.base,I.loc,I.cell,I.free,I.jM,I.pin,I.hok,I.len⟩
theorem SP.rS {f:Flow} (h:SP (X.v9 E) pins D f s'):SP X pins D f s':=by
 cases f with
 | next=>obtain ⟨σ',H',I,q⟩:=h;exact ⟨σ',H',I.rS,q⟩
 | brk=>obtain ⟨σ',H',I,q⟩:=h;exact ⟨σ',H',I.rS,q⟩
 | cont=>obtain ⟨σ',H',I,q⟩:=h;exact ⟨σ',H',I.rS,q⟩
 | ret u=>obtain ⟨v,σ',H',I,r,q⟩:=h;exact ⟨v,σ',H',I.rS,r,q⟩
theorem qp.BI {st:List Stmt} {t:TS} (h:qp X.BI st t):qp X st t:=fun pins s σ H D I hw=>
 gP (h pins s σ H D (I.v9 _) hw) (fun _ _ q=>q.rS) fun _ _ z=>False.elim z
end
variable {tc:TT}
section
variable {X:Cx} {st:Stmt} {rest:List Stmt} {t u:TS} {e:Expr} {te:TE} {pos:Pos}
def ac_:TS:=fun D σ H=>D.nx σ H
def Ends.sq (D:Ends) (u:TS):Ends:={ D with nx:=u D }
def Ends.lp (D:Ends) (N:St->Hp->Prop):Ends:={ D with nx:=N,ct:=N,bk:=D.nx }
def Cq (t u:TS):TS:=fun D σ H=>t (D.sq u) σ H
theorem Inv.quiet (I:Inv X pins σ H s):interactive X.env=false:=by simp [interactive,I.ok.kind]
def ZL (D:Ends) (σ:St):V->Hp->Prop:=fun _ H1=>D.nx σ H1
def ada (te:TE):TS:=fun D σ H=>te σ H (ZL D σ)
def agH (te:TE):TS:=fun D σ H=>te σ H D.rt
def adb (t:TS) (u:TS) (D:Ends) (σ:St):Bool->Hp->Prop:=fun b H1=>if b=true then t D σ H1 else u D σ H1
def ZM (c:TT) (t u:TS):TS:=fun D σ H=>c σ H (adb t u D σ)
theorem WT {c:Expr} {a b:List Stmt} (hc:PT X c tc) (ha:qp X a t) (hb:qp X b u):PS X (.If c a b pos) (ZM tc t u):=by
 intro pins s σ H D I h
 refine wpAny_If (bq (hc pins s σ H _ I h) fun d s1 ⟨H1,I1,q1⟩=>?_)
 cases d with
 | true=>exact ha pins s1 σ H1 D I1 q1
 | false=>exact hb pins s1 σ H1 D I1 q1
def ZN:TS:=fun _ _ _=>False
end
abbrev TG:=V->St->Hp->(St->Hp->Prop)->Prop
abbrev DA:=List V->St->Hp->(St->Hp->Prop)->Prop
def PG (X:Cx) (target:Expr) (t:TG):Prop:=
 ∀(pins:AO) (s:Shared) (σ:St) (H:Hp) (v:V) (u:Value) (Q:St->Hp->Prop),Inv X pins σ H s->RelV v u->t v σ H Q->
  wpAny (model X.prog X.w) X.A (assign target X.env u) (fun _ s'=>∃σ' H',Inv X pins σ' H' s'/\Q σ' H') X.xe s
def PGs (X:Cx) (ts:List Expr) (t:DA):Prop:=
 ∀(pins:AO) (s:Shared) (σ:St) (H:Hp) (vs:List V) (us:List Value) (Q:St->Hp->Prop),Inv X pins σ H s->Vals vs us->t vs σ H Q->
  wpAny (model X.prog X.w) X.A (assignInOrder ((assignEach ts X.env).map (·.2)) us) (fun _ s'=>∃σ' H',Inv X pins σ' H' s'/\Q σ' H') X.xe s
abbrev Kg:=V->V->V->Hp->(Hp->Prop)->Prop
def ZO (X:Cx) (t:Kg):Prop:=
 ∀(pins:AO) (s:Shared) (σ:St) (H:Hp) (o i v:V) (ov iv u:Value) (Q:Hp->Prop),Inv X pins σ H s->RelV o ov->RelV i iv->RelV v u->t o i v H Q->
  wpAny (model X.prog X.w) X.A (setItem ov iv u) (fun _ s'=>∃H',Inv X pins σ H' s'/\Q H') X.xe s
variable {es:List Expr} {n:Nat}
section
variable {X:Cx} {pos:Pos}
def gc (i:Nat):TG:=fun v σ H Q=>Q (σ.set i (some v)) H
inductive ZP (vs:List V) (σ:St) (H:Hp) (Q:St->Hp->Prop):Prop
 | mk  (_:vs=[]) (_:Q σ H)
def ZQ (u:DA) (Q:St->Hp->Prop) (r:List V):St->Hp->Prop:=fun σ' H'=>u r σ' H' Q
inductive WU (t:TG) (u:DA) (vs:List V) (σ:St) (H:Hp) (Q:St->Hp->Prop):Prop
 | mk  (v r:_) (_:vs=v::r) (_:t v σ H (ZQ u Q r))
inductive Cr (K:Fg) (n:Nat) (t:DA) (v:V) (σ:St) (H:Hp) (Q:St->Hp->Prop):Prop
 | mk  (a xs:_) (_:v = .ref a) (_:cR K H a xs) (_:xs.length=n) (_:t xs σ H Q)
theorem ZR {k:Nat} {t:DA} (hc:X.calm=true) (h:PGs X es t)
  (hn:(assignEach es X.env).length=n:=by rfl) (hst:(assignEach es X.env).findIdx? (·.1)=none:=by rfl):PG X (.Tuple es k pos) (Cr X.K n t):=by
 intro pins s σ H v u Q I r hw
 obtain ⟨a,xs,e1,hq,hl,hw⟩:=hw
 subst e1
 cases r
 obtain ⟨its,rv,ht,hz⟩:=I.tuple hq
 refine assign_Tuple_tuple (I.ok.hd hc) ht (by simp [hn,<-hl,rv.length]) hst fun h' hx=>?_
 have I1:Inv X pins σ H { s with heap:=h' }:=I.kept (t':=s.toks) fun b o e=>hx b o (dP (bP e)) e
 exact h pins _ σ H xs _ Q I1 (by simpa using rv) hw
def X3 (σ:St) (Q:St->Hp->Prop):Hp->Prop:=fun H3=>Q σ H3
def X4 (t:Kg) (v:V) (σ:St) (Q:St->Hp->Prop) (o:V):V->Hp->Prop:=fun i H2=>t o i v H2 (X3 σ Q)
def ade (ti:TE) (t:Kg) (v:V) (σ:St) (Q:St->Hp->Prop):V->Hp->Prop:=fun o H1=>ti σ H1 (X4 t v σ Q o)
def agI (to ti:TE) (t:Kg):TG:=fun v σ H Q=>to σ H (ade ti t v σ Q)
def adf (g:TG) (D:Ends) (σ:St):V->Hp->Prop:=fun x H1=>g x σ H1 D.nx
def zz (te:TE) (g:TG):TS:=fun D σ H=>te σ H (adf g D σ)
inductive adg (i:Nat) (j:Nat) (D:Ends) (σ:St) (vs:List V) (H1:Hp):Prop
 | mk  (v w:_) (_:vs=[v,w]) (_:D.nx ((σ.set i (some v)).set j (some w)) H1)
def agJ (i j:Nat) (ta:TA):TS:=fun D σ H=>ta σ H (adg i j D σ)
end
section
variable {X:Cx} {pos:Pos}
def ZS (c:TT) (tb:TS):TS:=fun D σ H=>∃W:Nat->St->Hp->Prop,(∃m,W m σ H)/\∀m σ H,W m σ H->
 c σ H fun b H1=>if b=true then ∃N:St->Hp->Prop,(∀σ' H',N σ' H'->∃m',m'<m/\W m' σ' H')/\tb { D with nx:=N,ct:=N,bk:=D.nx } σ H1 else D.nx σ H1
end
structure It where
 go:Nat->Hp->Prop
 DB:Nat->Hp->V->Hp->Prop
 stop:Nat->Hp->Prop
def pe (X:Cx) (pins:AO) (H:Hp) (b:Addr):Prop:=
 H b=none/\b≠X.env.locals/\b∉X.fs/\(b∈X.ex\/X.s₀.heap.objs.size<=b)/\(∀x c,X.env.cells.lookup x=some c->c≠b)/\∀p∈X.pn++pins,p.1≠b
variable {H':Hp}
theorem Inv.FL {b:Addr} (I:Inv X pins σ H s) (hb:s.heap.objs.size<=b) (hn:H' b=none):pe X pins H' b:=by
 refine ⟨hn,xX (lg I.lt hb),I.agC hb, .inr (fq I.sz hb),fun x c e z=>?_,fun p hp z=>?_⟩
 . obtain ⟨v,q⟩:=I.cell x c e
   exact absurd (lg q.lt (by rw [z];exact hb)) (jl _)
 . exact absurd (lg (bP (I.pin p hp).1) (by rw [z];exact hb)) (jl _)
structure Turn (P:Program) (w:World) (K:Fg) (tg:Expr) (J:It) (fp:List Addr) (it:Addr) (tn:Nat->Heap->Prop):Prop where
 mem:it∈fp
 obj:∀i h,tn i h->∀b∈fp,∃o,h.get? b=some o/\∀v,o.data ≠ .cell v
 keep:∀i h h',tn i h->(∀b∈fp,∀o,h.get? b=some o->h'.get? b=some o)->tn i h'
 item:∀(X:Cx),X.prog=P->X.w=w->X.K=K->X.calm=true->∀(i:Nat) (pins:AO) (s:Shared) (σ:St) (H:Hp) (E:VS),Inv X pins σ H s->(∀b∈fp,pe X pins H b)->tn i s.heap->J.go i H->
  wpAny (model P w) X.A (pyNext (.ref it)) (fun r s1=>∃u,r=some u/\
   wpAny (model P w) X.A (letOwnedTupleGo tg (.ref it) u) (fun _ s2=>∃x H',Inv X pins σ H' s2/\RelV x u/\J.DB i H x H'/\tn (i+1) s2.heap/\∀b∈fp,H' b=none) E s1) E s
 done:∀(X:Cx),X.prog=P->X.w=w->X.K=K->X.calm=true->∀(i:Nat) (pins:AO) (s:Shared) (σ:St) (H:Hp) (E:VS),Inv X pins σ H s->(∀b∈fp,pe X pins H b)->tn i s.heap->J.stop i H->
  wpAny (model P w) X.A (pyNext (.ref it)) (fun r s1=>r=none/\Inv X pins σ H s1) E s
 self:∀(A:Around) (i:Nat) (s:Shared) (Q:VS) (E:VS),tn i s.heap->Q (.ref it) s->wpAny (model P w) A (pyIter (.ref it)) Q E s
abbrev TI:=St->Hp->(It->Hp->Prop)->Prop
def PIE (X:Cx) (pins:AO) (σ:St) (tg:Expr) (R:It->Hp->Prop) (itv:Value) (s2:Shared):Prop:=
 ∃(it:Addr) (fp:List Addr) (tn:Nat->Heap->Prop) (J:It) (H':Hp),itv = .ref it/\Inv X pins σ H' s2/\Turn X.prog X.w X.K tg J fp it tn/\tn 0 s2.heap/\(∀b∈fp,pe X pins H' b)/\R J H'
def PI (X:Cx) (tg iter:Expr) (wi:TI):Prop:=
 ∀(pins:AO) (s:Shared) (σ:St) (H:Hp) (R:It->Hp->Prop),Inv X pins σ H s->wi σ H R->
  wpAny (model X.prog X.w) X.A (eval iter X.env) (fun v s1=>wpAny (model X.prog X.w) X.A (pyIter v) (PIE X pins σ tg R) X.xe s1) X.xe s
variable {tg:Expr}
theorem DC {o:Obj} {n:String} {vs:Array Value} (ho:s.heap.get? it=some o) (hc:o.cls = .type n) (hd:o.data = .fields vs)
  (hn:["enumerate","zip","dict_itemiterator","dict_reverseitemiterator","odict_iterator","itertools.zip_longest","itertools.pairwise"].contains n=false) (hQ:Q () s):wpAny M A (letOwnedTupleGo tg (.ref it) u) Q E s:=by
 unfold letOwnedTupleGo
 cases tg <;> first
  | exact aL hQ
  | (cases u <;> first
      | exact aL hQ
      | (refine aq (wpAny_load ho ?_)
         rw [hc,hd]
         show wpAny M A (if (["enumerate","zip","dict_itemiterator","dict_reverseitemiterator","odict_iterator","itertools.zip_longest","itertools.pairwise"].contains n && vs[0]?==some (rawInt _))=true then _ else _) Q E s
         rw [az (by intro h;rw [hn,Bool.false_and] at h;cases h)]
         exact aL hQ))
def uh (K:Fg) (a:Addr):It:=
 ⟨fun i H=>∃xs x,aC K H a xs/\xs[i]?=some x,fun i H x H'=>H'=H/\∀xs,aC K H a xs->xs[i]?=some x,fun i H=>∃xs,aC K H a xs/\xs.length<=i⟩
def Hj (lo:Int) (n:Nat):It:=⟨fun i _=>i<n,fun i H x H'=>H'=H/\x = .int (lo+i),fun i _=>n<=i⟩
theorem R7 {w:World} (a it:Addr):Turn P w K tg (uh K a) [it] it (fun i h=>h.IsListIter it a i) where
 mem:=by simp
 obj:=fun i h st b hb=>by
  have e:b=it:=by simpa using hb
  subst e
  obtain ⟨o,e,c,d⟩:=st
  exact ⟨o,e,fun v z=>by rw [d] at z;cases z⟩
 keep:=fun i h h' st k=>st.at fun o e=>k it (by simp) o e
 item:=by
  intro X hP hw hK hc i pins s σ H E I hf st hg
  subst hP hw hK
  obtain ⟨xs,x,hq,hx⟩:=hg
  obtain ⟨its,rv,p,hz⟩:=I.list hq
  obtain ⟨u,hu,ru⟩:=rv.get hx
  obtain ⟨f0,f1,f2,f3,f4,f5⟩:=hf it (by simp)
  refine wpAny_pyNext_list_item st p.isList (x:=u) (by simpa using hu) fun h' st' sb=>?_
  have I1:Inv X pins σ H { s with heap:=h' }:=I.turned (t':=s.toks) (fun b o hb e=>(sb.2 b hb).trans e) f0 f1 f3 f4 f5
  obtain ⟨o,e,c,d⟩:=id st'
  exact ⟨u,Z,DC (s:={ s with heap:=h' }) e c d (by decide) ⟨x,H,I1,ru,⟨Z,fun ys hy=>by rw [I.Vi hy hq];exact hx⟩,st',fun b hb=>(hf b hb).1⟩⟩
 done:=by
  intro X hP hw hK hc i pins s σ H E I hf st hg
  subst hP hw hK
  obtain ⟨xs,hq,hx⟩:=hg
  obtain ⟨its,rv,p,hz⟩:=I.list hq
  obtain ⟨f0,f1,f2,f3,f4,f5⟩:=hf it (by simp)
  have hl:=rv.length
  exact wpAny_pyNext_list_end (I.ok.hd hc) st p.isList (by simp;omega) fun h' eb=>⟨Z,I.turned (t':=s.toks) (fun b o hb e=>eb b o hb e) f0 f1 f3 f4 f5⟩
 self:=fun _ _ _ _ _ st h=>wpAny_pyIter_listiter st h
theorem Qy {w:World} (it:Addr) (lo:Int) (n:Nat):Turn P w K tg (Hj lo n) [it] it (fun i h=>IsRangeIter h it (lo+(i:Nat)*1) ((n:Int)-(i:Nat)) 1) where
 mem:=by simp
 obj:=fun i h st b hb=>by
  have e:b=it:=by simpa using hb
  subst e
  exact ⟨_,st,fun v z=>by
   have z':Data.fields _=Data.cell v:=z
   cases z'⟩
 keep:=fun i h h' st k=>k it (by simp) _ st
 item:=by
  intro X hP hw hK hc i pins s σ H E I hf st hg
  subst hP hw hK
  obtain ⟨f0,f1,f2,f3,f4,f5⟩:=hf it (by simp)
  have W:=Walks.range (prog:=X.prog) (w:=X.w) (I.ok.hd hc) it lo 1 n
  refine W.item i s _ _ hg st fun v h' tk hv st' kk=>?_
  obtain ⟨t,rfl⟩:=hv
  have I1:Inv X pins σ H { s with heap:=h',toks:=tk }:=I.turned (fun b o hb e=>kk b o (by simpa using hb) e) f0 f1 f3 f4 f5
  refine ⟨_,Z,DC (s:={ s with heap:=h',toks:=tk }) (n:="range_iterator") st' rfl rfl (by decide) ⟨.int (lo+i),H,I1,⟨t,?_⟩,⟨Z,Z⟩,st',fun b hb=>(hf b hb).1⟩⟩
  rw [Int.mul_one]
 done:=by
  intro X hP hw hK hc i pins s σ H E I hf st hg
  subst hP hw hK
  obtain ⟨f0,f1,f2,f3,f4,f5⟩:=hf it (by simp)
  exact wpAny_pyNext_range_end (I.ok.hd hc) st (by have:n<=i:=hg;omega) fun h' eb=>⟨Z,I.turned (t':=s.toks) (fun b o hb e=>eb b o hb e) f0 f1 f3 f4 f5⟩
 self:=fun _ _ _ _ _ st h=>wpAny_pyIter_rangeiter st h
variable {tl:TE} {fp:List Addr}
section
variable {X:Cx} {tg:Expr}
inductive ZT (K:Fg) (R:It->Hp->Prop) (x:V) (H1:Hp):Prop
 | mk  (a:_) (_:x = .ref a) (_:(∃xs,aC K H1 a xs)) (_:R (uh K a:_) H1)
def WV (K:Fg) (tl:TE):TI:=fun σ H R=>tl σ H (ZT K R)
theorem X5 {l:Expr} (hl:PE X l tl):PI X tg l (WV X.K tl):=by
 intro pins s σ H R I h
 refine bq (hl pins s σ H _ I h) fun v s1 ⟨x,H1,I1,r1,q1⟩=>?_
 obtain ⟨a,e,⟨xs,hq⟩,q⟩:=q1
 subst e
 cases r1
 obtain ⟨its,rv,p,hz⟩:=I1.list hq
 refine Qt p.isList ?_
 refine ⟨s1.heap.objs.size,[s1.heap.objs.size],_,_,H1,Z,I1.kept (t':=s1.toks) fun b o e=>cA _ e,R7 a _,⟨_,dY _ rfl,Z,Z⟩,fun b hb=>?_,q⟩
 have e:b=s1.heap.objs.size:=by simpa using hb
 subst e
 exact I1.FL (aP _) (I1.hok.fresh (aP _))
theorem Vj {R:It->Hp->Prop} {lo hi:Int} {t u v:Tok} {tk:Nat} (I:Inv X pins σ H s) (h1:-(2 ^ 62)<=lo) (h2:lo<2 ^ 62) (h3:-(2 ^ 62)<=hi) (h4:hi<2 ^ 62)
  (q:R (Hj lo (hi-lo).toNat) H):wpAny (model X.prog X.w) X.A (pyIter (.ref s.heap.objs.size)) (PIE X pins σ tg R) E { s with heap:=s.heap.push { cls:= .type "range",data:= .fields #[.int lo t, .int hi u, .int 1 v] },toks:=tk }:=by
 refine wpAny_pyIter_range (IsRange.new ..) (small_one h1 h2 h3 h4) ?_
 have I1:Inv X pins σ H { s with heap:=s.heap.push { cls:= .type "range",data:= .fields #[.int lo t, .int hi u, .int 1 v] },toks:=tk }:=I.kept fun b o e=>cA _ e
 refine ⟨(s.heap.push { cls:= .type "range",data:= .fields #[.int lo t, .int hi u, .int 1 v] }).objs.size,[(s.heap.push { cls:= .type "range",data:= .fields #[.int lo t, .int hi u, .int 1 v] }).objs.size],_,_,H,Z,
  I1.kept (t':=tk) fun b o e=>cA _ e,Qy _ lo (hi-lo).toNat,?_,fun b hb=>?_,q⟩
 . have e1:lo+((0:Nat):Int)*1=lo:=by simp
   have e2:(((hi-lo).toNat:Nat):Int)-((0:Nat):Int)=Builtin.Range.rangeSize lo hi 1:=by rw [rangeSize_one];split <;> omega
   show IsRangeIter _ _ (lo+((0:Nat):Int)*1) ((((hi-lo).toNat:Nat):Int)-((0:Nat):Int)) 1
   rw [e1,e2]
   exact dY _ rfl
 . have e:b=(s.heap.push { cls:= .type "range",data:= .fields #[.int lo t, .int hi u, .int 1 v] }).objs.size:=by simpa using hb
   subst e
   exact I1.FL (aP _) (I1.hok.fresh (aP _))
inductive ZU (R:It->Hp->Prop) (vs:List V) (H1:Hp):Prop
 | mk  (j:Int) (_:vs=[.int j]) (_:-(2 ^ 62)<=j) (_:j<2 ^ 62) (_:R (Hj 0 j.toNat) H1)
def adh (ta:TA):TI:=fun σ H R=>ta σ H (ZU R)
def JS (g:TG) (tb:TS) (D:Ends) (σ:St):It->Hp->Prop:=fun J H1=>∃W:Nat->Nat->St->Hp->Prop,(∃m,W 0 m σ H1)/\∀i m σ H,W i m σ H->
 (J.stop i H/\D.nx σ H)\/(J.go i H/\∃N:St->Hp->Prop,(∀σ' H',N σ' H'->∃m',m'<m/\W (i+1) m' σ' H')/\∀x H',J.DB i H x H'->g x σ H' (tb (D.lp N)))
def agK (wi:TI) (g:TG) (tb:TS):TS:=fun D σ H=>wi σ H (JS g tb D σ)
def DE (fp:List Addr) (h:Heap):List (Addr×Obj):=fp.filterMap fun b=>(h.get? b).map fun o=>(b,o)
theorem jm {b:Addr} {o:Obj} (hb:b∈fp) (e:h.get? b=some o):(b,o)∈DE fp h:=FA.mpr ⟨b,hb,by rw [e];rfl⟩
theorem R8 {p:Addr×Obj} (hp:p∈DE fp h):p.1∈fp/\h.get? p.1=some p.2:=by
 obtain ⟨b,hb,e⟩:=FA.mp hp
 cases q:h.get? b with
 | none=>rw [q] at e;cases e
 | some o=>
   rw [q] at e
   have e':(b,o)=p:=iG e
   subst e'
   exact ⟨hb,q⟩
theorem Inv.pinned (I:Inv X pins σ H s) (hf:∀b∈fp,pe X pins H b) (ho:∀b∈fp,∃o,s.heap.get? b=some o/\∀v,o.data ≠ .cell v):Inv X (pins++DE fp s.heap) σ H s:=
 I.OD fun p hp=>(fZ.mp hp).elim (fun z=>I.pin p (jE _ z)) fun z=>by
   obtain ⟨hb,e⟩:=R8 z
   obtain ⟨f0,f1,f2,_⟩:=hf p.1 hb
   obtain ⟨o,e',d⟩:=ho p.1 hb
   rw [e] at e';cases e'
   exact ⟨e,f0,f1,f2,d⟩
theorem Inv.qA {pl:AO} (I:Inv X (pins++pl) σ H s):Inv X pins σ H s:=I.OD fun p hp=>I.pin p (jE _ (Fw _ hp))
end
variable {g:TG} {tb:TS}
theorem lQ (Pv:Nat->St->Hp->Prop) (h0:Pv 0 σ H) (hl:∀i σ H,i<=xs.length->Pv i σ H->aC K H a xs)
  (hs:∀i x σ H,xs[i]?=some x->Pv i σ H->g x σ H (tb (D.lp (Pv (i+1))))) (hd:∀σ H,Pv xs.length σ H->D.nx σ H):
  JS g tb D σ (uh K a) H:=by
 refine ⟨fun i m σ H=>m=xs.length-i/\i<=xs.length/\Pv i σ H,⟨xs.length,by simp,f_ _,h0⟩,?_⟩
 rintro i m σ H ⟨rfl,hi,p⟩
 have q:=hl i σ H hi p
 by_cases hlt:i<xs.length
 . refine .inr ⟨⟨xs,xs[i],q,by simp [hlt]⟩,Pv (i+1),fun σ' H' p'=>⟨xs.length-(i+1),by omega,Z,hlt,p'⟩,fun x H' y=>?_⟩
   obtain ⟨e,y⟩:=y
   subst e
   exact hs i x σ _ (y xs q) p
 . have e:i=xs.length:=by omega
   subst e
   exact .inl ⟨⟨xs,q,aP _⟩,hd σ H p⟩
theorem fW {lo:Int} (Pv:Nat->St->Hp->Prop) (h0:Pv 0 σ H)
  (hs:∀i σ H,i<n->Pv i σ H->g (.int (lo+i)) σ H (tb (D.lp (Pv (i+1))))) (hd:∀σ H,Pv n σ H->D.nx σ H):
  JS g tb D σ (Hj lo n) H:=by
 refine ⟨fun i m σ H=>m=n-i/\i<=n/\Pv i σ H,⟨n,by simp,f_ _,h0⟩,?_⟩
 rintro i m σ H ⟨rfl,hi,p⟩
 by_cases hlt:i<n
 . refine .inr ⟨hlt,Pv (i+1),fun σ' H' p'=>⟨n-(i+1),by omega,Z,hlt,p'⟩,fun x H' y=>?_⟩
   obtain ⟨e,y⟩:=y
   subst e y
   exact hs i σ _ hlt p
 . have e:i=n:=by omega
   subst e
   exact .inl ⟨aP _,hd σ H p⟩
abbrev R2:=V->V->Hp->VK->Prop
def ig (X:Cx) (f:Value->Value->Sem Value) (r:R2):Prop:=
 ∀(pins:AO) (s:Shared) (σ:St) (H:Hp) (x y:V) (v u:Value) (Q:VK),Inv X pins σ H s->RelV x v->RelV y u->r x y H Q->
  wpAny (model X.prog X.w) X.A (f v u) (EP X pins σ Q) X.xe s
def ZV (X:Cx) (f:Value->Sem Value) (r:V->Hp->VK->Prop):Prop:=
 ∀(pins:AO) (s:Shared) (σ:St) (H:Hp) (x:V) (v:Value) (Q:VK),Inv X pins σ H s->RelV x v->r x H Q->
  wpAny (model X.prog X.w) X.A (f v) (EP X pins σ Q) X.xe s
def gQ (X:Cx) (f:Value) (r:List V->Hp->VK->Prop):Prop:=
 ∀(pins:AO) (s:Shared) (σ:St) (H:Hp) (xs:List V) (us:List Value) (Q:VK),Inv X pins σ H s->Vals xs us->r xs H Q->
  wpAny (model X.prog X.w) X.A (call f us) (EP X pins σ Q) X.xe s
def ZW (r:R2) (Q:VK) (x:V):V->Hp->Prop:=fun y H2=>r x y H2 Q
def agL (r:R2) (tb:TE) (σ:St) (Q:VK):V->Hp->Prop:=fun x H1=>tb σ H1 (ZW r Q x)
def DF (r:R2) (ta tb:TE):TE:=fun σ H Q=>ta σ H (agL r tb σ Q)
def agM (r:V->Hp->VK->Prop) (Q:VK):V->Hp->Prop:=fun x H1=>r x H1 Q
def tUn (r:V->Hp->VK->Prop) (ta:TE):TE:=fun σ H Q=>ta σ H (agM r Q)
inductive rI (C:Int->Int->Prop) (g:Int->Int->V) (x:V) (y:V) (H:Hp) (Q:VK):Prop
 | mk  (i j:_) (_:x = .int i) (_:y = .int j) (_:C i j) (_:Q (g i j:_) H)
inductive Hl (g:Int->Int->V) (x:V) (y:V) (H:Hp) (Q:VK):Prop
 | mk  (i j:_) (_:x = .int i) (_:y = .int j) (_:Q (g i j:_) H)
inductive rU (g:Int->V) (x:V) (H:Hp) (Q:VK):Prop
 | mk  (i:_) (_:x = .int i) (_:Q (g i:_) H)
section
variable {X:Cx} {a b c:Expr} {ta tb tc:TE} {pos:Pos}
theorem Vk (ha:PE X a ta) (hb:PE X b tb) {R:V->V->Hp->Prop} (I:Inv X pins σ H s)
  (h:ta σ H fun x H1=>tb σ H1 fun y H2=>R x y H2) {Q:VS} {f:Value->Value->Sem Value}
  (hf:∀v u s2 x y H2,Inv X pins σ H2 s2->RelV x v->RelV y u->R x y H2->wpAny (model X.prog X.w) X.A (f v u) Q X.xe s2):
  wpAny (model X.prog X.w) X.A (eval a X.env) (fun v s₁=>wpAny (model X.prog X.w) X.A (eval b X.env) (fun u s₂=>wpAny (model X.prog X.w) X.A (f v u) Q X.xe s₂) X.xe s₁) X.xe s:=by
 refine bq (ha pins s σ H _ I h) fun v s1 ⟨x,H1,I1,r1,q1⟩=>?_
 refine bq (hb pins s1 σ H1 _ I1 q1) fun u s2 ⟨y,H2,I2,r2,q2⟩=>?_
 exact hf v u s2 x y H2 I2 r1 r2 q2
theorem R9 {f:Value->Value->Sem Value} {C:Int->Int->Prop} {g:Int->Int->Int}
  (rule:∀(i j:Int) (t u:Tok) (s:Shared) (Q:VS) (E:VS),C i j->Q (.int (g i j) s.toks) { s with toks:=s.toks+1 }->wpAny (model X.prog X.w) X.A (f (.int i t) (.int j u)) Q E s):
  ig X f (rI C fun i j=> .int (g i j)):=by
 intro pins s σ H x y v u Q I rx ry h
 obtain ⟨i,j,rfl,rfl,hc,q⟩:=h
 obtain ⟨t,rfl⟩:=rx
 obtain ⟨t',rfl⟩:=ry
 exact rule i j t t' s _ _ hc ⟨.int (g i j),H,I.tok _,⟨_,Z⟩,q⟩
theorem ZX {f:Value->Value->Sem Value} {g:Int->Int->Int}
  (rule:∀(i j:Int) (t u:Tok) (s:Shared) (Q:VS) (E:VS),Q (.int (g i j) s.toks) { s with toks:=s.toks+1 }->wpAny (model X.prog X.w) X.A (f (.int i t) (.int j u)) Q E s):
  ig X f (Hl fun i j=> .int (g i j)):=by
 intro pins s σ H x y v u Q I rx ry h
 obtain ⟨i,j,rfl,rfl,q⟩:=h
 obtain ⟨t,rfl⟩:=rx
 obtain ⟨t',rfl⟩:=ry
 exact rule i j t t' s _ _ ⟨.int (g i j),H,I.tok _,⟨_,Z⟩,q⟩
theorem Qz {f:Value->Value->Sem Value} {g:Int->Int->Bool}
  (rule:∀(i j:Int) (t u:Tok) (s:Shared) (Q:VS) (E:VS),Q (.bool (g i j)) s->wpAny (model X.prog X.w) X.A (f (.int i t) (.int j u)) Q E s):
  ig X f (Hl fun i j=> .bl (g i j)):=by
 intro pins s σ H x y v u Q I rx ry h
 obtain ⟨i,j,rfl,rfl,q⟩:=h
 obtain ⟨t,rfl⟩:=rx
 obtain ⟨t',rfl⟩:=ry
 exact rule i j t t' s _ _ ⟨.bl (g i j),H,I,Z,q⟩
def QA (i j:Int):Prop:=0<=j/\j<=1000000/\i.natAbs<2 ^ 64
def Vl (i j:Int):Prop:=(-(2 ^ 64)<i/\i<2 ^ 64)\/(-(2 ^ 64)<j/\j<2 ^ 64)
theorem Vl.ok {i j:Int} (h:Vl i j):IntMulOk i j:=by
 rcases h with ⟨h1,h2⟩|⟨h1,h2⟩
 . exact .of_left (intBits_le_64 h1 h2)
 . exact .of_right (intBits_le_64 h1 h2)
theorem bQ:ig X (binaryOp .Add) (Hl fun i j=> .int (i+j)):=ZX fun _ _ _ _ _ _ _ q=>add_int q
theorem kO:ig X (binaryOp .Sub) (Hl fun i j=> .int (i-j)):=ZX fun _ _ _ _ _ _ _ q=>sub_int q
theorem jn:ig X (binaryOp .Mult) (rI Vl fun i j=> .int (i*j)):=R9 fun _ _ _ _ _ _ _ hc q=>mul_int q hc.ok
theorem jq:ig X (binaryOp .Mod) (rI (fun _ j=>0<j) fun i j=> .int (i % j)):=R9 fun i j _ _ _ _ _ hc q=>by
 have h1:(0:Int)<j:=hc
 exact mod_int' (by omega) (by rw [Int.fmod_eq_emod_of_nonneg i (by omega)];exact q)
theorem lR:ig X (binaryOp .Pow) (rI QA fun i j=> .int (i ^ j.toNat)):=R9 fun _ _ _ _ _ _ _ hc q=>pow_int_small hc.1 hc.2.1 hc.2.2 q
theorem unI {f:Value->Sem Value} {g:Int->Int}
  (rule:∀(i:Int) (t:Tok) (s:Shared) (Q:VS) (E:VS),Q (.int (g i) s.toks) { s with toks:=s.toks+1 }->wpAny (model X.prog X.w) X.A (f (.int i t)) Q E s):
  ZV X f (rU fun i=> .int (g i)):=by
 intro pins s σ H x v Q I rx h
 obtain ⟨i,rfl,q⟩:=h
 obtain ⟨t,rfl⟩:=rx
 exact rule i t s _ _ ⟨.int (g i),H,I.tok _,⟨_,Z⟩,q⟩
theorem zA:ZV X (unaryOp .USub) (rU fun i=> .int (-i)):=unI fun _ _ _ _ _ q=>neg_int q
end
def ZY:V->V->Bool
 | .bZ, .bZ=>true | .bZ, .int _=>true | .int _, .bZ=>true | .bZ, .bl _=>true | .bl _, .bZ=>true | .bZ, .str _=>true | .str _, .bZ=>true
 | .int _, .int _=>true | .bl _, .bl _=>true | .str _, .str _=>true | .wR _, .wR _=>true
 | .int _, .str _=>true | .str _, .int _=>true | .bl _, .str _=>true | .str _, .bl _=>true
 | _,_=>false
inductive ZZ (x:V) (y:V) (H:Hp) (Q:VK):Prop
 | mk  (_:ZY x y=true) (_:Q (.bl (decide (x=y))) H)
inductive rNe (x:V) (y:V) (H:Hp) (Q:VK):Prop
 | mk  (_:ZY x y=true) (_:Q (.bl (!decide (x=y))) H)
theorem OE {i j:Int}:decide (V.int i=V.int j)=(i==j):=by
 rw [AK]
 simp
theorem R_ {i j:Bool}:decide (V.bl i=V.bl j)=(i==j):=by
 rw [AK]
 simp
theorem OF {i j:Str}:decide (V.str i=V.str j)=(i==j):=by
 rw [AK]
 simp
theorem OG {i j:Array UInt8}:decide (V.wR i=V.wR j)=(i.toList==j.toList):=by
 rw [AK]
 cases i
 cases j
 simp
section
variable {X:Cx} {a b c:Expr} {ta tb tc:TE} {pos:Pos}
theorem dj {Q:VK} {k k':Bool} (I:Inv X pins σ H s) (q:Q (.bl k) H) (e:k=k'):EP X pins σ Q (.bool k') s:=by
 subst e
 exact ⟨.bl k,H,I,Z,q⟩
theorem gR:ig X (compareOp .Eq) ZZ:=by
 intro pins s σ H x y v u Q I rx ry h
 obtain ⟨hs,q⟩:=h
 cases x with
 | bZ=>
   cases rx
   cases y with
   | bZ=>cases ry;exact PySem.EqNone.eq_none_none (dj I q (by simp))
   | bl j=>cases ry;exact PySem.EqNone.eq_none_bool (dj I q (by simp))
   | int j=>obtain ⟨t',rfl⟩:=ry;exact PySem.EqNone.eq_none_int (dj I q (by simp))
   | str j=>obtain ⟨t',rfl⟩:=ry;exact PySem.EqNone.eq_none_str (dj I q (by simp))
   | _=>exact absurd (show false=true from hs) fJ
 | bl i=>
   cases rx
   cases y with
   | bZ=>cases ry;exact PySem.EqNone.eq_bool_none (dj I q (by simp))
   | bl j=>cases ry;exact eq_bool (dj I q R_)
   | str j=>obtain ⟨t',rfl⟩:=ry;exact PySem.EqMixed.eq_bool_str (dj I q (by simp))
   | _=>exact absurd (show false=true from hs) fJ
 | int i=>
   obtain ⟨t,rfl⟩:=rx
   cases y with
   | bZ=>cases ry;exact PySem.EqNone.eq_int_none (dj I q (by simp))
   | int j=>obtain ⟨t',rfl⟩:=ry;exact eq_int (dj I q OE)
   | str j=>obtain ⟨t',rfl⟩:=ry;exact PySem.EqMixed.eq_int_str (dj I q (by simp))
   | _=>exact absurd (show false=true from hs) fJ
 | str i=>
   obtain ⟨t,rfl⟩:=rx
   cases y with
   | bZ=>cases ry;exact PySem.EqNone.eq_str_none (dj I q (by simp))
   | bl j=>cases ry;exact PySem.EqMixed.eq_str_bool (dj I q (by simp))
   | int j=>obtain ⟨t',rfl⟩:=ry;exact PySem.EqMixed.eq_str_int (dj I q (by simp))
   | str j=>obtain ⟨t',rfl⟩:=ry;exact eq_str (dj I q OF)
   | _=>exact absurd (show false=true from hs) fJ
 | wR i=>
   obtain ⟨t,rfl⟩:=rx
   cases y with
   | wR j=>obtain ⟨t',rfl⟩:=ry;exact PySem.W.eq_bytes (dj I q OG)
   | _=>exact absurd (show false=true from hs) fJ
 | _=>cases y <;> exact absurd (show false=true from hs) fJ
theorem pA:ig X (compareOp .NotEq) rNe:=by
 intro pins s σ H x y v u Q I rx ry h
 obtain ⟨hs,q⟩:=h
 cases x with
 | bZ=>
   cases rx
   cases y with
   | bZ=>cases ry;exact PySem.EqNone.ne_none_none (dj I q (by simp))
   | bl j=>cases ry;exact PySem.EqNone.ne_none_bool (dj I q (by simp))
   | int j=>obtain ⟨t',rfl⟩:=ry;exact PySem.EqNone.ne_none_int (dj I q (by simp))
   | str j=>obtain ⟨t',rfl⟩:=ry;exact PySem.EqNone.ne_none_str (dj I q (by simp))
   | _=>exact absurd (show false=true from hs) fJ
 | bl i=>
   cases rx
   cases y with
   | bZ=>cases ry;exact PySem.EqNone.ne_bool_none (dj I q (by simp))
   | bl j=>cases ry;exact ne_bool (dj I q (ie not R_))
   | str j=>obtain ⟨t',rfl⟩:=ry;exact PySem.EqMixed.ne_bool_str (dj I q (by simp))
   | _=>exact absurd (show false=true from hs) fJ
 | int i=>
   obtain ⟨t,rfl⟩:=rx
   cases y with
   | bZ=>cases ry;exact PySem.EqNone.ne_int_none (dj I q (by simp))
   | int j=>obtain ⟨t',rfl⟩:=ry;exact ne_int (dj I q (ie not OE))
   | str j=>obtain ⟨t',rfl⟩:=ry;exact PySem.EqMixed.ne_int_str (dj I q (by simp))
   | _=>exact absurd (show false=true from hs) fJ
 | str i=>
   obtain ⟨t,rfl⟩:=rx
   cases y with
   | bZ=>cases ry;exact PySem.EqNone.ne_str_none (dj I q (by simp))
   | bl j=>cases ry;exact PySem.EqMixed.ne_str_bool (dj I q (by simp))
   | int j=>obtain ⟨t',rfl⟩:=ry;exact PySem.EqMixed.ne_str_int (dj I q (by simp))
   | str j=>obtain ⟨t',rfl⟩:=ry;exact ne_str (dj I q (ie not OF))
   | _=>exact absurd (show false=true from hs) fJ
 | wR i=>
   obtain ⟨t,rfl⟩:=rx
   cases y with
   | wR j=>obtain ⟨t',rfl⟩:=ry;exact PySem.W.ne_bytes (dj I q (ie not OG))
   | _=>exact absurd (show false=true from hs) fJ
 | _=>cases y <;> exact absurd (show false=true from hs) fJ
theorem DG:ig X (compareOp .Lt) (Hl fun i j=> .bl (decide (i<j))):=Qz fun _ _ _ _ _ _ _ q=>lt_int q
theorem WW:ig X (compareOp .LtE) (Hl fun i j=> .bl (decide (i<=j))):=Qz fun _ _ _ _ _ _ _ q=>le_int q
theorem ir:ig X (compareOp .Gt) (Hl fun i j=> .bl (decide (j<i))):=Qz fun _ _ _ _ _ _ _ q=>gt_int q
theorem QB:ig X (compareOp .GtE) (Hl fun i j=> .bl (decide (j<=i))):=Qz fun _ _ _ _ _ _ _ q=>ge_int q
theorem Sa:ig X (compareOp .In) (fun x y H Q=>∃i j,x = .str i/\y = .str j/\Q (.bl (!(Builtin.Str.occurrences j i 0 j.length 1).isEmpty)) H):=by
 intro pins s σ H x y v u Q I rx ry h
 obtain ⟨i,j,rfl,rfl,q⟩:=h
 obtain ⟨t,rfl⟩:=rx
 obtain ⟨t',rfl⟩:=ry
 exact in_str (dj I q rfl)
theorem a_ (b:Expr) (h:op ≠ .In:=by decide) (h2:op ≠ .NotIn:=by decide):behindInMarks op b=false:=by
 have e1:(op==CmpOp.In)=false:=by cases op <;> first|rfl|exact absurd rfl h
 have e2:(op==CmpOp.NotIn)=false:=by cases op <;> first|rfl|exact absurd rfl h2
 cases b <;> simp [behindInMarks,e1,e2]
inductive Sb (Q:Bool->Hp->Prop) (x:V) (H':Hp):Prop
 | mk  (k:_) (_:x = .bl k) (_:Q k H')
def QC (t:TE):TT:=fun σ H Q=>t σ H (Sb Q)
inductive Sd (r':R2) (tc:TE) (σ:St) (Q:VK) (y:V) (z:V) (H3:Hp):Prop
 | mk  (k:_) (_:z = .bl k) (_:(if k=true then tc σ H3 fun w' H4=>r' y w' H4 Q else Q (.bl false) H3))
def Se (r:R2) (r':R2) (tc:TE) (σ:St) (Q:VK) (x:V):V->Hp->Prop:=fun y H2=>r x y H2 (Sd r' tc σ Q y)
def X6 (r:R2) (r':R2) (tb:TE) (tc:TE) (σ:St) (Q:VK):V->Hp->Prop:=fun x H1=>tb σ H1 (Se r r' tc σ Q x)
def Z0 (r r':R2) (ta tb tc:TE):TE:=fun σ H Q=>ta σ H (X6 r r' tb tc σ Q)
theorem wY:(sizeLine:Nat)<2 ^ 63:=by rw [fu];decide
theorem DH:ig X (binaryOp .Add) (fun x y H Q=>∃i j,x = .str i/\y = .str j/\i.length+j.length<=sizeLine/\Q (.str (i++j)) H):=by
 intro pins s σ H x y v u Q I rx ry h
 obtain ⟨i,j,rfl,rfl,hz,q⟩:=h
 obtain ⟨t,rfl⟩:=rx
 obtain ⟨t',rfl⟩:=ry
 exact add_str (fun t' tk=>⟨.str (i++j),H,I.tok _,⟨_,Z⟩,q⟩) hz
theorem vals1 {x:V} (r:Vals [x] us):∃u,us=[u]/\RelV x u:=by
 cases r with
 | cons r1 r2=>cases r2;exact ⟨_,Z,r1⟩
theorem vals2 {x:V} (r:Vals [x,y] us):∃u w',us=[u,w']/\RelV x u/\RelV y w':=by
 cases r with
 | cons r1 r2=>
   cases r2 with
   | cons r3 r4=>cases r4;exact ⟨_,_,Z,r1,r3⟩
theorem Vm:gQ X (.builtin "abs") (fun xs H Q=>∃i,xs=[.int i]/\Q (.int (if i<0 then -i else i)) H):=by
 intro pins s σ H xs us Q I r h
 obtain ⟨i,rfl,q⟩:=h
 obtain ⟨u,rfl,t,rfl⟩:=vals1 r
 exact call_abs_int fun u tk=>⟨.int (if i<0 then -i else i),H,I.tok _,⟨_,Z⟩,q⟩
theorem zC (hc:X.calm=true):gQ X (.builtin "min") (fun xs H Q=>∃i j,xs=[.int i, .int j]/\Q (.int (if j<i then j else i)) H):=by
 intro pins s σ H xs us Q I r h
 obtain ⟨i,j,rfl,q⟩:=h
 obtain ⟨u,w',rfl,⟨t,rfl⟩,⟨t',rfl⟩⟩:=vals2 r
 refine min_two_ints (I.ok.hd hc) fun h' tk k=>⟨_,H,I.kept k,?_,q⟩
 by_cases hj:j<i
 . rw [aB hj,aB hj];exact ⟨_,Z⟩
 . rw [az hj,az hj];exact ⟨_,Z⟩
end
structure Cs (h:Heap) (x dx C:Addr) (mA:SO):Prop where
 obj:h.get? x=some (PySem.W.instObj C dx)
 ns:h.Ns1 dx mA
 ne:dx≠x
theorem Sf {mA:SO} (n:h.Ns1 dx mA):∃od,h.get? dx=some od/\∀name,PySem.W.lookIn name od=some (mA name):=by
 obtain ⟨o,es,ep,ho,hd,hk,_,hm⟩:=n
 refine ⟨o,ho,fun name=>?_⟩
 have e:=hm name
 unfold nsFind findBy at e
 rw [<-Array.find?_toList] at e
 unfold PySem.W.lookIn
 rw [hd]
 dsimp only
 split
 . rename_i y q
   rw [q] at e
   exact ie some e
 . rename_i q
   rw [q] at e
   have a:es.toList.any (·.refKey)=false:=by
    rw [List.any_eq_false]
    intro y hy
    obtain ⟨z,t,hkey⟩:=hk y (Array.mem_toList_iff.mp hy)
    simp [DictEntry.refKey,hkey]
   have a':¬ es.toList.any (·.refKey)=true:=by rw [a];exact fJ
   rw [az a']
   exact ie some e
variable {C:Addr}
theorem Cs.look {x dx:Addr} {mA:SO} (I:Cs h x dx C mA):∃od,PySem.W.InstAt h x (PySem.W.instObj C dx) C (some od)/\∀name,PySem.W.lookIn name od=some (mA name):=
 let ⟨od,ho,hl⟩:=Sf I.ns
 ⟨od,⟨I.obj,Z,Z,ho⟩,hl⟩
variable {pl:Sem Bool} {R:Result->Shared->Prop} {kw:List (Str×Value)}
section
variable {prog:Program} {w:World} {A:Around} {E:VS} {s:Shared} {K:Fg} {x dx C f:Addr} {mA:SO} {name:Str} {v:Value}
theorem get_map {expr:Bool} {Q:VS} (X:K.In s.heap) (I:Cs s.heap x dx C mA) (hg:PySem.W.plainGet K C name=true) (hh:PySem.W.hasDictIn K C=true)
  (ha:PySem.W.findIn K (.ref C) name=some none) (hv:mA name=some v) (hv':PySem.W.handedIn v=true) (h:Q v { s with toks:=s.toks+1 }):
  wpAny (model prog w) A (getAttr (.ref x) name expr) Q E s:=by
 obtain ⟨od,J,hl⟩:=I.look
 exact PySem.W.get_value X J (PySem.W.plainGet_of hg).1 (PySem.W.findObj_own hh ha rfl (by rw [hl,hv])) hv' h
theorem Vn {Q:Value×List Value->Shared->Prop} (X:K.In s.heap) (I:Cs s.heap x dx C mA) (hg:PySem.W.plainGet K C name=true)
  (hf:PySem.W.findIn K (.ref C) name=some (some (.ref f))) (ht:PySem.W.isFn K (.ref f)=true) (hv:mA name=none) (h:Q (.ref f,[.ref x]) s):
  wpAny (model prog w) A (getMethod (.ref x) name pl) Q E s:=by
 obtain ⟨od,J,hl⟩:=I.look
 exact PySem.W.method_fn X J (PySem.W.plainGet_of hg).1 (PySem.W.plainGet_of hg).2 hf (nF.mp ht) (by show (PySem.W.lookIn name od).map (·.isSome)=some false;rw [hl,hv];rfl) h
theorem X7 {ns:List Str} (X:K.In s.heap) (I:Cs s.heap x dx C mA)
  (hs:PySem.W.findIn K (.ref C) "__setattr__"=some (some (.builtin "object.__setattr__"))) (hp:PySem.W.plainOver K C=true) (ht:PySem.W.takerIn K C name=some none) (hh:PySem.W.hasDictIn K C=true)
  (hw:PySem.Within mA ns) (hsz:ns.length<=sizeLine)
  (h:∀h',Cs h' x dx C (fun y=>if y=name then some v else mA y)->Heap.SameBut dx s.heap h'->Q () { s with heap:=h',toks:=s.toks+2 }):
  wpAny (model prog w) A (setAttr (.ref x) name v) Q E s:=by
 obtain ⟨od,J,hl⟩:=I.look
 refine PySem.W.set_plain X J hs (PySem.W.osa_open (s:={ s with toks:=s.toks+1 }) (r:=none) X J hp ht fun b=>?_)
 obtain ⟨cd,hc,hd'⟩:=PySem.W.any_some hh
 have hx:s.heap.get? x=some ⟨.ref C,some dx, .plain,#[]⟩:=I.obj
 refine aq (aL (aq (aq (wpAny_loadPart hx (aq (PySem.W.Looks.here (s:={ s with toks:=s.toks+1 }) (PySem.W.looks_clsIn X hc) ?_))))))
 rw [hd']
 refine aL (a:=some dx) (aq (aL (aq ?_)))
 refine wpAny_nsSet1 (s:={ s with toks:=s.toks+1 }) I.ns fun h' hn2 hs2=>?_
 obtain ⟨oD,esD,epD,hoD,hdD,hcD⟩:=hn2.count (PySem.Within.cons name v hw)
 refine aq (wpAny_lookBehind hoD (by rw [hdD];exact pastItsLine_dict (fq hcD (by rw [mU];omega))) ?_)
 exact aL (h _ ⟨(hs2.2 _ (cu I.ne)).trans I.obj,hn2,I.ne⟩ hs2)
theorem Vo {vs:List Value} (X:K.In s.heap) (hm:PySem.W.makesIn K C=true)
  (hi:PySem.W.findIn K (.ref C) "__init__"=some (some (.ref f))) (hf:PySem.W.typeIn K (.ref f)=some (.type "function"))
  (h:codeAny (model prog w) (A.under (.builtin "type.__call__" ⟨.ref C::vs,kw⟩)) (.call (.ref f) ⟨.ref (s.heap.objs.size+1)::vs,kw⟩) (PySem.W.InitBack (s.heap.objs.size+1) R)
    { s with heap:=(s.heap.push PySem.W.emptyDict).push (PySem.W.instObj C s.heap.objs.size) }):
  codeAny (model prog w) A (.call (.ref C) ⟨vs,kw⟩) R s:=by
 obtain ⟨hh,g,d,t,os⟩:=s
 exact PySem.W.make_core (PySem.W.makes_of X hm) (PySem.W.looks_findIn X hi) (fun self=>PySem.W.bind_fn X self hf) (.inl rfl) h
end
def aV (f:Str) (v:V):List (Str×V)->List (Str×V)
 | []=>[(f,v)]
 | (g,x)::r=>if g=f then (g,v)::r else (g,x)::aV f v r
theorem BJ (f g:Str) (v:V):∀fs:List (Str×V),(aV f v fs).lookup g=if g=f then some v else fs.lookup g
 | []=>by
   show List.lookup g [(f,v)]=_
   by_cases h:g=f
   . have hb:(g==f)=true:=nF.mpr h
     simp only [List.lookup,hb,aB h]
   . have hb:(g==f)=false:=Fx.mpr h
     simp only [List.lookup,hb,az h]
 | (k,x)::r=>by
   have ih:=BJ f g v r
   rw [show aV f v ((k,x)::r)=(if k=f then (k,v)::r else (k,x)::aV f v r) from rfl]
   by_cases hk:k=f
   . rw [aB hk]
     by_cases h:g=k
     . have hb:(g==k)=true:=nF.mpr h
       simp only [List.lookup,hb,aB (h.trans hk)]
     . have hb:(g==k)=false:=Fx.mpr h
       simp only [List.lookup,hb,az (fun e:g=f=>h (e.trans hk.symm))]
   . rw [az hk]
     by_cases h:g=k
     . have hb:(g==k)=true:=nF.mpr h
       simp only [List.lookup,hb,az (fun e:g=f=>hk (h.symm.trans e))]
     . have hb:(g==k)=false:=Fx.mpr h
       simp only [List.lookup,hb]
       exact ih
theorem zH (f:Str) (v:V):∀fs:List (Str×V),f∈(aV f v fs).map (·.1)/\∀g,g∈fs.map (·.1)->g∈(aV f v fs).map (·.1)
 | []=>⟨by simp [aV],fun g h=>by simp at h⟩
 | (k,x)::r=>by
   obtain ⟨i1,i2⟩:=zH f v r
   rw [show aV f v ((k,x)::r)=(if k=f then (k,v)::r else (k,x)::aV f v r) from rfl]
   by_cases hk:k=f
   . rw [aB hk]
     subst hk
     exact ⟨by simp,fun g h=>by simpa using h⟩
   . rw [az hk]
     refine ⟨?_,fun g h=>?_⟩
     . rw [bD]
       exact cG _ i1
     . rw [bD] at h ⊢
       rcases c_.mp h with e|e
       . exact c_.mpr (.inl e)
       . exact cG _ (i2 g e)
theorem BK (f:Str) (v:V):∀fs:List (Str×V),(aV f v fs).length<=fs.length+1
 | []=>by simp [aV]
 | (k,x)::r=>by
   have ih:=BK f v r
   rw [show aV f v ((k,x)::r)=(if k=f then (k,v)::r else (k,x)::aV f v r) from rfl]
   by_cases hk:k=f
   . rw [aB hk,mU,mU];omega
   . rw [az hk,mU,mU];omega
theorem mV.some_of {v:V} {o:Option Value} (r:mV (some v) o):∃u,o=some u/\RelV v u:=by
 cases o with
 | none=>exact (show False from r).elim
 | some u=>exact ⟨u,Z,r⟩
theorem mV.none_of {o:Option Value} (r:mV none o):o=none:=by
 cases o with
 | none=>rfl
 | some u=>exact (show False from r).elim
theorem Sg {v:V} (r:RelV v u):PySem.W.handedIn u=true:=by
 cases v with
 | bZ=>cases (show u=Value.none from r);rfl
 | bl b=>cases (show u=Value.bool b from r);rfl
 | int i=>obtain ⟨t,e⟩:=(show ∃t,u=Value.int i t from r);cases e;rfl
 | str x=>obtain ⟨t,e⟩:=(show ∃t,u=Value.str x t from r);cases e;rfl
 | wR b=>obtain ⟨t,e⟩:=(show ∃t,u=Value.bytes b t from r);cases e;rfl
 | Hf b=>obtain ⟨t,e⟩:=(show ∃t,u=Value.float b t from r);cases e;rfl
 | ref a=>cases (show u=Value.ref a from r);rfl
 | ty n=>cases (show u=Value.type n from r);rfl
section
variable {P:Program} {w:World} {H H':Hp} {h h':Heap} {a C dx:Addr} {fs fs':List (Str×V)}
theorem AV (hok:gM P w H h) (e:H a=some (.ins C dx fs)):∃mA,Cs h a dx C mA/\(∀f,mV (fs.lookup f) (mA f))/\PySem.Within mA (fs.map (·.1))/\fs.length<=1000/\H dx=some (.own a):=by
 obtain ⟨d,z,ne,ob,mA,n,r,q⟩:=(show dN P w H h a (.ins C dx fs) from hok a _ e)
 exact ⟨mA,⟨ob,n,ne⟩,r,q,z,d⟩
end
structure oJ (K:Fg) (C:Addr):Prop where
 pg:PySem.W.plainGet K C Str.empty=true
 hd:PySem.W.hasDictIn K C=true
 po:PySem.W.plainOver K C=true
 sa:PySem.W.findIn K (.ref C) "__setattr__"=some (some (.builtin "object.__setattr__"))
theorem oJ.get (c:oJ K C) (f:Str):PySem.W.plainGet K C f=true:=c.pg
def eV (K:Fg) (C:Addr) (f:Str):Prop:=PySem.W.findIn K (.ref C) f=some none
theorem eV.adi {f:Str} (n:eV K C f):PySem.W.takerIn K C f=some none:=by
 unfold PySem.W.takerIn
 rw [show PySem.W.findIn K (.ref C) f=some none from n]
 rfl
structure Meth (K:Fg) (C:Addr) (m:Str) (f:Addr):Prop where
 at_:PySem.W.findIn K (.ref C) m=some (some (.ref f))
 fn:PySem.W.isFn K (.ref f)=true
 kp:PySem.W.keepIn K (.ref f)=true
variable {env:Env}
section
variable {X:Cx} {pins:AO} {σ:St} {H:Hp} {s:Shared} {a C dx:Addr} {fs:List (Str×V)} {f:Str} {v:V} {A:Around} {E:VS}
theorem DI {b:Bool} {Q:VS} (I:Inv X pins σ H s) (e:H a=some (.ins C dx fs)) (c:oJ X.K C) (n:eV X.K C f) (l:fs.lookup f=some v)
  (h:∀u s',Inv X pins σ H s'->RelV v u->Q u s'):wpAny (model X.prog X.w) A (getAttr (.ref a) f b) Q E s:=by
 obtain ⟨mA,O,r,_,_,_⟩:=AV I.hok e
 obtain ⟨u,hu,ru⟩:=mV.some_of (v:=v) (o:=mA f) (by rw [<-l];exact r f)
 exact get_map I.iP O (c.get f) c.hd n hu (Sg ru) (h u _ (I.tok _) ru)
theorem DJ {m:Str} {g:Addr} {Q:Value×List Value->Shared->Prop} (I:Inv X pins σ H s) (e:H a=some (.ins C dx fs)) (c:oJ X.K C) (k:Meth X.K C m g) (l:fs.lookup m=none)
  (h:Q (.ref g,[.ref a]) s):wpAny (model X.prog X.w) A (getMethod (.ref a) m pl) Q E s:=by
 obtain ⟨mA,O,r,_,_,_⟩:=AV I.hok e
 have hn:mA m=none:=mV.none_of (by rw [<-l];exact r m)
 exact Vn I.iP O (c.get m) k.at_ k.fn hn h
theorem DK (I:Inv X pins σ H s) (e:H a=some (.ins C dx fs)) (c:oJ X.K C) (n:eV X.K C f) (hl:fs.length<1000) (ry:RelV y u)
  (h:∀s',Inv X pins σ (upd H a (.ins C dx (aV f y fs))) s'->Q () s'):wpAny (model X.prog X.w) A (setAttr (.ref a) f u) Q E s:=by
 obtain ⟨mA,O,r,wi,_,ho⟩:=AV I.hok e
 have hz:(fs.map (·.1)).length<=sizeLine:=by rw [aF,fu];omega
 refine X7 I.iP O c.sa c.po n.adi c.hd wi hz fun h' O' sb=>h _ ?_
 have hd:∃o,h'.get? dx=some o:=let ⟨o,_,_,e',_⟩:=O'.ns;⟨o,e'⟩
 refine I.write (x:=a) (e:=dx) (by rw [e];exact True.intro) (.inr ho) (fun b q hb z=>(sb.2 b hb).trans z) hd ?_
 refine ⟨by rw [av O.ne];exact ho,?_,O.ne,O'.obj,_,O'.ns,fun g=>?_,fun g hg=>?_⟩
 . have:=BK f y fs;omega
 . show mV ((aV f y fs).lookup g) (if g=f then some u else mA g)
   rw [BJ]
   by_cases q:g=f
   . rw [aB q,aB q];exact ry
   . rw [az q,az q];exact r g
 . by_cases q:g=f
   . rw [q];exact (zH f y fs).1
   . refine (zH f y fs).2 g (wi g fun z=>hg ?_)
     show (if g=f then some u else mA g)=none
     rw [az q];exact z
theorem Inv.made (I:Inv X pins σ H s):Inv X pins σ (upd (upd H s.heap.objs.size (.own (s.heap.objs.size+1))) (s.heap.objs.size+1) (.ins C s.heap.objs.size []))
  { s with heap:=(s.heap.push PySem.W.emptyDict).push (PySem.W.instObj C s.heap.objs.size) }:=by
 have e1:(s.heap.push PySem.W.emptyDict).get? s.heap.objs.size=some PySem.W.emptyDict:=dY s.heap rfl
 have e2:((s.heap.push PySem.W.emptyDict).push (PySem.W.instObj C s.heap.objs.size)).get? (s.heap.objs.size+1)=some (PySem.W.instObj C s.heap.objs.size):=by
  have:=dY (s.heap.push PySem.W.emptyDict) (o:=PySem.W.instObj C s.heap.objs.size) rfl
  rwa [mF] at this
 have e3:(s.heap.push PySem.W.emptyDict).Ns s.heap.objs.size (fun _=>none):=⟨PySem.W.emptyDict,#[],_,e1,Z,(fun e he=>absurd he (by simp)),fun _=>rfl⟩
 have I1:=I.laid (a:=s.heap.objs.size) (o:= .own (s.heap.objs.size+1)) (h':=s.heap.push PySem.W.emptyDict) (t':=s.toks) (fun b u q=>cA _ q) (aP _) ⟨_,e1⟩
 refine I1.laid (a:=s.heap.objs.size+1) (o:= .ins C s.heap.objs.size []) (t':=s.toks) (fun b u q=>cA _ q) (Nat.le_of_eq (mF _ _)) ?_
 have ne:s.heap.objs.size≠s.heap.objs.size+1:=dP (Nat.lt_succ_self _)
 refine ⟨by rw [av ne,aj],f_ _,ne,e2,fun _=>none,(Heap.Ns1.of_empty e3).at fun o q=>cA _ q,fun _=>True.intro,fun y hy=>absurd rfl hy⟩
theorem X8 {prog:Program} {w:World} {f:Str} {s:Shared} {Q:VS} (hb:attributeBase e f env (eval e env)=eval e env)
  (h:wpAny (model prog w) A (eval e env) (fun o s₁=>wpAny (model prog w) A (getAttr o f true) Q E s₁) E s):wpAny (model prog w) A (eval (.Attribute e f pos) env) Q E s:=
 Attribute_any_ h (by rw [arm_eval_Attribute,hb])
end
inductive adj (K:Fg) (f:Str) (Q:VK) (x:V) (H1:Hp):Prop
 | mk  (a C dx fs v:_) (_:x = .ref a) (_:H1 a=some (.ins C dx fs)) (_:oJ K C) (_:eV K C f) (_:fs.lookup f=some v) (_:Q v H1)
def Z1 (K:Fg) (ta:TE) (f:Str):TE:=fun σ H Q=>ta σ H (adj K f Q)
inductive X_ (K:Fg) (f:Str) (D:Ends) (σ:St) (y:V) (x:V) (H2:Hp):Prop
 | mk  (a C dx fs:_) (_:x = .ref a) (_:H2 a=some (.ins C dx fs)) (_:oJ K C) (_:eV K C f) (_:fs.length<1000) (_:D.nx σ (upd H2 a (.ins C dx (aV f y fs))))
def adk (K:Fg) (ta:TE) (f:Str) (D:Ends) (σ:St):V->Hp->Prop:=fun y H1=>ta σ H1 (X_ K f D σ y)
def Z2 (K:Fg) (ta tv:TE) (f:Str):TS:=fun D σ H=>tv σ H (adk K ta f D σ)
def Kh (X:Cx) (op:Operator) (rd:V->V->Hp->VK->Prop):Prop:=
 ∀(pins:AO) (s:Shared) (σ:St) (H:Hp) (x y:V) (u v:Value) (Q:VK),Inv X pins σ H s->RelV x u->RelV y v->rd x y H Q->wpAny (model X.prog X.w) X.A (inplaceOp op u v) (EP X pins σ Q) X.xe s
inductive QD (f:Str) (D:Ends) (σ:St) (a:Addr) (C:Addr) (z:V) (H3:Hp):Prop
 | mk  (Z3 fs':_) (_:H3 a=some (.ins C Z3 fs')) (_:fs'.length<1000) (_:D.nx σ (upd H3 a (.ins C Z3 (aV f z fs'))))
def QE (rd:V->V->Hp->VK->Prop) (f:Str) (D:Ends) (σ:St) (a:Addr) (C:Addr) (v:V):V->Hp->Prop:=fun y H2=>rd v y H2 (QD f D σ a C)
inductive Vp (K:Fg) (tv:TE) (rd:V->V->Hp->VK->Prop) (f:Str) (D:Ends) (σ:St) (x:V) (H1:Hp):Prop
 | mk  (a C dx fs v:_) (_:x = .ref a) (_:H1 a=some (.ins C dx fs)) (_:oJ K C) (_:eV K C f) (_:fs.lookup f=some v) (_:tv σ H1 (QE rd f D σ a C v))
def OH (K:Fg) (ta tv:TE) (rd:V->V->Hp->VK->Prop) (f:Str):TS:=fun D σ H=>ta σ H (Vp K tv rd f D σ)
variable {rd:V->V->Hp->VK->Prop}
section
variable {X:Cx} {o e value:Expr} {f:Str} {pos pos' tpos:Pos} {ta tv:TE}
theorem Z4 (he:PE X e ta) (hb:attributeBase e f X.env (eval e X.env)=eval e X.env):PE X (.Attribute e f pos) (Z1 X.K ta f):=by
 intro pins s σ H Q I h
 refine X8 hb (bq (he pins s σ H _ I h) fun u s1 ⟨x,H1,I1,rx,a,C,dx,fs,v,ex,ea,c,n,l,q⟩=>?_)
 subst ex
 obtain rfl:u=Value.ref a:=rx
 exact DI I1 ea c n l fun u' s2 I2 ru=>⟨v,H1,I2,ru,q⟩
theorem Z5 (ha:PE X o ta) (hv:PE X value tv) (hs:swapsWith value (some (.Attribute o f pos')) pos.line X.env=pure false):PS X (.Assign [.Attribute o f pos'] value pos) (Z2 X.K ta tv f):=by
 intro pins s σ H D I h
 refine plainObj_wpAny_Assign_Attribute (bq (hv pins s σ H _ I h) fun u s1 ⟨y,H1,I1,ry,q⟩=>bq (ha pins s1 σ H1 _ I1 q) fun ov s2 ⟨x,H2,I2,rx,a,C,dx,fs,ex,ea,c,n,l,q2⟩=>?_) hs
 subst ex
 obtain rfl:ov=Value.ref a:=rx
 exact DK I2 ea c n l ry fun s3 I3=>⟨σ,_,I3,q2⟩
theorem Sh {op:Operator} (ha:PE X o ta) (hv:PE X value tv) (hop:Kh X op rd):PS X (.AugAssign (.Attribute o f tpos) op value pos) (OH X.K ta tv rd f):=by
 intro pins s σ H D I h
 refine wpAny_AugAssign_AttributeAny (bq (ha pins s σ H _ I h) fun ov s1 ⟨x,H1,I1,rx,a,C,dx,fs,v,ex,ea,c,n,l,q⟩=>?_)
 subst ex
 obtain rfl:ov=Value.ref a:=rx
 refine DI I1 ea c n l fun u s2 I2 ru=>bq (hv pins s2 σ H1 _ I2 q) fun w3 s3 ⟨y,H2,I3,ry,q3⟩=>bq (hop pins s3 σ H2 v y u w3 _ I3 ru ry q3) fun w4 s4 ⟨z,H3,I4,rz,Z3,fs',ea',l',q4⟩=>?_
 exact DK I4 ea' c n l' rz fun s5 I5=>⟨σ,_,I5,q4⟩
inductive agN (x:V) (y:V) (H:Hp) (Q:VK):Prop
 | mk  (i j:_) (_:x = .int i) (_:y = .int j) (_:Q (.int (i+j)) H)
inductive agO (x:V) (y:V) (H:Hp) (Q:VK):Prop
 | mk  (i j:_) (_:x = .int i) (_:y = .int j) (_:Q (.int (i-j)) H)
theorem Z6:Kh X .Add agN:=by
 rintro pins s σ H x y u v Q I rx ry ⟨i,j,rfl,rfl,q⟩
 obtain ⟨t,rfl⟩:=(show ∃t,u=Value.int i t from rx)
 obtain ⟨t',rfl⟩:=(show ∃t',v=Value.int j t' from ry)
 exact PyProof.Rows.iadd_int ⟨.int (i+j),H,I.tok _,⟨_,Z⟩,q⟩
theorem Z7:Kh X .Sub agO:=by
 rintro pins s σ H x y u v Q I rx ry ⟨i,j,rfl,rfl,q⟩
 obtain ⟨t,rfl⟩:=(show ∃t,u=Value.int i t from rx)
 obtain ⟨t',rfl⟩:=(show ∃t',v=Value.int j t' from ry)
 exact PyProof.Rows.isub_int ⟨.int (i-j),H,I.tok _,⟨_,Z⟩,q⟩
end
section
variable {X:Cx} {pins:AO} {σ:St} {H:Hp} {s:Shared} {A:Around} {E:VS} {Q:VS} {c:Value} {b:Bool}
inductive gy (K:Fg) (H:Hp):V->Value->Prop where
 | bZ:gy K H .bZ (.type "NoneType")
 | bl (x:Bool):gy K H (.bl x) (.type "bool")
 | int (i:Int):gy K H (.int i) (.type "int")
 | str (x:Str):gy K H (.str x) (.type "str")
 | Hf (x:UInt64):gy K H (.Hf x) (.type "float")
 | lst {a:Addr} {xs:List V} (e:H a=some (.lst xs)):gy K H (.ref a) (.type "list")
 | fm {a:Addr} {o:Obj} {xs:List V} (e:H a=some (.fm o (.lst xs))):gy K H (.ref a) (.type "list")
 | tup {a:Addr} {xs:List V} (e:H a=some (.tup xs)):gy K H (.ref a) (.type "tuple")
 | dK {a:Addr} {kvs:List (Key×V)} (e:H a=some (.dK kvs)):gy K H (.ref a) (.type "dict")
 | dT {a:Addr} {kvs:List (List Key×V)} (e:H a=some (.dT kvs)):gy K H (.ref a) (.type "dict")
 | ins {a C dx:Addr} {fs:List (Str×V)} (e:H a=some (.ins C dx fs)) (cl:oJ K C) (ha:PySem.W.findIn K (.ref C) "__class__"=some (some (.builtin "object.__class__")))
    (hn:PySem.W.specialIn K (.builtin "object.__class__") "__get__"=some (some (.builtin "getset_descriptor.__get__"))) (htk:PySem.W.takesIn K (.builtin "object.__class__")=some true)
    (hm:PySem.W.mroIn K C (.type "object")=some true):gy K H (.ref a) (.ref C)
theorem Si {x:V} {t:Value} (I:Inv X pins σ H s) (rx:RelV x u) (ty:gy X.K H x t) (e:PySem.W.kitOne X.K t c=some b) (h:∀tk,Q (.bool b) { s with toks:=tk }):
  wpAny (model X.prog X.w) A (call (.builtin "isinstance") [u,c]) Q E s:=by
 cases ty with
 | bZ=>cases (show u=Value.none from rx);exact o8 PySem.W.kitx_none I.iP True.intro e (fun z=>nomatch z) h
 | bl y=>cases (show u=Value.bool y from rx);exact o8 PySem.W.kitx_bool I.iP True.intro e (fun z=>nomatch z) h
 | int i=>obtain ⟨t,q⟩:=(show ∃t,u=Value.int i t from rx);cases q;exact o8 PySem.W.kitx_int I.iP True.intro e (fun z=>nomatch z) h
 | str y=>obtain ⟨t,q⟩:=(show ∃t,u=Value.str y t from rx);cases q;exact o8 PySem.W.kitx_str I.iP True.intro e (fun z=>nomatch z) h
 | Hf y=>obtain ⟨t,q⟩:=(show ∃t,u=Value.float y t from rx);cases q;exact o8 PySem.W.kitx_float I.iP True.intro e (fun z=>nomatch z) h
 | @lst a xs ea=>
   cases (show u=Value.ref a from rx)
   obtain ⟨_,_,n,_,h1⟩:=(show dN X.prog X.w H s.heap a (.lst xs) from I.hok a _ ea)
   exact o8 PySem.W.kitx_list I.iP ⟨_,h1,Z⟩ e (fun z=>nomatch z) h
 | @fm a ob xs ea=>
   cases (show u=Value.ref a from rx)
   obtain ⟨_,_,_,n,_,h1⟩:=(show dN X.prog X.w H s.heap a (.fm ob (.lst xs)) from I.hok a _ ea)
   exact o8 PySem.W.kitx_list I.iP ⟨_,h1,Z⟩ e (fun z=>nomatch z) h
 | @tup a xs ea=>
   cases (show u=Value.ref a from rx)
   obtain ⟨_,_,_,p⟩:=(show dN X.prog X.w H s.heap a (.tup xs) from I.hok a _ ea)
   obtain ⟨o,h1,h2,_⟩:=p
   exact o8 PySem.W.kitx_tuple I.iP ⟨o,h1,h2⟩ e (fun z=>nomatch z) h
 | @dK a kvs ea=>
   cases (show u=Value.ref a from rx)
   obtain ⟨_,_,vs,_,p⟩:=(show dN X.prog X.w H s.heap a (.dK kvs) from I.hok a _ ea)
   obtain ⟨o,es,ep,h1,h2,_⟩:=p
   exact o8 PySem.W.kitx_dict I.iP ⟨o,h1,h2.1⟩ e (fun z=>nomatch z) h
 | @dT a kvs ea=>
   cases (show u=Value.ref a from rx)
   obtain ⟨_,_,xs,_,o,es,ep,h1,h2,_⟩:=(show dN X.prog X.w H s.heap a (.dT kvs) from I.hok a _ ea)
   exact o8 PySem.W.kitx_dict I.iP ⟨o,h1,h2.1⟩ e (fun z=>nomatch z) h
 | @ins a C dx fs ea cl ha hn htk hm=>
   cases (show u=Value.ref a from rx)
   obtain ⟨mA,O,_⟩:=AV I.hok ea
   obtain ⟨od,J,_⟩:=O.look
   exact o8 (PySem.W.kitx_own (cl.get _) cl.hd ha hn htk hm) I.iP J e (fun z=>nomatch z) h
end
structure dD (k:Nat) (A:Around):Prop where
 hd:A.handled=none
 dp:A.depth+3*k+5<recursionLimit
 un:A.units+16*k+200<cLine
theorem dD.mono {k:Nat} (r:dD k A) (h:j<=k):dD j A:=⟨r.hd,by have:=r.dp;omega,by have:=r.un;omega⟩
theorem dD.deeper {k:Nat} (r:dD (k+1) A) (env:Env):dD k (A.deeper env):=
 ⟨r.hd,by have:=r.dp;show A.depth+1+3*k+5<_;omega,by have:=r.un;show A.units+3+16*k+200<_;omega⟩
theorem QF:(A.under (.builtin "type.__call__" ⟨.ref C::us,kw⟩)).depth=A.depth+1:=by
 first|rfl|simp [Around.under,Code.weight,Code.isCreation,Code.isGuard,Code.isCaller,Code.frames,Code.isFrame,guardIds]
theorem QG:(A.under (.builtin "type.__call__" ⟨.ref C::us,kw⟩)).units=A.units+1:=by
 first|rfl|simp [Around.under,Code.cUnits,Code.frames,Code.isFrame]
theorem dD.make {k:Nat} (r:dD (k+1) A) (C:Addr) (us:List Value) (kw:List (Str×Value)):dD k (A.under (.builtin "type.__call__" ⟨.ref C::us,kw⟩)):=
 ⟨r.hd,by have:=r.dp;rw [QF];omega,by have:=r.un;rw [QG];omega⟩
theorem dD.depth {k:Nat} (r:dD k A):A.depth<recursionLimit:=by have:=r.dp;omega
theorem dD.units {k:Nat} (r:dD k A):A.units+64<cLine:=by have:=r.un;omega
def pB:TA:=fun _ H Q=>Q [] H
def Vq (Q:List V->Hp->Prop) (x:V):List V->Hp->Prop:=fun xs H2=>Q (x::xs) H2
def Z8 (tr:TA) (σ:St) (Q:List V->Hp->Prop):V->Hp->Prop:=fun x H1=>tr σ H1 (Vq Q x)
def jN (ta:TE) (tr:TA):TA:=fun σ H Q=>ta σ H (Z8 tr σ Q)
section
variable {X:Cx} {e:Expr} {es:List Expr} {te:TE} {t:TA} {pos:Pos}
theorem Sj:PA X [] pB:=fun _ _ _ _ H Q I h=>Calls.spliced_nil ⟨[],H,I, .nil,h⟩
theorem OI (ha:PE X e te) (hr:PA X es t) (hs:starEach (e::es) X.env=(false,eval e X.env)::starEach es X.env:=by rfl):PA X (e::es) (jN te t):=by
 intro pos pins s σ H Q I h
 rw [hs]
 show wpAny _ _ (spliced ((false,eval e X.env)::backTo pos (starEach es X.env))) _ _ s
 refine Calls.spliced_cons (bq (ha pins s σ H _ I h) fun u s1 ⟨x,H1,I1,r1,q1⟩=>?_)
 exact bq (hr pos pins s1 σ H1 _ I1 q1) fun us s2 ⟨xs,H2,I2,r2,q2⟩=>⟨x::xs,H2,I2, .cons r1 r2,q2⟩
inductive adl (Q:VK) (xs:List V) (H1:Hp):Prop
 | mk  (_:xs.length<=sizeLine) (_:∀p,H1 p=none->Q (.ref p) (upd H1 p (.tup xs)))
def agP (t:TA):TE:=fun σ H Q=>t σ H (adl Q)
inductive adm (Q:VK) (xs:List V) (H1:Hp):Prop
 | mk  (_:xs.length<=sizeLine) (_:∀p,H1 p=none->Q (.ref p) (upd H1 p (.lst xs)))
def QH (t:TA):TE:=fun σ H Q=>t σ H (adm Q)
end
abbrev Sp:=List V->Hp->VK->XK->Prop
abbrev yR:=List Env->Hp->Shared->XK->Value->Shared->Prop
structure Ct (P:Program) (w:World) (K:Fg) (mg:SO) (base:Heap) (A:Around) (outer:List Env) (s:Shared) (H:Hp):Prop where
 frames:A.frames=some outer
 mod:Mod K mg base
 bs:∀b o,base.get? b=some o->s.heap.get? b=some o/\H b=none
 Dz:base.objs.size<=s.heap.objs.size
 nV:s.heap.FunFrames base outer
 Hh:∀b∈frs outer,H b=none
 hok:gM P w H s.heap
 bare:AllBare s.gens
def CE (outer:List Env) (P:Program) (w:World) (H:Hp) (s:Shared) (Q:VK) (u:Value) (s':Shared):Prop:=
 ∃v H',s'.os=s.os/\AllBare s'.gens/\Un (frs outer) [] H H' s.heap s'.heap/\gM P w H' s'.heap/\RelV v u/\Q v H'
def CR (CX:yR) (outer:List Env) (P:Program) (w:World) (H:Hp) (s:Shared) (Q:VK) (E:XK) (r:Result) (s':Shared):Prop:=
 match r with
 | .ok (.ret u)=>CE outer P w H s Q u s'
 | .ok _=>False
 | .error e=>CX outer H s E e s'
structure iA (P:Program) (w:World) (K:Fg) (mg:SO) (base:Heap) (CX:yR) (k:Nat) (f:Addr) (fd:FuncData) (ps:List Str) (sp:Sp):Prop where
 len:∀vs H Q E,sp vs H Q E->vs.length=ps.length
 run:∀(A:Around) (outer:List Env) (s:Shared) (H:Hp) (args:Args) (us:List Value) (vs:List V) (Q:VK) (E:XK),dD k A->Ct P w K mg base A outer s H->BindsTo s fd args (ps.zip us)->Vals vs us->sp vs H Q E->
  codeAny (model P w) A (.call (.ref f) args) (CR CX outer P w H s Q E) s
variable {mg:SO} {base:Heap} {CX:yR} {f:Addr} {fd:FuncData} {ps:List Str} {sp:Sp}
theorem iA.imp {w:World} {k:Nat} {Sk:Sp} (F:iA P w K mg base CX k f fd ps sp)
  (h:∀vs H Q E,Sk vs H Q E->sp vs H Q E):iA P w K mg base CX k f fd ps Sk:=
 ⟨fun vs H Q E q=>F.len vs H Q E (h _ _ _ _ q),fun A outer s H args us vs Q E hr he hb hv hs=>F.run A outer s H args us vs Q E hr he hb hv (h _ _ _ _ hs)⟩
theorem Ct.make {w:World} {outer:List Env} (e:Ct P w K mg base A outer s H) (C:Addr) (us:List Value) (kw:List (Str×Value)):
  Ct P w K mg base (A.under (.builtin "type.__call__" ⟨.ref C::us,kw⟩)) outer s H:=⟨by first|exact e.frames|(simpa [Around.under,Code.envs,Code.isFrame,pushEnvs] using e.frames),e.mod,e.bs,e.Dz,e.nV,e.Hh,e.hok,e.bare⟩
section
variable {X:Cx} {pins:AO} {σ:St} {H:Hp} {s s':Shared}
theorem Inv.Vr (I:Inv X pins σ H s):Ct X.prog X.w X.K X.mg X.base X.A X.stack s H:=
 ⟨I.ok.frames,I.ok.mod,I.bs,fq I.ok.Dz I.sz,I.stack,I.wU,I.hok,I.bare⟩
theorem Inv.after {Q:VK} (I:Inv X pins σ H s) (h:CE X.stack X.prog X.w H s Q u s'):EP X pins σ Q u s':=by
 obtain ⟨v,H',os,bare,un,hok,r,q⟩:=h
 obtain ⟨hh,g,d,t,os'⟩:=s'
 obtain rfl:os'=s.os:=os
 exact ⟨v,H',I.call (h':=hh) (g':=g) (d':=d) (t':=t) (ch:=[]) un hok bare (fun b z=>absurd z (by simp)),r,q⟩
end
def Z9 (sp:Sp) (iQ:List V) (E:XK) (Q:VK):List V->Hp->Prop:=fun vs H1=>sp (vs++iQ) H1 Q E
def QI (sp:Sp) (iQ:List V) (E:XK) (t:TA):TE:=fun σ H Q=>t σ H (Z9 sp iQ E Q)
def Vs (sp:Sp) (iQ:List V) (E:XK) (Q:VK) (x:V):List V->Hp->Prop:=fun vs H2=>sp (x::(vs++iQ)) H2 Q E
inductive Z_ (C:Addr) (m:Str) (sp:Sp) (iQ:List V) (E:XK) (t:TA) (σ:St) (Q:VK) (x:V) (H1:Hp):Prop
 | mk  (a dx fs:_) (_:x = .ref a) (_:H1 a=some (.ins C dx fs)) (_:fs.lookup m=none) (_:t σ H1 (Vs sp iQ E Q x))
def DL (C:Addr) (m:Str) (sp:Sp) (iQ:List V) (E:XK) (ta:TE) (t:TA):TE:=fun σ H Q=>ta σ H (Z_ C m sp iQ E t σ Q)
def aaa (C:Addr) (sp:Sp) (iQ:List V) (E:XK) (Q:VK):List V->Hp->Prop:=fun vs H1=>∀x dx,H1 x=none->H1 dx=none->dx≠x->sp (.ref x::(vs++iQ)) (upd (upd H1 dx (.own x)) x (.ins C dx [])) (fun v H2=>v = .bZ/\Q (.ref x) H2) E
def JT (C:Addr) (sp:Sp) (iQ:List V) (E:XK) (t:TA):TE:=fun σ H Q=>t σ H (aaa C sp iQ E Q)
def Binds (K:Fg) (fd:FuncData) (ps:List Str) (ds:List Value):Prop:=
 ∀(s:Shared) (us:List Value),K.In s.heap->(us++ds).length=ps.length->BindsTo s fd ⟨us,[]⟩ (ps.zip (us++ds))
theorem Binds.all (h:∀us:List Value,us.length=ps.length->bindArgs fd ⟨us,[]⟩=pure (ps.zip us)):Binds K fd ps [] :=fun s us _ hl=>by
 rw [qZ] at hl ⊢
 exact .of_eq (h us hl)
def Passes (CX:yR) (X:Cx) (E:XK):Prop:=∀(pins:AO) (σ:St) (H:Hp) (s:Shared) (e:Value) (s':Shared),Inv X pins σ H s->CX X.stack H s E e s'->X.xe e s'
variable {vs:List V}
section
variable {X:Cx} {CX:yR} {k:Nat} {f C:Addr} {fd:FuncData} {ps:List Str} {sp:Sp} {iQ:List V} {ds:List Value} {E:XK} {x m:Str} {p pos apos:Pos} {e o:Expr} {es:List Expr} {ta:TE} {t:TA}
theorem Kl {Q:VK} (F:iA X.prog X.w X.K X.mg X.base CX k f fd ps sp) (hr:dD k X.A) (hb:Binds X.K fd ps ds) (hd:Vals iQ ds) (hx:Passes CX X E)
  (I:Inv X pins σ H s) (r:Vals vs us) (h:sp (vs++iQ) H Q E):wpAny (model X.prog X.w) X.A (call (.ref f) us) (EP X pins σ Q) X.xe s:=by
 have r2:Vals (vs++iQ) (us++ds):=r.append hd
 have hl:(us++ds).length=ps.length:=by rw [<-r2.length];exact F.len _ _ _ _ h
 refine wpAny_call (AQ (F.run X.A X.stack s H ⟨us,[]⟩ (us++ds) (vs++iQ) Q E hr I.Vr (hb s us I.iP hl) r2 h) fun r s' hq=>?_)
 cases r with
 | error e=>exact hx pins σ H s e s' I hq
 | ok fl=>
   cases fl with
   | ret u=>exact I.after hq
   | next=>exact False.elim hq
   | brk=>exact False.elim hq
   | cont=>exact False.elim hq
theorem OJ (F:iA X.prog X.w X.K X.mg X.base CX k f fd ps sp) (hr:dD k X.A) (hg:Gl X x) (hm:X.mg x=some (.ref f)) (hk:PySem.W.keepIn X.K (.ref f)=true) (hb:Binds X.K fd ps ds) (hd:Vals iQ ds) (hx:Passes CX X E)
  (ha:PA X (e::es) t) (hdb:(x==("__debug__":Str))=false:=by decide) (he:starEach (e::es) X.env=(false,eval e X.env)::starEach es X.env:=by rfl) (hpl:(backTo pos (starEach es X.env)).any (·.1)=false:=by rfl):
  PE X (.Call (.Name x p) (e::es) [] pos) (QI sp iQ E t):=by
 intro pins s σ H Q I h
 refine FE (qz I hg hm ?_ hdb)
 refine Qo (h₀:=X.base) I.ok.mod.OB hk (bq (ha pos pins s σ H _ I h) fun us s1 ⟨vs,H1,I1,r,q⟩=>⟨I1.iP,?_⟩) he hpl
 exact Kl F hr hb hd hx I1 r q
theorem OL (he:PE X o ta) (c:oJ X.K C) (hm:Meth X.K C m f) (F:iA X.prog X.w X.K X.mg X.base CX k f fd ps sp) (hr:dD k X.A) (hb:Binds X.K fd ps ds) (hd:Vals iQ ds) (hx:Passes CX X E) (ha:PA X (e::es) t)
  (hst:starEach (e::es) X.env=(false,eval e X.env)::starEach es X.env:=by rfl) (hpl:(backTo pos (starEach es X.env)).any (·.1)=false:=by rfl)
  (ht:eval (.Call (.Attribute o m apos) (e::es) [] pos) X.env=(do
    let ov <-eval o X.env
    standAt apos.atName
    let (f,first) <-holding [ov] (getMethod ov m pl)
    callWith pos f first (backTo pos (starEach (e::es) X.env)) (backToKw pos (keywordEach [] X.env))):=by rfl):
  PE X (.Call (.Attribute o m apos) (e::es) [] pos) (DL C m sp iQ E ta t):=by
 intro pins s σ H Q I h
 refine PySem.W.methodCall_KW (pl:=pl) (bq (he pins s σ H _ I h) fun u s1 ⟨x,H1,I1,rx,a,dx,fs,ex,ea,l,q⟩=>?_) ht
 subst ex
 obtain rfl:u=Value.ref a:=rx
 refine DJ I1 ea c hm l ?_
 refine Qo (first:=[.ref a]) (h₀:=X.base) I.ok.mod.OB hm.kp (bq (ha pos pins s1 σ H1 _ I1 q) fun us s2 ⟨vs,H2,I2,r,q2⟩=>⟨I2.iP,?_⟩) hst hpl
 exact Kl (us:= .ref a::us) (vs:= .ref a::vs) F hr hb hd hx I2 (.cons rfl r) q2
theorem Vt (he:PE X o ta) (c:oJ X.K C) (hm:Meth X.K C m f) (F:iA X.prog X.w X.K X.mg X.base CX k f fd ps sp) (hr:dD k X.A) (hb:Binds X.K fd ps ds) (hd:Vals iQ ds) (hx:Passes CX X E)
  (ht:eval (.Call (.Attribute o m apos) [] [] pos) X.env=(do
    let ov <-eval o X.env
    standAt apos.atName
    let (f,first) <-holding [ov] (getMethod ov m pl)
    callWith pos f first (backTo pos (starEach [] X.env)) (backToKw pos (keywordEach [] X.env))):=by rfl):
  PE X (.Call (.Attribute o m apos) [] [] pos) (DL C m sp iQ E ta pB):=by
 intro pins s σ H Q I h
 refine PySem.W.methodCall_KW (pl:=pl) (bq (he pins s σ H _ I h) fun u s1 ⟨x,H1,I1,rx,a,dx,fs,ex,ea,l,q⟩=>?_) ht
 subst ex
 obtain rfl:u=Value.ref a:=rx
 refine DJ I1 ea c hm l ?_
 exact PySem.W.callWith_K0 (first:=[.ref a]) I1.iP hm.kp (Kl (us:=[.ref a]) (vs:=[.ref a]) F hr hb hd hx I1 (.cons rfl .nil) q)
structure Mk (K:Fg) (C f:Addr):Prop where
 makes:PySem.W.makesIn K C=true
 init:PySem.W.findIn K (.ref C) "__init__"=some (some (.ref f))
 fn:PySem.W.isFn K (.ref f)=true
 kp:PySem.W.keepIn K (.ref C)=true
theorem Km {Q:VK} (M:Mk X.K C f) (F:iA X.prog X.w X.K X.mg X.base CX k f fd ps sp) (hr:dD (k+1) X.A) (hb:Binds X.K fd ps ds) (hd:Vals iQ ds)
  (hx:Passes CX X E) (I:Inv X pins σ H s) (r:Vals vs us)
  (h:∀x dx,H x=none->H dx=none->dx≠x->sp (.ref x::(vs++iQ)) (upd (upd H dx (.own x)) x (.ins C dx [])) (fun v H2=>v = .bZ/\Q (.ref x) H2) E):
  wpAny (model X.prog X.w) X.A (call (.ref C) us) (EP X pins σ Q) X.xe s:=by
 have hq:=h (s.heap.objs.size+1) s.heap.objs.size (I.hok.fresh (Nat.le_succ _)) (I.hok.fresh (aP _)) (dP (Nat.lt_succ_self _))
 have I2:=Inv.made (C:=C) I
 have r2:Vals (V.ref (s.heap.objs.size+1)::(vs++iQ)) (Value.ref (s.heap.objs.size+1)::(us++ds)):= .cons rfl (r.append hd)
 have hl:(Value.ref (s.heap.objs.size+1)::us++ds).length=ps.length:=by
  have e:=r2.length
  rw [F.len _ _ _ _ hq] at e
  exact e.symm
 refine wpAny_call (Vo (f:=f) I.iP M.makes M.init (nF.mp M.fn) (AQ (F.run _ X.stack _ _ ⟨Value.ref (s.heap.objs.size+1)::us,[]⟩ (Value.ref (s.heap.objs.size+1)::(us++ds)) _ _ E (hr.make C us [])
  (I2.Vr.make C us []) (hb _ (Value.ref (s.heap.objs.size+1)::us) I2.iP hl) r2 hq) fun r s' hq'=>?_))
 cases r with
 | error e=>exact hx pins σ _ _ e s' I2 hq'
 | ok fl=>
   cases fl with
   | ret u=>
     obtain ⟨v,H',I3,rv,ev,q3⟩:=I2.after hq'
     subst ev
     exact ⟨rv,⟨V.ref (s.heap.objs.size+1),H',I3,Z,q3⟩⟩
   | next=>exact False.elim hq'
   | brk=>exact False.elim hq'
   | cont=>exact False.elim hq'
theorem Yb (M:Mk X.K C f) (F:iA X.prog X.w X.K X.mg X.base CX k f fd ps sp) (hr:dD (k+1) X.A) (hg:Gl X x) (hm:X.mg x=some (.ref C)) (hb:Binds X.K fd ps ds) (hd:Vals iQ ds) (hx:Passes CX X E)
  (ha:PA X (e::es) t) (hdb:(x==("__debug__":Str))=false:=by decide) (he:starEach (e::es) X.env=(false,eval e X.env)::starEach es X.env:=by rfl) (hpl:(backTo pos (starEach es X.env)).any (·.1)=false:=by rfl):
  PE X (.Call (.Name x p) (e::es) [] pos) (JT C sp iQ E t):=by
 intro pins s σ H Q I h
 refine FE (qz I hg hm ?_ hdb)
 refine Qo (h₀:=X.base) I.ok.mod.OB M.kp (bq (ha pos pins s σ H _ I h) fun us s1 ⟨vs,H1,I1,r,q⟩=>⟨I1.iP,?_⟩) he hpl
 exact Km M F hr hb hd hx I1 r q
theorem Vu (M:Mk X.K C f) (F:iA X.prog X.w X.K X.mg X.base CX k f fd ps sp) (hr:dD (k+1) X.A) (hg:Gl X x) (hm:X.mg x=some (.ref C)) (hb:Binds X.K fd ps ds) (hd:Vals iQ ds) (hx:Passes CX X E)
  (hdb:(x==("__debug__":Str))=false:=by decide):PE X (.Call (.Name x p) [] [] pos) (JT C sp iQ E pB):=by
 intro pins s σ H Q I h
 refine FE (qz I hg hm ?_ hdb)
 exact PySem.W.callWith_K0 I.iP M.kp (Km (us:=[]) M F hr hb hd hx I .nil h)
end
section
variable {X:Cx} {CX:yR} {k:Nat} {f C:Addr} {fd:FuncData} {ps ks:List Str} {sp:Sp} {E:XK} {x m:Str} {p pos apos kpos:Pos} {e o:Expr} {es:List Expr} {kws:List Keyword} {te ta:TE} {t tk:TA} {nm:Option Str}
variable {g:List Value->List Value->List Value} {gV:List V->List V->List V}
end
structure aJ (N P:List Str) (sc:Scope):Prop where
 kind:sc.kind = .function
 co:sc.isCoroutine=false
 gen:sc.isGenerator=false
 nd:N.Nodup
 pre:N.take P.length=P
 par:∀x∈P,sc.names.lookup x=some .local\/sc.names.lookup x=some .cell
 aab:∀y∈sc.names,y.2 ≠ .free
theorem Ho {kindOf:Str->Option NameKind} {x:Str}:∀{binds:List (Str×Value)} {m:SO},(∀v,(x,v)∉binds)->bindL kindOf binds m x=m x
 | [],_,_=>rfl
 | (n,v)::r,m,h=>by
   unfold bindL
   rw [Ho fun w hw=>h w (cG _ hw)]
   split
   . have:x≠n:=by rintro rfl;exact h v cJ
     simp [this]
   . rfl
theorem Hq {kindOf:Str->Option NameKind} {x:Str}:∀{binds:List (Str×Value)} {m:SO},(∀v,(x,v)∉binds)->bindC kindOf binds m x=m x
 | [],_,_=>rfl
 | (n,v)::r,m,h=>by
   unfold bindC
   rw [Hq fun w hw=>h w (cG _ hw)]
   split
   . rfl
   . have:x≠n:=by rintro rfl;exact h v cJ
     simp [this]
theorem Hr {kindOf:Str->Option NameKind} {x:Str} {v:Value}:∀{P:List Str} {vs:List Value} {i:Nat} {m:SO},P.Nodup->P[i]?=some x->vs[i]?=some v->kindOf x=some .local->
  bindL kindOf (P.zip vs) m x=some v
 | [],_,_,_,_,h,_,_=>by simp at h
 | _::_,[],_,_,_,_,h,_=>by simp at h
 | p::P,w::vs,0,m,nd,h1,h2,hk=>by
   simp at h1 h2;subst h1;subst h2
   show bindL kindOf ((p,w)::P.zip vs) m p=_
   unfold bindL
   rw [Ho fun v hv=>(ia.mp nd).1 (List.of_mem_zip hv).1,aB hk]
   simp
 | p::P,w::vs,i+1,m,nd,h1,h2,hk=>by
   show bindL kindOf ((p,w)::P.zip vs) m x=_
   unfold bindL
   exact Hr (i:=i) (ia.mp nd).2 (by simpa using h1) (by simpa using h2) hk
theorem Hs {kindOf:Str->Option NameKind} {x:Str} {v:Value}:∀{P:List Str} {vs:List Value} {i:Nat} {m:SO},P.Nodup->P[i]?=some x->vs[i]?=some v->kindOf x≠some .local->
  bindC kindOf (P.zip vs) m x=some v
 | [],_,_,_,_,h,_,_=>by simp at h
 | _::_,[],_,_,_,_,h,_=>by simp at h
 | p::P,w::vs,0,m,nd,h1,h2,hk=>by
   simp at h1 h2;subst h1;subst h2
   show bindC kindOf ((p,w)::P.zip vs) m p=_
   unfold bindC
   rw [Hq fun v hv=>(ia.mp nd).1 (List.of_mem_zip hv).1,az hk]
   simp
 | p::P,w::vs,i+1,m,nd,h1,h2,hk=>by
   show bindC kindOf ((p,w)::P.zip vs) m x=_
   unfold bindC
   exact Hs (i:=i) (ia.mp nd).2 (by simpa using h1) (by simpa using h2) hk
def start (N:List Str) (vs:List V):St:=vs.map some++List.replicate (N.length-vs.length) none
def cN (CX:yR) (P:Program) (w:World) (K:Fg) (mg:SO) (base:Heap) (N:List Str) (qual:Str) (scope:Scope) (f:Addr) (cd:Value) (A:Around) (outer:List Env) (s:Shared) (H:Hp) (E:XK):Cx where
 prog:=P
 w:=w
 K:=K
 mg:=mg
 base:=base
 A:=A.deeper (envOfC qual scope s.heap.objs.size f cd)
 N:=N
 s₀:=s
 H₀:=H
 env:=envOfC qual scope s.heap.objs.size f cd
 outer:=outer
 stack:=envOfC qual scope s.heap.objs.size f cd::outer
 ex:=[]
 calm:=true
 fn:=fun _=>true
 pn:=[]
 xe:=fun e s'=>wpAny (model P w) (A.deeper (envOfC qual scope s.heap.objs.size f cd)) (leaving (envOfC qual scope s.heap.objs.size f cd) e) (fun _ s''=>CX outer H s E e s'') (fun e' s''=>CX outer H s E e' s'') s'
theorem Kn {sc:Scope} (h:sc.names.lookup x=some .cell):∃c,(cellsFrom n sc.names []).lookup x=some c:=by
 have q:=PySem.W.cellsFrom_some sc.names n [] (.inl h)
 exact Option.isSome_iff_exists.mp q
variable {qual:Str} {scope:Scope}
theorem Sl {w:World} {cd:Value} {outer:List Env} {s1:Shared} {E:XK}
  (S:aJ N ps scope) (hd:A.handled=none) (e0:Ct P w K mg base A outer s H) (hl:vs.length=ps.length) (r:Vals vs us)
  (x:InCallC s s.heap.objs.size (bindL (envOfC qual scope s.heap.objs.size f cd).kindOf (ps.zip us) fun _=>none) (cellsFrom (s.heap.objs.size+1) scope.names []) (bindC (envOfC qual scope s.heap.objs.size f cd).kindOf (ps.zip us) fun _=>none) s1):
  Inv (cN CX P w K mg base N qual scope f cd A outer s H E) [] (start N vs) H s1:=by
 have hpl:ps.length<=N.length:=by have:=ie List.length S.pre;rw [lq] at this;omega
 obtain ⟨h1,tk,rfl,hk⟩:=x.done
 have Sm:∀b:Addr,b∉(cN CX P w K mg base N qual scope f cd A outer s H E).ex:=fun b z=>absurd (show b∈([] :List Addr) from z) (by simp)
 refine ⟨⟨e0.mod,S.kind,Z,Z,aP _,fun y z c h1 h2=>?_,fun y hy=>?_,fun y c _ h=>?_,fun _=>hd,Around.frames_deeper e0.frames, .inr ⟨Z,Z⟩,fun b z=>absurd z (Sm b),e0.bs,e0.Dz,fun b _ _=>Sm b,fun b z=>absurd z (Sm b),e0.nV,e0.Hh⟩,
  rfl,e0.bare,Un.kept hk,⟨_,x.toInCall.ns,fun i y v h1 h2 h3=>?_⟩,fun y c h=>⟨_,x.cell y c h⟩,e0.hok.fresh (aP _),fun y c h=>?_,fun p hp=>absurd (show p∈([] :AO) from hp) (by simp),e0.hok.kept hk,?_⟩
 . exact name_of_addr x.apart (xQ h1) (xQ h2)
 . have hy:scope.names.lookup y=some .cell\/scope.names.lookup y=some .free:=hy
   rcases hy with hy|hy
   . exact Kn hy
   . exact absurd rfl (S.aab _ (xQ hy))
 . exact Dw (x.above y c (xQ h))
 . have hi:i<vs.length:=by
    unfold start at h2
    by_cases hi:i<vs.length
    . exact hi
    . rw [J0 (by simpa using hi)] at h2
      rw [List.getElem?_replicate] at h2
      split at h2 <;> cases h2
   have ha:vs[i]?=some v:=by
    unfold start at h2
    rw [J1 (by simpa using hi),bJ] at h2
    cases e:vs[i]? with
    | none=>rw [e] at h2;cases h2
    | some a=>rw [e] at h2;cases h2;rfl
   obtain ⟨u,hu,rv⟩:=r.get ha
   have hp:ps[i]?=some y:=by
    rw [<-S.pre,List.getElem?_take_of_lt (by omega)];exact h1
   have ndP:ps.Nodup:=by rw [<-S.pre];exact S.nd.sublist (List.take_sublist _ _)
   refine ⟨u,rv,?_⟩
   rcases S.par y (bN hp) with k|k
   . exact .inl ⟨k,Hr ndP hp hu k⟩
   . obtain ⟨c,e⟩:=Kn (n:=s.heap.objs.size+1) k
     refine .inr ⟨.inl k,c,e,?_⟩
     have q:=x.cell y c e
     rw [Hs ndP hp hu (by show scope.names.lookup y≠_;rw [k];decide)] at q
     exact q
 . exact e0.hok.fresh (Dw (x.above y c (xQ h)))
 . unfold start
   show _=N.length
   rw [di,aF,mS]
   omega
variable {body:List Stmt} {doc pm cdv ct oc:Value} {an od:Option Addr}
theorem QJ {w:World} {k:Nat} {name:Str} {params:Arguments} {dV kV:Value}
  {osl:Array (Option Value)} {N ps:List Str} {sp:Sp} (lk:K.lookup f=some ⟨oc,od, .func (PySem.W.fnOf name qual params body scope dV kV doc pm an cdv ct),osl⟩) (hcd:PySem.W.codeIn K cdv qual=true) (S:aJ N ps scope)
  (len:∀vs H Q E,sp vs H Q E->vs.length=ps.length)
  (hbody:∀(A:Around) (outer:List Env) (s:Shared) (H:Hp) (vs:List V) (Q:VK) (E:XK),dD k (A.deeper (envOfC qual scope s.heap.objs.size f cdv))->sp vs H Q E->
    ∃t,qp (cN CX P w K mg base N qual scope f cdv A outer s H E) body t/\t { nx:=fun _ H'=>Q .bZ H',rt:=Q } (start N vs) H):
  iA P w K mg base CX (k+1) f (PySem.W.fnOf name qual params body scope dV kV doc pm an cdv ct) ps sp:=by
 refine ⟨len,fun A outer s H args us vs Q E hr e0 hb r pC=>?_⟩
 have hl:=len _ _ _ _ pC
 have KX:K.In s.heap:=e0.mod.OB.keeps fun b o e=>(e0.bs b o e).1
 have lim:s.heap.NoLimit:=e0.mod.nolimit.keeps fun b o e=>(e0.bs b o e).1
 have hkind:∀y∈ps.zip us,scope.names.lookup y.1=some .local\/(scope.names.lookup y.1=some .cell/\((cellsFrom (s.heap.objs.size+1) scope.names []).lookup y.1).isSome=true):=fun ⟨n,v⟩ hy=>by
  rcases S.par n (List.of_mem_zip hy).1 with q|q
  . exact .inl q
  . exact .inr ⟨q,PySem.W.cellsFrom_some _ _ _ (.inl q)⟩
 refine codeAny_call_function hr.depth (KX _ _ lk) rfl S.co S.gen rfl (PySem.W.codeRec_of KX hcd) (hb _ _ _ _ ?_)
 refine wpAny_newFunctionEnv_cells S.kind hkind fun env he s1 x=>?_
 subst he
 refine ⟨lim.keeps x.toInCall.keep,codeAny_func ?_⟩
 obtain ⟨t,ht,hq⟩:=hbody A outer s H vs Q E (hr.deeper _) pC
 have I:Inv (cN CX P w K mg base N qual scope f cdv A outer s H E) [] (start N vs) H s1:=Sl S hr.hd e0 hl r x
 refine gP (ht [] s1 (start N vs) H _ I hq) (fun fl s' hs=>?_) fun e s' hs=>hs
 have fin:∀{σ':St} {H':Hp} {v:V} {u:Value},Inv (cN CX P w K mg base N qual scope f cdv A outer s H E) [] σ' H' s'->RelV v u->Q v H'->CE outer P w H s Q u s':=
  fun {σ' H' v u} J rv q=>⟨v,H',J.os,J.bare,J.base,J.hok,rv,q⟩
 cases fl with
 | ret u=>
   obtain ⟨v,σ',H',J,rv,q⟩:=hs
   exact fin J rv q
 | next=>
   obtain ⟨σ',H',J,q⟩:=hs
   exact fin (v:=V.bZ) (u:=Value.none) J rfl q
 | brk=>
   obtain ⟨_,_,_,q⟩:=hs
   exact False.elim q
 | cont=>
   obtain ⟨_,_,_,q⟩:=hs
   exact False.elim q
section
variable {X:Cx} {x:Str} {p pos:Pos} {e:Expr} {es:List Expr} {t:TA} {id T:String} {r:List V->Hp->VK->Prop}
def agQ (r:List V->Hp->VK->Prop) (Q:VK):List V->Hp->Prop:=fun vs H1=>r vs H1 Q
def tCB (r:List V->Hp->VK->Prop) (t:TA):TE:=fun σ H Q=>t σ H (agQ r Q)
end
end L2
namespace HT
open PySem PyProof.Rows
section
open PySem.SeqAt
open PySem.AutoSeq1 (wpAny_loadPart')
open PySem.MeetsSeq PySem.MeetsSeq2 PySem.MeetsSeq3
end
section
variable {prog:Program} {w:World} {A:Around} {E:VS} {s:Shared}
theorem Yc {t b:Addr} {vs ws:List Value} {Q:VS} (ht:IsTup s.heap t vs.toArray) (hb:IsTup s.heap b ws.toArray) (hv:vs≠[])
  (h1:ws=[]->Q (.ref t) s) (h2:ws≠[]->Q (.ref s.heap.objs.size) { s with heap:=s.heap.push { cls:= .type "tuple",data:= .seq (vs++ws).toArray } })
  (hsz:vs.length+ws.length<=sizeLine):wpAny (model prog w) A (binaryOp .Add (.ref t) (.ref b)) Q E s:=by
 obtain ⟨⟨cls,dd,data,sl⟩,ho,hc,n,hd⟩:=id ht
 obtain ⟨⟨agR,dd2,data2,sl2⟩,ho2,hc2,n2,hd2⟩:=id hb
 simp only at hc hd hc2 hd2
 subst hc hd hc2 hd2
 have e:vs.toArray++ws.toArray=(vs++ws).toArray:=by simp
 by_cases hw:ws=[]
 . exact concat_meets ⟨_,ho,Z⟩ ⟨_,ho2,Z⟩ noFill_tuple_add seq_tuple_add PySem.F.slot_tuple_add PySem.F.entry_tuple_add (PySem.F.args_tuple_add_2 _ _)
    (tuple_addW1 t b vs.toArray ws.toArray n n2 dd dd2 sl sl2 (by simpa using hv) (by simp [hw])) ⟨ho,ho2,h1 hw⟩
 . refine concat_meets ⟨_,ho,Z⟩ ⟨_,ho2,Z⟩ noFill_tuple_add seq_tuple_add PySem.F.slot_tuple_add PySem.F.entry_tuple_add (PySem.F.args_tuple_add_2 _ _)
    (tuple_addW2 t b vs.toArray ws.toArray n n2 dd dd2 sl sl2 (by simpa using hv) (by simpa using hw) (by rw [iz,iz];exact hsz)) ⟨ho,ho2,?_⟩
   rw [e]
   exact h2 hw
def dI (n d:Nat):Option Int->Nat
 | none=>d
 | some v=>if v<0 then (v+(n:Int)).toNat else min v.toNat n
theorem Cu (n d:Nat):dI n d none=d:=rfl
theorem wZ (n d k:Nat):dI n d (some (k:Int))=min k n:=by
 show (if (k:Int)<0 then ((k:Int)+(n:Int)).toNat else min (k:Int).toNat n)=min k n
 rw [az (by omega),v8]
theorem Sn (n d:Nat) (hd:d<=n) (o:Option Int):dI n d o<=n:=by
 cases o with
 | none=>exact hd
 | some v=>
   show (if v<0 then (v+(n:Int)).toNat else min v.toNat n)<=n
   by_cases hv:v<0
   . rw [aB hv];omega
   . rw [az hv];exact Nat.min_le_right _ _
theorem OM (v:Int) (n d:Nat):(if v<0 then max (v+(n:Int)) 0 else min v (n:Int))=((dI n d (some v):Nat):Int):=by
 show (if v<0 then max (v+(n:Int)) 0 else min v (n:Int))=(((if v<0 then (v+(n:Int)).toNat else min v.toNat n):Nat):Int)
 by_cases hv:v<0
 . simp only [aB hv];omega
 . simp only [az hv];omega
theorem QK (lo hi:Option Int) (n:Nat):Builtin.Slice.sliceAdjust lo hi 1 (n:Int)=(((dI n 0 lo:Nat):Int),((dI n n hi:Nat):Int)):=by
 have h1:¬ ((1:Int)<0):=by omega
 unfold Builtin.Slice.sliceAdjust
 simp only [h1,lE]
 refine Prod.ext ?_ ?_
 . cases lo with
   | none=>rfl
   | some v=>exact OM v n 0
 . cases hi with
   | none=>rfl
   | some v=>exact OM v n n
theorem QL (i j:Nat):Builtin.Slice.slicePlaces (i:Int) (j:Int) 1=j-i:=by
 unfold Builtin.Slice.slicePlaces
 have h1:(1:Int)>0:=by omega
 simp only [h1,rj,AR]
 split <;> omega
theorem DM {v:Value} {o:Option Int} {Q:Option Int->Shared->Prop} (p:IsPart v o) (h:Q o s):wpAny (model prog w) A (Builtin.Slice.slicePartIndex v) Q E s:=by
 cases p with
 | none=>exact slicePart_none h
 | int i t=>exact slicePart_int h
theorem Cv {sl:Addr} {vl vu:Value} {lo hi:Option Int} {n:Nat} {Q:Int×Int×Nat->Shared->Prop} (hs:s.heap.IsSliceOf sl vl vu .none) (pl:IsPart vl lo) (pu:IsPart vu hi)
  (h:Q (((dI n 0 lo:Nat):Int),1,dI n n hi-dI n 0 lo) s):wpAny (model prog w) A (Builtin.Slice.sliceApplied (.ref sl) (pure (n:Int))) Q E s:=by
 obtain ⟨os,hos,hcs,hds⟩:=id hs
 unfold Builtin.Slice.sliceApplied Builtin.Slice.sliceFields
 refine aq (aq (ku hos hds (x:=vl) rfl (aq (ku hos hds (x:=vu) rfl (aq (ku hos hds (x:= .none) rfl (aL ?_)))))))
 refine aq (slicePart_none ?_)
 show wpAny _ _ (if ((1:Int)==0)=true then _ else _) _ _ s
 rw [az (by decide)]
 refine aq (DM pl (aq (DM pu (aq (aL ?_)))))
 show wpAny _ _ (match Builtin.Slice.sliceAdjust lo hi 1 (n:Int) with|(lo,hi)=>pure (lo,(1:Int),Builtin.Slice.slicePlaces lo hi 1)) _ _ s
 rw [QK lo hi n]
 show wpAny _ _ (pure (((dI n 0 lo:Nat):Int),(1:Int),Builtin.Slice.slicePlaces ((dI n 0 lo:Nat):Int) ((dI n n hi:Nat):Int) 1)) _ _ s
 rw [QL]
 exact aL h
theorem Vv (xs:Array Value) (i k:Nat):((List.range k).filterMap fun (m:Nat)=>xs[((i:Int)+(m:Int)*1).toNat]?).toArray=((xs.toList.drop i).take k).toArray:=by
 have e:(fun (m:Nat)=>xs[((i:Int)+(m:Int)*1).toNat]?)=fun m=>xs[i+m]?:=by
  funext m
  have:((i:Int)+(m:Int)*1).toNat=i+m:=by omega
  rw [this]
 rw [e]
 have:=pick_run xs i k
 rw [List.filterMap_map] at this
 have e2:((fun x=>xs[x]?) ∘ fun x=>i+x)=fun m=>xs[i+m]?:=rfl
 rw [e2] at this
 rw [this]
theorem Bm {t sl:Addr} {items:Array Value} {vl vu:Value} {lo hi:Option Int} {Q:VS} (ht:IsTup s.heap t items) (hs:s.heap.IsSliceOf sl vl vu .none) (pl:IsPart vl lo) (pu:IsPart vu hi)
  (hw:¬ (dI items.size 0 lo=0/\dI items.size items.size hi=items.size))
  (h:Q (.ref s.heap.objs.size) { s with heap:=s.heap.push { cls:= .type "tuple",data:= .seq ((items.toList.drop (dI items.size 0 lo)).take (dI items.size items.size hi-dI items.size 0 lo)).toArray } })
  (hsz:items.size<=sizeLine):wpAny (model prog w) A (getItem (.ref t) (.ref sl)) Q E s:=by
 have JU:sizeOk (.seq ((items.toList.drop (dI items.size 0 lo)).take (dI items.size items.size hi-dI items.size 0 lo)).toArray):=by
  show ((items.toList.drop (dI items.size 0 lo)).take (dI items.size items.size hi-dI items.size 0 lo)).toArray.size<=sizeLine
  rw [iz,lq,J_,Array.length_toList]
  omega
 have hj:dI items.size items.size hi<=items.size:=Sn _ _ (aP _) hi
 obtain ⟨os,hos,hcs,hds⟩:=id hs
 have hTs:s.TypeIs (.ref sl) "slice":=⟨os,hos,hcs⟩
 unfold getItem
 try with_reducible refine xW ?_
 first|refine aq (aL ?_)|skip
 refine aq (wpAny_sequenceKey ht.typeIs (by decide) ?_)
 refine aq (xN (name:=Str.ofString "__getitem__") ht.typeIs PyProof.Rows.slot_tuple_getitem
  (xS PyProof.Rows.slot_tuple_getitem ht.typeIs entry_tuple_getitem ?_ (args_tuple_getitem _ _)))
 show wpAny _ _ (Builtin.Tuple.tupleItemsOf (.ref t) >>= _) _ _ s
 refine aq (tupleItemsOf_ ht ?_)
 refine aq (wpAny_typeOf hTs ?_)
 rw [aB (by decide)]
 refine aq (Cv hs pl pu ?_)
 have hno:¬ ((((dI items.size 0 lo:Nat):Int)==0 && (1:Int)==1 && (dI items.size items.size hi-dI items.size 0 lo)==items.size)=true):=by
  intro q
  rw [FI,FI] at q
  have q1:((dI items.size 0 lo:Nat):Int)=0:=eq_of_beq q.1.1
  have q2:dI items.size items.size hi-dI items.size 0 lo=items.size:=eq_of_beq q.2
  exact hw ⟨by omega,by omega⟩
 show wpAny _ _ (if (((dI items.size 0 lo:Nat):Int)==0 && (1:Int)==1 && (dI items.size items.size hi-dI items.size 0 lo)==items.size)=true then _ else _) _ _ s
 rw [az hno,Vv]
 first
  | exact aq (m:=Builtin.Tuple.tupleExact _) (qy (aL ⟨_,Z,aL h⟩) JU)
  | exact aq (m:=Builtin.Tuple.tupleExact _) (qy (aq (aL (aL ⟨_,Z,aL h⟩))) JU)
  | exact aq (aq (m:=Builtin.Tuple.tupleExact _) (qy (aL (aL ⟨_,Z,aL h⟩)) JU))
  | exact aq (aq (m:=Builtin.Tuple.tupleExact _) (qy (aL ⟨_,Z,aL h⟩) JU))
end
end HT
namespace L2
open PySem PySem.Spec PyProof.Rows
abbrev TO:=St->Hp->(Option Int->Hp->Prop)->Prop
def PO (X:Cx) (e:Option Expr) (t:TO):Prop:=
 ∀(pins:AO) (s:Shared) (σ:St) (H:Hp) (Q:Option Int->Hp->Prop),Inv X pins σ H s->t σ H Q->
  wpAny (model X.prog X.w) X.A (evalPart e X.env) (fun u s'=>∃o H',Inv X pins σ H' s'/\IsPart u o/\Q o H') X.xe s
def Yd:TO:=fun _ H Q=>Q none H
inductive aad (Q:Option Int->Hp->Prop) (x:V) (H1:Hp):Prop
 | mk  (i:_) (_:x = .int i) (_:Q (some i:_) H1)
def adn (t:TE):TO:=fun σ H Q=>t σ H (aad Q)
variable {ns:List Int}
theorem intsAre_of:∀{us:List Value},Vals (ns.map V.int) us->IntsAre us ns:=by
 induction ns with
 | nil=>intro us r;rw [List.map_nil] at r;cases r;exact .nil
 | cons n ns ih=>
   intro us r
   rw [bD] at r
   cases r with
   | cons r1 r2=>
     obtain ⟨t,e⟩:=r1
     subst e
     exact .cons n t (ih r2)
variable {xs:List V} {us:List Value}
section
variable {X:Cx} {e:Expr} {te:TE} {lo hi:Option Expr} {tl th:TO} {pos p2:Pos}
def So (X:Cx) (r:V->Option Int->Option Int->Hp->VK->Prop):Prop:=
 ∀(pins:AO) (s:Shared) (σ:St) (H:Hp) (x:V) (v vl vu:Value) (lo hi:Option Int) (sl:Addr) (Q:VK),Inv X pins σ H s->RelV x v->s.heap.IsSliceOf sl vl vu .none->IsPart vl lo->IsPart vu hi->r x lo hi H Q->
  ∃T id,typeLookup (.type T) "__getitem__"=pure (some (.builtin id))/\s.TypeIs v T/\wpAny (model X.prog X.w) X.A (getItem v (.ref sl)) (EP X pins σ Q) X.xe s
def aae (r:V->Option Int->Option Int->Hp->VK->Prop) (Q:VK) (x:V) (l:Option Int):Option Int->Hp->Prop:=fun u H3=>r x l u H3 Q
def aaf (r:V->Option Int->Option Int->Hp->VK->Prop) (th:TO) (σ:St) (Q:VK) (x:V):Option Int->Hp->Prop:=fun l H2=>th σ H2 (aae r Q x l)
def agS (r:V->Option Int->Option Int->Hp->VK->Prop) (tl:TO) (th:TO) (σ:St) (Q:VK):V->Hp->Prop:=fun x H1=>tl σ H1 (aaf r th σ Q x)
def tSl (r:V->Option Int->Option Int->Hp->VK->Prop) (te:TE) (tl th:TO):TE:=fun σ H Q=>te σ H (agS r tl th σ Q)
def v_ (xs:List V) (lo hi:Option Int):List V:=(xs.drop (HT.dI xs.length 0 lo)).take (HT.dI xs.length xs.length hi-HT.dI xs.length 0 lo)
theorem Nj (xs:List V) (lo hi:Option Int):(v_ xs lo hi).length<=xs.length:=by
 unfold v_
 rw [lq,J_]
 omega
inductive aag (K:Fg) (x:V) (lo:Option Int) (hi:Option Int) (H:Hp) (Q:VK):Prop
 | mk  (a xs:_) (_:x = .ref a) (_:cR K H a xs) (_:¬ (HT.dI xs.length 0 lo=0/\HT.dI xs.length xs.length hi=xs.length)) (_:∀p,H p=none->Q (.ref p) (upd H p (.tup (v_ xs lo hi))))
theorem aah:So X (aag X.K):=by
 intro pins s σ H x v vl vu lo hi sl Q I rx hs pl pu h
 obtain ⟨a,xs,rfl,hx,hw,q⟩:=h
 cases rx
 obtain ⟨its,r,ht,hz⟩:=I.tuple hx
 have hlen:its.toArray.size=xs.length:=by rw [iz];exact r.length.symm
 refine ⟨"tuple",_,PyProof.Rows.slot_tuple_getitem.lookup,ht.typeIs,?_⟩
 refine HT.Bm ht hs pl pu (by rw [hlen];exact hw) ?_ (by rw [hlen];exact hz)
 rw [hlen]
 refine ⟨.ref s.heap.objs.size,_,I.laid (t':=s.toks) (o:= .tup (v_ xs lo hi)) (fun b ob q=>cA _ q) (aP _) ?_,Z,q _ (I.hok.fresh (aP _))⟩
 exact ⟨fq (Nj xs lo hi) hz,_,(r.drop (HT.dI xs.length 0 lo)).take (HT.dI xs.length xs.length hi-HT.dI xs.length 0 lo),IsTup.new _ _⟩
inductive ado (K:Fg) (x:V) (y:V) (H:Hp) (Q:VK):Prop
 | mk  (a b xs ys:_) (_:x = .ref a) (_:y = .ref b) (_:cR K H a xs) (_:cR K H b ys) (_:xs≠[]) (_:xs.length+ys.length<=sizeLine) (_:(ys=[]->Q (.ref a) H)) (_:(ys≠[]->∀p,H p=none->Q (.ref p) (upd H p (.tup (xs++ys)))))
theorem Vals.AW (r:Vals xs us):us=[]↔xs=[] :=by
 cases r with
 | nil=>simp
 | cons _ _=>simp
theorem Ye:ig X (binaryOp .Add) (ado X.K):=by
 intro pins s σ H x y v u Q I rx ry h
 obtain ⟨a,b,xs,ys,rfl,rfl,ha,hb,hx,hz,q1,q2⟩:=h
 cases rx
 cases ry
 obtain ⟨its,r1,p1,_⟩:=I.tuple ha
 obtain ⟨its2,r2,p2,_⟩:=I.tuple hb
 refine HT.Yc p1 p2 (fun z=>hx (r1.AW.mp z)) (fun z=>⟨.ref a,H,I,Z,q1 (r2.AW.mp z)⟩) (fun z=>?_) (by rw [<-r1.length,<-r2.length];exact hz)
 refine ⟨.ref s.heap.objs.size,_,I.laid (t':=s.toks) (o:= .tup (xs++ys)) (fun b ob q=>cA _ q) (aP _) ?_,Z,q2 (fun w=>z (r2.AW.mpr w)) _ (I.hok.fresh (aP _))⟩
 exact ⟨by rw [di];exact hz,_,r1.append r2,IsTup.new _ _⟩
end
def BL (n:Nat) (i:Int):Option Nat:=if 0<=i then (if i<n then some i.toNat else none) else if -(n:Int)<=i then some (i+n).toNat else none
def jU {α:Type} (xs:List α) (i:Int):Option α:=(BL xs.length i).bind fun j=>xs[j]?
variable {n j:Nat}
theorem ON {i:Int} (h:BL n i=some j):seqIndex? i n=some j/\j<n/\-(n:Int)<=i/\i<n:=by
 unfold BL at h
 by_cases h0:0<=i
 . rw [aB h0] at h
   by_cases h1:i<n
   . rw [aB h1] at h
     have e:i.toNat=j:=iG h
     exact ⟨by rw [seqIndex_of h0 h1,e],by omega,by omega,h1⟩
   . rw [az h1] at h;cases h
 . rw [az h0] at h
   by_cases h1:-(n:Int)<=i
   . rw [aB h1] at h
     have e:(i+n).toNat=j:=iG h
     exact ⟨by rw [seqIndex_neg (by omega) h1,e],by omega,h1,by omega⟩
   . rw [az h1] at h;cases h
theorem FN {α:Type} {xs:List α} {i:Int} {v:α} (h:jU xs i=some v):∃j,seqIndex? i xs.length=some j/\xs[j]?=some v/\j<xs.length/\-(xs.length:Int)<=i/\i<xs.length:=by
 unfold jU at h
 cases e:BL xs.length i with
 | none=>rw [e] at h;cases h
 | some j=>
   rw [e] at h
   obtain ⟨h1,h2,h3,h4⟩:=ON e
   exact ⟨j,h1,h,h2,h3,h4⟩
theorem aQ {α:Type} {xs:List α} {v:α} (h:xs[j]?=some v):jU xs (j:Int)=some v:=by
 have hj:j<xs.length:=(eF.mp h).1
 have e:BL xs.length (j:Int)=some j:=by
  unfold BL
  rw [aB (by omega),aB (by omega)];simp
 unfold jU;rw [e];exact h
def Yg (b:Expr):Prop:=∀o i,subscripted b false o i=operate [o,i] (getItem o i)
def yS (X:Cx) (r:R2):Prop:=
 ∀(value slice:Expr) (pins:AO) (s:Shared) (σ:St) (H:Hp) (x y:V) (v u:Value) (Q:VK),Inv X pins σ H s->RelV x v->RelV y u->r x y H Q->
  subscripted slice false v u=operate [v,u] (getItem v u)->wpAny (model X.prog X.w) X.A (subscriptTail value slice v u) (EP X pins σ Q) X.xe s
def MtR (X:Cx) (id:String) (r:V->List V->Hp->VK->Prop):Prop:=
 ∀(pins:AO) (s:Shared) (σ:St) (H:Hp) (x:V) (xs:List V) (v:Value) (us:List Value) (Q:VK),Inv X pins σ H s->RelV x v->Vals xs us->r x xs H Q->
  wpAny (model X.prog X.w) X.A (call (.builtin id) (v::us)) (EP X pins σ Q) X.xe s
variable {pins:AO} {σ:St} {H:Hp} {s:Shared} {ys:List V} {its its':List Value} {A:Around} {y:V} {u:Value}
section
variable {X:Cx} {a b:Expr} {ta tb:TE} {pos:Pos}
theorem yS.or {r r':R2} (h:yS X r) (h':yS X r'):yS X (fun x y H Q=>r x y H Q\/r' x y H Q):=by
 intro value slice pins s σ H x y v u Q I rx ry q hs
 rcases q with q|q
 . exact h value slice pins s σ H x y v u Q I rx ry q hs
 . exact h' value slice pins s σ H x y v u Q I rx ry q hs
inductive Vw (K:Fg) (x:V) (y:V) (H:Hp) (Q:VK):Prop
 | mk  (p xs i v:_) (_:x = .ref p) (_:y = .int i) (_:aC K H p xs) (_:jU xs i=some v) (_:Q v H)
inductive QM (K:Fg) (x:V) (y:V) (H:Hp) (Q:VK):Prop
 | mk  (p xs i v:_) (_:x = .ref p) (_:y = .int i) (_:cR K H p xs) (_:jU xs i=some v) (_:Q v H)
inductive aai (x:V) (y:V) (H:Hp) (Q:VK):Prop
 | mk  (z i c:_) (_:x = .str z) (_:y = .int i) (_:z.length<=sizeLine) (_:jU z.cps.toList i=some c) (_:Q (.str ⟨#[c]⟩) H)
theorem OO:yS X (Vw X.K):=by
 intro value slice pins s σ H x y v u Q I rx ry h hs
 obtain ⟨p,xs,i,z,rfl,rfl,hq,he,q⟩:=h
 cases rx
 obtain ⟨t,rfl⟩:=ry
 obtain ⟨its,r,pl,hz⟩:=I.list hq
 obtain ⟨j,h1,h2,h3,h4,h5⟩:=FN he
 obtain ⟨w,ew,rw'⟩:=r.get h2
 have hl:=r.length
 have hn:=wY
 have fin:EP X pins σ Q w s:=⟨z,H,I,rw',q⟩
 by_cases h0:0<=i
 . have hj:i.toNat=j:=by
    rw [seqIndex_of h0 h5] at h1
    exact iG h1
   exact item_listR pl.isList h0 (by omega) (by rw [hj];simpa using ew) fin hs
 . have hj:(i+(its.toArray.size:Int)).toNat=j:=by
    rw [seqIndex_neg (by omega) h4] at h1
    rw [iz,<-hl]
    exact iG h1
   exact subscriptTail_builtinR (x:=w) pl.isList.typeIs slot_list_getitem.lookup
    (wpAny_getItem_list_neg (Q:=fun r s'=>r=w/\EP X pins σ Q r s') pl.isList (by omega) (by rw [iz] <;> omega) (by omega) (by rw [hj];simpa using ew) ⟨Z,fin⟩) hs
theorem Ss:yS X (QM X.K):=by
 intro value slice pins s σ H x y v u Q I rx ry h hs
 obtain ⟨p,xs,i,z,rfl,rfl,hq,he,q⟩:=h
 cases rx
 obtain ⟨t,rfl⟩:=ry
 obtain ⟨its,r,pl,hz⟩:=I.tuple hq
 obtain ⟨j,h1,h2,h3,h4,h5⟩:=FN he
 obtain ⟨w,ew,rw'⟩:=r.get h2
 have hl:=r.length
 have hn:=wY
 have fin:EP X pins σ Q w s:=⟨z,H,I,rw',q⟩
 exact subscriptTail_builtinR (x:=w) pl.typeIs slot_tuple_getitem.lookup
  (getItem_tuple (j:=j) (Q:=fun r s'=>r=w/\EP X pins σ Q r s') pl (by omega) (by omega) (by rw [iz,<-hl];exact h1) (by simpa using ew) ⟨Z,fin⟩) hs
theorem Su:yS X aai:=by
 intro value slice pins s σ H x y v u Q I rx ry h hs
 obtain ⟨z,i,c,rfl,rfl,hz,he,q⟩:=h
 obtain ⟨t,rfl⟩:=rx
 obtain ⟨t',rfl⟩:=ry
 obtain ⟨j,h1,h2,h3,h4,h5⟩:=FN he
 have hl:z.cps.toList.length=z.length:=by simp [Str.length]
 rw [hl] at h1 h4 h5
 have hn:=wY
 exact tail_any (typeIs_str s z t) slot_str_getitem.lookup (getItem_str (c:=c) (by
  have e1:decide (i < -(2 ^ 63:Int))=false:=d_ (by omega)
  have e2:decide (i≥2 ^ 63)=false:=d_ (by omega)
  rw [e1,e2,Bool.or_false]) (by rw [h1];simpa using h2) ⟨.str ⟨#[c]⟩,H,I.tok _,⟨_,Z⟩,q⟩) hs
def rIx (K:Fg):R2:=fun x y H Q=>Vw K x y H Q\/QM K x y H Q\/aai x y H Q
theorem aak:yS X (rIx X.K):=OO.or (Ss.or Su)
theorem QN (its:List Value) (n j:Nat) (u:Value):Obj.mapSeq (·.setIfInBounds j u) { cls:= .type "list",data:= .seq its.toArray n }={ cls:= .type "list",data:= .seq (its.set j u).toArray n }:=by
 simp [Obj.mapSeq]
theorem Inv.lst {pins:AO} {σ:St} {H:Hp} {s:Shared} {p:Addr} {xs:List V} (I:Inv X pins σ H s) (h:H p=some (.lst xs)):
  ∃(its:List Value) (n:Nat),Vals xs its/\s.heap.get? p=some { cls:= .type "list",data:= .seq its.toArray n }/\xs.length<=sizeLine:=by
 obtain ⟨z,its,n,r,e⟩:=I.hok p _ h
 exact ⟨its,n,r,e,z⟩
theorem Inv.aal {p:Addr} {n':Nat} {f:Obj->Obj} (I:Inv X pins σ H s) (h:H p=some (.lst xs))
  (ho:s.heap.get? p=some { cls:= .type "list",data:= .seq its.toArray n }) (hf:f { cls:= .type "list",data:= .seq its.toArray n }={ cls:= .type "list",data:= .seq its'.toArray n' }) (r:Vals ys its') (hz:ys.length<=sizeLine) (t:Nat):
  Inv X pins σ (upd H p (.lst ys)) { s with heap:=s.heap.update p f,toks:=t }:=by
 have e:(s.heap.update p f).get? p=some { cls:= .type "list",data:= .seq its'.toArray n' }:=by
  rw [Ci f ho (by rw [hf] <;> rfl),hf]
 refine I.write (x:=p) (e:=p) (by rw [h];trivial) (.inl rfl) (fun b u hb q=>(J3 _ _ (cu hb)).trans q) ⟨_,e⟩ ?_
 exact ⟨hz,its',n',r,e⟩
inductive adp (o:V) (i:V) (v:V) (H:Hp) (Q:Hp->Prop):Prop
 | mk  (p xs k j:_) (_:o = .ref p) (_:i = .int k) (_:H p=some (.lst xs)) (_:BL xs.length k=some j) (_:Q (upd H p (.lst (xs.set j v))))
theorem set_list:ZO X adp:=by
 intro pins s σ H o i v ov iv u Q I ro ri rv h
 obtain ⟨p,xs,k,j,rfl,rfl,hp,hj,q⟩:=h
 cases ro
 obtain ⟨t,rfl⟩:=ri
 obtain ⟨its,n,r,ho,hz⟩:=I.lst hp
 obtain ⟨h1,h2,h3,h4⟩:=ON hj
 have hl:=r.length
 have hn:=wY
 have I':Inv X pins σ (upd H p (.lst (xs.set j v))) { s with heap:=s.heap.update p (Obj.mapSeq (·.setIfInBounds j u)) }:=
  I.aal hp ho (QN its n j u) (r.set rv j) (by rw [lD];exact hz) s.toks
 by_cases h0:0<=k
 . have hk:k.toNat=j:=by
    rw [seqIndex_of h0 h4] at h1
    exact iG h1
   exact PySem.W.ki_setAt ho h0 (by omega) (by rw [iz,<-hl];exact h4) (by rw [hk];exact ⟨_,I',q⟩)
 . have hk:(k+(its.toArray.size:Int)).toNat=j:=by
    rw [seqIndex_neg (by omega) h3] at h1
    rw [iz,<-hl]
    exact iG h1
   exact PySem.W.ki_setBack ho (by omega) (by rw [iz,<-hl];exact h3) (by omega) (by rw [hk];exact ⟨_,I',q⟩)
def rm:V->Bool
 | .bZ=>true
 | .bl _=>true
 | .int _=>true
 | .str _=>true
 | _=>false
def yT:V->V->Bool
 | .bZ, .bZ=>true
 | .bl a, .bl b=>a==b
 | .bl a, .int b=>(if a then 1 else 0)==b
 | .int a, .bl b=>a==(if b then 1 else 0)
 | .int a, .int b=>a==b
 | .str a, .str b=>a==b
 | _,_=>false
theorem aam {x:V} {v:Value} (ry:RelV y u) (rx:RelV x v) (fy:rm y=true) (fx:rm x=true):SeqAt.EqAt A s u v (yT y x):=by
 cases y with
 | bZ=>
   cases ry
   cases x with
   | bZ=>cases rx;exact SeqAt.EqAt.same _
   | bl b=>cases rx;exact SeqAt.EqAt.none_bool b
   | int b=>obtain ⟨t,rfl⟩:=rx;exact SeqAt.EqAt.none_int b t
   | str b=>obtain ⟨t,rfl⟩:=rx;exact SeqAt.EqAt.none_str b t
   | _=>exact absurd (show false=true from fx) fJ
 | bl a=>
   cases ry
   cases x with
   | bZ=>cases rx;exact SeqAt.EqAt.bool_none a
   | bl b=>cases rx;exact SeqAt.EqAt.bool_bool a b
   | int b=>obtain ⟨t,rfl⟩:=rx;exact SeqAt.EqAt.bool_int a b t
   | str b=>obtain ⟨t,rfl⟩:=rx;exact SeqAt.EqAt.bool_str a b t
   | _=>exact absurd (show false=true from fx) fJ
 | int a=>
   obtain ⟨t',rfl⟩:=ry
   cases x with
   | bZ=>cases rx;exact SeqAt.EqAt.int_none a t'
   | bl b=>cases rx;exact SeqAt.EqAt.int_bool a t' b
   | int b=>obtain ⟨t,rfl⟩:=rx;exact SeqAt.EqAt.int_int a t' b t
   | str b=>obtain ⟨t,rfl⟩:=rx;exact SeqAt.EqAt.int_str a t' b t
   | _=>exact absurd (show false=true from fx) fJ
 | str a=>
   obtain ⟨t',rfl⟩:=ry
   cases x with
   | bZ=>cases rx;exact SeqAt.EqAt.str_none a t'
   | bl b=>cases rx;exact SeqAt.EqAt.str_bool a t' b
   | int b=>obtain ⟨t,rfl⟩:=rx;exact SeqAt.EqAt.str_int a t' b t
   | str b=>obtain ⟨t,rfl⟩:=rx;exact SeqAt.EqAt.str_str a t' b t
   | _=>exact absurd (show false=true from fx) fJ
 | _=>exact absurd (show false=true from fy) fJ
def DN (x:V) (u:Value):Bool:=match u with
 | .none=>yT .bZ x
 | .bool b=>yT (.bl b) x
 | .int i _=>yT (.int i) x
 | .str z _=>yT (.str z) x
 | _=>false
theorem Sv {x:V} (r:RelV y u) (f:rm y=true):DN x u=yT y x:=by
 cases y with
 | bZ=>cases r;rfl
 | bl b=>cases r;rfl
 | int i=>obtain ⟨t,rfl⟩:=r;rfl
 | str z=>obtain ⟨t,rfl⟩:=r;rfl
 | _=>exact absurd (show false=true from f) fJ
theorem FO {x:V}:∀{xs:List V} {us:List Value},Vals xs us->xs.all rm=true->us.any (DN x)=xs.any fun y=>yT y x
 | _,_, .nil,_=>rfl
 | y::xs,u::us, .cons r t,f=>by
   rw [List.all_cons,FI] at f
   rw [Dv,Dv,Sv r f.1,FO t f.2]
theorem Cw {A:Around} {s:Shared} {x:V} {v:Value} (rx:RelV x v) (fx:rm x=true):∀{xs:List V} {us:List Value},Vals xs us->xs.all rm=true->∀u∈us,SeqAt.EqAt A s u v (DN x u)
 | _,_, .nil,_=>fun u hu=>by cases hu
 | y::xs,u::us, .cons r t,f=>fun u' hu=>by
   rw [List.all_cons,FI] at f
   rcases c_.mp hu with rfl|hu
   . rw [Sv r f.1];exact aam r rx f.1 fx
   . exact Cw rx fx t f.2 u' hu
def Ht (x:V) (xs:List V):Bool:=xs.any fun y=>yT y x
inductive rIn (K:Fg) (neg:Bool) (x:V) (y:V) (H:Hp) (Q:VK):Prop
 | mk  (p xs:_) (_:y = .ref p) (_:(aC K H p xs\/cR K H p xs)) (_:rm x=true) (_:xs.all rm=true) (_:Q (.bl (if neg then !Ht x xs else Ht x xs)) H)
theorem Hu:ig X (compareOp .In) (rIn X.K false):=by
 intro pins s σ H x y v u Q I rx ry h
 obtain ⟨p,xs,rfl,hq,fx,fs,q⟩:=h
 cases ry
 rcases hq with hq|hq
 . obtain ⟨its,r,pl,hz⟩:=I.list hq
   refine SeqAt.in_listAt (DN x) pl.isList (fun w hw=>Cw rx fx r fs w (by simpa using hw)) ⟨.bl _,H,I,Z,?_⟩
   rw [show its.toArray.any (DN x)=its.any (DN x) by simp,FO r fs]
   exact q
 . obtain ⟨its,r,pl,hz⟩:=I.tuple hq
   refine SeqAt.in_tupleAt (DN x) pl (fun w hw=>Cw rx fx r fs w (by simpa using hw)) ⟨.bl _,H,I,Z,?_⟩
   rw [show its.toArray.any (DN x)=its.any (DN x) by simp,FO r fs]
   exact q
theorem Ko:gQ X (.builtin "len") (fun xs H Q=>∃p ys,xs=[.ref p]/\(aC X.K H p ys\/cR X.K H p ys)/\Q (.int ys.length) H):=by
 intro pins s σ H xs us Q I r h
 obtain ⟨p,ys,rfl,hq,q⟩:=h
 obtain ⟨u,rfl,rx⟩:=vals1 r
 cases rx
 have hn:=wY
 rcases hq with hq|hq
 . obtain ⟨its,r',pl,hz⟩:=I.list hq
   have hlen:=r'.length
   exact Calls.call_len_list pl.isList (by simp only [iz] <;> omega) ⟨.int ys.length,H,I.tok _,⟨s.toks+1,by rw [iz,hlen]⟩,q⟩
 . obtain ⟨its,r',pl,hz⟩:=I.tuple hq
   have hlen:=r'.length
   exact len_tuple pl (by simp only [iz] <;> omega) ⟨.int ys.length,H,I.tok _,⟨s.toks+1,by rw [iz,hlen]⟩,q⟩
theorem Kq:gQ X (.builtin "len") (fun xs H Q=>∃z,xs=[.str z]/\z.length<=sizeLine/\Q (.int z.length) H):=by
 intro pins s σ H xs us Q I r h
 obtain ⟨z,rfl,hz,q⟩:=h
 obtain ⟨u,rfl,t,rfl⟩:=vals1 r
 have hn:=wY
 exact len_str (by omega) ⟨.int z.length,H,I.tok _,⟨_,Z⟩,q⟩
theorem Kr:gQ X (.type "list") (fun xs H Q=>∃p ys,xs=[.ref p]/\(aC X.K H p ys\/cR X.K H p ys)/\∀l,H l=none->Q (.ref l) (upd H l (.lst ys))):=by
 intro pins s σ H xs us Q I r h
 obtain ⟨p,ys,rfl,hq,q⟩:=h
 obtain ⟨u,rfl,rx⟩:=vals1 r
 cases rx
 have fin:∀(its:List Value),Vals ys its->ys.length<=sizeLine->∀(h':Heap) (c':Nat),(∀b o',s.heap.get? b=some o'->h'.get? b=some o')->
   h'.get? s.heap.objs.size=some { cls:= .type "list",dict:=none,data:= .seq its.toArray c',slots:=#[] }->EP X pins σ Q (.ref s.heap.objs.size) { s with heap:=h' }:=fun its r' hz h' c' kp e=>
  ⟨.ref s.heap.objs.size,_,I.laid (t':=s.toks) kp (aP _) (show dN X.prog X.w _ h' _ (.lst ys) from ⟨hz,its,c',r',e⟩),Z,q _ (I.hok.fresh (aP _))⟩
 rcases hq with hq|hq
 . obtain ⟨its,r',pl,hz⟩:=I.list hq
   have hlen:=r'.length
   obtain ⟨o,ho,hc,n,hd⟩:=pl.isList
   exact call_list_seq p (.inl rfl) ho hc hd (fun h' c' kp e=>fin its r' hz h' c' kp e) (by simp only [iz] <;> omega)
 . obtain ⟨its,r',pl,hz⟩:=I.tuple hq
   have hlen:=r'.length
   obtain ⟨o,ho,hc,n,hd⟩:=pl
   exact call_list_seq p (.inr rfl) ho hc hd (fun h' c' kp e=>fin its r' hz h' c' kp e) (by simp only [iz] <;> omega)
def tyV (K:Fg) (T:String) (x:V) (H:Hp):Prop:=match x with
 | .str _=>T = "str"
 | .int _=>T = "int"
 | .ref p=>(T = "list"/\∃xs,aC K H p xs)\/(T = "tuple"/\∃o,K.lookup p=some o/\o.cls = .type "tuple"/\o.dict=none)\/
     (T = "dict"/\((∃kvs,H p=some (.dK kvs))\/∃kvs,H p=some (.dT kvs)))\/(T = "set"/\∃S n,H p=some (.set S n))
 | _=>False
theorem aan {T:String} {x:V} {v:Value} (I:Inv X pins σ H s) (r:RelV x v) (ty:tyV X.K T x H):
  s.TypeIs v T/\∀a,v = .ref a->∃ob,s.heap.get? a=some ob/\ob.dict=none:=by
 cases x with
 | str z=>
   obtain ⟨t,rfl⟩:=r
   cases (show T = "str" from ty)
   exact ⟨typeIs_str s z t,fun _ e=>nomatch e⟩
 | int i=>
   obtain ⟨t,rfl⟩:=r
   cases (show T = "int" from ty)
   exact ⟨typeIs_int s i t,fun _ e=>nomatch e⟩
 | ref p=>
   cases r
   rcases ty with ⟨rfl,xs,hq⟩|⟨rfl,o,hk,hc,hd⟩|⟨rfl,hk⟩|⟨rfl,S,n,hk⟩
   . obtain ⟨its,_,pl,_⟩:=I.list hq
     refine ⟨pl.isList.typeIs,fun a e=>?_⟩
     cases e
     obtain ⟨o,n,e,c,hd,_⟩:=pl
     exact ⟨o,e,hd⟩
   . refine ⟨⟨o,I.iP p o hk,hc⟩,fun a e=>?_⟩
     cases e
     exact ⟨o,I.iP _ o hk,hd⟩
   . have z:∃o,s.heap.get? p=some o/\o.ExactDict:=by
      rcases hk with ⟨kvs,hk⟩|⟨kvs,hk⟩
      . obtain ⟨_,_,_,_,o,_,_,e,ex,_⟩:=I.hok p _ hk
        exact ⟨o,e,ex⟩
      . obtain ⟨_,_,_,_,o,_,_,e,ex,_⟩:=I.hok p _ hk
        exact ⟨o,e,ex⟩
     obtain ⟨o,e,ex⟩:=z
     refine ⟨⟨o,e,ex.1⟩,fun a e2=>?_⟩
     cases e2
     exact ⟨o,e,ex.2.1⟩
   . obtain ⟨o,_,_,_,e,ex,_⟩:=I.hok p _ hk
     refine ⟨⟨o,e,ex.1⟩,fun a e2=>?_⟩
     cases e2
     exact ⟨o,e,ex.2.1⟩
 | _=>exact False.elim ty
def aao (r:V->List V->Hp->VK->Prop) (Q:VK) (x:V):List V->Hp->Prop:=fun xs H2=>r x xs H2 Q
inductive agT (K:Fg) (T:String) (r:V->List V->Hp->VK->Prop) (t:TA) (σ:St) (Q:VK) (x:V) (H1:Hp):Prop
 | mk  (_:tyV K T x H1) (_:t σ H1 (aao r Q x))
def tBM (K:Fg) (T:String) (r:V->List V->Hp->VK->Prop) (to:TE) (t:TA):TE:=fun σ H Q=>to σ H (agT K T r t σ Q)
variable {o e:Expr} {es:List Expr} {to:TE} {t:TA} {name:Str} {apos cpos:Pos} {T id:String} {r:V->List V->Hp->VK->Prop}
end
def MtM (X:Cx) (id:String) (r:V->List V->Hp->VK->Prop):Prop:=
 ∀(pins:AO) (s:Shared) (σ:St) (H:Hp) (x:V) (xs:List V) (v:Value) (us:List Value) (Q:VK),Inv X pins σ H s->RelV x v->Vals xs us->r x xs H Q->
  wpAny (model X.prog X.w) X.A (call (.builtin id) (v::us)) (EP X pins σ Q) X.xe s
theorem Vals.one:∀{x:V} {us:List Value},Vals [x] us->∃u,us=[u]/\RelV x u
 | _,_, .cons r .nil=>⟨_,Z,r⟩
theorem Vals.reverse (h:Vals xs us):Vals xs.reverse us.reverse:=by
 induction h with
 | nil=>exact .nil
 | cons r t ih=>rw [List.reverse_cons,List.reverse_cons];exact Vals.append ih (.cons r .nil)
theorem Vals.rep {xs:List V} {us:List Value} (h:Vals xs us):∀k:Nat,Vals (List.replicate k xs).flatten (List.replicate k us).flatten
 | 0=> .nil
 | k+1=>by
   rw [Cj,Cj,Qu,Qu]
   exact Vals.append h (Vals.rep h k)
theorem foldl_rep (its:List Value):∀(k:Nat) (acc:List Value),
  List.foldl (fun x1 x2=>x1++x2) acc.toArray (List.replicate k its.toArray)=(acc++(List.replicate k its).flatten).toArray
 | 0,acc=>by simp
 | k+1,acc=>by
   have e:acc.toArray++its.toArray=(acc++its).toArray:=by simp
   have e2:(acc++its)++(List.replicate k its).flatten=acc++(List.replicate (k+1) its).flatten:=by
    rw [Cj,Qu,J7]
   rw [<-e2,<-foldl_rep its k (acc++its),<-e,Cj,mE]
variable {t':Nat}
section
variable {X:Cx} {pins:AO} {σ:St} {H:Hp} {s:Shared} {l b:Addr} {xs ys zs:List V}
theorem Inv.agU {f:Array Value->Array Value} (I:Inv X pins σ H s) (hH:H l=some (.lst xs))
  (e:s.heap.get? l=some { cls:= .type "list",data:= .seq its.toArray n }) (hf:f its.toArray=its'.toArray) (hv:Vals ys its') (hz:ys.length<=sizeLine):
  Inv X pins σ (upd H l (.lst ys)) { s with heap:=s.heap.update l (Obj.mapSeq f),toks:=t' }:=by
 have q:=PySem.IsL.update e f
 rw [hf] at q
 refine I.write (x:=l) (e:=l) (by rw [hH];exact trivial) (.inl rfl) (fun b' u hb hu=>(J3 s.heap (Obj.mapSeq f) (cu hb)).trans hu) ⟨_,q⟩ ?_
 exact ⟨hz,its',_,hv,q⟩
theorem Inv.aap (I:Inv X pins σ H s) (hv:Vals ys its) (hz:ys.length<=sizeLine):
  Inv X pins σ (upd H s.heap.objs.size (.lst ys)) { s with heap:=s.heap.push { cls:= .type "list",data:= .seq its.toArray },toks:=t' }:=
 I.laid (fun _ _ q=>cA _ q) (aP _) ⟨hz,its,0,hv,dY _ rfl⟩
theorem Inv.fresh (I:Inv X pins σ H s):H s.heap.objs.size=none:=I.hok.fresh (aP _)
theorem Inv.QO (I:Inv X pins σ H s) (hH:H l=some (.lst xs)):xs.length<=sizeLine/\∃(its:List Value) (n:Nat),Vals xs its/\xs.length=its.length/\s.heap.get? l=some { cls:= .type "list",data:= .seq its.toArray n }:=by
 obtain ⟨z,its,n,r,e⟩:=I.hok l _ hH
 exact ⟨z,its,n,r,r.length,e⟩
theorem Vx (h:n<=sizeLine):Builtin.List.listTooLong n=false:=by
 unfold Builtin.List.listTooLong
 exact d_ (by omega)
end
section
variable {X:Cx}
inductive Yh (x:V) (vs:List V) (H:Hp) (Q:VK):Prop
 | mk  (l xs y:_) (_:x = .ref l) (_:vs=[y]) (_:H l=some (.lst xs)) (_:xs.length<sizeLine) (_:Q .bZ (upd H l (.lst (xs++[y]))))
theorem gX:MtM X "list.append" Yh:=by
 intro pins s σ H x vs v us Q I rx rv h
 obtain ⟨l,xs,y,rfl,rfl,hH,hz,q⟩:=h
 cases rx
 obtain ⟨u,rfl,ru⟩:=rv.one
 obtain ⟨z,its,n,r,hl,e⟩:=I.QO hH
 refine call_meets F.slot_list_append ⟨_,e,Z⟩ F.entry_list_append (F.args_list_append_2 _ _) (PySem.list_append l its.toArray n u (by rw [iz];omega)) ⟨e,?_⟩
 refine ⟨.bZ,_,I.agU (its':=its++[u]) hH e (by simp) (r.append (.cons ru .nil)) ?_,Z,q⟩
 rw [di,List.length_singleton]
 omega
inductive Vy (x:V) (y:V) (H:Hp) (Q:VK):Prop
 | mk  (l b xs zs:_) (_:x = .ref l) (_:y = .ref b) (_:H l=some (.lst xs)) (_:H b=some (.lst zs)) (_:xs.length+zs.length<=sizeLine) (_:∀p,H p=none->Q (.ref p) (upd H p (.lst (xs++zs))))
theorem nh:ig X (binaryOp .Add) Vy:=by
 intro pins s σ H x y v u Q I rx ry h
 obtain ⟨l,b,xs,zs,rfl,rfl,hH,hB,hz,q⟩:=h
 cases rx
 cases ry
 obtain ⟨z,its,n,r,hl,e⟩:=I.QO hH
 obtain ⟨z2,its2,n2,r2,hl2,e2⟩:=I.QO hB
 refine PySem.P.add_list e e2 ?_ (by rw [iz,iz];omega)
 have ea:its.toArray++its2.toArray=(its++its2).toArray:=by simp
 rw [ea]
 exact ⟨.ref _,_,I.aap (t':=s.toks) (r.append r2) (by rw [di];omega),Z,q _ I.fresh⟩
inductive agV (x:V) (y:V) (H:Hp) (Q:VK):Prop
 | mk  (l k xs:_) (_:x = .ref l) (_:y = .int k) (_:H l=some (.lst xs)) (_:-(2 ^ 63)<=k) (_:k<2 ^ 63) (_:xs.length*k.toNat<=sizeLine) (_:∀p,H p=none->Q (.ref p) (upd H p (.lst (List.replicate k.toNat xs).flatten)))
theorem len_rep {α:Type} (xs:List α) (k:Nat):(List.replicate k xs).flatten.length=k*xs.length:=by
 induction k with
 | zero=>simp
 | succ k ih=>rw [Cj,Qu,di,ih,Nat.succ_mul,Nat.add_comm]
theorem aaq:ig X (binaryOp .Mult) agV:=by
 intro pins s σ H x y v u Q I rx ry h
 obtain ⟨l,k,xs,rfl,rfl,hH,h1,h2,hz,q⟩:=h
 cases rx
 obtain ⟨t,rfl⟩:=ry
 obtain ⟨z,its,n,r,hl,e⟩:=I.QO hH
 have hlen:its.toArray.size*k.toNat<=sizeLine:=by rw [iz,<-hl];exact hz
 have hcap:¬ its.toArray.size*k.toNat>(2 ^ 63-1) / 8:=by
  have:(sizeLine:Nat)<=(2 ^ 63-1) / 8:=by decide
  omega
 have hfit:¬ (!Builtin.List.listFitsIndex k)=true:=by
  rw [fitsIndex_both h1 h2]
  exact fJ
 have adq:¬ Builtin.List.listTooLong (its.toArray.size*k.toNat)=true:=by
  rw [Vx hlen]
  exact fJ
 have hnew:List.foldl (fun x1 x2=>x1++x2) #[] (List.replicate (if its.toArray.isEmpty=true then 0 else k.toNat) its.toArray)=(List.replicate k.toNat its).flatten.toArray:=by
  have f0:∀m:Nat,List.foldl (fun x1 x2=>x1++x2) #[] (List.replicate m its.toArray)=(List.replicate m its).flatten.toArray:=fun m=>by
   have:=foldl_rep its m []
   rw [JL] at this
   exact this
  rw [f0]
  cases its with
  | nil=>simp
  | cons a r'=>rw [az (by simp)]
 refine wpAny_binaryOp_repeat_ref (T:="list") (U:="int") (by decide) ⟨_,e,Z⟩ (fun s'=>typeIs_int s' k t) noFill_list_mul F.fills_int_mul F.slot_int_rmul repeat_list F.slot_int_index.lookup
  (call_meets F.slot_int_rmul (typeIs_int s k t) F.entry_int_rmul (F.args_int_rmul_2 _ _) (int___rmul___int_list k t l its.toArray n)
    ⟨e,Z,⟨_,e,Z⟩,call_meets F.slot_list_mul ⟨_,e,Z⟩ F.entry_list_mul (F.args_list_mul_2 _ _) (AutoListH.list___mul___list_int_3 l its.toArray n k t hfit hcap adq) ⟨e,?_⟩⟩)
 rw [hnew]
 exact ⟨.ref _,_,I.aap (t':=s.toks) (r.rep k.toNat) (by rw [len_rep,Nat.mul_comm];exact hz),Z,q _ I.fresh⟩
end
section
variable {prog:Program} {w:World} {A:Around} {E:VS} {s:Shared}
set_option maxRecDepth 100000 in
end
section
variable {X:Cx}
end
section
variable {κ:Type} [DecidableEq κ]
def d9 (kvs:List (κ×V)) (k:κ):Option V:=(kvs.find? fun kv=>decide (kv.1=k)).map (·.2)
def putK (kvs:List (κ×V)) (k:κ) (v:V):List (κ×V):=
 if (kvs.any fun kv=>decide (kv.1=k))=true then kvs.map (fun kv=>if kv.1=k then (kv.1,v) else kv) else kvs++[(k,v)]
def nG (kvs:List (κ×V)) (k:κ):List (κ×V):=kvs.filter fun kv=>decide (kv.1≠k)
theorem gH {p:κ×V} {r:List (κ×V)} {k:κ} (e:p.1=k):d9 (p::r) k=some p.2:=by simp [d9,tS,e]
theorem eX {p:κ×V} {r:List (κ×V)} {k:κ} (e:¬ p.1=k):d9 (p::r) k=d9 r k:=by simp [d9,tS,e]
theorem qB (k:κ):∀kvs:List (κ×V),(kvs.any fun kv=>decide (kv.1=k))=(d9 kvs k).isSome
 | []=>rfl
 | p::r=>by
   rw [Dv]
   by_cases e:p.1=k
   . simp only [gH e,cg e,Bool.true_or,Option.isSome_some]
   . rw [eX e,d_ e,Bool.false_or];exact qB k r
theorem Ks (k j:κ) (y:V):∀kvs:List (κ×V),d9 (kvs.map fun kv=>if kv.1=k then (kv.1,y) else kv) j=(d9 kvs j).map fun x=>if j=k then y else x
 | []=>rfl
 | p::r=>by
   have ih:=Ks k j y r
   rw [bD]
   by_cases h:p.1=k
   . rw [aB h]
     by_cases e:p.1=j
     . rw [gH (p:=(p.1,y)) e,gH e,JM,aB (e.symm.trans h)]
     . rw [eX (p:=(p.1,y)) e,eX e,ih]
   . rw [az h]
     by_cases e:p.1=j
     . rw [gH (p:=p) e,gH e,JM,az (fun z=>h (e.trans z))]
     . rw [eX (p:=p) e,eX e,ih]
theorem Hv (k j:κ) (y:V):∀kvs:List (κ×V),d9 kvs k=none->d9 (kvs++[(k,y)]) j=if j=k then some y else d9 kvs j
 | [],_=>by
   by_cases e:k=j
   . rw [aB e.symm];exact gH (p:=(k,y)) e
   . rw [az (fun z=>e z.symm)];exact eX (p:=(k,y)) e
 | p::r,hn=>by
   rw [JK]
   have hk:¬ p.1=k:=fun z=>by rw [gH z] at hn;cases hn
   rw [eX hk] at hn
   have ih:=Hv k j y r hn
   by_cases e:p.1=j
   . rw [gH e,gH e,az (fun z=>hk (e.trans z))]
   . rw [eX e,eX e,ih]
theorem Vz (kvs:List (κ×V)) (k j:κ) (y:V):d9 (putK kvs k y) j=if j=k then some y else d9 kvs j:=by
 unfold putK
 by_cases a:(kvs.any fun kv=>decide (kv.1=k))=true
 . rw [aB a,Ks]
   rw [qB] at a
   by_cases e:j=k
   . obtain ⟨x,hx⟩:=Option.isSome_iff_exists.mp a
     rw [aB e,e,hx,JM,aB rfl]
   . rw [az e]
     cases d9 kvs j with
     | none=>rfl
     | some x=>rw [JM,az e]
 . rw [az a]
   refine Hv k j y kvs ?_
   rw [qB] at a
   cases q:d9 kvs k with
   | none=>rfl
   | some x=>rw [q] at a;exact (a rfl).elim
theorem wc (kvs:List (κ×V)) (k:κ) (v:V):(putK kvs k v).length<=kvs.length+1:=by
 unfold putK
 split
 . rw [aF];omega
 . rw [di,mU,List.length_nil];omega
theorem nW {kvs:List (κ×V)} {k:κ} (v:V) (h:d9 kvs k=none):putK kvs k v=kvs++[(k,v)] :=by
 unfold putK
 rw [qB,h]
 exact az (by decide)
theorem mV.oK {o:Option V} {u:Option Value} (r:mV o u):o.isSome=u.isSome:=by
 cases o with
 | none=>cases u with
   | none=>rfl
   | some _=>exact (show False from r).elim
 | some _=>cases u with
   | none=>exact (show False from r).elim
   | some _=>rfl
theorem KV.val {kvs:List (κ×V)} {vs:List (κ×Value)} (r:KV kvs vs) (k:κ):mV (d9 kvs k) (valueAt vs k):=by
 unfold KV at r
 induction r with
 | nil=>exact True.intro
 | @cons p q ps qs h t ih=>
   obtain ⟨h1,h2⟩:=h
   by_cases e:p.1=k
   . have e':q.1=k:=h1.symm.trans e
     have b:valueAt (q::qs) k=some q.2:=by simp [valueAt,tS,e']
     rw [gH e,b];exact h2
   . have e':¬ q.1=k:=fun z=>e (h1.trans z)
     have b:valueAt (q::qs) k=valueAt qs k:=by simp [valueAt,tS,e']
     rw [eX e,b];exact ih
theorem KV.any {kvs:List (κ×V)} {vs:List (κ×Value)} (r:KV kvs vs) (k:κ):(kvs.any fun kv=>decide (kv.1=k))=vs.any fun kv=>decide (kv.1=k):=by
 unfold KV at r
 induction r with
 | nil=>rfl
 | cons h t ih=>rw [Dv,Dv,ih,h.1]
theorem KV.repl {kvs:List (κ×V)} {vs:List (κ×Value)} (r:KV kvs vs) (k:κ) (ry:RelV y u):
  KV (kvs.map fun kv=>if kv.1=k then (kv.1,y) else kv) (vs.map fun kv=>if kv.1=k then (kv.1,u) else kv):=by
 unfold KV at r ⊢
 induction r with
 | nil=>exact .nil
 | @cons p q ps qs h t ih=>
   rw [bD,bD]
   refine .cons ?_ ih
   obtain ⟨h1,h2⟩:=h
   by_cases e:p.1=k
   . rw [aB e,aB (h1.symm.trans e)];exact ⟨h1,ry⟩
   . rw [az e,az (fun z=>e (h1.trans z))];exact ⟨h1,h2⟩
theorem KV.put {kvs:List (κ×V)} {vs:List (κ×Value)} (r:KV kvs vs) (k:κ) (ry:RelV y u):KV (putK kvs k y) (stored vs k u):=by
 unfold putK stored
 rw [r.any k]
 by_cases e:(vs.any fun kv=>decide (kv.1=k))=true
 . rw [aB e,aB e];exact r.repl k ry
 . rw [az e,az e];exact Paired.snoc r ⟨Z,ry⟩
theorem KV.drop {kvs:List (κ×V)} {vs:List (κ×Value)} (r:KV kvs vs) (k:κ):KV (nG kvs k) (without vs k):=by
 unfold KV at r ⊢
 unfold nG without
 induction r with
 | nil=>exact .nil
 | @cons p q ps qs h t ih=>
   obtain ⟨h1,h2⟩:=h
   rw [iF,iF]
   by_cases e:p.1=k
   . have a:¬ decide (p.1≠k)=true:=by simp [e]
     have b:¬ decide (q.1≠k)=true:=by simp [h1.symm.trans e]
     rw [az a,az b];exact ih
   . have e':¬ q.1=k:=fun z=>e (h1.trans z)
     have a:decide (p.1≠k)=true:=by simp [e]
     have b:decide (q.1≠k)=true:=by simp [e']
     rw [aB a,aB b];exact .cons ⟨h1,h2⟩ ih
theorem KV.length {kvs:List (κ×V)} {vs:List (κ×Value)} (r:KV kvs vs):kvs.length=vs.length:=Paired.length r
theorem VA (kvs:List (κ×V)) (k:κ):(nG kvs k).length<=kvs.length:=List.length_filter_le _ _
end
variable {P:Program}
theorem x_ {w:World} {k:Key} (r:RelV (kV k) u):(c6 P w).is k u=true:=by
 cases k with
 | inl i=>obtain ⟨t,e⟩:=(show ∃t,u=Value.int i t from r);subst e;exact Nh P w i t
 | inr x=>obtain ⟨t,e⟩:=(show ∃t,u=Value.str x t from r);subst e;exact Ni P w x t
theorem Hw {P:Program} {w:World}:∀{ks:List Key} {us:List Value},Vals (ks.map kV) us->ItemsAre (c6 P w) ks us
 | [],_,r=>by rw [List.map_nil] at r;cases r;exact .nil
 | k::ks,_,r=>by
   rw [bD] at r
   cases r with
   | cons h t=>exact .cons (x_ h) (Hw t)
abbrev KT (H:Hp):List (List Key×V)->List (List Key×Addr×Value)->Prop:=Paired fun p q=>p.1=q.1/\H q.2.1=some (.tup (p.1.map kV))/\RelV p.2 q.2.2
theorem KT.val {kvs:List (List Key×V)} {xs:List (List Key×Addr×Value)} (r:KT H kvs xs) (k:List Key):mV (d9 kvs k) ((atKey xs k).map (·.2)):=by
 induction r with
 | nil=>exact True.intro
 | @cons p q ps qs h t ih=>
   obtain ⟨h1,_,h2⟩:=h
   by_cases e:p.1=k
   . have e':q.1=k:=h1.symm.trans e
     have b:atKey (q::qs) k=some q.2:=by simp [atKey,tS,e']
     rw [gH e,b];exact h2
   . have e':¬ q.1=k:=fun z=>e (h1.trans z)
     have b:atKey (q::qs) k=atKey qs k:=by simp [atKey,tS,e']
     rw [eX e,b];exact ih
theorem KT.repl {kvs:List (List Key×V)} {xs:List (List Key×Addr×Value)} (r:KT H kvs xs) (k:List Key) (ry:RelV y u):
  KT H (kvs.map fun kv=>if kv.1=k then (kv.1,y) else kv) (xs.map (putAt k u)):=by
 induction r with
 | nil=>exact .nil
 | @cons p q ps qs h t ih=>
   rw [bD,bD]
   refine .cons ?_ ih
   obtain ⟨h1,h2,h3⟩:=h
   unfold putAt
   by_cases e:p.1=k
   . rw [aB e,aB (h1.symm.trans e)];exact ⟨h1,h2,ry⟩
   . rw [az e,az (fun z=>e (h1.trans z))];exact ⟨h1,h2,h3⟩
theorem KT.put {kvs:List (List Key×V)} {xs:List (List Key×Addr×Value)} (r:KT H kvs xs) (k:List Key) {b:Addr} (hb:H b=some (.tup (k.map kV))) (ry:RelV y u):
  KT H (putK kvs k y) (storedH xs k b u):=by
 have e:(kvs.any fun kv=>decide (kv.1=k))=(atKey xs k).isSome:=by
  rw [qB,(r.val k).oK,Option.isSome_map]
 unfold putK storedH
 rw [e]
 by_cases q:(atKey xs k).isSome=true
 . rw [aB q,aB q];exact r.repl k ry
 . rw [az q,az q];exact Paired.snoc r ⟨Z,hb,ry⟩
variable {H':Hp}
theorem KT.keeps {kvs:List (List Key×V)} {xs:List (List Key×Addr×Value)} (r:KT H kvs xs) (ht:∀b ys,H b=some (.tup ys)->H' b=some (.tup ys)):KT H' kvs xs:=
 Paired.Vg r fun _ _ z=>⟨z.1,ht _ _ z.2.1,z.2.2⟩
variable {kvs:List (Key×V)}
section
variable {P:Program} {w:World} {H:Hp} {h:Heap} {a:Addr}
theorem WX {u:HO} (ok:gM P w H h) (e:Rd H a u):dN P w H h a u:=e.ok ok
theorem rA (ok:gM P w H h) (e:Rd H a (.dK kvs)):kvs.length<=sizeLine/\(a==sysModules)=false/\∃vs,KV kvs vs/\h.DictOf (c6 P w) a vs:=
 show dN P w H h a (.dK kvs) from WX ok e
theorem DO (ok:gM P w H h) (e:H a=some (.dK kvs)):kvs.length<=sizeLine/\(a==sysModules)=false/\∃vs,KV kvs vs/\h.DictOf (c6 P w) a vs:=rA ok (.inl e)
theorem zJ {ks:List Key} (ok:gM P w H h) (e:H a=some (.tup (ks.map kV))):(tupleKind (c6 P w)).is h ks a:=by
 obtain ⟨_,its,r,o,h1,h2,n,h3⟩:=(show dN P w H h a (.tup (ks.map kV)) from ok a _ e)
 exact ⟨o,its.toArray,n,h1,h2,h3,by simpa using Hw r⟩
theorem AX {kvs:List (List Key×V)} (ok:gM P w H h) (e:Rd H a (.dT kvs)):kvs.length<=sizeLine/\(a==sysModules)=false/\
  ∃xs,KT H kvs xs/\h.DictOfH (tupleKind (c6 P w)) a xs:=by
 obtain ⟨z,y,xs,r,o,es,ep,h1,h2,h3,h4,h5⟩:=(show dN P w H h a (.dT kvs) from WX ok e)
 refine ⟨z,y,xs,r,o,es,ep,h1,h2,h3,h4,fun x hx=>?_,h5⟩
 have all:∀{l:List (List Key×V)} {m:List (List Key×Addr×Value)},KT H l m->∀x∈m,(tupleKind (c6 P w)).is h x.1 x.2.1:=by
  intro l m q
  induction q with
  | nil=>intro x hx;exact nomatch hx
  | @cons p q ps qs hq t ih=>
    intro x hx
    rcases c_.mp hx with e|hx
    . subst e
      exact zJ ok (by rw [<-hq.1];exact hq.2.1)
    . exact ih x hx
 exact all r x hx
theorem ads {kvs:List (List Key×V)} (ok:gM P w H h) (e:H a=some (.dT kvs)):kvs.length<=sizeLine/\(a==sysModules)=false/\
  ∃xs,KT H kvs xs/\h.DictOfH (tupleKind (c6 P w)) a xs:=AX ok (.inl e)
end
def cO (H:Hp) (a:Addr) (y:V) (r:Option V):Prop:=
 (∃kvs k,Rd H a (.dK kvs)/\y=kV k/\r=d9 kvs k)\/∃kvs k b,Rd H a (.dT kvs)/\y = .ref b/\H b=some (.tup (k.map kV))/\r=d9 kvs k
def sj (H:Hp) (a:Addr) (y v:V) (H':Hp):Prop:=
 (∃kvs k,H a=some (.dK kvs)/\y=kV k/\kvs.length<sizeLine/\H'=upd H a (.dK (putK kvs k v)))\/
 ∃kvs k b,H a=some (.dT kvs)/\y = .ref b/\H b=some (.tup (k.map kV))/\kvs.length<sizeLine/\H'=upd H a (.dT (putK kvs k v))
variable {a:Addr}
theorem cO.k {k:Key} (e:H a=some (.dK kvs)):cO H a (kV k) (d9 kvs k):= .inl ⟨kvs,k, .inl e,Z,Z⟩
theorem sj.k {k:Key} {v:V} (e:H a=some (.dK kvs)) (hl:kvs.length<sizeLine):sj H a (kV k) v (upd H a (.dK (putK kvs k v))):= .inl ⟨kvs,k,e,Z,hl,Z⟩
variable {h':Heap} {Q:Unit->Shared->Prop}
section
variable {X:Cx} {pins:AO} {σ:St} {H:Hp} {s:Shared} {a:Addr} {y v:V} {u r:Value} {o:Option V} {A:Around} {E:VS}
theorem Inv.big (I:Inv X pins σ H s):sysModules<s.heap.objs.size:=by
 have h:mainGlobals<s.heap.objs.size:=(I.mod.glob.keeps I.bk).lt
 exact Nat.lt_trans (by decide) h
theorem Sw {Q:VS} (hu:A.units+1<cLine) (I:Inv X pins σ H s) (g:cO H a y (some v)) (ry:RelV y u) (h:∀w' s',Inv X pins σ H s'->RelV v w'->Q w' s'):
  wpAny (model X.prog X.w) A (getItem (.ref a) u) Q E s:=by
 rcases g with ⟨kvs,k,e,ey,l⟩|⟨kvs,k,b,e,ey,eb,l⟩
 . subst ey
   obtain ⟨z,hd,vs,rel,dd⟩:=rA I.hok e
   obtain ⟨w',hw,rw'⟩:=mV.some_of (v:=v) (o:=valueAt vs k) (by rw [l];exact rel.val k)
   exact wpAny_getItem_of (x_ ry) dd.mapOf hw (h w' _ (I.tok _) rw')
 . subst ey
   cases (show u=Value.ref b from ry)
   obtain ⟨z,hd,xs,rel,dd⟩:=AX I.hok e
   obtain ⟨w',hw,rw'⟩:=mV.some_of (v:=v) (o:=(atKey xs k).map (·.2)) (by rw [l];exact rel.val k)
   obtain ⟨p,hp,hp2⟩:=lP.mp hw
   refine wpAny_getItem_heap (Qp hu) (zJ I.hok eb) dd hp ?_
   rw [hp2]
   exact h w' _ (I.tok _) rw'
theorem agW {Q:VS} (hu:A.units+1<cLine) (I:Inv X pins σ H s) (g:cO H a y o) (ry:RelV y u) (h:∀s',Inv X pins σ H s'->Q (.bool o.isSome) s'):
  wpAny (model X.prog X.w) A (compareOp .In u (.ref a)) Q E s:=by
 rcases g with ⟨kvs,k,e,ey,l⟩|⟨kvs,k,b,e,ey,eb,l⟩
 . subst ey
   obtain ⟨z,hd,vs,rel,dd⟩:=rA I.hok e
   refine wpAny_in_of (x_ ry) hd dd.mapOf ?_
   rw [<-(rel.val k).oK,<-l]
   exact h _ (I.tok _)
 . subst ey
   cases (show u=Value.ref b from ry)
   obtain ⟨z,hd,xs,rel,dd⟩:=AX I.hok e
   refine wpAny_in_heap (Qp hu) (zJ I.hok eb) hd dd ?_
   have q:=(rel.val k).oK
   rw [Option.isSome_map] at q
   rw [<-q,<-l]
   exact h _ (I.tok _)
theorem Yi {Q:VS} (hu:A.units+1<cLine) (I:Inv X pins σ H s) (g:cO H a y o) (ry:RelV y u) (h:∀s',Inv X pins σ H s'->Q (.bool (!o.isSome)) s'):
  wpAny (model X.prog X.w) A (compareOp .NotIn u (.ref a)) Q E s:=by
 rcases g with ⟨kvs,k,e,ey,l⟩|⟨kvs,k,b,e,ey,eb,l⟩
 . subst ey
   obtain ⟨z,hd,vs,rel,dd⟩:=rA I.hok e
   refine wpAny_notIn_of (x_ ry) hd dd.mapOf ?_
   rw [<-(rel.val k).oK,<-l]
   exact h _ (I.tok _)
 . subst ey
   cases (show u=Value.ref b from ry)
   obtain ⟨z,hd,xs,rel,dd⟩:=AX I.hok e
   refine wpAny_notIn_heap (Qp hu) (zJ I.hok eb) hd dd ?_
   have q:=(rel.val k).oK
   rw [Option.isSome_map] at q
   rw [<-q,<-l]
   exact h _ (I.tok _)
theorem AY (I:Inv X pins σ H s) (mu:R3 (H a)) (hs:Heap.SameBut a s.heap h') (he:∃q,h'.get? a=some q) (new:dN X.prog X.w (upd H a ob) h' a ob):
  Inv X pins σ (upd H a ob) { s with heap:=h',toks:=t' }:=
 I.write (x:=a) (e:=a) mu (.inl rfl) (fun b q hb z=>(hs.2 b hb).trans z) he new
theorem Ku {w:World} {vs:List (Key×Value)} (z:kvs.length<=sizeLine) (hd:(a==sysModules)=false) (rel:KV kvs vs) (dd:h'.DictOf (c6 P w) a vs):
  dN P w H' h' a (.dK kvs):=⟨z,hd,vs,rel,dd⟩
theorem Sx (hu:A.units+1<cLine) (I:Inv X pins σ H s) (g:sj H a y v H') (ry:RelV y u) (rv:RelV v r) (h:∀s',Inv X pins σ H' s'->Q () s'):
  wpAny (model X.prog X.w) A (setItem (.ref a) u r) Q E s:=by
 rcases g with ⟨kvs,k,e,ey,l,eH⟩|⟨kvs,k,b,e,ey,eb,l,eH⟩
 . subst ey eH
   obtain ⟨z,hd,vs,rel,dd⟩:=DO I.hok e
   have hz:vs.length<=sizeLine:=by rw [<-rel.length];exact z
   have hl:(putK kvs k v).length<=sizeLine:=by have:=wc kvs k v;omega
   refine wpAny_setItem_pairs (hsz:=hz) (x_ ry) dd fun h' BN hs=>h _ ?_
   have he:∃q,h'.get? a=some q:=let ⟨q,_,_,hq,_⟩:=BN;⟨q,hq⟩
   exact AY I (by rw [e];exact True.intro) hs he (Ku hl hd (rel.put k rv) BN)
 . subst ey eH
   cases (show u=Value.ref b from ry)
   obtain ⟨z,hd,xs,rel,dd⟩:=ads I.hok e
   have hz:xs.length<=sizeLine:=by rw [<-Paired.length rel];exact z
   have hl:(putK kvs k v).length<=sizeLine:=by have:=wc kvs k v;omega
   refine wpAny_setItem_heap (hsz:=hz) (Qp hu) (zJ I.hok eb) dd fun h' BN hs=>h _ ?_
   obtain ⟨q,es,ep,hq,h2,h3,h4,_,h5⟩:=BN
   refine AY I (by rw [e];exact True.intro) hs ⟨q,hq⟩ ⟨hl,hd,_,(rel.put k eb rv).keeps fun c ys ec=>?_,q,es,ep,hq,h2,h3,h4,h5⟩
   rw [av (iW ec e (fun z=>nomatch z))]
   exact ec
end
section
variable {X:Cx} {pins:AO} {σ:St} {H:Hp} {s:Shared} {a:Addr} {kvs:List (Key×V)} {k:Key} {u:Value} {A:Around} {E:VS}
theorem Sy (I:Inv X pins σ H s) (e:H a=some (.dK kvs)) (ry:RelV (kV k) u) (l:(d9 kvs k).isSome=true) (h:∀s',Inv X pins σ (upd H a (.dK (nG kvs k))) s'->Q () s'):
  wpAny (model X.prog X.w) A (delItem (.ref a) u) Q E s:=by
 obtain ⟨z,hd,vs,rel,dd⟩:=DO I.hok e
 refine wpAny_delItem_slot dd.typeIs (by decide) PySem.F.slot_dict_delitem
  (call_meetsIn PySem.F.slot_dict_delitem dd.typeIs PySem.F.entry_dict_delitem (PySem.F.args_dict_delitem_2 _ _) (meets_dict_delitem_pairs (c6 X.prog X.w) a (x_ ry)) ⟨vs,dd,by rw [<-rel.length];exact z,by rw [<-(rel.val k).oK];exact l,fun h' BN hs=>h _ ?_⟩)
 have he:∃q,h'.get? a=some q:=let ⟨q,_,_,hq,_⟩:=BN;⟨q,hq⟩
 exact AY I (by rw [e];exact True.intro) hs he (Ku (fq (VA kvs k) z) hd (rel.drop k) BN)
theorem adt {Q:VS} (I:Inv X pins σ H s) (e:Rd H a (.dK kvs)) (h:∀t s',Inv X pins σ H s'->Q (.int kvs.length t) s'):wpAny (model X.prog X.w) A (call (.builtin "len") [.ref a]) Q E s:=by
 obtain ⟨z,hd,vs,rel,dd⟩:=rA I.hok e
 refine call_len_dict hd dd (by rw [<-rel.length];rw [fu] at z;omega) ?_
 rw [<-rel.length]
 exact h _ _ (I.tok _)
end
def aar (i:Expr):Prop:=∀ov iv,subscripted i false ov iv=operate [ov,iv] (getItem ov iv)
variable {E:VS} {env:Env} {value:Expr} {pos:Pos}
theorem Yj {prog:Program} {w:World} {slice:Expr} {T id:String} {Q:VS}
  (hl:typeLookup (.type T) "__getitem__"=pure (some (.builtin id))) (hs:aar slice)
  (h:wpAny (model prog w) A (eval value env) (fun o s₁=>wpAny (model prog w) A (eval slice env) (fun i s₂=>s₂.TypeIs o T/\wpAny (model prog w) A (getItem o i) Q E s₂) E s₁) E s):
  wpAny (model prog w) A (eval (.Subscript value slice pos) env) Q E s:=by
 refine Subscript_ (gP h (fun o s₁ h₁=>gP h₁ (fun i s₂ h₂=>?_) fun _ _ x=>x) fun _ _ x=>x)
 obtain ⟨hT,h₂⟩:=h₂
 unfold subscriptTail
 refine aq ?_
 rw [getitemInPython_of_ne hT.not_modules]
 refine aq (wpAny_specialOf hT hl ?_)
 have fin:wpAny (model prog w) A (subscripted slice false o i) (fun r s₃=>wpAny (model prog w) A (letTemporaryGo value o r >>= fun _=>pure r) Q E s₃) E s₂:=by
  rw [hs o i]
  exact wpAny_operating (gP h₂ (fun r s₃ h₃=>aq (wpAny_letTemporaryGo (aL h₃))) fun _ _ x=>x)
 first
  | exact aL (aq fin)
  | exact aq (aL (aq fin))
  | exact aq fin
variable {X:Cx}
theorem Nk {o:Option V} (I:Inv X pins σ H s) (g:cO H a y o):s.TypeIs (.ref a) "dict":=by
 rcases g with ⟨kvs,k,e,_,_⟩|⟨kvs,k,b,e,_,_,_⟩
 . obtain ⟨_,_,vs,_,dd⟩:=rA I.hok e
   exact dd.typeIs
 . obtain ⟨_,_,xs,_,dd⟩:=AX I.hok e
   exact dd.typeIs
inductive VB (Q:VK) (x:V) (y:V) (H2:Hp):Prop
 | mk  (a v:_) (_:x = .ref a) (_:cO H2 a y (some v)) (_:Q v H2)
def aas (ty:TE) (σ:St) (Q:VK):V->Hp->Prop:=fun x H1=>ty σ H1 (VB Q x)
def adu (td ty:TE):TE:=fun σ H Q=>td σ H (aas ty σ Q)
inductive Yk (Q:VK) (y:V) (x:V) (H2:Hp):Prop
 | mk  (a o:_) (_:x = .ref a) (_:cO H2 a y o) (_:Q (.bl o.isSome) H2)
def adv (td:TE) (σ:St) (Q:VK):V->Hp->Prop:=fun y H1=>td σ H1 (Yk Q y)
def agX (ty td:TE):TE:=fun σ H Q=>ty σ H (adv td σ Q)
inductive QS (Q:VK) (y:V) (x:V) (H2:Hp):Prop
 | mk  (a o:_) (_:x = .ref a) (_:cO H2 a y o) (_:Q (.bl (!o.isSome)) H2)
def VC (td:TE) (σ:St) (Q:VK):V->Hp->Prop:=fun y H1=>td σ H1 (QS Q y)
def Yl (ty td:TE):TE:=fun σ H Q=>ty σ H (VC td σ Q)
inductive VD (D:Ends) (σ:St) (v:V) (x:V) (y:V) (H3:Hp):Prop
 | mk  (a H4:_) (_:x = .ref a) (_:sj H3 a y v H4) (_:D.nx σ H4)
def VE (ty:TE) (D:Ends) (σ:St) (v:V):V->Hp->Prop:=fun x H2=>ty σ H2 (VD D σ v x)
def aat (td:TE) (ty:TE) (D:Ends) (σ:St):V->Hp->Prop:=fun v H1=>td σ H1 (VE ty D σ v)
def adw (td ty tv:TE):TS:=fun D σ H=>tv σ H (aat td ty D σ)
inductive VF (D:Ends) (σ:St) (x:V) (y:V) (H2:Hp):Prop
 | mk  (a kvs k:_) (_:x = .ref a) (_:H2 a=some (.dK kvs)) (_:y=kV k) (_:(d9 kvs k).isSome=true) (_:D.nx σ (upd H2 a (.dK (nG kvs k))))
def aau (ty:TE) (D:Ends) (σ:St):V->Hp->Prop:=fun x H1=>ty σ H1 (VF D σ x)
def adx (td ty:TE):TS:=fun D σ H=>td σ H (aau ty D σ)
section
variable {X:Cx} {o i e value:Expr} {pos pos' tpos:Pos} {td ty tv:TE}
end
theorem Kv {w:World} (h:Heap) (hb:sysModules<h.objs.size):dN P w H (h.push { cls:= .type "dict",data:= .dict #[] }) h.objs.size (.dK []):=
 ⟨f_ _,Fx.mpr (cu (dP hb)),[], .nil,Heap.DictOf.new h⟩
def aav:TE:=fun _ H Q=>∀p,H p=none->Q (.ref p) (upd H p (.dK []))
section
variable {X:Cx} {pos:Pos}
end
def zK:List (TE×TE)->St->Hp->(List (V×V)->Hp->Prop)->Prop
 | [],_,H,Q=>Q [] H
 | (tk,tv)::r,σ,H,Q=>tk σ H fun x H1=>tv σ H1 fun y H2=>zK r σ H2 fun ps H3=>Q ((x,y)::ps) H3
abbrev VV:List (V×V)->List (Value×Value)->Prop:=Paired fun p q=>RelV p.1 q.1/\RelV p.2 q.2
def PPs (X:Cx) (pos:Pos) (keys:List (Option Expr)) (values:List Expr) (DP:List (TE×TE)):Prop:=
 ∀(pins:AO) (s:Shared) (σ:St) (H:Hp) (Q:List (V×V)->Hp->Prop),Inv X pins σ H s->zK DP σ H Q->
  wpAny (model X.prog X.w) X.A (evalPairs (pairTrees keys values X.env pos)) (fun vs s'=>∃ps H',Inv X pins σ H' s'/\VV ps vs/\Q ps H') X.xe s
def w6 (kvs more:List (Key×V)):List (Key×V):=more.foldl (fun acc kv=>putK acc kv.1 kv.2) kvs
theorem KV.merge:∀{more:List (Key×V)} {rs:List (Key×Value)} {kvs:List (Key×V)} {vs:List (Key×Value)},KV more rs->KV kvs vs->KV (w6 kvs more) (merged vs rs):=by
 intro more rs kvs vs r
 unfold KV at r
 induction r generalizing kvs vs with
 | nil=>intro q;exact q
 | @cons p q ps qs h t ih=>
   intro r0
   have e:KV (putK kvs p.1 p.2) (stored vs q.1 q.2):=by
    have:=r0.put p.1 h.2
    rw [<-h.1];exact this
   exact ih e
theorem yU:∀(more kvs:List (Key×V)),(w6 kvs more).length<=kvs.length+more.length
 | [],kvs=>by show kvs.length<=kvs.length+0;omega
 | p::r,kvs=>by
   have h1:=yU r (putK kvs p.1 p.2)
   have h2:=wc kvs p.1 p.2
   show (w6 (putK kvs p.1 p.2) r).length<=_
   rw [mU];omega
theorem DQ {P:Program} {w:World}:∀{kvs:List (Key×V)} {ws:List (Value×Value)},VV (kvs.map fun kv=>(kV kv.1,kv.2)) ws->∃rs,Carries (c6 P w) ws rs/\KV kvs rs
 | [],_,r=>by rw [List.map_nil] at r;cases r;exact ⟨[],True.intro, .nil⟩
 | p::kvs,_,r=>by
   rw [bD] at r
   cases r with
   | @cons a b as bs h t=>
     obtain ⟨rs,c,q⟩:=DQ (P:=P) (w:=w) t
     obtain ⟨b1,b2⟩:=b
     exact ⟨(p.1,b2)::rs,⟨x_ h.1,Z,c⟩, .cons ⟨Z,h.2⟩ q⟩
def ady (DP:List (TE×TE)):TE:=fun σ H Q=>∀p,H p=none->zK DP σ (upd H p (.dK [])) fun ps H2=>H2 p=some (.dK [])/\∃kvs:List (Key×V),ps=kvs.map (fun kv=>(kV kv.1,kv.2))/\kvs.length<=15/\Q (.ref p) (upd H2 p (.dK (w6 [] kvs)))
def IsD (H:Hp) (a:Addr):Prop:=(∃kvs,Rd H a (.dK kvs))\/∃kvs,Rd H a (.dT kvs)
theorem Kw (I:Inv X pins σ H s) (d:IsD H a):
  s.TypeIs (.ref a) "dict"/\(∀b,Value.ref a = .ref b->∃ob,s.heap.get? b=some ob/\ob.dict=none)/\(a==sysModules)=false:=by
 rcases d with ⟨kvs,e⟩|⟨kvs,e⟩
 . obtain ⟨_,hd,vs,_,dd⟩:=rA I.hok e
   refine ⟨dd.typeIs,fun b q=>?_,hd⟩
   cases q
   obtain ⟨ob,_,_,h1,h2,_⟩:=dd
   exact ⟨ob,h1,h2.2.1⟩
 . obtain ⟨_,hd,xs,_,dd⟩:=AX I.hok e
   refine ⟨dd.typeIs,fun b q=>?_,hd⟩
   cases q
   obtain ⟨ob,_,_,h1,h2,_⟩:=dd
   exact ⟨ob,h1,h2.2.1⟩
section
variable {X:Cx} {pins:AO} {σ:St} {H:Hp} {s:Shared} {a:Addr} {y d:V} {u r:Value} {o:Option V} {A:Around} {E:VS}
end
section
variable {X:Cx} {o e f:Expr} {apos cpos:Pos} {td ty tx:TE}
end
section
variable {X:Cx} {pins:AO} {σ:St} {H:Hp} {s:Shared} {a:Addr} {kvs:List (Key×V)} {A:Around} {E:VS}
end
section
variable {X:Cx} {pins:AO} {σ:St} {H:Hp} {s:Shared} {a:Addr} {y:V} {u:Value} {A:Around} {E:VS}
end
end L2
namespace Att
open PySem PySem.W PySem.Calls PyProof.Rows
theorem DR {P:Params} {h:Heap}:∀(ns:List Int) (vs:List Value),WellAll P h vs (ns.map WData.int)->IntsAre vs ns:=by
 intro ns
 induction ns with
 | nil=>
   intro vs w
   rw [List.map_nil] at w
   cases w
   exact .nil
 | cons n ns ih=>
   intro vs w
   rw [bD] at w
   cases w with
   | cons a b=>
     cases a
     exact .cons _ _ (ih _ b)
theorem SA {l:OpenLaw} {n:Nat} (hn:l.most=some n) {P:Params} {h:Heap} {args:List WData} {vals:List Value}
  (hpre:l.row.toRowW.claim.pre args=true) (hwl:WellAll P h vals args):
  ∃a vs ns,vals=[Value.ref a]/\args=[WData.list (ns.map WData.int)]/\h.get? a=some { cls:= .type "list",data:= .seq vs.toArray }/\IntsAre vs ns/\ns.length<=n:=by
 have hsh:WShape.hasAll [] args [.list .int]=true:=(pre_splitW hpre).1
 have hc:l.pre.holds [] { args:=args }=true:=(pre_splitW hpre).2
 obtain ⟨d,r,rfl,h1,h2⟩:=hasAllW_cons hsh
 obtain rfl:=hasAllW_nil h2
 obtain ⟨xs,rfl,h3⟩:=hasW_list h1
 obtain ⟨ns,rfl⟩:=items_int h3
 have hlen:ns.length<=n:=by
  unfold OpenLaw.pre at hc
  have h4:(WTm.not (.lt (.lit (.int (n:Int))) (.len (.arg 0)))).holds [] { args:=[.list (ns.map .int)] }=true:=by
   have h4:=(holds_andW hc).1
   rw [hn] at h4
   exact h4
  have h5:=condW_of h4 (w_not (w_lt w_lit (w_len_list (w_arg rfl))))
  rw [aF] at h5
  refine Nat.le_of_not_lt fun q=>?_
  have q':(n:Int)<((ns.length:Nat):Int):=by omega
  first
   | (rw [cg q'] at h5;exact absurd h5 (by decide))
   | (simp at h5;omega)
 cases hwl with
 | cons w1 w2=>
   cases w2
   cases w1 with
   | list ho hall=>exact ⟨_,_,ns,Z,Z,ho,DR ns _ hall,hlen⟩
theorem SD (l:OpenLaw) (args:List WData):l.row.toRowW.claim.post args (.bool true) args=true:=
 postW_of (r:=l.row.toRowW) (X:=(true==true))
  (show WShape.has [] (.bool true) .bool=true by first|rfl|decide|simp [WShape.has,WShape.arms,WShape.armsAll])
  (show (WTm.eq .res (.lit (.bool true))).value [] { args:=args,res:=some (.bool true),after:=args }=some (.bool (true==true)) from w_eq_bool (w_res rfl) w_lit) rfl
theorem Nl {l:OpenLaw} {n:Nat} {q:Program} {loose:List Str} {XP:(Str->Option Value)->Heap->Prop} {YP:World->Heap->Prop} {d:DefRec}
  (hn:l.most=some n) (hdf:d.params.defaults=[])
  (call:∀(w:World) (s₀ s₁:Shared) (mg mb:SO) (fa:Addr) (o:Obj) (pm cd doc:Value) (a:Addr) (vs:List Value) (ns:List Int),
    Ground q loose [] XP w s₀ mg mb s₁.heap->YP w s₁.heap->
    s₁.heap.get? fa=some o->o.data = .func (docDef d.name d.params d.body d.scope pm cd doc)->s₁.heap.CodeRec cd d.name->mg d.name=some (.ref fa)->
    s₁.heap.get? a=some { cls:= .type "list",data:= .seq vs.toArray }->IntsAre vs ns->ns.length<=n->s₁.gens=#[]->
    codeAny (model l.prog w) callerA (.call (.ref fa) ⟨[.ref a],[]⟩) (fun r s'=>r = .ok (.ret (.bool true))/\OldK s₁.heap s'.heap/\s'.os=s₁.os/\AllBare s'.gens) s₁):
  WalkO q loose XP YP l.row.toRowW d [] (fun f vs=>PySem.call f vs):=by
 intro w s₀ s₁ mg mb G Y fa o pm cd doc dV kV ho hd hcd hD hmg hg args vals as hpre hlay hrd hwl hlo
 obtain rfl:dV = .none:=Dflts.none hD hdf
 obtain rfl:kV = .none:=Dflts.noKw hD
 obtain ⟨a,vs,ns,rfl,rfl,hobj,hints,hlen⟩:=SA hn hpre hwl
 refine enter_call (AQ (call w s₀ s₁ mg mb fa o pm cd doc a vs ns G Y ho (fd_plain hd) hcd hmg hobj hints hlen hg) fun r s' hq=>?_)
 obtain ⟨rfl,h2,h3,h4⟩:=hq
 exact ⟨.inl ⟨.bool true, .bool true,[],Z,fun _=>rfl, .bool true,SD l _,fun _=>⟨List.Pairwise.nil,fun _ hm=>(nomatch hm)⟩⟩,h2,h3,h4⟩
section
variable {prog:Program} {w:World} {A:Around} {E:VS} {s:Shared} {K:Frag}
end
end Att
namespace L2
open PySem PySem.Spec PyProof.Rows
theorem Hx:∀{vs:List Value} {ns:List Int},IntsAre vs ns->Vals (ns.map V.int) vs
 | _,_, .nil=> .nil
 | _,_, .cons n t h=> .cons ⟨t,Z⟩ (Hx h)
def VG (H:Hp):Prop:=∀b,H b=none\/∃o xs,H b=some (.fm o (.lst xs))
variable {P:Program} {K:Fg} {mg:SO} {CX:yR} {a:Addr} {fd:FuncData} {x:Str} {sp:Sp} {ns:List Int}
theorem VH {w:World} {mb:SO} {k:Nat} {fa:Addr} {s₁:Shared} {vs:List Value}
  (KX:K.In s₁.heap) (hns:s₁.heap.Ns mainGlobals mg) (hb:s₁.heap.Ns builtinsNs mb) (hbb:∀x:Str,x ≠ "__name__"->mb x=bootBuiltins x) (hlim:s₁.heap.NoLimit) (hg:s₁.gens=#[])
  (ha:s₁.heap.get? a=some { cls:= .type "list",data:= .seq vs.toArray }) (hi:IntsAre vs ns) (hl:ns.length<=sizeLine) (hr:dD k callerA)
  (F:∀base:Heap,K.In base->base.Ns mainGlobals mg->iA P w K mg base CX k fa fd [x] sp) (hbind:∀(s:Shared) (u:Value),BindsTo s fd ⟨[u],[]⟩ [(x,u)])
  (pC:∀H:Hp,VG H->aC K H a (ns.map V.int)->sp [.ref a] H (fun v _=>v = .bl true) fun _ _ _=>False)
  (hCX:∀H e s',CX [] H s₁ (fun _ _ _=>False) e s'->False):
  codeAny (model P w) callerA (.call (.ref fa) ⟨[.ref a],[]⟩) (fun r s'=>r = .ok (.ret (.bool true))/\OldK s₁.heap s'.heap/\s'.os=s₁.os/\AllBare s'.gens) s₁:=by
 have rv:=Hx hi
 have agY:=hi.length
 have core:∀H:Hp,VG H->aC K H a (ns.map V.int)->gM P w H s₁.heap->(∀b,H b≠none->b=a)->(H a≠none->K.lookup a=none)->
   codeAny (model P w) callerA (.call (.ref fa) ⟨[.ref a],[]⟩) (fun r s'=>r = .ok (.ret (.bool true))/\OldK s₁.heap s'.heap/\s'.os=s₁.os/\AllBare s'.gens) s₁:=by
  intro H hO hS hok hA hK
  have OP:∀{b:Addr} {o:Obj},s₁.heap.get? b=some o->H b=none->(x8 s₁.heap H).get? b=some o:=fun e n=>Vh e n
  have Sm:∀{b:Addr} {o:Obj} {es:Array DictEntry} {ep:Nat},s₁.heap.get? b=some o->o.data = .dict es ep->H b=none:=fun {b o es ep} e d=>by
   cases q:H b with
   | none=>rfl
   | some u=>
     have e':b=a:=hA b (by rw [q];simp)
     subst e'
     rw [ha] at e;cases e
     have d':Data.seq vs.toArray _=Data.dict es ep:=d
     cases d'
  have WY:∀{b:Addr} {m:SO},s₁.heap.Ns b m->(x8 s₁.heap H).Ns b m:=fun {b m} ⟨o,es,ep,e,d,r⟩=>⟨o,es,ep,OP e (Sm e d),d,r⟩
  have hKb:K.In (x8 s₁.heap H):=fun b o e=>OP (KX b o e) (by
   cases q:H b with
   | none=>rfl
   | some u=>
     have e':b=a:=hA b (by rw [q];simp)
     subst e'
     rw [hK (by rw [q];simp)] at e;cases e)
  have hM:Mod K mg (x8 s₁.heap H):=⟨hKb,WY hns,⟨mb,WY hb,hbb⟩,let ⟨mc,h1,h2⟩:=hlim;⟨mc,WY h1,h2⟩⟩
  have e0:Ct P w K mg (x8 s₁.heap H) callerA [] s₁ H:=⟨Z,hM,fun b o e=>XZ e,Nat.le_of_eq (R4 _ _),trivial,fun b hb=>absurd (show b∈([] :List Addr) from hb) (by simp),hok, .of_eq hg⟩
  refine AQ ((F _ hKb (WY hns)).run callerA [] s₁ H ⟨[.ref a],[]⟩ [.ref a] [.ref a] _ _ hr e0 (hbind s₁ (.ref a)) (.cons rfl .nil) (pC H hO hS)) fun r s' h=>?_
  cases r with
  | error e=>exact (hCX H e s' h).elim
  | ok fl=>
    cases fl with
    | next=>exact False.elim h
    | brk=>exact False.elim h
    | cont=>exact False.elim h
    | ret u=>
      obtain ⟨v,H',os,bare,un,agZ,r',q⟩:=h
      have q':v = .bl true:=q
      subst q'
      obtain rfl:u=Value.bool true:=r'
      refine ⟨Z,OldK.of_keep fun b o e=>?_,os,bare⟩
      cases q:H b with
      | none=>exact un.keep b o e q (by intro z;exact absurd (show b∈([] :List Addr) from z) (by simp)) (by simp)
      | some u=>
        rcases hO b with z|⟨ob,xs,z⟩
        . rw [q] at z;cases z
        . have z2:=un.mW b ob _ z
          obtain ⟨e1,_⟩:=hok b _ z
          obtain ⟨e2,_⟩:=agZ b _ z2
          rw [e] at e1;cases e1
          exact e2
 cases hk:K.lookup a with
 | some o=>
   have e:=KX a o hk
   rw [ha] at e
   cases e
   refine core (fun _=>none) (fun _=> .inl rfl) (.inr ⟨_,vs.toArray,_,hk,Z,Z,Z,by rw [iz,agY];exact hl,by simpa using rv⟩) (fun b u z=>by have z':(none:Option HO)=some u:=z;cases z') (fun b z=>absurd rfl z) fun z=>absurd rfl z
 | none=>
   refine core (fun b=>if b=a then some (.fm { cls:= .type "list",data:= .seq vs.toArray } (.lst (ns.map V.int))) else none) (fun b=>?_) (.inl (.inr ⟨{ cls:= .type "list",data:= .seq vs.toArray },aB rfl⟩)) (fun b u z=>?_) (fun b z=>?_) fun _=>hk
   . by_cases hb:b=a
     . exact .inr ⟨_,_,aB hb⟩
     . exact .inl (az hb)
   . by_cases hb:b=a
     . have z':=(aB hb).symm.trans z
       cases z'
       subst hb
       exact ⟨ha,by rw [aF];exact hl,vs,_,rv,ha⟩
     . have z':=(az hb).symm.trans z
       cases z'
   . by_cases hb:b=a
     . exact hb
     . exact absurd (az hb) z
variable {n:Nat} {XP:(Str->Option Value)->Heap->Prop} {YP:World->Heap->Prop}
theorem Ym {l:PySem.W.OpenLaw} {k:Nat} {q:Program} {loose:List Str} {d:DefRec} {K:Params->Fg} {CX:World->yR} {sp:World->Sp}
  (hn:l.most=some n) (hn2:n<=sizeLine) (hdf:d.params.defaults=[]) (hr:dD k callerA)
  (hY:∀(w:World) (h:Heap),YP w h->(K w.params).In h)
  (F:∀(w:World) (mg:SO) (fa:Addr) (h:Heap),(K w.params).In h->h.Ns mainGlobals mg->mg d.name=some (.ref fa)->
    ∃fd:FuncData,(∀(s:Shared) (u:Value),BindsTo s fd ⟨[u],[]⟩ [(x,u)])/\
     ∀base:Heap,(K w.params).In base->base.Ns mainGlobals mg->iA l.prog w (K w.params) mg base (CX w) k fa fd [x] (sp w))
  (pC:∀(w:World) (H:Hp) (a:Addr) (ns:List Int),ns.length<=n->VG H->aC (K w.params) H a (ns.map V.int)->sp w [.ref a] H (fun v _=>v = .bl true) fun _ _ _=>False)
  (hCX:∀(w:World) (H:Hp) (s:Shared) (e:Value) (s':Shared),CX w [] H s (fun _ _ _=>False) e s'->False):
  PySem.W.WalkO q loose XP YP l.row.toRowW d [] (fun f vs=>PySem.call f vs):=by
 refine Att.Nl hn hdf fun w s₀ s₁ mg mb fa o pm cd doc a vs ns G Y ho hd hcd hmg hobj hints hlen hg=>?_
 have KX:=hY w _ Y
 obtain ⟨fd,hb,hF⟩:=F w mg fa _ KX G.T.g hmg
 exact VH KX G.T.g G.T.b G.T.builtins G.T.nolimit hg hobj hints (fq hlen hn2) hr hF hb (fun H hO hS=>pC w H a ns hlen hO hS) fun H e s'=>hCX w H s₁ e s'
def inClass (s:Stmt) (j:Nat):Stmt:=match s with
 | .ClassDef _ _ _ body _ _ _ _ _ _ _=>body.getD j (.Pass ⟨0,0,0,0⟩)
 | _=> .Pass ⟨0,0,0,0⟩
def dW (s:Stmt):Arguments:=match s with
 | .FunctionDef _ a _ _ _ _ _ _ _ _=>a
 | _=>{ posonlyargs:=[],args:=[],vararg:=none,kwonlyargs:=[],kw_defaults:=[],kwarg:=none,defaults:=[] }
def cE (s:Stmt):List Stmt:=match s with
 | .FunctionDef _ _ b _ _ _ _ _ _ _=>b
 | _=>[]
def ay (s:Stmt):Scope:=match s with
 | .FunctionDef _ _ _ _ _ _ sc _ _ _=>sc
 | _=>{ kind:= .function,names:=[],isGenerator:=false,isCoroutine:=false }
abbrev tM:yR:=fun _ _ _ _ _ _=>False
abbrev E0:XK:=fun _ _ _=>False
structure Hy (K:Fg) (x qual:Str) (st:Stmt) (f:Addr) (fd:FuncData):Prop where
 ex:∃(oc:Value) (od:Option Addr) (kV doc pm:Value) (an:Option Addr) (cdv ct:Value) (osl:Array (Option Value)),
  fd=PySem.W.fnOf x qual (dW st) (cE st) (ay st) .none kV doc pm an cdv ct/\K.lookup f=some ⟨oc,od, .func fd,osl⟩/\PySem.W.codeIn K cdv qual=true
 kp:PySem.W.keepIn K (.ref f)=true
variable {qual:Str} {f:Addr} {N ps:List Str} {oc doc pm cdv ct:Value} {od an:Option Addr} {osl:Array (Option Value)}
section
variable {P:Program} {w:World} {K:Fg} {mg:SO} {base:Heap}
theorem Hy.ok {st:Stmt} {k:Nat} (F:Hy K x qual st f fd) (S:aJ N ps (ay st)) (len:∀vs H Q E,sp vs H Q E->vs.length=ps.length)
  (hbody:∀(cdv:Value) (A:Around) (outer:List Env) (s:Shared) (H:Hp) (vs:List V) (Q:VK) (E:XK),dD k (A.deeper (envOfC qual (ay st) s.heap.objs.size f cdv))->sp vs H Q E->
    ∃t,qp (cN tM P w K mg base N qual (ay st) f cdv A outer s H E).BI (cE st) t/\t { nx:=fun _ H'=>Q .bZ H',rt:=Q } (start N vs) H):iA P w K mg base tM (k+1) f fd ps sp:=by
 obtain ⟨oc,od,kV,doc,pm,an,cdv,ct,osl,rfl,lk,hcd⟩:=F.ex
 refine QJ lk hcd S len fun A outer s H vs Q E hr pC=>?_
 obtain ⟨t,h,q⟩:=hbody cdv A outer s H vs Q E hr pC
 exact ⟨t,h.BI,q⟩
theorem Hy.binds {st:Stmt} (F:Hy K x qual st f fd)
  (h:∀(kV doc pm:Value) (an:Option Addr) (cdv ct:Value) (us:List Value),us.length=ps.length->bindArgs (PySem.W.fnOf x qual (dW st) (cE st) (ay st) .none kV doc pm an cdv ct) ⟨us,[]⟩=pure (ps.zip us)):Binds K fd ps [] :=by
 obtain ⟨oc,od,kV,doc,pm,an,cdv,ct,osl,rfl,lk,hcd⟩:=F.ex
 exact .all (h kV doc pm an cdv ct)
theorem Ky {st:Stmt} {kV:Value} (l:K.lookup f=some ⟨oc,od, .func (PySem.W.fnOf x qual (dW st) (cE st) (ay st) .none kV doc pm an cdv ct),osl⟩)
  (c:PySem.W.codeIn K cdv qual=true) (k:PySem.W.keepIn K (.ref f)=true):Hy K x qual st f (PySem.W.fnOf x qual (dW st) (cE st) (ay st) .none kV doc pm an cdv ct):=⟨⟨oc,od,kV,doc,pm,an,cdv,ct,osl,Z,l,c⟩,k⟩
end
variable {A:Around}
theorem bY {k:Nat} (hr:dD k A):A.units+1<cLine:=Qq (Nat.add_le_add_left (by decide:1<=64) _) hr.units
theorem eY (h:n<=1000):n<sizeLine:=Qq h (by decide)
section
variable {X:Cx}
end
theorem cV {A B:Prop} (h:B):if false=true then A else B:=by
 rw [az fJ]
 exact h
theorem qC {A B:Prop} (h:A):if true=true then A else B:=by
 rw [aB rfl]
 exact h
theorem dm {c A B:Prop} [Decidable c] (h1:c->A) (h2:¬ c->B):if c then A else B:=by
 by_cases h:c
 . rw [aB h]
   exact h1 h
 . rw [az h]
   exact h2 h
def aE (H H':Hp):Prop:=∀b o,H b=some o->H' b=some o
theorem aE.refl (H:Hp):aE H H:=fun _ _ h=>h
variable {H H1 H2:Hp}
theorem aE.trans (a:aE H H1) (b:aE H1 H2):aE H H2:=fun c o h=>b c o (a c o h)
variable {H':Hp}
theorem aE.free (e:aE H H') {l:Addr} (h:H' l=Option.none):H l=Option.none:=by
 cases q:H l with
 | none=>rfl
 | some o=>
   rw [e l o q] at h
   cases h
variable {xs:List V}
theorem aE.seq (e:aE H H') (h:aC K H a xs):aC K H' a xs:=by
 rcases h with (h|⟨o,h⟩)|h
 . exact .inl (.inl (e _ _ h))
 . exact .inl (.inr ⟨o,e _ _ h⟩)
 . exact .inr h
section
variable {X:Cx}
theorem zL:gQ X (.builtin "len") (fun xs H Q=>∃a kvs,xs=[V.ref a]/\H a=some (.dK kvs)/\Q (.int kvs.length) H):=by
 intro pins s σ H xs us Q I r h
 obtain ⟨a,kvs,rfl,ha,q⟩:=h
 obtain ⟨u,rfl,ru⟩:=vals1 r
 cases ru
 exact adt I (.inl ha) fun t s' I'=>⟨.int kvs.length,H,I',⟨t,Z⟩,q⟩
end
section
variable {κ:Type} [DecidableEq κ]
theorem VI {kvs:List (κ×V)} {k:κ} (h:d9 kvs k=none):¬ k∈kvs.map (·.1):=by
 intro m
 obtain ⟨p,hp,e⟩:=bM.mp m
 have q:(kvs.any fun kv=>decide (kv.1=k))=true:=List.any_eq_true.mpr ⟨p,hp,cg e⟩
 rw [qB,h] at q
 exact absurd q (by simp)
theorem oM:∀{l:List κ} {k:κ},l.Nodup->¬ k∈l->(l++[k]).Nodup
 | [],k,_,_=>by simp
 | a::r,k,h,hk=>by
   obtain ⟨h1,h2⟩:=ia.mp h
   show (a::(r++[k])).Nodup
   refine ia.mpr ⟨fun m=>?_,oM h2 fun m=>hk (c_.mpr (Or.inr m))⟩
   rcases fZ.mp m with q|q
   . exact h1 q
   . exact hk (c_.mpr (Or.inl (fU.mp q).symm))
theorem Yn {kvs:List (κ×V)} {k:κ} (v:V) (hn:(kvs.map (·.1)).Nodup) (h:d9 kvs k=none):((putK kvs k v).map (·.1)).Nodup:=by
 rw [nW v h,bL]
 exact oM hn (VI h)
end
end L2
set_option maxHeartbeats 4000000
namespace L2
open PySem PySem.Spec PyProof.Rows
variable {n:Nat} {K:Fg}
section
variable {X:Cx}
def AZ (_ j:Int):Prop:=0<j/\j.natAbs.log2<9000
theorem gI:ig X (binaryOp .FloorDiv) (rI AZ fun i j=> .int (i / j)):=R9 fun i j _ _ _ _ _ hc q=>by
 have h1:(0:Int)<j:=hc.1
 exact floordiv_int (by omega) (by rw [Int.fdiv_eq_ediv_of_nonneg i (by omega)];exact q) (.inl (PyProof.noPylong_of_log2 hc.2))
theorem zM {i j:Int} (h:(decide (0<j) && decide (j.natAbs.log2<9000))=true):AZ i j:=by
 obtain ⟨a,b⟩:=k_.mp h
 exact ⟨dO a,dO b⟩
theorem VJ {i j:Int} (h0:0<j) (h:j<2 ^ n) (hn:n<=9000):AZ i j:=by
 refine ⟨h0,?_⟩
 have e:(j.natAbs:Int)=j:=by omega
 have h2:j.natAbs<2 ^ n:=by
  have:(j.natAbs:Int)<((2 ^ n:Nat):Int):=by rw [e];simpa using h
  exact Int.ofNat_lt.mp this
 have:=(Nat.log2_lt (n:=j.natAbs) (k:=n) (by omega)).mpr h2
 omega
def QT (i j:Int):Prop:=∃m n:Nat,i.natAbs<2 ^ m/\j.natAbs<2 ^ n/\m+n<=134217728
theorem jV:ig X (binaryOp .Mult) (rI QT fun i j=> .int (i*j)):=R9 fun _ _ _ _ _ _ _ hc q=>by
 obtain ⟨m,n,h1,h2,h3⟩:=hc
 exact mul_int q (IntMulOk.of_le (Ql.mpr h1) (Ql.mpr h2) h3)
theorem Nm:gQ X (.builtin "isinstance") (fun xs H Q=>∃x n t b,xs=[x, .ty n]/\gy X.K H x t/\PySem.W.kitOne X.K t (.type n)=some b/\Q (.bl b) H):=by
 intro pins s σ H xs us Q I r h
 obtain ⟨x,n,t,b,rfl,ty,e,q⟩:=h
 obtain ⟨u,w',rfl,ru,rw'⟩:=vals2 r
 have rw2:w'=Value.type n:=rw'
 subst rw2
 exact Si I ru ty e fun tk=>⟨.bl b,H,I.tok _,Z,q⟩
theorem iB {n:String}:PySem.W.kitOne K (.type n) (.type n)=some true:=by
 unfold PySem.W.kitOne
 rw [aB (Dp _)]
theorem Kz:PySem.W.kitOne K (.type "int") (.type "bool")=some false:=by rfl
mutual
inductive Dt (K:Fg) (H:Hp):V->PyData->Prop
 | bZ:Dt K H .bZ .none
 | bl (b:Bool):Dt K H (.bl b) (.bool b)
 | int (i:Int):Dt K H (.int i) (.int i)
 | str (x:Str):Dt K H (.str x) (.str x)
 | lst {a:Addr} {xs:List V} {ds:List PyData}:aC K H a xs->w_ K H xs ds->Dt K H (.ref a) (.list ds)
 | tup {a:Addr} {xs:List V} {ds:List PyData}:cR K H a xs->w_ K H xs ds->Dt K H (.ref a) (.tuple ds)
inductive w_ (K:Fg) (H:Hp):List V->List PyData->Prop
 | nil:w_ K H [] []
 | cons {x:V} {xs:List V} {d:PyData} {ds:List PyData}:Dt K H x d->w_ K H xs ds->w_ K H (x::xs) (d::ds)
end
section
variable {pins:AO} {σ:St} {H:Hp} {s:Shared}
mutual
theorem Dt.reads (I:Inv X pins σ H s):∀{x:V} {d:PyData} {u:Value},Dt X.K H x d->RelV x u->∃as,Reads s.heap u d as
 | _,_,u, .bZ,r=>by cases (show u=Value.none from r);exact ⟨_, .none⟩
 | _,_,u, .bl b,r=>by cases (show u=Value.bool b from r);exact ⟨_, .bool b⟩
 | _,_,u, .int i,r=>by obtain ⟨t,rfl⟩:=(show ∃t,u=Value.int i t from r);exact ⟨_, .int i t⟩
 | _,_,u, .str x,r=>by obtain ⟨t,rfl⟩:=(show ∃t,u=Value.str x t from r);exact ⟨_, .str x t⟩
 | _,_,u,@Dt.lst _ _ a xs ds h hd,r=>by
   cases (show u=Value.ref a from r)
   obtain ⟨its,rv,⟨o,n,e,c,_,d⟩,hz⟩:=I.list h
   obtain ⟨as,ra⟩:=w_.reads I hd rv
   exact ⟨_, .list e c d (by simpa using ra)⟩
 | _,_,u,@Dt.tup _ _ a xs ds h hd,r=>by
   cases (show u=Value.ref a from r)
   obtain ⟨its,rv,⟨o,e,c,n,d⟩,hz⟩:=I.tuple h
   obtain ⟨as,ra⟩:=w_.reads I hd rv
   exact ⟨_, .tuple e c d (by simpa using ra)⟩
theorem w_.reads (I:Inv X pins σ H s):∀{xs:List V} {ds:List PyData} {us:List Value},w_ X.K H xs ds->Vals xs us->∃as,ReadsAll s.heap us ds as
 | _,_,_, .nil, .nil=>⟨_, .nil⟩
 | _,_,_, .cons h t, .cons r rs=>by
   obtain ⟨as,ra⟩:=Dt.reads I h r
   obtain ⟨bs,rb⟩:=w_.reads I t rs
   exact ⟨_, .cons ra rb⟩
end
end
inductive VL (K:Fg) (x:V) (y:V) (H:Hp) (Q:VK):Prop
 | mk  (d e:_) (_:Dt K H x d) (_:Dt K H y e) (_:SeqAt.shaped d=true) (_:SeqAt.shaped e=true) (_:Q (.bl (PyData.eqv d e)) H)
inductive aax (K:Fg) (x:V) (y:V) (H:Hp) (Q:VK):Prop
 | mk  (d e:_) (_:Dt K H x d) (_:Dt K H y e) (_:SeqAt.shaped d=true) (_:SeqAt.shaped e=true) (_:Q (.bl (!PyData.eqv d e)) H)
theorem aay (hu:X.A.units+64<cLine):ig X (compareOp .Eq) (VL X.K):=by
 intro pins s σ H x y v u Q I rx ry h
 obtain ⟨d,e,hd,he,sd,se,q⟩:=h
 obtain ⟨as,ra⟩:=hd.reads I rx
 obtain ⟨bs,rb⟩:=he.reads I ry
 exact eq_dataH ra rb sd se hu ⟨.bl _,H,I,Z,q⟩
theorem aaz (hu:X.A.units+64<cLine):ig X (compareOp .NotEq) (aax X.K):=by
 intro pins s σ H x y v u Q I rx ry h
 obtain ⟨d,e,hd,he,sd,se,q⟩:=h
 obtain ⟨as,ra⟩:=hd.reads I rx
 obtain ⟨bs,rb⟩:=he.reads I ry
 exact ne_dataH ra rb sd se hu ⟨.bl _,H,I,Z,q⟩
structure Bx (p:Prop):Prop where
 ex:p
def bx (f:Sp):Sp:=fun vs H Q E=>Bx (f vs H Q E)
structure Dn (P:Program) (w:World) (K:Fg) (mg:SO) (base:Heap) (k:Nat) (x:Str) (ps:List Str) (sp:Sp):Prop where
 ex:∃f fd,iA P w K mg base tM k f fd ps sp/\Binds K fd ps []/\PySem.W.keepIn K (.ref f)=true/\mg x=some (.ref f)
end
structure At (K:Fg) (mg:SO) (x:Str) (st:Stmt) (f:Addr) (fd:FuncData):Prop where
 fn:Hy K x x st f fd
 name:mg x=some (.ref f)
variable {P:Program} {mg:SO} {base:Heap} {x:Str} {f:Addr} {fd:FuncData} {N ps:List Str} {sp:Sp}
theorem At.ok {w:World} {st:Stmt} {k:Nat} (F:At K mg x st f fd) (S:aJ N ps (ay st)) (len:∀vs H Q E,sp vs H Q E->vs.length=ps.length)
  (hbody:∀(cdv:Value) (A:Around) (outer:List Env) (s:Shared) (H:Hp) (vs:List V) (Q:VK) (E:XK),dD k (A.deeper (envOfC x (ay st) s.heap.objs.size f cdv))->sp vs H Q E->
    ∃t,qp (cN tM P w K mg base N x (ay st) f cdv A outer s H E).BI (cE st) t/\t { nx:=fun _ H'=>Q .bZ H',rt:=Q } (start N vs) H)
  (h:∀(kV doc pm:Value) (an:Option Addr) (cdv ct:Value) (us:List Value),us.length=ps.length->bindArgs (PySem.W.fnOf x x (dW st) (cE st) (ay st) .none kV doc pm an cdv ct) ⟨us,[]⟩=pure (ps.zip us)):
  Dn P w K mg base (k+1) x ps sp:=⟨f,fd,F.fn.ok S len hbody,F.fn.binds h,F.fn.kp,F.name⟩
variable {h:Heap} {oc doc pm cdv ct:Value} {od an:Option Addr} {osl:Array (Option Value)}
theorem WZ {st:Stmt} {kV:Value} (X:K.In h) (G:h.Ns mainGlobals mg)
  (a:PySem.W.nsIn K mainGlobals x=some (some (.ref f))) (l:K.lookup f=some ⟨oc,od, .func (PySem.W.fnOf x x (dW st) (cE st) (ay st) .none kV doc pm an cdv ct),osl⟩)
  (c:PySem.W.codeIn K cdv x=true) (k:PySem.W.keepIn K (.ref f)=true):At K mg x st f (PySem.W.fnOf x x (dW st) (cE st) (ay st) .none kV doc pm an cdv ct):=⟨Ky l c k,kr X G a⟩
theorem aE.tup {H H':Hp} {K:Fg} {a:Addr} {xs:List V} (e:aE H H') (h:cR K H a xs):cR K H' a xs:=by
 rcases h with (h|⟨o,h⟩)|h
 . exact .inl (.inl (e _ _ h))
 . exact .inl (.inr ⟨o,e _ _ h⟩)
 . exact .inr h
variable {H:Hp}
theorem aA {p:Addr} (h:H p=none) (o:HO):aE H (upd H p o):=fun b u q=>by rw [av (aI q h)];exact q
theorem small (h:n<=1000):n<=sizeLine:=Dw (eY h)
end L2
namespace Jm
def cf (a b:Int):Int:=(Int.gcd a b:Int)
theorem OQ (a:Int) (h:0<=a):cf a 0=a:=by
 unfold cf;rw [Int.gcd_zero_right];omega
theorem FP (a b:Int) (h:0<b):cf b (a % b)=cf a b:=by
 unfold cf
 rw [Int.emod_def,Int.gcd_sub_mul_left_right,Int.gcd_comm]
theorem DS (a b:Int) (h:0<a\/0<b):0<cf a b:=by
 unfold cf
 have:0<Int.gcd a b:=by
  rcases h with h|h
  . exact Int.gcd_pos_of_ne_zero_left _ (by omega)
  . exact Int.gcd_pos_of_ne_zero_right _ (by omega)
 omega
theorem OR (a b:Int):cf a b=cf b a:=by unfold cf;rw [Int.gcd_comm]
theorem aaA (a b:Int):cf a (if b<0 then -b else b)=cf a b:=by
 unfold cf;split
 . rw [Int.gcd_neg]
 . rfl
abbrev fr (t b:Int):Rat:=Rat.divInt t b
theorem SE (t b:Int) (h:0<b):(fr t b).num=t / cf b t:=by
 unfold fr cf
 rw [Rat.num_divInt,Int.sign_eq_one_of_pos h,Int.one_mul]
theorem KA (t b:Int) (h:0<b):((fr t b).den:Int)=b / cf b t:=by
 unfold fr cf
 rw [Rat.den_divInt,az (by omega)]
 rw [Int.natCast_ediv];congr 1;omega
theorem rB (a b:Int):cf a b∣a:=Int.gcd_dvd_left ..
theorem pD (a b:Int):cf a b∣b:=Int.gcd_dvd_right ..
theorem den_pos (q:Rat):(0:Int)<q.den:=by have:=q.den_pos;omega
theorem Yo (q:Rat):fr q.num q.den=q:=Rat.num_divInt_den q
theorem W0 {t b t' b':Int} (h:0<b) (h':0<b') (e:t*b'=t'*b):fr t b=fr t' b':=
 (Rat.divInt_eq_divInt_iff (by omega) (by omega)).mpr e
theorem SG {n d:Int} (h:0<d) (c:cf n d=1):(fr n d).num=n/\((fr n d).den:Int)=d:=by
 rw [SE n d h,KA n d h,OR,c,AR,AR];exact ⟨Z,Z⟩
theorem SH (t b:Int) (h:0<b):((fr t b).den:Int)<=b:=by
 rw [KA t b h]
 exact Int.ediv_le_self _ (xY h)
def Sz (n:Nat) (x:Int):Prop:=x.natAbs<2 ^ n
theorem Sz.mono {m n:Nat} {x:Int} (h:Sz m x) (hn:m<=n):Sz n x:=lg h (Nat.pow_le_pow_right (by decide) hn)
theorem Sz.of_le {n:Nat} {x y:Int} (h:Sz n y) (hx:x.natAbs<=y.natAbs):Sz n x:=Qq hx h
theorem Sz.mul {m n:Nat} {x y:Int} (hx:Sz m x) (hy:Sz n y):Sz (m+n) (x*y):=by
 unfold Sz at *
 rw [Ds,Nat.pow_add]
 exact Nat.mul_lt_mul'' hx hy
theorem Sz.add {m n:Nat} {x y:Int} (hx:Sz m x) (hy:Sz n y):Sz (max m n+1) (x+y):=by
 have h1:=hx.mono (Nat.le_max_left m n)
 have h2:=hy.mono (Nat.le_max_right m n)
 unfold Sz at *
 rw [Nat.pow_succ]
 omega
theorem Sz.ag0 {n:Nat} {x y:Int} (hx:Sz n x) (hy:Sz n y):Sz (n+1) (x+y):=by
 have:=hx.add hy
 rwa [Nat.max_self] at this
theorem Sz.pF {n:Nat} {x B:Int} (h0:-B<=x) (h1:x<=B) (hB:Sz n B):Sz n x:=hB.of_le (by omega)
theorem Sz.ediv {n:Nat} {x y:Int} (h:Sz n x) (hy:0<y):Sz n (x / y):=by
 refine h.of_le ?_
 have e:=Int.emod_add_mul_ediv x y
 have m0:=nD x (b:=y) (by omega)
 have m1:=xR x hy
 rcases Dy x 0 with hx|hx
 . have q0:x / y<0:=Int.ediv_neg_of_neg_of_pos hx hy
   have z:y*(x / y)<=1*(x / y):=Int.mul_le_mul_of_nonpos_right (by omega) (by omega)
   rcases Dy (x / y) x with k|k
   . exfalso
     have z2:y*(x / y)<=y*(x-1):=G_ (by omega) (by omega)
     have z3:y*(x-1)<=1*(x-1)-(y-1):=by
      have z4:(y-1)*(x-1)<=(y-1)*(-2):=G_ (by omega) (by omega)
      have z5:y*(x-1)=(y-1)*(x-1)+(x-1):=by grind
      omega
     omega
   . omega
 . have q0:0<=x / y:=Int.ediv_nonneg hx (by omega)
   have:=Int.ediv_le_self y hx
   omega
theorem Sz.dvd {n:Nat} {x y:Int} (h:Sz n y) (hy:0<y) (hx:0<=x) (d:x∣y):Sz n x:=h.of_le (by have:=Int.le_of_dvd hy d;omega)
theorem SI {n:Nat}:∀{ws:List Int},(∀m∈ws,Sz n m)->Sz (n+ws.length) ws.sum
 | [],_=>by unfold Sz;show 0<_;exact Nat.two_pow_pos _
 | x::r,h=>by
   have h1:=SI (ws:=r) fun m hm=>h m (cG _ hm)
   have h2:=((h x cJ).mono (Dq n r.length)).ag0 h1
   rw [cU]
   exact h2.mono (by rw [mU];omega)
def DT (c:Int):Nat->Int
 | 0=>c
 | i+1=>DT c i / 10000000000
def cellOf (ns:List Int) (k:Int):Int:=if 0<(ns.length:Int) then ns.getD (k % ns.length).toNat 0 else 0
def zN (ns:List Int) (k:Int):Int:=if 0<(ns.length:Int) then k / ns.length else 1
def mixed (c k j many:Int):Int:=
 let one:=(c*7919+k*104729+j*1299709+31) % 1000000007
 let two:=(one*48271+c / 1009) % 998244353
 let three:=(two*(one % 9973+1)+j) % 1000000009
 (one*69621+three*40692+three / 1013) % 2147483647 % many
def draw (ns:List Int) (k j many:Int):Int:=
 if zN ns k=0/\1000000000000000000<=cellOf ns k/\0<DT (cellOf ns k) j.toNat then DT (cellOf ns k) j.toNat % 10000000000 % many
 else mixed (cellOf ns k) k j many
theorem Yp (ns:List Int) (k j many:Int) (h:0<many):0<=draw ns k j many:=by
 unfold draw;split
 . exact nD _ (by omega)
 . exact nD _ (by omega)
theorem Yq (ns:List Int) (k j many:Int) (h:0<many):draw ns k j many<many:=by
 unfold draw;split
 . exact xR _ h
 . exact xR _ h
end Jm
namespace L2
open PySem PySem.Spec PyProof.Rows
inductive adz (K:Fg) (vs:List V) (H:Hp) (Q:VK) (E:XK):Prop
 | mk (a:Addr) (ns:List Int) (k j many:Int) (_:vs=[.ref a, .int k, .int j, .int many]) (_:aC K H a (ns.map V.int)) (_:ns.length<=63) (_:0<=k) (_:0<=j) (_:j<2 ^ 62) (_:0<many) (_:Q (.int (Jm.draw ns k j many)) H)
def lS (K:Fg):Sp:=bx (adz K)
variable {K:Fg} {H:Hp} {a:Addr} {ns:List Int}
theorem cQ {Q:VK} {E:XK} {k j many:Int} (hS:aC K H a (ns.map V.int)) (h63:ns.length<=63) (h1:0<=k) (h2:0<=j) (h3:j<2 ^ 62) (h4:0<many)
  (h:∀d:Int,d=Jm.draw ns k j many->0<=d->d<many->Q (.int d) H):lS K [.ref a, .int k, .int j, .int many] H Q E:=
 ⟨a,ns,k,j,many,Z,hS,h63,h1,h2,h3,h4,h _ rfl (Jm.Yp ns k j many h4) (Jm.Yq ns k j many h4)⟩
def VM:Sp:=fun vs H Q _=>∃a b:Int,vs=[.int a, .int b]/\0<=a/\0<=b/\Q (.int (Jm.cf a b)) H
abbrev pG (q:Rat):HO:= .tup [.int q.num, .int (q.den:Int)]
def DU:Sp:=fun vs H Q _=>∃i:Int,vs=[.int i]/\Q (.bl true) H
def JV (K:Fg):Sp:=fun vs H Q _=>∃(a:Addr) (ns:List Int),vs=[.ref a]/\aC K H a (ns.map V.int)/\ns.length<=63/\∀H',Q (.bl true) H'
section
variable {X:Cx} {pos:Pos}
def Ends.too (D:Ends) (J:St->Hp->Prop):Ends:={ D with nx:=J }
def adA (t u:TS) (D:Ends) (σ:St) (J:St->Hp->Prop):Bool->Hp->Prop:=fun b H1=>if b=true then t (D.too J) σ H1 else u (D.too J) σ H1
inductive aaB (c:TT) (t u:TS) (D:Ends) (σ:St) (H:Hp):Prop
 | mk (J:St->Hp->Prop) (_:c σ H (adA t u D σ J)) (_:∀σ' H',J σ' H'->D.nx σ' H')
end
theorem um {i j:Int} (h0:0<j) (h:Jm.Sz 9000 j):AZ i j:=by
 refine ⟨h0,?_⟩
 exact (Nat.log2_lt (by omega)).mpr h
variable {m n:Nat}
theorem jc {i j:Int} (hi:Jm.Sz m i) (hj:Jm.Sz n j) (h:m+n<=134217728:=by decide):QT i j:=⟨m,n,hi,hj,h⟩
theorem pH {x:Int} (h:decide (x.natAbs<2 ^ n)=true):Jm.Sz n x:=by
 unfold Jm.Sz
 exact dO h
theorem Yr {k:Int} (h0:0<=k) (h:k<(ns.length:Int)):jU (ns.map V.int) k=some (.int (ns.getD k.toNat 0)):=by
 have hk:k.toNat<ns.length:=by omega
 have ek:k=((k.toNat:Nat):Int):=by omega
 have q:jU (ns.map V.int) ((k.toNat:Nat):Int)=some (.int (ns.getD k.toNat 0)):=aQ (by rw [bJ,i_,aX hk] <;> rfl)
 rw [<-ek] at q
 exact q
variable {elt iter:Expr} {scope:Scope} {pos:Pos} {env:Env}
section
variable {prog:Program} {w:World} {A:Around} {R:Result->Shared->Prop} {s:Shared}
theorem KC {target:Expr} {it acc:Value} (J:Nat->Shared->Prop)
  (turn:∀n s,J n s->wpAny (model prog w) A (pyNext it) (fun r s₁=>match r with
    | none=>R (.ok .next) s₁
    | some v=>wpAny (model prog w) A (letOwnedTupleGo target it v) (fun _ s₂=>wpAny (model prog w) A (assign target env v) (fun _ s₃=>wpAny (model prog w) A (eval elt env) (fun x s₄=>
            wpAny (model prog w) A (call (.builtin "list.append") [acc,x]) (fun _ s₅=>∃m,m<n/\J m s₅) (fun _ _=>False) s₄) (fun _ _=>False) s₃) (fun _ _=>False) s₂) (fun _ _=>False) s₁) (fun _ _=>False) s)
  (n:Nat) (h:J n s):codeAny (model prog w) A (.compLoop (.ListComp elt [⟨target,iter,[],0⟩] scope pos) 0 it acc env) R s:=by
 refine codeAny_loop rfl J (fun n s hI=>?_) n h
 show wpAny _ A ((compTurn (.ListComp elt [⟨target,iter,[],0⟩] scope pos) 0 it acc env).onRaise (fun x=>do noteFrame x env;theTreesLotGoes x)) _ _ s
 refine wpAny_noted ?_
 rw [compTurn_list1]
 refine aq (AM (aq (gP (turn n s hI) (fun r s₁ h₁=>?_) fun _ _ h'=>h'.elim)))
 cases r with
 | none=>exact aL h₁
 | some v=>
   refine aq (gP h₁ (fun _ s₂ h₂=>aq (gP h₂ (fun _ s₃ h₃=>?_) fun _ _ h'=>h'.elim)) fun _ _ h'=>h'.elim)
   exact aq (aq (gP h₃ (fun x s₄ h₄=>aq (gP h₄ (fun _ s₅ h₅=>aL (aL ⟨Z,h₅⟩)) fun _ _ h'=>h'.elim)) fun _ _ h'=>h'.elim))
end
theorem tV (h:∀y∈scope.names,y.2 = .free->∃c,env.cells.lookup y.1=some c):
  ∃cl,closureFor scope env=pure cl/\(∀y c,(y,c)∈cl->env.cells.lookup y=some c/\(y,NameKind.free)∈scope.names)/\∀y,(y,NameKind.free)∈scope.names->∃c,(y,c)∈cl:=by
 have gen:∀(names:List (Str×NameKind)) (acc:List (Str×Addr)),(∀y∈names,y.2 = .free->∃c,env.cells.lookup y.1=some c)->
   ∃cl,(forIn names acc fun (x:Str×NameKind) (cs:List (Str×Addr))=>(if (x.2==NameKind.free)=true then do let a <-cellOf env x.1;pure (ForInStep.yield ((x.1,a)::cs)) else pure (ForInStep.yield cs):Sem _))=pure cl/\
    (∀y c,(y,c)∈cl->(env.cells.lookup y=some c/\(y,NameKind.free)∈names)\/(y,c)∈acc)/\(∀p∈acc,p∈cl)/\∀y,(y,NameKind.free)∈names->∃c,(y,c)∈cl:=by
  intro names
  induction names with
  | nil=>intro acc _;exact ⟨acc,by rw [Du],fun y c m=> .inr m,fun p hp=>hp,fun y m=>nomatch m⟩
  | cons x r ih=>
    intro acc hc
    obtain ⟨n,k⟩:=x
    by_cases hk:k = .free
    . subst hk
      obtain ⟨c,ec⟩:=hc (n, .free) cJ rfl
      obtain ⟨cl,e,h1,h2,h3⟩:=ih ((n,c)::acc) fun y hy=>hc y (cG _ hy)
      refine ⟨cl,?_,fun y d m=>?_,fun p hp=>h2 p (cG _ hp),fun y m=>?_⟩
      . rw [JN,<-e]
        have adB:cellOf env n=pure c:=by unfold cellOf;rw [ec]
        simp only [Dp,rj,adB,pure_bind]
      . rcases h1 y d m with ⟨a,b⟩|b
        . exact .inl ⟨a,cG _ b⟩
        . rcases c_.mp b with z|z
          . cases z;exact .inl ⟨ec,cJ⟩
          . exact .inr z
      . rcases c_.mp m with z|z
        . cases z;exact ⟨c,h2 _ cJ⟩
        . exact h3 y z
    . obtain ⟨cl,e,h1,h2,h3⟩:=ih acc fun y hy=>hc y (cG _ hy)
      have hb:(k==NameKind.free)=false:=by simpa using hk
      refine ⟨cl,?_,fun y d m=>?_,h2,fun y m=>?_⟩
      . rw [JN,<-e]
        simp only [hb,FF,lE,pure_bind]
      . rcases h1 y d m with ⟨a,b⟩|b
        . exact .inl ⟨a,cG _ b⟩
        . exact .inr b
      . rcases c_.mp m with z|z
        . cases z;exact absurd rfl hk
        . exact h3 y z
 obtain ⟨cl,e,h1,_,h3⟩:=gen scope.names [] h
 refine ⟨cl,?_,fun y c m=>(h1 y c m).elim id (fun z=>nomatch z),h3⟩
 have e2:closureFor scope env=((forIn scope.names ([] :List (Str×Addr)) fun (x:Str×NameKind) (cs:List (Str×Addr))=>(if (x.2==NameKind.free)=true then do let a <-cellOf env x.1;pure (ForInStep.yield ((x.1,a)::cs)) else pure (ForInStep.yield cs):Sem _)) >>= fun r=>pure r):=rfl
 rw [e2,e]
 rfl
theorem lookup_mem {α:Type} {l:List (Str×α)} {y:Str} {c:α} (h:(y,c)∈l):∃d,l.lookup y=some d:=by
 induction l with
 | nil=>cases h
 | cons p r ih=>
   obtain ⟨k,v⟩:=p
   rw [lC]
   cases hb:y==k with
   | true=>exact ⟨v,Z⟩
   | false=>
     rcases c_.mp h with z|z
     . cases z;simp at hb
     . exact ih z
theorem mG:∀(names:List (Str×NameKind)) (n:Nat) (acc:List (Str×Addr)) {x:Str} {c:Addr},(cellsFrom n names acc).lookup x=some c->n<=c\/acc.lookup x=some c
 | [],_,_,_,_,h=> .inr h
 | (name,kind)::r,n,acc,x,c,h=>by
   unfold cellsFrom at h
   split at h
   . rcases mG r (n+1) _ h with z|z
     . exact .inl (by omega)
     . rw [lC] at z
       cases hb:x==name with
       | true=>rw [hb] at z;cases z;exact .inl (aP _)
       | false=>rw [hb] at z;exact .inr z
   . exact mG r n acc h
theorem IB:∀(names:List (Str×NameKind)) (n n0:Nat) (acc:List (Str×Addr)) {x:Str} {c:Addr},n0<=n->(∀d,acc.lookup x=some d->n0<=d)->(cellsFrom n names acc).lookup x=some c->n0<=c:=by
 intro names n n0 acc x c hn ha h
 rcases mG names n acc h with z|z
 . omega
 . exact ha c z
theorem sr:∀(names:List (Str×NameKind)) (n:Nat) (acc:List (Str×Addr)) {x:Str} {c:Addr},(x,NameKind.cell)∈names->(cellsFrom n names acc).lookup x=some c->n<=c
 | [],_,_,_,_,m,_=>nomatch m
 | (name,kind)::r,n,acc,x,c,m,h=>by
   unfold cellsFrom at h
   rcases c_.mp m with z|z
   . cases z
     rw [aB (by rfl)] at h
     refine IB r (n+1) n _ (by omega) (fun d hd=>?_) h
     rw [lC,Dp] at hd
     cases hd
     exact aP _
   . split at h
     . exact fq (Nat.le_succ _) (sr r (n+1) _ z h)
     . exact sr r n acc z h
theorem mH:∀(names:List (Str×NameKind)) (n:Nat) (acc:List (Str×Addr)) {x:Str},(∃c,acc.lookup x=some c)->∃c,(cellsFrom n names acc).lookup x=some c
 | [],_,_,_,h=>h
 | (name,kind)::r,n,acc,x,h=>by
   unfold cellsFrom
   split
   . refine mH r (n+1) _ ?_
     rw [lC]
     cases x==name with
     | true=>exact ⟨_,Z⟩
     | false=>exact h
   . exact mH r n acc h
theorem su:∀(names:List (Str×NameKind)) (n:Nat) (acc:List (Str×Addr)) {x:Str},(x,NameKind.cell)∈names->∃c,(cellsFrom n names acc).lookup x=some c
 | [],_,_,_,m=>nomatch m
 | (name,kind)::r,n,acc,x,m=>by
   unfold cellsFrom
   rcases c_.mp m with z|z
   . cases z
     rw [aB (by rfl)]
     refine mH r (n+1) _ ⟨n,?_⟩
     rw [lC,Dp]
   . split
     . exact su r (n+1) _ z
     . exact su r n acc z
theorem sy:∀(names:List (Str×NameKind)) (n:Nat) (acc:List (Str×Addr)) {x:Str},(x,NameKind.cell)∉names->(cellsFrom n names acc).lookup x=acc.lookup x
 | [],_,_,_,_=>rfl
 | (name,kind)::r,n,acc,x,m=>by
   have m2:(x,NameKind.cell)∉r:=fun z=>m (cG _ z)
   unfold cellsFrom
   split
   . rename_i hk
     rw [sy r (n+1) _ m2,lC]
     cases hb:x==name with
     | true=>
       have e1:=nF.mp hb
       have e2:kind=NameKind.cell:=by simpa using hk
       subst e1 e2
       exact absurd cJ m
     | false=>rfl
   . exact sy r n acc m2
theorem sH:∀(names:List (Str×NameKind)) (n:Nat) (acc:List (Str×Addr)),(∀x y c,acc.lookup x=some c->acc.lookup y=some c->x=y)->(∀x c,acc.lookup x=some c->c<n)->
  ∀x y c,(cellsFrom n names acc).lookup x=some c->(cellsFrom n names acc).lookup y=some c->x=y
 | [],_,_,h,_=>h
 | (name,kind)::r,n,acc,h,hlt=>by
   intro x y c hx hy
   unfold cellsFrom at hx hy
   split at hx
   . rename_i hk
     rw [aB hk] at hy
     refine sH r (n+1) _ (fun x y c hx hy=>?_) (fun x c hx=>?_) x y c hx hy
     . rw [lC] at hx hy
       cases hb:x==name with
       | true=>
         cases hb2:y==name with
         | true=>rw [nF.mp hb,nF.mp hb2]
         | false=>
           rw [hb] at hx;rw [hb2] at hy
           cases hx
           exact absurd (hlt _ _ hy) (jl _)
       | false=>
         cases hb2:y==name with
         | true=>
           rw [hb] at hx;rw [hb2] at hy
           cases hy
           exact absurd (hlt _ _ hx) (jl _)
         | false=>
           rw [hb] at hx;rw [hb2] at hy
           exact h x y c hx hy
     . rw [lC] at hx
       cases hb:x==name with
       | true=>rw [hb] at hx;cases hx;exact Nat.lt_succ_self _
       | false=>rw [hb] at hx;exact Qv (hlt _ _ hx)
   . rename_i hk
     rw [az hk] at hy
     exact sH r n acc h hlt x y c hx hy
theorem wg:∀(names:List (Str×NameKind)) (h:Heap) (acc:List (Str×Addr)),(∀x c,acc.lookup x=some c->∃v,h.IsCell c v)->∀x c,(cellsFrom h.objs.size names acc).lookup x=some c->∃v,(pushCells h names).IsCell c v
 | [],_,_,ha=>ha
 | (name,kind)::r,h,acc,ha=>by
   intro x c hx
   unfold cellsFrom at hx
   unfold pushCells
   split at hx
   . rename_i hk
     rw [aB hk]
     have q:=wg r (h.push { cls:= .type "cell",data:= .cell none }) ((name,h.objs.size)::acc) (fun x c hx=>by
      rw [lC] at hx
      cases hb:x==name with
      | true=>rw [hb] at hx;cases hx;exact ⟨none,_,dY _ rfl,Z⟩
      | false=>
        rw [hb] at hx
        obtain ⟨v,z⟩:=ha x c hx
        exact ⟨v,z.keeps fun b o e=>cA _ e⟩) x c
     rw [mF] at q
     exact q hx
   . rename_i hk
     rw [az hk]
     exact wg r h acc ha x c hx
def cY (X:Cx) (N2:List Str) (scope:Scope) (cl:List (Str×Addr)) (s₂:Shared) (H₂:Hp) (fp:List Addr):Cx where
 prog:=X.prog
 w:=X.w
 K:=X.K
 mg:=X.mg
 base:=X.base
 A:=X.A
 N:=N2
 s₀:=s₂
 H₀:=H₂
 env:={ scope:=relabel scope X.env,locals:=s₂.heap.objs.size,globals:=X.env.globals,cells:=cellsFrom (s₂.heap.objs.size+1) scope.names cl,qual:=X.env.qual,func:=none,code:=X.env.code,frame:=X.env.frame,builtins:=X.env.builtins }
 outer:=X.stack
 stack:=X.stack
 ex:=fp
 fn:=fun x=>decide (scope.names.lookup x=some .cell)
 calm:=X.calm
 pn:=[]
 xe:=fun _ _=>False
def nj (XN:List Str) (xn sn:List (Str×NameKind)) (N2:List Str) (ix:List (Option Nat)):Bool:=
 (ix.length==N2.length) &&
 ((ix.zip N2).all fun p=>match p.1 with
   | none=>true
   | some j=>XN[j]?==some p.2 && sn.lookup p.2==some .free && (xn.lookup p.2==some .cell || xn.lookup p.2==some .free)) &&
 (sn.all fun y=>y.2 != .free || (xn.lookup y.1==some .cell || xn.lookup y.1==some .free)) &&
 (sn.all fun y=>y.2 != .local || sn.lookup y.1==some .local) &&
 (sn.all fun y=>y.2 != .free || sn.all fun z=>z.2 != .cell || z.1 != y.1)
variable {x:Str}
theorem BO {k:NameKind} (h:(relabel scope env).names.lookup x=some k) (hk:k = .cell\/k = .free):(x,NameKind.cell)∈scope.names\/(x,NameKind.free)∈scope.names:=by
 have m:=xQ h
 obtain ⟨y,hy,e⟩:=bM.mp m
 obtain ⟨n,k0⟩:=y
 dsimp only at e
 split at e
 . rename_i hc
   cases e
   have h1:k0=NameKind.free:=by
    have:=(k_.mp (k_.mp hc).1).1
    simpa using this
   subst h1
   exact .inr hy
 . cases e
   rcases hk with rfl|rfl
   . exact .inl hy
   . exact .inr hy
theorem KD:∀{x:Str},scope.names.lookup x=some .free->(relabel scope env).names.lookup x=some .cell\/(relabel scope env).names.lookup x=some .free:=by
 intro x h
 have gen:∀(l:List (Str×NameKind)),l.lookup x=some .free->(l.map fun (n,k)=>if (k==NameKind.free && env.scope.kind == .function && env.kindOf n==some .cell) then (n,NameKind.cell) else (n,k)).lookup x=some .cell\/
   (l.map fun (n,k)=>if (k==NameKind.free && env.scope.kind == .function && env.kindOf n==some .cell) then (n,NameKind.cell) else (n,k)).lookup x=some .free:=by
  intro l
  induction l with
  | nil=>intro h;cases h
  | cons p r ih=>
    intro h
    obtain ⟨n,k⟩:=p
    rw [lC] at h
    rw [bD]
    dsimp only
    cases hb:x==n with
    | true=>
      rw [hb] at h
      cases h
      split
      . rw [lC,hb];exact .inl rfl
      . rw [lC,hb];exact .inr rfl
    | false=>
      rw [hb] at h
      split
      . rw [lC,hb];exact ih h
      . rw [lC,hb];exact ih h
 exact gen scope.names h
variable {X:Cx} {pins:AO} {σ σ2:St} {s:Shared} {N2:List Str} {cl:List (Str×Addr)} {fp:List Addr}
theorem DV (I:Inv X pins σ H s) (hk:scope.kind = .function)
  (KG:∀y c,(y,c)∈cl->X.env.cells.lookup y=some c) (FQ:∀y,(y,NameKind.free)∈scope.names->∃c,(y,c)∈cl) (hfp:∀b∈fp,pe X pins H b) (hfo:∀b∈fp,b<s.heap.objs.size) (hl:σ2.length=N2.length)
  (hσ:∀(i:Nat) (x:Str) (v:V),N2[i]?=some x->σ2[i]?=some (some v)->scope.names.lookup x=some .free/\(X.env.kindOf x=some .cell\/X.env.kindOf x=some .free)/\∃j:Nat,X.N[j]?=some x/\σ[j]?=some (some v))
  (hd:∀x,(x,NameKind.free)∈scope.names->(x,NameKind.cell)∉scope.names):
  Inv (cY X N2 scope cl s H fp) [] σ2 H { s with heap:=pushCells (s.heap.push { cls:= .type "dict",data:= .dict #[] }) scope.names }:=by
 have keeps:∀b o,s.heap.get? b=some o->(pushCells (s.heap.push { cls:= .type "dict",data:= .dict #[] }) scope.names).get? b=some o:=fun b o e=>JO _ _ b o (cA _ e)
 have hsz:(s.heap.push { cls:= .type "dict",data:= .dict #[] }).objs.size=s.heap.objs.size+1:=mF ..
 have A0:∀x c,cl.lookup x=some c->X.env.cells.lookup x=some c:=fun x c e=>KG x c (xQ e)
 have clt:∀x c,cl.lookup x=some c->c<s.heap.objs.size:=fun x c e=>by
  obtain ⟨v,z⟩:=I.cell x c (A0 x c e)
  exact z.lt
 have there:=wg scope.names (s.heap.push { cls:= .type "dict",data:= .dict #[] }) cl (fun x c e=>by
  obtain ⟨v,z⟩:=I.cell x c (A0 x c e)
  exact ⟨v,z.keeps fun b o e=>cA _ e⟩)
 rw [hsz] at there
 have cells:∀x c,(cellsFrom (s.heap.objs.size+1) scope.names cl).lookup x=some c->s.heap.objs.size+1<=c\/X.env.cells.lookup x=some c:=fun x c e=>by
  rcases mG _ _ _ e with z|z
  . exact .inl z
  . exact .inr (A0 x c z)
 have okY:(cY X N2 scope cl s H fp).Ok:=by
  refine ⟨I.ok.mod,hk,I.ok.glob,I.ok.blt,aP _,?_,?_,?_,I.ok.hd,I.ok.frames, .inl rfl,?_,I.bs,fq I.ok.Dz I.sz,?_,?_,I.stack,I.wU⟩
  . exact sH _ _ _ (fun x y c hx hy=>I.ok.inj x y c (A0 x c hx) (A0 y c hy)) fun x c e=>Qv (clt x c e)
  . intro x hx
    have m:(x,NameKind.cell)∈scope.names\/(x,NameKind.free)∈scope.names:=by
     rcases hx with z|z
     . exact BO z (.inl rfl)
     . exact BO z (.inr rfl)
    rcases m with m|m
    . exact su _ _ _ m
    . obtain ⟨c,mc⟩:=FQ x m
      exact mH _ _ _ (lookup_mem mc)
  . intro x c hf e
    have hf':scope.names.lookup x=some .cell:=dO hf
    exact fq (Nat.le_succ _) (sr _ _ _ (xQ hf') e)
  . intro b hb
    refine ⟨dP (hfo b hb),fun x c e z=>?_⟩
    have hlt:=hfo b hb
    rcases cells x c e with k|k
    . exact absurd (lg hlt (fq (Nat.le_succ _) (z▸k))) (jl _)
    . exact (hfp b hb).2.2.2.2.1 x c k z
  . intro b o e hb
    rcases (hfp b hb).2.2.2.1 with z|z
    . exact I.ok.FJ b o e z
    . exact absurd (lg (bP (I.ok.bs b o e).1) z) (jl _)
  . intro b hb hbs
    rcases c_.mp (I.Kd b hbs) with z|z
    . exact (hfp b hb).2.1 z
    . exact (hfp b hb).2.2.1 z
 refine ⟨okY,Z,I.bare,Un.kept keeps,?_,there,I.hok.fresh (aP _),?_,(fun p hp=>nomatch hp),I.hok.kept keeps,hl⟩
 . refine ⟨fun _=>none,(Heap.Ns.new s.heap (.type "dict")).keeps (JO _ _),fun i x v e1 e2 _=>?_⟩
   obtain ⟨hf,hx,j,j1,j2⟩:=hσ i x v e1 e2
   obtain ⟨m,_,hloc⟩:=I.loc
   have hv:R5 X.env.scope x:=hx.elim (fun z=> .inr (.inl z)) fun z=> .inr (.inr z)
   obtain ⟨u,r,lk⟩:=hloc j x v j1 j2 hv
   refine ⟨u,r, .inr ⟨KD hf,?_⟩⟩
   rcases lk with ⟨k,_⟩|⟨_,c,ec,ic⟩
   . rcases hx with z|z <;> rw [z] at k <;> cases k
   . refine ⟨c,?_,ic.keeps keeps⟩
     have mf:=xQ hf
     show (cellsFrom (s.heap.objs.size+1) scope.names cl).lookup x=some c
     rw [sy _ _ _ (hd x mf)]
     obtain ⟨c',mc⟩:=FQ x mf
     obtain ⟨d,ed⟩:=lookup_mem mc
     rw [ed]
     have:=A0 x d ed
     rw [ec] at this
     exact this.symm
 . intro x c e
   rcases cells x c e with k|k
   . exact I.hok.fresh (by omega)
   . exact I.jM x c k
variable {tg:Expr} {g:TG} {te:TE} {E:VS}
section
variable {X:Cx}
def A8 (J:It) (g:TG) (te:TE) (acc:Addr) (σ₀:St) (H:Hp) (Q:VK):Prop:=∃W:Nat->Nat->St->Hp->Prop,
 (∃m,W 0 m σ₀ (upd H acc (.lst [])))/\∀i m σ2 H2,W i m σ2 H2->
   (J.stop i H2/\Q (.ref acc) H2)\/(J.go i H2/\∃(S:St->Prop) (N:V->Hp->Prop),(∀σ3 v H4,S σ3->N v H4->∃xs,H4 acc=some (.lst xs)/\xs.length<sizeLine/\∃m',m'<m/\W (i+1) m' σ3 (upd H4 acc (.lst (xs++[v]))))/\∀x H',J.DB i H2 x H'->g x σ2 H' fun σ3 H3=>S σ3/\te σ3 H3 N)
inductive uo (Pv:Nat->List V->Hp->Prop) (i:Nat) (acc:Addr) (out:List V) (v:V) (H4:Hp):Prop
 | mk (_:H4 acc=some (.lst out)) (_:Pv (i+1) (out++[v]) (upd H4 acc (.lst (out++[v]))))
def W6 (te:TE) (σ:St) (Pv:Nat->List V->Hp->Prop) (i:Nat) (acc:Addr) (out:List V):Bool->Hp->Prop:=fun b H2=>if b=true then te σ H2 (uo Pv i acc out) else H2 acc=some (.lst out)/\Pv (i+1) out H2
def pick (ix:List (Option Nat)) (σ:St):St:=ix.map fun o=>o.bind fun j=>(σ[j]?).join
def aaC (ix:List (Option Nat)) (g:TG) (te:TE) (σ:St) (Q:VK):It->Hp->Prop:=fun J H1=>∀acc,H1 acc=none->A8 J g te acc (pick ix σ) H1 Q
def W7 (wi:TI) (ix:List (Option Nat)) (g:TG) (te:TE):TE:=fun σ H Q=>wi σ H (aaC ix g te σ Q)
theorem mJ {XN:List Str} {xn sn:List (Str×NameKind)} {ix:List (Option Nat)} (h:nj XN xn sn N2 ix=true):
  ix.length=N2.length/\(∀(i:Nat) (x:Str) (j:Nat),N2[i]?=some x->ix[i]?=some (some j)->XN[j]?=some x/\sn.lookup x=some .free/\(xn.lookup x=some .cell\/xn.lookup x=some .free))/\
  (∀y∈sn,y.2 = .free->xn.lookup y.1=some .cell\/xn.lookup y.1=some .free)/\(∀y∈sn,y.2 = .local->sn.lookup y.1=some .local)/\∀x,(x,NameKind.free)∈sn->(x,NameKind.cell)∉sn:=by
 unfold nj at h
 obtain ⟨h,h5⟩:=k_.mp h
 obtain ⟨h,h4⟩:=k_.mp h
 obtain ⟨h,h3⟩:=k_.mp h
 obtain ⟨h1,h2⟩:=k_.mp h
 have e1:ix.length=N2.length:=by simpa using h1
 refine ⟨e1,fun i x j a b=>?_,fun y hy e=>?_,fun y hy e=>?_,fun x m1 m2=>?_⟩
 . have m:(some j,x)∈ix.zip N2:=by
    refine bN (i:=i) ?_
    rw [List.getElem?_zip_eq_some]
    exact ⟨b,a⟩
   have q:=o7.mp h2 _ m
   dsimp only at q
   obtain ⟨q,q3⟩:=k_.mp q
   obtain ⟨q1,q2⟩:=k_.mp q
   exact ⟨by simpa using q1,by simpa using q2,(Fy.mp q3).imp (fun z=>by simpa using z) fun z=>by simpa using z⟩
 . have q:=o7.mp h3 y hy
   rcases Fy.mp q with z|z
   . rw [e] at z;simp at z
   . exact (Fy.mp z).imp (fun z=>by simpa using z) fun z=>by simpa using z
 . have q:=o7.mp h4 y hy
   rcases Fy.mp q with z|z
   . rw [e] at z;simp at z
   . simpa using z
 . have q:=o7.mp h5 _ m1
   rcases Fy.mp q with z|z
   . simp at z
   . have q2:=o7.mp z _ m2
     simp at q2
theorem DW {ix:List (Option Nat)} {Q:VK}
  {RR:Value->Addr->Result->Shared->Prop} (hc:X.calm=true) (hg:∀cl s₂ H₂ fp,PG (cY X N2 scope cl s₂ H₂ fp) tg g) (he:∀cl s₂ H₂ fp,PE (cY X N2 scope cl s₂ H₂ fp) elt te)
  (hk:scope.kind = .function) (hn:nj X.N X.env.scope.names scope.names N2 ix=true)
  (KG:∀y c,(y,c)∈cl->X.env.cells.lookup y=some c) (FQ:∀y,(y,NameKind.free)∈scope.names->∃c,(y,c)∈cl)
  {it:Addr} {fp:List Addr} {tn:Nat->Heap->Prop} {J:It} (I:Inv X pins σ H s) (T:Turn X.prog X.w X.K tg J fp it tn) (st:tn 0 s.heap) (f:∀b∈fp,pe X pins H b)
  (h:∀acc,H acc=none->A8 J g te acc (ix.map fun o=>o.bind fun j=>(σ[j]?).join) H Q)
  (hR:∀acc C H' s' m,Inv X pins σ H' s'->s'.heap.Ns C m->H' C=none->C≠X.env.locals->X.s₀.heap.objs.size<=C->(∀x c,X.env.cells.lookup x=some c->c≠C)->(∀p∈X.pn++pins,p.1≠C)->Q (.ref acc) H'->RR (.ref acc) C (.ok .next) s'):
  wpAny (model X.prog X.w) X.A (newList []) (fun acc s₃=>wpAny (model X.prog X.w) X.A (newFunctionEnv scope X.env.globals cl [] X.env.qual none .none (some X.env)) (fun cenv s₄=>
   codeAny (model X.prog X.w) X.A (.compStart (.ListComp elt [⟨tg,iter,[],0⟩] scope pos) 0 (.ref it) acc { cenv with scope:=relabel scope X.env }) (RR acc cenv.locals) s₄) E s₃) E s:=by
 obtain ⟨k1,k2,k3,k4,k5⟩:=mJ hn
 refine qy ?_
 have I3:Inv X pins σ (upd H s.heap.objs.size (.lst [])) { s with heap:=s.heap.push { cls:= .type "list",data:= .seq ([] :List Value).toArray } }:=
  I.laid (a:=s.heap.objs.size) (o:= .lst []) (t':=s.toks) (fun _ _ q=>cA _ q) (aP _) ⟨f_ _,[],_, .nil,dY _ rfl⟩
 obtain ⟨W,⟨m0,w0⟩,turn⟩:=h s.heap.objs.size I.fresh
 have fo:∀b∈fp,b<s.heap.objs.size:=fun b hb=>by
  obtain ⟨o,e,_⟩:=T.obj 0 _ st b hb
  exact bP e
 have st3:tn 0 (s.heap.push { cls:= .type "list",data:= .seq ([] :List Value).toArray }):=T.keep _ _ _ st fun b _ o e=>cA _ e
 have f3:∀b∈fp,pe X pins (upd H s.heap.objs.size (.lst [])) b:=fun b hb=>⟨by rw [av (dP (fo b hb))];exact (f b hb).1,(f b hb).2⟩
 have SJ:∀b∈fp,b<(s.heap.push { cls:= .type "list",data:= .seq ([] :List Value).toArray }).objs.size:=fun b hb=>by rw [mF];exact Qv (fo b hb)
 generalize es3:({ s with heap:=s.heap.push { cls:= .type "list",data:= .seq ([] :List Value).toArray } }:Shared)=s3 at *
 have eh3:s3.heap=s.heap.push { cls:= .type "list",data:= .seq ([] :List Value).toArray }:=by rw [<-es3]
 rw [<-eh3] at st3 SJ
 generalize s.heap.objs.size=acc at *
 generalize eH3:upd H acc (.lst [])=H3 at *
 have IY:=DV (N2:=N2) (scope:=scope) (cl:=cl) (fp:=fp) (σ2:=ix.map fun o=>o.bind fun j=>(σ[j]?).join) I3 hk KG FQ f3 SJ (by rw [aF];exact k1) (fun i x v e1 e2=>by
  rw [bJ] at e2
  cases ei:ix[i]? with
  | none=>rw [ei] at e2;cases e2
  | some o=>
    rw [ei] at e2
    cases o with
    | none=>cases e2
    | some j=>
      obtain ⟨a1,a2,a3⟩:=k2 i x j e1 ei
      refine ⟨a2,a3,j,a1,?_⟩
      have e3:(σ[j]?).join=some v:=iG e2
      cases ej:σ[j]? with
      | none=>rw [ej] at e3;cases e3
      | some z=>rw [ej] at e3;exact ie some e3) k5
 have ne:wpAny (model X.prog X.w) X.A (newFunctionEnv scope X.env.globals cl [] X.env.qual none .none (some X.env)) (fun cenv s₄=>
   cenv={ scope:=scope,locals:=s3.heap.objs.size,globals:=X.env.globals,cells:=cellsFrom (s3.heap.objs.size+1) scope.names cl,qual:=X.env.qual,func:=none,code:=X.env.code,frame:=X.env.frame,builtins:=X.env.builtins }/\
   s₄={ s3 with heap:=pushCells (s3.heap.push { cls:= .type "dict",data:= .dict #[] }) scope.names }) E s3:=by
  simp only [newFunctionEnv,Option.isSome_some,rj]
  refine aq (wpAny_alloc ?_)
  refine aq (wpAny_layCells _ (fun name kind cells=>by cases hkc:kind==NameKind.cell <;> simp [hkc]) _ _ _ _ ?_)
  rw [Du]
  refine aq (aL (aL ⟨?_,Z⟩))
  rw [show ({ s3 with heap:=s3.heap.push { cls:= .type "dict",data:= .dict #[] } }:Shared).heap.objs.size=s3.heap.objs.size+1 from mF ..]
 refine bq ne fun cenv s4 ⟨e1,e2⟩=>?_
 subst e1 e2
 have SK:tn 0 (pushCells (s3.heap.push { cls:= .type "dict",data:= .dict #[] }) scope.names):=T.keep _ _ _ st3 fun b _ o e=>JO _ _ b o (cA _ e)
 have zO:s3.heap.objs.size≠X.env.locals:=xX I3.lt
 have uq:∀{H':Hp},(∀b∈fp,H' b=none)->∀b∈fp,pe (cY X N2 scope cl s3 H3 fp) [] H' b:=fun {H'} hn b hb=>
  ⟨hn b hb,(IY.ok.Kc b hb).1,IY.ok.Co b hb, .inl hb,(IY.ok.Kc b hb).2,fun p hp=>nomatch hp⟩
 have loop:codeAny (model X.prog X.w) X.A (.compLoop (.ListComp elt [⟨tg,iter,[],0⟩] scope pos) 0 (.ref it) (.ref acc) (cY X N2 scope cl s3 H3 fp).env) (RR (.ref acc) s3.heap.objs.size)
   { s3 with heap:=pushCells (s3.heap.push { cls:= .type "dict",data:= .dict #[] }) scope.names }:=by
  refine KC (fun n s'=>∃i σ' H',Inv (cY X N2 scope cl s3 H3 fp) [] σ' H' s'/\tn i s'.heap/\(∀b∈fp,H' b=none)/\W i n σ' H') ?_ m0 ⟨0,_,H3,IY,SK,fun b hb=>(f3 b hb).1,w0⟩
  rintro n s5 ⟨i,σ5,H5,I5,zP,KH,w5⟩
  rcases turn i n σ5 H5 w5 with ⟨stop,qn⟩|⟨go,S,N,hSN,step⟩
  . refine bq (T.done (cY X N2 scope cl s3 H3 fp) rfl rfl rfl hc i [] s5 σ5 H5 (fun _ _=>False) I5 (uq KH) zP stop) fun r s6 ⟨hr,I6⟩=>?_
    subst hr
    obtain ⟨m6,ns6,_⟩:=id I6.loc
    have IX:Inv X pins σ H5 s6:=I3.JR (ch:=fp) I6.os I6.base I6.hok I6.bare fun b hb=>⟨(f3 b hb).2.2.2.1,(f3 b hb).2.1,(f3 b hb).2.2.2.2.1,(f3 b hb).2.2.2.2.2⟩
    refine hR acc s3.heap.objs.size H5 s6 m6 IX ns6 I6.free zO I3.sz (fun x c e z=>?_) (fun p hp z=>?_) qn
    . obtain ⟨v,q⟩:=I3.cell x c e
      exact absurd q.lt (by rw [z];exact jl _)
    . exact absurd (bP (I3.pin p hp).1) (by rw [z];exact jl _)
  . refine bq (T.item (cY X N2 scope cl s3 H3 fp) rfl rfl rfl hc i [] s5 σ5 H5 (fun _ _=>False) I5 (uq KH) zP go) fun r s6 ⟨u,hr,h6⟩=>?_
    subst hr
    refine bq h6 fun _ s7 ⟨x,H7,I7,r7,y7,DX,SM⟩=>?_
    have I7':=I7.pinned (uq SM) (T.obj _ _ DX)
    refine bq (hg cl s3 H3 fp _ s7 σ5 H7 x u _ I7' r7 (step x H7 y7)) fun _ s8 ⟨σ8,H8,I8,W8,q8⟩=>?_
    refine bq (he cl s3 H3 fp _ s8 σ8 H8 _ I8 q8) fun y s9 ⟨v,H9,I9,r9,q9⟩=>?_
    obtain ⟨xs,hxs,hxl,m',hm,w9⟩:=hSN σ8 v H9 W8 q9
    refine bq (gX _ s9 σ8 H9 (.ref acc) [v] (.ref acc) [y] (fun z KI=>z = .bZ/\KI=upd H9 acc (.lst (xs++[v]))) I9 rfl (.cons r9 .nil) ⟨acc,xs,v,Z,Z,hxs,hxl,Z,Z⟩) fun z s10 ⟨zv,KI,KJ,r10,ez,eH⟩=>?_
    subst eH
    refine ⟨m',hm,i+1,σ8,_,KJ.qA,T.keep _ _ _ DX fun b hb o e=>(KJ.pin (b,o) (jE _ (jE _ (jm hb e)))).1,fun b hb=>?_,w9⟩
    obtain ⟨o,e,d⟩:=T.obj _ _ DX b hb
    exact (KJ.pin (b,o) (jE _ (jE _ (jm hb e)))).2.1
 exact codeAny_compStart_list loop (T.self _ 0 _ _ _ SK loop)
end
variable {acc:Addr}
theorem QU {lo:Int} {k:Nat} {Q:VK} (Pv:Nat->List V->Hp->Prop) (hn:n<=100000) (h0:Pv 0 [] (upd H acc (.lst [])))
  (hs:∀(i:Nat) (out:List V) (H1:Hp),i<n->out.length=i->H1 acc=some (.lst out)->Pv i out H1->te (σ2.set k (some (.int (lo+i)))) H1 (uo Pv i acc out))
  (hd:∀(out:List V) (H1:Hp),out.length=n->H1 acc=some (.lst out)->Pv n out H1->Q (.ref acc) H1):
  A8 (Hj lo n) (gc k) te acc σ2 H Q:=by
 refine ⟨fun i m σ' H'=>m=n-i/\i<=n/\(∀v,σ'.set k (some v)=σ2.set k (some v))/\∃out,out.length=i/\H' acc=some (.lst out)/\Pv i out H',⟨n,by simp,f_ _,fun _=>rfl,[],Z,aj,h0⟩,?_⟩
 rintro i m σ' H' ⟨rfl,hi,hσ,out,ho,ha,p⟩
 by_cases hlt:i<n
 . refine .inr ⟨hlt,fun σ3=>∀v,σ3.set k (some v)=σ2.set k (some v),(uo Pv i acc out),fun σ3 v H4 hS ⟨a,b⟩=>?_,fun x H1 y=>?_⟩
   . refine ⟨out,a,?_,n-(i+1),by omega,Z,hlt,hS,out++[v],by rw [di,ho];rfl,aj,b⟩
     have:sizeLine=16777216:=fu
     omega
   . obtain ⟨e,y⟩:=y
     subst e y
     refine ⟨fun v=>by rw [vC];exact hσ v,?_⟩
     have q:=hs i out _ hlt ho ha p
     rw [<-hσ] at q
     exact q
 . have e:i=n:=by omega
   subst e
   exact .inl ⟨aP _,hd out H' ho ha p⟩
variable {H':Hp}
theorem aE.cF {p:Addr} (e:aE H H') (h:H p=none) (o:HO):aE H (upd H' p o):=fun b u q=>by rw [av (aI q h)];exact e b u q
theorem BQ (n d:Int):SeqAt.shaped (.tuple [.int n, .int d])=true:=rfl
theorem VN (n d:Int):PyData.eqv (.tuple [.int n, .int d]) (.tuple [.int n, .int d])=true:=by simp [PyData.eqv,PyData.eqvAll]
variable {q:Rat}
theorem SN {p:Addr} (h:H p=some (pG q)):Dt K H (.ref p) (.tuple [.int q.num, .int (q.den:Int)]):= .tup (cR.of h) (.cons (.int _) (.cons (.int _) .nil))
inductive aaJ (vs:List V) (H:Hp) (Q:VK) (E:XK):Prop
 | mk (t b:Int) (_:vs=[.int t, .int b]) (_:0<b) (_:Jm.Sz 9000 b) (_:∀(r:Addr) (H':Hp),aE H H'->H' r=some (pG (Jm.fr t b))->Q (.ref r) H')
def A_:Sp:=bx (aaJ)
theorem Hz {Q:VK} {E:XK} {t b:Int} (h0:0<b) (h1:Jm.Sz 9000 b) (h:∀(r:Addr) (H':Hp),aE H H'->H' r=some (pG (Jm.fr t b))->Q (.ref r) H'):A_ [.int t, .int b] H Q E:=⟨t,b,Z,h0,h1,h⟩
inductive xIs (vs:List V) (H:Hp) (Q:VK) (E:XK):Prop
 | mk (p:Addr) (q:Rat) (t b:Int) (_:vs=[.ref p, .int t, .int b]) (_:H p=some (pG q)) (_:0<b) (_:Jm.Sz 9000 b) (_:q=Jm.fr t b) (_:∀H',aE H H'->Q (.bl true) H')
def VO:Sp:=bx (xIs)
theorem aaK {Q:VK} {E:XK} {p:Addr} {t b:Int} (hp:H p=some (pG q)) (h0:0<b) (h1:Jm.Sz 9000 b) (e:q=Jm.fr t b) (h:∀H',aE H H'->Q (.bl true) H'):VO [.ref p, .int t, .int b] H Q E:=⟨p,q,t,b,Z,hp,h0,h1,e,h⟩
section
variable {X:Cx}
theorem VP (hc:X.calm=true):gQ X (.builtin "sum") (fun xs H Q=>∃(a:Addr) (ns:List Int),xs=[.ref a]/\aC X.K H a (ns.map V.int)/\Q (.int ns.sum) H):=by
 intro pins s σ H xs us Q I r h
 obtain ⟨a,ns,rfl,hS,q⟩:=h
 obtain ⟨u,rfl,ru⟩:=vals1 r
 cases ru
 obtain ⟨its,rv,p,hz⟩:=I.list hS
 have hi:=intsAre_of rv
 have hl:=p.isList
 obtain ⟨o,ho,_⟩:=id hl
 have hne:a≠s.heap.objs.size:=dP (bP ho)
 have W:=(Walks.list (prog:=X.prog) (w:=X.w) (A:=X.A.in1) (I.ok.hd hc) s.heap.objs.size a hne its.toArray).toS
 have DY:its.length=ns.length:=by rw [<-rv.length,aF]
 refine call_sum_walkAnyS (Qt hl ?_)
 refine ⟨s.heap.objs.size,_,_,_,_,_,_,fun i=>ns.getD i 0,Z,W,⟨⟨_,dY _ rfl,Z,Z⟩,hl.at fun o e=>cA _ e⟩,fun b hb=>?_,fun i v hP=>?_,fun s' t' hm=>?_⟩
 . rcases c_.mp hb with rfl|hb
   . exact bP (dY _ rfl)
   . obtain rfl:=fU.mp hb
     exact bP (cA _ ho)
 . have SQ:its[i]?=some v:=by simpa using hP
   have hil:i<ns.length:=by
    have:=(eF.mp SQ).1
    omega
   obtain ⟨u,hu,ru⟩:=rv.get (i:=i) (x:=V.int ns[i]) (by rw [bJ,aX hil];rfl)
   rw [SQ] at hu
   cases hu
   obtain ⟨t,e⟩:=ru
   refine ⟨t,?_⟩
   rw [e]
   show Value.int ns[i] t=Value.int (ns.getD i 0) t
   rw [i_,aX hil]
   rfl
 . obtain ⟨h',g',d',tk',os'⟩:=s'
   have e1:g'=s.gens:=hm.gens
   have e2:d'=s.drawn:=hm.drawn
   have e3:os'=s.os:=hm.os
   subst e1 e2 e3
   have hsz:its.toArray.size=ns.length:=by rw [iz,DY]
   rw [hsz,preSum_getD,zj (aP _)]
   exact ⟨.int ns.sum,H,I.kept (h':=h') (t':=tk') fun b o e=>hm.heap b o (fun hb=>absurd (bP e) ((fU.mp hb)▸jl _)) (cA _ e),⟨t',Z⟩,q⟩
theorem VQ (hc:X.calm=true):gQ X (.builtin "all") (fun xs H Q=>∃(a:Addr) (bs:List Bool),xs=[.ref a]/\aC X.K H a (bs.map V.bl)/\Q (.bl (bs.all id)) H):=by
 intro pins s σ H xs us Q I r h
 obtain ⟨a,bs,rfl,hS,q⟩:=h
 obtain ⟨u,rfl,ru⟩:=vals1 r
 cases ru
 obtain ⟨its,rv,p,hz⟩:=I.list hS
 have hl:=p.isList
 obtain ⟨o,ho,_⟩:=id hl
 have hne:a≠s.heap.objs.size:=dP (bP ho)
 have DY:its.length=bs.length:=by rw [<-rv.length,aF]
 refine call_all_walk (Qt hl ?_)
 refine ⟨s.heap.objs.size,_,_,_,_,_,fun i=>bs.getD i false,Z,Walks.list (prog:=X.prog) (w:=X.w) (A:=X.A.in1) (I.ok.hd hc) s.heap.objs.size a hne its.toArray,⟨⟨_,dY _ rfl,Z,Z⟩,hl.at fun o e=>cA _ e⟩,fun i v s' Q' E' hP hQ=>?_,fun h' tk hk=>?_⟩
 . have SQ:its[i]?=some v:=by simpa using hP
   have hil:i<bs.length:=by
    have:=(eF.mp SQ).1
    omega
   obtain ⟨u,hu,ru⟩:=rv.get (i:=i) (x:=V.bl bs[i]) (by rw [bJ,aX hil];rfl)
   rw [SQ] at hu
   cases hu
   have e:v=Value.bool bs[i] :=ru
   subst e
   refine zx ?_
   have hQ2:Q' (bs.getD i false) s':=hQ
   rw [i_,aX hil] at hQ2
   exact hQ2
 . have hsz:its.toArray.size=bs.length:=by rw [iz,DY]
   have e:(List.range its.toArray.size).all (fun i=>bs.getD i false)=bs.all id:=by
    rw [hsz,AK,o7,o7]
    refine ⟨fun z x hx=>?_,fun z i hi=>?_⟩
    . obtain ⟨i,hi,e⟩:=List.mem_iff_getElem.mp hx
      have:=z i (xV.mpr hi)
      rw [i_,aX hi] at this
      rw [<-e]
      exact this
    . have hi':=xV.mp hi
      rw [i_,aX hi']
      exact z _ (tR hi')
   rw [e]
   exact ⟨.bl (bs.all id),H,I.kept (h':=h') (t':=tk) fun b o e=>hk b o (fun hb=>absurd (bP e) ((fU.mp hb)▸jl _)) (cA _ e),Z,q⟩
end
section
variable {X:Cx} (K:Fg)
theorem bF (hK:X.K=K:=by rfl):yS X (QM K):=hK▸Ss
theorem aK (hK:X.K=K:=by rfl):yS X (Vw K):=hK▸OO
theorem FT (hu:X.A.units+64<cLine) (hK:X.K=K:=by rfl):ig X (compareOp .Eq) (VL K):=hK▸aay hu
theorem OS (hu:X.A.units+64<cLine) (hK:X.K=K:=by rfl):ig X (compareOp .NotEq) (aax K):=hK▸aaz hu
theorem lT (hc:X.calm=true) (hK:X.K=K:=by rfl):gQ X (.builtin "sum") (fun xs H Q=>∃(a:Addr) (ns:List Int),xs=[.ref a]/\aC K H a (ns.map V.int)/\Q (.int ns.sum) H):=hK▸VP hc
theorem SR (hc:X.calm=true) (hK:X.K=K:=by rfl):gQ X (.builtin "all") (fun xs H Q=>∃(a:Addr) (bs:List Bool),xs=[.ref a]/\aC K H a (bs.map V.bl)/\Q (.bl (bs.all id)) H):=hK▸VQ hc
theorem bV (hK:X.K=K:=by rfl):gQ X (.builtin "len") (fun xs H Q=>∃p ys,xs=[.ref p]/\(aC K H p ys\/cR K H p ys)/\Q (.int ys.length) H):=hK▸Ko
theorem nH (hK:X.K=K:=by rfl):gQ X (.type "list") (fun xs H Q=>∃p ys,xs=[.ref p]/\(aC K H p ys\/cR K H p ys)/\∀l,H l=none->Q (.ref l) (upd H l (.lst ys))):=hK▸Kr
theorem cZ (hK:X.K=K:=by rfl):gQ X (.builtin "isinstance") (fun xs H Q=>∃x n t b,xs=[x, .ty n]/\gy K H x t/\PySem.W.kitOne K t (.type n)=some b/\Q (.bl b) H):=hK▸Nm
end
theorem Np {l1 l2:Nat} (h1:l1<n) (h2:l2<n):ZipApart (n+4) (n+2) (n+3) n (n+1) l1 l2:=by
 have nn:∀i j:Nat,i≠j->n+i≠n+j:=fun i j h e=>h (Nat.add_left_cancel e)
 have ne:∀(c k:Nat),c<n->c≠n+k:=fun c k h=>by omega
 exact ⟨nn 2 4 (by decide),nn 3 4 (by decide),nn 0 4 (by decide),nn 1 4 (by decide),nn 2 3 (by decide),nn 2 0 (by decide),nn 2 1 (by decide),nn 3 0 (by decide),nn 3 1 (by decide),nn 0 1 (by decide),ne _ 4 h1,ne _ 3 h1,ne _ 0 h1,ne _ 1 h1,ne _ 4 h2,ne _ 3 h2,ne _ 0 h2,ne _ 1 h2⟩
section
variable {X:Cx} {elts:List Expr} {kk:Nat} {tpos:Pos}
end
inductive adC (K:Fg) (vs:List V) (H:Hp) (Q:VK) (E:XK):Prop
 | mk (a:Addr) (ns:List Int) (k j:Int) (_:vs=[.ref a, .int k, .int j]) (_:aC K H a (ns.map V.int)) (_:ns.length<=63) (_:0<=k) (_:0<=j) (_:j<2 ^ 61) (_:∀(m:Int) (H':Hp),1<=m->m<=1000000000->aE H H'->Q (.int m) H')
def DZ (K:Fg):Sp:=bx (adC K)
theorem KL {Q:VK} {E:XK} {k j:Int} (hS:aC K H a (ns.map V.int)) (h63:ns.length<=63) (h1:0<=k) (h2:0<=j) (h3:j<2 ^ 61)
  (h:∀(m:Int) (H':Hp),1<=m->m<=1000000000->aE H H'->Q (.int m) H'):DZ K [.ref a, .int k, .int j] H Q E:=⟨a,ns,k,j,Z,hS,h63,h1,h2,h3,h⟩
variable {xs:List V} {i:Nat}
theorem je {v:V} (h:xs[i]?=some v):jU xs (i:Int)=some v:=aQ h
section
variable {X:Cx}
inductive adD (Q:VK) (vs:List V) (H1:Hp):Prop
 | mk  (j:Int) (_:vs=[.int j]) (_:∀p,H1 p=none->Q (.ref p) (upd H1 p (.vD 0 j)))
def ag1 (ta:TA):TE:=fun σ H Q=>ta σ H (adD Q)
def upTo (n:Nat):List Int:=(List.range n).map fun i=>((i:Nat):Int)
theorem IC (hc:X.calm=true):gQ X (.type "list") (fun xs H Q=>∃(r:Addr) (n:Nat),xs=[.ref r]/\H r=some (.vD 0 (n:Int))/\n<=1000/\∀l,H l=none->Q (.ref l) (upd H l (.lst ((upTo n).map V.int)))):=by
 intro pins s σ H xs us Q I r h
 obtain ⟨a,n,rfl,hr,hn,q⟩:=h
 obtain ⟨u,rfl,ru⟩:=vals1 r
 cases ru
 obtain ⟨t,t2,t3,e⟩:=(show dN X.prog X.w H s.heap a (.vD 0 (n:Int)) from I.hok a _ hr)
 refine call_list_range (n:=n) (I.ok.hd hc) e (small_one (by decide) (by decide) (by omega) (by omega)) (by rw [rangeSize_one];split <;> omega) (by omega) fun h' tk acc' c' hk hS hI=>?_
 obtain ⟨hsz,hit⟩:=hI
 have hv:Vals ((upTo n).map V.int) acc'.toList:=by
  have gen:∀(m:Nat) (us:List Value) (k:Nat),us.length=m->(∀(j:Nat) (v:Value),us[j]?=some v->∃t,v = .int ((0:Int)+((k+j:Nat):Int)*1) t)->Vals (((List.range' k m).map fun i=>((i:Nat):Int)).map V.int) us:=by
   intro m
   induction m with
   | zero=>intro us k hl _;rw [List.length_eq_zero_iff.mp hl];exact .nil
   | succ m ih=>
     intro us k hl hu
     cases us with
     | nil=>cases hl
     | cons v r=>
       obtain ⟨t,e⟩:=hu 0 v rfl
       refine .cons ⟨t,?_⟩ (ih r (k+1) (by simpa using hl) fun j v' hj=>?_)
       . rw [e]
         show Value.int _ t=Value.int ((k:Nat):Int) t
         congr 1
         omega
       . obtain ⟨t,e⟩:=hu (j+1) v' (by simpa using hj)
         exact ⟨t,by rw [e];congr 1;omega⟩
  have:=gen n acc'.toList 0 (by simpa using hsz) fun j v hj=>by
   obtain ⟨t,e⟩:=hit j v (by simpa using hj)
   exact ⟨t,by rw [e];congr 1;omega⟩
  unfold upTo
  rw [List.range_eq_range']
  exact this
 have hlen:((upTo n).map V.int).length<=sizeLine:=by unfold upTo;simp;exact small (by omega)
 exact ⟨.ref s.heap.objs.size,_,I.laid (a:=s.heap.objs.size) (o:= .lst ((upTo n).map V.int)) (h':=h') (t':=tk) hk (aP _) ⟨hlen,acc'.toList,c',hv,by simpa using hS⟩,Z,q _ I.fresh⟩
inductive Ys (K:Fg) (Q:VK) (x:V) (y:V) (H2:Hp):Prop
 | mk  (_:y = .int (-1)) (a xs:_) (_:x = .ref a) (_:aC K H2 a xs) (_:∀p,H2 p=none->Q (.ref p) (upd H2 p (.lst xs.reverse)))
def adE (K:Fg) (ts:TE) (σ:St) (Q:VK):V->Hp->Prop:=fun x H1=>ts σ H1 (Ys K Q x)
def ag2 (K:Fg) (te ts:TE):TE:=fun σ H Q=>te σ H (adE K ts σ Q)
end
theorem Ba {k:Nat} (h:k<n):BL n (k:Int)=some k:=by
 unfold BL
 rw [aB (by omega),aB (by omega)]
 rfl
abbrev tx (cs:List Nat):Str:=⟨cs.toArray⟩
theorem xg (x:Str):tx x.cps.toList=x:=by cases x;rfl
theorem ki (cs:List Nat):(tx cs).length=cs.length:=by show cs.toArray.size=_;rw [iz]
theorem SS (a b:List Nat):(tx a++tx b:Str)=tx (a++b):=by
 show (⟨a.toArray++b.toArray⟩:Str)=_
 simp [tx]
def W9 (cs:List Nat):It:=⟨fun i _=>i<cs.length,fun i H v H'=>H'=H/\∃c,cs[i]?=some c/\v = .str (tx [c]),fun i _=>cs.length<=i⟩
theorem QV {P:Program} {w:World} {K:Fg} {tg:Expr} (x:Str) (t:Tok) (it:Addr):Turn P w K tg (W9 x.cps.toList) [it] it (fun i h=>h.IsStrIter it "str_ascii_iterator" x t i) where
 mem:=by simp
 obj:=fun i h st b hb=>by
  have e:b=it:=by simpa using hb
  subst e
  obtain ⟨o,e,c,d⟩:=st
  exact ⟨o,e,fun v z=>by rw [d] at z;cases z⟩
 keep:=fun i h h' st k=>let ⟨o,ho,r⟩:=st;⟨o,k it (by simp) o ho,r⟩
 item:=by
  intro X hP hw hK hc i pins s σ H E I hf st hg
  subst hP hw hK
  have hi:i<x.cps.size:=by have hg':i<x.cps.toList.length:=hg;simpa using hg'
  obtain ⟨f0,f1,f2,f3,f4,f5⟩:=hf it (by simp)
  refine wpAny_pyNext_ascii_item st (c:=x.cps[i]) (by simp [hi]) fun h' st' sb=>?_
  have I1:Inv X pins σ H { s with heap:=h',toks:=s.toks+1 }:=I.turned (t':=s.toks+1) (fun b o hb e=>sb.extBut b o hb e) f0 f1 f3 f4 f5
  obtain ⟨o,e,c,d⟩:=id st'
  exact ⟨_,Z,DC (s:={ s with heap:=h',toks:=s.toks+1 }) e c d (by decide) ⟨.str (tx [x.cps[i]]),H,I1,⟨_,Z⟩,⟨Z,x.cps[i],by simp [hi],Z⟩,st',fun b hb=>(hf b hb).1⟩⟩
 done:=by
  intro X hP hw hK hc i pins s σ H E I hf st hg
  subst hP hw hK
  have hi:x.cps.size<=i:=by have hg':x.cps.toList.length<=i:=hg;simpa using hg'
  obtain ⟨f0,f1,f2,f3,f4,f5⟩:=hf it (by simp)
  exact wpAny_pyNext_ascii_end (I.ok.hd hc) st (by simp;omega) fun h' eb=>⟨Z,I.turned (t':=s.toks) (fun b o hb e=>eb b o hb e) f0 f1 f3 f4 f5⟩
 self:=fun _ _ _ _ _ st h=>wpAny_pyIter_striter_ascii st h
theorem SV {P:Program} {w:World} {K:Fg} {tg:Expr} (x:Str) (t:Tok) (it:Addr):Turn P w K tg (W9 x.cps.toList) [it] it (fun i h=>h.IsStrIter it "str_iterator" x t i) where
 mem:=by simp
 obj:=fun i h st b hb=>by
  have e:b=it:=by simpa using hb
  subst e
  obtain ⟨o,e,c,d⟩:=st
  exact ⟨o,e,fun v z=>by rw [d] at z;cases z⟩
 keep:=fun i h h' st k=>let ⟨o,ho,r⟩:=st;⟨o,k it (by simp) o ho,r⟩
 item:=by
  intro X hP hw hK hc i pins s σ H E I hf st hg
  subst hP hw hK
  have hi:i<x.cps.size:=by have hg':i<x.cps.toList.length:=hg;simpa using hg'
  obtain ⟨f0,f1,f2,f3,f4,f5⟩:=hf it (by simp)
  refine wpAny_pyNext_wide_item st (c:=x.cps[i]) (by simp [hi]) fun h' st' sb=>?_
  have I1:Inv X pins σ H { s with heap:=h',toks:=s.toks+1 }:=I.turned (t':=s.toks+1) (fun b o hb e=>sb.extBut b o hb e) f0 f1 f3 f4 f5
  obtain ⟨o,e,c,d⟩:=id st'
  exact ⟨_,Z,DC (s:={ s with heap:=h',toks:=s.toks+1 }) e c d (by decide) ⟨.str (tx [x.cps[i]]),H,I1,⟨_,Z⟩,⟨Z,x.cps[i],by simp [hi],Z⟩,st',fun b hb=>(hf b hb).1⟩⟩
 done:=by
  intro X hP hw hK hc i pins s σ H E I hf st hg
  subst hP hw hK
  have hi:x.cps.size<=i:=by have hg':x.cps.toList.length<=i:=hg;simpa using hg'
  obtain ⟨f0,f1,f2,f3,f4,f5⟩:=hf it (by simp)
  exact wpAny_pyNext_wide_end (I.ok.hd hc) st (by simp;omega) fun h' eb=>⟨Z,I.turned (t':=s.toks) (fun b o hb e=>eb b o hb e) f0 f1 f3 f4 f5⟩
 self:=fun _ _ _ _ _ st h=>wpAny_pyIter_striter_wide st h
variable {cs:List Nat}
section
variable {X:Cx} {tg:Expr}
inductive adF (R:It->Hp->Prop) (x:V) (H1:Hp):Prop
 | mk  (cs:List Nat) (_:x = .str (tx cs)) (_:R (W9 cs:_) H1)
def aaL (te:TE):TI:=fun σ H R=>te σ H (adF R)
theorem aaM {l:Expr} {tl:TE} (hl:PE X l tl):PI X tg l (aaL tl):=by
 intro pins s σ H R I h
 refine bq (hl pins s σ H _ I h) fun v s1 ⟨x,H1,I1,r1,q1⟩=>?_
 obtain ⟨cs,e,q⟩:=q1
 subst e
 obtain ⟨t,rfl⟩:=r1
 have fp:∀b∈[s1.heap.objs.size],pe X pins H1 b:=fun b hb=>by
  have e:b=s1.heap.objs.size:=by simpa using hb
  subst e
  exact I1.FL (aP _) (I1.hok.fresh (aP _))
 have tw:=@SV X.prog X.w X.K tg (tx cs) t s1.heap.objs.size
 have ta:=@QV X.prog X.w X.K tg (tx cs) t s1.heap.objs.size
 cases ha:(tx cs).cps.all (·<128)
 . exact wpAny_pyIter_wide ha ⟨s1.heap.objs.size,[s1.heap.objs.size],_,_,H1,Z,I1.kept (t':=s1.toks) fun b o e=>cA _ e,tw,⟨_,dY _ rfl,Z,Z⟩,fp,q⟩
 . exact wpAny_pyIter_ascii ha ⟨s1.heap.objs.size,[s1.heap.objs.size],_,_,H1,Z,I1.kept (t':=s1.toks) fun b o e=>cA _ e,ta,⟨_,dY _ rfl,Z,Z⟩,fp,q⟩
theorem VR {k:Nat} {Q:VK} (Pv:Nat->List V->Hp->Prop) (hn:cs.length<=100000) (h0:Pv 0 [] (upd H acc (.lst [])))
  (hs:∀(i:Nat) (c:Nat) (out:List V) (H1:Hp),cs[i]?=some c->out.length=i->H1 acc=some (.lst out)->Pv i out H1->te (σ2.set k (some (.str (tx [c])))) H1 (uo Pv i acc out))
  (hd:∀(out:List V) (H1:Hp),out.length=cs.length->H1 acc=some (.lst out)->Pv cs.length out H1->Q (.ref acc) H1):
  A8 (W9 cs) (gc k) te acc σ2 H Q:=by
 refine ⟨fun i m σ' H'=>m=cs.length-i/\i<=cs.length/\(∀v,σ'.set k (some v)=σ2.set k (some v))/\∃out,out.length=i/\H' acc=some (.lst out)/\Pv i out H',⟨cs.length,by simp,f_ _,fun _=>rfl,[],Z,aj,h0⟩,?_⟩
 rintro i m σ' H' ⟨rfl,hi,hσ,out,ho,ha,p⟩
 by_cases hlt:i<cs.length
 . refine .inr ⟨hlt,fun σ3=>∀v,σ3.set k (some v)=σ2.set k (some v),(uo Pv i acc out),fun σ3 v H4 hS ⟨a,b⟩=>?_,fun x H1 y=>?_⟩
   . refine ⟨out,a,?_,cs.length-(i+1),by omega,Z,hlt,hS,out++[v],by rw [di,ho];rfl,aj,b⟩
     have:sizeLine=16777216:=fu
     omega
   . obtain ⟨e,c,hc,ex⟩:=y
     subst e ex
     refine ⟨fun v=>by rw [vC];exact hσ v,?_⟩
     have q2:=hs i c out _ hc ho ha p
     rw [<-hσ] at q2
     exact q2
 . have e:i=cs.length:=by omega
   subst e
   exact .inl ⟨aP _,hd out H' ho ha p⟩
def wk (cs:List Nat) (lo hi:Option Int):List Nat:=(cs.drop (HT.dI cs.length 0 lo)).take (HT.dI cs.length cs.length hi-HT.dI cs.length 0 lo)
theorem BR (cs:List Nat) (lo hi:Option Int):(wk cs lo hi).length<=cs.length:=by
 unfold wk
 rw [lq,J_]
 omega
theorem QW (cs:List Nat) (lo hi:Option Int):Builtin.Str.strSliceIndices lo hi 1 cs.length=(List.range (HT.dI cs.length cs.length hi-HT.dI cs.length 0 lo)).map (HT.dI cs.length 0 lo+·):=by
 rw [<-sliceRange_one]
 unfold Builtin.Str.strSliceIndices
 simp only [show ((1:Int)>0)=True from by simp,rj]
 congr 1
 . cases lo with
   | none=>rfl
   | some i=>
     simp only [HT.dI]
     by_cases h:i<0
     . simp only [h,rj] <;> omega
     . simp only [h,lE] <;> omega
 . cases hi with
   | none=>rfl
   | some i=>
     simp only [HT.dI]
     by_cases h:i<0
     . simp only [h,rj] <;> omega
     . simp only [h,lE] <;> omega
inductive ag3 (x:V) (lo:Option Int) (hi:Option Int) (H:Hp) (Q:VK):Prop
 | mk  (cs:_) (_:x = .str (tx cs)) (_:cs.length<=sizeLine) (_:Q (.str (tx (wk cs lo hi))) H)
theorem aaN:So X ag3:=by
 intro pins s σ H x v vl vu lo hi sl Q I rx hs pl pu h
 obtain ⟨cs,rfl,hz,q⟩:=h
 obtain ⟨t,rfl⟩:=rx
 refine ⟨"str",_,F.slot_str_getitem.lookup,typeIs_str s _ t,?_⟩
 obtain ⟨l,rfl,el⟩:∃l:Option (Int×Tok),vl=partValue l/\l.map (·.1)=lo:=by
  cases pl with
  | none=>exact ⟨none,Z,Z⟩
  | int i t=>exact ⟨some (i,t),Z,Z⟩
 obtain ⟨u,rfl,eu⟩:∃u:Option (Int×Tok),vu=partValue u/\u.map (·.1)=hi:=by
  cases pu with
  | none=>exact ⟨none,Z,Z⟩
  | int i t=>exact ⟨some (i,t),Z,Z⟩
 refine wpAny_getItem_str_slice (l:=l) (u:=u) (st:=none) hs rfl ?_
 have e1:slicePicked (tx cs) l u none=(List.range (HT.dI cs.length cs.length hi-HT.dI cs.length 0 lo)).map (HT.dI cs.length 0 lo+·):=by
  unfold slicePicked
  rw [el,eu,ki]
  exact QW cs lo hi
 have e2:(slicePicked (tx cs) l u none).filterMap ((tx cs).cps[·]?)=wk cs lo hi:=by
  rw [e1,pick_run]
  rfl
 unfold sliceMade
 split
 . rename_i hc
   have hl:(slicePicked (tx cs) l u none).length=cs.length:=by
    have:=(k_.mp hc).2
    rw [ki] at this
    simpa using this
   have ag4:wk cs lo hi=cs:=by
    rw [e1,aF,Cm] at hl
    unfold wk
    have h1:=HT.Sn cs.length cs.length (aP _) hi
    have h0:HT.dI cs.length 0 lo=0\/cs.length=0:=by omega
    rcases h0 with h0|h0
    . rw [h0] at hl ⊢
      rw [List.drop_zero,hl,cC]
    . have:cs=[] :=List.length_eq_zero_iff.mp h0
      subst this
      simp
   rw [ag4] at q
   exact ⟨.str (tx cs),H,I,⟨t,Z⟩,q⟩
 . show (Made.str ⟨_⟩).post _ _
   rw [e2]
   refine ⟨?_, .str (tx (wk cs lo hi)),H,I.tok _,⟨_,Z⟩,q⟩
   show (tx (wk cs lo hi)).length<=sizeLine
   rw [ki]
   exact fq (BR cs lo hi) hz
end
theorem Yt (cs:List Nat) (k:Nat):wk cs none (some (k:Int))=cs.take k:=by
 unfold wk
 rw [HT.Cu,HT.wZ,List.drop_zero,Nat.sub_zero]
 rcases Nat.le_total k cs.length with h|h
 . rw [Nat.min_eq_left h]
 . rw [Nat.min_eq_right h,cC,zj h]
def D0 (signs:Str) (c:Nat):Bool:=!(Builtin.Str.occurrences signs (tx [c]) 0 signs.length 1).isEmpty
def lF (c:Int) (n:Nat):List Nat:=(List.range n).map fun i=>97+((c / 26 ^ i) % 26).toNat
theorem ya (c:Int) (n:Nat):(lF c n).length=n:=by unfold lF;rw [aF,Cm]
theorem VT (c:Int) (n:Nat):lF c (n+1)=lF c n++[97+((c / 26 ^ n) % 26).toNat] :=by
 unfold lF
 rw [List.range_succ,bL]
 rfl
theorem SW {k:Int} (h0:0<=k) (h1:k<26):jU (("abcdefghijklmnopqrstuvwxyz":Str).cps.toList) k=some (97+k.toNat):=by
 have h:∀n:Nat,n<26->("abcdefghijklmnopqrstuvwxyz":Str).cps.toList[n]?=some (97+n):=by decide +kernel
 have e:k=((k.toNat:Nat):Int):=by omega
 have:=aQ (h k.toNat (by omega))
 rw [<-e] at this
 exact this
structure FU (vs:List V) (H:Hp) (Q:VK) (E:XK):Prop where
 ex:∃(c:Int) (n:Nat),vs=[.int c, .int (n:Int)]/\0<=c/\n<=1000/\Q (.str (tx (lF c n))) H
theorem KN {Q:VK} {E:XK} {c ni:Int} (e:ni=(n:Int)) (hc:0<=c) (hn:n<=1000) (q:Q (.str (tx (lF c n))) H):FU [.int c, .int ni] H Q E:=by
 subst e
 exact ⟨c,n,Z,hc,hn,q⟩
inductive Yu (vs:List V) (H:Hp) (Q:VK) (E:XK):Prop
 | mk (cs:List Nat) (signs:Str) (_:vs=[.str (tx cs), .str signs]) (_:cs.length<=100000) (_:∀H',aE H H'->Q (.bl (cs.all (D0 signs))) H')
def Cy:Sp:=bx (Yu)
theorem QX {H:Hp} {Q:VK} {E:XK} {cs:List Nat} {signs:Str} (hl:cs.length<=100000) (q:∀H',aE H H'->Q (.bl (cs.all (D0 signs))) H'):Cy [.str (tx cs), .str signs] H Q E:=⟨cs,signs,Z,hl,q⟩
def isName (cs:List Nat):Bool:=decide (1<=(cs.length:Int)) && decide ((cs.length:Int)<=8) && cs.all (D0 "abcdefghijklmnopqrstuvwxyz")
inductive Yv (vs:List V) (H:Hp) (Q:VK) (E:XK):Prop
 | mk (cs:List Nat) (_:vs=[.str (tx cs)]) (_:cs.length<=100000) (_:∀H',aE H H'->Q (.bl (isName cs)) H')
def yb:Sp:=bx (Yv)
theorem D3 {Q:VK} {E:XK} (hl:cs.length<=100000) (q:∀H',aE H H'->Q (.bl (isName cs)) H'):yb [.str (tx cs)] H Q E:=⟨cs,Z,hl,q⟩
theorem D4 {p q:Prop} (h:if true=true then p else q):p:=by rwa [aB rfl] at h
theorem D5 {p q:Prop} (h:if false=true then p else q):q:=by rwa [az fJ] at h
variable {cond:Expr}
section
variable {prog:Program} {w:World} {A:Around} {R:Result->Shared->Prop} {s:Shared}
theorem ID {target:Expr} {it acc:Value} (J:Nat->Shared->Prop)
  (turn:∀n s,J n s->wpAny (model prog w) A (pyNext it) (fun r s₁=>match r with
    | none=>R (.ok .next) s₁
    | some v=>wpAny (model prog w) A (letOwnedTupleGo target it v) (fun _ s₂=>wpAny (model prog w) A (assign target env v) (fun _ s₃=>wpAny (model prog w) A (isTrue cond env (eval cond env)) (fun ok s₃'=>if ok=true then
       wpAny (model prog w) A (eval elt env) (fun x s₄=>wpAny (model prog w) A (call (.builtin "list.append") [acc,x]) (fun _ s₅=>∃m,m<n/\J m s₅) (fun _ _=>False) s₄) (fun _ _=>False) s₃'
       else ∃m,m<n/\J m s₃') (fun _ _=>False) s₃) (fun _ _=>False) s₂) (fun _ _=>False) s₁) (fun _ _=>False) s)
  (n:Nat) (h:J n s):codeAny (model prog w) A (.compLoop (.ListComp elt [⟨target,iter,[cond],0⟩] scope pos) 0 it acc env) R s:=by
 refine codeAny_loop rfl J (fun n s hI=>?_) n h
 show wpAny _ A ((compTurn (.ListComp elt [⟨target,iter,[cond],0⟩] scope pos) 0 it acc env).onRaise (fun x=>do noteFrame x env;theTreesLotGoes x)) _ _ s
 refine wpAny_noted ?_
 rw [compTurn_list]
 refine aq (AM (aq (gP (turn n s hI) (fun r s₁ h₁=>?_) fun _ _ h'=>h'.elim)))
 cases r with
 | none=>exact aL h₁
 | some v=>
   refine aq (gP h₁ (fun _ s₂ h₂=>aq (gP h₂ (fun _ s₃ h₃=>?_) fun _ _ h'=>h'.elim)) fun _ _ h'=>h'.elim)
   refine aq (wpAny_tests_one (gP h₃ (fun ok s₃' h₃'=>?_) fun _ _ h'=>h'.elim))
   cases ok with
   | false=>exact aL ⟨Z,D5 h₃'⟩
   | true=>exact aq (aq (gP (D4 h₃') (fun x s₄ h₄=>aq (gP h₄ (fun _ s₅ h₅=>aL (aL ⟨Z,h₅⟩)) fun _ _ h'=>h'.elim)) fun _ _ h'=>h'.elim))
end
variable {tc:TT} {wi:TI} {px pos':Pos}
section
variable {X:Cx}
def D6 (J:It) (g:TG) (tc:TT) (te:TE) (acc:Addr) (σ₀:St) (H:Hp) (Q:VK):Prop:=∃W:Nat->Nat->St->Hp->Prop,
 (∃m,W 0 m σ₀ (upd H acc (.lst [])))/\∀i m σ2 H2,W i m σ2 H2->
   (J.stop i H2/\Q (.ref acc) H2)\/(J.go i H2/\∃(S:St->Prop) (N:V->Hp->Prop) (N0:Hp->Prop),(∀σ3 v H4,S σ3->N v H4->∃xs,H4 acc=some (.lst xs)/\xs.length<sizeLine/\∃m',m'<m/\W (i+1) m' σ3 (upd H4 acc (.lst (xs++[v]))))/\
     (∀σ3 H4,S σ3->N0 H4->∃m',m'<m/\W (i+1) m' σ3 H4)/\∀x H',J.DB i H2 x H'->g x σ2 H' fun σ3 H3=>S σ3/\tc σ3 H3 fun b H4=>if b=true then te σ3 H4 N else N0 H4)
def Yw (ix:List (Option Nat)) (g:TG) (tc:TT) (te:TE) (σ:St) (Q:VK):It->Hp->Prop:=fun J H1=>∀acc,H1 acc=none->D6 J g tc te acc (pick ix σ) H1 Q
def D7 (wi:TI) (ix:List (Option Nat)) (g:TG) (tc:TT) (te:TE):TE:=fun σ H Q=>wi σ H (Yw ix g tc te σ Q)
theorem BU {ix:List (Option Nat)} {Q:VK}
  {RR:Value->Addr->Result->Shared->Prop} (hc:X.calm=true) (hg:∀cl s₂ H₂ fp,PG (cY X N2 scope cl s₂ H₂ fp) tg g) (he:∀cl s₂ H₂ fp,PE (cY X N2 scope cl s₂ H₂ fp) elt te)
  (ht:∀cl s₂ H₂ fp,PT (cY X N2 scope cl s₂ H₂ fp) cond tc) (hk:scope.kind = .function) (hn:nj X.N X.env.scope.names scope.names N2 ix=true)
  (KG:∀y c,(y,c)∈cl->X.env.cells.lookup y=some c) (FQ:∀y,(y,NameKind.free)∈scope.names->∃c,(y,c)∈cl)
  {it:Addr} {fp:List Addr} {tn:Nat->Heap->Prop} {J:It} (I:Inv X pins σ H s) (T:Turn X.prog X.w X.K tg J fp it tn) (st:tn 0 s.heap) (f:∀b∈fp,pe X pins H b)
  (h:∀acc,H acc=none->D6 J g tc te acc (ix.map fun o=>o.bind fun j=>(σ[j]?).join) H Q)
  (hR:∀acc C H' s' m,Inv X pins σ H' s'->s'.heap.Ns C m->H' C=none->C≠X.env.locals->X.s₀.heap.objs.size<=C->(∀x c,X.env.cells.lookup x=some c->c≠C)->(∀p∈X.pn++pins,p.1≠C)->Q (.ref acc) H'->RR (.ref acc) C (.ok .next) s'):
  wpAny (model X.prog X.w) X.A (newList []) (fun acc s₃=>wpAny (model X.prog X.w) X.A (newFunctionEnv scope X.env.globals cl [] X.env.qual none .none (some X.env)) (fun cenv s₄=>
   codeAny (model X.prog X.w) X.A (.compStart (.ListComp elt [⟨tg,iter,[cond],0⟩] scope pos) 0 (.ref it) acc { cenv with scope:=relabel scope X.env }) (RR acc cenv.locals) s₄) E s₃) E s:=by
 obtain ⟨k1,k2,k3,k4,k5⟩:=mJ hn
 refine qy ?_
 have I3:Inv X pins σ (upd H s.heap.objs.size (.lst [])) { s with heap:=s.heap.push { cls:= .type "list",data:= .seq ([] :List Value).toArray } }:=
  I.laid (a:=s.heap.objs.size) (o:= .lst []) (t':=s.toks) (fun _ _ q=>cA _ q) (aP _) ⟨f_ _,[],_, .nil,dY _ rfl⟩
 obtain ⟨W,⟨m0,w0⟩,turn⟩:=h s.heap.objs.size I.fresh
 have fo:∀b∈fp,b<s.heap.objs.size:=fun b hb=>by
  obtain ⟨o,e,_⟩:=T.obj 0 _ st b hb
  exact bP e
 have st3:tn 0 (s.heap.push { cls:= .type "list",data:= .seq ([] :List Value).toArray }):=T.keep _ _ _ st fun b _ o e=>cA _ e
 have f3:∀b∈fp,pe X pins (upd H s.heap.objs.size (.lst [])) b:=fun b hb=>⟨by rw [av (dP (fo b hb))];exact (f b hb).1,(f b hb).2⟩
 have SJ:∀b∈fp,b<(s.heap.push { cls:= .type "list",data:= .seq ([] :List Value).toArray }).objs.size:=fun b hb=>by rw [mF];exact Qv (fo b hb)
 generalize es3:({ s with heap:=s.heap.push { cls:= .type "list",data:= .seq ([] :List Value).toArray } }:Shared)=s3 at *
 have eh3:s3.heap=s.heap.push { cls:= .type "list",data:= .seq ([] :List Value).toArray }:=by rw [<-es3]
 rw [<-eh3] at st3 SJ
 generalize s.heap.objs.size=acc at *
 generalize eH3:upd H acc (.lst [])=H3 at *
 have IY:=DV (N2:=N2) (scope:=scope) (cl:=cl) (fp:=fp) (σ2:=ix.map fun o=>o.bind fun j=>(σ[j]?).join) I3 hk KG FQ f3 SJ (by rw [aF];exact k1) (fun i x v e1 e2=>by
  rw [bJ] at e2
  cases ei:ix[i]? with
  | none=>rw [ei] at e2;cases e2
  | some o=>
    rw [ei] at e2
    cases o with
    | none=>cases e2
    | some j=>
      obtain ⟨a1,a2,a3⟩:=k2 i x j e1 ei
      refine ⟨a2,a3,j,a1,?_⟩
      have e3:(σ[j]?).join=some v:=iG e2
      cases ej:σ[j]? with
      | none=>rw [ej] at e3;cases e3
      | some z=>rw [ej] at e3;exact ie some e3) k5
 have ne:wpAny (model X.prog X.w) X.A (newFunctionEnv scope X.env.globals cl [] X.env.qual none .none (some X.env)) (fun cenv s₄=>
   cenv={ scope:=scope,locals:=s3.heap.objs.size,globals:=X.env.globals,cells:=cellsFrom (s3.heap.objs.size+1) scope.names cl,qual:=X.env.qual,func:=none,code:=X.env.code,frame:=X.env.frame,builtins:=X.env.builtins }/\
   s₄={ s3 with heap:=pushCells (s3.heap.push { cls:= .type "dict",data:= .dict #[] }) scope.names }) E s3:=by
  simp only [newFunctionEnv,Option.isSome_some,rj]
  refine aq (wpAny_alloc ?_)
  refine aq (wpAny_layCells _ (fun name kind cells=>by cases hkc:kind==NameKind.cell <;> simp [hkc]) _ _ _ _ ?_)
  rw [Du]
  refine aq (aL (aL ⟨?_,Z⟩))
  rw [show ({ s3 with heap:=s3.heap.push { cls:= .type "dict",data:= .dict #[] } }:Shared).heap.objs.size=s3.heap.objs.size+1 from mF ..]
 refine bq ne fun cenv s4 ⟨e1,e2⟩=>?_
 subst e1 e2
 have SK:tn 0 (pushCells (s3.heap.push { cls:= .type "dict",data:= .dict #[] }) scope.names):=T.keep _ _ _ st3 fun b _ o e=>JO _ _ b o (cA _ e)
 have zO:s3.heap.objs.size≠X.env.locals:=xX I3.lt
 have uq:∀{H':Hp},(∀b∈fp,H' b=none)->∀b∈fp,pe (cY X N2 scope cl s3 H3 fp) [] H' b:=fun {H'} hn b hb=>
  ⟨hn b hb,(IY.ok.Kc b hb).1,IY.ok.Co b hb, .inl hb,(IY.ok.Kc b hb).2,fun p hp=>nomatch hp⟩
 have loop:codeAny (model X.prog X.w) X.A (.compLoop (.ListComp elt [⟨tg,iter,[cond],0⟩] scope pos) 0 (.ref it) (.ref acc) (cY X N2 scope cl s3 H3 fp).env) (RR (.ref acc) s3.heap.objs.size)
   { s3 with heap:=pushCells (s3.heap.push { cls:= .type "dict",data:= .dict #[] }) scope.names }:=by
  refine ID (fun n s'=>∃i σ' H',Inv (cY X N2 scope cl s3 H3 fp) [] σ' H' s'/\tn i s'.heap/\(∀b∈fp,H' b=none)/\W i n σ' H') ?_ m0 ⟨0,_,H3,IY,SK,fun b hb=>(f3 b hb).1,w0⟩
  rintro n s5 ⟨i,σ5,H5,I5,zP,KH,w5⟩
  rcases turn i n σ5 H5 w5 with ⟨stop,qn⟩|⟨go,S,N,N0,hSN,hS0,step⟩
  . refine bq (T.done (cY X N2 scope cl s3 H3 fp) rfl rfl rfl hc i [] s5 σ5 H5 (fun _ _=>False) I5 (uq KH) zP stop) fun r s6 ⟨hr,I6⟩=>?_
    subst hr
    obtain ⟨m6,ns6,_⟩:=id I6.loc
    have IX:Inv X pins σ H5 s6:=I3.JR (ch:=fp) I6.os I6.base I6.hok I6.bare fun b hb=>⟨(f3 b hb).2.2.2.1,(f3 b hb).2.1,(f3 b hb).2.2.2.2.1,(f3 b hb).2.2.2.2.2⟩
    refine hR acc s3.heap.objs.size H5 s6 m6 IX ns6 I6.free zO I3.sz (fun x c e z=>?_) (fun p hp z=>?_) qn
    . obtain ⟨v,q⟩:=I3.cell x c e
      exact absurd q.lt (by rw [z];exact jl _)
    . exact absurd (bP (I3.pin p hp).1) (by rw [z];exact jl _)
  . refine bq (T.item (cY X N2 scope cl s3 H3 fp) rfl rfl rfl hc i [] s5 σ5 H5 (fun _ _=>False) I5 (uq KH) zP go) fun r s6 ⟨u,hr,h6⟩=>?_
    subst hr
    refine bq h6 fun _ s7 ⟨x,H7,I7,r7,y7,DX,SM⟩=>?_
    have I7':=I7.pinned (uq SM) (T.obj _ _ DX)
    refine bq (hg cl s3 H3 fp _ s7 σ5 H7 x u _ I7' r7 (step x H7 y7)) fun _ s8 ⟨σ8,H8,I8,W8,q8⟩=>?_
    refine bq (ht cl s3 H3 fp _ s8 σ8 H8 _ I8 q8) fun ok s9' ⟨H9',W_,q9'⟩=>?_
    cases ok with
    | false=>
      obtain ⟨m',hm,w9⟩:=hS0 σ8 H9' W8 (D5 q9')
      refine ite_ff ⟨m',hm,i+1,σ8,_,W_.qA,T.keep _ _ _ DX fun b hb o e=>(W_.pin (b,o) (jE _ (jE _ (jm hb e)))).1,fun b hb=>?_,w9⟩
      obtain ⟨o,e,d⟩:=T.obj _ _ DX b hb
      exact (W_.pin (b,o) (jE _ (jE _ (jm hb e)))).2.1
    | true=>
      refine ite_tt ?_
      refine bq (he cl s3 H3 fp _ s9' σ8 H9' _ W_ (D4 q9')) fun y s9 ⟨v,H9,I9,r9,q9⟩=>?_
      obtain ⟨xs,hxs,hxl,m',hm,w9⟩:=hSN σ8 v H9 W8 q9
      refine bq (gX _ s9 σ8 H9 (.ref acc) [v] (.ref acc) [y] (fun z KI=>z = .bZ/\KI=upd H9 acc (.lst (xs++[v]))) I9 rfl (.cons r9 .nil) ⟨acc,xs,v,Z,Z,hxs,hxl,Z,Z⟩) fun z s10 ⟨zv,KI,KJ,r10,ez,eH⟩=>?_
      subst eH
      refine ⟨m',hm,i+1,σ8,_,KJ.qA,T.keep _ _ _ DX fun b hb o e=>(KJ.pin (b,o) (jE _ (jE _ (jm hb e)))).1,fun b hb=>?_,w9⟩
      obtain ⟨o,e,d⟩:=T.obj _ _ DX b hb
      exact (KJ.pin (b,o) (jE _ (jE _ (jm hb e)))).2.1
 exact codeAny_compStart_list loop (T.self _ 0 _ _ _ SK loop)
theorem VU (N2:List Str) (ix:List (Option Nat)) (hc:X.calm=true) (hi:PI X tg iter wi)
  (hg:∀cl s₂ H₂ fp,PG (cY X N2 scope cl s₂ H₂ fp) tg g) (he:∀cl s₂ H₂ fp,PE (cY X N2 scope cl s₂ H₂ fp) elt te)
  (ht:∀cl s₂ H₂ fp,PT (cY X N2 scope cl s₂ H₂ fp) cond tc) (hk:scope.kind = .function) (hn:nj X.N X.env.scope.names scope.names N2 ix=true) (hs:∀x,foldedSetIterable iter X.env x=pure x:=by intro _;rfl):
  PE X (.ListComp elt [⟨tg,iter,[cond],0⟩] scope pos) (D7 wi ix g tc te):=by
 intro pins s σ H Q I h
 obtain ⟨k1,k2,k3,k4,k5⟩:=mJ hn
 obtain ⟨cl,KO,c1,c2⟩:=tV (scope:=scope) (env:=X.env) fun y hy e=>I.ok.has y.1 (k3 y hy e)
 rw [eval_ListComp]
 refine Qd (use:=none) rfl hs KO hk k4 (bq (hi pins s σ H _ I h) fun v s1 h1=>bq h1 fun itv s2 h2=>?_)
 obtain ⟨it,fp,tn,J,H2,e,I2,T,st2,f2,h2⟩:=h2
 subst e
 refine BU (RR:=fun acc C=>compPost (model X.prog X.w) X.A X.xe none (EP X pins σ Q) acc C) (Q:=Q) hc hg he ht hk hn (fun y c m=>(c1 y c m).1) c2 I2 T st2 f2 h2 ?_
 intro acc C H' s' m I' ns zO hL hsz pI yc q
 exact ⟨m,ns,fun h' hs'=>⟨.ref acc,H',I'.turned (it:=C) (t':=s'.toks) (fun b o hb e=>(hs'.2 b hb).trans e) zO hL (.inr hsz) pI yc,Z,q⟩⟩
theorem VW (N2:List Str) (ix:List (Option Nat)) (hN:X.N.Nodup) (hi:X.N[i]?=some x) (hx:X.env.scope.names.lookup x=some .local) (hc:X.calm=true) (hit:PI X tg iter wi)
  (hg:∀cl s₂ H₂ fp,PG (cY X N2 scope cl s₂ H₂ fp) tg g) (he:∀cl s₂ H₂ fp,PE (cY X N2 scope cl s₂ H₂ fp) elt te)
  (ht:∀cl s₂ H₂ fp,PT (cY X N2 scope cl s₂ H₂ fp) cond tc) (hk:scope.kind = .function) (hn:nj X.N X.env.scope.names scope.names N2 ix=true) (hw:swapsWith (.ListComp elt [⟨tg,iter,[cond],0⟩] scope pos) (some (.Name x px)) pos'.line X.env=pure true) (hs:∀x,foldedSetIterable iter X.env x=pure x:=by intro _;rfl):
  PS X (.Assign [.Name x px] (.ListComp elt [⟨tg,iter,[cond],0⟩] scope pos) pos') (zz (D7 wi ix g tc te) (gc i)):=by
 intro pins s σ H D I h
 obtain ⟨k1,k2,k3,k4,k5⟩:=mJ hn
 obtain ⟨cl,KO,c1,c2⟩:=tV (scope:=scope) (env:=X.env) fun y hy e=>I.ok.has y.1 (k3 y hy e)
 rw [exec_Assign_Name_used _ _ _ _ hw]
 refine aq (AM (aq ?_))
 show wpAny _ X.A (do let _ <-comprehension (.ListComp elt [⟨tg,iter,[cond],0⟩] scope pos) scope X.env _ (newList []) false (eval iter X.env) (some (assign (.Name x px) X.env))) _ _ s
 refine aq (bq (Qd (use:=some (assign (.Name x px) X.env)) (Q:=fun _ s'=>SP X pins D .next s') rfl hs KO hk k4 (bq (hit pins s σ H _ I h) fun v s1 h1=>bq h1 fun itv s2 h2=>?_)) fun _ s' hq=>aL (aL hq))
 obtain ⟨it,fp,tn,J,H2,e,I2,T,st2,f2,h2⟩:=h2
 subst e
 refine BU (RR:=fun acc C=>compPost (model X.prog X.w) X.A X.xe (some (assign (.Name x px) X.env)) (fun _ s'=>SP X pins D .next s') acc C) (Q:=fun v H'=>D.nx (σ.set i (some v)) H') hc hg he ht hk hn (fun y c m=>(c1 y c m).1) c2 I2 T st2 f2 h2 ?_
 intro acc C H' s' m I' ns zO hL hsz pI yc q
 show wpAny _ X.A (assign (.Name x px) X.env (.ref acc)) _ _ _
 refine wpAny_assign_Name (zy I' hN hi (.inl hx) (v:= .ref acc) rfl (fun s3 I3 ⟨a,sb,ha⟩=>?_) (.inr hx))
 have ca:C≠a:=by
  rcases ha with z|z
  . rw [z];exact hL
  . exact fun e=>pI x a z e.symm
 exact ⟨m,ns.sameBut sb ca,fun h' hs'=>⟨_,H',I3.turned (it:=C) (t':=s3.toks) (fun b o hb e=>(hs'.2 b hb).trans e) zO hL (.inr hsz) pI yc,q⟩⟩
end
theorem KP {α:Type} [DecidableEq α] :∀{l m:List α},l.Nodup->(∀x∈l,x∈m)->l.length<=m.length
 | [],_,_,_=>f_ _
 | x::r,m,h,hs=>by
   have hn:=ia.mp h
   have hx:=hs x cJ
   have:=KP (l:=r) (m:=m.erase x) hn.2 fun y hy=>by
    have hne:y≠x:=fun e=>hn.1 (e▸hy)
    exact (List.mem_erase_of_ne hne).mpr (hs y (cG _ hy))
   rw [List.length_erase_of_mem hx] at this
   have hp:0<m.length:=List.length_pos_of_mem hx
   rw [mU]
   omega
theorem SX (c:Int) (h:i<n):(lF c n)[i]?=some (97+((c / 26 ^ i) % 26).toNat):=by
 unfold lF
 rw [bJ,List.getElem?_range h]
 rfl
theorem Yx {c c':Int} {d:Nat} (h:d<n) (e:lF c n=lF c' n):(c / 26 ^ d) % 26=(c' / 26 ^ d) % 26:=by
 have h1:=SX c h
 rw [e,SX c' h] at h1
 have h2:=iG h1
 have a0:0<=(c / 26 ^ d) % 26:=nD _ (by decide)
 have b0:0<=(c' / 26 ^ d) % 26:=nD _ (by decide)
 omega
structure pJ (x:List Nat):Prop where
 lo:1<=x.length
 hi:x.length<=8
 OT:∀c∈x,97<=c/\c<123
theorem aaP (c:Int) (h1:1<=n) (h2:n<=8):pJ (lF c n):=by
 refine ⟨by rw [ya];exact h1,by rw [ya];exact h2,fun x hx=>?_⟩
 obtain ⟨i,_,rfl⟩:=bM.mp hx
 have a0:0<=(c / 26 ^ i) % 26:=nD _ (by decide)
 have a1:(c / 26 ^ i) % 26<26:=xR _ (by decide)
 omega
def rT (nss:List (List Nat)):List V:=nss.map fun x=>V.str (tx x)
theorem VX (nss:List (List Nat)):(rT nss).all rm=true:=by
 unfold rT
 rw [List.all_map,o7]
 exact fun _ _=>rfl
theorem SY {a b:List Nat} (h:tx a=tx b):a=b:=by
 have:a.toArray=b.toArray:=by injection h
 simpa using this
theorem OU (x:List Nat) (nss:List (List Nat)):Ht (.str (tx x)) (rT nss)=decide (x∈nss):=by
 unfold Ht rT
 rw [List.any_map,AK,List.any_eq_true,decide_eq_true_eq]
 constructor
 . rintro ⟨y,hy,e⟩
   have e2:yT (.str (tx y)) (.str (tx x))=true:=e
   have e3:tx y=tx x:=by
    unfold yT at e2
    simpa using e2
   rw [<-SY e3]
   exact hy
 . intro h
   refine ⟨x,h,?_⟩
   show yT (.str (tx x)) (.str (tx x))=true
   unfold yT
   simp
theorem Yy (x:Str):PyData.eqv (.str x) (.str x)=true:=by unfold PyData.eqv;exact Dp x
open PySem.NumText
section
variable {X:Cx}
end
section
variable {X:Cx} {tg:Expr}
end
theorem Yz (signs:Str) (c:Nat):D0 signs c=decide (c∈signs.cps.toList):=PySem.StrLaws.found_one signs c
open Builtin Builtin.Str
section
variable {X:Cx}
end
theorem OV (c:Int) (j d:Nat):(c+(j:Int)*26 ^ d) / 26 ^ d=c / 26 ^ d+(j:Int):=by
 have hp:(26:Int) ^ d≠0:=Int.ne_of_gt (Int.pow_pos (by decide))
 rw [Int.add_mul_ediv_right _ _ hp]
variable {nss:List (List Nat)} {t:Nat}
theorem S0 {c:Int} {d:Nat} (h2:d<n) (ht:t<=26) (h:∀j:Nat,j<t->lF (c+(j:Int)*26 ^ d) n∈nss):t<=nss.length:=by
 have hn:((List.range t).map fun j=>lF (c+((j:Nat):Int)*26 ^ d) n).Nodup:=by
  have:(List.range t).Pairwise (fun a b=>a<b):=List.pairwise_lt_range
  refine List.Pairwise.map _ ?_ (List.Pairwise.and_mem.mp this)
  rintro a b ⟨ha,hb,hab⟩ e
  have ha':=xV.mp ha
  have hb':=xV.mp hb
  have:=Yx h2 e
  rw [OV,OV] at this
  omega
 have:=KP hn fun x hx=>by
  obtain ⟨j,hj,rfl⟩:=bM.mp hx
  exact h j (xV.mp hj)
 rw [aF,Cm] at this
 exact this
inductive aaQ (K:Fg) (vs:List V) (H:Hp) (Q:VK) (E:XK):Prop
 | mk (a:Addr) (ms:List Int) (k:Int) (many:Nat) (_:vs=[.ref a, .int k, .int (many:Int)]) (_:aC K H a (ms.map V.int)) (_:ms.length<=63) (_:0<=k) (_:many<=25) (_:∀(z:Addr) (nss:List (List Nat)) (H':Hp),aE H H'->H' z=some (.lst (rT nss))->H z=none->nss.length=many->nss.Nodup->(∀x∈nss,pJ x)->Q (.ref z) H')
def FW (K:Fg):Sp:=bx (aaQ K)
theorem HE {Q:VK} {E:XK} {ms:List Int} {k mi:Int} {many:Nat} (hmi:mi=(many:Int)) (hS:aC K H a (ms.map V.int)) (h63:ms.length<=63) (h1:0<=k) (h2:many<=25)
  (h:∀(z:Addr) (nss:List (List Nat)) (H':Hp),aE H H'->H' z=some (.lst (rT nss))->H z=none->nss.length=many->nss.Nodup->(∀x∈nss,pJ x)->Q (.ref z) H'):FW K [.ref a, .int k, .int mi] H Q E:=by
 subst hmi
 exact ⟨a,ms,k,many,Z,hS,h63,h1,h2,h⟩
theorem xh {a:List (Key×V)} {b:List (Key×Value)} (r:KV a b):∀{j:Nat} {p:Key×V},a[j]?=some p->∃q,b[j]?=some q/\p.1=q.1/\RelV p.2 q.2:=by
 induction r with
 | nil=>intro j p z;simp at z
 | cons r1 _ ih=>
   intro j p z
   cases j with
   | zero=>simp at z;subst z;exact ⟨_,Z,r1⟩
   | succ j=>simp at z;obtain ⟨q,a1,a2⟩:=ih z;exact ⟨q,by simpa using a1,a2⟩
abbrev oN (H:Hp) (d:Addr) (o:Obj) (kvs:List (Key×V)):Prop:=H d=some (.fm o (.dK kvs))
section
variable {X:Cx} {pins:AO} {σ σ':St} {H H':Hp} {s s':Shared} {d:Addr} {kvs:List (Key×V)} {o:Obj}
theorem Inv.freeze (I:Inv X pins σ H s) (e:H d=some (.dK kvs)) (ho:s.heap.get? d=some o):Inv X pins σ (upd H d (.fm o (.dK kvs))) s:=by
 have nd:∀{b:Addr},H b=none->b≠d:=fun h z=>by rw [z,e] at h;cases h
 have dn:∀{b:Addr},H b=none->upd H d (.fm o (.dK kvs)) b=none:=fun h=>by rw [av (nd h)];exact h
 have un:∀{b:Addr} {u:HO},H b=some u->(∀k,u ≠ .dK k)->b≠d:=fun h k z=>by rw [z,e] at h;cases h;exact k _ rfl
 refine ⟨I.ok,I.os,I.bare,⟨I.base.keep,I.base.slot,fun b ob q n x=>dn (I.base.free b ob q n x),I.base.there,fun b xs q=>?_,fun b ob u q=>?_,fun b ps q=>?_⟩,I.loc,I.cell,dn I.free,fun x c q=>dn (I.jM x c q),fun p hp=>?_,fun b ob q=>?_,I.len⟩
 . have:=I.base.tups b xs q
   rw [av (un this fun k z=>by cases z)];exact this
 . have:=I.base.mW b ob u q
   rw [av (un this fun k z=>by cases z)];exact this
 . obtain ⟨more,this⟩:=I.base.o_ b ps q
   exact ⟨more,by rw [av (un this fun k z=>by cases z)];exact this⟩
 . obtain ⟨h1,h2,h3⟩:=I.pin p hp
   exact ⟨h1,dn h2,h3⟩
 . by_cases hb:b=d
   . subst hb
     rw [aj] at q;cases q
     have:=I.hok b _ e
     exact ⟨ho,this⟩
   . rw [av hb] at q
     refine (I.hok b ob q).stay (fun c u _ z=>z) (fun c z=>?_) fun c xs z=>?_
     . rw [av (un z fun k z=>by cases z)];exact z
     . rw [av (un z fun k z=>by cases z)];exact z
theorem Inv.Cz (I:Inv X pins σ H s) (e:oN H d o kvs) (h0:∀o u,X.H₀ d≠some (.fm o u)):Inv X pins σ (upd H d (.dK kvs)) s:=by
 have nd:∀{b:Addr},H b=none->b≠d:=fun h z=>by rw [z] at h;exact absurd (h.symm.trans e) (by simp)
 have dn:∀{b:Addr},H b=none->upd H d (.dK kvs) b=none:=fun h=>by rw [av (nd h)];exact h
 have un:∀{b:Addr} {u:HO},H b=some u->(∀o k,u ≠ .fm o k)->b≠d:=fun h k z=>by rw [z] at h;have:=h.symm.trans e;cases this;exact k _ _ rfl
 refine ⟨I.ok,I.os,I.bare,⟨I.base.keep,I.base.slot,fun b ob q n x=>dn (I.base.free b ob q n x),I.base.there,fun b xs q=>?_,fun b ob u q=>?_,fun b ps q=>?_⟩,I.loc,I.cell,dn I.free,fun x c q=>dn (I.jM x c q),fun p hp=>?_,fun b ob q=>?_,I.len⟩
 . have:=I.base.tups b xs q
   rw [av (un this fun _ k z=>by cases z)];exact this
 . have:=I.base.mW b ob u q
   rw [av (fun (z:b=d)=>h0 ob u (by rw [<-z];exact q))];exact this
 . obtain ⟨more,this⟩:=I.base.o_ b ps q
   exact ⟨more,by rw [av (un this fun _ k z=>by cases z)];exact this⟩
 . obtain ⟨h1,h2,h3⟩:=I.pin p hp
   exact ⟨h1,dn h2,h3⟩
 . by_cases hb:b=d
   . subst hb
     rw [aj] at q;cases q
     exact (I.hok b _ e).2
   . rw [av hb] at q
     refine (I.hok b ob q).stay (fun c u _ z=>z) (fun c z=>?_) fun c xs z=>?_
     . rw [av (un z fun _ k z=>by cases z)];exact z
     . rw [av (un z fun _ k z=>by cases z)];exact z
theorem Inv.S3 (I:Inv X pins σ H s) (e:H d=some (.dK kvs)):∀o u,X.H₀ d≠some (.fm o u):=fun o u z=>by
 have:=I.base.mW d o u z
 rw [e] at this;cases this
theorem Inv.rC (I:Inv X pins σ H s) (e:oN H d o kvs):s.heap.get? d=some o/\kvs.length<=sizeLine/\(d==sysModules)=false/\∃vs ep,KV kvs vs/\s.heap.DictAt (c6 X.prog X.w) d vs ep:=by
 obtain ⟨ho,hz,hs,vs,r,dd⟩:=(show dN X.prog X.w H s.heap d (.fm o (.dK kvs)) from I.hok d _ e)
 obtain ⟨ep,da⟩:=dd.dictAt
 exact ⟨ho,hz,hs,vs,ep,r,da⟩
end
def Ends.Cz (D:Ends) (d:Addr) (o:Obj) (kvs:List (Key×V)):Ends where
 nx:=fun σ H=>oN H d o kvs/\D.nx σ (upd H d (.dK kvs))
 rt:=fun v H=>oN H d o kvs/\D.rt v (upd H d (.dK kvs))
 bk:=fun σ H=>oN H d o kvs/\D.bk σ (upd H d (.dK kvs))
 ct:=fun σ H=>oN H d o kvs/\D.ct σ (upd H d (.dK kvs))
inductive ag5 (t:TS) (D:Ends) (σ:St) (H:Hp):Prop
 | mk  (d kvs:_) (_:H d=some (.dK kvs)) (_:∀o,t (D.Cz d o kvs) σ (upd H d (.fm o (.dK kvs))))
def ag6 (t:TE):TE:=fun σ H Q=>∃d kvs,H d=some (.dK kvs)/\∀o,t σ (upd H d (.fm o (.dK kvs))) fun v H'=>oN H' d o kvs/\Q v (upd H' d (.dK kvs))
def Itv (d:Addr) (o:Obj) (kvs:List (Key×V)):It:=⟨fun i H=>oN H d o kvs/\i<kvs.length,fun i H x H'=>H'=H/\∃p,kvs[i]?=some p/\x=p.2,fun i H=>oN H d o kvs/\kvs.length<=i⟩
def Iti (d:Addr) (o:Obj) (kvs:List (Key×V)):It:=⟨fun i H=>oN H d o kvs/\i<kvs.length,fun i H x H'=>∃a p,H a=none/\kvs[i]?=some p/\x = .ref a/\H'=upd H a (.tup [kV p.1,p.2]),fun i H=>oN H d o kvs/\kvs.length<=i⟩
variable {h:Heap} {P:Program} {d:Addr}
theorem Bb {w:World} {vs:List (Key×Value)} {e1 e2:Nat} {o:Obj} {es:Array DictEntry} (da:h.DictAt (c6 P w) d vs e1) (ho:h.get? d=some o) (hd:o.data = .dict es e2):e1=e2:=by
 obtain ⟨o',es',h1,_,h2,_⟩:=da
 rw [ho] at h1;cases h1
 rw [hd] at h2;cases h2;rfl
theorem KQ {w:World} {k:Key} {v:Value} (h:(c6 P w).is k v=true):RelV (kV k) v:=by
 rw [Qx] at h
 rcases gf h with ⟨i,t,rfl,rfl⟩|⟨x,t,rfl,rfl⟩
 . exact ⟨t,Z⟩
 . exact ⟨t,Z⟩
variable {it:Addr} {kvs:List (Key×V)} {ep:Nat}
theorem S4 {w:World} {o:Obj} {es:Array DictEntry} (hd:o.data = .dict es ep):
  Turn P w K tg (Itv d o kvs) [it] it (fun i h=>h.IsValIter it d i kvs.length ep) where
 mem:=by simp
 obj:=fun i h st b hb=>by
  have e:b=it:=by simpa using hb
  subst e
  obtain ⟨o,e,c,d⟩:=st
  exact ⟨o,e,fun v z=>by rw [d] at z;cases z⟩
 keep:=fun i h h' st k=>st.at fun o e=>k it (by simp) o e
 item:=by
  intro X hP hw hK hc i pins s σ H E I hf st hg
  subst hP hw hK
  obtain ⟨hz,hlt⟩:=hg
  obtain ⟨ho,_,_,vs,wW,r,da⟩:=I.rC hz
  cases Bb da ho hd
  have hl:kvs.length=vs.length:=r.length
  obtain ⟨q,hq,_,rq⟩:=xh r (aX hlt)
  obtain ⟨qk,qv⟩:=q
  rw [hl] at st
  obtain ⟨f0,f1,f2,f3,f4,f5⟩:=hf it (by simp)
  refine wpAny_pyNext_values_item st da hq fun h' st' sb=>?_
  have I1:Inv X pins σ H { s with heap:=h' }:=I.turned (t':=s.toks) (fun b o hb e=>(sb.2 b hb).trans e) f0 f1 f3 f4 f5
  obtain ⟨oi,e,c,dd⟩:=id st'
  exact ⟨_,Z,DC (s:={ s with heap:=h' }) e c dd (by decide) ⟨kvs[i].2,H,I1,rq,⟨Z,kvs[i],aX hlt,Z⟩,by rw [hl];exact st',fun b hb=>(hf b hb).1⟩⟩
 done:=by
  intro X hP hw hK hc i pins s σ H E I hf st hg
  subst hP hw hK
  obtain ⟨hz,hle⟩:=hg
  obtain ⟨ho,_,_,vs,wW,r,da⟩:=I.rC hz
  cases Bb da ho hd
  have hl:kvs.length=vs.length:=r.length
  rw [hl] at st
  obtain ⟨f0,f1,f2,f3,f4,f5⟩:=hf it (by simp)
  exact wpAny_pyNext_values_end (I.ok.hd hc) st da (by rw [uf];omega) fun h' eb=>⟨Z,I.turned (t':=s.toks) (fun b o hb e=>eb b o hb e) f0 f1 f3 f4 f5⟩
 self:=fun _ _ _ _ _ st h=>wpAny_pyIter_valiter st h
variable {elts:List Expr}
theorem QY {w:World} {kk:Nat} {o:Obj} {es:Array DictEntry} (hd:o.data = .dict es ep):
  Turn P w K (.Tuple elts kk pos) (Iti d o kvs) [it] it (fun i h=>∃ok ov,IsItemIter h it d i kvs.length ep ok ov) where
 mem:=by simp
 obj:=fun i h st b hb=>by
  have e:b=it:=by simpa using hb
  subst e
  obtain ⟨ok,ov,e⟩:=st
  exact ⟨_,e,fun v z=>by cases z⟩
 keep:=fun i h h' ⟨ok,ov,st⟩ k=>⟨ok,ov,k it (by simp) _ st⟩
 item:=by
  intro X hP hw hK hc i pins s σ H E I hf st hg
  subst hP hw hK
  obtain ⟨hz,hlt⟩:=hg
  obtain ⟨ok,ov,st⟩:=st
  obtain ⟨ho,_,_,vs,wW,r,da⟩:=I.rC hz
  cases Bb da ho hd
  have hl:kvs.length=vs.length:=r.length
  obtain ⟨q,hq,ek,rq⟩:=xh r (aX hlt)
  obtain ⟨qk,qv⟩:=q
  rw [hl] at st
  obtain ⟨f0,f1,f2,f3,f4,f5⟩:=hf it (by simp)
  refine wpAny_pyNext_items_item st da hq fun key h1 hk st1 ht hsz hkeep=>?_
  refine ⟨_,Z,wpAny_letOwnedTupleGo_items (s:={ s with heap:=h1 }) st1 fun h2 st2 sb=>?_⟩
  have rk:RelV (kV kvs[i].1) key:=by rw [ek];exact KQ hk
  have hil:it≠s.heap.objs.size:=dP (bP st)
  have vE:∀b o,b≠it->s.heap.get? b=some o->h2.get? b=some o:=fun b o hb e=>sb.extBut b o hb (hkeep b o hb e)
  have I1:Inv X pins σ (upd H s.heap.objs.size (.tup [kV kvs[i].1,kvs[i].2])) { s with heap:=h2 }:=by
   have J:Inv X pins σ H { s with heap:=h2 }:=I.turned (t':=s.toks) vE f0 f1 f3 f4 f5
   have hn:=I.fresh
   have J2:Inv X pins σ (upd H s.heap.objs.size (.tup [kV kvs[i].1,kvs[i].2])) { s with heap:=h2,gens:=s.gens,drawn:=s.drawn,toks:=s.toks }:=by
    refine I.step (ch:=[it]) (fun b hb=>⟨(hf b hb).2.2.2.1,(hf b hb).2.1,(hf b hb).2.2.2.2.1,(hf b hb).2.2.2.2.2⟩) (fun b o _ _ hc' e _=>vE b o (by simpa using hc') e) (fun b o _ _ hc' e _=>⟨o.slots,vE b o (by simpa using hc') e⟩) (fun b o _ e n=>by rw [av (dP (bP e))];exact n) (fun b o hc' e=>⟨o,vE b o (by simpa using hc') e⟩)
     (fun b zs q=>by rw [av (aI q hn)];exact q) (fun b o zs q=>by rw [av (aI q hn)];exact q) (fun b ps q=>⟨#[],by rw [av (aI q hn),q];simp⟩) (fun m hm=>?_) (fun b ob e=>?_) I.bare
    . obtain ⟨o,es,ep,ho,r⟩:=hm
      exact ⟨o,es,ep,vE _ o (fun q=>f1 q.symm) ho,r⟩
    . by_cases hb:b=s.heap.objs.size
      . subst hb
        rw [aj] at e;cases e
        exact ⟨by show 2<=sizeLine;decide,[key,qv], .cons rk (.cons rq .nil),_,sb.extBut _ _ hil.symm ht,Z,0,Z⟩
      . rw [av hb] at e
        refine (I.hok b ob e).stay (fun c v S7 q=>?_) (fun c q=>by rw [av (aI q hn)];exact q) fun c zs q=>by rw [av (aI q hn)];exact q
        refine vE c v (fun z=>?_) q
        rcases S7 with r|r
        . rw [r] at z;rw [z,f0] at e;cases e
        . rw [z,f0] at r;cases r
   exact J2
  refine ⟨.ref s.heap.objs.size,_,I1,Z,⟨_,kvs[i],I.fresh,aX hlt,Z,Z⟩,⟨key,qv,by rw [hl];exact st2⟩,fun b hb=>?_⟩
  have eb:b=it:=by simpa using hb
  subst eb
  rw [av hil]
  exact f0
 done:=by
  intro X hP hw hK hc i pins s σ H E I hf st hg
  subst hP hw hK
  obtain ⟨hz,hle⟩:=hg
  obtain ⟨ok,ov,st⟩:=st
  obtain ⟨ho,_,_,vs,wW,r,da⟩:=I.rC hz
  cases Bb da ho hd
  have hl:kvs.length=vs.length:=r.length
  rw [hl] at st
  obtain ⟨f0,f1,f2,f3,f4,f5⟩:=hf it (by simp)
  exact wpAny_pyNext_items_end (I.ok.hd hc) st da (by rw [uf];omega) fun h' eb=>⟨Z,I.turned (t':=s.toks) (fun b o hb e=>eb b o hb e) f0 f1 f3 f4 f5⟩
 self:=fun A i s Q E ⟨ok,ov,st⟩ h=>PySem.W.kcp_self st h
section
variable {X:Cx} {tg:Expr}
inductive aaR (R:It->Hp->Prop) (x:V) (H1:Hp):Prop
 | mk  (d o kvs:_) (_:x = .ref d) (_:oN H1 d o kvs) (_:R (Itv d o kvs:_) H1)
def adG (td:TE):TI:=fun σ H R=>td σ H (aaR R)
inductive YA (R:It->Hp->Prop) (x:V) (H1:Hp):Prop
 | mk  (d o kvs:_) (_:x = .ref d) (_:oN H1 d o kvs) (_:R (Iti d o kvs:_) H1)
def aaS (td:TE):TI:=fun σ H R=>td σ H (YA R)
end
variable {J:It} {tb:TS} {D:Ends}
theorem ur (Pv:Nat->St->Hp->Prop) (h0:Pv 0 σ H) (hgo:∀i σ H,i<n->Pv i σ H->J.go i H) (hst:∀σ H,Pv n σ H->J.stop n H)
  (hs:∀i x σ H H',i<n->Pv i σ H->J.DB i H x H'->g x σ H' (tb (D.lp (Pv (i+1))))) (hd:∀σ H,Pv n σ H->D.nx σ H):
  JS g tb D σ (J) H:=by
 refine ⟨fun i m σ H=>m=n-i/\i<=n/\Pv i σ H,⟨n,by simp,f_ _,h0⟩,?_⟩
 rintro i m σ H ⟨rfl,hi,p⟩
 by_cases hlt:i<n
 . exact .inr ⟨hgo i σ H hlt p,Pv (i+1),fun σ' H' p'=>⟨n-(i+1),by omega,Z,hlt,p'⟩,fun x H' y=>hs i x σ H H' hlt p y⟩
 . have e:i=n:=by omega
   subst e
   exact .inl ⟨hst σ H p,hd σ H p⟩
section
variable {prog:Program} {w:World} {K:Type} [DecidableEq K] {knd:KeyKind prog w K} {A:Around} {E:VS} {s:Shared}
theorem Nq {kvs:List (K×Value)} {k:K} {v:Value} {Q:VS} (hit:s.heap.IsKeyIter it d i kvs.length ep)
  (hm:s.heap.DictAt knd d kvs ep) (hx:kvs[i]?=some (k,v)) (hQ:∀key h',knd.is k key=true->h'.IsKeyIter it d (i+1) kvs.length ep->Heap.SameBut it s.heap h'->Q key { s with heap:=h' }):
  wpAny (model prog w) A (Builtin.SmallTypes.nextOf (.ref it)) Q E s:=by
 obtain ⟨o,ho,hc,hd⟩:=id hit;obtain ⟨od,es,hod,hcd,zQ,hk,hp,hn⟩:=id hm
 unfold Builtin.SmallTypes.nextOf
 refine aq (xN (name:=Str.ofString "__next__") hit.typeIs WL (xS WL hit.typeIs F.entry_dict_keyiterator_next ?_ (F.args_dict_keyiterator_next_1 _)))
 refine aq (aL ?_);refine aq (aq ?_)
 first|(refine aq (WJ hit.typeIs (aL ?_));refine aq (vA ho hd ?_))|(refine aq (Qe hit.typeIs (aL ?_));refine aq (vA ho hd ?_))
 have own:Builtin.Dict_items.ownsTuple "dict_keyiterator"=false:=by decide
 simp only [own,FF,lE]
 show wpAny _ _ (if (Value.ref d==Value.none)=true then _ else _) _ _ _
 rw [az (fun z=>fJ z:¬ ((Value.ref d==Value.none)=true))];refine aq (aL ?_)
 have sz:es.size=kvs.length:=by have:=hp.length;simpa using this
 refine aq (Qw hod zQ ?_);rw [az (by rw [sz];simp)]
 refine aq (aL ?_);refine aq (JP hod zQ ?_)
 rw [az (by simp)];refine aL ?_
 have lt:i<kvs.length:=(eF.mp hx).1
 have lt':i<es.size:=by omega
 have kv:=hp.get? (e:=es[i]) (by simp [lt']) hx
 simp only [show ¬ ((i:Int)<0) from by omega,lE,v8,Array.getElem?_eq_getElem lt'];refine aq ?_
 first|(refine aq (WJ hit.typeIs (aL ?_));refine aq (wpAny_isOneOf_keyiter hit.typeIs ?_))|(refine aq (Qe hit.typeIs (aL ?_));refine aq (wpAny_isOneOf_keyiter hit.typeIs ?_))
 show wpAny _ _ (setField (.ref it) 1 (rawInt ((i:Int)+1)) >>= _) _ _ _
 refine aq (AL ho hd (by simp) ?_)
 have FY:(s.heap.update it (Obj.mapFields (·.setIfInBounds 1 (rawInt ((i:Int)+1))))).IsKeyIter it d (i+1) kvs.length ep:=⟨_,Ci _ ho (Obj.isFreed_of_fields (FG hd _)),(Obj.cls_mapFields ..).trans hc,by rw [FG hd];simp [rawInt]⟩
 refine aq (xW (aq (wpAny_isOneOf_keyiter (s:={ s with heap:=s.heap.update it (Obj.mapFields (·.setIfInBounds 1 (rawInt ((i:Int)+1)))) }) FY.typeIs ?_)))
 exact aL (aL ⟨_,Z,aL (hQ _ _ kv.1 FY (Fz ..))⟩)
theorem QZ {kvs:List (K×Value)} {Q:VS} (hh:A.handled=none) (hit:s.heap.IsKeyIter it d i kvs.length ep)
  (hm:s.heap.DictAt knd d kvs ep) (hx:kvs[i]?=none) (hE:∀h' e,Heap.ExtBut it s.heap h'->(∃o,h'.get? e=some o/\o.cls = .type "StopIteration")->E (.ref e) { s with heap:=h' }):
  wpAny (model prog w) A (Builtin.SmallTypes.nextOf (.ref it)) Q E s:=by
 obtain ⟨o,ho,hc,hd⟩:=id hit;obtain ⟨od,es,hod,hcd,zQ,hk,hp,hn⟩:=id hm
 unfold Builtin.SmallTypes.nextOf
 refine aq (xN (name:=Str.ofString "__next__") hit.typeIs WL (xS WL hit.typeIs F.entry_dict_keyiterator_next ?_ (F.args_dict_keyiterator_next_1 _)))
 refine aq (aL ?_);refine aq (aq ?_)
 first|(refine aq (WJ hit.typeIs (aL ?_));refine aq (vA ho hd ?_))|(refine aq (Qe hit.typeIs (aL ?_));refine aq (vA ho hd ?_))
 have own:Builtin.Dict_items.ownsTuple "dict_keyiterator"=false:=by decide
 simp only [own,FF,lE]
 show wpAny _ _ (if (Value.ref d==Value.none)=true then _ else _) _ _ _
 rw [az (fun z=>fJ z:¬ ((Value.ref d==Value.none)=true))];refine aq (aL ?_)
 have sz:es.size=kvs.length:=by have:=hp.length;simpa using this
 refine aq (Qw hod zQ ?_);rw [az (by rw [sz];simp)]
 refine aq (aL ?_);refine aq (JP hod zQ ?_)
 rw [az (by simp)];refine aL ?_
 have ge:es.size<=i:=by rw [sz];simpa using hx
 simp only [show ¬ ((i:Int)<0) from by omega,lE,v8,Array.getElem?_eq_none ge];refine aq ?_
 first|(refine aq (WJ hit.typeIs (aL ?_));show wpAny _ _ (setField (.ref it) 0 .none >>= _) _ _ _)|(refine aq (Qe hit.typeIs (aL ?_));show wpAny _ _ (setField (.ref it) 0 .none >>= _) _ _ _)
 refine aq (AL ho hd (by simp) ?_);show wpAny _ _ (newExc (.type "StopIteration") [] >>= _) _ _ _
 refine aq ?_;simp only [newExc,newTuple]
 refine aq (qy ?_ (by size_fits));refine aq (m:=firstArgMember _ _) (wpAny_of_eq (a:=Value.none) (by first|rfl|(simp only [firstArgMember];rfl)) ?_)
 refine qy ?_ (by size_fits);simp only [raiseNew]
 refine aq (wpAny_handled ?_);rw [show A.in1.handled=none from hh]
 exact aq (aL (wpAny_throw (hE _ _ (((Fz ..).extBut.push _).push _) ⟨_,dY _ rfl,Z⟩)))
theorem Nr {kvs:List (K×Value)} {k:K} {v:Value} {Q:VS} (hit:s.heap.IsValIter it d i kvs.length ep)
  (hm:s.heap.DictAt knd d kvs ep) (hx:kvs[i]?=some (k,v)) (hQ:∀h',h'.IsValIter it d (i+1) kvs.length ep->Heap.SameBut it s.heap h'->Q v { s with heap:=h' }):
  wpAny (model prog w) A (Builtin.SmallTypes.nextOf (.ref it)) Q E s:=by
 obtain ⟨o,ho,hc,hd⟩:=id hit;obtain ⟨od,es,hod,hcd,zQ,hk,hp,hn⟩:=id hm
 unfold Builtin.SmallTypes.nextOf
 refine aq (xN (name:=Str.ofString "__next__") hit.typeIs WI (xS WI hit.typeIs F.entry_dict_valueiterator_next ?_ (F.args_dict_valueiterator_next_1 _)))
 refine aq (aL ?_);refine aq (aq ?_)
 first|(refine aq (WK hit.typeIs (aL ?_));refine aq (vA ho hd ?_))|(refine aq (Qf hit.typeIs (aL ?_));refine aq (vA ho hd ?_))
 have own:Builtin.Dict_items.ownsTuple "dict_valueiterator"=false:=by decide
 simp only [own,FF,lE]
 show wpAny _ _ (if (Value.ref d==Value.none)=true then _ else _) _ _ _
 rw [az (fun z=>fJ z:¬ ((Value.ref d==Value.none)=true))];refine aq (aL ?_)
 have sz:es.size=kvs.length:=by have:=hp.length;simpa using this
 refine aq (Qw hod zQ ?_);rw [az (by rw [sz];simp)]
 refine aq (aL ?_);refine aq (JP hod zQ ?_)
 rw [az (by simp)];refine aL ?_
 have lt:i<kvs.length:=(eF.mp hx).1
 have lt':i<es.size:=by omega
 have kv:=hp.get? (e:=es[i]) (by simp [lt']) hx
 simp only [show ¬ ((i:Int)<0) from by omega,lE,v8,Array.getElem?_eq_getElem lt'];refine aq ?_
 first|(refine aq (WK hit.typeIs (aL ?_));refine aq (Qi hit.typeIs ?_))|(refine aq (Qf hit.typeIs (aL ?_));refine aq (Qi hit.typeIs ?_))
 show wpAny _ _ (setField (.ref it) 1 (rawInt ((i:Int)+1)) >>= _) _ _ _
 refine aq (AL ho hd (by simp) ?_)
 have FY:(s.heap.update it (Obj.mapFields (·.setIfInBounds 1 (rawInt ((i:Int)+1))))).IsValIter it d (i+1) kvs.length ep:=⟨_,Ci _ ho (Obj.isFreed_of_fields (FG hd _)),(Obj.cls_mapFields ..).trans hc,by rw [FG hd];simp [rawInt]⟩
 refine aq (xW (aq (Qi (s:={ s with heap:=s.heap.update it (Obj.mapFields (·.setIfInBounds 1 (rawInt ((i:Int)+1)))) }) FY.typeIs ?_)))
 refine aq (Qi (s:={ s with heap:=s.heap.update it (Obj.mapFields (·.setIfInBounds 1 (rawInt ((i:Int)+1)))) }) FY.typeIs ?_)
 exact aL (aL ⟨_,Z,aL (kv.2▸hQ _ FY (Fz ..))⟩)
theorem Q0 {kvs:List (K×Value)} {Q:VS} (hh:A.handled=none) (hit:s.heap.IsValIter it d i kvs.length ep)
  (hm:s.heap.DictAt knd d kvs ep) (hx:kvs[i]?=none) (hE:∀h' e,Heap.ExtBut it s.heap h'->(∃o,h'.get? e=some o/\o.cls = .type "StopIteration")->E (.ref e) { s with heap:=h' }):
  wpAny (model prog w) A (Builtin.SmallTypes.nextOf (.ref it)) Q E s:=by
 obtain ⟨o,ho,hc,hd⟩:=id hit;obtain ⟨od,es,hod,hcd,zQ,hk,hp,hn⟩:=id hm
 unfold Builtin.SmallTypes.nextOf
 refine aq (xN (name:=Str.ofString "__next__") hit.typeIs WI (xS WI hit.typeIs F.entry_dict_valueiterator_next ?_ (F.args_dict_valueiterator_next_1 _)))
 refine aq (aL ?_);refine aq (aq ?_)
 first|(refine aq (WK hit.typeIs (aL ?_));refine aq (vA ho hd ?_))|(refine aq (Qf hit.typeIs (aL ?_));refine aq (vA ho hd ?_))
 have own:Builtin.Dict_items.ownsTuple "dict_valueiterator"=false:=by decide
 simp only [own,FF,lE]
 show wpAny _ _ (if (Value.ref d==Value.none)=true then _ else _) _ _ _
 rw [az (fun z=>fJ z:¬ ((Value.ref d==Value.none)=true))];refine aq (aL ?_)
 have sz:es.size=kvs.length:=by have:=hp.length;simpa using this
 refine aq (Qw hod zQ ?_);rw [az (by rw [sz];simp)]
 refine aq (aL ?_);refine aq (JP hod zQ ?_)
 rw [az (by simp)];refine aL ?_
 have ge:es.size<=i:=by rw [sz];simpa using hx
 simp only [show ¬ ((i:Int)<0) from by omega,lE,v8,Array.getElem?_eq_none ge];refine aq ?_
 first|(refine aq (WK hit.typeIs (aL ?_));show wpAny _ _ (setField (.ref it) 0 .none >>= _) _ _ _)|(refine aq (Qf hit.typeIs (aL ?_));show wpAny _ _ (setField (.ref it) 0 .none >>= _) _ _ _)
 refine aq (AL ho hd (by simp) ?_);show wpAny _ _ (newExc (.type "StopIteration") [] >>= _) _ _ _
 refine aq ?_;simp only [newExc,newTuple]
 refine aq (qy ?_ (by size_fits));refine aq (m:=firstArgMember _ _) (wpAny_of_eq (a:=Value.none) (by first|rfl|(simp only [firstArgMember];rfl)) ?_)
 refine qy ?_ (by size_fits);simp only [raiseNew]
 refine aq (wpAny_handled ?_);rw [show A.in1.handled=none from hh]
 exact aq (aL (wpAny_throw (hE _ _ (((Fz ..).extBut.push _).push _) ⟨_,dY _ rfl,Z⟩)))
end
structure zR (P:Program) (w:World) (K:Fg) (S:Hp->Prop) (xs:List V) (it l:Addr) (tn:Nat->Heap->Prop) (src:Heap->Prop):Prop where
 obj:∀i h,tn i h->∃o,h.get? it=some o/\∀v,o.data ≠ .cell v
 keep:∀i h h',tn i h->(∀o,h.get? it=some o->h'.get? it=some o)->tn i h'
 vF:∀h h',src h->(∀o,h.get? l=some o->h'.get? l=some o)->src h'
 HF:∀(X:Cx),X.prog=P->X.w=w->X.K=K->∀(pins:AO) (σ:St) (H:Hp) (s:Shared),Inv X pins σ H s->S H->src s.heap
 item:∀(A:Around) (i:Nat) (x:V) (s:Shared) (Q:VS) (E:VS),tn i s.heap->src s.heap->xs[i]?=some x->(∀u h',RelV x u->tn (i+1) h'->Heap.SameBut it s.heap h'->Q u { s with heap:=h' })->wpAny (model P w) A (Builtin.SmallTypes.nextOf (.ref it)) Q E s
 done:∀(A:Around) (i:Nat) (s:Shared) (Q:VS) (E:VS),A.handled=none->tn i s.heap->src s.heap->xs.length<=i->(∀h' e,Heap.ExtBut it s.heap h'->(∃o,h'.get? e=some o/\o.cls = .type "StopIteration")->E (.ref e) { s with heap:=h' })->wpAny (model P w) A (Builtin.SmallTypes.nextOf (.ref it)) Q E s
theorem VY {w:World} {l:Addr}:zR P w K (fun H=>aC K H l xs) xs it l (fun i h=>h.IsListIter it l i) (fun h=>∃its:List Value,Vals xs its/\h.IsList l its.toArray) where
 obj:=fun i h ⟨o,e,c,d⟩=>⟨o,e,fun v z=>by rw [d] at z;cases z⟩
 keep:=fun i h h' st k=>st.at k
 vF:=fun h h' ⟨its,r,hl⟩ k=>⟨its,r,hl.at k⟩
 HF:=fun X hP hw hK pins σ H s I h=>by
  subst hP hw hK
  obtain ⟨its,rv,p,_⟩:=I.list h
  exact ⟨its,rv,p.isList⟩
 item:=fun A i x s Q E st ⟨its,r,hl⟩ hx hQ=>by
  obtain ⟨u,hu,ru⟩:=r.get hx
  exact wpAny_nextOf_list_item st hl (by simpa using hu) fun h' st' sb=>hQ u h' ru st' sb
 done:=fun A i s Q E hh st ⟨its,r,hl⟩ hx hE=>wpAny_nextOf_list_end hh st hl (by have:=r.length;simp;omega) hE
theorem VZ {w:World} {o:Obj} {es:Array DictEntry} (hd:o.data = .dict es ep):
  zR P w K (fun H=>oN H d o kvs) (kvs.map fun p=>kV p.1) it d (fun i h=>h.IsKeyIter it d i kvs.length ep) (fun h=>∃vs,KV kvs vs/\h.DictAt (c6 P w) d vs ep) where
 obj:=fun i h ⟨o,e,c,d⟩=>⟨o,e,fun v z=>by rw [d] at z;cases z⟩
 keep:=fun i h h' st k=>st.at k
 vF:=fun h h' ⟨vs,r,hl⟩ k=>⟨vs,r,hl.at' k⟩
 HF:=fun X hP hw hK pins σ H s I h=>by
  subst hP hw hK
  obtain ⟨ho,_,_,vs,wW,r,da⟩:=I.rC h
  cases Bb da ho hd
  exact ⟨vs,r,da⟩
 item:=fun A i x s Q E st ⟨vs,r,da⟩ hx hQ=>by
  rw [bJ] at hx
  obtain ⟨p,hp,rfl⟩:=lP.mp hx
  obtain ⟨q,hq,ek,rq⟩:=xh r hp
  obtain ⟨qk,qv⟩:=q
  have hl:kvs.length=vs.length:=r.length
  rw [hl] at st
  exact Nq st da hq fun key h' hk st' sb=>hQ key h' (by rw [ek];exact KQ hk) (by rw [hl];exact st') sb
 done:=fun A i s Q E hh st ⟨vs,r,da⟩ hx hE=>by
  have hl:kvs.length=vs.length:=r.length
  rw [aF] at hx
  rw [hl] at st
  exact QZ hh st da (by rw [uf];omega) hE
theorem V0 {w:World} {o:Obj} {es:Array DictEntry} (hd:o.data = .dict es ep):
  zR P w K (fun H=>oN H d o kvs) (kvs.map fun p=>p.2) it d (fun i h=>h.IsValIter it d i kvs.length ep) (fun h=>∃vs,KV kvs vs/\h.DictAt (c6 P w) d vs ep) where
 obj:=fun i h ⟨o,e,c,d⟩=>⟨o,e,fun v z=>by rw [d] at z;cases z⟩
 keep:=fun i h h' st k=>st.at k
 vF:=fun h h' ⟨vs,r,hl⟩ k=>⟨vs,r,hl.at' k⟩
 HF:=fun X hP hw hK pins σ H s I h=>by
  subst hP hw hK
  obtain ⟨ho,_,_,vs,wW,r,da⟩:=I.rC h
  cases Bb da ho hd
  exact ⟨vs,r,da⟩
 item:=fun A i x s Q E st ⟨vs,r,da⟩ hx hQ=>by
  rw [bJ] at hx
  obtain ⟨p,hp,rfl⟩:=lP.mp hx
  obtain ⟨q,hq,ek,rq⟩:=xh r hp
  obtain ⟨qk,qv⟩:=q
  have hl:kvs.length=vs.length:=r.length
  rw [hl] at st
  exact Nr st da hq fun h' st' sb=>hQ qv h' rq (by rw [hl];exact st') sb
 done:=fun A i s Q E hh st ⟨vs,r,da⟩ hx hE=>by
  have hl:kvs.length=vs.length:=r.length
  rw [aF] at hx
  rw [hl] at st
  exact Q0 hh st da (by rw [uf];omega) hE
variable {y:V}
section
variable {P:Program} {w:World} {A:Around} {E:VS} {s:Shared} {K:Fg} {S1 S2:Hp->Prop} {xs ys:List V} {z TI TO i1 i2 l1 l2:Addr} {t1 t2:Nat->Heap->Prop} {c1 c2:Heap->Prop} {i:Nat}
theorem S9 {x:V} {a b:Value} {Q:VS} (D:ZipApart z TI TO i1 i2 l1 l2) (C1:zR P w K S1 xs i1 l1 t1 c1) (C2:zR P w K S2 ys i2 l2 t2 c2)
  (hz:IsZip s.heap z TI TO .none) (hTI:IsPair s.heap TI (.ref i1) (.ref i2)) (hTO:IsPair s.heap TO a b) (h1:t1 i s.heap) (h2:t2 i s.heap) (hc1:c1 s.heap) (hc2:c2 s.heap) (hx:xs[i]?=some x) (hy:ys[i]?=some y)
  (hQ:∀u v h',RelV x u->RelV y v->IsZip h' z TI TO (rawInt s.heap.objs.size)->IsPair h' TO u v->t1 (i+1) h'->t2 (i+1) h'->IsPair h' s.heap.objs.size u v->h'.objs.size=s.heap.objs.size+1->
    (∀c o,c≠z->c≠TO->c≠i1->c≠i2->s.heap.get? c=some o->h'.get? c=some o)->Q (.ref s.heap.objs.size) { s with heap:=h' }):
  wpAny (model P w) A (Builtin.«zip.__next__» ⟨[.ref z],[]⟩) (fun fin s'=>∃v,fin = .done (.ret v)/\Q v s') E s:=by
 show wpAny _ _ (field (.ref z) 2 >>= _) _ _ _
 refine aq (ku hz rfl (x:= .bool false) rfl ?_);show wpAny _ _ (field (.ref z) 3 >>= _) _ _ _
 refine aq (ku hz rfl (x:= .ref TI) rfl ?_);refine aq (tT hTI rfl ?_)
 show wpAny _ _ (Builtin.SmallTypes.ownedTupleIsFree (.ref z) >>= _) _ _ _
 refine aq ?_;unfold Builtin.SmallTypes.ownedTupleIsFree
 refine aq (ku hz rfl (x:= .none) rfl (aL ?_));simp only [rj]
 refine aq (wpAny_rule ?_);refine aq (ku hz rfl (x:= .ref TO) rfl ?_)
 refine aq (FH hz (by simp) fun hA nq sA=>?_)
 replace nq:IsZip hA z TI TO .ellipsis:=nq
 refine aq ?_;simp only [List.zipIdx_cons,List.zipIdx_nil,JN,Du]
 refine aq (aq (wpAny_onRaise ?_));show wpAny _ _ (Builtin.SmallTypes.nextOf (.ref i1) >>= _) _ _ _
 refine aq (C1.item _ i x { s with heap:=hA } _ _ (C1.keep _ _ _ h1 fun o e=>sA.extBut _ _ D.i1z e) (C1.vF _ _ hc1 fun o e=>sA.extBut _ _ D.l1z e) hx fun u hB ru h1B sB=>aL ?_)
 have S_:IsPair hB TO a b:=sB.extBut _ _ D.TOi1 (sA.extBut _ _ D.TOz hTO)
 refine aq (tT S_ rfl ?_);refine aq (wpAny_updateSeq_pair S_ fun hC Xa sC=>?_)
 replace Xa:IsPair hC TO u b:=Xa
 refine aq (wpAny_letGo (aL ?_));refine aq (aq (wpAny_onRaise ?_))
 show wpAny _ _ (Builtin.SmallTypes.nextOf (.ref i2) >>= _) _ _ _
 refine aq (C2.item _ i y { s with heap:=hC } _ _ (C2.keep _ _ _ h2 fun o e=>sC.extBut _ _ D.TOi2.symm (sB.extBut _ _ D.i12.symm (sA.extBut _ _ D.i2z e))) (C2.vF _ _ hc2 fun o e=>sC.extBut _ _ D.l2TO (sB.extBut _ _ D.l2i1 (sA.extBut _ _ D.l2z e))) hy fun v hD rv h2D sD=>aL ?_)
 have TOD:IsPair hD TO u b:=sD.extBut _ _ D.TOi2 Xa
 refine aq (tT TOD rfl ?_);refine aq (wpAny_updateSeq_pair TOD fun hE Xb sE=>?_)
 replace Xb:IsPair hE TO u v:=Xb
 refine aq (wpAny_letGo (aL (aL ?_)));refine aq (tT Xb rfl ?_)
 refine aq (wpAny_newTuple ?_)
 have sz:hE.objs.size=s.heap.objs.size:=by rw [sE.1,sD.1,sC.1,sB.1,sA.1]
 have zE:IsZip hE z TI TO .ellipsis:=sE.extBut _ _ D.TOz.symm (sD.extBut _ _ D.i2z.symm (sC.extBut _ _ D.TOz.symm (sB.extBut _ _ D.i1z.symm nq)))
 have kE:∀c o,c≠z->c≠TO->c≠i1->c≠i2->s.heap.get? c=some o->hE.get? c=some o:=fun c o c1 c2 c3 c4 e=>sE.extBut _ _ c2 (sD.extBut _ _ c4 (sC.extBut _ _ c2 (sB.extBut _ _ c3 (sA.extBut _ _ c1 e))))
 have t1E:t1 (i+1) hE:=C1.keep _ _ _ h1B fun o e=>sE.extBut _ _ D.TOi1.symm (sD.extBut _ _ D.i12 (sC.extBut _ _ D.TOi1.symm e))
 have t2E:t2 (i+1) hE:=C2.keep _ _ _ h2D fun o e=>sE.extBut _ _ D.TOi2.symm e
 have zlt:z<hE.objs.size:=bP zE
 show wpAny _ _ (Builtin.SmallTypes.ownedTupleHandOut (.ref z) (.ref hE.objs.size) >>= _) _ _ _
 refine aq ?_;unfold Builtin.SmallTypes.ownedTupleHandOut
 have zF:IsZip (hE.push { cls:= .type "tuple",data:= .seq #[u,v] }) z TI TO .ellipsis:=cA _ zE
 refine aq (FH zF (by simp) fun hG zG sG=>?_)
 replace zG:IsZip hG z TI TO (rawInt hE.objs.size):=zG
 refine FH zG (by simp) fun hI zI sI=>?_
 replace zI:IsZip hI z TI TO (rawInt hE.objs.size):=zI
 have up:∀c o,c≠z->hE.get? c=some o->hI.get? c=some o:=fun c o c1 e=>sI.extBut _ _ c1 (sG.extBut _ _ c1 (cA _ e))
 have TI':IsPair hI hE.objs.size u v:=sI.extBut _ _ (xX zlt) (sG.extBut _ _ (xX zlt) (dY _ rfl))
 have szI:hI.objs.size=hE.objs.size+1:=by rw [sI.1,sG.1,mF]
 rw [sz] at zI TI' szI
 refine aL ⟨_,Z,?_⟩
 show Q (.ref hE.objs.size) _
 rw [sz]
 exact hQ u v hI ru rv zI (up _ _ D.TOz Xb) (C1.keep _ _ _ t1E fun o e=>up _ o D.i1z e) (C2.keep _ _ _ t2E fun o e=>up _ o D.i2z e) TI' szI fun c o c1 c2 c3 c4 e=>up c o c1 (kE c o c1 c2 c3 c4 e)
theorem V1 {a b:Value} {Q:Fin->Shared->Prop} (hh:A.handled=none) (D:ZipApart z TI TO i1 i2 l1 l2) (C1:zR P w K S1 xs i1 l1 t1 c1) (C2:zR P w K S2 ys i2 l2 t2 c2)
  (hz:IsZip s.heap z TI TO .none) (hTI:IsPair s.heap TI (.ref i1) (.ref i2)) (hTO:IsPair s.heap TO a b) (h1:t1 i s.heap) (h2:t2 i s.heap) (hc1:c1 s.heap) (hc2:c2 s.heap) (hend:xs.length<=i\/ys.length<=i)
  (hE:∀h' e,(∀c o,c≠z->c≠TO->c≠i1->c≠i2->s.heap.get? c=some o->h'.get? c=some o)->(∃o,h'.get? e=some o/\o.cls = .type "StopIteration")->E (.ref e) { s with heap:=h' }):
  wpAny (model P w) A (Builtin.«zip.__next__» ⟨[.ref z],[]⟩) Q E s:=by
 show wpAny _ _ (field (.ref z) 2 >>= _) _ _ _
 refine aq (ku hz rfl (x:= .bool false) rfl ?_);show wpAny _ _ (field (.ref z) 3 >>= _) _ _ _
 refine aq (ku hz rfl (x:= .ref TI) rfl ?_);refine aq (tT hTI rfl ?_)
 show wpAny _ _ (Builtin.SmallTypes.ownedTupleIsFree (.ref z) >>= _) _ _ _
 refine aq ?_;unfold Builtin.SmallTypes.ownedTupleIsFree
 refine aq (ku hz rfl (x:= .none) rfl (aL ?_));simp only [rj]
 refine aq (wpAny_rule ?_);refine aq (ku hz rfl (x:= .ref TO) rfl ?_)
 refine aq (FH hz (by simp) fun hA nq sA=>?_)
 replace nq:IsZip hA z TI TO .ellipsis:=nq
 refine aq ?_;simp only [List.zipIdx_cons,List.zipIdx_nil,JN,Du]
 refine aq (aq (wpAny_onRaise ?_));show wpAny _ _ (Builtin.SmallTypes.nextOf (.ref i1) >>= _) _ _ _
 have k1:=C1.keep _ _ _ h1 fun o e=>sA.extBut _ _ D.i1z e
 have k2:=C1.vF _ _ hc1 fun o e=>sA.extBut _ _ D.l1z e
 by_cases hx:xs.length<=i
 . refine aq (C1.done _ i { s with heap:=hA } _ _ hh k1 k2 hx fun hB e sB he=>?_)
   obtain ⟨oe,D8,hce⟩:=he
   have zB:IsZip hB z TI TO .ellipsis:=sB _ _ D.i1z.symm nq
   have ez:e≠z:=fun x=>by subst x;rw [zB] at D8;cases D8;simp at hce
   exact FH zB (by simp) fun hC _ sC=>hE hC e (fun c o c1 _ c3 _ x=>sC.extBut _ _ c1 (sB _ _ c3 (sA.extBut _ _ c1 x))) ⟨oe,sC.extBut _ _ ez D8,hce⟩
 . have hy:ys.length<=i:=hend.resolve_left hx
   refine aq (C1.item _ i xs[i] { s with heap:=hA } _ _ k1 k2 (aX (by omega)) fun u hB ru h1B sB=>aL ?_)
   have S_:IsPair hB TO a b:=sB.extBut _ _ D.TOi1 (sA.extBut _ _ D.TOz hTO)
   refine aq (tT S_ rfl ?_);refine aq (wpAny_updateSeq_pair S_ fun hC Xa sC=>?_)
   refine aq (wpAny_letGo (aL ?_));refine aq (aq (wpAny_onRaise ?_))
   show wpAny _ _ (Builtin.SmallTypes.nextOf (.ref i2) >>= _) _ _ _
   refine aq (C2.done _ i { s with heap:=hC } _ _ hh (C2.keep _ _ _ h2 fun o e=>sC.extBut _ _ D.TOi2.symm (sB.extBut _ _ D.i12.symm (sA.extBut _ _ D.i2z e))) (C2.vF _ _ hc2 fun o e=>sC.extBut _ _ D.l2TO (sB.extBut _ _ D.l2i1 (sA.extBut _ _ D.l2z e))) hy fun hD e sD he=>?_)
   obtain ⟨oe,D8,hce⟩:=he
   have zD:IsZip hD z TI TO .ellipsis:=sD _ _ D.i2z.symm (sC.extBut _ _ D.TOz.symm (sB.extBut _ _ D.i1z.symm nq))
   have ez:e≠z:=fun x=>by subst x;rw [zD] at D8;cases D8;simp at hce
   exact FH zD (by simp) fun hF _ sF=>hE hF e (fun c o c1 c2 c3 c4 x=>sF.extBut _ _ c1 (sD _ _ c4 (sC.extBut _ _ c2 (sB.extBut _ _ c3 (sA.extBut _ _ c1 x))))) ⟨oe,sF.extBut _ _ ez D8,hce⟩
end
def aaT (S1 S2:Hp->Prop) (xs ys:List V):It:=
 ⟨fun i H=>S1 H/\S2 H/\i<xs.length/\i<ys.length,fun i H v H'=>∃p x y,H p=none/\v = .ref p/\H'=upd H p (.tup [x,y])/\xs[i]?=some x/\ys[i]?=some y,fun i H=>S1 H/\S2 H/\(xs.length<=i\/ys.length<=i)⟩
variable {ys:List V} {z:Addr}
theorem Tc {w:World} {kk:Nat} {S1 S2:Hp->Prop} {TI TO i1 i2 l1 l2:Addr} {t1 t2:Nat->Heap->Prop} {c1 c2:Heap->Prop} (D:ZipApart z TI TO i1 i2 l1 l2)
  (C1:zR P w K S1 xs i1 l1 t1 c1) (C2:zR P w K S2 ys i2 l2 t2 c2):
  Turn P w K (.Tuple elts kk pos) (aaT S1 S2 xs ys) [z,TI,TO,i1,i2] z (fun i h=>IsZip h z TI TO .none/\IsPair h TI (.ref i1) (.ref i2)/\(∃a b,IsPair h TO a b)/\t1 i h/\t2 i h) where
 mem:=by simp
 obj:=fun i h st b hb=>by
  obtain ⟨hz,hTI,⟨a,b',hTO⟩,h1,h2⟩:=st
  have hb':b=z\/b=TI\/b=TO\/b=i1\/b=i2:=by simpa using hb
  rcases hb' with rfl|rfl|rfl|rfl|rfl
  . exact ⟨_,hz,fun v q=>by cases q⟩
  . exact ⟨_,hTI,fun v q=>by cases q⟩
  . exact ⟨_,hTO,fun v q=>by cases q⟩
  . exact C1.obj i h h1
  . exact C2.obj i h h2
 keep:=fun i h h' st k=>by
  obtain ⟨hz,hTI,⟨a,b',hTO⟩,h1,h2⟩:=st
  exact ⟨k z (by simp) _ hz,k TI (by simp) _ hTI,⟨a,b',k TO (by simp) _ hTO⟩,C1.keep _ _ _ h1 fun o e=>k i1 (by simp) o e,C2.keep _ _ _ h2 fun o e=>k i2 (by simp) o e⟩
 item:=by
  intro X hP hw hK hc i pins s σ H E I hf st hg
  subst hP hw hK
  obtain ⟨hz,hTI,⟨a,b,hTO⟩,h1,h2⟩:=st
  obtain ⟨g1,g2,lx,ly⟩:=hg
  have hT:s.TypeIs (.ref z) "zip":=⟨_,hz,Z⟩
  unfold pyNext
  refine aq (wpAny_attempt (xN (name:=Str.ofString "__next__") hT JQ (xS JQ hT F.entry_zip_next
   (S9 D C1 C2 hz hTI hTO h1 h2 (C1.HF X rfl rfl rfl pins σ H s I g1) (C2.HF X rfl rfl rfl pins σ H s I g2) (aX lx) (aX ly) fun u u2 h' ru ru2 a1 a2 a3 a4 a5 a6 hk=>aL ?_) (F.args_zip_next_1 _))))
  refine ⟨_,Z,wpAny_letOwnedTupleGo_zip (s:={ s with heap:=h' }) a1 fun h'' b1 hs=>?_⟩
  have hTz:s.heap.objs.size≠z:=xX (bP hz)
  have vE:∀c o,c≠z->c≠TO->c≠i1->c≠i2->s.heap.get? c=some o->h''.get? c=some o:=fun c o c1 c2 c3 c4 e=>hs.extBut _ _ c1 (hk c o c1 c2 c3 c4 e)
  have hn:=I.fresh
  have nf:∀b u,H b=some u->b≠z/\b≠TO/\b≠i1/\b≠i2:=fun b u e=>by
   have g:∀c∈[z,TI,TO,i1,i2],b≠c:=fun c hc q=>by
    have:=(hf c hc).1
    rw [<-q,e] at this
    cases this
   exact ⟨g z (by simp),g TO (by simp),g i1 (by simp),g i2 (by simp)⟩
  have wV:∀c,c∉[z,TI,TO,i1,i2]->c≠z/\c≠TO/\c≠i1/\c≠i2:=fun c hc=>⟨fun q=>hc (by simp [q]),fun q=>hc (by simp [q]),fun q=>hc (by simp [q]),fun q=>hc (by simp [q])⟩
  have ag7:IsPair h'' s.heap.objs.size u u2:=hs.extBut _ _ hTz a5
  have hok:gM X.prog X.w (upd H s.heap.objs.size (.tup [xs[i],ys[i]])) h'':=fun b ob e=>by
   by_cases hb:b=s.heap.objs.size
   . subst hb
     rw [aj] at e
     cases e
     exact ⟨by show 2<=sizeLine;decide,[u,u2], .cons ru (.cons ru2 .nil),_,ag7,Z,0,Z⟩
   . rw [av hb] at e
     refine (I.hok b ob e).stay (fun c v S7 q=>?_) (fun c q=>by rw [av (aI q hn)];exact q) fun c zs q=>by rw [av (aI q hn)];exact q
     rcases S7 with r|r
     . obtain ⟨n1,n2,n3,n4⟩:=nf b ob e
       rw [r]
       rw [r] at q
       exact vE b v n1 n2 n3 n4 q
     . obtain ⟨n1,n2,n3,n4⟩:=nf c _ r
       exact vE c v n1 n2 n3 n4 q
  have I2:Inv X pins σ (upd H s.heap.objs.size (.tup [xs[i],ys[i]])) { s with heap:=h'',gens:=s.gens,drawn:=s.drawn,toks:=s.toks }:=by
   refine I.step (ch:=[z,TI,TO,i1,i2]) (fun b hb=>⟨(hf b hb).2.2.2.1,(hf b hb).2.1,(hf b hb).2.2.2.2.1,(hf b hb).2.2.2.2.2⟩) (fun b o _ _ hc' e _=>?_) (fun b o _ _ hc' e _=>?_) (fun b o _ e n=>?_) (fun b o hc' e=>?_)
    (fun b zs q=>by rw [av (aI q hn)];exact q) (fun b o zs q=>by rw [av (aI q hn)];exact q) (fun b ps q=>⟨#[],by rw [av (aI q hn),q];simp⟩) (fun m hm=>?_) hok I.bare
   . obtain ⟨n1,n2,n3,n4⟩:=wV b hc'
     exact vE b o n1 n2 n3 n4 e
   . obtain ⟨n1,n2,n3,n4⟩:=wV b hc'
     exact ⟨o.slots,vE b o n1 n2 n3 n4 e⟩
   . rw [av (dP (bP e))]
     exact n
   . obtain ⟨n1,n2,n3,n4⟩:=wV b hc'
     exact ⟨o,vE b o n1 n2 n3 n4 e⟩
   . obtain ⟨o,es,ep,ho,r⟩:=hm
     have nl:∀c∈[z,TI,TO,i1,i2],X.env.locals≠c:=fun c hc' q=>(hf c hc').2.1 q.symm
     exact ⟨o,es,ep,vE _ o (nl z (by simp)) (nl TO (by simp)) (nl i1 (by simp)) (nl i2 (by simp)) ho,r⟩
  refine ⟨.ref s.heap.objs.size,_,I2,Z,⟨s.heap.objs.size,xs[i],ys[i],hn,Z,Z,aX lx,aX ly⟩,⟨b1,?_,⟨u,u2,?_⟩,?_,?_⟩,fun b hb=>?_⟩
  . exact vE _ _ D.TIz D.TITO D.TIi1 D.TIi2 hTI
  . exact hs.extBut _ _ D.TOz a2
  . exact C1.keep _ _ _ a3 fun o e=>hs.extBut _ _ D.i1z e
  . exact C2.keep _ _ _ a4 fun o e=>hs.extBut _ _ D.i2z e
  . have hlt:b≠s.heap.objs.size:=by
     have hb':b=z\/b=TI\/b=TO\/b=i1\/b=i2:=by simpa using hb
     obtain ⟨_,e1,_⟩:=C1.obj _ _ h1
     obtain ⟨_,e2,_⟩:=C2.obj _ _ h2
     rcases hb' with rfl|rfl|rfl|rfl|rfl
     . exact dP (bP hz)
     . exact dP (bP hTI)
     . exact dP (bP hTO)
     . exact dP (bP e1)
     . exact dP (bP e2)
    rw [av hlt]
    exact (hf b hb).1
 done:=by
  intro X hP hw hK hc i pins s σ H E I hf st hg
  subst hP hw hK
  obtain ⟨hz,hTI,⟨a,b,hTO⟩,h1,h2⟩:=st
  obtain ⟨g1,g2,hend⟩:=hg
  have hT:s.TypeIs (.ref z) "zip":=⟨_,hz,Z⟩
  unfold pyNext
  refine aq (wpAny_attempt (xN (name:=Str.ofString "__next__") hT JQ (xS JQ hT F.entry_zip_next
   (V1 (I.ok.hd hc) D C1 C2 hz hTI hTO h1 h2 (C1.HF X rfl rfl rfl pins σ H s I g1) (C2.HF X rfl rfl rfl pins σ H s I g2) hend fun h' e hk he=>?_) (F.args_zip_next_1 _))))
  obtain ⟨oe,D8,hce⟩:=he
  refine aq (wpAny_isInstance (T:="StopIteration") (b:=true) ⟨oe,D8,hce⟩ isSubtype_stop (aL ⟨Z,?_⟩))
  have wV:∀c,c∉[z,TI,TO,i1,i2]->c≠z/\c≠TO/\c≠i1/\c≠i2:=fun c hc=>⟨fun q=>hc (by simp [q]),fun q=>hc (by simp [q]),fun q=>hc (by simp [q]),fun q=>hc (by simp [q])⟩
  have nf:∀b u,H b=some u->b≠z/\b≠TO/\b≠i1/\b≠i2:=fun b u e=>by
   have g:∀c∈[z,TI,TO,i1,i2],b≠c:=fun c hc q=>by
    have:=(hf c hc).1
    rw [<-q,e] at this
    cases this
   exact ⟨g z (by simp),g TO (by simp),g i1 (by simp),g i2 (by simp)⟩
  have I2:Inv X pins σ H { s with heap:=h',gens:=s.gens,drawn:=s.drawn,toks:=s.toks }:=by
   refine I.step (ch:=[z,TI,TO,i1,i2]) (fun b hb=>⟨(hf b hb).2.2.2.1,(hf b hb).2.1,(hf b hb).2.2.2.2.1,(hf b hb).2.2.2.2.2⟩) (fun b o _ _ hc' e _=>?_) (fun b o _ _ hc' e _=>?_) (fun b o _ e n=>n) (fun b o hc' e=>?_)
    (fun b zs q=>q) (fun b o zs q=>q) (fun b ps q=>⟨#[],by rw [q];simp⟩) (fun m hm=>?_) (fun b ob e=>?_) I.bare
   . obtain ⟨n1,n2,n3,n4⟩:=wV b hc'
     exact hk b o n1 n2 n3 n4 e
   . obtain ⟨n1,n2,n3,n4⟩:=wV b hc'
     exact ⟨o.slots,hk b o n1 n2 n3 n4 e⟩
   . obtain ⟨n1,n2,n3,n4⟩:=wV b hc'
     exact ⟨o,hk b o n1 n2 n3 n4 e⟩
   . obtain ⟨o,es,ep,ho,r⟩:=hm
     have nl:∀c∈[z,TI,TO,i1,i2],X.env.locals≠c:=fun c hc' q=>(hf c hc').2.1 q.symm
     exact ⟨o,es,ep,hk _ o (nl z (by simp)) (nl TO (by simp)) (nl i1 (by simp)) (nl i2 (by simp)) ho,r⟩
   . refine (I.hok b ob e).stay (fun c v S7 q=>?_) (fun c q=>q) fun c zs q=>q
     rcases S7 with r|r
     . obtain ⟨n1,n2,n3,n4⟩:=nf b ob e
       rw [r]
       rw [r] at q
       exact hk b v n1 n2 n3 n4 q
     . obtain ⟨n1,n2,n3,n4⟩:=nf c _ r
       exact hk c v n1 n2 n3 n4 q
  exact I2
 self:=fun _ _ _ _ _ st h=>wpAny_pyIter_zip st.1 h
def KR (P:Program) (w:World) (u:Value) (o:Obj) (pre:Heap->Prop):Prop:=∀(A:Around) (E:VS) (s:Shared) (Q:VS),pre s.heap->Q (.ref s.heap.objs.size) { s with heap:=s.heap.push o }->wpAny (model P w) A (pyIter u) Q E s
theorem Q2 {w:World} {p1 p2:Heap->Prop} (s1:KR P w u1 o1 p1) (s2:KR P w u2 o2 p2):
  MeetsIn P w (Builtin.«zip.__new__» ⟨[.type "zip",u1,u2],[]⟩) (fun _ R s=>p1 s.heap/\p2 (s.heap.push o1)/\
   R (.ok (.ret (.ref ((((s.heap.push o1).push o2).push { cls:= .type "tuple",data:= .seq #[.ref s.heap.objs.size, .ref (s.heap.push o1).objs.size] }).push { cls:= .type "tuple",data:= .seq #[.none, .none] }).objs.size)))
     { s with heap:=((((s.heap.push o1).push o2).push { cls:= .type "tuple",data:= .seq #[.ref s.heap.objs.size, .ref (s.heap.push o1).objs.size] }).push { cls:= .type "tuple",data:= .seq #[.none, .none] }).push { cls:= .type "zip",data:= .fields #[.none, .bool false, .bool false, .ref ((s.heap.push o1).push o2).objs.size, .ref (((s.heap.push o1).push o2).push { cls:= .type "tuple",data:= .seq #[.ref s.heap.objs.size, .ref (s.heap.push o1).objs.size] }).objs.size] } }):=
 .of_wp fun A R s h=>by
   obtain ⟨hp,g,d,tk,os⟩:=s;obtain ⟨q1,q2,h⟩:=h
   have hsub:=sub_zip
   have i1:=fun (A:Around) (E:VS) (Q:VS)=>s1 A E ⟨hp,g,d,tk,os⟩ Q q1
   have i2:=fun (A:Around) (E:VS) (Q:VS)=>s2 A E ⟨hp.push o1,g,d,tk,os⟩ Q q2
   wp_walk using i1 _ _ _,i2 _ _ _
   exact ⟨_,Z,h⟩
section
variable {prog:Program} {w:World} {A:Around} {E:VS} {s:Shared} {it t:Addr} {i:Nat} {items:Array Value} {Q:VS}
theorem Nt {x:Value} (hit:s.heap.IsTupleIter it t i) (ht:s.heap.IsTuple t items) (hx:items[i]?=some x) (hQ:∀h',h'.IsTupleIter it t (i+1)->Heap.SameBut it s.heap h'->Q x { s with heap:=h' }):wpAny (model prog w) A (Builtin.SmallTypes.nextOf (.ref it)) Q E s:=by
 obtain ⟨o,ho,hc,hd⟩:=id hit;obtain ⟨ol,eL,_,nl,hdl⟩:=ht;unfold Builtin.SmallTypes.nextOf
 refine aq (xN (name:=Str.ofString "__next__") hit.typeIs Qa (xS Qa hit.typeIs F.entry_tuple_iterator_next ?_ (F.args_tuple_iterator_next_1 _)))
 show wpAny _ _ (field (.ref it) 0 >>= _) _ _ s;refine aq (ku ho hd (x:= .ref t) rfl ?_);show wpAny _ _ (if (Value.ref t==Value.none)=true then _ else _) _ _ s
 rw [az (fun z=>fJ z:¬ ((Value.ref t==Value.none)=true))];show wpAny _ _ (field (.ref it) 1 >>= _) _ _ s
 refine aq (ku ho hd (x:= .int i 0) rfl ?_);show wpAny _ _ (seqItems? (.ref t) >>= _) _ _ s;refine aq (tT eL hdl ?_);simp only [v8,hx]
 refine aq (AL ho hd (by simp) (aL ⟨x,Z,aL (hQ _ ?_ (Fz ..))⟩));refine ⟨_,Ci _ ho (Obj.isFreed_of_fields (FG hd _)),(Obj.cls_mapFields ..).trans hc,?_⟩;rw [FG hd];simp [rawInt]
theorem Q3 (hh:A.handled=none) (hit:s.heap.IsTupleIter it t i) (ht:s.heap.IsTuple t items) (hx:items[i]?=none) (hE:∀h' e,Heap.ExtBut it s.heap h'->(∃o,h'.get? e=some o/\o.cls = .type "StopIteration")->E (.ref e) { s with heap:=h' }):wpAny (model prog w) A (Builtin.SmallTypes.nextOf (.ref it)) Q E s:=by
 obtain ⟨o,ho,hc,hd⟩:=id hit;obtain ⟨ol,eL,_,nl,hdl⟩:=ht;unfold Builtin.SmallTypes.nextOf
 refine aq (xN (name:=Str.ofString "__next__") hit.typeIs Qa (xS Qa hit.typeIs F.entry_tuple_iterator_next ?_ (F.args_tuple_iterator_next_1 _)))
 show wpAny _ _ (field (.ref it) 0 >>= _) _ _ s;refine aq (ku ho hd (x:= .ref t) rfl ?_);show wpAny _ _ (if (Value.ref t==Value.none)=true then _ else _) _ _ s
 rw [az (fun z=>fJ z:¬ ((Value.ref t==Value.none)=true))];show wpAny _ _ (field (.ref it) 1 >>= _) _ _ s
 refine aq (ku ho hd (x:= .int i 0) rfl ?_);show wpAny _ _ (seqItems? (.ref t) >>= _) _ _ s;refine aq (tT eL hdl ?_);simp only [v8,hx]
 refine aq (wpAny_rule (aq (AL ho hd (by simp) ?_)));show wpAny _ _ (newExc (.type "StopIteration") [] >>= _) _ _ _;refine aq ?_;simp only [newExc,newTuple]
 refine aq (qy ?_ (by size_fits));refine aq (m:=firstArgMember _ _) (wpAny_of_eq (a:=Value.none) (by first|rfl|(simp only [firstArgMember];rfl)) ?_);refine qy ?_ (by size_fits);simp only [raiseNew]
 refine aq (wpAny_handled ?_);first|rw [show A.in1.handled=none from hh]|rw [hh]
 refine aq (aL (wpAny_throw ?_));exact hE _ _ (((Fz ..).extBut.push _).push _) ⟨_,dY _ rfl,Z⟩
end
theorem YB {w:World} {l:Addr}:zR P w K (fun H=>cR K H l xs) xs it l (fun i h=>h.IsTupleIter it l i) (fun h=>∃its:List Value,Vals xs its/\h.IsTuple l its.toArray) where
 obj:=fun i h ⟨o,e,c,d⟩=>⟨o,e,fun v z=>by rw [d] at z;cases z⟩
 keep:=fun i h h' st k=>st.at k
 vF:=fun h h' ⟨its,r,o,e,q⟩ k=>⟨its,r,o,k o e,q⟩
 HF:=fun X hP hw hK pins σ H s I h=>by
  subst hP hw hK
  obtain ⟨its,rv,p,_⟩:=I.tuple h
  exact ⟨its,rv,p⟩
 item:=fun A i x s Q E st ⟨its,r,hl⟩ hx hQ=>by
  obtain ⟨u,hu,ru⟩:=r.get hx
  exact Nt st hl (by simpa using hu) fun h' st' sb=>hQ u h' ru st' sb
 done:=fun A i s Q E hh st ⟨its,r,hl⟩ hx hE=>Q3 hh st hl (by have:=r.length;simp;omega) hE
theorem V2:typeLookup (.type "dict") "__len__"=pure (some (.builtin "dict.__len__")):=by rw [typeLookup_type,builtinLookup_eq_fast];kernel_rfl
variable {R:Result->Shared->Prop}
section
variable {prog:Program} {w:World} {A:Around} {E:VS} {s:Shared} {K:Type} [DecidableEq K] {knd:KeyKind prog w K}
theorem Bo (hh:A.handled=none) {kvs:List (K×Value)} (hd:(d==sysModules)=false) (hm:s.heap.DictAt knd d kvs ep) (S:Addr) (hSd:S≠d) (res:Value) (c₀:Nat) (hS:s.heap.get? S=some { cls:= .type "list",data:= .seq #[] c₀ })
  (hR:∀h' tk acc' c',(∀b o,b≠S->s.heap.get? b=some o->h'.get? b=some o)->h'.get? S=some { cls:= .type "list",dict:=none,data:= .seq acc' c',slots:=#[] }->
    ItemsOf (fun i v=>∃k x,kvs[i]?=some (k,x)/\knd.is k v=true) acc' kvs.length->R (.ok (.ret res)) { s with heap:=h',toks:=tk }) (hn:kvs.length<=sizeLine):
  wpAny (model prog w) A.in1 (Builtin.List.listExtendWith (.ref S) (.ref d) res)
   (fun fin s'=>match fin with | .done f=>R (.ok f) s' | .again c'=>c'.quiet=true/\codeAny (model prog w) A c' R s') (fun e s'=>R (.error e) s') s:=by
 have hSI:S≠s.heap.objs.size:=dP (bP hS)
 have hT:s.TypeIs (.ref d) "dict":=hm.dictOf.typeIs
 unfold Builtin.List.listExtendWith
 refine aq (wpAny_typeOf (T:="dict") (v:= .ref d) hT ?_)
 have h1:Builtin.List.listSameRef (.ref S) (.ref d)=false:=by
  show (S==d)=false
  simpa using hSd
 have h2:(Value.type "dict"==Value.type "list")=false:=by decide
 have h3:(Value.type "dict"==Value.type "tuple")=false:=by decide
 simp only [h1,h2,h3,Bool.or_false,FF,lE]
 refine aq (wpAny_pyIter_dict hd hm ?_)
 refine aq (xW ?_)
 unfold Builtin.List.listLengthHint
 have hT2:({ s with heap:=s.heap.push { cls:= .type "dict_keyiterator",data:= .fields #[.ref d, .int 0 0, .int kvs.length 0, .int ep 0] } }:Shared).TypeIs (.ref d) "dict":=(hm.push _).dictOf.typeIs
 refine aq (wpAny_specialOf (T:="dict") (v:= .ref d) hT2 V2 ?_)
 wp_delta
 refine aq (wpAny_isInstance (T:="dict") (v:= .ref d) (b:=true) hT2 (by rw [isSubtype_type];kernel_rfl) ?_)
 show wpAny _ _ (typeOf (Value.ref d) >>= _) _ _ _
 refine aq (wpAny_typeOf (T:="dict") (v:= .ref d) hT2 ?_)
 refine aL ?_
 have hne:d≠s.heap.objs.size:=dP hm.lt_size
 have hSf:S∉[s.heap.objs.size,d] :=fun hm'=>by
  rcases c_.mp hm' with z|z
  . exact hSI z
  . exact hSd (fU.mp z)
 show wpAny _ A.in1 (rule "list.extend.makes-room" >>= fun _=>Builtin.List.listTouch (.ref S) >>= fun _=>
  again (.builtin "list.extend.loop" ⟨[.ref S, .ref s.heap.objs.size,res],[]⟩)) _ _ _
 refine aq (wpAny_rule ?_)
 refine aq ?_
 show wpAny _ A.in1 (updateSeq S (·.push .none) >>= fun _=>updateSeq S (·.pop)) _ _ _
 have hS₁:=cA { cls:= .type "dict_keyiterator",data:= .fields #[.ref d, .int 0 0, .int kvs.length 0, .int ep 0] } hS
 refine aq (wpAny_updateSeq hS₁ rfl ?_)
 have Xc:=Ci (Obj.mapSeq (·.push Value.none)) hS₁ rfl
 refine wpAny_updateSeq (hz:=by seq_fits) Xc rfl ?_
 have hS₃:=Ci (Obj.mapSeq (·.pop)) Xc rfl
 have OW:∀b o,b≠S->(s.heap.push { cls:= .type "dict_keyiterator",data:= .fields #[.ref d, .int 0 0, .int kvs.length 0, .int ep 0] }).get? b=some o->(((s.heap.push { cls:= .type "dict_keyiterator",data:= .fields #[.ref d, .int 0 0, .int kvs.length 0, .int ep 0] }).update S (Obj.mapSeq (·.push Value.none))).update S (Obj.mapSeq (·.pop))).get? b=some o:=
  fun b o hb e=>(J3 _ _ (cu hb)).trans ((J3 _ _ (cu hb)).trans e)
 refine aL ⟨plainId_quiet F.plain_extend_loop _,codeAny_extend_loopS (Walks.dictKeys (prog:=prog) (w:=w) (A:=A.in1) (knd:=knd) hh s.heap.objs.size d hne kvs ep).toS hn _ hSf _ kvs.length 0 _ _ _ rfl (f_ _) ⟨⟨_,OW _ _ (cu hSI) (dY _ rfl),Z,Z⟩,(hm.push _).at' fun o e=>OW d o (cu hSd) e⟩ hS₃ (ItemsOf.nil _) fun s' acc' c' hm2 hS' hacc=>?_⟩
 rw [Moved.eq_with hm2]
 refine hR s'.heap s'.toks acc' c' (fun b ob hb e=>hm2.heap b ob (fun hmem=>?_) (OW b ob hb (cA _ e))) hS' hacc
 rcases c_.mp hmem with e'|hmem
 . exact hb e'
 . exact absurd (bP e) (by rw [fU.mp hmem];exact jl _)
theorem FZ {Q:VS} (hh:A.handled=none) {kvs:List (K×Value)} (hd:(d==sysModules)=false) (hm:s.heap.DictAt knd d kvs ep) (hn:kvs.length<=sizeLine)
  (hQ:∀h' tk acc' c',(∀b o,s.heap.get? b=some o->h'.get? b=some o)->
    h'.get? s.heap.objs.size=some { cls:= .type "list",dict:=none,data:= .seq acc' c',slots:=#[] }->ItemsOf (fun i v=>∃k x,kvs[i]?=some (k,x)/\knd.is k v=true) acc' kvs.length->Q (.ref s.heap.objs.size) { s with heap:=h',toks:=tk }):
  wpAny (model prog w) A (call (.type "list") [.ref d]) Q E s:=by
 refine callType_codes (Q₁:=fun obj s₁=>obj = .ref s.heap.objs.size/\s₁={ s with heap:=s.heap.push { cls:= .type "list",data:= .seq #[] } }) F.called_list (F.typeCall_list_1 _) F.entry_list_init
  (code_list_new _ ⟨Z,Z⟩) fun obj s₁ h₁=>?_
 obtain ⟨rfl,rfl⟩:=h₁
 have hS:(s.heap.push { cls:= .type "list",data:= .seq #[] }).get? s.heap.objs.size=some { cls:= .type "list",data:= .seq #[] }:=dY _ rfl
 have hne:s.heap.objs.size≠d:=xX hm.lt_size
 refine ⟨⟨_,hS,Z⟩,F.args_list_init_2 _ _,?_⟩
 show wpAny _ _ (do let old <-Builtin.List.listItems (.ref s.heap.objs.size);Builtin.List.listUpdate (.ref s.heap.objs.size) (fun _=>#[]);letGo old.toList.reverse;Builtin.List.listExtendWith (.ref s.heap.objs.size) (.ref d) .none) _ _ _
 refine aq ?_
 unfold Builtin.List.listItems
 refine aq (tT hS rfl (aL ?_))
 show wpAny _ _ (updateSeq s.heap.objs.size (fun _=>#[]) >>= fun _=>letGo (#[] :Array Value).toList.reverse >>= fun _=>Builtin.List.listExtendWith (.ref s.heap.objs.size) (.ref d) .none) _ _ _
 refine aq (wpAny_updateSeq hS rfl ?_)
 have Xc:=Ci (Obj.mapSeq (fun _=>(#[] :Array Value))) hS rfl
 have OW:∀b o,b≠s.heap.objs.size->(s.heap.push { cls:= .type "list",data:= .seq #[] }).get? b=some o->((s.heap.push { cls:= .type "list",data:= .seq #[] }).update s.heap.objs.size (Obj.mapSeq (fun _=>(#[] :Array Value)))).get? b=some o:=
  fun b o hb e=>(J3 _ _ (cu hb)).trans e
 refine aq (wpAny_letGo ?_)
 refine Bo (A:=A.in1) hh hd (hm.push _ |>.at' fun o e=>OW d o hne.symm e) s.heap.objs.size hne .none _ Xc (fun h' tk acc' c' hk hS' hacc=>?_) hn
 exact ⟨Z,hQ h' tk acc' c' (fun b o e=>hk b o (dP (bP e)) (OW b o (dP (bP e)) (cA _ e))) hS' hacc⟩
end
theorem HG {α β:Type} {F:α->β->Prop}:∀{l₁:List α} {l₂:List β},l₁.length=l₂.length->(∀(i:Nat) (x:α) (y:β),l₁[i]?=some x->l₂[i]?=some y->F x y)->Paired F l₁ l₂
 | [],[],_,_=> .nil
 | x::xs,y::ys,h,f=> .cons (f 0 x y rfl rfl) (HG (by simpa using h) fun i a b ha hb=>f (i+1) a b (by simpa using ha) (by simpa using hb))
def lG (v d:Addr):HO:= .ext fun h=>h.IsValuesView v d
section
variable {X:Cx}
inductive aaU (Q:VK) (x:V) (H1:Hp):Prop
 | mk  (d kvs:_) (_:x = .ref d) (_:Rd H1 d (.dK kvs)) (_:∀v,H1 v=none->Q (.ref v) (upd H1 v (lG v d)))
def adH (td:TE):TE:=fun σ H Q=>td σ H (aaU Q)
inductive Wk (K:Fg) (H:Hp):V->(Hp->Prop)->List V->Prop
 | lst {l:Addr} {xs:List V}:aC K H l xs->Wk K H (.ref l) (fun H=>aC K H l xs) xs
 | tup {l:Addr} {xs:List V}:cR K H l xs->Wk K H (.ref l) (fun H=>cR K H l xs) xs
 | keys {d:Addr} {o:Obj} {kvs:List (Key×V)}:oN H d o kvs->Wk K H (.ref d) (fun H=>oN H d o kvs) (kvs.map fun p=>kV p.1)
 | vals {v d:Addr} {o:Obj} {kvs:List (Key×V)}:H v=some (lG v d)->oN H d o kvs->Wk K H (.ref v) (fun H=>oN H d o kvs) (kvs.map fun p=>p.2)
theorem Wk.ok {u:V} {S:Hp->Prop} (k:Wk X.K H u S xs) (I:Inv X pins σ H s) (r:RelV u uv):
  S H/\∃(l:Addr) (o:Obj) (p:Heap->Prop),l<s.heap.objs.size/\p s.heap/\(∀h (ob:Obj),p h->p (h.push ob))/\(∀h:Heap,(h.push o).get? h.objs.size=some o)/\KR X.prog X.w uv o p/\∀it:Addr,∃tn src,zR X.prog X.w X.K S xs it l tn src/\∀h:Heap,h.get? it=some o->tn 0 h:=by
 cases k with
 | @lst l xs hS=>
   cases r
   obtain ⟨its,rv,p,_⟩:=I.list hS
   obtain ⟨ol,eL,_⟩:=id p.isList
   refine ⟨hS,l,_,fun h=>h.IsList l its.toArray,bP eL,p.isList,fun h ob q=>q.push ob,fun h=>dY _ rfl,fun A E s Q q h=>Qt q h,fun it=>⟨_,_,VY,fun h e=>⟨_,e,Z,Z⟩⟩⟩
 | @tup l xs hS=>
   cases r
   obtain ⟨its,rv,p,_⟩:=I.tuple hS
   obtain ⟨ol,eL,q0⟩:=id p
   refine ⟨hS,l,_,fun h=>h.IsTuple l its.toArray,bP eL,p,fun h ob ⟨o1,a,b⟩=>⟨o1,cA _ a,b⟩,fun h=>dY _ rfl,fun A E s Q q h=>wpAny_pyIter_tuple q h,fun it=>⟨_,_,YB,fun h e=>⟨_,e,Z,Z⟩⟩⟩
 | @keys d o kvs hz=>
   cases r
   obtain ⟨ho,hl,hsys,vs,ep,rel,da⟩:=I.rC hz
   obtain ⟨o',es,h1,_,h2,_⟩:=id da
   rw [ho] at h1;cases h1
   have el:kvs.length=vs.length:=rel.length
   refine ⟨hz,d,_,fun h=>h.DictAt (c6 X.prog X.w) d vs ep,bP ho,da,fun h ob q=>q.push ob,fun h=>dY _ rfl,fun A E s Q q h=>wpAny_pyIter_dict hsys q h,fun it=>⟨_,_,VZ h2,fun h e=>?_⟩⟩
   rw [el]
   exact ⟨_,e,Z,Z⟩
 | @vals v d o kvs hv hz=>
   cases r
   obtain ⟨ho,hl,hsys,vs,ep,rel,da⟩:=I.rC hz
   obtain ⟨o',es,h1,_,h2,_⟩:=id da
   rw [ho] at h1;cases h1
   have el:kvs.length=vs.length:=rel.length
   obtain ⟨hv',_⟩:=(show dN X.prog X.w H s.heap v (lG v d) from I.hok v _ hv)
   refine ⟨hz,d,_,fun h=>h.IsValuesView v d/\h.DictAt (c6 X.prog X.w) d vs ep,bP ho,⟨hv',da⟩,fun h ob ⟨⟨o1,a,b⟩,q⟩=>⟨⟨o1,cA _ a,b⟩,q.push ob⟩,fun h=>dY _ rfl,fun A E s Q q h=>wpAny_pyIter_values q.1 q.2 h,fun it=>⟨_,_,V0 h2,fun h e=>?_⟩⟩
   rw [el]
   exact ⟨_,e,Z,Z⟩
variable {elts:List Expr} {kk:Nat} {tpos:Pos}
inductive aaV (K:Fg) (R:It->Hp->Prop) (vs:List V) (H1:Hp):Prop
 | mk  (u1 u2 S1 S2 xs ys:_) (_:vs=[u1,u2]) (_:Wk K H1 u1 S1 xs) (_:Wk K H1 u2 S2 ys) (_:R (aaT S1 S2 xs ys:_) H1)
def adI (K:Fg) (ta:TA):TI:=fun σ H R=>ta σ H (aaV K R)
theorem HJ (hc:X.calm=true):gQ X (.builtin "sum") (fun xs H Q=>∃(v d:Addr) (kvs:List (Key×V)) (ns:List Int),xs=[.ref v]/\H v=some (lG v d)/\Rd H d (.dK kvs)/\kvs.map (·.2)=ns.map V.int/\Q (.int ns.sum) H):=by
 intro pins s σ H xs us Q I r h
 obtain ⟨v,d,kvs,ns,rfl,hv,hz,en,q⟩:=h
 obtain ⟨u,rfl,ru⟩:=vals1 r
 cases ru
 obtain ⟨_,hsys,vs,rel,dd⟩:=rA I.hok hz
 obtain ⟨ep,da⟩:=dd.dictAt
 obtain ⟨hv',_⟩:=(show dN X.prog X.w H s.heap v (lG v d) from I.hok v _ hv)
 have hl:kvs.length=vs.length:=rel.length
 have hlt:=da.lt_size
 have hne:d≠s.heap.objs.size:=dP hlt
 have W:=(Walks.dictValues (prog:=X.prog) (w:=X.w) (A:=X.A.in1) (knd:=c6 X.prog X.w) (I.ok.hd hc) s.heap.objs.size d hne vs ep).toS
 have DY:kvs.length=ns.length:=by have:=ie List.length en;simpa using this
 refine call_sum_walkAnyS (wpAny_pyIter_values hv' da ?_)
 refine ⟨s.heap.objs.size,_,_,_,_,_,_,fun i=>ns.getD i 0,Z,W,⟨⟨_,dY _ rfl,Z,Z⟩,da.push _⟩,fun b hb=>?_,fun i x hP=>?_,fun s' t' hm=>?_⟩
 . rcases c_.mp hb with rfl|hb
   . exact bP (dY _ rfl)
   . obtain rfl:=fU.mp hb
     exact (da.push _).lt_size
 . obtain ⟨k,hk⟩:=hP
   have hil:i<ns.length:=by
    have:=(eF.mp hk).1
    omega
   have hik:i<kvs.length:=by omega
   obtain ⟨q',hq',_,rq⟩:=xh rel (aX hik)
   rw [hk] at hq'
   cases hq'
   have e1:kvs[i].2=V.int (ns.getD i 0):=by
    have:=ie (fun l=>l[i]?) en
    simp only [bJ,aX hik,aX hil] at this
    rw [i_,aX hil]
    exact iG this
   rw [e1] at rq
   exact rq
 . obtain ⟨h',g',d',tk',os'⟩:=s'
   have e1:g'=s.gens:=hm.gens
   have e2:d'=s.drawn:=hm.drawn
   have e3:os'=s.os:=hm.os
   subst e1 e2 e3
   have hsz:vs.length=ns.length:=by omega
   rw [hsz,preSum_getD,zj (aP _)]
   exact ⟨.int ns.sum,H,I.kept (h':=h') (t':=tk') fun b o e=>hm.heap b o (fun hb=>absurd (bP e) ((fU.mp hb)▸jl _)) (cA _ e),⟨t',Z⟩,q⟩
theorem Q5 (hc:X.calm=true):gQ X (.type "list") (fun xs H Q=>∃(d:Addr) (kvs:List (Key×V)),xs=[.ref d]/\Rd H d (.dK kvs)/\∀l,H l=none->Q (.ref l) (upd H l (.lst (kvs.map fun p=>kV p.1)))):=by
 intro pins s σ H xs us Q I r h
 obtain ⟨d,kvs,rfl,hz,q⟩:=h
 obtain ⟨u,rfl,ru⟩:=vals1 r
 cases ru
 obtain ⟨hsz,hsys,vs,rel,dd⟩:=rA I.hok hz
 obtain ⟨ep,da⟩:=dd.dictAt
 have hl:kvs.length=vs.length:=rel.length
 refine FZ (I.ok.hd hc) hsys da (by omega) fun h' tk acc' c' kp e it=>?_
 refine ⟨.ref s.heap.objs.size,_,I.laid (t':=tk) kp (aP _) (show dN X.prog X.w _ h' _ (.lst (kvs.map fun p=>kV p.1)) from ⟨by rw [aF];exact hsz,acc'.toList,c',?_,by rw [e]⟩),Z,q _ I.fresh⟩
 obtain ⟨sz,hit⟩:=it
 have hA:acc'.toList.length=acc'.size:=by simp
 have hB:(kvs.map fun p=>kV p.1).length=acc'.toList.length:=by rw [aF];omega
 refine HG hB fun i x y hx hy=>?_
 rw [bJ] at hx
 obtain ⟨p,hp,rfl⟩:=lP.mp hx
 obtain ⟨k,v,hk,hkk⟩:=hit i y (by simpa using hy)
 obtain ⟨q',hq',ek,_⟩:=xh rel hp
 rw [hk] at hq'
 cases hq'
 rw [ek]
 exact KQ hkk
end
def dZ:St->List Nat->List V->St
 | σ,k::ks,v::vs=>dZ (σ.set k (some v)) ks vs
 | σ,_,_=>σ
theorem D9 {k:Nat} {v:Option V}:∀{ks:List Nat} {vs:List V} {σ:St},k∉ks->(dZ σ ks vs).set k v=dZ (σ.set k v) ks vs
 | [],_,_,_=>by unfold dZ;rfl
 | _::_,[],_,_=>by unfold dZ;rfl
 | j::ks,w::vs,σ,h=>by
   have hj:k≠j:=fun e=>h (by rw [e];exact cJ)
   show (dZ (σ.set j (some w)) ks vs).set k v=dZ ((σ.set k v).set j (some w)) ks vs
   rw [D9 (fun m=>h (cG _ m)),List.set_comm _ _ hj]
theorem uu:∀{ks:List Nat} {vs ws:List V} {σ:St},ks.Nodup->vs.length=ks.length->ws.length=ks.length->dZ (dZ σ ks vs) ks ws=dZ σ ks ws
 | [],[],[],_,_,_,_=>rfl
 | k::ks,v::vs,w::ws,σ,nd,h1,h2=>by
   have nk:=(ia.mp nd).1
   show dZ ((dZ (σ.set k (some v)) ks vs).set k (some w)) ks ws=dZ (σ.set k (some w)) ks ws
   rw [D9 nk,vC,uu (ia.mp nd).2 (by simpa using h1) (by simpa using h2)]
def Xd:List Nat->DA
 | []=>ZP
 | k::ks=>WU (gc k) (Xd ks)
theorem KS {Q:St->Hp->Prop} {H:Hp}:∀{ks:List Nat} {vs:List V} {σ:St},vs.length=ks.length->Q (dZ σ ks vs) H->Xd ks vs σ H Q
 | [],[],_,_,q=>⟨Z,q⟩
 | k::ks,v::vs,σ,h,q=>⟨v,vs,Z,KS (by simpa using h) q⟩
theorem zS (ks:List Nat) {Q:VK} (Pv:Nat->List V->Hp->Prop) (nd:ks.Nodup) (hn:n<=100000) (h0:Pv 0 [] (upd H acc (.lst [])))
  (hgo:∀i out H1,i<n->H1 acc=some (.lst out)->Pv i out H1->J.go i H1) (hst:∀out H1,H1 acc=some (.lst out)->Pv n out H1->J.stop n H1)
  (hs:∀(i:Nat) (x:V) (out:List V) (H1 H2:Hp),i<n->out.length=i->H1 acc=some (.lst out)->Pv i out H1->J.DB i H1 x H2->
    ∃t vs,x = .ref t/\cR K H2 t vs/\vs.length=ks.length/\te (dZ σ2 ks vs) H2 (uo Pv i acc out))
  (hd:∀(out:List V) (H1:Hp),out.length=n->H1 acc=some (.lst out)->Pv n out H1->Q (.ref acc) H1):
  A8 J (Cr K ks.length (Xd ks)) te acc σ2 H Q:=by
 refine ⟨fun i m σ' H'=>m=n-i/\i<=n/\(∀ws,ws.length=ks.length->dZ σ' ks ws=dZ σ2 ks ws)/\∃out,out.length=i/\H' acc=some (.lst out)/\Pv i out H',⟨n,by simp,f_ _,fun _ _=>rfl,[],Z,aj,h0⟩,?_⟩
 rintro i m σ' H' ⟨rfl,hi,hσ,out,ho,ha,p⟩
 by_cases hlt:i<n
 . refine .inr ⟨hgo i out H' hlt ha p,fun σ3=>∀ws,ws.length=ks.length->dZ σ3 ks ws=dZ σ2 ks ws,(uo Pv i acc out),fun σ3 v H4 hS ⟨a,b⟩=>?_,fun x H1 y=>?_⟩
   . refine ⟨out,a,?_,n-(i+1),by omega,Z,hlt,hS,out++[v],by rw [di,ho];rfl,aj,b⟩
     have:sizeLine=16777216:=fu
     omega
   . obtain ⟨t,vs,rfl,sq,hl,q⟩:=hs i x out H' H1 hlt ho ha p y
     refine ⟨t,vs,Z,sq,hl,KS hl ⟨fun ws hw=>?_,?_⟩⟩
     . rw [uu nd hl hw];exact hσ ws hw
     . rw [hσ vs hl];exact q
 . have e:i=n:=by omega
   subst e
   exact .inl ⟨hst out H' ha p,hd out H' ho ha p⟩
theorem YC (ks:List Nat) {Q:VK} (Pv:Nat->List V->Hp->Prop) (nd:ks.Nodup) (hn:n<=100000) (h0:Pv 0 [] (upd H acc (.lst [])))
  (hgo:∀i out H1,i<n->H1 acc=some (.lst out)->Pv i out H1->J.go i H1) (hst:∀out H1,H1 acc=some (.lst out)->Pv n out H1->J.stop n H1)
  (hs:∀(i:Nat) (x:V) (out:List V) (H1 H2:Hp),i<n->out.length<=i->H1 acc=some (.lst out)->Pv i out H1->J.DB i H1 x H2->
    ∃t vs,x = .ref t/\cR K H2 t vs/\vs.length=ks.length/\tc (dZ σ2 ks vs) H2 (W6 te (dZ σ2 ks vs) Pv i acc out))
  (hd:∀(out:List V) (H1:Hp),out.length<=n->H1 acc=some (.lst out)->Pv n out H1->Q (.ref acc) H1):
  D6 J (Cr K ks.length (Xd ks)) tc te acc σ2 H Q:=by
 refine ⟨fun i m σ' H'=>m=n-i/\i<=n/\(∀ws,ws.length=ks.length->dZ σ' ks ws=dZ σ2 ks ws)/\∃out,out.length<=i/\H' acc=some (.lst out)/\Pv i out H',⟨n,by simp,f_ _,fun _ _=>rfl,[],aP _,aj,h0⟩,?_⟩
 rintro i m σ' H' ⟨rfl,hi,hσ,out,ho,ha,p⟩
 by_cases hlt:i<n
 . refine .inr ⟨hgo i out H' hlt ha p,fun σ3=>∀ws,ws.length=ks.length->dZ σ3 ks ws=dZ σ2 ks ws,(uo Pv i acc out),fun H3=>H3 acc=some (.lst out)/\Pv (i+1) out H3,fun σ3 v H4 hS ⟨a,b⟩=>?_,fun σ3 H4 hS ⟨a,b⟩=>?_,fun x H1 y=>?_⟩
   . refine ⟨out,a,?_,n-(i+1),by omega,Z,hlt,hS,out++[v],by rw [di];exact Nat.succ_le_succ ho,aj,b⟩
     have:sizeLine=16777216:=fu
     omega
   . exact ⟨n-(i+1),by omega,Z,hlt,hS,out,by omega,a,b⟩
   . obtain ⟨t,vs,rfl,sq,hl,q⟩:=hs i x out H' H1 hlt ho ha p y
     refine ⟨t,vs,Z,sq,hl,KS hl ⟨fun ws hw=>?_,?_⟩⟩
     . rw [uu nd hl hw];exact hσ ws hw
     . rw [hσ vs hl];exact q
 . have e:i=n:=by omega
   subst e
   exact .inl ⟨hst out H' ha p,hd out H' ho ha p⟩
theorem iR (k:Nat) {Q:VK} (Pv:Nat->List V->Hp->Prop) (hn:n<=100000) (h0:Pv 0 [] (upd H acc (.lst [])))
  (hgo:∀i out H1,i<n->H1 acc=some (.lst out)->Pv i out H1->J.go i H1) (hst:∀out H1,H1 acc=some (.lst out)->Pv n out H1->J.stop n H1)
  (hs:∀(i:Nat) (x:V) (out:List V) (H1 H2:Hp),i<n->out.length=i->H1 acc=some (.lst out)->Pv i out H1->J.DB i H1 x H2->
    te (σ2.set k (some x)) H2 (uo Pv i acc out))
  (hd:∀(out:List V) (H1:Hp),out.length=n->H1 acc=some (.lst out)->Pv n out H1->Q (.ref acc) H1):
  A8 J (gc k) te acc σ2 H Q:=by
 refine ⟨fun i m σ' H'=>m=n-i/\i<=n/\(∀w:Option V,σ'.set k w=σ2.set k w)/\∃out,out.length=i/\H' acc=some (.lst out)/\Pv i out H',⟨n,by simp,f_ _,fun _=>rfl,[],Z,aj,h0⟩,?_⟩
 rintro i m σ' H' ⟨rfl,hi,hσ,out,ho,ha,p⟩
 by_cases hlt:i<n
 . refine .inr ⟨hgo i out H' hlt ha p,fun σ3=>∀w:Option V,σ3.set k w=σ2.set k w,(uo Pv i acc out),fun σ3 v H4 hS ⟨a,b⟩=>?_,fun x H1 y=>?_⟩
   . refine ⟨out,a,?_,n-(i+1),by omega,Z,hlt,hS,out++[v],by rw [di,ho];rfl,aj,b⟩
     have:sizeLine=16777216:=fu
     omega
   . refine ⟨fun w=>by rw [vC];exact hσ w,?_⟩
     rw [hσ]
     exact hs i x out H' H1 hlt ho ha p y
 . have e:i=n:=by omega
   subst e
   exact .inl ⟨hst out H' ha p,hd out H' ho ha p⟩
theorem F0 (k:Nat) {Q:VK} (Pv:Nat->List V->Hp->Prop) (hn:n<=100000) (h0:Pv 0 [] (upd H acc (.lst [])))
  (hgo:∀i out H1,i<n->H1 acc=some (.lst out)->Pv i out H1->J.go i H1) (hst:∀out H1,H1 acc=some (.lst out)->Pv n out H1->J.stop n H1)
  (hs:∀(i:Nat) (x:V) (out:List V) (H1 H2:Hp),i<n->out.length<=i->H1 acc=some (.lst out)->Pv i out H1->J.DB i H1 x H2->
    tc (σ2.set k (some x)) H2 (W6 te (σ2.set k (some x)) Pv i acc out))
  (hd:∀(out:List V) (H1:Hp),out.length<=n->H1 acc=some (.lst out)->Pv n out H1->Q (.ref acc) H1):
  D6 J (gc k) tc te acc σ2 H Q:=by
 refine ⟨fun i m σ' H'=>m=n-i/\i<=n/\(∀w:Option V,σ'.set k w=σ2.set k w)/\∃out,out.length<=i/\H' acc=some (.lst out)/\Pv i out H',⟨n,by simp,f_ _,fun _=>rfl,[],aP _,aj,h0⟩,?_⟩
 rintro i m σ' H' ⟨rfl,hi,hσ,out,ho,ha,p⟩
 by_cases hlt:i<n
 . refine .inr ⟨hgo i out H' hlt ha p,fun σ3=>∀w:Option V,σ3.set k w=σ2.set k w,(uo Pv i acc out),fun H3=>H3 acc=some (.lst out)/\Pv (i+1) out H3,fun σ3 v H4 hS ⟨a,b⟩=>?_,fun σ3 H4 hS ⟨a,b⟩=>?_,fun x H1 y=>?_⟩
   . refine ⟨out,a,?_,n-(i+1),by omega,Z,hlt,hS,out++[v],by rw [di];exact Nat.succ_le_succ ho,aj,b⟩
     have:sizeLine=16777216:=fu
     omega
   . exact ⟨n-(i+1),by omega,Z,hlt,hS,out,by omega,a,b⟩
   . refine ⟨fun w=>by rw [vC];exact hσ w,?_⟩
     rw [hσ]
     exact hs i x out H' H1 hlt ho ha p y
 . have e:i=n:=by omega
   subst e
   exact .inl ⟨hst out H' ha p,hd out H' ho ha p⟩
structure Mn (P:Program) (w:World) (K:Fg) (mg:SO) (base:Heap) (k:Nat) (C:Addr) (m:Str) (ps:List Str) (sp:Sp):Prop where
 ex:∃f fd,iA P w K mg base tM k f fd ps sp/\Binds K fd ps []/\Meth K C m f/\oJ K C
structure Cn (P:Program) (w:World) (K:Fg) (mg:SO) (base:Heap) (k:Nat) (x:Str) (C:Addr) (ps:List Str) (sp:Sp):Prop where
 ex:∃f fd,iA P w K mg base tM k f fd ps sp/\Binds K fd ps []/\Mk K C f/\mg x=some (.ref C)
section
variable {X:Cx}
inductive adJ (x:V) (y:V) (H:Hp) (Q:VK):Prop
 | mk  (i j:_) (_:x = .int i) (_:y = .int j) (_:QT i j) (_:Q (.int (i*j)) H)
theorem YD:Kh X .Mult adJ:=by
 rintro pins s σ H x y u v Q I rx ry ⟨i,j,rfl,rfl,⟨m,n,h1,h2,h3⟩,q⟩
 obtain ⟨t,rfl⟩:=(show ∃t,u=Value.int i t from rx)
 obtain ⟨t',rfl⟩:=(show ∃t',v=Value.int j t' from ry)
 exact PyProof.Rows.imul_int ⟨.int (i*j),H,I.tok _,⟨_,Z⟩,q⟩ (IntMulOk.of_le (Ql.mpr h1) (Ql.mpr h2) h3)
end
structure iS (K:Fg) (C:Addr) (m qual:Str) (st:Stmt) (f:Addr) (fd:FuncData):Prop where
 fn:Hy K m qual st f fd
 me:Meth K C m f
 cl:oJ K C
variable {mg:SO} {base:Heap} {C f:Addr} {qual:Str} {fd:FuncData} {N ps:List Str} {sp:Sp}
theorem iS.ok {w:World} {m:Str} {st:Stmt} {k:Nat} (F:iS K C m qual st f fd) (S:aJ N ps (ay st)) (len:∀vs H Q E,sp vs H Q E->vs.length=ps.length)
  (hbody:∀(cdv:Value) (A:Around) (outer:List Env) (s:Shared) (H:Hp) (vs:List V) (Q:VK) (E:XK),dD k (A.deeper (envOfC qual (ay st) s.heap.objs.size f cdv))->sp vs H Q E->
    ∃t,qp (cN tM P w K mg base N qual (ay st) f cdv A outer s H E).BI (cE st) t/\t { nx:=fun _ H'=>Q .bZ H',rt:=Q } (start N vs) H)
  (h:∀(kV doc pm:Value) (an:Option Addr) (cdv ct:Value) (us:List Value),us.length=ps.length->bindArgs (PySem.W.fnOf m qual (dW st) (cE st) (ay st) .none kV doc pm an cdv ct) ⟨us,[]⟩=pure (ps.zip us)):
  Mn P w K mg base (k+1) C m ps sp:=⟨f,fd,F.fn.ok S len hbody,F.fn.binds h,F.me,F.cl⟩
structure HK (K:Fg) (mg:SO) (x:Str) (C:Addr) (qual:Str) (st:Stmt) (f:Addr) (fd:FuncData):Prop where
 fn:Hy K "__init__" qual st f fd
 mks:Mk K C f
 name:mg x=some (.ref C)
theorem HK.ok {w:World} {st:Stmt} {k:Nat} (F:HK K mg x C qual st f fd) (S:aJ N ps (ay st)) (len:∀vs H Q E,sp vs H Q E->vs.length=ps.length)
  (hbody:∀(cdv:Value) (A:Around) (outer:List Env) (s:Shared) (H:Hp) (vs:List V) (Q:VK) (E:XK),dD k (A.deeper (envOfC qual (ay st) s.heap.objs.size f cdv))->sp vs H Q E->
    ∃t,qp (cN tM P w K mg base N qual (ay st) f cdv A outer s H E).BI (cE st) t/\t { nx:=fun _ H'=>Q .bZ H',rt:=Q } (start N vs) H)
  (h:∀(kV doc pm:Value) (an:Option Addr) (cdv ct:Value) (us:List Value),us.length=ps.length->bindArgs (PySem.W.fnOf "__init__" qual (dW st) (cE st) (ay st) .none kV doc pm an cdv ct) ⟨us,[]⟩=pure (ps.zip us)):
  Cn P w K mg base (k+1) x C ps sp:=⟨f,fd,F.fn.ok S len hbody,F.fn.binds h,F.mks,F.name⟩
abbrev tN:=Nat×Nat×Str
abbrev fR:=Addr->Option tN
abbrev col (n t:Nat):Option tN:=some (n,t,(⟨#[]⟩:Str))
def isTup:HO->Bool
 | .tup _=>true
 | _=>false
def Gh (ρ:fR) (H:Hp):Prop:=∀b c,ρ b=some c->∃o,H b=some o/\isTup o=false
def Fr (n:Nat) (ρ:fR) (H:Hp) (ρ':fR) (H':Hp):Prop:=∀b o,H b=some o->(∀t x,ρ b≠some (n,t,x))->H' b=some o/\ρ' b=ρ b
def cK (ρ:fR) (a:Addr) (c:tN):fR:=fun b=>if b=a then some c else ρ b
variable {ρ:fR}
theorem dM {c:tN}:cK ρ a c a=some c:=aB rfl
theorem cy {b:Addr} {c:tN} (h:b≠a):cK ρ a c b=ρ b:=az h
def out (ρ:fR) (H:Hp):Hp:=fun b=>if ρ b=none then H b else none
variable {o:HO}
theorem D_ {b:Addr} (h:H b=some o) (c:ρ b=none):out ρ H b=some o:=by
 unfold out;rw [aB c];exact h
theorem yd {b:Addr} (h:out ρ H b=some o):H b=some o/\ρ b=none:=by
 unfold out at h
 split at h
 . next c=>exact ⟨h,c⟩
 . cases h
theorem Gh.none (g:Gh ρ H) {b:Addr} (h:H b=Option.none):ρ b=Option.none:=by
 cases e:ρ b with
 | none=>rfl
 | some c=>obtain ⟨o,q,_⟩:=g b c e;rw [h] at q;cases q
theorem Gh.tup {ρ:fR} {H:Hp} (g:Gh ρ H) {b:Addr} {xs:List V} (h:H b=some (.tup xs)):ρ b=Option.none:=by
 cases e:ρ b with
 | none=>rfl
 | some c=>obtain ⟨o,q,t⟩:=g b c e;rw [h] at q;cases q;cases t
theorem Gh.same (g:Gh ρ H) (s:aE H H'):Gh ρ H':=fun b c e=>let ⟨o,h,t⟩:=g b c e;⟨o,s b o h,t⟩
theorem Gh.wr (g:Gh ρ H) (t:isTup o=false):Gh ρ (upd H a o):=fun b c e=>by
 by_cases h:b=a
 . rw [h,aj];exact ⟨o,Z,t⟩
 . rw [av h];exact g b c e
theorem Gh.alloc (g:Gh ρ H) (h:H a=Option.none):Gh ρ (upd H a o):=g.same (aA h o)
theorem Gh.color (g:Gh ρ H) {c:tN} (h:H a=some o) (t:isTup o=false):Gh (cK ρ a c) H:=fun b d e=>by
 by_cases z:b=a
 . rw [z];exact ⟨o,h,t⟩
 . rw [cy z] at e;exact g b d e
theorem Fr.refl:Fr n ρ H ρ H:=fun _ _ h _=>⟨h,Z⟩
variable {H1 H2:Hp}
theorem Fr.trans {ρ1 ρ2:fR} (a:Fr n ρ H ρ1 H1) (b:Fr n ρ1 H1 ρ2 H2):Fr n ρ H ρ2 H2:=fun c o h k=>by
 obtain ⟨h1,e1⟩:=a c o h k
 obtain ⟨h2,e2⟩:=b c o h1 (by rw [e1];exact k)
 exact ⟨h2,e2.trans e1⟩
theorem Fr.of_same (s:aE H H'):Fr n ρ H ρ H':=fun b o h _=>⟨s b o h,Z⟩
theorem Fr.write (c:ρ a=some (n,t,x)):Fr n ρ H ρ (upd H a o):=fun b u h k=>by
 have:b≠a:=fun e=>k t x (by rw [e];exact c)
 rw [av this];exact ⟨h,Z⟩
theorem Fr.color {c:tN} (h:H a=none) (s:aE H H'):Fr n ρ H (cK ρ a c) H':=fun b u e k=>by
 rw [cy (aI e h)];exact ⟨s b u e,Z⟩
variable {ρ':fR}
theorem Fr.out (f:Fr n ρ H ρ' H'):aE (out ρ H) (out ρ' H'):=fun b o h=>by
 obtain ⟨h1,c⟩:=yd h
 obtain ⟨h2,e⟩:=f b o h1 (fun t x=>by rw [c];intro z;cases z)
 exact D_ h2 (e.trans c)
theorem iT (s:aE H H'):aE (out ρ H) (out ρ H'):=fun b o h=>by
 obtain ⟨h1,c⟩:=yd h
 exact D_ (s b o h1) c
structure Pt where
 nm:Str
 ow:Str
 wo:Int
 we:Int
 sc:Int
 row:List Int
structure qt where
 nm:Str
 ow:Str
 wo:Int
 sh:List (Str×Rat)
structure HS where
 own:List Str
 ai:List Pt
 kj:List qt
 nms:List Str
 stp:List Int
 prod:Int
 kn:Nat
 bR:List Int
 dg:List Int
structure HA where
 a:Addr
 dx:Addr
 pl:Addr
 ab:Addr
 as:Addr
 nm:Addr
 bt:Addr
 db:Addr
 cm:Addr
 pu:Addr
 sp:Addr
 kn:Addr
 qs:List (Addr×Addr×Addr)
structure TC where
 hold:Addr
 part:Addr
 bot:Addr
def fK:Nat->List Str->List (Key×V)
 | _,[]=>[]
 | i,o::r=>(Sum.inr o, .int i)::fK (i+1) r
def cX (ps:List Pt) (qs:List (Addr×Addr×Addr)):List (Key×V):=List.zipWith (fun p q=>((Sum.inr p.nm:Key),V.ref q.1)) ps qs
def xj (l:List Str):List (Key×V):=l.map fun x=>(Sum.inr x, .bl true)
def mX (A:HA):List (Str×V):=[("places", .ref A.pl),("aboard", .ref A.ab),("ashore", .ref A.as),("names", .ref A.nm),("bottom", .ref A.bt),("common", .ref A.cm),("purses", .ref A.pu)]
def lU (p:Pt) (r:Addr):List (Str×V):=[("name", .str p.nm),("owner", .str p.ow),("worth", .int p.wo),("weight", .int p.we),("scale", .int p.sc),("row", .ref r)]
def ye (sp:Addr) (prod:Int) (kn:Addr):List (Str×V):=[("steps", .ref sp),("product", .int prod),("known", .ref kn)]
def KU (H:Hp) (kvs:List (Key×V)) (prod:Int):Prop:=∀p∈kvs,∃(t:Int) (r:Addr),p=(Sum.inl t,V.ref r)/\H r=some (pG (Jm.fr t prod))
inductive ja (H:Hp):List V->List (Str×Rat)->Prop
 | nil:ja H [] []
 | cons {r f:Addr} {x:Str} {q:Rat} {vs:List V} {l:List (Str×Rat)}:H r=some (.tup [.str x, .ref f])->H f=some (pG q)->ja H vs l->ja H (.ref r::vs) ((x,q)::l)
inductive pK (n:Nat) (ρ:fR) (H:Hp):List V->List qt->Prop
 | nil:pK n ρ H [] []
 | cons {r l:Addr} {x:qt} {ss:List V} {vs:List V} {as:List qt}:H r=some (.tup [.str x.nm, .str x.ow, .int x.wo, .ref l])->H l=some (.lst ss)->ρ l=some (n,30,x.nm)->ja H ss x.sh->pK n ρ H vs as->pK n ρ H (.ref r::vs) (x::as)
structure aY (T:TC) (n:Nat) (ρ:fR) (A:HA) (H:Hp) (st:HS):Prop where
 oa:H A.a=some (.ins T.hold A.dx (mX A))
 ca:ρ A.a=col n 0
 i8:H A.pl=some (.dK (fK 0 st.own))
 jJ:ρ A.pl=col n 1
 ef:H A.ab=some (.dK (cX st.ai A.qs))
 gO:ρ A.ab=col n 2
 vG:∃vs,H A.as=some (.lst vs)/\pK n ρ H vs st.kj
 ko:ρ A.as=col n 3
 uw:H A.nm=some (.dK (xj st.nms))
 jW:ρ A.nm=col n 4
 oO:H A.bt=some (.ins T.bot A.db (ye A.sp st.prod A.kn))
 jX:ρ A.bt=col n 5
 jY:H A.cm=some (.lst (st.bR.map V.int))
 kP:ρ A.cm=col n 6
 qu:H A.pu=some (.lst (st.dg.map V.int))
 cpu:ρ A.pu=col n 7
 tO:H A.sp=some (.lst (st.stp.map V.int))
 jZ:ρ A.sp=col n 8
 okn:∃kvs,H A.kn=some (.dK kvs)/\KU H kvs st.prod/\kvs.length<=st.kn/\(kvs.map (·.1)).Nodup
 j0:ρ A.kn=col n 9
 ql:A.qs.length=st.ai.length
 opt:∀(i:Nat) (p:Pt) (q:Addr×Addr×Addr),st.ai[i]?=some p->A.qs[i]?=some q->H q.1=some (.ins T.part q.2.1 (lU p q.2.2))/\H q.2.2=some (.lst (p.row.map V.int))/\ρ q.1=some (n,20,p.nm)/\ρ q.2.2=some (n,21,p.nm)
theorem Ea {b:Addr} {c d:tN} (ha:ρ a=some c) (hb:ρ b=some d) (h:c≠d):a≠b:=fun e=>by
 rw [e,hb] at ha;cases ha;exact h rfl
theorem BV {b:Addr} {c:tN} (ha:ρ a=none) (hb:ρ b=some c):a≠b:=fun e=>by rw [e,hb] at ha;cases ha
variable {vs:List V}
theorem ja.mono {l:List (Str×Rat)} (h:ja H vs l) (g:∀b xs,H b=some (.tup xs)->H' b=some (.tup xs)):ja H' vs l:=by
 induction h with
 | nil=>exact .nil
 | cons a b _ ih=>exact .cons (g _ _ a) (g _ _ b) ih
def Kp (n:Nat) (ρ ρ':fR) (H H':Hp) (ts:Nat->Bool):Prop:=(∀b xs,H b=some (.tup xs)->H' b=some (.tup xs))/\∀b t x o,ts t=true->ρ b=some (n,t,x)->H b=some o->H' b=some o/\ρ' b=some (n,t,x)
variable {ts:Nat->Bool}
theorem pK.keep {l:List qt} (h:pK n ρ H vs l) (k:Kp n ρ ρ' H H' ts) (e:ts 30=true):pK n ρ' H' vs l:=by
 induction h with
 | nil=>exact .nil
 | cons a b c d _ ih=>exact .cons (k.1 _ _ a) (k.2 _ _ _ _ e c b).1 (k.2 _ _ _ _ e c b).2 (d.mono k.1) ih
theorem fE (g:Gh ρ H) (c:ρ a=some (n,t,x)):Kp n ρ ρ H (upd H a o) (fun u=>decide (u≠t)):=by
 refine ⟨fun b xs h=>?_,fun b u y w hu hc h=>⟨?_,hc⟩⟩
 . rw [av (BV (g.tup h) c)];exact h
 . rw [av (Ea hc c (fun e=>by cases e;exact absurd hu (by simp)))];exact h
theorem kz (k:Kp n ρ ρ' H H' ts) {b:Addr} (c:ρ b=some (n,t,x)) (e:H b=some o) (u:ts t=true:=by decide):H' b=some o:=(k.2 b t x o u c e).1
theorem OX (s:aE H H'):Kp n ρ ρ H H' ts:=⟨fun b xs h=>s _ _ h,fun b u y w _ hc h=>⟨s _ _ h,hc⟩⟩
variable {T:TC} {st:HS}
theorem aY.same {A:HA} (h:aY T n ρ A H st) (k:Kp n ρ ρ' H H' fun _=>true):aY T n ρ' A H' st:=by
 have z:=fun {b:Addr} {t:Nat} {x:Str} {o:HO} (c:ρ b=some (n,t,x)) (e:H b=some o)=>k.2 b t x o rfl c e
 obtain ⟨vs,h1,h2⟩:=h.vG
 obtain ⟨kvs,k1,k2,k3⟩:=h.okn
 exact ⟨(z h.ca h.oa).1,(z h.ca h.oa).2,(z h.jJ h.i8).1,(z h.jJ h.i8).2,(z h.gO h.ef).1,(z h.gO h.ef).2,⟨vs,(z h.ko h1).1,h2.keep k rfl⟩,(z h.ko h1).2,(z h.jW h.uw).1,(z h.jW h.uw).2,(z h.jX h.oO).1,(z h.jX h.oO).2,
  (z h.kP h.jY).1,(z h.kP h.jY).2,(z h.cpu h.qu).1,(z h.cpu h.qu).2,(z h.jZ h.tO).1,(z h.jZ h.tO).2,⟨kvs,(z h.j0 k1).1,fun p hp=>let ⟨t,r,e,q⟩:=k2 p hp;⟨t,r,e,k.1 _ _ q⟩,k3⟩,(z h.j0 k1).2,h.ql,
  fun i p q e1 e2=>let ⟨a,b,c,d⟩:=h.opt i p q e1 e2;⟨(z c a).1,(z d b).1,(z c a).2,(z d b).2⟩⟩
theorem aY.mono {A:HA} (h:aY T n ρ A H st) (s:aE H H'):aY T n ρ A H' st:=h.same (OX s)
theorem aY.other {A:HA} (h:aY T m ρ A H st) (f:Fr n ρ H ρ' H') (g:Gh ρ H) (e:m≠n):aY T m ρ' A H' st:=
 h.same ⟨fun b xs q=>(f b _ q fun t x=>by rw [g.tup q];intro z;cases z).1,fun b t x o _ c q=>by
   obtain ⟨a,b'⟩:=f b o q fun t' x'=>by rw [c];intro z;cases z;exact e rfl
   exact ⟨a,b'.trans c⟩⟩
theorem F_ {p0 p1:Pt}:∀{ps:List Pt} {qs:List (Addr×Addr×Addr)} {i:Nat},ps[i]?=some p0->p1.nm=p0.nm->cX (ps.set i p1) qs=cX ps qs
 | [],_,_,h,_=>by simp at h
 | _::_,[],_,_,_=>by simp [cX]
 | p::ps,q::qs,0,h,e=>by
   have:p=p0:=by simpa using h
   simp [cX,e,this]
 | p::ps,q::qs,i+1,h,e=>by
   have:=F_ (qs:=qs) (by simpa using h:ps[i]?=some p0) e
   simp only [cX,J5,v5] at this ⊢
   rw [this]
variable {j:Nat} {p:Pt}
theorem KW {ps:List Pt} (nd:(ps.map (·.nm)).Nodup) {q:Pt} (h1:ps[i]?=some p) (h2:ps[j]?=some q) (e:p.nm=q.nm):i=j:=by
 have a:(ps.map (·.nm))[i]?=some p.nm:=by rw [bJ,h1];rfl
 have b:(ps.map (·.nm))[j]?=some p.nm:=by rw [bJ,h2,e];rfl
 exact x9 nd a b
variable {p0:Pt} {q0:Addr×Addr×Addr}
theorem YE {A:HA} (h:aY T n ρ A H st) (k:Kp n ρ ρ H H' ts) (nd:(st.ai.map (·.nm)).Nodup) {p1:Pt} (ep:st.ai[i]?=some p0) (eq:A.qs[i]?=some q0) (e1:p1.nm=p0.nm)
  (hw:H' q0.1=some (.ins T.part q0.2.1 (lU p1 q0.2.2))) (hs:∀{b:Addr} {t:Nat} {x:Str} {o:HO},ρ b=some (n,t,x)->t≠20\/x≠p0.nm->H b=some o->H' b=some o) (er:(.lst (p0.row.map V.int):HO) = .lst (p1.row.map V.int)):
  ∀(j:Nat) (p:Pt) (q:Addr×Addr×Addr),(st.ai.set i p1)[j]?=some p->A.qs[j]?=some q->H' q.1=some (.ins T.part q.2.1 (lU p q.2.2))/\H' q.2.2=some (.lst (p.row.map V.int))/\ρ q.1=some (n,20,p.nm)/\ρ q.2.2=some (n,21,p.nm):=by
 intro j p q ej eq'
 by_cases hj:i=j
 . subst hj
   rw [eq] at eq';cases eq'
   rw [ue (eF.mp ep).1] at ej
   cases ej
   obtain ⟨a,b,c,d⟩:=h.opt i p0 q0 ep eq
   exact ⟨hw,by rw [<-er];exact hs d (.inl (by decide)) b,by rw [e1];exact c,by rw [e1];exact d⟩
 . rw [zm hj] at ej
   obtain ⟨a,b,c,d⟩:=h.opt j p q ej eq'
   exact ⟨hs c (.inr fun e=>hj (KW nd ep ej e.symm)) a,hs d (.inl (by decide)) b,c,d⟩
theorem V3 {A:HA} (h:aY T n ρ A H st) (nd:(st.ai.map (·.nm)).Nodup) {l:List Int} (ep:st.ai[i]?=some p0) (eq:A.qs[i]?=some q0)
  (hw:H' q0.2.2=some (.lst (l.map V.int))) (hs:∀{b:Addr} {t:Nat} {x:Str} {o:HO},ρ b=some (n,t,x)->t≠21\/x≠p0.nm->H b=some o->H' b=some o):
  ∀(j:Nat) (p:Pt) (q:Addr×Addr×Addr),(st.ai.set i { p0 with row:=l })[j]?=some p->A.qs[j]?=some q->H' q.1=some (.ins T.part q.2.1 (lU p q.2.2))/\H' q.2.2=some (.lst (p.row.map V.int))/\ρ q.1=some (n,20,p.nm)/\ρ q.2.2=some (n,21,p.nm):=by
 intro j p q ej eq'
 by_cases hj:i=j
 . subst hj
   rw [eq] at eq';cases eq'
   rw [ue (eF.mp ep).1] at ej
   cases ej
   obtain ⟨a,b,c,d⟩:=h.opt i p0 q0 ep eq
   exact ⟨hs c (.inl (by decide)) a,hw,c,d⟩
 . rw [zm hj] at ej
   obtain ⟨a,b,c,d⟩:=h.opt j p q ej eq'
   exact ⟨hs c (.inl (by decide)) a,hs d (.inr fun e=>hj (KW nd ep ej e.symm)) b,c,d⟩
theorem HL (c:ρ a=some (n,t,x)):∀{b:Addr} {u:Nat} {y:Str} {w:HO},ρ b=some (n,u,y)->u≠t\/y≠x->H b=some w->upd H a o b=some w:=fun {b u y w} hc hu h=>by
 rw [av (Ea hc c (fun e=>by cases e;rcases hu with z|z <;> exact z rfl))];exact h
theorem aY.aaW {A:HA} (h:aY T n ρ A H st) (g:Gh ρ H) (l:List Str):aY T n ρ A (upd H A.pl (.dK (fK 0 l))) { st with own:=l }:=by
 have k:=fE (o:= .dK (fK 0 l)) g h.jJ
 obtain ⟨vs,h1,h2⟩:=h.vG
 obtain ⟨kvs,k1,k2,k3⟩:=h.okn
 exact ⟨kz k h.ca h.oa,h.ca,aj,h.jJ,kz k h.gO h.ef,h.gO,⟨vs,kz k h.ko h1,h2.keep k (by decide)⟩,h.ko,kz k h.jW h.uw,h.jW,kz k h.jX h.oO,h.jX,kz k h.kP h.jY,h.kP,kz k h.cpu h.qu,h.cpu,kz k h.jZ h.tO,h.jZ,⟨kvs,kz k h.j0 k1,fun p hp=>let ⟨t,r,e,q⟩:=k2 p hp;⟨t,r,e,k.1 _ _ q⟩,k3⟩,h.j0,h.ql,fun i p q e1 e2=>let ⟨a,b,c,d⟩:=h.opt i p q e1 e2;⟨kz k c a,kz k d b,c,d⟩⟩
theorem aY.Td {A:HA} (h:aY T n ρ A H st) (g:Gh ρ H) (ps:List Pt) (qs:List (Addr×Addr×Addr)) (el:qs.length=ps.length) (hp:∀(i:Nat) (p:Pt) (q:Addr×Addr×Addr),ps[i]?=some p->qs[i]?=some q->H q.1=some (.ins T.part q.2.1 (lU p q.2.2))/\H q.2.2=some (.lst (p.row.map V.int))/\ρ q.1=some (n,20,p.nm)/\ρ q.2.2=some (n,21,p.nm)):aY T n ρ { A with qs:=qs } (upd H A.ab (.dK (cX ps qs))) { st with ai:=ps }:=by
 have k:=fE (o:= .dK (cX ps qs)) g h.gO
 obtain ⟨vs,h1,h2⟩:=h.vG
 obtain ⟨kvs,k1,k2,k3⟩:=h.okn
 exact ⟨kz k h.ca h.oa,h.ca,kz k h.jJ h.i8,h.jJ,aj,h.gO,⟨vs,kz k h.ko h1,h2.keep k (by decide)⟩,h.ko,kz k h.jW h.uw,h.jW,kz k h.jX h.oO,h.jX,kz k h.kP h.jY,h.kP,kz k h.cpu h.qu,h.cpu,kz k h.jZ h.tO,h.jZ,⟨kvs,kz k h.j0 k1,fun p hp=>let ⟨t,r,e,q⟩:=k2 p hp;⟨t,r,e,k.1 _ _ q⟩,k3⟩,h.j0,el,fun i p q e1 e2=>let ⟨a,b,c,d⟩:=hp i p q e1 e2;⟨kz k c a,kz k d b,c,d⟩⟩
theorem aY.aaX {A:HA} (h:aY T n ρ A H st) (g:Gh ρ H) (l:List Str):aY T n ρ A (upd H A.nm (.dK (xj l))) { st with nms:=l }:=by
 have k:=fE (o:= .dK (xj l)) g h.jW
 obtain ⟨vs,h1,h2⟩:=h.vG
 obtain ⟨kvs,k1,k2,k3⟩:=h.okn
 exact ⟨kz k h.ca h.oa,h.ca,kz k h.jJ h.i8,h.jJ,kz k h.gO h.ef,h.gO,⟨vs,kz k h.ko h1,h2.keep k (by decide)⟩,h.ko,aj,h.jW,kz k h.jX h.oO,h.jX,kz k h.kP h.jY,h.kP,kz k h.cpu h.qu,h.cpu,kz k h.jZ h.tO,h.jZ,⟨kvs,kz k h.j0 k1,fun p hp=>let ⟨t,r,e,q⟩:=k2 p hp;⟨t,r,e,k.1 _ _ q⟩,k3⟩,h.j0,h.ql,fun i p q e1 e2=>let ⟨a,b,c,d⟩:=h.opt i p q e1 e2;⟨kz k c a,kz k d b,c,d⟩⟩
theorem aY.aaY {A:HA} (h:aY T n ρ A H st) (g:Gh ρ H) (l:List Int):aY T n ρ A (upd H A.cm (.lst (l.map V.int))) { st with bR:=l }:=by
 have k:=fE (o:= .lst (l.map V.int)) g h.kP
 obtain ⟨vs,h1,h2⟩:=h.vG
 obtain ⟨kvs,k1,k2,k3⟩:=h.okn
 exact ⟨kz k h.ca h.oa,h.ca,kz k h.jJ h.i8,h.jJ,kz k h.gO h.ef,h.gO,⟨vs,kz k h.ko h1,h2.keep k (by decide)⟩,h.ko,kz k h.jW h.uw,h.jW,kz k h.jX h.oO,h.jX,aj,h.kP,kz k h.cpu h.qu,h.cpu,kz k h.jZ h.tO,h.jZ,⟨kvs,kz k h.j0 k1,fun p hp=>let ⟨t,r,e,q⟩:=k2 p hp;⟨t,r,e,k.1 _ _ q⟩,k3⟩,h.j0,h.ql,fun i p q e1 e2=>let ⟨a,b,c,d⟩:=h.opt i p q e1 e2;⟨kz k c a,kz k d b,c,d⟩⟩
theorem aY.aaZ {A:HA} (h:aY T n ρ A H st) (g:Gh ρ H) (l:List Int):aY T n ρ A (upd H A.pu (.lst (l.map V.int))) { st with dg:=l }:=by
 have k:=fE (o:= .lst (l.map V.int)) g h.cpu
 obtain ⟨vs,h1,h2⟩:=h.vG
 obtain ⟨kvs,k1,k2,k3⟩:=h.okn
 exact ⟨kz k h.ca h.oa,h.ca,kz k h.jJ h.i8,h.jJ,kz k h.gO h.ef,h.gO,⟨vs,kz k h.ko h1,h2.keep k (by decide)⟩,h.ko,kz k h.jW h.uw,h.jW,kz k h.jX h.oO,h.jX,kz k h.kP h.jY,h.kP,aj,h.cpu,kz k h.jZ h.tO,h.jZ,⟨kvs,kz k h.j0 k1,fun p hp=>let ⟨t,r,e,q⟩:=k2 p hp;⟨t,r,e,k.1 _ _ q⟩,k3⟩,h.j0,h.ql,fun i p q e1 e2=>let ⟨a,b,c,d⟩:=h.opt i p q e1 e2;⟨kz k c a,kz k d b,c,d⟩⟩
theorem aY.aa0 {A:HA} (h:aY T n ρ A H st) (g:Gh ρ H) (l:List Int):aY T n ρ A (upd H A.sp (.lst (l.map V.int))) { st with stp:=l }:=by
 have k:=fE (o:= .lst (l.map V.int)) g h.jZ
 obtain ⟨vs,h1,h2⟩:=h.vG
 obtain ⟨kvs,k1,k2,k3⟩:=h.okn
 exact ⟨kz k h.ca h.oa,h.ca,kz k h.jJ h.i8,h.jJ,kz k h.gO h.ef,h.gO,⟨vs,kz k h.ko h1,h2.keep k (by decide)⟩,h.ko,kz k h.jW h.uw,h.jW,kz k h.jX h.oO,h.jX,kz k h.kP h.jY,h.kP,kz k h.cpu h.qu,h.cpu,aj,h.jZ,⟨kvs,kz k h.j0 k1,fun p hp=>let ⟨t,r,e,q⟩:=k2 p hp;⟨t,r,e,k.1 _ _ q⟩,k3⟩,h.j0,h.ql,fun i p q e1 e2=>let ⟨a,b,c,d⟩:=h.opt i p q e1 e2;⟨kz k c a,kz k d b,c,d⟩⟩
theorem aY.aa1 {A:HA} (h:aY T n ρ A H st) (g:Gh ρ H) (q:Addr) (l:List Int) (e:H q=some (.lst (l.map V.int))) (c:ρ q=col n 6):aY T n ρ { A with cm:=q } (upd H A.a (.ins T.hold A.dx (mX { A with cm:=q }))) { st with bR:=l }:=by
 have k:=fE (o:= .ins T.hold A.dx (mX { A with cm:=q })) g h.ca
 obtain ⟨vs,h1,h2⟩:=h.vG
 obtain ⟨kvs,k1,k2,k3⟩:=h.okn
 exact ⟨aj,h.ca,kz k h.jJ h.i8,h.jJ,kz k h.gO h.ef,h.gO,⟨vs,kz k h.ko h1,h2.keep k (by decide)⟩,h.ko,kz k h.jW h.uw,h.jW,kz k h.jX h.oO,h.jX,kz k c e,c,kz k h.cpu h.qu,h.cpu,kz k h.jZ h.tO,h.jZ,⟨kvs,kz k h.j0 k1,fun p hp=>let ⟨t,r,e,q⟩:=k2 p hp;⟨t,r,e,k.1 _ _ q⟩,k3⟩,h.j0,h.ql,fun i p q e1 e2=>let ⟨a,b,c,d⟩:=h.opt i p q e1 e2;⟨kz k c a,kz k d b,c,d⟩⟩
theorem aY.aa2 {A:HA} (h:aY T n ρ A H st) (g:Gh ρ H) (q:Addr) (l:List Int) (e:H q=some (.lst (l.map V.int))) (c:ρ q=col n 7):aY T n ρ { A with pu:=q } (upd H A.a (.ins T.hold A.dx (mX { A with pu:=q }))) { st with dg:=l }:=by
 have k:=fE (o:= .ins T.hold A.dx (mX { A with pu:=q })) g h.ca
 obtain ⟨vs,h1,h2⟩:=h.vG
 obtain ⟨kvs,k1,k2,k3⟩:=h.okn
 exact ⟨aj,h.ca,kz k h.jJ h.i8,h.jJ,kz k h.gO h.ef,h.gO,⟨vs,kz k h.ko h1,h2.keep k (by decide)⟩,h.ko,kz k h.jW h.uw,h.jW,kz k h.jX h.oO,h.jX,kz k h.kP h.jY,h.kP,kz k c e,c,kz k h.jZ h.tO,h.jZ,⟨kvs,kz k h.j0 k1,fun p hp=>let ⟨t,r,e,q⟩:=k2 p hp;⟨t,r,e,k.1 _ _ q⟩,k3⟩,h.j0,h.ql,fun i p q e1 e2=>let ⟨a,b,c,d⟩:=h.opt i p q e1 e2;⟨kz k c a,kz k d b,c,d⟩⟩
theorem aY.aa3 {A:HA} (h:aY T n ρ A H st) (g:Gh ρ H) (m:Int) (q:Addr) (e:H q=some (.dK [])) (c:ρ q=col n 9):aY T n ρ { A with kn:=q } (upd H A.bt (.ins T.bot A.db (ye A.sp m q))) { st with prod:=m,kn:=0 }:=by
 have k:=fE (o:= .ins T.bot A.db (ye A.sp m q)) g h.jX
 obtain ⟨vs,h1,h2⟩:=h.vG
 obtain ⟨kvs,k1,k2,k3⟩:=h.okn
 exact ⟨kz k h.ca h.oa,h.ca,kz k h.jJ h.i8,h.jJ,kz k h.gO h.ef,h.gO,⟨vs,kz k h.ko h1,h2.keep k (by decide)⟩,h.ko,kz k h.jW h.uw,h.jW,aj,h.jX,kz k h.kP h.jY,h.kP,kz k h.cpu h.qu,h.cpu,kz k h.jZ h.tO,h.jZ,⟨[],kz k c e,(fun p hp=>absurd hp (by simp)),aP _,vB⟩,c,h.ql,fun i p q e1 e2=>let ⟨a,b,c,d⟩:=h.opt i p q e1 e2;⟨kz k c a,kz k d b,c,d⟩⟩
theorem aY.ux {A:HA} (h:aY T n ρ A H st) (g:Gh ρ H) {p1:Pt} (ep:st.ai[i]?=some p0) (eq:A.qs[i]?=some q0) (e1:p1.nm=p0.nm) (e2:p1.row=p0.row) (nd:(st.ai.map (·.nm)).Nodup):aY T n ρ A (upd H q0.1 (.ins T.part q0.2.1 (lU p1 q0.2.2))) { st with ai:=st.ai.set i p1 }:=by
 have k:=fE (o:= .ins T.part q0.2.1 (lU p1 q0.2.2)) g (h.opt i p0 q0 ep eq).2.2.1
 obtain ⟨vs,h1,h2⟩:=h.vG
 obtain ⟨kvs,k1,k2,k3⟩:=h.okn
 exact ⟨kz k h.ca h.oa,h.ca,kz k h.jJ h.i8,h.jJ,by rw [F_ ep e1];exact kz k h.gO h.ef,h.gO,⟨vs,kz k h.ko h1,h2.keep k (by decide)⟩,h.ko,kz k h.jW h.uw,h.jW,kz k h.jX h.oO,h.jX,kz k h.kP h.jY,h.kP,kz k h.cpu h.qu,h.cpu,kz k h.jZ h.tO,h.jZ,⟨kvs,kz k h.j0 k1,fun p hp=>let ⟨t,r,e,q⟩:=k2 p hp;⟨t,r,e,k.1 _ _ q⟩,k3⟩,h.j0,by rw [lD];exact h.ql,YE h k nd ep eq e1 aj (HL (h.opt i p0 q0 ep eq).2.2.1) (by rw [e2])⟩
theorem aY.YF {A:HA} (h:aY T n ρ A H st) (g:Gh ρ H) (l:List Int) (ep:st.ai[i]?=some p0) (eq:A.qs[i]?=some q0) (nd:(st.ai.map (·.nm)).Nodup):aY T n ρ A (upd H q0.2.2 (.lst (l.map V.int))) { st with ai:=st.ai.set i { p0 with row:=l } }:=by
 have k:=fE (o:= .lst (l.map V.int)) g (h.opt i p0 q0 ep eq).2.2.2
 obtain ⟨vs,h1,h2⟩:=h.vG
 obtain ⟨kvs,k1,k2,k3⟩:=h.okn
 exact ⟨kz k h.ca h.oa,h.ca,kz k h.jJ h.i8,h.jJ,by show _=some (HO.dK (cX (st.ai.set i { p0 with row:=l }) A.qs));rw [F_ (p1:={ p0 with row:=l }) ep rfl];exact kz k h.gO h.ef,h.gO,⟨vs,kz k h.ko h1,h2.keep k (by decide)⟩,h.ko,kz k h.jW h.uw,h.jW,kz k h.jX h.oO,h.jX,kz k h.kP h.jY,h.kP,kz k h.cpu h.qu,h.cpu,kz k h.jZ h.tO,h.jZ,⟨kvs,kz k h.j0 k1,fun p hp=>let ⟨t,r,e,q⟩:=k2 p hp;⟨t,r,e,k.1 _ _ q⟩,k3⟩,h.j0,by rw [lD];exact h.ql,V3 h nd ep eq aj (HL (h.opt i p0 q0 ep eq).2.2.2)⟩
structure Txt (K:Fg) (T:TC):Prop where
 cH:oJ K T.hold
 cP:oJ K T.part
 cB:oJ K T.bot
 hpl:eV K T.hold "places"
 hab:eV K T.hold "aboard"
 has:eV K T.hold "ashore"
 hnm:eV K T.hold "names"
 Eb:eV K T.hold "bottom"
 BW:eV K T.hold "common"
 KY:eV K T.hold "purses"
 Xe:eV K T.part "name"
 pow:eV K T.part "owner"
 HM:eV K T.part "worth"
 pwe:eV K T.part "weight"
 Te:eV K T.part "scale"
 Xf:eV K T.part "row"
 bst:eV K T.bot "steps"
 Xg:eV K T.bot "product"
 Tf:eV K T.bot "known"
structure Wf (st:HS):Prop where
 yf:st.own.Nodup
 CA:st.nms.Nodup
 kB:(st.ai.map (·.nm)).Nodup
 sub:∀p∈st.ai,p.nm∈st.nms
 rows:∀p∈st.ai,p.row.length=st.own.length
 ow:∀p∈st.ai,p.ow∈st.own
 jb:st.bR.length=st.own.length
 yg:st.dg.length=st.own.length
 iX:1<=st.prod
 vH:st.prod=st.stp.foldl (·*·) 1
 zT:∀s∈st.stp,2<=s
 sJ:st.own.length<=100
 CB:st.nms.length<=1000
 wm:st.ai.length<=1000
 Ga:st.stp.length<=100
 zU:st.kj.length<=1000
 Tg:st.kn<=1000000
 big:Jm.Sz 8000 st.prod
 sL:∀c∈st.bR,0<=c/\c<=st.prod
 vI:∀p∈st.ai,1<=p.sc/\p.sc<=st.prod
 sM:∀p∈st.ai,∀r∈p.row,-st.prod<=r/\r<=st.prod
 zV:∀p∈st.ai,∀t∈List.zipWith (fun r c=>p.sc*r+c) p.row st.bR,0<=t/\t<=st.prod
 uy:∀p∈st.ai,1<=p.wo/\0<=p.we
 KZ:∀u∈st.dg,Jm.Sz 9000 u
structure HH (T:TC) (n:Nat) (ρ:fR) (A:HA) (H:Hp) (st:HS):Prop where
 g:Gh ρ H
 h:aY T n ρ A H st
 wf:Wf st
def Bc (T:TC) (n:Nat) (ρ:fR) (A:HA) (H:Hp) (st:HS) (Q:Hp->Prop):Prop:=∀ρ' A' H',HH T n ρ' A' H' st->A'.a=A.a->Fr n ρ H ρ' H'->Q H'
def hs0:HS:=⟨[],[],[],[],[],1,0,[],[]⟩
theorem wf0:Wf hs0:=by
 refine ⟨vB,vB,vB,?_,?_,?_,Z,Z,?_,Z,?_,?_,?_,?_,?_,?_,?_,?_,?_,?_,?_,?_,?_,?_⟩ <;> first|(intro _ h;exact absurd h (by simp [hs0]))|decide|(show Jm.Sz 8000 1;exact pH (by decide +kernel))
theorem OY:∀{l:List Str} {i:Nat} {o:Str},o∈l->d9 (fK i l) (Sum.inr o)=some (.int ((i+l.idxOf o:Nat):Int))
 | [],_,_,h=>by simp at h
 | x::l,i,o,h=>by
   by_cases e:x=o
   . subst e
     rw [show fK i (x::l)=(Sum.inr x, .int i)::fK (i+1) l from rfl,gH rfl]
     simp
   . rw [show fK i (x::l)=(Sum.inr x, .int i)::fK (i+1) l from rfl,eX (by intro z;exact e (tU z))]
     have hm:o∈l:=by
      rcases c_.mp h with z|z
      . exact absurd z.symm e
      . exact z
     rw [OY hm]
     have eb:(x==o)=false:=by simpa using e
     have:(x::l).idxOf o=l.idxOf o+1:=by rw [List.idxOf_cons,eb];rfl
     rw [this]
     show some (V.int ((i+1+l.idxOf o:Nat):Int))=some (V.int ((i+(l.idxOf o+1):Nat):Int))
     rw [show i+1+l.idxOf o=i+(l.idxOf o+1) from by omega]
theorem uz:∀{l:List Str} {i:Nat} {o:Str},o∉l->d9 (fK i l) (Sum.inr o)=none
 | [],_,_,_=>rfl
 | x::l,i,o,h=>by
   rw [show fK i (x::l)=(Sum.inr x, .int i)::fK (i+1) l from rfl,eX (fun z=>h (by rw [<-tU z];exact cJ))]
   exact uz fun m=>h (cG _ m)
theorem tW:∀(l:List Str) (i:Nat),(fK i l).length=l.length
 | [],_=>rfl
 | _::l,i=>by rw [show ∀x,fK i (x::l)=(Sum.inr x, .int i)::fK (i+1) l from fun _=>rfl,mU,mU,tW l]
theorem K0:∀(l:List Str) (i:Nat) (o:Str),fK i (l++[o])=fK i l++[(Sum.inr o, .int ((i+l.length:Nat):Int))]
 | [],i,o=>rfl
 | x::l,i,o=>by
   show (Sum.inr x,V.int i)::fK (i+1) (l++[o])=_
   rw [K0 l (i+1) o]
   show _=(Sum.inr x,V.int i)::(fK (i+1) l++_)
   rw [mU,show i+1+l.length=i+(l.length+1) from by omega]
theorem CC:∀(l:List Str) (i:Nat),(fK i l).map (fun p=>kV p.1)=l.map V.str
 | [],_=>rfl
 | x::l,i=>by
   show kV (Sum.inr x)::(fK (i+1) l).map _=V.str x::l.map V.str
   rw [CC l]
   rfl
variable {qs:List (Addr×Addr×Addr)}
theorem xm {ps:List Pt} {q:Addr×Addr×Addr} (h1:ps[i]?=some p) (h2:qs[i]?=some q):(cX ps qs)[i]?=some (Sum.inr p.nm, .ref q.1):=by
 unfold cX
 rw [Qj,h1,h2]
theorem xo {ps:List Pt} (h:qs.length=ps.length):(cX ps qs).length=ps.length:=by
 unfold cX
 rw [qw,h,Nat.min_self]
theorem xr:∀{ps:List Pt} {qs:List (Addr×Addr×Addr)} {i:Nat} {p:Pt} {q:Addr×Addr×Addr},(ps.map (·.nm)).Nodup->ps[i]?=some p->qs[i]?=some q->d9 (cX ps qs) (Sum.inr p.nm)=some (.ref q.1)
 | [],_,_,_,_,_,h,_=>by simp at h
 | _::_,[],_,_,_,_,_,h=>by simp at h
 | a::ps,b::qs,0,p,q,_,h1,h2=>by
   have e1:a=p:=by simpa using h1
   have e2:b=q:=by simpa using h2
   subst e1 e2
   exact gH rfl
 | a::ps,b::qs,i+1,p,q,nd,h1,h2=>by
   have nd':=ia.mp (show (a.nm::ps.map (·.nm)).Nodup from nd)
   have OZ:ps[i]?=some p:=by simpa using h1
   rw [show cX (a::ps) (b::qs)=(Sum.inr a.nm, .ref b.1)::cX ps qs from rfl,eX (fun z=>nd'.1 (bM.mpr ⟨p,bN OZ,(tU z).symm⟩))]
   exact xr nd'.2 OZ (by simpa using h2)
theorem uA:∀{ps:List Pt} {qs:List (Addr×Addr×Addr)} {x:Str},(∀p∈ps,p.nm≠x)->d9 (cX ps qs) (Sum.inr x)=none
 | [],_,_,_=>rfl
 | _::_,[],_,_=>rfl
 | a::ps,b::qs,x,h=>by
   rw [show cX (a::ps) (b::qs)=(Sum.inr a.nm, .ref b.1)::cX ps qs from rfl,eX (fun z=>h a cJ (tU z))]
   exact uA fun p hp=>h p (cG _ hp)
theorem V4 {ps:List Pt} (h:qs.length=ps.length) (p:Pt) (q:Addr×Addr×Addr):cX (ps++[p]) (qs++[q])=cX ps qs++[(Sum.inr p.nm, .ref q.1)] :=by
 unfold cX
 rw [List.zipWith_append h.symm]
 rfl
theorem zW {l:List Str} (h:x∉l):d9 (xj l) (Sum.inr x)=none:=by
 unfold xj
 induction l with
 | nil=>rfl
 | cons a l ih=>
   rw [bD,eX (fun z=>h (by rw [<-tU z];exact cJ))]
   exact ih fun m=>h (cG _ m)
theorem aY.find {A:HA} (h:aY T n ρ A H st) (e:st.ai[i]?=some p):∃q,A.qs[i]?=some q/\H q.1=some (.ins T.part q.2.1 (lU p q.2.2))/\H q.2.2=some (.lst (p.row.map V.int))/\ρ q.1=some (n,20,p.nm)/\ρ q.2.2=some (n,21,p.nm):=by
 have hi:i<A.qs.length:=by rw [h.ql];exact (eF.mp e).1
 exact ⟨A.qs[i],aX hi,h.opt i p _ e (aX hi)⟩
def gC (st:HS) (o:Str):HS:={ st with own:=st.own++[o],bR:=st.bR++[0],dg:=st.dg++[0],ai:=st.ai.map fun p=>{ p with row:=p.row++[0] } }
def b_ (st:HS) (p:Pt):List Int:=List.zipWith (fun r c=>p.sc*r+c) p.row st.bR
def zX (st:HS) (tops:List Int):List Int:=List.zipWith (fun t c=>t-c) tops st.bR
def Bd (st:HS) (p:Pt):HS:={ st with ai:=st.ai++[p],nms:=st.nms++[p.nm] }
def yh (st:HS) (x o:Str) (wo we:Int):HS:=Bd st ⟨x,o,wo,we,1,zX st ((List.replicate st.own.length 0).set (st.own.idxOf o) st.prod)⟩
def bK (st:HS):Int:=(st.ai.map (·.wo)).sum
def zY (st:HS) (p:Pt):List (Str×Rat):=(List.zip st.own (b_ st p)).filterMap fun x=>if 0<x.2 then some (x.1,Jm.fr x.2 st.prod) else none
def Be (p:Pt):HO:= .tup [.str p.nm, .str p.ow, .int p.wo, .int p.we]
inductive jO (H:Hp):List V->List Pt->Prop
 | nil:jO H [] []
 | cons {r:Addr} {p:Pt} {vs:List V} {ps:List Pt}:H r=some (Be p)->jO H vs ps->jO H (.ref r::vs) (p::ps)
def K1 (n:Nat) (q1 q2:Addr) (ρ:fR) (H:Hp) (ρ':fR) (H':Hp):Prop:=∀b o,H b=some o->(∀t x,ρ b≠some (n,t,x))->b≠q1->b≠q2->H' b=some o/\ρ' b=ρ b
theorem K1.trans {ρ1 ρ2:fR} (a:K1 n q1 q2 ρ H ρ1 H1) (b:Fr n ρ1 H1 ρ2 H2):K1 n q1 q2 ρ H ρ2 H2:=fun c o h k x y=>by
 obtain ⟨h1,e1⟩:=a c o h k x y
 obtain ⟨h2,e2⟩:=b c o h1 (by rw [e1];exact k)
 exact ⟨h2,e2.trans e1⟩
theorem K1.fr {ρ1 ρ2:fR} (b:K1 n q1 q2 ρ1 H1 ρ2 H2) (a:Fr n ρ H ρ1 H1) (h1:H q1=none) (h2:H q2=none):Fr n ρ H ρ2 H2:=fun c o h k=>by
 obtain ⟨e1,e2⟩:=a c o h k
 obtain ⟨e3,e4⟩:=b c o e1 (by rw [e2];exact k) (aI h h1) (aI h h2)
 exact ⟨e3,e4.trans e2⟩
def isNm (o:Str):Bool:=isName o.cps.toList
inductive aa5 (T:TC) (vs:List V) (H:Hp) (Q:VK) (E:XK):Prop
 | mk (p dx:_) (_:vs=[.ref p]) (_:H p=some (.ins T.bot dx [])) (_:∀sp kn H',H sp=none->H kn=none->sp≠kn->(∀b o,H b=some o->b≠p->H' b=some o)->H' p=some (.ins T.bot dx (ye sp 1 kn))->H' sp=some (.lst [])->H' kn=some (.dK [])->Q .bZ H')
def O0 (T:TC):Sp:=bx (aa5 T)
inductive aa6 (T:TC) (K:Fg) (vs:List V) (H:Hp) (Q:VK) (E:XK):Prop
 | mk (p dx l:Addr) (pt:Pt) (_:vs=[.ref p, .str pt.nm, .str pt.ow, .int pt.wo, .int pt.we, .int pt.sc, .ref l]) (_:H p=some (.ins T.part dx [])) (_:aC K H l (pt.row.map V.int)) (_:∀r H',H r=none->(∀b o,H b=some o->b≠p->H' b=some o)->H' p=some (.ins T.part dx (lU pt r))->H' r=some (.lst (pt.row.map V.int))->Q .bZ H')
def O1 (T:TC) (K:Fg):Sp:=bx (aa6 T K)
inductive aa7 (T:TC) (vs:List V) (H:Hp) (Q:VK) (E:XK):Prop
 | mk (p dx ρ n:_) (_:vs=[.ref p]) (_:H p=some (.ins T.hold dx [])) (_:Gh ρ H) (_:ρ p=none) (_:∀ρ' A H',A.a=p->HH T n ρ' A H' hs0->(∀b o,H b=some o->b≠p->H' b=some o/\ρ' b=ρ b)->Q .bZ H')
def O2 (T:TC):Sp:=bx (aa7 T)
inductive aa8 (T:TC) (vs:List V) (H:Hp) (Q:VK) (E:XK):Prop
 | mk (n ρ A st o:_) (_:vs=[.ref A.a, .str o]) (_:aY T n ρ A H st) (_:o∈st.own) (_:Q (.int (st.own.idxOf o:Int)) H)
def O3 (T:TC):Sp:=bx (aa8 T)
inductive YG (T:TC) (vs:List V) (H:Hp) (Q:VK) (E:XK):Prop
 | mk (n ρ A st:_) (i:Nat) (p:Pt) (q:Addr×Addr×Addr) (_:vs=[.ref A.a, .str p.nm]) (_:aY T n ρ A H st) (_:(st.ai.map (·.nm)).Nodup) (_:st.ai[i]?=some p) (_:A.qs[i]?=some q) (_:Q (.ref q.1) H)
def CD (T:TC):Sp:=bx (YG T)
inductive Th (T:TC) (vs:List V) (H:Hp) (Q:VK) (E:XK):Prop
 | mk (n ρ A st x:_) (_:vs=[.ref A.a, .str x]) (_:aY T n ρ A H st) (_:isNm x=true) (_:x∉st.nms) (_:∀H',aE H H'->Q .bZ H')
def Ed (T:TC):Sp:=bx (Th T)
inductive ag8 (T:TC) (K:Fg) (vs:List V) (H:Hp) (Q:VK) (E:XK):Prop
 | mk (n ρ A st l:_) (tops:List Int) (_:vs=[.ref A.a, .ref l]) (_:aY T n ρ A H st) (_:aC K H l (tops.map V.int)) (_:tops.length=st.bR.length) (_:tops.length<=1000) (_:∀r H',aE H H'->H r=none->H' r=some (.lst ((zX st tops).map V.int))->Q (.ref r) H')
def Xh (T:TC) (K:Fg):Sp:=bx (ag8 T K)
inductive aa9 (T:TC) (vs:List V) (H:Hp) (Q:VK) (E:XK):Prop
 | mk (n ρ A st:_) (i:Nat) (p:Pt) (q:Addr×Addr×Addr) (_:vs=[.ref A.a, .ref q.1]) (_:aY T n ρ A H st) (_:Wf st) (_:st.ai[i]?=some p) (_:A.qs[i]?=some q) (_:∀r H',aE H H'->H r=none->H' r=some (.lst ((b_ st p).map V.int))->Q (.ref r) H')
def O4 (T:TC):Sp:=bx (aa9 T)
inductive adK (T:TC) (vs:List V) (H:Hp) (Q:VK) (E:XK):Prop
 | mk (n ρ A st:_) (q:Addr×Addr×Addr) (p:Pt) (_:vs=[.ref A.a, .ref q.1]) (_:HH T n ρ A H st) (_:H q.1=some (.ins T.part q.2.1 (lU p q.2.2))) (_:H q.2.2=some (.lst (p.row.map V.int))) (_:ρ q.1=none) (_:ρ q.2.2=none) (_:p.nm∉st.nms) (_:Wf (Bd st p)) (_:∀ρ' A' H',HH T n ρ' A' H' (Bd st p:_)->A'.a=A.a->K1 n q.1 q.2.2 ρ H ρ' H'->Q .bZ H')
def Ti (T:TC):Sp:=bx (adK T)
inductive aa_ (T:TC) (vs:List V) (H:Hp) (Q:VK) (E:XK):Prop
 | mk (n ρ A st o:_) (_:vs=[.ref A.a, .str o]) (_:HH T n ρ A H st) (_:isNm o=true) (_:o∉st.own) (_:st.own.length<100) (_:Bc T n ρ A H (gC st o:_) fun H'=>Q .bZ H')
def O5 (T:TC):Sp:=bx (aa_ T)
inductive adL (T:TC) (vs:List V) (H:Hp) (Q:VK) (E:XK):Prop
 | mk (n ρ A st x o wo we:_) (_:vs=[.ref A.a, .str x, .str o, .int wo, .int we]) (_:HH T n ρ A H st) (_:isNm x=true) (_:x∉st.nms) (_:o∈st.own) (_:1<=wo) (_:0<=we) (_:st.nms.length<1000) (_:st.ai.length<1000) (_:Bc T n ρ A H (yh st x o wo we:_) fun H'=>Q .bZ H')
def Tj (T:TC):Sp:=bx (adL T)
inductive aba (T:TC) (vs:List V) (H:Hp) (Q:VK) (E:XK):Prop
 | mk (n ρ A st:_) (_:vs=[.ref A.a]) (_:aY T n ρ A H st) (_:st.ai.length<=1000) (_:∀r ws H',aE H H'->H r=none->H' r=some (.lst ws)->jO H' ws st.ai->Q (.ref r) H')
def O6 (T:TC):Sp:=bx (aba T)
inductive abb (T:TC) (vs:List V) (H:Hp) (Q:VK) (E:XK):Prop
 | mk (n ρ A st:_) (_:vs=[.ref A.a]) (_:aY T n ρ A H st) (_:st.ai.length<=1000) (_:∀H',aE H H'->Q (.int (bK st)) H')
def Gb (T:TC):Sp:=bx (abb T)
inductive YH (T:TC) (vs:List V) (H:Hp) (Q:VK) (E:XK):Prop
 | mk (n ρ A st:_) (_:vs=[.ref A.a]) (_:aY T n ρ A H st) (_:∀r,H r=none->Q (.ref r) (upd H r (.lst (st.own.map V.str))))
def K2 (T:TC):Sp:=bx (YH T)
inductive abc (T:TC) (vs:List V) (H:Hp) (Q:VK) (E:XK):Prop
 | mk (bt db sp kn:Addr) (stp:List Int) (prod top:Int) (_:vs=[.ref bt, .int top]) (_:H bt=some (.ins T.bot db (ye sp prod kn))) (_:H sp=some (.lst (stp.map V.int))) (_:prod=stp.foldl (·*·) 1) (_:(∀s∈stp,2<=s)) (_:Jm.Sz 8000 prod) (_:∀r H',aE H H'->H' r=some (pG (Jm.fr top prod))->Q (.ref r) H')
def O7 (T:TC):Sp:=bx (abc T)
inductive YI (T:TC) (vs:List V) (H:Hp) (Q:VK) (E:XK):Prop
 | mk (bt db sp kn:Addr) (stp:List Int) (prod top:Int) (kvs:List (Key×V)) (_:vs=[.ref bt, .int top]) (_:H bt=some (.ins T.bot db (ye sp prod kn))) (_:H sp=some (.lst (stp.map V.int))) (_:prod=stp.foldl (·*·) 1) (_:(∀s∈stp,2<=s)) (_:Jm.Sz 8000 prod) (_:H kn=some (.dK kvs)) (_:KU H kvs prod) (_:kvs.length<10000000) (_:(kvs.map (·.1)).Nodup) (_:∀r H' kvs',(∀b o,H b=some o->b≠kn->H' b=some o)->H' kn=some (.dK kvs')->KU H' kvs' prod->kvs'.length<=kvs.length+1->(kvs'.map (·.1)).Nodup->H' r=some (pG (Jm.fr top prod))->Q (.ref r) H')
def K3 (T:TC):Sp:=bx (YI T)
inductive V5 (T:TC) (vs:List V) (H:Hp) (Q:VK) (E:XK):Prop
 | mk (n ρ A st:_) (i:Nat) (p:Pt) (_:vs=[.ref A.a, .str p.nm]) (_:HH T n ρ A H st) (_:st.ai[i]?=some p) (_:st.kn+100<=1000000) (_:∀r ws ρ' A' H',HH T n ρ' A' H' { st with kn:=st.kn+100 }->A'.a=A.a->Fr n ρ H ρ' H'->H r=none->H' r=some (.lst ws)->ρ' r=none->ja H' ws (zY st p:_)->Q (.ref r) H')
def HN (T:TC):Sp:=bx (V5 T)
inductive zZ (ρ:fR) (H:Hp):List V->List qt->Prop
 | nil:zZ ρ H [] []
 | cons {r l:Addr} {x:qt} {ss:List V} {vs:List V} {as:List qt}:H r=some (.tup [.str x.nm, .str x.ow, .int x.wo, .ref l])->H l=some (.lst ss)->ρ l=none->ja H ss x.sh->zZ ρ H vs as->zZ ρ H (.ref r::vs) (x::as)
inductive YJ (T:TC) (vs:List V) (H:Hp) (Q:VK) (E:XK):Prop
 | mk (n ρ A st:_) (_:vs=[.ref A.a]) (_:HH T n ρ A H st) (_:∀r ws H',aE H H'->H r=none->H' r=some (.lst ws)->zZ ρ H' ws st.kj->Q (.ref r) H')
def K4 (T:TC):Sp:=bx (YJ T)
theorem jO.mono {l:List Pt} (h:jO H vs l) (g:∀b xs,H b=some (.tup xs)->H' b=some (.tup xs)):jO H' vs l:=by
 induction h with
 | nil=>exact .nil
 | cons a _ ih=>exact .cons (g _ _ a) ih
theorem jO.snoc {l:List Pt} {r:Addr} (h:jO H vs l) (e:H r=some (Be p)):jO H (vs++[.ref r]) (l++[p]):=by
 induction h with
 | nil=>exact .cons e .nil
 | cons a _ ih=>exact .cons a ih
theorem ja.snoc {l:List (Str×Rat)} {r:Addr} (h:ja H vs l) (e:H r=some (.tup [.str x, .ref f])) (e2:H f=some (pG q)):ja H (vs++[.ref r]) (l++[(x,q)]):=by
 induction h with
 | nil=>exact .cons e e2 .nil
 | cons a b _ ih=>exact .cons a b ih
theorem kW {p:Addr} (h:H p=none\/∃u,H p=some u/\isTup u=false):∀b xs,H b=some (.tup xs)->upd H p o b=some (.tup xs):=fun b xs e=>by
 rw [av (fun z=>?_)]
 . exact e
 . rw [z] at e
   rcases h with h|⟨u,h,t⟩
   . rw [h] at e;cases e
   . rw [h] at e;cases e;cases t
theorem K5 (h:isNm x=true):x.cps.toList.length<=100000:=by
 unfold isNm isName at h
 have:=dO (k_.mp (k_.mp h).1).2
 omega
theorem uB {o:Obj} (e:H d=some (.dK kvs)) (s:aE (upd H d (.fm o (.dK kvs))) H1):aE H (upd H1 d (.dK kvs)):=fun b u q=>by
 by_cases h:b=d
 . rw [h,e] at q;cases q;rw [h];exact aj
 . rw [av h];exact s b u (by rw [av h];exact q)
theorem eZ {b:Addr} {o:Obj} {u:HO} (e:H d=some (.dK kvs)) (q:H b=some u) (h:∀k,u ≠ .dK k):upd H d (.fm o (.dK kvs)) b=some u:=by
 rw [av (fun z=>by rw [z,e] at q;cases q;exact h _ rfl)];exact q
theorem nX {b:Addr} {o:Obj} (e:H d=some (.dK kvs)) (q:upd H d (.fm o (.dK kvs)) b=none):H b=none:=by
 by_cases h:b=d
 . rw [h,aj] at q;cases q
 . rw [av h] at q;exact q
theorem aE.tups (s:aE H H'):∀b xs,H b=some (.tup xs)->H' b=some (.tup xs):=fun b xs h=>s b _ h
theorem take_snoc {α:Type} {l:List α} {x:α} (h:l[i]?=some x):l.take (i+1)=l.take i++[x] :=by rw [List.take_add_one,h];rfl
theorem oQ {α β γ:Type} (f:α->β->γ) {xs:List α} {ys:List β} {x:α} {y:β} (h1:xs[i]?=some x) (h2:ys[i]?=some y):List.zipWith f (xs.take (i+1)) (ys.take (i+1))=List.zipWith f (xs.take i) (ys.take i)++[f x y] :=by
 have l1:=(eF.mp h1).1
 have l2:=(eF.mp h2).1
 rw [take_snoc h1,take_snoc h2,List.zipWith_append (by rw [lq,lq];omega)]
 rfl
theorem gJ {l:List Int} {v:V} (h:(l.map V.int)[i]?=some v):∃z,v = .int z/\l[i]?=some z:=by
 rw [bJ] at h
 obtain ⟨z,hz,rfl⟩:=lP.mp h
 exact ⟨z,Z,hz⟩
theorem HH.mono {A:HA} (h:HH T n ρ A H st) (s:aE H H'):HH T n ρ A H' st:=⟨h.g.same s,h.h.mono s,h.wf⟩
theorem Tn {u:HO} (c:ρ a=none) (h:H a=some u) (t:isTup u=false):Kp n ρ ρ H (upd H a o) ts:=
 ⟨kW (.inr ⟨u,h,t⟩),fun b x y w _ hc e=>⟨by rw [av (fun z=>by rw [z,c] at hc;cases hc)];exact e,hc⟩⟩
theorem HH.JW {A:HA} {u:HO} (h:HH T n ρ A H st) (c:ρ a=none) (e:H a=some u) (t:isTup u=false) (t2:isTup o=false):HH T n ρ A (upd H a o) st:=⟨h.g.wr t2,h.h.same (Tn c e t),h.wf⟩
theorem Fr.new (f:Fr n ρ H ρ' H') (h:H a=none):Fr n ρ H ρ' (upd H' a o):=fun b u e k=>by
 rw [av (aI e h)];exact f b u e k
theorem To {α β γ:Type} (f:α->β->γ) {xs:List α} {ys:List β} (h:xs.length=ys.length) (x:α) (y:β):List.zipWith f (xs++[x]) (ys++[y])=List.zipWith f xs ys++[f x y] :=by
 rw [List.zipWith_append h];rfl
theorem YK (w:Wf st) {o:Str} (h:o∉st.own) (hl:st.own.length<100):Wf (gC st o):=by
 have P:∀p∈(gC st o).ai,∃p0∈st.ai,p={ p0 with row:=p0.row++[0] }:=fun p hp=>by
  obtain ⟨p0,h0,rfl⟩:=bM.mp (show p∈st.ai.map _ from hp)
  exact ⟨p0,h0,Z⟩
 have p1:=w.iX
 refine ⟨?_,w.CA,?_,fun p hp=>?_,fun p hp=>?_,fun p hp=>?_,?_,?_,w.iX,w.vH,w.zT,?_,w.CB,?_,w.Ga,w.zU,w.Tg,w.big,fun c hc=>?_,fun p hp=>?_,fun p hp r hr=>?_,fun p hp t ht=>?_,fun p hp=>?_,fun u hu=>?_⟩
 . exact oM w.yf h
 . show ((st.ai.map fun p=>{ p with row:=p.row++[0] }).map (·.nm)).Nodup
   rw [fF]
   exact w.kB
 . obtain ⟨p0,h0,rfl⟩:=P p hp
   exact w.sub p0 h0
 . obtain ⟨p0,h0,rfl⟩:=P p hp
   show (p0.row++[0]).length=(st.own++[o]).length
   rw [di,di,w.rows p0 h0]
   rfl
 . obtain ⟨p0,h0,rfl⟩:=P p hp
   exact Fw _ (w.ow p0 h0)
 . show (st.bR++[0]).length=(st.own++[o]).length
   rw [di,di,w.jb]
   rfl
 . show (st.dg++[0]).length=(st.own++[o]).length
   rw [di,di,w.yg]
   rfl
 . show (st.own++[o]).length<=100
   rw [di]
   exact hl
 . show (st.ai.map _).length<=1000
   rw [aF]
   exact w.wm
 . rcases fZ.mp (show c∈st.bR++[0] from hc) with z|z
   . exact w.sL c z
   . rw [fU.mp z];exact ⟨jL _,by show (0:Int)<=st.prod;omega⟩
 . obtain ⟨p0,h0,rfl⟩:=P p hp
   exact w.vI p0 h0
 . obtain ⟨p0,h0,rfl⟩:=P p hp
   rcases fZ.mp (show r∈p0.row++[0] from hr) with z|z
   . exact w.sM p0 h0 r z
   . rw [fU.mp z];show -st.prod<=0/\0<=st.prod;omega
 . obtain ⟨p0,h0,rfl⟩:=P p hp
   have el:p0.row.length=st.bR.length:=by rw [w.rows p0 h0,w.jb]
   have ht:t∈List.zipWith (fun r c=>p0.sc*r+c) (p0.row++[0]) (st.bR++[0]):=ht
   rw [To _ el _ _] at ht
   rcases fZ.mp ht with z|z
   . exact w.zV p0 h0 t z
   . rw [fU.mp z];show 0<=p0.sc*0+0/\p0.sc*0+0<=st.prod;omega
 . obtain ⟨p0,h0,rfl⟩:=P p hp
   exact w.uy p0 h0
 . rcases fZ.mp (show u∈st.dg++[0] from hu) with z|z
   . exact w.KZ u z
   . rw [fU.mp z];exact pH (by decide +kernel)
theorem YL (w:Wf st) (h1:p.nm∉st.nms) (h2:st.nms.length<1000) (h3:st.ai.length<1000) (h4:p.row.length=st.own.length) (h5:p.ow∈st.own) (h6:1<=p.sc/\p.sc<=st.prod) (h7:∀r∈p.row,-st.prod<=r/\r<=st.prod)
  (h8:∀t∈List.zipWith (fun r c=>p.sc*r+c) p.row st.bR,0<=t/\t<=st.prod) (h9:1<=p.wo/\0<=p.we):Wf (Bd st p):=by
 have P:∀{M:Pt->Prop},(∀x∈st.ai,M x)->M p->∀x∈st.ai++[p],M x:=fun a b x hx=>by
  rcases fZ.mp hx with z|z
  . exact a x z
  . rw [fU.mp z];exact b
 refine ⟨w.yf,oM w.CA h1,?_,P (fun x hx=>Fw _ (w.sub x hx)) (jE _ (fU.mpr rfl)),P w.rows h4,P w.ow h5,w.jb,w.yg,w.iX,w.vH,w.zT,w.sJ,?_,?_,w.Ga,w.zU,w.Tg,w.big,w.sL,P w.vI h6,P w.sM h7,P w.zV h8,P w.uy h9,w.KZ⟩
 . show ((st.ai++[p]).map (·.nm)).Nodup
   rw [bL]
   refine oM w.kB fun m=>?_
   obtain ⟨x,hx,e⟩:=bM.mp m
   have e:x.nm=p.nm:=e
   exact h1 (by rw [<-e];exact w.sub x hx)
 . show (st.nms++[p.nm]).length<=1000
   rw [di];exact h2
 . show (st.ai++[p]).length<=1000
   rw [di];exact h3
theorem yi {α β γ:Type} {f:α->β->γ} {t:γ}:∀{xs:List α} {ys:List β},t∈List.zipWith f xs ys->∃x∈xs,∃y∈ys,t=f x y
 | [],_,h=>by simp at h
 | _::_,[],h=>by simp at h
 | x::xs,y::ys,h=>by
   rcases c_.mp (show t∈f x y::List.zipWith f xs ys from h) with e|m
   . exact ⟨x,cJ,y,cJ,e⟩
   . obtain ⟨a,ha,b,hb,e⟩:=yi m
     exact ⟨a,cG _ ha,b,cG _ hb,e⟩
theorem CF:∀{ts cs:List Int},List.zipWith (fun r c=>1*r+c) (List.zipWith (fun t c=>t-c) ts cs) cs=ts.take cs.length
 | [],_=>by simp
 | _::_,[]=>by simp
 | t::ts,c::cs=>by
   show (1*(t-c)+c)::List.zipWith _ (List.zipWith _ ts cs) cs=t::ts.take cs.length
   rw [CF]
   congr 1
   omega
theorem yj {b t:Int} (h:t∈(List.replicate n 0).set i b):t=0\/t=b:=by
 rcases List.mem_or_eq_of_mem_set h with z|z
 . exact .inl (List.eq_of_mem_replicate z)
 . exact .inr z
variable {wo we:Int}
theorem YM (w:Wf st) {o:Str} (h1:x∉st.nms) (h2:st.nms.length<1000) (h3:st.ai.length<1000) (ho:o∈st.own) (h4:1<=wo) (h5:0<=we):Wf (yh st x o wo we):=by
 have p1:=w.iX
 refine YL w h1 h2 h3 ?_ ho ⟨jL 1,w.iX⟩ (fun r hr=>?_) (fun t ht=>?_) ⟨h4,h5⟩
 . show (List.zipWith _ ((List.replicate st.own.length 0).set _ _) st.bR).length=_
   rw [qw,lD,mS,w.jb,Nat.min_self]
 . obtain ⟨t,ht,c,hc,rfl⟩:=yi (show r∈List.zipWith _ _ st.bR from hr)
   have:=w.sL c hc
   rcases yj ht with rfl|rfl <;> omega
 . have e:List.zipWith (fun r c=>1*r+c) (zX st ((List.replicate st.own.length 0).set (st.own.idxOf o) st.prod)) st.bR=_:=CF
   have ht:t∈List.zipWith (fun r c=>1*r+c) (zX st ((List.replicate st.own.length 0).set (st.own.idxOf o) st.prod)) st.bR:=ht
   rw [e] at ht
   rcases yj (List.mem_of_mem_take ht) with rfl|rfl <;> omega
theorem kC {b:Addr} {u:HO} (h:a≠b):upd (upd H a o) b u=upd (upd H b u) a o:=by
 funext c
 unfold upd
 by_cases e1:c=b
 . rw [aB e1,az (fun z=>h (z.symm.trans e1)),aB e1]
 . rw [az e1]
   by_cases e2:c=a
   . rw [aB e2,aB e2]
   . rw [az e2,az e2,az e1]
theorem yk (h:H a=some o):upd H a o=H:=by
 funext c
 unfold upd
 by_cases e:c=a
 . rw [aB e,e,h]
 . rw [az e]
theorem K6 {α:Type} (g:α->α) {l:List α} {p:α} (h:l[i]?=some p):((l.take i).map g++l.drop i)[i]?=some p:=by
 have hi:=(eF.mp h).1
 have e:((l.take i).map g).length=i:=by rw [aF,lq];omega
 rw [J0 (by omega),e,AS,List.getElem?_drop]
 exact h
theorem K7 {α:Type} (g:α->α) {l:List α} {p:α} (h:l[i]?=some p):((l.take i).map g++l.drop i).set i (g p)=(l.take (i+1)).map g++l.drop (i+1):=by
 have hi:=(eF.mp h).1
 have e:((l.take i).map g).length=i:=by rw [aF,lq];omega
 have ep:l[i]=p:=by rw [aX hi] at h;exact iG h
 rw [List.set_append_right _ _ (by omega),e,AS,Qc hi,J6,take_snoc h,bL,J7]
 rfl
theorem qD {α β:Type} (g:α->α) (f:α->β) (hf:∀x,f (g x)=f x) (l:List α) (i:Nat):((l.take i).map g++l.drop i).map f=l.map f:=by
 rw [bL,fF,show f ∘ g=f from funext hf,<-bL,List.take_append_drop]
theorem oR {ps ps':List Pt} (h:ps.map (·.nm)=ps'.map (·.nm)):cX ps qs=cX ps' qs:=by
 have:∀{ps:List Pt},cX ps qs=List.zipWith (fun (x:Str) q=>((Sum.inr x:Key),V.ref q.1)) (ps.map (·.nm)) qs:=fun {ps}=>by unfold cX;rw [List.zipWith_map_left]
 rw [this,this,h]
structure jr (p:Addr) (H:Hp) (ρ:fR) (H':Hp) (ρ':fR) (l:List (Addr×HO×tN)):Prop where
 m:∀e∈l,H' e.1=some e.2.1/\ρ' e.1=some e.2.2/\e.1≠p
 k:∀b o,H b=some o->b≠p->H' b=some o/\ρ' b=ρ b
 g:Gh ρ' H'
 pp:∃u,H' p=some u
variable {l:List (Addr×HO×tN)}
theorem jr.new {p:Addr} {c:tN} (h:jr p H ρ H' ρ' l) (ha:H' a=none) (t:isTup o=false):jr p H ρ (upd H' a o) (cK ρ' a c) ((a,o,c)::l):=by
 obtain ⟨u,hu⟩:=h.pp
 refine ⟨fun e he=>?_,fun b w hb hp=>?_,(h.g.alloc ha).color aj t,u,by rw [av (aI hu ha)];exact hu⟩
 . rcases c_.mp he with rfl|he
   . exact ⟨aj,dM,fun z=>by rw [show a=p from z,hu] at ha;cases ha⟩
   . obtain ⟨x,y,z⟩:=h.m e he
     have:e.1≠a:=aI x ha
     rw [av this,cy this]
     exact ⟨x,y,z⟩
 . obtain ⟨x,y⟩:=h.k b w hb hp
   have:b≠a:=aI x ha
   rw [av this,cy this]
   exact ⟨x,y⟩
theorem jr.wr {p:Addr} {u:HO} (h:jr p H ρ H' ρ' l) (t:isTup u=false):jr p H ρ (upd H' p u) ρ' l:=by
 refine ⟨fun e he=>?_,fun b w hb hp=>?_,h.g.wr t,u,aj⟩
 . obtain ⟨x,y,z⟩:=h.m e he
   rw [av z];exact ⟨x,y,z⟩
 . obtain ⟨x,y⟩:=h.k b w hb hp
   rw [av hp];exact ⟨x,y⟩
theorem jr.same {p:Addr} {Ef:Hp} (h:jr p H ρ H' ρ' l) (s:aE H' Ef):jr p H ρ Ef ρ' l:=by
 obtain ⟨u,hu⟩:=h.pp
 exact ⟨fun e he=>let ⟨x,y,z⟩:=h.m e he;⟨s _ _ x,y,z⟩,fun b w hb hp=>let ⟨x,y⟩:=h.k b w hb hp;⟨s _ _ x,y⟩,h.g.same s,u,s _ _ hu⟩
theorem jr.add {p:Addr} {H0:Hp} {ρ0:fR} {l0:List (Addr×HO×tN)} {c:tN} (h:jr p H ρ H' ρ' l) (ha:H' a=some o) (t:isTup o=false) (h0:jr p H ρ H0 ρ0 l0) (hn:H0 a=none) (hl:∀e∈l,e.1≠a):jr p H ρ H' (cK ρ' a c) ((a,o,c)::l):=by
 refine ⟨fun e he=>?_,fun b w hb hp=>?_,h.g.color ha t,h.pp⟩
 . rcases c_.mp he with rfl|he
   . obtain ⟨u,hu⟩:=h0.pp
     exact ⟨ha,dM,fun z=>by rw [show a=p from z,hu] at hn;cases hn⟩
   . obtain ⟨x,y,z⟩:=h.m e he
     rw [cy (hl e he)]
     exact ⟨x,y,z⟩
 . obtain ⟨x,y⟩:=h.k b w hb hp
   obtain ⟨x0,_⟩:=h0.k b w hb hp
   rw [cy (aI x0 hn)]
   exact ⟨x,y⟩
theorem K8:∀(l:List Int) (a:Int),l.foldl (·*·) a=a*l.foldl (·*·) 1
 | [],a=>by simp
 | s::l,a=>by
   rw [mE,K8 l (a*s),mE,K8 l (1*s),Int.one_mul,jK]
theorem Gd (s:Int) (l:List Int):(s::l).foldl (·*·) 1=s*l.foldl (·*·) 1:=by rw [mE,K8,Int.one_mul]
theorem YN (s:Int) (l:List Int):(l++[s]).foldl (·*·) 1=l.foldl (·*·) 1*s:=by rw [J8];rfl
theorem K9:∀{l:List Int},(∀s∈l,2<=s)->1<=l.foldl (·*·) 1
 | [],_=>by decide
 | s::l,h=>by
   rw [Gd]
   have h1:=h s cJ
   have h2:=K9 (l:=l) fun x hx=>h x (cG _ hx)
   have:=Int.mul_le_mul (a:=1) (b:=1) (c:=s) (d:=l.foldl (·*·) 1) (by omega) h2 (by decide) (by omega)
   omega
theorem Xi:∀{l:List Int} {s:Int},(∀s∈l,2<=s)->s∈l->s<=l.foldl (·*·) 1
 | [],_,_,h=>by simp at h
 | a::l,s,h,m=>by
   rw [Gd]
   have h1:=h a cJ
   have h2:=K9 (l:=l) fun x hx=>h x (cG _ hx)
   rcases c_.mp m with rfl|m
   . have:=G_ h2 (by omega:0<=s)
     omega
   . have h3:=Xi (fun x hx=>h x (cG _ hx)) m
     have:=RZ (by omega:1<=a) (by omega:0<=l.foldl (·*·) 1)
     omega
theorem Tp {t d s:Int} (hd:0<d) (hs:0<s) (c:Jm.cf t d=1):Jm.cf (t / Jm.cf t s) (d*(s / Jm.cf t s))=1/\0<d*(s / Jm.cf t s):=by
 have gp:0<Jm.cf t s:=Jm.DS t s (.inr hs)
 obtain ⟨u,hu⟩:=Jm.rB t s
 obtain ⟨v,hv⟩:=Jm.pD t s
 generalize eg:Jm.cf t s=g at *
 have e1:t / g=u:=by rw [hu,Ft _ (by omega)]
 have e2:s / g=v:=by rw [hv,Ft _ (by omega)]
 have vp:0<v:=by
  rcases Dy 0 v with z|z
  . exact z
  . have:=G_ z (by omega:0<=g)
    omega
 rw [e1,e2]
 have c0:Nat.Coprime t.natAbs d.natAbs:=by unfold Jm.cf at c;exact_mod_cast c
 have c1:Nat.Coprime u.natAbs d.natAbs:=Nat.Coprime.coprime_dvd_left ⟨g.natAbs,by rw [hu,Ds,Nat.mul_comm]⟩ c0
 have c2:Nat.Coprime u.natAbs v.natAbs:=by
  have hg:Int.gcd t s=g.natAbs:=by unfold Jm.cf at eg;omega
  have Xj:Nat.gcd t.natAbs s.natAbs=g.natAbs:=hg
  have:=Nat.coprime_div_gcd_div_gcd (m:=t.natAbs) (n:=s.natAbs) (by rw [Xj];omega)
  rw [Xj] at this
  have gn:0<g.natAbs:=by omega
  rw [hu,hv,Ds,Ds,Nat.mul_div_cancel_left _ gn,Nat.mul_div_cancel_left _ gn] at this
  exact this
 refine ⟨?_,Int.mul_pos hd vp⟩
 have:=Nat.Coprime.mul_right c1 c2
 rw [<-Ds] at this
 unfold Jm.cf
 exact_mod_cast this
theorem V6 {κ:Type} [DecidableEq κ] {kvs:List (κ×V)} {k:κ} {v:V} (h:d9 kvs k=some v):(k,v)∈kvs:=by
 unfold d9 at h
 obtain ⟨p,hp,rfl⟩:=lP.mp h
 have:=List.find?_some hp
 have e:p.1=k:=dO this
 rw [<-e]
 exact List.mem_of_find?_eq_some hp
theorem aY.V7 {A:HA} (h:aY T n ρ A H st) (k:∀b o,H b=some o->b≠A.kn->H' b=some o) (e1:H' A.kn=some (.dK kvs)) (e2:KU H' kvs st.prod) (e3:kvs.length<=m) (e4:(kvs.map (·.1)).Nodup):aY T n ρ A H' { st with kn:=m }:=by
 obtain ⟨kv0,k0,_⟩:=h.okn
 have z:=fun {b:Addr} {t:Nat} {x:Str} {o:HO} (u:t≠9) (c:ρ b=some (n,t,x)) (e:H b=some o)=>k b o e (Ea c h.j0 (fun w=>by cases w;exact u rfl))
 have tp:∀b xs,H b=some (.tup xs)->H' b=some (.tup xs):=fun b xs e=>k b _ e (iW e k0 (by intro w;cases w))
 obtain ⟨vs,h1,h2⟩:=h.vG
 have kp:Kp n ρ ρ H H' fun t=>decide (t≠9):=⟨tp,fun b t x o u c e=>⟨z (dO u) c e,c⟩⟩
 exact ⟨z (by decide) h.ca h.oa,h.ca,z (by decide) h.jJ h.i8,h.jJ,z (by decide) h.gO h.ef,h.gO,⟨vs,z (by decide) h.ko h1,h2.keep kp (by decide)⟩,h.ko,z (by decide) h.jW h.uw,h.jW,z (by decide) h.jX h.oO,h.jX,z (by decide) h.kP h.jY,h.kP,z (by decide) h.cpu h.qu,h.cpu,z (by decide) h.jZ h.tO,h.jZ,⟨kvs,e1,e2,e3,e4⟩,h.j0,h.ql,
  fun i p q a b=>let ⟨x,y,c,d⟩:=h.opt i p q a b;⟨z (by decide) c x,z (by decide) d y,c,d⟩⟩
theorem adM (w:Wf st) (h:m<=1000000):Wf { st with kn:=m }:=⟨w.yf,w.CA,w.kB,w.sub,w.rows,w.ow,w.jb,w.yg,w.iX,w.vH,w.zT,w.sJ,w.CB,w.wm,w.Ga,w.zU,h,w.big,w.sL,w.vI,w.sM,w.zV,w.uy,w.KZ⟩
theorem pK.length {l:List qt} (h:pK n ρ H vs l):vs.length=l.length:=by
 induction h with
 | nil=>rfl
 | cons _ _ _ _ _ ih=>simp [ih]
theorem pK.get {l:List qt} (h:pK n ρ H vs l):∀{i:Nat} {x:V},vs[i]?=some x->∃r q y ss,x = .ref r/\l[i]?=some y/\H r=some (.tup [.str y.nm, .str y.ow, .int y.wo, .ref q])/\H q=some (.lst ss)/\ρ q=some (n,30,y.nm)/\ja H ss y.sh:=by
 induction h with
 | nil=>intro i x e;simp at e
 | @cons r q y ss vs as a b c d _ ih=>
   intro i x e
   cases i with
   | zero=>simp at e;subst e;exact ⟨r,q,y,ss,Z,Z,a,b,c,d⟩
   | succ i=>simp at e;obtain ⟨r',q',y',ss',e1,e2,e3⟩:=ih e;exact ⟨r',q',y',ss',e1,by simpa using e2,e3⟩
inductive kD (a:Addr) (ρ:fR) (H:Hp):List V->List qt->Prop
 | nil:kD a ρ H [] []
 | cons {r l:Addr} {x:qt} {ss:List V} {vs:List V} {as:List qt}:H r=some (.tup [.str x.nm, .str x.ow, .int x.wo, .ref l])->H l=some (.lst ss)->ρ l=none->l≠a->ja H ss x.sh->kD a ρ H vs as->kD a ρ H (.ref r::vs) (x::as)
theorem kD.to {l:List qt} (h:kD a ρ H vs l):zZ ρ H vs l:=by
 induction h with
 | nil=>exact .nil
 | cons x y z _ w _ ih=>exact .cons x y z w ih
theorem kD.mono {l:List qt} (h:kD a ρ H vs l) (g:aE H H'):kD a ρ H' vs l:=by
 induction h with
 | nil=>exact .nil
 | cons x y z n w _ ih=>exact .cons (g _ _ x) (g _ _ y) z n (w.mono g.tups) ih
theorem kD.upd {l:List qt} (h:kD a ρ H vs l) (ha:H a=some (.lst xs)):kD a ρ (L2.upd H a (.lst ys)) vs l:=by
 induction h with
 | nil=>exact .nil
 | cons x y z n w _ ih=>exact .cons (kW (.inr ⟨_,ha,Z⟩) _ _ x) (by rw [av n];exact y) z n (w.mono (kW (.inr ⟨_,ha,Z⟩))) ih
theorem kD.snoc {as:List qt} {r l:Addr} {x:qt} {ss:List V} (h:kD a ρ H vs as) (e1:H r=some (.tup [.str x.nm, .str x.ow, .int x.wo, .ref l])) (e2:H l=some (.lst ss)) (e3:ρ l=none) (e5:l≠a) (e4:ja H ss x.sh):kD a ρ H (vs++[.ref r]) (as++[x]):=by
 induction h with
 | nil=>exact .cons e1 e2 e3 e5 e4 .nil
 | cons x y z n w _ ih=>exact .cons x y z n w ih
def Sq (K:Fg) (H:Hp) (r:Addr) (xs:List V):Prop:=aC K H r xs\/cR K H r xs
theorem aE.sq {r:Addr} (g:aE H H') (h:Sq K H r xs):Sq K H' r xs:=h.elim (fun z=> .inl (g.seq z)) fun z=> .inr (g.tup z)
structure z6 (K:Fg) (H:Hp) (us:List V) (ps:List Pt):Prop where
 len:us.length=ps.length
 at_:∀(i:Nat) (p:Pt),ps[i]?=some p->∃r xs,us[i]?=some (.ref r)/\Sq K H r xs/\xs[0]?=some (.str p.nm)/\xs[1]?=some (.str p.ow)/\xs[2]?=some (.int p.wo)/\xs[3]?=some (.int p.we)
theorem z6.mono {us:List V} {ps:List Pt} (h:z6 K H us ps) (g:aE H H'):z6 K H' us ps:=⟨h.len,fun i p e=>let ⟨r,xs,a,b,c⟩:=h.at_ i p e;⟨r,xs,a,g.sq b,c⟩⟩
def abd (ps:List Pt):Prop:=∀p∈ps,PyData.strOk p.nm=true/\PyData.strOk p.ow=true
inductive Tq (K:Fg) (vs:List V) (H:Hp) (Q:VK) (E:XK):Prop
 | mk (r l:Addr) (ws us:List V) (ps:List Pt) (_:vs=[.ref r, .ref l]) (_:H r=some (.lst ws)) (_:jO H ws ps) (_:aC K H l us) (_:z6 K H us ps) (_:abd ps) (_:ps.length<=1000) (_:∀H',aE H H'->Q (.bl true) H')
def Eg (K:Fg):Sp:=bx (Tq K)
def fG (own:List Str) (tops:List Int) (b:Int):List (Str×Rat):=(List.zip own tops).filterMap fun x=>if 0<x.2 then some (x.1,Jm.fr x.2 b) else none
inductive Q6 (K:Fg) (vs:List V) (H:Hp) (Q:VK) (E:XK):Prop
 | mk (r lo lt:Addr) (ws:List V) (own:List Str) (tops:List Int) (b:Int) (_:vs=[.ref r, .ref lo, .ref lt, .int b]) (_:H r=some (.lst ws)) (_:ja H ws (fG own tops b)) (_:aC K H lo (own.map V.str)) (_:aC K H lt (tops.map V.int)) (_:own.length=tops.length) (_:own.length<=1000) (_:0<b) (_:Jm.Sz 9000 b) (_:∀H',aE H H'->Q (.bl true) H')
def wu (K:Fg):Sp:=bx (Q6 K)
theorem jO.length {l:List Pt} (h:jO H vs l):vs.length=l.length:=by
 induction h with
 | nil=>rfl
 | cons _ _ ih=>simp [ih]
theorem jO.get {l:List Pt} (h:jO H vs l):∀{i:Nat} {p:Pt},l[i]?=some p->∃r,vs[i]?=some (.ref r)/\H r=some (Be p):=by
 induction h with
 | nil=>intro i p e;simp at e
 | @cons r q vs ps a _ ih=>
   intro i p e
   cases i with
   | zero=>simp at e;subst e;exact ⟨r,Z,a⟩
   | succ i=>simp at e;obtain ⟨r',e1,e2⟩:=ih e;exact ⟨r',by simpa using e1,e2⟩
theorem ja.length {l:List (Str×Rat)} (h:ja H vs l):vs.length=l.length:=by
 induction h with
 | nil=>rfl
 | cons _ _ _ ih=>simp [ih]
theorem ja.get {l:List (Str×Rat)} (h:ja H vs l):∀{i:Nat} {x:Str} {q:Rat},l[i]?=some (x,q)->∃r f,vs[i]?=some (.ref r)/\H r=some (.tup [.str x, .ref f])/\H f=some (pG q):=by
 induction h with
 | nil=>intro i x q e;simp at e
 | @cons r f x q vs l a b _ ih=>
   intro i y p e
   cases i with
   | zero=>simp at e;obtain ⟨rfl,rfl⟩:=e;exact ⟨r,f,Z,a,b⟩
   | succ i=>simp at e;obtain ⟨r',f',e1,e2⟩:=ih e;exact ⟨r',f',by simpa using e1,e2⟩
def Bf (p:Pt):PyData:= .tuple [.str p.nm, .str p.ow, .int p.wo, .int p.we]
theorem O8 {r:Addr} (h:H r=some (Be p)):Dt K H (.ref r) (Bf p):= .tup (cR.of h) (.cons (.str _) (.cons (.str _) (.cons (.int _) (.cons (.int _) .nil))))
theorem BX (h1:PyData.strOk p.nm=true) (h2:PyData.strOk p.ow=true):SeqAt.shaped (Bf p)=true:=by
 unfold Bf SeqAt.shaped
 refine k_.mpr ⟨?_,Z⟩
 simp [PyData.canLay0,PyData.canLayAll0,h1,h2]
theorem V8 (p:Pt):PyData.eqv (Bf p) (Bf p)=true:=by
 unfold Bf
 simp [PyData.eqv,PyData.eqvAll]
def yl (x:Str):Prop:=pJ x.cps.toList
theorem Q7:∀i:Fin 26,D0 "abcdefghijklmnopqrstuvwxyz" (97+i.val)=true:=by decide +kernel
theorem yl.isNm (h:yl x):L2.isNm x=true:=by
 unfold L2.isNm isName
 have h1:=h.lo
 have h2:=h.hi
 refine k_.mpr ⟨k_.mpr ⟨cg (by omega),cg (by omega)⟩,o7.mpr fun c hc=>?_⟩
 have h3:=h.OT c hc
 have:=Q7 ⟨c-97,by omega⟩
 rw [show 97+(c-97)=c from by omega] at this
 exact this
theorem yl.strOk (h:yl x):PyData.strOk x=true:=by
 unfold PyData.strOk
 rw [Array.all_eq_true']
 intro c hc
 have:=h.OT c (by simpa using hc)
 exact cg (by omega)
inductive abe (T:TC) (K:Fg) (vs:List V) (H:Hp) (Q:VK) (E:XK):Prop
 | mk (l:Addr) (own:List Str) (n:Nat) (ρ:fR) (_:vs=[.ref l]) (_:aC K H l (own.map V.str)) (_:ρ l=none) (_:own.Nodup) (_:(∀o∈own,isNm o=true)) (_:own.length<=100) (_:Gh ρ H) (_:∀ρ' A H',HH T n ρ' A H' (own.foldl gC hs0)->Fr n ρ H ρ' H'->Q (.ref A.a) H')
def O9 (T:TC) (K:Fg):Sp:=bx (abe T K)
theorem z7:∀(l:List Str) (st:HS),(l.foldl gC st).own=st.own++l
 | [],st=>by simp
 | o::l,st=>by
   rw [mE,z7 l]
   show (st.own++[o])++l=_
   rw [J7]
   rfl
theorem oS (K:Fg) (hK:X.K=K:=by rfl):yS X (rIx K):=hK▸aak
theorem Sq.ix {r:Addr} {v:V} {Q:VK} (h:Sq K H r xs) (e:xs[i]?=some v) (q:Q v H):rIx K (.ref r) (.int (i:Int)) H Q:=by
 rcases h with h|h
 . exact .inl ⟨r,xs,i,v,Z,Z,h,aQ e,q⟩
 . exact .inr (.inl ⟨r,xs,i,v,Z,Z,h,aQ e,q⟩)
theorem IE {own:List Str} {tops:List Int} {b:Int} (hb:0<b) (hz:Jm.Sz m b) (h:(x,q)∈fG own tops b):Jm.Sz m (q.den:Int):=by
 unfold fG at h
 obtain ⟨y,_,e⟩:=FA.mp h
 by_cases c:0<y.2
 . rw [aB c] at e
   cases e
   refine hz.of_le ?_
   have:=Jm.SH y.2 b hb
   omega
 . rw [az c] at e;cases e
theorem Fr.at (f:Fr n ρ H ρ' H') {b:Addr} (e:H b=some o) (c:ρ b=none):H' b=some o/\ρ' b=none:=by
 obtain ⟨a,d⟩:=f b o e (fun t x=>by rw [c];intro z;cases z)
 exact ⟨a,d.trans c⟩
theorem Fr.seq (f:Fr n ρ H ρ' H') {l:Addr} (h:aC K H l xs) (c:ρ l=none):aC K H' l xs:=by
 rcases h with (h|⟨o,h⟩)|h
 . exact .inl (.inl (f.at h c).1)
 . exact .inl (.inr ⟨o,(f.at h c).1⟩)
 . exact .inr h
theorem Fr.tup {n:Nat} {ρ ρ':fR} {H H':Hp} (f:Fr n ρ H ρ' H') (g:Gh ρ H):∀b xs,H b=some (.tup xs)->H' b=some (.tup xs):=fun b xs e=>(f.at e (g.tup e)).1
def Eh (nss:List (List Nat)):List Str:=nss.map tx
theorem YO (nss:List (List Nat)):rT nss=(Eh nss).map V.str:=by unfold rT Eh;rw [fF];rfl
theorem HP (h:nss.Nodup):(Eh nss).Nodup:=by
 unfold Eh
 exact List.Pairwise.map tx (fun a b hab e=>hab (SY e)) h
theorem Tr (h:∀x∈nss,pJ x):∀o∈Eh nss,yl o:=fun o ho=>by
 obtain ⟨x,hx,rfl⟩:=bM.mp ho
 show pJ (tx x).cps.toList
 rw [show (tx x).cps.toList=x from by simp]
 exact h x hx
theorem O_ (nss:List (List Nat)):(Eh nss).length=nss.length:=by unfold Eh;rw [aF]
theorem V9 (x:Str) (l:List Str):Ht (.str x) (l.map V.str)=decide (x∈l):=by
 have:=OU x.cps.toList (l.map fun y=>y.cps.toList)
 rw [xg] at this
 rw [show rT (l.map fun y=>y.cps.toList)=l.map V.str from by unfold rT;rw [fF];congr 1;] at this
 rw [this]
 congr 1
 refine propext ⟨fun m=>?_,fun m=>bM.mpr ⟨x,m,Z⟩⟩
 obtain ⟨y,hy,e⟩:=bM.mp m
 have:tx y.cps.toList=tx x.cps.toList:=by rw [e]
 rw [xg,xg] at this
 rw [<-this];exact hy
theorem Tt (l:List Str):(l.map V.str).all rm=true:=by
 rw [List.all_map]
 exact o7.mpr fun _ _=>rfl
theorem K_ {l:List Str} {d:Int} (h0:0<=d) (h1:d<(l.length:Int)):∃(j:Nat) (o:Str),d=(j:Int)/\l[j]?=some o/\jU (l.map V.str) d=some (.str o):=by
 obtain ⟨j,rfl⟩:∃j:Nat,d=(j:Int):=⟨d.toNat,by omega⟩
 have hj:j<l.length:=by omega
 exact ⟨j,l[j],Z,aX hj,aQ (by rw [bJ,aX hj];rfl)⟩
section
variable {T:TC} {n:Nat} {L H:Hp} {x lp:Addr} {st:HS} {ps:List Pt}
end
theorem j5 {α:Type} {l:List α} (nd:l.Nodup) {x:α} (h:l[i]?=some x):x∉l.take i:=fun m=>by
 have h2:(l.take (i+1)).Nodup:=nd.sublist (List.take_sublist _ _)
 rw [take_snoc h] at h2
 exact (List.nodup_append.mp h2).2.2 x m x (fU.mpr rfl) rfl
abbrev Row:=Str×Int
def z8 (r:Row):HO:= .tup [.str r.1, .int r.2]
inductive gh (H:Hp):List V->List Row->Prop
 | nil:gh H [] []
 | cons {a:Addr} {r:Row} {vs:List V} {rs:List Row}:H a=some (z8 r)->gh H vs rs->gh H (.ref a::vs) (r::rs)
theorem gh.mono {l:List Row} (h:gh H vs l) (g:∀b xs,H b=some (.tup xs)->H' b=some (.tup xs)):gh H' vs l:=by
 induction h with
 | nil=>exact .nil
 | cons a _ ih=>exact .cons (g _ _ a) ih
theorem gh.length {l:List Row} (h:gh H vs l):vs.length=l.length:=by
 induction h with
 | nil=>rfl
 | cons _ _ ih=>simp [ih]
theorem gh.get {l:List Row} (h:gh H vs l):∀{i:Nat} {x:V},vs[i]?=some x->∃a r,x = .ref a/\l[i]?=some r/\H a=some (z8 r):=by
 induction h with
 | nil=>intro i x e;simp at e
 | @cons a r vs rs e0 _ ih=>
   intro i x e
   cases i with
   | zero=>simp at e;subst e;exact ⟨a,r,Z,Z,e0⟩
   | succ i=>simp at e;obtain ⟨a',r',e1,e2,e3⟩:=ih e;exact ⟨a',r',e1,by simpa using e2,e3⟩
variable {r:Row}
theorem gh.snoc {l:List Row} (h:gh H vs l) (e:H a=some (z8 r)):gh H (vs++[.ref a]) (l++[r]):=by
 induction h with
 | nil=>exact .cons e .nil
 | cons a _ ih=>exact .cons a ih
def gY (rs:List Row):List (Key×V):=rs.map fun r=>((Sum.inr r.1:Key),V.int r.2)
theorem ym (rs:List Row):(gY rs).length=rs.length:=by unfold gY;rw [aF]
variable {rs:List Row}
theorem HQ (h:x∉rs.map (·.1)):d9 (gY rs) (Sum.inr x)=none:=by
 unfold gY
 induction rs with
 | nil=>rfl
 | cons a l ih=>
   rw [bD,eX (fun z=>h (by rw [bD,<-tU z];exact cJ))]
   exact ih fun m=>h (by rw [bD];exact cG _ m)
def bu (rs:List Row):Int:=(rs.map (·.2)).sum
def c5 (st:HS) (x:Str):Pt:=(st.ai.find? fun p=>decide (p.nm=x)).getD ⟨x,x,0,0,1,[]⟩
theorem Pa (nd:(st.ai.map (·.nm)).Nodup) (h:st.ai[i]?=some p):c5 st p.nm=p:=by
 unfold c5
 have:st.ai.find? (fun q=>decide (q.nm=p.nm))=some p:=by
  generalize st.ai=ps at *
  induction ps generalizing i with
  | nil=>simp at h
  | cons a ps ih=>
    obtain ⟨h1,h2⟩:=ia.mp (show (a.nm::ps.map (·.nm)).Nodup from nd)
    cases i with
    | zero=>
      have:a=p:=by simpa using h
      subst this
      rw [tS,cg rfl]
    | succ i=>
      have h':ps[i]?=some p:=by simpa using h
      rw [tS,d_ (fun e=>h1 (bM.mpr ⟨p,bN h',e.symm⟩))]
      exact ih h2 h'
 rw [this]
 rfl
def jF (st:HS) (sums:List Int) (r:Row):List Int:=List.zipWith (fun old own=>old+(r.2*(c5 st r.1).sc)*own) sums (c5 st r.1).row
def fX (st:HS) (rs:List Row):List Int:=rs.foldl (jF st) (st.bR.map fun c=>bu rs*c)
def pL (s:Int) (ts:List Int):Int:=ts.foldl (fun s t=>Jm.cf t s) s
def iL (st:HS) (kept:Int):List Int:=st.ai.map fun p=>p.sc*kept
def fV (st:HS) (kept:Int) (added:List Int):List Int:=List.zipWith (fun t m=>t*kept+m) st.bR added
def c7 (st:HS) (kept whole:Int) (added:List Int):Int:=pL whole (iL st kept++fV st kept added)
def fP (st:HS) (s:Int):HS:=if 1<s then { st with stp:=st.stp++[s],prod:=st.prod*s,kn:=0 } else st
def cS (st:HS) (kept whole:Int) (added:List Int):HS:=
 fP { st with ai:=st.ai.map (fun p=>{ p with sc:=p.sc*kept / c7 st kept whole added }),bR:=(fV st kept added).map (· / c7 st kept whole added),dg:=st.dg.map (·*(whole / c7 st kept whole added)) } (whole / c7 st kept whole added)
def jP (ps:List Pt) (x:Str) (a:Int):List Pt:=(ps.map fun p=>if p.nm=x then { p with wo:=p.wo-a } else p).filter fun p=>decide (p.wo≠0)
def fH (st:HS) (r:Row):HS:={ st with ai:=jP st.ai r.1 r.2 }
def kF (st:HS) (rs:List Row):HS:=rs.foldl fH (cS st (bK st-bu rs) (bK st) (fX st rs))
inductive ag9 (vs:List V) (H:Hp) (Q:VK) (E:XK):Prop
 | mk (a:Int) (_:vs=[.int a]) (_:1<=a) (_:Q .bZ H)
def adN:Sp:=bx (ag9)
inductive ag_ (vs:List V) (H:Hp) (Q:VK) (E:XK):Prop
 | mk (m a:Int) (_:vs=[.int m, .int a]) (_:1<=a) (_:a<=m) (_:Q .bZ H)
def Xk:Sp:=bx (ag_)
inductive adO (K:Fg) (vs:List V) (H:Hp) (Q:VK) (E:XK):Prop
 | mk (l:Addr) (us:List V) (rs:List Row) (_:vs=[.ref l]) (_:aC K H l us) (_:gh H us rs) (_:(rs.map (·.1)).Nodup) (_:rs≠[]) (_:rs.length<=1000) (_:∀d H',aE H H'->H d=none->H' d=some (.dK (gY rs))->Q (.ref d) H')
def Tu (K:Fg):Sp:=bx (adO K)
inductive adP (K:Fg) (vs:List V) (H:Hp) (Q:VK) (E:XK):Prop
 | mk (s:Int) (l:Addr) (ts:List Int) (_:vs=[.int s, .ref l]) (_:aC K H l (ts.map V.int)) (_:0<=s) (_:(∀t∈ts,0<=t)) (_:Q (.int (pL s ts)) H)
def Tv (K:Fg):Sp:=bx (adP K)
inductive adQ (T:TC) (vs:List V) (H:Hp) (Q:VK) (E:XK):Prop
 | mk (n ρ A st s:_) (_:vs=[.ref A.bt, .int s]) (_:Gh ρ H) (_:aY T n ρ A H st) (_:st.stp.length<=1000) (_:Jm.Sz 9000 st.prod) (_:Jm.Sz 9000 s) (_:∀ρ' A' H',Gh ρ' H'->aY T n ρ' A' H' (fP st s:_)->A'.a=A.a->Fr n ρ H ρ' H'->Q .bZ H')
def Tw (T:TC):Sp:=bx (adQ T)
inductive abf (T:TC) (vs:List V) (H:Hp) (Q:VK) (E:XK):Prop
 | mk (n ρ A st:_) (d:Addr) (rs:List Row) (_:vs=[.ref A.a, .ref d]) (_:aY T n ρ A H st) (_:Wf st) (_:H d=some (.dK (gY rs))) (_:ρ d=none) (_:rs.length<=1000) (_:(∀r∈rs,Jm.Sz 60 r.2/\∃p∈st.ai,p.nm=r.1)) (_:∀l H',aE H H'->H l=none->H' l=some (.lst ((fX st rs).map V.int))->Q (.ref l) H')
def Pb (T:TC):Sp:=bx (abf T)
inductive abg (T:TC) (K:Fg) (vs:List V) (H:Hp) (Q:VK) (E:XK):Prop
 | mk (n ρ A st:_) (kept whole:Int) (l:Addr) (added:List Int) (_:vs=[.ref A.a, .int kept, .int whole, .ref l]) (_:HH T n ρ A H st) (_:aC K H l (added.map V.int)) (_:added.length=st.bR.length) (_:0<kept) (_:0<whole) (_:Jm.Sz 60 kept) (_:Jm.Sz 60 whole) (_:(∀m∈added,0<=m/\Jm.Sz 8900 m)) (_:(∀u∈st.dg,Jm.Sz 8900 u)) (_:st.stp.length<100) (_:Wf (cS st kept whole added)) (_:Bc T n ρ A H (cS st kept whole added:_) fun H'=>Q .bZ H')
def Pc (T:TC) (K:Fg):Sp:=bx (abg T K)
inductive adR (T:TC) (vs:List V) (H:Hp) (Q:VK) (E:XK):Prop
 | mk (n ρ A st:_) (r:Row) (_:vs=[.ref A.a, .str r.1, .int r.2]) (_:HH T n ρ A H st) (_:(∃p∈st.ai,p.nm=r.1/\r.2<=p.wo)) (_:Wf (fH st r)) (_:Bc T n ρ A H (fH st r:_) fun H'=>Q .bZ H')
def La (T:TC):Sp:=bx (adR T)
structure pM (st:HS) (rs:List Row):Prop where
 nd:(rs.map (·.1)).Nodup
 ne:rs≠[]
 len:rs.length<=1000
 row:∀r∈rs,1<=r.2/\Jm.Sz 60 r.2/\∃p∈st.ai,p.nm=r.1/\r.2<=p.wo
 lost:bu rs<bK st
 big:Jm.Sz 60 (bK st)
 prod:Jm.Sz 7900 st.prod
 dg:∀u∈st.dg,Jm.Sz 8900 u
 stp:st.stp.length<100
inductive adS (T:TC) (K:Fg) (vs:List V) (H:Hp) (Q:VK) (E:XK):Prop
 | mk (n ρ A st:_) (l:Addr) (us:List V) (rs:List Row) (_:vs=[.ref A.a, .ref l]) (_:HH T n ρ A H st) (_:aC K H l us) (_:gh H us rs) (_:pM st rs) (_:Bc T n ρ A H (kF st rs:_) fun H'=>Q .bZ H')
def Tz (T:TC) (K:Fg):Sp:=bx (adS T K)
theorem Lb:∀{ps:List Pt} {qs:List (Addr×Addr×Addr)} {i:Nat} {p:Pt},(ps.map (·.nm)).Nodup->qs.length=ps.length->ps[i]?=some p->nG (cX ps qs) (Sum.inr p.nm)=cX (ps.eraseIdx i) (qs.eraseIdx i)
 | [],_,_,_,_,_,h=>by simp at h
 | _::_,[],_,_,_,hl,_=>by simp at hl
 | a::ps,b::qs,0,p,nd,hl,h=>by
   have e:a=p:=by simpa using h
   subst e
   obtain ⟨h1,h2⟩:=ia.mp (show (a.nm::ps.map (·.nm)).Nodup from nd)
   show nG ((Sum.inr a.nm,V.ref b.1)::cX ps qs) (Sum.inr a.nm)=cX ps qs
   unfold nG
   rw [iF,az (by simp)]
   refine List.filter_eq_self.mpr fun kv hkv=>?_
   unfold cX at hkv
   obtain ⟨x,hx,y,hy,rfl⟩:=yi hkv
   exact cg fun z=>h1 (bM.mpr ⟨x,hx,tU z⟩)
 | a::ps,b::qs,i+1,p,nd,hl,h=>by
   obtain ⟨h1,h2⟩:=ia.mp (show (a.nm::ps.map (·.nm)).Nodup from nd)
   have h':ps[i]?=some p:=by simpa using h
   have ih:=Lb h2 (by simpa using hl) h'
   show nG ((Sum.inr a.nm,V.ref b.1)::cX ps qs) (Sum.inr p.nm)=(Sum.inr a.nm,V.ref b.1)::cX (ps.eraseIdx i) (qs.eraseIdx i)
   rw [<-ih]
   unfold nG
   have hne:¬ (Sum.inr a.nm:Key)=Sum.inr p.nm:=fun z=>h1 (bM.mpr ⟨p,bN h',(tU z).symm⟩)
   rw [iF,aB (by simpa using fun e:a.nm=p.nm=>hne (by rw [e]))]
theorem Lc:∀{ps:List Pt} {i:Nat} {p:Pt} {a:Int},(ps.map (·.nm)).Nodup->(∀q∈ps,q.wo≠0)->ps[i]?=some p->jP ps p.nm a=if p.wo-a=0 then ps.eraseIdx i else ps.set i { p with wo:=p.wo-a }
 | [],_,_,_,_,_,h=>by simp at h
 | x::ps,0,p,a,nd,hw,h=>by
   have e:x=p:=by simpa using h
   subst e
   obtain ⟨h1,h2⟩:=ia.mp (show (x.nm::ps.map (·.nm)).Nodup from nd)
   have rest:jP ps x.nm a=ps:=by
    unfold jP
    rw [show (ps.map fun p=>if p.nm=x.nm then { p with wo:=p.wo-a } else p)=ps from by
     conv=>rhs;rw [<-List.map_id ps]
     exact Ck fun y hy=>az fun z=>h1 (bM.mpr ⟨y,hy,z⟩)]
    exact List.filter_eq_self.mpr fun y hy=>cg (hw y (cG _ hy))
   show ((x::ps).map fun p=>if p.nm=x.nm then { p with wo:=p.wo-a } else p).filter _=_
   rw [bD,aB rfl,iF]
   by_cases c:x.wo-a=0
   . rw [aB c,az (by simp [c])]
     exact rest
   . rw [az c,aB (by simpa using c)]
     show _::jP ps x.nm a=_
     rw [rest]
     rfl
 | x::ps,i+1,p,a,nd,hw,h=>by
   obtain ⟨h1,h2⟩:=ia.mp (show (x.nm::ps.map (·.nm)).Nodup from nd)
   have h':ps[i]?=some p:=by simpa using h
   have ih:=Lc (a:=a) h2 (fun q hq=>hw q (cG _ hq)) h'
   have xn:¬ x.nm=p.nm:=fun z=>h1 (bM.mpr ⟨p,bN h',z.symm⟩)
   show ((x::ps).map fun q=>if q.nm=p.nm then { q with wo:=q.wo-a } else q).filter _=_
   rw [bD,az xn,iF,aB (cg (hw x cJ))]
   show x::jP ps p.nm a=_
   rw [ih]
   by_cases c:p.wo-a=0
   . rw [aB c,aB c];rfl
   . rw [az c,az c];rfl
theorem vJ {α:Type}:∀{l:List α} {i:Nat} {x:α},l[i]?=some x->l.set i x=l
 | [],_,_,h=>by simp at h
 | a::l,0,x,h=>by
   have:a=x:=by simpa using h
   rw [this];rfl
 | a::l,i+1,x,h=>by rw [J5,vJ (by simpa using h)]
theorem Ld {α β:Type} {l:List α} {m:List β} {x:α} {y:β} (h1:(l.eraseIdx i)[j]?=some x) (h2:(m.eraseIdx i)[j]?=some y):∃k:Nat,l[k]?=some x/\m[k]?=some y:=by
 rw [List.getElem?_eraseIdx] at h1 h2
 by_cases c:j<i
 . rw [aB c] at h1 h2;exact ⟨j,h1,h2⟩
 . rw [az c] at h1 h2;exact ⟨j+1,h1,h2⟩
theorem z9:∀(ts:List Int) (s:Int),pL s ts∣s/\∀t∈ts,pL s ts∣t
 | [],s=>⟨Int.dvd_refl _,fun _ h=>absurd h (by simp)⟩
 | t::ts,s=>by
   obtain ⟨h1,h2⟩:=z9 ts (Jm.cf t s)
   refine ⟨Int.dvd_trans h1 (Jm.pD t s),fun u hu=>?_⟩
   rcases c_.mp hu with rfl|hu
   . exact Int.dvd_trans h1 (Jm.rB u s)
   . exact h2 u hu
theorem z_:∀(ts:List Int) (s:Int),0<s->0<pL s ts
 | [],_,h=>h
 | t::ts,s,h=>z_ ts _ (Jm.DS t s (.inr h))
theorem HR {A:HA} (h:aY T n ρ A H st) (g:Gh ρ H) (c:ρ a=none) (e:H a=some o) (ht:isTup o=false):
  aY T n (cK ρ a (n,t,⟨#[]⟩)) A H st/\Gh (cK ρ a (n,t,⟨#[]⟩)) H:=
 ⟨h.same ⟨fun _ _ e=>e,fun b u x w _ hc he=>⟨he,by rw [cy (fun z=>by rw [z,c] at hc;cases hc)];exact hc⟩⟩,g.color e ht⟩
theorem Fr.yo (f:Fr n ρ H ρ' H') (h:H a=none):Fr n ρ H (cK ρ' a (n,t,x)) H':=fun b o e k=>by
 obtain ⟨e1,e2⟩:=f b o e k
 exact ⟨e1,by rw [cy (aI e h)];exact e2⟩
theorem HU {d a b:Int} (hd:0<d) (h:a<=d*b):a / d<=b:=by
 have:=Int.ediv_le_ediv hd h
 rwa [Ft _ (by omega)] at this
theorem Ei {s:Int} (h:1<=s):(fP st s).prod=st.prod*s:=by
 unfold fP
 by_cases c:1<s
 . rw [aB c]
 . rw [az c,show s=1 by omega,Int.mul_one]
theorem Aa (st:HS) (s:Int):(fP st s).ai=st.ai:=by unfold fP;split <;> rfl
theorem TF (st:HS) (s:Int):(fP st s).bR=st.bR:=by unfold fP;split <;> rfl
theorem TH (st:HS) (s:Int):(fP st s).dg=st.dg:=by unfold fP;split <;> rfl
theorem TJ (st:HS) (s:Int):(fP st s).own=st.own:=by unfold fP;split <;> rfl
theorem TL (st:HS) (s:Int):(fP st s).nms=st.nms:=by unfold fP;split <;> rfl
theorem TM (st:HS) (s:Int):(fP st s).kj=st.kj:=by unfold fP;split <;> rfl
theorem ju {α β γ:Type} {f:α->β->γ} {t:γ}:∀{xs:List α} {ys:List β},t∈List.zipWith f xs ys->∃(i:Nat) (x:α) (y:β),xs[i]?=some x/\ys[i]?=some y/\t=f x y:=fun {xs ys} h=>by
 obtain ⟨i,hi,e⟩:=qx h
 rw [qw] at hi
 have h1:i<xs.length:=by omega
 have h2:i<ys.length:=by omega
 exact ⟨i,xs[i],ys[i],aX h1,aX h2,by rw [<-e,List.getElem_zipWith]⟩
theorem Pd {α β γ:Type} {f:α->β->γ} {xs:List α} {ys:List β} {x:α} {y:β} (h1:xs[i]?=some x) (h2:ys[i]?=some y):(List.zipWith f xs ys)[i]?=some (f x y):=by
 rw [Qj,h1,h2]
theorem CG {a b c:Int} (h:a<=b) (hc:0<=c):a*c<=b*c:=RZ h hc
structure t9 (st:HS) (kept whole lost:Int) (added:List Int):Prop where
 k:0<kept
 l:0<=lost
 w:whole=kept+lost
 len:added.length=st.bR.length
 add:∀m∈added,0<=m/\m<=lost*st.prod
 prod:Jm.Sz 7900 st.prod
 big:Jm.Sz 60 whole
 dg:∀u∈st.dg,Jm.Sz 8900 u
 stp:st.stp.length<100
variable {lost:Int} {added:List Int}
theorem t9.dvds {kept whole:Int} (b:t9 st kept whole lost added):
  0<c7 st kept whole added/\c7 st kept whole added∣whole/\(∀p∈st.ai,c7 st kept whole added∣p.sc*kept)/\∀c∈fV st kept added,c7 st kept whole added∣c:=by
 have hw:0<whole:=by have:=b.k;have:=b.l;have:=b.w;omega
 have d:=z9 (iL st kept++fV st kept added) whole
 exact ⟨z_ _ _ hw,d.1,fun p hp=>d.2 _ (Fw _ (bM.mpr ⟨p,hp,Z⟩)),fun c hc=>d.2 _ (jE _ hc)⟩
theorem V_ {kept whole:Int} (wf:Wf st) (b:t9 st kept whole lost added):Wf (cS st kept whole added):=by
 obtain ⟨hs,hsw,pC,hsc⟩:=b.dvds
 have hk:=b.k
 have hl:=b.l
 have hw:=b.w
 have p1:=wf.iX
 have eB:cS st kept whole added=fP { st with ai:=st.ai.map (fun p=>{ p with sc:=p.sc*kept / c7 st kept whole added }),bR:=(fV st kept added).map (· / c7 st kept whole added),dg:=st.dg.map (·*(whole / c7 st kept whole added)) } (whole / c7 st kept whole added):=rfl
 rw [eB]
 generalize c7 st kept whole added=d at *
 obtain ⟨s,es⟩:=hsw
 have hs1:1<=s:=by
  rcases Int.lt_trichotomy s 0 with z|z|z
  . have:=Int.mul_neg_of_pos_of_neg hs z;omega
  . rw [z,Int.mul_zero] at es;omega
  . omega
 have ed:whole / d=s:=by rw [es,Ft _ (by omega)]
 rw [ed]
 have aj_:s<=whole:=by rw [es];have:=RZ (show 1<=d by omega) (show 0<=s by omega);omega
 have zs:Jm.Sz 60 s:=b.big.of_le (by omega)
 have zp:Jm.Sz 8000 (st.prod*s):=(b.prod.mul zs).mono (by decide)
 have pp:st.prod<=st.prod*s:=by have:=G_ hs1 (show 0<=st.prod by omega);omega
 have Wa:∀c∈(fV st kept added).map (· / d),0<=c/\c<=st.prod*s:=fun c hc=>by
  obtain ⟨x,hx,rfl⟩:=bM.mp hc
  obtain ⟨i,t,m,et,em,rfl⟩:=ju (show x∈List.zipWith (fun t m=>t*kept+m) st.bR added from hx)
  have ht:=wf.sL t (bN et)
  have hm:=b.add m (bN em)
  have a1:0<=t*kept:=nE ht.1 (by omega)
  have a2:t*kept<=st.prod*kept:=CG ht.2 (by omega)
  have a3:st.prod*kept+lost*st.prod=d*(st.prod*s):=by
   rw [q_ lost,<-o9,<-hw,es,<-jK,<-jK,q_ st.prod d]
  exact ⟨Int.ediv_nonneg (by omega) (by omega),HU hs (by omega)⟩
 have sc':∀p∈st.ai,1<=p.sc*kept / d/\p.sc*kept / d<=st.prod*s/\d*(p.sc*kept / d)=p.sc*kept:=fun p hp=>by
  have h0:=wf.vI p hp
  obtain ⟨z,ez⟩:=pC p hp
  have a1:0<p.sc*kept:=Int.mul_pos (by omega) hk
  have ez':p.sc*kept / d=z:=by rw [ez,Ft _ (by omega)]
  have hz:1<=z:=by
   rcases Int.lt_trichotomy z 0 with y|y|y
   . have:=Int.mul_neg_of_pos_of_neg hs y;omega
   . rw [y,Int.mul_zero] at ez;omega
   . omega
  have a2:p.sc*kept<=st.prod*kept:=CG h0.2 (by omega)
  have a3:st.prod*kept<=st.prod*whole:=G_ (by omega) (by omega)
  have a4:st.prod*whole=d*(st.prod*s):=by rw [es,<-jK,<-jK,q_ st.prod d]
  refine ⟨by rw [ez'];exact hz,HU hs (by omega),by rw [ez',ez]⟩
 have P:∀{M:Pt->Prop},(∀p∈st.ai,M { p with sc:=p.sc*kept / d })->∀p∈st.ai.map (fun p=>{ p with sc:=p.sc*kept / d }),M p:=fun h p hp=>by
  obtain ⟨x,hx,rfl⟩:=bM.mp hp
  exact h x hx
 have top':∀p∈st.ai,∀t∈List.zipWith (fun r c=>(p.sc*kept / d)*r+c) p.row ((fV st kept added).map (· / d)),0<=t/\t<=st.prod*s:=fun p hp t ht=>by
  obtain ⟨i,r,c,er,ec,rfl⟩:=ju ht
  rw [bJ] at ec
  obtain ⟨x,ex,rfl⟩:=lP.mp ec
  obtain ⟨y,ey⟩:=hsc x (bN ex)
  have eyd:x / d=y:=by rw [ey,Ft _ (by omega)]
  have ex':(List.zipWith (fun t m=>t*kept+m) st.bR added)[i]?=some x:=ex
  rw [Qj] at ex'
  cases e1:st.bR[i]? with
  | none=>rw [e1] at ex';simp at ex'
  | some t0=>
    cases e2:added[i]? with
    | none=>rw [e1,e2] at ex';simp at ex'
    | some m=>
      rw [e1,e2] at ex'
      have ex2:t0*kept+m=x:=by simpa using ex'
      have hm:=b.add m (bN e2)
      have hT:=wf.zV p hp (p.sc*r+t0) (bN (Pd (f:=fun r c=>p.sc*r+c) er e1))
      have hz:=(sc' p hp).2.2
      have key:d*((p.sc*kept / d)*r+x / d)=(p.sc*r+t0)*kept+m:=by
       rw [o9,<-jK,hz,eyd,<-ey,<-ex2]
       rw [AU,jK,jK,q_ kept r]
       omega
      have k1:0<=(p.sc*r+t0)*kept:=nE hT.1 (by omega)
      have k2:(p.sc*r+t0)*kept<=st.prod*kept:=CG hT.2 (by omega)
      have a3:st.prod*kept+lost*st.prod=d*(st.prod*s):=by
       rw [q_ lost,<-o9,<-hw,es,<-jK,<-jK,q_ st.prod d]
      generalize (p.sc*kept / d)*r+x / d=W at *
      constructor
      . rcases Dy W 0 with z|z
        . have:=Int.mul_neg_of_pos_of_neg hs z;omega
        . exact z
      . have:d*W<=d*(st.prod*s):=by omega
        exact Int.le_of_mul_le_mul_left this hs
 have nm':(st.ai.map (fun p:Pt=>{ p with sc:=p.sc*kept / d })).map (fun p:Pt=>p.nm)=st.ai.map (fun p:Pt=>p.nm):=by rw [fF];rfl
 have e0:(fV st kept added).length=st.bR.length:=by unfold fV;rw [qw,b.len];omega
 have pu':∀u∈st.dg.map (·*s),Jm.Sz 9000 u:=fun u hu=>by
  obtain ⟨x,hx,rfl⟩:=bM.mp hu
  exact ((b.dg x hx).mul zs).mono (by decide)
 have abh:∀p∈st.ai,∀r∈p.row,-(st.prod*s)<=r/\r<=st.prod*s:=fun p hp r hr=>by have:=wf.sM p hp r hr;omega
 unfold fP
 by_cases c:1<s
 . rw [aB c]
   refine ⟨wf.yf,wf.CA,by rw [nm'];exact wf.kB,P wf.sub,P wf.rows,P wf.ow,?_,?_,by show 1<=st.prod*s;omega,?_,fun x hx=>?_,wf.sJ,wf.CB,?_,?_,wf.zU,f_ _,zp,Wa,P fun p hp=>⟨(sc' p hp).1,(sc' p hp).2.1⟩,P abh,P top',P wf.uy,pu'⟩
   . show (List.map _ (fV st kept added)).length=_
     rw [aF,e0,wf.jb]
   . show (List.map _ st.dg).length=_
     rw [aF,wf.yg]
   . show st.prod*s=(st.stp++[s]).foldl (·*·) 1
     rw [YN,<-wf.vH]
   . rcases fZ.mp (show x∈st.stp++[s] from hx) with z|z
     . exact wf.zT x z
     . rw [fU.mp z];omega
   . show (List.map _ st.ai).length<=1000
     rw [aF];exact wf.wm
   . show (st.stp++[s]).length<=100
     rw [di];exact b.stp
 . rw [az c]
   have e1:s=1:=by omega
   subst e1
   rw [Int.mul_one] at Wa sc' abh top'
   refine ⟨wf.yf,wf.CA,by rw [nm'];exact wf.kB,P wf.sub,P wf.rows,P wf.ow,?_,?_,wf.iX,wf.vH,wf.zT,wf.sJ,wf.CB,?_,wf.Ga,wf.zU,wf.Tg,wf.big,Wa,P fun p hp=>⟨(sc' p hp).1,(sc' p hp).2.1⟩,P wf.sM,P fun p hp t ht=>?_,P wf.uy,pu'⟩
   . show (List.map _ (fV st kept added)).length=_
     rw [aF,e0,wf.jb]
   . show (List.map _ st.dg).length=_
     rw [aF,wf.yg]
   . show (List.map _ st.ai).length<=1000
     rw [aF];exact wf.wm
   . exact top' p hp t ht
def yp (st:HS) (acc:List Int) (rs:List Row):List Int:=rs.foldl (fun s r=>List.zipWith (fun x t=>x+r.2*t) s (b_ st (c5 st r.1))) acc
theorem HV:∀(acc bR row:List Int) (a sc L:Int),List.zipWith (fun old own=>old+(a*sc)*own) (List.zipWith (fun s c=>s+(a+L)*c) acc bR) row=List.zipWith (fun s c=>s+L*c) (List.zipWith (fun x t=>x+a*t) acc (List.zipWith (fun r c=>sc*r+c) row bR)) bR
 | [],_,_,_,_,_=>by simp
 | _::_,[],_,_,_,_=>by simp
 | _::_,_::_,[],_,_,_=>by simp
 | x::acc,c::bR,r::row,a,sc,L=>by
   simp only [v5]
   rw [HV acc bR row a sc L]
   congr 1
   grind
theorem Le {st:HS}:∀(rs:List Row) (acc:List Int),rs.foldl (jF st) (List.zipWith (fun s c=>s+bu rs*c) acc st.bR)=List.zipWith (fun s c=>s+0*c) (yp st acc rs) st.bR
 | [],acc=>by show List.zipWith _ acc st.bR=_;rfl
 | r::rs,acc=>by
   rw [mE]
   have e:jF st (List.zipWith (fun s c=>s+bu (r::rs)*c) acc st.bR) r=List.zipWith (fun s c=>s+bu rs*c) (List.zipWith (fun x t=>x+r.2*t) acc (b_ st (c5 st r.1))) st.bR:=by
    unfold jF
    rw [show bu (r::rs)=r.2+bu rs from by unfold bu;rw [bD,cU]]
    exact HV acc st.bR (c5 st r.1).row r.2 (c5 st r.1).sc (bu rs)
   rw [e,Le rs]
   rfl
theorem HW:∀(l:List Int) (L:Int),List.zipWith (fun s c=>s+L*c) (List.replicate l.length 0) l=l.map fun c=>L*c
 | [],_=>rfl
 | x::l,L=>by
   rw [mU,Cj,v5,HW l L,Int.zero_add]
   rfl
theorem Lf:∀(s l:List Int),s.length<=l.length->List.zipWith (fun s c=>s+0*c) s l=s
 | [],_,_=>by simp
 | _::_,[],h=>by simp at h
 | x::s,c::l,h=>by
   rw [v5,Lf s l (by simpa using h),Int.zero_mul,Int.add_zero]
theorem Ab {st:HS}:∀(rs:List Row) (acc:List Int),(∀r∈rs,(b_ st (c5 st r.1)).length=acc.length)->(yp st acc rs).length=acc.length
 | [],_,_=>rfl
 | r::rs,acc,h=>by
   have e:(List.zipWith (fun x t=>x+r.2*t) acc (b_ st (c5 st r.1))).length=acc.length:=by rw [qw,h r cJ];omega
   show (yp st (List.zipWith (fun x t=>x+r.2*t) acc (b_ st (c5 st r.1))) rs).length=_
   rw [Ab rs _ (fun x hx=>by rw [e];exact h x (cG _ hx)),e]
theorem BY {st:HS} (hP:0<=st.prod):∀(rs:List Row) (acc:List Int) (B:Int),(∀r∈rs,0<=r.2/\∀t∈b_ st (c5 st r.1),0<=t/\t<=st.prod)->(∀x∈acc,0<=x/\x<=B)->∀x∈yp st acc rs,0<=x/\x<=B+bu rs*st.prod
 | [],acc,B,_,ha,x,hx=>by
   have:=ha x hx
   show 0<=x/\x<=B+0*st.prod
   omega
 | r::rs,acc,B,h,ha,x,hx=>by
   have hr:=h r cJ
   have:=BY hP rs (List.zipWith (fun x t=>x+r.2*t) acc (b_ st (c5 st r.1))) (B+r.2*st.prod) (fun y hy=>h y (cG _ hy)) (fun y hy=>by
    obtain ⟨i,a,t,ea,et,rfl⟩:=ju hy
    have h1:=ha a (bN ea)
    have h2:=hr.2 t (bN et)
    have h3:0<=r.2*t:=nE hr.1 h2.1
    have h4:r.2*t<=r.2*st.prod:=G_ h2.2 hr.1
    omega) x hx
   rw [show bu (r::rs)=r.2+bu rs from by unfold bu;rw [bD,cU],AU]
   omega
theorem yq (wf:Wf st) (h:p∈st.ai):(b_ st p).length=st.bR.length:=by
 unfold b_
 rw [qw,wf.rows p h,wf.jb]
 omega
theorem jG (wf:Wf st) (h:p∈st.ai) (e:p.nm=x):c5 st x=p:=by
 obtain ⟨i,hi,ei⟩:=qx h
 rw [<-e]
 exact Pa wf.kB (i:=i) (by rw [aX hi,ei])
theorem HX (wf:Wf st) (h:∀r∈rs,∃p∈st.ai,p.nm=r.1):fX st rs=yp st (List.replicate st.bR.length 0) rs:=by
 unfold fX
 rw [<-HW st.bR (bu rs),Le]
 refine Lf _ _ ?_
 rw [Ab rs _ (fun r hr=>by
  obtain ⟨p,hp,e⟩:=h r hr
  rw [jG wf hp e,mS,yq wf hp]),mS]
 exact aP _
theorem TN (wf:Wf st) (h:∀r∈rs,1<=r.2/\∃p∈st.ai,p.nm=r.1):(fX st rs).length=st.bR.length/\∀m∈fX st rs,0<=m/\m<=bu rs*st.prod:=by
 rw [HX wf (fun r hr=>(h r hr).2)]
 have p1:=wf.iX
 constructor
 . rw [Ab rs _ (fun r hr=>by
    obtain ⟨p,hp,e⟩:=(h r hr).2
    rw [jG wf hp e,mS,yq wf hp]),mS]
 . intro m hm
   have:=BY (st:=st) (by omega) rs (List.replicate st.bR.length 0) 0 (fun r hr=>by
    obtain ⟨h1,p,hp,e⟩:=h r hr
    refine ⟨by omega,?_⟩
    rw [jG wf hp e]
    exact wf.zV p hp) (fun x hx=>by rw [(List.mem_replicate.mp hx).2];omega) m hm
   omega
theorem Q8 {ps:List Pt} {a:Int} (h:p∈ps) (hn:p.nm≠x) (hw:p.wo≠0):p∈jP ps x a:=
 nC.mpr ⟨bM.mpr ⟨p,h,by rw [az hn]⟩,cg hw⟩
theorem yr {ps:List Pt} {a:Int} (h:p∈jP ps x a):p.wo≠0/\∃q∈ps,p=if q.nm=x then { q with wo:=q.wo-a } else q:=by
 obtain ⟨h1,h2⟩:=nC.mp h
 obtain ⟨q,hq,e⟩:=bM.mp h1
 exact ⟨dO h2,q,hq,e.symm⟩
theorem Ej {ps:List Pt} {a:Int}:((jP ps x a).map (fun p:Pt=>p.nm)).Sublist (ps.map (fun p:Pt=>p.nm)):=by
 unfold jP
 have e:(ps.map fun p=>if p.nm=x then { p with wo:=p.wo-a } else p).map (fun p:Pt=>p.nm)=ps.map (fun p:Pt=>p.nm):=by
  rw [fF]
  exact Ck fun p _=>by show (if p.nm=x then _ else p:Pt).nm=p.nm;split <;> rfl
 rw [<-e]
 exact List.filter_sublist.map _
theorem Pe (wf:Wf st) (h:∀p∈st.ai,p.nm=r.1->r.2<=p.wo):Wf (fH st r):=by
 have P:∀{M:Pt->Prop},(∀p∈st.ai,M p)->(∀(p:Pt) (w:Int),M p->M { p with wo:=w })->∀p∈jP st.ai r.1 r.2,M p:=fun h1 h2 p hp=>by
  obtain ⟨_,q,hq,e⟩:=yr hp
  rw [e]
  split
  . exact h2 _ _ (h1 q hq)
  . exact h1 q hq
 refine ⟨wf.yf,wf.CA,wf.kB.sublist Ej,P wf.sub (fun _ _ z=>z),P wf.rows (fun _ _ z=>z),P wf.ow (fun _ _ z=>z),wf.jb,wf.yg,wf.iX,wf.vH,wf.zT,wf.sJ,wf.CB,?_,wf.Ga,wf.zU,wf.Tg,wf.big,wf.sL,P wf.vI (fun _ _ z=>z),P wf.sM (fun _ _ z=>z),P wf.zV (fun _ _ z=>z),fun p hp=>?_,wf.KZ⟩
 . have:=Ej (ps:=st.ai) (x:=r.1) (a:=r.2) |>.length_le
   rw [aF,aF] at this
   exact fq this wf.wm
 . obtain ⟨h0,q,hq,e⟩:=yr hp
   have:=wf.uy q hq
   by_cases c:q.nm=r.1
   . rw [aB c] at e
     subst e
     have:=h q hq c
     have h0:q.wo-r.2≠0:=h0
     exact ⟨by show 1<=q.wo-r.2;omega,by show 0<=q.we;omega⟩
   . rw [az c] at e
     rw [e];exact this
def Due (st:HS) (rs:List Row):Prop:=∀r∈rs,∃p∈st.ai,p.nm=r.1/\r.2<=p.wo
theorem Ge (wf:Wf st) {q:Pt} (hp:p∈st.ai) (hq:q∈st.ai) (e:p.nm=q.nm):p=q:=(jG wf hp rfl).symm.trans (by rw [e];exact jG wf hq rfl)
theorem abi (wf:Wf st) (d:Due st (r::rs)):Wf (fH st r):=by
 obtain ⟨p,hp,e,hle⟩:=d r cJ
 exact Pe wf fun q hq eq=>by rw [Ge wf hq hp (eq.trans e.symm)];exact hle
theorem Wb (wf:Wf st) (d:Due st (r::rs)) (nd:((r::rs).map (fun r:Row=>r.1)).Nodup):Due (fH st r) rs:=fun x hx=>by
 obtain ⟨p,hp,e,hle⟩:=d x (cG _ hx)
 have hn:p.nm≠r.1:=fun z=>(ia.mp nd).1 (bM.mpr ⟨x,hx,e.symm.trans z⟩)
 have:=wf.uy p hp
 exact ⟨p,Q8 hp hn (by omega),e,hle⟩
theorem TQ {kept whole:Int} (d:Due st rs):Due (cS st kept whole added) rs:=fun r hr=>by
 obtain ⟨p,hp,e,hle⟩:=d r hr
 refine ⟨{ p with sc:=p.sc*kept / c7 st kept whole added },?_,e,hle⟩
 unfold cS
 rw [Aa]
 exact bM.mpr ⟨p,hp,Z⟩
theorem pM.due (c:pM st rs):Due st rs:=fun r hr=>(c.row r hr).2.2
theorem CH:∀{rs:List Row},(∀r∈rs,1<=r.2)->0<=bu rs
 | [],_=>jL _
 | r::rs,h=>by
   have:=h r cJ
   have:=CH (rs:=rs) fun x hx=>h x (cG _ hx)
   rw [show bu (r::rs)=r.2+bu rs from by unfold bu;rw [bD,cU]]
   omega
theorem pM.blend (wf:Wf st) (c:pM st rs):t9 st (bK st-bu rs) (bK st) (bu rs) (fX st rs):=by
 have g:=TN wf (rs:=rs) (fun r hr=>⟨(c.row r hr).1,by obtain ⟨p,hp,e,_⟩:=(c.row r hr).2.2;exact ⟨p,hp,e⟩⟩)
 have l0:=CH (rs:=rs) fun r hr=>(c.row r hr).1
 have:=c.lost
 exact ⟨by omega,l0,by omega,g.1,g.2,c.prod,c.big,c.dg,c.stp⟩
structure BP where
 nm:Str
 ow:Str
 wo:Int
 we:Int
 tops:List Int
structure BE where
 nm:Str
 ow:Str
 wo:Int
 tops:List Int
 bot:Int
structure BS where
 own:List Str
 ai:List BP
 bot:Int
 kj:List BE
 d8:List Str
structure BA where
 m:Addr
 lo:Addr
 lp:Addr
 la:Addr
 lk:Addr
 qs:List (Addr×Addr)
def fB (B:BA) (bot:Int):List (Key×V):=[(Sum.inr "owners", .ref B.lo),(Sum.inr "parts", .ref B.lp),(Sum.inr "bottom", .int bot),(Sum.inr "ashore", .ref B.la),(Sum.inr "known", .ref B.lk)]
def kQ (p:BP) (t:Addr):HO:= .lst [.str p.nm, .str p.ow, .int p.wo, .int p.we, .ref t]
inductive CI (n:Nat) (ρ:fR) (H:Hp):List V->List BE->Prop
 | nil:CI n ρ H [] []
 | cons {r t:Addr} {e:BE} {vs:List V} {es:List BE}:H r=some (.lst [.str e.nm, .str e.ow, .int e.wo, .ref t, .int e.bot])->ρ r=some (n,27,e.nm)->H t=some (.lst (e.tops.map V.int))->ρ t=some (n,28,e.nm)->CI n ρ H vs es->CI n ρ H (.ref r::vs) (e::es)
structure bg (n:Nat) (ρ:fR) (B:BA) (H:Hp) (b:BS):Prop where
 om:H B.m=some (.dK (fB B b.bot))
 cm:ρ B.m=some (n,20,⟨#[]⟩)
 oo:H B.lo=some (.lst (b.own.map V.str))
 co:ρ B.lo=some (n,21,⟨#[]⟩)
 op:H B.lp=some (.lst (B.qs.map fun q=>V.ref q.1))
 cp:ρ B.lp=some (n,22,⟨#[]⟩)
 oa:∃vs,H B.la=some (.lst vs)/\CI n ρ H vs b.kj
 ca:ρ B.la=some (n,25,⟨#[]⟩)
 ok:H B.lk=some (.lst (b.d8.map V.str))
 ck:ρ B.lk=some (n,26,⟨#[]⟩)
 ql:B.qs.length=b.ai.length
 pt:∀(i:Nat) (p:BP) (q:Addr×Addr),b.ai[i]?=some p->B.qs[i]?=some q->H q.1=some (kQ p q.2)/\H q.2=some (.lst (p.tops.map V.int))/\ρ q.1=some (n,23,p.nm)/\ρ q.2=some (n,24,p.nm)
theorem CI.keep {l:List BE} (h:CI n ρ H vs l) (k:Kp n ρ ρ' H H' ts) (e1:ts 27=true) (e2:ts 28=true):CI n ρ' H' vs l:=by
 induction h with
 | nil=>exact .nil
 | cons a b c d _ ih=>exact .cons (k.2 _ _ _ _ e1 b a).1 (k.2 _ _ _ _ e1 b a).2 (k.2 _ _ _ _ e2 d c).1 (k.2 _ _ _ _ e2 d c).2 ih
variable {B:BA} {b:BS}
theorem bg.same (h:bg n ρ B H b) (k:Kp n ρ ρ' H H' fun _=>true):bg n ρ' B H' b:=by
 have z:=fun {b:Addr} {t:Nat} {x:Str} {o:HO} (c:ρ b=some (n,t,x)) (e:H b=some o)=>k.2 b t x o rfl c e
 obtain ⟨vs,h1,h2⟩:=h.oa
 exact ⟨(z h.cm h.om).1,(z h.cm h.om).2,(z h.co h.oo).1,(z h.co h.oo).2,(z h.cp h.op).1,(z h.cp h.op).2,⟨vs,(z h.ca h1).1,h2.keep k rfl rfl⟩,(z h.ca h1).2,(z h.ck h.ok).1,(z h.ck h.ok).2,h.ql,
  fun i p q e1 e2=>let ⟨a,b,c,d⟩:=h.pt i p q e1 e2;⟨(z c a).1,(z d b).1,(z c a).2,(z d b).2⟩⟩
theorem bg.mono (h:bg n ρ B H b) (s:aE H H'):bg n ρ B H' b:=h.same (OX s)
theorem bg.other (h:bg m ρ B H b) (f:Fr n ρ H ρ' H') (g:Gh ρ H) (e:m≠n):bg m ρ' B H' b:=
 h.same ⟨fun b xs q=>(f b _ q fun t x=>by rw [g.tup q];intro z;cases z).1,fun b t x o _ c q=>by
   obtain ⟨a,b'⟩:=f b o q fun t' x'=>by rw [c];intro z;cases z;exact e rfl
   exact ⟨a,b'.trans c⟩⟩
theorem bg.col (h:bg n ρ B H b) (c:ρ a=none):bg n (cK ρ a (n,t,x)) B H b:=
 h.same ⟨fun _ _ e=>e,fun b u y w _ hc he=>⟨he,by rw [cy (fun z=>by rw [z,c] at hc;cases hc)];exact hc⟩⟩
theorem bg.find (h:bg n ρ B H b) {p:BP} (e:b.ai[i]?=some p):∃q,B.qs[i]?=some q/\H q.1=some (kQ p q.2)/\H q.2=some (.lst (p.tops.map V.int))/\ρ q.1=some (n,23,p.nm)/\ρ q.2=some (n,24,p.nm):=by
 have hi:i<B.qs.length:=by rw [h.ql];exact (eF.mp e).1
 exact ⟨B.qs[i],aX hi,h.pt i p _ e (aX hi)⟩
theorem bg.YQ (h:bg n ρ B H b) (g:Gh ρ H) (x:Int):bg n ρ B (upd H B.m (.dK (fB B x))) { b with bot:=x }:=by
 have k:=fE (o:= .dK (fB B x)) g h.cm
 obtain ⟨vs,h1,h2⟩:=h.oa
 exact ⟨aj,h.cm,kz k h.co h.oo,h.co,kz k h.cp h.op,h.cp,⟨vs,kz k h.ca h1,h2.keep k (by decide) (by decide)⟩,h.ca,kz k h.ck h.ok,h.ck,h.ql,
  fun i p q e1 e2=>let ⟨a,b,c,d⟩:=h.pt i p q e1 e2;⟨kz k c a,kz k d b,c,d⟩⟩
theorem bg.ux (h:bg n ρ B H b) (g:Gh ρ H) {p0 p1:BP} {q0:Addr×Addr} {t1:Addr} (ep:b.ai[i]?=some p0) (eq:B.qs[i]?=some q0) (e1:p1.nm=p0.nm) (nd:(b.ai.map (fun p:BP=>p.nm)).Nodup)
  (ht:H t1=some (.lst (p1.tops.map V.int))) (ct:ρ t1=some (n,24,p1.nm)):bg n ρ { B with qs:=B.qs.set i (q0.1,t1) } (upd H q0.1 (kQ p1 t1)) { b with ai:=b.ai.set i p1 }:=by
 obtain ⟨x1,x2,x3,x4⟩:=h.pt i p0 q0 ep eq
 have k:=fE (o:=kQ p1 t1) g x3
 obtain ⟨vs,h1,h2⟩:=h.oa
 have hi:i<B.qs.length:=(eF.mp eq).1
 have hi2:i<b.ai.length:=(eF.mp ep).1
 have em:(B.qs.set i (q0.1,t1)).map (fun q=>V.ref q.1)=B.qs.map fun q=>V.ref q.1:=by
  rw [xZ]
  exact vJ (by rw [bJ,eq];rfl)
 refine ⟨kz k h.cm h.om,h.cm,kz k h.co h.oo,h.co,?_,h.cp,⟨vs,kz k h.ca h1,h2.keep k (by decide) (by decide)⟩,h.ca,kz k h.ck h.ok,h.ck,?_,fun j p q BZ Pf=>?_⟩
 . show upd H q0.1 _ B.lp=some (.lst ((B.qs.set i (q0.1,t1)).map _))
   rw [em];exact kz k h.cp h.op
 . show (B.qs.set i (q0.1,t1)).length=(b.ai.set i p1).length
   rw [lD,lD];exact h.ql
 . have BZ:(b.ai.set i p1)[j]?=some p:=BZ
   have Pf:(B.qs.set i (q0.1,t1))[j]?=some q:=Pf
   by_cases hj:i=j
   . subst hj
     rw [ue hi2] at BZ
     rw [ue hi] at Pf
     cases BZ;cases Pf
     exact ⟨aj,kz k ct ht,by rw [e1];exact x3,ct⟩
   . rw [zm hj] at BZ Pf
     obtain ⟨a1,a2,a3,a4⟩:=h.pt j p q BZ Pf
     have hnm:p.nm≠p0.nm:=fun e=>by
      have hj2:j<b.ai.length:=(eF.mp BZ).1
      have r1:(b.ai.map (fun p:BP=>p.nm))[j]?=some p.nm:=by rw [bJ,BZ];rfl
      have r2:(b.ai.map (fun p:BP=>p.nm))[i]?=some p0.nm:=by rw [bJ,ep];rfl
      have Pg:j<(b.ai.map (fun p:BP=>p.nm)).length:=by rw [aF];exact hj2
      exact hj ((J9 Pg nd).mp (r1.trans (by rw [e];exact r2.symm))).symm
     have hq:q.1≠q0.1:=fun e=>by rw [e,x3] at a3;exact hnm (ie (fun c:tN=>c.2.2) (iG a3)).symm
     exact ⟨by rw [av hq];exact a1,kz k a4 a2,a3,a4⟩
theorem bg.TR (h:bg n ρ B H b) (g:Gh ρ H) {lp:Addr} {qs:List (Addr×Addr)} {ps:List BP} (e:H lp=some (.lst (qs.map fun q=>V.ref q.1))) (c:ρ lp=some (n,22,⟨#[]⟩)) (hl:qs.length=ps.length)
  (hp:∀(i:Nat) (p:BP) (q:Addr×Addr),ps[i]?=some p->qs[i]?=some q->H q.1=some (kQ p q.2)/\H q.2=some (.lst (p.tops.map V.int))/\ρ q.1=some (n,23,p.nm)/\ρ q.2=some (n,24,p.nm)):
  bg n ρ { { B with lp:=lp } with qs:=qs } (upd H B.m (.dK (fB { B with lp:=lp } b.bot))) { b with ai:=ps }:=by
 have k:=fE (o:= .dK (fB { B with lp:=lp } b.bot)) g h.cm
 obtain ⟨vs,h1,h2⟩:=h.oa
 exact ⟨aj,h.cm,kz k h.co h.oo,h.co,kz k c e,c,⟨vs,kz k h.ca h1,h2.keep k (by decide) (by decide)⟩,h.ca,kz k h.ck h.ok,h.ck,hl,
  fun i p q e1 e2=>let ⟨a,b,c,d⟩:=hp i p q e1 e2;⟨kz k c a,kz k d b,c,d⟩⟩
theorem bg.abj (h:bg n ρ B H b) (g:Gh ρ H) {p:BP} {q:Addr×Addr} (e1:H q.1=some (kQ p q.2)) (e2:H q.2=some (.lst (p.tops.map V.int))) (c1:ρ q.1=some (n,23,p.nm)) (c2:ρ q.2=some (n,24,p.nm)):
  bg n ρ { B with qs:=B.qs++[q] } (upd H B.lp (.lst ((B.qs++[q]).map fun q=>V.ref q.1))) { b with ai:=b.ai++[p] }:=by
 have k:=fE (o:= .lst ((B.qs++[q]).map fun q=>V.ref q.1)) g h.cp
 obtain ⟨vs,h1,h2⟩:=h.oa
 refine ⟨kz k h.cm h.om,h.cm,kz k h.co h.oo,h.co,aj,h.cp,⟨vs,kz k h.ca h1,h2.keep k (by decide) (by decide)⟩,h.ca,kz k h.ck h.ok,h.ck,?_,fun i x y ex ey=>?_⟩
 . show (B.qs++[q]).length=(b.ai++[p]).length
   rw [di,di,h.ql];rfl
 . have ex:(b.ai++[p])[i]?=some x:=ex
   have ey:(B.qs++[q])[i]?=some y:=ey
   by_cases c:i<b.ai.length
   . rw [J1 c] at ex
     rw [J1 (by rw [h.ql];exact c)] at ey
     obtain ⟨a1,a2,a3,a4⟩:=h.pt i x y ex ey
     exact ⟨kz k a3 a1,kz k a4 a2,a3,a4⟩
   . have hi:i=b.ai.length:=by
      have:=(eF.mp ex).1
      rw [di] at this
      have:i<b.ai.length+1:=this
      omega
     subst hi
     rw [J0 (aP _),AS] at ex
     rw [J0 (by rw [h.ql];exact aP _),h.ql,AS] at ey
     cases ex;cases ey
     exact ⟨kz k c1 e1,kz k c2 e2,c1,c2⟩
theorem bg.YR (h:bg n ρ B H b) (g:Gh ρ H) (l:List Str):bg n ρ B (upd H B.lk (.lst (l.map V.str))) { b with d8:=l }:=by
 have k:=fE (o:= .lst (l.map V.str)) g h.ck
 obtain ⟨vs,h1,h2⟩:=h.oa
 exact ⟨kz k h.cm h.om,h.cm,kz k h.co h.oo,h.co,kz k h.cp h.op,h.cp,⟨vs,kz k h.ca h1,h2.keep k (by decide) (by decide)⟩,h.ca,aj,h.ck,h.ql,
  fun i p q e1 e2=>let ⟨a,b,c,d⟩:=h.pt i p q e1 e2;⟨kz k c a,kz k d b,c,d⟩⟩
structure Q9 (K:Fg) (H:Hp) (us:List V) (ws:List Row):Prop where
 len:us.length=ws.length
 at_:∀(i:Nat) (r:Row),ws[i]?=some r->∃a xs,us[i]?=some (.ref a)/\Sq K H a xs/\xs[0]?=some (.str r.1)/\xs[2]?=some (.int r.2)
def lV (b:BS):List Row:=b.ai.map fun p=>(p.nm,p.wo)
theorem bg.nw (h:bg n ρ B H b):Q9 K H (B.qs.map fun q=>V.ref q.1) (lV b):=by
 refine ⟨by unfold lV;rw [aF,aF];exact h.ql,fun i r e=>?_⟩
 unfold lV at e
 rw [bJ] at e
 obtain ⟨p,ep,rfl⟩:=lP.mp e
 obtain ⟨q,eq,a1,_⟩:=h.find ep
 exact ⟨q.1,_,by rw [bJ,eq];rfl, .inl (aC.of a1),Z,Z⟩
def br (b:BS):Int:=(b.ai.map fun p=>p.wo).sum
theorem HY:∀{l:List Str} {o:Str},o∈l->l[l.idxOf o]?=some o
 | [],_,h=>by simp at h
 | x::l,o,h=>by
   by_cases e:x=o
   . subst e;simp
   . have ho:o∈l:=by
      rcases c_.mp h with z|z
      . exact absurd z.symm e
      . exact z
     rw [List.idxOf_cons,show (x==o)=false from Fx.mpr e]
     simpa using HY ho
inductive abk (K:Fg) (vs:List V) (H:Hp) (Q:VK) (E:XK):Prop
 | mk (l:Addr) (own:List Str) (n:Nat) (ρ:fR) (_:vs=[.ref l]) (_:aC K H l (own.map V.str)) (_:Gh ρ H) (_:own.length<=1000) (_:∀ρ' B H',Gh ρ' H'->bg n ρ' B H' ⟨own,[],1,[],[]⟩->(∀b o,H b=some o->H' b=some o/\ρ' b=ρ b)->Q (.ref B.m) H')
def Ph (K:Fg):Sp:=bx (abk K)
inductive adT (K:Fg) (vs:List V) (H:Hp) (Q:VK) (E:XK):Prop
 | mk (l:Addr) (own:List Str) (o:Str) (_:vs=[.ref l, .str o]) (_:aC K H l (own.map V.str)) (_:o∈own) (_:own.length<=1000) (_:Q (.int (own.idxOf o:Int)) H)
def TU (K:Fg):Sp:=bx (adT K)
def yt (b:BS) (x o:Str) (wo we:Int):BS:={ b with ai:=b.ai++[⟨x,o,wo,we,(List.replicate b.own.length 0).set (b.own.idxOf o) b.bot⟩],d8:=b.d8++[x] }
inductive Wc (vs:List V) (H:Hp) (Q:VK) (E:XK):Prop
 | mk (n ρ B b:_) (x o:Str) (wo we:Int) (_:vs=[.ref B.m, .str x, .str o, .int wo, .int we]) (_:Gh ρ H) (_:bg n ρ B H b) (_:o∈b.own) (_:b.own.length<=1000) (_:b.ai.length<=1000) (_:b.d8.length<=1000) (_:∀ρ' B' H',Gh ρ' H'->bg n ρ' B' H' (yt b x o wo we:_)->B'.m=B.m->Fr n ρ H ρ' H'->Q .bZ H')
def HZ:Sp:=bx (Wc)
inductive aha (K:Fg) (vs:List V) (H:Hp) (Q:VK) (E:XK):Prop
 | mk (l:Addr) (us:List V) (ws:List Row) (i:Nat) (r:Row) (_:vs=[.ref l, .str r.1]) (_:aC K H l us) (_:Q9 K H us ws) (_:(ws.map (fun r:Row=>r.1)).Nodup) (_:ws.length<=1000) (_:ws[i]?=some r) (_:Q (.int (i:Int)) H)
def Xl (K:Fg):Sp:=bx (aha K)
structure TV (ws rs:List Row):Prop where
 nd:(rs.map (fun r:Row=>r.1)).Nodup
 row:∀r∈rs,1<=r.2/\r.2<=1000000000/\∃w∈ws,w.1=r.1/\r.2<=w.2
 lost:bu rs<bu ws\/rs=[]
 len:rs.length<=ws.length
inductive abl (K:Fg) (vs:List V) (H:Hp) (Q:VK) (E:XK):Prop
 | mk (a l:Addr) (ns:List Int) (k:Int) (us:List V) (ws:List Row) (_:vs=[.ref a, .int k, .ref l]) (_:aC K H a (ns.map V.int)) (_:ns.length<=63) (_:0<=k) (_:k<=1000000) (_:aC K H l us) (_:Q9 K H us ws) (_:(ws.map (fun r:Row=>r.1)).Nodup) (_:ws.length<=1000) (_:(∀w∈ws,1<=w.2)) (_:∀z zs rs H',aE H H'->H z=none->H' z=some (.lst zs)->gh H' zs rs->TV ws rs->Q (.ref z) H')
def Pj (K:Fg):Sp:=bx (abl K)
section
variable {X:Cx}
def uC (i j k:Int):Int:=if j<i then (if k<j then k else j) else (if k<i then k else i)
theorem YS (i j k:Int):uC i j k<=i/\uC i j k<=j/\uC i j k<=k:=by unfold uC;split <;> split <;> omega
theorem YT {i j k m:Int} (h1:m<=i) (h2:m<=j) (h3:m<=k):m<=uC i j k:=by unfold uC;split <;> split <;> omega
theorem TY (hc:X.calm=true):gQ X (.builtin "min") (fun xs H Q=>∃i j k,xs=[.int i, .int j, .int k]/\Q (.int (uC i j k)) H):=by
 intro pins s σ H xs us Q I r h
 obtain ⟨i,j,k,rfl,q⟩:=h
 obtain ⟨u,us,rfl,⟨t,rfl⟩,r2⟩:∃u us',us=u::us'/\RelV (.int i) u/\Vals [.int j, .int k] us':=by cases r with|cons a b=>exact ⟨_,_,rfl,a,b⟩
 obtain ⟨u2,u3,rfl,⟨t',rfl⟩,⟨t'',rfl⟩⟩:=vals2 r2
 refine min_three_ints (I.ok.hd hc) fun h' tk kk=>⟨_,H,I.kept kk,?_,q⟩
 unfold uC
 by_cases hj:j<i
 . rw [aB hj,aB hj]
   by_cases hk:k<j
   . rw [aB hk,aB hk];exact ⟨_,Z⟩
   . rw [az hk,az hk];exact ⟨_,Z⟩
 . rw [az hj,az hj]
   by_cases hk:k<i
   . rw [aB hk,aB hk];exact ⟨_,Z⟩
   . rw [az hk,az hk];exact ⟨_,Z⟩
end
def mY (given:List Int) (kept:Int) (p:BP) (a:Int):BP:={ p with tops:=List.zipWith (fun t g=>t*kept+g) p.tops given,wo:=p.wo-a }
def iM (ps:List BP) (as:List Int) (i:Nat):Int:=(List.zipWith (fun (p:BP) (a:Int)=>p.tops.getD i 0*a) ps as).sum
def gi (b:BS) (as:List Int):List Int:=(List.range b.own.length).map (iM b.ai as)
def gZ (b:BS) (as:List Int) (seat:Nat) (aw:Int):List Int:=if 0<aw then (gi b as).set seat ((gi b as).getD seat 0+aw*b.bot) else gi b as
def dh (b:BS) (as:List Int) (seat:Nat) (aw:Int):List BP:=List.zipWith (mY (gZ b as seat aw) (br b-aw-as.sum)) b.ai as
def iY (b:BS) (as:List Int) (seat:Nat) (aw:Int):BS:={ b with bot:=b.bot*br b,ai:=(dh b as seat aw).filter fun p=>decide (0<p.wo) }
structure uD (b:BS):Prop where
 nd:(b.ai.map (fun p:BP=>p.nm)).Nodup
 tl:∀p∈b.ai,p.tops.length=b.own.length
 t0:∀p∈b.ai,∀t∈p.tops,0<=t/\t<=b.bot
 b1:1<=b.bot
 bz:Jm.Sz 7000 b.bot
 w1:∀p∈b.ai,1<=p.wo
 ol:b.own.length<=100
 pl:b.ai.length<=1000
 kl:b.d8.length<=1000
structure lW (b:BS) (as:List Int) (seat:Nat) (aw:Int):Prop where
 len:as.length=b.ai.length
 a0:∀a∈as,0<=a
 seat:seat<b.own.length
 B0:0<=aw
 kept:0<br b-aw-as.sum
 big:Jm.Sz 60 (br b)
inductive adU (K:Fg) (vs:List V) (H:Hp) (Q:VK) (E:XK):Prop
 | mk (n ρ B b:_) (l:Addr) (as:List Int) (seat:Nat) (aw:Int) (_:vs=[.ref B.m, .ref l, .int (seat:Int), .int aw]) (_:Gh ρ H) (_:bg n ρ B H b) (_:uD b) (_:aC K H l (as.map V.int)) (_:ρ l=none) (_:lW b as seat aw) (_:∀ρ' B' H',Gh ρ' H'->bg n ρ' B' H' (iY b as seat aw:_)->B'.m=B.m->Fr n ρ H ρ' H'->Q .bZ H')
def TZ (K:Fg):Sp:=bx (adU K)
variable {as:List Int} {seat:Nat} {aw:Int}
theorem vK (h:as.length=b.ai.length):(dh b as seat aw).length=b.ai.length:=by
 unfold dh;rw [qw,h];omega
theorem Lg {p:BP} {a:Int} (h1:b.ai[i]?=some p) (h2:as[i]?=some a):(dh b as seat aw)[i]?=some (mY (gZ b as seat aw) (br b-aw-as.sum) p a):=Pd h1 h2
theorem vL (h:∀a∈as,0<=a):∀{x:Int},x∈as->x<=as.sum:=by
 induction as with
 | nil=>intro x hx;simp at hx
 | cons a l ih=>
   intro x hx
   have h0:=h a cJ
   have hl:0<=l.sum:=by
    clear ih hx
    have:∀(l:List Int),(∀a∈l,0<=a)->0<=l.sum:=fun l=>by
     induction l with
     | nil=>intro _;exact jL _
     | cons a l ih=>intro h;rw [cU];have:=h a cJ;have:=ih fun x hx=>h x (cG _ hx);omega
    exact this l fun x hx=>h x (cG _ hx)
   rw [cU]
   rcases c_.mp hx with e|e
   . omega
   . have:=ih (fun y hy=>h y (cG _ hy)) e
     omega
theorem mK (b:BS) (as:List Int):(gi b as).length=b.own.length:=by unfold gi;rw [aF,Cm]
theorem yu (b:BS) (as:List Int) (seat:Nat) (aw:Int):(gZ b as seat aw).length=b.own.length:=by
 unfold gZ;split
 . rw [lD,mK]
 . exact mK b as
theorem Lh {ps:List BP} {p:BP} {a:Int} (h1:ps[j]?=some p) (h2:as[j]?=some a):(List.zipWith (fun (p:BP) (a:Int)=>p.tops.getD i 0*a) (ps.take (j+1)) (as.take (j+1)))=List.zipWith (fun (p:BP) (a:Int)=>p.tops.getD i 0*a) (ps.take j) (as.take j)++[p.tops.getD i 0*a] :=oQ _ h1 h2
theorem YU {α:Type} {xs ys:List α} {p:α} (hx:i<=xs.length) (h:ys[i]?=some p):(xs.take i++ys.drop i)[i]?=some p:=by
 have hl:(xs.take i).length=i:=by rw [lq];omega
 rw [J0 (by omega),hl,AS,List.getElem?_drop]
 exact h
theorem YV {α:Type} {xs ys:List α} {x:α} (hx:xs[i]?=some x) (hy:i<ys.length):(xs.take i++ys.drop i).set i x=xs.take (i+1)++ys.drop (i+1):=by
 have hi:=(eF.mp hx).1
 have hl:(xs.take i).length=i:=by rw [lq];omega
 rw [List.set_append_right _ _ (by omega),hl,AS,Qc hy,J6,take_snoc hx,J7]
 rfl
theorem T3 {b:BS} {as:List Int} (h:as.length=b.ai.length) (i:Nat):((dh b as seat aw).take i++b.ai.drop i).map (fun p:BP=>p.nm)=b.ai.map (fun p:BP=>p.nm):=by
 have e:(dh b as seat aw).map (fun p:BP=>p.nm)=b.ai.map (fun p:BP=>p.nm):=by
  unfold dh
  generalize gZ b as seat aw=g
  generalize br b-aw-as.sum=k
  generalize b.ai=ps at *
  clear b
  induction ps generalizing as with
  | nil=>rfl
  | cons p ps ih=>
    cases as with
    | nil=>simp at h
    | cons a as=>
      rw [v5,bD,bD,ih (by simpa using h)]
      rfl
 rw [bL,AN,e,<-AN,<-bL,List.take_append_drop]
theorem T4 (B:BA) (x y:Int):putK (fB B x) (Sum.inr "bottom") (.int y)=fB B y:=rfl
theorem Li (B:BA) (x:Int) (l:Addr):putK (fB B x) (Sum.inr "parts") (.ref l)=fB { B with lp:=l } x:=rfl
def jv:List BP->List (Addr×Addr)->List (Addr×Addr)
 | p::ps,q::qs=>if 0<p.wo then q::jv ps qs else jv ps qs
 | _,_=>[]
theorem Ac:∀{ps:List BP} {qs:List (Addr×Addr)},qs.length=ps.length->(jv ps qs).length=(ps.filter fun p=>decide (0<p.wo)).length
 | [],[],_=>rfl
 | [],_::_,h=>by simp at h
 | _::_,[],h=>by simp at h
 | p::ps,q::qs,h=>by
   have ih:=Ac (ps:=ps) (qs:=qs) (by simpa using h)
   unfold jv
   by_cases c:0<p.wo
   . rw [aB c,iF,aB (cg c),mU,mU,ih]
   . rw [az c,iF,az (by simpa using c),ih]
theorem yv:∀{ps:List BP} {qs:List (Addr×Addr)} {i:Nat} {p:BP} {q:Addr×Addr},(ps.filter fun p=>decide (0<p.wo))[i]?=some p->(jv ps qs)[i]?=some q->qs.length=ps.length->∃j:Nat,ps[j]?=some p/\qs[j]?=some q
 | [],_,_,_,_,h,_,_=>by simp at h
 | _::_,[],_,_,_,_,_,h=>by simp at h
 | x::ps,y::qs,i,p,q,h1,h2,hl=>by
   unfold jv at h2
   by_cases c:0<x.wo
   . rw [aB c] at h2
     rw [iF,aB (cg c)] at h1
     cases i with
     | zero=>simp at h1 h2;exact ⟨0,by simpa using h1,by simpa using h2⟩
     | succ i=>
       obtain ⟨j,a,b⟩:=yv (ps:=ps) (qs:=qs) (i:=i) (by simpa using h1) (by simpa using h2) (by simpa using hl)
       exact ⟨j+1,by simpa using a,by simpa using b⟩
   . rw [az c] at h2
     rw [iF,az (by simpa using c)] at h1
     obtain ⟨j,a,b⟩:=yv (ps:=ps) (qs:=qs) (i:=i) h1 h2 (by simpa using hl)
     exact ⟨j+1,by simpa using a,by simpa using b⟩
theorem yw:∀{ps:List BP} {qs:List (Addr×Addr)} {j:Nat} {p:BP} {q:Addr×Addr},ps[j]?=some p->qs[j]?=some q->jv (ps.take (j+1)) (qs.take (j+1))=jv (ps.take j) (qs.take j)++(if 0<p.wo then [q] else [])
 | [],_,_,_,_,h,_=>by simp at h
 | _::_,[],_,_,_,_,h=>by simp at h
 | x::ps,y::qs,0,p,q,h1,h2=>by
   have e1:x=p:=by simpa using h1
   have e2:y=q:=by simpa using h2
   subst e1 e2
   show jv (x::ps.take 0) (y::qs.take 0)=[]++_
   unfold jv
   split <;> rfl
 | x::ps,y::qs,j+1,p,q,h1,h2=>by
   have ih:=yw (ps:=ps) (qs:=qs) (j:=j) (by simpa using h1) (by simpa using h2)
   show jv (x::ps.take (j+1)) (y::qs.take (j+1))=jv (x::ps.take j) (y::qs.take j)++_
   unfold jv
   rw [ih]
   split <;> rfl
def dB (rs:List Row) (x:Str):Int:=((rs.find? fun r=>decide (r.1=x)).map (fun r:Row=>r.2)).getD 0
theorem H_ (x:Str):dB [] x=0:=rfl
theorem mL (r:Row) (rs:List Row) (x:Str):dB (r::rs) x=if r.1=x then r.2 else dB rs x:=by
 unfold dB
 rw [tS]
 by_cases c:r.1=x
 . rw [cg c,aB c];rfl
 . rw [d_ c,az c]
theorem tX:∀{rs:List Row} {x:Str},x∉rs.map (fun r:Row=>r.1)->dB rs x=0
 | [],_,_=>rfl
 | r::rs,x,h=>by
   rw [mL,az (fun e=>h (by rw [bD,e];exact cJ))]
   exact tX fun m=>h (by rw [bD];exact cG _ m)
theorem mO:∀{rs:List Row} {r:Row} {x:Str},r.1∉rs.map (fun r:Row=>r.1)->dB (rs++[r]) x=if r.1=x then r.2 else dB rs x
 | [],r,x,_=>by rw [JL,mL]
 | y::rs,r,x,h=>by
   rw [bD] at h
   have h1:r.1≠y.1:=fun e=>h (by rw [e];exact cJ)
   rw [JK,mL,mO (fun m=>h (cG _ m)),mL]
   by_cases c:y.1=x
   . rw [aB c,aB c,az (fun e=>h1 (e.trans c.symm))]
   . rw [az c,az c]
theorem Wd (h:∀r∈rs,1<=r.2) (x:Str):0<=dB rs x:=by
 induction rs with
 | nil=>exact jL _
 | cons r rs ih=>
   rw [mL]
   split
   . have:=h r cJ;omega
   . exact ih fun y hy=>h y (cG _ hy)
def c9 (b:BS) (rs:List Row):List Int:=b.ai.map fun p=>dB rs p.nm
theorem Ad (b:BS) (rs:List Row):(c9 b rs).length=b.ai.length:=by unfold c9;rw [aF]
theorem Ek (nd:(b.ai.map (fun p:BP=>p.nm)).Nodup) {p:BP} (hp:b.ai[j]?=some p) (e:p.nm=r.1) (h:r.1∉rs.map (fun r:Row=>r.1)):c9 b (rs++[r])=(c9 b rs).set j r.2/\(c9 b rs)[j]?=some 0:=by
 have hj:=(eF.mp hp).1
 constructor
 . refine List.ext_getElem? fun k=>?_
   by_cases c:j=k
   . subst c
     rw [ue (by rw [Ad];exact hj)]
     unfold c9
     rw [bJ,hp]
     show some (dB (rs++[r]) p.nm)=_
     rw [mO h,aB e.symm]
   . rw [zm c]
     unfold c9
     rw [bJ,bJ]
     cases ek:b.ai[k]? with
     | none=>rfl
     | some x=>
       show some (dB (rs++[r]) x.nm)=some (dB rs x.nm)
       rw [mO h,az]
       intro z
       have r1:(b.ai.map (fun p:BP=>p.nm))[k]?=some x.nm:=by rw [bJ,ek];rfl
       have r2:(b.ai.map (fun p:BP=>p.nm))[j]?=some p.nm:=by rw [bJ,hp];rfl
       exact c ((J9 (by rw [aF];exact hj) nd).mp (r2.trans (by rw [e,z];exact r1.symm)))
 . unfold c9
   rw [bJ,hp]
   show some (dB rs p.nm)=_
   rw [e,tX h]
theorem Lj:∀{l:List Int} {j:Nat} {x:Int},l[j]?=some 0->(l.set j x).sum=l.sum+x
 | [],_,_,h=>by simp at h
 | a::l,0,x,h=>by
   have:a=0:=by simpa using h
   rw [J6,cU,cU];omega
 | a::l,j+1,x,h=>by
   rw [J5,cU,cU,Lj (by simpa using h)];omega
structure vM (b:BS) (rs:List Row):Prop where
 nd:(rs.map (fun r:Row=>r.1)).Nodup
 row:∀r∈rs,1<=r.2/\∃(j:Nat) (p:BP),b.ai[j]?=some p/\p.nm=r.1/\r.2<=p.wo
theorem Ia (nd:(b.ai.map (fun p:BP=>p.nm)).Nodup) (h:vM b rs):∀i≤rs.length,(c9 b (rs.take i)).sum=bu (rs.take i):=by
 intro i
 induction i with
 | zero=>
   intro _
   rw [List.take_zero]
   unfold c9
   show (b.ai.map fun p=>(0:Int)).sum=0
   clear nd h
   generalize b.ai=ps
   induction ps with
   | nil=>rfl
   | cons p ps ih=>rw [bD,cU,ih];rfl
 | succ i ih=>
   intro hi
   have ei:=aX (show i<rs.length by omega)
   rw [take_snoc ei]
   obtain ⟨_,j,p,hp,e,_⟩:=h.row _ (bN ei)
   have hn:(rs[i]).1∉(rs.take i).map (fun r:Row=>r.1):=by
    rw [AN]
    exact j5 h.nd (by rw [bJ,ei];rfl)
   obtain ⟨s1,s2⟩:=Ek nd hp e hn
   rw [s1,Lj s2,ih (by omega)]
   unfold bu
   rw [bL,List.sum_append]
   simp
abbrev Q4:=Str×Str×Int×Int
def iu (st:HS):List Q4:=st.ai.map fun p=>(p.nm,p.ow,p.wo,p.we)
def nI (b:BS):List Q4:=b.ai.map fun p=>(p.nm,p.ow,p.wo,p.we)
def nJ (qs:List Q4) (r:Row):List Q4:=(qs.map fun q=>if q.1=r.1 then (q.1,q.2.1,q.2.2.1-r.2,q.2.2.2) else q).filter fun q=>decide (q.2.2.1≠0)
def nt (rs:List Row) (qs:List Q4):List Q4:=(qs.map fun q=>(q.1,q.2.1,q.2.2.1-dB rs q.1,q.2.2.2)).filter fun q=>decide (0<q.2.2.1)
theorem Ib (st:HS) (r:Row):iu (fH st r)=nJ (iu st) r:=by
 unfold iu fH jP nJ
 generalize st.ai=ps
 show List.map _ (List.filter _ (List.map _ ps))=_
 induction ps with
 | nil=>rfl
 | cons p ps ih=>
   rw [bD,bD,bD]
   by_cases c:p.nm=r.1
   . rw [aB c,aB (show (p.nm,p.ow,p.wo,p.we).1=r.1 from c),iF,iF]
     by_cases d:p.wo-r.2=0
     . rw [az (by simpa using d),az (by simpa using d),ih]
     . rw [aB (by simpa using d),aB (by simpa using d),bD,ih]
   . rw [az c,az (show ¬ (p.nm,p.ow,p.wo,p.we).1=r.1 from c),iF,iF]
     by_cases d:p.wo=0
     . rw [az (by simpa using d),az (by simpa using d),ih]
     . rw [aB (by simpa using d),aB (by simpa using d),bD,ih]
theorem Q_ (st:HS) (kept whole:Int) (added:List Int):iu (cS st kept whole added)=iu st:=by
 unfold iu cS
 rw [Aa,fF]
 rfl
theorem El:∀(rs:List Row) (st:HS),iu (rs.foldl fH st)=rs.foldl nJ (iu st)
 | [],_=>rfl
 | r::rs,st=>by rw [mE,mE,El rs,Ib]
theorem Em:∀(qs:List Q4) (r:Row) (rs:List Row),r.1∉rs.map (fun r:Row=>r.1)->(∀q∈qs,1<=q.2.2.1)->(∀q∈qs,q.1=r.1->r.2<=q.2.2.1)->nt rs (nJ qs r)=nt (r::rs) qs
 | [],_,_,_,_,_=>rfl
 | q::qs,r,rs,hn,h1,h2=>by
   have ih:=Em qs r rs hn (fun x hx=>h1 x (cG _ hx)) (fun x hx=>h2 x (cG _ hx))
   have w1:=h1 q cJ
   have e1:nJ (q::qs) r=(if q.1=r.1 then (if q.2.2.1-r.2=0 then [] else [(q.1,q.2.1,q.2.2.1-r.2,q.2.2.2)]) else [q])++nJ qs r:=by
    unfold nJ
    rw [bD,iF]
    by_cases c:q.1=r.1
    . rw [aB c,aB c]
      by_cases d:q.2.2.1-r.2=0
      . rw [aB d,az (by simpa using d)];rfl
      . rw [az d,aB (by simpa using d)];rfl
    . rw [az c,az c,aB (cg (show q.2.2.1≠0 by omega))];rfl
   have e2:∀(us:List Row) (x:Q4) (l:List Q4),nt us (x::l)=(if 0<x.2.2.1-dB us x.1 then [(x.1,x.2.1,x.2.2.1-dB us x.1,x.2.2.2)] else [])++nt us l:=fun us x l=>by
    unfold nt
    rw [bD,iF]
    by_cases c:0<x.2.2.1-dB us x.1
    . rw [aB c,aB (cg c)];rfl
    . rw [az c,az (by simpa using c)];rfl
   rw [e1,e2 (r::rs),mL]
   by_cases c:q.1=r.1
   . have am:dB rs q.1=0:=by rw [c];exact tX hn
     have le:=h2 q cJ c
     rw [aB c,aB c.symm]
     by_cases d:q.2.2.1-r.2=0
     . rw [aB d,az (by omega),<-ih];rfl
     . rw [az d,aB (by omega),<-ih,JK,JL,e2 rs]
       show (if 0<q.2.2.1-r.2-dB rs q.1 then [(q.1,q.2.1,q.2.2.1-r.2-dB rs q.1,q.2.2.2)] else [])++_=_
       rw [am,Int.sub_zero,aB (by omega)]
   . rw [az c,show (if r.1=q.1 then r.2 else dB rs q.1)=dB rs q.1 from az (fun z=>c z.symm),<-ih,JK,JL,e2 rs]
theorem Ic {qs:List Q4} {x:Q4} (h:x∈nJ qs r):x.2.2.1≠0/\∃q∈qs,x=if q.1=r.1 then (q.1,q.2.1,q.2.2.1-r.2,q.2.2.2) else q:=by
 obtain ⟨h1,h2⟩:=nC.mp h
 obtain ⟨q,hq,e⟩:=bM.mp h1
 exact ⟨dO h2,q,hq,e.symm⟩
theorem Ie:∀(rs:List Row) (qs:List Q4),(rs.map (fun r:Row=>r.1)).Nodup->(∀q∈qs,1<=q.2.2.1)->(∀r∈rs,∀q∈qs,q.1=r.1->r.2<=q.2.2.1)->rs.foldl nJ qs=nt rs qs
 | [],qs,_,h1,_=>by
   show qs=nt [] qs
   unfold nt
   induction qs with
   | nil=>rfl
   | cons q qs ih=>
     have:=h1 q cJ
     rw [bD,iF,aB (cg (show 0<q.2.2.1-dB [] q.1 by rw [H_];omega)),<-ih (fun x hx=>h1 x (cG _ hx)) (fun r hr=>absurd hr (by simp)),H_,Int.sub_zero]
 | r::rs,qs,nd,h1,h2=>by
   obtain ⟨n1,n2⟩:=ia.mp (show (r.1::rs.map (fun r:Row=>r.1)).Nodup from nd)
   rw [mE,Ie rs (nJ qs r) n2 ?_ ?_]
   . exact Em qs r rs n1 h1 (h2 r cJ)
   . intro x hx
     obtain ⟨a,q,hq,e⟩:=Ic hx
     have:=h1 q hq
     by_cases c:q.1=r.1
     . rw [aB c] at e
       have:=h2 r cJ q hq c
       rw [e] at a ⊢
       have a:q.2.2.1-r.2≠0:=a
       show 1<=q.2.2.1-r.2
       omega
     . rw [az c] at e;rw [e];exact this
   . intro y hy x hx ex
     obtain ⟨_,q,hq,e⟩:=Ic hx
     by_cases c:q.1=r.1
     . rw [aB c] at e
       rw [e] at ex
       exact absurd (bM.mpr ⟨y,hy,ex.symm.trans c⟩) n1
     . rw [az c] at e
       rw [e] at ex ⊢
       exact h2 y (cG _ hy) q hq ex
theorem T5 (b:BS) (rs:List Row) (seat:Nat) (aw:Int):nI (iY b (c9 b rs) seat aw)=nt rs (nI b):=by
 unfold nI iY dh nt
 show List.map _ (List.filter _ (List.zipWith (mY (gZ b (c9 b rs) seat aw) (br b-aw-(c9 b rs).sum)) b.ai (c9 b rs)))=_
 generalize gZ b (c9 b rs) seat aw=g
 generalize br b-aw-(c9 b rs).sum=k
 unfold c9
 generalize b.ai=ps
 induction ps with
 | nil=>rfl
 | cons p ps ih=>
   rw [bD,v5,bD,bD,iF,iF]
   by_cases c:0<p.wo-dB rs p.nm
   . rw [aB (cg (show 0<(mY g k p (dB rs p.nm)).wo from c)),aB (cg (show 0<p.wo-dB rs p.nm from c)),bD,ih]
     rfl
   . rw [az (by simpa using (show ¬ 0<(mY g k p (dB rs p.nm)).wo from c)),az (by simpa using c),ih]
structure iU (st:HS) (b:BS):Prop where
 own:st.own=b.own
 qd:iu st=nI b
theorem We (st:HS) (rs:List Row):(kF st rs).own=st.own:=by
 unfold kF
 have:∀(rs:List Row) (s:HS),(rs.foldl fH s).own=s.own:=fun rs=>by
  induction rs with
  | nil=>intro s;rfl
  | cons r rs ih=>intro s;rw [mE,ih];rfl
 rw [this]
 unfold cS
 rw [TJ]
theorem T6 (r:iU st b) (wf:Wf st) (c:pM st rs):iU (kF st rs) (iY b (c9 b rs) 0 0):=by
 refine ⟨by rw [We,r.own];rfl,?_⟩
 rw [T5,<-r.qd]
 unfold kF
 rw [El,Q_]
 refine Ie rs (iu st) c.nd (fun q hq=>?_) (fun x hx q hq e=>?_)
 . obtain ⟨p,hp,rfl⟩:=bM.mp hq
   exact (wf.uy p hp).1
 . obtain ⟨p,hp,rfl⟩:=bM.mp hq
   obtain ⟨_,_,p',xu,e',le⟩:=c.row x hx
   have:p=p':=Ge wf hp xu (e.trans e'.symm)
   rw [this]
   exact le
theorem T7 (r:iU st b) (x o:Str) (wo we:Int):iU (yh st x o wo we) (yt b x o wo we):=by
 refine ⟨r.own,?_⟩
 unfold iu nI yh Bd yt
 show List.map _ (st.ai++[_])=List.map _ (b.ai++[_])
 rw [bL,bL,show st.ai.map (fun p=>(p.nm,p.ow,p.wo,p.we))=b.ai.map (fun p=>(p.nm,p.ow,p.wo,p.we)) from r.qd]
 rfl
theorem iU.whole (r:iU st b):bK st=br b:=by
 unfold bK br
 have:=ie (List.map fun q:Q4=>q.2.2.1) r.qd
 unfold iu nI at this
 rw [fF,fF] at this
 exact ie List.sum this
theorem iU.len (r:iU st b):st.ai.length=b.ai.length:=by
 have:=ie List.length r.qd
 unfold iu nI at this
 rw [aF,aF] at this
 exact this
theorem iU.at (r:iU st b) {q:BP} (h:b.ai[i]?=some q):∃p,st.ai[i]?=some p/\p.nm=q.nm/\p.ow=q.ow/\p.wo=q.wo/\p.we=q.we:=by
 have e:=ie (fun l:List Q4=>l[i]?) r.qd
 unfold iu nI at e
 have e:(st.ai.map fun p=>(p.nm,p.ow,p.wo,p.we))[i]?=(b.ai.map fun p=>(p.nm,p.ow,p.wo,p.we))[i]?:=e
 rw [bJ,bJ,h] at e
 obtain ⟨p,ep,e2⟩:=lP.mp e
 have e2:(p.nm,p.ow,p.wo,p.we)=(q.nm,q.ow,q.wo,q.we):=e2
 simp only [Prod.mk.injEq] at e2
 exact ⟨p,ep,e2⟩
theorem iU.at' (r:iU st b) (h:st.ai[i]?=some p):∃q,b.ai[i]?=some q/\p.nm=q.nm/\p.ow=q.ow/\p.wo=q.wo/\p.we=q.we:=by
 have hi:i<b.ai.length:=by rw [<-r.len];exact (eF.mp h).1
 have eq:=aX hi
 obtain ⟨p',e',z⟩:=r.at eq
 rw [h] at e'
 cases e'
 exact ⟨_,eq,z⟩
theorem iU.rows (r:iU st b) (h:bg n ρ B H b):z6 K H (B.qs.map fun q=>V.ref q.1) st.ai:=by
 refine ⟨by rw [aF,h.ql,r.len],fun i p e=>?_⟩
 obtain ⟨q,eq,e1,e2,e3,e4⟩:=r.at' e
 obtain ⟨a,ea,k1,_⟩:=h.find eq
 refine ⟨a.1,_,by rw [bJ,ea];rfl, .inl (aC.of k1),?_,?_,?_,?_⟩
 . rw [e1];rfl
 . rw [e2];rfl
 . rw [e3];rfl
 . rw [e4];rfl
theorem Ig {B:Int} (hB:0<=B):∀{ps:List BP} {as:List Int},(∀p∈ps,∀t∈p.tops,0<=t/\t<=B)->(∀a∈as,0<=a)->∀i,0<=iM ps as i/\iM ps as i<=B*as.sum
 | [],as,_,ha,i=>by
   have:0<=as.sum:=by
    cases as with
    | nil=>exact jL _
    | cons a l=>exact Int.le_trans (ha a cJ) (vL ha cJ)
   exact ⟨by show (0:Int)<=0;omega,nE hB this⟩
 | _::_,[],_,_,i=>by
   show 0<=(0:Int)/\(0:Int)<=B*0
   omega
 | p::ps,a::as,h,ha,i=>by
   have ih:=Ig hB (ps:=ps) (as:=as) (fun x hx=>h x (cG _ hx)) (fun x hx=>ha x (cG _ hx)) i
   have a0:=ha a cJ
   have ht:0<=p.tops.getD i 0/\p.tops.getD i 0<=B:=by
    rw [i_]
    cases e:p.tops[i]? with
    | none=>exact ⟨jL _,hB⟩
    | some t=>exact h p cJ t (bN e)
   have e:iM (p::ps) (a::as) i=p.tops.getD i 0*a+iM ps as i:=by unfold iM;rw [v5,cU]
   have k1:0<=p.tops.getD i 0*a:=nE ht.1 a0
   have k2:p.tops.getD i 0*a<=B*a:=RZ ht.2 a0
   rw [e,cU,o9]
   omega
theorem T8 (wf:uD b) (ok:lW b as seat aw):∀g∈gZ b as seat aw,0<=g/\g<=b.bot*(as.sum+aw):=by
 have b1:=wf.b1
 have cb:=Ig (B:=b.bot) (by omega) wf.t0 ok.a0
 have B0:=ok.B0
 have m0:0<=b.bot*aw:=nE (by omega) B0
 have hg:∀g∈gi b as,0<=g/\g<=b.bot*as.sum:=fun g h=>by
  obtain ⟨i,_,rfl⟩:=bM.mp h
  exact cb i
 intro g h
 rw [o9]
 unfold gZ at h
 split at h
 . rcases List.mem_or_eq_of_mem_set h with z|z
   . have:=hg g z;omega
   . have hs:seat<(gi b as).length:=by rw [mK];exact ok.seat
     have e:(gi b as).getD seat 0=(gi b as)[seat] :=by rw [i_,aX hs];rfl
     have:=hg _ (tR hs)
     rw [z,e,q_ aw]
     omega
 . have:=hg g h;omega
theorem Wg (wf:uD b) (ok:lW b as seat aw) (hz:Jm.Sz 7000 (b.bot*br b)):uD (iY b as seat aw):=by
 have b1:=wf.b1
 have gb:=T8 wf ok
 have kp:=ok.kept
 have as0:0<=as.sum:=by
  cases has:as with
  | nil=>exact jL _
  | cons a l=>exact Int.le_trans (ok.a0 a (by rw [has];exact cJ)) (by rw [<-has];exact vL ok.a0 (by rw [has];exact cJ))
 have B0:=ok.B0
 have CJ:∀p∈(dh b as seat aw).filter (fun p=>decide (0<p.wo)),0<p.wo/\∃p0∈b.ai,∃a,p=mY (gZ b as seat aw) (br b-aw-as.sum) p0 a:=fun p hp=>by
  obtain ⟨h1,h2⟩:=nC.mp hp
  obtain ⟨i,x,a,ex,_,e⟩:=ju (show p∈List.zipWith (mY (gZ b as seat aw) (br b-aw-as.sum)) b.ai as from h1)
  exact ⟨dO h2,x,bN ex,a,e⟩
 have nmE:(dh b as seat aw).map (fun p:BP=>p.nm)=b.ai.map (fun p:BP=>p.nm):=by
  have:=T3 (seat:=seat) (aw:=aw) ok.len b.ai.length
  rw [Dr,qZ,show (dh b as seat aw).take b.ai.length=dh b as seat aw from by rw [<-vK ok.len];exact cC] at this
  exact this
 refine ⟨?_,fun p hp=>?_,fun p hp t ht=>?_,?_,hz,fun p hp=>?_,wf.ol,?_,wf.kl⟩
 . have:(((dh b as seat aw).filter fun p=>decide (0<p.wo)).map (fun p:BP=>p.nm)).Sublist ((dh b as seat aw).map (fun p:BP=>p.nm)):=List.filter_sublist.map _
   rw [nmE] at this
   exact wf.nd.sublist this
 . obtain ⟨_,p0,h0,a,rfl⟩:=CJ p hp
   show (List.zipWith _ p0.tops (gZ b as seat aw)).length=b.own.length
   rw [qw,wf.tl p0 h0,yu]
   omega
 . obtain ⟨_,p0,h0,a,rfl⟩:=CJ p hp
   obtain ⟨i,x,g,ex,eg,rfl⟩:=ju (show t∈List.zipWith (fun t g=>t*(br b-aw-as.sum)+g) p0.tops (gZ b as seat aw) from ht)
   have hx:=wf.t0 p0 h0 x (bN ex)
   have hg:=gb g (bN eg)
   have k1:0<=x*(br b-aw-as.sum):=nE hx.1 (by omega)
   have k2:x*(br b-aw-as.sum)<=b.bot*(br b-aw-as.sum):=RZ hx.2 (by omega)
   have k3:b.bot*(br b-aw-as.sum)+b.bot*(as.sum+aw)=b.bot*br b:=by rw [<-o9];congr 1;omega
   exact ⟨by omega,by show _<=b.bot*br b;omega⟩
 . show 1<=b.bot*br b
   have:b.bot*1<=b.bot*br b:=G_ (by omega) (by omega)
   omega
 . exact (CJ p hp).1
 . have:=List.length_filter_le (fun p:BP=>decide (0<p.wo)) (dh b as seat aw)
   rw [vK ok.len] at this
   exact fq this wf.pl
theorem YW (wf:uD b) (h:vM b rs) (hl:bu rs<br b) (ho:0<b.own.length) (hz:Jm.Sz 60 (br b)):lW b (c9 b rs) 0 0:=by
 have hs:=Ia wf.nd h rs.length (aP _)
 rw [cC] at hs
 refine ⟨Ad b rs,fun a ha=>?_,ho,jL _,by rw [hs];omega,hz⟩
 obtain ⟨p,_,rfl⟩:=bM.mp ha
 exact Wd (fun r hr=>(h.row r hr).1) p.nm
inductive abn (K:Fg) (vs:List V) (H:Hp) (Q:VK) (E:XK):Prop
 | mk (n ρ B b:_) (l:Addr) (us:List V) (rs:List Row) (_:vs=[.ref B.m, .ref l]) (_:Gh ρ H) (_:bg n ρ B H b) (_:uD b) (_:aC K H l us) (_:gh H us rs) (_:ρ l=none) (_:vM b rs) (_:rs.length<=1000) (_:lW b (c9 b rs:_) 0 0) (_:∀ρ' B' H',Gh ρ' H'->bg n ρ' B' H' (iY b (c9 b rs:_) 0 0)->B'.m=B.m->Fr n ρ H ρ' H'->Q .bZ H')
def Pk (K:Fg):Sp:=bx (abn K)
theorem YX (wf:uD b) {o:Str} (h1:x∉b.ai.map (fun p:BP=>p.nm)) (h2:1<=wo) (h3:b.ai.length<1000) (h4:b.d8.length<1000):uD (yt b x o wo we):=by
 have P:∀{M:BP->Prop},(∀p∈b.ai,M p)->M ⟨x,o,wo,we,(List.replicate b.own.length 0).set (b.own.idxOf o) b.bot⟩->∀p∈(yt b x o wo we).ai,M p:=fun a c p hp=>by
  rcases fZ.mp (show p∈b.ai++[_] from hp) with z|z
  . exact a p z
  . rw [fU.mp z];exact c
 have b1:=wf.b1
 refine ⟨?_,P wf.tl (by show ((List.replicate b.own.length (0:Int)).set _ _).length=_;rw [lD,mS];rfl),P wf.t0 (fun t ht=>?_),wf.b1,wf.bz,P wf.w1 h2,wf.ol,?_,?_⟩
 . show ((b.ai++[_]).map (fun p:BP=>p.nm)).Nodup
   rw [bL]
   exact oM wf.nd h1
 . rcases yj ht with z|z
   . rw [z];show 0<=0/\0<=b.bot;omega
   . rw [z];show 0<=b.bot/\b.bot<=b.bot;omega
 . show (b.ai++[_]).length<=1000
   rw [di];show b.ai.length+1<=1000;omega
 . show (b.d8++[_]).length<=1000
   rw [di];show b.d8.length+1<=1000;omega
theorem vN:∀(rs:List Row) (s:HS),rs.foldl fH s={ s with ai:=(rs.foldl fH s).ai }
 | [],_=>rfl
 | r::rs,s=>by
   rw [mE,vN rs (fH s r)]
   rfl
def CK (st:HS) (b:BS):Prop:=∀p∈st.ai,∀q∈b.ai,p.nm=q.nm->∀j,q.tops.getD j 0*st.prod=(b_ st p).getD j 0*b.bot
theorem uE {f:Int->Int->Int} (hf:f 0 0=0) {xs ys:List Int} (h:xs.length=ys.length) (j:Nat):(List.zipWith f xs ys).getD j 0=f (xs.getD j 0) (ys.getD j 0):=by
 rw [i_,i_,i_,Qj]
 by_cases c:j<xs.length
 . rw [aX c,aX (by omega)];rfl
 . rw [uf (by omega),uf (by omega)];exact hf.symm
def uF (rs:List Row) (f:Str->Int):Int:=(rs.map fun r=>r.2*f r.1).sum
theorem Lk {st:HS}:∀(rs:List Row) (acc:List Int),(∀r∈rs,(b_ st (c5 st r.1)).length=acc.length)->∀j,(yp st acc rs).getD j 0=acc.getD j 0+uF rs fun x=>(b_ st (c5 st x)).getD j 0
 | [],acc,_,j=>by show acc.getD j 0=_+0;omega
 | r::rs,acc,h,j=>by
   have hr:=h r cJ
   have e:(List.zipWith (fun x t=>x+r.2*t) acc (b_ st (c5 st r.1))).length=acc.length:=by rw [qw,hr];omega
   show (yp st (List.zipWith (fun x t=>x+r.2*t) acc (b_ st (c5 st r.1))) rs).getD j 0=_
   rw [Lk rs _ (fun x hx=>by rw [e];exact h x (cG _ hx)),uE (f:=fun x t=>x+r.2*t) (by show (0:Int)+r.2*0=0;omega) hr.symm]
   unfold uF
   rw [bD,cU]
   show acc.getD j 0+r.2*(b_ st (c5 st r.1)).getD j 0+(rs.map fun r=>r.2*(b_ st (c5 st r.1)).getD j 0).sum=acc.getD j 0+(r.2*(b_ st (c5 st r.1)).getD j 0+(rs.map fun r=>r.2*(b_ st (c5 st r.1)).getD j 0).sum)
   omega
theorem Ra (nd:(b.ai.map (fun p:BP=>p.nm)).Nodup) (h:vM b rs) (f:Str->Int):∀i≤rs.length,(b.ai.map fun p=>f p.nm*dB (rs.take i) p.nm).sum=uF (rs.take i) f:=by
 intro i
 induction i with
 | zero=>
   intro _
   rw [List.take_zero]
   show (b.ai.map fun p=>f p.nm*0).sum=0
   clear nd h
   generalize b.ai=ps
   induction ps with
   | nil=>rfl
   | cons p ps ih=>rw [bD,cU,ih];omega
 | succ i ih=>
   intro hi
   have ei:=aX (show i<rs.length by omega)
   obtain ⟨_,j,p,hp,e,_⟩:=h.row _ (bN ei)
   have hn:(rs[i]).1∉(rs.take i).map (fun r:Row=>r.1):=by
    rw [AN]
    exact j5 h.nd (by rw [bJ,ei];rfl)
   rw [take_snoc ei]
   generalize rs[i]=r at *
   replace ih:=ih (by omega)
   generalize rs.take i=us at *
   have:uF (us++[r]) f=uF us f+r.2*f r.1:=by unfold uF;rw [bL,List.sum_append];simp
   rw [this,<-ih]
   clear this ih hi ei
   have hm:=bN hp
   clear hp
   generalize b.ai=ps at *
   clear h
   induction ps with
   | nil=>simp at hm
   | cons x ps ihp=>
     obtain ⟨n1,n2⟩:=ia.mp (show (x.nm::ps.map (fun p:BP=>p.nm)).Nodup from nd)
     rw [bD,bD,cU,cU]
     rcases c_.mp hm with z|z
     . subst z
       have rest:(ps.map fun p=>f p.nm*dB (us++[r]) p.nm)=ps.map fun p=>f p.nm*dB us p.nm:=Ck fun y hy=>by
        rw [mO hn,az (fun z=>n1 (bM.mpr ⟨y,hy,z.symm.trans e.symm⟩))]
       rw [rest,mO hn,aB e.symm,e,tX hn,Int.mul_zero,q_ r.2]
       omega
     . have ne:x.nm≠r.1:=fun z'=>n1 (bM.mpr ⟨p,z,e.trans z'.symm⟩)
       rw [ihp n2 z,mO hn,az (fun z=>ne z.symm)]
       omega
theorem Ll:∀(rs:List Row) {s:HS} {p':Pt},p'∈(rs.foldl fH s).ai->∃p∈s.ai,p'.nm=p.nm/\p'.row=p.row/\p'.sc=p.sc
 | [],_,p',h=>⟨p',h,Z,Z,Z⟩
 | r::rs,s,p',h=>by
   obtain ⟨p,hp,e1,e2,e3⟩:=Ll rs (s:=fH s r) h
   obtain ⟨_,q,hq,e⟩:=yr hp
   refine ⟨q,hq,?_⟩
   rw [e1,e2,e3,e]
   split <;> exact ⟨Z,Z,Z⟩
theorem YY {ps:List BP} (j:Nat):iM ps (ps.map fun p=>dB rs p.nm) j=(ps.map fun p=>p.tops.getD j 0*dB rs p.nm).sum:=by
 unfold iM
 induction ps with
 | nil=>rfl
 | cons p ps ih=>rw [bD,v5,cU,bD,cU,ih]
theorem Ih (k:Int) {α:Type} (l:List α) (f g:α->Int) (h:∀x∈l,f x*k=g x):(l.map f).sum*k=(l.map g).sum:=by
 induction l with
 | nil=>show (0:Int)*k=0;omega
 | cons x l ih=>
   rw [bD,bD,cU,cU,AU,ih fun y hy=>h y (cG _ hy),h x cJ]
theorem T9 {st st':HS} {kept whole:Int} {added:List Int} (wf:Wf st) (bl:t9 st kept whole lost added) (ec:st'.bR=(cS st kept whole added).bR) (ep:st'.prod=(cS st kept whole added).prod) {p':Pt} (hp:p∈st.ai) (e2:p'.row=p.row) (e3:p'.sc=p.sc*kept / c7 st kept whole added)
  {t0 gB B:Int} {j:Nat} (tj:t0*st.prod=(b_ st p).getD j 0*B) (eB:gB*st.prod=added.getD j 0*B):(t0*kept+gB)*st'.prod=(b_ st' p').getD j 0*(B*whole):=by
 obtain ⟨hd,hdw,hds,hdc⟩:=bl.dvds
 have ahb:st'.bR=(fV st kept added).map (· / c7 st kept whole added):=by
  rw [ec];unfold cS;rw [TF]
 have s1:1<=whole / c7 st kept whole added:=by
  have w1:0<whole:=by have:=bl.l;have:=bl.w;have:=bl.k;omega
  have:=Int.le_of_dvd w1 hdw
  exact Int.le_ediv_of_mul_le hd (by omega)
 have Xm:st'.prod=st.prod*(whole / c7 st kept whole added):=by
  rw [ep];unfold cS;rw [Ei s1]
 have hds:=hds p hp
 have hrl:=wf.rows p hp
 have hcl:=wf.jb
 have gl:=bl.len
 have ewd:c7 st kept whole added*(whole / c7 st kept whole added)=whole:=Int.mul_ediv_cancel' hdw
 have a5:c7 st kept whole added*p'.sc=p.sc*kept:=by rw [e3];exact Int.mul_ediv_cancel' hds
 rw [Xm]
 clear ec ep Xm e3 bl hdw hds s1
 generalize c7 st kept whole added=d at *
 have etop:d*(b_ st' p').getD j 0=(b_ st p).getD j 0*kept+added.getD j 0:=by
  have a1:(b_ st' p').getD j 0=p'.sc*p.row.getD j 0+((fV st kept added).map (· / d)).getD j 0:=by
   unfold b_
   rw [ahb,e2,uE (f:=fun r c=>p'.sc*r+c) (by show p'.sc*0+0=0;omega)]
   rw [aF]
   unfold fV
   rw [qw,gl,hrl,hcl]
   omega
  have a2:(b_ st p).getD j 0=p.sc*p.row.getD j 0+st.bR.getD j 0:=by
   unfold b_
   exact uE (f:=fun r c=>p.sc*r+c) (by show p.sc*0+0=0;omega) (by rw [hrl,hcl]) j
  have a3:(fV st kept added).getD j 0=st.bR.getD j 0*kept+added.getD j 0:=by
   unfold fV
   exact uE (f:=fun t m=>t*kept+m) (by show (0:Int)*_+0=0;omega) gl.symm j
  have a4:d*((fV st kept added).map (· / d)).getD j 0=(fV st kept added).getD j 0:=by
   rw [i_,i_,bJ]
   cases ec:(fV st kept added)[j]? with
   | none=>show _*0=(0:Int);omega
   | some x=>exact Int.mul_ediv_cancel' (hdc x (bN ec))
  rw [a1,o9,<-jK,a5,a4,a3,a2]
  grind
 generalize whole / d=T_ at *
 generalize (b_ st' p').getD j 0=T' at *
 generalize (b_ st p).getD j 0=T at *
 generalize added.getD j 0=gS at *
 refine Int.eq_of_mul_eq_mul_left (a:=d) (by omega) ?_
 have l1:d*((t0*kept+gB)*(st.prod*T_))=(t0*st.prod*kept+gB*st.prod)*(d*T_):=by grind
 have l2:d*(T'*(B*whole))=(d*T')*(B*whole):=by grind
 rw [l1,l2,ewd,tj,eB,etop]
 grind
theorem Ua (t:CK st b) (rl:iU st b) (wf:Wf st) (wb:uD b) (c:pM st rs) (rb:vM b rs) (bo:lW b (c9 b rs) 0 0):CK (kF st rs) (iY b (c9 b rs) 0 0):=by
 intro p' xu q' hq' en j
 have bl:=c.blend wf
 have ew:=rl.whole
 have En:∀r∈rs,∃p∈st.ai,p.nm=r.1:=fun r hr=>by obtain ⟨p,hp,e,_⟩:=(c.row r hr).2.2;exact ⟨p,hp,e⟩
 have eG:=HX wf En
 have gl:(fX st rs).length=st.bR.length:=bl.len
 obtain ⟨p1,hp1,e1,e2,e3⟩:=Ll rs (s:=cS st (bK st-bu rs) (bK st) (fX st rs)) xu
 have eK:=vN rs (cS st (bK st-bu rs) (bK st) (fX st rs))
 have ahc:p1∈st.ai.map (fun p:Pt=>{ p with sc:=p.sc*(bK st-bu rs) / c7 st (bK st-bu rs) (bK st) (fX st rs) }):=by
  have h:=hp1
  unfold cS at h
  rw [Aa] at h
  exact h
 obtain ⟨p,hp,rfl⟩:=bM.mp ahc
 have e1:p'.nm=p.nm:=e1
 have e2:p'.row=p.row:=e2
 have e3:p'.sc=p.sc*(bK st-bu rs) / c7 st (bK st-bu rs) (bK st) (fX st rs):=e3
 have hcl:=wf.jb
 obtain ⟨h1,_⟩:=nC.mp (show q'∈(dh b (c9 b rs) 0 0).filter _ from hq')
 obtain ⟨k,q,a,eq,_,Eo⟩:=ju (show q'∈List.zipWith (mY (gZ b (c9 b rs) 0 0) (br b-0-(c9 b rs).sum)) b.ai (c9 b rs) from h1)
 have hq:=bN eq
 have enq:p.nm=q.nm:=by rw [<-e1,en,Eo];rfl
 have tj:=t p hp q hq enq j
 have hs:=Ia wb.nd rb rs.length (aP _)
 rw [cC] at hs
 have eqt:q'.tops.getD j 0=q.tops.getD j 0*(br b-bu rs)+(gi b (c9 b rs)).getD j 0:=by
  rw [Eo]
  show (List.zipWith _ q.tops (gZ b (c9 b rs) 0 0)).getD j 0=_
  rw [uE (f:=fun t g=>t*(br b-0-(c9 b rs).sum)+g) (by show (0:Int)*_+0=0;omega) (by rw [wb.tl q hq,yu]),hs,Int.sub_zero]
  rfl
 have eGj:(fX st rs).getD j 0=uF rs fun x=>(b_ st (c5 st x)).getD j 0:=by
  rw [eG,Lk rs _ (fun r hr=>by
   obtain ⟨x,hx,e⟩:=En r hr
   rw [jG wf hx e,mS,yq wf hx])]
  have:(List.replicate st.bR.length (0:Int)).getD j 0=0:=by
   rw [i_,List.getElem?_replicate]
   split <;> rfl
  omega
 have eBj:(gi b (c9 b rs)).getD j 0*st.prod=(fX st rs).getD j 0*b.bot:=by
  have pr:=Ra wb.nd rb (fun x=>(b_ st (c5 st x)).getD j 0) rs.length (aP _)
  rw [cC] at pr
  rw [eGj,<-pr]
  by_cases cj:j<b.own.length
  . have e:(gi b (c9 b rs)).getD j 0=(b.ai.map fun p=>p.tops.getD j 0*dB rs p.nm).sum:=by
     unfold gi
     rw [i_,bJ,List.getElem?_range cj]
     exact YY j
    rw [e,Ih st.prod b.ai (fun p=>p.tops.getD j 0*dB rs p.nm) (fun p=>((b_ st (c5 st p.nm)).getD j 0*dB rs p.nm)*b.bot) (fun x hx=>?_)]
    . exact (Ih b.bot b.ai (fun p=>(b_ st (c5 st p.nm)).getD j 0*dB rs p.nm) _ fun x _=>rfl).symm
    . obtain ⟨i,hi,ei⟩:=qx hx
      obtain ⟨y,hy,ey,_⟩:=rl.at (i:=i) (q:=x) (by rw [aX hi,ei])
      have hy:=bN hy
      have:=t y hy x hx ey j
      rw [jG wf hy ey,Int.mul_right_comm,this,Int.mul_right_comm]
  . have z1:(gi b (c9 b rs)).getD j 0=0:=by
     rw [i_,uf (by rw [mK];omega)];rfl
    have z2:(fX st rs).getD j 0=0:=by
     rw [i_,uf (by rw [gl,hcl,rl.own];omega)];rfl
    rw [z1,pr,<-eGj,z2]
    omega
 rw [eqt,<-ew]
 show _=(b_ (kF st rs) p').getD j 0*(b.bot*br b)
 rw [<-ew]
 exact T9 wf bl (by unfold kF;rw [eK]) (by unfold kF;rw [eK]) hp e2 e3 tj eBj
theorem Ub (t:CK st b) (rl:iU st b) (wf:Wf st) (wb:uD b) {o:Str} (h1:x∉b.ai.map (fun p:BP=>p.nm)):CK (yh st x o wo we) (yt b x o wo we):=by
 intro p hp q hq en j
 have nmE:∀y∈st.ai,y.nm∈b.ai.map (fun p:BP=>p.nm):=fun y hy=>by
  obtain ⟨i,hi,ei⟩:=qx hy
  obtain ⟨z,hz,ez,_⟩:=rl.at' (i:=i) (p:=y) (by rw [aX hi,ei])
  rw [ez]
  exact bM.mpr ⟨z,bN hz,Z⟩
 show q.tops.getD j 0*st.prod=(b_ st p).getD j 0*b.bot
 rcases fZ.mp (show p∈st.ai++[_] from hp) with zp|zp
 . rcases fZ.mp (show q∈b.ai++[_] from hq) with zq|zq
   . exact t p zp q zq en j
   . rw [fU.mp zq] at en
     have en:p.nm=x:=en
     exact absurd (by rw [<-en];exact nmE p zp) h1
 . rcases fZ.mp (show q∈b.ai++[_] from hq) with zq|zq
   . rw [fU.mp zp] at en
     have en:x=q.nm:=en
     exact absurd (by rw [en];exact bM.mpr ⟨q,zq,Z⟩) h1
   . rw [fU.mp zp,fU.mp zq]
     have e1:b_ st ⟨x,o,wo,we,1,zX st ((List.replicate st.own.length 0).set (st.own.idxOf o) st.prod)⟩=(List.replicate st.own.length 0).set (st.own.idxOf o) st.prod:=by
      show List.zipWith (fun r c=>1*r+c) (List.zipWith (fun t c=>t-c) ((List.replicate st.own.length 0).set (st.own.idxOf o) st.prod) st.bR) st.bR=_
      rw [CF,wf.jb]
      exact zj (by rw [lD,mS];exact aP _)
     rw [e1,rl.own]
     show ((List.replicate b.own.length 0).set (b.own.idxOf o) b.bot).getD j 0*st.prod=((List.replicate b.own.length 0).set (b.own.idxOf o) st.prod).getD j 0*b.bot
     have key:∀v:Int,((List.replicate b.own.length 0).set (b.own.idxOf o) v).getD j 0=if b.own.idxOf o=j/\j<b.own.length then v else 0:=fun v=>by
      rw [i_,List.getElem?_set]
      by_cases c:b.own.idxOf o=j
      . rw [aB c]
        by_cases d:b.own.idxOf o<(List.replicate b.own.length (0:Int)).length
        . rw [aB d,aB ⟨c,by rw [mS] at d;omega⟩];rfl
        . rw [az d,az (fun z=>d (by rw [mS];omega))];rfl
      . rw [az c,az (fun z=>c z.1),List.getElem?_replicate]
        split <;> rfl
     rw [key,key]
     split
     . exact q_ _ _
     . omega
theorem Rb {st:HS} {b:BS} (t:CK st b) (rl:iU st b) (wf:Wf st) (wb:uD b) {p:Pt} {q:BP} (hp:p∈st.ai) (hq:q∈b.ai) (e:p.nm=q.nm):zY st p=fG b.own q.tops b.bot:=by
 have p1:=wf.iX
 have b1:=wb.b1
 have l1:(b_ st p).length=b.own.length:=by rw [yq wf hp,wf.jb,rl.own]
 have l2:q.tops.length=b.own.length:=wb.tl q hq
 have tj:=t p hp q hq e
 unfold zY fG
 rw [rl.own]
 generalize b_ st p=xs at *
 generalize q.tops=ys at *
 generalize b.own=own at *
 have step:∀(own:List Str) (xs ys:List Int),xs.length=own.length->ys.length=own.length->(∀j,ys.getD j 0*st.prod=xs.getD j 0*b.bot)->(List.zip own xs).filterMap (fun x=>if 0<x.2 then some (x.1,Jm.fr x.2 st.prod) else none)=(List.zip own ys).filterMap fun x=>if 0<x.2 then some (x.1,Jm.fr x.2 b.bot) else none:=by
  intro own
  induction own with
  | nil=>intro xs ys _ _ _;simp
  | cons o own ih=>
    intro xs ys h1 h2 h3
    cases xs with
    | nil=>simp at h1
    | cons x xs=>
      cases ys with
      | nil=>simp at h2
      | cons y ys=>
        have h0:y*st.prod=x*b.bot:=by simpa using h3 0
        have ih:=ih xs ys (by simpa using h1) (by simpa using h2) (fun j=>by simpa using h3 (j+1))
        rw [List.zip_cons_cons,List.zip_cons_cons,zu,zu,ih]
        by_cases c:0<x
        . have c2:0<y:=by
           rcases Dy 0 y with z|z
           . exact z
           . have k1:y*st.prod<=0:=Int.mul_nonpos_of_nonpos_of_nonneg z (by omega)
             have k2:0<x*b.bot:=Int.mul_pos c (by omega)
             omega
          simp only [aB c,aB c2]
          rw [Jm.W0 (t:=x) (b:=st.prod) (t':=y) (b':=b.bot) (by omega) (by omega) h0.symm]
        . have c2:¬ 0<y:=fun z=>by
           have k1:0<y*st.prod:=Int.mul_pos z (by omega)
           have k2:x*b.bot<=0:=Int.mul_nonpos_of_nonpos_of_nonneg (by omega) (by omega)
           omega
          simp only [az c,az c2]
 exact step own xs ys l1 l2 tj
theorem B3 {α:Type} (f g:α->Int):∀l:List α,(l.map fun x=>f x+g x).sum=(l.map f).sum+(l.map g).sum
 | []=>rfl
 | a::l=>by rw [bD,bD,bD,cU,cU,cU,B3 f g l];omega
theorem wA {α:Type} (f:α->Int) (k:Int):∀l:List α,(l.map fun x=>f x*k).sum=(l.map f).sum*k
 | []=>by simp
 | a::l=>by rw [bD,bD,cU,cU,wA f k l,AU]
theorem Nu:∀(l:List Int) (n:Nat),l.length=n->(List.range n).map (fun i=>l.getD i 0)=l:=fun l n h=>by
 refine List.ext_getElem? fun i=>?_
 rw [bJ]
 by_cases hi:i<n
 . rw [List.getElem?_range hi,aX (by omega)]
   show some (l.getD i 0)=_
   rw [i_,aX (by omega)];rfl
 . rw [uf (by rw [Cm];omega),uf (by omega)];rfl
theorem Ii {B:Int} {n:Nat}:∀(ps:List BP) (as:List Int),(∀p∈ps,p.tops.length=n/\p.tops.sum=B)->as.length=ps.length->((List.range n).map (iM ps as)).sum=B*as.sum
 | [],[],_,_=>by
   have:(List.range n).map (iM [] [])=(List.range n).map fun _=>(0:Int)*0:=by congr 1
   rw [this,wA];simp
 | [],_::_,_,h=>by simp at h
 | _::_,[],_,h=>by simp at h
 | p::ps,a::as,hp,hl=>by
   have e:(List.range n).map (iM (p::ps) (a::as))=(List.range n).map fun i=>p.tops.getD i 0*a+iM ps as i:=by
    congr 1
   obtain ⟨h1,h2⟩:=hp p cJ
   have ih:=Ii ps as (fun x hx=>hp x (cG _ hx)) (by simpa using hl)
   rw [e,B3,wA,Nu _ _ h1,ih,h2,cU,o9]
theorem wB:∀{l:List Int} {i:Nat} {x:Int},i<l.length->(l.set i (l.getD i 0+x)).sum=l.sum+x
 | a::l,0,x,_=>by rw [J6,cU,cU];show a+x+_=_;omega
 | a::l,i+1,x,h=>by
   rw [J5,cU,cU]
   have:=wB (l:=l) (i:=i) (x:=x) (by simpa using h)
   have e:(a::l).getD (i+1) 0=l.getD i 0:=rfl
   rw [e,this];omega
 | [],_,_,h=>by simp at h
theorem Pn (k:Int):∀{ts gs:List Int},ts.length=gs.length->(List.zipWith (fun t g=>t*k+g) ts gs).sum=ts.sum*k+gs.sum
 | [],[],_=>by simp
 | t::ts,g::gs,h=>by
   have:=Pn k (ts:=ts) (gs:=gs) (by simpa using h)
   rw [v5,cU,cU,cU,this,AU];omega
 | [],_::_,h=>by simp at h
 | _::_,[],h=>by simp at h
theorem Wh (wf:uD b) (ok:lW b as seat aw) (hs:∀p∈b.ai,p.tops.sum=b.bot):∀p∈(iY b as seat aw).ai,p.tops.sum=(iY b as seat aw).bot:=fun p hp=>by
 obtain ⟨h1,_⟩:=nC.mp (show p∈(dh b as seat aw).filter _ from hp)
 obtain ⟨i,x,a,ex,ea,rfl⟩:=ju (show p∈List.zipWith (mY (gZ b as seat aw) (br b-aw-as.sum)) b.ai as from h1)
 have hx:=bN ex
 show (List.zipWith (fun t g=>t*(br b-aw-as.sum)+g) x.tops (gZ b as seat aw)).sum=b.bot*br b
 rw [Pn _ (by rw [wf.tl x hx,yu]),hs x hx]
 have eg:(gi b as).sum=b.bot*as.sum:=Ii b.ai as (fun p hp=>⟨wf.tl p hp,hs p hp⟩) ok.len
 have e2:(gZ b as seat aw).sum=b.bot*(as.sum+aw):=by
  unfold gZ
  by_cases h:0<aw
  . rw [aB h,wB (by rw [mK];exact ok.seat),eg,o9,q_ aw]
  . have:aw=0:=by have:=ok.B0;omega
    rw [az h,eg,this,Int.add_zero]
 rw [e2,<-o9]
 congr 1
 omega
structure fT (c:Nat) (st:HS) (b:BS):Prop where
 j6:uD b
 rel:iU st b
 Gf:CK st b
 dg:∀u∈st.dg,Jm.Sz (60*c+60) u
 stp:st.stp.length<=c
 prod:Jm.Sz (60*c+1) st.prod
 bot:Jm.Sz (60*c+1) b.bot
 wo:∀p∈b.ai,p.wo<=1000000000*((c:Int)+1)
 we:∀p∈b.ai,p.we<=1000000000
 pl:b.ai.length<=50+c
 kl:b.d8.length<=900+c
 own:0<b.own.length
 nm:∀p∈b.ai,PyData.strOk p.nm=true/\PyData.strOk p.ow=true
 kj:st.kj=[]/\b.kj=[]
 d8:st.nms=b.d8
 nk:∀x∈b.d8,isNm x=true
 on:∀o∈b.own,isNm o=true
 sum:∀p∈b.ai,p.tops.sum=b.bot
variable {c:Nat}
theorem fT.mono (g:fT c st b):fT (c+1) st b:=⟨g.j6,g.rel,g.Gf,fun u hu=>(g.dg u hu).mono (by omega),by have:=g.stp;omega,g.prod.mono (by omega),g.bot.mono (by omega),fun p hp=>by have:=g.wo p hp;omega,g.we,by have:=g.pl;omega,by have:=g.kl;omega,g.own,g.nm,g.kj,g.d8,g.nk,g.on,g.sum⟩
theorem fT.nms (g:fT c st b):abd st.ai:=fun p hp=>by
 obtain ⟨i,hi,e⟩:=qx hp
 obtain ⟨q,eq,e1,e2,_⟩:=g.rel.at' (i:=i) (p:=p) (by rw [aX hi,e])
 rw [e1,e2]
 exact g.nm q (bN eq)
theorem B7:∀{ps:List BP} {m:Int},(∀p∈ps,1<=p.wo/\p.wo<=m)->0<=(ps.map fun p=>p.wo).sum/\(ps.map fun p=>p.wo).sum<=m*(ps.length:Int)
 | [],m,_=>by show 0<=(0:Int)/\(0:Int)<=m*0;omega
 | p::ps,m,h=>by
   have h0:=h p cJ
   have ih:=B7 (ps:=ps) (m:=m) fun x hx=>h x (cG _ hx)
   rw [bD,cU,mU,show (((ps.length+1:Nat)):Int)=(ps.length:Int)+1 from by omega,o9,Int.mul_one]
   omega
theorem fT.whole (g:fT c st b) (hc:c<=100):0<=br b/\Jm.Sz 60 (br b):=by
 have h:=B7 (ps:=b.ai) (m:=101000000000) fun p hp=>⟨g.j6.w1 p hp,by have:=g.wo p hp;omega⟩
 refine ⟨h.1,?_⟩
 have hl:=g.pl
 have h2:(101000000000:Int)*(b.ai.length:Int)<=15150000000000:=by omega
 have h3:br b<=15150000000000:=Int.le_trans h.2 h2
 have h1:0<=br b:=h.1
 have:Jm.Sz 60 (15150000000000:Int):=pH (by decide +kernel)
 exact this.of_le (by omega)
theorem YZ {st':HS} {kept:Int} (g:fT c st b) (bl:t9 st kept (bK st) lost added) (bo:lW b as seat aw) (hc:c<=90) (eC:st'={ cS st kept (bK st) added with ai:=st'.ai }) (rw':iU st' (iY b as seat aw)) (rt:CK st' (iY b as seat aw)):fT (c+1) st' (iY b as seat aw):=by
 have zw:=g.whole (by omega)
 have ew:=g.rel.whole
 obtain ⟨hs,hsw,_,_⟩:=bl.dvds
 have w1:0<bK st:=by have:=bl.k;have:=bl.l;have:=bl.w;omega
 have s1:1<=bK st / c7 st kept (bK st) added:=by
  have:=Int.le_of_dvd w1 hsw
  exact Int.le_ediv_of_mul_le hs (by omega)
 have s2:bK st / c7 st kept (bK st) added<=bK st:=Int.ediv_le_self _ (by omega)
 have zs:Jm.Sz 60 (bK st / c7 st kept (bK st) added):=by
  have:=zw.2
  rw [<-ew] at this
  exact this.of_le (by omega)
 have CJ:∀p∈(iY b as seat aw).ai,∃p0∈b.ai,∃a,a∈as/\p=mY (gZ b as seat aw) (br b-aw-as.sum) p0 a:=fun p hp=>by
  obtain ⟨h1,_⟩:=nC.mp (show p∈(dh b as seat aw).filter _ from hp)
  obtain ⟨i,x,a,ex,ea,e⟩:=ju (show p∈List.zipWith (mY (gZ b as seat aw) (br b-aw-as.sum)) b.ai as from h1)
  exact ⟨x,bN ex,a,bN ea,e⟩
 have zb:Jm.Sz (60*(c+1)+1) (b.bot*br b):=(g.bot.mul zw.2).mono (by omega)
 refine ⟨Wg g.j6 bo (zb.mono (by omega)),rw',rt,fun u hu=>?_,?_,?_,zb,fun p hp=>?_,(fun p hp=>by obtain ⟨p0,h0,a,_,rfl⟩:=CJ p hp;exact g.we p0 h0),?_,(by show b.d8.length<=_;have:=g.kl;omega),g.own,fun p hp=>?_,⟨?_,g.kj.2⟩,?_,g.nk,g.on,Wh g.j6 bo g.sum⟩
 . rw [eC] at hu
   have hu:u∈(cS st kept (bK st) added).dg:=hu
   unfold cS at hu
   rw [TH] at hu
   obtain ⟨x,hx,rfl⟩:=bM.mp hu
   exact ((g.dg x hx).mul zs).mono (by omega)
 . rw [eC]
   show (cS st kept (bK st) added).stp.length<=c+1
   unfold cS fP
   split
   . show (st.stp++[_]).length<=c+1
     rw [di];have:=g.stp;show st.stp.length+1<=c+1;omega
   . show st.stp.length<=c+1
     have:=g.stp;omega
 . rw [eC]
   show Jm.Sz _ (cS st kept (bK st) added).prod
   unfold cS
   rw [Ei s1]
   exact (g.prod.mul zs).mono (by omega)
 . obtain ⟨p0,h0,a,ha,rfl⟩:=CJ p hp
   have:=g.wo p0 h0
   have:=bo.a0 a ha
   show p0.wo-a<=1000000000*(((c+1:Nat):Int)+1)
   omega
 . have:=List.length_filter_le (fun p:BP=>decide (0<p.wo)) (dh b as seat aw)
   rw [vK bo.len] at this
   have:=g.pl
   show (List.filter _ _).length<=_
   omega
 . obtain ⟨p0,h0,a,_,rfl⟩:=CJ p hp
   exact g.nm p0 h0
 . rw [eC]
   show (cS st kept (bK st) added).kj=[]
   unfold cS
   rw [TM]
   exact g.kj.1
 . rw [eC]
   show (cS st kept (bK st) added).nms=b.d8
   unfold cS
   rw [TL]
   exact g.d8
theorem Y0 (g:fT c st b) (wf:Wf st) (ok:pM st rs) (rb:vM b rs) (bo:lW b (c9 b rs) 0 0) (hc:c<=90):fT (c+1) (kF st rs) (iY b (c9 b rs) 0 0):=
 YZ g (ok.blend wf) bo hc (vN rs (cS st (bK st-bu rs) (bK st) (fX st rs))) (T6 g.rel wf ok) (Ua g.Gf g.rel wf g.j6 ok rb bo)
theorem Y3 (st:HS) (rs:List Row):(kF st rs).kn<=st.kn:=by
 unfold kF
 rw [vN]
 show (cS st (bK st-bu rs) (bK st) (fX st rs)).kn<=st.kn
 unfold cS fP
 split
 . exact f_ _
 . exact aP _
theorem Po (h:isNm x=true):PyData.strOk x=true:=by
 unfold PyData.strOk
 rw [Array.all_eq_true']
 intro c hc
 unfold isNm isName at h
 have h1:=o7.mp (k_.mp h).2 c (by simpa using hc)
 rw [Yz] at h1
 have hm:=dO h1
 have:∀c∈("abcdefghijklmnopqrstuvwxyz":Str).cps.toList,c<1000:=by decide +kernel
 have:=this c hm
 exact cg (by omega)
theorem Wi (n:Nat):(List.replicate n (0:Int)).sum=0:=by
 induction n with
 | zero=>rfl
 | succ n ih=>rw [Cj,cU,ih];rfl
theorem Y4 (g:fT c st b) (wf:Wf st) {o:Str} (h1:x∉b.ai.map (fun p:BP=>p.nm)) (h2:1<=wo) (h2':wo<=1000000000) (h3:b.ai.length<50) (h4:b.d8.length<900) (hx:isNm x=true) (ho:o∈b.own) (h5:we<=1000000000):fT c (yh st x o wo we) (yt b x o wo we):=by
 have P:∀{M:BP->Prop},(∀p∈b.ai,M p)->M ⟨x,o,wo,we,(List.replicate b.own.length 0).set (b.own.idxOf o) b.bot⟩->∀p∈(yt b x o wo we).ai,M p:=fun a c p hp=>by
  rcases fZ.mp (show p∈b.ai++[_] from hp) with z|z
  . exact a p z
  . rw [fU.mp z];exact c
 refine ⟨YX g.j6 h1 h2 (by omega) (by omega),T7 g.rel x o wo we,Ub g.Gf g.rel wf g.j6 h1,g.dg,g.stp,g.prod,g.bot,P g.wo (by show wo<=_;omega),P g.we h5,by show (b.ai++[_]).length<=50+c;rw [di];show b.ai.length+1<=50+c;omega,by show (b.d8++[_]).length<=900+c;rw [di];show b.d8.length+1<=900+c;omega,g.own,P g.nm ⟨Po hx,Po (g.on o ho)⟩,g.kj,?_,?_,g.on,P g.sum ?_⟩
 . show st.nms++[x]=b.d8++[x];rw [g.d8]
 . intro y hy
   rcases fZ.mp (show y∈b.d8++[x] from hy) with z|z
   . exact g.nk y z
   . rw [fU.mp z];exact hx
 . show ((List.replicate b.own.length 0).set (b.own.idxOf o) b.bot).sum=b.bot
   have hi:b.own.idxOf o<(List.replicate b.own.length (0:Int)).length:=by rw [mS];exact List.idxOf_lt_length_iff.mpr ho
   have:=wB (x:=b.bot) hi
   rw [show (List.replicate b.own.length (0:Int)).getD (b.own.idxOf o) 0=0 from by rw [i_,aX hi,List.getElem_replicate];rfl,Int.zero_add,Wi,Int.zero_add] at this
   exact this
theorem Ep:∀(l:List Str) (st:HS),st.ai=[]->(∀u∈st.dg,u=0)->(l.foldl gC st).ai=[]/\(l.foldl gC st).nms=st.nms/\(l.foldl gC st).stp=st.stp/\(l.foldl gC st).prod=st.prod/\(l.foldl gC st).kj=st.kj/\∀u∈(l.foldl gC st).dg,u=0
 | [],_,h,hp=>⟨h,Z,Z,Z,Z,hp⟩
 | o::l,st,h,hp=>by
   rw [mE]
   exact Ep l (gC st o) (by show st.ai.map _=[];rw [h];rfl) (fun u hu=>by
    rcases fZ.mp (show u∈st.dg++[0] from hu) with z|z
    . exact hp u z
    . exact fU.mp z)
theorem gd0 {own:List Str} (h0:0<own.length) (h1:own.length<=100) (hon:∀o∈own,isNm o=true):fT 0 (own.foldl gC hs0) ⟨own,[],1,[],[]⟩/\(own.foldl gC hs0).nms=[] :=by
 obtain ⟨k1,k2,k3,k4,k5,k6⟩:=Ep own hs0 rfl (fun u hu=>absurd hu (by simp [hs0]))
 refine ⟨⟨⟨vB,fun p hp=>absurd hp (by simp),fun p hp=>absurd hp (by simp),jL _,(by show Jm.Sz 7000 1;exact pH (by decide +kernel)),fun p hp=>absurd hp (by simp),h1,f_ _,f_ _⟩,⟨by rw [z7];rfl,by unfold iu nI;rw [k1];rfl⟩,(fun p hp=>by rw [k1] at hp;exact absurd hp (by simp)),(fun u hu=>by rw [k6 u hu];exact pH (by decide +kernel)),by rw [k3];exact aP _,(by rw [k4];show Jm.Sz (60*0+1) 1;exact pH (by decide +kernel)),(by show Jm.Sz (60*0+1) 1;exact pH (by decide +kernel)),fun p hp=>absurd hp (by simp),fun p hp=>absurd hp (by simp),f_ _,f_ _,h0,fun p hp=>absurd hp (by simp),⟨k5,Z⟩,k2,(fun x hx=>nomatch hx),hon,fun p hp=>absurd hp (by simp)⟩,k2⟩
theorem Nv (g:fT c st b) (wf:Wf st) (h:TV (lV b) rs) (hne:rs≠[]) (hc:c<=90):pM st rs/\vM b rs/\lW b (c9 b rs) 0 0:=by
 have eW:bu (lV b)=br b:=by unfold bu lV br;rw [fF];rfl
 have hl:bu rs<br b:=by
  rcases h.lost with z|z
  . rw [<-eW];exact z
  . exact absurd z hne
 have rb:vM b rs:=⟨h.nd,fun r hr=>by
  obtain ⟨r1,_,w,hw,e,le⟩:=h.row r hr
  obtain ⟨p,hp,rfl⟩:=bM.mp hw
  obtain ⟨j,hj,ej⟩:=qx hp
  exact ⟨r1,j,p,by rw [aX hj,ej],e,le⟩⟩
 have zw:=g.whole (by omega)
 refine ⟨⟨h.nd,hne,?_,fun r hr=>?_,by rw [g.rel.whole];exact hl,by rw [g.rel.whole];exact zw.2,g.prod.mono (by omega),fun u hu=>(g.dg u hu).mono (by omega),by have:=g.stp;omega⟩,rb,YW g.j6 rb hl g.own zw.2⟩
 . have:=h.len
   unfold lV at this
   rw [aF] at this
   have:=g.pl
   omega
 . obtain ⟨r1,j,q,hq,e,le⟩:=rb.row r hr
   obtain ⟨p,hp,e1,_,e3,_⟩:=g.rel.at hq
   have r2:=(h.row r hr).2.1
   have:Jm.Sz 60 (1000000000:Int):=pH (by decide +kernel)
   exact ⟨r1,this.of_le (by omega),p,bN hp,e1.trans e,by rw [e3];exact le⟩
def uG (K:Fg) (ρ:fR) (H:Hp) (z:Addr) (xs:List V):Prop:=∀(ρ':fR) (H':Hp),aE (out ρ H) (out ρ' H')->aC K H' z xs
theorem uG.of (h:aC K H z xs):uG K (fun _=>none) H z xs:=fun ρ' H' s=>by
 rcases h with (h|⟨o,h⟩)|h
 . exact .inl (.inl (yd (s _ _ (D_ h rfl))).1)
 . exact .inl (.inr ⟨o,(yd (s _ _ (D_ h rfl))).1⟩)
 . exact .inr h
theorem uG.go (h:uG K ρ H z xs) (s:aE (out ρ H) (out ρ' H')):uG K ρ' H' z xs:=fun _ _ s'=>h _ _ (s.trans s')
inductive abp (T:TC) (K:Fg) (vs:List V) (H:Hp) (Q:VK) (E:XK):Prop
 | mk (n m ρ A B st b:_) (a ln:Addr) (ns:List Int) (k:Int) (nms:List Str) (many:Nat) (_:vs=[.ref a, .int k, .ref A.a, .ref B.m, .ref ln, .int (many:Int)]) (_:n≠m) (_:HH T n ρ A H st) (_:bg m ρ B H b) (_:fT 0 st b) (_:uG K ρ H a (ns.map V.int)) (_:ns.length<=63) (_:0<=k) (_:k<=1000000) (_:uG K ρ H ln (nms.map V.str)) (_:nms.Nodup) (_:(∀x∈nms,yl x)) (_:(∀o∈b.own,yl o)) (_:many<=nms.length) (_:many<=50) (_:st.nms=[]) (_:b.ai=[]) (_:b.d8=[]) (_:∀ρ' A' B' H' st' b',HH T n ρ' A' H' st'->bg m ρ' B' H' b'->fT 0 st' b'->A'.a=A.a->B'.m=B.m->b'.own=b.own->b'.ai.length=many->st'.kn=st.kn->aE (out ρ H:_) (out ρ' H':_)->Q .bZ H')
def Pp (T:TC) (K:Fg):Sp:=bx (abp T K)
theorem HH.other {A:HA} (h:HH T n ρ A H st) (f:Fr m ρ H ρ' H') (g:Gh ρ' H') (e:n≠m):HH T n ρ' A H' st:=⟨g,h.h.other f h.g e,h.wf⟩
theorem Xn (g:fT c st b) (k:Nat):fT c { st with kn:=k } b:=⟨g.j6,⟨g.rel.own,g.rel.qd⟩,g.Gf,g.dg,g.stp,g.prod,g.bot,g.wo,g.we,g.pl,g.kl,g.own,g.nm,g.kj,g.d8,g.nk,g.on,g.sum⟩
theorem Lm:∀(l:List Str) (st:HS),(l.foldl gC st).kn=st.kn
 | [],_=>rfl
 | o::l,st=>by rw [mE,Lm l];rfl
theorem Wj (ps:List Str) (hk:∀r∈ps,PyData.strOk r=true):PyData.canLayAll0 (ps.map PyData.str)=true:=by
 induction ps with
 | nil=>rfl
 | cons q r ih=>
   rw [bD]
   unfold PyData.canLayAll0
   rw [ih fun p hp=>hk p (cG _ hp),Bool.and_true]
   unfold PyData.canLay0
   exact hk q cJ
theorem Rc (ps:List Str):PyData.depthAll (ps.map PyData.str)<=1:=by
 induction ps with
 | nil=>exact f_ _
 | cons q r ih=>
   rw [bD]
   unfold PyData.depthAll
   have:PyData.depth (.str q)<=1:=Nat.le_of_ble_eq_true rfl
   omega
theorem B8 (ps:List Str) (hk:∀r∈ps,PyData.strOk r=true):SeqAt.shaped (.list (ps.map PyData.str))=true:=by
 unfold SeqAt.shaped PyData.canLay0 PyData.depth
 rw [Wj ps hk]
 have:=Rc ps
 simp only [Bool.true_and,decide_eq_true_eq]
 omega
theorem Wl (ps:List Str):PyData.eqv (.list (ps.map PyData.str)) (.list (ps.map PyData.str))=true:=by
 unfold PyData.eqv
 induction ps with
 | nil=>rfl
 | cons q r ih=>
   rw [bD]
   unfold PyData.eqvAll
   rw [ih,Bool.and_true]
   exact Yy q
theorem Gg {K:Fg} {H:Hp}:∀(l:List Str),w_ K H (l.map V.str) (l.map PyData.str)
 | []=> .nil
 | x::l=> .cons (.str x) (Gg l)
inductive abq (d:Nat) (T:TC) (K:Fg) (vs:List V) (H:Hp) (Q:VK) (E:XK):Prop
 | mk (n m ρ A B st b:_) (c:Nat) (_:vs=[.ref A.a, .ref B.m]) (_:n≠m) (_:HH T n ρ A H st) (_:bg m ρ B H b) (_:fT c st b) (_:c<=100) (_:(∀o∈b.own,PyData.strOk o=true)) (_:st.kn+15000*d<=1000000) (_:∀ρ' A' H' k,HH T n ρ' A' H' { st with kn:=k }->k<=st.kn+15000*d->bg m ρ' B H' b->A'.a=A.a->aE (out ρ H:_) (out ρ' H':_)->Q (.bl true) H')
def t_ (d:Nat) (T:TC) (K:Fg):Sp:=bx (abq d T K)
structure cL (K:Fg) (x:Str) (st:Stmt):Prop where
 ex:∃(f:Addr) (oc:Value) (od an:Option Addr) (sl:Array (Option Value)) (kV dc pm cd ct:Value),PySem.W.nsIn K mainGlobals x=some (some (.ref f))/\K.lookup f=some ⟨oc,od, .func (PySem.W.fnOf x x (dW st) (cE st) (ay st) .none kV dc pm an cd ct),sl⟩/\PySem.W.codeIn K cd x=true/\PySem.W.keepIn K (.ref f)=true
theorem cL.at {st:Stmt} (d:cL K x st) (X:K.In h) (G:h.Ns mainGlobals mg):∃f fd,At K mg x st f fd:=by
 obtain ⟨f,oc,od,an,sl,kV,dc,pm,cd,ct,a,l,c,k⟩:=d.ex
 exact ⟨f,_,WZ X G a l c k⟩
structure dQ (K:Fg) (C:Addr) (n qual:Str) (st:Stmt):Prop where
 ex:∃(f:Addr) (oc:Value) (od an:Option Addr) (sl:Array (Option Value)) (kV dc pm cd ct:Value),PySem.W.findIn K (.ref C) n=some (some (.ref f))/\PySem.W.isFn K (.ref f)=true/\K.lookup f=some ⟨oc,od, .func (PySem.W.fnOf n qual (dW st) (cE st) (ay st) .none kV dc pm an cd ct),sl⟩/\PySem.W.codeIn K cd qual=true/\PySem.W.keepIn K (.ref f)=true
theorem dQ.at {n:Str} {st:Stmt} (d:dQ K C n qual st) (cl:oJ K C):∃f fd,iS K C n qual st f fd:=by
 obtain ⟨f,oc,od,an,sl,kV,dc,pm,cd,ct,a,i,l,c,k⟩:=d.ex
 exact ⟨f,_,Ky l c k,⟨a,i,k⟩,cl⟩
theorem dQ.made {st:Stmt} (d:dQ K C "__init__" qual st) (X:K.In h) (G:h.Ns mainGlobals mg) (a0:PySem.W.nsIn K mainGlobals x=some (some (.ref C))) (m:PySem.W.makesIn K C=true) (kc:PySem.W.keepIn K (.ref C)=true):∃f fd,HK K mg x C qual st f fd:=by
 obtain ⟨f,oc,od,an,sl,kV,dc,pm,cd,ct,a,i,l,c,k⟩:=d.ex
 exact ⟨f,_,Ky l c k,⟨m,a,i,kc⟩,kr X G a0⟩
variable {oc pm ct:Value} {od an:Option Addr} {sl:Array (Option Value)}
theorem cL.of {st:Stmt} {kV dc cd:Value} (a:PySem.W.nsIn K mainGlobals x=some (some (.ref f))) (l:K.lookup f=some ⟨oc,od, .func (PySem.W.fnOf x x (dW st) (cE st) (ay st) .none kV dc pm an cd ct),sl⟩) (c:PySem.W.codeIn K cd x=true) (k:PySem.W.keepIn K (.ref f)=true):cL K x st:=⟨⟨_,_,_,_,_,_,_,_,_,_,a,l,c,k⟩⟩
theorem dQ.of {n:Str} {st:Stmt} {kV dc cd:Value} (a:PySem.W.findIn K (.ref C) n=some (some (.ref f))) (i:PySem.W.isFn K (.ref f)=true) (l:K.lookup f=some ⟨oc,od, .func (PySem.W.fnOf n qual (dW st) (cE st) (ay st) .none kV dc pm an cd ct),sl⟩) (c:PySem.W.codeIn K cd qual=true) (k:PySem.W.keepIn K (.ref f)=true):dQ K C n qual st:=⟨⟨_,_,_,_,_,_,_,_,_,_,a,i,l,c,k⟩⟩
section
variable {X:Cx}
inductive adV (K:Fg) (x:V) (y:V) (H:Hp) (Q:VK):Prop
 | mk  (a b xs ys:_) (_:x = .ref a) (_:y = .ref b) (_:cR K H a xs) (_:cR K H b ys) (_:xs.length+ys.length<=sizeLine) (_:(xs=[]->Q (.ref b) H)) (_:(xs≠[]->ys=[]->Q (.ref a) H)) (_:(xs≠[]->ys≠[]->∀p,H p=none->Q (.ref p) (upd H p (.tup (xs++ys)))))
theorem Gi (K:Fg) (hK:X.K=K:=by rfl):ig X (binaryOp .Add) (adV K):=by
 subst hK
 intro pins s σ H x y v u Q I rx ry h
 obtain ⟨a,b,xs,ys,rfl,rfl,ha,hb,hz,q0,q1,q2⟩:=h
 by_cases hx:xs=[]
 . cases rx
   cases ry
   obtain ⟨its,r1,ht,_⟩:=I.tuple ha
   obtain ⟨its2,r2,hb',_⟩:=I.tuple hb
   obtain ⟨⟨cls,dd,data,sl⟩,ho,hc,n,hd⟩:=id ht
   obtain ⟨⟨agR,dd2,data2,sl2⟩,ho2,hc2,n2,hd2⟩:=id hb'
   simp only at hc hd hc2 hd2
   subst hc hd hc2 hd2
   exact concat_meets ⟨_,ho,Z⟩ ⟨_,ho2,Z⟩ noFill_tuple_add seq_tuple_add PySem.F.slot_tuple_add PySem.F.entry_tuple_add (PySem.F.args_tuple_add_2 _ _)
    (tuple_addW0 a b its.toArray its2.toArray n n2 dd dd2 sl sl2 (by rw [r1.AW.mpr hx];rfl)) ⟨ho,ho2,⟨.ref b,H,I,Z,q0 hx⟩⟩
 . exact Ye pins s σ H _ _ v u Q I rx ry ⟨a,b,xs,ys,Z,Z,ha,hb,hx,hz,q1 hx,q2 hx⟩
variable {o i:Expr} {pos:Pos} {td ty:TE}
end
theorem Pq (K:Fg) (hK:X.K=K:=by rfl):So X (aag K):=hK▸aah
theorem Nx:PySem.W.kitOne K (.type "int") (.type "str")=some false:=by rfl
theorem Y5 (xs:List V) (k:Nat):v_ xs none (some (k:Int))=xs.take k:=by
 unfold v_
 rw [HT.Cu,HT.wZ,List.drop_zero,Nat.sub_zero]
 rcases Nat.le_total k xs.length with h|h
 . rw [Nat.min_eq_left h]
 . rw [Nat.min_eq_right h,cC,zj h]
theorem Uc (xs:List V) (k:Nat):v_ xs (some (k:Int)) none=xs.drop k:=by
 unfold v_
 rw [HT.Cu,HT.wZ]
 rcases Nat.le_total k xs.length with h|h
 . rw [Nat.min_eq_left h]
   exact zj (by rw [J_];omega)
 . rw [Nat.min_eq_right h,Dr,List.drop_of_length_le h,List.take_nil]
section
variable {a b:List Nat} {m v:Int} (ha:pJ a) (hb:pJ b) (hm:1<=m) (hm2:m<=1000000000) (hv:0<=v) (hv2:v<=1000000000)
include ha hb hm hm2 hv hv2 in
end
section
variable {X:Cx}
end
section
variable {X:Cx}
end
inductive adW (x:V) (y:V) (H:Hp) (Q:VK):Prop
 | mk  (a b:List Nat) (_:x = .str (tx a)) (_:y = .str (tx b)) (_:a.length+b.length<=10000000) (_:Q (.str (tx (a++b))) H)
theorem Y6:ig X (binaryOp .Add) adW:=by
 intro pins s σ H x y v u Q I rx ry h
 obtain ⟨a,b,rfl,rfl,hz,q⟩:=h
 exact DH pins s σ H _ _ v u Q I rx ry ⟨tx a,tx b,Z,Z,by rw [ki,ki,fu];omega,by rw [SS];exact q⟩
def Trc (h:Heap) (x T C:Addr):Prop:=∃oe vs a0 oT ts,h.get? x=some oe/\oe.cls = .ref C/\vs[0]?=some a0/\oe.data = .fields vs/\vs[1]?=some (.ref T)/\T≠x/\h.get? T=some oT/\oT.data = .fields ts/\ts[3]?=some .none
def fY (P:Program) (w:World):yR:=fun outer H s E e s'=>∃(x T C:Addr) (H':Hp),e = .ref x/\s'.os=s.os/\AllBare s'.gens/\Un (frs outer) [] H H' s.heap s'.heap/\gM P w H' s'.heap/\Trc s'.heap x T C/\
 s.heap.get? x=none/\s.heap.get? T=none/\H' x=none/\H' T=none/\E e (some C) H'
variable {h':Heap}
theorem gM.Ln {w:World} (x:gM P w H h) (k:∀b o u,H b=some o->h.get? b=some u->h'.get? b=some u):gM P w H h':=fun a o e=>
 (x a o e).stay (fun b u hb q=>by
   rcases hb with rfl|hb
   . exact k _ _ _ e q
   . exact k _ _ _ hb q) (fun _ q=>q) fun _ _ q=>q
theorem dN.isAt {w:World} (x:dN P w H h a o):∃u,h.get? a=some u:=by
 cases o with
 | lst xs=>obtain ⟨_,_,_,_,e⟩:=x;exact ⟨_,e⟩
 | tup xs=>obtain ⟨_,_,_,p⟩:=x;obtain ⟨o,e,_⟩:=p;exact ⟨_,e⟩
 | dK kvs=>obtain ⟨_,_,_,_,o,_,_,e,_⟩:=x;exact ⟨_,e⟩
 | dT kvs=>obtain ⟨_,_,_,_,o,_,_,e,_⟩:=x;exact ⟨_,e⟩
 | set S n=>obtain ⟨o,_,_,_,e,_⟩:=x;exact ⟨_,e⟩
 | ins C dx fs=>obtain ⟨_,_,_,e,_⟩:=x;exact ⟨_,e⟩
 | own y=>obtain ⟨_,e⟩:=x;exact ⟨_,e⟩
 | xd fs=>obtain ⟨_,⟨_,_,_,e,_⟩,_⟩:=x;exact ⟨_,e⟩
 | vD lo hi=>obtain ⟨_,_,_,e⟩:=x;exact ⟨_,e⟩
 | fm ob u=>obtain ⟨e,_⟩:=x;exact ⟨_,e⟩
 | Hg ps=>exact ⟨_,(show h.get? a=some _ from x)⟩
 | met f y=>exact ⟨_,(show h.get? a=some _ from x)⟩
 | ext φ=>obtain ⟨_,⟨_,e⟩,_⟩:=x;exact ⟨_,e⟩
section
variable {P:Program} {w:World} {K:Fg} {mg:SO} {base:Heap} {N:List Str} {qual:Str} {scope:Scope} {f:Addr} {cd:Value} {A:Around} {outer:List Env} {s0:Shared} {H0:Hp} {E:XK} {CX:yR}
theorem Pr {x:Addr} {a0:Value} {B:Heap} (I:Inv (cN CX P w K mg base N qual scope f cd A outer s0 H0 E) pins σ H s)
  (hB:∀b o,s.heap.get? b=some o->b∉frs (envOfC qual scope s0.heap.objs.size f cd::outer)->s0.heap.get? b≠none\/H b≠none->B.get? b=some o)
  (hfl:Heap.FlyingW B outer x (.ref C) a0 h') (hup:s.heap.UpToSlots h') (hx:s0.heap.get? x=none) (B9:H x=none)
  (q:E (.ref x) (some C) H):fY P w outer H0 s0 E (.ref x) { s with heap:=h' }:=by
 obtain ⟨st,bx,fr,oe,vs,T,oT,ts,h1,⟨h2,h3⟩,h4,h5,h6,h7,h8,h9,B_⟩:=hfl
 have JX:T∉frs outer:=fun m=>by
  obtain ⟨_,o,ho,hd⟩:=fr.mem m
  rw [h8] at ho;cases ho
  exact hd _ h9
 have L0:s0.heap.get? s0.heap.objs.size=none:=Heap.get?_none_of_le (aP _)
 have big:∀b o,s0.heap.get? b=some o->b∉frs outer->b∉frs (envOfC qual scope s0.heap.objs.size f cd::outer):=fun b o e n m=>by
  have m':b∈s0.heap.objs.size::frs outer:=m
  rcases c_.mp m' with z|z
  . rw [z,L0] at e;cases e
  . exact n z
 have hT0:s0.heap.get? T=none:=by
  cases e:s0.heap.get? T with
  | none=>rfl
  | some o=>
    obtain ⟨o',ho'⟩:=I.base.there T o e (by simp [cN])
    have:=hB T o' ho' (big T o e JX) (.inl (by rw [e];exact fun z=>nomatch z))
    rw [h6] at this;cases this
 have Ae:H T=none:=by
  cases e:H T with
  | none=>rfl
  | some o=>
    have lt:=I.hok.lt e
    have nst:T∉frs (envOfC qual scope s0.heap.objs.size f cd::outer):=fun m=>by
     have:=I.wU T m
     rw [e] at this;cases this
    have hob:∃u,s.heap.get? T=some u:=(I.hok T o e).isAt
    obtain ⟨u,hu⟩:=hob
    have:=hB T u hu nst (.inr (by rw [e];exact fun z=>nomatch z))
    rw [h6] at this;cases this
 refine ⟨x,T,C,H,Z,I.os,I.bare,⟨fun b o e n nf _=>?_,fun b o e n m _=>?_,fun b o e n _=>?_,fun b o e _=>?_,I.base.tups,I.base.mW,I.base.o_⟩,?_,⟨oe,vs,a0,oT,ts,h1,h2,h3,h4,h5,h7,h8,h9,B_⟩,hx,hT0,B9,Ae,q⟩
 . exact st b o (hB b o (I.base.keep b o e n nf (by simp [cN])) (big b o e nf) (.inl (by rw [e];exact fun z=>nomatch z)))
 . obtain ⟨sl,hs⟩:=I.base.slot b o e n m (by simp [cN])
   have fr0:=I.ok.nV
   obtain ⟨_,o',ho',hd'⟩:=fr0.mem m
   obtain ⟨Ke,hs'⟩:=hup b _ hs (fun vs z=>by
    have ho2:s0.heap.get? b=some o':=ho'
    rw [e] at ho2;cases ho2
    exact hd' vs z)
   exact ⟨Ke,hs'⟩
 . exact I.base.free b o e n (by simp [cN])
 . obtain ⟨o',ho'⟩:=I.base.there b o e (by simp [cN])
   by_cases m:b∈frs outer
   . have fr0:=I.ok.nV
     obtain ⟨_,o2,ho2,hd2⟩:=fr.mem m
     exact ⟨o2,ho2⟩
   . exact ⟨o',st b o' (hB b o' ho' (big b o e m) (.inl (by rw [e];exact fun z=>nomatch z)))⟩
 . exact I.hok.Ln fun b o u e hu=>st b u (hB b u hu (fun m=>by have:=I.wU b m;rw [e] at this;cases this) (.inr (by rw [e];exact fun z=>nomatch z)))
theorem Wm {x T:Addr} (I:Inv (cN (fY P w) P w K mg base N qual scope f cd A outer s0 H0 E) pins σ H s) (t:Trc s.heap x T C) (hx:s0.heap.get? x=none) (hT:s0.heap.get? T=none) (B9:H x=none) (Ae:H T=none)
  (q:E (.ref x) (some C) H):(cN (fY P w) P w K mg base N qual scope f cd A outer s0 H0 E).xe (.ref x) s:=by
 obtain ⟨oe,vs,a0,oT,ts,h1,h2,h3,h4,h5,h6,h7,h8,h9⟩:=t
 have hst:=I.stack
 have Wn:s.heap.FunFrames base (envOfC qual scope s0.heap.objs.size f cd::outer):=hst
 have hin:∀env∈(envOfC qual scope s0.heap.objs.size f cd::outer),∀b,env.frame=some b->b∈x::T::frs (envOfC qual scope s0.heap.objs.size f cd::outer):=fun env he b hb=>cG _ (cG _ (FA.mpr ⟨env,he,hb⟩))
 refine wpAny_leaves_onW (base:=PySem.W.hideAll s.heap (x::T::frs (envOfC qual scope s0.heap.objs.size f cd::outer))) (L:=s0.heap.objs.size) (cls:= .ref C) (a0:=a0) (outer:=outer) I.ok.frames rfl ⟨fun b o e=>Qn _ e,J4 _ cJ,PySem.W.funFrames_hide Wn hin,oe,vs,T,oT,ts,h1,⟨h2,h3⟩,h4,h5,J4 _ (cG _ cJ),h6,h7,h8,h9⟩ fun h' fl up=>?_
 refine Pr I (fun b o e n hb=>Qm _ e fun m=>?_) fl up hx B9 q
 rcases c_.mp m with z|m
 . rw [z] at hb
   rcases hb with hb|hb
   . exact hb hx
   . exact hb B9
 . rcases c_.mp m with z|m
   . rw [z] at hb
     rcases hb with hb|hb
     . exact hb hT
     . exact hb Ae
   . exact n m
theorem Xo:Passes (fY P w) (cN (fY P w) P w K mg base N qual scope f cd A outer s0 H0 E) E:=fun pins σ H s e s' I h=>by
 obtain ⟨x,T,C,H',rfl,os,bare,un,hok,t,hx,hT,B9,Ae,q⟩:=h
 have I':Inv (cN (fY P w) P w K mg base N qual scope f cd A outer s0 H0 E) pins σ H' s':=I.JR (ch:=[]) os un hok bare (fun b z=>absurd z (by simp))
 have old:∀b,s.heap.get? b=none->s0.heap.get? b=none:=fun b e=>by
  cases q:s0.heap.get? b with
  | none=>rfl
  | some o=>
    obtain ⟨o',ho'⟩:=I.base.there b o q (by simp [cN])
    rw [e] at ho';cases ho'
 exact Wm I' t (old x hx) (old T hT) B9 Ae q
theorem Rg {x:Addr} {args:List Value} (I:Inv (cN (fY P w) P w K mg base N qual scope f cd A outer s0 H0 E) pins σ H s) (hm:Heap.MadeExcOf s.heap h1 x (.ref C) args)
  (q:E (.ref x) (some C) H):(cN (fY P w) P w K mg base N qual scope f cd A outer s0 H0 E).xe (.ref x) { s with heap:=h1 }:=by
 have Wn:s.heap.FunFrames base (envOfC qual scope s0.heap.objs.size f cd::outer):=I.stack
 have hin:∀env∈(envOfC qual scope s0.heap.objs.size f cd::outer),∀b,env.frame=some b->b∈frs (envOfC qual scope s0.heap.objs.size f cd::outer):=fun env he b hb=>FA.mpr ⟨env,he,hb⟩
 have I1:Inv (cN (fY P w) P w K mg base N qual scope f cd A outer s0 H0 E) pins σ H { s with heap:=h1 }:=I.kept (t':=s.toks) hm.keeps
 have B9:H x=none:=by
  cases e:H x with
  | none=>rfl
  | some o=>
    obtain ⟨u,hu⟩:=(I.hok x o e).isAt
    rw [hm.new] at hu;cases hu
 have Er:s0.heap.get? x=none:=by
  cases e:s0.heap.get? x with
  | none=>rfl
  | some o=>
    obtain ⟨o',ho'⟩:=I.base.there x o e (by simp [cN])
    rw [hm.new] at ho';cases ho'
 refine wpAny_leaves_madeW (base:=PySem.W.hideAll s.heap (frs (envOfC qual scope s0.heap.objs.size f cd::outer))) (h:=s.heap) (L:=s0.heap.objs.size) (outer:=outer) I.ok.frames rfl (fun b o e=>Qn _ e) (PySem.W.funFrames_hide Wn hin) hm fun h' t fl _ _ up=>?_
 refine Pr I1 (fun b o e n hb=>Qm _ ?_ n) fl up Er B9 q
 rcases hb with hb|hb
 . cases e0:s0.heap.get? b with
   | none=>exact absurd e0 hb
   | some o0=>
     obtain ⟨o',ho'⟩:=I.base.there b o0 e0 (by simp [cN])
     have e':h1.get? b=some o:=e
     have:=hm.keeps b o' ho'
     rw [e'] at this;cases this
     exact ho'
 . cases e0:H b with
   | none=>exact absurd e0 hb
   | some o0=>
     obtain ⟨o',ho'⟩:=(I.hok b o0 e0).isAt
     have e':h1.get? b=some o:=e
     have:=hm.keeps b o' ho'
     rw [e'] at this;cases this
     exact ho'
end
def abt:List Value:=[.type "ValueError", .type "Exception", .type "BaseException", .type "object"]
structure pN (K:Fg) (C:Addr):Prop where
 ex:∃(nm q:Str) (N:Addr) (bs bm:List Value) (hdct:Bool) (sn:List Str) (sub:List Value) (ab:Bool) (col:Option Bool) (dd:Option Addr) (k0 k1 k2 k3 k5:Option Value) (mN:SO),mN "__init__"=none/\bm.contains (.type "BaseException")=true/\∀h:Heap,K.In h->
  h.get? C=some (excClassObj nm q C N bs bm hdct sn sub ab col dd k0 k1 k2 k3 k5 "ValueError.__new__")/\h.Ns N mN/\OwnTail h abt bm
section
variable {P:Program} {w:World} {K:Fg} {mg:SO} {base:Heap} {N:List Str} {qual:Str} {scope:Scope} {f:Addr} {cd:Value} {A:Around} {outer:List Env} {s0:Shared} {H0:Hp} {E:XK}
def abu (C:Addr) (E:XK):TS:=fun _ _ H=>∀x,E (.ref x) (some C) H
structure Dx (P:Program) (w:World) (K:Fg) (mg:SO) (base:Heap) (k:Nat) (x:Str) (ps:List Str) (sp:Sp):Prop where
 ex:∃f fd,iA P w K mg base (fY P w) k f fd ps sp/\Binds K fd ps []/\PySem.W.keepIn K (.ref f)=true/\mg x=some (.ref f)
theorem At.okX {st:Stmt} {f:Addr} {N:List Str} {k:Nat} (F:At K mg x st f fd) (S:aJ N ps (ay st)) (len:∀vs H Q E,sp vs H Q E->vs.length=ps.length)
  (hbody:∀(cdv:Value) (A:Around) (outer:List Env) (s:Shared) (H:Hp) (vs:List V) (Q:VK) (E:XK),dD k (A.deeper (envOfC x (ay st) s.heap.objs.size f cdv))->sp vs H Q E->
    ∃t,qp (cN (fY P w) P w K mg base N x (ay st) f cdv A outer s H E) (cE st) t/\t { nx:=fun _ H'=>Q .bZ H',rt:=Q } (start N vs) H)
  (h:∀(kV doc pm:Value) (an:Option Addr) (cdv ct:Value) (us:List Value),us.length=ps.length->bindArgs (PySem.W.fnOf x x (dW st) (cE st) (ay st) .none kV doc pm an cdv ct) ⟨us,[]⟩=pure (ps.zip us)):
  Dx P w K mg base (k+1) x ps sp:=by
 refine ⟨f,fd,?_,F.fn.binds h,F.fn.kp,F.name⟩
 obtain ⟨oc,od,kV,doc,pm,an,cdv,ct,osl,rfl,lk,hcd⟩:=F.fn.ex
 exact QJ lk hcd S len fun A outer s H vs Q E hr pC=>hbody cdv A outer s H vs Q E hr pC
end
def ahd (h:Heap) (x T C:Addr) (fl:Value):Prop:=∃oe vs a0 oT ts,h.get? x=some oe/\oe.cls = .ref C/\vs[0]?=some a0/\oe.data = .fields vs/\vs[1]?=some (.ref T)/\T≠x/\h.get? T=some oT/\oT.data = .fields ts/\ts[3]?=some fl
structure uH (X:Cx) (pins:AO) (σ:St) (Hc:Hp) (sc:Shared) (H:Hp) (x C:Addr) (fl:Value) (s:Shared):Prop where
 ic:Inv X pins σ Hc sc
 os:s.os=sc.os
 bare:AllBare s.gens
 un:Un (frs X.stack) [] Hc H sc.heap s.heap
 hok:gM X.prog X.w H s.heap
 nx:sc.heap.get? x=none
 hx:H x=none
 tr:∃T,ahd s.heap x T C fl/\sc.heap.get? T=none/\H T=none
variable {M:Model} {A:Around} {Q:Unit->Shared->Prop}
section
variable {X:Cx} {pins:AO} {σ:St} {Hc H:Hp} {sc s:Shared} {x C:Addr} {fl:Value}
theorem uH.inv (F:uH X pins σ Hc sc H x C fl s):Inv X pins σ H s:=F.ic.JR (ch:=[]) F.os F.un F.hok F.bare (fun b z=>absurd z (by simp))
theorem uH.step {B:Heap} {fl' a0:Value} (F:uH X pins σ Hc sc H x C fl s) (hB:∀b o,s.heap.get? b=some o->b∉frs X.stack->sc.heap.get? b≠none\/H b≠none->B.get? b=some o)
  (st:B.StaysIn h') (fr:h'.FunFrames B X.stack) (tr:h'.TracedAtW B x (.ref C) a0 fl') (up:s.heap.UpToSlots h'):uH X pins σ Hc sc H x C fl' { s with heap:=h' }:=by
 have I:=F.inv
 obtain ⟨oe,vs,T,oT,ts,h1,⟨h2,h3⟩,h4,h5,h6,h7,h8,h9,B_⟩:=tr
 have JX:T∉frs X.stack:=fun m=>by
  obtain ⟨_,o,ho,hd⟩:=fr.mem m
  rw [h8] at ho;cases ho
  exact hd _ h9
 have hT0:sc.heap.get? T=none:=by
  cases e:sc.heap.get? T with
  | none=>rfl
  | some o=>
    obtain ⟨o',ho'⟩:=F.un.there T o e (by simp)
    have:=hB T o' ho' JX (.inl (by rw [e];exact fun z=>nomatch z))
    rw [h6] at this;cases this
 have Ae:H T=none:=by
  cases e:H T with
  | none=>rfl
  | some o=>
    obtain ⟨u,hu⟩:=(F.hok T o e).isAt
    have:=hB T u hu JX (.inr (by rw [e];exact fun z=>nomatch z))
    rw [h6] at this;cases this
 refine ⟨F.ic,F.os,F.bare,⟨fun b o e n nf _=>?_,fun b o e n m _=>?_,F.un.free,fun b o e _=>?_,F.un.tups,F.un.mW,F.un.o_⟩,?_,F.nx,F.hx,T,⟨oe,vs,a0,oT,ts,h1,h2,h3,h4,h5,h7,h8,h9,B_⟩,hT0,Ae⟩
 . exact st b o (hB b o (F.un.keep b o e n nf (by simp)) nf (.inl (by rw [e];exact fun z=>nomatch z)))
 . obtain ⟨sl,hs⟩:=F.un.slot b o e n m (by simp)
   obtain ⟨_,o',ho',hd'⟩:=F.ic.stack.mem m
   obtain ⟨Ke,hs'⟩:=up b _ hs (fun vs z=>by
    rw [e] at ho';cases ho'
    exact hd' vs z)
   exact ⟨Ke,hs'⟩
 . obtain ⟨o',ho'⟩:=F.un.there b o e (by simp)
   by_cases m:b∈frs X.stack
   . obtain ⟨_,o2,ho2,hd2⟩:=fr.mem m
     exact ⟨o2,ho2⟩
   . exact ⟨o',st b o' (hB b o' ho' m (.inl (by rw [e];exact fun z=>nomatch z)))⟩
 . exact F.hok.Ln fun b o u e hu=>st b u (hB b u hu (fun m=>by have:=I.wU b m;rw [e] at this;cases this) (.inr (by rw [e];exact fun z=>nomatch z)))
theorem uH.hid (F:uH X pins σ Hc sc H x C fl s):∃(a0:Value) (B:Heap),(∀b o,s.heap.get? b=some o->b∉frs X.stack->sc.heap.get? b≠none\/H b≠none->B.get? b=some o)/\B.StaysIn s.heap/\B.get? x=none/\s.heap.FunFrames B X.stack/\s.heap.TracedAtW B x (.ref C) a0 fl:=by
 obtain ⟨T,⟨oe,vs,a0,oT,ts,h1,h2,h3,h4,h5,h6,h7,h8,h9⟩,hT,Ae⟩:=F.tr
 have hin:∀env∈X.stack,∀b,env.frame=some b->b∈x::T::frs X.stack:=fun env he b hb=>cG _ (cG _ (FA.mpr ⟨env,he,hb⟩))
 refine ⟨a0,PySem.W.hideAll s.heap (x::T::frs X.stack),fun b o e n hb=>Qm _ e fun m=>?_,fun b o e=>Qn _ e,J4 _ cJ,PySem.W.funFrames_hide F.inv.stack hin,oe,vs,T,oT,ts,h1,⟨h2,h3⟩,h4,h5,J4 _ (cG _ cJ),h6,h7,h8,h9⟩
 rcases c_.mp m with z|m
 . rw [z] at hb
   rcases hb with hb|hb
   . exact hb F.nx
   . exact hb F.hx
 . rcases c_.mp m with z|m
   . rw [z] at hb
     rcases hb with hb|hb
     . exact hb hT
     . exact hb Ae
   . exact n m
theorem Wo (F:uH X pins σ Hc sc H x C .none s) (hA:A.frames=some X.stack) (hs:X.stack=X.env::X.outer) (hf:X.env.frame=some X.env.locals)
  (h:∀s',uH X pins σ Hc sc H x C (rawInt X.env.locals) s'->Q () s'):wpAny M A (noteFrame (.ref x) X.env) Q E s:=by
 obtain ⟨a0,B,hB,st,bx,fr,tr⟩:=F.hid
 rw [hs] at fr hA
 refine wpAny_looks_onW (base:=B) hA hf ⟨st,bx,fr,tr⟩ fun h' hh up=>?_
 obtain ⟨k1,k2,k3,k4⟩:=hh
 rw [<-hs] at k3
 exact h _ (F.step hB k1 k3 k4 up)
theorem Lo (F:uH X pins σ Hc sc H x C fl s)
  (h:∀s',uH X pins σ Hc sc H x C .none s'->Q () s'):wpAny M A (setFlight (.ref x) none) Q E s:=by
 obtain ⟨a0,B,hB,st,bx,fr,tr⟩:=F.hid
 refine wpAny_setFlight_noneW (base:=B) st fr tr fun h' k1 k2 k3 k4=>h _ (F.step hB k1 k2 k3 fun b o hb hn=>⟨o.slots,k4 b o hb hn⟩)
end
def CL (x C:Addr):HO:= .ext fun h=>∃o,h.get? x=some o/\o.cls = .ref C
variable {e:Expr} {es:List Expr} {t':Nat}
section
variable {X:Cx} {pins:AO} {σ:St} {Hc H:Hp} {sc s:Shared} {x C:Addr} {fl:Value}
theorem adX {k:Nat} {g:Str} {t:TA} {p:Pos} (D:Dx X.prog X.w X.K X.mg X.base j g ps sp) (hr:dD k X.A) (hno:∀e s,X.xe e s->False) (ha:PA X (e::es) t) (hj:j<=k) (hg:Gl X g)
  (hdb:(g==("__debug__":Str))=false) (he:starEach (e::es) X.env=(false,eval e X.env)::starEach es X.env) (hpl:(backTo pos (starEach es X.env)).any (·.1)=false)
  {Q:VK} {R:Addr->Hp->Prop} (I:Inv X pins σ H s) (h:t σ H fun vs H1=>sp (vs++[]) H1 Q fun _ c H'=>∃C,c=some C/\R C H'):
  wpAny (model X.prog X.w) X.A (eval (.Call (.Name g p) (e::es) [] pos) X.env) (EP X pins σ Q) (fun ev s'=>∃x C Hc sc H',ev = .ref x/\uH X pins σ Hc sc H' x C .none s'/\R C H') s:=by
 obtain ⟨f,fd,F,hb,kp,m⟩:=D.ex
 refine FE (qz I hg m ?_ hdb)
 refine Qo (h₀:=X.base) I.ok.mod.OB kp (gP (ha pos pins s σ H _ I h) (fun us s1 ⟨vs,H1,I1,r,q⟩=>⟨I1.iP,?_⟩) fun _ _ z=>(hno _ _ z).elim) he hpl
 have r2:Vals (vs++[]) (us++[]):=r.append .nil
 have hl:(us++[]).length=ps.length:=by rw [<-r2.length];exact F.len _ _ _ _ q
 refine wpAny_call (AQ (F.run X.A X.stack s1 H1 ⟨us,[]⟩ (us++[]) (vs++[]) Q _ (hr.mono hj) I1.Vr (hb s1 us I1.iP hl) r2 q) fun r s' hq=>?_)
 cases r with
 | error e=>
   have hq':fY X.prog X.w X.stack H1 s1 (fun _ c H'=>∃C,c=some C/\R C H') e s':=hq
   obtain ⟨x,T,C,H',rfl,os,bare,un,hok,tr,hx,hT,B9,Ae,C',ec,hR⟩:=hq'
   cases ec
   exact ⟨x,C,H1,s1,H',Z,⟨I1,os,bare,un,hok,hx,B9,T,tr,hT,Ae⟩,hR⟩
 | ok fl=>
   cases fl with
   | ret u=>exact I1.after hq
   | next=>exact False.elim hq
   | brk=>exact False.elim hq
   | cont=>exact False.elim hq
abbrev Cx.held (X:Cx) (x:Addr):Cx:={ X with A:=X.A.mark (some (.ref x)),calm:=false }
theorem Inv.held (I:Inv X pins σ H s) (x:Addr):Inv (X.held x) pins σ H s:=
 ⟨⟨I.ok.mod,I.ok.kind,I.ok.glob,I.ok.blt,I.ok.above,I.ok.inj,I.ok.has,I.ok.gO,(fun z=>nomatch z),I.ok.frames,I.ok.stk,I.ok.Kc,I.ok.bs,I.ok.Dz,I.ok.FJ,I.ok.Co,I.ok.nV,I.ok.Hh⟩,I.os,I.bare,I.base,I.loc,I.cell,I.free,I.jM,I.pin,I.hok,I.len⟩
theorem uH.known (F:uH X pins σ Hc sc H x C fl s):Inv X pins σ (upd H x (CL x C)) s:=by
 have I:=F.inv
 have ne:∀{b o},sc.heap.get? b=some o->b≠x:=fun e z=>by rw [z,F.nx] at e;cases e
 have ne0:∀{b o},X.s₀.heap.get? b=some o->b∉X.ex->b≠x:=fun {b o} e n=>by
  obtain ⟨o',ho'⟩:=F.ic.base.there b o e n
  exact ne ho'
 have Ud:∀{b o},H b=some o->b≠x:=fun e z=>by rw [z,F.hx] at e;cases e
 obtain ⟨T,⟨oe,vs,a0,oT,ts,h1,h2,_⟩,_⟩:=F.tr
 refine ⟨I.ok,I.os,I.bare,⟨I.base.keep,I.base.slot,fun b o e n nx=>?_,I.base.there,fun b xs e=>?_,fun b o u e=>?_,fun b ps e=>?_⟩,I.loc,I.cell,?_,fun y c e=>?_,fun p hp=>?_,fun b o e=>?_,I.len⟩
 . rw [av (ne0 e nx)];exact I.base.free b o e n nx
 . have z:=I.base.tups b xs e
   rw [av (Ud z)];exact z
 . have z:=I.base.mW b o u e
   rw [av (Ud z)];exact z
 . obtain ⟨more,z⟩:=I.base.o_ b ps e
   exact ⟨more,by rw [av (Ud z)];exact z⟩
 . obtain ⟨m,⟨o,_,_,ho,_⟩,_⟩:=F.ic.loc
   rw [av (ne ho)];exact I.free
 . obtain ⟨v,o,ho,_⟩:=F.ic.cell y c e
   rw [av (ne ho)];exact I.jM y c e
 . obtain ⟨a,b,c⟩:=I.pin p hp
   obtain ⟨a',_⟩:=F.ic.pin p hp
   exact ⟨a,by rw [av (ne a')];exact b,c⟩
 . by_cases z:b=x
   . subst z
     rw [aj] at e
     cases e
     exact ⟨⟨oe,h1,h2⟩,⟨oe,h1⟩,fun h1 h2 ⟨o,a,c⟩ k=>⟨o,k o a,c⟩⟩
   . rw [av z] at e
     exact (F.hok b o e).stay (fun _ _ _ q=>q) (fun c q=>by rw [av (Ud q)];exact q) fun c xs q=>by rw [av (Ud q)];exact q
theorem Inv.gone {n:Str} {v:Option Value} {m:SO} (I:Inv X pins σ H s) (hN:X.N.Nodup) (hj:X.N[j]?=some n) (hm:s.heap.Ns X.env.locals m) (hl:∀(i:Nat) (x:Str) (v:V),X.N[i]?=some x->σ[i]?=some (some v)->R5 X.env.scope x->∃u,RelV v u/\Look X.env s.heap m x u)
  (hn:h'.Ns X.env.locals (fun x=>if x=n then v else m x)) (hs:Heap.SameBut X.env.locals s.heap h'):Inv X pins (σ.set j none) H { s with heap:=h',toks:=t' }:=by
 have OC:∀b o,X.s₀.heap.get? b=some o->b≠X.env.locals:=fun b o e=>dP (lg (bP e) I.ok.above)
 have kp:∀b o,b≠X.env.locals->s.heap.get? b=some o->h'.get? b=some o:=fun b o ne e=>(hs.2 b ne).trans e
 have cellK:∀x c,X.env.cells.lookup x=some c->∀v,s.heap.IsCell c v->h'.IsCell c v:=fun x c e v ⟨o,ho,hd⟩=>⟨o,kp c o (I.Hi x c e) ho,hd⟩
 refine ⟨I.ok,I.os,I.bare,⟨fun b o e n hb hx=>kp b o (OC b o e) (I.base.keep b o e n hb hx),fun b o e n hb hx=>?_,I.base.free,fun b o e hx=>?_,I.base.tups,I.base.mW,I.base.o_⟩,?_,fun x c e=>?_,I.free,I.jM,fun p hp=>?_,?_,by rw [lD];exact I.len⟩
 . obtain ⟨sl,e1⟩:=I.base.slot b o e n hb hx
   exact ⟨sl,kp b _ (OC b o e) e1⟩
 . obtain ⟨o',e1⟩:=I.base.there b o e hx
   exact ⟨o',kp b o' (OC b o e) e1⟩
 . refine ⟨_,hn,fun i y w e1 e2 e3=>?_⟩
   by_cases z:i=j
   . subst z
     rw [List.getElem?_set_self'] at e2
     cases q:σ[i]? with
     | none=>rw [q] at e2;cases e2
     | some a=>rw [q] at e2;cases e2
   . rw [zm (cu z)] at e2
     obtain ⟨u,r,l⟩:=hl i y w e1 e2 e3
     refine ⟨u,r,?_⟩
     rcases l with ⟨k,l⟩|⟨k,c,e,zc⟩
     . have hne:y≠n:=fun q=>z (x9 hN e1 (q▸hj))
       exact .inl ⟨k,by show (if y=n then v else m y)=some u;rw [az hne];exact l⟩
     . exact .inr ⟨k,c,e,cellK y c e _ zc⟩
 . obtain ⟨v,z⟩:=I.cell x c e
   exact ⟨v,cellK x c e v z⟩
 . obtain ⟨e,n,ne,nf,d⟩:=I.pin p hp
   exact ⟨kp p.1 p.2 ne e,n,ne,nf,d⟩
 . exact I.hok.Ln fun b o u e hu=>kp b u (fun z=>by rw [z,I.free] at e;cases e) hu
end
def FX (X:Cx) (pins:AO) (R:Addr->St->Hp->Prop) (ev:Value) (s:Shared):Prop:=
 ∃x C σ Hc sc H',ev = .ref x/\uH X pins σ Hc sc H' x C .none s/\R C σ H'
abbrev TX:=Ends->(Addr->St->Hp->Prop)->St->Hp->Prop
def PX (X:Cx) (st:List Stmt) (t:TX):Prop:=
 ∀(pins:AO) (s:Shared) (σ:St) (H:Hp) (D:Ends) (R:Addr->St->Hp->Prop),Inv X pins σ H s->t D R σ H->wpAny (model X.prog X.w) X.A (execs st X.env) (SP X pins D) (FX X pins R) s
def adY (sp:Sp) (t:TA):TX:=fun D R σ H=>t σ H fun vs H1=>sp (vs++[]) H1 (fun v H'=>v = .bZ/\D.nx σ H') fun _ c H'=>∃C,c=some C/\R C σ H'
def ahe (K:Fg) (J:Addr) (j:Nat) (t:TX) (u:TS):TS:=fun D σ H=>
 t D (fun C σ' H'=>PySem.W.exmOne K (.ref C) (.ref J)=some true/\∀x,H' x=none->u { nx:=fun σ2 H2=>D.nx (σ2.set j none) H2,rt:=D.rt,bk:=fun σ2 H2=>D.bk (σ2.set j none) H2,ct:=fun σ2 H2=>D.ct (σ2.set j none) H2 } (σ'.set j (some (.ref x))) (upd H' x (CL x C))) σ H
section
variable {X:Cx} {pins:AO} {σ:St} {Hc H:Hp} {sc s:Shared} {x C:Addr} {fl:Value}
theorem Inv.abw (I':Inv (X.held x) pins σ H s) (ok:X.Ok):Inv X pins σ H s:=
 ⟨ok,I'.os,I'.bare,I'.base,I'.loc,I'.cell,I'.free,I'.jM,I'.pin,I'.hok,I'.len⟩
end
open PySem.W PySem.Calls Builtin.ObjectAttr Builtin.Getset_descriptor
structure nu (K:Frag) (C:Addr):Prop where
 ga:findIn K (.ref C) "__getattribute__"=some (some (.builtin "BaseException.__getattribute__"))
 gn:findIn K (.ref C) "__getattr__"=some none
 ca:findIn K (.ref C) "__class__"=some (some (.builtin "object.__class__"))
 mo:mroIn K C (.type "object")=some true
 mb:mroIn K C (.type "BaseException")=some true
 is:(clsIn K C).isSome=true
section
variable {prog:Program} {w:World} {A:Around} {E:VS} {h:Heap} {g:Array GenState} {d:Drawn} {t:Nat} {os:OsState} {x C:Addr} {o:Obj} {K:Frag} {R:Result->Shared->Prop}
theorem Es (hx:h.get? x=some o) (hc:o.cls = .ref C):Looks M h (typeOf (.ref x)) (.ref C):=hc▸(Looks.ld hx).andThen .now
theorem abx {tp:Value} (X:K.In h) (ec:nu K C) (hx:h.get? x=some o) (hc:o.cls = .ref C) (hq:R (.ok (.ret (.ref C))) ⟨h,g,d,t,os⟩):
  codeAny (model prog w) A (.call (.builtin "getset_descriptor.__get__") ⟨[.builtin "object.__class__", .ref x,tp],[]⟩) R ⟨h,g,d,t,os⟩:=by
 have L0:=Es (M:=model prog w) hx hc
 have L1:=looks_mroIn (M:=model prog w) X ec.mo
 refine codeAny_call_builtin KF.slot_gs.plain KF.entry_gs (KF.slot_gs.check _ _ _ _ _ _ _ _ KF.type_class (KF.args_gs _ _ _) ?_)
 unfold Builtin.«getset_descriptor.__get__» descrGet
 rw [dga_obj]
 refine aq (aL ?_)
 unfold descrGetter descrCheckInstance descrNameAndClass isInstance
 simp only [KF.owner_class]
 repeat lk
 refine ⟨Code.quiet_builtin _ (by decide +kernel),codeAny_builtin KF.entry_class ?_⟩
 unfold Builtin.«object.__class__» shownTypeOf
 repeat lk
 exact hq
theorem Wq {tk:Tok} {Q:Fin->Shared->Prop} (X:K.In h) (ec:nu K C) (hx:h.get? x=some o) (hc:o.cls = .ref C) (hq:Q (.done (.ret (.ref C))) ⟨h,g,d,t,os⟩):
  wpAny (model prog w) A (Builtin.«object.__getattribute__» ⟨[.ref x, .str "__class__" tk],[]⟩) Q E ⟨h,g,d,t,os⟩:=by
 have L0:=Es (M:=model prog w) hx hc
 have L1:=looks_findIn (M:=model prog w) X ec.ca
 have hT5:(⟨h,g,d,t,os⟩:Shared).TypeIs (.builtin "object.__class__") "getset_descriptor":=F.typeOf_object_class
 have f5:=F.typeOf_object_class
 have f6:=F.slot_gs_get.lookup
 have f7:=F.slot_gs_set.lookup
 repeat (any_goals (first|assumption|with_reducible refine Looks.at L0 ?_|with_reducible refine Looks.at L1 ?_|wp_step))
 refine abx X ec hx hc ?_
 repeat (any_goals (first|assumption|wp_step))
theorem Wr {nameV:Value} (X:K.In h) (ec:nu K C) (hx:h.get? x=some o) (hc:o.cls = .ref C) (hq:Q () ⟨h,g,d,t,os⟩):
  wpAny M A (checkBuiltinCall "BaseException.__getattribute__" ⟨[.ref x,nameV],[]⟩) Q E ⟨h,g,d,t,os⟩:=by
 have hk:builtinKind "BaseException.__getattribute__"=some .slot:=by decide +kernel
 have hsplit:splitId "BaseException.__getattribute__"=some ("BaseException","__getattribute__"):=by decide +kernel
 have L0:=Es (M:=M) hx hc
 have L1:=looks_mroIn (M:=M) X ec.mb
 have ha:=F.args_bexc_ga (.ref x) nameV
 simp only [checkBuiltinCall,hk,hsplit]
 refine aq ?_
 . unfold isInstance
   repeat (first|with_reducible refine Looks.at L0 ?_|with_reducible refine Looks.at L1 ?_|wp_step)
   exact hq
theorem Y7 {tk:Tok} (X:K.In h) (ec:nu K C) (hx:h.get? x=some o) (hc:o.cls = .ref C) (hq:R (.ok (.ret (.ref C))) ⟨h,g,d,t,os⟩):
  codeAny (model prog w) A (.call (.builtin "BaseException.__getattribute__") ⟨[.ref x, .str "__class__" tk],[]⟩) R ⟨h,g,d,t,os⟩:=
 codeAny_call_builtin F.excAttr_ValueError.ga.plain F.entry_bexc_ga (Wr X ec hx hc (Wq X ec hx hc hq))
theorem adZ {tk:Tok} {fill expr:Bool} {Q:VS} (X:K.In h) (ec:nu K C) (hx:h.get? x=some o) (hc:o.cls = .ref C) (hq:Q (.ref C) ⟨h,g,d,t,os⟩):
  wpAny (model prog w) A (getAttrBy (.ref x) (.str "__class__" tk) fill expr) Q E ⟨h,g,d,t,os⟩:=by
 have L0:=Es (M:=model prog w) hx hc
 have L1:=looks_findIn (M:=model prog w) X ec.ga
 have L2:=looks_findIn (M:=model prog w) X ec.gn
 have f3:=F.excAttr_ValueError.ga.bind (.ref x)
 have Er:(expr && onTheHeap (Value.builtin "BaseException.__getattribute__"))=false:=by cases expr <;> rfl
 have hx2:(Value.builtin "BaseException.__getattribute__"==Value.builtin "object.__getattribute__")=false:=by decide +kernel
 have Ue:(onTheHeap (Value.ref C) && Value.builtin "BaseException.__getattribute__"==Value.builtin "object.__getattribute__")=false:=by rw [hx2];rfl
 repeat (any_goals (first|assumption|with_reducible refine Looks.at L0 ?_|with_reducible refine Looks.at L1 ?_|with_reducible refine Looks.at L2 ?_|wp_step))
 refine Y7 X ec hx hc ?_
 repeat (any_goals (first|assumption|wp_step))
theorem Y8 {Q:Option Value->Shared->Prop} (X:K.In h) (ec:nu K C) (hx:h.get? x=some o) (hc:o.cls = .ref C) (hq:Q (some (.ref C)) ⟨h,g,d,t+1,os⟩):
  wpAny (model prog w) A (getAttr? (.ref x) "__class__") Q E ⟨h,g,d,t,os⟩:=by
 unfold getAttr? getAttrBy?
 repeat (any_goals (first|assumption|with_reducible apply adZ X ec hx hc|wp_step))
theorem Ws (ec:nu K C):KitX K (.ref x) (.ref C) (fun h=>∃o,h.get? x=some o/\o.cls = .ref C) where
 ty:=fun _ _ _ ⟨o,hx,hc⟩=>Es hx hc
 it:=fun _ _ X _=>by
  have:=ec.is
  unfold clsIn at this
  split at this
  . rename_i c' d' cd' Ke ho
    intro A' Q' E' s' k q
    unfold isType loadHead
    exact aq (wpAny_loadPart (k _ _ (X _ _ ho)) (aL q))
  . cases this
 ne:=fun h tp dd its n sl X htp=>by
  have:=ec.is
  refine mT.mpr fun q=>?_
  have e:C=tp:=Value.ref.inj (nF.mp q)
  subst e
  unfold clsIn at this
  split at this
  . rename_i c' d' cd' Ke ho
    have z:=(X _ _ ho).symm.trans htp
    cases z
  . cases this
 ca:=fun {_ _ _ _ _ s} X ⟨o,hx,hc⟩ k=>by
  obtain ⟨h,g,d,t,os⟩:=s
  exact Y8 X ec hx hc k
end
theorem Lp {K:Frag} {bmB:List Value} {x:Value} (hb:bmB.contains x=true):∀{l:List Value},tailIn K bmB l=true->l.contains x=true
 | [],e=>by rw [nF.mp (show (bmB==[])=true from e)] at hb;exact hb
 | v::r,e=>by
   unfold tailIn at e
   rcases Fy.mp e with q|q
   . rw [nF.mp q];exact hb
   . split at q
     . split at q
       . simp only [FI] at q
         rw [List.contains_cons,Lp hb q.2,Bool.or_true]
       . cases q
     . cases q
def xw (K:Frag) (N:Addr) (x:Str):Option Value:=match K.lookup N with
 | some o=>(match o.data with | .dict es _=>nsFind es x|_=>none)
 | none=>none
theorem Rh {K:Frag} {N:Addr} (X:K.In h) (e:nsOkIn K N=true):h.nsMap N=xw K N:=by
 unfold nsOkIn at e
 split at e
 . rename_i ho
   funext x
   unfold xw Heap.nsMap
   rw [X _ _ ho,ho]
 . cases e
theorem Lq {K:Frag} {N:Addr} (q:nsIn K N x=some none):xw K N x=none:=by
 unfold nsIn at q
 unfold xw
 split at q
 . rename_i c d es n sl ho
   rw [ho]
   show nsFind es x=none
   split at q
   . cases q
   . rename_i he
     unfold nsFind findBy
     rw [<-Array.find?_toList,he]
     rfl
 . cases q
theorem pN.of {K:Frag} (q:excIn K C abt "ValueError.__new__"=true):pN K C:=by
 unfold excIn at q
 split at q
 . rename_i dd cd sl ho
   split at q
   . rename_i C' bm k0 k1 k2 k3 n k5 hm hs
     simp only [FI,nF,Bool.not_eq_true'] at q
     obtain ⟨⟨⟨⟨⟨rfl,rfl⟩,aby⟩,ht⟩,hok⟩,hni⟩:=q
     obtain ⟨nm,bs,mro,ns,qn,hd,sn,sub,ab,col,del⟩:=cd
     dsimp only at hm aby hok hni
     subst hm aby
     have hsl:sl=#[k0,k1,k2,k3,some (.builtin "ValueError.__new__"),k5] :=by
      obtain ⟨l⟩:=sl
      simp only at hs
      rw [hs]
     subst hsl
     refine ⟨nm,qn,ns,bs,bm,hd,sn,sub,ab,col,dd,k0,k1,k2,k3,k5,xw K ns,Lq hni,Lp (by decide +kernel) ht,fun h X=>⟨X _ _ ho,?_,tail_of_in X ht⟩⟩
     have:=Heap.Ns.of_isNs (isNs_of_in X hok)
     rw [Rh X hok] at this
     exact this
   . cases q
 . cases q
def Lr:V->Value
 | .ref a=> .ref a
 | .ty n=> .type n
 | _=> .none
section
variable {X:Cx}
theorem e_ (K:Frag) (hK:X.K=K):gQ X (.builtin "isinstance") (fun xs H Q=>∃x C c b,xs=[.ref x,c]/\H x=some (CL x C)/\nu K C/\RelV c (Lr c)/\kitOne K (.ref C) (Lr c)=some b/\Q (.bl b) H):=by
 subst hK
 intro pins s σ H xs us Q I r h
 obtain ⟨x,C,c,b,rfl,hx,ec,rc,e,q⟩:=h
 obtain ⟨u,w',rfl,ru,rw'⟩:=vals2 r
 have e1:u = .ref x:=ru
 subst e1
 have e2:w'=Lr c:=by
  cases c with
  | ref a=>exact rw'
  | ty n=>exact rw'
  | bZ=>exact rw'
  | bl b=>exact nomatch (show Value.none=Value.bool b from rc)
  | int i=>obtain ⟨t,z⟩:=(show ∃t,Value.none=Value.int i t from rc);cases z
  | str i=>obtain ⟨t,z⟩:=(show ∃t,Value.none=Value.str i t from rc);cases z
  | wR i=>obtain ⟨t,z⟩:=(show ∃t,Value.none=Value.bytes i t from rc);cases z
  | Hf i=>obtain ⟨t,z⟩:=(show ∃t,Value.none=Value.float i t from rc);cases z
 subst e2
 exact kia_one (Ws ec) I.iP (I.hok x _ hx).1 e (fun z=>nomatch z) fun tk=>⟨.bl b,H,I.tok _,Z,q⟩
end
structure Ec where
 (bad twice Et rV Eu rW Af rows Ls Ew Wt:Addr)
structure Told (K:Frag) (e:Ec) (C:Addr) (i:Nat):Prop where
 ec:nu K C
 jt:exmOne K (.ref C) (.ref e.Wt)=some true
 ve:kitOne K (.ref C) (.type "ValueError")=some true
 k0:kitOne K (.ref C) (.ref e.bad)=some (decide (0=i))
 k1:kitOne K (.ref C) (.ref e.twice)=some (decide (1=i))
 k2:kitOne K (.ref C) (.ref e.Et)=some (decide (2=i))
 k3:kitOne K (.ref C) (.ref e.rV)=some (decide (3=i))
 k4:kitOne K (.ref C) (.ref e.Eu)=some (decide (4=i))
 k5:kitOne K (.ref C) (.ref e.rW)=some (decide (5=i))
 k6:kitOne K (.ref C) (.ref e.Af)=some (decide (6=i))
 k7:kitOne K (.ref C) (.ref e.rows)=some (decide (7=i))
 k8:kitOne K (.ref C) (.ref e.Ls)=some (decide (8=i))
 k9:kitOne K (.ref C) (.ref e.Ew)=some (decide (9=i))
def Lu (i:Nat):List Bool:=true::(List.range 10).map fun k=>decide (k=i)
def Gj (i:Nat):List V:=(Lu i).map V.bl
theorem Told.of {K:Frag} {e:Ec} {b0 b1 b2 b3 b4 b5 b6 b7 b8 b9:Bool} (ga:findIn K (.ref C) "__getattribute__"=some (some (.builtin "BaseException.__getattribute__"))) (gn:findIn K (.ref C) "__getattr__"=some none) (ca:findIn K (.ref C) "__class__"=some (some (.builtin "object.__class__")))
  (mo:mroIn K C (.type "object")=some true) (mb:mroIn K C (.type "BaseException")=some true) (jt:exmOne K (.ref C) (.ref e.Wt)=some true) (ve:kitOne K (.ref C) (.type "ValueError")=some true)
  (k0:kitOne K (.ref C) (.ref e.bad)=some b0) (k1:kitOne K (.ref C) (.ref e.twice)=some b1) (k2:kitOne K (.ref C) (.ref e.Et)=some b2) (k3:kitOne K (.ref C) (.ref e.rV)=some b3) (k4:kitOne K (.ref C) (.ref e.Eu)=some b4)
  (k5:kitOne K (.ref C) (.ref e.rW)=some b5) (k6:kitOne K (.ref C) (.ref e.Af)=some b6) (k7:kitOne K (.ref C) (.ref e.rows)=some b7) (k8:kitOne K (.ref C) (.ref e.Ls)=some b8) (k9:kitOne K (.ref C) (.ref e.Ew)=some b9)
  (h:[b0,b1,b2,b3,b4,b5,b6,b7,b8,b9]=(List.range 10).map fun k=>decide (k=i)):Told K e C i:=by
 have h':[b0,b1,b2,b3,b4,b5,b6,b7,b8,b9]=[decide (0=i),decide (1=i),decide (2=i),decide (3=i),decide (4=i),decide (5=i),decide (6=i),decide (7=i),decide (8=i),decide (9=i)] :=h
 simp only [List.cons.injEq,and_true] at h'
 obtain ⟨rfl,rfl,rfl,rfl,rfl,rfl,rfl,rfl,rfl,rfl⟩:=h'
 have is:(clsIn K C).isSome=true:=by
  unfold mroIn at mo
  obtain ⟨cd,a,b⟩:=Option.bind_eq_some_iff.mp mo
  rw [a];rfl
 exact ⟨⟨ga,gn,ca,mo,mb,is⟩,jt,ve,k0,k1,k2,k3,k4,k5,k6,k7,k8,k9⟩
def uI (K:Frag) (j:Nat) (c:V):TE:=tCB (fun xs H Q=>∃x C c b,xs=[.ref x,c]/\H x=some (CL x C)/\nu K C/\RelV c (Lr c)/\kitOne K (.ref C) (Lr c)=some b/\Q (.bl b) H) (jN (Cp j) (jN (tC c) pB))
def ad0 (K:Frag) (e:Ec) (i j:Nat):TS:=
 Cq (zz (QH (jN (uI K j (.ty "ValueError")) (jN (uI K j (.ref e.bad)) (jN (uI K j (.ref e.twice)) (jN (uI K j (.ref e.Et)) pB))))) (gc i))
  (Cq (zz (DF Vy (Cp i) (QH (jN (uI K j (.ref e.rV)) (jN (uI K j (.ref e.Eu)) (jN (uI K j (.ref e.rW)) pB))))) (gc i))
    (zz (DF Vy (Cp i) (QH (jN (uI K j (.ref e.Af)) (jN (uI K j (.ref e.rows)) (jN (uI K j (.ref e.Ls)) (jN (uI K j (.ref e.Ew)) pB)))))) (gc i)))
section
theorem Ri {K:Frag} {e:Ec} {σ:St} {x:Addr} (to:Told K e C n) (hj:σ[j]?=some (some (.ref x))) (hi:i<σ.length) (hij:i≠j) (hx:H x=some (CL x C))
  (q:∀l H',aE H H'->H' l=some (.lst (Gj n))->D.nx (σ.set i (some (.ref l))) H'):ad0 K e i j D σ H:=by
 have Xp:∀(σ:St) (v:V),i<σ.length->(σ.set i (some v))[i]?=some (some v):=fun σ v h=>ue h
 have Xq:∀(σ:St) (v:V),σ[j]?=some (some (.ref x))->(σ.set i (some v))[j]?=some (some (.ref x)):=fun σ v h=>by rw [zm hij];exact h
 refine ⟨_,hj,x,C,_,_,Z,hx,to.ec,Z,to.ve,?_⟩
 refine ⟨_,hj,x,C,_,_,Z,hx,to.ec,Z,to.k0,?_⟩
 refine ⟨_,hj,x,C,_,_,Z,hx,to.ec,Z,to.k1,?_⟩
 refine ⟨_,hj,x,C,_,_,Z,hx,to.ec,Z,to.k2,?_⟩
 refine ⟨(show 4<=sizeLine from by rw [fu];decide),fun p1 hp1=>?_⟩
 generalize hH1:upd H p1 (HO.lst _)=H1
 have Wu:upd H p1 (.lst [V.bl true,V.bl (decide (0=n)),V.bl (decide (1=n)),V.bl (decide (2=n))])=H1:=hH1
 have g1:aE H H1:=Wu▸aA hp1 _
 have h1:H1 p1=some (.lst [V.bl true,V.bl (decide (0=n)),V.bl (decide (1=n)),V.bl (decide (2=n))]):=by rw [<-Wu,aj]
 clear hH1 Wu
 have hj1:=Xq σ (.ref p1) hj
 have Ue:=g1 _ _ hx
 refine ⟨_,Xp _ _ hi,?_⟩
 refine ⟨_,hj1,x,C,_,_,Z,Ue,to.ec,Z,to.k3,?_⟩
 refine ⟨_,hj1,x,C,_,_,Z,Ue,to.ec,Z,to.k4,?_⟩
 refine ⟨_,hj1,x,C,_,_,Z,Ue,to.ec,Z,to.k5,?_⟩
 refine ⟨(show 3<=sizeLine from by rw [fu];decide),fun p2 hp2=>?_⟩
 generalize hH2:upd H1 p2 (HO.lst _)=H2
 have Wv:upd H1 p2 (.lst [V.bl (decide (3=n)),V.bl (decide (4=n)),V.bl (decide (5=n))])=H2:=hH2
 have g2:aE H1 H2:=Wv▸aA hp2 _
 have h2:H2 p2=some (.lst [V.bl (decide (3=n)),V.bl (decide (4=n)),V.bl (decide (5=n))]):=by rw [<-Wv,aj]
 clear hH2 Wv
 refine ⟨p1,p2,_,_,Z,Z,g2 _ _ h1,h2,(show 4+3<=sizeLine from by rw [fu];decide),fun p3 hp3=>?_⟩
 generalize Ug:upd H2 p3 (HO.lst _)=H3
 have Ag:upd H2 p3 (.lst [V.bl true,V.bl (decide (0=n)),V.bl (decide (1=n)),V.bl (decide (2=n)),V.bl (decide (3=n)),V.bl (decide (4=n)),V.bl (decide (5=n))])=H3:=Ug
 have g3:aE H2 H3:=Ag▸aA hp3 _
 have h3:H3 p3=some (.lst [V.bl true,V.bl (decide (0=n)),V.bl (decide (1=n)),V.bl (decide (2=n)),V.bl (decide (3=n)),V.bl (decide (4=n)),V.bl (decide (5=n))]):=by rw [<-Ag,aj]
 clear Ug Ag
 have Pg:=Xq _ (.ref p3) hj1
 have Pu:=g3 _ _ (g2 _ _ Ue)
 refine ⟨_,Xp _ _ (by rw [lD];exact hi),?_⟩
 refine ⟨_,Pg,x,C,_,_,Z,Pu,to.ec,Z,to.k6,?_⟩
 refine ⟨_,Pg,x,C,_,_,Z,Pu,to.ec,Z,to.k7,?_⟩
 refine ⟨_,Pg,x,C,_,_,Z,Pu,to.ec,Z,to.k8,?_⟩
 refine ⟨_,Pg,x,C,_,_,Z,Pu,to.ec,Z,to.k9,?_⟩
 refine ⟨(show 4<=sizeLine from by rw [fu];decide),fun p4 Lv=>?_⟩
 generalize Uh:upd H3 p4 (HO.lst _)=H4
 have CM:upd H3 p4 (.lst [V.bl (decide (6=n)),V.bl (decide (7=n)),V.bl (decide (8=n)),V.bl (decide (9=n))])=H4:=Uh
 have g4:aE H3 H4:=CM▸aA Lv _
 have h4:H4 p4=some (.lst [V.bl (decide (6=n)),V.bl (decide (7=n)),V.bl (decide (8=n)),V.bl (decide (9=n))]):=by rw [<-CM,aj]
 clear Uh CM
 refine ⟨p3,p4,_,_,Z,Z,g4 _ _ h3,h4,(show 7+4<=sizeLine from by rw [fu];decide),fun p5 hp5=>?_⟩
 have g5:=aA hp5 (.lst (Gj n))
 have:=q p5 (upd H4 p5 (.lst (Gj n))) (g1.trans (g2.trans (g3.trans (g4.trans g5)))) aj
 show D.nx (((σ.set i _).set i _).set i _) _
 rw [vC,vC]
 exact this
end
structure Mx (P:Program) (w:World) (K:Fg) (mg:SO) (base:Heap) (k:Nat) (C:Addr) (m:Str) (ps:List Str) (sp:Sp):Prop where
 ex:∃f fd,iA P w K mg base (fY P w) k f fd ps sp/\Binds K fd ps []/\Meth K C m f/\oJ K C
theorem iS.okX {w:World} {m:Str} {st:Stmt} {k:Nat} (F:iS K C m qual st f fd) (S:aJ N ps (ay st)) (len:∀vs H Q E,sp vs H Q E->vs.length=ps.length)
  (hbody:∀(cdv:Value) (A:Around) (outer:List Env) (s:Shared) (H:Hp) (vs:List V) (Q:VK) (E:XK),dD k (A.deeper (envOfC qual (ay st) s.heap.objs.size f cdv))->sp vs H Q E->
    ∃t,qp (cN (fY P w) P w K mg base N qual (ay st) f cdv A outer s H E) (cE st) t/\t { nx:=fun _ H'=>Q .bZ H',rt:=Q } (start N vs) H)
  (h:∀(kV doc pm:Value) (an:Option Addr) (cdv ct:Value) (us:List Value),us.length=ps.length->bindArgs (PySem.W.fnOf m qual (dW st) (cE st) (ay st) .none kV doc pm an cdv ct) ⟨us,[]⟩=pure (ps.zip us)):
  Mx P w K mg base (k+1) C m ps sp:=by
 refine ⟨f,fd,?_,F.fn.binds h,F.me,F.cl⟩
 obtain ⟨oc,od,kV,doc,pm,an,cdv,ct,osl,rfl,lk,hcd⟩:=F.fn.ex
 exact QJ lk hcd S len fun A outer s H vs Q E hr pC=>hbody cdv A outer s H vs Q E hr pC
theorem iA.noX {w:World} {k:Nat} {Ij:Sp} (F:iA P w K mg base (fY P w) k f fd ps sp) (h:∀vs H Q E,Ij vs H Q E->sp vs H Q E0):iA P w K mg base tM k f fd ps Ij:=
 ⟨fun vs H Q E q=>F.len _ _ _ _ (h _ _ _ _ q),fun A outer s H args us vs Q E hr he hb hv hs=>AQ (F.run A outer s H args us vs Q E0 hr he hb hv (h _ _ _ _ hs)) fun r s' q=>by
   cases r with
   | error e=>
     obtain ⟨x,T,C,H',_,_,_,_,_,_,_,_,_,_,z⟩:=(show fY P w outer H s E0 e s' from q)
     exact z.elim
   | ok fl=>cases fl <;> exact q⟩
theorem Mx.mn {w:World} {k:Nat} {m:Str} {Ij:Sp} (D:Mx P w K mg base k C m ps sp) (h:∀vs H Q E,Ij vs H Q E->sp vs H Q E0):Mn P w K mg base k C m ps Ij:=by
 obtain ⟨f,fd,F,b,me,c⟩:=D.ex
 exact ⟨f,fd,F.noX h,b,me,c⟩
theorem Dx.dn {w:World} {k:Nat} {Ij:Sp} (D:Dx P w K mg base k x ps sp) (h:∀vs H Q E,Ij vs H Q E->sp vs H Q E0):Dn P w K mg base k x ps Ij:=by
 obtain ⟨f,fd,F,b,kp,m⟩:=D.ex
 exact ⟨f,fd,F.noX h,b,kp,m⟩
section
variable {P:Program} {w:World} {K:Fg} {mg:SO} {base:Heap} {N:List Str} {qual:Str} {scope:Scope} {f:Addr} {cd:Value} {A:Around} {outer:List Env} {s0:Shared} {H0:Hp} {E:XK}
end
section
variable {X:Cx}
end
def Ec.at (e:Ec):Nat->Addr
 | 0=>e.bad|1=>e.twice|2=>e.Et|3=>e.rV|4=>e.Eu|5=>e.rW|6=>e.Af|7=>e.rows|8=>e.Ls|_=>e.Ew
def Rf (e:Ec) (E:XK) (H:Hp) (i:Nat):Prop:=∀x H',aE H H'->E (.ref x) (some (e.at i)) H'
structure DoX (T:TC) (e:Ec) (n:Nat) (ρ:fR) (A:HA) (H:Hp) (r:Option Nat) (st':HS) (Q:VK) (E:XK):Prop where
 no:∀i,r=some i->Rf e E H i
 ok:r=none->Bc T n ρ A H st' fun H'=>Q .bZ H'
def newR (st:HS) (x:Str):Option Nat:=if isNm x=true then (if x∈st.nms then some 1 else none) else some 0
def ad1 (st:HS) (o:Str):Option Nat:=if isNm o=true then (if o∈st.own then some 1 else none) else some 0
def ad2 (st:HS) (x o:Str) (wo we:Int):Option Nat:=match newR st x with
 | some i=>some i
 | none=>if o∈st.own then (if wo<1\/we<0 then some 5 else none) else some 2
inductive Ww (T:TC) (e:Ec) (vs:List V) (H:Hp) (Q:VK) (E:XK):Prop
 | mk (n ρ A st x:_) (_:vs=[.ref A.a, .str x]) (_:aY T n ρ A H st) (_:(st.ai.map (·.nm)).Nodup) (_:((∀p∈st.ai,p.nm≠x)->Rf e E H 3)) (_:∀(i:Nat) (p:Pt) (q:Addr×Addr×Addr),p.nm=x->st.ai[i]?=some p->A.qs[i]?=some q->Q (.ref q.1) H)
def vO (T:TC) (e:Ec):Sp:=bx (Ww T e)
inductive ahf (vs:List V) (H:Hp) (Q:VK) (E:XK):Prop
 | mk (n:Nat) (_:vs=[.int (n:Int)]) (_:∀p H',aE H H'->H' p=some (.lst (Gj n))->Q (.ref p) H')
def Rj:Sp:=bx (ahf)
theorem Y9 {Q:VK} {E:XK} {i:Int} (e:i=(n:Int)) (q:∀p H',aE H H'->H' p=some (.lst (Gj n))->Q (.ref p) H'):Rj [.int i] H Q E:=⟨n,by rw [e],q⟩
theorem Lw {K:Fg} {H:Hp}:∀bs:List Bool,w_ K H (bs.map V.bl) (bs.map PyData.bool)
 | []=> .nil
 | b::bs=> .cons (.bl b) (Lw bs)
inductive Dd where
 | sign (o:Str)|load (x o:Str) (wo we:Int)|cast (rs:List Row)|award (o:Str) (a:Int)|mishap (x:Str) (a:Int)|rise (x:Str) (a:Int)|hand (x o:Str)|land (x:Str)|sever (x y:Str) (a we:Int)|still
def Xr:List Row->List V
 | []=>[]
 | r::rs=> .str r.1 :: .int r.2::Xr rs
def Dd.v:Dd->List V
 | .sign o=>[.str "sign", .str o]
 | .load x o wo we=>[.str "load", .str x, .str o, .int wo, .int we]
 | .cast rs=> .str "cast"::Xr rs
 | .award o a=>[.str "award", .str o, .int a]
 | .mishap x a=>[.str "mishap", .str x, .int a]
 | .rise x a=>[.str "rise", .str x, .int a]
 | .hand x o=>[.str "hand", .str x, .str o]
 | .land x=>[.str "land", .str x]
 | .sever x y a we=>[.str "sever", .str x, .str y, .int a, .int we]
 | .still=>[.str "still"]
def gT (st:HS):List Str:=st.ai.map fun p=>p.nm
def kG (st:HS) (r:Row):Option Nat:=if r.1∈gT st then (if r.2<1 then some 5 else if (c5 st r.1).wo<r.2 then some 6 else none) else some 3
def ad3 (st:HS) (rs:List Row):Option Nat:=if rs≠[]/\(rs.map fun r:Row=>r.1).Nodup then (match rs.findSome? (kG st) with
 | some i=>some i
 | none=>if bK st<=bu rs then some 6 else none) else some 7
def abB (st:HS) (o:Str) (a:Int):Option Nat:=if o∈st.own then (if a<1 then some 5 else if bK st<=a then some 6 else none) else some 2
def jw (st:HS) (x:Str) (a:Int):Option Nat:=if x∈gT st then (if a<1 then some 5 else none) else some 3
def ad4 (st:HS) (x o:Str):Option Nat:=if x∈gT st then (if o∈st.own then none else some 2) else some 3
def ad5 (st:HS) (x:Str):Option Nat:=if x∈gT st then none else some 3
def abC (st:HS) (x y:Str) (a we:Int):Option Nat:=if x∈gT st then (match newR st y with
 | some i=>some i
 | none=>if a<1\/we<0 then some 5 else if (c5 st x).wo<=a\/(c5 st x).we<we then some 6 else none) else some 3
def lX (st:HS):Dd->Option Nat
 | .sign o=>ad1 st o
 | .load x o wo we=>ad2 st x o wo we
 | .cast rs=>ad3 st rs
 | .award o a=>abB st o a
 | .mishap x a=>kG st (x,a)
 | .rise x a=>jw st x a
 | .hand x o=>ad4 st x o
 | .land x=>ad5 st x
 | .sever x y a we=>abC st x y a we
 | .still=>none
def abD (st:HS) (o:Str) (a:Int):HS:=cS st (bK st-a) (bK st) ((List.replicate st.own.length 0).set (st.own.idxOf o) (a*st.prod))
def Ex (st:HS) (x:Str) (f:Pt->Pt):HS:={ st with ai:=st.ai.map fun p=>if p.nm=x then f p else p }
def Ey (st:HS) (x:Str) (a:Int):HS:=Ex st x fun p=>{ p with wo:=p.wo+a }
def ad6 (st:HS) (p:Pt) (o:Str):List Int:=((b_ st p).set (st.own.idxOf o) ((b_ st p).getD (st.own.idxOf o) 0+(b_ st p).getD (st.own.idxOf p.ow) 0)).set (st.own.idxOf p.ow) 0
def ad7 (st:HS) (x o:Str):HS:=if st.own.idxOf o=st.own.idxOf (c5 st x).ow then st else Ex st x fun p=>{ p with ow:=o,sc:=1,row:=zX st (ad6 st p o) }
def Xs (st:HS) (p:Pt):List Int:=List.zipWith (fun u t=>u+p.wo*t) st.dg (b_ st p)
def ad8 (st:HS) (x:Str):HS:=
 { st with ai:=st.ai.filter (fun p=>decide (p.nm≠x))
           kj:=st.kj++[⟨x,(c5 st x).ow,(c5 st x).wo,zY st (c5 st x)⟩]
           kn:=st.kn+100
           dg:=(Xs st (c5 st x)).set (st.own.idxOf (c5 st x).ow) ((Xs st (c5 st x)).getD (st.own.idxOf (c5 st x).ow) 0-(c5 st x).wo*st.prod) }
def abE (st:HS) (x y:Str) (a we:Int):HS:=Bd (Ex st x fun p=>{ p with wo:=p.wo-a,we:=p.we-we }) ⟨y,(c5 st x).ow,a,we,(c5 st x).sc,(c5 st x).row⟩
def vP (st:HS):Dd->HS
 | .sign o=>gC st o
 | .load x o wo we=>yh st x o wo we
 | .cast rs=>kF st rs
 | .award o a=>abD st o a
 | .mishap x a=>fH st (x,a)
 | .rise x a=>Ey st x a
 | .hand x o=>ad7 st x o
 | .land x=>ad8 st x
 | .sever x y a we=>abE st x y a we
 | .still=>st
inductive Y_ (T:TC) (e:Ec) (al:HS->Dd->Prop) (K:Fg) (vs:List V) (H:Hp) (Q:VK) (E:XK):Prop
 | mk (n ρ A st z d:_) (_:vs=[.ref A.a, .ref z]) (_:cR K H z (Dd.v d)) (_:HH T n ρ A H st) (_:al st d) (_:DoX T e n ρ A H (lX st d:_) (vP st d:_) Q E)
def Lx (T:TC) (e:Ec) (al:HS->Dd->Prop) (K:Fg):Sp:=bx (Y_ T e al K)
inductive abF (T:TC) (al:HS->Dd->Prop) (K:Fg) (vs:List V) (H:Hp) (Q:VK) (E:XK):Prop
 | mk (n ρ A st z d:_) (_:vs=[.ref A.a, .ref z]) (_:cR K H z (Dd.v d)) (_:HH T n ρ A H st) (_:al st d) (_:(∀i,lX st d=some i->∀l H',aE H H'->H' l=some (.lst (Gj i))->Q (.ref l) H')) (_:(lX st d=none->∀l ρ' A' H',HH T n ρ' A' H' (vP st d:_)->A'.a=A.a->Fr n ρ H ρ' H'->H' l=some (.lst [])->ρ' l=none->H l=none->Q (.ref l) H'))
def Gk (T:TC) (al:HS->Dd->Prop) (K:Fg):Sp:=bx (abF T al K)
def wl (s:Str):Nat:=s.cps.toList.length
theorem Rk (cs:List Nat):wl (tx cs)=cs.length:=by unfold wl;show cs.toArray.toList.length=_;simp
section
variable {X:Cx}
inductive ad9 (x:V) (y:V) (H:Hp) (Q:VK):Prop
 | mk  (i j:Str) (_:x = .str i) (_:y = .str j) (_:wl i+wl j<=10000) (_:∀r:Str,wl r=wl i+wl j->Q (.str r) H)
theorem qE:ig X (binaryOp .Add) ad9:=by
 intro pins s σ H x y v u Q I rx ry h
 obtain ⟨i,j,rfl,rfl,hz,q⟩:=h
 rw [<-xg i] at rx
 rw [<-xg j] at ry
 exact Y6 pins s σ H _ _ v u Q I rx ry ⟨_,_,Z,Z,fq hz (by decide),q _ (by rw [Rk,di];rfl)⟩
inductive ahg (x:V) (lo:Option Int) (hi:Option Int) (H:Hp) (Q:VK):Prop
 | mk  (i:Str) (_:x = .str i) (_:wl i<=10000) (_:∀r:Str,wl r<=wl i->(∀n:Nat,lo=none->hi=some (n:Int)->wl r<=n)->Q (.str r) H)
theorem xx:So X ahg:=by
 intro pins s σ H x v vl vu lo hi sl Q I rx hs pl pu h
 obtain ⟨i,rfl,hz,q⟩:=h
 rw [<-xg i] at rx
 refine aaN pins s σ H _ v vl vu lo hi sl Q I rx hs pl pu ⟨_,Z,by rw [fu];exact fq hz (by decide),q _ ?_ ?_⟩
 . rw [Rk];exact BR _ _ _
 . rintro n rfl rfl
   rw [Rk,Yt,lq]
   omega
end
theorem Ly {α:Type} {xs:List α} {i:Int} (h1:-(xs.length:Int)<=i) (h2:i<(xs.length:Int)):∃v∈xs,jU xs i=some v:=by
 unfold jU BL
 by_cases h0:0<=i
 . rw [aB h0,aB h2]
   have hj:i.toNat<xs.length:=by omega
   exact ⟨xs[i.toNat],tR hj,aX hj⟩
 . rw [az h0,aB h1]
   have hj:(i+xs.length).toNat<xs.length:=by omega
   exact ⟨xs[(i+xs.length).toNat],tR hj,aX hj⟩
theorem abG:∀i:Fin 10,SeqAt.shaped (.list ((Lu i.val).map PyData.bool))=true/\PyData.eqv (.list ((Lu i.val).map PyData.bool)) (.list ((Lu i.val).map PyData.bool))=true:=by decide +kernel
def told (r:Option Nat):List Bool:=match r with
 | some i=>Lu i
 | none=>[]
def JY (r:Option Nat):List V:=(told r).map V.bl
theorem Pw (r:Option Nat):w_ K H (JY r) ((told r).map PyData.bool):=Lw _
theorem Gm {r:Option Nat} (h:∀i,r=some i->i<10):SeqAt.shaped (.list ((told r).map PyData.bool))=true/\PyData.eqv (.list ((told r).map PyData.bool)) (.list ((told r).map PyData.bool))=true:=by
 cases r with
 | none=>exact ⟨Z,Z⟩
 | some i=>exact abG ⟨i,h i rfl⟩
def uJ (st:HS) (d:Dd):HS:=match lX st d with
 | some _=>st
 | none=>vP st d
theorem Za {l l':Addr} {r:Option Nat} {Q:VK} (h1:H l=some (.lst (JY r))) (h2:H l'=some (.lst (JY r))) (h:∀i,r=some i->i<10) (q:Q (.bl true) H):VL K (.ref l) (.ref l') H Q:=
 ⟨_,_, .lst (aC.of h1) (Pw r), .lst (aC.of h2) (Pw r),(Gm h).1,(Gm h).1,by rw [(Gm h).2];exact q⟩
section
variable {P:Program} {w:World} {K:Fg} {mg:SO} {base:Heap} {k:Nat} {T:TC} {e:Ec} {ps:List Str}
theorem Ui (D:Mx P w K mg base k T.hold "part_of" ps (vO T e)):Mn P w K mg base k T.hold "part_of" ps (CD T):=
 D.mn fun vs H Q E h=>by
   obtain ⟨⟨n,ρ,A,st,i,p,qq,rfl,hx,nd,ep,eq,q⟩⟩:=h
   refine ⟨n,ρ,A,st,p.nm,Z,hx,nd,fun z=>absurd rfl (z p (bN ep)),fun j p' q' e1 e2 e3=>?_⟩
   have:j=i:=KW nd e2 ep e1
   subst this
   rw [eq] at e3;cases e3
   exact q
end
def nB (i:Int):Prop:=-1000000000<=i/\i<=1000000000
def Px:Dd->Prop
 | .sign o=>wl o<=20
 | .load x o wo we=>wl x<=20/\wl o<=20/\nB wo/\nB we
 | .cast rs=>rs.length<=60/\∀r∈rs,wl r.1<=20/\nB r.2
 | .award o a=>wl o<=20/\nB a
 | .mishap x a=>wl x<=20/\nB a
 | .rise x a=>wl x<=20/\nB a
 | .hand x o=>wl x<=20/\wl o<=20
 | .land x=>wl x<=20
 | .sever x y a we=>wl x<=20/\wl y<=20/\nB a/\nB we
 | .still=>True
def Dd.k:Dd->Nat
 | .sign _=>0 | .load .. =>1 | .cast _=>2 | .award .. =>3 | .mishap .. =>4 | .rise .. =>5 | .hand .. =>6 | .land _=>7 | .sever .. =>8 | .still=>9
def Rl (n:Nat):Str:=(["sign","load","cast","award","mishap","rise","hand","land","sever","still"] :List Str).getD n "still"
def Dd.w (d:Dd):Str:=Rl d.k
theorem Dd.v0 (d:Dd):d.v[0]?=some (.str d.w):=by cases d <;> rfl
theorem Dd.k_lt (d:Dd):d.k<10:=by cases d <;> simp [Dd.k]
theorem Xu:∀m n:Fin 10,m≠n->Rl m.val≠Rl n.val:=by decide +kernel
theorem Dd.Rm {d:Dd} (h:d.k≠n) (hn:n<10):d.w≠Rl n:=Xu ⟨d.k,d.k_lt⟩ ⟨n,hn⟩ fun e=>h (ie Fin.val e)
theorem Dd.abH {d:Dd} (h:d.k≠2):d.w ≠ "cast":=d.Rm h (by decide)
theorem Dd.Zb {d:Dd} (h:d.k≠9):d.w ≠ "still":=d.Rm h (by decide)
def alike (v w:V):Prop:=(∃s s',v = .str s/\w = .str s'/\wl s'<=20)\/∃i i',v = .int i/\w = .int i'/\nB i'
theorem Ik {s:Str} {w:V} (h:alike (.str s) w):∃s',w = .str s'/\wl s'<=20:=by
 rcases h with ⟨_,s',e,h1,h2⟩|⟨i,i',e,_⟩
 . exact ⟨s',h1,h2⟩
 . cases e
theorem Il {i:Int} {w:V} (h:alike (.int i) w):∃i',w = .int i'/\nB i':=by
 rcases h with ⟨_,s',e,h1,h2⟩|⟨_,i',e,h1,h2⟩
 . cases e
 . exact ⟨i',h1,h2⟩
structure Bk (b:BS):Prop where
 own:∀x∈b.own,wl x<=20
 d8:∀x∈b.d8,wl x<=20
 ai:∀p∈b.ai,wl p.nm<=20
 wo:∀p∈b.ai,0<=p.wo/\0<=p.we
 ol:b.own.length<=100
 kl:b.d8.length<=1000
 pl:b.ai.length<=1000
inductive Rn (K:Fg) (vs:List V) (H:Hp) (Q:VK) (E:XK):Prop
 | mk (a:Addr) (ms:List Int) (k:Int) (n:Nat) (ρ:fR) (B:BA) (b:BS) (x:Str) (_:vs=[.ref a, .int k, .ref B.m, .str x]) (_:aC K H a (ms.map V.int)) (_:ms.length<=63) (_:0<=k) (_:bg n ρ B H b) (_:Bk b) (_:wl x<=20) (_:∀r H',aE H H'->wl r<=20->Q (.str r) H')
def Ca (K:Fg):Sp:=bx (Rn K)
inductive Lz (K:Fg) (vs:List V) (H:Hp) (Q:VK) (E:XK):Prop
 | mk (a:Addr) (ms:List Int) (k:Int) (n:Nat) (ρ:fR) (B:BA) (b:BS) (i:Int) (_:vs=[.ref a, .int k, .ref B.m, .int i]) (_:aC K H a (ms.map V.int)) (_:ms.length<=63) (_:0<=k) (_:bg n ρ B H b) (_:Bk b) (_:nB i) (_:∀r H',aE H H'->nB r->Q (.int r) H')
def yV (K:Fg):Sp:=bx (Lz K)
def Ah:Option Nat->Int
 | none=>-1
 | some i=>i
inductive ahh (al:HS->Dd->Prop) (K:Fg) (vs:List V) (H:Hp) (Q:VK) (E:XK):Prop
 | mk (n:Nat) (ρ:fR) (B:BA) (b:BS) (st:HS) (z:Addr) (d:Dd) (_:vs=[.ref B.m, .ref z]) (_:cR K H z d.v) (_:bg n ρ B H b) (_:iU st b) (_:Wf st) (_:uD b) (_:st.nms=b.d8) (_:al st d) (_:Px d) (_:∀H',aE H H'->Q (.int (Ah (lX st d))) H')
def JZ (al:HS->Dd->Prop) (K:Fg):Sp:=bx (ahh al K)
def j7 (m:Nat) (vs:List V):Prop:=∀v∈vs,∃s:Str,v = .str s/\wl s<=m
theorem j7.nil:j7 m [] :=fun _ h=>nomatch h
theorem j7.cons {m:Nat} {s:Str} {vs:List V} (h:wl s<=m) (hs:j7 m vs):j7 m (.str s::vs):=fun v hv=>by
 rcases c_.mp hv with rfl|hv
 . exact ⟨s,Z,h⟩
 . exact hs v hv
theorem j7.append {us:List V} (h:j7 m vs) (hu:j7 m us):j7 m (vs++us):=fun v hv=>(fZ.mp hv).elim (h v) (hu v)
theorem j7.map {xs:List Str} (h:∀x∈xs,wl x<=m):j7 m (xs.map V.str):=fun v hv=>by
 obtain ⟨x,hx,rfl⟩:=bM.mp hv
 exact ⟨x,Z,h x hx⟩
def uK (vs:List V):Prop:=∀v∈vs,∃i:Int,v = .int i/\-1000000000<=i
theorem uK.nil:uK [] :=fun _ h=>nomatch h
theorem uK.cons {i:Int} {vs:List V} (h:-1000000000<=i) (hs:uK vs):uK (.int i::vs):=fun v hv=>by
 rcases c_.mp hv with rfl|hv
 . exact ⟨i,Z,h⟩
 . exact hs v hv
theorem uK.append {us:List V} (h:uK vs) (hu:uK us):uK (vs++us):=fun v hv=>(fZ.mp hv).elim (h v) (hu v)
theorem Uj:∀{l:List Int},(∀x∈l,0<=x)->0<=l.sum
 | [],_=>jL _
 | a::l,h=>by
   rw [cU]
   have:=h a cJ
   have:=Uj (l:=l) fun x hx=>h x (cG _ hx)
   omega
theorem Bg (h:isNm x=true):wl x<=20:=by
 unfold isNm isName at h
 have:=dO (k_.mp (k_.mp h).1).2
 unfold wl
 omega
theorem fT.sub (g:fT c st b) (wf:Wf st) {p:BP} (hp:p∈b.ai):p.nm∈b.d8/\p.ow∈b.own/\1<=p.wo/\0<=p.we:=by
 obtain ⟨j,hj,ej⟩:=qx hp
 obtain ⟨p',xu,e1,e2,e3,e4⟩:=g.rel.at (i:=j) (q:=p) (by rw [aX hj,ej])
 have hm:=bN xu
 have h1:=wf.sub p' hm
 have h2:=wf.ow p' hm
 have h3:=wf.uy p' hm
 rw [e1,g.d8] at h1
 rw [e2,g.rel.own] at h2
 rw [e3,e4] at h3
 exact ⟨h1,h2,h3.1,h3.2⟩
theorem fT.bk (g:fT c st b) (wf:Wf st):Bk b:=
 ⟨fun x hx=>Bg (g.on x hx),fun x hx=>Bg (g.nk x hx),fun p hp=>Bg (g.nk _ (g.sub wf hp).1),fun p hp=>⟨by have:=(g.sub wf hp).2.2.1;omega,(g.sub wf hp).2.2.2⟩,g.j6.ol,g.j6.kl,g.j6.pl⟩
end L2
set_option autoImplicit true
namespace L2
open PySem PySem.Spec PyProof.Rows
structure bE (X:Cx) (e:Expr) (t:TE):Prop where h:PE X e t
structure bT (X:Cx) (e:Expr) (t:TT):Prop where h:PT X e t
structure bW (X:Cx) (e:Expr) (t:TT):Prop where h:PW X e t
structure bA (X:Cx) (es:List Expr) (t:TA):Prop where h:PA X es t
structure bS (X:Cx) (s:Stmt) (t:TS):Prop where h:PS X s t
structure cI (X:Cx) (s:List Stmt) (t:TS):Prop where h:qp X s t
structure bC (X:Cx) (op:CmpOp) (a b:Expr) (t:TE):Prop where h:PC X op a b t
structure bG (X:Cx) (e:Expr) (t:TG):Prop where h:PG X e t
structure Xv (X:Cx) (e:List Expr) (t:DA):Prop where h:PGs X e t
structure bI (X:Cx) (tg iter:Expr) (wi:TI):Prop where h:PI X tg iter wi
structure bO (X:Cx) (e:Option Expr) (t:TO):Prop where h:PO X e t
structure bX (X:Cx) (e:List Stmt) (t:TX):Prop where h:PX X e t
structure Xw (X:Cx) (pos:Pos) (ks:List (Option Expr)) (vs:List Expr) (t:List (TE×TE)):Prop where h:PPs X pos ks vs t
theorem bW.pt {X:Cx} {e:Expr} {t:TT} (h:bW X e t):bT X e t:=⟨h.h.pt⟩
theorem LA {op} {t:TE} (h:bE X a t):bE X (.BoolOp op [a] pos) t:=by
 have h:=h.h;exact ⟨fun pins s σ H Q I hw=>BoolOp_one (h pins s σ H Q I hw)⟩
theorem dw {e:Expr} {t:TE} (h:bE X e t) (he:∀whole,isTrue e X.env whole=(do let v <-whole;standAt e.pos;holding [v] (truthy v)):=by intro _;rfl):bT X e (tB t):=by
 have h:=h.h;constructor
 intro pins s σ H Q I hw
 refine isTrue_plain (bq (h pins s σ H _ I hw) fun v s1 ⟨x,H1,I1,r1,q1⟩=>?_) (he _)
 obtain ⟨d,rfl,q⟩:=q1
 cases r1
 exact zx ⟨H1,I1,q⟩
theorem aH {r:R2} (hr:yS X r) (ha:bE X a ta) (hb:bE X b tb) (hs:Yg b:=by exact fun _ _=>rfl):bE X (.Subscript a b pos) (DF r ta tb):=by
 have ha:=ha.h;have hb:=hb.h;constructor
 intro pins s σ H Q I h
 exact Subscript_ (Vk ha hb I h fun v u s2 x y H2 I2 rx ry q=>hr a b pins s2 σ H2 x y v u Q I2 rx ry q (hs _ _))
theorem qF (h:bE X e te):bO X (some e) (adn te):=by
 have h:=h.h;constructor
 intro pins s σ H Q I hw
 rw [evalPart_some]
 refine bq (h pins s σ H _ I hw) fun u s1 ⟨x,H1,I1,r1,q1⟩=>?_
 obtain ⟨i,rfl,q⟩:=q1
 obtain ⟨t,rfl⟩:=r1
 exact ⟨some i,H1,I1, .int i t,q⟩
theorem jf:Xv X [] ZP:=by
 constructor
 intro pins s σ H vs us Q I r h
 obtain ⟨e,h⟩:=h
 subst e
 cases r
 exact assignInOrder_nil ⟨σ,H,I,h⟩
theorem qG:bO X none Yd:=by
 constructor
 intro pins s σ H Q I h
 rw [evalPart_none]
 exact aL ⟨none,H,I, .none,h⟩
theorem jx {x:Str} {n:String} {pos:Pos} (hv:bootBuiltins x=some (.type n)) (hg:Gl X x) (hm:X.mg x=none) (hn:x ≠ "__name__":=by decide) (hd:(x==("__debug__":Str))=false:=by decide):bE X (.Name x pos) (tC (.ty n)):=by
 exact ⟨X0 hg hm hv rfl hn hd⟩
theorem aR {i:Nat} {x:Str} (hN:X.N.Nodup) (hi:X.N[i]?=some x:=by rfl) (hx:Loc X.env.scope x:=by first|exact Or.inl rfl|exact Or.inr rfl) (hf:X.fn x=true\/X.env.scope.names.lookup x=some .local:=by first|exact .inl rfl|exact .inr rfl|assumption):bG X (.Name x pos) (gc i):=by
 constructor
 intro pins s σ H v u Q I r h
 exact wpAny_assign_Name (ug I hN hi hx r (fun s' I'=>⟨_,H,I',h⟩) hf)
theorem CN {c:Expr} {body:List Stmt} {tc:TT} {tb:TS} (hp:PassesOwn (model X.prog X.w) X.A X.env X.xe) (hc:bT X c tc) (hb:cI X body tb):bS X (.While c body [] pos) (ZS tc tb):=by
 have hc:=hc.h;have hb:=hb.h;constructor
 intro pins s σ H D I h
 obtain ⟨W,⟨m0,w0⟩,turn⟩:=h
 refine wpAny_While (codeAny_whileLoop (fun n s'=>∃σ' H',Inv X pins σ' H' s'/\W n σ' H') ?_ m0 ⟨σ,H,I,w0⟩)
 rintro n s1 ⟨σ1,H1,I1,w1⟩
 refine xT hp (bq (hc pins s1 σ1 H1 _ I1 (turn n σ1 H1 w1)) fun b s2 ⟨H2,I2,q2⟩=>?_)
 cases b with
 | true=>
   obtain ⟨N,hN,q2⟩:=q2
   rw [aB rfl]
   refine xT hp (bq (hb pins s2 σ1 H2 _ I2 q2) fun f s3 q3=>?_)
   cases f with
   | next=>
     obtain ⟨σ3,H3,I3,n3⟩:=q3
     obtain ⟨m',hm,w3⟩:=hN σ3 H3 n3
     exact ⟨m',hm,σ3,H3,I3,w3⟩
   | cont=>
     obtain ⟨σ3,H3,I3,n3⟩:=q3
     obtain ⟨m',hm,w3⟩:=hN σ3 H3 n3
     exact ⟨m',hm,σ3,H3,I3,w3⟩
   | brk=>exact q3
   | ret v=>exact q3
 | false=>
   rw [az fJ]
   exact xU ⟨σ1,H2,I2,q2⟩
theorem Bh {tg:Expr} {ob:Expr} {td:TE} {apos cpos:Pos} (hob:bE X ob td) (hbase:attributeBase ob "values" X.env (eval ob X.env)=eval ob X.env:=by rfl) (hline:(apos.endLine==cpos.line)=true:=by rfl):bI X tg (.Call (.Attribute ob "values" apos) [] [] cpos) (adG td):=by
 have hob:=hob.h;constructor
 intro pins s σ H R I h
 refine wpAny_Call_method0_late hbase hline (bq (hob pins s σ H _ I h) fun v s1 ⟨x,H1,I1,r1,q1⟩=>?_)
 obtain ⟨d,o,kvs,rfl,e,fin⟩:=q1
 cases r1
 obtain ⟨ho,hz,hsys,vs,ep,rel,da⟩:=I1.rC e
 obtain ⟨t1,t2,_⟩:=Kw I1 (.inl ⟨kvs, .inr ⟨o,e⟩⟩)
 have dd:=da.dictOf
 refine ⟨"dict",_,F.plainAttrs_dict,Qs,F.type_dict_values,t1,t2,Qh rfl (PySem.evalArgs_none ?_)⟩
 refine call_meetsIn Qs dd.typeIs F.entry_dict_values (F.args_dict_values_1 _) (meets_dict_values (c6 X.prog X.w) d hsys) ⟨⟨vs,dd⟩,?_⟩
 refine wpAny_pyIter_values (s:={ s1 with heap:=s1.heap.push { cls:= .type "dict_values",data:= .fields #[.ref d] } }) ⟨_,dY _ rfl,Z,Z⟩ (da.push _) ?_
 have Iv:Inv X pins σ H1 { s1 with heap:=s1.heap.push { cls:= .type "dict_values",data:= .fields #[.ref d] } }:=I1.kept (t':=s1.toks) fun b o e=>cA _ e
 generalize ({ s1 with heap:=s1.heap.push { cls:= .type "dict_values",data:= .fields #[.ref d] } }:Shared)=sv at *
 have I2:Inv X pins σ H1 { sv with heap:=sv.heap.push { cls:= .type "dict_valueiterator",data:= .fields #[.ref d, .int 0 0, .int vs.length 0, .int ep 0] } }:=Iv.kept (t':=sv.toks) fun b o e=>cA _ e
 have hl:kvs.length=vs.length:=rel.length
 obtain ⟨o',es,h1,_,h2,_⟩:=id da
 rw [ho] at h1;cases h1
 refine ⟨sv.heap.objs.size,[sv.heap.objs.size],_,_,H1,Z,I2,S4 h2,?_,fun b hb=>?_,fin⟩
 . rw [hl];exact ⟨_,dY _ rfl,Z,Z⟩
 . have eb:b=sv.heap.objs.size:=by simpa using hb
   subst eb
   exact Iv.FL (aP _) (Iv.hok.fresh (aP _))
theorem tY {id:String} (pa:PlainAttrs T) (slot:Slot T name id) (hty:typeOf (.builtin id)=pure (.type "method_descriptor")) (hm:MtR X id r) (ho:bE X o to) (ha:bA X (e::es) t) (hbase:attributeBase o name X.env (eval o X.env)=eval o X.env:=by rfl) (hfew:((backTo cpos (starEach (e::es) X.env)).all (fun x=>!x.1) && (backToKw cpos (keywordEach [] X.env)).all (fun x=>x.1.isSome)
   && decide ((e::es).length+([] :List Keyword).length+(if ([] :List Keyword).isEmpty then 0 else 1)<30))=true:=by rfl) (hline:(apos.endLine==cpos.line)=true:=by rfl) (hs:starEach (e::es) X.env=(false,eval e X.env)::starEach es X.env:=by rfl) (hplain:(backTo cpos (starEach es X.env)).any (·.1)=false:=by rfl):bE X (.Call (.Attribute o name apos) (e::es) [] cpos) (tBM X.K T r to t):=by
 have ho:=ho.h;have ha:=ha.h;constructor
 intro pins s σ H Q I h
 refine wpAny_Call_method_late hbase hfew hline rfl (bq (ho pins s σ H _ I h) fun v s1 ⟨x,H1,I1,r1,ty,q1⟩=>?_)
 obtain ⟨h1,h2⟩:=aan I1 r1 ty
 refine ⟨T,id,pa,slot,hty,h1,h2,?_⟩
 have hA:=ha cpos pins s1 σ H1 _ I1 q1
 rw [hs] at hA ⊢
 refine Qh (by show (false || (backTo cpos (starEach es X.env)).any (·.1))=false;rw [hplain] <;> rfl) (Calls.evalArgs_plain ?_)
 exact bq hA fun us s2 ⟨vs,H2,I2,r2,q2⟩=>hm pins s2 σ H2 x vs v us Q I2 r1 r2 q2
theorem Zc {X:Cx} {pos:Pos}:Xw X pos [] [] [] :=by
 exact ⟨fun pins s σ H Q I h=>pairTrees_nil_walk ⟨[],H,I, .nil,h⟩⟩
theorem LB {X:Cx} {e:Expr} {t:TE} (h:bE X e t):bE X e (ag6 t):=by
 have h:=h.h;constructor
 intro pins s σ H Q I hw
 obtain ⟨d,kvs,e,hw⟩:=hw
 obtain ⟨ho,es,ep,h1,_⟩:=(DO I.hok e).2.2.choose_spec.2
 have h0:=I.S3 e
 exact bq (h pins s σ _ _ (I.freeze e h1) (hw ho)) fun u s' ⟨v,H',I',r,q1,q2⟩=>⟨v,_,I'.Cz q1 h0,r,q2⟩
theorem Wx {op op':CmpOp} {r r':R2} (ho:ig X (compareOp op) r) (ho':ig X (compareOp op') r') (ha:bE X a ta) (hb:bE X b tb) (hc:bE X c tc) (hm:lastMarks [op,op'] [b,c]=false:=by with_unfolding_all rfl):bE X (.Compare a [op,op'] [b,c] pos) (Z0 r r' ta tb tc):=by
 have ha:=ha.h;have hb:=hb.h;have hc:=hc.h;constructor
 intro pins s σ H Q I h
 refine Compare_chain (bq (ha pins s σ H _ I h) fun v s1 ⟨x,H1,I1,r1,q1⟩=>chain_link (bq (hb pins s1 σ H1 _ I1 q1) fun u s2 ⟨y,H2,I2,r2,q2⟩=>
  bq (ho pins s2 σ H2 x y v u _ I2 r1 r2 q2) fun d s3 ⟨z,H3,I3,r3,k,e,q3⟩=>?_)) hm
 subst e
 cases r3
 refine zx ?_
 cases k with
 | false=>exact ite_ff ⟨.bl false,H3,I3,Z,q3⟩
 | true=>exact ite_tt (chain_last (bq (hc pins s3 σ H3 _ I3 q3) fun w' s4 ⟨z',H4,I4,r4,q4⟩=>ho' pins s4 σ H4 y z' u w' Q I4 r2 r4 q4))
theorem g_ {x1} (h:bA X es t):bE X (.Tuple es x1 pos) (agP t):=by
 have h:=h.h;constructor
 intro pins s σ H Q I hq
 refine wpAny_Tuple_spliced (bq (h pos pins s σ H _ I hq) fun us s1 ⟨xs,H1,I1,r,z,q⟩=>⟨by rw [<-r.length];exact z,?_⟩)
 have hf:H1 s1.heap.objs.size=none:=I1.hok.fresh (aP _)
 refine ⟨.ref s1.heap.objs.size,upd H1 s1.heap.objs.size (.tup xs),I1.laid (t':=s1.toks) (fun b u e=>cA _ e) (aP _) ?_,Z,q _ hf⟩
 exact ⟨z,us,r,⟨_,dY _ rfl,Z,_,Z⟩⟩
theorem CO {tg iter elt cond:Expr} {scope:Scope} {pos:Pos} (N2:List Str) (ix:List (Option Nat)) {wi:TI} {g:TG} {tc:TT} {te:TE} (hc:X.calm=true) (hi:bI X tg iter wi) (hg:∀cl s₂ H₂ fp,bG (cY X N2 scope cl s₂ H₂ fp) tg g) (he:∀cl s₂ H₂ fp,bE (cY X N2 scope cl s₂ H₂ fp) elt te) (ht:∀cl s₂ H₂ fp,bT (cY X N2 scope cl s₂ H₂ fp) cond tc) (hk:scope.kind = .function) (hn:nj X.N X.env.scope.names scope.names N2 ix=true) (hs:∀x,foldedSetIterable iter X.env x=pure x:=by intro _;rfl):bE X (.ListComp elt [⟨tg,iter,[cond],0⟩] scope pos) (D7 wi ix g tc te):=⟨VU N2 ix hc hi.h (fun cl s₂ H₂ fp=>(hg cl s₂ H₂ fp).h) (fun cl s₂ H₂ fp=>(he cl s₂ H₂ fp).h) (fun cl s₂ H₂ fp=>(ht cl s₂ H₂ fp).h) hk hn hs⟩
theorem aD {op:Operator} {r:R2} (ho:ig X (binaryOp op) r) (ha:bE X a ta) (hb:bE X b tb):bE X (.BinOp a op b pos) (DF r ta tb):=by
 have ha:=ha.h;have hb:=hb.h;constructor
 intro pins s σ H Q I h
 exact wpAny_BinOp (Vk ha hb I h fun v u s2 x y H2 I2 rx ry q=>ho pins s2 σ H2 x y v u Q I2 rx ry q)
theorem xy {op:CmpOp} {t:TE} (h:bC X op a b t) (h1:behindInMarks op b=false:=by first|exact Kf _ (by decide) (by decide)|rfl):bT X (.Compare a [op] [b] pos) (tB t):=by
 have h:=h.h;constructor
 intro pins s σ H Q I hw
 refine wpAny_isTrue_Compare1 (bq (h pins s σ H _ I hw) fun v s1 h1=>bq h1 fun u s2 h2=>bq h2 fun c s3 ⟨x,H1,I1,r1,q1⟩=>?_) h1
 obtain ⟨d,rfl,q⟩:=q1
 cases r1
 exact zx ⟨H1,I1,q⟩
theorem dS {tg:Expr} {iter:Expr} {body:List Stmt} {wi:TI} {g:TG} {tb:TS} {pos:Pos} (hp:PassesOwn (model X.prog X.w) X.A X.env X.xe) (hc:X.calm=true) (hi:bI X tg iter wi) (hg:bG X tg g) (hb:cI X body tb) (hs:∀x,foldedSetIterable iter X.env x=pure x:=by intro _;rfl):bS X (.For tg iter body [] pos) (agK wi g tb):=by
 have hi:=hi.h;have hg:=hg.h;have hb:=hb.h;constructor
 intro pins s σ H D I h
 refine wpAny_For (bq (hi pins s σ H _ I h) fun v s1 h1=>bq h1 fun itv s2 h2=>?_) hs
 obtain ⟨it,fp,tn,J,H2,e,I2,T,st2,f2,W,⟨m0,w0⟩,turn⟩:=h2
 subst e
 have uq:∀{H':Hp},(∀b∈fp,H' b=none)->∀b∈fp,pe X pins H' b:=fun hn b hb=>⟨hn b hb,(f2 b hb).2⟩
 refine codeAny_forLoop_any (fun n s'=>∃i σ' H',Inv X pins σ' H' s'/\tn i s'.heap/\(∀b∈fp,H' b=none)/\W i n σ' H') ?_ m0 ⟨0,σ,H2,I2,st2,fun b hb=>(f2 b hb).1,w0⟩
 rintro n s3 ⟨i,σ3,H3,I3,st3,fr3,w3⟩
 rcases turn i n σ3 H3 w3 with ⟨stop,qn⟩|⟨go,N,hN,step⟩
 . refine xT hp (bq (T.done X rfl rfl rfl hc i pins s3 σ3 H3 X.xe I3 (uq fr3) st3 stop) fun r s4 ⟨hr,I4⟩=>?_)
   subst hr
   exact xU ⟨σ3,H3,I4,qn⟩
 . refine xT hp (bq (T.item X rfl rfl rfl hc i pins s3 σ3 H3 X.xe I3 (uq fr3) st3 go) fun r s4 ⟨u,hr,h4⟩=>?_)
   subst hr
   refine xT hp (bq h4 fun _ s5 ⟨x,H5,I5,r5,y5,zP,KH⟩=>?_)
   have I5':=I5.pinned (uq KH) (T.obj _ _ zP)
   refine xT hp (bq (hg _ s5 σ3 H5 x u _ I5' r5 (step x H5 y5)) fun _ s6 ⟨σ6,H6,I6,q6⟩=>?_)
   refine xT hp (bq (hb _ s6 σ6 H6 _ I6 q6) fun f s7 q7=>?_)
   have again:∀{σ7:St} {H7:Hp},Inv X (pins++DE fp s5.heap) σ7 H7 s7->N σ7 H7->∃m,m<n/\∃i σ' H',Inv X pins σ' H' s7/\tn i s7.heap/\(∀b∈fp,H' b=none)/\W i m σ' H':=fun {σ7 H7} I7 n7=>by
    obtain ⟨m',hm,w7⟩:=hN σ7 H7 n7
    refine ⟨m',hm,i+1,σ7,H7,I7.qA,T.keep _ _ _ zP fun b hb o e=>(I7.pin (b,o) (jE _ (jE _ (jm hb e)))).1,fun b hb=>?_,w7⟩
    obtain ⟨o,e,d⟩:=T.obj _ _ zP b hb
    exact (I7.pin (b,o) (jE _ (jE _ (jm hb e)))).2.1
   cases f with
   | next=>obtain ⟨σ7,H7,I7,n7⟩:=q7;exact again I7 n7
   | cont=>obtain ⟨σ7,H7,I7,n7⟩:=q7;exact again I7 n7
   | brk=>obtain ⟨σ7,H7,I7,q7⟩:=q7;exact ⟨σ7,H7,I7.qA,q7⟩
   | ret v=>obtain ⟨x7,σ7,H7,I7,r7,q7⟩:=q7;exact ⟨x7,σ7,H7,I7.qA,r7,q7⟩
theorem nY {lo:Option Expr} {hi:Option Expr} {r:V->Option Int->Option Int->Hp->VK->Prop} (hr:So X r) (he:bE X e te) (hl:bO X lo tl) (hu:bO X hi th):bE X (.Subscript e (.Slice lo hi none p2) pos) (tSl r te tl th):=by
 have he:=he.h;have hl:=hl.h;have hu:=hu.h;constructor
 intro pins s σ H Q I h
 refine Subscript_ (bq (he pins s σ H _ I h) fun v s1 ⟨x,H1,I1,r1,q1⟩=>?_)
 refine wpAny_Slice (bq (hl pins s1 σ H1 _ I1 q1) fun vl s2 ⟨l,H2,I2,pl,q2⟩=>bq (hu pins s2 σ H2 _ I2 q2) fun vu s3 ⟨u,H3,I3,pu,q3⟩=>?_)
 rw [evalPart_none]
 refine aL ?_
 have I4:Inv X pins σ H3 { s3 with heap:=s3.heap.push { cls:= .type "slice",data:= .fields #[vl,vu, .none] } }:=I3.kept (t':=s3.toks) fun b ob q=>cA _ q
 obtain ⟨T,id,hT,ht,hg⟩:=hr pins { s3 with heap:=s3.heap.push { cls:= .type "slice",data:= .fields #[vl,vu, .none] } } σ H3 x v vl vu l u s3.heap.objs.size Q I4 r1 (Heap.IsSliceOf.new ..) pl pu q3
 show wpAny (model X.prog X.w) X.A (subscriptTail e (.Slice lo hi none p2) v (.ref s3.heap.objs.size)) (EP X pins σ Q) X.xe { s3 with heap:=s3.heap.push { cls:= .type "slice",data:= .fields #[vl,vu, .none] } }
 exact tail_any (ops:=[.ref s3.heap.objs.size,v]) ht hT hg (by with_unfolding_all rfl)
theorem gr {tg iter elt:Expr} {scope:Scope} {pos:Pos} (N2:List Str) (ix:List (Option Nat)) {wi:TI} {g:TG} {te:TE} (hc:X.calm=true) (hi:bI X tg iter wi) (hg:∀cl s₂ H₂ fp,bG (cY X N2 scope cl s₂ H₂ fp) tg g) (he:∀cl s₂ H₂ fp,bE (cY X N2 scope cl s₂ H₂ fp) elt te) (hk:scope.kind = .function) (hn:nj X.N X.env.scope.names scope.names N2 ix=true) (hs:∀x,foldedSetIterable iter X.env x=pure x:=by intro _;rfl):bE X (.ListComp elt [⟨tg,iter,[],0⟩] scope pos) (W7 wi ix g te):=by
 have hi:=hi.h;have hg:=fun cl s₂ H₂ fp=>(hg cl s₂ H₂ fp).h;have he:=fun cl s₂ H₂ fp=>(he cl s₂ H₂ fp).h;constructor
 intro pins s σ H Q I h
 obtain ⟨k1,k2,k3,k4,k5⟩:=mJ hn
 obtain ⟨cl,KO,c1,c2⟩:=tV (scope:=scope) (env:=X.env) fun y hy e=>I.ok.has y.1 (k3 y hy e)
 rw [eval_ListComp]
 refine Qd (use:=none) rfl hs KO hk k4 (bq (hi pins s σ H _ I h) fun v s1 h1=>bq h1 fun itv s2 h2=>?_)
 obtain ⟨it,fp,tn,J,H2,e,I2,T,st2,f2,h2⟩:=h2
 subst e
 refine DW (RR:=fun acc C=>compPost (model X.prog X.w) X.A X.xe none (EP X pins σ Q) acc C) (Q:=Q) hc hg he hk hn (fun y c m=>(c1 y c m).1) c2 I2 T st2 f2 h2 ?_
 intro acc C H' s' m I' ns zO hL hsz pI yc q
 exact ⟨m,ns,fun h' hs'=>⟨.ref acc,H',I'.turned (it:=C) (t':=s'.toks) (fun b o hb e=>(hs'.2 b hb).trans e) zO hL (.inr hsz) pI yc,Z,q⟩⟩
theorem LC (hu:X.A.units+1<cLine) (hi:bE X i ty) (ho:bE X o td):bC X .In i o (agX ty td):=by
 have hi:=hi.h;have ho:=ho.h;constructor
 intro pins s σ H Q I h
 refine bq (hi pins s σ H _ I h) fun iv s1 ⟨y,H1,I1,ry,q1⟩=>bq (ho pins s1 σ H1 _ I1 q1) fun u s2 ⟨x,H2,I2,rx,a,ov,ex,g,q2⟩=>?_
 subst ex
 obtain rfl:u=Value.ref a:=rx
 exact agW hu I2 g ry fun s3 I3=>⟨.bl ov.isSome,H2,I3,Z,q2⟩
theorem abI (ha:bE X a ta):bE X (.UnaryOp .Not a pos) (ac9 ta):=by
 have ha:=ha.h;constructor
 intro pins s σ H Q I h
 refine UnaryOp_ (bq (ha pins s σ H _ I h) fun v s1 ⟨x,H1,I1,r1,q1⟩=>?_)
 obtain ⟨c,rfl,q1⟩:=q1
 cases r1
 exact not_of (zx ⟨.bl (!c),H1,I1,Z,q1⟩)
theorem aW {x j pos}:bE X (.Constant (.str x) j pos) (tC (.str x)):=⟨R6⟩
theorem Ez {op:UnaryOp} {r:V->Hp->VK->Prop} (ho:ZV X (unaryOp op) r) (ha:bE X a ta):bE X (.UnaryOp op a pos) (tUn r ta):=by
 have ha:=ha.h;constructor
 intro pins s σ H Q I h
 exact UnaryOp_ (bq (ha pins s σ H _ I h) fun v s1 ⟨x,H1,I1,r1,q1⟩=>ho pins s1 σ H1 x v Q I1 r1 q1)
theorem ua (K:Fg) {a b:Expr} {ta:TA} {p pos:Pos} (hg:Gl X "zip") (hm:X.mg "zip"=none) (ha:bA X [a,b] ta) (hK:X.K=K:=by rfl) (hs:starEach [a,b] X.env=[(false,eval a X.env),(false,eval b X.env)] :=by rfl) (hs2:starEach [b] X.env=[(false,eval b X.env)] :=by rfl):bI X (.Tuple elts kk tpos) (.Call (.Name "zip" p) [a,b] [] pos) (adI K ta):=by
 have ha:=ha.h;constructor
 subst hK
 intro pins s σ H R I h
 refine Call_ (wX I hg hm boot_zip (WM (bq (ha pos pins s σ H _ I h) fun us s1 ⟨vs,H1,I1,r1,q1⟩=>?_) (by rw [hs,hs2]) (by rw [hs2];rfl)))
 obtain ⟨u1,u2,S1,S2,xs,ys,e,k1,k2,q⟩:=q1
 subst e
 obtain ⟨u,w',rfl,ru,rw'⟩:=vals2 r1
 obtain ⟨g1,l1,o1,p1,lt1,b1,aj9,at1,st1,c1⟩:=k1.ok I1 ru
 obtain ⟨g2,l2,o2,p2,lt2,b2,ad_,at2,st2,c2⟩:=k2.ok I1 rw'
 refine callType_newIn F.called_zip (by decide) (F.typeCall_zip_2 _ _) (F.newCall_zip_2 _ _) (fun obj=>F.args_object_init_3 obj _ _) F.entry_zip_new (Q2 st1 st2) ⟨b1,ad_ _ _ b2,?_⟩
 have z1:(s1.heap.push o1).objs.size=s1.heap.objs.size+1:=mF ..
 have z2:((s1.heap.push o1).push o2).objs.size=s1.heap.objs.size+2:=by rw [mF,z1]
 generalize e3:({ cls:= .type "tuple",data:= .seq #[.ref s1.heap.objs.size, .ref (s1.heap.push o1).objs.size] }:Obj)=o3
 have z3:(((s1.heap.push o1).push o2).push o3).objs.size=s1.heap.objs.size+3:=by rw [mF,z2]
 generalize e4:({ cls:= .type "tuple",data:= .seq #[.none, .none] }:Obj)=o4
 have z4:((((s1.heap.push o1).push o2).push o3).push o4).objs.size=s1.heap.objs.size+4:=by rw [mF,z3]
 generalize e5:({ cls:= .type "zip",data:= .fields #[.none, .bool false, .bool false, .ref ((s1.heap.push o1).push o2).objs.size, .ref (((s1.heap.push o1).push o2).push o3).objs.size] }:Obj)=o5
 have g5:(((((s1.heap.push o1).push o2).push o3).push o4).push o5).get? ((((s1.heap.push o1).push o2).push o3).push o4).objs.size=some o5:=dY _ (by rw [<-e5];rfl)
 have g4:(((((s1.heap.push o1).push o2).push o3).push o4).push o5).get? (((s1.heap.push o1).push o2).push o3).objs.size=some o4:=cA _ (dY _ (by rw [<-e4];rfl))
 have g3:(((((s1.heap.push o1).push o2).push o3).push o4).push o5).get? ((s1.heap.push o1).push o2).objs.size=some o3:=cA _ (cA _ (dY _ (by rw [<-e3];rfl)))
 have g2':(((((s1.heap.push o1).push o2).push o3).push o4).push o5).get? (s1.heap.push o1).objs.size=some o2:=cA _ (cA _ (cA _ (at2 _)))
 have g1':(((((s1.heap.push o1).push o2).push o3).push o4).push o5).get? s1.heap.objs.size=some o1:=cA _ (cA _ (cA _ (cA _ (at1 _))))
 have kp:∀c o,s1.heap.get? c=some o->(((((s1.heap.push o1).push o2).push o3).push o4).push o5).get? c=some o:=fun c o x=>cA _ (cA _ (cA _ (cA _ (cA _ x))))
 rw [z4] at g5 ⊢
 rw [z3] at g4 e5
 rw [z2] at g3 e5
 rw [z1] at g2' e3
 generalize (((((s1.heap.push o1).push o2).push o3).push o4).push o5)=hN at *
 show _/\_
 subst e3 e4 e5
 refine ⟨⟨_,g5,Z⟩,wpAny_pyIter_zip (s:={ s1 with heap:=hN }) g5 ?_⟩
 have I2:Inv X pins σ H1 { s1 with heap:=hN }:=I1.kept (t':=s1.toks) kp
 obtain ⟨t1,aka,C1,n1⟩:=c1 s1.heap.objs.size
 obtain ⟨t2,akb,C2,n2⟩:=c2 (s1.heap.objs.size+1)
 refine ⟨s1.heap.objs.size+4,[s1.heap.objs.size+4,s1.heap.objs.size+2,s1.heap.objs.size+3,s1.heap.objs.size,s1.heap.objs.size+1],_,_,H1,Z,I2,Tc (Np lt1 lt2) C1 C2,⟨g5,g3,⟨_,_,g4⟩,n1 _ g1',n2 _ g2'⟩,fun b hb=>?_,q⟩
 have hb':b=s1.heap.objs.size+4\/b=s1.heap.objs.size+2\/b=s1.heap.objs.size+3\/b=s1.heap.objs.size\/b=s1.heap.objs.size+1:=by simpa using hb
 have le:s1.heap.objs.size<=b:=by
  rcases hb' with r|r|r|r|r
  . rw [r];exact Dq _ _
  . rw [r];exact Dq _ _
  . rw [r];exact Dq _ _
  . rw [r];exact aP _
  . rw [r];exact Dq _ _
 exact I1.FL le (I1.hok.fresh le)
theorem aT {op:CmpOp} {r:R2} (ho:ig X (compareOp op) r) (ha:bE X a ta) (hb:bE X b tb) (hm:behindInMarks op b=false):bT X (.Compare a [op] [b] pos) (QC (DF r ta tb)):=by
 have ha:=ha.h;have hb:=hb.h;constructor
 intro pins s σ H Q I h
 refine wpAny_isTrue_Compare1 (bq (ha pins s σ H _ I h) fun v s1 ⟨x,H1,I1,r1,q1⟩=>bq (hb pins s1 σ H1 _ I1 q1) fun u s2 ⟨y,H2,I2,r2,q2⟩=>
  bq (ho pins s2 σ H2 x y v u _ I2 r1 r2 q2) fun c s3 ⟨z,H3,I3,r3,k,e,q3⟩=>?_) hm
 subst e
 cases r3
 exact zx ⟨H3,I3,q3⟩
theorem aO {i:Nat} {x:Str} {e:Expr} {te:TE} {pos':Pos} (hN:X.N.Nodup) (he:bE X e te) (hi:X.N[i]?=some x:=by rfl) (hx:Loc X.env.scope x:=by first|exact Or.inl rfl|exact Or.inr rfl) (hs:swapsWith e (some (.Name x pos')) pos.line X.env=pure false:=by rfl) (hf:X.fn x=true\/X.env.scope.names.lookup x=some .local:=by first|exact .inl rfl|exact .inr rfl|assumption):bS X (.Assign [.Name x pos'] e pos) (zz te (gc i)):=by
 have he:=he.h;constructor
 intro pins s σ H D I h
 refine wpAny_Assign_Name (bq (he pins s σ H _ I h) fun v s1 ⟨y,H1,I1,r1,q1⟩=>?_) hs
 exact ug I1 hN hi hx r1 (fun s2 I2=>⟨_,H1,I2,q1⟩) hf
theorem Zd {X:Cx} {pos:Pos} {keys:List (Option Expr)} {values:List Expr} {DP:List (TE×TE)} (h:Xw X pos keys values DP) (hall:keys.all (·.isSome)=true) (hl:keys.length=values.length) (h0:keys≠[]) (h15:keys.length<=15):bE X (.Dict keys values pos) (ady DP):=by
 have h:=h.h;constructor
 intro pins s σ H Q I q
 have hn:=I.hok.fresh (aP s.heap.objs.size)
 have I1:=I.laid (a:=s.heap.objs.size) (o:= .dK []) (h':=s.heap.push { cls:= .type "dict",data:= .dict #[] }) (t':=s.toks) (fun _ _ q=>cA _ q) (aP _) (Kv s.heap I.big)
 refine wpAny_Dict_walk (knd:=c6 X.prog X.w) hall hl h0 h15 (bq (h pins _ σ _ _ I1 (q _ hn)) fun ws s2 ⟨ps,H2,I2,rel,e,kvs,ep,lk,q2⟩=>?_)
 subst ep
 obtain ⟨rs,c,rk⟩:=DQ (P:=X.prog) (w:=X.w) rel
 obtain ⟨z,hd,vs0,r0,dd⟩:=DO I2.hok e
 cases r0
 refine ⟨rs,c,dd,fun h' BN hs=>⟨.ref s.heap.objs.size,_,?_,Z,q2⟩⟩
 have hz:(w6 [] kvs).length<=sizeLine:=by
  have h1:=yU kvs []
  rw [List.length_nil] at h1
  rw [fu];omega
 have he:∃q,h'.get? s.heap.objs.size=some q:=let ⟨q,_,_,hq,_⟩:=BN;⟨q,hq⟩
 exact AY I2 (by rw [e];exact True.intro) hs he (Ku hz hd (rk.merge .nil) BN)
theorem dH (K:Fg) {tg l:Expr} {tl:TE} (hl:bE X l tl) (hK:X.K=K:=by rfl):bI X tg l (WV K tl):=by
 have hl:=hl.h;exact ⟨hK▸X5 hl⟩
theorem fC {X:Cx} {e:Expr} {t:TT} (h:bT X e t):bT X e (fun σ H Q=>∃b:Bool,t σ H (fun b' H'=>b'=b/\H'=H)/\Q b H):=by
 have h:=h.h;constructor
 intro pins s σ H Q I hw
 obtain ⟨b,hb,q⟩:=hw
 refine bq (h pins s σ H _ I hb) fun b' s' ⟨H',I',e1,e2⟩=>?_
 subst e1 e2
 exact ⟨_,I',q⟩
theorem au {st:Stmt} (h1:bS X st t):cI X [st] t:=by
 have h1:=h1.h;constructor
 intro pins s σ H D I h
 refine wpAny_execs_cons (bq (h1 pins s σ H D I h) fun f s1 q=>?_)
 cases f with
 | next=>exact xU q
 | ret v=>exact q
 | brk=>exact q
 | cont=>exact q
theorem Ze (ho:bE X o td) (hi:bE X i ty):bS X (.Delete [.Subscript o i tpos] pos) (adx td ty):=by
 have ho:=ho.h;have hi:=hi.h;constructor
 intro pins s σ H D I h
 refine wpAny_Delete (wpAny_deleteEach_cons (wpAny_delete_Subscript (bq (ho pins s σ H _ I h) fun u s1 ⟨x,H1,I1,rx,q1⟩=>bq (hi pins s1 σ H1 _ I1 q1) fun iv s2 ⟨y,H2,I2,ry,a,kvs,k,ex,e,ey,l,q2⟩=>?_)))
 subst ex ey
 obtain rfl:u=Value.ref a:=rx
 exact Sy I2 e ry l fun s3 I3=>wpAny_deleteEach_nil ⟨σ,_,I3,q2⟩
theorem dJ (ha:bT X a tA):bT X (.UnaryOp .Not a pos) (agF tA):=by
 have ha:=ha.h;constructor
 intro pins s σ H Q I h
 exact isTrue_not (ha pins s σ H (fun c H1=>Q (!c) H1) I h)
theorem cW (he:bE X e te) (hs:swapsWith e none pos.line X.env=pure false:=by rfl):bS X (.Expr e pos) (ada te):=by
 have he:=he.h;constructor
 intro pins s σ H D I h
 exact wpAny_Expr_any (bq (he pins s σ H _ I h) fun v s1 ⟨x,H1,I1,r1,q1⟩=>⟨σ,H1,I1,q1⟩) I.quiet hs
theorem gF {pl:Sem Bool} {j k:Nat} {C:Addr} {m:Str} {ps:List Str} {sp:Sp} {o e:Expr} {es:List Expr} {ta:TE} {t:TA} {apos pos:Pos} (D:Mn X.prog X.w X.K X.mg X.base j C m ps sp) (hr:dD k X.A) (ho:bE X o ta) (ha:bA X (e::es) t) (hj:j<=k:=by decide) (hst:starEach (e::es) X.env=(false,eval e X.env)::starEach es X.env:=by rfl) (hpl:(backTo pos (starEach es X.env)).any (·.1)=false:=by rfl) (ht:eval (.Call (.Attribute o m apos) (e::es) [] pos) X.env=(do
   let ov <-eval o X.env
   standAt apos.atName
   let (f,first) <-holding [ov] (getMethod ov m pl)
   callWith pos f first (backTo pos (starEach (e::es) X.env)) (backToKw pos (keywordEach [] X.env))):=by rfl):bE X (.Call (.Attribute o m apos) (e::es) [] pos) (DL C m sp [] E0 ta t):=by
 have ho:=ho.h;have ha:=ha.h;constructor
 obtain ⟨f,fd,F,b,hm,c⟩:=D.ex
 exact OL (pl:=pl) ho c hm F (hr.mono hj) b .nil (fun _ _ _ _ _ _ _ h=>h.elim) ha hst hpl ht
theorem cT {e:Expr} {es:List Expr} {t:TG} {u:DA} (h1:bG X e t) (h2:Xv X es u) (hs:(assignEach (e::es) X.env).map (·.2)=assign e X.env::(assignEach es X.env).map (·.2):=by rfl):Xv X (e::es) (WU t u):=by
 have h1:=h1.h;have h2:=h2.h;constructor
 intro pins s σ H vs us Q I r h
 obtain ⟨v,vr,e1,h⟩:=h
 subst e1
 cases r with
 | cons r rr=>
   rw [hs]
   refine assignInOrder_cons (bq (h1 pins s σ H _ _ _ I r h) fun _ s1 ⟨σ1,H1,I1,q1⟩=>?_)
   exact h2 pins s1 σ1 H1 _ _ Q I1 rr q1
theorem uc {i:Nat} {x:Str} {px pos':Pos} {tg iter elt:Expr} {scope:Scope} {pos:Pos} (N2:List Str) (ix:List (Option Nat)) {wi:TI} {g:TG} {te:TE} (hN:X.N.Nodup) (hi:X.N[i]?=some x) (hx:X.env.scope.names.lookup x=some .local) (hc:X.calm=true) (hit:bI X tg iter wi) (hg:∀cl s₂ H₂ fp,bG (cY X N2 scope cl s₂ H₂ fp) tg g) (he:∀cl s₂ H₂ fp,bE (cY X N2 scope cl s₂ H₂ fp) elt te) (hk:scope.kind = .function) (hn:nj X.N X.env.scope.names scope.names N2 ix=true) (hw:swapsWith (.ListComp elt [⟨tg,iter,[],0⟩] scope pos) (some (.Name x px)) pos'.line X.env=pure true) (hs:∀x,foldedSetIterable iter X.env x=pure x:=by intro _;rfl):bS X (.Assign [.Name x px] (.ListComp elt [⟨tg,iter,[],0⟩] scope pos) pos') (zz (W7 wi ix g te) (gc i)):=by
 have hit:=hit.h;have hg:=fun cl s₂ H₂ fp=>(hg cl s₂ H₂ fp).h;have he:=fun cl s₂ H₂ fp=>(he cl s₂ H₂ fp).h;constructor
 intro pins s σ H D I h
 obtain ⟨k1,k2,k3,k4,k5⟩:=mJ hn
 obtain ⟨cl,KO,c1,c2⟩:=tV (scope:=scope) (env:=X.env) fun y hy e=>I.ok.has y.1 (k3 y hy e)
 rw [exec_Assign_Name_used _ _ _ _ hw]
 refine aq (AM (aq ?_))
 show wpAny _ X.A (do let _ <-comprehension (.ListComp elt [⟨tg,iter,[],0⟩] scope pos) scope X.env _ (newList []) false (eval iter X.env) (some (assign (.Name x px) X.env))) _ _ s
 refine aq (bq (Qd (use:=some (assign (.Name x px) X.env)) (Q:=fun _ s'=>SP X pins D .next s') rfl hs KO hk k4 (bq (hit pins s σ H _ I h) fun v s1 h1=>bq h1 fun itv s2 h2=>?_)) fun _ s' hq=>aL (aL hq))
 obtain ⟨it,fp,tn,J,H2,e,I2,T,st2,f2,h2⟩:=h2
 subst e
 refine DW (RR:=fun acc C=>compPost (model X.prog X.w) X.A X.xe (some (assign (.Name x px) X.env)) (fun _ s'=>SP X pins D .next s') acc C) (Q:=fun v H'=>D.nx (σ.set i (some v)) H') hc hg he hk hn (fun y c m=>(c1 y c m).1) c2 I2 T st2 f2 h2 ?_
 intro acc C H' s' m I' ns zO hL hsz pI yc q
 show wpAny _ X.A (assign (.Name x px) X.env (.ref acc)) _ _ _
 refine wpAny_assign_Name (zy I' hN hi (.inl hx) (v:= .ref acc) rfl (fun s3 I3 ⟨a,sb,ha⟩=>?_) (.inr hx))
 have ca:C≠a:=by
  rcases ha with z|z
  . rw [z];exact hL
  . exact fun e=>pI x a z e.symm
 exact ⟨m,ns.sameBut sb ca,fun h' hs'=>⟨_,H',I3.turned (it:=C) (t':=s3.toks) (fun b o hb e=>(hs'.2 b hb).trans e) zO hL (.inr hsz) pI yc,q⟩⟩
theorem uL {X:Cx} {pos:Pos} {k v:Expr} {ks:List (Option Expr)} {vs:List Expr} {tk tv:TE} {DP:List (TE×TE)} (hk:bE X k tk) (hv:bE X v tv) (hr:Xw X pos ks vs DP):Xw X pos (some k::ks) (v::vs) ((tk,tv)::DP):=by
 have hk:=hk.h;have hv:=hv.h;have hr:=hr.h;exact ⟨fun pins s σ H Q I h=>
 pairTrees_cons_walk (bq (hk pins s σ H _ I h) fun u s1 ⟨x,H1,I1,rx,q1⟩=>bq (hv pins s1 σ H1 _ I1 q1) fun w2 s2 ⟨y,H2,I2,ry,q2⟩=>
  bq (hr pins s2 σ H2 _ I2 q2) fun ws s3 ⟨ps,H3,I3,rel,q3⟩=>⟨(x,y)::ps,H3,I3, .cons ⟨rx,ry⟩ rel,q3⟩)⟩
theorem Ai (hu:X.A.units+1<cLine) (hi:bE X i ty) (ho:bE X o td):bC X .NotIn i o (Yl ty td):=by
 have hi:=hi.h;have ho:=ho.h;constructor
 intro pins s σ H Q I h
 refine bq (hi pins s σ H _ I h) fun iv s1 ⟨y,H1,I1,ry,q1⟩=>bq (ho pins s1 σ H1 _ I1 q1) fun u s2 ⟨x,H2,I2,rx,a,ov,ex,g,q2⟩=>?_
 subst ex
 obtain rfl:u=Value.ref a:=rx
 exact Yi hu I2 g ry fun s3 I3=>⟨.bl (!ov.isSome),H2,I3,Z,q2⟩
theorem fD {b j pos}:bE X (.Constant (.bool b) j pos) (tC (.bl b)):=by
 exact ⟨fun _ _ _ H _ I h=>Constant_bool ⟨.bl b,H,I,Z,h⟩⟩
theorem xA {pl:Sem Bool} {j k:Nat} {C:Addr} {m:Str} {ps:List Str} {sp:Sp} {o:Expr} {ta:TE} {apos pos:Pos} (D:Mn X.prog X.w X.K X.mg X.base j C m ps sp) (hr:dD k X.A) (ho:bE X o ta) (hj:j<=k:=by decide) (ht:eval (.Call (.Attribute o m apos) [] [] pos) X.env=(do
   let ov <-eval o X.env
   standAt apos.atName
   let (f,first) <-holding [ov] (getMethod ov m pl)
   callWith pos f first (backTo pos (starEach [] X.env)) (backToKw pos (keywordEach [] X.env))):=by rfl):bE X (.Call (.Attribute o m apos) [] [] pos) (DL C m sp [] E0 ta pB):=by
 have ho:=ho.h;constructor
 obtain ⟨f,fd,F,b,hm,c⟩:=D.ex
 exact Vt (pl:=pl) ho c hm F (hr.mono hj) b .nil (fun _ _ _ _ _ _ _ h=>h.elim) ht
theorem aS (he:bE X e te):bS X (.Return (some e) pos) (agH te):=by
 have he:=he.h;constructor
 intro pins s σ H D I h
 exact wpAny_Return_some (bq (he pins s σ H _ I h) fun v s1 ⟨x,H1,I1,r1,q1⟩=>⟨x,σ,H1,I1,r1,q1⟩)
theorem dU {tg:Expr} {a:Expr} {ta:TA} {p pos:Pos} (hg:Gl X "range") (hm:X.mg "range"=none) (ha:bA X [a] ta) (hs:starEach [a] X.env=[(false,eval a X.env)] :=by rfl):bI X tg (.Call (.Name "range" p) [a] [] pos) (adh ta):=by
 have ha:=ha.h;constructor
 intro pins s σ H R I h
 refine Call_ (wX I hg hm boot_range (WM (bq (ha pos pins s σ H _ I h) fun us s1 ⟨vs,H1,I1,r1,q1⟩=>?_) hs rfl))
 obtain ⟨j,e,q1,q2,q⟩:=q1
 subst e
 cases r1 with
 | cons r rr=>
   cases rr
   obtain ⟨t,rfl⟩:=r
   exact call_range_1 (Vj I1 (by omega) (by omega) q1 q2 (by simpa using q))
theorem abJ {j:Nat} {n J:Str} {Ja:Addr} {t:TX} {u:TS} {body:List Stmt} {b0:Stmt} {suite:List Stmt} {p hp pos:Pos} (hN:X.N.Nodup) (hj:X.N[j]?=some n) (hl:X.env.scope.names.lookup n=some .local) (hno:∀e s,X.xe e s->False) (hst:X.stack=X.env::X.outer) (hfr:X.env.frame=some X.env.locals) (hb:bX X body t) (hg:Gl X J) (hm:X.mg J=some (.ref Ja)) (hs:∀x,cI (X.held x) (b0::suite) u) (hd:(J==("__debug__":Str))=false:=by decide):bS X (.Try body [.ExceptHandler (some (.Name J p)) (some n) (b0::suite) hp] [] [] pos) (ahe X.K Ja j t u):=by
 have hb:=hb.h;have hs:=fun x=>(hs x).h;constructor
 intro pins s σ H D I h
 refine wpAny_Try_except (gP (hb pins s σ H _ _ I h) (fun f s1 q=>?_) fun ev s1 q=>?_)
 . cases f with
   | next=>exact xU q
   | brk=>exact q
   | cont=>exact q
   | ret u=>exact q
 . obtain ⟨x,C,σ',Hc,sc,H',rfl,F,hk,hR⟩:=q
   refine Wo F I.ok.frames hst hfr fun s2 F2=>Lo F2 fun s3 F3=>?_
   have I3:Inv (X.held x) pins σ' H' s3:=F3.inv.held x
   refine wpAny_handleBy_cons (codeAny_handlers_test (qz (X:=X.held x) I3 hg hm ?_ hd)) (by intro z;cases z)
   obtain ⟨T,⟨oe,vs,a0,oT,ts,h1,h2,_⟩,_⟩:=F3.tr
   have LT:PySem.W.Looks (model X.prog X.w) s3.heap (typeOf (.ref x)) (.ref C):=by
    have:=(PySem.W.Looks.ld (M:=model X.prog X.w) (part:=none) h1).andThen (f:=fun o=>(pure o.cls:Sem Value)) (PySem.W.Looks.now)
    rw [h2] at this
    exact this
   refine (PySem.W.exm_one I3.iP LT hk).here ?_
   refine codeAny_handlers_suite_as (Lo F3 fun s4 F4=>?_)
   have I4:Inv (X.held x) pins σ' (upd H' x (CL x C)) s4:=F4.known.held x
   refine ug (X:=X.held x) I4 hN hj (.inl hl) (v:= .ref x) rfl (fun s5 I5=>?_) (.inr hl)
   refine gP (hs x pins s5 _ _ _ I5 (hR x F4.hx)) (fun f s6 q=>?_) fun e s6 z=>(hno e s6 z).elim
   have goes:∀{σ2 H2} {Q:Prop} {G:Shared->Prop} {p:Pos},Inv (X.held x) pins σ2 H2 s6->(∀s',Inv X pins (σ2.set j none) H2 s'->G s')->wpAny (model X.prog X.w) X.A (do bindName X.env n .none;unbindBehindTheSuite X.env n p) (fun _ s'=>G s') X.xe s6:=by
    intro σ2 H2 _ G p I6 k
    have I7:=I6.abw I.ok
    obtain ⟨m,hm,hlo⟩:=I7.loc
    refine wpAny_nameGoes_keeps (m:=m) (by unfold Env.kindOf;exact hl) hm (by rw [I.ok.kind];rfl) fun h' v hn hs=>k _ (I7.gone hN hj hm hlo hn hs)
   cases f with
   | next=>obtain ⟨σ2,H2,I6,q⟩:=q;exact goes (Q:=True) I6 fun s' I'=>⟨_,H2,I',q⟩
   | brk=>obtain ⟨σ2,H2,I6,q⟩:=q;exact goes (Q:=True) I6 fun s' I'=>⟨_,H2,I',q⟩
   | cont=>obtain ⟨σ2,H2,I6,q⟩:=q;exact goes (Q:=True) I6 fun s' I'=>⟨_,H2,I',q⟩
   | ret u=>obtain ⟨v,σ2,H2,I6,r,q⟩:=q;exact goes (Q:=True) I6 fun s' I'=>⟨v,_,H2,I',r,q⟩
theorem aU:cI X [] ac_:=by
 exact ⟨fun _ _ σ H _ I h=>xU ⟨σ,H,I,h⟩⟩
theorem eO (K:Fg) {o value:Expr} {f:Str} {ta tv:TE} {pos pos':Pos} (ha:bE X o ta) (hv:bE X value tv) (hs:swapsWith value (some (.Attribute o f pos')) pos.line X.env=pure false:=by rfl) (hK:X.K=K:=by rfl):bS X (.Assign [.Attribute o f pos'] value pos) (Z2 K ta tv f):=by
 have ha:=ha.h;have hv:=hv.h;exact ⟨hK▸Z5 ha hv hs⟩
theorem abL {j k:Nat} {g:Str} {ps:List Str} {sp:Sp} {e:Expr} {es:List Expr} {t:TA} {p pos p2 p3 p4:Pos} {kd:Nat} {body:List Stmt} (D:Dx X.prog X.w X.K X.mg X.base j g ps sp) (hr:dD k X.A) (hno:∀e s,X.xe e s->False) (ha:bA X (e::es) t) (hj:j<=k:=by decide) (hg:Gl X g:=by rfl) (hdb:(g==("__debug__":Str))=false:=by decide) (he:starEach (e::es) X.env=(false,eval e X.env)::starEach es X.env:=by rfl) (hpl:(backTo pos (starEach es X.env)).any (·.1)=false:=by rfl):bX X [.If (.Compare (.Call (.Name g p) (e::es) [] pos) [.IsNot] [.Constant .none kd p2] p3) body [] p4] (adY sp t):=by
 have ha:=ha.h;constructor
 intro pins s σ H Dn R I h
 refine wpAny_execs_cons (wpAny_If (wpAny_isTrue_Compare1 (gP (adX D hr hno ha hj hg hdb he hpl I h) (fun v s1 ⟨y,H1,I1,r1,ey,q1⟩=>?_) fun ev s1 ⟨x,C,Hc,sc,H',ev',F,hR⟩=>⟨x,C,σ,Hc,sc,H',ev',F,hR⟩) (Kf _ (by decide) (by decide))))
 subst ey
 cases r1
 exact Constant_none (isnot_none_gen (zx (xU (xU ⟨_,H1,I1,q1⟩))))
theorem Uk {a:Expr} {ta:TA} {p pos:Pos} (hg:Gl X "range") (hm:X.mg "range"=none) (ha:bA X [a] ta) (hs:starEach [a] X.env=[(false,eval a X.env)] :=by rfl):bE X (.Call (.Name "range" p) [a] [] pos) (ag1 ta):=by
 have ha:=ha.h;constructor
 intro pins s σ H Q I h
 refine Call_ (wX I hg hm boot_range (WM (bq (ha pos pins s σ H _ I h) fun us s1 ⟨vs,H1,I1,r1,q1⟩=>?_) hs rfl))
 obtain ⟨j,e,q⟩:=q1
 subst e
 obtain ⟨u,rfl,ru⟩:=vals1 r1
 obtain ⟨t,rfl⟩:=ru
 exact call_range_1 ⟨.ref s1.heap.objs.size,_,I1.laid (a:=s1.heap.objs.size) (o:= .vD 0 j) (fun b o e=>cA _ e) (aP _) ⟨_,_,_,dY _ rfl⟩,Z,q _ I1.fresh⟩
theorem d7 (h:bA X es t):bE X (.List es pos) (QH t):=by
 have h:=h.h;constructor
 intro pins s σ H Q I hq
 refine wpAny_List_spliced (bq (h pos pins s σ H _ I hq) fun us s1 ⟨xs,H1,I1,r,z,q⟩=>⟨by rw [<-r.length];exact z,?_⟩)
 have hf:H1 s1.heap.objs.size=none:=I1.hok.fresh (aP _)
 refine ⟨.ref s1.heap.objs.size,upd H1 s1.heap.objs.size (.lst xs),I1.laid (t':=s1.toks) (fun b u e=>cA _ e) (aP _) ?_,Z,q _ hf⟩
 exact ⟨z,us,0,r,dY _ rfl⟩
theorem yx (K:Fg) {o value:Expr} {f:Str} {ta tv:TE} {pos tpos:Pos} {op:Operator} {rd:V->V->Hp->VK->Prop} (ha:bE X o ta) (hv:bE X value tv) (hop:Kh X op rd) (hK:X.K=K:=by rfl):bS X (.AugAssign (.Attribute o f tpos) op value pos) (OH K ta tv rd f):=by
 have ha:=ha.h;have hv:=hv.h;exact ⟨hK▸Sh ha hv hop⟩
theorem abM {j pos}:bE X (.Constant .none j pos) (tC .bZ):=by
 exact ⟨fun _ _ _ H _ I h=>Constant_none ⟨.bZ,H,I,Z,h⟩⟩
theorem Wy {i:Nat} {x:Str} {px pos':Pos} {tg iter elt cond:Expr} {scope:Scope} {pos:Pos} (N2:List Str) (ix:List (Option Nat)) {wi:TI} {g:TG} {tc:TT} {te:TE} (hN:X.N.Nodup) (hi:X.N[i]?=some x) (hx:X.env.scope.names.lookup x=some .local) (hc:X.calm=true) (hit:bI X tg iter wi) (hg:∀cl s₂ H₂ fp,bG (cY X N2 scope cl s₂ H₂ fp) tg g) (he:∀cl s₂ H₂ fp,bE (cY X N2 scope cl s₂ H₂ fp) elt te) (ht:∀cl s₂ H₂ fp,bT (cY X N2 scope cl s₂ H₂ fp) cond tc) (hk:scope.kind = .function) (hn:nj X.N X.env.scope.names scope.names N2 ix=true) (hw:swapsWith (.ListComp elt [⟨tg,iter,[cond],0⟩] scope pos) (some (.Name x px)) pos'.line X.env=pure true) (hs:∀x,foldedSetIterable iter X.env x=pure x:=by intro _;rfl):bS X (.Assign [.Name x px] (.ListComp elt [⟨tg,iter,[cond],0⟩] scope pos) pos') (zz (D7 wi ix g tc te) (gc i)):=⟨VW N2 ix hN hi hx hc hit.h (fun cl s₂ H₂ fp=>(hg cl s₂ H₂ fp).h) (fun cl s₂ H₂ fp=>(he cl s₂ H₂ fp).h) (fun cl s₂ H₂ fp=>(ht cl s₂ H₂ fp).h) hk hn hw hs⟩
theorem Gn {ob:Expr} {td:TE} {apos cpos:Pos} (hob:bE X ob td) (hbase:attributeBase ob "values" X.env (eval ob X.env)=eval ob X.env:=by rfl) (hline:(apos.endLine==cpos.line)=true:=by rfl):bE X (.Call (.Attribute ob "values" apos) [] [] cpos) (adH td):=by
 have hob:=hob.h;constructor
 intro pins s σ H Q I h
 refine wpAny_Call_method0_late hbase hline (bq (hob pins s σ H _ I h) fun v s1 ⟨x,H1,I1,r1,q1⟩=>?_)
 obtain ⟨d,kvs,rfl,e,fin⟩:=q1
 cases r1
 obtain ⟨t1,t2,hsys⟩:=Kw I1 (.inl ⟨kvs,e⟩)
 obtain ⟨hz,_,vs,rel,dd⟩:=rA I1.hok e
 refine ⟨"dict",_,F.plainAttrs_dict,Qs,F.type_dict_values,t1,t2,Qh rfl (PySem.evalArgs_none ?_)⟩
 refine call_meetsIn Qs dd.typeIs F.entry_dict_values (F.args_dict_values_1 _) (meets_dict_values (c6 X.prog X.w) d hsys) ⟨⟨vs,dd⟩,?_⟩
 refine ⟨.ref s1.heap.objs.size,_,I1.laid (t':=s1.toks) (o:=lG s1.heap.objs.size d) (fun b u e=>cA _ e) (aP _) ?_,Z,fin _ I1.fresh⟩
 refine ⟨⟨_,dY _ rfl,Z,Z⟩,⟨_,dY _ rfl⟩,fun h1 h2 ⟨o,a,b⟩ k=>⟨o,k o a,b⟩⟩
theorem aea {j k:Nat} {x:Str} {C:Addr} {ps:List Str} {sp:Sp} {e:Expr} {es:List Expr} {t:TA} {p pos:Pos} (D:Cn X.prog X.w X.K X.mg X.base j x C ps sp) (hr:dD k X.A) (ha:bA X (e::es) t) (hj:j+1<=k:=by decide) (hg:Gl X x:=by rfl) (hdb:(x==("__debug__":Str))=false:=by decide) (he:starEach (e::es) X.env=(false,eval e X.env)::starEach es X.env:=by rfl) (hpl:(backTo pos (starEach es X.env)).any (·.1)=false:=by rfl):bE X (.Call (.Name x p) (e::es) [] pos) (JT C sp [] E0 t):=by
 have ha:=ha.h;constructor
 obtain ⟨f,fd,F,b,M,m⟩:=D.ex
 exact Yb M F (hr.mono hj) hg m b .nil (fun _ _ _ _ _ _ _ h=>h.elim) ha hdb he hpl
theorem j8 {x:Str} {v:V} {u:Value} {pos:Pos} (hg:Gl X x) (hm:X.mg x=some u) (r:RelV v u) (hd:(x==("__debug__":Str))=false:=by decide):bE X (.Name x pos) (tC v):=by
 exact ⟨fun _ _ _ H _ I h=>qz I hg hm ⟨v,H,I,r,h⟩ hd⟩
theorem oU (hc:gQ X (.type T) r) (hg:Gl X x) (hm:X.mg x=none) (hv:bootBuiltins x=some (.type T)) (ha:bA X (e::es) t) (hn:x ≠ "__name__":=by decide) (hdb:(x==("__debug__":Str))=false:=by decide) (he:starEach (e::es) X.env=(false,eval e X.env)::starEach es X.env:=by rfl) (hpl:(backTo pos (starEach es X.env)).any (·.1)=false:=by rfl):bE X (.Call (.Name x p) (e::es) [] pos) (tCB r t):=by
 have ha:=ha.h;constructor
 intro pins s σ H Q I h
 refine FE (wX I hg hm hv ?_ hn hdb)
 exact WM (bq (ha pos pins s σ H _ I h) fun us s1 ⟨vs,H1,I1,r1,q1⟩=>hc pins s1 σ H1 vs us Q I1 r1 q1) he hpl
theorem iZ {rest:List Expr} (ha:bT X a tA) (hb:bW X (.BoolOp .Or (b::rest) pos) WS):bW X (.BoolOp .Or (a::b::rest) pos) (tOr tA WS):=by
 have ha:=ha.h;have hb:=hb.h;constructor
 intro wh pins s σ H Q I h
 refine isTrue_or (bq (ha pins s σ H _ I h) fun c s1 ⟨H1,I1,q1⟩=>?_)
 cases c with
 | true=>exact ⟨H1,I1,q1⟩
 | false=>exact hb wh pins s1 σ H1 Q I1 q1
theorem qH (ha:bT X a tA):bW X (.BoolOp .And [a] pos) tA:=by
 have ha:=ha.h;constructor
 intro wh pins s σ H Q I h
 refine isTrue_and (bq (ha pins s σ H Q I h) fun c s1 e=>?_)
 cases c with
 | true=>exact isTrue_and_nil e
 | false=>exact e
theorem cM {c:Expr} {a b:List Stmt} {tc:TT} (hc:bT X c tc) (ha:cI X a t) (hb:cI X b u):bS X (.If c a b pos) (ZM tc t u):=⟨WT hc.h ha.h hb.h⟩
theorem Ul {i j:Nat} {x y:Str} {a b:Expr} {ta:TA} {px py pt:Pos} {kt k2 pt2} (hc:X.calm=true) (hN:X.N.Nodup) (hi:X.N[i]?=some x) (hj:X.N[j]?=some y) (hij:i≠j) (hx:X.env.scope.names.lookup x=some .local) (hy:X.env.scope.names.lookup y=some .local) (ha:bA X [a,b] ta) (hw:swappedStores [.Tuple [.Name x px, .Name y py] kt pt] (.Tuple [a,b] k2 pt2) X.env=pure (some [x,y])) (hs:swapsWithSole [.Tuple [.Name x px, .Name y py] kt pt] (.Tuple [a,b] k2 pt2) pos.line X.env=pure false:=by rfl):bS X (.Assign [.Tuple [.Name x px, .Name y py] kt pt] (.Tuple [a,b] k2 pt2) pos) (agJ i j ta):=by
 have ha:=ha.h;constructor
 intro pins s σ H D I h
 rw [exec_Assign_arm]
 refine aq (AM ?_)
 rw [hs]
 refine aq (aL ?_)
 rw [az (by decide)]
 refine aq (Tuple_ (bq (ha _ pins s σ H _ I h) fun us s1 ⟨vs,H1,I1,r1,q1⟩=>?_))
 obtain ⟨v,w,e1,q1⟩:=q1
 subst e1
 obtain ⟨u1,u2,rfl,rv,rw'⟩:∃u1 u2,us=[u1,u2]/\RelV v u1/\RelV w u2:=by
  cases r1 with
  | cons p q=>
    cases q with
    | cons p' q'=>
      cases q'
      exact ⟨_,_,Z,p,p'⟩
 refine qy ?_ (by show 2<=sizeLine;decide)
 have I2:Inv X pins σ H1 { s1 with heap:=s1.heap.push { cls:= .type "tuple",data:= .seq [u1,u2].toArray } }:=I1.kept (t':=s1.toks) fun b o e=>cA _ e
 rw [hw]
 refine aq (aL ?_)
 show wpAny (model X.prog X.w) X.A (do rule "assign.swapped-stores";let items <-unpackItems (.ref s1.heap.objs.size) 2 none;assignInOrder [fun v=>bindName X.env y v,fun v=>bindName X.env x v] items.reverse;pure Flow.next) _ _ _
 refine aq (wpAny_rule (aq (unpackItems_tuple (items:=#[u1,u2]) (I.ok.hd hc) (IsTup.new s1.heap _) fun h' hx'=>?_)))
 have I3:=I2.kept (h':=h') (t':=s1.toks) fun b o e=>hx' b o (dP (bP e)) e
 show wpAny _ _ (assignInOrder [fun v=>bindName X.env y v,fun v=>bindName X.env x v] [u2,u1] >>= fun _=>pure Flow.next) _ _ _
 refine aq (assignInOrder_cons (wpAny_bindName (ug I3 hN hj (.inl hy) rw' (fun s2 I4=>?_) (.inr hy))))
 refine assignInOrder_cons (wpAny_bindName (ug I4 hN hi (.inl hx) rv (fun s3 I5=>assignInOrder_nil (aL ?_)) (.inr hx)))
 rw [List.set_comm _ _ (cu hij)] at I5
 exact ⟨_,H1,I5,q1⟩
theorem fL {c:Expr} {a b:List Stmt} {tc:TT} {t u:TS} (hc:bT X c tc) (ha:cI X a t) (hb:cI X b u):bS X (.If c a b pos) (aaB tc t u):=by
 have hc:=hc.h;have ha:=ha.h;have hb:=hb.h;constructor
 intro pins s σ H D I h
 obtain ⟨J,h,hJ⟩:=h
 refine bq (WT hc ha hb pins s σ H { D with nx:=J } I h) fun f s' q=>?_
 cases f with
 | next=>obtain ⟨σ',H',I',q⟩:=q;exact ⟨σ',H',I',hJ _ _ q⟩
 | cont=>exact q
 | brk=>exact q
 | ret v=>exact q
theorem ao {st:Stmt} {rest:List Stmt} (h1:bS X st t) (h2:cI X rest u):cI X (st::rest) (Cq t u):=by
 have h1:=h1.h;have h2:=h2.h;constructor
 intro pins s σ H D I h
 refine wpAny_execs_cons (bq (h1 pins s σ H { D with nx:=u D } I h) fun f s1 q=>?_)
 cases f with
 | next=>
   obtain ⟨σ',H',I',q⟩:=q
   exact h2 pins s1 σ' H' D I' q
 | ret v=>exact q
 | brk=>exact q
 | cont=>exact q
theorem abO (K:Fg) {e st:Expr} {te ts:TE} {pos p2:Pos} (he:bE X e te) (hst:bE X st ts) (hK:X.K=K:=by rfl):bE X (.Subscript e (.Slice none none (some st) p2) pos) (ag2 K te ts):=by
 have he:=he.h;have hst:=hst.h;constructor
 subst hK
 intro pins s σ H Q I h
 refine Subscript_ (bq (he pins s σ H _ I h) fun v s1 ⟨x,H1,I1,r1,q1⟩=>?_)
 refine wpAny_Slice ?_
 rw [evalPart_none]
 refine aL (aL ?_)
 rw [evalPart_some]
 refine bq (hst pins s1 σ H1 _ I1 q1) fun w3 s3 ⟨y,H3,I3,r3,q3⟩=>?_
 obtain ⟨ey,a,xs,rfl,hx,q⟩:=q3
 subst ey
 obtain ⟨t,rfl⟩:=r3
 cases r1
 have I4:Inv X pins σ H3 { s3 with heap:=s3.heap.push { cls:= .type "slice",data:= .fields #[.none, .none, .int (-1) t] } }:=I3.kept (t':=s3.toks) fun b ob q=>cA _ q
 obtain ⟨its,r,ht,hz⟩:=I4.list hx
 have hlen:=r.length
 refine tail_any (ops:=[.ref a, .ref s3.heap.objs.size]) ht.isList.typeIs slot_list_getitem.lookup ?_ (by with_unfolding_all rfl)
 refine wpAny_getItem_list_slice ht.isList (Heap.IsSliceOf.new ..) .none .none (.int (-1) t) (by decide) ?_ (by rw [iz] <;> omega)
 rw [PySem.W.krv_pick]
 refine ⟨.ref _,_,I4.laid (t':=s3.toks) (o:= .lst xs.reverse) (fun b ob q=>cA _ q) (aP _) ?_,Z,q _ I4.fresh⟩
 exact ⟨by rw [List.length_reverse];exact hz,its.reverse,0,r.reverse,dY _ rfl⟩
theorem jg (K:Fg) {X:Cx} {es:List Expr} {k:Nat} {t:DA} {n:Nat} {pos:Pos} (hc:X.calm=true) (h:Xv X es t) (hK:X.K=K:=by rfl) (hn:(assignEach es X.env).length=n:=by rfl) (hst:(assignEach es X.env).findIdx? (·.1)=none:=by rfl):bG X (.Tuple es k pos) (Cr K n t):=by
 have h:=h.h;exact ⟨hK▸ZR hc h hn hst⟩
theorem LD {K:Fg} {j k:Nat} {x:Str} {ps:List Str} {sp:Sp} {e:Expr} {es:List Expr} {t:TA} {p pos:Pos} (D:Dx P w K mg base j x ps sp) (hr:dD k (cN (fY P w) P w K mg base N qual scope f cd A outer s0 H0 E).A) (ha:bA (cN (fY P w) P w K mg base N qual scope f cd A outer s0 H0 E) (e::es) t) (hj:j<=k:=by decide) (hg:Gl (cN (fY P w) P w K mg base N qual scope f cd A outer s0 H0 E) x:=by rfl) (hdb:(x==("__debug__":Str))=false:=by decide) (he:starEach (e::es) (cN (fY P w) P w K mg base N qual scope f cd A outer s0 H0 E).env=(false,eval e (cN (fY P w) P w K mg base N qual scope f cd A outer s0 H0 E).env)::starEach es (cN (fY P w) P w K mg base N qual scope f cd A outer s0 H0 E).env:=by rfl) (hpl:(backTo pos (starEach es (cN (fY P w) P w K mg base N qual scope f cd A outer s0 H0 E).env)).any (·.1)=false:=by rfl):bE (cN (fY P w) P w K mg base N qual scope f cd A outer s0 H0 E) (.Call (.Name x p) (e::es) [] pos) (QI sp [] E t):=by
 have ha:=ha.h;constructor
 obtain ⟨f',fd,F,b,kp,m⟩:=D.ex
 exact OJ F (hr.mono hj) hg m kp b .nil Xo ha hdb he hpl
theorem bU (hu:X.A.units+1<cLine) (ho:bE X o td) (hi:bE X i ty) (hs:aar i:=by exact fun _ _=>rfl):bE X (.Subscript o i pos) (adu td ty):=by
 have ho:=ho.h;have hi:=hi.h;constructor
 intro pins s σ H Q I h
 refine Yj PySem.F.slot_dict_getitem.lookup hs (bq (ho pins s σ H _ I h) fun u s1 ⟨x,H1,I1,rx,q1⟩=>bq (hi pins s1 σ H1 _ I1 q1) fun iv s2 ⟨y,H2,I2,ry,a,v,ex,g,q2⟩=>?_)
 subst ex
 obtain rfl:u=Value.ref a:=rx
 exact ⟨Nk I2 g,Sw hu I2 g ry fun w' s3 I3 rw'=>⟨v,H2,I3,rw',q2⟩⟩
theorem ak:bA X [] pB:=⟨Sj⟩
theorem Bj {K:Fg} {pl:Sem Bool} {j k:Nat} {C:Addr} {m:Str} {ps:List Str} {sp:Sp} {o e:Expr} {es:List Expr} {ta:TE} {t:TA} {apos pos:Pos} (D:Mx P w K mg base j C m ps sp) (hr:dD k (cN (fY P w) P w K mg base N qual scope f cd A outer s0 H0 E).A) (ho:bE (cN (fY P w) P w K mg base N qual scope f cd A outer s0 H0 E) o ta) (ha:bA (cN (fY P w) P w K mg base N qual scope f cd A outer s0 H0 E) (e::es) t) (hj:j<=k:=by decide) (hst:starEach (e::es) (cN (fY P w) P w K mg base N qual scope f cd A outer s0 H0 E).env=(false,eval e (cN (fY P w) P w K mg base N qual scope f cd A outer s0 H0 E).env)::starEach es (cN (fY P w) P w K mg base N qual scope f cd A outer s0 H0 E).env:=by rfl) (hpl:(backTo pos (starEach es (cN (fY P w) P w K mg base N qual scope f cd A outer s0 H0 E).env)).any (·.1)=false:=by rfl) (ht:eval (.Call (.Attribute o m apos) (e::es) [] pos) (cN (fY P w) P w K mg base N qual scope f cd A outer s0 H0 E).env=(do
   let ov <-eval o (cN (fY P w) P w K mg base N qual scope f cd A outer s0 H0 E).env
   standAt apos.atName
   let (f2,first) <-holding [ov] (getMethod ov m pl)
   callWith pos f2 first (backTo pos (starEach (e::es) (cN (fY P w) P w K mg base N qual scope f cd A outer s0 H0 E).env)) (backToKw pos (keywordEach [] (cN (fY P w) P w K mg base N qual scope f cd A outer s0 H0 E).env))):=by rfl):bE (cN (fY P w) P w K mg base N qual scope f cd A outer s0 H0 E) (.Call (.Attribute o m apos) (e::es) [] pos) (DL C m sp [] E ta t):=by
 have ho:=ho.h;have ha:=ha.h;constructor
 obtain ⟨f',fd,F,b,hm,c⟩:=D.ex
 exact OL (pl:=pl) ho c hm F (hr.mono hj) b .nil Xo ha hst hpl ht
theorem ah {i j pos}:bE X (.Constant (.int i) j pos) (tC (.int i)):=by
 exact ⟨fun _ _ _ H _ I h=>wpAny_Constant_int ⟨.int i,H,I.tok _,⟨_,Z⟩,h⟩⟩
theorem LF {rest:List Expr} (ha:bE X a ta) (hb:bE X (.BoolOp .And (b::rest) pos) tb):bE X (.BoolOp .And (a::b::rest) pos) (ac8 ta tb):=by
 have ha:=ha.h;have hb:=hb.h;constructor
 intro pins s σ H Q I h
 refine BoolOp_and (bq (ha pins s σ H _ I h) fun v s1 ⟨x,H1,I1,r1,q1⟩=>?_)
 obtain ⟨c,rfl,q1⟩:=q1
 cases r1
 refine zx ?_
 cases c with
 | true=>exact hb pins s1 σ H1 Q I1 q1
 | false=>exact ⟨.bl false,H1,I1,Z,q1⟩
theorem qI:bE X (.Dict [] [] pos) aav:=by
 exact ⟨fun pins s σ H Q I h=>
 wpAny_Dict_empty ⟨.ref s.heap.objs.size,_,I.laid (a:=s.heap.objs.size) (o:= .dK []) (t':=s.toks) (fun _ _ q=>cA _ q) (aP _) (Kv s.heap I.big),Z,h _ (I.hok.fresh (aP _))⟩⟩
theorem rX {tg e:Expr} {te:TE} {g:TG} (he:bE X e te) (hg:bG X tg g) (hs:swapsWithSole [tg] e pos.line X.env=pure false:=by rfl) (hw:swappedStores [tg] e X.env=pure none:=by rfl) (h1:(assignEach [tg] X.env).map (·.2)=[assign tg X.env] :=by rfl):bS X (.Assign [tg] e pos) (zz te g):=by
 have he:=he.h;have hg:=hg.h;constructor
 intro pins s σ H D I h
 refine wpAny_Assign_stores (bq (he pins s σ H _ I h) fun v s1 ⟨x,H1,I1,r1,q1⟩=>?_) hs hw
 rw [h1]
 exact bq (hg pins s1 σ H1 x v _ I1 r1 q1) fun _ s2 q=>q
theorem CP {elts:List Expr} {kk:Nat} {tpos:Pos} {ob:Expr} {td:TE} {apos cpos:Pos} (hob:bE X ob td) (hbase:attributeBase ob "items" X.env (eval ob X.env)=eval ob X.env:=by rfl) (hline:(apos.endLine==cpos.line)=true:=by rfl):bI X (.Tuple elts kk tpos) (.Call (.Attribute ob "items" apos) [] [] cpos) (aaS td):=by
 have hob:=hob.h;constructor
 intro pins s σ H R I h
 refine wpAny_Call_method0_late hbase hline (bq (hob pins s σ H _ I h) fun v s1 ⟨x,H1,I1,r1,q1⟩=>?_)
 obtain ⟨d,o,kvs,rfl,e,fin⟩:=q1
 cases r1
 obtain ⟨ho,hz,hsys,vs,ep,rel,da⟩:=I1.rC e
 obtain ⟨t1,t2,_⟩:=Kw I1 (.inl ⟨kvs, .inr ⟨o,e⟩⟩)
 have dd:=da.dictOf
 refine ⟨"dict",_,F.plainAttrs_dict,F.slot_dict_items,F.type_dict_items,t1,t2,Qh rfl (PySem.evalArgs_none ?_)⟩
 refine call_meetsIn F.slot_dict_items dd.typeIs F.entry_dict_items (F.args_dict_items_1 _) (meets_dict_items (c6 X.prog X.w) d hsys) ⟨⟨vs,dd⟩,?_⟩
 refine wpAny_pyIter_items (s:={ s1 with heap:=s1.heap.push { cls:= .type "dict_items",data:= .fields #[.ref d] } }) ⟨_,dY _ rfl,Z,Z⟩ (da.push _) ?_
 have Iv:Inv X pins σ H1 { s1 with heap:=s1.heap.push { cls:= .type "dict_items",data:= .fields #[.ref d] } }:=I1.kept (t':=s1.toks) fun b o e=>cA _ e
 generalize ({ s1 with heap:=s1.heap.push { cls:= .type "dict_items",data:= .fields #[.ref d] } }:Shared)=sv at *
 have I2:Inv X pins σ H1 { sv with heap:=sv.heap.push { cls:= .type "dict_itemiterator",data:= .fields #[.none, .bool false, .ref d, .int 0 0, .int vs.length 0, .int ep 0, .none, .none] } }:=Iv.kept (t':=sv.toks) fun b o e=>cA _ e
 have hl:kvs.length=vs.length:=rel.length
 obtain ⟨o',es,h1,_,h2,_⟩:=id da
 rw [ho] at h1;cases h1
 refine ⟨sv.heap.objs.size,[sv.heap.objs.size],_,_,H1,Z,I2,QY h2,?_,fun b hb=>?_,fin⟩
 . rw [hl];exact ⟨_,_,dY _ rfl⟩
 . have eb:b=sv.heap.objs.size:=by simpa using hb
   subst eb
   exact Iv.FL (aP _) (Iv.hok.fresh (aP _))
theorem abP {tg:Expr} {l:Expr} {tl:TE} (hl:bE X l tl):bI X tg l (aaL tl):=⟨aaM hl.h⟩
theorem iD (ha:bT X a tA):bW X (.BoolOp .Or [a] pos) tA:=by
 have ha:=ha.h;constructor
 intro wh pins s σ H Q I h
 refine isTrue_or (bq (ha pins s σ H Q I h) fun c s1 e=>?_)
 cases c with
 | false=>exact isTrue_or_nil e
 | true=>exact e
theorem xB {X:Cx} {st:Stmt} {t:TS} (h:bS X st t):bS X st (ag5 t):=by
 have h:=h.h;constructor
 intro pins s σ H D I hw
 obtain ⟨d,kvs,e,hw⟩:=hw
 obtain ⟨ho,es,ep,h1,_⟩:=(DO I.hok e).2.2.choose_spec.2
 have h0:=I.S3 e
 refine bq (h pins s σ _ _ (I.freeze e h1) (hw ho)) fun f s' q=>?_
 cases f with
 | next=>obtain ⟨σ',H',I',q1,q2⟩:=q;exact ⟨σ',_,I'.Cz q1 h0,q2⟩
 | brk=>obtain ⟨σ',H',I',q1,q2⟩:=q;exact ⟨σ',_,I'.Cz q1 h0,q2⟩
 | cont=>obtain ⟨σ',H',I',q1,q2⟩:=q;exact ⟨σ',_,I'.Cz q1 h0,q2⟩
 | ret u=>obtain ⟨v,σ',H',I',r,q1,q2⟩:=q;exact ⟨v,σ',_,I'.Cz q1 h0,r,q2⟩
theorem oV (hu:X.A.units+1<cLine) (ho:bE X o td) (hi:bE X i ty) (hv:bE X value tv) (hs:swapsWith value (some (.Subscript o i pos')) pos.line X.env=pure false):bS X (.Assign [.Subscript o i pos'] value pos) (adw td ty tv):=by
 have ho:=ho.h;have hi:=hi.h;have hv:=hv.h;constructor
 intro pins s σ H D I h
 refine wpAny_Assign_Subscript (bq (hv pins s σ H _ I h) fun r s1 ⟨v,H1,I1,rv,q1⟩=>bq (ho pins s1 σ H1 _ I1 q1) fun u s2 ⟨x,H2,I2,rx,q2⟩=>bq (hi pins s2 σ H2 _ I2 q2) fun iv s3 ⟨y,H3,I3,ry,a,H4,ex,g,q3⟩=>?_) hs
 subst ex
 obtain rfl:u=Value.ref a:=rx
 exact Sx hu I3 g ry rv fun s4 I4=>⟨σ,H4,I4,q3⟩
theorem qv (i:Nat) {x:Str} {pos:Pos} (hN:X.N[i]?=some x:=by rfl) (hv:R5 X.env.scope x:=by first|exact Or.inl rfl|exact Or.inr (Or.inl rfl)|exact Or.inr (Or.inr rfl)) (hd:(x==("__debug__":Str))=false:=by decide) (hcd:(x==("__classdict__":Str))=false:=by decide):bE X (.Name x pos) (Cp i):=by
 exact ⟨ZH hN hv hd hcd⟩
theorem aG {id:String} (hc:gQ X (.builtin id) r) (hg:Gl X x) (hm:X.mg x=none) (hv:bootBuiltins x=some (.builtin id)) (ha:bA X (e::es) t) (hn:x ≠ "__name__":=by decide) (hdb:(x==("__debug__":Str))=false:=by decide) (he:starEach (e::es) X.env=(false,eval e X.env)::starEach es X.env:=by rfl) (hpl:(backTo pos (starEach es X.env)).any (·.1)=false:=by rfl):bE X (.Call (.Name x p) (e::es) [] pos) (tCB r t):=by
 have ha:=ha.h;constructor
 intro pins s σ H Q I h
 refine FE (wX I hg hm hv ?_ hn hdb)
 exact PyProof.Rows.callWith_builtin1 (bq (ha pos pins s σ H _ I h) fun us s1 ⟨vs,H1,I1,r1,q1⟩=>hc pins s1 σ H1 vs us Q I1 r1 q1) he hpl
theorem CQ {K:Fg} {x:Str} {C:Addr} {t:Str} {kd:Nat} {p0 p1 cpos pos:Pos} (oc:pN K C) (hg:Gl (cN (fY P w) P w K mg base N qual scope f cd A outer s0 H0 E) x) (hm:mg x=some (.ref C)) (hd:(x==("__debug__":Str))=false:=by decide):bS (cN (fY P w) P w K mg base N qual scope f cd A outer s0 H0 E) (.Raise (some (.Call (.Name x p0) [.Constant (.str t) kd p1] [] cpos)) none pos) (abu C E):=by
 constructor
 intro pins s σ H D I h
 obtain ⟨nm,q,Nn,bs,bm,hdct,sn,sub,ab,col,dd,k0,k1,k2,k3,k5,mN,hni,hb,fx⟩:=oc.ex
 refine wpAny_Raise_call_subT (bm:=bm) (C:=C) (nm:=nm) (q:=q) (N:=Nn) (bs:=bs) (hdct:=hdct) (sn:=sn) (sub:=sub) (ab:=ab) (col:=col) (dd:=dd) (k0:=k0) (k1:=k1) (k2:=k2) (k3:=k3) (k5:=k5) F.excBase_ValueError hb (I.ok.hd rfl) rfl hni ?_
 refine qz I hg hm ⟨Z,?_⟩ hd
 have pa:PA (cN (fY P w) P w K mg base N qual scope f cd A outer s0 H0 E) [.Constant (.str t) kd p1] (jN (tC (.str t)) pB):=OI R6 Sj
 refine PySem.Calls.evalArgs_plain (bq (pa cpos pins s σ H (fun vs H1=>vs.length=1/\H1=H) I ⟨Z,Z⟩) fun us s1 ⟨vs,H1,I1,r,hv,e⟩=>?_)
 subst e
 obtain ⟨hC,hN,T⟩:=fx s1.heap I1.iP
 exact ⟨Z,by show us.length<=sizeLine;rw [<-r.length,hv,fu];decide,hC,hN,T,fun h' e hm=>Rg I1 hm (h e)⟩
theorem rY {o i:Expr} {to ti:TE} {t:Kg} (ho:bE X o to) (hi:bE X i ti) (hs:ZO X t) (ha:∀v,assign (.Subscript o i pos) X.env v=(do
   let ov <-holding [v] (eval o X.env)
   let iv <-holding [v,ov] (eval i X.env)
   standAt pos
   holding [v,ov,iv] (setItem ov iv v)
   release [v,ov,iv] []):=by intro _;rfl):bG X (.Subscript o i pos) (agI to ti t):=by
 have ho:=ho.h;have hi:=hi.h;constructor
 intro pins s σ H v u Q I r h
 rw [ha]
 refine aq (xW (bq (ho pins s σ H _ I h) fun ov s1 ⟨x,H1,I1,r1,q1⟩=>?_))
 refine aq (xW (bq (hi pins s1 σ H1 _ I1 q1) fun iv s2 ⟨y,H2,I2,r2,q2⟩=>?_))
 refine aq (AM (aq (xW (bq (hs pins s2 σ H2 x y v ov iv u _ I2 r1 r2 r q2) fun _ s3 ⟨H3,I3,q3⟩=>?_))))
 exact wpAny_release ⟨σ,H3,I3,q3⟩
theorem jH {st:Stmt}:bS X st ZN:=by
 exact ⟨fun _ _ _ _ _ _ h=>h.elim⟩
theorem Um {j k:Nat} {x:Str} {C:Addr} {ps:List Str} {sp:Sp} {p pos:Pos} (D:Cn X.prog X.w X.K X.mg X.base j x C ps sp) (hr:dD k X.A) (hj:j+1<=k:=by decide) (hg:Gl X x:=by rfl) (hdb:(x==("__debug__":Str))=false:=by decide):bE X (.Call (.Name x p) [] [] pos) (JT C sp [] E0 pB):=by
 constructor
 obtain ⟨f,fd,F,b,M,m⟩:=D.ex
 exact Vu M F (hr.mono hj) hg m b .nil (fun _ _ _ _ _ _ _ h=>h.elim) hdb
theorem af (ha:bE X e te) (hr:bA X es t) (hs:starEach (e::es) X.env=(false,eval e X.env)::starEach es X.env:=by rfl):bA X (e::es) (jN te t):=⟨OI ha.h hr.h hs⟩
theorem bf (K:Fg) {e:Expr} {f:Str} {ta:TE} {pos:Pos} (he:bE X e ta) (hb:attributeBase e f X.env (eval e X.env)=eval e X.env:=by rfl) (hK:X.K=K:=by rfl):bE X (.Attribute e f pos) (Z1 K ta f):=by
 have he:=he.h;exact ⟨hK▸Z4 he hb⟩
theorem ud {op:CmpOp} {r:R2} (ho:ig X (compareOp op) r) (ha:bE X a ta) (hb:bE X b tb) (hm:behindInMarks op b=false):bE X (.Compare a [op] [b] pos) (DF r ta tb):=by
 have ha:=ha.h;have hb:=hb.h;constructor
 intro pins s σ H Q I h
 exact wpAny_Compare1 (Vk ha hb I h fun v u s2 x y H2 I2 rx ry q=>ho pins s2 σ H2 x y v u Q I2 rx ry q) hm
theorem aZ {j k:Nat} {x:Str} {ps:List Str} {sp:Sp} {e:Expr} {es:List Expr} {t:TA} {p pos:Pos} (D:Dn X.prog X.w X.K X.mg X.base j x ps sp) (hr:dD k X.A) (ha:bA X (e::es) t) (hj:j<=k:=by decide) (hg:Gl X x:=by rfl) (hdb:(x==("__debug__":Str))=false:=by decide) (he:starEach (e::es) X.env=(false,eval e X.env)::starEach es X.env:=by rfl) (hpl:(backTo pos (starEach es X.env)).any (·.1)=false:=by rfl):bE X (.Call (.Name x p) (e::es) [] pos) (QI sp [] E0 t):=by
 have ha:=ha.h;constructor
 obtain ⟨f,fd,F,b,kp,m⟩:=D.ex
 exact OJ F (hr.mono hj) hg m kp b .nil (fun _ _ _ _ _ _ _ h=>h.elim) ha hdb he hpl
theorem rZ {rest:List Expr} (ha:bT X a tA) (hb:bW X (.BoolOp .And (b::rest) pos) WS):bW X (.BoolOp .And (a::b::rest) pos) (ZI tA WS):=by
 have ha:=ha.h;have hb:=hb.h;constructor
 intro wh pins s σ H Q I h
 refine isTrue_and (bq (ha pins s σ H _ I h) fun c s1 ⟨H1,I1,q1⟩=>?_)
 cases c with
 | true=>exact hb wh pins s1 σ H1 Q I1 q1
 | false=>exact ⟨H1,I1,q1⟩
section
variable {P:Program} {w:World} {K:Fg} {mg:SO} {base:Heap} {f C:Addr} {fd:FuncData} {N ps:List Str} {k:Nat} {sp:Sp} {x m qual:Str} {st:Stmt}
theorem c8 {N P:List Str} {sc:Scope} (a:sc.kind = .function:=by rfl) (b:sc.isCoroutine=false:=by rfl) (c:sc.isGenerator=false:=by rfl) (d:N.Nodup:=by decide +kernel) (e:N.take P.length=P:=by rfl) (f:∀x∈P,sc.names.lookup x=some .local\/sc.names.lookup x=some .cell:=by decide +kernel) (g:∀y∈sc.names,y.2 ≠ .free:=by decide +kernel):aJ N P sc:=⟨a,b,c,d,e,f,g⟩
theorem At.oA (F:At K mg x st f fd) (S:aJ N ps (ay st))
  (hbody:∀(cdv:Value) (A:Around) (outer:List Env) (s:Shared) (H:Hp) (vs:List V) (Q:VK) (E:XK),dD k (A.deeper (envOfC x (ay st) s.heap.objs.size f cdv))->sp vs H Q E->
    ∃t,qp (cN tM P w K mg base N x (ay st) f cdv A outer s H E).BI (cE st) t/\t { nx:=fun _ H'=>Q .bZ H',rt:=Q } (start N vs) H)
  (len:∀vs H Q E,sp vs H Q E->vs.length=ps.length:=by intro vs H Q E h;first|(cases h.ex;subst_vars;rfl)|(have h:=h.ex;(repeat first|(obtain ⟨rfl,_⟩:=h;rfl)|(obtain ⟨_,h⟩:=h));done)|(repeat first|(obtain ⟨rfl,_⟩:=h;rfl)|(obtain ⟨_,h⟩:=h)))
  (h:∀(kV doc pm:Value) (an:Option Addr) (cdv ct:Value) (us:List Value),us.length=ps.length->bindArgs (PySem.W.fnOf x x (dW st) (cE st) (ay st) .none kV doc pm an cdv ct) ⟨us,[]⟩=pure (ps.zip us):=by intro _ _ _ _ _ _ us hl;repeat' (first|rfl|(simp at hl;done)|(rcases us with _|⟨_,us⟩))):Dn P w K mg base (k+1) x ps sp:=F.ok S len hbody h
theorem At.LG (F:At K mg x st f fd) (S:aJ N ps (ay st))
  (hbody:∀(cdv:Value) (A:Around) (outer:List Env) (s:Shared) (H:Hp) (vs:List V) (Q:VK) (E:XK),dD k (A.deeper (envOfC x (ay st) s.heap.objs.size f cdv))->sp vs H Q E->
    ∃t,qp (cN (fY P w) P w K mg base N x (ay st) f cdv A outer s H E) (cE st) t/\t { nx:=fun _ H'=>Q .bZ H',rt:=Q } (start N vs) H)
  (len:∀vs H Q E,sp vs H Q E->vs.length=ps.length:=by intro vs H Q E h;first|(cases h.ex;subst_vars;rfl)|(have h:=h.ex;(repeat first|(obtain ⟨rfl,_⟩:=h;rfl)|(obtain ⟨_,h⟩:=h));done)|(repeat first|(obtain ⟨rfl,_⟩:=h;rfl)|(obtain ⟨_,h⟩:=h)))
  (h:∀(kV doc pm:Value) (an:Option Addr) (cdv ct:Value) (us:List Value),us.length=ps.length->bindArgs (PySem.W.fnOf x x (dW st) (cE st) (ay st) .none kV doc pm an cdv ct) ⟨us,[]⟩=pure (ps.zip us):=by intro _ _ _ _ _ _ us hl;repeat' (first|rfl|(simp at hl;done)|(rcases us with _|⟨_,us⟩))):Dx P w K mg base (k+1) x ps sp:=F.okX S len hbody h
theorem iS.oA (F:iS K C m qual st f fd) (S:aJ N ps (ay st))
  (hbody:∀(cdv:Value) (A:Around) (outer:List Env) (s:Shared) (H:Hp) (vs:List V) (Q:VK) (E:XK),dD k (A.deeper (envOfC qual (ay st) s.heap.objs.size f cdv))->sp vs H Q E->
    ∃t,qp (cN tM P w K mg base N qual (ay st) f cdv A outer s H E).BI (cE st) t/\t { nx:=fun _ H'=>Q .bZ H',rt:=Q } (start N vs) H)
  (len:∀vs H Q E,sp vs H Q E->vs.length=ps.length:=by intro vs H Q E h;first|(cases h.ex;subst_vars;rfl)|(have h:=h.ex;(repeat first|(obtain ⟨rfl,_⟩:=h;rfl)|(obtain ⟨_,h⟩:=h));done)|(repeat first|(obtain ⟨rfl,_⟩:=h;rfl)|(obtain ⟨_,h⟩:=h)))
  (h:∀(kV doc pm:Value) (an:Option Addr) (cdv ct:Value) (us:List Value),us.length=ps.length->bindArgs (PySem.W.fnOf m qual (dW st) (cE st) (ay st) .none kV doc pm an cdv ct) ⟨us,[]⟩=pure (ps.zip us):=by intro _ _ _ _ _ _ us hl;repeat' (first|rfl|(simp at hl;done)|(rcases us with _|⟨_,us⟩))):Mn P w K mg base (k+1) C m ps sp:=F.ok S len hbody h
theorem iS.LG (F:iS K C m qual st f fd) (S:aJ N ps (ay st))
  (hbody:∀(cdv:Value) (A:Around) (outer:List Env) (s:Shared) (H:Hp) (vs:List V) (Q:VK) (E:XK),dD k (A.deeper (envOfC qual (ay st) s.heap.objs.size f cdv))->sp vs H Q E->
    ∃t,qp (cN (fY P w) P w K mg base N qual (ay st) f cdv A outer s H E) (cE st) t/\t { nx:=fun _ H'=>Q .bZ H',rt:=Q } (start N vs) H)
  (len:∀vs H Q E,sp vs H Q E->vs.length=ps.length:=by intro vs H Q E h;first|(cases h.ex;subst_vars;rfl)|(have h:=h.ex;(repeat first|(obtain ⟨rfl,_⟩:=h;rfl)|(obtain ⟨_,h⟩:=h));done)|(repeat first|(obtain ⟨rfl,_⟩:=h;rfl)|(obtain ⟨_,h⟩:=h)))
  (h:∀(kV doc pm:Value) (an:Option Addr) (cdv ct:Value) (us:List Value),us.length=ps.length->bindArgs (PySem.W.fnOf m qual (dW st) (cE st) (ay st) .none kV doc pm an cdv ct) ⟨us,[]⟩=pure (ps.zip us):=by intro _ _ _ _ _ _ us hl;repeat' (first|rfl|(simp at hl;done)|(rcases us with _|⟨_,us⟩))):Mx P w K mg base (k+1) C m ps sp:=F.okX S len hbody h
theorem HK.oA (F:HK K mg x C qual st f fd) (S:aJ N ps (ay st))
  (hbody:∀(cdv:Value) (A:Around) (outer:List Env) (s:Shared) (H:Hp) (vs:List V) (Q:VK) (E:XK),dD k (A.deeper (envOfC qual (ay st) s.heap.objs.size f cdv))->sp vs H Q E->
    ∃t,qp (cN tM P w K mg base N qual (ay st) f cdv A outer s H E).BI (cE st) t/\t { nx:=fun _ H'=>Q .bZ H',rt:=Q } (start N vs) H)
  (len:∀vs H Q E,sp vs H Q E->vs.length=ps.length:=by intro vs H Q E h;first|(cases h.ex;subst_vars;rfl)|(have h:=h.ex;(repeat first|(obtain ⟨rfl,_⟩:=h;rfl)|(obtain ⟨_,h⟩:=h));done)|(repeat first|(obtain ⟨rfl,_⟩:=h;rfl)|(obtain ⟨_,h⟩:=h)))
  (h:∀(kV doc pm:Value) (an:Option Addr) (cdv ct:Value) (us:List Value),us.length=ps.length->bindArgs (PySem.W.fnOf "__init__" qual (dW st) (cE st) (ay st) .none kV doc pm an cdv ct) ⟨us,[]⟩=pure (ps.zip us):=by intro _ _ _ _ _ _ us hl;repeat' (first|rfl|(simp at hl;done)|(rcases us with _|⟨_,us⟩))):Cn P w K mg base (k+1) x C ps sp:=F.ok S len hbody h
end
def Im (b:BS) (x:Str) (F:BP->BP):BS:={ b with ai:=(b.ai.map fun p=>if p.nm=x then F p else p).filter fun p=>decide (0<p.wo) }
def LH (b:BS) (x:Str):BP:=(b.ai.find? fun p=>decide (p.nm=x)).getD ⟨x,x,0,0,[]⟩
def aeb (b:BS) (o:Str) (p:BP):BP:={ p with ow:=o,tops:=(p.tops.set (b.own.idxOf p.ow) 0).set (b.own.idxOf o) ((p.tops.set (b.own.idxOf p.ow) 0).getD (b.own.idxOf o) 0+p.tops.getD (b.own.idxOf p.ow) 0) }
def abQ (b:BS) (x y:Str) (a we:Int):BS:={ b with
 ai:=((b.ai.map fun p:BP=>if p.nm=x then { p with wo:=p.wo-a,we:=p.we-we } else p)++[BP.mk y (LH b x).ow a we (LH b x).tops]).filter fun p=>decide (0<p.wo)
 d8:=b.d8++[y] }
def aec (b:BS) (x:Str):BS:={ Im b x fun p=>{ p with wo:=0 } with kj:=b.kj++[⟨x,(LH b x).ow,(LH b x).wo,(LH b x).tops,b.bot⟩] }
def Bl (b:BS):Dd->BS
 | .sign _=>b
 | .load x o wo we=>yt b x o wo we
 | .cast rs=>iY b (c9 b rs) 0 0
 | .award o a=>iY b (List.replicate b.ai.length 0) (b.own.idxOf o) a
 | .mishap x a=>Im b x fun p=>{ p with wo:=p.wo-a }
 | .rise x a=>Im b x fun p=>{ p with wo:=p.wo+a }
 | .hand x o=>Im b x (aeb b o)
 | .land x=>aec b x
 | .sever x y a we=>abQ b x y a we
 | .still=>b
theorem Uo (b:BS) (d:Dd):(Bl b d).own=b.own:=by cases d <;> rfl
inductive aed (e:Ec) (vs:List V) (H:Hp) (Q:VK) (E:XK):Prop
 | mk (a:Int) (_:vs=[.int a]) (_:(a<1->Rf e E H 5)) (_:(1<=a->Q .bZ H))
def EA (e:Ec):Sp:=bx (aed e)
inductive aee (e:Ec) (vs:List V) (H:Hp) (Q:VK) (E:XK):Prop
 | mk (m a:Int) (_:vs=[.int m, .int a]) (_:(a<1->Rf e E H 5)) (_:(1<=a->m<a->Rf e E H 6)) (_:(1<=a->a<=m->Q .bZ H))
def LI (e:Ec):Sp:=bx (aee e)
inductive Wz (T:TC) (e:Ec) (vs:List V) (H:Hp) (Q:VK) (E:XK):Prop
 | mk (n ρ A st x a:_) (_:vs=[.ref A.a, .str x, .int a]) (_:HH T n ρ A H st) (_:DoX T e n ρ A H (kG st (x,a)) (fH st (x,a)) Q E)
def Io (T:TC) (e:Ec):Sp:=bx (Wz T e)
inductive abR (T:TC) (e:Ec) (vs:List V) (H:Hp) (Q:VK) (E:XK):Prop
 | mk (n ρ A st x a:_) (_:vs=[.ref A.a, .str x, .int a]) (_:HH T n ρ A H st) (_:DoX T e n ρ A H (jw st x a:_) (Ey st x a:_) Q E)
def Py (T:TC) (e:Ec):Sp:=bx (abR T e)
inductive aef (K:Fg) (vs:List V) (H:Hp) (Q:VK) (E:XK):Prop
 | mk (l:Addr) (us:List V) (ws:List Row) (x:Str) (_:vs=[.ref l, .str x]) (_:aC K H l us) (_:Q9 K H us ws) (_:(ws.map (fun r:Row=>r.1)).Nodup) (_:ws.length<=1000) (_:(∀(i:Nat) (r:Row),ws[i]?=some r->r.1=x->Q (.int (i:Int)) H)) (_:((∀r∈ws,r.1≠x)->Q (.int (-1)) H))
def Aj (K:Fg):Sp:=bx (aef K)
inductive WA (al:HS->Dd->Prop) (K:Fg) (vs:List V) (H:Hp) (Q:VK) (E:XK):Prop
 | mk (n c:Nat) (ρ:fR) (B:BA) (b:BS) (st:HS) (z:Addr) (d:Dd) (_:vs=[.ref B.m, .ref z]) (_:H z=some (.tup d.v)) (_:Gh ρ H) (_:bg n ρ B H b) (_:fT c st b) (_:c<=90) (_:Wf st) (_:al st d) (_:Px d) (_:lX st d=none) (_:∀ρ' B' H',Gh ρ' H'->bg n ρ' B' H' (Bl b d:_)->B'.m=B.m->Fr n ρ H ρ' H'->Q .bZ H')
def vQ (al:HS->Dd->Prop) (K:Fg):Sp:=bx (WA al K)
inductive Zf (T:TC) (al:HS->Dd->Prop) (K:Fg) (vs:List V) (H:Hp) (Q:VK) (E:XK):Prop
 | mk (n m c:Nat) (ρ:fR) (A:HA) (B:BA) (st:HS) (b:BS) (v0 v1:V) (z:Addr) (d:Dd) (_:vs=[v0,v1, .ref A.a, .ref B.m, .ref z]) (_:n≠m) (_:H z=some (.tup d.v)) (_:HH T n ρ A H st) (_:bg m ρ B H b) (_:fT c st b) (_:c<=90) (_:al st d) (_:Px d) (_:∀ρ' A' B' H' st' b',HH T n ρ' A' H' st'->bg m ρ' B' H' b'->fT (c+1) st' b'->A'.a=A.a->B'.m=B.m->b'.own=b.own->st'.kn<=st.kn+100->(b'=b\/(lX st d=none/\b'=Bl b d))->aE (out ρ H:_) (out ρ' H':_)->Q (.bl true) H')
def LJ (T:TC) (al:HS->Dd->Prop) (K:Fg):Sp:=bx (Zf T al K)
inductive aeg (T:TC) (K:Fg) (vs:List V) (H:Hp) (Q:VK) (E:XK):Prop
 | mk (n m ρ A B st b:_) (a ln:Addr) (ns:List Int) (nms:List Str) (_:vs=[.ref a, .ref A.a, .ref B.m, .ref ln]) (_:n≠m) (_:HH T n ρ A H st) (_:bg m ρ B H b) (_:fT 0 st b) (_:uG K ρ H a (ns.map V.int)) (_:ns.length<=63) (_:uG K ρ H ln (nms.map V.str)) (_:nms.Nodup) (_:(∀x∈nms,yl x)) (_:(∀o∈b.own,yl o)) (_:nms.length=6) (_:st.nms=[]) (_:b.ai=[]) (_:b.d8=[]) (_:∀ρ' A' B' H' st' b',HH T n ρ' A' H' st'->bg m ρ' B' H' b'->fT 1 st' b'->A'.a=A.a->B'.m=B.m->b'.own=b.own->st'.kn<=st.kn->0<b'.ai.length->aE (out ρ H:_) (out ρ' H':_)->Q .bZ H')
def Up (T:TC) (K:Fg):Sp:=bx (aeg T K)
theorem abS {P:Program} {w:World} {K:Fg} {mg:SO} {base:Heap} {k:Nat} {e:Ec} {ps:List Str} (D:Dx P w K mg base k "check_amount" ps (EA e)):Dn P w K mg base k "check_amount" ps adN:=
 D.dn fun vs H Q E h=>by
   obtain ⟨⟨a,rfl,h1,q⟩⟩:=h
   exact ⟨a,Z,fun z=>absurd z (by omega),fun _=>q⟩
theorem abT {P:Program} {w:World} {K:Fg} {mg:SO} {base:Heap} {k:Nat} {e:Ec} {ps:List Str} (D:Dx P w K mg base k "check_loss" ps (LI e)):Dn P w K mg base k "check_loss" ps Xk:=
 D.dn fun vs H Q E h=>by
   obtain ⟨⟨m,a,rfl,h1,h2,q⟩⟩:=h
   exact ⟨m,a,Z,fun z=>absurd z (by omega),fun _ z=>absurd z (by omega),fun _ _=>q⟩
theorem Dn.imp {P:Program} {w:World} {K:Fg} {mg:SO} {base:Heap} {k:Nat} {x:Str} {ps:List Str} {sp Sk:Sp} (D:Dn P w K mg base k x ps sp) (h:∀vs H Q E,Sk vs H Q E->sp vs H Q E):Dn P w K mg base k x ps Sk:=by
 obtain ⟨f,fd,F,b,kp,m⟩:=D.ex
 exact ⟨f,fd,F.imp h,b,kp,m⟩
theorem abU {P:Program} {w:World} {K:Fg} {mg:SO} {base:Heap} {k:Nat} {ps:List Str} (D:Dn P w K mg base k "_law_at" ps (Aj K)):Dn P w K mg base k "_law_at" ps (Xl K):=
 D.imp fun vs H Q E h=>by
   obtain ⟨⟨l,us,ws,j,r,rfl,hl,hW,nd,hle,ej,q⟩⟩:=h
   refine ⟨l,us,ws,r.1,Z,hl,hW,nd,hle,fun i r' e1 e2=>?_,fun z=>absurd rfl (z r (bN ej))⟩
   have hi:i<ws.length:=(eF.mp e1).1
   have r1:(ws.map (fun r:Row=>r.1))[i]?=some r'.1:=by rw [bJ,e1];rfl
   have r2:(ws.map (fun r:Row=>r.1))[j]?=some r.1:=by rw [bJ,ej];rfl
   have:i=j:=(J9 (by rw [aF];exact hi) nd).mp (r1.trans (by rw [e2];exact r2.symm))
   rw [this];exact q
theorem Ro {st:HS} {x:Str} (h:x∈gT st):∃(i:Nat) (p:Pt),st.ai[i]?=some p/\p.nm=x:=by
 obtain ⟨p,hp,e⟩:=bM.mp h
 obtain ⟨i,hi,ei⟩:=qx hp
 exact ⟨i,p,by rw [aX hi,ei],e⟩
theorem Xx {st:HS} {i:Nat} {p:Pt} (h:st.ai[i]?=some p):p.nm∈gT st:=bM.mpr ⟨p,bN h,Z⟩
theorem yy {α:Type} {nm:α->Str} {f:α->α}:∀{l:List α} {i:Nat} {p:α},(l.map nm).Nodup->l[i]?=some p->(l.map fun q=>if nm q=nm p then f q else q)=l.set i (f p)
 | [],_,_,_,h=>by simp at h
 | a::l,0,p,nd,h=>by
   have e:a=p:=by simpa using h
   subst e
   obtain ⟨h1,_⟩:=ia.mp (show (nm a::l.map nm).Nodup from nd)
   rw [bD,aB rfl,J6]
   congr 1
   refine (Ck (g:=id) (fun q hq=>az fun z=>h1 (bM.mpr ⟨q,hq,z⟩))).trans (List.map_id l)
 | a::l,i+1,p,nd,h=>by
   obtain ⟨h1,h2⟩:=ia.mp (show (nm a::l.map nm).Nodup from nd)
   have h':l[i]?=some p:=by simpa using h
   rw [bD,az (fun z=>h1 (bM.mpr ⟨p,bN h',z.symm⟩)),J5,yy h2 h']
theorem Zg {st:HS} (nd:(st.ai.map (·.nm)).Nodup) {i:Nat} {p:Pt} (h:st.ai[i]?=some p) (f:Pt->Pt):Ex st p.nm f={ st with ai:=st.ai.set i (f p) }:=by
 unfold Ex
 rw [yy (nm:=fun p:Pt=>p.nm) nd h]
theorem abV {st:HS} (wf:Wf st) {x:Str} {f:Pt->Pt} (h:∀p∈st.ai,p.nm=x->(f p).nm=p.nm/\(f p).ow=p.ow/\(f p).sc=p.sc/\(f p).row=p.row/\1<=(f p).wo/\0<=(f p).we):Wf (Ex st x f):=by
 have P:∀{M:Pt->Prop},(∀p∈st.ai,p.nm=x->M (f p))->(∀p∈st.ai,M p)->∀p∈(Ex st x f).ai,M p:=fun a c p hp=>by
  obtain ⟨q,hq,rfl⟩:=bM.mp (show p∈st.ai.map _ from hp)
  by_cases e:q.nm=x
  . rw [aB e];exact a q hq e
  . rw [az e];exact c q hq
 have en:(Ex st x f).ai.map (fun p:Pt=>p.nm)=st.ai.map (fun p:Pt=>p.nm):=by
  show (st.ai.map _).map _=_
  rw [fF]
  refine Ck fun p hp=>?_
  show (if p.nm=x then f p else p).nm=p.nm
  by_cases e:p.nm=x
  . rw [aB e];exact (h p hp e).1
  . rw [az e]
 refine ⟨wf.yf,wf.CA,?_,P (fun p hp e=>?_) wf.sub,P (fun p hp e=>?_) wf.rows,P (fun p hp e=>?_) wf.ow,wf.jb,wf.yg,wf.iX,wf.vH,wf.zT,wf.sJ,wf.CB,?_,wf.Ga,wf.zU,wf.Tg,wf.big,wf.sL,P (fun p hp e=>?_) wf.vI,P (fun p hp e=>?_) wf.sM,P (fun p hp e=>?_) wf.zV,P (fun p hp e=>?_) wf.uy,wf.KZ⟩
 . show ((Ex st x f).ai.map (fun p:Pt=>p.nm)).Nodup;rw [en];exact wf.kB
 . show (f p).nm∈st.nms;rw [(h p hp e).1];exact wf.sub p hp
 . rw [(h p hp e).2.2.2.1];exact wf.rows p hp
 . show (f p).ow∈st.own;rw [(h p hp e).2.1];exact wf.ow p hp
 . show (st.ai.map _).length<=1000;rw [aF];exact wf.wm
 . rw [(h p hp e).2.2.1];exact wf.vI p hp
 . rw [(h p hp e).2.2.2.1];exact wf.sM p hp
 . rw [(h p hp e).2.2.2.1,(h p hp e).2.2.1];exact wf.zV p hp
 . exact (h p hp e).2.2.2.2
def uM (p:BP):Q4:=(p.nm,p.ow,p.wo,p.we)
theorem Pz {l:List BP} {F:BP->BP} {f:Q4->Q4} (h:∀p∈l,uM (F p)=f (uM p)):((l.map F).filter fun p=>decide (0<p.wo)).map uM=((l.map uM).map f).filter fun q=>decide (0<q.2.2.1):=by
 induction l with
 | nil=>rfl
 | cons p l ih=>
   have ih:=ih fun q hq=>h q (cG _ hq)
   have e:=h p cJ
   rw [bD,bD,bD,<-e]
   by_cases c:0<(F p).wo
   . rw [List.filter_cons_of_pos (p:=fun p:BP=>decide (0<p.wo)) (cg c),List.filter_cons_of_pos (p:=fun q:Q4=>decide (0<q.2.2.1)) (cg (show 0<(uM (F p)).2.2.1 from c)),bD,ih]
   . rw [List.filter_cons_of_neg (p:=fun p:BP=>decide (0<p.wo)) (by simpa using c),List.filter_cons_of_neg (p:=fun q:Q4=>decide (0<q.2.2.1)) (by simpa using (show ¬ 0<(uM (F p)).2.2.1 from c)),ih]
theorem Xy {c:Nat} {st:HS} {b:BS} (g:fT c st b) {ps:List Pt} {bs:List BP} (qd:iu { st with ai:=ps }=nI { b with ai:=bs }) (hp:∀p'∈ps,∃p∈st.ai,p'.nm=p.nm/\p'.sc=p.sc/\p'.row=p.row)
  (hb:∀q'∈bs,∃q∈b.ai,q'.nm=q.nm/\q'.ow=q.ow/\q'.tops=q.tops/\1<=q'.wo/\q'.wo<=q.wo+1000000000/\q'.we<=q.we) (sb:(bs.map fun p:BP=>p.nm).Sublist (b.ai.map fun p:BP=>p.nm)):fT (c+1) { st with ai:=ps } { b with ai:=bs }:=by
 have hl:bs.length<=b.ai.length:=by have:=sb.length_le;rwa [aF,aF] at this
 have wb:=g.j6
 refine ⟨⟨wb.nd.sublist sb,fun q hq=>?_,fun q hq=>?_,wb.b1,wb.bz,fun q hq=>?_,wb.ol,fq hl wb.pl,wb.kl⟩,⟨g.rel.own,qd⟩,fun p xu q hq e j=>?_,fun u hu=>(g.dg u hu).mono (by omega),fq g.stp (by omega),g.prod.mono (by omega),g.bot.mono (by omega),fun q hq=>?_,(fun q hq=>by obtain ⟨q0,h0,e1,e2,e3,e4,e5,e6⟩:=hb q hq;have:=g.we q0 h0;omega),(by have:=g.pl;show bs.length<=_;omega),(by have:=g.kl;show b.d8.length<=_;omega),g.own,fun q hq=>?_,g.kj,g.d8,g.nk,g.on,fun q hq=>?_⟩
 . obtain ⟨q0,h0,e1,e2,e3,e4,e5⟩:=hb q hq;rw [e3];exact wb.tl q0 h0
 . obtain ⟨q0,h0,e1,e2,e3,e4,e5⟩:=hb q hq;rw [e3];exact wb.t0 q0 h0
 . obtain ⟨q0,h0,e1,e2,e3,e4,e5⟩:=hb q hq;exact e4
 . obtain ⟨q0,h0,e1,e2,e3,e4,e5⟩:=hb q hq
   obtain ⟨p0,k0,k1,k2,k3⟩:=hp p xu
   have:=g.Gf p0 k0 q0 h0 (by rw [<-k1,<-e1];exact e) j
   rw [e3]
   show _=(b_ { st with ai:=ps } p).getD j 0*b.bot
   have et:b_ { st with ai:=ps } p=b_ st p0:=by unfold b_;rw [k2,k3]
   rw [et];exact this
 . obtain ⟨q0,h0,e1,e2,e3,e4,e5⟩:=hb q hq
   have:=g.wo q0 h0
   omega
 . obtain ⟨q0,h0,e1,e2,e3,e4,e5⟩:=hb q hq;rw [e1,e2];exact g.nm q0 h0
 . obtain ⟨q0,h0,e1,e2,e3,e4,e5⟩:=hb q hq;rw [e3];exact g.sum q0 h0
theorem PB (b:BS) (x:Str) (F:BP->BP) (h:∀p∈b.ai,(F p).nm=p.nm):(((b.ai.map fun p=>if p.nm=x then F p else p).filter fun p=>decide (0<p.wo)).map fun p:BP=>p.nm).Sublist (b.ai.map fun p:BP=>p.nm):=by
 have e:(b.ai.map fun p=>if p.nm=x then F p else p).map (fun p:BP=>p.nm)=b.ai.map fun p:BP=>p.nm:=by
  rw [fF]
  refine Ck fun p hp=>?_
  show (if p.nm=x then F p else p).nm=p.nm
  by_cases c:p.nm=x
  . rw [aB c];exact h p hp
  . rw [az c]
 rw [<-e]
 exact (List.filter_sublist).map _
theorem LK {c:Nat} {st:HS} {b:BS} (g:fT c st b):st.ai.map (fun p=>((p.nm,p.ow,p.wo,p.we):Q4))=b.ai.map uM:=g.rel.qd
theorem Uq {c:Nat} {st:HS} {b:BS} {x:Str} {a:Int} (g:fT c st b) (wf:Wf st) (h:kG st (x,a)=none):fT (c+1) (fH st (x,a)) (Im b x fun p=>{ p with wo:=p.wo-a }):=by
 have hr:x∈gT st/\1<=a/\a<=(c5 st x).wo:=by
  unfold kG at h
  by_cases c1:x∈gT st
  . rw [aB c1] at h
    by_cases c2:a<1
    . rw [aB c2] at h;cases h
    . rw [az c2] at h
      by_cases c3:(c5 st x).wo<a
      . rw [aB c3] at h;cases h
      . exact ⟨c1,by omega,by omega⟩
  . rw [az c1] at h;cases h
 obtain ⟨hm,h1,h2⟩:=hr
 have le:∀p∈st.ai,p.nm=x->a<=p.wo:=fun p hp e=>by rw [jG wf hp e] at h2;exact h2
 have leB:∀q∈b.ai,q.nm=x->a<=q.wo:=fun q hq e=>by
  obtain ⟨j,hj,ej⟩:=qx hq
  obtain ⟨p,hp,k1,_,k3,_⟩:=g.rel.at (i:=j) (q:=q) (by rw [aX hj,ej])
  rw [<-k3];exact le p (bN hp) (k1.trans e)
 refine Xy g ?_ (fun p hp=>?_) (fun q hq=>?_) (PB b x _ fun _ _=>rfl)
 . show (jP st.ai x a).map _=List.map uM ((b.ai.map _).filter _)
   rw [Pz (f:=fun q:Q4=>if q.1=x then (q.1,q.2.1,q.2.2.1-a,q.2.2.2) else q) (fun p hp=>by
    show uM (if p.nm=x then _ else _)=if p.nm=x then _ else _
    by_cases e:p.nm=x
    . rw [aB e,aB e];rfl
    . rw [az e,az e]),<-LK g]
   show (jP st.ai x a).map _=_
   have:=Ib st (x,a)
   rw [show (jP st.ai x a).map (fun p:Pt=>((p.nm,p.ow,p.wo,p.we):Q4))=nJ (iu st) (x,a) from this]
   unfold nJ iu
   refine List.filter_congr fun q hq=>decide_eq_decide.mpr ?_
   obtain ⟨q0,EB,rfl⟩:=bM.mp hq
   obtain ⟨p,hp,rfl⟩:=bM.mp EB
   have w1:=(wf.uy p hp).1
   show (if p.nm=x then _ else _:Q4).2.2.1≠0↔0<(if p.nm=x then _ else _:Q4).2.2.1
   by_cases e:p.nm=x
   . have:=le p hp e
     rw [aB e]
     show p.wo-a≠0↔0<p.wo-a
     omega
   . rw [az e]
     show p.wo≠0↔0<p.wo
     omega
 . obtain ⟨_,q,hq,rfl⟩:=yr (show p∈jP st.ai x a from hp)
   refine ⟨q,hq,?_⟩
   by_cases e:q.nm=x
   . rw [aB e];exact ⟨Z,Z,Z⟩
   . rw [az e];exact ⟨Z,Z,Z⟩
 . obtain ⟨h3,h4⟩:=nC.mp hq
   obtain ⟨q0,EB,rfl⟩:=bM.mp h3
   have w1:=g.j6.w1 q0 EB
   have h4:=dO h4
   refine ⟨q0,EB,?_⟩
   by_cases e:q0.nm=x
   . rw [aB e] at h4 ⊢
     have h4:0<q0.wo-a:=h4
     exact ⟨Z,Z,Z,by show 1<=q0.wo-a;omega,by show q0.wo-a<=_;omega,jL _⟩
   . rw [az e];exact ⟨Z,Z,Z,w1,by omega,jL _⟩
theorem Zh {c:Nat} {st:HS} {b:BS} {x:Str} {a:Int} (g:fT c st b) (wf:Wf st) (h1:1<=a) (h2:a<=1000000000):fT (c+1) (Ey st x a) (Im b x fun p=>{ p with wo:=p.wo+a }):=by
 refine Xy g ?_ (fun p hp=>?_) (fun q hq=>?_) (PB b x _ fun _ _=>rfl)
 . show (st.ai.map _).map _=List.map uM ((b.ai.map _).filter _)
   rw [Pz (f:=fun q:Q4=>if q.1=x then (q.1,q.2.1,q.2.2.1+a,q.2.2.2) else q) (fun p hp=>by
    show uM (if p.nm=x then _ else _)=if p.nm=x then _ else _
    by_cases e:p.nm=x
    . rw [aB e,aB e];rfl
    . rw [az e,az e]),<-LK g,List.filter_eq_self.mpr (fun q hq=>by
      obtain ⟨q0,EB,rfl⟩:=bM.mp hq
      obtain ⟨p,hp,rfl⟩:=bM.mp EB
      have w1:=(wf.uy p hp).1
      refine cg ?_
      show 0<(if p.nm=x then _ else _:Q4).2.2.1
      by_cases e:p.nm=x
      . rw [aB e];show 0<p.wo+a;omega
      . rw [az e];show 0<p.wo;omega),fF,fF]
   refine Ck fun p hp=>?_
   show (fun p:Pt=>((p.nm,p.ow,p.wo,p.we):Q4)) (if p.nm=x then _ else _)=if p.nm=x then _ else _
   by_cases e:p.nm=x
   . rw [aB e,aB e]
   . rw [az e,az e]
 . obtain ⟨q,hq,rfl⟩:=bM.mp hp
   refine ⟨q,hq,?_⟩
   by_cases e:q.nm=x
   . rw [aB e];exact ⟨Z,Z,Z⟩
   . rw [az e];exact ⟨Z,Z,Z⟩
 . obtain ⟨h3,h4⟩:=nC.mp hq
   obtain ⟨q0,EB,rfl⟩:=bM.mp h3
   have w1:=g.j6.w1 q0 EB
   refine ⟨q0,EB,?_⟩
   by_cases e:q0.nm=x
   . rw [aB e];exact ⟨Z,Z,Z,by show 1<=q0.wo+a;omega,by show q0.wo+a<=_;omega,jL _⟩
   . rw [az e];exact ⟨Z,Z,Z,w1,by omega,jL _⟩
def qJ (_:HS):Dd->Prop
 | .mishap _ _=>True
 | .rise _ _=>True
 | _=>False
theorem EC {st:HS} {r:Row} {i:Nat} (h:kG st r=some i):i=3\/i=5\/i=6:=by
 unfold kG at h
 split at h
 . split at h
   . cases h;exact .inr (.inl rfl)
   . split at h <;> cases h;exact .inr (.inr rfl)
 . cases h;exact .inl rfl
theorem Cb {st:HS} {x:Str} {a:Int} {i:Nat} (h:jw st x a=some i):i=3\/i=5:=by
 unfold jw at h
 split at h
 . split at h <;> cases h;exact .inr rfl
 . cases h;exact .inl rfl
theorem Ur {K:Fg} {e:Ec} {st:HS} {d:Dd} {i:Nat} (t3:Told K e e.rV 3) (t5:Told K e e.rW 5) (t6:Told K e e.Af 6) (ha:qJ st d) (hr:lX st d=some i):Told K e (e.at i) i:=by
 cases d with
 | mishap x a=>rcases EC hr with rfl|rfl|rfl <;> assumption
 | rise x a=>rcases Cb hr with rfl|rfl <;> assumption
 | _=>exact ha.elim
theorem WB {st:HS} {b:BS} (r:iU st b) (wf:Wf st) {x:Str} (h:x∈gT st):∃(i:Nat) (p:Pt) (q:BP),st.ai[i]?=some p/\b.ai[i]?=some q/\p.nm=x/\q.nm=x/\q.ow=p.ow/\q.wo=p.wo/\q.we=p.we/\c5 st x=p:=by
 obtain ⟨i,p,h1,h2⟩:=Ro h
 obtain ⟨q,k1,k2,k3,k4,k5⟩:=r.at' h1
 exact ⟨i,p,q,h1,k1,h2,k2.symm.trans h2,k3.symm,k4.symm,k5.symm,jG wf (bN h1) h2⟩
theorem LL {st:HS} {b:BS} (r:iU st b):(lV b).map (fun r:Row=>r.1)=gT st:=by
 have:(iu st).map (fun q:Q4=>q.1)=(nI b).map (fun q:Q4=>q.1):=by rw [r.qd]
 unfold iu nI at this
 rw [fF,fF] at this
 unfold lV gT
 rw [fF]
 exact this.symm
theorem PD {K:Fg} {H:Hp} {Q:VK} {E:XK} {n:Nat} {ρ:fR} {B:BA} {b:BS} {st:HS} {x:Str} (hb:bg n ρ B H b) (r:iU st b) (wf:Wf st) (wb:uD b)
  (q:∀(i:Nat) (p:Pt) (q:BP),st.ai[i]?=some p->b.ai[i]?=some q->p.nm=x->q.nm=x->q.ow=p.ow->q.wo=p.wo->q.we=p.we->c5 st x=p->x∈gT st->Q (.int (i:Int)) H) (q2:x∉gT st->Q (.int (-1)) H):Aj K [.ref B.lp, .str x] H Q E:=by
 have nd:((lV b).map (fun r:Row=>r.1)).Nodup:=by unfold lV;rw [fF];exact wb.nd
 refine ⟨B.lp,_,lV b,x,Z,aC.of hb.op,hb.nw,nd,by unfold lV;rw [aF];exact wb.pl,fun i r' e1 e2=>?_,fun h=>q2 fun z=>?_⟩
 . have hm:x∈gT st:=by rw [<-LL r];exact bM.mpr ⟨r',bN e1,e2⟩
   obtain ⟨j,p,q',k1,k2,k3,k4,k5,k6,k7,k8⟩:=WB r wf hm
   have r1:((lV b).map (fun r:Row=>r.1))[i]?=some x:=by rw [bJ,e1];show some r'.1=_;rw [e2]
   have r2:((lV b).map (fun r:Row=>r.1))[j]?=some x:=by unfold lV;rw [fF,bJ,k2];show some q'.nm=_;rw [k4]
   have:i=j:=(J9 (eF.mp r1).1 nd).mp (r1.trans r2.symm)
   subst this
   exact q i p q' k1 k2 k3 k4 k5 k6 k7 k8 hm
 . rw [<-LL r] at z
   obtain ⟨r',hr',e⟩:=bM.mp z
   exact h r' hr' e
theorem Rp {T:TC} {al:HS->Dd->Prop} {K:Fg} {H:Hp} {Q:VK} {E:XK} {n:Nat} {ρ:fR} {A:HA} {st:HS} {x z:Addr} {d:Dd} (ea:A.a=x) (hz:cR K H z (Dd.v d)) (hh:HH T n ρ A H st) (ha:al st d)
  (q:∀l ρ' A' H',HH T n ρ' A' H' (uJ st d)->A'.a=x->Fr n ρ H ρ' H'->(lX st d=none->ρ' l=none)->H' l=some (.lst (JY (lX st d)))->Q (.ref l) H'):Gk T al K [.ref x, .ref z] H Q E:=by
 subst ea
 refine ⟨n,ρ,A,st,z,d,Z,hz,hh,ha,fun i hi l H' g hl=>q l ρ A H' ?_ rfl (Fr.of_same g) (fun z=>by rw [hi] at z;cases z) ?_,fun hi l ρ' A' H' ED ea' F hl cl _=>q l ρ' A' H' ?_ ea' F (fun _=>cl) ?_⟩
 . unfold uJ;rw [hi];exact hh.mono g
 . rw [hi];exact hl
 . unfold uJ;rw [hi];exact ED
 . rw [hi];exact hl
theorem EE:∀{l:List Int},0<l.sum->∃x∈l,0<x
 | [],h=>by simp at h
 | a::l,h=>by
   by_cases c:0<a
   . exact ⟨a,cJ,c⟩
   . rw [cU] at h
     obtain ⟨x,hx,h2⟩:=EE (l:=l) (by omega)
     exact ⟨x,cG _ hx,h2⟩
theorem Cc:∀{ps:List BP} {as:List Int},as.length=ps.length->(List.zipWith (fun (p:BP) (a:Int)=>p.wo-a) ps as).sum=(ps.map fun p=>p.wo).sum-as.sum
 | [],[],_=>rfl
 | p::ps,a::as,h=>by
   rw [v5,cU,bD,cU,cU,Cc (by simpa using h)];omega
 | [],_::_,h=>by simp at h
 | _::_,[],h=>by simp at h
theorem Us {b:BS} {as:List Int} {seat:Nat} {aw:Int} (ok:lW b as seat aw):0<(iY b as seat aw).ai.length:=by
 have h1:=Cc ok.len
 have h2:0<(List.zipWith (fun (p:BP) (a:Int)=>p.wo-a) b.ai as).sum:=by
  rw [h1]
  have:=ok.kept
  have:=ok.B0
  unfold br at this
  have k:br b=(b.ai.map fun p=>p.wo).sum:=rfl
  omega
 obtain ⟨x,hx,h3⟩:=EE h2
 obtain ⟨i,p,a,ep,ea,rfl⟩:=ju hx
 have hm:mY (gZ b as seat aw) (br b-aw-as.sum) p a∈(iY b as seat aw).ai:=nC.mpr ⟨bN (Lg ep ea),cg h3⟩
 exact List.length_pos_of_mem hm
theorem Ut {st:HS} {x:Str} {a:Int} (h:jw st x a=none):x∈gT st/\1<=a:=by
 unfold jw at h
 by_cases hm:x∈gT st
 . rw [aB hm] at h
   by_cases c:a<1
   . rw [aB c] at h;cases h
   . exact ⟨hm,by omega⟩
 . rw [az hm] at h;cases h
theorem Uu (c:Nat) (st:HS) (b:BS) (d:Dd) (g:fT c st b) (_:c<=90) (wf:Wf st) (ha:qJ st d) (db:Px d) (hr:lX st d=none):fT (c+1) (vP st d) (Bl b d)/\(vP st d).kn<=st.kn+100:=by
 cases d with
 | mishap x a=>exact ⟨Uq g wf hr,by show st.kn<=_;omega⟩
 | rise x a=>exact ⟨Zh g wf (Ut hr).2 db.2.2,by show st.kn<=_;omega⟩
 | _=>exact ha.elim
structure Uv (ok:Dd->Prop):Prop where
 len:∀d,ok d->2<=d.v.length/\d.v.length<=115
 kind:∀d,ok d->d.k≠2/\d.k≠9
 at_:∀d n v,ok d->d.v[n+1]?=some v->(∃s,v = .str s/\wl s<=20)\/∃i,v = .int i/\nB i
 set:∀d n v w,ok d->d.v[n+1]?=some v->alike v w->∃d',d'.v=d.v.set (n+1) w/\ok d'
inductive abW (ok:Dd->Prop) (K:Fg) (vs:List V) (H:Hp) (Q:VK) (E:XK):Prop
 | mk (a:Addr) (ms:List Int) (k:Int) (n:Nat) (ρ:fR) (B:BA) (b:BS) (z:Addr) (d:Dd) (_:vs=[.ref a, .int k, .ref B.m, .ref z]) (_:aC K H a (ms.map V.int)) (_:ms.length<=63) (_:0<=k) (_:bg n ρ B H b) (_:Bk b) (_:cR K H z d.v) (_:ok d) (_:∀z' d' H',aE H H'->H' z'=some (.tup (Dd.v d'))->ok d'->Q (.ref z') H')
def Gp (ok:Dd->Prop) (K:Fg):Sp:=bx (abW ok K)
theorem Ip {ok:Dd->Prop} {K:Fg} {H:Hp} {Q:VK} {E:XK} {a z mm:Addr} {ms:List Int} {k:Int} {n:Nat} {ρ:fR} {B:BA} {b:BS} {d:Dd} (em:B.m=mm) (hS:aC K H a (ms.map V.int)) (h63:ms.length<=63) (hk:0<=k) (hb:bg n ρ B H b) (bk:Bk b) (hz:cR K H z d.v) (hd:ok d)
  (q:∀z' d' H',aE H H'->H' z'=some (.tup (Dd.v d'))->ok d'->Q (.ref z') H'):Gp ok K [.ref a, .int k, .ref mm, .ref z] H Q E:=⟨a,ms,k,n,ρ,B,b,z,d,by rw [em],hS,h63,hk,hb,bk,hz,hd,q⟩
def yz (d:Dd):Prop:=(∃x a,d = .mishap x a/\wl x<=20/\nB a)\/∃x a,d = .rise x a/\wl x<=20/\nB a
theorem abX {d:Dd} (h:yz d):Px d:=by rcases h with ⟨x,a,rfl,h1,h2⟩|⟨x,a,rfl,h1,h2⟩ <;> exact ⟨h1,h2⟩
theorem Zi {st:HS} {d:Dd} (h:yz d):qJ st d:=by rcases h with ⟨x,a,rfl,_⟩|⟨x,a,rfl,_⟩ <;> exact True.intro
theorem abY:Uv yz:=by
 refine ⟨fun d h=>?_,fun d h=>?_,fun d n v h e=>?_,fun d n v w h e al=>?_⟩
 . rcases h with ⟨x,a,rfl,_⟩|⟨x,a,rfl,_⟩ <;> exact ⟨by show 2<=3;decide,by show 3<=115;decide⟩
 . rcases h with ⟨x,a,rfl,_⟩|⟨x,a,rfl,_⟩
   . exact ⟨by show 4≠2;decide,by show 4≠9;decide⟩
   . exact ⟨by show 5≠2;decide,by show 5≠9;decide⟩
 . rcases h with ⟨x,a,rfl,h1,h2⟩|⟨x,a,rfl,h1,h2⟩ <;> match n,e with
   | 0,e=>cases e;exact .inl ⟨_,Z,h1⟩
   | 1,e=>cases e;exact .inr ⟨_,Z,h2⟩
 . rcases h with ⟨x,a,rfl,h1,h2⟩|⟨x,a,rfl,h1,h2⟩
   . match n,e with
     | 0,e=>cases e;obtain ⟨s,rfl,h⟩:=Ik al;exact ⟨.mishap s a,Z, .inl ⟨s,a,Z,h,h2⟩⟩
     | 1,e=>cases e;obtain ⟨s,rfl,h⟩:=Il al;exact ⟨.mishap x s,Z, .inl ⟨x,s,Z,h1,h⟩⟩
   . match n,e with
     | 0,e=>cases e;obtain ⟨s,rfl,h⟩:=Ik al;exact ⟨.rise s a,Z, .inr ⟨s,a,Z,h,h2⟩⟩
     | 1,e=>cases e;obtain ⟨s,rfl,h⟩:=Il al;exact ⟨.rise x s,Z, .inr ⟨x,s,Z,h1,h⟩⟩
theorem Zj (st:HS) (d:Dd) (i:Nat) (ha:qJ st d) (h:lX st d=some i):i<10:=by
 cases d with
 | mishap x a=>rcases EC h with rfl|rfl|rfl <;> decide
 | rise x a=>rcases Cb h with rfl|rfl <;> decide
 | _=>exact ha.elim
end L2
set_option autoImplicit false
namespace Law
open PySem L2
theorem iw (n:Nat) (h:n<=1000:=by decide):n<=sizeLine:=by rw [fu];omega
def top (i:Nat):Stmt:=PySem.Challenge.pw_jettison_k21_mishaps_and_rises.main.body.getD i (.Pass ⟨0,0,0,0⟩)
section
variable {P:Program} {w:World} {K:Fg} {mg:SO} {base:Heap} {f:Addr} {fd:FuncData}
abbrev nZ:Stmt:=top 2
abbrev jy:List Str:=["one","other"]
abbrev EF:List Str:=jy
theorem uN:aJ EF jy (ay nZ):=c8
theorem CS (F:At K mg "common_factor" nZ f fd):Dn P w K mg base 1 "common_factor" jy VM:=by
 refine F.oA uN fun cdv A outer s H vs Q E hr h=>?_
 obtain ⟨a,b,rfl,ha,hb,q⟩:=h
 refine ⟨_,(@cI.h _ _ _ (ao (CN ee (aT ir (qv 1) ah (a_ _)) (au (Ul (i:=0) (j:=1) rfl uN.nd rfl rfl (by decide) rfl rfl (af (qv 1) (af (aD jq (qv 0) (qv 1)) ak)) (by rfl))))
  (au (aS (qv 0))))),?_⟩
 refine ⟨fun m σ H'=>∃x y:Int,m=y.toNat/\σ=[some (.int x),some (.int y)]/\H'=H/\0<=x/\0<=y/\Jm.cf x y=Jm.cf a b,⟨_,a,b,Z,Z,Z,ha,hb,Z⟩,?_⟩
 rintro m σ H' ⟨x,y,rfl,rfl,rfl,hx,hy,e⟩
 refine ⟨_,Z,_,_,Z,Z,_,Z,?_⟩
 refine dm (fun c=>?_) (fun c=>?_)
 . have c':0<y:=dO c
   refine ⟨_,fun _ _ z=>z,?_⟩
   refine ⟨_,Z,_,Z,_,Z,_,_,Z,Z,c',_,_,Z,?_⟩
   have h1:0<=x % y:=nD _ (by omega)
   have h2:x % y<y:=xR _ c'
   exact ⟨_,(by omega:(x % y).toNat<y.toNat),y,x % y,Z,Z,Z,hy,h1,(Jm.FP x y c').trans e⟩
 . have c':¬ 0<y:=o6 (mT.mpr c)
   have ey:y=0:=by omega
   subst ey
   rw [Jm.OQ x hx] at e
   refine ⟨_,Z,?_⟩
   rw [e]
   exact q
abbrev yC:Stmt:=top 21
abbrev vR:List Str:=["text","signs"]
abbrev Uw:List Str:=vR
theorem Rq:aJ Uw vR (ay yC):=c8
theorem Rr (F:At K mg "made_of" yC f fd) (Rt:mg "all"=none):Dn P w K mg base 1 "made_of" vR Cy:=by
 refine F.oA Rq fun cdv A outer s H vs Q E hr h=>?_
 obtain ⟨⟨cs,signs,rfl,hl,q⟩⟩:=h
 refine ⟨_,(@cI.h _ _ _ (au (aS (aG (SR K rfl) (by rfl) Rt PyProof.Rows.boot_all (af (gr ["sign","signs"] [none,some 1] rfl (abP (qv 0)) (fun _ _ _ _=>(aR (i:=0) (show List.Nodup (["sign","signs"] :List Str) from by decide +kernel))) (fun _ _ _ _=>(ud Sa (qv 0) (qv 1) (by with_unfolding_all rfl))) rfl (by rfl)) ak))))),?_⟩
 refine ⟨_,Z,cs,Z,fun acc hacc=>?_⟩
 refine VR (fun i out H1=>aE H H1/\out=((cs.take i).map (D0 signs)).map V.bl) hl ⟨aA hacc _,Z⟩ ?_ ?_
 . rintro i c out H1 hx eL ha ⟨g,e⟩
   refine ⟨_,Z,_,Z,_,_,Z,Z,ha,g.cF hacc _,?_⟩
   rw [e,List.take_add_one,hx,bL,bL]
   rfl
 rintro out H1 eL ha ⟨g,e⟩
 rw [cC] at e
 refine ⟨acc,cs.map (D0 signs),Z,aC.of (by rw [ha,e]),?_⟩
 have e2:(cs.map (D0 signs)).all id=cs.all (D0 signs):=by rw [List.all_map];rfl
 rw [e2]
 exact q H1 g
abbrev yD:Stmt:=top 20
abbrev r_:List Str:=["text"]
abbrev Ux:List Str:=r_
theorem Ru:aJ Ux r_ (ay yD):=c8
theorem Rv {tk:Tok} (F:At K mg "is_name" yD f fd) (Ak:Dn P w K mg base 1 "made_of" vR Cy) (bh:mg "len"=none) (Al:mg "LETTERS"=some (.str "abcdefghijklmnopqrstuvwxyz" tk)):Dn P w K mg base 2 "is_name" r_ yb:=by
 refine F.oA Ru fun cdv A outer s H vs Q E hr h=>?_
 obtain ⟨⟨cs,rfl,hl,q⟩⟩:=h
 refine ⟨_,(@cI.h _ _ _ (au (aS (LF (Wx WW WW ah (aG Kq (by rfl) bh dG (af (qv 0) ak)) ah) (LA (aZ Ak hr (af (qv 0) (af (j8 (v:= .str "abcdefghijklmnopqrstuvwxyz") (by rfl) Al ⟨_,Z⟩) ak)))))))),?_⟩
 have hz:(tx cs).length<=sizeLine:=by rw [ki,fu];omega
 refine ⟨_,Z,_,Z,hz,_,_,Z,Z,_,Z,?_⟩
 rw [ki]
 refine dm (fun c=>?_) (fun c=>?_)
 . refine ⟨_,_,Z,Z,_,Z,dm (fun c2=>?_) (fun c2=>?_)⟩
   . refine ⟨_,Z,QX hl fun H' g=>?_⟩
     have:=q H' g
     unfold isName at this
     rw [c,c2,Bool.true_and,Bool.true_and] at this
     exact this
   . have:=q H (aE.refl _)
     unfold isName at this
     rw [c,mT.mpr c2,Bool.true_and,Bool.false_and] at this
     exact this
 . have:=q H (aE.refl _)
   unfold isName at this
   rw [mT.mpr c,Bool.false_and,Bool.false_and] at this
   exact ⟨_,Z,cV this⟩
abbrev pO:Stmt:=top 26
abbrev j9:List Str:=["amount"]
abbrev Gq:List Str:=j9
theorem EG:aJ Gq j9 (ay pO):=c8
theorem CT {e:Ec} (F:At K mg "check_amount" pO f fd) (uO:pN K e.rW) (kX:mg "BadNumber"=some (.ref e.rW)):Dx P w K mg base 1 "check_amount" j9 (EA e):=by
 refine F.LG EG fun cdv A outer s H vs Q E hr h=>?_
 obtain ⟨⟨a,rfl,h5,q⟩⟩:=h
 refine ⟨_,(@cI.h _ _ _ (au (cM (aT DG (qv 0) ah (a_ _)) (au (CQ uO (by rfl) kX)) aU))),?_⟩
 exact ⟨_,Z,_,_,Z,Z,_,Z,dm (fun c=>fun x=>h5 (dO c) x H (aE.refl _)) fun c=>q (by have:=o6 (mT.mpr c);omega)⟩
abbrev sN:Stmt:=top 27
abbrev lY:List Str:=["most","amount"]
abbrev LM:List Str:=lY
theorem IF:aJ LM lY (ay sN):=c8
theorem Gr {e:Ec} (F:At K mg "check_loss" sN f fd) (gj:Dx P w K mg base 1 "check_amount" j9 (EA e)) (yE:pN K e.Af) (oW:mg "TooMuch"=some (.ref e.Af)):Dx P w K mg base 2 "check_loss" lY (LI e):=by
 refine F.LG IF fun cdv A outer s H vs Q E hr h=>?_
 obtain ⟨⟨m,a,rfl,h5,h6,q⟩⟩:=h
 refine ⟨_,(@cI.h _ _ _ (ao (cW (LD gj hr (af (qv 1) ak)))
  (au (cM (aT ir (qv 1) (qv 0) (a_ _)) (au (CQ yE (by rfl) oW)) aU)))),?_⟩
 exact ⟨_,Z,⟨⟨a,Z,h5,fun h1=>⟨_,Z,_,Z,_,_,Z,Z,_,Z,dm (fun c=>fun x=>h6 h1 (dO c) x H (aE.refl _)) fun c=>q h1 (by have:=o6 (mT.mpr c);omega)⟩⟩⟩⟩
abbrev sO:Stmt:=top 25
abbrev pP:List Str:=["rows"]
abbrev LN:List Str:=pP.append ["amounts","name","amount"]
theorem nK:aJ LN pP (ay sO):=c8
theorem IG (F:At K mg "amounts_of" sO f fd) (bh:mg "len"=none):Dn P w K mg base 1 "amounts_of" pP (Tu K):=by
 refine F.oA nK fun cdv A outer s H vs Q E hr h=>?_
 obtain ⟨⟨l,us,rs,rfl,hl,hR,nd,hne,hle,q⟩⟩:=h
 refine ⟨_,(@cI.h _ _ _ (ao (aO (i:=1) nK.nd qI)
  (ao (dS ee rfl (dH K (qv 0)) (jg K (n:=2) rfl (cT (aR (i:=2) nK.nd) (cT (aR (i:=3) nK.nd) jf))) (ao (cM (xy (LC (bY hr) (qv 2) (qv 1))) (au jH) aU)
  (au (oV (bY hr) (qv 1) (qv 2) (qv 3) rfl))))
  (ao (cM (aT gR (aG zL (by rfl) bh dG (af (qv 1) ak)) ah (a_ _)) (au jH) aU)
  (au (aS (qv 1))))))),?_⟩
 intro d hd
 have g0:=aA hd (.dK [])
 have hd0:upd H d (.dK []) d=some (.dK (gY (rs.take 0))):=aj
 generalize upd H d (.dK [])=H0 at *
 have Uy:=hR.length
 refine ⟨_,Z,l,Z,⟨us,g0.seq hl⟩,?_⟩
 refine lQ (K:=K) (xs:=us) (fun i σ H'=>aE H H'/\H' d=some (.dK (gY (rs.take i)))/\∃s2 s3,σ=[some (.ref l),some (.ref d),s2,s3]) ⟨g0,hd0,_,_,Z⟩ (fun i σ H' _ hp=>hp.1.seq hl) ?_ ?_
 . rintro i x σ H' hx ⟨g,hd',s2,s3,rfl⟩
   obtain ⟨a,r,rfl,er,ha⟩:=hR.get hx
   have hnot:r.1∉(rs.take i).map (·.1):=by
    rw [AN]
    exact j5 nd (by rw [bJ,er];rfl)
   have hlt:(gY (rs.take i)).length<sizeLine:=by rw [ym,lq];exact eY (by omega)
   refine ⟨a,_,Z,cR.of (g _ _ ha),Z,_,_,Z,_,_,Z,Z,?_⟩
   refine ⟨_,Z,_,Z,d,_,Z,cO.k (k:=Sum.inr r.1) hd',_,Z,?_⟩
   rw [HQ hnot]
   refine cV ?_
   refine ⟨_,Z,_,Z,_,Z,d,_,Z,sj.k (k:=Sum.inr r.1) hd' hlt,g.cF hd _,?_,_,_,Z⟩
   rw [aj,nW _ (HQ hnot),take_snoc er]
   unfold gY
   rw [bL]
   rfl
 rintro σ H' ⟨g,hd',s2,s3,rfl⟩
 rw [Uy,cC] at hd'
 refine ⟨_,Z,d,_,Z,hd',Z,_,Z,?_⟩
 rw [ym]
 have hpos:0<rs.length:=List.length_pos_iff.mpr hne
 rw [d_ (fun e=>by have:=V.int.inj e;omega)]
 exact cV ⟨_,Z,q d H' g hd hd'⟩
abbrev n_:Stmt:=top 5
abbrev lH:List Str:=["step","tops"]
abbrev EH:List Str:=lH.append ["top"]
theorem oh:aJ EH lH (ay n_):=c8
theorem CU (F:At K mg "factor_of_all" n_ f fd) (iy:Dn P w K mg base 1 "common_factor" jy VM):Dn P w K mg base 2 "factor_of_all" lH (Tv K):=by
 refine F.oA oh fun cdv A outer s H vs Q E hr h=>?_
 obtain ⟨⟨s,l,ts,rfl,hl,h0,h1,q⟩⟩:=h
 refine ⟨_,(@cI.h _ _ _ (ao (dS ee rfl (dH K (qv 1)) (aR (i:=2) oh.nd) (au (aO (i:=0) oh.nd (aZ iy hr (af (qv 2) (af (qv 0) ak))))))
  (au (aS (qv 0))))),?_⟩
 refine ⟨_,Z,l,Z,⟨_,hl⟩,?_⟩
 refine lQ (K:=K) (xs:=ts.map V.int) (fun i σ H'=>H'=H/\0<=pL s (ts.take i)/\∃s2,σ=[some (.int (pL s (ts.take i))),some (.ref l),s2]) ⟨Z,h0,_,Z⟩ (fun i σ H' _ hp=>by rw [hp.1];exact hl) ?_ ?_
 . rintro i x σ H' hx ⟨rfl,hf,s2,rfl⟩
   obtain ⟨t,rfl,et⟩:=gJ hx
   have e1:pL s (ts.take (i+1))=Jm.cf t (pL s (ts.take i)):=by
    unfold pL
    rw [take_snoc et,J8]
    rfl
   refine ⟨_,Z,_,Z,t,_,Z,h1 t (bN et),hf,Z,?_,some (.int t),?_⟩
   . rw [e1];unfold Jm.cf;omega
   . rw [e1];rfl
 rintro σ H' ⟨rfl,hf,s2,rfl⟩
 rw [aF,cC]
 exact ⟨_,Z,q⟩
abbrev qK:Stmt:=inClass (top 4) 0
abbrev sP:List Str:=["self"]
abbrev II:List Str:=sP
theorem Gs:aJ II sP (ay qK):=c8
theorem Gu {T:TC} (F:HK K mg "Bottom" T.bot "Bottom.__init__" qK f fd) (X:Txt K T):Cn P w K mg base 1 "Bottom" T.bot sP (O0 T):=by
 refine F.oA Gs fun cdv A outer s H vs Q E hr h=>?_
 obtain ⟨⟨p,dx,rfl,hp,q⟩⟩:=h
 refine ⟨_,(@cI.h _ _ _ (ao (eO K (qv 0) (d7 ak))
  (ao (eO K (qv 0) ah)
  (au (eO K (qv 0) qI))))),?_⟩
 refine ⟨(iw 0),fun l hl=>?_⟩
 have n1:p≠l:=aI hp hl
 refine ⟨_,Z,p,T.bot,dx,_,Z,by rw [av n1];exact hp,X.cB,X.bst,by show 0<1000;decide,?_⟩
 refine ⟨_,Z,p,T.bot,dx,_,Z,aj,X.cB,X.Xg,by show 1<1000;decide,?_⟩
 intro d hd
 have n2:d≠p:=fun e=>by rw [e,aj] at hd;cases hd
 have n3:d≠l:=fun e=>by rw [e,av (cu n1),av (cu n1),aj] at hd;cases hd
 have hd0:H d=none:=by rw [av n2,av n2,av n3] at hd;exact hd
 refine ⟨_,Z,p,T.bot,dx,_,Z,by rw [av (cu n2)];exact aj,X.cB,X.Tf,by show 2<1000;decide,?_⟩
 refine q l d _ hl hd0 (cu n3) (fun b o e hb=>?_) aj ?_ ?_
 . rw [av hb,av (aI e hd0),av hb,av hb,av (aI e hl)];exact e
 . rw [av (cu n1),av (cu n3),av (cu n1),av (cu n1)];exact aj
 . rw [av n2];exact aj
abbrev uP:Stmt:=inClass (top 23) 0
abbrev wC:List Str:=["self","name","owner","worth","weight","scale","row"]
abbrev Ny:List Str:=wC
theorem LO:aJ Ny wC (ay uP):=c8
theorem LP {T:TC} (F:HK K mg "Part" T.part "Part.__init__" uP f fd) (X:Txt K T) (dz:mg "list"=none):Cn P w K mg base 1 "Part" T.part wC (O1 T K):=by
 refine F.oA LO fun cdv A outer s H vs Q E hr h=>?_
 obtain ⟨⟨p,dx,l,pt,rfl,hp,hl,q⟩⟩:=h
 refine ⟨_,(@cI.h _ _ _ (ao (eO K (qv 0) (qv 1))
  (ao (eO K (qv 0) (qv 2))
  (ao (eO K (qv 0) (qv 3))
  (ao (eO K (qv 0) (qv 4))
  (ao (eO K (qv 0) (qv 5))
  (au (eO K (qv 0) (oU (nH K) (by rfl) dz v7 (af (qv 6) ak)))))))))),?_⟩
 refine ⟨_,Z,_,Z,p,T.part,dx,_,Z,hp,X.cP,X.Xe,by show 0<1000;decide,?_⟩
 refine ⟨_,Z,_,Z,p,T.part,dx,_,Z,aj,X.cP,X.pow,by show 1<1000;decide,?_⟩
 refine ⟨_,Z,_,Z,p,T.part,dx,_,Z,aj,X.cP,X.HM,by show 2<1000;decide,?_⟩
 refine ⟨_,Z,_,Z,p,T.part,dx,_,Z,aj,X.cP,X.pwe,by show 3<1000;decide,?_⟩
 refine ⟨_,Z,_,Z,p,T.part,dx,_,Z,aj,X.cP,X.Te,by show 4<1000;decide,?_⟩
 simp only [t8]
 have hl1:∀o,aC K (upd H p o) l (pt.row.map V.int):=fun o=>by
  rcases hl with (h|⟨ob,h⟩)|h
  . exact .inl (.inl (by rw [av (iW h hp (by intro z;cases z))];exact h))
  . exact .inl (.inr ⟨ob,by rw [av (iW h hp (by intro z;cases z))];exact h⟩)
  . exact .inr h
 refine ⟨_,Z,l,_,Z, .inl (hl1 _),fun r hr2=>?_⟩
 have n1:r≠p:=fun e=>by rw [e,aj] at hr2;cases hr2
 refine ⟨_,Z,p,T.part,dx,_,Z,by rw [av (cu n1)];exact aj,X.cP,X.Xf,by show 5<1000;decide,?_⟩
 have hr0:H r=none:=by rw [av n1] at hr2;exact hr2
 refine q r _ hr0 (fun b o e hb=>?_) aj ?_
 . rw [av hb,av (aI e hr0),av hb];exact e
 . rw [av n1];exact aj
abbrev qL:Stmt:=inClass (top 4) 1
abbrev nL:List Str:=["self","step"]
abbrev IJ:List Str:=nL
theorem Gv:aJ IJ nL (ay qL):=c8
theorem Gw {T:TC} (F:iS K T.bot "grow" "Bottom.grow" qL f fd) (X:Txt K T):Mn P w K mg base 1 T.bot "grow" nL (Tw T):=by
 refine F.oA Gv fun cdv A outer s H vs Q E hr h=>?_
 obtain ⟨⟨n,ρ,A,st,s,rfl,g,h,hl,z1,z2,q⟩⟩:=h
 refine ⟨_,(@cI.h _ _ _ (au (fL (aT ir (qv 1) ah (a_ _)) (ao (cW (tY xO xK xM gX (bf K (qv 0)) (af (qv 1) ak)))
  (ao (yx K (qv 0) (qv 1) YD)
  (au (eO K (qv 0) qI)))) aU))),?_⟩
 refine ⟨fun σ' H'=>Q .bZ H',⟨_,Z,_,_,Z,Z,_,Z,dm (fun c=>?_) (fun c=>?_)⟩,fun _ _ z=>z⟩
 . have c':1<s:=dO c
   refine ⟨_,Z,A.bt,T.bot,A.db,_,_,Z,h.oO,X.cB,X.bst,Z, .inl ⟨Z,_,aC.of h.tO⟩,_,Z,A.sp,_,_,Z,Z,h.tO,by rw [aF];exact eY hl,?_⟩
   rw [show st.stp.map V.int++[V.int s]=(st.stp++[s]).map V.int from by rw [bL];rfl]
   have h1:=h.aa0 g (st.stp++[s])
   have g1:=g.wr (a:=A.sp) (o:= .lst ((st.stp++[s]).map V.int)) rfl
   have F1:Fr n ρ H ρ (upd H A.sp (.lst ((st.stp++[s]).map V.int))):=Fr.write h.jZ
   generalize upd H A.sp (.lst ((st.stp++[s]).map V.int))=H1 at *
   refine ⟨_,Z,A.bt,T.bot,A.db,_,_,Z,h1.oO,X.cB,X.Xg,Z,_,Z,_,_,Z,Z,jc z1 z2,A.db,_,h1.oO,by show 3<1000;decide,?_⟩
   intro kn hkn
   have nb:kn≠A.bt:=fun e=>by rw [e,aj] at hkn;cases hkn
   have CV:H1 kn=none:=by rw [av nb] at hkn;exact hkn
   have j0:ρ kn=none:=g1.none CV
   refine ⟨_,Z,A.bt,T.bot,A.db,_,Z,by rw [av (cu nb)];exact aj,X.cB,X.Tf,by show 3<1000;decide,?_⟩
   have eH:upd (upd (upd H1 A.bt (.ins T.bot A.db (aV "product" (.int (st.prod*s)) (ye A.sp st.prod A.kn)))) kn (.dK [])) A.bt (.ins T.bot A.db (aV "known" (.ref kn) (aV "product" (.int (st.prod*s)) (ye A.sp st.prod A.kn))))=upd (upd H1 kn (.dK [])) A.bt (.ins T.bot A.db (ye A.sp (st.prod*s) kn)):=by
    rw [kC (cu nb),t8]
    rfl
   have k2:Kp n ρ (cK ρ kn (n,9,⟨#[]⟩)) H1 (upd H1 kn (.dK [])) (fun _=>true):=⟨(aA CV _).tups,fun b t x o _ c e=>⟨aA CV _ _ _ e,by rw [cy (aI e CV)];exact c⟩⟩
   have h2:=h1.same k2
   have g2:Gh (cK ρ kn (n,9,⟨#[]⟩)) (upd H1 kn (.dK [])):=(g1.alloc CV).color aj rfl
   have F2:Fr n ρ H1 (cK ρ kn (n,9,⟨#[]⟩)) (upd H1 kn (.dK [])):=Fr.color CV (aA CV _)
   have h3:=h2.aa3 g2 (st.prod*s) kn aj dM
   have es:fP st s={ { st with stp:=st.stp++[s] } with prod:=st.prod*s,kn:=0 }:=by
    unfold fP
    rw [aB c']
   rw [es] at q
   show Q .bZ _
   refine (show _=_ from eH)▸?_
   exact q _ _ _ (g2.wr rfl) h3 rfl (F1.trans (F2.trans (Fr.write h2.jX)))
 . have c':¬ 1<s:=o6 (mT.mpr c)
   have es:fP st s=st:=by unfold fP;rw [az c']
   rw [es] at q
   exact q ρ A H g h rfl Fr.refl
abbrev oj:Stmt:=inClass (top 24) 19
abbrev lI:List Str:=["self","owner"]
abbrev EI:List Str:=lI
theorem CW:aJ EI lI (ay oj):=c8
theorem CY {T:TC} (F:iS K T.hold "place_of" "Hold.place_of" oj f fd) (X:Txt K T):Mn P w K mg base 1 T.hold "place_of" lI (O3 T):=by
 refine F.oA CW fun cdv A outer s H vs Q E hr h=>?_
 obtain ⟨⟨n,ρ,A,st,o,rfl,h,ho,q⟩⟩:=h
 refine ⟨_,(@cI.h _ _ _ (ao (cM (xy (Ai (bY hr) (qv 1) (bf K (qv 0)))) (au jH) aU)
  (au (aS (bU (bY hr) (bf K (qv 0)) (qv 1)))))),?_⟩
 have hv:=OY (i:=0) ho
 refine ⟨_,Z,_,Z,A.a,T.hold,A.dx,_,_,Z,h.oa,X.cH,X.hpl,Z,A.pl,_,Z,cO.k (k:=Sum.inr o) h.i8,_,Z,?_⟩
 rw [hv]
 refine cV ?_
 refine ⟨_,Z,A.a,T.hold,A.dx,_,_,Z,h.oa,X.cH,X.hpl,Z,_,Z,A.pl,_,Z,hv▸cO.k (k:=Sum.inr o) h.i8,?_⟩
 rw [Nat.zero_add]
 exact q
abbrev pQ:Stmt:=inClass (top 24) 20
abbrev gK:List Str:=["self","name"]
abbrev Gx:List Str:=gK
theorem EJ:aJ Gx gK (ay pQ):=c8
theorem CZ {T:TC} {e:Ec} (F:iS K T.hold "part_of" "Hold.part_of" pQ f fd) (X:Txt K T) (Am:pN K e.rV) (qM:mg "NoPart"=some (.ref e.rV)):Mx P w K mg base 1 T.hold "part_of" gK (vO T e):=by
 refine F.LG EJ fun cdv A outer s H vs Q E hr h=>?_
 obtain ⟨⟨n,ρ,A,st,x,rfl,hA,nd,q2,k⟩⟩:=h
 refine ⟨_,(@cI.h _ _ _ (ao (cM (xy (Ai (bY hr) (qv 1) (bf K (qv 0)))) (au (CQ Am (by rfl) qM)) aU)
  (au (aS (bU (bY hr) (bf K (qv 0)) (qv 1)))))),?_⟩
 refine ⟨_,Z,_,Z,A.a,T.hold,A.dx,_,_,Z,hA.oa,X.cH,X.hab,Z,A.ab,_,Z,cO.k (k:=Sum.inr x) hA.ef,_,Z,?_⟩
 by_cases hx:∃p∈st.ai,p.nm=x
 . obtain ⟨p,hp,rfl⟩:=hx
   obtain ⟨i,hi,ep⟩:=List.mem_iff_getElem.mp hp
   have wW:st.ai[i]?=some p:=by rw [aX hi,ep]
   obtain ⟨qq,eq,_⟩:=hA.find wW
   have hv:=xr nd wW eq
   rw [hv]
   refine cV ?_
   exact ⟨_,Z,A.a,T.hold,A.dx,_,_,Z,hA.oa,X.cH,X.hab,Z,_,Z,A.ab,_,Z,hv▸cO.k (k:=Sum.inr p.nm) hA.ef,k i p qq rfl wW eq⟩
 . have hn:∀p∈st.ai,p.nm≠x:=fun p hp z=>hx ⟨p,hp,z⟩
   rw [uA hn]
   exact qC fun y=>q2 hn y H (aE.refl _)
abbrev mZ:Stmt:=inClass (top 24) 21
abbrev kH:List Str:=["self","name"]
abbrev C0:List Str:=kH
theorem Bp:aJ C0 kH (ay mZ):=c8
theorem Bq {T:TC} (F:iS K T.hold "check_new" "Hold.check_new" mZ f fd) (X:Txt K T) (oX:Dn P w K mg base 2 "is_name" r_ yb):Mn P w K mg base 3 T.hold "check_new" kH (Ed T):=by
 refine F.oA Bp fun cdv A outer s H vs Q E hr h=>?_
 obtain ⟨⟨n,ρ,A,st,x,rfl,h,hx,hn,q⟩⟩:=h
 refine ⟨_,(@cI.h _ _ _ (ao (cM (dJ (dw (aZ oX hr (af (qv 1) ak)))) (au jH) aU)
  (au (cM (xy (LC (bY hr) (qv 1) (bf K (qv 0)))) (au jH) aU)))),?_⟩
 refine ⟨_,Z,D3 (cs:=x.cps.toList) (K5 hx) fun H1 g1=>⟨_,Z,?_⟩⟩
 rw [show isName x.cps.toList=true from hx]
 refine cV ?_
 have h1:=h.mono g1
 refine ⟨_,Z,_,Z,A.a,T.hold,A.dx,_,_,Z,h1.oa,X.cH,X.hnm,Z,A.nm,_,Z,cO.k (k:=Sum.inr x) h1.uw,_,Z,?_⟩
 rw [zW hn]
 exact cV (q H1 g1)
abbrev qN:Stmt:=inClass (top 24) 10
abbrev nM:List Str:=["self"]
abbrev IK:List Str:=nM
theorem Gy:aJ IK nM (ay qN):=c8
theorem Gz {T:TC} (F:iS K T.hold "roster" "Hold.roster" qN f fd) (X:Txt K T) (dz:mg "list"=none):Mn P w K mg base 1 T.hold "roster" nM (K2 T):=by
 refine F.oA Gy fun cdv A outer s H vs Q E hr h=>?_
 obtain ⟨⟨n,ρ,A,st,rfl,h,q⟩⟩:=h
 refine ⟨_,(@cI.h _ _ _ (au (aS (oU (Q5 rfl) (by rfl) dz v7 (af (bf K (qv 0)) ak))))),?_⟩
 refine ⟨_,Z,A.a,T.hold,A.dx,_,_,Z,h.oa,X.cH,X.hpl,Z,A.pl,_,Z, .inl h.i8,fun l hl=>?_⟩
 rw [CC]
 exact q l hl
abbrev sQ:Stmt:=inClass (top 24) 11
abbrev pR:List Str:=["self"]
abbrev LQ:List Str:=pR
theorem IL:aJ LQ pR (ay sQ):=c8
theorem IM {T:TC} (F:iS K T.hold "parts" "Hold.parts" sQ f fd) (X:Txt K T):Mn P w K mg base 1 T.hold "parts" pR (O6 T):=by
 refine F.oA IL fun cdv A outer s H vs Q E hr h=>?_
 obtain ⟨⟨n,ρ,A,st,rfl,h,hl,q⟩⟩:=h
 refine ⟨_,(@cI.h _ _ _ (au (aS (LB (gr ["part"] [none] rfl (Bh (bf K (qv 0))) (fun _ _ _ _=>(aR (i:=0) (show List.Nodup (["part"] :List Str) from by decide +kernel))) (fun _ _ _ _=>(g_ (af (bf K (qv 0)) (af (bf K (qv 0)) (af (bf K (qv 0)) (af (bf K (qv 0)) ak)))))) rfl (by rfl)))))),?_⟩
 refine ⟨A.ab,_,h.ef,fun o=>?_⟩
 refine ⟨_,Z,A.a,T.hold,A.dx,_,_,Z,eZ h.ef h.oa (fun k z=>by cases z),X.cH,X.hab,Z,A.ab,o,_,Z,aj,fun acc hacc=>?_⟩
 have el:=xo h.ql
 refine iR (n:=st.ai.length) 0 (fun i out H1=>aE (upd H A.ab (.fm o (.dK (cX st.ai A.qs)))) H1/\jO H1 out (st.ai.take i)) (by omega) ⟨aA hacc _, .nil⟩ (fun i out H1 hi _ hp=>⟨hp.1 _ _ aj,by rw [el];exact hi⟩) (fun out H1 _ hp=>⟨hp.1 _ _ aj,by rw [el];exact aP _⟩) ?_ ?_
 . rintro i x out H1 H2 hi eL ha ⟨g,hP⟩ ⟨rfl,kv,hkv,rfl⟩
   have ep:=aX hi
   obtain ⟨qq,eq,h1,h2,_⟩:=h.find ep
   rw [xm ep eq] at hkv
   cases hkv
   have hq:=g _ _ (eZ h.ef h1 (fun k z=>by cases z))
   refine ⟨_,Z,qq.1,T.part,qq.2.1,_,_,Z,hq,X.cP,X.Xe,Z,_,Z,qq.1,T.part,qq.2.1,_,_,Z,hq,X.cP,X.pow,Z,_,Z,qq.1,T.part,qq.2.1,_,_,Z,hq,X.cP,X.HM,Z,_,Z,qq.1,T.part,qq.2.1,_,_,Z,hq,X.cP,X.pwe,Z,(iw 4),fun t ht=>?_⟩
   have g1:=aA ht (Be st.ai[i])
   refine ⟨g1 _ _ ha,(g.trans g1).cF hacc _,?_⟩
   rw [take_snoc ep]
   exact ((hP.mono g1.tups).snoc aj).mono (kW (.inr ⟨_,g1 _ _ ha,Z⟩))
 rintro out H1 eL ha ⟨g,hP⟩
 rw [cC] at hP
 have hz:=g _ _ (aj (H:=H) (a:=A.ab) (o:= .fm o (.dK (cX st.ai A.qs))))
 have na:acc≠A.ab:=fun e=>by rw [e,hz] at ha;cases ha
 exact ⟨hz,q acc out _ (uB h.ef g) (nX h.ef hacc) (by rw [av na];exact ha) (hP.mono (kW (.inr ⟨_,hz,Z⟩)))⟩
abbrev sR:Stmt:=inClass (top 24) 13
abbrev lZ:List Str:=["self"]
abbrev LR:List Str:=lZ
theorem IP:aJ LR lZ (ay sR):=c8
theorem IQ {T:TC} (F:iS K T.hold "whole" "Hold.whole" sR f fd) (X:Txt K T) (fQ:mg "sum"=none):Mn P w K mg base 1 T.hold "whole" lZ (Gb T):=by
 refine F.oA IP fun cdv A outer s H vs Q E hr h=>?_
 obtain ⟨⟨n,ρ,A,st,rfl,h,hl,q⟩⟩:=h
 refine ⟨_,(@cI.h _ _ _ (au (aS (aG (lT K rfl) (by rfl) fQ xP (af (LB (gr ["part"] [none] rfl (Bh (bf K (qv 0))) (fun _ _ _ _=>(aR (i:=0) (show List.Nodup (["part"] :List Str) from by decide +kernel))) (fun _ _ _ _=>(bf K (qv 0))) rfl (by rfl))) ak))))),?_⟩
 refine ⟨A.ab,_,h.ef,fun o=>?_⟩
 refine ⟨_,Z,A.a,T.hold,A.dx,_,_,Z,eZ h.ef h.oa (fun k z=>by cases z),X.cH,X.hab,Z,A.ab,o,_,Z,aj,fun acc hacc=>?_⟩
 have el:=xo h.ql
 refine iR (n:=st.ai.length) 0 (fun i out H1=>aE (upd H A.ab (.fm o (.dK (cX st.ai A.qs)))) H1/\out=((st.ai.take i).map (·.wo)).map V.int) (by omega) ⟨aA hacc _,Z⟩ (fun i out H1 hi _ hp=>⟨hp.1 _ _ aj,by rw [el];exact hi⟩) (fun out H1 _ hp=>⟨hp.1 _ _ aj,by rw [el];exact aP _⟩) ?_ ?_
 . rintro i x out H1 H2 hi eL ha ⟨g,e⟩ ⟨rfl,kv,hkv,rfl⟩
   have ep:=aX hi
   obtain ⟨qq,eq,h1,h2,_⟩:=h.find ep
   rw [xm ep eq] at hkv
   cases hkv
   have hq:=g _ _ (eZ h.ef h1 (fun k z=>by cases z))
   refine ⟨_,Z,qq.1,T.part,qq.2.1,_,_,Z,hq,X.cP,X.HM,Z,ha,g.cF hacc _,?_⟩
   rw [take_snoc ep,e,bL,bL]
   rfl
 rintro out H1 eL ha ⟨g,e⟩
 rw [cC] at e
 have hz:=g _ _ (aj (H:=H) (a:=A.ab) (o:= .fm o (.dK (cX st.ai A.qs))))
 have na:acc≠A.ab:=fun e=>by rw [e,hz] at ha;cases ha
 exact ⟨hz,acc,st.ai.map (fun p:Pt=>p.wo),Z,aC.of (by rw [av na,ha,e]),q _ (uB h.ef g)⟩
abbrev j_:Stmt:=inClass (top 24) 25
abbrev iH:List Str:=["self","tops"]
abbrev yF:List Str:=iH
theorem xC:aJ yF iH (ay j_):=c8
theorem xD {T:TC} (F:iS K T.hold "beyond_common" "Hold.beyond_common" j_ f fd) (X:Txt K T) (jQ:mg "zip"=none):Mn P w K mg base 1 T.hold "beyond_common" iH (Xh T K):=by
 refine F.oA xC fun cdv A outer s H vs Q E hr h=>?_
 obtain ⟨⟨n,ρ,A,st,l,tops,rfl,h,hS,Xz,hle,q⟩⟩:=h
 refine ⟨_,(@cI.h _ _ _ (au (aS (gr ["top","common"] [none,none] rfl (ua K (by rfl) jQ (af (qv 1) (af (bf K (qv 0)) ak))) (fun _ _ _ _=>(jg K (n:=2) rfl (cT (aR (i:=0) (show List.Nodup (["top","common"] :List Str) from by decide +kernel)) (cT (aR (i:=1) (show List.Nodup (["top","common"] :List Str) from by decide +kernel)) jf)))) (fun _ _ _ _=>(aD kO (qv 0) (qv 1))) rfl (by rfl))))),?_⟩
 refine ⟨_,Z,_,Z,A.a,T.hold,A.dx,_,_,Z,h.oa,X.cH,X.BW,Z,_,_,_,_,_,_,Z, .lst hS, .lst (aC.of h.jY),fun acc hacc=>?_⟩
 refine zS (K:=K) (n:=tops.length) [0,1] (fun i out H1=>aE H H1/\out=(List.zipWith (fun t c=>t-c) (tops.take i) (st.bR.take i)).map V.int) (by decide) (by omega) ⟨aA hacc _,Z⟩ (fun i out H1 hi _ hp=>⟨hp.1.seq hS,hp.1.seq (aC.of h.jY),by rw [aF];exact hi,by rw [aF];omega⟩)
  (fun out H1 _ hp=>⟨hp.1.seq hS,hp.1.seq (aC.of h.jY), .inl (by rw [aF];exact aP _)⟩) ?_ ?_
 . rintro i x out H1 H2 hi eL ha ⟨g,e⟩ ⟨p,x1,y1,hp,rfl,rfl,e1,e2⟩
   obtain ⟨t,rfl,et⟩:=gJ e1
   obtain ⟨c,rfl,ec⟩:=gJ e2
   have g1:=aA hp (.tup [.int t, .int c])
   refine ⟨p,_,Z,cR.of aj,Z,_,Z,_,Z,_,_,Z,Z,g1 _ _ ha,(g.trans g1).cF hacc _,?_⟩
   rw [oQ _ et ec,e,bL]
   rfl
 rintro out H1 eL ha ⟨g,e⟩
 rw [cC,Xz,cC] at e
 exact q acc H1 g hacc (by rw [ha,e];rfl)
abbrev pS:Stmt:=inClass (top 24) 24
abbrev mP:List Str:=["self","part"]
abbrev GA:List Str:=mP
theorem EK:aJ GA mP (ay pS):=c8
theorem EL {T:TC} (F:iS K T.hold "tops_of" "Hold.tops_of" pS f fd) (X:Txt K T) (jQ:mg "zip"=none):Mn P w K mg base 1 T.hold "tops_of" mP (O4 T):=by
 refine F.oA EK fun cdv A outer s H vs Q E hr h=>?_
 obtain ⟨⟨n,ρ,A,st,ip,pt,qq,rfl,h,wf,ep,eq,q⟩⟩:=h
 obtain ⟨h1,h2,_⟩:=h.opt ip pt qq ep eq
 have i9:=bN ep
 refine ⟨_,(@cI.h _ _ _ (au (aS (gr ["own","common","part"] [none,none,some 1] rfl (ua K (by rfl) jQ (af (bf K (qv 1)) (af (bf K (qv 0)) ak))) (fun _ _ _ _=>(jg K (n:=2) rfl (cT (aR (i:=0) (show List.Nodup (["own","common","part"] :List Str) from by decide +kernel)) (cT (aR (i:=1) (show List.Nodup (["own","common","part"] :List Str) from by decide +kernel)) jf)))) (fun _ _ _ _=>(aD bQ (aD jV (bf K (qv 2)) (qv 0)) (qv 1))) rfl (by rfl))))),?_⟩
 have erl:pt.row.length=st.bR.length:=by rw [wf.rows pt i9,wf.jb]
 have hcl:st.bR.length<=100:=by rw [wf.jb];exact wf.sJ
 refine ⟨_,Z,qq.1,T.part,qq.2.1,_,_,Z,h1,X.cP,X.Xf,Z,_,Z,A.a,T.hold,A.dx,_,_,Z,h.oa,X.cH,X.BW,Z,_,_,_,_,_,_,Z, .lst (aC.of h2), .lst (aC.of h.jY),fun acc hacc=>?_⟩
 refine zS (K:=K) (n:=pt.row.length) [0,1] (fun i out H1=>aE H H1/\out=(List.zipWith (fun r c=>pt.sc*r+c) (pt.row.take i) (st.bR.take i)).map V.int) (by decide) (by omega) ⟨aA hacc _,Z⟩ (fun i out H1 hi _ hp=>⟨hp.1.seq (aC.of h2),hp.1.seq (aC.of h.jY),by rw [aF];exact hi,by rw [aF];omega⟩)
  (fun out H1 _ hp=>⟨hp.1.seq (aC.of h2),hp.1.seq (aC.of h.jY), .inl (by rw [aF];exact aP _)⟩) ?_ ?_
 . rintro i x out H1 H2 hi eL ha ⟨g,e⟩ ⟨p,x1,y1,hp,rfl,rfl,e1,e2⟩
   obtain ⟨t,rfl,et⟩:=gJ e1
   obtain ⟨c,rfl,ec⟩:=gJ e2
   have g1:=aA hp (.tup [.int t, .int c])
   have s1:Jm.Sz 8000 pt.sc:=Jm.Sz.pF (by have:=wf.vI pt i9;have:=wf.iX;omega) (wf.vI pt i9).2 wf.big
   have s2:Jm.Sz 8000 t:=Jm.Sz.pF (wf.sM pt i9 t (bN et)).1 (wf.sM pt i9 t (bN et)).2 wf.big
   refine ⟨p,_,Z,cR.of aj,Z,_,Z,qq.1,T.part,qq.2.1,_,_,Z,(g.trans g1) _ _ h1,X.cP,X.Te,Z,_,Z,_,_,Z,Z,jc s1 s2,_,Z,_,_,Z,Z,g1 _ _ ha,(g.trans g1).cF hacc _,?_⟩
   rw [oQ _ et ec,e,bL]
   rfl
 rintro out H1 eL ha ⟨g,e⟩
 rw [cC,erl,cC] at e
 exact q acc H1 g hacc (by rw [ha,e];rfl)
abbrev uQ:Stmt:=inClass (top 24) 22
abbrev rD:List Str:=["self","part"]
abbrev Nz:List Str:=rD
theorem LS:aJ Nz rD (ay uQ):=c8
theorem LU {T:TC} (F:iS K T.hold "stow" "Hold.stow" uQ f fd) (X:Txt K T):Mn P w K mg base 1 T.hold "stow" rD (Ti T):=by
 refine F.oA LS fun cdv A outer s H vs Q E hr h=>?_
 obtain ⟨⟨n,ρ,A,st,qq,p,rfl,hh,h1,h2,c1,c2,hn,wf',q⟩⟩:=h
 have h:=hh.h
 refine ⟨_,(@cI.h _ _ _ (ao (oV (bY hr) (bf K (qv 0)) (bf K (qv 1)) (qv 1) rfl)
  (au (oV (bY hr) (bf K (qv 0)) (bf K (qv 1)) fD rfl)))),?_⟩
 have An:∀x∈st.ai,x.nm≠p.nm:=fun x hx e=>hn (by rw [<-e];exact hh.wf.sub x hx)
 have lab:(cX st.ai A.qs).length<sizeLine:=by rw [xo h.ql];exact eY hh.wf.wm
 refine ⟨_,Z,_,Z,A.a,T.hold,A.dx,_,_,Z,h.oa,X.cH,X.hab,Z,_,Z,qq.1,T.part,qq.2.1,_,_,Z,h1,X.cP,X.Xe,Z,A.ab,_,Z,sj.k (k:=Sum.inr p.nm) h.ef lab,?_⟩
 rw [nW _ (uA An),<-V4 h.ql p qq]
 have k1:qq.1≠qq.2.2:=iW h1 h2 (by intro z;cases z)
 have f1:Kp n ρ (cK (cK ρ qq.1 (n,20,p.nm)) qq.2.2 (n,21,p.nm)) H H (fun _=>true):=⟨fun _ _ e=>e,fun b t x o _ c e=>⟨e,by
  rw [cy (fun z=>by rw [z,c2] at c;cases c),cy (fun z=>by rw [z,c1] at c;cases c)];exact c⟩⟩
 have hc:=h.same f1
 have g1:Gh (cK (cK ρ qq.1 (n,20,p.nm)) qq.2.2 (n,21,p.nm)) H:=(hh.g.color h1 rfl).color h2 rfl
 have fr1:K1 n qq.1 qq.2.2 ρ H (cK (cK ρ qq.1 (n,20,p.nm)) qq.2.2 (n,21,p.nm)) H:=fun b o e k n1 n2=>⟨e,by rw [cy n2,cy n1]⟩
 have hs:=hc.Td g1 (st.ai++[p]) (A.qs++[qq]) (by rw [di,di,h.ql];rfl) (fun i x y ex ey=>by
  by_cases hi:i<st.ai.length
  . rw [J1 hi] at ex
    rw [J1 (by rw [h.ql];exact hi)] at ey
    exact hc.opt i x y ex ey
  . rw [J0 (by omega)] at ex
    rw [J0 (by rw [h.ql];omega),h.ql] at ey
    have e0:i-st.ai.length=0:=by
     rcases Nat.eq_zero_or_pos (i-st.ai.length) with z|z
     . exact z
     . rw [uf (by show 1<=_;exact z)] at ex;cases ex
    rw [e0] at ex ey
    cases ex;cases ey
    exact ⟨h1,h2,by rw [cy k1];exact dM,dM⟩)
 have g2:=g1.wr (a:=A.ab) (o:= .dK (cX (st.ai++[p]) (A.qs++[qq]))) rfl
 have fr2:Fr n _ H _ (upd H A.ab (.dK (cX (st.ai++[p]) (A.qs++[qq])))):=Fr.write hc.gO
 have OZ:upd H A.ab (.dK (cX (st.ai++[p]) (A.qs++[qq]))) qq.1=some (.ins T.part qq.2.1 (lU p qq.2.2)):=by rw [av (iW h1 h.ef (by intro z;cases z))];exact h1
 refine ⟨_,Z,A.a,T.hold,A.dx,_,_,Z,hs.oa,X.cH,X.hnm,Z,_,Z,qq.1,T.part,qq.2.1,_,_,Z,OZ,X.cP,X.Xe,Z,A.nm,_,Z,sj.k (k:=Sum.inr p.nm) hs.uw (by unfold xj;rw [aF];exact eY hh.wf.CB),?_⟩
 rw [nW _ (zW hn),show xj st.nms++[(Sum.inr p.nm,V.bl true)]=xj (st.nms++[p.nm]) from by unfold xj;rw [bL];rfl]
 have hs2:=hs.aaX g2 (st.nms++[p.nm])
 exact q _ _ _ ⟨g2.wr rfl,hs2,wf'⟩ rfl (fr1.trans (fr2.trans (Fr.write hs.jW)))
abbrev uR:Stmt:=inClass (top 24) 1
abbrev rE:List Str:=["self","owner"]
abbrev NB:List Str:=rE.append ["part"]
theorem Ao:aJ NB rE (ay uR):=c8
theorem LV {T:TC} (F:iS K T.hold "sign" "Hold.sign" uR f fd) (X:Txt K T) (oX:Dn P w K mg base 2 "is_name" r_ yb) (bh:mg "len"=none):Mn P w K mg base 3 T.hold "sign" rE (O5 T):=by
 refine F.oA Ao fun cdv A outer s H vs Q E hr h=>?_
 obtain ⟨⟨n,ρ,A,st,o,rfl,hh,hx,hn,hl,q⟩⟩:=h
 refine ⟨_,(@cI.h _ _ _ (ao (cM (dJ (dw (aZ oX hr (af (qv 1) ak)))) (au jH) aU)
  (ao (cM (xy (LC (bY hr) (qv 1) (bf K (qv 0)))) (au jH) aU)
  (ao (oV (bY hr) (bf K (qv 0)) (qv 1) (aG zL (by rfl) bh dG (af (bf K (qv 0)) ak)) rfl)
  (ao (cW (tY xO xK xM gX (bf K (qv 0)) (af ah ak)))
  (ao (cW (tY xO xK xM gX (bf K (qv 0)) (af ah ak)))
  (au (xB (dS ee rfl (Bh (bf K (qv 0))) (aR (i:=2) Ao.nd) (au (cW (tY xO xK xM gX (bf K (qv 2)) (af ah ak))))))))))))),?_⟩
 refine ⟨_,Z,D3 (cs:=o.cps.toList) (K5 hx) fun H1 g1=>⟨_,Z,?_⟩⟩
 rw [show isName o.cps.toList=true from hx]
 refine cV ?_
 have gw:=hh.mono g1
 have h1:=gw.h
 have F1:Fr n ρ H ρ H1:=Fr.of_same g1
 refine ⟨_,Z,_,Z,A.a,T.hold,A.dx,_,_,Z,h1.oa,X.cH,X.hpl,Z,A.pl,_,Z,cO.k (k:=Sum.inr o) h1.i8,_,Z,?_⟩
 rw [uz hn]
 refine cV ?_
 have PF:=tW st.own 0
 refine ⟨_,Z,A.a,T.hold,A.dx,_,_,Z,h1.oa,X.cH,X.hpl,Z,A.pl,_,Z,h1.i8,_,Z,A.a,T.hold,A.dx,_,_,Z,h1.oa,X.cH,X.hpl,Z,_,Z,A.pl,_,Z,sj.k (k:=Sum.inr o) h1.i8 (eY (by rw [PF];omega)),?_⟩
 rw [nW _ (uz hn),PF,show fK 0 st.own++[(Sum.inr o,V.int (st.own.length:Int))]=fK 0 (st.own++[o]) from by rw [K0,Nat.zero_add]]
 have h2:=h1.aaW gw.g (st.own++[o])
 have G2:=gw.g.wr (a:=A.pl) (o:= .dK (fK 0 (st.own++[o]))) rfl
 have F2:=F1.trans (Fr.write (o:= .dK (fK 0 (st.own++[o]))) h1.jJ)
 generalize upd H1 A.pl (.dK (fK 0 (st.own++[o])))=H2 at *
 have lcm:(st.bR.map V.int).length<sizeLine:=by rw [aF,hh.wf.jb];exact eY (by omega)
 refine ⟨_,Z,A.a,T.hold,A.dx,_,_,Z,h2.oa,X.cH,X.BW,Z, .inl ⟨Z,_,aC.of h2.jY⟩,A.cm,_,_,Z,Z,h2.jY,lcm,?_⟩
 rw [show st.bR.map V.int++[V.int 0]=(st.bR++[0]).map V.int from by rw [bL];rfl]
 have h3:=h2.aaY G2 (st.bR++[0])
 have G3:=G2.wr (a:=A.cm) (o:= .lst ((st.bR++[0]).map V.int)) rfl
 have F3:=F2.trans (Fr.write (o:= .lst ((st.bR++[0]).map V.int)) h2.kP)
 generalize upd H2 A.cm (.lst ((st.bR++[0]).map V.int))=H3 at *
 have lpu:(st.dg.map V.int).length<sizeLine:=by rw [aF,hh.wf.yg];exact eY (by omega)
 refine ⟨_,Z,A.a,T.hold,A.dx,_,_,Z,h3.oa,X.cH,X.KY,Z, .inl ⟨Z,_,aC.of h3.qu⟩,A.pu,_,_,Z,Z,h3.qu,lpu,?_⟩
 rw [show st.dg.map V.int++[V.int 0]=(st.dg++[0]).map V.int from by rw [bL];rfl]
 have h4:=h3.aaZ G3 (st.dg++[0])
 have G4:=G3.wr (a:=A.pu) (o:= .lst ((st.dg++[0]).map V.int)) rfl
 have F4:=F3.trans (Fr.write (o:= .lst ((st.dg++[0]).map V.int)) h3.cpu)
 generalize upd H3 A.pu (.lst ((st.dg++[0]).map V.int))=H4 at *
 clear h1 h2 h3 G2 G3 F2 F3 gw
 have hpl:=hh.wf.wm
 refine ⟨A.ab,_,h4.ef,fun ob=>?_⟩
 refine ⟨_,Z,A.a,T.hold,A.dx,_,_,Z,eZ h4.ef h4.oa (fun k z=>by cases z),X.cH,X.hab,Z,A.ab,ob,_,Z,aj,?_⟩
 have el:=xo h4.ql
 have el0:(cX st.ai A.qs).length=st.ai.length:=el
 refine ur (n:=st.ai.length) (fun i σ H'=>(∃s2,σ=[some (.ref A.a),some (.str o),s2])/\oN H' A.ab ob (cX st.ai A.qs)/\∃H5,H'=upd H5 A.ab (.fm ob (.dK (cX st.ai A.qs)))/\Gh ρ H5/\Fr n ρ H ρ H5/\
   aY T n ρ A H5 { st with own:=st.own++[o],bR:=st.bR++[0],dg:=st.dg++[0],ai:=(st.ai.take i).map (fun p=>{ p with row:=p.row++[0] })++st.ai.drop i })
  ⟨⟨_,Z⟩,aj,H4,Z,G4,F4,h4⟩ (fun i σ H' hi hp=>⟨hp.2.1,by rw [el0];exact hi⟩) (fun σ H' hp=>⟨hp.2.1,by rw [el0];exact aP _⟩) ?_ ?_
 . rintro i x σ H' Ef hi ⟨⟨s2,rfl⟩,hz,H5,rfl,G5,F5,h5⟩ ⟨rfl,kv,hkv,rfl⟩
   have ep:=aX hi
   have Cd:=K6 (fun p:Pt=>{ p with row:=p.row++[0] }) ep
   obtain ⟨qq,eq,k1,k2,k3,k4⟩:=h5.find Cd
   rw [xm ep eq] at hkv
   cases hkv
   have XA:=qD (fun p:Pt=>{ p with row:=p.row++[0] }) (fun p:Pt=>p.nm) (fun _=>rfl) st.ai i
   have nd5:(((st.ai.take i).map (fun p:Pt=>{ p with row:=p.row++[0] })++st.ai.drop i).map (fun p:Pt=>p.nm)).Nodup:=by rw [XA];exact hh.wf.kB
   have z1:=eZ (o:=ob) h5.ef k1 (fun k z=>by cases z)
   have z2:=eZ (o:=ob) h5.ef k2 (fun k z=>by cases z)
   rw [show cX ({ st with own:=st.own++[o],bR:=st.bR++[0],dg:=st.dg++[0],ai:=(st.ai.take i).map (fun p:Pt=>{ p with row:=p.row++[0] })++st.ai.drop i }:HS).ai A.qs=cX st.ai A.qs from oR XA] at z1 z2
   have hrl:((st.ai[i]).row.map V.int).length<sizeLine:=by rw [aF,hh.wf.rows _ (tR hi)];exact eY (by omega)
   refine ⟨_,Z,qq.1,T.part,qq.2.1,_,_,Z,z1,X.cP,X.Xf,Z, .inl ⟨Z,_,aC.of z2⟩,qq.2.2,_,_,Z,Z,z2,hrl,?_⟩
   have na:A.ab≠qq.2.2:=(iW k2 h5.ef (by intro z;cases z)).symm
   rw [show (st.ai[i]).row.map V.int++[V.int 0]=((st.ai[i]).row++[0]).map V.int from by rw [bL];rfl]
   have h6:=h5.YF G5 ((st.ai[i]).row++[0]) Cd eq nd5
   rw [show ({ st with own:=st.own++[o],bR:=st.bR++[0],dg:=st.dg++[0],ai:=(st.ai.take i).map (fun p:Pt=>{ p with row:=p.row++[0] })++st.ai.drop i }:HS).ai.set i { st.ai[i] with row:=(st.ai[i]).row++[0] }=_ from K7 (fun p:Pt=>{ p with row:=p.row++[0] }) ep] at h6
   exact ⟨⟨_,Z⟩,(av na).trans hz,_,kC na,G5.wr rfl,F5.trans (Fr.write k4),h6⟩
 . rintro σ H' ⟨_,hz,H5,rfl,G5,F5,h5⟩
   have XA:=qD (fun p:Pt=>{ p with row:=p.row++[0] }) (fun p:Pt=>p.nm) (fun _=>rfl) st.ai st.ai.length
   have e5:cX ({ st with own:=st.own++[o],bR:=st.bR++[0],dg:=st.dg++[0],ai:=(st.ai.take st.ai.length).map (fun p:Pt=>{ p with row:=p.row++[0] })++st.ai.drop st.ai.length }:HS).ai A.qs=cX st.ai A.qs:=oR XA
   have h5':=h5.ef
   rw [e5] at h5'
   refine ⟨hz,?_⟩
   rw [t8,yk h5']
   have es:({ st with own:=st.own++[o],bR:=st.bR++[0],dg:=st.dg++[0],ai:=(st.ai.take st.ai.length).map (fun p:Pt=>{ p with row:=p.row++[0] })++st.ai.drop st.ai.length }:HS)=gC st o:=by
    unfold gC
    rw [cC,Dr,qZ]
   rw [es] at h5
   exact q ρ A H5 ⟨G5,h5,YK hh.wf hn hl⟩ rfl F5
abbrev uS:Stmt:=inClass (top 24) 2
abbrev rF:List Str:=["self","part","owner","worth","weight"]
abbrev NC:List Str:=rF.append ["place","tops"]
theorem uT:aJ NC rF (ay uS):=c8
theorem LW {T:TC} (F:iS K T.hold "load" "Hold.load" uS f fd) (X:Txt K T) (oq:Mn P w K mg base 3 T.hold "check_new" kH (Ed T)) (pT:Mn P w K mg base 1 T.hold "place_of" lI (O3 T))
  (kI:Mn P w K mg base 1 T.hold "beyond_common" iH (Xh T K)) (wD:Mn P w K mg base 1 T.hold "stow" rD (Ti T)) (LX:Cn P w K mg base 1 "Part" T.part ["self","name","owner","worth","weight","scale","row"] (O1 T K)) (bh:mg "len"=none):Mn P w K mg base 4 T.hold "load" rF (Tj T):=by
 refine F.oA uT fun cdv A outer s H vs Q E hr h=>?_
 obtain ⟨⟨n,ρ,A,st,x,o,wo,we,rfl,hh,hx,hn,ho,h4,h5,h6,h7,q⟩⟩:=h
 refine ⟨_,(@cI.h _ _ _ (ao (cW (gF oq hr (qv 0) (af (qv 1) ak)))
  (ao (aO (i:=5) uT.nd (gF pT hr (qv 0) (af (qv 2) ak)))
  (ao (cM (fC (bW.pt (iZ (aT DG (qv 3) ah (a_ _)) (iD (aT DG (qv 4) ah (a_ _)))))) (au jH) aU)
  (ao (aO (i:=6) uT.nd (aD aaq (d7 (af ah ak)) (aG zL (by rfl) bh dG (af (bf K (qv 0)) ak))))
  (ao (rX (bf K (bf K (qv 0))) (rY (qv 6) (qv 5) set_list))
  (au (cW (gF wD hr (qv 0) (af (aea LX hr (af (qv 1) (af (qv 2) (af (qv 3) (af (qv 4) (af ah (af (gF kI hr (qv 0) (af (qv 6) ak)) ak))))))) ak)))))))))),?_⟩
 refine ⟨_,Z,A.a,A.dx,_,Z,hh.h.oa,Z,_,Z,⟨⟨n,ρ,A,st,x,Z,hh.h,hx,hn,fun H1 g1=>?_⟩⟩⟩
 have gw:=hh.mono g1
 have F1:Fr n ρ H ρ H1:=Fr.of_same g1
 clear hh
 refine ⟨_,Z,A.a,A.dx,_,Z,gw.h.oa,Z,_,Z,⟨⟨n,ρ,A,st,o,Z,gw.h,ho,?_⟩⟩⟩
 refine ⟨false,⟨_,Z,_,_,Z,Z,_,Z,dm (fun c=>absurd (dO c) (by omega)) fun _=>⟨_,Z,_,_,Z,Z,_,Z,d_ (by omega),Z⟩⟩,cV ?_⟩
 refine ⟨(iw 1),fun p0 hp0=>?_⟩
 have g2:=aA hp0 (.lst [.int 0])
 have kR:=gw.mono g2
 have F2:=F1.trans (Fr.of_same (ρ:=ρ) g2)
 have ahi:upd H1 p0 (.lst [.int 0]) p0=some (.lst [.int 0]):=aj
 generalize upd H1 p0 (.lst [.int 0])=H2 at *
 clear gw F1
 have PF:=tW st.own 0
 have eL:=kR.wf.sJ
 refine ⟨_,Z,A.a,T.hold,A.dx,_,_,Z,kR.h.oa,X.cH,X.hpl,Z,A.pl,_,Z,kR.h.i8,p0,_,_,Z,Z,ahi,by omega,by rw [PF];omega,by rw [PF];show 1*_<=_;rw [v8,Nat.one_mul];exact small (by omega),fun p1 hp1=>?_⟩
 rw [PF,v8,show (List.replicate st.own.length [V.int 0]).flatten=(List.replicate st.own.length (0:Int)).map V.int from by rw [List.map_replicate,List.flatten_replicate_singleton]]
 have g3:=aA hp1 (.lst ((List.replicate st.own.length (0:Int)).map V.int))
 have oY:=kR.mono g3
 have F3:=F2.trans (Fr.of_same (ρ:=ρ) g3)
 have n1:H p1=none:=(g1.trans g2).free hp1
 have c1:ρ p1=none:=kR.g.none hp1
 have LY:upd H2 p1 (.lst ((List.replicate st.own.length (0:Int)).map V.int)) p1=_:=aj
 generalize upd H2 p1 (.lst ((List.replicate st.own.length (0:Int)).map V.int))=H3 at *
 have hi:=List.idxOf_lt_length_iff.mpr ho
 refine ⟨_,Z,A.a,T.hold,A.dx,_,_,Z,oY.h.oa,X.cH,X.Eb,Z,A.bt,T.bot,A.db,_,_,Z,oY.h.oO,X.cB,X.Xg,Z,_,Z,_,Z,p1,_,_,st.own.idxOf o,Z,Z,LY,by rw [aF,mS];exact Ba hi,?_⟩
 rw [show ((List.replicate st.own.length (0:Int)).map V.int).set (st.own.idxOf o) (V.int st.prod)=((List.replicate st.own.length (0:Int)).set (st.own.idxOf o) st.prod).map V.int from by rw [xZ]]
 have nv:=oY.JW (o:= .lst (((List.replicate st.own.length (0:Int)).set (st.own.idxOf o) st.prod).map V.int)) c1 LY rfl rfl
 have F4:=F3.new (o:= .lst (((List.replicate st.own.length (0:Int)).set (st.own.idxOf o) st.prod).map V.int)) n1
 have ahj:upd H3 p1 (.lst (((List.replicate st.own.length (0:Int)).set (st.own.idxOf o) st.prod).map V.int)) p1=_:=aj
 have s4:aE H (upd H3 p1 (.lst (((List.replicate st.own.length (0:Int)).set (st.own.idxOf o) st.prod).map V.int))):=((g1.trans g2).trans g3).cF n1 _
 generalize upd H3 p1 (.lst (((List.replicate st.own.length (0:Int)).set (st.own.idxOf o) st.prod).map V.int))=H4 at *
 clear kR oY F2 F3
 refine ⟨_,Z,A.a,A.dx,_,Z,nv.h.oa,Z,_,Z,_,Z,_,Z,_,Z,_,Z,A.a,A.dx,_,Z,nv.h.oa,Z,_,Z,⟨⟨n,ρ,A,st,p1,_,Z,nv.h,aC.of ahj,by rw [lD,mS,nv.wf.jb],by rw [lD,mS];omega,fun r H5 g5 hr5 WC=>?_⟩⟩⟩
 intro y dy hy hdy hyd
 have hr6:upd (upd H5 dy (.own y)) y (.ins T.part dy []) r=some (.lst ((zX st ((List.replicate st.own.length 0).set (st.own.idxOf o) st.prod)).map V.int)):=by rw [av (aI WC hy),av (aI WC hdy)];exact WC
 refine ⟨⟨y,dy,r,⟨x,o,wo,we,1,zX st ((List.replicate st.own.length 0).set (st.own.idxOf o) st.prod)⟩,Z,aj,aC.of hr6,fun rr H6 hrr k6 hy6 ahk=>⟨Z,?_⟩⟩⟩
 have ab2:H5 rr=none:=by
  have e1:rr≠y:=fun e=>by rw [e,aj] at hrr;cases hrr
  have e2:rr≠dy:=fun e=>by rw [e,av hyd,aj] at hrr;cases hrr
  rw [av e1,av e2] at hrr;exact hrr
 have g6:aE H5 H6:=fun b u e=>k6 b u (by rw [av (aI e hy),av (aI e hdy)];exact e) (aI e hy)
 have vS:=nv.mono g5
 have Iq:=vS.mono g6
 have F6:=F4.trans (Fr.of_same (ρ:=ρ) (g5.trans g6))
 exact ⟨⟨n,ρ,A,st,(y,dy,rr),_,Z,Iq,hy6,ahk,vS.g.none hy,vS.g.none ab2,hn,YM nv.wf hn h6 h7 ho h4 h5,fun ρ' A' H' a1 a2 a3=>q ρ' A' H' a1 a2 (a3.fr F6 ((s4.trans g5).free hy) ((s4.trans g5).free ab2))⟩⟩
abbrev uU:Stmt:=inClass (top 24) 0
abbrev wF:List Str:=["self"]
abbrev ND:List Str:=wF
theorem LZ:aJ ND wF (ay uU):=c8
theorem L6 {T:TC} (F:HK K mg "Hold" T.hold "Hold.__init__" uU f fd) (X:Txt K T) (C3:Cn P w K mg base 1 "Bottom" T.bot ["self"] (O0 T)):Cn P w K mg base 3 "Hold" T.hold wF (O2 T):=by
 refine F.oA LZ fun cdv A outer s H vs Q E hr h=>?_
 obtain ⟨⟨p,dx,ρ,n,rfl,hp,g,hρ,q⟩⟩:=h
 refine ⟨_,(@cI.h _ _ _ (ao (eO K (qv 0) qI)
  (ao (eO K (qv 0) qI)
  (ao (eO K (qv 0) (d7 ak))
  (ao (eO K (qv 0) qI)
  (ao (eO K (qv 0) (Um C3 hr))
  (ao (eO K (qv 0) (d7 ak))
  (au (eO K (qv 0) (d7 ak)))))))))),?_⟩
 have M0:jr p H ρ H ρ [] :=⟨(fun _ m=>absurd m (by simp)),fun b o e _=>⟨e,Z⟩,g,_,hp⟩
 intro pl hpl
 have M1:=(M0.new (o:= .dK []) (c:=(n,1,⟨#[]⟩)) hpl rfl)
 refine ⟨_,Z,p,T.hold,dx,_,Z,by rw [av (aI hp hpl)];exact hp,X.cH,X.hpl,by show 0<1000;decide,?_⟩
 have M2:=M1.wr (u:= .ins T.hold dx (aV "places" (.ref pl) [])) rfl
 have hp2:upd (upd H pl (.dK [])) p (.ins T.hold dx (aV "places" (.ref pl) [])) p=_:=aj
 generalize upd (upd H pl (.dK [])) p (.ins T.hold dx (aV "places" (.ref pl) []))=H2 at *
 clear M0 M1
 intro ab hab
 have M3:=(M2.new (o:= .dK []) (c:=(n,2,⟨#[]⟩)) hab rfl)
 refine ⟨_,Z,p,T.hold,dx,_,Z,by rw [av (aI hp2 hab)];exact hp2,X.cH,X.hab,by show 1<1000;decide,?_⟩
 have M4:=M3.wr (u:= .ins T.hold dx (aV "aboard" (.ref ab) (aV "places" (.ref pl) []))) rfl
 have Lv:upd (upd H2 ab (.dK [])) p (.ins T.hold dx (aV "aboard" (.ref ab) (aV "places" (.ref pl) []))) p=_:=aj
 generalize upd (upd H2 ab (.dK [])) p (.ins T.hold dx (aV "aboard" (.ref ab) (aV "places" (.ref pl) [])))=H4 at *
 clear M2 M3
 refine ⟨(iw 0),fun as has=>?_⟩
 have M5:=(M4.new (o:= .lst []) (c:=(n,3,⟨#[]⟩)) has rfl)
 refine ⟨_,Z,p,T.hold,dx,_,Z,by rw [av (aI Lv has)];exact Lv,X.cH,X.has,by show 2<1000;decide,?_⟩
 have M6:=M5.wr (u:= .ins T.hold dx (aV "ashore" (.ref as) (aV "aboard" (.ref ab) (aV "places" (.ref pl) [])))) rfl
 have PJ:upd (upd H4 as (.lst [])) p (.ins T.hold dx (aV "ashore" (.ref as) (aV "aboard" (.ref ab) (aV "places" (.ref pl) [])))) p=_:=aj
 generalize upd (upd H4 as (.lst [])) p (.ins T.hold dx (aV "ashore" (.ref as) (aV "aboard" (.ref ab) (aV "places" (.ref pl) []))))=H6 at *
 clear M4 M5
 intro nm hnm
 have M7:=(M6.new (o:= .dK []) (c:=(n,4,⟨#[]⟩)) hnm rfl)
 refine ⟨_,Z,p,T.hold,dx,_,Z,by rw [av (aI PJ hnm)];exact PJ,X.cH,X.hnm,by show 3<1000;decide,?_⟩
 have M8:=M7.wr (u:= .ins T.hold dx (aV "names" (.ref nm) (aV "ashore" (.ref as) (aV "aboard" (.ref ab) (aV "places" (.ref pl) []))))) rfl
 have Uz:upd (upd H6 nm (.dK [])) p (.ins T.hold dx (aV "names" (.ref nm) (aV "ashore" (.ref as) (aV "aboard" (.ref ab) (aV "places" (.ref pl) []))))) p=_:=aj
 generalize upd (upd H6 nm (.dK [])) p (.ins T.hold dx (aV "names" (.ref nm) (aV "ashore" (.ref as) (aV "aboard" (.ref ab) (aV "places" (.ref pl) [])))))=H8 at *
 clear M6 M7
 intro bt db Eb hdb hne
 refine ⟨⟨bt,db,Z,aj,fun sp kn H9 pC hkn hsk k9 hb9 hs9 hk9=>⟨Z,?_⟩⟩⟩
 have s9:aE H8 H9:=fun b o e=>k9 b o (by rw [av (aI e Eb),av (aI e hdb)];exact e) (aI e Eb)
 have fr:∀{c:Addr},upd (upd H8 db (.own bt)) bt (.ins T.bot db []) c=none->H8 c=none:=fun {c} e=>by
  have e1:c≠bt:=fun z=>by rw [z,aj] at e;cases e
  have e2:c≠db:=fun z=>by rw [z,av hne,aj] at e;cases e
  rw [av e1,av e2] at e;exact e
 have ab6:=fr pC
 have ab7:=fr hkn
 have M9:=M8.same s9
 have M10:=M9.add (c:=(n,5,⟨#[]⟩)) hb9 rfl M8 Eb (fun e he=>aI (M8.m e he).1 Eb)
 have M11:=M10.add (c:=(n,8,⟨#[]⟩)) hs9 rfl M8 ab6 (fun e he=>by
  rcases c_.mp he with rfl|he
  . exact iW hb9 hs9 (by intro z;cases z)
  . exact aI (M8.m e he).1 ab6)
 have M12:=M11.add (c:=(n,9,⟨#[]⟩)) hk9 rfl M8 ab7 (fun e he=>by
  rcases c_.mp he with rfl|he
  . exact iW hs9 hk9 (by intro z;cases z)
  rcases c_.mp he with rfl|he
  . exact iW hb9 hk9 (by intro z;cases z)
  . exact aI (M8.m e he).1 ab7)
 have hp9:=s9 _ _ Uz
 refine ⟨_,Z,p,T.hold,dx,_,Z,hp9,X.cH,X.Eb,by show 4<1000;decide,?_⟩
 have M13:=M12.wr (u:= .ins T.hold dx (aV "bottom" (.ref bt) (aV "names" (.ref nm) (aV "ashore" (.ref as) (aV "aboard" (.ref ab) (aV "places" (.ref pl) [])))))) rfl
 have LY:upd H9 p (.ins T.hold dx (aV "bottom" (.ref bt) (aV "names" (.ref nm) (aV "ashore" (.ref as) (aV "aboard" (.ref ab) (aV "places" (.ref pl) [])))))) p=_:=aj
 generalize upd H9 p (.ins T.hold dx (aV "bottom" (.ref bt) (aV "names" (.ref nm) (aV "ashore" (.ref as) (aV "aboard" (.ref ab) (aV "places" (.ref pl) []))))))=H13 at *
 clear M8 M9 M10 M11 M12
 refine ⟨(iw 0),fun cm BW=>?_⟩
 have M14:=(M13.new (o:= .lst []) (c:=(n,6,⟨#[]⟩)) BW rfl)
 refine ⟨_,Z,p,T.hold,dx,_,Z,by rw [av (aI LY BW)];exact LY,X.cH,X.BW,by show 5<1000;decide,?_⟩
 have M15:=M14.wr (u:= .ins T.hold dx (aV "common" (.ref cm) (aV "bottom" (.ref bt) (aV "names" (.ref nm) (aV "ashore" (.ref as) (aV "aboard" (.ref ab) (aV "places" (.ref pl) []))))))) rfl
 have ab9:upd (upd H13 cm (.lst [])) p (.ins T.hold dx (aV "common" (.ref cm) (aV "bottom" (.ref bt) (aV "names" (.ref nm) (aV "ashore" (.ref as) (aV "aboard" (.ref ab) (aV "places" (.ref pl) []))))))) p=_:=aj
 generalize upd (upd H13 cm (.lst [])) p (.ins T.hold dx (aV "common" (.ref cm) (aV "bottom" (.ref bt) (aV "names" (.ref nm) (aV "ashore" (.ref as) (aV "aboard" (.ref ab) (aV "places" (.ref pl) [])))))))=H15 at *
 clear M13 M14
 refine ⟨(iw 0),fun pu KY=>?_⟩
 have M16:=(M15.new (o:= .lst []) (c:=(n,7,⟨#[]⟩)) KY rfl)
 refine ⟨_,Z,p,T.hold,dx,_,Z,by rw [av (aI ab9 KY)];exact ab9,X.cH,X.KY,by show 6<1000;decide,?_⟩
 have M17:=M16.wr (u:= .ins T.hold dx (aV "purses" (.ref pu) (aV "common" (.ref cm) (aV "bottom" (.ref bt) (aV "names" (.ref nm) (aV "ashore" (.ref as) (aV "aboard" (.ref ab) (aV "places" (.ref pl) [])))))))) rfl
 have acd:upd (upd H15 pu (.lst [])) p (.ins T.hold dx (aV "purses" (.ref pu) (aV "common" (.ref cm) (aV "bottom" (.ref bt) (aV "names" (.ref nm) (aV "ashore" (.ref as) (aV "aboard" (.ref ab) (aV "places" (.ref pl) [])))))))) p=_:=aj
 generalize upd (upd H15 pu (.lst [])) p (.ins T.hold dx (aV "purses" (.ref pu) (aV "common" (.ref cm) (aV "bottom" (.ref bt) (aV "names" (.ref nm) (aV "ashore" (.ref as) (aV "aboard" (.ref ab) (aV "places" (.ref pl) []))))))))=H17 at *
 clear M15 M16
 have m:=M17.m
 have An:∀{a:Addr} {o:HO} {c:tN} {ρ2:fR},(H17 a=some o/\ρ2 a=some c/\a≠p)->H17 a=some o/\cK ρ2 p (n,0,⟨#[]⟩) a=some c:=fun h=>⟨h.1,by rw [cy h.2.2];exact h.2.1⟩
 have a1:=An (m _ (.head _))
 have a2:=An (m _ (.tail _ (.head _)))
 have a3:=An (m _ (.tail _ (.tail _ (.head _))))
 have a4:=An (m _ (.tail _ (.tail _ (.tail _ (.head _)))))
 have a5:=An (m _ (.tail _ (.tail _ (.tail _ (.tail _ (.head _))))))
 have a6:=An (m _ (.tail _ (.tail _ (.tail _ (.tail _ (.tail _ (.head _)))))))
 have a7:=An (m _ (.tail _ (.tail _ (.tail _ (.tail _ (.tail _ (.tail _ (.head _))))))))
 have a8:=An (m _ (.tail _ (.tail _ (.tail _ (.tail _ (.tail _ (.tail _ (.tail _ (.head _)))))))))
 have a9:=An (m _ (.tail _ (.tail _ (.tail _ (.tail _ (.tail _ (.tail _ (.tail _ (.tail _ (.head _))))))))))
 refine q (cK _ p (n,0,⟨#[]⟩)) ⟨p,dx,pl,ab,as,nm,bt,db,cm,pu,sp,kn,[]⟩ H17 rfl ⟨M17.g.color acd rfl,⟨acd,dM,a9.1,a9.2,a8.1,a8.2,⟨[],a7.1, .nil⟩,a7.2,a6.1,a6.2,a5.1,a5.2,a2.1,a2.2,a1.1,a1.2,a4.1,a4.2,⟨[],a3.1,(fun x hx=>absurd hx (by simp)),aP _,vB⟩,a3.2,Z,fun i x y ex=>by simp [hs0] at ex⟩,wf0⟩ (fun b o e hb=>?_)
 obtain ⟨x,y⟩:=M17.k b o e hb
 exact ⟨x,by rw [cy hb];exact y⟩
abbrev ou:Stmt:=inClass (top 24) 27
abbrev lJ:List Str:=["self","amounts"]
abbrev EM:List Str:=lJ.append ["lost","sums","name","amount","part","many"]
theorem ff:aJ EM lJ (ay ou):=c8
theorem C4 {T:TC} (F:iS K T.hold "given_up" "Hold.given_up" ou f fd) (X:Txt K T) (fQ:mg "sum"=none) (jQ:mg "zip"=none):Mn P w K mg base 1 T.hold "given_up" lJ (Pb T):=by
 refine F.oA ff fun cdv A outer s H vs Q E hr h=>?_
 obtain ⟨⟨n,ρ,A,st,d,rs,rfl,h,wf,hd,cd,hle,C5,q⟩⟩:=h
 refine ⟨_,(@cI.h _ _ _ (ao (aO (i:=2) ff.nd (aG (HJ rfl) (by rfl) fQ xP (af (Gn (qv 1)) ak)))
  (ao (uc (i:=3) ["common","lost"] [none,some 2] ff.nd rfl rfl rfl (dH K (bf K (qv 0))) (fun _ _ _ _=>(aR (i:=0) (show List.Nodup (["common","lost"] :List Str) from by decide +kernel))) (fun _ _ _ _=>(aD jV (qv 1) (qv 0))) rfl (by rfl) (by rfl))
  (ao (xB (dS ee rfl (CP (qv 1)) (jg K (n:=2) rfl (cT (aR (i:=4) ff.nd) (cT (aR (i:=5) ff.nd) jf))) (ao (aO (i:=6) ff.nd (bU (bY hr) (bf K (qv 0)) (qv 4)))
  (ao (aO (i:=7) ff.nd (aD jV (qv 5) (bf K (qv 6))))
  (au (uc (i:=3) ["old","own","many"] [none,none,some 7] ff.nd rfl rfl rfl (ua K (by rfl) jQ (af (qv 3) (af (bf K (qv 6)) ak))) (fun _ _ _ _=>(jg K (n:=2) rfl (cT (aR (i:=0) (show List.Nodup (["old","own","many"] :List Str) from by decide +kernel)) (cT (aR (i:=1) (show List.Nodup (["old","own","many"] :List Str) from by decide +kernel)) jf)))) (fun _ _ _ _=>(aD bQ (qv 0) (aD jV (qv 2) (qv 1)))) rfl (by rfl) (by rfl)))))))
  (au (aS (qv 3))))))),?_⟩
 have hcl:st.bR.length<=100:=by rw [wf.jb];exact wf.sJ
 have zl:Jm.Sz 1100 (bu rs):=by
  have:=Jm.SI (n:=60) (ws:=rs.map (·.2)) (fun m hm=>by obtain ⟨r,hr,rfl⟩:=bM.mp hm;exact (C5 r hr).1)
  exact this.mono (by rw [aF];omega)
 have zc:∀c∈st.bR,Jm.Sz 8000 c:=fun c hc=>Jm.Sz.pF (by have:=wf.sL c hc;have:=wf.iX;omega) (wf.sL c hc).2 wf.big
 refine ⟨_,Z,d,_,Z, .inl hd,fun v hv=>⟨v,d,_,rs.map (·.2),Z,aj, .inl (by rw [av (aI hd hv)];exact hd),by unfold gY;rw [fF,fF];rfl,?_⟩⟩
 have g1:=aA hv (lG v d)
 have hd1:=g1 _ _ hd
 have h1:=h.mono g1
 generalize upd H v (lG v d)=H1 at *
 refine ⟨_,Z,A.a,T.hold,A.dx,_,_,Z,h1.oa,X.cH,X.BW,Z,A.cm,Z,⟨_,aC.of h1.jY⟩,fun l0 kq=>?_⟩
 refine iR (J:=uh K A.cm) (n:=(st.bR.map V.int).length) 0 (fun i o H'=>aE H1 H'/\o=((st.bR.take i).map fun c=>bu rs*c).map V.int) (by rw [aF];omega) ⟨aA kq _,Z⟩ (fun i o H' hi _ hp=>⟨_,_,aC.of (hp.1 _ _ h1.jY),aX hi⟩) (fun o H' _ hp=>⟨_,aC.of (hp.1 _ _ h1.jY),aP _⟩) ?_ ?_
 . rintro i y o H2 H3 hi eL ha ⟨g,e⟩ ⟨rfl,hy⟩
   obtain ⟨c,rfl,ec⟩:=gJ (hy _ (aC.of (g _ _ h1.jY)))
   refine ⟨_,Z,_,Z,_,_,Z,Z,jc zl (zc c (bN ec)),ha,g.cF kq _,?_⟩
   subst e
   rw [take_snoc ec,bL,bL]
   rfl
 rintro o H2 eL ha ⟨g2,e⟩
 rw [aF,cC] at e
 subst e
 have UA:=g1.trans g2
 have hd2:=g2 _ _ hd1
 have h2:=h1.mono g2
 have hn0:H l0=none:=g1.free kq
 refine ⟨d,_,hd2,fun ob=>⟨_,Z,d,ob,_,Z,aj,?_⟩⟩
 have al:=ym rs
 refine ur (n:=(gY rs).length) (fun i σ H'=>aE (upd H2 d (.fm ob (.dK (gY rs)))) H'/\∃l s4 s5 s6 s7,σ=[some (.ref A.a),some (.ref d),some (.int (bu rs)),some (.ref l),s4,s5,s6,s7]/\H l=none/\H' l=some (.lst (((rs.take i).foldl (jF st) (st.bR.map fun c=>bu rs*c)).map V.int))/\((rs.take i).foldl (jF st) (st.bR.map fun c=>bu rs*c)).length=st.bR.length)
  ⟨aE.refl _,l0,_,_,_,_,Z,hn0,eZ hd2 ha (fun k z=>by cases z),by rw [List.take_zero,List.foldl_nil,aF]⟩ (fun i σ H' hi hp=>⟨hp.1 _ _ aj,hi⟩) (fun σ H' hp=>⟨hp.1 _ _ aj,aP _⟩) ?_ ?_
 . rintro i x σ H3 H4 hi ⟨g,l,s4,s5,s6,s7,rfl,DY,hl,hsl⟩ ⟨pp,kv,hpp,hkv,rfl,rfl⟩
   unfold gY at hkv
   rw [bJ] at hkv
   obtain ⟨r,er,rfl⟩:=lP.mp hkv
   have hrm:=bN er
   obtain ⟨zr,p,i9,EN⟩:=C5 r hrm
   obtain ⟨ip,yW,UB⟩:=qx i9
   have ep:st.ai[ip]?=some p:=by rw [aX yW,UB]
   have epg:c5 st r.1=p:=by rw [<-EN];exact Pa wf.kB ep
   have g4:=aA hpp (.tup [.str r.1, .int r.2])
   have gg:=g.trans g4
   have h2z:∀{b:Addr} {u:HO},H2 b=some u->(∀k,u ≠ .dK k)->upd H3 pp (.tup [.str r.1, .int r.2]) b=some u:=fun e k=>gg _ _ (eZ hd2 e k)
   have nab:A.ab≠d:=(BV cd h.gO).symm
   obtain ⟨qq,eq,k1,k2,_,_⟩:=h2.find ep
   have hab:upd H3 pp (.tup [.str r.1, .int r.2]) A.ab=some (.dK (cX st.ai A.qs)):=gg _ _ (by rw [av nab];exact h2.ef)
   have hv:=xr wf.kB ep eq
   have hq1:=h2z k1 (fun k z=>by cases z)
   have hq2:=h2z k2 (fun k z=>by cases z)
   have EO:upd H3 pp (.tup [.str r.1, .int r.2]) pp=some (.tup [.str r.1, .int r.2]):=aj
   have Ir:=g4 _ _ hl
   have hno:∀{b:Addr},upd H3 pp (.tup [.str r.1, .int r.2]) b=none->H b=none:=fun {b} e=>by
    have e1:=nX hd2 (gg.free e)
    exact UA.free e1
   have UC:upd H3 pp (.tup [.str r.1, .int r.2]) A.a=some (.ins T.hold A.dx (mX A)):=h2z h2.oa (fun k z=>by cases z)
   show Cr K 2 _ _ _ (upd H3 pp (.tup [.str r.1, .int r.2])) _
   generalize upd H3 pp (.tup [.str r.1, .int r.2])=H4 at *
   refine ⟨pp,_,Z,cR.of EO,Z,_,_,Z,_,_,Z,Z,?_⟩
   refine ⟨_,Z,A.a,T.hold,A.dx,_,_,Z,UC,X.cH,X.hab,Z,_,Z,A.ab,_,Z,by rw [<-EN];exact hv▸cO.k (k:=Sum.inr p.nm) hab,?_⟩
   have zs:Jm.Sz 8000 p.sc:=Jm.Sz.pF (by have:=wf.vI p i9;have:=wf.iX;omega) (wf.vI p i9).2 wf.big
   refine ⟨_,Z,_,Z,qq.1,T.part,qq.2.1,_,_,Z,hq1,X.cP,X.Te,Z,_,_,Z,Z,jc zr zs,?_⟩
   have erl:p.row.length=st.bR.length:=by rw [wf.rows p i9,wf.jb]
   generalize eS:(rs.take i).foldl (jF st) (st.bR.map fun c=>bu rs*c)=S at *
   refine ⟨_,Z,_,Z,qq.1,T.part,qq.2.1,_,_,Z,hq1,X.cP,X.Xf,Z,_,_,_,_,_,_,Z, .lst (aC.of Ir), .lst (aC.of hq2),fun acc hacc=>?_⟩
   refine zS (K:=K) (n:=S.length) [0,1] (fun j out H5=>aE H4 H5/\out=(List.zipWith (fun old own=>old+(r.2*p.sc)*own) (S.take j) (p.row.take j)).map V.int) (by decide) (by omega) ⟨aA hacc _,Z⟩ (fun j out H5 hj _ hp=>⟨aC.of (hp.1 _ _ Ir),aC.of (hp.1 _ _ hq2),by rw [aF];exact hj,by rw [aF];omega⟩)
    (fun out H5 _ hp=>⟨aC.of (hp.1 _ _ Ir),aC.of (hp.1 _ _ hq2), .inl (by rw [aF];exact aP _)⟩) ?_ ?_
   . rintro j x out H5 H6 hj GB ha2 ⟨g5,e5⟩ ⟨p2,x1,y1,hp2,rfl,rfl,e1,e2⟩
     obtain ⟨t,rfl,et⟩:=gJ e1
     obtain ⟨c,rfl,ec⟩:=gJ e2
     have g6:=aA hp2 (.tup [.int t, .int c])
     have zw:Jm.Sz 8000 c:=Jm.Sz.pF (wf.sM p i9 c (bN ec)).1 (wf.sM p i9 c (bN ec)).2 wf.big
     refine ⟨p2,_,Z,cR.of aj,Z,_,Z,_,Z,_,Z,_,_,Z,Z,jc (zr.mul zs) zw,_,_,Z,Z,g6 _ _ ha2,(g5.trans g6).cF hacc _,?_⟩
     rw [oQ _ et ec,e5,bL]
     rfl
   rintro out H5 GB ha2 ⟨g5,e5⟩
   rw [cC,hsl,<-erl,cC] at e5
   have eN:(rs.take (i+1)).foldl (jF st) (st.bR.map fun c=>bu rs*c)=List.zipWith (fun old own=>old+(r.2*p.sc)*own) S p.row:=by
    rw [take_snoc er,J8,eS]
    show jF st S r=_
    unfold jF
    rw [epg]
   refine ⟨gg.trans g5,acc,_,_,_,_,Z,hno hacc,?_,?_⟩
   . rw [eN,ha2,e5]
   . rw [eN,qw];omega
 rintro σ H3 ⟨g,l,s4,s5,s6,s7,rfl,DY,hl,hsl⟩
 rw [al,cC] at hl
 refine ⟨g _ _ aj,_,Z,?_⟩
 have nl:l≠d:=fun e=>by rw [e,hd] at DY;cases DY
 exact q l _ (UA.trans (uB hd2 g)) DY (by rw [av nl];exact hl)
abbrev qO:Stmt:=inClass (top 24) 23
abbrev kT:List Str:=["self","name","amount"]
abbrev IS:List Str:=kT.append ["part"]
theorem xE:aJ IS kT (ay qO):=c8
theorem GC {T:TC} (F:iS K T.hold "lessen" "Hold.lessen" qO f fd) (X:Txt K T):Mn P w K mg base 1 T.hold "lessen" kT (La T):=by
 refine F.oA xE fun cdv A outer s H vs Q E hr h=>?_
 obtain ⟨⟨n,ρ,A,st,r,rfl,hh,⟨p,i9,EN,hle⟩,wf',q⟩⟩:=h
 have h:=hh.h
 have nd:=hh.wf.kB
 refine ⟨_,(@cI.h _ _ _ (ao (aO (i:=3) xE.nd (bU (bY hr) (bf K (qv 0)) (qv 1)))
  (ao (yx K (qv 3) (qv 2) Z7)
  (au (fL (aT gR (bf K (qv 3)) ah (a_ _)) (au (Ze (bf K (qv 0)) (qv 1))) aU))))),?_⟩
 obtain ⟨ip,yW,UB⟩:=qx i9
 have ep:st.ai[ip]?=some p:=by rw [aX yW,UB]
 obtain ⟨qq,eq,k1,k2,k3,k4⟩:=h.find ep
 have hv:=xr nd ep eq
 refine ⟨_,Z,A.a,T.hold,A.dx,_,_,Z,h.oa,X.cH,X.hab,Z,_,Z,A.ab,_,Z,by rw [<-EN];exact hv▸cO.k (k:=Sum.inr p.nm) h.ef,?_⟩
 refine ⟨_,Z,qq.1,T.part,qq.2.1,_,_,Z,k1,X.cP,X.HM,Z,_,Z,_,_,Z,Z,qq.2.1,_,k1,by show 6<1000;decide,?_⟩
 have h1:=h.ux (p1:={ p with wo:=p.wo-r.2 }) hh.g ep eq rfl rfl nd
 have g1:=hh.g.wr (a:=qq.1) (o:= .ins T.part qq.2.1 (lU { p with wo:=p.wo-r.2 } qq.2.2)) rfl
 have F1:Fr n ρ H ρ (upd H qq.1 (.ins T.part qq.2.1 (lU { p with wo:=p.wo-r.2 } qq.2.2))):=Fr.write k3
 show aaB _ _ _ _ _ (upd H qq.1 (.ins T.part qq.2.1 (lU { p with wo:=p.wo-r.2 } qq.2.2)))
 have PK:upd H qq.1 (.ins T.part qq.2.1 (lU { p with wo:=p.wo-r.2 } qq.2.2)) qq.1=some (.ins T.part qq.2.1 (lU { p with wo:=p.wo-r.2 } qq.2.2)):=aj
 generalize upd H qq.1 (.ins T.part qq.2.1 (lU { p with wo:=p.wo-r.2 } qq.2.2))=H1 at *
 have el:fH st r={ st with ai:=if p.wo-r.2=0 then st.ai.eraseIdx ip else st.ai.set ip { p with wo:=p.wo-r.2 } }:=by
  unfold fH
  rw [<-EN,Lc nd (fun x hx=>by have:=hh.wf.uy x hx;omega) ep]
 rw [el] at wf' q
 refine ⟨fun σ' H'=>Q .bZ H',?_,fun _ _ z=>z⟩
 refine ⟨_,Z,qq.1,T.part,qq.2.1,_,_,Z,PK,X.cP,X.HM,Z,Z,_,Z,dm (fun c=>?_) (fun c=>?_)⟩
 . have c':p.wo-r.2=0:=V.int.inj (dO c)
   rw [aB c'] at wf' q
   have nd1:((st.ai.set ip { p with wo:=p.wo-r.2 }).map (fun x:Pt=>x.nm)).Nodup:=by
    rw [xZ,show ({ p with wo:=p.wo-r.2 }:Pt).nm=p.nm from rfl,vJ (by rw [bJ,ep];rfl)]
    exact nd
   have ep1:(st.ai.set ip { p with wo:=p.wo-r.2 })[ip]?=some { p with wo:=p.wo-r.2 }:=ue yW
   have dk:=Lb nd1 h1.ql ep1
   rw [List.eraseIdx_set_eq] at dk
   have hv1:=xr nd1 ep1 eq
   refine ⟨_,Z,A.a,T.hold,A.dx,_,_,Z,h1.oa,X.cH,X.hab,Z,_,Z,A.ab,_,Sum.inr r.1,Z,h1.ef,Z,?_,?_⟩
   . rw [<-EN]
     show (d9 (cX (st.ai.set ip { p with wo:=p.wo-r.2 }) A.qs) (Sum.inr p.nm)).isSome=true
     rw [show d9 (cX (st.ai.set ip { p with wo:=p.wo-r.2 }) A.qs) (Sum.inr p.nm)=_ from hv1]
     rfl
   . show Q .bZ (upd H1 A.ab (.dK (nG (cX (st.ai.set ip { p with wo:=p.wo-r.2 }) A.qs) (Sum.inr r.1))))
     rw [<-EN,show nG (cX (st.ai.set ip { p with wo:=p.wo-r.2 }) A.qs) (Sum.inr p.nm)=_ from dk]
     have hi2:ip<A.qs.length:=by rw [h.ql];exact yW
     have h2:=h1.Td g1 (st.ai.eraseIdx ip) (A.qs.eraseIdx ip) (by rw [List.length_eraseIdx_of_lt yW,List.length_eraseIdx_of_lt hi2,h.ql]) (fun j x y ex ey=>by
      rw [<-List.eraseIdx_set_eq (l:=st.ai) (i:=ip) (a:={ p with wo:=p.wo-r.2 })] at ex
      obtain ⟨k,a1,a2⟩:=Ld ex ey
      exact h1.opt k x y a1 a2)
     exact q ρ _ _ ⟨g1.wr rfl,h2,wf'⟩ rfl (F1.trans (Fr.write h1.gO))
 . have c':¬ p.wo-r.2=0:=fun e=>c (cg (by rw [e]))
   rw [az c'] at wf' q
   exact q ρ A H1 ⟨g1,h1,wf'⟩ rfl F1
abbrev sS:Stmt:=inClass (top 24) 28
abbrev pU:List Str:=["self","kept","whole","added"]
abbrev L7:List Str:=pU.append ["scales","common","shared","part","scale"]
theorem jh:aJ L7 pU (ay sS):=c8
theorem IT {T:TC} (F:iS K T.hold "blend" "Hold.blend" sS f fd) (X:Txt K T) (pV:Dn P w K mg base 2 "factor_of_all" lH (Tv K)) (sU:Mn P w K mg base 1 T.bot "grow" nL (Tw T)) (jQ:mg "zip"=none):Mn P w K mg base 3 T.hold "blend" pU (Pc T K):=by
 refine F.oA jh fun cdv A outer s H vs Q E hr h=>?_
 obtain ⟨⟨n,ρ,A,st,kept,whole,la,added,rfl,hh,hla,hal,k0,w0,kz,wz,haz,hpz,hsl,wf',q⟩⟩:=h
 refine ⟨_,(@cI.h _ _ _ (ao (xB (uc (i:=4) ["part","kept"] [none,some 1] jh.nd rfl rfl rfl (Bh (bf K (qv 0))) (fun _ _ _ _=>(aR (i:=0) (show List.Nodup (["part","kept"] :List Str) from by decide +kernel))) (fun _ _ _ _=>(aD jV (bf K (qv 0)) (qv 1))) rfl (by rfl) (by rfl)))
  (ao (uc (i:=5) ["top","more","kept"] [none,none,some 1] jh.nd rfl rfl rfl (ua K (by rfl) jQ (af (bf K (qv 0)) (af (qv 3) ak))) (fun _ _ _ _=>(jg K (n:=2) rfl (cT (aR (i:=0) (show List.Nodup (["top","more","kept"] :List Str) from by decide +kernel)) (cT (aR (i:=1) (show List.Nodup (["top","more","kept"] :List Str) from by decide +kernel)) jf)))) (fun _ _ _ _=>(aD bQ (aD jV (qv 0) (qv 2)) (qv 1))) rfl (by rfl) (by rfl))
  (ao (aO (i:=6) jh.nd (aZ pV hr (af (qv 2) (af (aD nh (qv 4) (qv 5)) ak))))
  (ao (xB (dS ee rfl (ua K (by rfl) jQ (af (Gn (bf K (qv 0))) (af (qv 4) ak))) (jg K (n:=2) rfl (cT (aR (i:=7) jh.nd) (cT (aR (i:=8) jh.nd) jf))) (au (eO K (qv 7) (aD gI (qv 8) (qv 6))))))
  (ao (eO K (qv 0) (gr ["top","shared"] [none,some 6] rfl (dH K (qv 5)) (fun _ _ _ _=>(aR (i:=0) (show List.Nodup (["top","shared"] :List Str) from by decide +kernel))) (fun _ _ _ _=>(aD gI (qv 0) (qv 1))) rfl (by rfl)))
  (ao (eO K (qv 0) (gr ["purse","whole","shared"] [none,some 2,some 6] rfl (dH K (bf K (qv 0))) (fun _ _ _ _=>(aR (i:=0) (show List.Nodup (["purse","whole","shared"] :List Str) from by decide +kernel))) (fun _ _ _ _=>(aD jV (qv 0) (aD gI (qv 1) (qv 2)))) rfl (by rfl)))
  (au (cW (gF sU hr (bf K (qv 0)) (af (aD gI (qv 2) (qv 6)) ak))))))))))),?_⟩
 have hpl:=hh.wf.wm
 have nd:=hh.wf.kB
 have hcl:st.bR.length<=100:=by rw [hh.wf.jb];exact hh.wf.sJ
 have zsc:∀p∈st.ai,Jm.Sz 8000 p.sc:=fun p hp=>Jm.Sz.pF (by have:=hh.wf.vI p hp;have:=hh.wf.iX;omega) (hh.wf.vI p hp).2 hh.wf.big
 have zcm:∀c∈st.bR,Jm.Sz 8000 c:=fun c hc=>Jm.Sz.pF (by have:=hh.wf.sL c hc;have:=hh.wf.iX;omega) (hh.wf.sL c hc).2 hh.wf.big
 have h:=hh.h
 refine ⟨A.ab,_,h.ef,fun ob=>?_⟩
 refine ⟨_,Z,A.a,T.hold,A.dx,_,_,Z,eZ h.ef h.oa (fun k z=>by cases z),X.cH,X.hab,Z,A.ab,ob,_,Z,aj,fun l1 hl1=>?_⟩
 have el:=xo h.ql
 refine iR (n:=st.ai.length) 0 (fun i out H1=>aE (upd H A.ab (.fm ob (.dK (cX st.ai A.qs)))) H1/\out=((st.ai.take i).map fun p:Pt=>p.sc*kept).map V.int) (by omega) ⟨aA hl1 _,Z⟩ (fun i out H1 hi _ hp=>⟨hp.1 _ _ aj,by rw [el];exact hi⟩) (fun out H1 _ hp=>⟨hp.1 _ _ aj,by rw [el];exact aP _⟩) ?_ ?_
 . rintro i x out H1 H2 hi eL ha ⟨g,e⟩ ⟨rfl,kv,hkv,rfl⟩
   have ep:=aX hi
   obtain ⟨qq,eq,k1,k2,_⟩:=h.find ep
   rw [xm ep eq] at hkv
   cases hkv
   have hq:=g _ _ (eZ h.ef k1 (fun k z=>by cases z))
   refine ⟨_,Z,qq.1,T.part,qq.2.1,_,_,Z,hq,X.cP,X.Te,Z,_,Z,_,_,Z,Z,jc (zsc _ (tR hi)) kz,ha,g.cF hl1 _,?_⟩
   subst e
   rw [take_snoc ep,bL,bL]
   rfl
 rintro o1 H1 akc ha1 ⟨g1,e1⟩
 rw [cC] at e1
 have hz1:=g1 _ _ (aj (H:=H) (a:=A.ab) (o:= .fm ob (.dK (cX st.ai A.qs))))
 have na1:l1≠A.ab:=fun e=>by rw [e,hz1] at ha1;cases ha1
 refine ⟨hz1,?_⟩
 have s2:aE H (upd H1 A.ab (.dK (cX st.ai A.qs))):=uB h.ef g1
 have akd:H l1=none:=nX h.ef hl1
 have ha2:upd H1 A.ab (.dK (cX st.ai A.qs)) l1=some (.lst ((iL st kept).map V.int)):=by rw [av na1,ha1,e1];rfl
 generalize upd H1 A.ab (.dK (cX st.ai A.qs))=H2 at *
 clear g1 hz1 ha1 e1
 have h2:=h.mono s2
 have Rw:=s2.seq hla
 refine ⟨_,Z,A.a,T.hold,A.dx,_,_,Z,h2.oa,X.cH,X.BW,Z,_,Z,_,_,_,_,_,_,Z, .lst (aC.of h2.jY), .lst Rw,fun l2 hl2=>?_⟩
 refine zS (K:=K) (n:=st.bR.length) [0,1] (fun i out H3=>aE H2 H3/\out=(List.zipWith (fun t m=>t*kept+m) (st.bR.take i) (added.take i)).map V.int) (by decide) (by omega) ⟨aA hl2 _,Z⟩ (fun i out H3 hi _ hp=>⟨aC.of (hp.1 _ _ h2.jY),hp.1.seq Rw,by rw [aF];exact hi,by rw [aF];omega⟩)
  (fun out H3 _ hp=>⟨aC.of (hp.1 _ _ h2.jY),hp.1.seq Rw, .inl (by rw [aF];exact aP _)⟩) ?_ ?_
 . rintro i x out H3 H4 hi eL ha ⟨g,e⟩ ⟨p,x1,y1,hp,rfl,rfl,e1,e2⟩
   obtain ⟨t,rfl,et⟩:=gJ e1
   obtain ⟨c,rfl,ec⟩:=gJ e2
   have g1:=aA hp (.tup [.int t, .int c])
   refine ⟨p,_,Z,cR.of aj,Z,_,Z,_,Z,_,_,Z,Z,jc (zcm t (bN et)) kz,_,Z,_,_,Z,Z,g1 _ _ ha,(g.trans g1).cF hl2 _,?_⟩
   rw [oQ _ et ec,e,bL]
   rfl
 rintro o2 H3 GB UD ⟨g3,e3⟩
 rw [cC,<-hal,cC] at e3
 have ec3:o2=(fV st kept added).map V.int:=e3
 subst ec3
 have s3:=s2.trans g3
 have h3:=h.mono s3
 have WD:=g3 _ _ ha2
 have ake:H l2=none:=s2.free hl2
 have n12:l1≠l2:=fun e=>by rw [e,hl2] at ha2;cases ha2
 clear e3 h2 Rw g3 ha2 s2
 have lsc:(iL st kept).length=st.ai.length:=by unfold iL;rw [aF]
 have lcm:(fV st kept added).length=st.bR.length:=by unfold fV;rw [qw,hal,Nat.min_self]
 refine ⟨_,Z,_,Z,_,Z,l1,l2,_,_,Z,Z,WD,UD,by rw [aF,aF,lsc,lcm];exact fq (Nat.add_le_add hpl hcl) (by rw [fu];decide),fun p3 hp3=>?_⟩
 rw [<-bL]
 have g4:=aA hp3 (.lst ((iL st kept++fV st kept added).map V.int))
 refine ⟨⟨whole,p3,_,Z,aC.of aj,by omega,?_,?_⟩⟩
 . intro t ht
   rcases fZ.mp ht with z|z
   . unfold iL at z
     obtain ⟨p,hp,rfl⟩:=bM.mp z
     exact nE (by have:=hh.wf.vI p hp;omega) (by omega)
   . obtain ⟨c,hc,m,hm,rfl⟩:=yi (show t∈List.zipWith _ st.bR added from z)
     have a1:=nE (hh.wf.sL c hc).1 (by omega:0<=kept)
     have a2:=(haz m hm).1
     omega
 have s4:=s3.trans g4
 have h4:=h.mono s4
 have G4:=hh.g.same s4
 have F4:Fr n ρ H ρ (upd H3 p3 (.lst ((iL st kept++fV st kept added).map V.int))):=Fr.of_same s4
 have b1:=g4 _ _ WD
 have b2:=g4 _ _ UD
 generalize upd H3 p3 (.lst ((iL st kept++fV st kept added).map V.int))=H4 at *
 clear WD UD s3 h3 g4
 obtain ⟨sd,XC⟩:∃sd,sd=c7 st kept whole added:=⟨_,rfl⟩
 rw [show pL whole (iL st kept++fV st kept added)=sd from XC.symm]
 have sp:0<sd:=by rw [XC];exact z_ _ _ w0
 have T_:sd∣whole:=by rw [XC];exact (z9 _ _).1
 have sz:Jm.Sz 60 sd:=wz.dvd w0 (by omega) T_
 have wq:0<whole / sd:=Int.ediv_pos_of_pos_of_dvd w0 (by omega) T_
 have wqz:Jm.Sz 60 (whole / sd):=wz.ediv sp
 have XD:∀{i:Int},AZ i sd:=fun {i}=>um sp (sz.mono (by decide))
 refine ⟨A.ab,_,h4.ef,fun UE=>?_⟩
 refine ⟨_,Z,A.a,T.hold,A.dx,_,_,Z,eZ h4.ef h4.oa (fun k z=>by cases z),X.cH,X.hab,Z,A.ab,_,Z, .inr ⟨UE,aj⟩,fun v hv=>?_⟩
 have nva:v≠A.ab:=fun e=>by rw [e,aj] at hv;cases hv
 have hv4:H4 v=none:=nX h4.ef hv
 have g5:=aA hv4 (lG v A.ab)
 have hv5:upd H4 v (lG v A.ab) v=some (lG v A.ab):=aj
 rw [kC (cu nva)]
 have h5:=h4.mono g5
 have G5:=G4.same g5
 have F5:=F4.trans (Fr.of_same (ρ:=ρ) g5)
 have s5:=s4.trans g5
 have c1:=g5 _ _ b1
 have c2:=g5 _ _ b2
 generalize upd H4 v (lG v A.ab)=H5 at *
 clear h4 G4 F4 s4 b1 b2 g5
 refine ⟨_,Z,_,_,_,_,_,_,Z, .vals (eZ h5.ef hv5 (fun k z=>by cases z)) aj, .lst (aC.of (eZ h5.ef c1 (fun k z=>by cases z))),?_⟩
 have exl:((cX st.ai A.qs).map fun p=>p.2).length=st.ai.length:=by rw [aF];exact el
 have eyl:((iL st kept).map V.int).length=st.ai.length:=by rw [aF];exact lsc
 refine ur (n:=st.ai.length) (fun i σ H'=>(∃s7 s8,σ=[some (.ref A.a),some (.int kept),some (.int whole),some (.ref la),some (.ref l1),some (.ref l2),some (.int sd),s7,s8])/\∃H6,H'=upd H6 A.ab (.fm UE (.dK (cX st.ai A.qs)))/\Gh ρ H6/\Fr n ρ H ρ H6/\aY T n ρ A H6 { st with ai:=(st.ai.take i).map (fun p=>{ p with sc:=p.sc*kept / sd })++st.ai.drop i }/\H6 l1=some (.lst ((iL st kept).map V.int))/\H6 l2=some (.lst ((fV st kept added).map V.int))/\(∀b,H6 b=none->H b=none))
  ⟨⟨_,_,Z⟩,H5,Z,G5,F5,h5,c1,c2,fun b e=>s5.free e⟩ ?_ ?_ ?_ ?_
 . rintro i σ H' hi ⟨_,H6,rfl,G6,F6,h6,d1,d2,fr⟩
   have e6:cX ({ st with ai:=(st.ai.take i).map (fun p:Pt=>{ p with sc:=p.sc*kept / sd })++st.ai.drop i }:HS).ai A.qs=cX st.ai A.qs:=oR (qD (fun p:Pt=>{ p with sc:=p.sc*kept / sd }) (fun p:Pt=>p.nm) (fun _=>rfl) st.ai i)
   have qP:=h6.ef
   rw [e6] at qP
   exact ⟨aj,aC.of (eZ qP d1 (fun k z=>by cases z)),by rw [exl];exact hi,by rw [eyl];exact hi⟩
 . rintro σ H' ⟨_,H6,rfl,G6,F6,h6,d1,d2,fr⟩
   have e6:cX ({ st with ai:=(st.ai.take st.ai.length).map (fun p:Pt=>{ p with sc:=p.sc*kept / sd })++st.ai.drop st.ai.length }:HS).ai A.qs=cX st.ai A.qs:=oR (qD (fun p:Pt=>{ p with sc:=p.sc*kept / sd }) (fun p:Pt=>p.nm) (fun _=>rfl) st.ai _)
   have qP:=h6.ef
   rw [e6] at qP
   exact ⟨aj,aC.of (eZ qP d1 (fun k z=>by cases z)), .inl (by rw [exl];exact aP _)⟩
 . rintro i x σ H' Ef hi ⟨⟨s7,s8,rfl⟩,H6,rfl,G6,F6,h6,d1,d2,fr⟩ ⟨pp,x1,y1,hpp,rfl,rfl,ex,ey⟩
   have ep:=aX hi
   have ep6:=K6 (fun p:Pt=>{ p with sc:=p.sc*kept / sd }) ep
   obtain ⟨qq,eq,k1,k2,k3,k4⟩:=h6.find ep6
   have nm6:=qD (fun p:Pt=>{ p with sc:=p.sc*kept / sd }) (fun p:Pt=>p.nm) (fun _=>rfl) st.ai i
   have e6:cX ({ st with ai:=(st.ai.take i).map (fun p:Pt=>{ p with sc:=p.sc*kept / sd })++st.ai.drop i }:HS).ai A.qs=cX st.ai A.qs:=oR nm6
   have qP:=h6.ef
   rw [e6] at qP
   rw [bJ,xm ep eq] at ex
   cases ex
   obtain ⟨sc,rfl,esc⟩:=gJ ey
   have ahl:sc=(st.ai[i]).sc*kept:=by
    unfold iL at esc
    rw [bJ,ep] at esc
    exact (iG esc).symm
   subst ahl
   have npa:pp≠A.ab:=fun e=>by rw [e,aj] at hpp;cases hpp
   have ahm:H6 pp=none:=nX qP hpp
   have g7:=aA ahm (.tup [.ref qq.1, .int ((st.ai[i]).sc*kept)])
   rw [kC (cu npa)]
   have EO:upd H6 pp (.tup [.ref qq.1, .int ((st.ai[i]).sc*kept)]) pp=some (.tup [.ref qq.1, .int ((st.ai[i]).sc*kept)]):=aj
   have h7:=h6.mono g7
   have G7:=G6.same g7
   have F7:=F6.trans (Fr.of_same (ρ:=ρ) g7)
   have WE:=g7 _ _ qP
   have f1:=g7 _ _ d1
   have f2:=g7 _ _ d2
   have SM:∀b,upd H6 pp (.tup [.ref qq.1, .int ((st.ai[i]).sc*kept)]) b=none->H b=none:=fun b e=>fr b (g7.free e)
   have PK:=g7 _ _ k1
   generalize upd H6 pp (.tup [.ref qq.1, .int ((st.ai[i]).sc*kept)])=H7 at *
   refine ⟨pp,_,Z,cR.of (eZ WE EO (fun k z=>by cases z)),Z,_,_,Z,_,_,Z,Z,?_⟩
   refine ⟨_,Z,_,Z,_,_,Z,Z,XD,_,Z,qq.1,T.part,qq.2.1,_,Z,eZ WE PK (fun k z=>by cases z),X.cP,X.Te,by show 6<1000;decide,?_⟩
   have nd7:(((st.ai.take i).map (fun p:Pt=>{ p with sc:=p.sc*kept / sd })++st.ai.drop i).map (fun p:Pt=>p.nm)).Nodup:=by rw [nm6];exact nd
   have h8:=h7.ux (p1:={ st.ai[i] with sc:=(st.ai[i]).sc*kept / sd }) G7 ep6 eq rfl rfl nd7
   rw [show ({ st with ai:=(st.ai.take i).map (fun p:Pt=>{ p with sc:=p.sc*kept / sd })++st.ai.drop i }:HS).ai.set i { st.ai[i] with sc:=(st.ai[i]).sc*kept / sd }=_ from K7 (fun p:Pt=>{ p with sc:=p.sc*kept / sd }) ep] at h8
   have nqa:A.ab≠qq.1:=(iW PK WE (by intro z;cases z)).symm
   have nq1:l1≠qq.1:=iW f1 PK (by intro z;cases z)
   have nq2:l2≠qq.1:=iW f2 PK (by intro z;cases z)
   refine ⟨⟨_,_,Z⟩,_,kC nqa,G7.wr rfl,F7.trans (Fr.write k3),h8,by rw [av nq1];exact f1,by rw [av nq2];exact f2,fun b e=>SM b ?_⟩
   by_cases z:b=qq.1
   . rw [z,aj] at e;cases e
   . rw [av z] at e;exact e
 rintro σ H' ⟨⟨s7,s8,rfl⟩,H6,rfl,G6,F6,h6,d1,d2,fr⟩
 have e6:cX ({ st with ai:=(st.ai.take st.ai.length).map (fun p:Pt=>{ p with sc:=p.sc*kept / sd })++st.ai.drop st.ai.length }:HS).ai A.qs=cX st.ai A.qs:=oR (qD (fun p:Pt=>{ p with sc:=p.sc*kept / sd }) (fun p:Pt=>p.nm) (fun _=>rfl) st.ai _)
 have qP:=h6.ef
 rw [e6] at qP
 refine ⟨aj,?_⟩
 rw [t8,yk qP]
 rw [show ({ st with ai:=(st.ai.take st.ai.length).map (fun p:Pt=>{ p with sc:=p.sc*kept / sd })++st.ai.drop st.ai.length }:HS)={ st with ai:=st.ai.map fun p:Pt=>{ p with sc:=p.sc*kept / sd } } from by rw [cC,Dr,qZ]] at h6
 clear e6 qP h5 G5 F5 s5 c1 c2 hv5
 refine ⟨_,Z,l2,Z,⟨_,aC.of d2⟩,fun l3 hl3=>?_⟩
 refine iR (J:=uh K l2) (n:=((fV st kept added).map V.int).length) 0 (fun i o H'=>aE H6 H'/\o=(((fV st kept added).take i).map (· / sd)).map V.int) (by rw [aF];omega) ⟨aA hl3 _,Z⟩ (fun i o H' hi _ hp=>⟨_,_,aC.of (hp.1 _ _ d2),aX hi⟩) (fun o H' _ hp=>⟨_,aC.of (hp.1 _ _ d2),aP _⟩) ?_ ?_
 . rintro i y o Ha Hb hi eL ha ⟨g,e⟩ ⟨rfl,hy⟩
   obtain ⟨c,rfl,ec⟩:=gJ (hy _ (aC.of (g _ _ d2)))
   refine ⟨_,Z,_,Z,_,_,Z,Z,XD,ha,g.cF hl3 _,?_⟩
   subst e
   rw [take_snoc ec,bL,bL]
   rfl
 rintro o3 H8 akf L8 ⟨g8,e8⟩
 rw [aF,cC] at e8
 subst e8
 have h8:=h6.mono g8
 have G8:=G6.same g8
 have F8:=F6.trans (Fr.of_same (ρ:=ρ) g8)
 have fr8:∀b,H8 b=none->H b=none:=fun b e=>fr b (g8.free e)
 have c3:ρ l3=none:=G6.none hl3
 have n3:H l3=none:=fr l3 hl3
 refine ⟨_,Z,A.a,T.hold,A.dx,_,Z,h8.oa,X.cH,X.BW,by show 7<1000;decide,?_⟩
 obtain ⟨h9,G9⟩:=HR (t:=6) h8 G8 c3 L8 rfl
 have F9:Fr n ρ H (cK ρ l3 (n,6,⟨#[]⟩)) H8:=F8.yo n3
 have B_:=h9.aa1 G9 l3 _ L8 dM
 have G10:=G9.wr (a:=A.a) (o:= .ins T.hold A.dx (mX { A with cm:=l3 })) rfl
 have F10:=F9.trans (Fr.write (o:= .ins T.hold A.dx (mX { A with cm:=l3 })) h9.ca)
 show Cq _ _ _ _ (upd H8 A.a (.ins T.hold A.dx (mX { A with cm:=l3 })))
 have ahn:∀b,upd H8 A.a (.ins T.hold A.dx (mX { A with cm:=l3 })) b=none->H b=none:=fun b e=>fr8 b (by
  by_cases z:b=A.a
  . rw [z,aj] at e;cases e
  . rw [av z] at e;exact e)
 generalize upd H8 A.a (.ins T.hold A.dx (mX { A with cm:=l3 }))=KI at *
 clear h6 G6 F6 h8 G8 F8 h9 G9 F9 L8 g8 fr8 fr d1 d2
 refine ⟨_,Z,A.a,T.hold,A.dx,_,_,Z,B_.oa,X.cH,X.KY,Z,A.pu,Z,⟨_,aC.of B_.qu⟩,fun l4 Ir=>?_⟩
 have akg:st.dg.length<=100:=by rw [hh.wf.yg];exact hh.wf.sJ
 refine iR (J:=uh K A.pu) (n:=(st.dg.map V.int).length) 0 (fun i o H'=>aE KI H'/\o=((st.dg.take i).map (·*(whole / sd))).map V.int) (by rw [aF];omega) ⟨aA Ir _,Z⟩ (fun i o H' hi _ hp=>⟨_,_,aC.of (hp.1 _ _ B_.qu),aX hi⟩) (fun o H' _ hp=>⟨_,aC.of (hp.1 _ _ B_.qu),aP _⟩) ?_ ?_
 . rintro i y o Ha Hb hi eL ha ⟨g,e⟩ ⟨rfl,hy⟩
   obtain ⟨c,rfl,ec⟩:=gJ (hy _ (aC.of (g _ _ B_.qu)))
   refine ⟨_,Z,_,Z,_,Z,_,_,Z,Z,XD,_,_,Z,Z,jc (hpz c (bN ec)) wqz,ha,g.cF Ir _,?_⟩
   subst e
   rw [take_snoc ec,bL,bL]
   rfl
 rintro o4 H11 akh aci ⟨g11,e11⟩
 rw [aF,cC] at e11
 subst e11
 have h11:=B_.mono g11
 have G11:=G10.same g11
 have F11:=F10.trans (Fr.of_same (ρ:=cK ρ l3 (n,6,⟨#[]⟩)) g11)
 have c4:cK ρ l3 (n,6,⟨#[]⟩) l4=none:=G10.none Ir
 have n4:H l4=none:=ahn l4 Ir
 refine ⟨_,Z,A.a,T.hold,A.dx,_,Z,h11.oa,X.cH,X.KY,by show 7<1000;decide,?_⟩
 obtain ⟨h12,G12⟩:=HR (t:=7) h11 G11 c4 aci rfl
 have F12:Fr n ρ H (cK (cK ρ l3 (n,6,⟨#[]⟩)) l4 (n,7,⟨#[]⟩)) H11:=F11.yo n4
 have Iu:=h12.aa2 G12 l4 _ aci dM
 have G13:=G12.wr (a:=A.a) (o:= .ins T.hold A.dx (mX { { A with cm:=l3 } with pu:=l4 })) rfl
 have F13:=F12.trans (Fr.write (o:= .ins T.hold A.dx (mX { { A with cm:=l3 } with pu:=l4 })) h12.ca)
 rw [show aV "purses" (V.ref l4) (mX { A with cm:=l3 })=mX { { A with cm:=l3 } with pu:=l4 } from rfl]
 generalize upd H11 A.a (.ins T.hold A.dx (mX { { A with cm:=l3 } with pu:=l4 }))=H13 at *
 refine ⟨_,Z,A.a,T.hold,A.dx,_,_,Z,Iu.oa,X.cH,X.Eb,Z,A.bt,A.db,_,Z,Iu.oO,Z,_,Z,_,Z,_,_,Z,Z,XD,?_⟩
 refine ⟨⟨n,_,{ { A with cm:=l3 } with pu:=l4 },{ st with ai:=st.ai.map (fun p:Pt=>{ p with sc:=p.sc*kept / sd }),bR:=(fV st kept added).map (· / sd),dg:=st.dg.map (·*(whole / sd)) },whole / sd,Z,G13,Iu,by show st.stp.length<=1000;omega,hh.wf.big.mono (by decide),wqz.mono (by decide),fun ρ' A' H' a1 a2 a3 a4=>?_⟩⟩
 have eb:cS st kept whole added=fP { st with ai:=st.ai.map (fun p:Pt=>{ p with sc:=p.sc*kept / sd }),bR:=(fV st kept added).map (· / sd),dg:=st.dg.map (·*(whole / sd)) } (whole / sd):=by
  unfold cS
  rw [XC]
 rw [eb] at wf' q
 exact q ρ' A' H' ⟨a1,a2,wf'⟩ a3 (F13.trans a4)
abbrev uV:Stmt:=inClass (top 24) 3
abbrev rG:List Str:=["self","rows"]
abbrev NF:List Str:=rG.append ["amounts","name","amount","whole","lost"]
theorem h_:aJ NF rG (ay uV):=c8
theorem L_ {T:TC} (F:iS K T.hold "cast" "Hold.cast" uV f fd) (X:Txt K T) (uW:Dn P w K mg base 1 "amounts_of" pP (Tu K)) (uX:Dn P w K mg base 2 "check_loss" lY Xk) (iN:Mn P w K mg base 1 T.hold "part_of" gK (CD T)) (kg:Mn P w K mg base 1 T.hold "whole" lZ (Gb T)) (uY:Mn P w K mg base 3 T.hold "blend" pU (Pc T K)) (pW:Mn P w K mg base 1 T.hold "given_up" lJ (Pb T)) (ji:Mn P w K mg base 1 T.hold "lessen" kT (La T)) (fQ:mg "sum"=none):Mn P w K mg base 4 T.hold "cast" rG (Tz T K):=by
 refine F.oA h_ fun cdv A outer s H vs Q E hr h=>?_
 obtain ⟨⟨n,ρ,A,st,l,us,rs,rfl,hh,hl,hR,ok,q⟩⟩:=h
 have wf:=hh.wf
 have nd:=ok.nd
 refine ⟨_,(@cI.h _ _ _ (ao (aO (i:=2) h_.nd (aZ uW hr (af (qv 1) ak)))
  (ao (xB (dS ee rfl (CP (qv 2)) (jg K (n:=2) rfl (cT (aR (i:=3) h_.nd) (cT (aR (i:=4) h_.nd) jf))) (au (cW (aZ uX hr (af (bf K (gF iN hr (qv 0) (af (qv 3) ak))) (af (qv 4) ak)))))))
  (ao (aO (i:=5) h_.nd (xA kg hr (qv 0)))
  (ao (aO (i:=6) h_.nd (aG (HJ rfl) (by rfl) fQ xP (af (Gn (qv 2)) ak)))
  (ao (cM (aT QB (qv 6) (qv 5) (a_ _)) (au jH) aU)
  (ao (cW (gF uY hr (qv 0) (af (aD kO (qv 5) (qv 6)) (af (qv 5) (af (gF pW hr (qv 0) (af (qv 2) ak)) ak)))))
  (au (xB (dS ee rfl (CP (qv 2)) (jg K (n:=2) rfl (cT (aR (i:=3) h_.nd) (cT (aR (i:=4) h_.nd) jf))) (au (cW (gF ji hr (qv 0) (af (qv 3) (af (qv 4) ak))))))))))))))),?_⟩
 refine ⟨_,Z,⟨⟨l,us,rs,Z,hl,hR,nd,ok.ne,ok.len,fun d H1 g1 hdn hd1=>?_⟩⟩⟩
 have gw:=hh.mono g1
 have F1:Fr n ρ H ρ H1:=Fr.of_same g1
 have cd:ρ d=none:=hh.g.none hdn
 have al:=ym rs
 refine ⟨d,_,hd1,fun ob=>⟨_,Z,d,ob,_,Z,aj,?_⟩⟩
 refine ur (n:=(gY rs).length) (fun i σ H'=>aE (upd H1 d (.fm ob (.dK (gY rs)))) H'/\∃s3 s4 s5 s6,σ=[some (.ref A.a),some (.ref l),some (.ref d),s3,s4,s5,s6])
  ⟨aE.refl _,_,_,_,_,Z⟩ (fun i σ H' hi hp=>⟨hp.1 _ _ aj,hi⟩) (fun σ H' hp=>⟨hp.1 _ _ aj,aP _⟩) ?_ ?_
 . rintro i x σ H3 H4 hi ⟨g,s3,s4,s5,s6,rfl⟩ ⟨pp,kv,hpp,hkv,rfl,rfl⟩
   unfold gY at hkv
   rw [bJ] at hkv
   obtain ⟨r,er,rfl⟩:=lP.mp hkv
   have hrm:=bN er
   obtain ⟨r1,zr,p,i9,EN,hle⟩:=ok.row r hrm
   obtain ⟨ip,yW,UB⟩:=qx i9
   have ep:st.ai[ip]?=some p:=by rw [aX yW,UB]
   have g4:=aA hpp (.tup [.str r.1, .int r.2])
   have gg:=g.trans g4
   have hf:HH T n ρ A (upd H1 d (.fm ob (.dK (gY rs)))) st:=gw.JW cd hd1 rfl rfl
   have h4:=hf.mono gg
   have EO:upd H3 pp (.tup [.str r.1, .int r.2]) pp=some (.tup [.str r.1, .int r.2]):=aj
   show Cr K 2 _ _ _ (upd H3 pp (.tup [.str r.1, .int r.2])) _
   generalize upd H3 pp (.tup [.str r.1, .int r.2])=H4 at *
   obtain ⟨qq,eq,k1,k2,_,_⟩:=h4.h.find ep
   refine ⟨pp,_,Z,cR.of EO,Z,_,_,Z,_,_,Z,Z,?_⟩
   refine ⟨_,Z,A.a,A.dx,_,Z,h4.h.oa,Z,_,Z,⟨⟨n,ρ,A,st,ip,p,qq,by rw [<-EN];rfl,h4.h,wf.kB,ep,eq,?_⟩⟩⟩
   refine ⟨qq.1,T.part,qq.2.1,_,_,Z,k1,X.cP,X.HM,Z,_,Z,⟨⟨p.wo,r.2,Z,r1,hle,?_⟩⟩⟩
   exact ⟨gg,_,_,_,_,Z⟩
 rintro σ H2 ⟨g2,s3,s4,s5,s6,rfl⟩
 refine ⟨g2 _ _ aj,?_⟩
 have gB:=uB hd1 g2
 have kR:=gw.mono gB
 have F2:Fr n ρ H ρ (upd H2 d (.dK (gY rs))):=F1.trans (Fr.of_same gB)
 have hd2:upd H2 d (.dK (gY rs)) d=some (.dK (gY rs)):=aj
 generalize upd H2 d (.dK (gY rs))=H2' at *
 refine ⟨_,Z,A.a,A.dx,_,Z,kR.h.oa,Z,⟨⟨n,ρ,A,st,Z,kR.h,wf.wm,fun H3 g3=>?_⟩⟩⟩
 have oY:=kR.mono g3
 have PL:=g3 _ _ hd2
 have F3:=F2.trans (Fr.of_same (ρ:=ρ) g3)
 refine ⟨_,Z,d,_,Z, .inl PL,fun v hv=>⟨v,d,_,rs.map (·.2),Z,aj, .inl (by rw [av (aI PL hv)];exact PL),by unfold gY;rw [fF,fF];rfl,?_⟩⟩
 have g4:=aA hv (lG v d)
 have nv:=oY.mono g4
 have hd4:=g4 _ _ PL
 have F4:=F3.trans (Fr.of_same (ρ:=ρ) g4)
 generalize upd H3 v (lG v d)=H4 at *
 have bo:=ok.blend wf
 refine ⟨_,Z,_,Z,_,_,Z,Z,_,Z,dm (fun c=>absurd (dO c) (by have:=ok.lost;show ¬ bK st<=bu rs;omega)) fun _=>?_⟩
 refine ⟨_,Z,A.a,A.dx,_,Z,nv.h.oa,Z,_,Z,_,Z,_,_,Z,Z,_,Z,_,Z,A.a,A.dx,_,Z,nv.h.oa,Z,_,Z,⟨⟨n,ρ,A,st,d,rs,Z,nv.h,wf,hd4,cd,ok.len,fun r hr=>⟨(ok.row r hr).2.1,by obtain ⟨p,hp,e,_⟩:=(ok.row r hr).2.2;exact ⟨p,hp,e⟩⟩,fun l5 H5 g5 hn5 hl5=>?_⟩⟩⟩
 have vS:=nv.mono g5
 have hd5:=g5 _ _ hd4
 have F5:=F4.trans (Fr.of_same (ρ:=ρ) g5)
 have zk:Jm.Sz 60 (bK st-bu rs):=bo.big.of_le (by have:=bo.k;have:=bo.l;omega)
 have zG:∀m∈fX st rs,0<=m/\Jm.Sz 8900 m:=fun m hm=>by
  have h1:=bo.add m hm
  have h2:=wf.iX
  have zl:Jm.Sz 60 (bu rs):=bo.big.of_le (by have:=bo.k;have:=bo.l;omega)
  exact ⟨h1.1,Jm.Sz.pF (by have:=nE bo.l (show 0<=st.prod by omega);omega) h1.2 ((zl.mul bo.prod).mono (by decide))⟩
 refine ⟨⟨n,ρ,A,st,bK st-bu rs,bK st,l5,fX st rs,Z,vS,aC.of hl5,bo.len,bo.k,by have:=bo.k;have:=bo.l;omega,zk,bo.big,zG,ok.dg,ok.stp,V_ wf bo,fun ρ6 A6 H6 Iq e6 f6=>?_⟩⟩
 obtain ⟨hd6,cd6⟩:=f6 d _ hd5 (fun t x=>by rw [cd];intro z;cases z)
 rw [cd] at cd6
 have F6:=F5.trans f6
 refine ⟨d,_,hd6,fun UE=>⟨_,Z,d,UE,_,Z,aj,?_⟩⟩
 generalize eB:cS st (bK st-bu rs) (bK st) (fX st rs)=PM at *
 have aho:Due PM rs:=by rw [<-eB];exact TQ ok.due
 have aeh:kF st rs=rs.foldl fH PM:=by unfold kF;rw [eB]
 refine ur (n:=(gY rs).length) (fun i σ H'=>∃ρ' A',HH T n ρ' A' H' ((rs.take i).foldl fH PM)/\A'.a=A.a/\H' d=some (.fm UE (.dK (gY rs)))/\ρ' d=none/\Fr n ρ H ρ' H'/\Due ((rs.take i).foldl fH PM) (rs.drop i)/\∃s3 s4 s5 s6,σ=[some (.ref A.a),some (.ref l),some (.ref d),s3,s4,s5,s6])
  ⟨ρ6,A6,Iq.JW cd6 hd6 rfl rfl,e6,aj,cd6,F6.new hdn,aho,_,_,_,_,Z⟩ (fun i σ H' hi hp=>by obtain ⟨_,_,_,_,e,_⟩:=hp;exact ⟨e,hi⟩) (fun σ H' hp=>by obtain ⟨_,_,_,_,e,_⟩:=hp;exact ⟨e,aP _⟩) ?_ ?_
 . rintro i x σ H7 H8 hi ⟨ρ7,A7,PN,e7,XE,XF,F7,due,s3,s4,s5,s6,rfl⟩ ⟨pp,kv,hpp,hkv,rfl,rfl⟩
   unfold gY at hkv
   rw [bJ] at hkv
   obtain ⟨r,er,rfl⟩:=lP.mp hkv
   have hir:i<rs.length:=by rw [<-al];exact hi
   have edr:rs.drop i=r::rs.drop (i+1):=by
    rw [Qc hir]
    rw [aX hir] at er
    rw [iG er]
   rw [edr] at due
   have g4:=aA hpp (.tup [.str r.1, .int r.2])
   have hh8:=PN.mono g4
   have hd8:=g4 _ _ XE
   have F8:=F7.trans (Fr.of_same (ρ:=ρ7) g4)
   have EO:upd H7 pp (.tup [.str r.1, .int r.2]) pp=some (.tup [.str r.1, .int r.2]):=aj
   show Cr K 2 _ _ _ (upd H7 pp (.tup [.str r.1, .int r.2])) _
   generalize upd H7 pp (.tup [.str r.1, .int r.2])=H8 at *
   refine ⟨pp,_,Z,cR.of EO,Z,_,_,Z,_,_,Z,Z,?_⟩
   have eN:(rs.take (i+1)).foldl fH PM=fH ((rs.take i).foldl fH PM) r:=by rw [take_snoc er,J8];rfl
   have ndr:((r::rs.drop (i+1)).map (fun r:Row=>r.1)).Nodup:=by rw [<-edr,List.map_drop];exact nd.sublist (List.drop_sublist _ _)
   refine ⟨_,Z,A.a,A7.dx,_,Z,by rw [<-e7];exact hh8.h.oa,Z,_,Z,_,Z,⟨⟨n,ρ7,A7,_,r,by rw [e7];rfl,hh8,due r cJ,abi PN.wf due,fun ρ9 A9 H9 hh9 e9 f9=>?_⟩⟩⟩
   obtain ⟨hd9,cd9⟩:=f9 d _ hd8 (fun t x=>by rw [XF];intro z;cases z)
   rw [XF] at cd9
   rw [<-eN] at hh9
   exact ⟨ρ9,A9,hh9,e9.trans e7,hd9,cd9,F8.trans f9,by rw [eN];exact Wb PN.wf due ndr,_,_,_,_,Z⟩
 rintro σ H7 ⟨ρ7,A7,PN,e7,XE,XF,F7,due,s3,s4,s5,s6,rfl⟩
 rw [al,cC,<-aeh] at PN
 exact ⟨XE,q ρ7 A7 _ (PN.JW XF XE rfl rfl) e7 (F7.new hdn)⟩
abbrev qQ:Stmt:=inClass (top 4) 2
abbrev nN:List Str:=["self","top"]
abbrev IU:List Str:=nN.append ["rest","step","shared"]
theorem iO:aJ IU nN (ay qQ):=c8
theorem GF {T:TC} (F:iS K T.bot "over" "Bottom.over" qQ f fd) (X:Txt K T) (iy:Dn P w K mg base 1 "common_factor" jy VM):Mn P w K mg base 2 T.bot "over" nN (O7 T):=by
 refine F.oA iO fun cdv A outer s H vs Q E hr h=>?_
 obtain ⟨⟨bt,db,sp,kn,stp,prod,top,rfl,hb,hs,ep,h2,hz,q⟩⟩:=h
 refine ⟨_,(@cI.h _ _ _ (ao (aO (i:=2) iO.nd (bf K (qv 0)))
  (ao (dS ee rfl (dH K (bf K (qv 0))) (aR (i:=3) iO.nd) (ao (aO (i:=4) iO.nd (aZ iy hr (af (qv 3) (af (aD jq (qv 1) (qv 3)) ak))))
  (au (fL (aT ir (qv 4) ah (a_ _)) (ao (aO (i:=1) iO.nd (aD gI (qv 1) (qv 4)))
  (au (aO (i:=2) iO.nd (aD gI (qv 2) (qv 4))))) aU))))
  (au (aS (g_ (af (qv 1) (af (qv 2) ak)))))))),?_⟩
 have p1:1<=prod:=by rw [ep];exact K9 h2
 refine ⟨_,Z,bt,T.bot,db,_,_,Z,hb,X.cB,X.Xg,Z,?_⟩
 refine ⟨_,Z,bt,T.bot,db,_,_,Z,hb,X.cB,X.bst,Z,sp,Z,⟨_,aC.of hs⟩,?_⟩
 refine lQ (K:=K) (xs:=stp.map V.int) (fun i σ H'=>H'=H/\∃(t r d:Int) (s3 s4:Option V),σ=[some (.ref bt),some (.int t),some (.int r),s3,s4]/\t*prod=top*r/\r=d*(stp.drop i).foldl (·*·) 1/\0<d/\Jm.cf t d=1)
  ⟨Z,top,prod,1,none,none,Z,Z,by rw [List.drop_zero,Int.one_mul];exact ep,by decide,by unfold Jm.cf;rw [Int.gcd_one];rfl⟩ (fun i σ H' _ hp=>by rw [hp.1];exact aC.of hs) ?_ ?_
 . rintro i x σ H' hx ⟨rfl,t,r,d,s3,s4,rfl,e1,e2,d0,c⟩
   obtain ⟨st,rfl,es⟩:=gJ hx
   have hm:=bN es
   have s2:=h2 st hm
   have hi:=(eF.mp es).1
   have hdr:stp.drop i=st::stp.drop (i+1):=by
    rw [Qc hi]
    congr 1
    rw [aX hi] at es
    exact iG es
   rw [hdr,Gd] at e2
   have r0:0<=t % st:=nD _ (by omega)
   refine ⟨_,Z,_,Z,_,Z,_,_,Z,Z,(by show 0<st;omega),st,t % st,Z,by omega,r0,?_⟩
   rw [Jm.FP t st (by omega)]
   obtain ⟨o1,o2⟩:=Tp d0 (by omega:0<st) c
   have gp:0<Jm.cf t st:=Jm.DS t st (.inr (by omega))
   have gz:Jm.Sz 9000 (Jm.cf t st):=((hz.of_le (by have:=Xi h2 hm;rw [<-ep] at this;omega)).dvd (by omega:0<st) (by omega) (Jm.pD t st)).mono (by decide)
   obtain ⟨u,hu⟩:=Jm.rB t st
   obtain ⟨v,hv⟩:=Jm.pD t st
   have e3:t / Jm.cf t st*prod=top*(r / Jm.cf t st):=by
    have a1:t / Jm.cf t st=u:=by rw [WN (by omega) hu]
    have a2:r=Jm.cf t st*(d*v*(stp.drop (i+1)).foldl (·*·) 1):=by
     rw [e2]
     conv=>lhs;rw [hv]
     rw [jK (Jm.cf t st),Int.mul_left_comm,jK d]
    have a3:r / Jm.cf t st=d*v*(stp.drop (i+1)).foldl (·*·) 1:=by rw [WN (by omega) a2]
    rw [a1,a3]
    have BZ:Jm.cf t st*(u*prod)=Jm.cf t st*(top*(d*v*(stp.drop (i+1)).foldl (·*·) 1)):=by
     rw [<-jK,<-hu,e1]
     conv=>lhs;rw [a2]
     rw [Int.mul_left_comm]
    exact Int.eq_of_mul_eq_mul_left (by omega) BZ
   have e4:r / Jm.cf t st=d*(st / Jm.cf t st)*(stp.drop (i+1)).foldl (·*·) 1:=by
    have a4:st / Jm.cf t st=v:=by rw [WN (by omega) hv]
    have a2:r=Jm.cf t st*(d*v*(stp.drop (i+1)).foldl (·*·) 1):=by
     rw [e2]
     conv=>lhs;rw [hv]
     rw [jK (Jm.cf t st),Int.mul_left_comm,jK d]
    rw [a4,WN (by omega) a2]
   refine ⟨fun σ' H2=>H2=H'/\σ'=[some (.ref bt),some (.int (t / Jm.cf t st)),some (.int (r / Jm.cf t st)),some (.int st),some (.int (Jm.cf t st))],?_,?_⟩
   . refine ⟨_,Z,_,_,Z,Z,_,Z,dm (fun c=>?_) (fun c=>?_)⟩
     . exact ⟨_,Z,_,Z,_,_,Z,Z,um gp gz,_,Z,_,Z,_,_,Z,Z,um gp gz,Z,Z⟩
     . have c':¬ 1<Jm.cf t st:=o6 (mT.mpr c)
       have g1:Jm.cf t st=1:=by omega
       refine ⟨Z,?_⟩
       rw [g1,AR,AR]
       rfl
   rintro σ' H2 ⟨rfl,rfl⟩
   exact ⟨Z,_,_,_,_,_,Z,e3,e4,o2,o1⟩
 rintro σ H' ⟨rfl,t,r,d,s3,s4,rfl,e1,e2,d0,c⟩
 rw [List.drop_of_length_le (by rw [aF];exact aP _),List.foldl_nil,Int.mul_one] at e2
 subst e2
 refine ⟨_,Z,_,Z,(iw 2),fun p hp=>?_⟩
 refine q p _ (aA hp _) ?_
 rw [aj]
 obtain ⟨a1,a2⟩:=Jm.SG d0 c
 have:Jm.fr top prod=Jm.fr t r:=Jm.W0 (by omega) d0 e1.symm
 unfold pG
 rw [this,a1,a2]
abbrev pX:Stmt:=inClass (top 4) 3
abbrev mQ:List Str:=["self","top"]
abbrev GG:List Str:=mQ
theorem ER:aJ GG mQ (ay pX):=c8
theorem ES {T:TC} (F:iS K T.bot "share" "Bottom.share" pX f fd) (X:Txt K T) (sV:Mn P w K mg base 2 T.bot "over" nN (O7 T)):Mn P w K mg base 3 T.bot "share" mQ (K3 T):=by
 refine F.oA ER fun cdv A outer s H vs Q E hr h=>?_
 obtain ⟨⟨bt,db,sp,kn,stp,prod,top,kvs,rfl,hb,hs,ep,h2,hz,hk,kat,kl,knd,q⟩⟩:=h
 refine ⟨_,(@cI.h _ _ _ (ao (fL (xy (Ai (bY hr) (qv 1) (bf K (qv 0)))) (au (oV (bY hr) (bf K (qv 0)) (qv 1) (gF sV hr (qv 0) (af (qv 1) ak)) rfl)) aU)
  (au (aS (bU (bY hr) (bf K (qv 0)) (qv 1)))))),?_⟩
 refine ⟨fun σ' H'=>σ'=[some (.ref bt),some (.int top)]/\(∀b o,H b=some o->b≠kn->H' b=some o)/\∃kvs' r,H' kn=some (.dK kvs')/\KU H' kvs' prod/\kvs'.length<=kvs.length+1/\(kvs'.map (·.1)).Nodup/\d9 kvs' (Sum.inl top)=some (.ref r)/\H' r=some (pG (Jm.fr top prod)),?_,?_⟩
 . refine ⟨_,Z,_,Z,bt,T.bot,db,_,_,Z,hb,X.cB,X.Tf,Z,kn,_,Z,cO.k (k:=Sum.inl top) hk,_,Z,?_⟩
   cases e:d9 kvs (Sum.inl top) with
   | some v=>
     refine cV ⟨Z,fun b o e _=>e,kvs,?_⟩
     obtain ⟨t,r,e2,hr2⟩:=kat _ (V6 e)
     cases e2
     exact ⟨r,hk,kat,Nat.le_succ _,knd,e,hr2⟩
   | none=>
     refine qC ?_
     refine ⟨_,Z,bt,db,_,Z,hb,Z,_,Z,⟨⟨bt,db,sp,kn,stp,prod,top,Z,hb,hs,ep,h2,hz,fun r H1 g1 hr1=>?_⟩⟩⟩
     have sl:kvs.length<sizeLine:=by rw [fu];omega
     refine ⟨_,Z,bt,T.bot,db,_,_,Z,g1 _ _ hb,X.cB,X.Tf,Z,_,Z,kn,_,Z,sj.k (k:=Sum.inl top) (g1 _ _ hk) sl,Z,fun b o e hb=>by rw [av hb];exact g1 _ _ e,_,r,aj,?_,?_,Yn _ knd e,by rw [Vz,aB rfl],by rw [av (iW hr1 (g1 _ _ hk) (by intro z;cases z))];exact hr1⟩
     . rw [nW _ e]
       intro p hp
       rcases fZ.mp hp with z|z
       . obtain ⟨t,r',e2,hr2⟩:=kat p z
         exact ⟨t,r',e2,by rw [av (iW (g1 _ _ hr2) (g1 _ _ hk) (by intro z;cases z))];exact g1 _ _ hr2⟩
       . rw [fU.mp z]
         exact ⟨top,r,Z,by rw [av (iW hr1 (g1 _ _ hk) (by intro z;cases z))];exact hr1⟩
     . rw [nW _ e,di]
       exact aP _
 rintro σ' H' ⟨rfl,k1,kvs',r,e1,e2,e3,e4,e5,e6⟩
 exact ⟨_,Z,bt,T.bot,db,_,_,Z,k1 _ _ hb (iW hb hk (by intro z;cases z)),X.cB,X.Tf,Z,_,Z,kn,_,Z,e5▸cO.k (k:=Sum.inl top) e1,q r H' kvs' k1 e1 e2 e3 e4 e6⟩
abbrev qR:Stmt:=inClass (top 24) 12
abbrev nO:List Str:=["self","part"]
abbrev IV:List Str:=nO.append ["tops"]
theorem xF:aJ IV nO (ay qR):=c8
theorem GH {T:TC} (F:iS K T.hold "shares" "Hold.shares" qR f fd) (X:Txt K T) (iN:Mn P w K mg base 1 T.hold "part_of" gK (CD T)) (qS:Mn P w K mg base 1 T.hold "tops_of" mP (O4 T)) (qT:Mn P w K mg base 3 T.bot "share" mQ (K3 T)) (jQ:mg "zip"=none):Mn P w K mg base 4 T.hold "shares" nO (HN T):=by
 refine F.oA xF fun cdv A outer s H vs Q E hr h=>?_
 obtain ⟨⟨n,ρ,A,st,ip,pt,rfl,hh,ep,hkn,q⟩⟩:=h
 obtain ⟨qq,eq,k1,k2,k3,k4⟩:=hh.h.find ep
 have i9:=bN ep
 refine ⟨_,(@cI.h _ _ _ (ao (aO (i:=2) xF.nd (gF qS hr (qv 0) (af (gF iN hr (qv 0) (af (qv 1) ak)) ak)))
  (au (aS (LB (CO ["owner","top","self"] [none,none,some 0] rfl (ua K (by rfl) jQ (af (bf K (qv 0)) (af (qv 2) ak))) (fun _ _ _ _=>(jg K (n:=2) rfl (cT (aR (i:=0) (show List.Nodup (["owner","top","self"] :List Str) from by decide +kernel)) (cT (aR (i:=1) (show List.Nodup (["owner","top","self"] :List Str) from by decide +kernel)) jf)))) (fun _ _ _ _=>(g_ (af (qv 0) (af (gF qT hr (bf K (qv 2)) (af (qv 1) ak)) ak)))) (fun _ _ _ _=>(aT ir (qv 1) ah (a_ _))) rfl (by rfl))))))),?_⟩
 refine ⟨_,Z,A.a,A.dx,_,Z,hh.h.oa,Z,_,Z,A.a,A.dx,_,Z,hh.h.oa,Z,_,Z,⟨⟨n,ρ,A,st,ip,pt,qq,Z,hh.h,hh.wf.kB,ep,eq,?_⟩⟩⟩
 refine ⟨⟨n,ρ,A,st,ip,pt,qq,Z,hh.h,hh.wf,ep,eq,fun l H1 g1 hl hl1=>?_⟩⟩
 have gw:=hh.mono g1
 have cl:ρ l=none:=hh.g.none hl
 have tl:(b_ st pt).length=st.own.length:=by
  unfold b_
  rw [qw,hh.wf.rows pt i9,hh.wf.jb,Nat.min_self]
 have eL:=hh.wf.sJ
 refine ⟨A.pl,_,gw.h.i8,fun ob=>?_⟩
 have hl2:upd H1 A.pl (.fm ob (.dK (fK 0 st.own))) l=some (.lst ((b_ st pt).map V.int)):=eZ gw.h.i8 hl1 (fun k z=>by cases z)
 refine ⟨_,Z,A.a,T.hold,A.dx,_,_,Z,eZ gw.h.i8 gw.h.oa (fun k z=>by cases z),X.cH,X.hpl,Z,_,Z,_,_,_,_,_,_,Z, .keys aj, .lst (aC.of hl2),fun acc hacc=>?_⟩
 have vU:H1 acc=none:=nX gw.h.i8 hacc
 have ca:ρ acc=none:=gw.g.none vU
 have PR:acc≠A.pl:=fun e=>by rw [e,aj] at hacc;cases hacc
 have nal:acc≠l:=fun e=>by rw [e,hl1] at vU;cases vU
 refine YC (K:=K) (n:=st.own.length) [0,1] (fun i out Hc=>∃H5,Hc=upd H5 A.pl (.fm ob (.dK (fK 0 st.own)))/\Gh ρ H5/\Fr n ρ H ρ H5/\aY T n ρ A H5 { st with kn:=st.kn+i }/\H5 l=some (.lst ((b_ st pt).map V.int))/\ja H5 out (((List.zip st.own (b_ st pt)).take i).filterMap fun x=>if 0<x.2 then some (x.1,Jm.fr x.2 st.prod) else none))
  (by decide) (by omega) ⟨upd H1 acc (.lst []),kC (cu PR),gw.g.alloc vU,(Fr.of_same (ρ:=ρ) g1).trans (Fr.of_same (aA vU _)),gw.h.mono (aA vU _),by rw [av (cu nal)];exact hl1, .nil⟩ ?_ ?_ ?_ ?_
 . rintro i out Hc hi ha ⟨H5,rfl,G5,F5,h5,l5,S5⟩
   exact ⟨aj,aC.of (eZ h5.i8 l5 (fun k z=>by cases z)),by rw [aF,tW];exact hi,by rw [aF,tl];exact hi⟩
 . rintro out Hc ha ⟨H5,rfl,G5,F5,h5,l5,S5⟩
   exact ⟨aj,aC.of (eZ h5.i8 l5 (fun k z=>by cases z)), .inr (by rw [aF,tl];exact aP _)⟩
 . rintro i x out Hc H2 hi GB ha ⟨H5,rfl,G5,F5,h5,l5,S5⟩ ⟨pp,x1,y1,hpp,rfl,rfl,e1,e2⟩
   obtain ⟨t,rfl,et⟩:=gJ e2
   rw [CC,bJ] at e1
   obtain ⟨o,eo,rfl⟩:=lP.mp e1
   have npl:pp≠A.pl:=fun e=>by rw [e,aj] at hpp;cases hpp
   have ahp:H5 pp=none:=nX h5.i8 hpp
   have ez:(List.zip st.own (b_ st pt))[i]?=some (o,t):=by rw [List.getElem?_zip_eq_some];exact ⟨eo,et⟩
   have g6:=aA ahp (.tup [.str o, .int t])
   have e6:upd (upd H5 A.pl (.fm ob (.dK (fK 0 st.own)))) pp (.tup [.str o, .int t])=upd (upd H5 pp (.tup [.str o, .int t])) A.pl (.fm ob (.dK (fK 0 st.own))):=kC (cu npl)
   rw [e6]
   have G6:=G5.same g6
   have F6:=F5.trans (Fr.of_same (ρ:=ρ) g6)
   have h6:=h5.mono g6
   have l6:=g6 _ _ l5
   have S6:=S5.mono g6.tups
   have t6:upd H5 pp (.tup [.str o, .int t]) pp=some (.tup [.str o, .int t]):=aj
   have Ce:upd H5 pp (.tup [.str o, .int t]) acc=some (.lst out):=by
    rw [av PR] at ha
    exact g6 _ _ ha
   generalize upd H5 pp (.tup [.str o, .int t])=H6 at *
   have fz:∀{b:Addr} {u:HO},H6 b=some u->(∀k,u ≠ .dK k)->upd H6 A.pl (.fm ob (.dK (fK 0 st.own))) b=some u:=fun e k=>eZ h6.i8 e k
   refine ⟨pp,_,Z,cR.of (fz t6 (fun k z=>by cases z)),Z,_,Z,_,_,Z,Z,_,Z,?_⟩
   refine dm (fun c=>?_) (fun c=>?_)
   . have c':0<t:=dO c
     obtain ⟨kvs,j1,j2,j3,j4⟩:=h6.okn
     have XG:A.kn≠A.pl:=Ea h6.j0 h6.jJ (by intro z;cases z)
     refine ⟨_,Z,_,Z,A.a,T.hold,A.dx,_,_,Z,fz h6.oa (fun k z=>by cases z),X.cH,X.Eb,Z,A.bt,A.db,_,Z,fz h6.oO (fun k z=>by cases z),Z,_,Z,
      ⟨⟨A.bt,A.db,A.sp,A.kn,st.stp,st.prod,t,kvs,Z,fz h6.oO (fun k z=>by cases z),fz h6.tO (fun k z=>by cases z),hh.wf.vH,hh.wf.zT,hh.wf.big,by rw [av XG];exact j1,(fun p hp=>let ⟨t,r,e,w⟩:=j2 p hp;⟨t,r,e,fz w (fun k z=>by cases z)⟩),Qq j3 (by show st.kn+i<_;omega),j4,fun r H7 kvs' b1 b2 b3 b4 b5 b6=>?_⟩⟩⟩
     have XH:H7 A.pl=some (.fm ob (.dK (fK 0 st.own))):=b1 _ _ aj (cu XG)
     refine ⟨(iw 2),fun tt XI=>?_⟩
     have ntp:tt≠A.pl:=fun e=>by rw [e,XH] at XI;cases XI
     have k8:∀b u,H6 b=some u->b≠A.kn->upd H7 A.pl (.dK (fK 0 st.own)) b=some u:=fun b u e hb=>by
      by_cases z:b=A.pl
      . rw [z] at e ⊢
        rw [show H6 A.pl=some (.dK (fK 0 st.own)) from h6.i8] at e
        cases e;exact aj
      . rw [av z];exact b1 _ _ (by rw [av z];exact e) hb
     have h8:=h6.V7 (m:=st.kn+i+1) k8 (by rw [av XG];exact b2) (fun p hp=>let ⟨t,r,e,w⟩:=b3 p hp;⟨t,r,e,kW (.inr ⟨_,XH,Z⟩) _ _ w⟩) (fq b4 (Nat.succ_le_succ j3)) b5
     have G8:Gh ρ (upd H7 A.pl (.dK (fK 0 st.own))):=fun b cc e=>by
      by_cases z:b=A.pl
      . rw [z];exact ⟨_,aj,Z⟩
      by_cases z2:b=A.kn
      . rw [z2,av XG];exact ⟨_,b2,Z⟩
      obtain ⟨u,a1,a2⟩:=G6 b cc e
      exact ⟨u,k8 b u a1 z2,a2⟩
     have F8:Fr n ρ H6 ρ (upd H7 A.pl (.dK (fK 0 st.own))):=fun b u e k=>⟨k8 b u e (fun z=>k 9 ⟨#[]⟩ (by rw [z];exact h6.j0)),Z⟩
     have tp8:∀b xs,H6 b=some (.tup xs)->upd H7 A.pl (.dK (fK 0 st.own)) b=some (.tup xs):=fun b xs e=>k8 b _ e (iW e j1 (by intro z;cases z))
     have ahq:upd H7 A.pl (.dK (fK 0 st.own)) tt=none:=by rw [av ntp];exact XI
     have back:H7=upd (upd H7 A.pl (.dK (fK 0 st.own))) A.pl (.fm ob (.dK (fK 0 st.own))):=by rw [t8,yk XH]
     have hr8:upd H7 A.pl (.dK (fK 0 st.own)) r=some (pG (Jm.fr t st.prod)):=kW (.inr ⟨_,XH,Z⟩) _ _ b6
     have l8:=k8 _ _ l6 (fun z=>by rw [z,j1] at l6;cases l6)
     have L8:=k8 _ _ Ce (fun z=>by rw [z,j1] at Ce;cases Ce)
     have S8:=S6.mono tp8
     have F08:=F6.trans F8
     rw [back] at XI ⊢
     generalize upd H7 A.pl (.dK (fK 0 st.own))=H8 at *
     have g9:=aA ahq (.tup [.str o, .ref r])
     rw [kC (cu ntp)]
     refine ⟨by rw [av PR];exact g9 _ _ L8,_,kC (cu PR),(G8.same g9).wr rfl,(F08.trans (Fr.of_same (ρ:=ρ) g9)).new (g1.free vU),?_,?_,?_⟩
     . exact (h8.mono g9).same (Tn ca (g9 _ _ L8) rfl)
     . rw [av (cu nal)];exact g9 _ _ l8
     . rw [take_snoc ez,List.filterMap_append,zu]
       simp only [c',rj,List.filterMap_nil]
       exact ((S8.mono g9.tups).snoc aj (g9 _ _ hr8)).mono (kW (.inr ⟨_,g9 _ _ L8,Z⟩))
   . have c':¬ 0<t:=o6 (mT.mpr c)
     refine ⟨by rw [av PR];exact Ce,H6,Z,G6,F6,?_,l6,?_⟩
     . obtain ⟨kvs,j1,j2,j3,j4⟩:=h6.okn
       exact h6.V7 (m:=st.kn+i+1) (fun b u e _=>e) j1 j2 (Nat.le_succ_of_le j3) j4
     . rw [take_snoc ez,List.filterMap_append,zu]
       simp only [c',lE,List.filterMap_nil,qZ]
       exact S6
 . rintro out Hc GB ha ⟨H5,rfl,G5,F5,h5,l5,S5⟩
   rw [zj (by rw [List.length_zip,tl];omega)] at S5
   refine ⟨aj,?_⟩
   rw [t8,yk (show H5 A.pl=some (.dK (fK 0 st.own)) from h5.i8)]
   rw [av PR] at ha
   obtain ⟨kvs,j1,j2,j3,j4⟩:=h5.okn
   have h9:=h5.V7 (m:=st.kn+100) (fun b u e _=>e) j1 j2 (fq j3 (by show st.kn+st.own.length<=st.kn+100;omega)) j4
   exact q acc out ρ A H5 ⟨G5,h9,adM hh.wf hkn⟩ rfl F5 (g1.free vU) ha ca S5
abbrev qU:Stmt:=inClass (top 24) 17
abbrev nP:List Str:=["self"]
abbrev IW:List Str:=nP
theorem GI:aJ IW nP (ay qU):=c8
theorem GJ {T:TC} (F:iS K T.hold "landed" "Hold.landed" qU f fd) (X:Txt K T) (dz:mg "list"=none):Mn P w K mg base 1 T.hold "landed" nP (K4 T):=by
 refine F.oA GI fun cdv A outer s H vs Q E hr h=>?_
 obtain ⟨⟨n,ρ,A,st,rfl,hh,q⟩⟩:=h
 obtain ⟨ws,hw,hA⟩:=hh.h.vG
 have hl:=hA.length
 have hal:=hh.wf.zU
 refine ⟨_,(@cI.h _ _ _ (au (aS (gr ["name","owner","worth","shares"] [none,none,none,none] rfl (dH K (bf K (qv 0))) (fun _ _ _ _=>(jg K (n:=4) rfl (cT (aR (i:=0) (show List.Nodup (["name","owner","worth","shares"] :List Str) from by decide +kernel)) (cT (aR (i:=1) (show List.Nodup (["name","owner","worth","shares"] :List Str) from by decide +kernel)) (cT (aR (i:=2) (show List.Nodup (["name","owner","worth","shares"] :List Str) from by decide +kernel)) (cT (aR (i:=3) (show List.Nodup (["name","owner","worth","shares"] :List Str) from by decide +kernel)) jf)))))) (fun _ _ _ _=>(g_ (af (qv 0) (af (qv 1) (af (qv 2) (af (oU (nH K) (by rfl) dz v7 (af (qv 3) ak)) ak)))))) rfl (by rfl))))),?_⟩
 refine ⟨_,Z,A.a,T.hold,A.dx,_,_,Z,hh.h.oa,X.cH,X.has,Z,A.as,Z,⟨_,aC.of hw⟩,fun acc hacc=>?_⟩
 refine zS (K:=K) (n:=ws.length) [0,1,2,3] (fun i out H1=>aE H H1/\kD acc ρ H1 out (st.kj.take i)) (by decide) (by omega) ⟨aA hacc _, .nil⟩ (fun i out H1 hi _ hp=>⟨ws,_,aC.of (hp.1 _ _ hw),aX hi⟩) (fun out H1 _ hp=>⟨ws,aC.of (hp.1 _ _ hw),aP _⟩) ?_ ?_
 . rintro i x out H1 H2 hi eL ha ⟨g,hL⟩ ⟨rfl,hy⟩
   have ex:=hy ws (aC.of (g _ _ hw))
   obtain ⟨r,l,y,ss,rfl,ey,a1,a2,a3,a4⟩:=hA.get ex
   refine ⟨r,_,Z,cR.of (g _ _ a1),Z,_,Z,_,Z,_,Z,_,Z,l,ss,Z, .inl (aC.of (g _ _ a2)),fun l2 hl2=>⟨(iw 4),fun t ht=>?_⟩⟩
   have g2:=aA hl2 (.lst ss)
   have g3:=aA ht (.tup [.str y.nm, .str y.ow, .int y.wo, .ref l2])
   have hl3:upd H2 l2 (.lst ss) l2=some (.lst ss):=aj
   have c2:ρ l2=none:=hh.g.none (g.free hl2)
   refine ⟨(g2.trans g3) _ _ ha,((g.trans g2).trans g3).cF hacc _,?_⟩
   rw [take_snoc ey]
   have n1:l2≠acc:=fun e=>by rw [e,ha] at hl2;cases hl2
   exact ((hL.mono (g2.trans g3)).snoc (x:=y) aj (g3 _ _ hl3) c2 n1 (a4.mono ((g.trans g2).trans g3).tups)).upd ((g2.trans g3) _ _ ha)
 rintro out H1 eL ha ⟨g,hL⟩
 rw [hl,cC] at hL
 exact q acc out H1 g hacc ha hL.to
abbrev qV:Stmt:=inClass (top 24) 5
abbrev nQ:List Str:=["self","part","amount"]
abbrev IZ:List Str:=nQ
theorem GK:aJ IZ nQ (ay qV):=c8
theorem ET {T:TC} {e:Ec} (F:iS K T.hold "mishap" "Hold.mishap" qV f fd) (X:Txt K T) (gk:Mx P w K mg base 1 T.hold "part_of" gK (vO T e)) (nR:Dx P w K mg base 2 "check_loss" lY (LI e)) (ji:Mn P w K mg base 1 T.hold "lessen" kT (La T)):Mx P w K mg base 3 T.hold "mishap" nQ (Io T e):=by
 refine F.LG GK fun cdv A outer s H vs Q E hr h=>?_
 obtain ⟨⟨n,ρ,A,st,x,a,rfl,hh,dq⟩⟩:=h
 refine ⟨_,(@cI.h _ _ _ (ao (cW (LD nR hr (af (bf K (Bj gk hr (qv 0) (af (qv 1) ak))) (af (qv 2) ak))))
  (au (cW (gF ji hr (qv 0) (af (qv 1) (af (qv 2) ak))))))),?_⟩
 refine ⟨_,Z,A.a,A.dx,_,Z,hh.h.oa,Z,_,Z,⟨⟨n,ρ,A,st,x,Z,hh.h,hh.wf.kB,fun hn=>dq.no 3 ?_,fun i p qq e1 e2 e3=>?_⟩⟩⟩
 . unfold kG;rw [az (fun z=>?_)]
   obtain ⟨j,p,h1,h2⟩:=Ro z
   exact hn p (bN h1) h2
 obtain ⟨k1,_⟩:=hh.h.opt i p qq e2 e3
 have hm:x∈gT st:=by rw [<-e1];exact Xx e2
 have i9:=bN e2
 have ew:(c5 st x).wo=p.wo:=by rw [jG hh.wf i9 e1]
 refine ⟨qq.1,T.part,qq.2.1,_,_,Z,k1,X.cP,X.HM,Z,_,Z,⟨⟨p.wo,a,Z,fun h5=>dq.no 5 ?_,fun h1 h6=>dq.no 6 ?_,fun h1 h2=>?_⟩⟩⟩
 . unfold kG;rw [aB hm,aB h5]
 . unfold kG;rw [aB hm,az (show ¬ a<1 by omega)];show (if (c5 st x).wo<a then _ else _)=_;rw [ew,aB h6]
 have ho:=dq.ok (by unfold kG;rw [aB hm,az (show ¬ a<1 by omega)];show (if (c5 st x).wo<a then _ else _)=_;rw [ew,az (by omega)])
 exact ⟨_,Z,A.a,A.dx,_,Z,hh.h.oa,Z,_,Z,_,Z,⟨⟨n,ρ,A,st,(x,a),Z,hh,⟨p,i9,e1,h2⟩,Pe hh.wf (fun p' xu e'=>by rw [Ge hh.wf xu i9 (e'.trans e1.symm)];exact h2),ho⟩⟩⟩
abbrev uZ:Stmt:=inClass (top 24) 6
abbrev rH:List Str:=["self","part","amount"]
abbrev NG:List Str:=rH.append ["risen"]
theorem Aq:aJ NG rH (ay uZ):=c8
theorem I0 {T:TC} {e:Ec} (F:iS K T.hold "rise" "Hold.rise" uZ f fd) (X:Txt K T) (gk:Mx P w K mg base 1 T.hold "part_of" gK (vO T e)) (gj:Dx P w K mg base 1 "check_amount" j9 (EA e)):Mx P w K mg base 2 T.hold "rise" rH (Py T e):=by
 refine F.LG Aq fun cdv A outer s H vs Q E hr h=>?_
 obtain ⟨⟨n,ρ,A,st,x,a,rfl,hh,dq⟩⟩:=h
 refine ⟨_,(@cI.h _ _ _ (ao (aO (i:=3) Aq.nd (Bj gk hr (qv 0) (af (qv 1) ak)))
  (ao (cW (LD gj hr (af (qv 2) ak)))
  (au (yx K (qv 3) (qv 2) Z6))))),?_⟩
 refine ⟨_,Z,A.a,A.dx,_,Z,hh.h.oa,Z,_,Z,⟨⟨n,ρ,A,st,x,Z,hh.h,hh.wf.kB,fun hn=>dq.no 3 ?_,fun i p qq e1 e2 e3=>?_⟩⟩⟩
 . unfold jw;rw [az (fun z=>?_)]
   obtain ⟨j,p,h1,h2⟩:=Ro z
   exact hn p (bN h1) h2
 subst e1
 obtain ⟨k1,k2,k3,k4⟩:=hh.h.opt i p qq e2 e3
 have hm:=Xx e2
 refine ⟨_,Z,⟨⟨a,Z,fun h5=>dq.no 5 ?_,fun h1=>?_⟩⟩⟩
 . unfold jw;rw [aB hm,aB h5]
 have ho:=dq.ok (by unfold jw;rw [aB hm,az (show ¬ a<1 by omega)])
 refine ⟨_,Z,qq.1,T.part,qq.2.1,_,_,Z,k1,X.cP,X.HM,Z,_,Z,_,_,Z,Z,qq.2.1,_,k1,by show 6<1000;decide,?_⟩
 have OZ:=hh.h.ux (p1:={ p with wo:=p.wo+a }) hh.g e2 e3 rfl rfl hh.wf.kB
 have hw:Wf (Ey st p.nm a):=abV hh.wf fun q hq _=>⟨Z,Z,Z,Z,by have:=(hh.wf.uy q hq).1;show 1<=q.wo+a;omega,(hh.wf.uy q hq).2⟩
 have es:Ey st p.nm a={ st with ai:=st.ai.set i { p with wo:=p.wo+a } }:=Zg hh.wf.kB e2 _
 rw [es] at ho hw
 exact ho ρ A _ ⟨hh.g.wr rfl,OZ,hw⟩ rfl (Fr.write k3)
abbrev u0:Stmt:=top 29
abbrev fj:List Str:=["_law_script","_law_k","_law_j","_law_many"]
abbrev NH:List Str:=fj.append ["_law_cell","_law_turn","_law_rest","_law_step","_law_one","_law_two"]
theorem fh:aJ NH fj (ay u0):=c8
theorem Ma (F:At K mg "_law_draw" u0 f fd) (bh:mg "len"=none) (bH:mg "range"=none):Dn P w K mg base 1 "_law_draw" fj (lS K):=by
 refine F.oA fh fun cdv A outer s H vs Q E hr h=>?_
 obtain ⟨⟨a,ns,k,j,many,rfl,hS,h63,hk,hj,hj2,hm,q⟩⟩:=h
 refine ⟨_,(@cI.h _ _ _ (ao (aO (i:=4) fh.nd ah)
  (ao (aO (i:=5) fh.nd ah)
  (ao (fL (aT ir (aG (bV K) (by rfl) bh dG (af (qv 0) ak)) ah (a_ _)) (ao (aO (i:=4) fh.nd (aH (aK K) (qv 0) (aD jq (qv 1) (aG (bV K) (by rfl) bh dG (af (qv 0) ak)))))
  (au (aO (i:=5) fh.nd (aD gI (qv 1) (aG (bV K) (by rfl) bh dG (af (qv 0) ak)))))) aU)
  (ao (aO (i:=6) fh.nd (qv 4))
  (ao (dS ee rfl (dU (by rfl) bH (af (qv 2) ak)) (aR (i:=7) fh.nd) (au (aO (i:=6) fh.nd (aD gI (qv 6) (aD lR ah ah)))))
  (ao (cM (fC (bW.pt (rZ (aT gR (qv 5) ah (a_ _)) (rZ (aT QB (qv 4) (aD lR ah ah) (a_ _)) (qH (aT ir (qv 6) ah (a_ _))))))) (au (aS (aD jq (aD jq (qv 6) (aD lR ah ah)) (qv 3)))) aU)
  (ao (aO (i:=8) fh.nd (aD jq (aD bQ (aD bQ (aD bQ (aD jn (qv 4) ah) (aD jn (qv 1) ah)) (aD jn (qv 2) ah)) ah) ah))
  (ao (aO (i:=9) fh.nd (aD jq (aD bQ (aD jn (qv 8) ah) (aD gI (qv 4) ah)) ah))
  (ao (aO (i:=9) fh.nd (aD jq (aD bQ (aD jn (qv 9) (aD bQ (aD jq (qv 8) ah) ah)) (qv 2)) ah))
  (au (aS (aD jq (aD jq (aD bQ (aD bQ (aD jn (qv 8) ah) (aD jn (qv 9) ah)) (aD gI (qv 9) ah)) ah) (qv 3)))))))))))))),?_⟩
 have hl:(ns.map V.int).length=ns.length:=aF _
 refine ⟨fun σ H'=>H'=H/\σ=[some (.ref a),some (.int k),some (.int j),some (.int many),some (.int (Jm.cellOf ns k)),some (.int (Jm.zN ns k)),none,none,none,none],?_,?_⟩
 . refine ⟨_,Z,a,_,Z, .inl hS,_,_,Z,Z,_,Z,?_⟩
   refine dm (fun c=>?_) (fun c=>?_)
   . have c':0<(((ns.map V.int).length:Nat):Int):=dO c
     rw [hl] at c'
     have i0:0<=k % (ns.length:Int):=nD _ (by omega)
     have i1:k % (ns.length:Int)<(ns.length:Int):=xR _ c'
     refine ⟨_,Z,_,Z,_,Z,a,_,Z, .inl hS,_,_,Z,Z,(by show (0:Int)<_;rw [hl];exact c'),a,_,_, .int (ns.getD (k % ns.length).toNat 0),Z,Z,hS,?_,?_⟩
     . rw [hl]
       exact Yr i0 i1
     refine ⟨_,Z,_,Z,a,_,Z, .inl hS,_,_,Z,Z,VJ (n:=10) (by rw [hl];exact c') (by rw [hl];omega) (by decide),Z,?_⟩
     unfold Jm.cellOf Jm.zN
     rw [aB c',aB c',hl]
     rfl
   . have c':¬ 0<(((ns.map V.int).length:Nat):Int):=o6 (mT.mpr c)
     rw [hl] at c'
     refine ⟨Z,?_⟩
     unfold Jm.cellOf Jm.zN
     rw [az c',az c']
     rfl
 rintro σ H' ⟨rfl,rfl⟩
 generalize ec:Jm.cellOf ns k=cell at *
 generalize et:Jm.zN ns k=turn at *
 refine ⟨_,Z,_,Z,j,Z,by omega,hj2,?_⟩
 refine fW (lo:=0) (n:=j.toNat) (fun i σ Ef=>Ef=H'/\∃st:Option V,σ=[some (.ref a),some (.int k),some (.int j),some (.int many),some (.int cell),some (.int turn),some (.int (Jm.DT cell i)),st,none,none]) ⟨Z,none,Z⟩ ?_ ?_
 . rintro i σ Ef hi ⟨rfl,st,rfl⟩
   refine ⟨_,Z,_,_,Z,Z,⟨by decide,by decide,by decide⟩,_,_,Z,Z,zM (by decide +kernel),Z,?_⟩
   exact ⟨_,Z⟩
 rintro σ Ef ⟨rfl,st,rfl⟩
 have full:Q (.int (Jm.draw ns k j many)) Ef:=q
 unfold Jm.draw at full
 rw [ec,et] at full
 generalize er:Jm.DT cell j.toNat=rest at *
 refine ⟨decide (turn=0/\1000000000000000000<=cell/\0<rest),?_,?_⟩
 . refine ⟨_,Z,Z,_,Z,?_⟩
   by_cases h1:turn=0
   . rw [cg (by rw [h1] :V.int turn=V.int 0)]
     refine qC ⟨_,Z,_,_,Z,Z,⟨by decide,by decide,by decide⟩,_,_,Z,Z,_,Z,?_⟩
     by_cases h2:1000000000000000000<=cell
     . rw [cg (show (10:Int) ^ (18:Int).toNat<=cell from h2)]
       refine qC ⟨_,Z,_,_,Z,Z,_,Z,?_,Z⟩
       by_cases h3:0<rest
       . rw [cg h3,cg ⟨h1,h2,h3⟩]
       . rw [d_ h3,d_ fun z=>h3 z.2.2]
     . rw [d_ (show ¬ (10:Int) ^ (18:Int).toNat<=cell from h2)]
       exact cV ⟨(d_ fun z=>h2 z.2.1).symm,Z⟩
   . rw [d_ (fun z=>h1 (V.int.inj z))]
     exact cV ⟨(d_ fun z=>h1 z.1).symm,Z⟩
 by_cases h:turn=0/\1000000000000000000<=cell/\0<rest
 . rw [cg h]
   rw [aB h] at full
   refine qC ⟨_,Z,_,_,Z,Z,⟨by decide,by decide,by decide⟩,_,_,Z,Z,(by show (0:Int)<_;decide),_,Z,_,_,Z,Z,hm,?_⟩
   exact full
 . rw [d_ h]
   rw [az h] at full
   refine cV ?_
   refine ⟨_,Z,_,_,Z,Z, .inr ⟨by decide,by decide⟩,_,Z,_,_,Z,Z, .inr ⟨by decide,by decide⟩,_,_,Z,Z,_,Z,_,_,Z,Z, .inr ⟨by decide,by decide⟩,_,_,Z,Z,_,_,Z,Z,_,_,Z,Z,(by show (0:Int)<_;decide),?_⟩
   refine ⟨_,Z,_,_,Z,Z, .inr ⟨by decide,by decide⟩,_,Z,_,_,Z,Z,zM (by decide +kernel),_,_,Z,Z,_,_,Z,Z,(by show (0:Int)<_;decide),?_⟩
   unfold Jm.mixed at full
   dsimp only at full ⊢
   generalize e1:(cell*7919+k*104729+j*1299709+31) % 1000000007=one at *
   generalize e2:(one*48271+cell / 1009) % 998244353=two at *
   have b1:0<=one % 9973:=nD _ (by decide)
   have b2:one % 9973<9973:=xR _ (by decide)
   refine ⟨_,Z,_,Z,_,_,Z,Z,(by show (0:Int)<_;decide),_,_,Z,Z,_,_,Z,Z, .inr ⟨by omega,by omega⟩,_,Z,_,_,Z,Z,_,_,Z,Z,(by show (0:Int)<_;decide),?_⟩
   refine ⟨_,Z,_,_,Z,Z, .inr ⟨by decide,by decide⟩,_,Z,_,_,Z,Z, .inr ⟨by decide,by decide⟩,_,_,Z,Z,_,Z,_,_,Z,Z,zM (by decide +kernel),_,_,Z,Z,_,_,Z,Z,(by show (0:Int)<_;decide),_,Z,_,_,Z,Z,hm,?_⟩
   exact full
abbrev u6:Stmt:=top 30
abbrev rJ:List Str:=["_law_code","_law_size"]
abbrev NI:List Str:=rJ.append ["_law_word","_law_at_here"]
theorem l_:aJ NI rJ (ay u6):=c8
theorem Mb (F:At K mg "_law_name" u6 f fd) (bH:mg "range"=none):Dn P w K mg base 1 "_law_name" rJ FU:=by
 refine F.oA l_ fun cdv A outer s H vs Q E hr h=>?_
 obtain ⟨⟨c,n,rfl,hc,hn,q⟩⟩:=h
 refine ⟨_,(@cI.h _ _ _ (ao (aO (i:=2) l_.nd aW)
  (ao (dS ee rfl (dU (by rfl) bH (af (qv 1) ak)) (aR (i:=3) l_.nd) (ao (aO (i:=2) l_.nd (aD DH (qv 2) (aH Su aW (aD jq (qv 0) ah))))
  (au (aO (i:=0) l_.nd (aD gI (qv 0) ah)))))
  (au (aS (qv 2)))))),?_⟩
 refine ⟨_,Z,_,Z,by omega,by omega,?_⟩
 refine fW (lo:=0) (n:=(n:Int).toNat) (fun i σ H'=>H'=H/\∃(s1:Option V),σ=[some (.int (c / 26 ^ i)),some (.int n),some (.str (tx (lF c i))),s1]) ⟨Z,none,by rw [Int.pow_zero,AR];rfl⟩ ?_ ?_
 . rintro i σ H' hi ⟨rfl,s1,rfl⟩
   have hp:(0:Int)<26 ^ i:=Int.pow_pos (by decide)
   have hd0:0<=c / 26 ^ i:=Int.ediv_nonneg hc (xY hp)
   have hm0:0<=c / 26 ^ i % 26:=nD _ (by decide)
   have hm1:c / 26 ^ i % 26<26:=xR _ (by decide)
   refine ⟨_,Z,_,Z,_,_,Z,Z,(by show (0:Int)<26;decide),_,_,_,Z,Z,(by decide +kernel),SW hm0 hm1,?_⟩
   refine ⟨_,_,Z,Z,?_,?_⟩
   . rw [ki,ya]
     show i+1<=sizeLine
     exact Dw (eY (by omega))
   refine ⟨_,Z,_,_,Z,Z,um (by decide) (pH (by decide +kernel)),Z,some (.int ((0:Int)+(i:Int))),?_⟩
   have e1:c / 26 ^ i / 26=c / 26 ^ (i+1):=by rw [Int.ediv_ediv_of_nonneg (xY hp),Int.pow_succ]
   have e2:(tx (lF c i)++tx [97+(c / 26 ^ i % 26).toNat] :Str)=tx (lF c (i+1)):=by rw [SS,VT]
   rw [<-e1,<-e2]
   rfl
 rintro σ H' ⟨rfl,s1,rfl⟩
 refine ⟨_,Z,?_⟩
 rw [v8]
 exact q
abbrev sW:Stmt:=top 31
abbrev pY:List Str:=["_law_script","_law_k","_law_many"]
abbrev Mc:List Str:=pY.append ["_law_alike","_law_size","_law_first","_law_shift","_law_at_here","_law_names_here","_law_code"]
theorem dF:aJ Mc pY (ay sW):=c8
theorem I_ (F:At K mg "_law_names" sW f fd) (aN:Dn P w K mg base 1 "_law_draw" fj (lS K)) (rK:Dn P w K mg base 1 "_law_name" rJ FU) (bH:mg "range"=none):Dn P w K mg base 2 "_law_names" pY (FW K):=by
 refine F.oA dF fun cdv A outer s H vs Q E hr h=>?_
 obtain ⟨⟨a,ms,k,many,rfl,hS,h63,hk,hm,q⟩⟩:=h
 refine ⟨_,(@cI.h _ _ _ (ao (aO (i:=3) dF.nd (ud gR (aZ aN hr (af (qv 0) (af (qv 1) (af ah (af ah ak))))) ah (a_ _)))
  (ao (aO (i:=4) dF.nd (aD bQ ah (aZ aN hr (af (qv 0) (af (qv 1) (af ah (af ah ak)))))))
  (ao (aO (i:=5) dF.nd (aZ aN hr (af (qv 0) (af (qv 1) (af ah (af (aD lR ah ah) ak))))))
  (ao (aO (i:=6) dF.nd ah)
  (ao (fL (dw (qv 3)) (au (dS ee rfl (dU (by rfl) bH (af (aZ aN hr (af (qv 0) (af (qv 1) (af ah (af (qv 4) ak))))) ak)) (aR (i:=7) dF.nd) (au (aO (i:=6) dF.nd (aD jn (qv 6) ah))))) aU)
  (ao (aO (i:=8) dF.nd (d7 ak))
  (ao (dS ee rfl (dU (by rfl) bH (af (qv 2) ak)) (aR (i:=7) dF.nd) (ao (aO (i:=9) dF.nd (aD bQ (qv 5) (aD jn (qv 6) (aZ aN hr (af (qv 0) (af (qv 1) (af (aD bQ ah (aD jn ah (qv 7))) (af ah ak))))))))
  (ao (fL (dJ (dw (qv 3))) (ao (aO (i:=4) dF.nd (aD bQ ah (aZ aN hr (af (qv 0) (af (qv 1) (af (aD bQ ah (aD jn ah (qv 7))) (af ah ak)))))))
  (au (aO (i:=9) dF.nd (aZ aN hr (af (qv 0) (af (qv 1) (af (aD bQ ah (aD jn ah (qv 7))) (af (aD lR ah ah) ak)))))))) aU)
  (ao (CN ee (aT Hu (aZ rK hr (af (qv 9) (af (qv 4) ak))) (qv 8) (by with_unfolding_all rfl)) (au (aO (i:=9) dF.nd (aD bQ (qv 9) (qv 6)))))
  (au (cW (tY xO xK xM gX (qv 8) (af (aZ rK hr (af (qv 9) (af (qv 4) ak))) ak))))))))
  (au (aS (qv 8))))))))))),?_⟩
 have P10:QA 10 10:=⟨by decide,by decide,by decide +kernel⟩
 refine ⟨_,Z,_,Z,cQ hS h63 hk (by decide) (by decide) (by decide) fun al _ _ _=>⟨Z,?_⟩⟩
 refine ⟨_,Z,_,Z,cQ hS h63 hk (by decide) (by decide) (by decide) fun sd _ s0 s1=>⟨_,_,Z,Z,?_⟩⟩
 refine ⟨_,Z,_,Z,_,_,Z,Z,P10,cQ hS h63 hk (by decide) (by decide) (by decide +kernel) fun fc _ f0 f1=>?_⟩
 generalize hal:decide (V.int al=V.int 0)=alike
 obtain ⟨n0,en0⟩:∃n:Nat,1+sd=(n:Int):=⟨(1+sd).toNat,by omega⟩
 refine ⟨fun σ H'=>H'=H/\∃(d:Nat) (s7:Option V),(alike=true->d<n0)/\(alike=false->d=0)/\d<8/\σ=[some (.ref a),some (.int k),some (.int many),some (.bl alike),some (.int (1+sd)),some (.int fc),some (.int ((26:Int) ^ d)),s7,none,none],?_,?_⟩
 . refine ⟨_,Z,_,Z,dm (fun c=>?_) (fun c=>?_)⟩
   . refine ⟨_,Z,_,Z,_,Z,cQ hS h63 hk (by decide) (by decide) (by omega) fun dd _ d0 d1=>⟨dd,Z,by omega,by omega,?_⟩⟩
     refine fW (lo:=0) (n:=dd.toNat) (fun i σ H'=>H'=H/\∃s7:Option V,σ=[some (.ref a),some (.int k),some (.int many),some (.bl alike),some (.int (1+sd)),some (.int fc),some (.int ((26:Int) ^ i)),s7,none,none]) ⟨Z,none,Z⟩ ?_ ?_
     . rintro i σ H' hi ⟨rfl,s7,rfl⟩
       refine ⟨_,Z,_,_,Z,Z, .inr ⟨by decide,by decide⟩,Z,some (.int ((0:Int)+(i:Int))),?_⟩
       rw [Int.pow_succ]
       rfl
     . rintro σ H' ⟨rfl,s7,rfl⟩
       exact ⟨Z,dd.toNat,s7,fun _=>by omega,fun z=>absurd c (by rw [z];exact fJ),by omega,Z⟩
   . exact ⟨Z,0,none,fun z=>absurd z c,fun _=>rfl,by decide,Z⟩
 rintro σ H' ⟨rfl,d,s7,hd1,hd2,hd8,rfl⟩
 refine ⟨(iw 0),fun pn En=>?_⟩
 have g0:=aA En (.lst [])
 refine ⟨_,Z,(many:Int),Z,by omega,by omega,?_⟩
 refine fW (lo:=0) (n:=(many:Int).toNat) (fun i σ H2=>aE H' H2/\∃(nss:List (List Nat)) (n:Nat) (s1 s2:Option V),d<n/\n<=8/\σ=[some (.ref a),some (.int k),some (.int many),some (.bl alike),some (.int (n:Int)),some (.int fc),some (.int ((26:Int) ^ d)),s1,some (.ref pn),s2]/\H2 pn=some (.lst (rT nss))/\nss.length=i/\nss.Nodup/\∀x∈nss,pJ x)
  ⟨g0,[],n0,s7,none,?_,by omega,by rw [<-en0];rfl,aj,Z,vB,fun _ m=>nomatch m⟩ ?_ ?_
 . cases alike with
   | true=>exact hd1 rfl
   | false=>rw [hd2 rfl];omega
 . rintro i σ H2 hi ⟨g,nss,n,s1,s2,hdn,PU,rfl,hn,hnl,hnd,hok⟩
   have hsl:(rT nss).length=i:=by unfold rT;rw [aF];exact hnl
   have hSg:=g.seq hS
   have hp:(0:Int)<26 ^ d:=Int.pow_pos (by decide)
   have Uz:(26:Int) ^ d<2 ^ 64:=by
    rcases (by omega:d=0\/d=1\/d=2\/d=3\/d=4\/d=5\/d=6\/d=7) with e|e|e|e|e|e|e|e <;> (rw [e];decide +kernel)
   refine ⟨_,Z,_,Z,_,Z,_,Z,_,Z,_,_,Z,Z, .inl ⟨by decide,by decide⟩,_,_,Z,Z,cQ hSg h63 hk (by omega) (by omega) (by decide) fun cd _ c0 c1=>⟨_,_,Z,Z, .inl ⟨by omega,Uz⟩,_,_,Z,Z,?_⟩⟩
   have hcode:0<=fc+26 ^ d*cd:=Int.add_nonneg f0 (nE (xY hp) c0)
   refine ⟨fun σ H3=>H3=H2/\∃(n:Nat) (c:Int),0<=c/\d<n/\n<=8/\σ=[some (.ref a),some (.int k),some (.int many),some (.bl alike),some (.int (n:Int)),some (.int fc),some (.int ((26:Int) ^ d)),some (.int ((0:Int)+(i:Int))),some (.ref pn),some (.int c)],?_,?_⟩
   . refine ⟨_,Z,_,Z,?_⟩
     cases hb:alike with
     | true=>exact cV ⟨Z,n,_,hcode,hdn,PU,Z⟩
     | false=>
       refine qC ?_
       have hd0:=hd2 hb
       refine ⟨_,Z,_,Z,_,Z,_,_,Z,Z, .inl ⟨by decide,by decide⟩,_,_,Z,Z,cQ hSg h63 hk (by omega) (by omega) (by decide) fun zd _ z0 z1=>⟨_,_,Z,Z,?_⟩⟩
       refine ⟨_,Z,_,Z,_,Z,_,_,Z,Z, .inl ⟨by decide,by decide⟩,_,_,Z,Z,_,_,Z,Z,P10,cQ hSg h63 hk (by omega) (by omega) (by decide +kernel) fun cd2 _ e0 _=>?_⟩
       refine ⟨Z,(1+zd).toNat,cd2,e0,by omega,by omega,?_⟩
       rw [show (((1+zd).toNat:Nat):Int)=1+zd from by omega]
       rfl
   clear hdn PU hcode
   rintro σ H3 ⟨rfl,n,vV,cc0,hdn,PU,rfl⟩
   refine ⟨fun m σ H4=>H4=H3/\∃t:Nat,m=nss.length+1-t/\t<=nss.length/\σ=[some (.ref a),some (.int k),some (.int many),some (.bl alike),some (.int (n:Int)),some (.int fc),some (.int ((26:Int) ^ d)),some (.int ((0:Int)+(i:Int))),some (.ref pn),some (.int (vV+(t:Int)*26 ^ d))]/\∀j:Nat,j<t->lF (vV+(j:Int)*26 ^ d) n∈nss,
    ⟨_,Z,0,Z,f_ _,by rw [show vV+((0:Nat):Int)*26 ^ d=vV from by simp],fun j hj=>absurd hj (Nat.not_lt_zero _)⟩,?_⟩
   rintro m σ H4 ⟨rfl,t,rfl,ht,rfl,htr⟩
   have hct:0<=vV+(t:Int)*26 ^ d:=Int.add_nonneg cc0 (nE (by omega) (xY hp))
   refine ⟨_,Z,_,Z,KN rfl hct (by omega) ?_⟩
   refine ⟨_,Z,pn,_,Z, .inl (aC.of hn),Z,VX nss,?_⟩
   show Sb _ (V.bl (if false=true then !Ht (.str (tx (lF (vV+(t:Int)*26 ^ d) n))) (rT nss) else Ht (.str (tx (lF (vV+(t:Int)*26 ^ d) n))) (rT nss))) _
   rw [az fJ,OU]
   refine ⟨_,Z,dm (fun c=>?_) (fun c=>?_)⟩
   . have hmem:lF (vV+(t:Int)*26 ^ d) n∈nss:=dO c
     have aco:∀j:Nat,j<t+1->lF (vV+(j:Int)*26 ^ d) n∈nss:=fun j hj=>by
      rcases Nat.lt_succ_iff_lt_or_eq.mp hj with z|z
      . exact htr j z
      . rw [z];exact hmem
     have hle:=S0 (c:=vV) (n:=n) (t:=t+1) hdn (by omega) aco
     refine ⟨_,fun _ _ z=>z,?_⟩
     refine ⟨_,Z,_,Z,_,_,Z,Z,?_⟩
     refine ⟨_,(by omega:nss.length+1-(t+1)<nss.length+1-t),Z,t+1,Z,hle,?_,aco⟩
     rw [show vV+((t+1:Nat):Int)*26 ^ d=vV+(t:Int)*26 ^ d+26 ^ d from by rw [Int.natCast_add,AU];show _+(_+1*_)=_;rw [Int.one_mul,Int.add_assoc]]
     rfl
   . have hnm:lF (vV+(t:Int)*26 ^ d) n∉nss:=o6 (mT.mpr c)
     refine ⟨_,Z, .inl ⟨Z,_,aC.of hn⟩,?_⟩
     refine ⟨_,Z,_,Z,KN rfl hct (by omega) ?_⟩
     refine ⟨pn,rT nss,_,Z,Z,hn,eY (by omega),g.cF En _,nss++[lF (vV+(t:Int)*26 ^ d) n],n,_,_,hdn,PU,Z,?_,?_,oM hnd hnm,fun x hx=>?_⟩
     . rw [aj]
       unfold rT
       rw [bL]
       rfl
     . rw [di,hnl]
       rfl
     . rcases fZ.mp hx with z|z
       . exact hok x z
       . rw [fU.mp z]
         exact aaP _ (by omega) PU
 rintro σ H2 ⟨g,nss,n,s1,s2,hdn,PU,rfl,hn,hnl,hnd,hok⟩
 exact ⟨_,Z,q pn nss H2 g hn En (by omega) hnd hok⟩
abbrev u7:Stmt:=top 33
abbrev ny:List Str:=["_law_script","_law_k","_law_j"]
abbrev NJ:List Str:=ny.append ["_law_size"]
theorem Ar:aJ NJ ny (ay u7):=c8
theorem Me (F:At K mg "_law_much" u7 f fd) (aN:Dn P w K mg base 1 "_law_draw" fj (lS K)):Dn P w K mg base 2 "_law_much" ny (DZ K):=by
 refine F.oA Ar fun cdv A outer s H vs Q E hr h=>?_
 obtain ⟨⟨a,ns,k,j,rfl,hS,h63,hk,hj,hj2,q⟩⟩:=h
 refine ⟨_,(@cI.h _ _ _ (ao (aO (i:=3) Ar.nd (aH (aK K) (d7 (af ah (af ah (af ah (af (aD lR ah ah) ak))))) (aZ aN hr (af (qv 0) (af (qv 1) (af (qv 2) (af ah ak)))))))
  (au (aS (aD bQ ah (aZ aN hr (af (qv 0) (af (qv 1) (af (aD bQ (qv 2) ah) (af (qv 3) ak)))))))))),?_⟩
 refine ⟨_,_,Z,Z,⟨by decide,by decide,by decide⟩,(iw 4),fun p1 hp1=>?_⟩
 have g1:=aA hp1 (.lst [V.int 9,V.int 40,V.int 1000,V.int (10 ^ (9:Int).toNat)])
 refine ⟨_,Z,_,Z,_,Z,cQ (g1.seq hS) h63 hk hj (by omega) (by decide) fun d _ d0 d1=>?_⟩
 obtain ⟨B,hB,hB0,hB1⟩:∃B:Int,jU [V.int 9,V.int 40,V.int 1000,V.int (10 ^ (9:Int).toNat)] d=some (.int B)/\0<B/\B<=1000000000:=by
  rcases (by omega:d=0\/d=1\/d=2\/d=3) with e|e|e|e
  . exact ⟨9,by rw [e];rfl,by decide,by decide⟩
  . exact ⟨40,by rw [e];rfl,by decide,by decide⟩
  . exact ⟨1000,by rw [e];rfl,by decide,by decide⟩
  . exact ⟨10 ^ (9:Int).toNat,by rw [e];rfl,by decide,by decide⟩
 refine ⟨p1,_,_,_,Z,Z,aC.of aj,hB,?_⟩
 refine ⟨_,Z,_,Z,_,Z,_,_,Z,Z,_,Z,cQ (g1.seq hS) h63 hk (by omega) (by omega) hB0 fun e _ e0 e1=>⟨_,_,Z,Z,?_⟩⟩
 exact q (1+e) _ (by omega) (by omega) g1
abbrev wG:Stmt:=top 53
abbrev kJ:List Str:=["_law_found"]
abbrev Rx:List Str:=kJ
theorem NK:aJ Rx kJ (ay wG):=c8
theorem NL (F:At K mg "_law_int" wG f fd) (aM:mg "isinstance"=none) (Ry:mg "int"=none) (Mf:mg "bool"=none):Dn P w K mg base 1 "_law_int" kJ DU:=by
 refine F.oA NK fun cdv A outer s H vs Q E hr h=>?_
 obtain ⟨i,rfl,q⟩:=h
 refine ⟨_,(@cI.h _ _ _ (au (aS (LF (aG (cZ K) (by rfl) aM jT (af (qv 0) (af (jx PyProof.Rows.boot_int rfl Ry) ak))) (LA (abI (aG (cZ K) (by rfl) aM jT (af (qv 0) (af (jx PyProof.Rows.boot_bool rfl Mf) ak))))))))),?_⟩
 refine ⟨_,Z,_,_,_,_,Z,gy.int i,iB,_,Z,qC ?_⟩
 refine ⟨_,Z,_,_,_,_,Z,gy.int i,Kz,_,Z,?_⟩
 exact q
abbrev sX:Stmt:=top 55
abbrev mh:List Str:=["_law_top","_law_bottom"]
abbrev Mg:List Str:=mh.append ["_law_one","_law_other"]
theorem nS:aJ Mg mh (ay sX):=c8
theorem Jb (F:At K mg "_law_least" sX f fd) (Rz:mg "abs"=none):Dn P w K mg base 1 "_law_least" mh A_:=by
 refine F.oA nS fun cdv A outer s H vs Q E hr h=>?_
 obtain ⟨⟨t,b,rfl,hb,hb2,q⟩⟩:=h
 refine ⟨_,(@cI.h _ _ _ (ao (aO (i:=2) nS.nd (aG Vm (by rfl) Rz PyProof.Rows.boot_abs (af (qv 0) ak)))
  (ao (aO (i:=3) nS.nd (qv 1))
  (ao (CN ee (aT pA (qv 3) ah (a_ _)) (au (Ul (i:=2) (j:=3) rfl nS.nd rfl rfl (by decide) rfl rfl (af (qv 3) (af (aD jq (qv 2) (qv 3)) ak)) (by rfl))))
  (au (aS (g_ (af (aD gI (qv 0) (qv 2)) (af (aD gI (qv 1) (qv 2)) ak))))))))),?_⟩
 refine ⟨_,Z,_,Z,_,Z,?_⟩
 refine ⟨fun m σ H'=>∃x y:Int,m=y.toNat/\σ=[some (.int t),some (.int b),some (.int x),some (.int y)]/\H'=H/\0<=x/\0<=y/\Jm.cf x y=Jm.cf b t,
  ⟨_,(if t<0 then -t else t),b,Z,Z,Z,(by split <;> omega),xY hb,(by rw [Jm.OR,Jm.aaA])⟩,?_⟩
 rintro m σ H' ⟨x,y,rfl,rfl,rfl,hx,hy,e⟩
 refine ⟨_,Z,Z,_,Z,dm (fun c=>?_) (fun c=>?_)⟩
 . have c1:¬ V.int y=V.int 0:=o6 (by simpa using c)
   have c':0<y:=by
    have:y≠0:=fun z=>c1 (by rw [z])
    omega
   refine ⟨_,fun _ _ z=>z,?_⟩
   refine ⟨_,Z,_,Z,_,Z,_,_,Z,Z,c',_,_,Z,?_⟩
   have h1:0<=x % y:=nD _ (by omega)
   have h2:x % y<y:=xR _ c'
   exact ⟨_,(by omega:(x % y).toNat<y.toNat),y,x % y,Z,Z,Z,hy,h1,(Jm.FP x y c').trans e⟩
 . have c1:V.int y=V.int 0:=by simpa using c
   have ey:y=0:=V.int.inj c1
   subst ey
   rw [Jm.OQ x hx] at e
   subst e
   have g0:0<Jm.cf b t:=Jm.DS _ _ (.inl hb)
   have g1:Jm.Sz 9000 (Jm.cf b t):=hb2.dvd hb (xY g0) (Jm.rB b t)
   have gd:∀i,AZ i (Jm.cf b t):=fun i=>um g0 g1
   refine ⟨_,Z,_,Z,_,_,Z,Z,gd _,_,Z,_,Z,_,_,Z,Z,gd _,(iw 2),fun p hp=>?_⟩
   refine q p _ (aA hp _) ?_
   rw [aj]
   show some (HO.tup [V.int (t / Jm.cf b t),V.int (b / Jm.cf b t)])=some (HO.tup [V.int (Jm.fr t b).num,V.int ((Jm.fr t b).den:Int)])
   rw [Jm.SE t b hb,Jm.KA t b hb]
abbrev yG:Stmt:=top 56
abbrev vW:List Str:=["_law_found","_law_top","_law_bottom"]
abbrev UG:List Str:=vW
theorem RA:aJ UG vW (ay yG):=c8
theorem RB (F:At K mg "_law_is" yG f fd) (eE:Dn P w K mg base 1 "_law_int" kJ DU) (kh:Dn P w K mg base 1 "_law_least" mh A_)
  (aM:mg "isinstance"=none) (jj:mg "tuple"=none) (bh:mg "len"=none):Dn P w K mg base 2 "_law_is" vW VO:=by
 refine F.oA RA fun cdv A outer s H vs Q E hr h=>?_
 obtain ⟨⟨p,q,t,b,rfl,hp,h0,h1,e,hq⟩⟩:=h
 refine ⟨_,(@cI.h _ _ _ (ao (cM (fC (bW.pt (iZ (dJ (dw (aG (cZ K) (by rfl) aM jT (af (qv 0) (af (jx Qg rfl jj) ak))))) (iD (aT pA (aG (bV K) (by rfl) bh dG (af (qv 0) ak)) ah (a_ _)))))) (au (aS fD)) aU)
  (ao (cM (fC (bW.pt (iZ (dJ (dw (aZ eE hr (af (aH (bF K) (qv 0) ah) ak)))) (iD (dJ (dw (aZ eE hr (af (aH (bF K) (qv 0) ah) ak)))))))) (au (aS fD)) aU)
  (au (aS (ud (FT K hr.units) (qv 0) (aZ kh hr (af (qv 1) (af (qv 2) ak))) (a_ _))))))),?_⟩
 refine ⟨false,?_,cV ?_⟩
 . refine ⟨_,Z,_,_,_,_,Z,gy.tup hp,iB,_,Z,cV ?_⟩
   exact ⟨_,Z,_,_,Z, .inr (cR.of hp),Z,_,Z,Z,Z⟩
 refine ⟨false,?_,cV ?_⟩
 . refine ⟨_,Z,p,_,_,_,Z,Z,cR.of hp,Z,_,Z,_,Z,cV ?_⟩
   exact ⟨_,Z,p,_,_,_,Z,Z,cR.of hp,Z,_,Z,_,Z,Z,Z⟩
 refine ⟨_,Z,_,Z,_,Z,Hz h0 h1 fun r H1 g1 hr1=>?_⟩
 rw [<-e] at hr1
 refine ⟨_,_,SN (g1 _ _ hp),SN hr1,BQ _ _,BQ _ _,?_⟩
 rw [VN]
 exact hq H1 g1
abbrev m7:Stmt:=top 54
abbrev kK:List Str:=["_law_found","_law_parts"]
abbrev C6:List Str:=kK.append ["_law_at_here","_law_one"]
theorem m8:aJ C6 kK (ay m7):=c8
theorem Br (F:At K mg "_law_part_list" m7 f fd) (eE:Dn P w K mg base 1 "_law_int" kJ DU) (aM:mg "isinstance"=none) (dz:mg "list"=none) (jj:mg "tuple"=none) (lK:mg "str"=none) (bH:mg "range"=none) (bh:mg "len"=none):Dn P w K mg base 2 "_law_part_list" kK (Eg K):=by
 refine F.oA m8 fun cdv A outer s H vs Q E hr h=>?_
 obtain ⟨⟨r,l,ws,us,ps,rfl,hr0,hP,hl,hR,hN,hle,q⟩⟩:=h
 refine ⟨_,(@cI.h _ _ _ (ao (cM (fC (bW.pt (iZ (dJ (dw (aG (cZ K) (by rfl) aM jT (af (qv 0) (af (jx v7 rfl dz) ak))))) (iD (aT pA (aG (bV K) (by rfl) bh dG (af (qv 0) ak)) (aG (bV K) (by rfl) bh dG (af (qv 1) ak)) (a_ _)))))) (au (aS fD)) aU)
  (ao (dS ee rfl (dU (by rfl) bH (af (aG (bV K) (by rfl) bh dG (af (qv 1) ak)) ak)) (aR (i:=2) m8.nd) (ao (aO (i:=3) m8.nd (aH (aK K) (qv 0) (qv 2)))
  (ao (cM (fC (bW.pt (iZ (dJ (dw (aG (cZ K) (by rfl) aM jT (af (qv 3) (af (jx Qg rfl jj) ak))))) (iD (aT pA (aG (bV K) (by rfl) bh dG (af (qv 3) ak)) ah (a_ _)))))) (au (aS fD)) aU)
  (ao (cM (fC (bW.pt (iZ (dJ (dw (aG (cZ K) (by rfl) aM jT (af (aH (bF K) (qv 3) ah) (af (jx Fv rfl lK) ak))))) (iD (dJ (dw (aG (cZ K) (by rfl) aM jT (af (aH (bF K) (qv 3) ah) (af (jx Fv rfl lK) ak))))))))) (au (aS fD)) aU)
  (ao (cM (fC (bW.pt (iZ (dJ (dw (aZ eE hr (af (aH (bF K) (qv 3) ah) ak)))) (iD (dJ (dw (aZ eE hr (af (aH (bF K) (qv 3) ah) ak)))))))) (au (aS fD)) aU)
  (au (cM (aT (OS K hr.units) (qv 3) (g_ (af (aH (oS K) (aH (aK K) (qv 1) (qv 2)) ah) (af (aH (oS K) (aH (aK K) (qv 1) (qv 2)) ah) (af (aH (oS K) (aH (aK K) (qv 1) (qv 2)) ah) (af (aH (oS K) (aH (aK K) (qv 1) (qv 2)) ah) ak))))) (a_ _)) (au (aS fD)) aU)))))))
  (au (aS fD))))),?_⟩
 have hwl:=hP.length
 have Uy:=hR.len
 refine ⟨false,?_,cV ?_⟩
 . refine ⟨_,Z,_,_,_,_,Z,gy.lst hr0,iB,_,Z,cV ?_⟩
   refine ⟨_,Z,_,_,Z, .inl (aC.of hr0),_,Z,_,_,Z, .inl hl,Z,_,Z,?_,Z⟩
   show (!decide (V.int (ws.length:Int)=V.int (us.length:Int)))=false
   rw [cg (by rw [hwl,Uy])]
   rfl
 refine ⟨_,Z,l,us,Z, .inl hl,_,Z,by omega,by omega,?_⟩
 refine fW (lo:=0) (n:=((us.length:Nat):Int).toNat) (fun i σ H'=>aE H H'/\∃(s1 s2:Option V),σ=[some (.ref r),some (.ref l),s1,s2]) ⟨aE.refl _,none,none,Z⟩ ?_ ?_
 . rintro i σ H' hi ⟨g,s1,s2,rfl⟩
   have e0:(0:Int)+(i:Int)=((i:Nat):Int):=by omega
   rw [e0]
   have hi':i<ps.length:=by omega
   have ep:=aX hi'
   obtain ⟨t,et,ht⟩:=hP.get ep
   obtain ⟨u,xs,eu,hu,x0,x1,x2,x3⟩:=(hR.mono g).at_ i _ ep
   have ht':=g _ _ ht
   obtain ⟨n1,n2⟩:=hN _ (tR hi')
   have hr1:=g _ _ hr0
   have hl1:=g.seq hl
   refine ⟨_,Z,_,Z,r,ws,i, .ref t,Z,Z,aC.of hr1,je et,?_⟩
   refine ⟨false,⟨_,Z,_,_,_,_,Z,gy.tup ht',iB,_,Z,cV ⟨_,Z,_,_,Z, .inr (cR.of ht'),Z,_,Z,Z,Z⟩⟩,cV ?_⟩
   refine ⟨false,⟨_,Z,t,_,_,_,Z,Z,cR.of ht',Z,_,_,_,_,Z,gy.str _,iB,_,Z,cV ⟨_,Z,t,_,_,_,Z,Z,cR.of ht',Z,_,_,_,_,Z,gy.str _,iB,_,Z,Z,Z⟩⟩,cV ?_⟩
   refine ⟨false,⟨_,Z,t,_,_,_,Z,Z,cR.of ht',Z,_,Z,_,Z,cV ⟨_,Z,t,_,_,_,Z,Z,cR.of ht',Z,_,Z,_,Z,Z,Z⟩⟩,cV ?_⟩
   refine ⟨_,Z,_,Z,_,Z,l,us,i, .ref u,Z,Z,hl1,je eu,hu.ix (i:=0) x0 ?_⟩
   refine ⟨_,Z,_,Z,l,us,i, .ref u,Z,Z,hl1,je eu,hu.ix (i:=1) x1 ?_⟩
   refine ⟨_,Z,_,Z,l,us,i, .ref u,Z,Z,hl1,je eu,hu.ix (i:=2) x2 ?_⟩
   refine ⟨_,Z,_,Z,l,us,i, .ref u,Z,Z,hl1,je eu,hu.ix (i:=3) x3 ?_⟩
   refine ⟨(iw 4),fun p1 hp1=>?_⟩
   have g1:=aA hp1 (Be ps[i])
   refine ⟨_,_,O8 (g1 _ _ ht'),O8 (p:=ps[i]) aj,BX n1 n2,BX n1 n2,_,Z,?_⟩
   rw [V8]
   exact cV ⟨g.trans g1,_,_,Z⟩
 rintro σ H' ⟨g,s1,s2,rfl⟩
 exact q H' g
abbrev mj:Stmt:=top 57
abbrev iE:List Str:=["_law_found","_law_owners","_law_tops","_law_bottom"]
abbrev Bs:List Str:=iE.append ["_law_due_here","_law_at_here","_law_pair"]
theorem jz:aJ Bs iE (ay mj):=c8
theorem As (F:At K mg "_law_share_list" mj f fd) (kh:Dn P w K mg base 1 "_law_least" mh A_) (Au:Dn P w K mg base 2 "_law_is" vW VO) (aM:mg "isinstance"=none) (dz:mg "list"=none) (jj:mg "tuple"=none) (lK:mg "str"=none) (bH:mg "range"=none) (bh:mg "len"=none):Dn P w K mg base 3 "_law_share_list" iE (wu K):=by
 refine F.oA jz fun cdv A outer s H vs Q E hr h=>?_
 obtain ⟨⟨r,lo,lt,ws,own,tops,b,rfl,hr0,hS,ho,ht,hlen,hle,b0,bz,q⟩⟩:=h
 refine ⟨_,(@cI.h _ _ _ (ao (Wy (i:=4) ["_law_at_here","_law_tops","_law_owners","_law_bottom"] [none,some 2,some 1,some 3] jz.nd rfl rfl rfl (dU (by rfl) bH (af (aG (bV K) (by rfl) bh dG (af (qv 2) ak)) ak)) (fun _ _ _ _=>(aR (i:=0) (show List.Nodup (["_law_at_here","_law_tops","_law_owners","_law_bottom"] :List Str) from by decide +kernel))) (fun _ _ _ _=>(g_ (af (aH (aK K) (qv 2) (qv 0)) (af (aZ kh hr (af (aH (aK K) (qv 1) (qv 0)) (af (qv 3) ak))) ak)))) (fun _ _ _ _=>(aT ir (aH (aK K) (qv 1) (qv 0)) ah (a_ _))) rfl (by rfl) (by rfl))
  (ao (cM (fC (bW.pt (iZ (dJ (dw (aG (cZ K) (by rfl) aM jT (af (qv 0) (af (jx v7 rfl dz) ak))))) (iD (aT pA (aG (bV K) (by rfl) bh dG (af (qv 0) ak)) (aG (bV K) (by rfl) bh dG (af (qv 4) ak)) (a_ _)))))) (au (aS fD)) aU)
  (ao (dS ee rfl (dU (by rfl) bH (af (aG (bV K) (by rfl) bh dG (af (qv 4) ak)) ak)) (aR (i:=5) jz.nd) (ao (aO (i:=6) jz.nd (aH (aK K) (qv 0) (qv 5)))
  (ao (cM (fC (bW.pt (iZ (dJ (dw (aG (cZ K) (by rfl) aM jT (af (qv 6) (af (jx Qg rfl jj) ak))))) (iZ (aT pA (aG (bV K) (by rfl) bh dG (af (qv 6) ak)) ah (a_ _)) (iD (aT pA (aH (bF K) (qv 6) ah) (aH (bF K) (aH (aK K) (qv 4) (qv 5)) ah) (a_ _))))))) (au (aS fD)) aU)
  (au (cM (bW.pt (iZ (dJ (dw (aG (cZ K) (by rfl) aM jT (af (aH (bF K) (qv 6) ah) (af (jx Fv rfl lK) ak))))) (iD (dJ (dw (aZ Au hr (af (aH (bF K) (qv 6) ah) (af (aH (bF K) (aH (bF K) (aH (aK K) (qv 4) (qv 5)) ah) ah) (af (aH (bF K) (aH (bF K) (aH (aK K) (qv 4) (qv 5)) ah) ah) ak))))))))) (au (aS fD)) aU)))))
  (au (aS fD)))))),?_⟩
 have tml:(tops.map V.int).length=tops.length:=aF ..
 have oml:(own.map V.str).length=own.length:=aF ..
 refine ⟨_,Z,lt,_,Z, .inl ht,_,Z,by omega,by omega,fun acc hacc=>?_⟩
 refine F0 (J:=Hj 0 _) (n:=tops.length) 0 (fun i out H1=>aE H H1/\ja H1 out (fG (own.take i) (tops.take i) b)) (by omega) ⟨aA hacc _, .nil⟩ (fun i out H1 hi _ _=>by show i<((tops.map V.int).length:Int).toNat;omega) (fun out H1 _ _=>by show ((tops.map V.int).length:Int).toNat<=tops.length;omega) ?_ ?_
 . rintro i x out H1 H2 hi eL ha ⟨g,S⟩ ⟨rfl,rfl⟩
   have e0:(0:Int)+(i:Int)=((i:Nat):Int):=by omega
   rw [e0]
   have et:=aX hi
   have eo:=aX (show i<own.length from by omega)
   have et':(tops.map V.int)[i]?=some (.int tops[i]):=by rw [bJ,et];rfl
   have eo':(own.map V.str)[i]?=some (.str own[i]):=by rw [bJ,eo];rfl
   have XJ:fG (own.take (i+1)) (tops.take (i+1)) b=fG (own.take i) (tops.take i) b++(if 0<tops[i] then [(own[i],Jm.fr tops[i] b)] else []):=by
    unfold fG
    rw [take_snoc eo,take_snoc et,List.zip_append (by rw [lq,lq];omega),List.filterMap_append]
    congr 1
    show List.filterMap _ [(own[i],tops[i])]=_
    rw [zu]
    by_cases c:0<tops[i]
    . simp [c]
    . simp [c]
   refine ⟨_,Z,_,Z,lt,_,i,_,Z,Z,g.seq ht,je et',_,_,Z,Z,_,Z,dm (fun c=>?_) (fun c=>?_)⟩
   . have c':0<tops[i] :=dO c
     rw [aB c'] at XJ
     refine ⟨_,Z,_,Z,lo,_,i,_,Z,Z,g.seq ho,je eo',_,Z,_,Z,lt,_,i,_,Z,Z,g.seq ht,je et',_,Z,Hz b0 bz fun p2 H3 g3 hp2=>⟨(iw 2),fun p3 hp3=>?_⟩⟩
     have g4:=aA hp3 (.tup [.str own[i], .ref p2])
     have PV:=g3.trans g4
     refine ⟨PV _ _ ha,(g.trans PV).cF hacc _,?_⟩
     rw [XJ]
     exact ((S.mono PV.tups).snoc aj (g4 _ _ hp2)).mono (kW (.inr ⟨_,PV _ _ ha,Z⟩))
   . have c':¬ 0<tops[i] :=o6 (mT.mpr c)
     rw [az c',qZ] at XJ
     exact ⟨ha,g,by rw [XJ];exact S⟩
 rintro du H1 eL ha ⟨g1,D1⟩
 rw [cC,<-hlen,cC] at D1
 have hr1:=g1 _ _ hr0
 have xG:=hS.mono g1.tups
 have l1:=xG.length
 have l2:=D1.length
 have l3:(fG own tops b).length<=1000:=by
  unfold fG
  refine fq (List.length_filterMap_le _ _) ?_
  rw [List.length_zip]
  omega
 have ahr:∀x q,(x,q)∈fG own tops b->Jm.Sz 9000 (q.den:Int):=fun x q m=>IE b0 bz m
 generalize fG own tops b=sh at *
 refine ⟨false,?_,cV ?_⟩
 . refine ⟨_,Z,_,_,_,_,Z,gy.lst hr1,iB,_,Z,cV ?_⟩
   refine ⟨_,Z,_,_,Z, .inl (aC.of hr1),_,Z,_,_,Z, .inl (aC.of ha),Z,_,Z,?_,Z⟩
   show (!decide (V.int (ws.length:Int)=V.int (du.length:Int)))=false
   rw [cg (by rw [l1,l2])]
   rfl
 refine ⟨_,Z,acc,du,Z, .inl (aC.of ha),_,Z,by omega,by omega,?_⟩
 refine fW (lo:=0) (n:=((du.length:Nat):Int).toNat) (fun i σ H'=>aE H1 H'/\∃(s1 s2:Option V),σ=[some (.ref r),some (.ref lo),some (.ref lt),some (.int b),some (.ref acc),s1,s2]) ⟨aE.refl _,none,none,Z⟩ ?_ ?_
 . rintro i σ H' hi ⟨g,s1,s2,rfl⟩
   have e0:(0:Int)+(i:Int)=((i:Nat):Int):=by omega
   rw [e0]
   have hi':i<sh.length:=by omega
   obtain ⟨xq,exq⟩:∃xq,sh[i]?=some xq:=⟨_,aX hi'⟩
   obtain ⟨x,qq⟩:=xq
   obtain ⟨r1,f1,a1,a2,a3⟩:=xG.get exq
   obtain ⟨r2,f2,b1,b2,b3⟩:=D1.get exq
   have a2':=g _ _ a2
   have a3':=g _ _ a3
   have b2':=g _ _ b2
   have b3':=g _ _ b3
   have RC:=g _ _ ha
   refine ⟨_,Z,_,Z,r,ws,i, .ref r1,Z,Z,aC.of (g _ _ hr1),je a1,?_⟩
   refine ⟨false,⟨_,Z,_,_,_,_,Z,gy.tup a2',iB,_,Z,cV ⟨_,Z,_,_,Z, .inr (cR.of a2'),Z,_,Z,cV ?_⟩⟩,cV ?_⟩
   . refine ⟨_,Z,r1,_,_,_,Z,Z,cR.of a2',Z,_,Z,_,Z,acc,du,i, .ref r2,Z,Z,aC.of RC,je b1,r2,_,_,_,Z,Z,cR.of b2',Z,Z,_,Z,?_,Z⟩
     show (!decide (V.str x=V.str x))=false
     rw [cg rfl];rfl
   refine ⟨_,Z,r1,_,_,_,Z,Z,cR.of a2',Z,_,_,_,_,Z,gy.str _,iB,_,Z,cV ?_⟩
   refine ⟨_,Z,r1,_,_,_,Z,Z,cR.of a2',Z,?_⟩
   refine ⟨_,Z,_,Z,acc,du,i, .ref r2,Z,Z,aC.of RC,je b1,r2,_,_,_,Z,Z,cR.of b2',Z,f2,_,_,_,Z,Z,cR.of b3',Z,?_⟩
   refine ⟨_,Z,_,Z,acc,du,i, .ref r2,Z,Z,aC.of RC,je b1,r2,_,_,_,Z,Z,cR.of b2',Z,f2,_,_,_,Z,Z,cR.of b3',Z,?_⟩
   exact aaK a3' (Jm.den_pos _) (ahr _ _ (bN exq)) (Jm.Yo _).symm fun H3 g3=>⟨_,Z,cV ⟨g.trans g3,_,_,Z⟩⟩
 rintro σ H' ⟨g,s1,s2,rfl⟩
 exact q H' (g1.trans g)
abbrev sY:Stmt:=top 32
abbrev pZ:List Str:=["_law_owners"]
abbrev Mh:List Str:=pZ
theorem Jc:aJ Mh pZ (ay sY):=c8
theorem Jd (F:At K mg "_law_model" sY f fd) (dz:mg "list"=none):Dn P w K mg base 1 "_law_model" pZ (Ph K):=by
 refine F.oA Jc fun cdv A outer s H vs Q E hr h=>?_
 obtain ⟨⟨l,own,n,ρ,rfl,hl,G,hle,q⟩⟩:=h
 refine ⟨_,(@cI.h _ _ _ (au (aS (Zd (uL aW (oU (nH K) (by rfl) dz v7 (af (qv 0) ak)) (uL aW (d7 ak) (uL aW ah (uL aW (d7 ak) (uL aW (d7 ak) Zc))))) (by rfl) (by rfl) (fun z=>nomatch z) (by with_unfolding_all decide))))),?_⟩
 intro m hm
 have g0:=aA hm (.dK [])
 have em0:upd H m (.dK []) m=some (.dK []):=aj
 have kq:=g0.seq hl
 generalize upd H m (.dK [])=H0 at *
 refine ⟨_,Z,l,_,Z, .inl kq,fun lo hlo=>?_⟩
 have g1:=aA hlo (.lst (own.map V.str))
 have Cf:upd H0 lo (.lst (own.map V.str)) lo=some (.lst (own.map V.str)):=aj
 have vX:=g1 _ _ em0
 generalize upd H0 lo (.lst (own.map V.str))=H1 at *
 refine ⟨(iw 0),fun lp tP=>?_⟩
 have g2:=aA tP (.lst [])
 have ep2:upd H1 lp (.lst []) lp=some (.lst []):=aj
 have eo2:=g2 _ _ Cf
 have em2:=g2 _ _ vX
 show zK _ _ (upd H1 lp (.lst [])) _
 generalize upd H1 lp (.lst [])=H2 at *
 refine ⟨(iw 0),fun la hla=>?_⟩
 have g3:=aA hla (.lst [])
 have XM:upd H2 la (.lst []) la=some (.lst []):=aj
 have ep3:=g3 _ _ ep2
 have eo3:=g3 _ _ eo2
 have em3:=g3 _ _ em2
 show zK _ _ (upd H2 la (.lst [])) _
 generalize upd H2 la (.lst [])=H3 at *
 refine ⟨(iw 0),fun lk hlk=>?_⟩
 have g4:=aA hlk (.lst [])
 have ek4:upd H3 lk (.lst []) lk=some (.lst []):=aj
 have UH:=g4 _ _ XM
 have ep4:=g4 _ _ ep3
 have eo4:=g4 _ _ eo3
 have UI:=g4 _ _ em3
 show upd H3 lk (.lst []) m=_/\_
 generalize upd H3 lk (.lst [])=H4 at *
 have gA:=((g0.trans g1).trans g2).trans (g3.trans g4)
 have n1:lo≠m:=fun e=>by rw [e,em0] at hlo;cases hlo
 have n2:lp≠m:=fun e=>by rw [e,vX] at tP;cases tP
 have n3:lp≠lo:=fun e=>by rw [e,Cf] at tP;cases tP
 have n4:la≠m:=fun e=>by rw [e,em2] at hla;cases hla
 have n5:la≠lo:=fun e=>by rw [e,eo2] at hla;cases hla
 have n6:la≠lp:=fun e=>by rw [e,ep2] at hla;cases hla
 have n7:lk≠m:=fun e=>by rw [e,em3] at hlk;cases hlk
 have n8:lk≠lo:=fun e=>by rw [e,eo3] at hlk;cases hlk
 have n9:lk≠lp:=fun e=>by rw [e,ep3] at hlk;cases hlk
 have nA:lk≠la:=fun e=>by rw [e,XM] at hlk;cases hlk
 refine ⟨UI,[(Sum.inr "owners", .ref lo),(Sum.inr "parts", .ref lp),(Sum.inr "bottom", .int 1),(Sum.inr "ashore", .ref la),(Sum.inr "known", .ref lk)],Z,by show 5<=15;decide,?_⟩
 have eK:w6 [] [(Sum.inr "owners", .ref lo),(Sum.inr "parts", .ref lp),(Sum.inr "bottom", .int 1),(Sum.inr "ashore", .ref la),(Sum.inr "known", .ref lk)]=fB ⟨m,lo,lp,la,lk,[]⟩ 1:=rfl
 rw [eK]
 have u1:upd H4 m (.dK (fB ⟨m,lo,lp,la,lk,[]⟩ 1)) m=some (.dK (fB ⟨m,lo,lp,la,lk,[]⟩ 1)):=aj
 have u2:upd H4 m (.dK (fB ⟨m,lo,lp,la,lk,[]⟩ 1)) lo=some (.lst (own.map V.str)):=by rw [av n1];exact eo4
 have u3:upd H4 m (.dK (fB ⟨m,lo,lp,la,lk,[]⟩ 1)) lp=some (.lst []):=by rw [av n2];exact ep4
 have u4:upd H4 m (.dK (fB ⟨m,lo,lp,la,lk,[]⟩ 1)) la=some (.lst []):=by rw [av n4];exact UH
 have u5:upd H4 m (.dK (fB ⟨m,lo,lp,la,lk,[]⟩ 1)) lk=some (.lst []):=by rw [av n7];exact ek4
 have G4:=(G.same gA).wr (a:=m) (o:= .dK (fB ⟨m,lo,lp,la,lk,[]⟩ 1)) rfl
 have hz:∀b o,H b=some o->upd H4 m (.dK (fB ⟨m,lo,lp,la,lk,[]⟩ 1)) b=some o:=fun b o e=>by
  rw [av (fun z=>by rw [z,hm] at e;cases e)];exact gA _ _ e
 have y1:H lo=none:=g0.free hlo
 have y2:H lp=none:=(g0.trans g1).free tP
 have y3:H la=none:=((g0.trans g1).trans g2).free hla
 have y4:H lk=none:=(((g0.trans g1).trans g2).trans g3).free hlk
 generalize upd H4 m (.dK (fB ⟨m,lo,lp,la,lk,[]⟩ 1))=H5 at *
 refine q (cK (cK (cK (cK (cK ρ m (n,20,⟨#[]⟩)) lo (n,21,⟨#[]⟩)) lp (n,22,⟨#[]⟩)) la (n,25,⟨#[]⟩)) lk (n,26,⟨#[]⟩)) ⟨m,lo,lp,la,lk,[]⟩ H5 (((((G4.color u1 rfl).color u2 rfl).color u3 rfl).color u4 rfl).color u5 rfl) ⟨u1,?_,u2,?_,u3,?_,⟨[],u4, .nil⟩,?_,u5,dM,Z,fun i p q e=>by simp at e⟩ (fun b o e=>⟨hz b o e,?_⟩)
 . show cK _ lk _ m=_
   rw [cy (cu n7),cy (cu n4),cy (cu n2),cy (cu n1),dM]
 . show cK _ lk _ lo=_
   rw [cy (cu n8),cy (cu n5),cy (cu n3),dM]
 . show cK _ lk _ lp=_
   rw [cy (cu n9),cy (cu n6),dM]
 . show cK _ lk _ la=_
   rw [cy (cu nA),dM]
 . rw [cy (aI e y4),cy (aI e y3),cy (aI e y2),cy (aI e y1),cy (aI e hm)]
abbrev u9:Stmt:=top 34
abbrev rL:List Str:=["_law_owners","_law_name_here"]
abbrev NN:List Str:=rL.append ["_law_at_here"]
theorem Av:aJ NN rL (ay u9):=c8
theorem Mi (F:At K mg "_law_seat" u9 f fd) (bh:mg "len"=none) (bH:mg "range"=none):Dn P w K mg base 1 "_law_seat" rL (TU K):=by
 refine F.oA Av fun cdv A outer s H vs Q E hr h=>?_
 obtain ⟨⟨l,own,o,rfl,hl,ho,hle,q⟩⟩:=h
 refine ⟨_,(@cI.h _ _ _ (ao (dS ee rfl (dU (by rfl) bH (af (aG (bV K) (by rfl) bh dG (af (qv 0) ak)) ak)) (aR (i:=2) Av.nd) (au (cM (aT gR (aH (aK K) (qv 0) (qv 2)) (qv 1) (a_ _)) (au (aS (qv 2))) aU)))
  (au (aS (Ez zA ah))))),?_⟩
 have ll:(own.map V.str).length=own.length:=aF _
 refine ⟨_,Z,l,_,Z, .inl hl,_,Z,by omega,by omega,?_⟩
 refine fW (lo:=0) (n:=(((own.map V.str).length:Nat):Int).toNat) (fun i σ H'=>H'=H/\o∉own.take i/\∃s2,σ=[some (.ref l),some (.str o),s2]) ⟨Z,by simp,_,Z⟩ ?_ ?_
 . rintro i σ H' hi ⟨rfl,hn,s2,rfl⟩
   have e0:(0:Int)+(i:Int)=((i:Nat):Int):=by omega
   rw [e0]
   have hio:i<own.length:=by omega
   have ei:=aX hio
   refine ⟨_,Z,_,Z,l,_,_,_,Z,Z,hl,aQ (by rw [bJ,ei];rfl),_,Z,Z,_,Z,dm (fun c=>?_) (fun c=>?_)⟩
   . have c':own[i]=o:=V.str.inj (dO c)
     refine ⟨_,Z,?_⟩
     have:own.idxOf o=i:=by
      have h1:own.idxOf o<=i:=by
       rcases Nat.lt_or_ge i (own.idxOf o) with z|z
       . exact absurd c' (by simpa using List.not_of_lt_findIdx z)
       . exact z
      rcases Nat.lt_or_ge (own.idxOf o) i with z|z
      . exact absurd (bN (i:=own.idxOf o) (by rw [List.getElem?_take,aB z];exact HY ho)) hn
      . omega
     rw [<-this];exact q
   . refine ⟨Z,fun m=>?_,_,Z⟩
     rw [take_snoc ei] at m
     rcases fZ.mp m with z|z
     . exact hn z
     . exact c (cg (by rw [fU.mp z]))
 rintro σ H' ⟨rfl,hn,s2,rfl⟩
 rw [show (((own.map V.str).length:Nat):Int).toNat=own.length from by omega,cC] at hn
 exact absurd ho hn
abbrev oz:Stmt:=top 35
abbrev lM:List Str:=["_law_model_here","_law_name_here","_law_owner","_law_worth","_law_weight"]
abbrev EU:List Str:=lM.append ["_law_tops"]
theorem u_:aJ EU lM (ay oz):=c8
theorem C7 (F:At K mg "_law_new_part" oz f fd) (wH:Dn P w K mg base 1 "_law_seat" rL (TU K)):Dn P w K mg base 2 "_law_new_part" lM HZ:=by
 refine F.oA u_ fun cdv A outer s H vs Q E hr h=>?_
 obtain ⟨⟨n,ρ,B,b,x,o,wo,we,rfl,G,h,ho,eL,hpl,hkl,q⟩⟩:=h
 refine ⟨_,(@cI.h _ _ _ (ao (uc (i:=5) ["_law_one"] [none] u_.nd rfl rfl rfl (dH K (bU (bY hr) (qv 0) aW)) (fun _ _ _ _=>(aR (i:=0) (show List.Nodup (["_law_one"] :List Str) from by decide +kernel))) (fun _ _ _ _=>ah) rfl (by rfl) (by rfl))
  (ao (rX (bU (bY hr) (qv 0) aW) (rY (qv 5) (aZ wH hr (af (bU (bY hr) (qv 0) aW) (af (qv 2) ak))) set_list))
  (ao (cW (tY xO xK xM gX (bU (bY hr) (qv 0) aW) (af (d7 (af (qv 1) (af (qv 2) (af (qv 3) (af (qv 4) (af (qv 5) ak)))))) ak)))
  (au (cW (tY xO xK xM gX (bU (bY hr) (qv 0) aW) (af (qv 1) ak)))))))),?_⟩
 refine ⟨_,Z,B.m,_,Z,cO.k (k:=Sum.inr "owners") h.om,B.lo,Z,⟨_,aC.of h.oo⟩,fun l0 kq=>?_⟩
 have GB:(b.own.map V.str).length=b.own.length:=aF _
 refine iR (J:=uh K B.lo) (n:=(b.own.map V.str).length) 0 (fun i o H'=>aE H H'/\o=(List.replicate i (0:Int)).map V.int) (by omega) ⟨aA kq _,Z⟩ (fun i o H' hi _ hp=>⟨_,_,aC.of (hp.1 _ _ h.oo),aX hi⟩) (fun o H' _ hp=>⟨_,aC.of (hp.1 _ _ h.oo),aP _⟩) ?_ ?_
 . rintro i y o H2 H3 hi eL ha ⟨g,e⟩ ⟨rfl,hy⟩
   refine ⟨ha,g.cF kq _,?_⟩
   subst e
   rw [List.replicate_succ',bL]
   rfl
 rintro o1 H1 _ ha ⟨g1,e⟩
 subst e
 rw [GB] at ha
 have h1:=h.mono g1
 have il:b.own.idxOf o<b.own.length:=List.idxOf_lt_length_of_mem ho
 have rl:((List.replicate b.own.length (0:Int)).map V.int).length=b.own.length:=by rw [aF,mS]
 refine ⟨_,Z,B.m,_,Z,cO.k (k:=Sum.inr "bottom") h1.om,_,Z,_,Z,B.m,_,Z,cO.k (k:=Sum.inr "owners") h1.om,_,Z,⟨⟨B.lo,b.own,o,Z,aC.of h1.oo,ho,eL,?_⟩⟩⟩
 refine ⟨l0,_,_,_,Z,Z,ha,by rw [rl];exact Ba il,?_⟩
 rw [<-xZ]
 have g2:=g1.cF kq (.lst (((List.replicate b.own.length (0:Int)).set (b.own.idxOf o) b.bot).map V.int))
 have ha2:upd H1 l0 (.lst (((List.replicate b.own.length (0:Int)).set (b.own.idxOf o) b.bot).map V.int)) l0=some (.lst (((List.replicate b.own.length (0:Int)).set (b.own.idxOf o) b.bot).map V.int)):=aj
 show Cq _ _ _ _ (upd H1 l0 (.lst (((List.replicate b.own.length (0:Int)).set (b.own.idxOf o) b.bot).map V.int)))
 generalize upd H1 l0 (.lst (((List.replicate b.own.length (0:Int)).set (b.own.idxOf o) b.bot).map V.int))=H2 at *
 have h2:=h.mono g2
 refine ⟨_,Z,B.m,_,Z,cO.k (k:=Sum.inr "parts") h2.om, .inl ⟨Z,_,aC.of h2.op⟩,_,Z,_,Z,_,Z,_,Z,_,Z,(iw 5),fun p hp=>?_⟩
 have g3:=aA hp (kQ ⟨x,o,wo,we,(List.replicate b.own.length (0:Int)).set (b.own.idxOf o) b.bot⟩ l0)
 have hp3:upd H2 p (kQ ⟨x,o,wo,we,(List.replicate b.own.length (0:Int)).set (b.own.idxOf o) b.bot⟩ l0) p=some (kQ ⟨x,o,wo,we,(List.replicate b.own.length (0:Int)).set (b.own.idxOf o) b.bot⟩ l0):=aj
 show pB _ (upd H2 p (kQ ⟨x,o,wo,we,(List.replicate b.own.length (0:Int)).set (b.own.idxOf o) b.bot⟩ l0)) _
 generalize upd H2 p (kQ ⟨x,o,wo,we,(List.replicate b.own.length (0:Int)).set (b.own.idxOf o) b.bot⟩ l0)=H3 at *
 have En:H p=none:=g2.free hp
 have g23:=g2.trans g3
 have cl0:ρ l0=none:=G.none kq
 have np:p≠l0:=fun e=>by rw [e,ha2] at hp;cases hp
 have cp:cK ρ l0 (n,24,x) p=none:=by rw [cy np];exact G.none En
 have h3:bg n (cK (cK ρ l0 (n,24,x)) p (n,23,x)) B H3 b:=((h.mono g23).col cl0).col cp
 have G3:Gh (cK (cK ρ l0 (n,24,x)) p (n,23,x)) H3:=((G.same g23).color (g3 _ _ ha2) rfl).color hp3 rfl
 have F3:Fr n ρ H (cK (cK ρ l0 (n,24,x)) p (n,23,x)) H3:=((Fr.of_same g23).yo kq).yo En
 have c1:cK (cK ρ l0 (n,24,x)) p (n,23,x) p=some (n,23,x):=dM
 have c2:cK (cK ρ l0 (n,24,x)) p (n,23,x) l0=some (n,24,x):=by rw [cy (cu np),dM]
 have UD:=g3 _ _ ha2
 refine ⟨B.lp,_,_,Z,Z,h3.op,by rw [aF,h.ql];exact eY hpl,?_⟩
 rw [show B.qs.map (fun q=>V.ref q.1)++[V.ref p]=(B.qs++[(p,l0)]).map (fun q=>V.ref q.1) from by rw [bL];rfl]
 have h4:=h3.abj G3 (p:=⟨x,o,wo,we,(List.replicate b.own.length (0:Int)).set (b.own.idxOf o) b.bot⟩) (q:=(p,l0)) hp3 UD c1 c2
 have G4:=G3.wr (a:=B.lp) (o:= .lst ((B.qs++[(p,l0)]).map fun q=>V.ref q.1)) rfl
 have F4:=F3.trans (Fr.write (o:= .lst ((B.qs++[(p,l0)]).map fun q=>V.ref q.1)) h3.cp)
 generalize upd H3 B.lp (.lst ((B.qs++[(p,l0)]).map fun q=>V.ref q.1))=H4 at *
 refine ⟨_,Z,B.m,_,Z,cO.k (k:=Sum.inr "known") h4.om, .inl ⟨Z,_,aC.of h4.ok⟩,_,Z,B.lk,_,_,Z,Z,h4.ok,by rw [aF];exact eY hkl,?_⟩
 rw [show b.d8.map V.str++[V.str x]=(b.d8++[x]).map V.str from by rw [bL];rfl]
 exact q _ _ _ (G4.wr rfl) (h4.YR G4 (b.d8++[x])) rfl (F4.trans (Fr.write h4.ck))
abbrev lu:Stmt:=top 58
abbrev jA:List Str:=["_law_hold","_law_model_here"]
abbrev Aw:List Str:=jA.append ["_law_whole","_law_part"]
theorem lz:aJ Aw jA (ay lu):=c8
theorem yZ {T:TC} (F:At K mg "_law_tells_parts" lu f fd) (eE:Dn P w K mg base 1 "_law_int" kJ DU) (oE:Dn P w K mg base 2 "_law_part_list" kK (Eg K)) (gu:Dn P w K mg base 3 "_law_share_list" iE (wu K))
  (vc:Mn P w K mg base 1 T.hold "parts" pR (O6 T)) (kg:Mn P w K mg base 1 T.hold "whole" lZ (Gb T)) (sZ:Mn P w K mg base 4 T.hold "shares" nO (HN T)) (fQ:mg "sum"=none):Dn P w K mg base 5 "_law_tells_parts" jA (t_ 1 T K):=by
 refine F.oA lz fun cdv A outer s H vs Q E hr h=>?_
 obtain ⟨⟨n,m,ρ,A,B,st,b,c,rfl,nm,hh,hb,gd,hc,EV,hkn,q⟩⟩:=h
 refine ⟨_,(@cI.h _ _ _ (ao (aO (i:=2) lz.nd (xA kg hr (qv 0)))
  (ao (cM (bW.pt (iZ (dJ (dw (aZ eE hr (af (qv 2) ak)))) (iD (aT pA (qv 2) (aG (lT K rfl) (by rfl) fQ xP (af (gr ["_law_part"] [none] rfl (dH K (bU (bY hr) (qv 1) aW)) (fun _ _ _ _=>(aR (i:=0) (show List.Nodup (["_law_part"] :List Str) from by decide +kernel))) (fun _ _ _ _=>(aH (aK K) (qv 0) ah)) rfl (by rfl)) ak)) (a_ _))))) (au (aS fD)) aU)
  (ao (cM (dJ (dw (aZ oE hr (af (xA vc hr (qv 0)) (af (bU (bY hr) (qv 1) aW) ak))))) (au (aS fD)) aU)
  (ao (dS ee rfl (dH K (bU (bY hr) (qv 1) aW)) (aR (i:=3) lz.nd) (au (cM (dJ (dw (aZ gu hr (af (gF sZ hr (qv 0) (af (aH (aK K) (qv 3) ah) ak)) (af (bU (bY hr) (qv 1) aW) (af (aH (aK K) (qv 3) ah) (af (bU (bY hr) (qv 1) aW) ak))))))) (au (aS fD)) aU)))
  (au (aS fD))))))),?_⟩
 have pl:=gd.pl
 have rl:=gd.rel.len
 have wl:=gd.rel.whole
 refine ⟨_,Z,A.a,A.dx,_,Z,hh.h.oa,Z,⟨⟨n,ρ,A,st,Z,hh.h,by omega,fun H1 g1=>?_⟩⟩⟩
 have gw:=hh.mono g1
 have hb1:=hb.mono g1
 have UJ:=hb1.op
 have tQ:(B.qs.map fun q=>V.ref q.1).length=b.ai.length:=by rw [aF];exact hb.ql
 refine ⟨_,Z,_,Z,_,Z,cV ?_⟩
 refine ⟨_,Z,_,Z,B.m,_,Z,cO.k (k:=Sum.inr "parts") hb1.om,B.lp,Z,⟨_,aC.of UJ⟩,fun ac hac=>?_⟩
 refine iR (J:=uh K B.lp) (n:=b.ai.length) 0 (fun i o H'=>aE H1 H'/\o=((b.ai.take i).map (fun p:BP=>p.wo)).map V.int) (by omega) ⟨aA hac _,Z⟩ (fun i o H' hi _ hp=>⟨_,_,aC.of (hp.1 _ _ UJ),aX (by rw [tQ];exact hi)⟩) (fun o H' _ hp=>⟨_,aC.of (hp.1 _ _ UJ),by rw [tQ];exact aP _⟩) ?_ ?_
 . rintro j y o H2 H3 hj eL ha ⟨g,e⟩ ⟨rfl,hy⟩
   have ej:=aX hj
   obtain ⟨qq,eq,k1,k2,_,_⟩:=hb1.find ej
   have ey:=hy _ (aC.of (g _ _ UJ))
   rw [bJ,eq] at ey
   cases ey
   refine ⟨_,Z,qq.1,_,_,_,Z,Z,aC.of (g _ _ k1),aQ (j:=2) rfl,ha,g.cF hac _,?_⟩
   subst e
   rw [take_snoc ej,bL,bL]
   rfl
 rintro o H2 _ ha ⟨g2,e⟩
 rw [cC] at e
 subst e
 refine ⟨ac,b.ai.map (fun p:BP=>p.wo),Z,aC.of ha,Z,_,Z,?_⟩
 have ew:bK st=(b.ai.map (fun p:BP=>p.wo)).sum:=wl
 rw [show (!decide (V.int (bK st)=V.int (b.ai.map (fun p:BP=>p.wo)).sum))=false from by rw [cg (by rw [ew])];rfl]
 refine cV ?_
 have kR:=gw.mono g2
 have hb2:=hb1.mono g2
 refine ⟨_,Z,A.a,A.dx,_,Z,kR.h.oa,Z,⟨⟨n,ρ,A,st,Z,kR.h,by omega,fun r ws H3 g3 hr hw3 hP3=>?_⟩⟩⟩
 have Ax:=hb2.mono g3
 refine ⟨_,Z,B.m,_,Z,cO.k (k:=Sum.inr "parts") Ax.om,⟨⟨r,B.lp,ws,_,st.ai,Z,hw3,hP3,aC.of Ax.op,gd.rel.rows Ax,gd.nms,by omega,fun H4 g4=>⟨_,Z,cV ?_⟩⟩⟩⟩
 have nv:=(kR.mono g3).mono g4
 have Cg:=Ax.mono g4
 have o4:aE (out ρ H) (out ρ H4):=iT (((g1.trans g2).trans g3).trans g4)
 clear gw hb1 kR hb2 Ax hw3 hP3 ha hac hr g1 g2 g3 g4 UJ
 refine ⟨_,Z,B.m,_,Z,cO.k (k:=Sum.inr "parts") Cg.om,B.lp,Z,⟨_,aC.of Cg.op⟩,?_⟩
 refine lQ (K:=K) (xs:=B.qs.map fun q=>V.ref q.1) (fun i σ H'=>∃ρ' A' s3,σ=[some (.ref A.a),some (.ref B.m),some (.int (bK st)),s3]/\HH T n ρ' A' H' { st with kn:=st.kn+100*i }/\bg m ρ' B H' b/\A'.a=A.a/\aE (out ρ H) (out ρ' H'))
  ⟨ρ,A,_,Z,nv,Cg,Z,o4⟩ (fun i σ H' _ hp=>by obtain ⟨_,_,_,_,_,h,_⟩:=hp;exact aC.of h.op) ?_ ?_
 . rintro i y σ H5 hy ⟨ρ5,A5,s3,rfl,vS,EW,EX,o5⟩
   rw [bJ] at hy
   obtain ⟨qq,eq,rfl⟩:=lP.mp hy
   have hib:i<b.ai.length:=by rw [<-hb.ql];exact (eF.mp eq).1
   have ei:=aX hib
   obtain ⟨p,ep,e1,e2,_⟩:=gd.rel.at ei
   have i9:=bN ep
   have hqm:=bN ei
   obtain ⟨k1,k2,_,_⟩:=EW.pt i _ qq ei eq
   refine ⟨_,Z,A.a,A5.dx,_,Z,by rw [<-EX];exact vS.h.oa,Z,_,Z,qq.1,_,_,_,Z,Z,aC.of k1,aQ (j:=0) rfl,⟨⟨n,ρ5,A5,_,i,p,by rw [EX,e1];rfl,vS,ep,by show st.kn+100*i+100<=1000000;omega,fun r ws ρ6 A6 H6 Iq UK f6 hr hr6 cr hSh=>?_⟩⟩⟩
   have EY:=EW.other f6 vS.g (cu nm)
   obtain ⟨k16,k26,_,_⟩:=EY.pt i _ qq ei eq
   have esh:zY { st with kn:=st.kn+100*i } p=fG b.own (b.ai[i]).tops b.bot:=Rb gd.Gf gd.rel hh.wf gd.j6 i9 hqm e1
   rw [esh] at hSh
   have b1:=gd.j6.b1
   refine ⟨_,Z,B.m,_,Z,cO.k (k:=Sum.inr "owners") EY.om,_,Z,qq.1,_,_,_,Z,Z,aC.of k16,aQ (j:=4) rfl,_,Z,B.m,_,Z,cO.k (k:=Sum.inr "bottom") EY.om,⟨⟨r,B.lo,qq.2,ws,b.own,(b.ai[i]).tops,b.bot,Z,hr6,hSh,aC.of EY.oo,aC.of k26,(gd.j6.tl _ hqm).symm,by have:=gd.j6.ol;omega,by omega,gd.j6.bz.mono (by decide),fun H7 g7=>⟨_,Z,cV ?_⟩⟩⟩⟩
   refine ⟨ρ6,A6,_,Z,?_,EY.mono g7,UK.trans EX,(o5.trans f6.out).trans (iT g7)⟩
   have:=Iq.mono g7
   rw [show st.kn+100*(i+1)=st.kn+100*i+100 by omega]
   exact this
 rintro σ H5 ⟨ρ5,A5,s3,rfl,vS,EW,EX,o5⟩
 refine q ρ5 A5 H5 _ vS ?_ EW EX o5
 rw [tQ];omega
abbrev kL:Stmt:=top 59
abbrev i6:List Str:=["_law_hold","_law_model_here"]
abbrev y9:List Str:=i6.append ["_law_found","_law_at_here","_law_one","_law_due_here"]
theorem gm:aJ y9 i6 (ay kL):=c8
theorem yH {T:TC} (F:At K mg "_law_tells_landed" kL f fd) (eE:Dn P w K mg base 1 "_law_int" kJ DU) (gu:Dn P w K mg base 3 "_law_share_list" iE (wu K)) (s_:Mn P w K mg base 1 T.hold "landed" nP (K4 T)) (aM:mg "isinstance"=none) (dz:mg "list"=none) (jj:mg "tuple"=none) (lK:mg "str"=none) (bH:mg "range"=none) (bh:mg "len"=none):Dn P w K mg base 4 "_law_tells_landed" i6 (t_ 1 T K):=by
 refine F.oA gm fun cdv A outer s H vs Q E hr h=>?_
 obtain ⟨⟨n,m,ρ,A,B,st,b,c,rfl,nm,hh,hb,gd,hc,EV,hkn,q⟩⟩:=h
 refine ⟨_,(@cI.h _ _ _ (ao (aO (i:=2) gm.nd (xA s_ hr (qv 0)))
  (ao (cM (fC (bW.pt (iZ (dJ (dw (aG (cZ K) (by rfl) aM jT (af (qv 2) (af (jx v7 rfl dz) ak))))) (iD (aT pA (aG (bV K) (by rfl) bh dG (af (qv 2) ak)) (aG (bV K) (by rfl) bh dG (af (bU (bY hr) (qv 1) aW) ak)) (a_ _)))))) (au (aS fD)) aU)
  (ao (dS ee rfl (dU (by rfl) bH (af (aG (bV K) (by rfl) bh dG (af (qv 2) ak)) ak)) (aR (i:=3) gm.nd) (ao (aO (i:=4) gm.nd (aH (bF K) (qv 2) (qv 3)))
  (ao (aO (i:=5) gm.nd (aH (aK K) (bU (bY hr) (qv 1) aW) (qv 3)))
  (ao (cM (fC (bW.pt (iZ (dJ (dw (aG (cZ K) (by rfl) aM jT (af (qv 4) (af (jx Qg rfl jj) ak))))) (iZ (aT pA (aG (bV K) (by rfl) bh dG (af (qv 4) ak)) ah (a_ _)) (iD (dJ (dw (aZ eE hr (af (aH (bF K) (qv 4) ah) ak))))))))) (au (aS fD)) aU)
  (ao (cM (fC (bW.pt (iZ (dJ (dw (aG (cZ K) (by rfl) aM jT (af (aH (bF K) (qv 4) ah) (af (jx Fv rfl lK) ak))))) (iD (dJ (dw (aG (cZ K) (by rfl) aM jT (af (aH (bF K) (qv 4) ah) (af (jx Fv rfl lK) ak))))))))) (au (aS fD)) aU)
  (ao (cM (aT pA (g_ (af (aH (bF K) (qv 4) ah) (af (aH (bF K) (qv 4) ah) (af (aH (bF K) (qv 4) ah) ak)))) (g_ (af (aH (aK K) (qv 5) ah) (af (aH (aK K) (qv 5) ah) (af (aH (aK K) (qv 5) ah) ak)))) (a_ _)) (au (aS fD)) aU)
  (au (cM (dJ (dw (aZ gu hr (af (aH (bF K) (qv 4) ah) (af (bU (bY hr) (qv 1) aW) (af (aH (aK K) (qv 5) ah) (af (aH (aK K) (qv 5) ah) ak))))))) (au (aS fD)) aU))))))))
  (au (aS fD)))))),?_⟩
 refine ⟨_,Z,A.a,A.dx,_,Z,hh.h.oa,Z,⟨⟨n,ρ,A,st,Z,hh,fun r ws H1 g1 hr hr1 hL=>?_⟩⟩⟩
 rw [gd.kj.1] at hL
 cases hL
 have hb1:=hb.mono g1
 obtain ⟨vs,hv,hA⟩:=hb1.oa
 rw [gd.kj.2] at hA
 cases hA
 refine ⟨false,?_,cV ?_⟩
 . refine ⟨_,Z,_,_,_,_,Z,gy.lst hr1,iB,_,Z,cV ?_⟩
   exact ⟨_,Z,_,_,Z, .inl (aC.of hr1),_,Z,B.m,_,Z,cO.k (k:=Sum.inr "ashore") hb1.om,_,_,Z, .inl (aC.of hv),Z,_,Z,Z,Z⟩
 refine ⟨_,Z,r,_,Z, .inl (aC.of hr1),_,Z,by decide,by decide,?_⟩
 refine fW (lo:=0) (n:=0) (fun i σ H'=>H'=H1/\σ=[some (.ref A.a),some (.ref B.m),some (.ref r),none,none,none]) ⟨Z,Z⟩ ?_ ?_
 . intro i σ H' hi
   omega
 rintro σ H' ⟨rfl,rfl⟩
 exact q ρ A H' st.kn (hh.mono g1) (by omega) hb1 rfl (iT g1)
abbrev tD:Stmt:=top 60
abbrev p_:List Str:=["_law_hold","_law_model_here"]
abbrev Mj:List Str:=p_.append ["_law_roster"]
theorem yX:aJ Mj p_ (ay tD):=c8
theorem Je {T:TC} (F:At K mg "_law_tells" tD f fd) (mq:Dn P w K mg base 5 "_law_tells_parts" jA (t_ 1 T K)) (lA:Dn P w K mg base 4 "_law_tells_landed" i6 (t_ 1 T K)) (tE:Mn P w K mg base 1 T.hold "roster" nM (K2 T)) (aM:mg "isinstance"=none) (dz:mg "list"=none):Dn P w K mg base 6 "_law_tells" p_ (t_ 2 T K):=by
 refine F.oA yX fun cdv A outer s H vs Q E hr h=>?_
 obtain ⟨⟨n,m,ρ,A,B,st,b,c,rfl,nm,hh,hb,gd,hc,EV,hkn,q⟩⟩:=h
 refine ⟨_,(@cI.h _ _ _ (ao (aO (i:=2) yX.nd (xA tE hr (qv 0)))
  (ao (cM (fC (bW.pt (iZ (dJ (dw (aG (cZ K) (by rfl) aM jT (af (qv 2) (af (jx v7 rfl dz) ak))))) (iD (aT (OS K hr.units) (qv 2) (bU (bY hr) (qv 1) aW) (a_ _)))))) (au (aS fD)) aU)
  (au (aS (LF (aZ mq hr (af (qv 0) (af (qv 1) ak))) (LA (aZ lA hr (af (qv 0) (af (qv 1) ak)))))))))),?_⟩
 refine ⟨_,Z,A.a,A.dx,_,Z,hh.h.oa,Z,⟨⟨n,ρ,A,st,Z,hh.h,fun r hr=>?_⟩⟩⟩
 have g1:=aA hr (.lst (st.own.map V.str))
 have hr1:upd H r (.lst (st.own.map V.str)) r=some (.lst (st.own.map V.str)):=aj
 have gw:=hh.mono g1
 have hb1:=hb.mono g1
 have eo:=gd.rel.own
 show gc 2 (.ref r) _ (upd H r (.lst (st.own.map V.str))) _
 generalize upd H r (.lst (st.own.map V.str))=H1 at *
 rw [eo] at hr1
 refine ⟨false,?_,cV ?_⟩
 . refine ⟨_,Z,_,_,_,_,Z,gy.lst hr1,iB,_,Z,cV ?_⟩
   refine ⟨_,Z,_,Z,B.m,_,Z,cO.k (k:=Sum.inr "owners") hb1.om,_,_, .lst (aC.of hr1) (Gg b.own), .lst (aC.of hb1.oo) (Gg b.own),B8 b.own EV,B8 b.own EV,_,Z,?_,Z⟩
   rw [Wl]
   rfl
 refine ⟨_,Z,_,Z,⟨⟨n,m,ρ,A,B,st,b,c,Z,nm,gw,hb1,gd,hc,EV,by omega,fun ρ2 A2 H2 k kR hk hb2 ea2 o2=>⟨true,Z,qC ?_⟩⟩⟩⟩
 refine ⟨_,Z,_,Z,⟨⟨n,m,ρ2,A2,B,_,b,c,by rw [ea2];rfl,nm,kR,hb2,Xn gd k,hc,EV,by show k+15000*1<=1000000;omega,fun ρ3 A3 H3 k3 oY hk3 Ax XM o3=>?_⟩⟩⟩
 have hk3:k3<=k+15000*1:=hk3
 exact q ρ3 A3 H3 k3 oY (by omega) Ax (XM.trans ea2) (((iT g1).trans o2).trans o3)
abbrev tF:Stmt:=top 61
abbrev qa:List Str:=["_law_owners"]
abbrev Ml:List Str:=qa.append ["_law_hold","_law_owner"]
theorem tG:aJ Ml qa (ay tF):=c8
theorem Jf {T:TC} (F:At K mg "_law_begin" tF f fd) (Mm:Cn P w K mg base 3 "Hold" T.hold ["self"] (O2 T)) (wI:Mn P w K mg base 3 T.hold "sign" rE (O5 T)):Dn P w K mg base 5 "_law_begin" qa (O9 T K):=by
 refine F.oA tG fun cdv A outer s H vs Q E hr h=>?_
 obtain ⟨⟨l,own,n,ρ,rfl,hl,cl,nd,hnm,hle,g,q⟩⟩:=h
 refine ⟨_,(@cI.h _ _ _ (ao (aO (i:=1) tG.nd (Um Mm hr))
  (ao (dS ee rfl (dH K (qv 0)) (aR (i:=2) tG.nd) (au (cW (gF wI hr (qv 1) (af (qv 2) ak)))))
  (au (aS (qv 1)))))),?_⟩
 intro x dx hx hdx hne
 refine ⟨⟨x,dx,ρ,n,Z,aj,(g.alloc hdx).alloc (by rw [av (cu hne)];exact hx),g.none hx,fun ρ1 A H1 ea hh k=>⟨Z,?_⟩⟩⟩
 have F1:Fr n ρ H ρ1 H1:=fun b o e _=>k b o (by rw [av (aI e hx),av (aI e hdx)];exact e) (aI e hx)
 refine ⟨_,Z,l,Z,⟨_,F1.seq hl cl⟩,?_⟩
 refine lQ (K:=K) (xs:=own.map V.str) (fun i σ H'=>∃ρ' A' s2,σ=[some (.ref l),some (.ref x),s2]/\A'.a=x/\HH T n ρ' A' H' ((own.take i).foldl gC hs0)/\Fr n ρ H ρ' H')
  ⟨ρ1,A,none,Z,ea,hh,F1⟩ (fun i σ H' _ hp=>by obtain ⟨_,_,_,_,_,_,f⟩:=hp;exact f.seq hl cl) ?_ ?_
 . rintro i y σ H' hy ⟨ρ',A',s2,rfl,ea',ED,F'⟩
   rw [bJ] at hy
   obtain ⟨o,eo,rfl⟩:=lP.mp hy
   have hi:=(eF.mp eo).1
   have hos:=z7 (own.take i) hs0
   have acu:((own.take i).foldl gC hs0).own=own.take i:=by rw [hos];rfl
   refine ⟨_,Z,x,A'.dx,_,Z,ea'▸ED.h.oa,Z,_,Z,⟨⟨n,ρ',A',_,o,by rw [ea'];rfl,ED,hnm o (bN eo),?_,?_,fun ρ2 A2 H2 h2 e2 F2=>?_⟩⟩⟩
   . rw [acu]
     intro m
     have h2:(own.take (i+1)).Nodup:=nd.sublist (List.take_sublist _ _)
     rw [take_snoc eo] at h2
     exact (List.nodup_append.mp h2).2.2 o m o (fU.mpr rfl) rfl
   . rw [acu,lq]
     omega
   . rw [take_snoc eo,J8]
     exact ⟨ρ2,A2,_,Z,e2.trans ea',h2,F'.trans F2⟩
 rintro σ H' ⟨ρ',A',s2,rfl,ea',ED,F'⟩
 rw [aF,cC] at ED
 have:=q ρ' A' H' ED F'
 rw [ea'] at this
 exact ⟨_,Z,this⟩
abbrev wJ:Stmt:=top 46
abbrev tZ:List Str:=["_law_at_here"]
abbrev RD:List Str:=tZ
theorem NO:aJ RD tZ (ay wJ):=c8
theorem NP (F:At K mg "_law_hot" wJ f fd) (bH:mg "range"=none):Dn P w K mg base 1 "_law_hot" tZ Rj:=by
 refine F.oA NO fun cdv A outer s H vs Q E hr h=>?_
 obtain ⟨⟨n,rfl,q⟩⟩:=h
 refine ⟨_,(@cI.h _ _ _ (au (aS (aD nh (d7 (af fD ak)) (gr ["_law_k","_law_at_here"] [none,some 0] rfl (dU (by rfl) bH (af ah ak)) (fun _ _ _ _=>(aR (i:=0) (show List.Nodup (["_law_k","_law_at_here"] :List Str) from by decide +kernel))) (fun _ _ _ _=>(ud gR (qv 0) (qv 1) (a_ _))) rfl (by rfl)))))),?_⟩
 refine ⟨(iw 1),fun p1 hp1=>?_⟩
 have g1:aE H (upd H p1 (.lst [.bl true])):=aA hp1 _
 have h1:upd H p1 (.lst [.bl true]) p1=some (.lst [.bl true]):=aj
 generalize upd H p1 (.lst [.bl true])=H1 at g1 h1
 refine ⟨10,Z,(by decide),(by decide),fun acc hacc=>?_⟩
 refine QU (n:=(10:Int).toNat) (fun i out H'=>aE H1 H'/\out=((List.range i).map fun k=>V.bl (decide (k=n)))) (by decide) ⟨aA hacc _,Z⟩ ?_ ?_
 . rintro i out H' hi eL ha ⟨g,e⟩
   refine ⟨_,Z,_,Z,Z,ha,g.cF hacc _,?_⟩
   rw [List.range_succ,bL,e]
   congr 1
   show [V.bl (decide (V.int (0+(i:Int))=V.int (n:Int)))]=[V.bl (decide (i=n))]
   congr 2
   exact decide_eq_decide.mpr ⟨fun z=>by have:=V.int.inj z;omega,fun z=>by rw [z];congr 1;omega⟩
 rintro out H' eL ha ⟨g,e⟩
 refine ⟨p1,acc,_,_,Z,Z,g _ _ h1,ha,(by rw [eL,fu];decide),fun p hp=>q p _ (g1.trans (g.trans (aA hp _))) ?_⟩
 rw [aj,e]
 show some (HO.lst (V.bl true::_))=some (HO.lst ((true::(List.range 10).map fun k=>decide (k=n)).map V.bl))
 rw [bD,fF]
 rfl
abbrev yI:Stmt:=top 38
abbrev oZ:List Str:=["_law_parts","_law_name_here"]
abbrev UL:List Str:=oZ.append ["_law_at_here"]
theorem EZ:aJ UL oZ (ay yI):=c8
theorem RE (F:At K mg "_law_at" yI f fd) (bh:mg "len"=none) (bH:mg "range"=none):Dn P w K mg base 1 "_law_at" oZ (Aj K):=by
 refine F.oA EZ fun cdv A outer s H vs Q E hr h=>?_
 obtain ⟨⟨l,us,ws,x,rfl,hl,hW,nd,hle,q,q2⟩⟩:=h
 refine ⟨_,(@cI.h _ _ _ (ao (dS ee rfl (dU (by rfl) bH (af (aG (bV K) (by rfl) bh dG (af (qv 0) ak)) ak)) (aR (i:=2) EZ.nd) (au (cM (aT gR (aH (oS K) (aH (aK K) (qv 0) (qv 2)) ah) (qv 1) (a_ _)) (au (aS (qv 2))) aU)))
  (au (aS (Ez zA ah))))),?_⟩
 have ll:=hW.len
 refine ⟨_,Z,l,_,Z, .inl hl,_,Z,by omega,by omega,?_⟩
 refine fW (lo:=0) (n:=((us.length:Nat):Int).toNat) (fun i σ H'=>H'=H/\(∀r∈ws.take i,r.1≠x)/\∃s2,σ=[some (.ref l),some (.str x),s2]) ⟨Z,(fun _ m=>nomatch m),_,Z⟩ ?_ ?_
 . rintro i σ H' hi ⟨rfl,hn,s2,rfl⟩
   have e0:(0:Int)+(i:Int)=((i:Nat):Int):=by omega
   rw [e0]
   have hio:i<ws.length:=by omega
   have ei:=aX hio
   obtain ⟨a,xs,ea,PY,x0,_⟩:=hW.at_ i _ ei
   refine ⟨_,Z,_,Z,l,_,_,_,Z,Z,hl,aQ ea,PY.ix (i:=0) x0 ?_⟩
   refine ⟨_,Z,Z,_,Z,dm (fun c=>?_) (fun c=>?_)⟩
   . exact ⟨_,Z,q i _ ei (V.str.inj (dO c))⟩
   . refine ⟨Z,fun r hr=>?_,_,Z⟩
     rw [take_snoc ei] at hr
     rcases fZ.mp hr with z|z
     . exact hn r z
     . rw [fU.mp z]
       intro e
       exact c (cg (by rw [e]))
 rintro σ H' ⟨rfl,hn,s2,rfl⟩
 refine ⟨1,Z,q2 fun r hr=>hn r ?_⟩
 rw [zj (by omega)]
 exact hr
abbrev vd:Stmt:=top 37
abbrev rM:List Str:=["_law_script","_law_k","_law_parts"]
abbrev NQ:List Str:=rM.append ["_law_spare","_law_order","_law_rows_here","_law_at_here","_law_way","_law_amount"]
theorem fM:aJ NQ rM (ay vd):=c8
theorem Mp (F:At K mg "_law_rows" vd f fd) (aN:Dn P w K mg base 1 "_law_draw" fj (lS K)) (bh:mg "len"=none) (bH:mg "range"=none) (dz:mg "list"=none) (fQ:mg "sum"=none) (rN:mg "min"=none):Dn P w K mg base 2 "_law_rows" rM (Pj K):=by
 refine F.oA fM fun cdv A outer s H vs Q E hr h=>?_
 obtain ⟨⟨a,l,ns,k,us,ws,rfl,hS,h63,hk0,hk1,hl,hW,nd,hle,hw1,q⟩⟩:=h
 refine ⟨_,(@cI.h _ _ _ (ao (aO (i:=3) fM.nd (aD kO (aG (lT K rfl) (by rfl) fQ xP (af (gr ["_law_part"] [none] rfl (dH K (qv 2)) (fun _ _ _ _=>(aR (i:=0) (show List.Nodup (["_law_part"] :List Str) from by decide +kernel))) (fun _ _ _ _=>(aH (oS K) (qv 0) ah)) rfl (by rfl)) ak)) ah))
  (ao (aO (i:=4) fM.nd (oU (IC rfl) (by rfl) dz v7 (af (Uk (by rfl) bH (af (aG (bV K) (by rfl) bh dG (af (qv 2) ak)) ak)) ak)))
  (ao (fL (aT gR (aZ aN hr (af (qv 0) (af (qv 1) (af ah (af ah ak))))) ah (a_ _)) (au (aO (i:=4) fM.nd (abO K (qv 4) (Ez zA ah)))) aU)
  (ao (aO (i:=5) fM.nd (d7 ak))
  (ao (dS ee rfl (dH K (qv 4)) (aR (i:=6) fM.nd) (ao (aO (i:=7) fM.nd (aZ aN hr (af (qv 0) (af (qv 1) (af (aD bQ ah (aD jn ah (qv 6))) (af ah ak))))))
  (ao (aO (i:=8) fM.nd (aG (TY rfl) (by rfl) rN Qk (af (aH (oS K) (aH (aK K) (qv 2) (qv 6)) ah) (af (qv 3) (af (aD lR ah ah) ak)))))
  (ao (fL (fC (bW.pt (rZ (aT gR (qv 7) ah (a_ _)) (qH (aT ir (qv 8) ah (a_ _)))))) (au (aO (i:=8) fM.nd (aD bQ ah (aZ aN hr (af (qv 0) (af (qv 1) (af (aD bQ ah (aD jn ah (qv 6))) (af (qv 8) ak)))))))) aU)
  (au (fL (fC (bW.pt (rZ (aT ir (qv 7) ah (a_ _)) (qH (aT ir (qv 8) ah (a_ _)))))) (ao (cW (tY xO xK xM gX (qv 5) (af (g_ (af (aH (oS K) (aH (aK K) (qv 2) (qv 6)) ah) (af (qv 8) ak))) ak)))
  (au (aO (i:=3) fM.nd (aD kO (qv 3) (qv 8))))) aU))))))
  (au (aS (qv 5))))))))),?_⟩
 have ll:=hW.len
 refine ⟨_,Z,l,Z,⟨_,hl⟩,fun l0 kq=>?_⟩
 refine iR (J:=uh K l) (n:=us.length) 0 (fun i o H'=>aE H H'/\o=((ws.take i).map (fun r:Row=>r.2)).map V.int) (by omega) ⟨aA kq _,Z⟩ (fun i o H' hi _ hp=>⟨_,_,hp.1.seq hl,aX hi⟩) (fun o H' _ hp=>⟨_,hp.1.seq hl,aP _⟩) ?_ ?_
 . rintro i y o H2 H3 hi eL ha ⟨g,e⟩ ⟨rfl,hy⟩
   have hiw:i<ws.length:=by omega
   have ei:=aX hiw
   obtain ⟨ar,xs,ea,PY,x0,x2⟩:=hW.at_ i _ ei
   have ey:=hy _ (g.seq hl)
   rw [ea] at ey
   cases ey
   refine ⟨_,Z,(g.sq PY).ix (i:=2) x2 ?_⟩
   refine ⟨ha,g.cF kq _,?_⟩
   subst e
   rw [take_snoc ei,bL,bL]
   rfl
 rintro o1 H1 _ ha ⟨g1,e⟩
 rw [ll,cC] at e
 subst e
 refine ⟨l0,ws.map (fun r:Row=>r.2),Z,aC.of ha,_,_,Z,Z,?_⟩
 show gc 3 (.int (bu ws-1)) _ _ _
 refine ⟨_,Z,l,_,Z, .inl (g1.seq hl),_,Z,fun pr hpr=>?_⟩
 refine ⟨pr,ws.length,Z,?_,by omega,fun po hpo=>?_⟩
 . rw [aj,ll]
 have gA:=(aA hpr (.vD 0 ((us.length:Nat):Int))).trans (aA hpo (.lst ((L2.upTo ws.length).map V.int)))
 have gB:=g1.trans gA
 have hord:upd (upd H1 pr (.vD 0 ((us.length:Nat):Int))) po (.lst ((L2.upTo ws.length).map V.int)) po=some (.lst ((L2.upTo ws.length).map V.int)):=aj
 generalize upd (upd H1 pr (.vD 0 ((us.length:Nat):Int))) po (.lst ((L2.upTo ws.length).map V.int))=H2 at *
 have ndo:(L2.upTo ws.length).Nodup:=by
  unfold L2.upTo
  refine List.Pairwise.map _ (fun x y h e=>h (by omega)) List.nodup_range
 have vD:∀x∈L2.upTo ws.length,0<=x/\x<(ws.length:Int):=fun x hx=>by
  unfold L2.upTo at hx
  obtain ⟨i,hi,rfl⟩:=bM.mp hx
  have:=xV.mp hi
  omega
 have lup:(L2.upTo ws.length).length=ws.length:=by unfold L2.upTo;rw [aF,Cm]
 refine ⟨fun σ H3=>aE H H3/\∃(pq:Addr) (os:List Int),σ=[some (.ref a),some (.int k),some (.ref l),some (.int (bu ws-1)),some (.ref pq),none,none,none,none]/\H3 pq=some (.lst (os.map V.int))/\os.Nodup/\os.length=ws.length/\∀x∈os,0<=x/\x<(ws.length:Int),?_,?_⟩
 . refine ⟨_,Z,_,Z,cQ (gB.seq hS) h63 hk0 (by decide) (by decide) (by decide) fun d _ d0 d1=>⟨Z,_,Z,dm (fun c=>?_) (fun c=>?_)⟩⟩
   . refine ⟨_,Z,_,Z,Z,po,_,Z,aC.of hord,fun pz hpz=>?_⟩
     have g3:=aA hpz (.lst ((L2.upTo ws.length).map V.int).reverse)
     exact ⟨gB.trans g3,pz,(L2.upTo ws.length).reverse,Z,by rw [aj,List.map_reverse],List.pairwise_reverse.mpr (List.Pairwise.imp (fun h=>cu h) ndo),by rw [List.length_reverse,lup],fun x hx=>vD x (List.mem_reverse.mp hx)⟩
   . exact ⟨gB,po,L2.upTo ws.length,Z,hord,ndo,lup,vD⟩
 rintro σ H3 ⟨g3,pq,os,rfl,hos,hnd,eL,hrg⟩
 refine ⟨(iw 0),fun z hz=>?_⟩
 have g4:=aA hz (.lst [])
 have hzz:upd H3 z (.lst []) z=some (.lst []):=aj
 have acv:=g4 _ _ hos
 have nz:pq≠z:=fun e=>by rw [e,hz] at hos;cases hos
 have hzH:H z=none:=g3.free hz
 have PV:=g3.trans g4
 show Cq _ _ _ _ (upd H3 z (.lst []))
 generalize upd H3 z (.lst [])=H4 at *
 have w1:ws≠[]->1<=bu ws:=fun hne=>by
  cases ws with
  | nil=>exact absurd rfl hne
  | cons r rs=>
    have h1:=hw1 r cJ
    have h2:=CH (rs:=rs) fun x hx=>hw1 x (cG _ hx)
    rw [show bu (r::rs)=r.2+bu rs from by unfold bu;rw [bD,cU]]
    omega
 refine ⟨_,Z,pq,Z,⟨_,aC.of acv⟩,?_⟩
 refine lQ (K:=K) (xs:=os.map V.int) (fun i σ H'=>aE H H'/\H' pq=some (.lst (os.map V.int))/\∃(zs:List V) (rs:List Row) (sp:Int) (s6 s7 s8:Option V),σ=[some (.ref a),some (.int k),some (.ref l),some (.int sp),some (.ref pq),some (.ref z),s6,s7,s8]/\H' z=some (.lst zs)/\gh H' zs rs/\rs.length<=i/\(rs.map (fun r:Row=>r.1)).Nodup/\
   sp=bu ws-1-bu rs/\(ws≠[]->0<=sp)/\∀r∈rs,1<=r.2/\r.2<=1000000000/\∃j:Nat,((j:Nat):Int)∈os.take i/\∃w,ws[j]?=some w/\w.1=r.1/\r.2<=w.2)
  ⟨PV,acv,[],[],bu ws-1,none,none,none,Z,hzz, .nil,aP _,vB,by show _=bu ws-1-0;omega,fun hne=>by have:=w1 hne;omega,fun r hr=>absurd hr (by simp)⟩ ?_ ?_ ?_
 . rintro i σ H' _ ⟨_,h,_⟩
   exact aC.of h
 . rintro i x σ H5 hx ⟨g5,hq5,zs,rs,sp,s6,s7,s8,rfl,PZ,hR,hrl,XO,pC,RG,C5⟩
   rw [bJ] at hx
   obtain ⟨at',hat,rfl⟩:=lP.mp hx
   have hio:=(eF.mp hat).1
   obtain ⟨t0,t1⟩:=hrg at' (bN hat)
   obtain ⟨jt,hjt⟩:∃jt:Nat,((jt:Nat):Int)=at':=⟨at'.toNat,by omega⟩
   subst hjt
   have hjl:jt<ws.length:=by omega
   have hne:ws≠[] :=fun e=>by rw [e] at hjl;simp at hjl
   have ahs:=RG hne
   have hnot:((jt:Nat):Int)∉os.take i:=fun m=>by
    obtain ⟨j,hj,ej⟩:=List.mem_iff_getElem.mp m
    rw [List.getElem_take] at ej
    rw [lq] at hj
    have e2:=(eF.mp hat).2
    have:=(List.getElem_inj hnd).mp (ej.trans e2.symm)
    omega
   have ej:=aX hjl
   have hwj:=hw1 _ (bN ej)
   generalize ws[jt]=wj at *
   obtain ⟨ar,xs,ea,PY,x0,x2⟩:=hW.at_ jt _ ej
   refine ⟨_,Z,_,Z,_,Z,_,_,Z,Z, .inl ⟨by decide,by decide⟩,_,_,Z,Z,cQ (g5.seq hS) h63 hk0 (by omega) (by omega) (by decide) fun way _ v0 v1=>?_⟩
   refine ⟨_,Z,_,Z,l,_,_,_,Z,Z,g5.seq hl,aQ ea,(g5.sq PY).ix (i:=2) x2 ?_⟩
   refine ⟨_,Z,_,_,Z,Z,⟨by decide,by decide,by decide⟩,_,_,_,Z,?_⟩
   obtain ⟨m1,m2,m3⟩:=YS wj.2 sp ((10:Int) ^ (9:Int).toNat)
   have m0:0<=uC wj.2 sp ((10:Int) ^ (9:Int).toNat):=YT (by omega) ahs (by decide)
   have m3:uC wj.2 sp ((10:Int) ^ (9:Int).toNat)<=1000000000:=m3
   generalize uC wj.2 sp ((10:Int) ^ (9:Int).toNat)=m at *
   refine ⟨fun σ H6=>H5=H6/\∃m:Int,0<=m/\m<=sp/\m<=wj.2/\m<=1000000000/\σ=[some (.ref a),some (.int k),some (.ref l),some (.int sp),some (.ref pq),some (.ref z),some (.int (jt:Int)),some (.int way),some (.int m)],?_,?_⟩
   . refine ⟨decide (way=2/\0<m),?_,?_⟩
     . refine ⟨_,Z,Z,_,Z,?_⟩
       by_cases h1:way=2
       . rw [cg (by rw [h1] :V.int way=V.int 2)]
         refine qC ⟨_,Z,_,_,Z,Z,_,Z,?_,Z⟩
         by_cases h2:0<m
         . rw [cg h2,cg ⟨h1,h2⟩]
         . rw [d_ h2,d_ fun z=>h2 z.2]
       . rw [d_ (fun z=>h1 (V.int.inj z))]
         exact cV ⟨(d_ fun z=>h1 z.1).symm,Z⟩
     refine dm (fun c=>?_) (fun c=>?_)
     . obtain ⟨_,c2⟩:=dO c
       refine ⟨_,Z,_,Z,_,Z,_,_,Z,Z, .inl ⟨by decide,by decide⟩,_,_,Z,Z,_,Z,cQ (g5.seq hS) h63 hk0 (by omega) (by omega) c2 fun d _ d0 d1=>⟨_,_,Z,Z,Z,1+d,by omega,by omega,by omega,by omega,Z⟩⟩
     . exact ⟨Z,m,m0,m2,m1,m3,Z⟩
   rintro σ H6 ⟨rfl,o,o0,o1,o2,o3,rfl⟩
   have grow:∀r∈rs,1<=r.2/\r.2<=1000000000/\∃j:Nat,((j:Nat):Int)∈os.take (i+1)/\∃w,ws[j]?=some w/\w.1=r.1/\r.2<=w.2:=fun r hr=>by
    obtain ⟨a1,a2,j,a3,a4⟩:=C5 r hr
    exact ⟨a1,a2,j,by rw [take_snoc hat];exact Fw _ a3,a4⟩
   refine ⟨fun σ H6=>aE H H6/\H6 pq=some (.lst (os.map V.int))/\∃(zs:List V) (rs:List Row) (sp:Int) (s6 s7 s8:Option V),σ=[some (.ref a),some (.int k),some (.ref l),some (.int sp),some (.ref pq),some (.ref z),s6,s7,s8]/\H6 z=some (.lst zs)/\gh H6 zs rs/\rs.length<=i+1/\(rs.map (fun r:Row=>r.1)).Nodup/\
    sp=bu ws-1-bu rs/\(ws≠[]->0<=sp)/\∀r∈rs,1<=r.2/\r.2<=1000000000/\∃j:Nat,((j:Nat):Int)∈os.take (i+1)/\∃w,ws[j]?=some w/\w.1=r.1/\r.2<=w.2,?_,fun _ _ h=>h⟩
   refine ⟨decide (0<way/\0<o),?_,?_⟩
   . refine ⟨_,Z,_,_,Z,Z,_,Z,?_⟩
     by_cases h1:0<way
     . rw [cg h1]
       refine qC ⟨_,Z,_,_,Z,Z,_,Z,?_,Z⟩
       by_cases h2:0<o
       . rw [cg h2,cg ⟨h1,h2⟩]
       . rw [d_ h2,d_ fun z=>h2 z.2]
     . rw [d_ h1]
       exact cV ⟨(d_ fun z=>h1 z.1).symm,Z⟩
   refine dm (fun c=>?_) (fun c=>?_)
   . obtain ⟨_,c2⟩:=dO c
     refine ⟨_,Z, .inl ⟨Z,_,aC.of PZ⟩,_,Z,_,Z,l,_,_,_,Z,Z,g5.seq hl,aQ ea,(g5.sq PY).ix (i:=0) x0 ?_⟩
     refine ⟨_,Z,(iw 2),fun p hp=>?_⟩
     have g6:=aA hp (z8 (wj.1,o))
     have hz6:=g6 _ _ PZ
     have hq6:=g6 _ _ hq5
     have PJ:upd H5 p (z8 (wj.1,o)) p=some (z8 (wj.1,o)):=aj
     have aht:=hR.length
     show pB _ (upd H5 p (z8 (wj.1,o))) _
     generalize upd H5 p (z8 (wj.1,o))=H6 at *
     refine ⟨z,_,_,Z,Z,hz6,by rw [aht];exact eY (by omega),?_⟩
     have np:p≠z:=fun e=>by rw [e,PZ] at hp;cases hp
     have tu:∀b ys,H6 b=some (.tup ys)->upd H6 z (.lst (zs++[.ref p])) b=some (.tup ys):=kW (.inr ⟨_,hz6,Z⟩)
     refine ⟨_,Z,_,Z,_,_,Z,Z,(g5.trans g6).cF hzH _,by rw [av nz];exact hq6,zs++[.ref p],rs++[(wj.1,o)],sp-o,_,_,_,Z,aj,((hR.mono g6.tups).snoc PJ).mono tu,by rw [di];show rs.length+1<=i+1;omega,?_,?_,fun _=>by omega,?_⟩
     . rw [bL]
       refine oM XO fun hm=>?_
       obtain ⟨r,hr,er⟩:=bM.mp hm
       obtain ⟨_,_,j,hj,w,acy,e1,_⟩:=C5 r hr
       have hj2:j<ws.length:=(eF.mp acy).1
       have r1:(ws.map (fun r:Row=>r.1))[j]?=some w.1:=by rw [bJ,acy];rfl
       have r2:(ws.map (fun r:Row=>r.1))[jt]?=some wj.1:=by rw [bJ,ej];rfl
       have er:r.1=wj.1:=er
       have:j=jt:=(J9 (by rw [aF];exact hj2) nd).mp (r1.trans (by rw [e1,er];exact r2.symm))
       rw [this] at hj
       exact hnot hj
     . rw [show bu (rs++[(wj.1,o)])=bu rs+o from by unfold bu;rw [bL,List.sum_append];simp]
       omega
     . intro r hr
       rcases fZ.mp hr with h1|h1
       . exact grow r h1
       . rw [fU.mp h1]
         exact ⟨by show 1<=o;omega,o3,jt,by rw [take_snoc hat];exact jE _ (fU.mpr rfl),wj,ej,Z,o2⟩
   . exact ⟨g5,hq5,zs,rs,sp,_,_,_,Z,PZ,hR,by omega,XO,pC,RG,grow⟩
 rintro σ H5 ⟨g5,hq5,zs,rs,sp,s6,s7,s8,rfl,PZ,hR,hrl,XO,pC,RG,C5⟩
 rw [aF,eL] at hrl
 refine ⟨_,Z,q z zs rs H5 g5 hzH PZ hR ⟨XO,fun r hr=>?_,?_,hrl⟩⟩
 . obtain ⟨a1,a2,j,_,w,hw,e1,e2⟩:=C5 r hr
   exact ⟨a1,a2,w,bN hw,e1,e2⟩
 . by_cases c:ws=[]
   . right
     rw [c] at hrl
     exact List.length_eq_zero_iff.mp (by simpa using hrl)
   . left
     have:=RG c
     omega
abbrev vf:Stmt:=top 39
abbrev rO:List Str:=["_law_model_here","_law_amounts","_law_seat_here","_law_award"]
abbrev NR:List Str:=rO.append ["_law_parts","_law_whole","_law_kept","_law_given","_law_at_here","_law_k"]
theorem iV:aJ NR rO (ay vf):=c8
theorem Mq (F:At K mg "_law_bear" vf f fd) (bh:mg "len"=none) (bH:mg "range"=none) (fQ:mg "sum"=none):Dn P w K mg base 1 "_law_bear" rO (TZ K):=by
 refine F.oA iV fun cdv A outer s H vs Q E hr h=>?_
 obtain ⟨⟨n,ρ,B,b,l,as,seat,aw,rfl,G,h,wf,hl,cl,ok,q⟩⟩:=h
 refine ⟨_,(@cI.h _ _ _ (ao (aO (i:=4) iV.nd (bU (bY hr) (qv 0) aW))
  (ao (aO (i:=5) iV.nd (aG (lT K rfl) (by rfl) fQ xP (af (gr ["_law_part"] [none] rfl (dH K (qv 4)) (fun _ _ _ _=>(aR (i:=0) (show List.Nodup (["_law_part"] :List Str) from by decide +kernel))) (fun _ _ _ _=>(aH (aK K) (qv 0) ah)) rfl (by rfl)) ak)))
  (ao (aO (i:=6) iV.nd (aD kO (aD kO (qv 5) (qv 3)) (aG (lT K rfl) (by rfl) fQ xP (af (qv 1) ak))))
  (ao (aO (i:=7) iV.nd (d7 ak))
  (ao (dS ee rfl (dU (by rfl) bH (af (aG (bV K) (by rfl) bh dG (af (bU (bY hr) (qv 0) aW) ak)) ak)) (aR (i:=8) iV.nd) (au (cW (tY xO xK xM gX (qv 7) (af (aG (lT K rfl) (by rfl) fQ xP (af (gr ["_law_k","_law_parts","_law_at_here","_law_amounts"] [none,some 4,some 8,some 1] rfl (dU (by rfl) bH (af (aG (bV K) (by rfl) bh dG (af (qv 4) ak)) ak)) (fun _ _ _ _=>(aR (i:=0) (show List.Nodup (["_law_k","_law_parts","_law_at_here","_law_amounts"] :List Str) from by decide +kernel))) (fun _ _ _ _=>(aD jV (aH (aK K) (aH (aK K) (aH (aK K) (qv 1) (qv 0)) ah) (qv 2)) (aH (aK K) (qv 3) (qv 0)))) rfl (by rfl)) ak)) ak)))))
  (ao (fL (aT ir (qv 3) ah (a_ _)) (au (rX (aD bQ (aH (aK K) (qv 7) (qv 2)) (aD jV (qv 3) (bU (bY hr) (qv 0) aW))) (rY (qv 7) (qv 2) set_list))) aU)
  (ao (dS ee rfl (dU (by rfl) bH (af (aG (bV K) (by rfl) bh dG (af (qv 4) ak)) ak)) (aR (i:=9) iV.nd) (ao (rX (gr ["_law_at_here","_law_parts","_law_k","_law_kept","_law_given"] [none,some 4,some 9,some 6,some 7] rfl (dU (by rfl) bH (af (aG (bV K) (by rfl) bh dG (af (qv 7) ak)) ak)) (fun _ _ _ _=>(aR (i:=0) (show List.Nodup (["_law_at_here","_law_parts","_law_k","_law_kept","_law_given"] :List Str) from by decide +kernel))) (fun _ _ _ _=>(aD bQ (aD jV (aH (aK K) (aH (aK K) (aH (aK K) (qv 1) (qv 2)) ah) (qv 0)) (qv 3)) (aH (aK K) (qv 4) (qv 0)))) rfl (by rfl)) (rY (aH (aK K) (qv 4) (qv 9)) ah set_list))
  (au (rX (aD kO (aH (aK K) (aH (aK K) (qv 4) (qv 9)) ah) (aH (aK K) (qv 1) (qv 9))) (rY (aH (aK K) (qv 4) (qv 9)) ah set_list)))))
  (ao (oV (bY hr) (qv 0) aW (aD jV (bU (bY hr) (qv 0) aW) (qv 5)) rfl)
  (au (oV (bY hr) (qv 0) aW (CO ["_law_part"] [none] rfl (dH K (qv 4)) (fun _ _ _ _=>(aR (i:=0) (show List.Nodup (["_law_part"] :List Str) from by decide +kernel))) (fun _ _ _ _=>(qv 0)) (fun _ _ _ _=>(aT ir (aH (aK K) (qv 0) ah) ah (a_ _))) rfl (by rfl)) rfl))))))))))),?_⟩
 have pl:=wf.pl
 have tQ:(B.qs.map fun q=>V.ref q.1).length=b.ai.length:=by rw [aF];exact h.ql
 refine ⟨_,Z,B.m,_,Z,cO.k (k:=Sum.inr "parts") h.om,?_⟩
 refine ⟨_,Z,B.lp,Z,⟨_,aC.of h.op⟩,fun l0 kq=>?_⟩
 refine iR (J:=uh K B.lp) (n:=b.ai.length) 0 (fun i o H'=>aE H H'/\o=((b.ai.take i).map (fun p:BP=>p.wo)).map V.int) (by omega) ⟨aA kq _,Z⟩ (fun i o H' hi _ hp=>⟨_,_,aC.of (hp.1 _ _ h.op),aX (by rw [tQ];exact hi)⟩) (fun o H' _ hp=>⟨_,aC.of (hp.1 _ _ h.op),by rw [tQ];exact aP _⟩) ?_ ?_
 . rintro i y o H2 H3 hi eL ha ⟨g,e⟩ ⟨rfl,hy⟩
   have ei:=aX hi
   obtain ⟨qq,eq,k1,k2,_,_⟩:=h.find ei
   have ey:=hy _ (aC.of (g _ _ h.op))
   rw [bJ,eq] at ey
   cases ey
   refine ⟨_,Z,qq.1,_,_,_,Z,Z,aC.of (g _ _ k1),aQ (j:=2) rfl,ha,g.cF kq _,?_⟩
   subst e
   rw [take_snoc ei,bL,bL]
   rfl
 rintro o1 H1 _ ha ⟨g1,e⟩
 rw [cC] at e
 subst e
 refine ⟨l0,b.ai.map (fun p:BP=>p.wo),Z,aC.of ha,?_⟩
 show gc 5 (.int (br b)) _ _ _
 refine ⟨_,Z,_,Z,_,_,Z,Z,_,Z,l,as,Z,g1.seq hl,_,_,Z,Z,?_⟩
 show gc 6 (.int (br b-aw-as.sum)) _ _ _
 generalize ekp:br b-aw-as.sum=kept at *
 have hkp:0<kept:=by rw [<-ekp];exact ok.kept
 have zw:=ok.big
 have as0:0<=as.sum:=by
  cases has:as with
  | nil=>exact jL _
  | cons a l=>exact Int.le_trans (ok.a0 a (by rw [has];exact cJ)) (by rw [<-has];exact vL ok.a0 (by rw [has];exact cJ))
 have zk:Jm.Sz 60 kept:=zw.of_le (by have:=ok.B0;omega)
 have za:∀a∈as,Jm.Sz 60 a:=fun a hm=>zw.of_le (by have:=ok.a0 a hm;have:=vL ok.a0 hm;have:=ok.B0;omega)
 have zaw:Jm.Sz 60 aw:=zw.of_le (by have:=ok.B0;omega)
 have zt:∀p∈b.ai,∀t∈p.tops,Jm.Sz 7000 t:=fun p hp t ht=>Jm.Sz.pF (by have:=wf.t0 p hp t ht;have:=wf.b1;omega) (wf.t0 p hp t ht).2 wf.bz
 have h1:=h.mono g1
 have hl1:=g1.seq hl
 refine ⟨(iw 0),fun gv hgv=>?_⟩
 have g2:=aA hgv (.lst [])
 have Xj:upd H1 gv (.lst []) gv=some (.lst []):=aj
 have WG:H gv=none:=g1.free hgv
 have UA:=g1.trans g2
 show Cq _ _ _ _ (upd H1 gv (.lst []))
 generalize upd H1 gv (.lst [])=H2 at *
 have h2:=h.mono UA
 have ol:=wf.ol
 have oml:(b.own.map V.str).length=b.own.length:=aF _
 refine ⟨_,Z,B.m,_,Z,cO.k (k:=Sum.inr "owners") h2.om,B.lo,_,Z, .inl (aC.of h2.oo),_,Z,by omega,by omega,?_⟩
 refine fW (lo:=0) (n:=(((b.own.map V.str).length:Nat):Int).toNat) (fun i σ H'=>aE H H'/\H' gv=some (.lst (((List.range i).map (iM b.ai as)).map V.int))/\∃s8,σ=[some (.ref B.m),some (.ref l),some (.int (seat:Int)),some (.int aw),some (.ref B.lp),some (.int (br b)),some (.int kept),some (.ref gv),s8,none])
  ⟨UA,Xj,_,Z⟩ ?_ ?_
 . rintro i σ H3 hi ⟨g3,E1,s8,rfl⟩
   have e0:(0:Int)+(i:Int)=((i:Nat):Int):=by omega
   rw [e0]
   have hio:i<b.own.length:=by omega
   refine ⟨_,Z, .inl ⟨Z,_,aC.of E1⟩,_,Z,B.lp,_,Z, .inl (aC.of (g3 _ _ h.op)),_,Z,by omega,by omega,fun c hc=>?_⟩
   refine iR (J:=Hj 0 _) (n:=b.ai.length) 0 (fun j o H'=>aE H3 H'/\o=(List.zipWith (fun (p:BP) (a:Int)=>p.tops.getD i 0*a) (b.ai.take j) (as.take j)).map V.int) (by omega) ⟨aA hc _,Z⟩ (fun j o H' hj _ _=>by show j<(((B.qs.map fun q=>V.ref q.1).length:Nat):Int).toNat;omega) (fun o H' _ _=>by show (((B.qs.map fun q=>V.ref q.1).length:Nat):Int).toNat<=b.ai.length;omega) ?_ ?_
   . rintro j x o H4 H5 hj eL UC ⟨g4,e4⟩ ⟨rfl,rfl⟩
     have e0:(0:Int)+(j:Int)=((j:Nat):Int):=by omega
     rw [e0]
     have ej:=aX hj
     have hja:j<as.length:=by rw [ok.len];exact hj
     have ea:=aX hja
     obtain ⟨qq,eq,k1,k2,_,_⟩:=h.find ej
     have gg:=g3.trans g4
     have hti:i<(b.ai[j]).tops.length:=by rw [wf.tl _ (bN ej)];exact hio
     have et:=aX hti
     have eD:(b.ai[j]).tops.getD i 0=(b.ai[j]).tops[i] :=by rw [i_,et];rfl
     refine ⟨_,Z,_,Z,B.lp,_,_,_,Z,Z,aC.of (gg _ _ h.op),aQ (by rw [bJ,eq];rfl),qq.1,_,_,_,Z,Z,aC.of (gg _ _ k1),aQ (j:=4) rfl,_,Z,qq.2,_,_,_,Z,Z,aC.of (gg _ _ k2),aQ (by rw [bJ,et];rfl),?_⟩
     refine ⟨_,Z,_,Z,l,_,_,_,Z,Z,gg.seq hl,aQ (by rw [bJ,ea];rfl),_,_,Z,Z,jc (zt _ (bN ej) _ (bN et)) (za _ (bN ea)),UC,g4.cF hc _,?_⟩
     rw [Lh ej ea,e4,bL,eD]
     rfl
   rintro o H4 _ UC ⟨g4,e4⟩
   have e5:List.zipWith (fun (p:BP) (a:Int)=>p.tops.getD i 0*a) (b.ai.take b.ai.length) (as.take b.ai.length)=List.zipWith (fun (p:BP) (a:Int)=>p.tops.getD i 0*a) b.ai as:=by rw [cC,<-ok.len,cC]
   rw [e5] at e4
   subst e4
   refine ⟨c,_,Z,aC.of UC,gv,_,_,Z,Z,g4 _ _ E1,by rw [aF,aF,Cm];exact eY (by omega),(g3.trans g4).cF WG _,?_,_,Z⟩
   rw [aj,List.range_succ,bL,bL]
   rfl
 rintro σ H3 ⟨g3,E1,s8,rfl⟩
 rw [show (((b.own.map V.str).length:Nat):Int).toNat=b.own.length from by omega] at E1
 have E1:H3 gv=some (.lst ((gi b as).map V.int)):=E1
 have h3:=h.mono g3
 have gl:=mK b as
 refine ⟨fun σ H'=>aE H H'/\H' gv=some (.lst ((gZ b as seat aw).map V.int))/\σ=[some (.ref B.m),some (.ref l),some (.int (seat:Int)),some (.int aw),some (.ref B.lp),some (.int (br b)),some (.int kept),some (.ref gv),s8,none],?_,?_⟩
 . refine ⟨_,Z,_,_,Z,Z,_,Z,dm (fun c=>?_) (fun c=>?_)⟩
   . have c':0<aw:=dO c
     have hsl:seat<(gi b as).length:=by rw [gl];exact ok.seat
     have es:=aX hsl
     have eD:(gi b as).getD seat 0=(gi b as)[seat] :=by rw [i_,es];rfl
     refine ⟨_,Z,_,Z,gv,_,_,_,Z,Z,aC.of E1,aQ (by rw [bJ,es];rfl),_,Z,_,Z,B.m,_,Z,cO.k (k:=Sum.inr "bottom") h3.om,_,_,Z,Z,jc zaw wf.bz,_,_,Z,Z,_,Z,_,Z,gv,_,_,_,Z,Z,E1,by rw [aF];exact Ba hsl,g3.cF WG _,?_,Z⟩
     rw [aj]
     unfold gZ
     rw [aB c',xZ,eD]
   . have c':¬ 0<aw:=o6 (mT.mpr c)
     refine ⟨g3,?_,Z⟩
     unfold gZ
     rw [az c']
     exact E1
 rintro σ H4 ⟨g4,hg4,rfl⟩
 have gvl:=yu b as seat aw
 generalize egv:gZ b as seat aw=given at *
 have h4:=h.mono g4
 have gmn:(given.map V.int).length=b.own.length:=by rw [aF];exact gvl
 have cgv:ρ gv=none:=G.none WG
 have bl:(dh b as seat aw).length=b.ai.length:=vK ok.len
 refine ⟨_,Z,B.lp,_,Z, .inl (aC.of h4.op),_,Z,by omega,by omega,?_⟩
 refine fW (lo:=0) (n:=(((B.qs.map fun q=>V.ref q.1).length:Nat):Int).toNat) (fun i σ H'=>∃ρ' B' s8 s9,σ=[some (.ref B.m),some (.ref l),some (.int (seat:Int)),some (.int aw),some (.ref B.lp),some (.int (br b)),some (.int kept),some (.ref gv),s8,s9]/\Gh ρ' H'/\bg n ρ' B' H' { b with ai:=(dh b as seat aw).take i++b.ai.drop i }/\B'.m=B.m/\B'.lp=B.lp/\Fr n ρ H ρ' H'/\H' gv=some (.lst (given.map V.int))/\ρ' gv=none)
  ⟨ρ,B,_,_,Z,G.same g4,h4,Z,Z,Fr.of_same g4,hg4,cgv⟩ ?_ ?_
 . rintro i σ H5 hi ⟨ρ5,B5,s8,s9,rfl,G5,h5,xH,Cd,F5,P0,cg5⟩
   have e0:(0:Int)+(i:Int)=((i:Nat):Int):=by omega
   rw [e0]
   have yW:i<b.ai.length:=by omega
   have ei:=aX yW
   have i9:=bN ei
   have hia:i<as.length:=by rw [ok.len];exact yW
   have ea:=aX hia
   have em:((dh b as seat aw).take i++b.ai.drop i)[i]?=some b.ai[i] :=YU (by omega) ei
   have ebp:=Lg (seat:=seat) (aw:=aw) ei ea
   rw [egv,ekp] at ebp
   have Xz:=wf.tl _ i9
   have Iw:=zt _ i9
   generalize b.ai[i]=p at *
   have hza:=za _ (bN ea)
   generalize as[i]=a at *
   obtain ⟨qq,eq,k1,k2,c1,c2⟩:=h5.find em
   have op5:H5 B.lp=some (.lst (B5.qs.map fun q=>V.ref q.1)):=by rw [<-Cd];exact h5.op
   have E2:(B5.qs.map fun q=>V.ref q.1)[i]?=some (.ref qq.1):=by rw [bJ,eq];rfl
   refine ⟨_,Z,gv,_,Z, .inl (aC.of P0),_,Z,by omega,by omega,fun t1 ht1=>?_⟩
   refine iR (J:=Hj 0 _) (n:=b.own.length) 0 (fun j o H'=>aE H5 H'/\o=(List.zipWith (fun t g=>t*kept+g) (p.tops.take j) (given.take j)).map V.int) (by omega) ⟨aA ht1 _,Z⟩ (fun j o H' hj _ _=>by show j<(((given.map V.int).length:Nat):Int).toNat;omega) (fun o H' _ _=>by show (((given.map V.int).length:Nat):Int).toNat<=b.own.length;omega) ?_ ?_
   . rintro j x o H6 H7 hj eL Ce ⟨g6,e6⟩ ⟨rfl,rfl⟩
     have e0:(0:Int)+(j:Int)=((j:Nat):Int):=by omega
     rw [e0]
     have et:=aX (show j<p.tops.length by rw [Xz];exact hj)
     have eg:=aX (show j<given.length by rw [gvl];exact hj)
     refine ⟨_,Z,_,Z,B.lp,_,_,_,Z,Z,aC.of (g6 _ _ op5),aQ E2,qq.1,_,_,_,Z,Z,aC.of (g6 _ _ k1),aQ (j:=4) rfl,_,Z,qq.2,_,_,_,Z,Z,aC.of (g6 _ _ k2),aQ (by rw [bJ,et];rfl),?_⟩
     refine ⟨_,Z,_,_,Z,Z,jc (Iw _ (bN et)) zk,_,Z,_,Z,gv,_,_,_,Z,Z,aC.of (g6 _ _ P0),aQ (by rw [bJ,eg];rfl),_,_,Z,Z,Ce,g6.cF ht1 _,?_⟩
     rw [oQ _ et eg,e6,bL]
     rfl
   rintro o H6 _ Ce ⟨g6,e6⟩
   rw [show p.tops.take b.own.length=p.tops from by rw [<-Xz];exact cC,show given.take b.own.length=given from by rw [<-gvl];exact cC] at e6
   subst e6
   have h6:=h5.mono g6
   have G6:=G5.same g6
   have ct1:ρ5 t1=none:=G5.none ht1
   have h7:bg n (cK ρ5 t1 (n,24,p.nm)) B5 H6 { b with ai:=(dh b as seat aw).take i++b.ai.drop i }:=h6.col ct1
   have G7:Gh (cK ρ5 t1 (n,24,p.nm)) H6:=G6.color Ce rfl
   have F7:Fr n ρ H (cK ρ5 t1 (n,24,p.nm)) H6:=F5.trans (Fr.color ht1 g6)
   have ct:cK ρ5 t1 (n,24,p.nm) t1=some (n,24,p.nm):=dM
   have cg7:cK ρ5 t1 (n,24,p.nm) gv=none:=by rw [cy (fun z=>by rw [z] at P0;rw [P0] at ht1;cases ht1)];exact cg5
   have hg6:=g6 _ _ P0
   have yY:=g6 _ _ op5
   have k16:=g6 _ _ k1
   have UM:cK ρ5 t1 (n,24,p.nm) qq.1=some (n,23,p.nm):=by rw [cy (aI k1 ht1)];exact c1
   generalize cK ρ5 t1 (n,24,p.nm)=ρ7 at *
   have ndm:(((dh b as seat aw).take i++b.ai.drop i).map (fun p:BP=>p.nm)).Nodup:=by rw [T3 ok.len];exact wf.nd
   have nqg:gv≠qq.1:=fun z=>by rw [z,UM] at cg7;cases cg7
   generalize eT:List.zipWith (fun t g=>t*kept+g) p.tops given=T at *
   refine ⟨_,Z,_,Z,B.lp,_,_,_,Z,Z,aC.of yY,aQ E2,qq.1,_,_,4,Z,Z,k16,Z,?_⟩
   have h8:=h7.ux G7 (p1:={ p with tops:=T }) (t1:=t1) em eq rfl ndm Ce ct
   have G8:=G7.wr (a:=qq.1) (o:=kQ { p with tops:=T } t1) rfl
   have F8:=F7.trans (Fr.write (o:=kQ { p with tops:=T } t1) UM)
   have k18:upd H6 qq.1 (kQ { p with tops:=T } t1) qq.1=some (kQ { p with tops:=T } t1):=aj
   have hg8:upd H6 qq.1 (kQ { p with tops:=T } t1) gv=some (.lst (given.map V.int)):=by rw [av nqg];exact hg6
   have nlp:B.lp≠qq.1:=fun z=>by
    have:=h7.cp
    rw [Cd,z,UM] at this
    cases this
   have op8:upd H6 qq.1 (kQ { p with tops:=T } t1) B.lp=some (.lst (B5.qs.map fun q=>V.ref q.1)):=by rw [av nlp];exact yY
   have ntq:t1≠qq.1:=fun z=>by rw [z,UM] at ct;cases ct
   have ht8:upd H6 qq.1 (kQ { p with tops:=T } t1) t1=some (.lst (T.map V.int)):=by rw [av ntq];exact Ce
   generalize hH8:upd H6 qq.1 (HO.lst _)=H8
   have acD:upd H6 qq.1 (kQ { p with tops:=T } t1)=H8:=hH8
   rw [acD] at h8 G8 F8 k18 hg8 op8 ht8
   clear hH8 acD
   refine ⟨_,Z,_,Z,B.lp,_,_,_,Z,Z,aC.of op8,aQ E2,qq.1,_,_,_,Z,Z,aC.of k18,aQ (j:=2) rfl,?_⟩
   refine ⟨_,Z,_,Z,l,_,_,_,Z,Z,F8.seq hl cl,aQ (by rw [bJ,ea];rfl),_,_,Z,Z,?_⟩
   refine ⟨_,Z,_,Z,B.lp,_,_,_,Z,Z,aC.of op8,aQ E2,qq.1,_,_,2,Z,Z,k18,Z,?_⟩
   have hiq:i<B5.qs.length:=(eF.mp eq).1
   have him:i<((dh b as seat aw).take i++b.ai.drop i).length:=(eF.mp em).1
   have h9:=h8.ux G8 (i:=i) (p0:={ p with tops:=T }) (p1:=mY given kept p a) (q0:=(qq.1,t1)) (t1:=t1) (ue him) (ue hiq) rfl (by
    show ((((dh b as seat aw).take i++b.ai.drop i).set i { p with tops:=T }).map (fun p:BP=>p.nm)).Nodup
    rw [xZ,vJ (by rw [bJ,em];rfl)]
    exact ndm) (by show H8 t1=some (.lst ((List.zipWith (fun t g=>t*kept+g) p.tops given).map V.int));rw [eT];exact ht8) ct
   have e9:(((dh b as seat aw).take i++b.ai.drop i).set i { p with tops:=T }).set i (mY given kept p a)=(dh b as seat aw).take (i+1)++b.ai.drop (i+1):=by rw [vC];exact YV ebp yW
   have h9':bg n ρ7 { B5 with qs:=(B5.qs.set i (qq.1,t1)).set i (qq.1,t1) } (upd H8 qq.1 (kQ (mY given kept p a) t1)) { b with ai:=(((dh b as seat aw).take i++b.ai.drop i).set i { p with tops:=T }).set i (mY given kept p a) }:=h9
   rw [e9] at h9'
   exact ⟨ρ7,{ B5 with qs:=(B5.qs.set i (qq.1,t1)).set i (qq.1,t1) },_,_,Z,G8.wr rfl,h9',xH,Cd,F8.trans (Fr.write UM),by rw [av nqg];exact hg8,cg7⟩
 rintro σ H5 ⟨ρ5,B5,s8,s9,rfl,G5,h5,xH,Cd,F5,P0,cg5⟩
 rw [show (((B.qs.map fun q=>V.ref q.1).length:Nat):Int).toNat=b.ai.length from by omega,show (dh b as seat aw).take b.ai.length=dh b as seat aw from by rw [<-bl];exact cC,Dr,qZ] at h5
 obtain ⟨m5,UN,lp5,UO,UP,Ay⟩:=B5
 have xH:m5=B.m:=xH
 have Cd:lp5=B.lp:=Cd
 subst xH Cd
 refine ⟨_,Z,B.m,_,Z,cO.k (k:=Sum.inr "bottom") h5.om,_,Z,_,_,Z,Z,jc wf.bz zw,_,Z,B.m,_,Z,sj.k (k:=Sum.inr "bottom") h5.om (by show 5<sizeLine;decide),?_⟩
 rw [T4]
 have h6:=h5.YQ G5 (b.bot*br b)
 have G6:=G5.wr (a:=B.m) (o:= .dK (fB ⟨B.m,UN,B.lp,UO,UP,Ay⟩ (b.bot*br b))) rfl
 have F6:=F5.trans (Fr.write (o:= .dK (fB ⟨B.m,UN,B.lp,UO,UP,Ay⟩ (b.bot*br b))) h5.cm)
 generalize hH6:upd H5 B.m (HO.dK _)=H6
 have acE:upd H5 B.m (.dK (fB ⟨B.m,UN,B.lp,UO,UP,Ay⟩ (b.bot*br b)))=H6:=hH6
 have h6:bg n ρ5 ⟨B.m,UN,B.lp,UO,UP,Ay⟩ (upd H5 B.m (.dK (fB ⟨B.m,UN,B.lp,UO,UP,Ay⟩ (b.bot*br b)))) { b with ai:=dh b as seat aw,bot:=b.bot*br b }:=h6
 rw [acE] at h6 G6 F6
 clear hH6 acE
 have E3:Ay.length=(dh b as seat aw).length:=h5.ql
 have UQ:(Ay.map fun q=>V.ref q.1).length=(dh b as seat aw).length:=by rw [aF];exact E3
 have yY:H6 B.lp=some (.lst (Ay.map fun q=>V.ref q.1)):=h6.op
 refine ⟨_,Z,B.lp,Z,⟨_,aC.of yY⟩,fun lp tP=>?_⟩
 refine F0 (J:=uh K B.lp) (n:=(dh b as seat aw).length) 0 (fun i o H'=>aE H6 H'/\o=(jv ((dh b as seat aw).take i) (Ay.take i)).map fun q=>V.ref q.1) (by omega) ⟨aA tP _,Z⟩ (fun i o H' hi _ hp=>⟨_,_,aC.of (hp.1 _ _ yY),aX (by rw [UQ];exact hi)⟩) (fun o H' _ hp=>⟨_,aC.of (hp.1 _ _ yY),by rw [UQ];exact aP _⟩) ?_ ?_
 . rintro i y o H7 H8 hi eL ha ⟨g,e⟩ ⟨rfl,hy⟩
   have ei:=aX hi
   obtain ⟨qq,eq,k1,k2,_,_⟩:=h6.find ei
   have eq:Ay[i]?=some qq:=eq
   have ey:=hy _ (aC.of (g _ _ yY))
   rw [bJ,eq] at ey
   cases ey
   have es:=yw ei eq
   refine ⟨_,Z,qq.1,_,_,_,Z,Z,aC.of (g _ _ k1),aQ (j:=2) rfl,_,_,Z,Z,_,Z,dm (fun c=>?_) (fun c=>?_)⟩
   . rw [aB (dO c)] at es
     refine ⟨_,Z,ha,g.cF tP _,?_⟩
     rw [es,e,bL]
     rfl
   . rw [az (o6 (mT.mpr c))] at es
     exact ⟨ha,g,by rw [es,e,qZ]⟩
 rintro o H7 _ ha ⟨g7,e⟩
 rw [cC,<-E3,cC] at e
 subst e
 have h7:=h6.mono g7
 have G7:=G6.same g7
 have clp:ρ5 lp=none:=G6.none tP
 have h8:=h7.col (t:=22) (x:=⟨#[]⟩) clp
 have G8:Gh (cK ρ5 lp (n,22,⟨#[]⟩)) H7:=G7.color ha rfl
 have F8:Fr n ρ H (cK ρ5 lp (n,22,⟨#[]⟩)) H7:=F6.trans (Fr.color tP g7)
 have h9:=h8.TR G8 (lp:=lp) (qs:=jv (dh b as seat aw) Ay) (ps:=(dh b as seat aw).filter fun p=>decide (0<p.wo)) ha dM (Ac E3) (fun i x y ex ey=>by
  obtain ⟨j,a1,a2⟩:=yv ex ey E3
  exact h8.pt j x y a1 a2)
 refine ⟨_,Z,B.m,_,Z,sj.k (k:=Sum.inr "parts") h7.om (by show 5<sizeLine;decide),?_⟩
 rw [Li]
 exact q _ _ _ (G8.wr rfl) h9 rfl (F8.trans (Fr.write h8.cm))
abbrev mw:Stmt:=top 40
abbrev jR:List Str:=["_law_model_here","_law_rows_here"]
abbrev Bt:List Str:=jR.append ["_law_amounts","_law_name_here","_law_amount"]
theorem jB:aJ Bt jR (ay mw):=c8
theorem Az (F:At K mg "_law_model_cast" mw f fd) (mz:Dn P w K mg base 1 "_law_at" oZ (Xl K)) (wK:Dn P w K mg base 1 "_law_bear" rO (TZ K)):Dn P w K mg base 2 "_law_model_cast" jR (Pk K):=by
 refine F.oA jB fun cdv A outer s H vs Q E hr h=>?_
 obtain ⟨⟨n,ρ,B,b,l,us,rs,rfl,G,h,wf,hl,hR,cl,rb,hle,bo,q⟩⟩:=h
 refine ⟨_,(@cI.h _ _ _ (ao (uc (i:=2) ["_law_part"] [none] jB.nd rfl rfl rfl (dH K (bU (bY hr) (qv 0) aW)) (fun _ _ _ _=>(aR (i:=0) (show List.Nodup (["_law_part"] :List Str) from by decide +kernel))) (fun _ _ _ _=>ah) rfl (by rfl) (by rfl))
  (ao (dS ee rfl (dH K (qv 1)) (jg K (n:=2) rfl (cT (aR (i:=3) jB.nd) (cT (aR (i:=4) jB.nd) jf))) (au (rX (qv 4) (rY (qv 2) (aZ mz hr (af (bU (bY hr) (qv 0) aW) (af (qv 3) ak))) set_list))))
  (au (cW (aZ wK hr (af (qv 0) (af (qv 2) (af ah (af ah ak)))))))))),?_⟩
 have pl:=wf.pl
 have tQ:(B.qs.map fun q=>V.ref q.1).length=b.ai.length:=by rw [aF];exact h.ql
 refine ⟨_,Z,B.m,_,Z,cO.k (k:=Sum.inr "parts") h.om,B.lp,Z,⟨_,aC.of h.op⟩,fun l0 kq=>?_⟩
 refine iR (J:=uh K B.lp) (n:=b.ai.length) 0 (fun i o H'=>aE H H'/\o=((b.ai.take i).map fun _=>(0:Int)).map V.int) (by omega) ⟨aA kq _,Z⟩ (fun i o H' hi _ hp=>⟨_,_,aC.of (hp.1 _ _ h.op),aX (by rw [tQ];exact hi)⟩) (fun o H' _ hp=>⟨_,aC.of (hp.1 _ _ h.op),by rw [tQ];exact aP _⟩) ?_ ?_
 . rintro i y o H2 H3 hi eL ha ⟨g,e⟩ ⟨rfl,hy⟩
   refine ⟨ha,g.cF kq _,?_⟩
   subst e
   rw [take_snoc (aX hi),bL,bL]
   rfl
 rintro o1 H1 _ ha ⟨g1,e⟩
 rw [cC] at e
 subst e
 have Uy:=hR.length
 refine ⟨_,Z,l,Z,⟨us,g1.seq hl⟩,?_⟩
 refine lQ (K:=K) (xs:=us) (fun i σ H'=>aE H H'/\H' l0=some (.lst ((c9 b (rs.take i)).map V.int))/\∃s3 s4,σ=[some (.ref B.m),some (.ref l),some (.ref l0),s3,s4]) ⟨g1,ha,_,_,Z⟩ (fun i σ H' _ hp=>hp.1.seq hl) ?_ ?_
 . rintro i x σ H2 hx ⟨g2,ha2,s3,s4,rfl⟩
   obtain ⟨a,r,rfl,er,har⟩:=hR.get hx
   obtain ⟨r1,j,p,hp,e,le⟩:=rb.row r (bN er)
   have hj:=(eF.mp hp).1
   have hn:r.1∉(rs.take i).map (fun r:Row=>r.1):=by
    rw [AN]
    exact j5 rb.nd (by rw [bJ,er];rfl)
   obtain ⟨s1,s2⟩:=Ek wf.nd hp e hn
   have h2:=h.mono g2
   refine ⟨a,_,Z,cR.of (g2 _ _ har),Z,_,_,Z,_,_,Z,Z,?_⟩
   refine ⟨_,Z,_,Z,_,Z,B.m,_,Z,cO.k (k:=Sum.inr "parts") h2.om,_,Z,⟨⟨B.lp,_,lV b,j,(p.nm,p.wo),by rw [<-e];rfl,aC.of h2.op,h2.nw,?_,by unfold lV;rw [aF];exact pl,by unfold lV;rw [bJ,hp];rfl,?_⟩⟩⟩
   . unfold lV;rw [fF];exact wf.nd
   . refine ⟨l0,_,_,j,Z,Z,ha2,by rw [aF,Ad];exact Ba hj,g2.cF kq _,?_,_,_,Z⟩
     rw [aj,take_snoc er,s1,xZ]
 rintro σ H2 ⟨g2,ha2,s3,s4,rfl⟩
 rw [Uy,cC] at ha2
 refine ⟨_,Z,_,Z,⟨⟨n,ρ,B,b,l0,c9 b rs,0,0,Z,G.same g2,h.mono g2,wf,aC.of ha2,G.none kq,bo,fun ρ' B' H' a1 a2 a3 a4=>q ρ' B' H' a1 a2 a3 ((Fr.of_same g2).trans a4)⟩⟩⟩
abbrev tH:Stmt:=top 36
abbrev qb:List Str:=["_law_script","_law_k","_law_hold","_law_model_here","_law_names_here","_law_many"]
abbrev Mr:List Str:=qb.append ["_law_at_here","_law_owner","_law_worth","_law_weight"]
theorem kU:aJ Mr qb (ay tH):=c8
theorem Jg {T:TC} (F:At K mg "_law_loads" tH f fd) (aN:Dn P w K mg base 1 "_law_draw" fj (lS K)) (kY:Dn P w K mg base 2 "_law_much" ny (DZ K)) (qc:Dn P w K mg base 2 "_law_new_part" lM HZ)
  (wL:Mn P w K mg base 4 T.hold "load" rF (Tj T)) (bh:mg "len"=none) (bH:mg "range"=none):Dn P w K mg base 5 "_law_loads" qb (Pp T K):=by
 refine F.oA kU fun cdv A outer s H vs Q E hr h=>?_
 obtain ⟨⟨n,m,ρ,A,B,st,b,a,ln,ns,k,nms,many,rfl,nm,hh,hb,gd,hS,h63,hk0,hk1,hN,UR,xj,EV,hml,aki,en,ep,ek,q⟩⟩:=h
 refine ⟨_,(@cI.h _ _ _ (au (dS ee rfl (dU (by rfl) bH (af (qv 5) ak)) (aR (i:=6) kU.nd) (ao (aO (i:=7) kU.nd (aH (aK K) (bU (bY hr) (qv 3) aW) (aZ aN hr (af (qv 0) (af (aD bQ (qv 1) (qv 6)) (af ah (af (aG (bV K) (by rfl) bh dG (af (bU (bY hr) (qv 3) aW) ak)) ak)))))))
  (ao (aO (i:=8) kU.nd (aZ kY hr (af (qv 0) (af (aD bQ (qv 1) (qv 6)) (af ah ak)))))
  (ao (aO (i:=9) kU.nd (aZ aN hr (af (qv 0) (af (aD bQ (qv 1) (qv 6)) (af ah (af ah ak))))))
  (ao (cW (gF wL hr (qv 2) (af (aH (aK K) (qv 4) (qv 6)) (af (qv 7) (af (qv 8) (af (qv 9) ak))))))
  (au (cW (aZ qc hr (af (qv 3) (af (aH (aK K) (qv 4) (qv 6)) (af (qv 7) (af (qv 8) (af (qv 9) ak))))))))))))))),?_⟩
 refine ⟨_,Z,_,Z,by omega,by omega,?_⟩
 refine fW (lo:=0) (n:=((many:Nat):Int).toNat) (fun i σ H'=>∃ρ' A' B' st' b' s6 s7 s8 s9,σ=[some (.ref a),some (.int k),some (.ref A.a),some (.ref B.m),some (.ref ln),some (.int (many:Int)),s6,s7,s8,s9]/\HH T n ρ' A' H' st'/\bg m ρ' B' H' b'/\fT 0 st' b'/\A'.a=A.a/\B'.m=B.m/\b'.own=b.own/\b'.ai.length=i/\b'.d8.length=i/\st'.nms=nms.take i/\st'.kn=st.kn/\aE (out ρ H) (out ρ' H'))
  ⟨ρ,A,B,st,b,_,_,_,_,Z,hh,hb,gd,Z,Z,Z,by rw [ep];rfl,by rw [ek];rfl,by rw [en];rfl,Z,aE.refl _⟩ ?_ ?_
 . rintro i σ H1 hi ⟨ρ1,A1,B1,st1,b1,s6,s7,s8,s9,rfl,gw,hb1,sf,AA,vX,Cf,XQ,ekl,XR,ekn,o1⟩
   have e0:(0:Int)+(i:Int)=((i:Nat):Int):=by omega
   rw [e0]
   have him:i<many:=by omega
   have hin:i<nms.length:=by omega
   have ex:=aX hin
   have exm:=bN ex
   have Er:=xj _ exm
   have hxn:nms[i]∉nms.take i:=j5 UR ex
   generalize nms[i]=x at *
   have xG:=hS _ _ o1
   have hN1:=hN _ _ o1
   have omH:H1 B.m=some (.dK (fB B1 b1.bot)):=by rw [<-vX];exact hb1.om
   have ol1:(b1.own.map V.str).length=b1.own.length:=aF _
   have ow0:=sf.own
   refine ⟨_,Z,B.m,_,Z,cO.k (k:=Sum.inr "owners") omH,_,Z,_,Z,_,Z,_,_,Z,Z,_,Z,B.m,_,Z,cO.k (k:=Sum.inr "owners") omH,B1.lo,_,Z, .inl (aC.of hb1.oo),cQ xG h63 (by omega) (by decide) (by decide) (by omega) fun d _ d0 d1=>?_⟩
   obtain ⟨jo,o,ejo,eo,eat⟩:=K_ (l:=b1.own) d0 (by omega)
   have hom:o∈b1.own:=bN eo
   refine ⟨B1.lo,_,_,_,Z,Z,aC.of hb1.oo,eat,?_⟩
   refine ⟨_,Z,_,Z,_,Z,_,_,Z,Z,KL xG h63 (by omega) (by decide) (by decide) fun wo H2 w1 w2 g2=>?_⟩
   refine ⟨_,Z,_,Z,_,Z,_,_,Z,Z,cQ (g2.seq xG) h63 (by omega) (by decide) (by decide) (by decide) fun we _ v0 v1=>?_⟩
   have kR:=gw.mono g2
   have o2:=o1.trans (iT (ρ:=ρ1) g2)
   have hN2:=hN _ _ o2
   have exv:(nms.map V.str)[i]?=some (.str x):=by rw [bJ,ex];rfl
   have hxs:x∉st1.nms:=by rw [XR];exact hxn
   have eow:=sf.rel.own
   have hnl:st1.nms.length=i:=by rw [XR,lq];omega
   refine ⟨_,Z,A.a,A1.dx,_,Z,by rw [<-AA];exact kR.h.oa,Z,_,Z,_,Z,ln,_,_,_,Z,Z,hN2,aQ exv,_,Z,_,Z,_,Z,⟨⟨n,ρ1,A1,st1,x,o,wo,we,by rw [AA];rfl,kR,Er.isNm,hxs,by rw [eow];exact hom,w1,v0,by omega,by rw [sf.rel.len];omega,fun ρ3 A3 H3 oY e3 f3=>?_⟩⟩⟩
   have Ax:=(hb1.mono g2).other f3 kR.g (cu nm)
   have o3:=o2.trans f3.out
   have hN3:=hN _ _ o3
   refine ⟨_,Z,_,Z,_,Z,ln,_,_,_,Z,Z,hN3,aQ exv,_,Z,_,Z,_,Z,⟨⟨m,ρ3,B1,b1,x,o,wo,we,by rw [vX];rfl,oY.g,Ax,hom,by have:=sf.j6.ol;omega,by omega,by omega,fun ρ4 B4 H4 G4 Cg e4 f4=>?_⟩⟩⟩
   have nv:=oY.other f4 G4 nm
   refine ⟨ρ4,A3,B4,_,_,_,_,_,_,Z,nv,Cg,Y4 sf gw.wf ?_ w1 w2 (by omega) (by omega) Er.isNm hom (by omega),e3.trans AA,e4.trans vX,Cf,?_,?_,?_,ekn,o3.trans f4.out⟩
   . intro hm
     obtain ⟨p,hp,e⟩:=bM.mp hm
     obtain ⟨j,hj,ej⟩:=qx hp
     obtain ⟨p',xu,e1,_⟩:=sf.rel.at (i:=j) (q:=p) (by rw [aX hj,ej])
     have:=gw.wf.sub p' (bN xu)
     rw [e1] at this
     have e:p.nm=x:=e
     rw [e] at this
     exact hxs this
   . show (b1.ai++[_]).length=i+1
     rw [di,XQ];rfl
   . show (b1.d8++[_]).length=i+1
     rw [di,ekl];rfl
   . show st1.nms++[x]=nms.take (i+1)
     rw [XR,take_snoc ex]
 rintro σ H1 ⟨ρ1,A1,B1,st1,b1,s6,s7,s8,s9,rfl,gw,hb1,sf,AA,vX,Cf,XQ,ekl,XR,ekn,o1⟩
 exact q ρ1 A1 B1 H1 st1 b1 gw hb1 sf AA vX Cf (by rw [XQ];omega) ekn o1
abbrev vg:Stmt:=top 41
abbrev rP:List Str:=["_law_script","_law_hold","_law_model_here","_law_names_here"]
abbrev NS:List Str:=rP.append ["_law_rows_here"]
theorem AD:aJ NS rP (ay vg):=c8
theorem Ms {T:TC} (F:At K mg "_law_prep" vg f fd) (aN:Dn P w K mg base 1 "_law_draw" fj (lS K)) (vh:Dn P w K mg base 5 "_law_loads" qb (Pp T K)) (wM:Dn P w K mg base 2 "_law_rows" rM (Pj K)) (m9:Dn P w K mg base 2 "_law_model_cast" jR (Pk K)) (wN:Mn P w K mg base 4 T.hold "cast" rG (Tz T K)) (bh:mg "len"=none) (dz:mg "list"=none):Dn P w K mg base 6 "_law_prep" rP (Up T K):=by
 refine F.oA AD fun cdv A outer s H vs Q E hr h=>?_
 obtain ⟨⟨n,m,ρ,A,B,st,b,a,ln,ns,nms,rfl,nm,hh,hb,gd,hS,h63,hN,UR,xj,EV,h6,en,ep,ek,q⟩⟩:=h
 refine ⟨_,(@cI.h _ _ _ (ao (cW (aZ vh hr (af (qv 0) (af ah (af (qv 1) (af (qv 2) (af (qv 3) (af (aD bQ ah (aZ aN hr (af (qv 0) (af ah (af ah (af ah ak)))))) ak))))))))
  (au (fL (aT ir (aZ aN hr (af (qv 0) (af ah (af ah (af ah ak))))) ah (a_ _)) (ao (aO (i:=4) AD.nd (aZ wM hr (af (qv 0) (af ah (af (bU (bY hr) (qv 2) aW) ak)))))
  (au (fL (aT ir (aG (bV K) (by rfl) bh dG (af (qv 4) ak)) ah (a_ _)) (ao (cW (gF wN hr (qv 1) (af (oU (nH K) (by rfl) dz v7 (af (qv 4) ak)) ak)))
  (au (cW (aZ m9 hr (af (qv 2) (af (qv 4) ak)))))) aU))) aU)))),?_⟩
 refine ⟨_,Z,_,Z,_,Z,_,Z,_,Z,cQ (hS _ _ (aE.refl _)) h63 (by decide) (by decide) (by decide) (by decide) fun md _ m0 m1=>⟨_,_,Z,Z,?_⟩⟩
 obtain ⟨many,aei⟩:∃many:Nat,2+md=(many:Int):=⟨(2+md).toNat,by omega⟩
 refine ⟨⟨n,m,ρ,A,B,st,b,a,ln,ns,4,nms,many,by rw [<-aei];rfl,nm,hh,hb,gd,hS,h63,by decide,by decide,hN,UR,xj,EV,by omega,by omega,en,ep,ek,fun ρ1 A1 B1 H1 st1 b1 gw hb1 sf AA vX Cf XQ ek1 o1=>?_⟩⟩
 have xG:=hS _ _ o1
 have pl:=sf.pl
 refine ⟨fun σ' H'=>Q .bZ H',?_,fun _ _ y=>y⟩
 refine ⟨_,Z,cQ xG h63 (by decide) (by decide) (by decide) (by decide) fun cd _ _ _=>⟨_,_,Z,Z,_,Z,dm (fun _=>?_) (fun _=>?_)⟩⟩
 rotate_left
 . exact q ρ1 A1 B1 H1 st1 b1 gw hb1 sf.mono AA vX Cf (by omega) (by omega) o1
 have om1:H1 B.m=some (.dK (fB B1 b1.bot)):=by rw [<-vX];exact hb1.om
 refine ⟨_,Z,_,Z,B.m,_,Z,cO.k (k:=Sum.inr "parts") om1,⟨⟨a,B1.lp,ns,10,_,lV b1,Z,xG,h63,by decide,by decide,aC.of hb1.op,hb1.nw,by unfold lV;rw [fF];exact sf.j6.nd,by unfold lV;rw [aF];omega,fun w hw=>by obtain ⟨p,hp,rfl⟩:=bM.mp hw;exact sf.j6.w1 p hp,fun z zs rs H2 g2 hz hz2 hR rok=>?_⟩⟩⟩
 have zl:=hR.length
 have kR:=gw.mono g2
 have hb2:=hb1.mono g2
 have cz:ρ1 z=none:=gw.g.none hz
 refine ⟨fun σ' H'=>Q .bZ H',?_,fun _ _ y=>y⟩
 refine ⟨_,Z,z,_,Z, .inl (aC.of hz2),_,_,Z,Z,_,Z,dm (fun c0=>?_) (fun c0=>?_)⟩
 rotate_left
 . exact q ρ1 A1 B1 H2 st1 b1 kR hb2 sf.mono AA vX Cf (by omega) (by omega) (o1.trans (iT g2))
 have c1:0<rs.length:=by have:(0:Int)<((zs.length:Nat):Int):=dO c0;omega
 have hne:rs≠[] :=fun e=>by rw [e] at c1;simp at c1
 obtain ⟨cok,rb,bo⟩:=Nv sf gw.wf rok hne (by decide)
 refine ⟨_,Z,A.a,A1.dx,_,Z,by rw [<-AA];exact kR.h.oa,Z,_,Z,z,_,Z, .inl (aC.of hz2),fun hd hhd=>?_⟩
 have g3:=aA hhd (.lst zs)
 have PL:upd H2 hd (.lst zs) hd=some (.lst zs):=aj
 have hz3:=g3 _ _ hz2
 have hR3:=hR.mono g3.tups
 have oY:=kR.mono g3
 have Ax:=hb2.mono g3
 have o3:aE (out ρ H) (out ρ1 (upd H2 hd (.lst zs))):=o1.trans (iT (g2.trans g3))
 show pB _ (upd H2 hd (.lst zs)) _
 generalize upd H2 hd (.lst zs)=H3 at *
 refine ⟨⟨n,ρ1,A1,st1,hd,zs,rs,by rw [AA];rfl,oY,aC.of PL,hR3,cok,fun ρ4 A4 H4 nv e4 f4=>?_⟩⟩
 have Cg:=Ax.other f4 oY.g (cu nm)
 obtain ⟨ez,cz4⟩:=f4.at hz3 cz
 have hR4:=hR3.mono (f4.tup oY.g)
 refine ⟨_,Z,_,Z,⟨⟨m,ρ4,B1,b1,z,zs,rs,by rw [vX];rfl,nv.g,Cg,sf.j6,aC.of ez,hR4,cz4,rb,cok.len,bo,fun ρ5 B5 H5 G5 EW e5 f5=>?_⟩⟩⟩
 exact q ρ5 A4 B5 H5 _ _ (nv.other f5 G5 nm) EW (Y0 sf gw.wf cok rb bo (by decide)) (e4.trans AA) (e5.trans vX) Cf (by have:=Y3 st1 rs;omega) (Us bo) ((o3.trans f4.out).trans f5.out)
abbrev oF:Stmt:=top 42
abbrev lN:List Str:=["_law_model_here","_law_deed"]
abbrev E4:List Str:=lN.append ["_law_at_here"]
theorem vj:aJ E4 lN (ay oF):=c8
theorem C8 (F:At K mg "_law_due_part" oF f fd) (mz:Dn P w K mg base 1 "_law_at" oZ (Aj K)):Dn P w K mg base 2 "_law_due_part" lN (JZ qJ K):=by
 refine F.oA vj fun cdv A outer s H vs Q E hr h=>?_
 obtain ⟨⟨n,ρ,B,b,st,z,d,rfl,hz,hb,rl,wf,wb,kn,ha,db,q⟩⟩:=h
 refine ⟨_,(@cI.h _ _ _ (ao (aO (i:=2) vj.nd (aZ mz hr (af (bU (bY hr) (qv 0) aW) (af (aH (bF K) (qv 1) ah) ak))))
  (ao (cM (aT DG (qv 2) ah (a_ _)) (au (aS ah)) aU)
  (ao (cM (bW.pt (rZ (aT Hu (aH (bF K) (qv 1) ah) (g_ (af aW (af aW ak))) (by with_unfolding_all rfl)) (qH (aT DG (aH (bF K) (qv 1) ah) ah (a_ _))))) (au (aS ah)) aU)
  (ao (cM (fC (bW.pt (rZ (aT gR (aH (bF K) (qv 1) ah) aW (a_ _)) (qH (aT ir (aH (bF K) (qv 1) ah) (aH (aK K) (aH (aK K) (bU (bY hr) (qv 0) aW) (qv 2)) ah) (a_ _)))))) (au (aS ah)) aU)
  (au (aS (Ez zA ah)))))))),?_⟩
 obtain ⟨x,a,e1,e2,hd⟩:∃x a,jU (Dd.v d) 1=some (.str x)/\jU (Dd.v d) 2=some (.int a)/\(d = .mishap x a\/d = .rise x a):=by
  cases d with
  | mishap x a=>exact ⟨x,a,aQ (j:=1) rfl,aQ (j:=2) rfl, .inl rfl⟩
  | rise x a=>exact ⟨x,a,aQ (j:=1) rfl,aQ (j:=2) rfl, .inr rfl⟩
  | _=>exact ha.elim
 have e0:jU (Dd.v d) 0=some (.str d.w):=aQ (j:=0) d.v0
 refine ⟨_,Z,B.m,_,Z,cO.k (k:=Sum.inr "parts") hb.om,_,Z,z,_,_,_,Z,Z,hz,e1,PD hb rl wf wb (fun i p q' k1 k2 k3 k4 k5 k6 k7 k8 hm=>?_) fun hm=>?_⟩
 rotate_left
 . refine ⟨_,Z,_,_,Z,Z,_,Z,dm (fun _=>?_) (fun c=>absurd (cg (by show (-1:Int)<0;decide)) c)⟩
   have:=q H (aE.refl _)
   rcases hd with rfl|rfl
   . have:Q (.int (Ah (kG st (x,a)))) H:=this
     unfold kG at this;rw [az hm] at this;exact this
   . have:Q (.int (Ah (jw st x a))) H:=this
     unfold jw at this;rw [az hm] at this;exact this
 refine ⟨_,Z,_,_,Z,Z,_,Z,dm (fun c=>absurd (dO c) (by show ¬ (i:Int)<0;omega)) (fun _=>?_)⟩
 refine ⟨_,Z,z,_,_,_,Z,Z,hz,e0,?_⟩
 refine ⟨(iw 2),fun pt EO=>?_⟩
 have g1:=aA EO (.tup [.str "mishap", .str "rise"])
 have ht1:upd H pt (.tup [.str "mishap", .str "rise"]) pt=some (.tup [.str "mishap", .str "rise"]):=aj
 have hz1:=g1.tup hz
 have hb1:=hb.mono g1
 have q1:=q _ g1
 show rIn _ _ _ _ (upd H pt (.tup [.str "mishap", .str "rise"])) _
 generalize upd H pt (.tup [.str "mishap", .str "rise"])=H1 at *
 refine ⟨pt,_,Z, .inr (cR.of ht1),Z,Tt ["mishap","rise"],_,Z,?_⟩
 have hin:Ht (.str d.w) [.str "mishap", .str "rise"]=true:=(V9 d.w ["mishap","rise"]).trans (cg (by rcases hd with rfl|rfl;exact cJ;exact cG _ cJ))
 rw [hin]
 refine qC ⟨_,Z,z,_,_,_,Z,Z,hz1,e2,_,_,Z,Z,_,Z,dm (fun c=>?_) (fun c=>?_)⟩
 . have c':a<1:=dO c
   rcases hd with rfl|rfl
   . have q1:Q (.int (Ah (kG st (x,a)))) H1:=q1
     unfold kG at q1;rw [aB hm,aB c'] at q1;exact q1
   . have q1:Q (.int (Ah (jw st x a))) H1:=q1
     unfold jw at q1;rw [aB hm,aB c'] at q1;exact q1
 have c':¬ a<1:=o6 (mT.mpr c)
 obtain ⟨qq,Eo,r1,_⟩:=hb1.find k2
 have E2:jU (B.qs.map fun q=>V.ref q.1) (i:Int)=some (.ref qq.1):=aQ (by rw [bJ,Eo];rfl)
 rcases hd with rfl|rfl
 . have q1:Q (.int (Ah (kG st (x,a)))) H1:=q1
   unfold kG at q1
   rw [aB hm,az c'] at q1
   have q1:Q (.int (Ah (if (c5 st x).wo<a then some 6 else none))) H1:=q1
   rw [k8,<-k6] at q1
   by_cases cc:q'.wo<a
   . rw [aB cc] at q1
     refine ⟨true,⟨_,Z,z,_,_,_,Z,Z,hz1,e0,Z,_,Z,dm (fun _=>?_) (fun c=>absurd (cg rfl) c)⟩,qC q1⟩
     exact ⟨_,Z,z,_,_,_,Z,Z,hz1,e2,_,Z,B.m,_,Z,cO.k (k:=Sum.inr "parts") hb1.om,_,Z,B.lp,_,_,_,Z,Z,aC.of hb1.op,E2,qq.1,_,_,_,Z,Z,aC.of r1,aQ (j:=2) rfl,_,_,Z,Z,_,Z,cg cc,Z⟩
   . rw [az cc] at q1
     refine ⟨false,⟨_,Z,z,_,_,_,Z,Z,hz1,e0,Z,_,Z,dm (fun _=>?_) (fun c=>absurd (cg rfl) c)⟩,cV ⟨1,Z,q1⟩⟩
     exact ⟨_,Z,z,_,_,_,Z,Z,hz1,e2,_,Z,B.m,_,Z,cO.k (k:=Sum.inr "parts") hb1.om,_,Z,B.lp,_,_,_,Z,Z,aC.of hb1.op,E2,qq.1,_,_,_,Z,Z,aC.of r1,aQ (j:=2) rfl,_,_,Z,Z,_,Z,d_ cc,Z⟩
 . have q1:Q (.int (Ah (jw st x a))) H1:=q1
   unfold jw at q1
   rw [aB hm,az c'] at q1
   exact ⟨false,⟨_,Z,z,_,_,_,Z,Z,hz1,e0,Z,_,Z,dm (fun c=>absurd (V.str.inj (dO c)) (Dd.Rm (n:=4) (by show 5≠4;decide) (by decide))) (fun _=>⟨Z,Z⟩)⟩,cV ⟨1,Z,q1⟩⟩
abbrev wO:Stmt:=top 43
abbrev t7:List Str:=["_law_model_here","_law_deed"]
abbrev RH:List Str:=t7
theorem NT:aJ RH t7 (ay wO):=c8
theorem NU (F:At K mg "_law_due" wO f fd) (qe:Dn P w K mg base 2 "_law_due_part" lN (JZ qJ K)):Dn P w K mg base 5 "_law_due" t7 (JZ qJ K):=by
 refine F.oA NT fun cdv A outer s H vs Q E hr h=>?_
 obtain ⟨⟨n,ρ,B,b,st,z,d,rfl,a1,a2,a3,a4,a5,a6,a7,a8,a9⟩⟩:=h
 refine ⟨_,(@cI.h _ _ _ (au (aS (aZ qe hr (af (qv 0) (af (qv 1) ak)))))),?_⟩
 exact ⟨_,Z,_,Z,⟨⟨n,ρ,B,b,st,z,d,Z,a1,a2,a3,a4,a5,a6,a7,a8,a9⟩⟩⟩
abbrev qf:Stmt:=top 44
abbrev mR:List Str:=["_law_hold","_law_deed"]
abbrev GL:List Str:=mR
theorem E5:aJ GL mR (ay qf):=c8
theorem E6 {T:TC} {e:Ec} (F:At K mg "_law_hold_do" qf f fd) (qW:Mx P w K mg base 3 T.hold "mishap" nQ (Io T e)) (vm:Mx P w K mg base 2 T.hold "rise" rH (Py T e)):Dx P w K mg base 6 "_law_hold_do" mR (Lx T e qJ K):=by
 refine F.LG E5 fun cdv A outer s H vs Q E hr h=>?_
 obtain ⟨⟨n,ρ,A,st,z,d,rfl,hz,hh,ha,dq⟩⟩:=h
 refine ⟨_,(@cI.h _ _ _ (ao (cM (aT gR (aH (bF K) (qv 1) ah) aW (a_ _)) (au (aS (Bj qW hr (qv 0) (af (aH (bF K) (qv 1) ah) (af (aH (bF K) (qv 1) ah) ak))))) (au (cM (aT gR (aH (bF K) (qv 1) ah) aW (a_ _)) (au (aS (Bj vm hr (qv 0) (af (aH (bF K) (qv 1) ah) (af (aH (bF K) (qv 1) ah) ak))))) aU)))
  (au (aS abM)))),?_⟩
 cases d with
 | mishap x a=>
   refine ⟨_,Z,z,_,_,_,Z,Z,hz,aQ (j:=0) rfl,Z,_,Z,dm (fun c=>?_) (fun c=>absurd (cg rfl) c)⟩
   exact ⟨_,Z,A.a,A.dx,_,Z,hh.h.oa,Z,_,Z,z,_,_,_,Z,Z,hz,aQ (j:=1) rfl,_,Z,z,_,_,_,Z,Z,hz,aQ (j:=2) rfl,⟨⟨n,ρ,A,st,x,a,Z,hh,dq⟩⟩⟩
 | rise x a=>
   refine ⟨_,Z,z,_,_,_,Z,Z,hz,aQ (j:=0) rfl,Z,_,Z,dm (fun c=>absurd (V.str.inj (dO c)) (Xu ⟨5,by decide⟩ ⟨4,by decide⟩ (by decide))) (fun _=>?_)⟩
   refine ⟨_,Z,z,_,_,_,Z,Z,hz,aQ (j:=0) rfl,Z,_,Z,dm (fun c=>?_) (fun c=>absurd (cg rfl) c)⟩
   exact ⟨_,Z,A.a,A.dx,_,Z,hh.h.oa,Z,_,Z,z,_,_,_,Z,Z,hz,aQ (j:=1) rfl,_,Z,z,_,_,_,Z,Z,hz,aQ (j:=2) rfl,⟨⟨n,ρ,A,st,x,a,Z,hh,dq⟩⟩⟩
 | _=>exact ha.elim
abbrev tK:Stmt:=top 45
abbrev qg:List Str:=["_law_hold","_law_deed"]
abbrev Mt:List Str:=qg.append ["_law_told","e"]
theorem jk:aJ Mt qg (ay tK):=c8
theorem Jh {T:TC} {e:Ec} {al:HS->Dd->Prop} (F:At K mg "_law_tried" tK f fd) (qh:Dx P w K mg base 6 "_law_hold_do" mR (Lx T e al K)) (to:∀st d i,al st d->lX st d=some i->Told K e (e.at i) i) (aM:mg "isinstance"=none) (vn:mg "ValueError"=none)
  (AE:mg "BadName"=some (.ref e.bad)) (GN:mg "Twice"=some (.ref e.twice)) (AF:mg "NoOwner"=some (.ref e.Et)) (qM:mg "NoPart"=some (.ref e.rV)) (yJ:mg "NoVoyage"=some (.ref e.Eu)) (kX:mg "BadNumber"=some (.ref e.rW))
  (oW:mg "TooMuch"=some (.ref e.Af)) (AG:mg "BadRows"=some (.ref e.rows)) (C9:mg "NoDeed"=some (.ref e.Ls)) (yK:mg "BadPaper"=some (.ref e.Ew)) (qi:mg "JettisonError"=some (.ref e.Wt)):Dn P w K mg base 7 "_law_tried" qg (Gk T al K):=by
 refine F.oA jk fun cdv A outer s H vs Q E hr h=>?_
 obtain ⟨⟨n,ρ,A,st,z,d,rfl,hz,hh,ha,q2,q⟩⟩:=h
 refine ⟨_,(@cI.h _ _ _ (ao (aO (i:=2) jk.nd (d7 ak))
  (ao (abJ (j:=3) jk.nd rfl rfl (fun _ _ z=>z) rfl rfl (abL qh hr (fun _ _ z=>z) (af (qv 0) (af (qv 1) ak))) (by rfl) qi (fun _=>(ao (aO (i:=2) jk.nd (d7 (af (aG (e_ K rfl) (by rfl) aM jT (af (qv 3) (af (jx (n:="ValueError") (by rfl) rfl vn) ak))) (af (aG (e_ K rfl) (by rfl) aM jT (af (qv 3) (af (j8 (v:= .ref _) (by rfl) AE rfl) ak))) (af (aG (e_ K rfl) (by rfl) aM jT (af (qv 3) (af (j8 (v:= .ref _) (by rfl) GN rfl) ak))) (af (aG (e_ K rfl) (by rfl) aM jT (af (qv 3) (af (j8 (v:= .ref _) (by rfl) AF rfl) ak))) ak))))))
  (ao (aO (i:=2) jk.nd (aD nh (qv 2) (d7 (af (aG (e_ K rfl) (by rfl) aM jT (af (qv 3) (af (j8 (v:= .ref _) (by rfl) qM rfl) ak))) (af (aG (e_ K rfl) (by rfl) aM jT (af (qv 3) (af (j8 (v:= .ref _) (by rfl) yJ rfl) ak))) (af (aG (e_ K rfl) (by rfl) aM jT (af (qv 3) (af (j8 (v:= .ref _) (by rfl) kX rfl) ak))) ak))))))
  (au (aO (i:=2) jk.nd (aD nh (qv 2) (d7 (af (aG (e_ K rfl) (by rfl) aM jT (af (qv 3) (af (j8 (v:= .ref _) (by rfl) oW rfl) ak))) (af (aG (e_ K rfl) (by rfl) aM jT (af (qv 3) (af (j8 (v:= .ref _) (by rfl) AG rfl) ak))) (af (aG (e_ K rfl) (by rfl) aM jT (af (qv 3) (af (j8 (v:= .ref _) (by rfl) C9 rfl) ak))) (af (aG (e_ K rfl) (by rfl) aM jT (af (qv 3) (af (j8 (v:= .ref _) (by rfl) yK rfl) ak))) ak))))))))))))
  (au (aS (qv 2)))))),?_⟩
 refine ⟨f_ _,fun l0 kq=>?_⟩
 have g0:aE H (upd H l0 (.lst [])):=aA kq _
 have h0:upd H l0 (.lst []) l0=some (.lst []):=aj
 generalize upd H l0 (.lst [])=H0 at g0 h0
 refine ⟨_,Z,_,Z,⟨⟨n,ρ,A,st,z,d,Z,g0.tup hz,hh.mono g0,ha,⟨fun i hi x H1 g1=>⟨_,Z,(to st d i ha hi).jt,fun y hy=>?_⟩,fun hn ρ' A' H' ED ea F'=>⟨Z,?_⟩⟩⟩⟩⟩
 . have g2:=aA hy (CL y (e.at i))
   refine Ri (i:=2) (j:=3) (to st d i ha hi) rfl (show 2<4 from by decide) (by decide) aj fun l H2 g3 hl2=>?_
   exact ⟨_,Z,q2 i hi l _ (g0.trans (g1.trans (g2.trans g3))) hl2⟩
 . obtain ⟨a1,a2⟩:=F'.at h0 (hh.g.none kq)
   exact ⟨_,Z,q hn l0 ρ' A' H' ED ea ((Fr.of_same g0).trans F') a1 a2 kq⟩
abbrev m_:Stmt:=top 47
abbrev kM:List Str:=["_law_model_here","_law_deed"]
abbrev C_:List Str:=kM.append ["_law_at_here","_law_part"]
theorem nc:aJ C_ kM (ay m_):=c8
theorem Bu (F:At K mg "_law_model_one" m_ f fd) (mz:Dn P w K mg base 1 "_law_at" oZ (Aj K)):Dn P w K mg base 4 "_law_model_one" kM (vQ qJ K):=by
 refine F.oA nc fun cdv A outer s H vs Q E hr h=>?_
 obtain ⟨⟨n,c,ρ,B,b,st,z,d,rfl,hz,G,hb,gd,hc,wf,ha,db,hr0,q⟩⟩:=h
 refine ⟨_,(@cI.h _ _ _ (ao (aO (i:=2) nc.nd (aZ mz hr (af (bU (bY hr) (qv 0) aW) (af (aH (bF K) (qv 1) ah) ak))))
  (ao (aO (i:=3) nc.nd (aH (aK K) (bU (bY hr) (qv 0) aW) (qv 2)))
  (ao (fL (aT gR (aH (bF K) (qv 1) ah) aW (a_ _)) (au (rX (aD kO (aH (aK K) (qv 3) ah) (aH (bF K) (qv 1) ah)) (rY (qv 3) ah set_list))) (au (fL (aT gR (aH (bF K) (qv 1) ah) aW (a_ _)) (au (rX (aD bQ (aH (aK K) (qv 3) ah) (aH (bF K) (qv 1) ah)) (rY (qv 3) ah set_list))) aU)))
  (au (oV (bY hr) (qv 0) aW (CO ["_law_one"] [none] rfl (dH K (bU (bY hr) (qv 0) aW)) (fun _ _ _ _=>(aR (i:=0) (show List.Nodup (["_law_one"] :List Str) from by decide +kernel))) (fun _ _ _ _=>(qv 0)) (fun _ _ _ _=>(aT ir (aH (aK K) (qv 0) ah) ah (a_ _))) rfl (by rfl)) rfl)))))),?_⟩
 have rl:=gd.rel
 have wb:=gd.j6
 obtain ⟨x,a,F,e1,e2,hm,hd,eB⟩:∃(x:Str) (a:Int) (F:BP->BP),jU (Dd.v d) 1=some (.str x)/\jU (Dd.v d) 2=some (.int a)/\x∈gT st/\((d = .mishap x a/\F=fun p=>{ p with wo:=p.wo-a })\/(d = .rise x a/\F=fun p=>{ p with wo:=p.wo+a }))/\Bl b d=Im b x F:=by
  cases d with
  | mishap x a=>
    refine ⟨x,a,_,aQ (j:=1) rfl,aQ (j:=2) rfl,?_, .inl ⟨Z,Z⟩,Z⟩
    have hr0:kG st (x,a)=none:=hr0
    unfold kG at hr0
    by_cases hm:x∈gT st
    . exact hm
    . rw [az hm] at hr0;cases hr0
  | rise x a=>
    refine ⟨x,a,_,aQ (j:=1) rfl,aQ (j:=2) rfl,?_, .inr ⟨Z,Z⟩,Z⟩
    have hr0:jw st x a=none:=hr0
    unfold jw at hr0
    by_cases hm:x∈gT st
    . exact hm
    . rw [az hm] at hr0;cases hr0
  | _=>exact ha.elim
 have Iw:cR K H z (Dd.v d):=cR.of hz
 refine ⟨_,Z,B.m,_,Z,cO.k (k:=Sum.inr "parts") hb.om,_,Z,z,_,_,_,Z,Z,Iw,e1,PD hb rl wf wb (fun i p q' k1 k2 k3 k4 k5 k6 k7 k8 _=>?_) fun hn=>absurd hm hn⟩
 obtain ⟨qq,Eo,r1,r2,c1,c2⟩:=hb.find k2
 have E2:jU (B.qs.map fun q=>V.ref q.1) (i:Int)=some (.ref qq.1):=aQ (by rw [bJ,Eo];rfl)
 refine ⟨_,Z,B.m,_,Z,cO.k (k:=Sum.inr "parts") hb.om,_,Z,B.lp,_,_,_,Z,Z,aC.of hb.op,E2,?_⟩
 have hF:(F q').nm=q'.nm/\(F q').tops=q'.tops:=by rcases hd with ⟨_,rfl⟩|⟨_,rfl⟩ <;> exact ⟨rfl,rfl⟩
 have st1:bg n ρ { B with qs:=B.qs.set i (qq.1,qq.2) } (upd H qq.1 (kQ (F q') qq.2)) { b with ai:=b.ai.set i (F q') }:=hb.ux G k2 Eo hF.1 wb.nd (by rw [hF.2];exact r2) (by rw [hF.1];exact c2)
 have e0:jU (Dd.v d) 0=some (.str d.w):=aQ (j:=0) d.v0
 refine ⟨fun σ' H'=>σ'=[some (.ref B.m),some (.ref z),some (.int (i:Int)),some (.ref qq.1)]/\H'=upd H qq.1 (kQ (F q') qq.2),?_,?_⟩
 . rcases hd with ⟨rfl,rfl⟩|⟨rfl,rfl⟩
   . refine ⟨_,Z,z,_,_,_,Z,Z,Iw,e0,Z,_,Z,dm (fun _=>?_) (fun c=>absurd (cg rfl) c)⟩
     exact ⟨_,Z,qq.1,_,_,_,Z,Z,aC.of r1,aQ (j:=2) rfl,_,Z,z,_,_,_,Z,Z,Iw,e2,_,_,Z,Z,_,Z,qq.1,_,_,2,Z,Z,r1,Z,Z,Z⟩
   . refine ⟨_,Z,z,_,_,_,Z,Z,Iw,e0,Z,_,Z,dm (fun c=>absurd (V.str.inj (dO c)) (Dd.Rm (n:=4) (by show 5≠4;decide) (by decide))) (fun _=>?_)⟩
     refine ⟨_,⟨_,Z,z,_,_,_,Z,Z,Iw,e0,Z,_,Z,dm (fun _=>?_) (fun c=>absurd (cg rfl) c)⟩,fun _ _ y=>y⟩
     exact ⟨_,Z,qq.1,_,_,_,Z,Z,aC.of r1,aQ (j:=2) rfl,_,Z,z,_,_,_,Z,Z,Iw,e2,_,_,Z,Z,_,Z,qq.1,_,_,2,Z,Z,r1,Z,Z,Z⟩
 rintro σ H5 ⟨rfl,rfl⟩
 have eS:(b.ai.map fun p=>if p.nm=x then F p else p)=b.ai.set i (F q'):=by rw [<-k4];exact yy (nm:=fun p:BP=>p.nm) wb.nd k2
 rw [eB] at q
 unfold Im at q
 rw [eS] at q
 have G5:=G.wr (a:=qq.1) (o:=kQ (F q') qq.2) rfl
 have F5:Fr n ρ H ρ (upd H qq.1 (kQ (F q') qq.2)):=Fr.write c1
 generalize upd H qq.1 (kQ (F q') qq.2)=H5 at *
 obtain ⟨B5,eB5⟩:∃B5:BA,B5={ B with qs:=B.qs.set i (qq.1,qq.2) }:=⟨_,rfl⟩
 obtain ⟨bb,ebb⟩:∃bb:BS,bb={ b with ai:=b.ai.set i (F q') }:=⟨_,rfl⟩
 rw [<-eB5,<-ebb] at st1
 have xH:B5.m=B.m:=by rw [eB5]
 have h5:=st1
 have pl5:bb.ai.length<=1000:=by rw [ebb];show (b.ai.set i (F q')).length<=1000;rw [lD];exact wb.pl
 have E3:B5.qs.length=bb.ai.length:=h5.ql
 have UQ:(B5.qs.map fun q=>V.ref q.1).length=bb.ai.length:=by rw [aF];exact E3
 have yY:H5 B5.lp=some (.lst (B5.qs.map fun q=>V.ref q.1)):=h5.op
 have om6:H5 B.m=some (.dK (fB B5 bb.bot)):=by rw [<-xH];exact h5.om
 refine ⟨_,Z,B.m,_,Z,cO.k (k:=Sum.inr "parts") om6,B5.lp,Z,⟨_,aC.of yY⟩,fun lp tP=>?_⟩
 refine F0 (J:=uh K B5.lp) (n:=bb.ai.length) 0 (fun i o H'=>aE H5 H'/\o=(jv (bb.ai.take i) (B5.qs.take i)).map fun q=>V.ref q.1) (by omega) ⟨aA tP _,Z⟩ (fun i o H' hi _ hp=>⟨_,_,aC.of (hp.1 _ _ yY),aX (by rw [UQ];exact hi)⟩) (fun o H' _ hp=>⟨_,aC.of (hp.1 _ _ yY),by rw [UQ];exact aP _⟩) ?_ ?_
 . rintro i y o H7 H8 hi eL ha ⟨g,e⟩ ⟨rfl,hy⟩
   have ei:=aX hi
   obtain ⟨qq,eq,k1,k2,_,_⟩:=h5.find ei
   have ey:=hy _ (aC.of (g _ _ yY))
   rw [bJ,eq] at ey
   cases ey
   have es:=yw ei eq
   refine ⟨_,Z,qq.1,_,_,_,Z,Z,aC.of (g _ _ k1),aQ (j:=2) rfl,_,_,Z,Z,_,Z,dm (fun c=>?_) (fun c=>?_)⟩
   . rw [aB (dO c)] at es
     refine ⟨_,Z,ha,g.cF tP _,?_⟩
     rw [es,e,bL]
     rfl
   . rw [az (o6 (mT.mpr c))] at es
     exact ⟨ha,g,by rw [es,e,qZ]⟩
 rintro o H7 _ ha ⟨g7,e⟩
 rw [cC,<-E3,cC] at e
 subst e
 have h7:=h5.mono g7
 have G7:=G5.same g7
 have clp:ρ lp=none:=G5.none tP
 have h8:=h7.col (t:=22) (x:=⟨#[]⟩) clp
 have G8:Gh (cK ρ lp (n,22,⟨#[]⟩)) H7:=G7.color ha rfl
 have F8:Fr n ρ H (cK ρ lp (n,22,⟨#[]⟩)) H7:=F5.trans (Fr.color tP g7)
 have h9:=h8.TR G8 (lp:=lp) (qs:=jv bb.ai B5.qs) (ps:=bb.ai.filter fun p=>decide (0<p.wo)) ha dM (Ac E3) (fun i x y ex ey=>by
  obtain ⟨j,a1,a2⟩:=yv ex ey E3
  exact h8.pt j x y a1 a2)
 have cm8:=h8.cm
 rw [xH] at h9 cm8
 refine ⟨_,Z,B.m,_,Z,sj.k (k:=Sum.inr "parts") (by rw [<-xH];exact h7.om) (by show 5<sizeLine;decide),?_⟩
 rw [Li]
 subst ebb
 exact q _ _ _ (G8.wr rfl) h9 rfl (F8.trans (Fr.write cm8))
abbrev oG:Stmt:=top 48
abbrev lO:List Str:=["_law_model_here","_law_deed"]
abbrev E7:List Str:=lO
theorem Dc:aJ E7 lO (ay oG):=c8
theorem De (F:At K mg "_law_model_do" oG f fd) (oH:Dn P w K mg base 4 "_law_model_one" kM (vQ qJ K)):Dn P w K mg base 5 "_law_model_do" lO (vQ qJ K):=by
 refine F.oA Dc fun cdv A outer s H vs Q E hr h=>?_
 obtain ⟨⟨n,c,ρ,B,b,st,z,d,rfl,a1,a2,a3,a4,a5,a6,a7,a8,a9,a10⟩⟩:=h
 refine ⟨_,(@cI.h _ _ _ (au (cW (aZ oH hr (af (qv 0) (af (qv 1) ak)))))),?_⟩
 exact ⟨_,Z,_,Z,⟨⟨n,c,ρ,B,b,st,z,d,Z,a1,a2,a3,a4,a5,a6,a7,a8,a9,a10⟩⟩⟩
abbrev qX:Stmt:=top 49
abbrev nT:List Str:=["_law_script","_law_k","_law_hold","_law_model_here","_law_deed"]
abbrev Ji:List Str:=nT.append ["_law_due_here","_law_found"]
theorem qY:aJ Ji nT (ay qX):=c8
theorem GO {T:TC} {al:HS->Dd->Prop} (hlt:∀st d i,al st d->lX st d=some i->i<10) (aej:∀c st b d,fT c st b->c<=90->Wf st->al st d->Px d->lX st d=none->fT (c+1) (vP st d) (Bl b d)/\(vP st d).kn<=st.kn+100) (F:At K mg "_law_single" qX f fd) (yL:Dn P w K mg base 5 "_law_due" t7 (JZ al K)) (vo:Dn P w K mg base 7 "_law_tried" qg (Gk T al K)) (yM:Dn P w K mg base 1 "_law_hot" tZ Rj) (qj:Dn P w K mg base 5 "_law_model_do" lO (vQ al K)):Dn P w K mg base 8 "_law_single" nT (LJ T al K):=by
 refine F.oA qY fun cdv A outer s H vs Q E hr h=>?_
 obtain ⟨⟨n,m,c,ρ,A,B,st,b,v0,v1,z,d,rfl,nm,hz,hh,hb,gd,hc,ha,db,q⟩⟩:=h
 refine ⟨_,(@cI.h _ _ _ (ao (aO (i:=5) qY.nd (aZ yL hr (af (qv 3) (af (qv 4) ak))))
  (ao (aO (i:=6) qY.nd (aZ vo hr (af (qv 2) (af (qv 4) ak))))
  (ao (cM (aT QB (qv 5) ah (a_ _)) (au (aS (ud (FT K hr.units) (qv 6) (aZ yM hr (af (qv 5) ak)) (a_ _)))) aU)
  (ao (cW (aZ qj hr (af (qv 3) (af (qv 4) ak))))
  (au (aS (ud (FT K hr.units) (qv 6) (d7 ak) (a_ _))))))))),?_⟩
 refine ⟨_,Z,_,Z,⟨⟨m,ρ,B,b,st,z,d,Z,cR.of hz,hb,gd.rel,hh.wf,gd.j6,gd.d8,ha,db,fun HB gB=>?_⟩⟩⟩
 have hzB:=gB _ _ hz
 have US:=hh.mono gB
 refine ⟨_,Z,_,Z,Rp rfl (cR.of hzB) US ha fun l ρC AC HC Mu XS FC sC XT=>?_⟩
 have oC:aE (out ρ H) (out ρC HC):=(iT gB).trans FC.out
 have XU:=(hb.mono gB).other FC US.g (cu nm)
 have hzC:=FC.tup US.g _ _ hzB
 show gc 6 (.ref l) _ _ _
 cases hr:lX st d with
 | some j=>
   have eaf:uJ st d=st:=by unfold uJ;rw [hr]
   rw [eaf] at Mu
   rw [hr] at XT
   refine ⟨_,Z,_,_,Z,Z,_,Z,dm (fun _=>?_) (fun c=>absurd (cg (by show (0:Int)<=(j:Int);omega)) c)⟩
   refine ⟨_,Z,_,Z,Y9 (n:=j) rfl fun p HD gD hpD=>Za (r:=some j) (gD _ _ XT) hpD (fun i hi=>by cases hi;exact hlt st d _ ha hr) ?_⟩
   exact q ρC AC B HD st b (Mu.mono gD) (XU.mono gD) gd.mono XS rfl rfl (by omega) (.inl rfl) (oC.trans (iT gD))
 | none=>
   have eaf:uJ st d=vP st d:=by unfold uJ;rw [hr]
   rw [eaf] at Mu
   rw [hr] at XT
   obtain ⟨gd',hk⟩:=aej c st b d gd hc hh.wf ha db hr
   refine ⟨_,Z,_,_,Z,Z,_,Z,dm (fun c=>absurd (dO c) (by show ¬ (0:Int)<=-1;decide)) (fun _=>?_)⟩
   have cl:ρC l=none:=sC hr
   refine ⟨_,Z,_,Z,⟨⟨m,c,ρC,B,b,st,z,d,Z,hzC,Mu.g,XU,gd,hc,hh.wf,ha,db,hr,fun ρD BD HD GD hbD emD FD=>?_⟩⟩⟩
   obtain ⟨hlD,_⟩:=FD.at XT cl
   refine ⟨_,Z,(iw 0),fun p1 hp1=>?_⟩
   have gE:=aA hp1 (.lst [])
   refine ⟨.list [], .list [], .lst (aC.of (gE _ _ hlD)) .nil, .lst (aC.of aj) .nil,Z,Z,?_⟩
   exact q ρD AC BD _ _ _ ((Mu.other FD GD nm).mono gE) (hbD.mono gE) gd' XS emD (Uo b d) hk (.inr ⟨hr,Z⟩) ((oC.trans FD.out).trans (iT gE))
abbrev mC:Stmt:=top 50
abbrev jS:List Str:=["_law_script","_law_k","_law_model_here","_law_word"]
abbrev Bv:List Str:=jS.append ["_law_some"]
theorem jC:aJ Bv jS (ay mC):=c8
theorem AH (F:At K mg "_law_other_word" mC f fd) (aN:Dn P w K mg base 1 "_law_draw" fj (lS K)) (bh:mg "len"=none):Dn P w K mg base 2 "_law_other_word" jS (Ca K):=by
 refine F.oA jC fun cdv A outer s H vs Q E hr h=>?_
 obtain ⟨⟨a,ms,k,n,ρ,B,b,x,rfl,hS,h63,hk,hb,bk,hx,q⟩⟩:=h
 refine ⟨_,(@cI.h _ _ _ (ao (aO (i:=4) jC.nd (aD nh (aD nh (aD nh (bU (bY hr) (qv 2) aW) (gr ["_law_part"] [none] rfl (dH K (bU (bY hr) (qv 2) aW)) (fun _ _ _ _=>(aR (i:=0) (show List.Nodup (["_law_part"] :List Str) from by decide +kernel))) (fun _ _ _ _=>(aH (aK K) (qv 0) ah)) rfl (by rfl))) (bU (bY hr) (qv 2) aW)) (d7 (af aW ak))))
  (ao (aO (i:=4) jC.nd (aD nh (qv 4) (d7 (af (aD qE (qv 3) aW) (af (nY xx (qv 3) qG (qF ah)) (af (nY xx (qv 3) (qF ah) qG) (af (aD qE (qv 3) aW) (af (aD qE aW (nY xx (qv 3) (qF ah) qG)) (af (aD qE (aD qE (qv 3) (qv 3)) aW) ak)))))))))
  (ao (aO (i:=4) jC.nd (aD nh (qv 4) (d7 (af (aD qE aW (qv 3)) (af aW (af (aD qE (nY xx (qv 3) qG (qF ah)) aW) ak))))))
  (au (aS (nY xx (aH (aK K) (qv 4) (aZ aN hr (af (qv 0) (af (qv 1) (af ah (af (aG (bV K) (by rfl) bh dG (af (qv 4) ak)) ak)))))) qG (qF ah)))))))),?_⟩
 have tQ:(B.qs.map fun q=>V.ref q.1).length=b.ai.length:=by rw [aF];exact hb.ql
 have pl:=bk.pl
 have kl:=bk.kl
 have ol:=bk.ol
 refine ⟨_,Z,B.m,_,Z,cO.k (k:=Sum.inr "known") hb.om,?_⟩
 refine ⟨_,Z,B.m,_,Z,cO.k (k:=Sum.inr "parts") hb.om,B.lp,Z,⟨_,aC.of hb.op⟩,fun ac hac=>?_⟩
 refine iR (J:=uh K B.lp) (n:=b.ai.length) 0 (fun i o H'=>aE H H'/\o=((b.ai.take i).map (fun p:BP=>p.nm)).map V.str) (by omega) ⟨aA hac _,Z⟩ (fun i o H' hi _ hp=>⟨_,_,aC.of (hp.1 _ _ hb.op),aX (by rw [tQ];exact hi)⟩) (fun o H' _ hp=>⟨_,aC.of (hp.1 _ _ hb.op),by rw [tQ];exact aP _⟩) ?_ ?_
 . rintro j y o H2 H3 hj eL ha ⟨g,e⟩ ⟨rfl,hy⟩
   have ej:=aX hj
   obtain ⟨qq,eq,k1,k2,_,_⟩:=hb.find ej
   have ey:=hy _ (aC.of (g _ _ hb.op))
   rw [bJ,eq] at ey
   cases ey
   refine ⟨_,Z,qq.1,_,_,_,Z,Z,aC.of (g _ _ k1),aQ (j:=0) rfl,ha,g.cF hac _,?_⟩
   subst e
   rw [take_snoc ej,bL,bL]
   rfl
 rintro o H2 _ ha ⟨g2,e⟩
 rw [cC] at e
 subst e
 have sz:∀n:Nat,n<=5000->n<=sizeLine:=fun n h=>by rw [fu];omega
 refine ⟨B.lk,ac,_,_,Z,Z,g2 _ _ hb.ok,ha,sz _ (by rw [aF,aF,aF];omega),fun p1 hp1=>?_⟩
 have g3:=aA hp1 (.lst (b.d8.map V.str++(b.ai.map (fun p:BP=>p.nm)).map V.str))
 have Iu:upd H2 p1 (.lst (b.d8.map V.str++(b.ai.map (fun p:BP=>p.nm)).map V.str)) p1=some (.lst (b.d8.map V.str++(b.ai.map (fun p:BP=>p.nm)).map V.str)):=aj
 generalize upd H2 p1 (.lst (b.d8.map V.str++(b.ai.map (fun p:BP=>p.nm)).map V.str))=H3 at g3 Iu
 have Mv:=g2.trans g3
 refine ⟨_,Z,B.m,_,Z,cO.k (k:=Sum.inr "owners") (Mv _ _ hb.om),?_⟩
 refine ⟨p1,B.lo,_,_,Z,Z,Iu,Mv _ _ hb.oo,sz _ (by rw [di,aF,aF,aF,aF];omega),fun p2 hp2=>?_⟩
 have W2:j7 100 (b.d8.map V.str++(b.ai.map (fun p:BP=>p.nm)).map V.str++b.own.map V.str):=((j7.map fun x hx=>fq (bk.d8 x hx) (by decide)).append (j7.map fun x hx=>by
   obtain ⟨p,hp,rfl⟩:=bM.mp hx
   exact fq (bk.ai p hp) (by decide))).append (j7.map fun x hx=>fq (bk.own x hx) (by decide))
 have l2:(b.d8.map V.str++(b.ai.map (fun p:BP=>p.nm)).map V.str++b.own.map V.str).length<=2100:=by
  rw [di,di,aF,aF,aF,aF];omega
 generalize b.d8.map V.str++(b.ai.map (fun p:BP=>p.nm)).map V.str++b.own.map V.str=vY at *
 have g4:=aA hp2 (.lst vY)
 have UT:upd H3 p2 (.lst vY) p2=some (.lst vY):=aj
 generalize upd H3 p2 (.lst vY)=H4 at g4 UT
 refine ⟨(iw 1),fun p3 hp3=>?_⟩
 have g5:=aA hp3 (.lst [.str ""])
 refine ⟨p2,p3,_,_,Z,Z,g5 _ _ UT,aj,sz _ (by show vY.length+1<=_;omega),fun p4 Lv=>?_⟩
 have g6:=aA Lv (.lst (vY++[.str ""]))
 have h46:upd (upd H4 p3 (.lst [.str ""])) p4 (.lst (vY++[.str ""])) p4=some (.lst (vY++[.str ""])):=aj
 have W3:j7 100 (vY++[.str ""]):=W2.append (j7.cons (by decide +kernel) j7.nil)
 have l3:(vY++[V.str ""]).length<=2101:=by rw [di];show vY.length+1<=_;omega
 have g06:=Mv.trans (g4.trans (g5.trans g6))
 show gc 4 (.ref p4) _ (upd (upd H4 p3 (.lst [.str ""])) p4 (.lst (vY++[.str ""]))) _
 generalize upd (upd H4 p3 (.lst [.str ""])) p4 (.lst (vY++[.str ""]))=H6 at g06 h46
 generalize vY++[V.str ""]=L3 at *
 clear g6 Lv hp3 g5 UT g4 hp2 W2 l2
 have l1:wl "a"<=10:=by decide +kernel
 have l22:wl "-"<=10:=by decide +kernel
 have l33:wl "A"<=10:=by decide +kernel
 have l4:wl "abcdefgh"<=10:=by decide +kernel
 have l5:wl " "<=10:=by decide +kernel
 have l6:wl "zzzzzzz"<=10:=by decide +kernel
 have l7:wl "\n"<=10:=by decide +kernel
 refine ⟨_,Z,_,Z,_,_,Z,Z,by omega,fun r1 h1=>?_⟩
 refine ⟨_,Z,_,Z,_,Z,by omega,fun r2 h2 _=>?_⟩
 refine ⟨_,Z,_,Z,_,Z,by omega,fun r3 h3 _=>?_⟩
 refine ⟨_,Z,_,_,Z,Z,by omega,fun r4 h4=>?_⟩
 refine ⟨_,Z,_,Z,_,Z,by omega,fun r5 h5 _=>⟨_,_,Z,Z,by omega,fun r6 h6=>?_⟩⟩
 refine ⟨_,Z,_,Z,_,_,Z,Z,by omega,fun r7 h7=>⟨_,_,Z,Z,by omega,fun r8 h8=>?_⟩⟩
 refine ⟨(iw 6),fun p5 hp5=>?_⟩
 have g7:=aA hp5 (.lst [.str r1, .str r2, .str r3, .str r4, .str r6, .str r8])
 refine ⟨p4,p5,_,_,Z,Z,g7 _ _ h46,aj,sz _ (by show L3.length+6<=_;omega),fun p6 PJ=>?_⟩
 have g8:=aA PJ (.lst (L3++[.str r1, .str r2, .str r3, .str r4, .str r6, .str r8]))
 have h68:upd (upd H6 p5 (.lst [.str r1, .str r2, .str r3, .str r4, .str r6, .str r8])) p6 (.lst (L3++[.str r1, .str r2, .str r3, .str r4, .str r6, .str r8])) p6=some (.lst (L3++[.str r1, .str r2, .str r3, .str r4, .str r6, .str r8])):=aj
 have W4:j7 100 (L3++[.str r1, .str r2, .str r3, .str r4, .str r6, .str r8]):=W3.append (.cons (by omega) (.cons (by omega) (.cons (by omega) (.cons (by omega) (.cons (by omega) (.cons (by omega) .nil))))))
 have l8:(L3++[V.str r1, .str r2, .str r3, .str r4, .str r6, .str r8]).length<=2107:=by rw [di];show L3.length+6<=_;omega
 have g08:=g06.trans (g7.trans g8)
 show gc 4 (.ref p6) _ (upd (upd H6 p5 (.lst [.str r1, .str r2, .str r3, .str r4, .str r6, .str r8])) p6 (.lst (L3++[.str r1, .str r2, .str r3, .str r4, .str r6, .str r8]))) _
 generalize upd (upd H6 p5 (.lst [.str r1, .str r2, .str r3, .str r4, .str r6, .str r8])) p6 (.lst (L3++[.str r1, .str r2, .str r3, .str r4, .str r6, .str r8]))=H8 at g08 h68
 generalize L3++[V.str r1, .str r2, .str r3, .str r4, .str r6, .str r8]=L4 at *
 refine ⟨_,Z,_,Z,_,_,Z,Z,by omega,fun t1 k1=>?_⟩
 refine ⟨_,Z,_,Z,_,Z,by omega,fun t2 k2 _=>⟨_,_,Z,Z,by omega,fun t3 k3=>?_⟩⟩
 refine ⟨(iw 3),fun p7 UU=>?_⟩
 have g9:=aA UU (.lst [.str t1, .str "zzzzzzz", .str t3])
 refine ⟨p6,p7,_,_,Z,Z,g9 _ _ h68,aj,sz _ (by show L4.length+3<=_;omega),fun p8 Uz=>?_⟩
 have g10:=aA Uz (.lst (L4++[.str t1, .str "zzzzzzz", .str t3]))
 have hA:upd (upd H8 p7 (.lst [.str t1, .str "zzzzzzz", .str t3])) p8 (.lst (L4++[.str t1, .str "zzzzzzz", .str t3])) p8=some (.lst (L4++[.str t1, .str "zzzzzzz", .str t3])):=aj
 have W5:j7 100 (L4++[.str t1, .str "zzzzzzz", .str t3]):=W4.append (.cons (by omega) (.cons (by omega) (.cons (by omega) .nil)))
 have l9:(L4++[V.str t1, .str "zzzzzzz", .str t3]).length<=2110/\0<(L4++[V.str t1, .str "zzzzzzz", .str t3]).length:=by rw [di];show L4.length+3<=_/\0<L4.length+3;omega
 have g0A:=g08.trans (g9.trans g10)
 show gc 4 (.ref p8) _ (upd (upd H8 p7 (.lst [.str t1, .str "zzzzzzz", .str t3])) p8 (.lst (L4++[.str t1, .str "zzzzzzz", .str t3]))) _
 generalize upd (upd H8 p7 (.lst [.str t1, .str "zzzzzzz", .str t3])) p8 (.lst (L4++[.str t1, .str "zzzzzzz", .str t3]))=HA at g0A hA
 generalize L4++[V.str t1, .str "zzzzzzz", .str t3]=L5 at *
 refine ⟨_,Z,_,Z,_,Z,_,Z,p8,_,Z, .inl (aC.of hA),cQ (g0A.seq hS) h63 hk (by decide) (by decide) (by omega) fun d _ d0 d1=>?_⟩
 obtain ⟨v,hv,hat⟩:=Ly (xs:=L5) (i:=d) (by omega) d1
 obtain ⟨sv,rfl,hsv⟩:=W5 v hv
 exact ⟨p8,_,_,_,Z,Z,aC.of hA,hat,_,Z,sv,Z,by omega,fun r hr1 hr2=>q r _ g0A (hr2 20 rfl rfl)⟩
abbrev kN:Stmt:=top 51
abbrev i7:List Str:=["_law_script","_law_k","_law_model_here","_law_code"]
abbrev y_:List Str:=i7.append ["_law_whole","_law_some","_law_part"]
theorem gq:aJ y_ i7 (ay kN):=c8
theorem yN (F:At K mg "_law_other_number" kN f fd) (aN:Dn P w K mg base 1 "_law_draw" fj (lS K)) (bh:mg "len"=none) (fQ:mg "sum"=none) (rN:mg "min"=none):Dn P w K mg base 2 "_law_other_number" i7 (yV K):=by
 refine F.oA gq fun cdv A outer s H vs Q E hr h=>?_
 obtain ⟨⟨a,ms,k,n,ρ,B,b,i0,rfl,hS,h63,hk,hb,bk,hi,q⟩⟩:=h
 refine ⟨_,(@cI.h _ _ _ (ao (aO (i:=4) gq.nd (aG (lT K rfl) (by rfl) fQ xP (af (gr ["_law_part"] [none] rfl (dH K (bU (bY hr) (qv 2) aW)) (fun _ _ _ _=>(aR (i:=0) (show List.Nodup (["_law_part"] :List Str) from by decide +kernel))) (fun _ _ _ _=>(aH (aK K) (qv 0) ah)) rfl (by rfl)) ak)))
  (ao (aO (i:=5) gq.nd (d7 (af ah (af (aD kO ah (qv 3)) (af (Ez zA ah) (af (aD bQ (qv 3) ah) (af (aD lR ah ah) (af (qv 4) (af (aD kO (qv 4) ah) (af (aD bQ (qv 4) ah) (af ah ak)))))))))))
  (ao (dS ee rfl (dH K (bU (bY hr) (qv 2) aW)) (aR (i:=6) gq.nd) (au (aO (i:=5) gq.nd (aD nh (qv 5) (d7 (af (aH (aK K) (qv 6) ah) (af (aD bQ (aH (aK K) (qv 6) ah) ah) (af (aD kO (aH (aK K) (qv 6) ah) ah) (af (aD bQ (aH (aK K) (qv 6) ah) ah) ak)))))))))
  (au (aS (aG (zC rfl) (by rfl) rN Qk (af (aH (aK K) (qv 5) (aZ aN hr (af (qv 0) (af (qv 1) (af ah (af (aG (bV K) (by rfl) bh dG (af (qv 5) ak)) ak)))))) (af (aD lR ah ah) ak))))))))),?_⟩
 have tQ:(B.qs.map fun q=>V.ref q.1).length=b.ai.length:=by rw [aF];exact hb.ql
 have pl:=bk.pl
 have P9:QA 10 9:=⟨by decide,by decide,by decide +kernel⟩
 have p9:(10:Int) ^ (9:Int).toNat=1000000000:=by decide +kernel
 refine ⟨_,Z,B.m,_,Z,cO.k (k:=Sum.inr "parts") hb.om,B.lp,Z,⟨_,aC.of hb.op⟩,fun ac hac=>?_⟩
 refine iR (J:=uh K B.lp) (n:=b.ai.length) 0 (fun i o H'=>aE H H'/\o=((b.ai.take i).map (fun p:BP=>p.wo)).map V.int) (by omega) ⟨aA hac _,Z⟩ (fun i o H' hi _ hp=>⟨_,_,aC.of (hp.1 _ _ hb.op),aX (by rw [tQ];exact hi)⟩) (fun o H' _ hp=>⟨_,aC.of (hp.1 _ _ hb.op),by rw [tQ];exact aP _⟩) ?_ ?_
 . rintro j y o H2 H3 hj eL ha ⟨g,e⟩ ⟨rfl,hy⟩
   have ej:=aX hj
   obtain ⟨qq,eq,k1,k2,_,_⟩:=hb.find ej
   have ey:=hy _ (aC.of (g _ _ hb.op))
   rw [bJ,eq] at ey
   cases ey
   refine ⟨_,Z,qq.1,_,_,_,Z,Z,aC.of (g _ _ k1),aQ (j:=2) rfl,ha,g.cF hac _,?_⟩
   subst e
   rw [take_snoc ej,bL,bL]
   rfl
 rintro o H2 _ ha ⟨g2,e⟩
 rw [cC] at e
 subst e
 refine ⟨ac,b.ai.map (fun p:BP=>p.wo),Z,aC.of ha,?_⟩
 have hW:0<=(b.ai.map (fun p:BP=>p.wo)).sum:=Uj fun x hx=>by
  obtain ⟨p,hp,rfl⟩:=bM.mp hx
  exact (bk.wo p hp).1
 generalize (b.ai.map (fun p:BP=>p.wo)).sum=W at *
 refine ⟨_,Z,_,_,Z,Z,_,Z,?_⟩
 refine ⟨_,Z,_,_,Z,Z,_,_,Z,Z,P9,_,Z,_,Z,_,_,Z,Z,_,Z,_,_,Z,Z,(iw 9),fun p1 hp1=>?_⟩
 obtain ⟨i1,i2⟩:=hi
 generalize Ug:upd H2 p1 (HO.lst _)=H3
 have Ag:upd H2 p1 (.lst [.int 0, .int (0-i0), .int (-1), .int (i0+1), .int ((10:Int) ^ (9:Int).toNat), .int W, .int (W-1), .int (W+1), .int 1])=H3:=Ug
 rw [p9] at Ag
 have g3:aE H2 H3:=Ag▸aA hp1 _
 have Iu:H3 p1=some (.lst [.int 0, .int (0-i0), .int (-1), .int (i0+1), .int 1000000000, .int W, .int (W-1), .int (W+1), .int 1]):=by rw [<-Ag,aj]
 clear Ug Ag
 have N0:uK [.int 0, .int (0-i0), .int (-1), .int (i0+1), .int 1000000000, .int W, .int (W-1), .int (W+1), .int 1] := .cons (by omega) (.cons (by omega) (.cons (by omega) (.cons (by omega) (.cons (by omega) (.cons (by omega) (.cons (by omega) (.cons (by omega) (.cons (by omega) .nil))))))))
 have Mv:=g2.trans g3
 refine ⟨_,Z,B.m,_,Z,cO.k (k:=Sum.inr "parts") (Mv _ _ hb.om),B.lp,Z,⟨_,aC.of (Mv _ _ hb.op)⟩,?_⟩
 refine lQ (K:=K) (xs:=B.qs.map fun q=>V.ref q.1) (fun i σ H'=>∃(p:Addr) (vs:List V) (s6:Option V),σ=[some (.ref a),some (.int k),some (.ref B.m),some (.int i0),some (.int W),some (.ref p),s6]/\aE H H'/\H' p=some (.lst vs)/\uK vs/\vs.length=9+4*i)
  ⟨p1,_,_,Z,Mv,Iu,N0,Z⟩ (fun i σ H' _ hp=>by obtain ⟨_,_,_,_,g,_⟩:=hp;exact aC.of (g _ _ hb.op)) ?_ ?_
 . rintro i y σ H' hy ⟨p,vs,s6,rfl,g,hp,hN,hl⟩
   rw [bJ] at hy
   obtain ⟨qq,eq,rfl⟩:=lP.mp hy
   have hib:i<b.ai.length:=by rw [<-hb.ql];exact (eF.mp eq).1
   have ei:=aX hib
   obtain ⟨k1,k2,_,_⟩:=hb.pt i _ qq ei eq
   have kk:=aC.of (K:=K) (g _ _ k1)
   obtain ⟨w1,w2⟩:=bk.wo _ (tR hib)
   refine ⟨_,Z,_,Z,qq.1,_,_,_,Z,Z,kk,aQ (j:=2) rfl,_,Z,qq.1,_,_,_,Z,Z,kk,aQ (j:=2) rfl,_,_,Z,Z,_,Z,qq.1,_,_,_,Z,Z,kk,aQ (j:=2) rfl,_,_,Z,Z,_,Z,qq.1,_,_,_,Z,Z,kk,aQ (j:=3) rfl,_,_,Z,Z,(iw 4),fun p2 hp2=>?_⟩
   generalize Uh:upd H' p2 (HO.lst _)=H4
   have CM:upd H' p2 (.lst [.int (b.ai[i]).wo, .int ((b.ai[i]).wo+1), .int ((b.ai[i]).wo-1), .int ((b.ai[i]).we+1)])=H4:=Uh
   have g4:aE H' H4:=CM▸aA hp2 _
   have UT:H4 p2=some (.lst [.int (b.ai[i]).wo, .int ((b.ai[i]).wo+1), .int ((b.ai[i]).wo-1), .int ((b.ai[i]).we+1)]):=by rw [<-CM,aj]
   clear Uh CM
   refine ⟨p,p2,_,_,Z,Z,g4 _ _ hp,UT,by rw [fu,hl];show 9+4*i+4<=_;omega,fun p3 hp3=>?_⟩
   exact ⟨p3,_,_,Z,g.trans (g4.trans (aA hp3 _)),aj,hN.append (.cons (by omega) (.cons (by omega) (.cons (by omega) (.cons (by omega) .nil)))),by rw [di,hl];show 9+4*i+4=_;omega⟩
 rintro σ H' ⟨p,vs,s6,rfl,g,hp,hN,hl⟩
 refine ⟨_,Z,_,Z,_,Z,_,Z,p,_,Z, .inl (aC.of hp),cQ (g.seq hS) h63 hk (by decide) (by decide) (by omega) fun d _ d0 d1=>?_⟩
 obtain ⟨v,hv,hat⟩:=Ly (xs:=vs) (i:=d) (by omega) d1
 obtain ⟨j,rfl,hj⟩:=hN v hv
 refine ⟨p,_,_,_,Z,Z,aC.of hp,hat,_,_,Z,Z,P9,_,_,Z,q _ _ g ?_⟩
 rw [p9]
 unfold nB
 split <;> omega
abbrev vq:Stmt:=top 52
abbrev rQ:List Str:=["_law_script","_law_k","_law_model_here","_law_deed"]
abbrev NV:List Str:=rQ.append ["_law_way","_law_at_here","_law_thing"]
theorem mD:aJ NV rQ (ay vq):=c8
theorem Mw {ok:Dd->Prop} (bo:Uv ok) (F:At K mg "_law_bent" vq f fd) (aN:Dn P w K mg base 1 "_law_draw" fj (lS K)) (ng:Dn P w K mg base 2 "_law_other_word" jS (Ca K)) (lB:Dn P w K mg base 2 "_law_other_number" i7 (yV K)) (bh:mg "len"=none) (aM:mg "isinstance"=none) (lK:mg "str"=none):Dn P w K mg base 3 "_law_bent" rQ (Gp ok K):=by
 refine F.oA mD fun cdv A outer s H vs Q E hr h=>?_
 obtain ⟨⟨a,ms,k,n,ρ,B,b,z,d,rfl,hS,h63,hk,hb,bk,hz,db,q⟩⟩:=h
 refine ⟨_,(@cI.h _ _ _ (ao (cM (aT gR (aH (bF K) (qv 3) ah) aW (a_ _)) (au jH) aU)
  (ao (aO (i:=4) mD.nd (aZ aN hr (af (qv 0) (af (qv 1) (af ah (af ah ak))))))
  (ao (cM (fC (bW.pt (rZ (aT gR (aH (bF K) (qv 3) ah) aW (a_ _)) (qH (aT gR (qv 4) ah (a_ _)))))) (au (aS (aD (Gi K) (qv 3) (g_ (af (aH (bF K) (qv 3) ah) (af ah ak)))))) aU)
  (ao (cM (fC (bW.pt (rZ (aT gR (aH (bF K) (qv 3) ah) aW (a_ _)) (qH (aT gR (qv 4) ah (a_ _)))))) (au (aS (g_ (af aW ak)))) aU)
  (ao (aO (i:=5) mD.nd (aD bQ ah (aZ aN hr (af (qv 0) (af (qv 1) (af ah (af (aD kO (aG (bV K) (by rfl) bh dG (af (qv 3) ak)) ah) ak)))))))
  (ao (fL (dw (aG (cZ K) (by rfl) aM jT (af (aH (bF K) (qv 3) (qv 5)) (af (jx Fv rfl lK) ak)))) (au (aO (i:=6) mD.nd (aZ ng hr (af (qv 0) (af (qv 1) (af (qv 2) (af (aH (bF K) (qv 3) (qv 5)) ak))))))) (au (aO (i:=6) mD.nd (aZ lB hr (af (qv 0) (af (qv 1) (af (qv 2) (af (aH (bF K) (qv 3) (qv 5)) ak))))))))
  (au (aS (aD (Gi K) (aD (Gi K) (nY (Pq K) (qv 3) qG (qF (qv 5))) (g_ (af (qv 6) ak))) (nY (Pq K) (qv 3) (qF (aD bQ (qv 5) ah)) qG))))))))))),?_⟩
 have e0:jU (Dd.v d) 0=some (.str d.w):=aQ (j:=0) d.v0
 refine ⟨_,Z,z,_,_,_,Z,Z,hz,e0,Z,_,Z,dm (fun c=>absurd (V.str.inj (dO c)) (Dd.Zb (bo.kind d db).2)) (fun _=>?_)⟩
 refine ⟨_,Z,_,Z,cQ hS h63 hk (by decide) (by decide) (by decide) fun way _ w0 w1=>?_⟩
 have no2:∀u:Int,ZI (QC (DF ZZ (DF (QM K) (Cp 3) (tC (.int 0))) (tC (.str "cast")))) (QC (DF ZZ (Cp 4) (tC (.int u)))) [some (.ref a),some (.int k),some (.ref B.m),some (.ref z),some (.int way),none,none] H (fun b' H'=>b'=false/\H'=H):=fun u=>
  ⟨_,Z,z,_,_,_,Z,Z,hz,e0,Z,_,Z,dm (fun c=>absurd (V.str.inj (dO c)) (Dd.abH (bo.kind d db).1)) fun _=>⟨Z,Z⟩⟩
 refine ⟨false,no2 1,cV ?_⟩
 refine ⟨false,no2 2,cV ?_⟩
 refine ⟨_,Z,_,Z,_,Z,z,_,Z, .inr hz,_,_,Z,Z,cQ hS h63 hk (by decide) (by decide) (by have:=(bo.len d db).1;omega) fun at' _ a0 a1=>⟨_,_,Z,Z,?_⟩⟩
 obtain ⟨dl,dl2⟩:=bo.len d db
 obtain ⟨i,ei⟩:∃i:Nat,1+at'=(i:Int):=⟨(1+at').toNat,by omega⟩
 show gc 5 (.int (1+at')) _ _ _
 rw [ei]
 have hi1:1<=i:=by omega
 have hil:i<d.v.length:=by omega
 obtain ⟨i',ei'⟩:∃i',i=i'+1:=⟨i-1,by omega⟩
 obtain ⟨v,hv⟩:∃v,d.v[i]?=some v:=⟨_,aX hil⟩
 have hat:jU (Dd.v d) (i:Int)=some v:=aQ hv
 refine ⟨fun σ H'=>aE H H'/\∃(t:V),σ=[some (.ref a),some (.int k),some (.ref B.m),some (.ref z),some (.int way),some (.int (i:Int)),some t]/\alike v t,?_,?_⟩
 . rcases bo.at_ d i' v db (by rw [<-ei'];exact hv) with ⟨s,rfl,hs⟩|⟨j,rfl,hj⟩
   . refine ⟨_,Z,_,Z,z,_,_,_,Z,Z,hz,hat,_,_,_,_,Z,gy.str _,iB,_,Z,qC ?_⟩
     exact ⟨_,Z,_,Z,_,Z,_,Z,_,Z,z,_,_,_,Z,Z,hz,hat,⟨⟨a,ms,k,n,ρ,B,b,s,Z,hS,h63,hk,hb,bk,hs,fun r H' g hr=>⟨g,_,Z, .inl ⟨s,r,Z,Z,hr⟩⟩⟩⟩⟩
   . refine ⟨_,Z,_,Z,z,_,_,_,Z,Z,hz,hat,_,_,_,_,Z,gy.int _,Nx,_,Z,cV ?_⟩
     exact ⟨_,Z,_,Z,_,Z,_,Z,_,Z,z,_,_,_,Z,Z,hz,hat,⟨⟨a,ms,k,n,ρ,B,b,j,Z,hS,h63,hk,hb,bk,hj,fun r H' g hr=>⟨g,_,Z, .inr ⟨j,r,Z,Z,hr⟩⟩⟩⟩⟩
 rintro σ H4 ⟨g4,t,rfl,al⟩
 obtain ⟨d',ed,bd⟩:=bo.set d i' v t db (by rw [<-ei'];exact hv) al
 rw [<-ei'] at ed
 have hz4:=g4.tup hz
 have ed':(d.v.take i++[t])++d.v.drop (i+1)=d'.v:=by
  rw [ed,List.set_eq_take_append_cons_drop,aB hil,J7];rfl
 have ahu:v_ (Dd.v d) none (some (i:Int))=d.v.take i:=Y5 _ _
 have ahv:v_ (Dd.v d) (some ((i:Int)+1)) none=d.v.drop (i+1):=by rw [show (i:Int)+1=((i+1:Nat):Int) by omega,Uc]
 have nwL:¬ (HT.dI (Dd.v d).length 0 none=0/\HT.dI (Dd.v d).length (Dd.v d).length (some (i:Int))=(Dd.v d).length):=by rw [HT.wZ];omega
 have nwR:¬ (HT.dI (Dd.v d).length 0 (some ((i:Int)+1))=0/\HT.dI (Dd.v d).length (Dd.v d).length none=(Dd.v d).length):=by rw [show (i:Int)+1=((i+1:Nat):Int) by omega,HT.wZ];omega
 have hlt:(d.v.take i).length=i:=by rw [lq];omega
 refine ⟨_,Z,_,Z,_,Z,z,_,Z,hz4,nwL,fun p hp=>?_⟩
 rw [ahu]
 have g5:=aA hp (.tup (d.v.take i))
 have h5:upd H4 p (.tup (d.v.take i)) p=some (.tup (d.v.take i)):=aj
 generalize upd H4 p (.tup (d.v.take i))=H5 at g5 h5
 refine ⟨_,Z,(iw 1),fun p' xu=>?_⟩
 have g6:=aA xu (.tup [t])
 refine ⟨p,p',_,[t],Z,Z,cR.of (g6 _ _ h5),cR.of aj,(by rw [hlt,fu];show _+1<=_;omega),(fun e=>absurd (ie List.length e) (by rw [hlt];show ¬ i=0;omega)),(fun _ e=>nomatch e),fun _ _ u hu=>?_⟩
 have g7:=aA hu (.tup (d.v.take i++[t]))
 have XW:=g4.trans (g5.trans (g6.trans g7))
 have h7:upd (upd H5 p' (.tup [t])) u (.tup (d.v.take i++[t])) u=some (.tup (d.v.take i++[t])):=aj
 generalize upd (upd H5 p' (.tup [t])) u (.tup (d.v.take i++[t]))=H7 at XW h7
 refine ⟨_,Z,_,Z,_,_,Z,Z,_,Z,z,_,Z,XW.tup hz,nwR,fun p3 hp3=>?_⟩
 rw [ahv]
 have g8:=aA hp3 (.tup (d.v.drop (i+1)))
 refine ⟨u,p3,_,_,Z,Z,cR.of (g8 _ _ h7),cR.of aj,(by rw [di,hlt,J_,fu];show i+1+_<=_;omega),(fun e=>absurd (ie List.length e) (by rw [di];show ¬ _+1=0;omega)),(fun _ e=>?_),fun _ _ z2 hz2=>?_⟩
 . rw [e,qZ] at ed'
   exact q u d' _ (XW.trans g8) (by rw [<-ed'];exact g8 _ _ h7) bd
 . exact q z2 d' _ (XW.trans (g8.trans (aA hz2 _))) (by rw [<-ed'];exact aj) bd
abbrev qm:Stmt:=top 62
abbrev RI:List Str:=["_law_script"]
abbrev aek:List Str:=RI.append ["_law_owners","_law_names_here","_law_hold","_law_model_here","_law_at_here","_law_part","_law_deed","_law_way"]
theorem jD:aJ aek RI (ay qm):=c8
theorem acP {T:TC} (F:At K mg "law" qm f fd) (aN:Dn P w K mg base 1 "_law_draw" fj (lS K)) (qo:Dn P w K mg base 2 "_law_names" pY (FW K))
  (vt:Dn P w K mg base 6 "_law_tells" p_ (t_ 2 T K)) (vv:Dn P w K mg base 5 "_law_begin" qa (O9 T K)) (vz:Dn P w K mg base 1 "_law_model" pZ (Ph K)) (wQ:Dn P w K mg base 6 "_law_prep" rP (Up T K))
  (kY:Dn P w K mg base 2 "_law_much" ny (DZ K)) (rR:Dn P w K mg base 3 "_law_bent" rQ (Gp yz K)) (tL:Dn P w K mg base 8 "_law_single" nT (LJ T qJ K))
  (bh:mg "len"=none) (bH:mg "range"=none) (rN:mg "min"=none) (XX:mg "max"=none) (fQ:mg "sum"=none):iA P w K mg base tM 9 f fd RI (JV K):=by
 refine F.fn.ok jD (fun vs H Q E h=>?_) (fun cdv A outer s H vs Q E hr h=>?_)
 . obtain ⟨a,ns,rfl,_⟩:=h
   rfl
 obtain ⟨a,ns,rfl,hS,h63,q⟩:=h
 refine ⟨_,(@cI.h _ _ _ (ao (aO (i:=1) jD.nd (aZ qo hr (af (qv 0) (af ah (af (aD bQ ah (aZ aN hr (af (qv 0) (af ah (af ah (af ah ak)))))) ak)))))
  (ao (aO (i:=2) jD.nd (aZ qo hr (af (qv 0) (af ah (af ah ak)))))
  (ao (aO (i:=3) jD.nd (aZ vv hr (af (qv 1) ak)))
  (ao (aO (i:=4) jD.nd (aZ vz hr (af (qv 1) ak)))
  (ao (cW (aZ wQ hr (af (qv 0) (af (qv 3) (af (qv 4) (af (qv 2) ak))))))
  (ao (dS ee rfl (dU (by rfl) bH (af (aD bQ ah (aZ aN hr (af (qv 0) (af ah (af ah (af ah ak)))))) ak)) (aR (i:=5) jD.nd) (ao (aO (i:=6) jD.nd (d7 (af (aH (aK K) (qv 2) (aD jq (qv 5) ah)) (af (aH (aK K) (qv 1) ah) (af ah (af ah ak))))))
  (ao (fL (aT ir (aG (bV K) (by rfl) bh dG (af (bU (bY hr) (qv 4) aW) ak)) ah (a_ _)) (au (aO (i:=6) jD.nd (aH (aK K) (bU (bY hr) (qv 4) aW) (aZ aN hr (af (qv 0) (af (aD bQ ah (qv 5)) (af ah (af (aG (bV K) (by rfl) bh dG (af (bU (bY hr) (qv 4) aW) ak)) ak)))))))) aU)
  (ao (aO (i:=7) jD.nd (g_ (af aW (af (aH (aK K) (qv 6) ah) (af (aZ kY hr (af (qv 0) (af (aD bQ ah (qv 5)) (af ah ak)))) ak)))))
  (ao (aO (i:=8) jD.nd (aZ aN hr (af (qv 0) (af (aD bQ ah (qv 5)) (af ah (af ah ak))))))
  (ao (fL (aT ir (qv 8) ah (a_ _)) (au (aO (i:=7) jD.nd (g_ (af aW (af (aH (aK K) (qv 6) ah) (af (aD bQ ah (aZ aN hr (af (qv 0) (af (aD bQ ah (qv 5)) (af ah (af (aG (zC rfl) (by rfl) rN Qk (af (aH (aK K) (qv 6) ah) (af (aD lR ah ah) ak))) ak)))))) ak)))))) aU)
  (ao (fL (aT ir (qv 8) ah (a_ _)) (au (aO (i:=7) jD.nd (g_ (af aW (af (aH (aK K) (qv 6) ah) (af (aG (zC rfl) (by rfl) rN Qk (af (aH (aK K) (qv 6) ah) (af (aD lR ah ah) ak))) ak)))))) aU)
  (ao (fL (aT gR (aZ aN hr (af (qv 0) (af (aD bQ ah (qv 5)) (af ah (af ah ak))))) ah (a_ _)) (au (aO (i:=7) jD.nd (aZ rR hr (af (qv 0) (af (aD bQ ah (qv 5)) (af (qv 4) (af (qv 7) ak))))))) aU)
  (ao (fL (aT gR (aZ aN hr (af (qv 0) (af (aD bQ ah (qv 5)) (af ah (af ah ak))))) ah (a_ _)) (au (aO (i:=7) jD.nd (aZ rR hr (af (qv 0) (af (aD bQ ah (qv 5)) (af (qv 4) (af (qv 7) ak))))))) aU)
  (au (cM (bW.pt (iZ (dJ (dw (aZ tL hr (af (qv 0) (af (aD bQ ah (qv 5)) (af (qv 3) (af (qv 4) (af (qv 7) ak)))))))) (iD (dJ (dw (aZ vt hr (af (qv 3) (af (qv 4) ak)))))))) (au (aS fD)) aU)))))))))))
  (au (aS fD))))))))),?_⟩
 refine ⟨_,Z,_,Z,cQ hS h63 (by decide) (by decide) (by decide) (by decide) fun od _ o0 o1=>⟨_,_,Z,Z,?_⟩⟩
 obtain ⟨no,hno⟩:∃no:Nat,1+od=(no:Int):=⟨(1+od).toNat,by omega⟩
 refine HE hno hS h63 (by decide) (by omega) fun zo nso H1 g1 hzo _ akj acQ acR=>?_
 have xG:=g1.seq hS
 refine ⟨_,Z,HE (show (6:Int)=((6:Nat):Int) from rfl) xG h63 (by decide) (by decide) fun zn nsn H2 g2 hzn _ akk acT acU=>?_⟩
 have hS2:=g2.seq xG
 have My:=g2 _ _ hzo
 rw [YO] at My hzn
 have eL:=O_ nso
 have hnl:=O_ nsn
 have yf:=HP acQ
 have RJ:=Tr acR
 have UR:=HP acT
 have acV:=Tr acU
 generalize Eh nso=own at *
 generalize Eh nsn=nms at *
 clear acQ acR acT acU hzo
 refine ⟨_,Z,⟨⟨zo,own,0,fun _=>none,Z,aC.of My,Z,yf,fun o ho=>(RJ o ho).isNm,by omega,(fun b c e=>by cases e),fun ρ3 A3 H3 oY F3=>?_⟩⟩⟩
 have o3:aE (out (fun _=>none) H2) (out ρ3 H3):=F3.out
 have Pu:=oY
 refine ⟨_,Z,⟨⟨zo,own,1,ρ3,Z,F3.seq (aC.of My) rfl,oY.g,by omega,fun ρ4 B4 H4 G4 Cg k4=>?_⟩⟩⟩
 have F4:Fr 1 ρ3 H3 ρ4 H4:=fun b o e _=>k4 b o e
 have nv:=oY.other F4 G4 (by decide)
 have o4:=o3.trans F4.out
 have fS:=(uG.of hS2).go o4
 have fN:=(uG.of (aC.of (K:=K) hzn)).go o4
 have hS4:=fS _ _ (aE.refl _)
 have ahw:(own.foldl gC hs0).kn=0:=Lm own hs0
 obtain ⟨gd4,en4⟩:=gd0 (own:=own) (by omega) (by omega) (fun o ho=>(RJ o ho).isNm)
 generalize own.foldl gC hs0=st4 at *
 generalize UH:A3.a=x
 generalize UI:B4.m=mm
 have fO:=(uG.of (aC.of (K:=K) My)).go o4
 have owS:∀o∈own,PyData.strOk o=true:=fun o ho=>(RJ o ho).strOk
 clear Pu oY o3 F4 k4 o4 F3 hS4 hS2 xG My hzn
 refine ⟨_,Z,_,Z,_,Z,_,Z,⟨⟨0,1,ρ4,A3,B4,st4,_,a,zn,ns,nms,by rw [UH,UI];rfl,by decide,nv,Cg,gd4,fS,h63,fN,UR,acV,RJ,by omega,en4,Z,Z,fun ρ5 A5 B5 H5 zP b5 vS EW gd5 EX xH XY ek5 akl o5=>?_⟩⟩⟩
 rw [UH] at EX
 rw [UI] at xH
 have XY:b5.own=own:=XY
 have fS5:=fS.go o5
 have fN5:=fN.go o5
 have fO5:=fO.go o5
 rw [ahw] at ek5
 clear nv Cg gd4 fS fN fO o5 UH UI
 refine ⟨_,Z,cQ (fS5 _ _ (aE.refl _)) h63 (by decide) (by decide) (by decide) (by decide) fun cd _ c0 c1=>⟨_,_,Z,Z,?_⟩⟩
 refine ⟨_,Z,by omega,by omega,?_⟩
 refine fW (lo:=0) (n:=(1+cd).toNat) (fun i σ H'=>∃ρ' A' B' st' b' s5 s6 s7 s8,σ=[some (.ref a),some (.ref zo),some (.ref zn),some (.ref x),some (.ref mm),s5,s6,s7,s8]/\HH T 0 ρ' A' H' st'/\bg 1 ρ' B' H' b'/\fT (1+i) st' b'/\A'.a=x/\B'.m=mm/\b'.own=own/\st'.kn<=40000*i/\uG K ρ' H' a (ns.map V.int)/\uG K ρ' H' zn (nms.map V.str)/\uG K ρ' H' zo (own.map V.str))
  ⟨ρ5,A5,B5,zP,b5,_,_,_,_,Z,vS,EW,gd5,EX,xH,XY,by omega,fS5,fN5,fO5⟩ ?_ ?_
 . clear vS EW gd5 fS5 fN5 fO5 EX xH XY
   rintro i σ H6 hi ⟨ρ6,A6,B6,st6,b6,s5,s6,s7,s8,rfl,Iq,EY,gd6,UK,P_,eo6,ek6,fS6,fN6,fO6⟩
   have e0:(0:Int)+(i:Int)=((i:Nat):Int):=by omega
   rw [e0]
   have hS6:=fS6 _ _ (aE.refl _)
   have hO6:=fO6 _ _ (aE.refl _)
   have hN6:=fN6 _ _ (aE.refl _)
   have P9:QA 10 9:=⟨by decide,by decide,by decide +kernel⟩
   have p9:(10:Int) ^ (9:Int).toNat=1000000000:=by decide +kernel
   have bk:=gd6.bk Iq.wf
   obtain ⟨v,hv,hat⟩:=Ly (xs:=nms.map V.str) (i:=(i:Int) % 6) (by rw [aF];omega) (by rw [aF];omega)
   obtain ⟨xn,hxn,rfl⟩:=bM.mp hv
   obtain ⟨jo,o,ejo,eo,eat⟩:=K_ (l:=own) (d:=0) (by decide) (by omega)
   refine ⟨_,Z,_,Z,_,_,Z,Z,(by show (0:Int)<6;decide),zn,_,_,_,Z,Z,hN6,hat,_,Z,zo,_,_,_,Z,Z,hO6,eat,(iw 4),fun p0 hp0=>?_⟩
   have g7:=aA hp0 (.lst [.str xn, .str o, .int 5, .int 0])
   have UU:upd H6 p0 (.lst [.str xn, .str o, .int 5, .int 0]) p0=some (.lst [.str xn, .str o, .int 5, .int 0]):=aj
   show gc 6 (.ref p0) _ (upd H6 p0 (.lst [.str xn, .str o, .int 5, .int 0])) _
   generalize upd H6 p0 (.lst [.str xn, .str o, .int 5, .int 0])=H7 at g7 UU
   have Mz:=EY.mono g7
   have Iz:=g7.seq hS6
   have om7:H7 mm=some (.dK (fB B6 b6.bot)):=by rw [<-P_];exact Mz.om
   have tQ:(B6.qs.map fun q=>V.ref q.1).length=b6.ai.length:=by rw [aF];exact EY.ql
   refine ⟨fun σ' H'=>H7=H'/\∃(r:Addr) (x0 y0:Str) (w0 w1:Int) (rest:List V),σ'=[some (.ref a),some (.ref zo),some (.ref zn),some (.ref x),some (.ref mm),some (.int (i:Int)),some (.ref r),s7,s8]/\H7 r=some (.lst (.str x0 :: .str y0 :: .int w0 :: .int w1::rest))/\wl x0<=20/\1<=w0,?_,?_⟩
   . refine ⟨_,Z,mm,_,Z,cO.k (k:=Sum.inr "parts") om7,B6.lp,_,Z, .inl (aC.of Mz.op),_,_,Z,Z,_,Z,dm (fun c=>?_) (fun c=>?_)⟩
     . have c':0<b6.ai.length:=by have:(0:Int)<(((B6.qs.map fun q=>V.ref q.1).length:Nat):Int):=dO c;omega
       refine ⟨_,Z,mm,_,Z,cO.k (k:=Sum.inr "parts") om7,_,Z,_,Z,_,_,Z,Z,_,Z,mm,_,Z,cO.k (k:=Sum.inr "parts") om7,B6.lp,_,Z, .inl (aC.of Mz.op),cQ Iz h63 (by omega) (by decide) (by decide) (by omega) fun d _ d0 d1=>?_⟩
       obtain ⟨jd,ejd⟩:∃jd:Nat,d=(jd:Int):=⟨d.toNat,by omega⟩
       subst ejd
       have hjd:jd<b6.ai.length:=by omega
       obtain ⟨qq,Eo,r1,r2,_,_⟩:=Mz.find (aX hjd)
       have i9:=tR hjd
       exact ⟨B6.lp,_,_,_,Z,Z,aC.of Mz.op,aQ (by rw [bJ,Eo];rfl),Z,qq.1,_,_,_,_,_,Z,r1,bk.ai _ i9,gd6.j6.w1 _ i9⟩
     . exact ⟨Z,p0,xn,o,5,0,[],Z,UU,Bg (acV xn hxn).isNm,by decide⟩
   rintro σ H7' ⟨rfl,r,x0,y0,w0,w1,rest,rfl,hr7,Er,hw0⟩
   clear UU hat hv
   have i0:∀{H':Hp},aE H7 H'->aC K H' r (.str x0 :: .str y0 :: .int w0 :: .int w1::rest):=fun g=>aC.of (g _ _ hr7)
   have at0:jU (V.str x0 :: .str y0 :: .int w0 :: .int w1::rest) 0=some (.str x0):=aQ (j:=0) rfl
   have at2:jU (V.str x0 :: .str y0 :: .int w0 :: .int w1::rest) 2=some (.int w0):=aQ (j:=2) rfl
   refine ⟨_,Z,r,_,_,_,Z,Z,i0 (aE.refl _),at0,_,Z,_,Z,_,_,Z,Z,KL Iz h63 (by omega) (by decide) (by decide) fun mu H8 u1 u2 g8=>?_⟩
   refine ⟨(iw 3),fun z0 hz0=>?_⟩
   have g9:=aA hz0 (.tup (Dd.v (.rise x0 mu)))
   have hz9:upd H8 z0 (.tup (Dd.v (.rise x0 mu))) z0=some (.tup (Dd.v (.rise x0 mu))):=aj
   have IA:=g8.trans g9
   show gc 7 (.ref z0) _ (upd H8 z0 (.tup (Dd.v (.rise x0 mu)))) _
   generalize upd H8 z0 (.tup (Dd.v (.rise x0 mu)))=H9 at hz9 IA
   clear g8 g9 hz0
   refine ⟨_,Z,_,Z,_,_,Z,Z,cQ (IA.seq Iz) h63 (by omega) (by decide) (by decide) (by decide) fun way _ y0' y1'=>?_⟩
   have bd0:yz (.rise x0 mu):= .inr ⟨_,_,Z,Er,by unfold nB;omega⟩
   have mn:∀m:Int,1<=m->1<=(if (1000000000:Int)<m then 1000000000 else m)/\(if (1000000000:Int)<m then 1000000000 else m)<=1000000000:=fun m h=>by split <;> omega
   refine ⟨fun σ' Ha=>∃(z:Addr) (d:Dd),σ'=[some (.ref a),some (.ref zo),some (.ref zn),some (.ref x),some (.ref mm),some (.int (i:Int)),some (.ref r),some (.ref z),some (.int way)]/\aE H7 Ha/\Ha z=some (.tup d.v)/\yz d,?_,?_⟩
   . refine ⟨_,Z,_,_,Z,Z,_,Z,dm (fun _=>?_) (fun _=>?_)⟩
     . refine ⟨_,Z,r,_,_,_,Z,Z,i0 IA,at0,_,Z,_,Z,_,_,Z,Z,_,Z,r,_,_,_,Z,Z,i0 IA,at2,_,_,Z,Z,P9,_,_,Z,?_⟩
       rw [p9]
       obtain ⟨m1,m2⟩:=mn w0 hw0
       refine cQ (IA.seq Iz) h63 (by omega) (by decide) (by decide) (by omega) fun d _ d0 d1=>⟨_,_,Z,Z,(iw 3),fun z hz=>?_⟩
       exact ⟨z, .mishap x0 (1+d),Z,IA.trans (aA hz _),aj, .inl ⟨_,_,Z,Er,by unfold nB;omega⟩⟩
     . exact ⟨z0,_,Z,IA,hz9,bd0⟩
   clear hz9 bd0 IA
   rintro σ Ha ⟨z1,d1,rfl,gA,nq,xJ⟩
   refine ⟨fun σ' Ha=>∃(z:Addr) (d:Dd),σ'=[some (.ref a),some (.ref zo),some (.ref zn),some (.ref x),some (.ref mm),some (.int (i:Int)),some (.ref r),some (.ref z),some (.int way)]/\aE H7 Ha/\Ha z=some (.tup d.v)/\yz d,?_,?_⟩
   . refine ⟨_,Z,_,_,Z,Z,_,Z,dm (fun _=>?_) (fun _=>?_)⟩
     . refine ⟨_,Z,r,_,_,_,Z,Z,i0 gA,at0,_,Z,r,_,_,_,Z,Z,i0 gA,at2,_,_,Z,Z,P9,_,_,Z,(iw 3),fun z hz=>?_⟩
       obtain ⟨m1,m2⟩:=mn w0 hw0
       rw [p9] at *
       exact ⟨z, .mishap x0 (if (1000000000:Int)<w0 then 1000000000 else w0),Z,gA.trans (aA hz _),aj, .inl ⟨_,_,Z,Er,by unfold nB;omega⟩⟩
     . exact ⟨z1,d1,Z,gA,nq,xJ⟩
   clear nq xJ gA
   clear z1 d1 Ha
   rintro σ Ha ⟨z1,d1,rfl,gA,nq,xJ⟩
   refine ⟨fun σ' Ha=>∃(z:Addr) (d:Dd),σ'=[some (.ref a),some (.ref zo),some (.ref zn),some (.ref x),some (.ref mm),some (.int (i:Int)),some (.ref r),some (.ref z),some (.int way)]/\aE H7 Ha/\Ha z=some (.tup d.v)/\yz d,?_,?_⟩
   . refine ⟨_,Z,_,Z,_,_,Z,Z,cQ (gA.seq Iz) h63 (by omega) (by decide) (by decide) (by decide) fun bw _ _ _=>⟨Z,_,Z,dm (fun _=>?_) (fun _=>?_)⟩⟩
     . exact ⟨_,Z,_,Z,_,_,Z,Z,_,Z,_,Z,Ip P_ (gA.seq Iz) h63 (by omega) (Mz.mono gA) bk (cR.of nq) xJ fun z' d' H' g hz bd=>⟨z',d',Z,gA.trans g,hz,bd⟩⟩
     . exact ⟨z1,d1,Z,gA,nq,xJ⟩
   clear nq xJ gA
   clear z1 d1 Ha
   rintro σ Ha ⟨z1,d1,rfl,gA,nq,xJ⟩
   refine ⟨fun σ' Ha=>∃(z:Addr) (d:Dd),σ'=[some (.ref a),some (.ref zo),some (.ref zn),some (.ref x),some (.ref mm),some (.int (i:Int)),some (.ref r),some (.ref z),some (.int way)]/\aE H7 Ha/\Ha z=some (.tup d.v)/\yz d,?_,?_⟩
   . refine ⟨_,Z,_,Z,_,_,Z,Z,cQ (gA.seq Iz) h63 (by omega) (by decide) (by decide) (by decide) fun bw _ _ _=>⟨Z,_,Z,dm (fun _=>?_) (fun _=>?_)⟩⟩
     . exact ⟨_,Z,_,Z,_,_,Z,Z,_,Z,_,Z,Ip P_ (gA.seq Iz) h63 (by omega) (Mz.mono gA) bk (cR.of nq) xJ fun z' d' H' g hz bd=>⟨z',d',Z,gA.trans g,hz,bd⟩⟩
     . exact ⟨z1,d1,Z,gA,nq,xJ⟩
   clear nq xJ gA
   clear z1 d1 Ha
   rintro σ Ha ⟨z,d,rfl,gA,nq,xJ⟩
   have g6A:=g7.trans gA
   have hhA:=Iq.mono g6A
   have hbA:=EY.mono g6A
   have oA:aE (out ρ6 H6) (out ρ6 Ha):=iT g6A
   refine ⟨_,Z,_,Z,_,_,Z,Z,_,Z,_,Z,_,Z,⟨⟨0,1,1+i,ρ6,A6,B6,st6,b6,_,_,z,d,by rw [UK,P_];rfl,by decide,nq,hhA,hbA,gd6,by omega,Zi xJ,abX xJ,fun ρB AB BB HB stB bB US hbB gdB eaB emB eoB ekB dnB oB=>⟨_,Z,cV ?_⟩⟩⟩⟩
   have ac2:bB.own=own:=eoB.trans eo6
   have ahx:∀o∈bB.own,PyData.strOk o=true:=fun o ho=>owS o (by rw [<-ac2];exact ho)
   refine ⟨_,Z,_,Z,⟨⟨0,1,ρB,AB,BB,stB,bB,1+i+1,by rw [eaB,UK,emB,P_];rfl,by decide,US,hbB,gdB,by omega,ahx,by omega,fun ρC AC HC k Mu hk XU XS oC=>⟨_,Z,cV ?_⟩⟩⟩⟩
   exact ⟨ρC,AC,BB,_,bB,_,_,_,_,Z,Mu,XU,by have:=Xn gdB k;rw [show 1+(i+1)=1+i+1 by omega];exact this,XS.trans (eaB.trans UK),emB.trans P_,ac2,by show k<=_;omega,fS6.go (oA.trans (oB.trans oC)),fN6.go (oA.trans (oB.trans oC)),fO6.go (oA.trans (oB.trans oC))⟩
 rintro σ H6 _
 exact q H6
end
theorem all_mk {l:PySem.W.OpenLaw} {w:World} {K:Fg} {h:Heap} {mg:SO} {fa:Addr} (X:K.In h) (G:h.Ns mainGlobals mg) (hfa:mg "law"=some (.ref fa))
  {f:Addr} {od an:Option Addr} {sl:Array (Option Value)} {oc kV dc pm cd ct:Value}
  (a:PySem.W.nsIn K mainGlobals "law"=some (some (.ref f))) (l1:K.lookup f=some ⟨oc,od, .func (PySem.W.fnOf "law" "law" (dW qm) (cE qm) (ay qm) .none kV dc pm an cd ct),sl⟩) (c:PySem.W.codeIn K cd "law"=true) (k:PySem.W.keepIn K (.ref f)=true)
  (E8:cL K "common_factor" nZ) (UW:cL K "made_of" yC) (UX:cL K "is_name" yD) (GP:cL K "check_amount" pO) (MA:cL K "check_loss" sN) (MB:cL K "amounts_of" sO) (E9:cL K "factor_of_all" n_) (NW:cL K "_law_draw" u0) (NX:cL K "_law_name" u6) (MC:cL K "_law_names" sW) (NY:cL K "_law_much" u7) (RK:cL K "_law_int" wG) (MD:cL K "_law_least" sX) (UY:cL K "_law_is" yG) (Df:cL K "_law_part_list" m7) (Bw:cL K "_law_share_list" mj) (ME:cL K "_law_model" sY) (NZ:cL K "_law_seat" u9) (E_:cL K "_law_new_part" oz) (AI:cL K "_law_tells_parts" lu) (ze:cL K "_law_tells_landed" kL) (MF:cL K "_law_tells" tD) (MG:cL K "_law_begin" tF) (RL:cL K "_law_hot" wJ) (UZ:cL K "_law_at" yI) (N1:cL K "_law_rows" vd) (N3:cL K "_law_bear" vf) (By:cL K "_law_model_cast" mw) (MH:cL K "_law_loads" tH) (N4:cL K "_law_prep" vg) (Fb:cL K "_law_due_part" oF) (RM:cL K "_law_due" wO) (GQ:cL K "_law_hold_do" qf) (MI:cL K "_law_tried" tK) (Dg:cL K "_law_model_one" m_) (Fc:cL K "_law_model_do" oG) (Jj:cL K "_law_single" qX) (BC:cL K "_law_other_word" mC) (zf:cL K "_law_other_number" kN) (N5:cL K "_law_bent" vq)
  (ael:PySem.W.nsIn K mainGlobals "len"=some none)
  (Zk:PySem.W.nsIn K mainGlobals "range"=some none)
  (aem:PySem.W.nsIn K mainGlobals "sum"=some none)
  (ac3:PySem.W.nsIn K mainGlobals "list"=some none)
  (aen:PySem.W.nsIn K mainGlobals "zip"=some none)
  (aeo:PySem.W.nsIn K mainGlobals "all"=some none)
  (aep:PySem.W.nsIn K mainGlobals "int"=some none)
  (ac4:PySem.W.nsIn K mainGlobals "bool"=some none)
  (aeq:PySem.W.nsIn K mainGlobals "str"=some none)
  (Zl:PySem.W.nsIn K mainGlobals "tuple"=some none)
  (aer:PySem.W.nsIn K mainGlobals "abs"=some none)
  (MJ:PySem.W.nsIn K mainGlobals "isinstance"=some none)
  (aes:PySem.W.nsIn K mainGlobals "min"=some none)
  (aet:PySem.W.nsIn K mainGlobals "max"=some none)
  (MK:PySem.W.nsIn K mainGlobals "ValueError"=some none)
  {RN:Tok} (U0:PySem.W.nsIn K mainGlobals "LETTERS"=some (some (.str "abcdefghijklmnopqrstuvwxyz" RN)))
  {cD:Addr} (Zm:PySem.W.nsIn K mainGlobals "Hold"=some (some (.ref cD))) (Zn:PySem.W.plainGet K cD Str.empty=true) (Zo:PySem.W.hasDictIn K cD=true) (Zp:PySem.W.plainOver K cD=true) (Zq:PySem.W.findIn K (.ref cD) "__setattr__"=some (some (.builtin "object.__setattr__"))) (Zr:PySem.W.makesIn K cD=true) (Zs:PySem.W.keepIn K (.ref cD)=true)
  (N6:dQ K cD "__init__" "Hold.__init__" uU) (Fd:dQ K cD "place_of" "Hold.place_of" oj) (GR:dQ K cD "part_of" "Hold.part_of" pQ) (Dh:dQ K cD "check_new" "Hold.check_new" mZ) (Jk:dQ K cD "roster" "Hold.roster" qN) (ML:dQ K cD "parts" "Hold.parts" sQ) (MM:dQ K cD "whole" "Hold.whole" sR) (yO:dQ K cD "beyond_common" "Hold.beyond_common" j_) (GS:dQ K cD "tops_of" "Hold.tops_of" pS) (N7:dQ K cD "stow" "Hold.stow" uQ) (N8:dQ K cD "sign" "Hold.sign" uR) (N9:dQ K cD "load" "Hold.load" uS) (Jl:dQ K cD "shares" "Hold.shares" qR) (Jo:dQ K cD "landed" "Hold.landed" qU) (Fe:dQ K cD "given_up" "Hold.given_up" ou) (Jp:dQ K cD "lessen" "Hold.lessen" qO) (MN:dQ K cD "blend" "Hold.blend" sS) (N_:dQ K cD "cast" "Hold.cast" uV) (Jq:dQ K cD "mishap" "Hold.mishap" qV) (Oa:dQ K cD "rise" "Hold.rise" uZ)
  (Jr:PySem.W.findIn K (.ref cD) "places"=some none)
  (Js:PySem.W.findIn K (.ref cD) "aboard"=some none)
  (Jt:PySem.W.findIn K (.ref cD) "ashore"=some none)
  (MO:PySem.W.findIn K (.ref cD) "names"=some none)
  (Ju:PySem.W.findIn K (.ref cD) "bottom"=some none)
  (Jv:PySem.W.findIn K (.ref cD) "common"=some none)
  (Jw:PySem.W.findIn K (.ref cD) "purses"=some none)
  {gG:Addr} (Zt:PySem.W.nsIn K mainGlobals "Part"=some (some (.ref gG))) (Zu:PySem.W.plainGet K gG Str.empty=true) (Zv:PySem.W.hasDictIn K gG=true) (Zw:PySem.W.plainOver K gG=true) (Zx:PySem.W.findIn K (.ref gG) "__setattr__"=some (some (.builtin "object.__setattr__"))) (Zy:PySem.W.makesIn K gG=true) (Zz:PySem.W.keepIn K (.ref gG)=true)
  (Ob:dQ K gG "__init__" "Part.__init__" uP)
  (Oc:PySem.W.findIn K (.ref gG) "name"=some none)
  (MP:PySem.W.findIn K (.ref gG) "owner"=some none)
  (MQ:PySem.W.findIn K (.ref gG) "worth"=some none)
  (Jx:PySem.W.findIn K (.ref gG) "weight"=some none)
  (MR:PySem.W.findIn K (.ref gG) "scale"=some none)
  (RO:PySem.W.findIn K (.ref gG) "row"=some none)
  {dX:Addr} (U1:PySem.W.nsIn K mainGlobals "Bottom"=some (some (.ref dX))) (U3:PySem.W.plainGet K dX Str.empty=true) (U4:PySem.W.hasDictIn K dX=true) (U5:PySem.W.plainOver K dX=true) (U6:PySem.W.findIn K (.ref dX) "__setattr__"=some (some (.builtin "object.__setattr__"))) (U7:PySem.W.makesIn K dX=true) (U8:PySem.W.keepIn K (.ref dX)=true)
  (Jy:dQ K dX "__init__" "Bottom.__init__" qK) (Jz:dQ K dX "over" "Bottom.over" qQ) (GU:dQ K dX "share" "Bottom.share" pX) (JA:dQ K dX "grow" "Bottom.grow" qL)
  (GV:PySem.W.findIn K (.ref dX) "steps"=some none)
  (Di:PySem.W.findIn K (.ref dX) "product"=some none)
  (GW:PySem.W.findIn K (.ref dX) "known"=some none)
  {iI kZ iJ iC gU fk gx iK jI gW dR:Addr}
  (RP:PySem.W.nsIn K mainGlobals "BadName"=some (some (.ref iI))) (WH:PySem.W.nsIn K mainGlobals "Twice"=some (some (.ref kZ))) (RQ:PySem.W.nsIn K mainGlobals "NoOwner"=some (some (.ref iJ))) (U9:PySem.W.nsIn K mainGlobals "NoPart"=some (some (.ref iC))) (Od:PySem.W.nsIn K mainGlobals "NoVoyage"=some (some (.ref gU))) (MS:PySem.W.nsIn K mainGlobals "BadNumber"=some (some (.ref fk))) (RS:PySem.W.nsIn K mainGlobals "TooMuch"=some (some (.ref gx))) (RT:PySem.W.nsIn K mainGlobals "BadRows"=some (some (.ref iK))) (U_:PySem.W.nsIn K mainGlobals "NoDeed"=some (some (.ref jI))) (Oe:PySem.W.nsIn K mainGlobals "BadPaper"=some (some (.ref gW))) (Dj:PySem.W.nsIn K mainGlobals "JettisonError"=some (some (.ref dR)))
  (Va:Told K (Ec.mk iI kZ iJ iC gU fk gx iK jI gW dR) iC 3) (Vb:PySem.W.excIn K iC [.type "ValueError", .type "Exception", .type "BaseException", .type "object"] "ValueError.__new__"=true)
  (MT:Told K (Ec.mk iI kZ iJ iC gU fk gx iK jI gW dR) fk 5) (MU:PySem.W.excIn K fk [.type "ValueError", .type "Exception", .type "BaseException", .type "object"] "ValueError.__new__"=true)
  (RU:Told K (Ec.mk iI kZ iJ iC gU fk gx iK jI gW dR) gx 6) (RV:PySem.W.excIn K gx [.type "ValueError", .type "Exception", .type "BaseException", .type "object"] "ValueError.__new__"=true)
  :∃fd:FuncData,(∀(s:Shared) (v:Value),BindsTo s fd ⟨[v],[]⟩ [("_law_script",v)])/\∀base:Heap,K.In base->base.Ns mainGlobals mg->iA l.prog w K mg base tM 9 fa fd ["_law_script"] (JV K):=by
 have e:=hfa.symm.trans (kr X G a)
 cases e
 have aeu:=WZ (st:=qm) X G a l1 c k
 have vZ:oJ K dX:=⟨U3,U4,U5,U6⟩
 have eU:oJ K cD:=⟨Zn,Zo,Zp,Zq⟩
 obtain ⟨_,_,Ff⟩:=E8.at X G
 obtain ⟨_,_,Vc⟩:=UW.at X G
 obtain ⟨_,_,Vd⟩:=UX.at X G
 obtain ⟨_,_,GX⟩:=GP.at X G
 obtain ⟨_,_,MV⟩:=MA.at X G
 obtain ⟨_,_,MW⟩:=MB.at X G
 obtain ⟨_,_,Fi⟩:=E9.at X G
 obtain ⟨_,_,Of⟩:=NW.at X G
 obtain ⟨_,_,Og⟩:=NX.at X G
 obtain ⟨_,_,MX⟩:=MC.at X G
 obtain ⟨_,_,Oh⟩:=NY.at X G
 obtain ⟨_,_,RW⟩:=RK.at X G
 obtain ⟨_,_,MY⟩:=MD.at X G
 obtain ⟨_,_,Ve⟩:=UY.at X G
 obtain ⟨_,_,Dk⟩:=Df.at X G
 obtain ⟨_,_,BF⟩:=Bw.at X G
 obtain ⟨_,_,MZ⟩:=ME.at X G
 obtain ⟨_,_,Oi⟩:=NZ.at X G
 obtain ⟨_,_,Fj⟩:=E_.at X G
 obtain ⟨_,_,AJ⟩:=AI.at X G
 obtain ⟨_,_,zg⟩:=ze.at X G
 obtain ⟨_,_,M_⟩:=MF.at X G
 obtain ⟨_,_,Na⟩:=MG.at X G
 obtain ⟨_,_,RX⟩:=RL.at X G
 obtain ⟨_,_,Vf⟩:=UZ.at X G
 obtain ⟨_,_,Oj⟩:=N1.at X G
 obtain ⟨_,_,Ol⟩:=N3.at X G
 obtain ⟨_,_,BG⟩:=By.at X G
 obtain ⟨_,_,Nb⟩:=MH.at X G
 obtain ⟨_,_,Om⟩:=N4.at X G
 obtain ⟨_,_,Fl⟩:=Fb.at X G
 obtain ⟨_,_,RY⟩:=RM.at X G
 obtain ⟨_,_,GY⟩:=GQ.at X G
 obtain ⟨_,_,Nc⟩:=MI.at X G
 obtain ⟨_,_,Dl⟩:=Dg.at X G
 obtain ⟨_,_,Fo⟩:=Fc.at X G
 obtain ⟨_,_,JB⟩:=Jj.at X G
 obtain ⟨_,_,BH⟩:=BC.at X G
 obtain ⟨_,_,zh⟩:=zf.at X G
 obtain ⟨_,_,Oo⟩:=N5.at X G
 have bh:=nU X G ael
 have bH:=nU X G Zk
 have fQ:=nU X G aem
 have dz:=nU X G ac3
 have jQ:=nU X G aen
 have Rt:=nU X G aeo
 have Ry:=nU X G aep
 have Mf:=nU X G ac4
 have lK:=nU X G aeq
 have jj:=nU X G Zl
 have Rz:=nU X G aer
 have aM:=nU X G MJ
 have rN:=nU X G aes
 have XX:=nU X G aet
 have vn:=nU X G MK
 have Al:=kr X G U0
 obtain ⟨_,_,Oq⟩:=N6.made X G Zm Zr Zs
 obtain ⟨_,_,Fp⟩:=Fd.at eU
 obtain ⟨_,_,GZ⟩:=GR.at eU
 obtain ⟨_,_,Dm⟩:=Dh.at eU
 obtain ⟨_,_,JC⟩:=Jk.at eU
 obtain ⟨_,_,Nd⟩:=ML.at eU
 obtain ⟨_,_,Nf⟩:=MM.at eU
 obtain ⟨_,_,yP⟩:=yO.at eU
 obtain ⟨_,_,G0⟩:=GS.at eU
 obtain ⟨_,_,Ot⟩:=N7.at eU
 obtain ⟨_,_,Ou⟩:=N8.at eU
 obtain ⟨_,_,Ov⟩:=N9.at eU
 obtain ⟨_,_,JD⟩:=Jl.at eU
 obtain ⟨_,_,JE⟩:=Jo.at eU
 obtain ⟨_,_,Fq⟩:=Fe.at eU
 obtain ⟨_,_,JF⟩:=Jp.at eU
 obtain ⟨_,_,Ng⟩:=MN.at eU
 obtain ⟨_,_,Ow⟩:=N_.at eU
 obtain ⟨_,_,JG⟩:=Jq.at eU
 obtain ⟨_,_,Ox⟩:=Oa.at eU
 obtain ⟨_,_,Oz⟩:=Ob.made X G Zt Zy Zz
 obtain ⟨_,_,JH⟩:=Jy.made X G U1 U7 U8
 obtain ⟨_,_,JI⟩:=Jz.at vZ
 obtain ⟨_,_,G1⟩:=GU.at vZ
 obtain ⟨_,_,JJ⟩:=JA.at vZ
 have TX:Txt K ⟨cD,gG,dX⟩:=⟨eU,⟨Zu,Zv,Zw,Zx⟩,vZ,Jr,Js,Jt,MO,Ju,Jv,Jw,Oc,MP,MQ,Jx,MR,RO,GV,Di,GW⟩
 have AE:=kr X G RP
 have GN:=kr X G WH
 have AF:=kr X G RQ
 have qM:=kr X G U9
 have yJ:=kr X G Od
 have kX:=kr X G MS
 have oW:=kr X G RS
 have AG:=kr X G RT
 have C9:=kr X G U_
 have yK:=kr X G Oe
 have qi:=kr X G Dj
 have Am:=pN.of Vb
 have uO:=pN.of MU
 have yE:=pN.of RV
 refine ⟨PySem.W.fnOf "law" "law" (dW qm) (cE qm) (ay qm) .none kV dc pm an cd ct,fun s v=> .of_eq rfl,fun base _ _=>?_⟩
 have iy:=CS (P:=l.prog) (w:=w) (base:=base) (mg:=mg) Ff
 have Ak:=Rr (P:=l.prog) (w:=w) (base:=base) (mg:=mg) Vc Rt
 have oX:=Rv Vd Ak bh Al
 have gj:=CT (P:=l.prog) (w:=w) (base:=base) (mg:=mg) (e:=⟨iI,kZ,iJ,iC,gU,fk,gx,iK,jI,gW,dR⟩) GX uO kX
 have nR:=Gr MV gj yE oW
 have ZA:=abS gj
 have uX:=abT nR
 have uW:=IG (P:=l.prog) (w:=w) (base:=base) (mg:=mg) MW bh
 have pV:=CU Fi iy
 have C3:=Gu (P:=l.prog) (w:=w) (base:=base) (mg:=mg) JH TX
 have LX:=LP (P:=l.prog) (w:=w) (base:=base) (mg:=mg) Oz TX dz
 have Mm:=L6 Oq TX C3
 have sU:=Gw (P:=l.prog) (w:=w) (base:=base) (mg:=mg) JJ TX
 have sV:=GF JI TX iy
 have qT:=ES G1 TX sV
 have pT:=CY (P:=l.prog) (w:=w) (base:=base) (mg:=mg) Fp TX
 have gk:=CZ (P:=l.prog) (w:=w) (base:=base) (mg:=mg) (e:=⟨iI,kZ,iJ,iC,gU,fk,gx,iK,jI,gW,dR⟩) GZ TX Am qM
 have iN:=Ui gk
 have oq:=Bq Dm TX oX
 have tE:=Gz (P:=l.prog) (w:=w) (base:=base) (mg:=mg) JC TX dz
 have vc:=IM (P:=l.prog) (w:=w) (base:=base) (mg:=mg) Nd TX
 have kg:=IQ (P:=l.prog) (w:=w) (base:=base) (mg:=mg) Nf TX fQ
 have kI:=xD (P:=l.prog) (w:=w) (base:=base) (mg:=mg) yP TX jQ
 have qS:=EL (P:=l.prog) (w:=w) (base:=base) (mg:=mg) G0 TX jQ
 have wD:=LU (P:=l.prog) (w:=w) (base:=base) (mg:=mg) Ot TX
 have wI:=LV Ou TX oX bh
 have wL:=LW Ov TX oq pT kI wD LX bh
 have pW:=C4 (P:=l.prog) (w:=w) (base:=base) (mg:=mg) Fq TX fQ jQ
 have ji:=GC (P:=l.prog) (w:=w) (base:=base) (mg:=mg) JF TX
 have uY:=IT Ng TX pV sU jQ
 have wN:=L_ Ow TX uW uX iN kg uY pW ji fQ
 have sZ:=GH JD TX iN qS qT jQ
 have s_:=GJ (P:=l.prog) (w:=w) (base:=base) (mg:=mg) JE TX dz
 have qW:=ET (e:=⟨iI,kZ,iJ,iC,gU,fk,gx,iK,jI,gW,dR⟩) JG TX gk nR ji
 have vm:=I0 (e:=⟨iI,kZ,iJ,iC,gU,fk,gx,iK,jI,gW,dR⟩) Ox TX gk gj
 have aN:=Ma (P:=l.prog) (w:=w) (base:=base) (mg:=mg) Of bh bH
 have rK:=Mb (P:=l.prog) (w:=w) (base:=base) (mg:=mg) Og bH
 have qo:=I_ MX aN rK bH
 have kY:=Me Oh aN
 have eE:=NL (P:=l.prog) (w:=w) (base:=base) (mg:=mg) RW aM Ry Mf
 have kh:=Jb (P:=l.prog) (w:=w) (base:=base) (mg:=mg) MY Rz
 have Au:=RB Ve eE kh aM jj bh
 have oE:=Br Dk eE aM dz jj lK bH bh
 have gu:=As BF kh Au aM dz jj lK bH bh
 have vz:=Jd (P:=l.prog) (w:=w) (base:=base) (mg:=mg) MZ dz
 have wH:=Mi (P:=l.prog) (w:=w) (base:=base) (mg:=mg) Oi bh bH
 have qc:=C7 Fj wH
 have mq:=yZ AJ eE oE gu vc kg sZ fQ
 have lA:=yH zg eE gu s_ aM dz jj lK bH bh
 have vt:=Je M_ mq lA tE aM dz
 have vv:=Jf (T:=⟨cD,gG,dX⟩) Na Mm wI
 have yM:=NP (P:=l.prog) (w:=w) (base:=base) (mg:=mg) RX bH
 have yQ:=RE (P:=l.prog) (w:=w) (base:=base) (mg:=mg) Vf bh bH
 have mz:=abU yQ
 have wM:=Mp Oj aN bh bH dz fQ rN
 have wK:=Mq (P:=l.prog) (w:=w) (base:=base) (mg:=mg) Ol bh bH fQ
 have m9:=Az BG mz wK
 have vh:=Jg Nb aN kY qc wL bh bH
 have wQ:=Ms (T:=⟨cD,gG,dX⟩) Om aN vh wM m9 wN bh dz
 have qe:=C8 Fl yQ
 have yL:=NU RY qe
 have qh:=E6 GY qW vm
 have ac5:∀st d i,qJ st d->lX st d=some i->Told K (Ec.mk iI kZ iJ iC gU fk gx iK jI gW dR) ((Ec.mk iI kZ iJ iC gU fk gx iK jI gW dR).at i) i:=fun st d i ha hr=>Ur Va MT RU ha hr
 have vo:=Jh Nc qh ac5 aM vn AE GN AF qM yJ kX oW AG C9 yK qi
 have oH:=Bu Dl yQ
 have qj:=De Fo oH
 have tL:=GO Zj Uu JB yL vo yM qj
 have ng:=AH BH aN bh
 have lB:=yN zh aN bh fQ rN
 have rR:=Mw abY Oo aN ng lB bh aM lK
 exact acP (T:=⟨cD,gG,dX⟩) aeu aN qo vt vv vz wQ kY rR tL bh bH rN XX fQ
theorem walk {l:PySem.W.OpenLaw} {q:Program} {loose:List Str} {XP:(Str->Option Value)->Heap->Prop} {YP:World->Heap->Prop} {d:DefRec} {K:Params->Fg} (hn:l.most=some 63) (hdf:d.params.defaults=[])
  (hY:∀(w:World) (h:Heap),YP w h->(K w.params).In h)
  (F:∀(w:World) (mg:SO) (fa:Addr) (h:Heap),(K w.params).In h->h.Ns mainGlobals mg->mg d.name=some (.ref fa)->
    ∃fd:FuncData,(∀(s:Shared) (u:Value),BindsTo s fd ⟨[u],[]⟩ [("_law_script",u)])/\∀base:Heap,(K w.params).In base->base.Ns mainGlobals mg->iA l.prog w (K w.params) mg base tM 9 fa fd ["_law_script"] (JV (K w.params))):
  PySem.W.WalkO q loose XP YP l.row.toRowW d [] (fun f vs=>PySem.call f vs):=
 L2.Ym (n:=63) (k:=9) (x:="_law_script") (CX:=fun _=>tM) (sp:=fun w=>JV (K w.params)) hn (by decide) hdf ⟨Z,by decide,by decide⟩ hY F (fun _ _ a ns hl _ hS=>⟨a,ns,Z,hS,hl,fun _=>rfl⟩) fun _ _ _ _ _ z=>z
end Law
namespace PySem.W.Fast
theorem tw13468229768120916222:True:=⟨⟩
theorem tw10735862609408454481:True:=⟨⟩
theorem tw605389570313838342:True:=⟨⟩
theorem tw12034163870521911405:True:=⟨⟩
theorem tw15202479937948749435:True:=⟨⟩
theorem tw11480966494185217708:True:=⟨⟩
theorem tw12610571711010780061:True:=⟨⟩
theorem tw6980805908837882004:True:=⟨⟩
theorem tw5659698854799439947:True:=⟨⟩
theorem tw18322810103176060533:True:=⟨⟩
theorem tw2415497021060039238:True:=⟨⟩
theorem tw17611862378608009322:True:=⟨⟩
theorem tw16485097746052683203:True:=⟨⟩
theorem tw18013104221971807400:True:=⟨⟩
theorem tw15966495484723406714:True:=⟨⟩
theorem tw9760845613100964010:True:=⟨⟩
theorem tw10633647392130279123:True:=⟨⟩
theorem tw9525641955815523252:True:=⟨⟩
theorem tw18215697680542002970:True:=⟨⟩
theorem tw11308759488309200807:True:=⟨⟩
theorem tw11274954922965951732:True:=⟨⟩
theorem tw2697321532836763771:True:=⟨⟩
theorem tw3021186246123503801:True:=⟨⟩
theorem tw17530876651200348507:True:=⟨⟩
theorem tw176745575243017628:True:=⟨⟩
theorem tw16086689481579490629:True:=⟨⟩
theorem tw8775151881901939987:True:=⟨⟩
theorem tw11354372833518301539:True:=⟨⟩
theorem tw16167281538873117549:True:=⟨⟩
theorem tw2037993836752610831:True:=⟨⟩
theorem tw719787060565464746:True:=⟨⟩
theorem tw4484327674497089691:True:=⟨⟩
theorem tw3635040574901744578:True:=⟨⟩
theorem tw16595046263922708894:True:=⟨⟩
theorem tw4988262038481999956:True:=⟨⟩
theorem tw13798210511576334140:True:=⟨⟩
theorem tw1997232312013597722:True:=⟨⟩
theorem tw9730942094531921052:True:=⟨⟩
theorem tw604123693747008289:True:=⟨⟩
theorem tw605397864220780882:True:=⟨⟩
theorem tw5840040465077473468:True:=⟨⟩
theorem tw11504025162165294888:True:=⟨⟩
theorem tw11135528956970335644:True:=⟨⟩
theorem tw15620788938897082392:True:=⟨⟩
theorem tw1144156887573693603:True:=⟨⟩
theorem tw2686581911499928326:True:=⟨⟩
theorem tw6212023355548664050:True:=⟨⟩
theorem tw5552589535056294210:True:=⟨⟩
theorem tw16487309144501033667:True:=⟨⟩
theorem tw14018300088476356296:True:=⟨⟩
theorem tw17001122714080773098:True:=⟨⟩
theorem tw14886386429924012035:True:=⟨⟩
theorem tw7638833639911069214:True:=⟨⟩
theorem tw17909171838927451869:True:=⟨⟩
theorem tw9438066378286804421:True:=⟨⟩
theorem tw10133924027091472157:True:=⟨⟩
theorem tw11220156068353816234:True:=⟨⟩
theorem tw101322033251230268:True:=⟨⟩
theorem tw5530866962945409834:True:=⟨⟩
theorem tw14078535547695810026:True:=⟨⟩
theorem tw17913609761584943672:True:=⟨⟩
theorem tw17223240355863520805:True:=⟨⟩
theorem tw794022641580900524:True:=⟨⟩
theorem tw7201321400285516907:True:=⟨⟩
theorem tw14013171237782861501:True:=⟨⟩
theorem tw13865007072151436497:True:=⟨⟩
theorem tw2588245815636273982:True:=⟨⟩
theorem tw5644060661277297307:True:=⟨⟩
theorem tw11787856947371578620:True:=⟨⟩
theorem tw5321484517173218539:True:=⟨⟩
theorem tw253532440812998510:True:=⟨⟩
theorem tw11769281340633755280:True:=⟨⟩
theorem tw14011080663227719201:True:=⟨⟩
theorem tw2696158961172425357:True:=⟨⟩
theorem tw3125672840512017579:True:=⟨⟩
theorem tw7598442105915983133:True:=⟨⟩
theorem tw10117986022625847117:True:=⟨⟩
theorem tw6236371121498329946:True:=⟨⟩
theorem tw11482228737416776431:True:=⟨⟩
theorem tw2130879791052107356:True:=⟨⟩
theorem tw1610526121420882088:True:=⟨⟩
theorem tw707426754198482996:True:=⟨⟩
theorem tw4902169885873908978:True:=⟨⟩
theorem tw2380367160340939971:True:=⟨⟩
theorem tw15047671185489249171:True:=⟨⟩
theorem tw1492829188125774343:True:=⟨⟩
theorem tw7585796313306697559:True:=⟨⟩
theorem tw16551286406442188443:True:=⟨⟩
theorem tw9731990823429075103:True:=⟨⟩
theorem tw5590994104816319092:True:=⟨⟩
theorem tw7047601014980915300:True:=⟨⟩
theorem tw447798603586147403:True:=⟨⟩
theorem tw12728020232229810256:True:=⟨⟩
theorem tw10703244766296302934:True:=⟨⟩
theorem tw12419592724285590477:True:=⟨⟩
theorem tw15571451317879948171:True:=⟨⟩
theorem tw14631160044476089816:True:=⟨⟩
theorem tw5945684904704387305:True:=⟨⟩
theorem tw12962533925442923523:True:=⟨⟩
theorem tw1393088182465103200:True:=⟨⟩
theorem tw13560797663385023098:True:=⟨⟩
theorem tw15072657145796634731:True:=⟨⟩
theorem tw6853594041524208273:True:=⟨⟩
theorem tw10930614599030060581:True:=⟨⟩
theorem tw15108396491497535889:True:=⟨⟩
theorem tw4514215785506612508:True:=⟨⟩
theorem tw10692088352354050042:True:=⟨⟩
theorem tw8111164669480776171:True:=⟨⟩
theorem tw10355854967594009842:True:=⟨⟩
theorem tw2064426639834530872:True:=⟨⟩
theorem tw9460094890435882388:True:=⟨⟩
theorem tw3581961478167807988:True:=⟨⟩
theorem tw11686085634993013078:True:=⟨⟩
theorem tw8762990046105699971:True:=⟨⟩
theorem tw3662911824108816492:True:=⟨⟩
theorem tw10647235177064662366:True:=⟨⟩
theorem tw7169477611987837156:True:=⟨⟩
theorem tw15506696011133332629:True:=⟨⟩
theorem tw16390498838108393404:True:=⟨⟩
theorem tw10837069083469282561:True:=⟨⟩
theorem tw4490761280733841674:True:=⟨⟩
theorem tw1411343033180923841:True:=⟨⟩
theorem tw8152629027542091571:True:=⟨⟩
theorem tw4507290916397439939:True:=⟨⟩
theorem tw14425011928908677127:True:=⟨⟩
theorem tw14643261858585149294:True:=⟨⟩
theorem tw14076989287134952079:True:=⟨⟩
theorem tw10136330725122647609:True:=⟨⟩
theorem tw16926276192918995024:True:=⟨⟩
theorem tw9420805881347296431:True:=⟨⟩
theorem tw10314523820674918042:True:=⟨⟩
theorem tw9719635147596437990:True:=⟨⟩
theorem tw9007238703030395564:True:=⟨⟩
theorem tw7075046107545903485:True:=⟨⟩
theorem tw16759028452619165239:True:=⟨⟩
theorem tw11813829369577456791:True:=⟨⟩
theorem tw8970578292680036424:True:=⟨⟩
theorem tw1014948304568979745:True:=⟨⟩
theorem tw3893297959000477948:True:=⟨⟩
theorem tw9850614614567035886:True:=⟨⟩
theorem tw17355400813127461742:True:=⟨⟩
theorem tw14024303268746707316:True:=⟨⟩
theorem tw17793000269586856972:True:=⟨⟩
theorem tw10300427463987291910:True:=⟨⟩
theorem tw9116254246673997888:True:=⟨⟩
theorem tw12573215456906770243:True:=⟨⟩
theorem tw3329075737850195289:True:=⟨⟩
theorem tw14816833593088687646:True:=⟨⟩
theorem tw10568208597124278470:True:=⟨⟩
theorem tw9784902084614495822:True:=⟨⟩
theorem tw5520857527555044934:True:=⟨⟩
theorem tw10601814904292712141:True:=⟨⟩
theorem tw625526384017245060:True:=⟨⟩
theorem tw18252670321807820134:True:=⟨⟩
theorem tw4268444128715093881:True:=⟨⟩
theorem tw12481914894781118019:True:=⟨⟩
theorem tw6966023434822706564:True:=⟨⟩
theorem tw1757539321754771604:True:=⟨⟩
theorem tw8718356904747007142:True:=⟨⟩
theorem tw5668060098084167627:True:=⟨⟩
theorem tw10816248918725206967:True:=⟨⟩
theorem tw3707215577434580723:True:=⟨⟩
theorem tw4018626189154102282:True:=⟨⟩
theorem tw14573183207400501850:True:=⟨⟩
theorem tw8232843955348284718:True:=⟨⟩
theorem tw8431582671657991354:True:=⟨⟩
theorem tw8623384188689316780:True:=⟨⟩
theorem tw17587980728044818424:True:=⟨⟩
theorem tw4395575183712173745:True:=⟨⟩
theorem tw12747321186571272047:True:=⟨⟩
theorem tw9641554093837496905:True:=⟨⟩
theorem tw5394955354579551738:True:=⟨⟩
theorem tw8435690052664372581:True:=⟨⟩
theorem tw53227314767330666:True:=⟨⟩
theorem tw13653123629369957458:True:=⟨⟩
theorem tw6359546984213231824:True:=⟨⟩
theorem tw17048001595276741256:True:=⟨⟩
theorem tw12980796406219943999:True:=⟨⟩
theorem tw2592170253879879622:True:=⟨⟩
theorem tw9217079253429887672:True:=⟨⟩
theorem tw4654870003370576841:True:=⟨⟩
theorem tw6991766121121901445:True:=⟨⟩
theorem tw11862389261388491523:True:=⟨⟩
theorem tw11996886150146910181:True:=⟨⟩
theorem tw3046973729953487729:True:=⟨⟩
theorem tw874498104609914140:True:=⟨⟩
theorem tw8681387294368969736:True:=⟨⟩
theorem tw7695977376617246066:True:=⟨⟩
theorem tw10652942221414037245:True:=⟨⟩
theorem tw12229839951364680335:True:=⟨⟩
theorem tw11954295761031720314:True:=⟨⟩
theorem tw14090769809859813669:True:=⟨⟩
theorem tw12319434797559679545:True:=⟨⟩
theorem tw7725355645821431074:True:=⟨⟩
theorem tw13336207259401941820:True:=⟨⟩
theorem tw18214850929530445945:True:=⟨⟩
theorem tw8382705749248202832:True:=⟨⟩
theorem tw3333494478814769655:True:=⟨⟩
theorem tw1913214271691750446:True:=⟨⟩
theorem tw16221131781602756865:True:=⟨⟩
theorem tw9019767020678571076:True:=⟨⟩
theorem tw17923800637809318843:True:=⟨⟩
theorem tw7835908809178671244:True:=⟨⟩
theorem tw14133383276627019289:True:=⟨⟩
theorem tw7172097044140071626:True:=⟨⟩
theorem tw8470511330545913237:True:=⟨⟩
theorem tw12611129202523078034:True:=⟨⟩
theorem tw12636725393954684683:True:=⟨⟩
theorem tw16156907989999441689:True:=⟨⟩
theorem tw4230866649880270461:True:=⟨⟩
theorem tw1926070954990263333:True:=⟨⟩
theorem tw16113360799396606131:True:=⟨⟩
theorem tw16379953185309204899:True:=⟨⟩
theorem tw1927333462644033958:True:=⟨⟩
theorem tw2935878733036052274:True:=⟨⟩
theorem tw13660264217155936034:True:=⟨⟩
theorem tw8267832562849221668:True:=⟨⟩
theorem tw1671329105398330929:True:=⟨⟩
theorem tw9755941635355795421:True:=⟨⟩
theorem tw6033001073983232149:True:=⟨⟩
theorem tw3490863086820971920:True:=⟨⟩
theorem tw17661507796596093846:True:=⟨⟩
theorem tw2897392406551275117:True:=⟨⟩
theorem tw2450432656876816:True:=⟨⟩
theorem tw5286707771578793523:True:=⟨⟩
theorem tw177399507602844369:True:=⟨⟩
theorem tw11828747474185512360:True:=⟨⟩
theorem tw12085128622715700883:True:=⟨⟩
theorem tw8960001710281519830:True:=⟨⟩
theorem tw17700071895901967794:True:=⟨⟩
theorem tw15062657452401052608:True:=⟨⟩
theorem tw14007291579839084156:True:=⟨⟩
theorem tw3465446385022119793:True:=⟨⟩
theorem tw12358669083713040551:True:=⟨⟩
theorem tw6098834850646688926:True:=⟨⟩
theorem tw1079788387762054108:True:=⟨⟩
theorem tw13121541570389768005:True:=⟨⟩
theorem tw6965635421023316704:True:=⟨⟩
theorem tw4248081365126049326:True:=⟨⟩
theorem tw16186804342798340186:True:=⟨⟩
theorem tw9239075604589696127:True:=⟨⟩
theorem tw16941325096786289364:True:=⟨⟩
theorem tw15315875091247744328:True:=⟨⟩
theorem tw2573447273262832501:True:=⟨⟩
theorem tw5104734088471045498:True:=⟨⟩
theorem tw7697155805897992385:True:=⟨⟩
theorem tw2163896017756712355:True:=⟨⟩
theorem tw1680245879839984579:True:=⟨⟩
theorem tw5117178779417872741:True:=⟨⟩
theorem tw16057147206764968436:True:=⟨⟩
theorem tw505241204787717701:True:=⟨⟩
theorem tw2386872878400593127:True:=⟨⟩
theorem tw5889523558098150396:True:=⟨⟩
theorem tw5761792592343316842:True:=⟨⟩
theorem tw5670969985668166823:True:=⟨⟩
theorem tw17994296213594503693:True:=⟨⟩
theorem tw5606909166248157259:True:=⟨⟩
theorem tw8036989082107642511:True:=⟨⟩
theorem tw6993170603680432947:True:=⟨⟩
theorem tw1273411910881887722:True:=⟨⟩
theorem tw13948861268968626989:True:=⟨⟩
theorem tw15189208407590065075:True:=⟨⟩
theorem tw3894908711912984881:True:=⟨⟩
theorem tw11983942540397926011:True:=⟨⟩
theorem tw17683441757605060362:True:=⟨⟩
theorem tw8658346551869325371:True:=⟨⟩
theorem tw8931579510651626248:True:=⟨⟩
theorem tw5692742270987736323:True:=⟨⟩
theorem tw5799754412778475982:True:=⟨⟩
theorem tw8637866606584970102:True:=⟨⟩
theorem tw8268098146250100561:True:=⟨⟩
theorem tw16183327595022346143:True:=⟨⟩
theorem tw14966123090207263956:True:=⟨⟩
theorem tw6374837244791622177:True:=⟨⟩
theorem tw13969686143333870783:True:=⟨⟩
theorem tw5951198678387852775:True:=⟨⟩
theorem tw1925535207693025733:True:=⟨⟩
theorem tw12775700395621317951:True:=⟨⟩
theorem tw15862269863216380455:True:=⟨⟩
theorem tw3086176417228271851:True:=⟨⟩
theorem tw13322981020706495608:True:=⟨⟩
theorem tw18028151155476346256:True:=⟨⟩
theorem tw8259712349011209109:True:=⟨⟩
theorem tw12451753421754026313:True:=⟨⟩
theorem tw15839993711196171339:True:=⟨⟩
theorem tw17193494510794912911:True:=⟨⟩
theorem tw16896998436566510713:True:=⟨⟩
theorem tw3517033573106084835:True:=⟨⟩
theorem tw4891789691843445162:True:=⟨⟩
theorem tw17823046386298898253:True:=⟨⟩
theorem tw11665017517000407353:True:=⟨⟩
theorem tw6111175679109974420:True:=⟨⟩
theorem tw5036441484032408820:True:=⟨⟩
theorem tw1071315299270012743:True:=⟨⟩
theorem tw3355729396934706344:True:=⟨⟩
theorem tw16303949284624527041:True:=⟨⟩
theorem tw10710834630129049807:True:=⟨⟩
theorem tw5141599826274060825:True:=⟨⟩
theorem tw10659443359532042936:True:=⟨⟩
theorem tw1965767660749784679:True:=⟨⟩
theorem tw10855127071274455790:True:=⟨⟩
theorem tw1097916116507032114:True:=⟨⟩
theorem tw13727496429817722145:True:=⟨⟩
theorem tw7061625935067595236:True:=⟨⟩
theorem tw13765386114102070930:True:=⟨⟩
theorem tw7129021458413716044:True:=⟨⟩
theorem tw13330549166784188819:True:=⟨⟩
theorem tw1406255469644201873:True:=⟨⟩
theorem tw13710651831120510493:True:=⟨⟩
theorem tw17498737047383801532:True:=⟨⟩
theorem tw14149679917128596132:True:=⟨⟩
theorem tw13923457180182904578:True:=⟨⟩
theorem tw3359528866826649248:True:=⟨⟩
theorem tw14053635422137887331:True:=⟨⟩
theorem tw8021809822030513280:True:=⟨⟩
theorem tw1983935170443600695:True:=⟨⟩
theorem tw17642932993039705270:True:=⟨⟩
theorem tw13703039855633535639:True:=⟨⟩
theorem tw801629474931531853:True:=⟨⟩
theorem tw16800053578404038431:True:=⟨⟩
theorem tw7507014724175150742:True:=⟨⟩
theorem tw4341004182263938888:True:=⟨⟩
theorem tw14760673998487115748:True:=⟨⟩
theorem tw6801411517211014712:True:=⟨⟩
theorem tw17472629453719204375:True:=⟨⟩
theorem tw8310070465540380761:True:=⟨⟩
theorem tw12249035719324366149:True:=⟨⟩
theorem tw11093926181876600082:True:=⟨⟩
theorem tw4388840731729079686:True:=⟨⟩
theorem tw11900572767472010663:True:=⟨⟩
theorem tw12281644578985813154:True:=⟨⟩
theorem tw4509943582705936744:True:=⟨⟩
theorem tw1632920774601186592:True:=⟨⟩
theorem tw9481067377058320463:True:=⟨⟩
theorem tw8655108416126761746:True:=⟨⟩
theorem tw4816642545395734419:True:=⟨⟩
theorem tw1568456590069060701:True:=⟨⟩
theorem tw9826294696874332662:True:=⟨⟩
theorem tw14284791625596640846:True:=⟨⟩
theorem tw5302046810355117911:True:=⟨⟩
theorem tw17631780339064275773:True:=⟨⟩
theorem tw2921252086691257744:True:=⟨⟩
theorem tw12955548165635679521:True:=⟨⟩
theorem tw17605759678524992055:True:=⟨⟩
theorem tw6553978929194115299:True:=⟨⟩
theorem tw3703386432226610748:True:=⟨⟩
theorem tw5949218142951106876:True:=⟨⟩
theorem tw8363972847985808341:True:=⟨⟩
theorem tw12591836851344163781:True:=⟨⟩
theorem tw6760865694717153633:True:=⟨⟩
theorem tw10801686369082693384:True:=⟨⟩
theorem tw3349036492562667905:True:=⟨⟩
theorem tw17397940863849589225:True:=⟨⟩
theorem tw17680863491412809568:True:=⟨⟩
theorem tw13738322089477155554:True:=⟨⟩
theorem tw1939854868615520199:True:=⟨⟩
theorem tw526882877940535450:True:=⟨⟩
theorem tw6280116594872388041:True:=⟨⟩
theorem tw16978207852109621495:True:=⟨⟩
theorem tw8298603203213447674:True:=⟨⟩
theorem tw10649819514171890244:True:=⟨⟩
theorem tw15541761344137767343:True:=⟨⟩
theorem tw12978565672838572343:True:=⟨⟩
theorem tw11794259620282881881:True:=⟨⟩
theorem tw2667973574086350013:True:=⟨⟩
theorem tw15101888014108076066:True:=⟨⟩
theorem tw5277319871186602547:True:=⟨⟩
theorem tw833694910260487157:True:=⟨⟩
theorem tw1592327183373716823:True:=⟨⟩
theorem tw1804263232810397889:True:=⟨⟩
theorem tw4669135018641842372:True:=⟨⟩
theorem tw15538895469782445076:True:=⟨⟩
theorem tw5938998995426794705:True:=⟨⟩
theorem tw14376343057934512380:True:=⟨⟩
theorem tw1350434406171928759:True:=⟨⟩
theorem tw171451479663476297:True:=⟨⟩
theorem tw2984973154293771527:True:=⟨⟩
theorem tw5219953475841461692:True:=⟨⟩
theorem tw9372417915299938637:True:=⟨⟩
theorem tw7025851210652934691:True:=⟨⟩
theorem tw10083896265966419357:True:=⟨⟩
theorem tw12466927517248888331:True:=⟨⟩
theorem tw14065487468664322429:True:=⟨⟩
theorem tw839736169190331324:True:=⟨⟩
theorem tw255533627628613416:True:=⟨⟩
theorem tw14546284153239418723:True:=⟨⟩
theorem tw13886659160110078363:True:=⟨⟩
theorem tw15158483061788026114:True:=⟨⟩
theorem tw8029514463877985566:True:=⟨⟩
theorem tw6146553262158502540:True:=⟨⟩
theorem tw6005274595516450458:True:=⟨⟩
theorem tw13148664409604640348:True:=⟨⟩
theorem tw7759456756034203394:True:=⟨⟩
theorem tw11658374818348631797:True:=⟨⟩
theorem tw16374297873798328156:True:=⟨⟩
theorem tw17529132279067880643:True:=⟨⟩
theorem tw7646967153842685755:True:=⟨⟩
theorem tw13407637889707160568:True:=⟨⟩
theorem tw8184836440326620654:True:=⟨⟩
theorem tw6869061480592351123:True:=⟨⟩
theorem tw15546850874020016307:True:=⟨⟩
theorem tw10539722389282469301:True:=⟨⟩
theorem tw4960397705296267581:True:=⟨⟩
theorem tw6383197960266875588:True:=⟨⟩
theorem tw11609991980137218838:True:=⟨⟩
theorem tw1347453799399127084:True:=⟨⟩
theorem tw15208746747052392671:True:=⟨⟩
theorem tw17941157825714820929:True:=⟨⟩
theorem tw6049449813139049427:True:=⟨⟩
theorem tw3132025422783451799:True:=⟨⟩
theorem tw10652938791727945495:True:=⟨⟩
theorem tw5484744253668945171:True:=⟨⟩
theorem tw15598913440018265647:True:=⟨⟩
theorem tw5434416524647379302:True:=⟨⟩
theorem tw7935376698973588689:True:=⟨⟩
theorem tw2178427701469002908:True:=⟨⟩
theorem tw10285962536170004007:True:=⟨⟩
theorem tw13591516519025654918:True:=⟨⟩
theorem tw5186985901205217006:True:=⟨⟩
theorem tw2840958925498496515:True:=⟨⟩
theorem tw12744907419608694576:True:=⟨⟩
theorem tw8512993573515033308:True:=⟨⟩
theorem tw15475107507162573105:True:=⟨⟩
theorem tw265991817498221562:True:=⟨⟩
theorem tw5838698794271919534:True:=⟨⟩
theorem tw11253416850459409877:True:=⟨⟩
theorem tw993584927430488300:True:=⟨⟩
theorem tw13645336832986066921:True:=⟨⟩
theorem tw6963019408327136058:True:=⟨⟩
theorem tw11033948253976564924:True:=⟨⟩
theorem tw3191875437730214214:True:=⟨⟩
theorem tw7424101006985876806:True:=⟨⟩
theorem tw7971476119974519214:True:=⟨⟩
theorem tw5403987807092391323:True:=⟨⟩
theorem tw6435799601646989686:True:=⟨⟩
theorem tw687771335949695221:True:=⟨⟩
theorem tw7944653213382196502:True:=⟨⟩
theorem tw13289348640315993079:True:=⟨⟩
theorem tw15033463619360134344:True:=⟨⟩
theorem tw10478947377702078503:True:=⟨⟩
theorem tw14691145770924335390:True:=⟨⟩
theorem tw6274701796402183236:True:=⟨⟩
theorem tw14678313545567169439:True:=⟨⟩
theorem tw11001856980152204290:True:=⟨⟩
theorem tw9686770291757057029:True:=⟨⟩
theorem tw1854265358246871266:True:=⟨⟩
theorem tw2455090704594925803:True:=⟨⟩
theorem tw13180635144066764040:True:=⟨⟩
theorem tw14850581894925111879:True:=⟨⟩
theorem tw11086853496312730253:True:=⟨⟩
theorem tw12123061415481652386:True:=⟨⟩
theorem tw4411342145929506921:True:=⟨⟩
theorem tw18253650363159212686:True:=⟨⟩
theorem tw11120156722099364042:True:=⟨⟩
theorem tw10081935835581039988:True:=⟨⟩
theorem tw3796141409214385336:True:=⟨⟩
theorem tw6501048640700423509:True:=⟨⟩
theorem tw16231218474916665687:True:=⟨⟩
theorem tw10775254037993989424:True:=⟨⟩
theorem tw595240579867037289:True:=⟨⟩
theorem tw10376020187235817014:True:=⟨⟩
theorem tw10387317293669431633:True:=⟨⟩
theorem tw7075199603471637101:True:=⟨⟩
theorem tw11811103505577514123:True:=⟨⟩
theorem tw1844854517277015850:True:=⟨⟩
theorem tw6176404374302596336:True:=⟨⟩
theorem tw2122349222860581873:True:=⟨⟩
theorem tw7862384135577829326:True:=⟨⟩
theorem tw16909604251756049873:True:=⟨⟩
theorem tw17343138909656505164:True:=⟨⟩
theorem tw2235151088240280527:True:=⟨⟩
theorem tw529764635262616467:True:=⟨⟩
theorem tw3155275664402864311:True:=⟨⟩
theorem tw18325618071515941299:True:=⟨⟩
theorem tw16104826410877155311:True:=⟨⟩
theorem tw13259974554179182025:True:=⟨⟩
theorem tw994609485303851192:True:=⟨⟩
theorem tw4185277906987644200:True:=⟨⟩
theorem tw12136614360560681515:True:=⟨⟩
theorem tw5456288721283695146:True:=⟨⟩
theorem tw14661355316334431197:True:=⟨⟩
theorem tw14563043937892761505:True:=⟨⟩
theorem tw12326832625887060206:True:=⟨⟩
theorem tw15395208500022718018:True:=⟨⟩
theorem tw6880337703201122783:True:=⟨⟩
theorem tw10067600313272969133:True:=⟨⟩
theorem tw13503865352188085310:True:=⟨⟩
theorem tw2373448271096492306:True:=⟨⟩
theorem tw14994969852183582859:True:=⟨⟩
theorem tw2106871354832160146:True:=⟨⟩
theorem tw17389877105932926642:True:=⟨⟩
theorem tw275250303294116510:True:=⟨⟩
theorem tw10409145614103085430:True:=⟨⟩
theorem tw12130340366884327083:True:=⟨⟩
theorem tw10229570078739753328:True:=⟨⟩
theorem tw6154062863441261309:True:=⟨⟩
theorem tw5051751132783813700:True:=⟨⟩
theorem tw9356522554047657537:True:=⟨⟩
theorem tw4887453097474602850:True:=⟨⟩
theorem tw2804119556081447510:True:=⟨⟩
theorem tw13637734391845135063:True:=⟨⟩
theorem tw11762529310688166972:True:=⟨⟩
theorem tw10506573639651873441:True:=⟨⟩
theorem tw10684893912886006564:True:=⟨⟩
theorem tw14662515855911217495:True:=⟨⟩
theorem tw14008509993134635602:True:=⟨⟩
theorem tw17077448454260242769:True:=⟨⟩
theorem tw9503670616131773438:True:=⟨⟩
theorem tw12024487769350011976:True:=⟨⟩
theorem tw12790148391672447375:True:=⟨⟩
theorem tw8260172315795076536:True:=⟨⟩
theorem tw12170470493792026609:True:=⟨⟩
theorem tw4957524402307922724:True:=⟨⟩
theorem tw7184318182955413187:True:=⟨⟩
theorem tw9999292211346879249:True:=⟨⟩
theorem tw13676737661681995990:True:=⟨⟩
theorem tw14851051261615879371:True:=⟨⟩
theorem tw12448570933845547379:True:=⟨⟩
theorem tw1805670339111608336:True:=⟨⟩
theorem tw14550398033827321448:True:=⟨⟩
theorem tw12755885174562333565:True:=⟨⟩
theorem tw14130928947421603010:True:=⟨⟩
theorem tw9069096554081004194:True:=⟨⟩
theorem tw7020798742801837665:True:=⟨⟩
theorem tw4550902366547245341:True:=⟨⟩
theorem tw16129725421854909705:True:=⟨⟩
theorem tw11032573418366829288:True:=⟨⟩
theorem tw6680890611902945998:True:=⟨⟩
theorem tw11286721831664993075:True:=⟨⟩
theorem tw2802310048505475570:True:=⟨⟩
theorem tw4903698590835537323:True:=⟨⟩
theorem tw4367563576960400654:True:=⟨⟩
theorem tw9480075620584074593:True:=⟨⟩
theorem tw5912262977212614911:True:=⟨⟩
theorem tw8785264767190982579:True:=⟨⟩
theorem tw14729278462580002195:True:=⟨⟩
theorem tw17865051773187898185:True:=⟨⟩
theorem tw9441070036230286592:True:=⟨⟩
theorem tw2840265304166406887:True:=⟨⟩
theorem tw17135196891769495816:True:=⟨⟩
theorem tw14007339414104341697:True:=⟨⟩
theorem tw1333836792925286595:True:=⟨⟩
theorem tw18161323852393362605:True:=⟨⟩
theorem tw5025053822833494812:True:=⟨⟩
theorem tw3399806983315065585:True:=⟨⟩
theorem tw2571181587899853837:True:=⟨⟩
theorem tw9162774726984539597:True:=⟨⟩
theorem tw11539811027387890141:True:=⟨⟩
theorem tw11740450465649747769:True:=⟨⟩
theorem tw15733527563759046885:True:=⟨⟩
theorem tw16196714310100717337:True:=⟨⟩
theorem tw11299749838800077756:True:=⟨⟩
theorem tw6992710959080574548:True:=⟨⟩
theorem tw14838632263322153027:True:=⟨⟩
theorem tw1833525103877432122:True:=⟨⟩
theorem tw11594082563195381582:True:=⟨⟩
theorem tw5606412769564787678:True:=⟨⟩
theorem tw4108807206800215230:True:=⟨⟩
theorem tw12987662540838703120:True:=⟨⟩
theorem tw2776469059125272373:True:=⟨⟩
theorem tw12892735677816354136:True:=⟨⟩
theorem tw518479020716123979:True:=⟨⟩
theorem tw4936494420773653354:True:=⟨⟩
theorem tw8380790830868263258:True:=⟨⟩
theorem tw4381392379975790263:True:=⟨⟩
theorem tw11318269585137118957:True:=⟨⟩
theorem tw3700957277432421602:True:=⟨⟩
theorem tw13281543210555760444:True:=⟨⟩
theorem tw15588273326488186315:True:=⟨⟩
theorem tw12519964479204813852:True:=⟨⟩
theorem tw18220413622124651178:True:=⟨⟩
theorem tw8416139545951303174:True:=⟨⟩
theorem tw8108257146909510565:True:=⟨⟩
theorem tw1783273646600191591:True:=⟨⟩
theorem tw3517071400404773322:True:=⟨⟩
theorem tw5960255273635118267:True:=⟨⟩
theorem tw16795554797161674204:True:=⟨⟩
theorem tw15470612695068205869:True:=⟨⟩
theorem tw11575858066182852406:True:=⟨⟩
theorem tw8479136056635525030:True:=⟨⟩
theorem tw9954538055490897506:True:=⟨⟩
theorem tw4644506375928188164:True:=⟨⟩
theorem tw16479263546804695728:True:=⟨⟩
theorem tw16100326934431086903:True:=⟨⟩
theorem tw2038038192848016765:True:=⟨⟩
theorem tw15688937300873525811:True:=⟨⟩
theorem tw5425189847767421714:True:=⟨⟩
theorem tw1350253006051685099:True:=⟨⟩
theorem tw15325573406043907732:True:=⟨⟩
theorem tw11327368811089014667:True:=⟨⟩
end PySem.W.Fast
open PySem PySem.W PyProof.Rows
set_option maxRecDepth 100000 in
set_option maxHeartbeats 0 in
theorem PySem.Challenge.cw_jettison_k21_mishaps_and_rises_holds : PySem.Challenge.rw_jettison_k21_mishaps_and_rises.Holds := by
 w_on;o_law;k_head;(case hw=>w_witness2)
 k_fill
 refine Law.walk (l:=PySem.Challenge.rw_jettison_k21_mishaps_and_rises) rfl rfl (fun w h Y=>PySem.W.kIn_of Y) ?F
 case F=>
  intro w mg fa h KX G hmg
  refine' Law.all_mk KX G hmg ?_ ?_ ?_ ?_ ?_ ?_ ?_ ?_ ?_ ?_ ?_ ?_ ?_ ?_ ?_ ?_ ?_ ?_ ?_ ?_ ?_ ?_ ?_ ?_ ?_ ?_ ?_ ?_ ?_ ?_ ?_ ?_ ?_ ?_ ?_ ?_ ?_ ?_ ?_ ?_ ?_ ?_ ?_ ?_ ?_ ?_ ?_ ?_ ?_ ?_ ?_ ?_ ?_ ?_ ?_ ?_ ?_ ?_ ?_ ?_ ?_ ?_ ?_ ?_ ?_ ?_ ?_ ?_ ?_ ?_ ?_ ?_ ?_ ?_ ?_ ?_ ?_ ?_ ?_ ?_ ?_ ?_ ?_ ?_ ?_ ?_ ?_ ?_ ?_ ?_ ?_ ?_ ?_ ?_ ?_ ?_ ?_ ?_ ?_ ?_ ?_ ?_ ?_ ?_ ?_ ?_ ?_ ?_ ?_ ?_ ?_ ?_ ?_ ?_ ?_ ?_ ?_ ?_ ?_ ?_ ?_ ?_ ?_ ?_ ?_ ?_ ?_ ?_ ?_ ?_ ?_ ?_ ?_ ?_ ?_ ?_ ?_ ?_ ?_
  any_goals first|(refine' L2.cL.of ?a ?l ?c ?k;(case a=>k_is);(case l=>k_is);(case c=>k_is);(case k=>k_is))|(refine' L2.dQ.of ?a ?i ?l ?c ?k;(case a=>k_is);(case i=>k_is);(case l=>k_is);(case c=>k_is);(case k=>k_is))|(refine' L2.Told.of ?ga ?gn ?ca ?mo ?mb ?jt ?ve ?k0 ?k1 ?k2 ?k3 ?k4 ?k5 ?k6 ?k7 ?k8 ?k9 ?h;(case ga=>k_is);(case gn=>k_is);(case ca=>k_is);(case mo=>k_is);(case mb=>k_is);(case jt=>kts_exm);(case ve=>kit_is);(case k0=>kit_is);(case k1=>kit_is);(case k2=>kit_is);(case k3=>kit_is);(case k4=>kit_is);(case k5=>kit_is);(case k6=>kit_is);(case k7=>kit_is);(case k8=>kit_is);(case k9=>kit_is);(case h=>rfl))|k_is|k_exc
